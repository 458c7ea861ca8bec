import PyProof.Rows.All
import Wide.All
import OpenK.AllK
import Wide.FinOn
import Lean
import PyProof.EqAt
import PyProof.EqKinds
import PyProof.TupleCall
import PyProof.EnumMake
import PyProof.WalksEnum
import PyProof.NeKinds
import PyProof.Rows.ZipGen
import PyProof.TupleIter
import PyProof.ZipIter
import PyProof.TupleOfGen
import PyProof.ReprRoads
import PyProof.FitsInt
import PyProof.StrLawsRepr
import PyProof.AutoListH
import OpenK.KMore
import PySem.Challenge.RW_leastforge_k38_one_task
open PySem.W (instObj methodObj lookIn plainGet hasDictIn findIn plainGet_of isFn plainOver takerIn makesIn emptyDict keepIn kia_one kitx_list kitx_dict callWith_K fnOf codeIn kitAny kia_tup nsIn mg_of mg_none_of)
set_option Elab.async false
set_option linter.all false
set_option maxRecDepth 100000
set_option maxHeartbeats 4000000
theorem L2.zl0:0<=PySem.sizeLine:=by decide
theorem L2.zl1:1<=PySem.sizeLine:=by decide
theorem L2.zl2:2<=PySem.sizeLine:=by decide
theorem L2.zl3:3<=PySem.sizeLine:=by decide
theorem L2.zl4:4<=PySem.sizeLine:=by decide
theorem L2.zl7:7<=PySem.sizeLine:=by decide
open List renaming getElem?_eq_getElem->yA, length_map->yB, getElem?_eq_some_iff->yC, size_toArray->yD, length_append->yE, length_cons->yG, getElem?_append_left->yJ, getElem?_map->yK, getElem?_append_right->yL, mem_singleton->yO, mem_cons->yQ, getD_eq_getElem?_getD->yR, mem_of_getElem?->yS, mem_append_right->yT, length_take->yU, mem_cons_of_mem->yX, getElem_mem->yY, map_cons->xA, append_nil->xB, length_eq_zero_iff->xC, take_of_length_le->xF, mem_cons_self->xG, getElem?_eq_none->xH, mem_append->xI, cons_append->xL, drop_eq_getElem_cons->xM, lookup->xN, all_eq_true->xQ, range->xR, append_assoc->xW, getElem?_take_of_lt->xY, map_map->wB, mem_map->wC, drop_eq_nil_of_le->wD, find?_cons->wE, map_append->wF, length_singleton->wH, eq_nil_or_concat->wJ, concat_eq_append->wK, take_append_drop->wL, mem_append_left->wM, not_mem_nil->wN, any_cons->wO, mem_range->wR, nodup_cons->wV, length_nil->wW, filterMap_cons->wX, toList_toArray->wY, drop_succ_cons->wZ, length_pos_iff->vA, all_cons->vB, length_drop->vD, lookup_cons->vE, ext_getElem->vF, take_length->vG, getElem?_cons_succ->vH, getLast?_cons_cons->vI, prefix_refl->vJ, getElem?_set_self->vK, all_map->vL, of_mem_zip->vN, nil_append->vO, cons_lt_cons_iff->vP, cons_prefix_cons->vQ, getElem?_set_ne->vR, mem_iff_getElem->vS, dropLast_concat->vU, length_eraseIdx->vV, mem_of_getLast?->vW, drop_zero->vX, length_zipWith->vY, mem_filterMap->uA, forIn_toArray->uB, Perm->uE
open Nat renaming le_refl->yF, ne_of_lt->yI, le_trans->yM, zero_le->yN, lt_of_lt_of_le->yP, lt_irrefl->xD, le_of_lt->xP, lt_of_le_of_lt->xS, le_of_ble_eq_true->xT, ne_of_gt->xV, lt_succ_self->xZ, le_succ->wQ, lt_succ_of_lt->wT, add_comm->wU, log2_lt->uG, ble->uH
open Bool renaming false_ne_true->yH, and_eq_true->yV, false_eq_true->yZ, eq_iff_iff->xJ, eq_false_iff->xK, and_true->wG, false_and->wS, true_and->vC, and_assoc->vT, and_self->vZ
open Option renaming map_eq_some_iff->yW, map_some->xU, isSome_iff_exists->xX, getD_none->uD
open Array renaming length_toList->xE, getElem?_eq_getElem->xO, getElem?_toList->wI, getElem?_eq_none->vM, toList_push->uC
open Int renaming emod_lt_of_pos->wA, emod_nonneg->wP, le_refl->uF
open PySem.Str renaming ofString->uI
open PySem renaming wpAny_bind->uJ, wpAny_pure->uK, boot_len->uO, mainGlobals->uP, sizeLine->uQ, wpAny_newObj_type->uR, starEach->uS, bootBuiltins->uT, compareOp->uU, FuncData->tD
open PySem.Heap renaming get?_push_of_some->uL, lt_size->uM, get?_push_size->uN
open PySem.PassesOwn renaming never->uV
open PySem.F renaming plainAttrs_list->uW, type_list_append->uX, slot_list_append->uY
open PySem.W renaming Frag->uZ
noncomputable section
namespace L2
open PySem PySem.Spec PyProof.Rows
abbrev Key:=Sum Int Str
noncomputable def zhI:Key->Value->Bool
 |.inl k,v=>Value.isInt k v
 |.inr x,v=>Value.isStrOf x v
noncomputable def keyH(w:World):Key->Int
 |.inl k=>hashInt k
 |.inr x=>hashStr w x
theorem Zb:∀{k:Key}{v:Value},zhI k v=true->(∃i t,k=Sum.inl i/\v=Value.int i t)\/(∃x t,k=Sum.inr x/\v=Value.str x t)
 |.inl i,v,h=>by
  obtain⟨t,e⟩:=Value.isInt_shape (k:=i) (v:=v) h
  exact .inl ⟨i,t,rfl,e⟩
 |.inr x,v,h=>by
  obtain⟨t,e⟩:=Value.isStrOf_shape (x:=x) (v:=v) h
  exact .inr ⟨x,t,rfl,e⟩
theorem ziD(i:Int)(t:Tok):zhI (.inl i) (.int i t)=true:=by simp[zhI,Value.isInt]
theorem ziE(x:Str)(t:Tok):zhI (.inr x) (.str x t)=true:=by simp[zhI,Value.isStrOf]
theorem znw(a b:Int):decide ((Sum.inl a:Key)=Sum.inl b)=(a==b):=by
 by_cases e:a=b
 ·subst e;simp
 ·have h:¬(Sum.inl a:Key)=Sum.inl b:=fun q=>e (Sum.inl.inj q)
  rw[decide_eq_false h]
  exact (beq_eq_false_iff_ne.mpr e).symm
theorem znx(a b:Str):decide ((Sum.inr a:Key)=Sum.inr b)=decide (a=b):=by
 by_cases e:a=b
 ·subst e;simp
 ·have h:¬(Sum.inr a:Key)=Sum.inr b:=fun q=>e (Sum.inr.inj q)
  rw[decide_eq_false h,decide_eq_false e]
theorem zny(a:Int)(b:Str):decide ((Sum.inl a:Key)=Sum.inr b)=false:=decide_eq_false (fun q=>nomatch q)
theorem znz(a:Str)(b:Int):decide ((Sum.inr a:Key)=Sum.inl b)=false:=decide_eq_false (fun q=>nomatch q)
def zK(prog:Program)(w:World):PySem.KeyKind prog w Key where
 is:=zhI
 hash:=keyH w
 inj:=fun v a b ha hb=>by
  rcases Zb ha with⟨i,t,rfl,rfl⟩|⟨x,t,rfl,rfl⟩
  ·rcases Zb hb with⟨j,u,rfl,e⟩|⟨y,u,rfl,e⟩
   ·injection e with e1 _;rw[e1]
   ·exact nomatch e
  ·rcases Zb hb with⟨j,u,rfl,e⟩|⟨y,u,rfl,e⟩
   ·exact nomatch e
   ·injection e with e1 _;rw[e1]
 byValue:=fun k v h=>by
  rcases Zb h with⟨i,t,rfl,rfl⟩|⟨x,t,rfl,rfl⟩<;>rfl
 pyHash:=fun hv h=>by
  rcases Zb hv with⟨i,t,rfl,rfl⟩|⟨x,t,rfl,rfl⟩
  ·exact wpAny_pyHash_int h
  ·exact wpAny_pyHash_str h
 eqBool:=fun hu hv h=>by
  rcases Zb hu with⟨i,t,rfl,rfl⟩|⟨x,t,rfl,rfl⟩
  ·rcases Zb hv with⟨j,u,rfl,rfl⟩|⟨y,u,rfl,rfl⟩
   ·rw[znw] at h;exact wpAny_eqBool_int h
   ·rw[zny] at h;exact SeqAt.EqAt.int_str i t y u _ _ _ _ h
  ·rcases Zb hv with⟨j,u,rfl,rfl⟩|⟨y,u,rfl,rfl⟩
   ·rw[znz] at h;exact SeqAt.EqAt.str_int x t j u _ _ _ _ h
   ·rw[znx] at h;exact wpAny_eqBool_str h
 «strs»:=fun k x t v h=>by
  rcases Zb h with⟨i,u,rfl,e⟩|⟨y,u,rfl,e⟩
  ·exact nomatch e
  ·injection e with e1 _
   subst e1
   cases v<;>rfl
theorem zfZ(prog:Program)(w:World)(i:Int)(t:Tok):(zK prog w).is (.inl i) (.int i t)=true:=ziD i t
theorem Zy(prog:Program)(w:World)(x:Str)(t:Tok):(zK prog w).is (.inr x) (.str x t)=true:=ziE x t
inductive V where
 |non|bl (b:Bool)|int (i:Int)|str (x:Str)|byt (b:Array UInt8)|flt (b:UInt64)|ref (a:Addr)|ty (n:String)
 deriving DecidableEq
def RelV:V->Value->Prop
 |.non,u=>u=Value.none
 |.bl b,u=>u=Value.bool b
 |.int i,u=>∃t,u=Value.int i t
 |.str x,u=>∃t,u=Value.str x t
 |.byt b,u=>∃t,u=Value.bytes b t
 |.flt b,u=>∃t,u=Value.float b t
 |.ref a,u=>u=Value.ref a
 |.ty n,u=>u=Value.type n
abbrev Vals:List V->List Value->Prop:=Paired RelV
theorem Vals.length{xs:List V}{us:List Value}(r:Vals xs us):xs.length=us.length:=Paired.length r
theorem Vals.get:∀{xs:List V}{us:List Value}{i:Nat}{x:V},Vals xs us->xs[i]?=some x->∃u,us[i]?=some u/\RelV x u
 |_,_,_,_,.nil,e=>by simp at e
 |_,_,0,_,.cons r _,e=>by simp at e;subst e;exact⟨_,rfl,r⟩
 |_,_,i+1,x,.cons _ t,e=>by
  obtain⟨u,h1,h2⟩:=Vals.get (i:=i) (x:=x) t (by simpa using e)
  exact⟨u,by simpa using h1,h2⟩
theorem Vals.set{x:V}{u:Value}(r:RelV x u):∀{xs:List V}{us:List Value}(i:Nat),Vals xs us->Vals (xs.set i x) (us.set i u)
 |_,_,_,.nil=>.nil
 |_,_,0,.cons _ t=>.cons r t
 |_,_,i+1,.cons q t=>.cons q (Vals.set r i t)
theorem Vals.append:∀{xs ys:List V}{us ws:List Value},Vals xs us->Vals ys ws->Vals (xs++ys) (us++ws)
 |_,_,_,_,.nil,s=>s
 |_,_,_,_,.cons r t,s=>.cons r (Vals.append t s)
theorem Vals.take:∀{xs:List V}{us:List Value}(n:Nat),Vals xs us->Vals (xs.take n) (us.take n)
 |_,_,0,_=>.nil
 |_,_,_+1,.nil=>.nil
 |_,_,n+1,.cons r t=>.cons r (Vals.take n t)
theorem Vals.drop:∀{xs:List V}{us:List Value}(n:Nat),Vals xs us->Vals (xs.drop n) (us.drop n)
 |_,_,0,r=>r
 |_,_,_+1,.nil=>.nil
 |_,_,n+1,.cons _ t=>Vals.drop n t
def RelO:Option V->Option Value->Prop
 |some v,some u=>RelV v u
 |none,none=>True
 |_,_=>False
def KV{κ:Type}:List (κ×V)->List (κ×Value)->Prop:=Paired fun (p:κ×V)(q:κ×Value)=>p.1=q.1/\RelV p.2 q.2
noncomputable def kV:Key->V
 |.inl i=>.int i
 |.inr x=>.str x
inductive HO where
 |lst (xs:List V)
 |tup (xs:List V)
 |dK (kvs:List (Key×V))|dT (kvs:List (List Key×V))
 |set (S:Int->Bool) (n:Nat)
 |ins (C dx:Addr) (fs:List (Str×V))
 |own (x:Addr)
 |xd (fs:List (Str×V))
 |met (f x:Addr)
 |rng (lo hi:Int)
 |frz (o:Obj) (u:HO)
 |tbl (ps:Array Value)
 |ext (φ:Heap->Prop)
abbrev Hp:=Addr->Option HO
noncomputable def upd(H:Hp)(a:Addr)(o:HO):Hp:=fun b=>if b=a then some o else H b
theorem zc{H:Hp}{a:Addr}{o:HO}:upd H a o a=some o:=by unfold upd;rw[if_pos rfl]
theorem zm{H:Hp}{a b:Addr}{o:HO}(h:b≠a):upd H a o b=H b:=by unfold upd;rw[if_neg h]
theorem zmw{H:Hp}{a b:Addr}{o u:HO}(h:H a=some o)(h':H b=some u)(d:o≠u):a≠b:=by
 intro e;subst e;rw[h] at h';exact d (Option.some.inj h')
theorem zh{H:Hp}{a b:Addr}{o:HO}(h:H a=some o)(h':H b=none):a≠b:=by
 intro e;subst e;rw[h] at h';cases h'
section
variable(P:Program)(w:World)
def Zh(H:Hp)(h:Heap)(a:Addr):HO->Prop
 |.lst xs=>xs.length<=uQ/\∃(its:List Value)(n:Nat),Vals xs its/\h.get? a=some {cls:=.type "list",data:=.seq its.toArray n}
 |.tup xs=>xs.length<=uQ/\∃its:List Value,Vals xs its/\IsTup h a its.toArray
 |.dK kvs=>kvs.length<=uQ/\(a==sysModules)=false/\∃vs,KV kvs vs/\h.DictOf (zK P w) a vs
 |.dT kvs=>kvs.length<=uQ/\(a==sysModules)=false/\∃xs:List (List Key×Addr×Value),
   Paired (fun (p:List Key×V)(q:List Key×Addr×Value)=>p.1=q.1/\H q.2.1=some (.tup (p.1.map kV))/\RelV p.2 q.2.2) kvs xs /\
   ∃o es ep,h.get? a=some o/\o.ExactDict/\o.data=.dict es ep/\es.toList=xs.map (entryOfKey (tupleKind (zK P w)))/\(xs.map (·.1)).Nodup
 |.set S n=>h.SetOf (intKind P w) a S n
 |.ins C dx fs=>H dx=some (.own a)/\fs.length<=1000/\dx≠a/\h.get? a=some (instObj C dx) /\
   ∃mA,h.Ns1 dx mA/\(∀f,RelO (fs.lookup f) (mA f))/\PySem.Within mA (fs.map (·.1))
 |.own _=>∃o,h.get? a=some o
 |.xd fs=>∃mA,h.Ns1 a mA/\∀f,RelO (fs.lookup f) (mA f)
 |.rng lo hi=>∃t u v,h.get? a=some {cls:=.type "range",data:=.fields #[.int lo t,.int hi u,.int 1 v]}
 |.frz o u=>h.get? a=some o/\Zh H h a u
 |.tbl ps=>h.get? a=some {cls:=.none,data:=.fields ps}
 |.met f x=>h.get? a=some (methodObj (.ref f) (.ref x))
 |.ext φ=>φ h/\(∃o,h.get? a=some o)/\∀h1 h2:Heap,φ h1->(∀o,h1.get? a=some o->h2.get? a=some o)->φ h2
def HOk(H:Hp)(h:Heap):Prop:=∀a o,H a=some o->Zh P w H h a o
end
section
variable{P:Program}{w:World}{H H':Hp}{h h':Heap}{a:Addr}{o:HO}
theorem Zh.lt(x:Zh P w H h a o):a<h.objs.size:=by
 cases o with
 |lst xs=>obtain⟨_,_,_,_,e⟩:=x;exact uM e
 |tup xs=>obtain⟨_,_,_,p⟩:=x;exact p.lt
 |dK kvs=>obtain⟨_,_,_,_,o,_,_,e,_⟩:=x;exact uM e
 |dT kvs=>obtain⟨_,_,_,_,o,_,_,e,_⟩:=x;exact uM e
 |set S n=>obtain⟨o,_,_,_,e,_⟩:=x;exact uM e
 |ins C dx fs=>obtain⟨_,_,_,e,_⟩:=x;exact uM e
 |own y=>obtain⟨_,e⟩:=x;exact uM e
 |xd fs=>obtain⟨_,⟨_,_,_,e,_⟩,_⟩:=x;exact uM e
 |rng lo hi=>obtain⟨_,_,_,e⟩:=x;exact uM e
 |frz ob u=>obtain⟨e,_⟩:=x;exact uM e
 |tbl ps=>exact uM (show h.get? a=some _ from x)
 |met f y=>exact uM (show h.get? a=some _ from x)
 |ext φ=>obtain⟨_,⟨_,e⟩,_⟩:=x;exact uM e
theorem Paired.mapP{α β:Type}{F G:α->β->Prop}:∀{l₁:List α}{l₂:List β},Paired F l₁ l₂->(∀a b,F a b->G a b)->Paired G l₁ l₂
 |_,_,.nil,_=>.nil
 |_,_,.cons r t,f=>.cons (f _ _ r) (Paired.mapP t f)
theorem Zh.stay(x:Zh P w H h a o)(k:∀b u,(b=a\/H b=some (.own a))->h.get? b=some u->h'.get? b=some u)
  (ho:∀b,H b=some (.own a)->H' b=some (.own a)) (ht:∀b xs,H b=some (.tup xs)->H' b=some (.tup xs)):Zh P w H' h' a o:=by
 induction o with
 |lst xs=>obtain⟨z,its,n,r,e⟩:=x;exact⟨z,its,n,r,k _ _ (.inl rfl) e⟩
 |tup xs=>obtain⟨z,its,r,ob,e,c⟩:=x;exact⟨z,its,r,ob,k _ _ (.inl rfl) e,c⟩
 |dK kvs=>obtain⟨z,y,vs,r,ob,es,ep,e,c⟩:=x;exact⟨z,y,vs,r,ob,es,ep,k _ _ (.inl rfl) e,c⟩
 |dT kvs=>
  obtain⟨z,y,xs,r,ob,es,ep,e,c⟩:=x
  exact⟨z,y,xs,Paired.mapP r fun p q z=>⟨z.1,ht _ _ z.2.1,z.2.2⟩,ob,es,ep,k _ _ (.inl rfl) e,c⟩
 |set S n=>obtain⟨ob,es,ep,t,e,c⟩:=x;exact⟨ob,es,ep,t,k _ _ (.inl rfl) e,c⟩
 |ins C dx fs=>
  obtain⟨d,z,ne,e,mA,⟨od,es,ep,e2,c⟩,r⟩:=x
  exact⟨ho _ d,z,ne,k _ _ (.inl rfl) e,mA,⟨od,es,ep,k _ _ (.inr d) e2,c⟩,r⟩
 |own y=>obtain⟨ob,e⟩:=x;exact⟨ob,k _ _ (.inl rfl) e⟩
 |xd fs=>obtain⟨mA,⟨od,es,ep,e,c⟩,r⟩:=x;exact⟨mA,⟨od,es,ep,k _ _ (.inl rfl) e,c⟩,r⟩
 |rng lo hi=>obtain⟨t,u,v,e⟩:=x;exact⟨t,u,v,k _ _ (.inl rfl) e⟩
 |frz ob u ih=>obtain⟨e,q⟩:=x;exact⟨k _ _ (.inl rfl) e,ih q⟩
 |tbl ps=>
  have e:h.get? a=some {cls:=.none,data:=.fields ps}:=x
  show h'.get? a=some {cls:=.none,data:=.fields ps}
  exact k a _ (.inl rfl) e
 |met f y=>
  have e:h.get? a=some (methodObj (.ref f) (.ref y)):=x
  show h'.get? a=some (methodObj (.ref f) (.ref y))
  exact k a _ (.inl rfl) e
 |ext φ=>obtain⟨p,⟨o,e⟩,st⟩:=x;exact⟨st _ _ p fun o q=>k _ _ (.inl rfl) q,⟨o,k _ _ (.inl rfl) e⟩,st⟩
theorem HOk.lt(x:HOk P w H h)(e:H a=some o):a<h.objs.size:=(x a o e).lt
theorem HOk.fresh(x:HOk P w H h)(e:h.objs.size<=a):H a=none:=by
 cases q:H a with
 |none=>rfl
 |some u=>exact absurd (yP (x.lt q) e) (xD _)
theorem HOk.kept(x:HOk P w H h)(k:∀b u,h.get? b=some u->h'.get? b=some u):HOk P w H h':=fun a o e=>
 (x a o e).stay (fun b u _ q=>k b u q) (fun _ q=>q) fun _ _ q=>q
theorem HOk.laid(x:HOk P w H h)(k:∀b u,h.get? b=some u->h'.get? b=some u)(hp:h.objs.size<=a)(new:Zh P w (upd H a o) h' a o):HOk P w (upd H a o) h':=fun b u e=>by
 have hn:=x.fresh hp
 by_cases hb:b=a
 ·subst hb;rw[zc] at e;cases e;exact new
 ·rw[zm hb] at e
  exact (x b u e).stay (fun c v _ q=>k c v q) (fun c q=>by rw[zm (zh q hn)];exact q) fun c xs q=>by rw[zm (zh q hn)];exact q
end
def Rd(H:Hp)(a:Addr)(u:HO):Prop:=H a=some u\/∃o,H a=some (.frz o u)
theorem Rd.ok{P:Program}{w:World}{H:Hp}{h:Heap}{a:Addr}{u:HO}(r:Rd H a u)(x:HOk P w H h):Zh P w H h a u:=by
 rcases r with r|⟨o,r⟩
 ·exact x a u r
 ·obtain⟨_,q⟩:=x a _ r
  exact q
def Mut:Option HO->Prop
 |some (.lst _)=>True
 |some (.dK _)=>True
 |some (.dT _)=>True
 |some (.set _ _)=>True
 |some (.ins _ _ _)=>True
 |some (.ext _)=>True
 |_=>False
section
variable{P:Program}{w:World}{H:Hp}{h h':Heap}{x e:Addr}{o':HO}
theorem HOk.write(ok:HOk P w H h)(mu:Mut (H x))(he:e=x\/H e=some (.own x))(k:∀b u,b≠e->h.get? b=some u->h'.get? b=some u)(heo:∃u,h'.get? e=some u)
  (new:Zh P w (upd H x o') h' x o'):HOk P w (upd H x o') h':=fun b u q=>by
 have nown:∀c y,H c=some (.own y)->c≠x:=fun c y r z=>by subst z;rw[r] at mu;exact mu
 have ntup:∀c xs,H c=some (.tup xs)->c≠x:=fun c xs r z=>by subst z;rw[r] at mu;exact mu
 by_cases hb:b=x
 ·subst hb;rw[zc] at q;cases q;exact new
 ·rw[zm hb] at q
  by_cases hbe:b=e
  ·have q':H b=some (.own x):=by
    rcases he with z|z
    ·exact absurd (hbe.trans z) hb
    ·rw[hbe];exact z
   rw[q] at q';cases q'
   obtain⟨v,hv⟩:=heo
   exact⟨v,by rw[hbe];exact hv⟩
  ·refine (ok b u q).stay (fun c v hc r=>k c v ?_ r) (fun c r=>by rw[zm (nown c b r)];exact r) fun c xs r=>by rw[zm (ntup c xs r)];exact r
   rcases hc with rfl|hc
   ·exact hbe
   ·rintro rfl
    rcases he with z|z
    ·exact nown c b hc z
    ·rw[hc] at z;cases z;exact hb rfl
end
structure Un(fs ex:List Addr)(H H':Hp)(h h':Heap):Prop where
 keep:∀b o,h.get? b=some o->H b=none->b ∉ fs->b ∉ ex->h'.get? b=some o
 slot:∀b o,h.get? b=some o->H b=none->b∈fs->b ∉ ex->∃sl,h'.get? b=some {o with slots:=sl}
 free:∀b o,h.get? b=some o->H b=none->b ∉ ex->H' b=none
 there:∀b o,h.get? b=some o->b ∉ ex->∃o',h'.get? b=some o'
 tups:∀b xs,H b=some (.tup xs)->H' b=some (.tup xs)
 frzs:∀b o u,H b=some (.frz o u)->H' b=some (.frz o u)
 tbls:∀b ps,H b=some (.tbl ps)->∃more,H' b=some (.tbl (ps++more))
section
variable{fs fs' ex ex':List Addr}{H H1 H2:Hp}{h h1 h2 h':Heap}{a x e:Addr}{o:HO}
theorem Un.any(u:Un fs ex H H1 h h1){b:Addr}{ob:Obj}(q:h.get? b=some ob)(n:H b=none)(hx:b ∉ ex):∃sl,h1.get? b=some {ob with slots:=sl}:=by
 by_cases hb:b∈fs
 ·exact u.slot b ob q n hb hx
 ·exact⟨ob.slots,u.keep b ob q n hb hx⟩
theorem Un.kept(k:∀b u,h.get? b=some u->h'.get? b=some u):Un fs ex H H h h':=
 ⟨fun b ob q _ _ _=>k b ob q,fun b ob q _ _ _=>⟨ob.slots,k b ob q⟩,fun _ _ _ n _=>n,fun b ob q _=>⟨ob,k b ob q⟩,fun _ _ q=>q,fun _ _ _ q=>q,fun _ ps q=>⟨#[],by rw[q];simp⟩⟩
theorem Un.refl:Un fs ex H H h h:=Un.kept fun _ _ q=>q
theorem Un.laid(k:∀b u,h.get? b=some u->h'.get? b=some u)(hp:h.objs.size<=a)(hn:H a=none):Un fs ex H (upd H a o) h h' where
 keep:=fun b u q _ _ _=>k b u q
 slot:=fun b u q _ _ _=>⟨u.slots,k b u q⟩
 free:=fun b u q n _=>by rw[zm (yI (yP (uM q) hp))];exact n
 there:=fun b u q _=>⟨u,k b u q⟩
 tups:=fun b xs q=>by rw[zm (zh q hn)];exact q
 frzs:=fun b u xs q=>by rw[zm (zh q hn)];exact q
 tbls:=fun b ps q=>⟨#[],by rw[zm (zh q hn),q];simp⟩
theorem Un.write(mu:Mut (H x))(he:e=x\/H e=some (.own x))(k:∀b u,b≠e->h.get? b=some u->h'.get? b=some u)(heo:∃u,h'.get? e=some u):Un fs ex H (upd H x o) h h':=by
 have hx:∀b,H b=none->b≠x:=fun b n z=>by subst z;rw[n] at mu;exact mu
 have hb:∀b,H b=none->b≠e:=fun b n z=>by
  subst z
  rcases he with r|r
  ·exact hx b n r
  ·rw[n] at r;cases r
 have hm:∀b u,H b=some u->¬Mut (some u)->b≠x:=fun b u q nm z=>by subst z;rw[q] at mu;exact nm mu
 refine⟨fun b u q n _ _=>k b u (hb b n) q,fun b u q n _ _=>⟨u.slots,k b u (hb b n) q⟩,fun b u q n _=>by rw[zm (hx b n)];exact n,fun b u q _=>?_,
  fun b xs q=>by rw[zm (hm b _ q fun z=>z)];exact q,fun b u xs q=>by rw[zm (hm b _ q fun z=>z)];exact q,fun b ps q=>⟨#[],by rw[zm (hm b _ q fun z=>z),q];simp⟩⟩
 by_cases hbe:b=e
 ·subst hbe;exact heo
 ·exact⟨u,k b u hbe q⟩
end
noncomputable def trk(h:Heap)(H:Hp):List Addr:=(xR h.objs.size).filter fun a=>(H a).isSome
def hidT(h:Heap)(H:Hp):Heap:=PySem.W.hideAll h (trk h H)
theorem ziF(h:Heap)(H:Hp):(hidT h H).objs.size=h.objs.size:=PySem.W.hideAll_size _ _
theorem zkE{h:Heap}{H:Hp}{b:Addr}{o:Obj}(e:h.get? b=some o)(n:H b=none):(hidT h H).get? b=some o:=
 PySem.W.hideAll_get _ e fun hm=>by
  have q:(H b).isSome=true:=(List.mem_filter.mp hm).2
  rw[n] at q;simp at q
theorem zmx{h:Heap}{H:Hp}{b:Addr}{o:Obj}(e:(hidT h H).get? b=some o):h.get? b=some o/\H b=none:=by
 have e':h.get? b=some o:=PySem.W.of_hideAll (trk h H) e
 refine⟨e',?_⟩
 cases q:H b with
 |none=>rfl
 |some x=>
  have hm:b∈trk h H:=List.mem_filter.mpr ⟨wR.mpr (uM e'),by simp[q]⟩
  have z:(hidT h H).get? b=none:=PySem.W.hideAll_none (trk h H) hm
  rw[z] at e;cases e
noncomputable def zmy(g h:Heap)(L:Addr):List (Addr×Obj):=(xR h.objs.size).filterMap fun a=>if a=L\/(g.get? a).isSome=true then none else (h.get? a).map fun o=>(a,o)
def rest(g h:Heap)(L d:Addr):List (Addr×Obj):=(zmy g h L).filter fun p=>decide (p.1≠d)
structure Mod(K:uZ)(mg:Str->Option Value)(base:Heap):Prop where
 kin:K.In base
 glob:base.Ns uP mg
 blt:∃mb,base.Ns builtinsNs mb/\∀x:Str,x≠"__name__"->mb x=uT x
 nolimit:base.NoLimit
structure Cx where
 prog:Program
 w:World
 K:uZ
 mg:Str->Option Value
 base:Heap
 A:Around
 N:List Str
 s₀:Shared
 H₀:Hp
 env:Env
 outer:List Env
 stack:List Env
 ex:List Addr
 fn:Str->Bool
 calm:Bool
 pn:List (Addr×Obj)
 xe:Value->Shared->Prop
noncomputable def frs(l:List Env):List Addr:=l.filterMap (·.frame)
abbrev Cx.fs(X:Cx):List Addr:=frs X.outer
def Vis(sc:Scope)(x:Str):Prop:=sc.names.lookup x=some .local\/sc.names.lookup x=some .cell\/sc.names.lookup x=some .free
def Loc(sc:Scope)(x:Str):Prop:=sc.names.lookup x=some .local\/sc.names.lookup x=some .cell
def Look(env:Env)(h:Heap)(m:Str->Option Value)(x:Str)(u:Value):Prop:=
 (env.kindOf x=some .local/\m x=some u)\/((env.kindOf x=some .cell\/env.kindOf x=some .free)/\∃c,env.cells.lookup x=some c/\h.IsCell c (some u))
structure Cx.Ok(X:Cx):Prop where
 mod:Mod X.K X.mg X.base
 kind:X.env.scope.kind=.function
 glob:X.env.globals=uP
 blt:X.env.builtins=builtinsNs
 above:X.s₀.heap.objs.size<=X.env.locals
 inj:∀x y c,X.env.cells.lookup x=some c->X.env.cells.lookup y=some c->x=y
 has:∀x,(X.env.kindOf x=some .cell\/X.env.kindOf x=some .free)->∃c,X.env.cells.lookup x=some c
 cab:∀x c,X.fn x=true->X.env.cells.lookup x=some c->X.s₀.heap.objs.size<=c
 hd:X.calm=true->X.A.handled=none
 frames:X.A.frames=some X.stack
 stk:X.stack=X.outer\/(X.stack=X.env::X.outer/\X.env.frame=some X.env.locals)
 exf:∀b∈X.ex,b≠X.env.locals/\∀x c,X.env.cells.lookup x=some c->c≠b
 bs:∀b o,X.base.get? b=some o->X.s₀.heap.get? b=some o/\X.H₀ b=none
 bsz:X.base.objs.size<=X.s₀.heap.objs.size
 noex:∀b o,X.base.get? b=some o->b ∉ X.ex
 exfs:∀b∈X.ex,b ∉ X.fs
 funs:X.s₀.heap.FunFrames X.base X.outer
 frf:∀b∈X.fs,X.H₀ b=none
structure Inv(X:Cx)(zp:List (Addr×Obj))(σ:List (Option V))(H:Hp)(s:Shared):Prop where
 ok:X.Ok
 os:s.os=X.s₀.os
 bare:AllBare s.gens
 base:Un X.fs X.ex X.H₀ H X.s₀.heap s.heap
 loc:∃m,s.heap.Ns X.env.locals m/\∀(i:Nat)(x:Str)(v:V),X.N[i]?=some x->σ[i]?=some (some v)->Vis X.env.scope x->∃u,RelV v u/\Look X.env s.heap m x u
 cell:∀x c,X.env.cells.lookup x=some c->∃v,s.heap.IsCell c v
 free:H X.env.locals=none
 freeC:∀x c,X.env.cells.lookup x=some c->H c=none
 pin:∀p∈X.pn++zp,s.heap.get? p.1=some p.2/\H p.1=none/\p.1≠X.env.locals/\p.1 ∉ X.fs/\∀v,p.2.data≠.cell v
 hok:HOk X.prog X.w H s.heap
 len:σ.length=X.N.length
section
variable{X:Cx}{zp:List (Addr×Obj)}{σ:List (Option V)}{H H':Hp}{s:Shared}{h':Heap}
theorem Cx.Ok.nofr(ok:X.Ok){b:Addr}{o:Obj}(e:X.base.get? b=some o):b ∉ X.fs:=fun hb=>by
 have:=(ok.funs.mem hb).1
 rw[e] at this;cases this
theorem Inv.bs(I:Inv X zp σ H s):∀b o,X.base.get? b=some o->s.heap.get? b=some o/\H b=none:=fun b o e=>
 ⟨I.base.keep b o (I.ok.bs b o e).1 (I.ok.bs b o e).2 (I.ok.nofr e) (I.ok.noex b o e),I.base.free b o (I.ok.bs b o e).1 (I.ok.bs b o e).2 (I.ok.noex b o e)⟩
theorem Inv.bk(I:Inv X zp σ H s):∀b o,X.base.get? b=some o->s.heap.get? b=some o:=fun b o e=>(I.bs b o e).1
theorem Inv.mod(I:Inv X zp σ H s):Mod X.K X.mg X.base:=I.ok.mod
theorem Inv.kIn(I:Inv X zp σ H s):X.K.In s.heap:=I.ok.mod.kin.keeps I.bk
theorem Inv.lt(I:Inv X zp σ H s):X.env.locals<s.heap.objs.size:=let ⟨_,hn,_⟩:=I.loc;hn.lt
theorem Inv.sz(I:Inv X zp σ H s):X.s₀.heap.objs.size<=s.heap.objs.size:=yM I.ok.above (xP I.lt)
theorem Inv.nofs(I:Inv X zp σ H s){a:Addr}(h:s.heap.objs.size<=a):a ∉ X.fs:=fun hb=>by
 obtain⟨_,o,ho,_⟩:=I.ok.funs.mem hb
 exact absurd (yP (uM ho) (yM I.sz h)) (xD _)
theorem Inv.cne(I:Inv X zp σ H s):∀x c,X.env.cells.lookup x=some c->c≠X.env.locals:=fun x c e z=>by
 obtain⟨v,o,ho,hd⟩:=I.cell x c e
 obtain⟨m,⟨o',es,ep,ho',hd',_⟩,_⟩:=I.loc
 rw[z,ho'] at ho;cases ho;rw[hd'] at hd;cases hd
theorem Inv.funs(I:Inv X zp σ H s):s.heap.FunFrames X.base X.outer:=by
 have all:∀(l:List Env),(∀b∈frs l,b∈X.fs)->X.s₀.heap.FunFrames X.base l->s.heap.FunFrames X.base l:=by
  intro l
  induction l with
  |nil=>intro _ _;trivial
  |cons env r ih=>
   intro hs hl
   obtain⟨hk,⟨L,o,hf,hn,ho,hd⟩,hr⟩:=hl
   have hL:L∈X.fs:=hs L (by unfold frs;rw[wX,hf];exact xG)
   obtain⟨sl,e⟩:=I.base.slot L o ho (I.ok.frf L hL) hL fun z=>I.ok.exfs L z hL
   exact⟨hk,⟨L,_,hf,hn,e,hd⟩,ih (fun b hb=>hs b (by unfold frs;rw[wX,hf];exact yX _ hb)) hr⟩
 exact all X.outer (fun _ hb=>hb) I.ok.funs
theorem Inv.stack(I:Inv X zp σ H s):s.heap.FunFrames X.base X.stack:=by
 rcases I.ok.stk with e|⟨e,hf⟩
 ·rw[e];exact I.funs
 ·rw[e]
  obtain⟨m,hn,_⟩:=I.loc
  refine .cons (by rw[I.ok.kind];decide) hf hn ?_ I.funs
  exact Heap.get?_none_of_le (yM I.ok.bsz I.ok.above)
theorem Inv.stkSub(I:Inv X zp σ H s):∀b∈frs X.stack,b∈X.env.locals::X.fs:=fun b hb=>by
 rcases I.ok.stk with e|⟨e,hf⟩
 ·rw[e] at hb;exact yX _ hb
 ·rw[e] at hb
  unfold frs at hb
  rw[wX,hf] at hb
  exact hb
theorem Inv.stkFree(I:Inv X zp σ H s):∀b∈frs X.stack,H b=none:=fun b hb=>by
 rcases yQ.mp (I.stkSub b hb) with e|hb
 ·rw[e];exact I.free
 ·obtain⟨_,o,ho,_⟩:=I.ok.funs.mem hb
  exact I.base.free b o ho (I.ok.frf b hb) fun z=>I.ok.exfs b z hb
theorem Inv.step{g':Array GenState}{t':Nat}{d':Drawn}{ch:List Addr}(I:Inv X zp σ H s)
  (hch:∀b∈ch,(b∈X.ex\/X.s₀.heap.objs.size<=b)/\b≠X.env.locals/\(∀x c,X.env.cells.lookup x=some c->c≠b)/\∀p∈X.pn++zp,p.1≠b)
  (keep:∀b o,b≠X.env.locals->b ∉ X.fs->b ∉ ch->s.heap.get? b=some o->H b=none->h'.get? b=some o)
  (slot:∀b o,b≠X.env.locals->b∈X.fs->b ∉ ch->s.heap.get? b=some o->H b=none->∃sl,h'.get? b=some {o with slots:=sl}) (free:∀b o,b ∉ ch->s.heap.get? b=some o->H b=none->H' b=none)
  (there:∀b o,b ∉ ch->s.heap.get? b=some o->∃o',h'.get? b=some o')
  (tups:∀b xs,H b=some (.tup xs)->H' b=some (.tup xs)) (frzs:∀b o u,H b=some (.frz o u)->H' b=some (.frz o u)) (tbls:∀b ps,H b=some (.tbl ps)->∃more,H' b=some (.tbl (ps++more)))
  (ns:∀m,s.heap.Ns X.env.locals m->h'.Ns X.env.locals m) (hok:HOk X.prog X.w H' h') (hg:AllBare g'):
  Inv X zp σ H' {s with heap:=h',gens:=g',drawn:=d',toks:=t'}:=by
 have neL:∀b o,X.s₀.heap.get? b=some o->b≠X.env.locals:=fun b o e=>yI (yP (uM e) I.ok.above)
 have neC:∀b o,X.s₀.heap.get? b=some o->b ∉ X.ex->b ∉ ch:=fun b o e hx hb=>by
  rcases (hch b hb).1 with z|z
  ·exact hx z
  ·exact absurd (yP (uM e) z) (xD _)
 have cellK:∀x c,X.env.cells.lookup x=some c->∀v,s.heap.IsCell c v->h'.IsCell c v:=fun x c e v ⟨o,ho,hd⟩=>by
  have nch:c ∉ ch:=fun z=>(hch c z).2.2.1 x c e rfl
  by_cases hc:c∈X.fs
  ·obtain⟨sl,q⟩:=slot c o (I.cne x c e) hc nch ho (I.freeC x c e)
   exact⟨_,q,hd⟩
  ·exact⟨o,keep c o (I.cne x c e) hc nch ho (I.freeC x c e),hd⟩
 refine⟨I.ok,I.os,hg,⟨fun b o e n hb hx=>?_,fun b o e n hb hx=>?_,fun b o e n hx=>?_,fun b o e hx=>?_,fun b xs e=>tups b xs (I.base.tups b xs e),fun b o xs e=>frzs b o xs (I.base.frzs b o xs e),fun b ps e=>?_⟩,?_,fun x c e=>?_,?_,fun x c e=>?_,fun p hp=>?_,hok,I.len⟩
 ·exact keep b o (neL b o e) hb (neC b o e hx) (I.base.keep b o e n hb hx) (I.base.free b o e n hx)
 ·obtain⟨sl,e1⟩:=I.base.slot b o e n hb hx
  obtain⟨sl',e2⟩:=slot b _ (neL b o e) hb (neC b o e hx) e1 (I.base.free b o e n hx)
  exact⟨sl',e2⟩
 ·obtain⟨o',e1⟩:=I.base.there b o e hx
  exact free b o' (neC b o e hx) e1 (I.base.free b o e n hx)
 ·obtain⟨o',e1⟩:=I.base.there b o e hx
  exact there b o' (neC b o e hx) e1
 ·obtain⟨m1,e1⟩:=I.base.tbls b ps e
  obtain⟨m2,e2⟩:=tbls b _ e1
  exact⟨m1++m2,by rw[e2,Array.append_assoc]⟩
 ·obtain⟨m,hn,hl⟩:=I.loc
  refine⟨m,ns m hn,fun i x v e1 e2 e3=>?_⟩
  obtain⟨u,r,l⟩:=hl i x v e1 e2 e3
  refine⟨u,r,?_⟩
  rcases l with l|⟨k,c,e,z⟩
  ·exact .inl l
  ·exact .inr ⟨k,c,e,cellK x c e _ z⟩
 ·obtain⟨v,z⟩:=I.cell x c e
  exact⟨v,cellK x c e v z⟩
 ·obtain⟨m,⟨o,_,_,ho,_⟩,_⟩:=I.loc
  exact free _ o (fun z=>(hch _ z).2.1 rfl) ho I.free
 ·obtain⟨v,o,ho,hd⟩:=I.cell x c e
  exact free c o (fun z=>(hch c z).2.2.1 x c e rfl) ho (I.freeC x c e)
 ·obtain⟨e,n,ne,nf,d⟩:=I.pin p hp
  have nch:p.1 ∉ ch:=fun z=>(hch p.1 z).2.2.2 p hp rfl
  exact⟨keep p.1 p.2 ne nf nch e n,free p.1 p.2 nch e n,ne,nf,d⟩
theorem Inv.un{t':Nat}(I:Inv X zp σ H s)(u:Un X.fs [] H H' s.heap h')(hok:HOk X.prog X.w H' h'):Inv X zp σ H' {s with heap:=h',toks:=t'}:=by
 obtain⟨m,⟨o,es,ep,ho,r⟩,_⟩:=id I.loc
 obtain⟨sl,hL⟩:=u.any ho I.free (by simp)
 exact I.step (g':=s.gens) (d':=s.drawn) (ch:=[]) (fun _ z=>nomatch z) (fun b o _ hb _ e n=>u.keep b o e n hb (by simp)) (fun b o _ hb _ e n=>u.slot b o e n hb (by simp)) (fun b o _ e n=>u.free b o e n (by simp)) (fun b o _ e=>u.there b o e (by simp)) u.tups u.frzs u.tbls (fun m' hm=>by
  obtain⟨o',es',ep',ho',r'⟩:=hm
  rw[ho] at ho';cases ho'
  exact⟨_,es',ep',hL,r'⟩) hok I.bare
theorem Inv.call{g':Array GenState}{t':Nat}{d':Drawn}{ch:List Addr}(I:Inv X zp σ H s)(u:Un (frs X.stack) ch H H' s.heap h')(hok:HOk X.prog X.w H' h')(hg:AllBare g')
  (hch:∀b∈ch,(b∈X.ex\/X.s₀.heap.objs.size<=b)/\b≠X.env.locals/\(∀x c,X.env.cells.lookup x=some c->c≠b)/\∀p∈X.pn++zp,p.1≠b):
  Inv X zp σ H' {s with heap:=h',gens:=g',drawn:=d',toks:=t'}:=by
 obtain⟨m,⟨o,es,ep,ho,r⟩,_⟩:=id I.loc
 obtain⟨sl,hL⟩:=u.any ho I.free fun z=>(hch _ z).2.1 rfl
 exact I.step (ch:=ch) hch (fun b o hL hb hc e n=>u.keep b o e n (fun z=>(yQ.mp (I.stkSub b z)).elim hL hb) hc) (fun b o _ _ hc e n=>u.any e n hc) (fun b o hc e n=>u.free b o e n hc) (fun b o hc e=>u.there b o e hc) u.tups u.frzs u.tbls (fun m' hm=>by
  obtain⟨o',es',ep',ho',r'⟩:=hm
  rw[ho] at ho';cases ho'
  exact⟨_,es',ep',hL,r'⟩) hok hg
theorem Inv.turned{t':Nat}{it:Addr}(I:Inv X zp σ H s)(k:∀b o,b≠it->s.heap.get? b=some o->h'.get? b=some o)(hn:H it=none)(hL:it≠X.env.locals)
  (h1:it∈X.ex\/X.s₀.heap.objs.size<=it) (h2:∀x c,X.env.cells.lookup x=some c->c≠it) (h3:∀p∈X.pn++zp,p.1≠it):Inv X zp σ H {s with heap:=h',toks:=t'}:=by
 have nit:∀b u,H b=some u->b≠it:=fun b u e z=>by rw[z,hn] at e;cases e
 refine I.step (g':=s.gens) (d':=s.drawn) (ch:=[it]) (fun b hb=>?_) (fun b o _ _ hc e _=>k b o (fun z=>hc (by simp[z])) e) (fun b o _ _ hc e _=>⟨o.slots,k b o (fun z=>hc (by simp[z])) e⟩) (fun _ _ _ _ n=>n)
  (fun b o hc e=>⟨o,k b o (fun z=>hc (by simp[z])) e⟩) (fun _ _ e=>e) (fun _ _ _ e=>e) (fun b ps e=>⟨#[],by rw[e];simp⟩) (fun m hm=>?_) (fun b u e=>?_) I.bare
 ·have e:b=it:=by simpa using hb
  subst e
  exact⟨h1,hL,h2,h3⟩
 ·obtain⟨o,es,ep,ho,r⟩:=hm
  exact⟨o,es,ep,k _ o (Ne.symm hL) ho,r⟩
 ·refine (I.hok b u e).stay (fun c v hc q=>k c v ?_ q) (fun _ q=>q) fun _ _ q=>q
  rcases hc with z|z
  ·rw[z];exact nit b u e
  ·exact nit c _ z
theorem Inv.tok(I:Inv X zp σ H s)(t:Nat):Inv X zp σ H {s with toks:=t}:=I.un (h':=s.heap) (t':=t) Un.refl I.hok
theorem Inv.kept{t':Nat}(I:Inv X zp σ H s)(k:∀b u,s.heap.get? b=some u->h'.get? b=some u):Inv X zp σ H {s with heap:=h',toks:=t'}:=I.un (Un.kept k) (I.hok.kept k)
theorem Inv.laid{a:Addr}{o:HO}{t':Nat}(I:Inv X zp σ H s)(k:∀b u,s.heap.get? b=some u->h'.get? b=some u)(hp:s.heap.objs.size<=a)(new:Zh X.prog X.w (upd H a o) h' a o):
  Inv X zp σ (upd H a o) {s with heap:=h',toks:=t'}:=I.un (Un.laid k hp (I.hok.fresh hp)) (I.hok.laid k hp new)
theorem Inv.write{x e:Addr}{o:HO}{t':Nat}(I:Inv X zp σ H s)(mu:Mut (H x))(he:e=x\/H e=some (.own x))(k:∀b u,b≠e->s.heap.get? b=some u->h'.get? b=some u)(heo:∃u,h'.get? e=some u)
  (new:Zh X.prog X.w (upd H x o) h' x o):Inv X zp σ (upd H x o) {s with heap:=h',toks:=t'}:=I.un (Un.write mu he k heo) (I.hok.write mu he k heo new)
theorem Inv.weak{σ':List (Option V)}(I:Inv X zp σ H s)(hl:σ'.length=σ.length)(w:∀(i:Nat) v,σ'[i]?=some (some v)->σ[i]?=some (some v)):Inv X zp σ' H s:=
 ⟨I.ok,I.os,I.bare,I.base,let ⟨m,hn,hl'⟩:=I.loc;⟨m,hn,fun i x v e1 e2 e3=>hl' i x v e1 (w i v e2) e3⟩,I.cell,I.free,I.freeC,I.pin,I.hok,hl.trans I.len⟩
theorem Inv.pins_of{pins':List (Addr×Obj)}(I:Inv X zp σ H s)(h:∀p∈pins',s.heap.get? p.1=some p.2/\H p.1=none/\p.1≠X.env.locals/\p.1 ∉ X.fs/\∀v,p.2.data≠.cell v):Inv X pins' σ H s:=
 ⟨I.ok,I.os,I.bare,I.base,I.loc,I.cell,I.free,I.freeC,fun p hp=>(xI.mp hp).elim (fun z=>I.pin p (wM _ z)) (h p),I.hok,I.len⟩
theorem zg4{N:List Str}(hN:N.Nodup){i j:Nat}{x:Str}(a:N[i]?=some x)(b:N[j]?=some x):i=j:=by
 obtain⟨h1,e1⟩:=yC.mp a
 obtain⟨h2,e2⟩:=yC.mp b
 exact (List.getElem_inj hN).mp (e1.trans e2.symm)
theorem ze2{M:Model}{A:Around}{E:Value->Shared->Prop}{i:Nat}{x:Str}{v:V}{u:Value}{Q:Unit->Shared->Prop}(I:Inv X zp σ H s)(hN:X.N.Nodup)(hi:X.N[i]?=some x)(hx:Loc X.env.scope x)(r:RelV v u)
  (h:∀s',Inv X zp (σ.set i (some v)) H s'->(∃a,Heap.SameBut a s.heap s'.heap/\(a=X.env.locals\/X.env.cells.lookup x=some a))->Q () s') (hf:X.fn x=true\/X.env.scope.names.lookup x=some .local:=by first|exact .inl rfl|exact .inr rfl|assumption):wpAny M A (storeName X.env x u) Q E s:=by
 obtain⟨m,hn,hl⟩:=id I.loc
 have hcls:(X.env.scope.kind==.class||(X.env.scope.kind==.module&&X.env.locals != X.env.globals))=false:=by rw[I.ok.kind];rfl
 have hiσ:i<σ.length:=by rw[I.len];exact (yC.mp hi).1
 have cne:=I.cne
 have tracked:∀{a:Addr}{h':Heap},(∃o,s.heap.get? a=some o/\H a=none)->Heap.SameBut a s.heap h'->HOk X.prog X.w H h':=fun {a h'} ha hs b ob e=>by
  obtain⟨_,_,hfree⟩:=ha
  refine (I.hok b ob e).stay (fun c w' hc q=>(hs.2 c ?_).trans q) (fun _ q=>q) fun _ _ q=>q
  rintro rfl
  rcases hc with rfl|hc
  ·rw[hfree] at e;cases e
  ·rw[hfree] at hc;cases hc
 rcases hx with hk|hk
 ·refine wpAny_storeName_local hk hn (fun h' hn' hs=>?_) hcls
  obtain⟨oL,_,_,hoL,_⟩:=id hn
  refine h _ ⟨I.ok,I.os,I.bare,⟨fun b o e n hb hx=>?_,fun b o e n hb hx=>?_,I.base.free,fun b o e hx=>?_,I.base.tups,I.base.frzs,I.base.tbls⟩,⟨_,hn',fun j y v' e1 e2 e3=>?_⟩,fun y c e=>?_,I.free,I.freeC,fun p hp=>?_,tracked ⟨oL,hoL,I.free⟩ hs,by simpa using I.len⟩ ⟨_,hs,.inl rfl⟩
  ·exact (hs.2 b (yI (yP (uM e) I.ok.above))).trans (I.base.keep b o e n hb hx)
  ·obtain⟨sl,e1⟩:=I.base.slot b o e n hb hx
   exact⟨sl,(hs.2 b (yI (yP (uM e) I.ok.above))).trans e1⟩
  ·obtain⟨o',e1⟩:=I.base.there b o e hx
   exact⟨o',(hs.2 b (yI (yP (uM e) I.ok.above))).trans e1⟩
  ·by_cases hj:j=i
   ·subst hj
    rw[hi] at e1;cases e1
    rw[vK hiσ] at e2
    cases e2
    exact⟨u,r,.inl ⟨hk,by simp⟩⟩
   ·rw[vR (Ne.symm hj)] at e2
    obtain⟨u',r',q⟩:=hl j y v' e1 e2 e3
    refine⟨u',r',?_⟩
    rcases q with⟨k,e⟩|⟨k,c,e,z⟩
    ·refine .inl ⟨k,?_⟩
     have:y≠x:=fun e=>hj (zg4 hN e1 (e▸hi))
     simp[this,e]
    ·exact .inr ⟨k,c,e,z.sameBut hs (cne y c e)⟩
  ·obtain⟨w',z⟩:=I.cell y c e
   exact⟨w',z.sameBut hs (cne y c e)⟩
  ·obtain⟨e,n,ne,nf,d⟩:=I.pin p hp
   exact⟨(hs.2 p.1 ne).trans e,n,ne,nf,d⟩
 ·have hfn:X.fn x=true:=by
   rcases hf with z|z
   ·exact z
   ·rw[z] at hk;cases hk
  obtain⟨c,hc⟩:=I.ok.has x (.inl hk)
  obtain⟨w',z⟩:=I.cell x c hc
  refine wpAny_storeName_cell I.ok.kind hk hc z (fun h' hc' hs=>?_)
  obtain⟨oc,hoc,hocd⟩:=id z
  refine h {s with heap:=h'} ⟨I.ok,I.os,I.bare,⟨fun b o e n hb hx=>?_,fun b o e n hb hx=>?_,I.base.free,fun b o e hx=>?_,I.base.tups,I.base.frzs,I.base.tbls⟩,⟨m,hn.sameBut hs (Ne.symm (cne x c hc)),fun j y v' e1 e2 e3=>?_⟩,fun y c' e=>?_,I.free,I.freeC,fun p hp=>?_,tracked ⟨oc,hoc,I.freeC x c hc⟩ hs,by simpa using I.len⟩ ⟨c,hs,.inr hc⟩
  ·exact (hs.2 b (yI (yP (uM e) (I.ok.cab x c hfn hc)))).trans (I.base.keep b o e n hb hx)
  ·obtain⟨sl,e1⟩:=I.base.slot b o e n hb hx
   exact⟨sl,(hs.2 b (yI (yP (uM e) (I.ok.cab x c hfn hc)))).trans e1⟩
  ·obtain⟨o',e1⟩:=I.base.there b o e hx
   exact⟨o',(hs.2 b (yI (yP (uM e) (I.ok.cab x c hfn hc)))).trans e1⟩
  ·by_cases hj:j=i
   ·subst hj
    rw[hi] at e1;cases e1
    rw[vK hiσ] at e2
    cases e2
    exact⟨u,r,.inr ⟨.inl hk,c,hc,hc'⟩⟩
   ·rw[vR (Ne.symm hj)] at e2
    obtain⟨u',r',q⟩:=hl j y v' e1 e2 e3
    refine⟨u',r',?_⟩
    rcases q with q|⟨k,c',e,z'⟩
    ·exact .inl q
    ·refine .inr ⟨k,c',e,z'.sameBut hs ?_⟩
     rintro rfl
     exact hj (zg4 hN e1 (I.ok.inj _ _ _ e hc▸hi))
  ·by_cases hcc:c'=c
   ·subst hcc;exact⟨_,hc'⟩
   ·obtain⟨w2,z2⟩:=I.cell y c' e
    exact⟨w2,z2.sameBut hs hcc⟩
  ·obtain⟨e,n,ne,nf,d⟩:=I.pin p hp
   refine⟨(hs.2 p.1 ?_).trans e,n,ne,nf,d⟩
   intro q
   rw[q,hoc] at e
   have q':oc=p.2:=Option.some.inj e
   exact d w' (by rw[←q'];exact hocd)
theorem zd0{M:Model}{A:Around}{E:Value->Shared->Prop}{i:Nat}{x:Str}{v:V}{u:Value}{Q:Unit->Shared->Prop}(I:Inv X zp σ H s)(hN:X.N.Nodup)(hi:X.N[i]?=some x)(hx:Loc X.env.scope x)(r:RelV v u)
  (h:∀s',Inv X zp (σ.set i (some v)) H s'->Q () s') (hf:X.fn x=true\/X.env.scope.names.lookup x=some .local:=by first|exact .inl rfl|exact .inr rfl|assumption):wpAny M A (storeName X.env x u) Q E s:=
 ze2 I hN hi hx r (fun s' I' _=>h s' I') hf
theorem Inv.call'{s':Shared}{ch:List Addr}(I:Inv X zp σ H s)(ho:s'.os=s.os)(u:Un (frs X.stack) ch H H' s.heap s'.heap)(hok:HOk X.prog X.w H' s'.heap)(hg:AllBare s'.gens)
  (hch:∀b∈ch,(b∈X.ex\/X.s₀.heap.objs.size<=b)/\b≠X.env.locals/\(∀x c,X.env.cells.lookup x=some c->c≠b)/\∀p∈X.pn++zp,p.1≠b):Inv X zp σ H' s':=by
 obtain⟨h',g',d',t',o'⟩:=s'
 have e:o'=s.os:=ho
 subst e
 exact I.call (g':=g') (t':=t') (d':=d') u hok hg hch
end
abbrev XK:=Value->Option Addr->Hp->Prop
abbrev St:=List (Option V)
abbrev VK:=V->Hp->Prop
abbrev TE:=St->Hp->VK->Prop
abbrev TT:=St->Hp->(Bool->Hp->Prop)->Prop
abbrev TA:=St->Hp->(List V->Hp->Prop)->Prop
structure Ends where
 nx:St->Hp->Prop
 rt:VK
 bk:St->Hp->Prop:=fun _ _=>False
 ct:St->Hp->Prop:=fun _ _=>False
abbrev TS:=Ends->St->Hp->Prop
def EP(X:Cx)(zp:List (Addr×Obj))(σ:St)(Q:VK)(u:Value)(s':Shared):Prop:=∃v H',Inv X zp σ H' s'/\RelV v u/\Q v H'
def TP(X:Cx)(zp:List (Addr×Obj))(σ:St)(Q:Bool->Hp->Prop)(b:Bool)(s':Shared):Prop:=∃H',Inv X zp σ H' s'/\Q b H'
def AP(X:Cx)(zp:List (Addr×Obj))(σ:St)(Q:List V->Hp->Prop)(us:List Value)(s':Shared):Prop:=∃vs H',Inv X zp σ H' s'/\Vals vs us/\Q vs H'
def SP(X:Cx)(zp:List (Addr×Obj))(D:Ends)(f:Flow)(s':Shared):Prop:=
 match f with
 |.next=>∃σ' H',Inv X zp σ' H' s'/\D.nx σ' H'
 |.brk=>∃σ' H',Inv X zp σ' H' s'/\D.bk σ' H'
 |.cont=>∃σ' H',Inv X zp σ' H' s'/\D.ct σ' H'
 |.ret u=>∃v σ' H',Inv X zp σ' H' s'/\RelV v u/\D.rt v H'
def PE(X:Cx)(e:Expr)(t:TE):Prop:=
 ∀(zp:List (Addr×Obj))(s:Shared)(σ:St)(H:Hp)(Q:VK),Inv X zp σ H s->t σ H Q->wpAny (model X.prog X.w) X.A (eval e X.env) (EP X zp σ Q) X.xe s
def PT(X:Cx)(e:Expr)(t:TT):Prop:=
 ∀(zp:List (Addr×Obj))(s:Shared)(σ:St)(H:Hp)(Q:Bool->Hp->Prop),Inv X zp σ H s->t σ H Q->wpAny (model X.prog X.w) X.A (isTrue e X.env (eval e X.env)) (TP X zp σ Q) X.xe s
def PW(X:Cx)(e:Expr)(t:TT):Prop:=
 ∀(whole:Sem Value)(zp:List (Addr×Obj))(s:Shared)(σ:St)(H:Hp)(Q:Bool->Hp->Prop),Inv X zp σ H s->t σ H Q->wpAny (model X.prog X.w) X.A (isTrue e X.env whole) (TP X zp σ Q) X.xe s
theorem PW.pt{X:Cx}{e:Expr}{t:TT}(h:PW X e t):PT X e t:=h _
def PA(X:Cx)(es:List Expr)(t:TA):Prop:=
 ∀(pos:Pos)(zp:List (Addr×Obj))(s:Shared)(σ:St)(H:Hp)(Q:List V->Hp->Prop),Inv X zp σ H s->t σ H Q->wpAny (model X.prog X.w) X.A (spliced (backTo pos (uS es X.env))) (AP X zp σ Q) X.xe s
def PS(X:Cx)(st:Stmt)(t:TS):Prop:=
 ∀(zp:List (Addr×Obj))(s:Shared)(σ:St)(H:Hp)(D:Ends),Inv X zp σ H s->t D σ H->wpAny (model X.prog X.w) X.A (exec st X.env) (SP X zp D) X.xe s
def PSs(X:Cx)(st:List Stmt)(t:TS):Prop:=
 ∀(zp:List (Addr×Obj))(s:Shared)(σ:St)(H:Hp)(D:Ends),Inv X zp σ H s->t D σ H->wpAny (model X.prog X.w) X.A (execs st X.env) (SP X zp D) X.xe s
theorem thn{α:Type}{t:Sem α}{Q Q':α->Shared->Prop}{M:Model}{A:Around}{E:Value->Shared->Prop}{s:Shared}(h:wpAny M A t Q E s)(hQ:∀a s,Q a s->Q' a s):wpAny M A t Q' E s:=wpAny_mono h hQ fun _ _ x=>x
section
variable{X:Cx}
def tVar(i:Nat):TE:=fun σ H Q=>∃v,σ[i]?=some (some v)/\Q v H
def tC(v:V):TE:=fun _ H Q=>Q v H
theorem znA{i:Nat}{x:Str}{pos:Pos}(hN:X.N[i]?=some x)(hv:Vis X.env.scope x)(hd:(x==("__debug__":Str))=false:=by decide)(hcd:(x==("__classdict__":Str))=false:=by decide):PE X (.Name x pos) (tVar i):=by
 intro zp s σ H Q I h
 obtain⟨v,e,h⟩:=h
 obtain⟨m,hn,hl⟩:=I.loc
 obtain⟨u,r,l⟩:=hl i x v hN e hv
 have fin:EP X zp σ Q u s:=⟨v,H,I,r,h⟩
 rcases l with⟨hk,hm⟩|⟨hk,c,hc,hcell⟩
 ·exact wpAny_Name (wpAny_loadName_local I.ok.kind hk hn hm fin) hd
 ·rcases hk with hk|hk
  ·exact wpAny_Name (wpAny_loadName_cell I.ok.kind hk hc hcell fin) hd
  ·exact wpAny_Name (wpAny_loadName_free I.ok.kind hk hc hcell fin hcd) hd
theorem ze {i j pos}:PE X (.Constant (.int i) j pos) (tC (.int i)):=fun _ _ _ H _ I h=>wpAny_Constant_int ⟨.int i,H,I.tok _,⟨_,rfl⟩,h⟩
theorem zaj {b j pos}:PE X (.Constant (.bool b) j pos) (tC (.bl b)):=fun _ _ _ H _ I h=>Constant_bool ⟨.bl b,H,I,rfl,h⟩
theorem zaM {j pos}:PE X (.Constant .none j pos) (tC .non):=fun _ _ _ H _ I h=>Constant_none ⟨.non,H,I,rfl,h⟩
theorem zu {x j pos}:PE X (.Constant (.str x) j pos) (tC (.str x)):=fun _ _ _ H _ I h=>Calls.Constant_str ⟨.str x,H,I.tok _,⟨_,rfl⟩,h⟩
def Gl(X:Cx)(x:Str):Prop:=X.env.kindOf x=some .globalImplicit
theorem zf0{E:Value->Shared->Prop}{zp:List (Addr×Obj)}{s:Shared}{σ:St}{H:Hp}{x:Str}{u:Value}{pos:Pos}{Q:Value->Shared->Prop}(I:Inv X zp σ H s)(hg:Gl X x)(hm:X.mg x=some u)(h:Q u s)
  (hd:(x==("__debug__":Str))=false:=by decide):wpAny (model X.prog X.w) X.A (eval (.Name x pos) X.env) Q E s:=
 Calls.Name_function_global I.ok.kind hg (Calls.loadGlobal_global (by rw[I.ok.glob];exact I.mod.glob.keeps I.bk) hm h) hd
theorem zcr{E:Value->Shared->Prop}{zp:List (Addr×Obj)}{s:Shared}{σ:St}{H:Hp}{x:Str}{u:Value}{pos:Pos}{Q:Value->Shared->Prop}(I:Inv X zp σ H s)(hg:Gl X x)(hm:X.mg x=none)(hv:uT x=some u)(h:Q u s)
  (hn:x≠"__name__":=by decide) (hd:(x==("__debug__":Str))=false:=by decide):wpAny (model X.prog X.w) X.A (eval (.Name x pos) X.env) Q E s:=by
 obtain⟨mb,h1,h2⟩:=I.mod.blt
 exact Calls.Name_function_global I.ok.kind hg (Calls.loadGlobal_builtin (by rw[I.ok.glob];exact I.mod.glob.keeps I.bk) hm (by rw[I.ok.blt];exact h1.keeps I.bk) ((h2 x hn).trans hv) h) hd
theorem zQ{x:Str}{v:V}{u:Value}{pos:Pos}(hg:Gl X x)(hm:X.mg x=some u)(r:RelV v u)(hd:(x==("__debug__":Str))=false:=by decide):PE X (.Name x pos) (tC v):=
 fun _ _ _ H _ I h=>zf0 I hg hm ⟨v,H,I,r,h⟩ hd
theorem zmz{x:Str}{v:V}{u:Value}{pos:Pos}(hg:Gl X x)(hm:X.mg x=none)(hv:uT x=some u)(r:RelV v u)(hn:x≠"__name__":=by decide)(hd:(x==("__debug__":Str))=false:=by decide):PE X (.Name x pos) (tC v):=
 fun _ _ _ H _ I h=>zcr I hg hm hv ⟨v,H,I,r,h⟩ hn hd
variable{a b:Expr}{ta tb:TE}{pos:Pos}
def PC(X:Cx)(op:CmpOp)(a b:Expr)(t:TE):Prop:=
 ∀(zp:List (Addr×Obj))(s:Shared)(σ:St)(H:Hp)(Q:VK),Inv X zp σ H s->t σ H Q->
  wpAny (model X.prog X.w) X.A (eval a X.env) (fun v s₁=>wpAny (model X.prog X.w) X.A (eval b X.env) (fun u s₂=>wpAny (model X.prog X.w) X.A (uU op v u) (EP X zp σ Q) X.xe s₂) X.xe s₁) X.xe s
theorem nobehind(b:Expr){op:CmpOp}(h:op≠.In)(h2:op≠.NotIn):behindInMarks op b=false:=by
 have e1:(op==CmpOp.In)=false:=by cases op<;>first|rfl|exact absurd rfl h
 have e2:(op==CmpOp.NotIn)=false:=by cases op<;>first|rfl|exact absurd rfl h2
 cases b<;>simp[behindInMarks,e1,e2]
def tIsN(ta:TE):TE:=fun σ H Q=>ta σ H fun x H1=>Q (.bl (decide (x=.non))) H1
def znB(ta:TE):TE:=fun σ H Q=>ta σ H fun x H1=>Q (.bl (!decide (x=.non))) H1
theorem RelV.none_iff{x:V}{v:Value}(r:RelV x v):(v==Value.none)=decide (x=.non):=by
 cases x with
 |non=>cases r;rfl
 |bl _=>cases r;rfl
 |int _=>obtain⟨t,rfl⟩:=r;rfl
 |str _=>obtain⟨t,rfl⟩:=r;rfl
 |byt _=>obtain⟨t,rfl⟩:=r;rfl
 |flt _=>obtain⟨t,rfl⟩:=r;rfl
 |ref _=>cases r;rfl
 |ty _=>cases r;rfl
theorem zcs {j pos'} (ha:PE X a ta):PC X .Is a (.Constant .none j pos') (tIsN ta):=by
 intro zp s σ H Q I h
 refine thn (ha zp s σ H _ I h) fun v s1 ⟨x,H1,I1,r1,q1⟩=>?_
 exact Constant_none (is_none_gen ⟨.bl _,H1,I1,by rw[r1.none_iff];rfl,q1⟩)
theorem zbd {j pos'} (ha:PE X a ta):PC X .IsNot a (.Constant .none j pos') (znB ta):=by
 intro zp s σ H Q I h
 refine thn (ha zp s σ H _ I h) fun v s1 ⟨x,H1,I1,r1,q1⟩=>?_
 exact Constant_none (isnot_none_gen ⟨.bl _,H1,I1,by rw[r1.none_iff];rfl,q1⟩)
def tB(t:TE):TT:=fun σ H Q=>t σ H fun x H1=>∃c,x=.bl c/\Q c H1
theorem zct{op:CmpOp}{t:TE}(h:PC X op a b t)(h1:behindInMarks op b=false:=by first|exact nobehind _ (by decide) (by decide)|rfl):PE X (.Compare a [op] [b] pos) t:=fun zp s σ H Q I hw=>wpAny_Compare1 (h zp s σ H Q I hw) h1
theorem zbs{op:CmpOp}{t:TE}(h:PC X op a b t)(h1:behindInMarks op b=false:=by first|exact nobehind _ (by decide) (by decide)|rfl):PT X (.Compare a [op] [b] pos) (tB t):=by
 intro zp s σ H Q I hw
 refine wpAny_isTrue_Compare1 (thn (h zp s σ H _ I hw) fun v s1 h1=>thn h1 fun u s2 h2=>thn h2 fun c s3 ⟨x,H1,I1,r1,q1⟩=>?_) h1
 obtain⟨d,rfl,q⟩:=q1
 cases r1
 exact wpAny_truthy_bool ⟨H1,I1,q⟩
theorem zG{e:Expr}{t:TE}(h:PE X e t)(he:∀whole,isTrue e X.env whole=(do let v ←whole;standAt e.pos;holding [v] (truthy v)):=by intro _;rfl):PT X e (tB t):=by
 intro zp s σ H Q I hw
 refine isTrue_plain (thn (h zp s σ H _ I hw) fun v s1 ⟨x,H1,I1,r1,q1⟩=>?_) (he _)
 obtain⟨d,rfl,q⟩:=q1
 cases r1
 exact wpAny_truthy_bool ⟨H1,I1,q⟩
variable{tA tB':TT}{rest:List Expr}
def tAnd(t u:TT):TT:=fun σ H Q=>t σ H fun c H1=>if c=true then u σ H1 Q else Q false H1
def tOr(t u:TT):TT:=fun σ H Q=>t σ H fun c H1=>if c=true then Q true H1 else u σ H1 Q
def tNot(t:TT):TT:=fun σ H Q=>t σ H fun c H1=>Q (!c) H1
theorem zcu(ha:PT X a tA):PW X (.BoolOp .And [a] pos) tA:=by
 intro wh zp s σ H Q I h
 refine isTrue_and (thn (ha zp s σ H Q I h) fun c s1 e=>?_)
 cases c with
 |true=>exact isTrue_and_nil e
 |false=>exact e
theorem ZI(ha:PT X a tA):PW X (.BoolOp .Or [a] pos) tA:=by
 intro wh zp s σ H Q I h
 refine isTrue_or (thn (ha zp s σ H Q I h) fun c s1 e=>?_)
 cases c with
 |false=>exact isTrue_or_nil e
 |true=>exact e
theorem ze3(ha:PT X a tA)(hb:PW X (.BoolOp .And (b::rest) pos) tB'):PW X (.BoolOp .And (a::b::rest) pos) (tAnd tA tB'):=by
 intro wh zp s σ H Q I h
 refine isTrue_and (thn (ha zp s σ H _ I h) fun c s1 ⟨H1,I1,q1⟩=>?_)
 cases c with
 |true=>exact hb wh zp s1 σ H1 Q I1 q1
 |false=>exact⟨H1,I1,q1⟩
theorem ZX(ha:PT X a tA)(hb:PW X (.BoolOp .Or (b::rest) pos) tB'):PW X (.BoolOp .Or (a::b::rest) pos) (tOr tA tB'):=by
 intro wh zp s σ H Q I h
 refine isTrue_or (thn (ha zp s σ H _ I h) fun c s1 ⟨H1,I1,q1⟩=>?_)
 cases c with
 |true=>exact⟨H1,I1,q1⟩
 |false=>exact hb wh zp s1 σ H1 Q I1 q1
theorem zT(ha:PT X a tA):PT X (.UnaryOp .Not a pos) (tNot tA):=by
 intro zp s σ H Q I h
 exact isTrue_not (ha zp s σ H (fun c H1=>Q (!c) H1) I h)
def znC(ta tb:TE):TE:=fun σ H Q=>ta σ H fun x H1=>∃c,x=.bl c/\if c=true then tb σ H1 Q else Q (.bl false) H1
def tOrV(ta tb:TE):TE:=fun σ H Q=>ta σ H fun x H1=>∃c,x=.bl c/\if c=true then Q (.bl true) H1 else tb σ H1 Q
def zoC(ta:TE):TE:=fun σ H Q=>ta σ H fun x H1=>∃c,x=.bl c/\Q (.bl (!c)) H1
theorem zZ {op}{t:TE} (h:PE X a t):PE X (.BoolOp op [a] pos) t:=fun zp s σ H Q I hw=>BoolOp_one (h zp s σ H Q I hw)
theorem zU(ha:PE X a ta)(hb:PE X (.BoolOp .And (b::rest) pos) tb):PE X (.BoolOp .And (a::b::rest) pos) (znC ta tb):=by
 intro zp s σ H Q I h
 refine BoolOp_and (thn (ha zp s σ H _ I h) fun v s1 ⟨x,H1,I1,r1,q1⟩=>?_)
 obtain⟨c,rfl,q1⟩:=q1
 cases r1
 refine wpAny_truthy_bool ?_
 cases c with
 |true=>exact hb zp s1 σ H1 Q I1 q1
 |false=>exact⟨.bl false,H1,I1,rfl,q1⟩
theorem zkF(ha:PE X a ta)(hb:PE X (.BoolOp .Or (b::rest) pos) tb):PE X (.BoolOp .Or (a::b::rest) pos) (tOrV ta tb):=by
 intro zp s σ H Q I h
 refine BoolOp_or (thn (ha zp s σ H _ I h) fun v s1 ⟨x,H1,I1,r1,q1⟩=>?_)
 obtain⟨c,rfl,q1⟩:=q1
 cases r1
 refine wpAny_truthy_bool ?_
 cases c with
 |false=>exact hb zp s1 σ H1 Q I1 q1
 |true=>exact⟨.bl true,H1,I1,rfl,q1⟩
theorem znD(ha:PE X a ta):PE X (.UnaryOp .Not a pos) (zoC ta):=by
 intro zp s σ H Q I h
 refine UnaryOp_ (thn (ha zp s σ H _ I h) fun v s1 ⟨x,H1,I1,r1,q1⟩=>?_)
 obtain⟨c,rfl,q1⟩:=q1
 cases r1
 exact not_of (wpAny_truthy_bool ⟨.bl (!c),H1,I1,rfl,q1⟩)
def tIf(t:TT)(ta tb:TE):TE:=fun σ H Q=>t σ H fun c H1=>if c=true then ta σ H1 Q else tb σ H1 Q
theorem Zp{c:Expr}(hc:PT X c tA)(ha:PE X a ta)(hb:PE X b tb):PE X (.IfExp c a b pos) (tIf tA ta tb):=by
 intro zp s σ H Q I h
 refine wpAny_IfExp (thn (hc zp s σ H _ I h) fun d s1 ⟨H1,I1,q1⟩=>?_)
 cases d with
 |true=>exact ha zp s1 σ H1 Q I1 q1
 |false=>exact hb zp s1 σ H1 Q I1 q1
end
def SqL(K:uZ)(H:Hp)(a:Addr)(xs:List V):Prop:=
 Rd H a (.lst xs) \/
  ∃(o:Obj)(its:Array Value)(n:Nat),K.lookup a=some o/\o.cls=.type "list"/\o.dict=none/\o.data=.seq its n/\its.size<=uQ/\Vals xs its.toList
def SqT(K:uZ)(H:Hp)(a:Addr)(xs:List V):Prop:=
 Rd H a (.tup xs) \/
  ∃(o:Obj)(its:Array Value)(n:Nat),K.lookup a=some o/\o.cls=.type "tuple"/\o.data=.seq its n/\its.size<=uQ/\Vals xs its.toList
noncomputable def absV:Value->Option V
 |.none=>some .non
 |.bool b=>some (.bl b)
 |.int i _=>some (.int i)
 |.str x _=>some (.str x)
 |.bytes b _=>some (.byt b)
 |.float b _=>some (.flt b)
 |.ref a=>some (.ref a)
 |.type n=>some (.ty n)
 |_=>none
theorem RelV.abs{x:V}{u:Value}(r:RelV x u):absV u=some x:=by
 cases x with
 |non=>cases r;rfl
 |bl _=>cases r;rfl
 |int _=>obtain⟨t,rfl⟩:=r;rfl
 |str _=>obtain⟨t,rfl⟩:=r;rfl
 |byt _=>obtain⟨t,rfl⟩:=r;rfl
 |flt _=>obtain⟨t,rfl⟩:=r;rfl
 |ref _=>cases r;rfl
 |ty _=>cases r;rfl
theorem RelV.inj{x y:V}{u:Value}(r:RelV x u)(q:RelV y u):x=y:=Option.some.inj (r.abs.symm.trans q.abs)
theorem Vals.inj:∀{xs ys:List V}{us:List Value},Vals xs us->Vals ys us->xs=ys
 |_,_,_,.nil,.nil=>rfl
 |_,_,_,.cons r t,.cons r' t'=>by rw[r.inj r',Vals.inj t t']
section
variable{X:Cx}{zp:List (Addr×Obj)}{σ:St}{H:Hp}{s:Shared}{a:Addr}{xs ys:List V}
theorem Sl{K:uZ}(h:H a=some (.lst xs)):SqL K H a xs:=.inl (.inl h)
theorem Sq{K:uZ}(h:H a=some (.tup xs)):SqT K H a xs:=.inl (.inl h)
theorem Inv.list(I:Inv X zp σ H s)(h:SqL X.K H a xs):∃its:List Value,Vals xs its/\PlainL s.heap a its.toArray/\xs.length<=uQ:=by
 rcases h with h|⟨o,its,n,hk,hc,hd,hs,hz,r⟩
 ·obtain⟨z,its,n,r,e⟩:=h.ok I.hok
  exact⟨its,r,⟨_,n,e,rfl,rfl,rfl⟩,z⟩
 ·refine⟨its.toList,r,⟨o,n,I.kIn a o hk,hc,hd,by simpa using hs⟩,?_⟩
  have e:=r.length
  simp only[xE] at e
  lia
theorem Inv.tuple(I:Inv X zp σ H s)(h:SqT X.K H a xs):∃its:List Value,Vals xs its/\IsTup s.heap a its.toArray/\xs.length<=uQ:=by
 rcases h with h|⟨o,its,n,hk,hc,hs,hz,r⟩
 ·obtain⟨z,its,r,p⟩:=h.ok I.hok
  exact⟨its,r,p,z⟩
 ·refine⟨its.toList,r,⟨o,I.kIn a o hk,hc,n,by simpa using hs⟩,?_⟩
  have e:=r.length
  simp only[xE] at e
  lia
theorem Inv.list_inj(I:Inv X zp σ H s)(h:SqL X.K H a xs)(h':SqL X.K H a ys):xs=ys:=by
 obtain⟨its,r,⟨o,n,e,_,_,d⟩,_⟩:=I.list h
 obtain⟨its',r',⟨o',n',e',_,_,d'⟩,_⟩:=I.list h'
 rw[e] at e';cases e'
 rw[d] at d'
 injection d' with d1 _
 have:its=its':=by simpa using congrArg Array.toList d1
 subst this
 exact r.inj r'
theorem Inv.tuple_inj(I:Inv X zp σ H s)(h:SqT X.K H a xs)(h':SqT X.K H a ys):xs=ys:=by
 obtain⟨its,r,⟨o,e,_,n,d⟩,_⟩:=I.tuple h
 obtain⟨its',r',⟨o',e',_,n',d'⟩,_⟩:=I.tuple h'
 rw[e] at e';cases e'
 rw[d] at d'
 injection d' with d1 _
 have:its=its':=by simpa using congrArg Array.toList d1
 subst this
 exact r.inj r'
end
abbrev Cx.wish(X:Cx)(E:Value->Shared->Prop):Cx:={X with xe:=E}
abbrev Cx.nox(X:Cx):Cx:=X.wish fun _ _=>False
theorem Cx.Ok.wish{X:Cx}(ok:X.Ok)(E:Value->Shared->Prop):(X.wish E).Ok:=
 ⟨ok.mod,ok.kind,ok.glob,ok.blt,ok.above,ok.inj,ok.has,ok.cab,ok.hd,ok.frames,ok.stk,ok.exf,ok.bs,ok.bsz,ok.noex,ok.exfs,ok.funs,ok.frf⟩
theorem Cx.Ok.unwish{X:Cx}{E:Value->Shared->Prop}(ok:(X.wish E).Ok):X.Ok:=
 ⟨ok.mod,ok.kind,ok.glob,ok.blt,ok.above,ok.inj,ok.has,ok.cab,ok.hd,ok.frames,ok.stk,ok.exf,ok.bs,ok.bsz,ok.noex,ok.exfs,ok.funs,ok.frf⟩
section
variable{X:Cx}{zp:List (Addr×Obj)}{σ:St}{H:Hp}{s:Shared}{E:Value->Shared->Prop}
theorem Inv.wish(I:Inv X zp σ H s)(E:Value->Shared->Prop):Inv (X.wish E) zp σ H s:=⟨I.ok.wish E,I.os,I.bare,I.base,I.loc,I.cell,I.free,I.freeC,I.pin,I.hok,I.len⟩
theorem Inv.unwish(I:Inv (X.wish E) zp σ H s):Inv X zp σ H s:=⟨I.ok.unwish,I.os,I.bare,I.base,I.loc,I.cell,I.free,I.freeC,I.pin,I.hok,I.len⟩
theorem SP.unwish{D:Ends}{f:Flow}{s':Shared}(h:SP (X.wish E) zp D f s'):SP X zp D f s':=by
 cases f with
 |next=>obtain⟨σ',H',I,q⟩:=h;exact⟨σ',H',I.unwish,q⟩
 |brk=>obtain⟨σ',H',I,q⟩:=h;exact⟨σ',H',I.unwish,q⟩
 |cont=>obtain⟨σ',H',I,q⟩:=h;exact⟨σ',H',I.unwish,q⟩
 |ret u=>obtain⟨v,σ',H',I,r,q⟩:=h;exact⟨v,σ',H',I.unwish,r,q⟩
theorem PSs.nox{st:List Stmt}{t:TS}(h:PSs X.nox st t):PSs X st t:=fun zp s σ H D I hw=>
 wpAny_mono (h zp s σ H D (I.wish _) hw) (fun _ _ q=>q.unwish) fun _ _ z=>False.elim z
end
section
variable{X:Cx}{st:Stmt}{rest:List Stmt}{t u:TS}{e:Expr}{te:TE}{pos:Pos}
def zhJ:TS:=fun D σ H=>D.nx σ H
def tSeq(t u:TS):TS:=fun D σ H=>t {D with nx:=u D} σ H
theorem zt:PSs X [] zhJ:=fun _ _ σ H _ I h=>wpAny_execs_nil ⟨σ,H,I,h⟩
theorem zd(h1:PS X st t)(h2:PSs X rest u):PSs X (st::rest) (tSeq t u):=by
 intro zp s σ H D I h
 refine wpAny_execs_cons (thn (h1 zp s σ H {D with nx:=u D} I h) fun f s1 q=>?_)
 cases f with
 |next=>
  obtain⟨σ',H',I',q⟩:=q
  exact h2 zp s1 σ' H' D I' q
 |ret v=>exact q
 |brk=>exact q
 |cont=>exact q
theorem zf(h1:PS X st t):PSs X [st] t:=by
 intro zp s σ H D I h
 refine wpAny_execs_cons (thn (h1 zp s σ H D I h) fun f s1 q=>?_)
 cases f with
 |next=>exact wpAny_execs_nil q
 |ret v=>exact q
 |brk=>exact q
 |cont=>exact q
theorem Inv.quiet{zp:List (Addr×Obj)}{σ:St}{H:Hp}{s:Shared}(I:Inv X zp σ H s):interactive X.env=false:=by simp[interactive,I.ok.kind]
def znE(te:TE):TS:=fun D σ H=>te σ H fun _ H1=>D.nx σ H1
theorem Zc(he:PE X e te)(hs:swapsWith e none pos.line X.env=pure false:=by rfl):PS X (.Expr e pos) (znE te):=by
 intro zp s σ H D I h
 exact wpAny_Expr_any (thn (he zp s σ H _ I h) fun v s1 ⟨x,H1,I1,r1,q1⟩=>⟨σ,H1,I1,q1⟩) I.quiet hs
def tRet(te:TE):TS:=fun D σ H=>te σ H D.rt
theorem zj(he:PE X e te):PS X (.Return (some e) pos) (tRet te):=by
 intro zp s σ H D I h
 exact wpAny_Return_some (thn (he zp s σ H _ I h) fun v s1 ⟨x,H1,I1,r1,q1⟩=>⟨x,σ,H1,I1,r1,q1⟩)
def tIfS(c:TT)(t u:TS):TS:=fun D σ H=>c σ H fun b H1=>if b=true then t D σ H1 else u D σ H1
theorem zD{c:Expr}{a b:List Stmt}{tc:TT}(hc:PT X c tc)(ha:PSs X a t)(hb:PSs X b u):PS X (.If c a b pos) (tIfS tc t u):=by
 intro zp s σ H D I h
 refine wpAny_If (thn (hc zp s σ H _ I h) fun d s1 ⟨H1,I1,q1⟩=>?_)
 cases d with
 |true=>exact ha zp s1 σ H1 D I1 q1
 |false=>exact hb zp s1 σ H1 D I1 q1
end
abbrev TG:=V->St->Hp->(St->Hp->Prop)->Prop
abbrev TGs:=List V->St->Hp->(St->Hp->Prop)->Prop
def PG(X:Cx)(target:Expr)(t:TG):Prop:=
 ∀(zp:List (Addr×Obj))(s:Shared)(σ:St)(H:Hp)(v:V)(u:Value)(Q:St->Hp->Prop),Inv X zp σ H s->RelV v u->t v σ H Q->
  wpAny (model X.prog X.w) X.A (assign target X.env u) (fun _ s'=>∃σ' H',Inv X zp σ' H' s'/\Q σ' H') X.xe s
def PGs(X:Cx)(ts:List Expr)(t:TGs):Prop:=
 ∀(zp:List (Addr×Obj))(s:Shared)(σ:St)(H:Hp)(vs:List V)(us:List Value)(Q:St->Hp->Prop),Inv X zp σ H s->Vals vs us->t vs σ H Q->
  wpAny (model X.prog X.w) X.A (assignInOrder ((assignEach ts X.env).map (·.2)) us) (fun _ s'=>∃σ' H',Inv X zp σ' H' s'/\Q σ' H') X.xe s
abbrev TSet:=V->V->V->Hp->(Hp->Prop)->Prop
def PSet(X:Cx)(t:TSet):Prop:=
 ∀(zp:List (Addr×Obj))(s:Shared)(σ:St)(H:Hp)(o i v:V)(ov iv u:Value)(Q:Hp->Prop),Inv X zp σ H s->RelV o ov->RelV i iv->RelV v u->t o i v H Q->
  wpAny (model X.prog X.w) X.A (setItem ov iv u) (fun _ s'=>∃H',Inv X zp σ H' s'/\Q H') X.xe s
abbrev TIp:=V->V->Hp->VK->Prop
def PIp(X:Cx)(op:Operator)(t:TIp):Prop:=
 ∀(zp:List (Addr×Obj))(s:Shared)(σ:St)(H:Hp)(x y:V)(v u:Value)(Q:VK),Inv X zp σ H s->RelV x v->RelV y u->t x y H Q->
  wpAny (model X.prog X.w) X.A (inplaceOp op v u) (EP X zp σ Q) X.xe s
section
variable{X:Cx}{pos:Pos}
def Zj(i:Nat):TG:=fun v σ H Q=>Q (σ.set i (some v)) H
theorem zX{i:Nat}{x:Str}(hN:X.N.Nodup)(hi:X.N[i]?=some x)(hx:Loc X.env.scope x)(hf:X.fn x=true\/X.env.scope.names.lookup x=some .local:=by first|exact .inl rfl|exact .inr rfl|assumption):PG X (.Name x pos) (Zj i):=by
 intro zp s σ H v u Q I r h
 exact wpAny_assign_Name (zd0 I hN hi hx r (fun s' I'=>⟨_,H,I',h⟩) hf)
noncomputable def gNil:TGs:=fun vs σ H Q=>vs=[]/\Q σ H
noncomputable def znF(t:TG)(u:TGs):TGs:=fun vs σ H Q=>∃v r,vs=v::r/\t v σ H fun σ' H'=>u r σ' H' Q
theorem zaN:PGs X [] gNil:=by
 intro zp s σ H vs us Q I r h
 obtain⟨e,h⟩:=h
 subst e
 cases r
 exact assignInOrder_nil ⟨σ,H,I,h⟩
theorem Zd{e:Expr}{es:List Expr}{t:TG}{u:TGs}(h1:PG X e t)(h2:PGs X es u)
  (hs:(assignEach (e::es) X.env).map (·.2)=assign e X.env::(assignEach es X.env).map (·.2):=by rfl):PGs X (e::es) (znF t u):=by
 intro zp s σ H vs us Q I r h
 obtain⟨v,vr,e1,h⟩:=h
 subst e1
 cases r with
 |cons r rr=>
  rw[hs]
  refine assignInOrder_cons (thn (h1 zp s σ H _ _ _ I r h) fun _ s1 ⟨σ1,H1,I1,q1⟩=>?_)
  exact h2 zp s1 σ1 H1 _ _ Q I1 rr q1
def gTup(K:uZ)(n:Nat)(t:TGs):TG:=fun v σ H Q=>∃a xs,v=.ref a/\SqT K H a xs/\xs.length=n/\t xs σ H Q
theorem za7{es:List Expr}{k:Nat}{t:TGs}{n:Nat}(hc:X.calm=true)(h:PGs X es t)
  (hn:(assignEach es X.env).length=n:=by rfl) (hst:(assignEach es X.env).findIdx? (·.1)=none:=by rfl):PG X (.Tuple es k pos) (gTup X.K n t):=by
 intro zp s σ H v u Q I r hw
 obtain⟨a,xs,e1,hq,hl,hw⟩:=hw
 subst e1
 cases r
 obtain⟨its,rv,ht,hz⟩:=I.tuple hq
 refine assign_Tuple_tuple (I.ok.hd hc) ht (by simp[hn,←hl,rv.length]) hst fun h' hx=>?_
 have I1:Inv X zp σ H {s with heap:=h'}:=I.kept (t':=s.toks) fun b o e=>hx b o (yI (uM e)) e
 exact h zp _ σ H xs _ Q I1 (by simpa using rv) hw
def gSub(to ti:TE)(t:TSet):TG:=fun v σ H Q=>to σ H fun o H1=>ti σ H1 fun i H2=>t o i v H2 fun H3=>Q σ H3
theorem zcv{o i:Expr}{to ti:TE}{t:TSet}(ho:PE X o to)(hi:PE X i ti)(hs:PSet X t)
  (ha:∀v,assign (.Subscript o i pos) X.env v=(do
   let ov ←holding [v] (eval o X.env)
   let iv ←holding [v,ov] (eval i X.env)
   standAt pos
   holding [v,ov,iv] (setItem ov iv v)
   release [v,ov,iv] []):=by intro _;rfl):PG X (.Subscript o i pos) (gSub to ti t):=by
 intro zp s σ H v u Q I r h
 rw[ha]
 refine uJ (wpAny_holding (thn (ho zp s σ H _ I h) fun ov s1 ⟨x,H1,I1,r1,q1⟩=>?_))
 refine uJ (wpAny_holding (thn (hi zp s1 σ H1 _ I1 q1) fun iv s2 ⟨y,H2,I2,r2,q2⟩=>?_))
 refine uJ (wpAny_standAt (uJ (wpAny_holding (thn (hs zp s2 σ H2 x y v ov iv u _ I2 r1 r2 r q2) fun _ s3 ⟨H3,I3,q3⟩=>?_))))
 exact wpAny_release ⟨σ,H3,I3,q3⟩
def tAsg(te:TE)(g:TG):TS:=fun D σ H=>te σ H fun x H1=>g x σ H1 D.nx
theorem zau{tg e:Expr}{te:TE}{g:TG}(he:PE X e te)(hg:PG X tg g)(hs:swapsWithSole [tg] e pos.line X.env=pure false:=by rfl)(hw:swappedStores [tg] e X.env=pure none:=by rfl)
  (h1:(assignEach [tg] X.env).map (·.2)=[assign tg X.env]:=by rfl):PS X (.Assign [tg] e pos) (tAsg te g):=by
 intro zp s σ H D I h
 refine wpAny_Assign_stores (thn (he zp s σ H _ I h) fun v s1 ⟨x,H1,I1,r1,q1⟩=>?_) hs hw
 rw[h1]
 exact thn (hg zp s1 σ H1 x v _ I1 r1 q1) fun _ s2 q=>q
theorem zx{i:Nat}{x:Str}{e:Expr}{te:TE}{pos':Pos}(hN:X.N.Nodup)(hi:X.N[i]?=some x)(hx:Loc X.env.scope x)(he:PE X e te)(hs:swapsWith e (some (.Name x pos')) pos.line X.env=pure false:=by rfl)(hf:X.fn x=true\/X.env.scope.names.lookup x=some .local:=by first|exact .inl rfl|exact .inr rfl|assumption):
  PS X (.Assign [.Name x pos'] e pos) (tAsg te (Zj i)):=by
 intro zp s σ H D I h
 refine wpAny_Assign_Name (thn (he zp s σ H _ I h) fun v s1 ⟨y,H1,I1,r1,q1⟩=>?_) hs
 exact zd0 I1 hN hi hx r1 (fun s2 I2=>⟨_,H1,I2,q1⟩) hf
def tAug(i:Nat)(te:TE)(ti:TIp):TS:=fun D σ H=>∃x,σ[i]?=some (some x)/\te σ H fun y H1=>ti x y H1 fun z H2=>D.nx (σ.set i (some z)) H2
theorem ze4{i:Nat}{x:Str}{e:Expr}{te:TE}{op:Operator}{ti:TIp}{pos':Pos}(hN:X.N.Nodup)(hi:X.N[i]?=some x)(hx:Loc X.env.scope x)(he:PE X e te)(ho:PIp X op ti)(hf:X.fn x=true\/X.env.scope.names.lookup x=some .local:=by first|exact .inl rfl|exact .inr rfl|assumption):
  PS X (.AugAssign (.Name x pos') op e pos) (tAug i te ti):=by
 intro zp s σ H D I h
 obtain⟨v,e1,h⟩:=h
 obtain⟨m,hn,hl⟩:=I.loc
 have vis:Vis X.env.scope x:=by rcases hx with k|k;exact .inl k;exact .inr (.inl k)
 obtain⟨u,r,l⟩:=hl i x v hi e1 vis
 refine wpAny_AugAssign_Name ?_
 have go:wpAny (model X.prog X.w) X.A (eval e X.env) (fun w s₂=>wpAny (model X.prog X.w) X.A (inplaceOp op u w) (fun r s₃=>wpAny (model X.prog X.w) X.A (storeName X.env x r) (fun _=>SP X zp D .next) X.xe s₃) X.xe s₂) X.xe s:=by
  refine thn (he zp s σ H _ I h) fun w s1 ⟨y,H1,I1,r1,q1⟩=>?_
  refine thn (ho zp s1 σ H1 v y u w _ I1 r r1 q1) fun z s2 ⟨zv,H2,I2,r2,q2⟩=>?_
  exact zd0 I2 hN hi hx r2 (fun s3 I3=>⟨_,H2,I3,q2⟩) hf
 rcases l with⟨hk,hm⟩|⟨hk,c,hc,hcell⟩
 ·exact wpAny_loadName_local I.ok.kind hk hn hm go
 ·rcases hk with hk|hk
  ·exact wpAny_loadName_cell I.ok.kind hk hc hcell go
  ·rcases hx with k|k
   ·have:X.env.scope.names.lookup x=some .free:=hk
    rw[k] at this;cases this
   ·have:X.env.scope.names.lookup x=some .free:=hk
    rw[k] at this;cases this
end
section
variable{X:Cx}{pos:Pos}
def zlM(c:TT)(tb:TS):TS:=fun D σ H=>∃W:Nat->St->Hp->Prop,(∃m,W m σ H)/\∀m σ H,W m σ H->
 c σ H fun b H1=>if b=true then ∃N:St->Hp->Prop,(∀σ' H',N σ' H'->∃m',m'<m/\W m' σ' H')/\tb {D with nx:=N,ct:=N,bk:=D.nx} σ H1 else D.nx σ H1
theorem zbt{c:Expr}{body:List Stmt}{tc:TT}{tb:TS}(hp:PassesOwn (model X.prog X.w) X.A X.env X.xe)(hc:PT X c tc)(hb:PSs X body tb):PS X (.While c body [] pos) (zlM tc tb):=by
 intro zp s σ H D I h
 obtain⟨W,⟨m0,w0⟩,turn⟩:=h
 refine wpAny_While (codeAny_whileLoop (fun n s'=>∃σ' H',Inv X zp σ' H' s'/\W n σ' H') ?_ m0 ⟨σ,H,I,w0⟩)
 rintro n s1 ⟨σ1,H1,I1,w1⟩
 refine wpAny_passesOwn hp (thn (hc zp s1 σ1 H1 _ I1 (turn n σ1 H1 w1)) fun b s2 ⟨H2,I2,q2⟩=>?_)
 cases b with
 |true=>
  obtain⟨N,hN,q2⟩:=q2
  rw[if_pos rfl]
  refine wpAny_passesOwn hp (thn (hb zp s2 σ1 H2 _ I2 q2) fun f s3 q3=>?_)
  cases f with
  |next=>
   obtain⟨σ3,H3,I3,n3⟩:=q3
   obtain⟨m',hm,w3⟩:=hN σ3 H3 n3
   exact⟨m',hm,σ3,H3,I3,w3⟩
  |cont=>
   obtain⟨σ3,H3,I3,n3⟩:=q3
   obtain⟨m',hm,w3⟩:=hN σ3 H3 n3
   exact⟨m',hm,σ3,H3,I3,w3⟩
  |brk=>exact q3
  |ret v=>exact q3
 |false=>
  rw[if_neg yH]
  exact wpAny_execs_nil ⟨σ1,H2,I2,q2⟩
end
structure It where
 go:Nat->Hp->Prop
 yld:Nat->Hp->V->Hp->Prop
 stop:Nat->Hp->Prop
def FpOk(X:Cx)(zp:List (Addr×Obj))(H:Hp)(b:Addr):Prop:=
 H b=none/\b≠X.env.locals/\b ∉ X.fs/\(b∈X.ex\/X.s₀.heap.objs.size<=b)/\(∀x c,X.env.cells.lookup x=some c->c≠b)/\∀p∈X.pn++zp,p.1≠b
theorem Inv.fpOk{X:Cx}{zp:List (Addr×Obj)}{σ:St}{H H':Hp}{s:Shared}{b:Addr}(I:Inv X zp σ H s)(hb:s.heap.objs.size<=b)(hn:H' b=none):FpOk X zp H' b:=by
 refine⟨hn,xV (yP I.lt hb),I.nofs hb,.inr (yM I.sz hb),fun x c e z=>?_,fun p hp z=>?_⟩
 ·obtain⟨v,q⟩:=I.cell x c e
  exact absurd (yP q.lt (by rw[z];exact hb)) (xD _)
 ·exact absurd (yP (uM (I.pin p hp).1) (by rw[z];exact hb)) (xD _)
structure Turn(P:Program)(w:World)(K:uZ)(tg:Expr)(J:It)(fp:List Addr)(it:Addr)(tn:Nat->Heap->Prop):Prop where
 mem:it∈fp
 obj:∀i h,tn i h->∀b∈fp,∃o,h.get? b=some o/\∀v,o.data≠.cell v
 keep:∀i h h',tn i h->(∀b∈fp,∀o,h.get? b=some o->h'.get? b=some o)->tn i h'
 item:∀(X:Cx),X.prog=P->X.w=w->X.K=K->X.calm=true->∀(i:Nat)(zp:List (Addr×Obj))(s:Shared)(σ:St)(H:Hp)(E:Value->Shared->Prop),Inv X zp σ H s->(∀b∈fp,FpOk X zp H b)->tn i s.heap->J.go i H->
  wpAny (model P w) X.A (pyNext (.ref it)) (fun r s1=>∃u,r=some u /\
   wpAny (model P w) X.A (letOwnedTupleGo tg (.ref it) u) (fun _ s2=>∃x H',Inv X zp σ H' s2/\RelV x u/\J.yld i H x H'/\tn (i+1) s2.heap/\∀b∈fp,H' b=none) E s1) E s
 done:∀(X:Cx),X.prog=P->X.w=w->X.K=K->X.calm=true->∀(i:Nat)(zp:List (Addr×Obj))(s:Shared)(σ:St)(H:Hp)(E:Value->Shared->Prop),Inv X zp σ H s->(∀b∈fp,FpOk X zp H b)->tn i s.heap->J.stop i H->
  wpAny (model P w) X.A (pyNext (.ref it)) (fun r s1=>r=none/\Inv X zp σ H s1) E s
 self:∀(A:Around)(i:Nat)(s:Shared)(Q:Value->Shared->Prop)(E:Value->Shared->Prop),tn i s.heap->Q (.ref it) s->wpAny (model P w) A (pyIter (.ref it)) Q E s
abbrev TI:=St->Hp->(It->Hp->Prop)->Prop
def PIE(X:Cx)(zp:List (Addr×Obj))(σ:St)(tg:Expr)(R:It->Hp->Prop)(itv:Value)(s2:Shared):Prop:=
 ∃(it:Addr)(fp:List Addr)(tn:Nat->Heap->Prop)(J:It)(H':Hp),itv=.ref it/\Inv X zp σ H' s2/\Turn X.prog X.w X.K tg J fp it tn/\tn 0 s2.heap/\(∀b∈fp,FpOk X zp H' b)/\R J H'
def PI(X:Cx)(tg iter:Expr)(wi:TI):Prop:=
 ∀(zp:List (Addr×Obj))(s:Shared)(σ:St)(H:Hp)(R:It->Hp->Prop),Inv X zp σ H s->wi σ H R->
  wpAny (model X.prog X.w) X.A (eval iter X.env) (fun v s1=>wpAny (model X.prog X.w) X.A (pyIter v) (PIE X zp σ tg R) X.xe s1) X.xe s
theorem zkG{M:Model}{A:Around}{E:Value->Shared->Prop}{s:Shared}{tg:Expr}{it:Addr}{u:Value}{o:Obj}{n:String}{vs:Array Value}{Q:Unit->Shared->Prop}(ho:s.heap.get? it=some o)(hc:o.cls=.type n)(hd:o.data=.fields vs)
  (hn:["enumerate","zip","dict_itemiterator","dict_reverseitemiterator","odict_iterator","itertools.zip_longest","itertools.pairwise"].contains n=false) (hQ:Q () s):wpAny M A (letOwnedTupleGo tg (.ref it) u) Q E s:=by
 unfold letOwnedTupleGo
 cases tg<;>first
  |exact uK hQ
  |(
    cases u<;>first
    |exact uK hQ
    |(
      refine uJ (wpAny_load ho ?_)
      rw[hc,hd]
      show wpAny M A (if (["enumerate","zip","dict_itemiterator","dict_reverseitemiterator","odict_iterator","itertools.zip_longest","itertools.pairwise"].contains n&&vs[0]? == some (rawInt _))=true then _ else _) Q E s
      rw[if_neg (by intro h;rw[hn,wS] at h;cases h)]
      exact uK hQ))
noncomputable def Itl(K:uZ)(a:Addr):It:=
 ⟨fun i H=>∃xs x,SqL K H a xs/\xs[i]?=some x,fun i H x H'=>H'=H/\∀xs,SqL K H a xs->xs[i]?=some x,fun i H=>∃xs,SqL K H a xs/\xs.length<=i⟩
noncomputable def Itt(K:uZ)(a:Addr):It:=
 ⟨fun i H=>∃xs x,SqT K H a xs/\xs[i]?=some x,fun i H x H'=>H'=H/\∀xs,SqT K H a xs->xs[i]?=some x,fun i H=>∃xs,SqT K H a xs/\xs.length<=i⟩
noncomputable def Itr(lo:Int)(n:Nat):It:=⟨fun i _=>i<n,fun i H x H'=>H'=H/\x=.int (lo+i),fun i _=>n<=i⟩
theorem ziG{P:Program}{w:World}{K:uZ}{tg:Expr}(a it:Addr):Turn P w K tg (Itl K a) [it] it (fun i h=>h.IsListIter it a i) where
 mem:=by simp
 obj:=fun i h st b hb=>by
  have e:b=it:=by simpa using hb
  subst e
  obtain⟨o,e,c,d⟩:=st
  exact⟨o,e,fun v z=>by rw[d] at z;cases z⟩
 keep:=fun i h h' st k=>st.at fun o e=>k it (by simp) o e
 item:=by
  intro X hP hw hK hc i zp s σ H E I hf st hg
  subst hP hw hK
  obtain⟨xs,x,hq,hx⟩:=hg
  obtain⟨its,rv,p,hz⟩:=I.list hq
  obtain⟨u,hu,ru⟩:=rv.get hx
  obtain⟨f0,f1,f2,f3,f4,f5⟩:=hf it (by simp)
  refine wpAny_pyNext_list_item st p.isList (x:=u) (by simpa using hu) fun h' st' sb=>?_
  have I1:Inv X zp σ H {s with heap:=h'}:=I.turned (t':=s.toks) (fun b o hb e=>(sb.2 b hb).trans e) f0 f1 f3 f4 f5
  obtain⟨o,e,c,d⟩:=id st'
  exact⟨u,rfl,zkG (s:={s with heap:=h'}) e c d (by decide) ⟨x,H,I1,ru,⟨rfl,fun ys hy=>by rw[I.list_inj hy hq];exact hx⟩,st',fun b hb=>(hf b hb).1⟩⟩
 done:=by
  intro X hP hw hK hc i zp s σ H E I hf st hg
  subst hP hw hK
  obtain⟨xs,hq,hx⟩:=hg
  obtain⟨its,rv,p,hz⟩:=I.list hq
  obtain⟨f0,f1,f2,f3,f4,f5⟩:=hf it (by simp)
  have hl:=rv.length
  exact wpAny_pyNext_list_end (I.ok.hd hc) st p.isList (by simp;lia) fun h' eb=>⟨rfl,I.turned (t':=s.toks) (fun b o hb e=>eb b o hb e) f0 f1 f3 f4 f5⟩
 self:=fun _ _ _ _ _ st h=>wpAny_pyIter_listiter st h
theorem zhK{P:Program}{w:World}{K:uZ}{tg:Expr}(a it:Addr):Turn P w K tg (Itt K a) [it] it (fun i h=>h.IsTupleIter it a i) where
 mem:=by simp
 obj:=fun i h st b hb=>by
  have e:b=it:=by simpa using hb
  subst e
  obtain⟨o,e,c,d⟩:=st
  exact⟨o,e,fun v z=>by rw[d] at z;cases z⟩
 keep:=fun i h h' st k=>st.at fun o e=>k it (by simp) o e
 item:=by
  intro X hP hw hK hc i zp s σ H E I hf st hg
  subst hP hw hK
  obtain⟨xs,x,hq,hx⟩:=hg
  obtain⟨its,rv,p,hz⟩:=I.tuple hq
  obtain⟨u,hu,ru⟩:=rv.get hx
  obtain⟨f0,f1,f2,f3,f4,f5⟩:=hf it (by simp)
  refine wpAny_pyNext_tuple_item st (show s.heap.IsTuple a its.toArray from p) (x:=u) (by simpa using hu) fun h' st' sb=>?_
  have I1:Inv X zp σ H {s with heap:=h'}:=I.turned (t':=s.toks) (fun b o hb e=>(sb.2 b hb).trans e) f0 f1 f3 f4 f5
  obtain⟨o,e,c,d⟩:=id st'
  exact⟨u,rfl,zkG (s:={s with heap:=h'}) e c d (by decide) ⟨x,H,I1,ru,⟨rfl,fun ys hy=>by rw[I.tuple_inj hy hq];exact hx⟩,st',fun b hb=>(hf b hb).1⟩⟩
 done:=by
  intro X hP hw hK hc i zp s σ H E I hf st hg
  subst hP hw hK
  obtain⟨xs,hq,hx⟩:=hg
  obtain⟨its,rv,p,hz⟩:=I.tuple hq
  obtain⟨f0,f1,f2,f3,f4,f5⟩:=hf it (by simp)
  have hl:=rv.length
  exact wpAny_pyNext_tuple_end (I.ok.hd hc) st (show s.heap.IsTuple a its.toArray from p) (by simp;lia) fun h' eb=>⟨rfl,I.turned (t':=s.toks) (fun b o hb e=>eb b o hb e) f0 f1 f3 f4 f5⟩
 self:=fun _ _ _ _ _ st h=>wpAny_pyIter_tupleiter st h
theorem zhL{P:Program}{w:World}{K:uZ}{tg:Expr}(it:Addr)(lo:Int)(n:Nat):Turn P w K tg (Itr lo n) [it] it (fun i h=>IsRangeIter h it (lo+(i:Nat)*1) ((n:Int)-(i:Nat)) 1) where
 mem:=by simp
 obj:=fun i h st b hb=>by
  have e:b=it:=by simpa using hb
  subst e
  exact⟨_,st,fun v z=>by
   have z':Data.fields _=Data.cell v:=z
   cases z'⟩
 keep:=fun i h h' st k=>k it (by simp) _ st
 item:=by
  intro X hP hw hK hc i zp s σ H E I hf st hg
  subst hP hw hK
  obtain⟨f0,f1,f2,f3,f4,f5⟩:=hf it (by simp)
  have W:=Walks.range (prog:=X.prog) (w:=X.w) (I.ok.hd hc) it lo 1 n
  refine W.item i s _ _ hg st fun v h' tk hv st' kk=>?_
  obtain⟨t,rfl⟩:=hv
  have I1:Inv X zp σ H {s with heap:=h',toks:=tk}:=I.turned (fun b o hb e=>kk b o (by simpa using hb) e) f0 f1 f3 f4 f5
  refine⟨_,rfl,zkG (s:={s with heap:=h',toks:=tk}) (n:="range_iterator") st' rfl rfl (by decide) ⟨.int (lo+i),H,I1,⟨t,?_⟩,⟨rfl,rfl⟩,st',fun b hb=>(hf b hb).1⟩⟩
  rw[Int.mul_one]
 done:=by
  intro X hP hw hK hc i zp s σ H E I hf st hg
  subst hP hw hK
  obtain⟨f0,f1,f2,f3,f4,f5⟩:=hf it (by simp)
  exact wpAny_pyNext_range_end (I.ok.hd hc) st (by have:n<=i:=hg;lia) fun h' eb=>⟨rfl,I.turned (t':=s.toks) (fun b o hb e=>eb b o hb e) f0 f1 f3 f4 f5⟩
 self:=fun _ _ _ _ _ st h=>wpAny_pyIter_rangeiter st h
section
variable{X:Cx}{tg:Expr}
def ziH(K:uZ)(tl:TE):TI:=fun σ H R=>tl σ H fun x H1=>∃a,x=.ref a/\(∃xs,SqL K H1 a xs)/\R (Itl K a) H1
def iTup(K:uZ)(tl:TE):TI:=fun σ H R=>tl σ H fun x H1=>∃a,x=.ref a/\(∃xs,SqT K H1 a xs)/\R (Itt K a) H1
theorem zaq{l:Expr}{tl:TE}(hl:PE X l tl):PI X tg l (ziH X.K tl):=by
 intro zp s σ H R I h
 refine thn (hl zp s σ H _ I h) fun v s1 ⟨x,H1,I1,r1,q1⟩=>?_
 obtain⟨a,e,⟨xs,hq⟩,q⟩:=q1
 subst e
 cases r1
 obtain⟨its,rv,p,hz⟩:=I1.list hq
 refine wpAny_pyIter_list p.isList ?_
 refine⟨s1.heap.objs.size,[s1.heap.objs.size],_,_,H1,rfl,I1.kept (t':=s1.toks) fun b o e=>uL _ e,ziG a _,⟨_,uN _ rfl,rfl,rfl⟩,fun b hb=>?_,q⟩
 have e:b=s1.heap.objs.size:=by simpa using hb
 subst e
 exact I1.fpOk (yF _) (I1.hok.fresh (yF _))
theorem zb6{l:Expr}{tl:TE}(hl:PE X l tl):PI X tg l (iTup X.K tl):=by
 intro zp s σ H R I h
 refine thn (hl zp s σ H _ I h) fun v s1 ⟨x,H1,I1,r1,q1⟩=>?_
 obtain⟨a,e,⟨xs,hq⟩,q⟩:=q1
 subst e
 cases r1
 obtain⟨its,rv,p,hz⟩:=I1.tuple hq
 refine wpAny_pyIter_tuple (show s1.heap.IsTuple a its.toArray from p) ?_
 refine⟨s1.heap.objs.size,[s1.heap.objs.size],_,_,H1,rfl,I1.kept (t':=s1.toks) fun b o e=>uL _ e,zhK a _,⟨_,uN _ rfl,rfl,rfl⟩,fun b hb=>?_,q⟩
 have e:b=s1.heap.objs.size:=by simpa using hb
 subst e
 exact I1.fpOk (yF _) (I1.hok.fresh (yF _))
theorem zkH{zp:List (Addr×Obj)}{σ:St}{H:Hp}{s:Shared}{R:It->Hp->Prop}{E:Value->Shared->Prop}{lo hi:Int}{t u v:Tok}{tk:Nat}(I:Inv X zp σ H s)(h1:-(2 ^ 62)<=lo)(h2:lo<2 ^ 62)(h3:-(2 ^ 62)<=hi)(h4:hi<2 ^ 62)
  (q:R (Itr lo (hi-lo).toNat) H):wpAny (model X.prog X.w) X.A (pyIter (.ref s.heap.objs.size)) (PIE X zp σ tg R) E {s with heap:=s.heap.push {cls:=.type "range",data:=.fields #[.int lo t,.int hi u,.int 1 v]},toks:=tk}:=by
 refine wpAny_pyIter_range (IsRange.new ..) (small_one h1 h2 h3 h4) ?_
 have I1:Inv X zp σ H {s with heap:=s.heap.push {cls:=.type "range",data:=.fields #[.int lo t,.int hi u,.int 1 v]},toks:=tk}:=I.kept fun b o e=>uL _ e
 refine⟨(s.heap.push {cls:=.type "range",data:=.fields #[.int lo t,.int hi u,.int 1 v]}).objs.size,[(s.heap.push {cls:=.type "range",data:=.fields #[.int lo t,.int hi u,.int 1 v]}).objs.size],_,_,H,rfl,
  I1.kept (t':=tk) fun b o e=>uL _ e,zhL _ lo (hi-lo).toNat,?_,fun b hb=>?_,q⟩
 ·have e1:lo+((0:Nat):Int)*1=lo:=by simp
  have e2:(((hi-lo).toNat:Nat):Int)-((0:Nat):Int)=Builtin.Range.rangeSize lo hi 1:=by rw[rangeSize_one];split<;>lia
  show IsRangeIter _ _ (lo+((0:Nat):Int)*1) ((((hi-lo).toNat:Nat):Int)-((0:Nat):Int)) 1
  rw[e1,e2]
  exact uN _ rfl
 ·have e:b=(s.heap.push {cls:=.type "range",data:=.fields #[.int lo t,.int hi u,.int 1 v]}).objs.size:=by simpa using hb
  subst e
  exact I1.fpOk (yF _) (I1.hok.fresh (yF _))
def znG(ta:TA):TI:=fun σ H R=>ta σ H fun vs H1=>∃j:Int,vs=[.int j]/\-(2 ^ 62)<=j/\j<2 ^ 62/\R (Itr 0 j.toNat) H1
theorem ZT{a:Expr}{ta:TA}{p pos:Pos}(hg:Gl X "range")(hm:X.mg "range"=none)(ha:PA X [a] ta)(hs:uS [a] X.env=[(false,eval a X.env)]:=by rfl):PI X tg (.Call (.Name "range" p) [a] [] pos) (znG ta):=by
 intro zp s σ H R I h
 refine Call_ (zcr I hg hm boot_range (PyProof.Rows.callWith_type1 (thn (ha pos zp s σ H _ I h) fun us s1 ⟨vs,H1,I1,r1,q1⟩=>?_) hs rfl))
 obtain⟨j,e,q1,q2,q⟩:=q1
 subst e
 cases r1 with
 |cons r rr=>
  cases rr
  obtain⟨t,rfl⟩:=r
  exact call_range_1 (zkH I1 (by lia) (by lia) q1 q2 (by simpa using q))
def tFor(wi:TI)(g:TG)(tb:TS):TS:=fun D σ H=>wi σ H fun J H1=>∃W:Nat->Nat->St->Hp->Prop,(∃m,W 0 m σ H1)/\∀i m σ H,W i m σ H->
 (J.stop i H/\D.nx σ H)\/(J.go i H/\∃N:St->Hp->Prop,(∀σ' H',N σ' H'->∃m',m'<m/\W (i+1) m' σ' H')/\∀x H',J.yld i H x H'->g x σ H' fun σ2 H2=>tb {D with nx:=N,ct:=N,bk:=D.nx} σ2 H2)
noncomputable def zdH(fp:List Addr)(h:Heap):List (Addr×Obj):=fp.filterMap fun b=>(h.get? b).map fun o=>(b,o)
theorem Z5{fp:List Addr}{h:Heap}{b:Addr}{o:Obj}(hb:b∈fp)(e:h.get? b=some o):(b,o)∈zdH fp h:=uA.mpr ⟨b,hb,by rw[e];rfl⟩
theorem ziI{fp:List Addr}{h:Heap}{p:Addr×Obj}(hp:p∈zdH fp h):p.1∈fp/\h.get? p.1=some p.2:=by
 obtain⟨b,hb,e⟩:=uA.mp hp
 cases q:h.get? b with
 |none=>rw[q] at e;cases e
 |some o=>
  rw[q] at e
  have e':(b,o)=p:=Option.some.inj e
  subst e'
  exact⟨hb,q⟩
theorem Inv.pinned{zp:List (Addr×Obj)}{σ:St}{H:Hp}{s:Shared}{fp:List Addr}(I:Inv X zp σ H s)(hf:∀b∈fp,FpOk X zp H b)(ho:∀b∈fp,∃o,s.heap.get? b=some o/\∀v,o.data≠.cell v):Inv X (zp++zdH fp s.heap) σ H s:=
 I.pins_of fun p hp=>(xI.mp hp).elim (fun z=>I.pin p (yT _ z)) fun z=>by
  obtain⟨hb,e⟩:=ziI z
  obtain⟨f0,f1,f2,_⟩:=hf p.1 hb
  obtain⟨o,e',d⟩:=ho p.1 hb
  rw[e] at e';cases e'
  exact⟨e,f0,f1,f2,d⟩
theorem Inv.unpinned{zp pl:List (Addr×Obj)}{σ:St}{H:Hp}{s:Shared}(I:Inv X (zp++pl) σ H s):Inv X zp σ H s:=I.pins_of fun p hp=>I.pin p (yT _ (wM _ hp))
theorem za8{iter:Expr}{body:List Stmt}{wi:TI}{g:TG}{tb:TS}{pos:Pos}(hp:PassesOwn (model X.prog X.w) X.A X.env X.xe)(hc:X.calm=true)(hi:PI X tg iter wi)(hg:PG X tg g)(hb:PSs X body tb)
  (hs:∀x,foldedSetIterable iter X.env x=pure x:=by intro _;rfl):PS X (.For tg iter body [] pos) (tFor wi g tb):=by
 intro zp s σ H D I h
 refine wpAny_For (thn (hi zp s σ H _ I h) fun v s1 h1=>thn h1 fun itv s2 h2=>?_) hs
 obtain⟨it,fp,tn,J,H2,e,I2,T,st2,f2,W,⟨m0,w0⟩,turn⟩:=h2
 subst e
 have stat:∀{H':Hp},(∀b∈fp,H' b=none)->∀b∈fp,FpOk X zp H' b:=fun hn b hb=>⟨hn b hb,(f2 b hb).2⟩
 refine codeAny_forLoop_any (fun n s'=>∃i σ' H',Inv X zp σ' H' s'/\tn i s'.heap/\(∀b∈fp,H' b=none)/\W i n σ' H') ?_ m0 ⟨0,σ,H2,I2,st2,fun b hb=>(f2 b hb).1,w0⟩
 rintro n s3 ⟨i,σ3,H3,I3,st3,fr3,w3⟩
 rcases turn i n σ3 H3 w3 with⟨stop,qn⟩|⟨go,N,hN,step⟩
 ·refine wpAny_passesOwn hp (thn (T.done X rfl rfl rfl hc i zp s3 σ3 H3 X.xe I3 (stat fr3) st3 stop) fun r s4 ⟨hr,I4⟩=>?_)
  subst hr
  exact wpAny_execs_nil ⟨σ3,H3,I4,qn⟩
 ·refine wpAny_passesOwn hp (thn (T.item X rfl rfl rfl hc i zp s3 σ3 H3 X.xe I3 (stat fr3) st3 go) fun r s4 ⟨u,hr,h4⟩=>?_)
  subst hr
  refine wpAny_passesOwn hp (thn h4 fun _ s5 ⟨x,H5,I5,r5,y5,st5,fr5⟩=>?_)
  have I5':=I5.pinned (stat fr5) (T.obj _ _ st5)
  refine wpAny_passesOwn hp (thn (hg _ s5 σ3 H5 x u _ I5' r5 (step x H5 y5)) fun _ s6 ⟨σ6,H6,I6,q6⟩=>?_)
  refine wpAny_passesOwn hp (thn (hb _ s6 σ6 H6 _ I6 q6) fun f s7 q7=>?_)
  have again:∀{σ7:St}{H7:Hp},Inv X (zp++zdH fp s5.heap) σ7 H7 s7->N σ7 H7->∃m,m<n/\∃i σ' H',Inv X zp σ' H' s7/\tn i s7.heap/\(∀b∈fp,H' b=none)/\W i m σ' H':=fun {σ7 H7} I7 n7=>by
   obtain⟨m',hm,w7⟩:=hN σ7 H7 n7
   refine⟨m',hm,i+1,σ7,H7,I7.unpinned,T.keep _ _ _ st5 fun b hb o e=>(I7.pin (b,o) (yT _ (yT _ (Z5 hb e)))).1,fun b hb=>?_,w7⟩
   obtain⟨o,e,d⟩:=T.obj _ _ st5 b hb
   exact (I7.pin (b,o) (yT _ (yT _ (Z5 hb e)))).2.1
  cases f with
  |next=>obtain⟨σ7,H7,I7,n7⟩:=q7;exact again I7 n7
  |cont=>obtain⟨σ7,H7,I7,n7⟩:=q7;exact again I7 n7
  |brk=>obtain⟨σ7,H7,I7,q7⟩:=q7;exact⟨σ7,H7,I7.unpinned,q7⟩
  |ret v=>obtain⟨x7,σ7,H7,I7,r7,q7⟩:=q7;exact⟨x7,σ7,H7,I7.unpinned,r7,q7⟩
end
theorem zg5{K:uZ}{a:Addr}{xs:List V}{g:TG}{tb:TS}{D:Ends}{σ:St}{H:Hp}(Pv:Nat->St->Hp->Prop)(h0:Pv 0 σ H)(hl:∀i σ H,i<=xs.length->Pv i σ H->SqL K H a xs)
  (hs:∀i x σ H,xs[i]?=some x->Pv i σ H->g x σ H fun σ2 H2=>tb {D with nx:=Pv (i+1),ct:=Pv (i+1),bk:=D.nx} σ2 H2) (hd:∀σ H,Pv xs.length σ H->D.nx σ H):
  ∃W:Nat->Nat->St->Hp->Prop,(∃m,W 0 m σ H)/\∀i m σ H,W i m σ H->
   ((Itl K a).stop i H/\D.nx σ H)\/((Itl K a).go i H/\∃N:St->Hp->Prop,(∀σ' H',N σ' H'->∃m',m'<m/\W (i+1) m' σ' H')/\∀x H',(Itl K a).yld i H x H'->g x σ H' fun σ2 H2=>tb {D with nx:=N,ct:=N,bk:=D.nx} σ2 H2):=by
 refine⟨fun i m σ H=>m=xs.length-i/\i<=xs.length/\Pv i σ H,⟨xs.length,by simp,yN _,h0⟩,?_⟩
 rintro i m σ H ⟨rfl,hi,p⟩
 have q:=hl i σ H hi p
 by_cases hlt:i<xs.length
 ·refine .inr ⟨⟨xs,xs[i],q,by simp[hlt]⟩,Pv (i+1),fun σ' H' p'=>⟨xs.length-(i+1),by lia,rfl,hlt,p'⟩,fun x H' y=>?_⟩
  obtain⟨e,y⟩:=y
  subst e
  exact hs i x σ _ (y xs q) p
 ·have e:i=xs.length:=by lia
  subst e
  exact .inl ⟨⟨xs,q,yF _⟩,hd σ H p⟩
theorem zmA{K:uZ}{a:Addr}{xs:List V}{g:TG}{tb:TS}{D:Ends}{σ:St}{H:Hp}(Pv:Nat->St->Hp->Prop)(h0:Pv 0 σ H)(hl:∀i σ H,i<=xs.length->Pv i σ H->SqT K H a xs)
  (hs:∀i x σ H,xs[i]?=some x->Pv i σ H->g x σ H fun σ2 H2=>tb {D with nx:=Pv (i+1),ct:=Pv (i+1),bk:=D.nx} σ2 H2) (hd:∀σ H,Pv xs.length σ H->D.nx σ H):
  ∃W:Nat->Nat->St->Hp->Prop,(∃m,W 0 m σ H)/\∀i m σ H,W i m σ H->
   ((Itt K a).stop i H/\D.nx σ H)\/((Itt K a).go i H/\∃N:St->Hp->Prop,(∀σ' H',N σ' H'->∃m',m'<m/\W (i+1) m' σ' H')/\∀x H',(Itt K a).yld i H x H'->g x σ H' fun σ2 H2=>tb {D with nx:=N,ct:=N,bk:=D.nx} σ2 H2):=by
 refine⟨fun i m σ H=>m=xs.length-i/\i<=xs.length/\Pv i σ H,⟨xs.length,by simp,yN _,h0⟩,?_⟩
 rintro i m σ H ⟨rfl,hi,p⟩
 have q:=hl i σ H hi p
 by_cases hlt:i<xs.length
 ·refine .inr ⟨⟨xs,xs[i],q,by simp[hlt]⟩,Pv (i+1),fun σ' H' p'=>⟨xs.length-(i+1),by lia,rfl,hlt,p'⟩,fun x H' y=>?_⟩
  obtain⟨e,y⟩:=y
  subst e
  exact hs i x σ _ (y xs q) p
 ·have e:i=xs.length:=by lia
  subst e
  exact .inl ⟨⟨xs,q,yF _⟩,hd σ H p⟩
theorem ze5{lo:Int}{n:Nat}{g:TG}{tb:TS}{D:Ends}{σ:St}{H:Hp}(Pv:Nat->St->Hp->Prop)(h0:Pv 0 σ H)
  (hs:∀i σ H,i<n->Pv i σ H->g (.int (lo+i)) σ H fun σ2 H2=>tb {D with nx:=Pv (i+1),ct:=Pv (i+1),bk:=D.nx} σ2 H2) (hd:∀σ H,Pv n σ H->D.nx σ H):
  ∃W:Nat->Nat->St->Hp->Prop,(∃m,W 0 m σ H)/\∀i m σ H,W i m σ H->
   ((Itr lo n).stop i H/\D.nx σ H)\/((Itr lo n).go i H/\∃N:St->Hp->Prop,(∀σ' H',N σ' H'->∃m',m'<m/\W (i+1) m' σ' H')/\∀x H',(Itr lo n).yld i H x H'->g x σ H' fun σ2 H2=>tb {D with nx:=N,ct:=N,bk:=D.nx} σ2 H2):=by
 refine⟨fun i m σ H=>m=n-i/\i<=n/\Pv i σ H,⟨n,by simp,yN _,h0⟩,?_⟩
 rintro i m σ H ⟨rfl,hi,p⟩
 by_cases hlt:i<n
 ·refine .inr ⟨hlt,Pv (i+1),fun σ' H' p'=>⟨n-(i+1),by lia,rfl,hlt,p'⟩,fun x H' y=>?_⟩
  obtain⟨e,y⟩:=y
  subst e y
  exact hs i σ _ hlt p
 ·have e:i=n:=by lia
  subst e
  exact .inl ⟨yF _,hd σ H p⟩
abbrev R2:=V->V->Hp->VK->Prop
def OpR(X:Cx)(f:Value->Value->Sem Value)(r:R2):Prop:=
 ∀(zp:List (Addr×Obj))(s:Shared)(σ:St)(H:Hp)(x y:V)(v u:Value)(Q:VK),Inv X zp σ H s->RelV x v->RelV y u->r x y H Q->
  wpAny (model X.prog X.w) X.A (f v u) (EP X zp σ Q) X.xe s
def UnR(X:Cx)(f:Value->Sem Value)(r:V->Hp->VK->Prop):Prop:=
 ∀(zp:List (Addr×Obj))(s:Shared)(σ:St)(H:Hp)(x:V)(v:Value)(Q:VK),Inv X zp σ H s->RelV x v->r x H Q->
  wpAny (model X.prog X.w) X.A (f v) (EP X zp σ Q) X.xe s
def zav(X:Cx)(f:Value)(r:List V->Hp->VK->Prop):Prop:=
 ∀(zp:List (Addr×Obj))(s:Shared)(σ:St)(H:Hp)(xs:List V)(us:List Value)(Q:VK),Inv X zp σ H s->Vals xs us->r xs H Q->
  wpAny (model X.prog X.w) X.A (call f us) (EP X zp σ Q) X.xe s
def tOp(r:R2)(ta tb:TE):TE:=fun σ H Q=>ta σ H fun x H1=>tb σ H1 fun y H2=>r x y H2 Q
def tUn(r:V->Hp->VK->Prop)(ta:TE):TE:=fun σ H Q=>ta σ H fun x H1=>r x H1 Q
def rI(C:Int->Int->Prop)(g:Int->Int->V):R2:=fun x y H Q=>∃i j,x=.int i/\y=.int j/\C i j/\Q (g i j) H
def rI0(g:Int->Int->V):R2:=fun x y H Q=>∃i j,x=.int i/\y=.int j/\Q (g i j) H
def rU(g:Int->V):V->Hp->VK->Prop:=fun x H Q=>∃i,x=.int i/\Q (g i) H
section
variable{X:Cx}{a b c:Expr}{ta tb tc:TE}{pos:Pos}
theorem binT(ha:PE X a ta)(hb:PE X b tb){zp:List (Addr×Obj)}{s:Shared}{σ:St}{H:Hp}{R:V->V->Hp->Prop}(I:Inv X zp σ H s)
  (h:ta σ H fun x H1=>tb σ H1 fun y H2=>R x y H2) {Q:Value->Shared->Prop}{f:Value->Value->Sem Value}
  (hf:∀v u s2 x y H2,Inv X zp σ H2 s2->RelV x v->RelV y u->R x y H2->wpAny (model X.prog X.w) X.A (f v u) Q X.xe s2):
  wpAny (model X.prog X.w) X.A (eval a X.env) (fun v s₁=>wpAny (model X.prog X.w) X.A (eval b X.env) (fun u s₂=>wpAny (model X.prog X.w) X.A (f v u) Q X.xe s₂) X.xe s₁) X.xe s:=by
 refine thn (ha zp s σ H _ I h) fun v s1 ⟨x,H1,I1,r1,q1⟩=>?_
 refine thn (hb zp s1 σ H1 _ I1 q1) fun u s2 ⟨y,H2,I2,r2,q2⟩=>?_
 exact hf v u s2 x y H2 I2 r1 r2 q2
theorem zC{op:Operator}{r:R2}(ho:OpR X (binaryOp op) r)(ha:PE X a ta)(hb:PE X b tb):PE X (.BinOp a op b pos) (tOp r ta tb):=by
 intro zp s σ H Q I h
 exact wpAny_BinOp (binT ha hb I h fun v u s2 x y H2 I2 rx ry q=>ho zp s2 σ H2 x y v u Q I2 rx ry q)
theorem zd1{op:UnaryOp}{r:V->Hp->VK->Prop}(ho:UnR X (unaryOp op) r)(ha:PE X a ta):PE X (.UnaryOp op a pos) (tUn r ta):=by
 intro zp s σ H Q I h
 exact UnaryOp_ (thn (ha zp s σ H _ I h) fun v s1 ⟨x,H1,I1,r1,q1⟩=>ho zp s1 σ H1 x v Q I1 r1 q1)
theorem opI{f:Value->Value->Sem Value}{C:Int->Int->Prop}{g:Int->Int->Int}
  (rule:∀(i j:Int)(t u:Tok)(s:Shared)(Q:Value->Shared->Prop)(E:Value->Shared->Prop),C i j->Q (.int (g i j) s.toks) {s with toks:=s.toks+1}->wpAny (model X.prog X.w) X.A (f (.int i t) (.int j u)) Q E s):
  OpR X f (rI C fun i j=>.int (g i j)):=by
 intro zp s σ H x y v u Q I rx ry h
 obtain⟨i,j,rfl,rfl,hc,q⟩:=h
 obtain⟨t,rfl⟩:=rx
 obtain⟨t',rfl⟩:=ry
 exact rule i j t t' s _ _ hc ⟨.int (g i j),H,I.tok _,⟨_,rfl⟩,q⟩
theorem opI0{f:Value->Value->Sem Value}{g:Int->Int->Int}
  (rule:∀(i j:Int)(t u:Tok)(s:Shared)(Q:Value->Shared->Prop)(E:Value->Shared->Prop),Q (.int (g i j) s.toks) {s with toks:=s.toks+1}->wpAny (model X.prog X.w) X.A (f (.int i t) (.int j u)) Q E s):
  OpR X f (rI0 fun i j=>.int (g i j)):=by
 intro zp s σ H x y v u Q I rx ry h
 obtain⟨i,j,rfl,rfl,q⟩:=h
 obtain⟨t,rfl⟩:=rx
 obtain⟨t',rfl⟩:=ry
 exact rule i j t t' s _ _ ⟨.int (g i j),H,I.tok _,⟨_,rfl⟩,q⟩
theorem opB0{f:Value->Value->Sem Value}{g:Int->Int->Bool}
  (rule:∀(i j:Int)(t u:Tok)(s:Shared)(Q:Value->Shared->Prop)(E:Value->Shared->Prop),Q (.bool (g i j)) s->wpAny (model X.prog X.w) X.A (f (.int i t) (.int j u)) Q E s):
  OpR X f (rI0 fun i j=>.bl (g i j)):=by
 intro zp s σ H x y v u Q I rx ry h
 obtain⟨i,j,rfl,rfl,q⟩:=h
 obtain⟨t,rfl⟩:=rx
 obtain⟨t',rfl⟩:=ry
 exact rule i j t t' s _ _ ⟨.bl (g i j),H,I,rfl,q⟩
def CPow(i j:Int):Prop:=0<=j/\j<=1000000/\i.natAbs<2 ^ 64
def CMul(i j:Int):Prop:=(-(2 ^ 64)<i/\i<2 ^ 64)\/(-(2 ^ 64)<j/\j<2 ^ 64)
theorem CMul.ok{i j:Int}(h:CMul i j):IntMulOk i j:=by
 rcases h with⟨h1,h2⟩|⟨h1,h2⟩
 ·exact .of_left (intBits_le_64 h1 h2)
 ·exact .of_right (intBits_le_64 h1 h2)
theorem Zk:OpR X (binaryOp .Add) (rI0 fun i j=>.int (i+j)):=opI0 fun _ _ _ _ _ _ _ q=>add_int q
theorem ZJ:OpR X (binaryOp .Sub) (rI0 fun i j=>.int (i-j)):=opI0 fun _ _ _ _ _ _ _ q=>sub_int q
theorem zcw:OpR X (binaryOp .Mult) (rI CMul fun i j=>.int (i*j)):=opI fun _ _ _ _ _ _ _ hc q=>mul_int q hc.ok
theorem za9:OpR X (binaryOp .Mod) (rI (fun _ j=>0<j) fun i j=>.int (i % j)):=opI fun i j _ _ _ _ _ hc q=>by
 have h1:(0:Int)<j:=hc
 exact mod_int' (by lia) (by rw[Int.fmod_eq_emod_of_nonneg i (by lia)];exact q)
theorem zcx:OpR X (binaryOp .Pow) (rI CPow fun i j=>.int (i ^ j.toNat)):=opI fun _ _ _ _ _ _ _ hc q=>pow_int_small hc.1 hc.2.1 hc.2.2 q
theorem ziJ:OpR X (inplaceOp .Add) (rI0 fun i j=>.int (i+j)):=opI0 fun _ _ _ _ _ _ _ q=>iadd_int q
theorem unI{f:Value->Sem Value}{g:Int->Int}
  (rule:∀(i:Int)(t:Tok)(s:Shared)(Q:Value->Shared->Prop)(E:Value->Shared->Prop),Q (.int (g i) s.toks) {s with toks:=s.toks+1}->wpAny (model X.prog X.w) X.A (f (.int i t)) Q E s):
  UnR X f (rU fun i=>.int (g i)):=by
 intro zp s σ H x v Q I rx h
 obtain⟨i,rfl,q⟩:=h
 obtain⟨t,rfl⟩:=rx
 exact rule i t s _ _ ⟨.int (g i),H,I.tok _,⟨_,rfl⟩,q⟩
theorem zcy:UnR X (unaryOp .USub) (rU fun i=>.int (-i)):=unI fun _ _ _ _ _ q=>neg_int q
end
noncomputable def scal:V->V->Bool
 |.non,.non=>true|.non,.int _=>true|.int _,.non=>true|.non,.bl _=>true|.bl _,.non=>true|.non,.str _=>true|.str _,.non=>true
 |.int _,.int _=>true|.bl _,.bl _=>true|.str _,.str _=>true|.byt _,.byt _=>true
 |.int _,.str _=>true|.str _,.int _=>true|.bl _,.str _=>true|.str _,.bl _=>true
 |_,_=>false
def rEq:R2:=fun x y H Q=>scal x y=true/\Q (.bl (decide (x=y))) H
def rNe:R2:=fun x y H Q=>scal x y=true/\Q (.bl (!decide (x=y))) H
theorem ziK{i j:Int}:decide (V.int i=V.int j)=(i==j):=by
 rw[xJ]
 simp
theorem zlN{i j:Bool}:decide (V.bl i=V.bl j)=(i==j):=by
 rw[xJ]
 simp
theorem ziL{i j:Str}:decide (V.str i=V.str j)=(i==j):=by
 rw[xJ]
 simp
theorem ziM{i j:Array UInt8}:decide (V.byt i=V.byt j)=(i.toList==j.toList):=by
 rw[xJ]
 cases i
 cases j
 simp
section
variable{X:Cx}{a b c:Expr}{ta tb tc:TE}{pos:Pos}
theorem zV{zp:List (Addr×Obj)}{σ:St}{H:Hp}{s:Shared}{Q:VK}{k k':Bool}(I:Inv X zp σ H s)(q:Q (.bl k) H)(e:k=k'):EP X zp σ Q (.bool k') s:=by
 subst e
 exact⟨.bl k,H,I,rfl,q⟩
theorem Ze:OpR X (uU .Eq) rEq:=by
 intro zp s σ H x y v u Q I rx ry h
 obtain⟨hs,q⟩:=h
 cases x with
 |non=>
  cases rx
  cases y with
  |non=>cases ry;exact PySem.EqNone.eq_none_none (zV I q (by simp))
  |bl j=>cases ry;exact PySem.EqNone.eq_none_bool (zV I q (by simp))
  |int j=>obtain⟨t',rfl⟩:=ry;exact PySem.EqNone.eq_none_int (zV I q (by simp))
  |str j=>obtain⟨t',rfl⟩:=ry;exact PySem.EqNone.eq_none_str (zV I q (by simp))
  |_=>exact absurd (show false=true from hs) yH
 |bl i=>
  cases rx
  cases y with
  |non=>cases ry;exact PySem.EqNone.eq_bool_none (zV I q (by simp))
  |bl j=>cases ry;exact eq_bool (zV I q zlN)
  |str j=>obtain⟨t',rfl⟩:=ry;exact PySem.EqMixed.eq_bool_str (zV I q (by simp))
  |_=>exact absurd (show false=true from hs) yH
 |int i=>
  obtain⟨t,rfl⟩:=rx
  cases y with
  |non=>cases ry;exact PySem.EqNone.eq_int_none (zV I q (by simp))
  |int j=>obtain⟨t',rfl⟩:=ry;exact eq_int (zV I q ziK)
  |str j=>obtain⟨t',rfl⟩:=ry;exact PySem.EqMixed.eq_int_str (zV I q (by simp))
  |_=>exact absurd (show false=true from hs) yH
 |str i=>
  obtain⟨t,rfl⟩:=rx
  cases y with
  |non=>cases ry;exact PySem.EqNone.eq_str_none (zV I q (by simp))
  |bl j=>cases ry;exact PySem.EqMixed.eq_str_bool (zV I q (by simp))
  |int j=>obtain⟨t',rfl⟩:=ry;exact PySem.EqMixed.eq_str_int (zV I q (by simp))
  |str j=>obtain⟨t',rfl⟩:=ry;exact eq_str (zV I q ziL)
  |_=>exact absurd (show false=true from hs) yH
 |byt i=>
  obtain⟨t,rfl⟩:=rx
  cases y with
  |byt j=>obtain⟨t',rfl⟩:=ry;exact PySem.W.eq_bytes (zV I q ziM)
  |_=>exact absurd (show false=true from hs) yH
 |_=>cases y<;>exact absurd (show false=true from hs) yH
theorem zcz:OpR X (uU .NotEq) rNe:=by
 intro zp s σ H x y v u Q I rx ry h
 obtain⟨hs,q⟩:=h
 cases x with
 |non=>
  cases rx
  cases y with
  |non=>cases ry;exact PySem.EqNone.ne_none_none (zV I q (by simp))
  |bl j=>cases ry;exact PySem.EqNone.ne_none_bool (zV I q (by simp))
  |int j=>obtain⟨t',rfl⟩:=ry;exact PySem.EqNone.ne_none_int (zV I q (by simp))
  |str j=>obtain⟨t',rfl⟩:=ry;exact PySem.EqNone.ne_none_str (zV I q (by simp))
  |_=>exact absurd (show false=true from hs) yH
 |bl i=>
  cases rx
  cases y with
  |non=>cases ry;exact PySem.EqNone.ne_bool_none (zV I q (by simp))
  |bl j=>cases ry;exact ne_bool (zV I q (congrArg not zlN))
  |str j=>obtain⟨t',rfl⟩:=ry;exact PySem.EqMixed.ne_bool_str (zV I q (by simp))
  |_=>exact absurd (show false=true from hs) yH
 |int i=>
  obtain⟨t,rfl⟩:=rx
  cases y with
  |non=>cases ry;exact PySem.EqNone.ne_int_none (zV I q (by simp))
  |int j=>obtain⟨t',rfl⟩:=ry;exact ne_int (zV I q (congrArg not ziK))
  |str j=>obtain⟨t',rfl⟩:=ry;exact PySem.EqMixed.ne_int_str (zV I q (by simp))
  |_=>exact absurd (show false=true from hs) yH
 |str i=>
  obtain⟨t,rfl⟩:=rx
  cases y with
  |non=>cases ry;exact PySem.EqNone.ne_str_none (zV I q (by simp))
  |bl j=>cases ry;exact PySem.EqMixed.ne_str_bool (zV I q (by simp))
  |int j=>obtain⟨t',rfl⟩:=ry;exact PySem.EqMixed.ne_str_int (zV I q (by simp))
  |str j=>obtain⟨t',rfl⟩:=ry;exact ne_str (zV I q (congrArg not ziL))
  |_=>exact absurd (show false=true from hs) yH
 |byt i=>
  obtain⟨t,rfl⟩:=rx
  cases y with
  |byt j=>obtain⟨t',rfl⟩:=ry;exact PySem.W.ne_bytes (zV I q (congrArg not ziM))
  |_=>exact absurd (show false=true from hs) yH
 |_=>cases y<;>exact absurd (show false=true from hs) yH
theorem zf1:OpR X (uU .Lt) (rI0 fun i j=>.bl (decide (i<j))):=opB0 fun _ _ _ _ _ _ _ q=>lt_int q
theorem zf2:OpR X (uU .LtE) (rI0 fun i j=>.bl (decide (i<=j))):=opB0 fun _ _ _ _ _ _ _ q=>le_int q
theorem zcA:OpR X (uU .Gt) (rI0 fun i j=>.bl (decide (j<i))):=opB0 fun _ _ _ _ _ _ _ q=>gt_int q
theorem ziN:OpR X (uU .In) (fun x y H Q=>∃i j,x=.str i/\y=.str j/\Q (.bl (!(Builtin.Str.occurrences j i 0 j.length 1).isEmpty)) H):=by
 intro zp s σ H x y v u Q I rx ry h
 obtain⟨i,j,rfl,rfl,q⟩:=h
 obtain⟨t,rfl⟩:=rx
 obtain⟨t',rfl⟩:=ry
 exact in_str (zV I q rfl)
theorem OpR.or{f:Value->Value->Sem Value}{r r':R2}(h:OpR X f r)(h':OpR X f r'):OpR X f (fun x y H Q=>r x y H Q\/r' x y H Q):=by
 intro zp s σ H x y v u Q I rx ry q
 rcases q with q|q
 ·exact h zp s σ H x y v u Q I rx ry q
 ·exact h' zp s σ H x y v u Q I rx ry q
theorem nomark(b:Expr){op:CmpOp}(h:op≠.In:=by decide)(h2:op≠.NotIn:=by decide):behindInMarks op b=false:=by
 have e1:(op==CmpOp.In)=false:=by cases op<;>first|rfl|exact absurd rfl h
 have e2:(op==CmpOp.NotIn)=false:=by cases op<;>first|rfl|exact absurd rfl h2
 cases b<;>simp[behindInMarks,e1,e2]
theorem zE{op:CmpOp}{r:R2}(ho:OpR X (uU op) r)(ha:PE X a ta)(hb:PE X b tb)(hm:behindInMarks op b=false):PE X (.Compare a [op] [b] pos) (tOp r ta tb):=by
 intro zp s σ H Q I h
 exact wpAny_Compare1 (binT ha hb I h fun v u s2 x y H2 I2 rx ry q=>ho zp s2 σ H2 x y v u Q I2 rx ry q) hm
def zkI(t:TE):TT:=fun σ H Q=>t σ H fun x H'=>∃k,x=.bl k/\Q k H'
theorem zw{op:CmpOp}{r:R2}(ho:OpR X (uU op) r)(ha:PE X a ta)(hb:PE X b tb)(hm:behindInMarks op b=false):PT X (.Compare a [op] [b] pos) (zkI (tOp r ta tb)):=by
 intro zp s σ H Q I h
 refine wpAny_isTrue_Compare1 (thn (ha zp s σ H _ I h) fun v s1 ⟨x,H1,I1,r1,q1⟩=>thn (hb zp s1 σ H1 _ I1 q1) fun u s2 ⟨y,H2,I2,r2,q2⟩=>
  thn (ho zp s2 σ H2 x y v u _ I2 r1 r2 q2) fun c s3 ⟨z,H3,I3,r3,k,e,q3⟩=>?_) hm
 subst e
 cases r3
 exact wpAny_truthy_bool ⟨H3,I3,q3⟩
def ziO(r r':R2)(ta tb tc:TE):TE:=fun σ H Q=>ta σ H fun x H1=>tb σ H1 fun y H2=>r x y H2 fun z H3=>∃k,z=.bl k /\
 (if k=true then tc σ H3 fun w' H4=>r' y w' H4 Q else Q (.bl false) H3)
theorem zkJ{op op':CmpOp}{r r':R2}(ho:OpR X (uU op) r)(ho':OpR X (uU op') r')(ha:PE X a ta)(hb:PE X b tb)(hc:PE X c tc)
  (hm:lastMarks [op,op'] [b,c]=false:=by with_unfolding_all rfl):PE X (.Compare a [op,op'] [b,c] pos) (ziO r r' ta tb tc):=by
 intro zp s σ H Q I h
 refine Compare_chain (thn (ha zp s σ H _ I h) fun v s1 ⟨x,H1,I1,r1,q1⟩=>chain_link (thn (hb zp s1 σ H1 _ I1 q1) fun u s2 ⟨y,H2,I2,r2,q2⟩=>
  thn (ho zp s2 σ H2 x y v u _ I2 r1 r2 q2) fun d s3 ⟨z,H3,I3,r3,k,e,q3⟩=>?_)) hm
 subst e
 cases r3
 refine wpAny_truthy_bool ?_
 cases k with
 |false=>exact ite_ff ⟨.bl false,H3,I3,rfl,q3⟩
 |true=>exact ite_tt (chain_last (thn (hc zp s3 σ H3 _ I3 q3) fun w' s4 ⟨z',H4,I4,r4,q4⟩=>ho' zp s4 σ H4 y z' u w' Q I4 r2 r4 q4))
theorem zbu{op op':CmpOp}{r r':R2}(ho:OpR X (uU op) r)(ho':OpR X (uU op') r')(ha:PE X a ta)(hb:PE X b tb)(hc:PE X c tc)
  (hm:lastMarks [op,op'] [b,c]=false:=by with_unfolding_all rfl):PT X (.Compare a [op,op'] [b,c] pos) (zkI (ziO r r' ta tb tc)):=by
 intro zp s σ H Q I h
 refine isTrue_chain (thn (ha zp s σ H _ I h) fun v s1 ⟨x,H1,I1,r1,q1⟩=>test_link (thn (hb zp s1 σ H1 _ I1 q1) fun u s2 ⟨y,H2,I2,r2,q2⟩=>
  thn (ho zp s2 σ H2 x y v u _ I2 r1 r2 q2) fun d s3 ⟨z,H3,I3,r3,k,e,q3⟩=>?_)) hm
 subst e
 cases r3
 refine wpAny_truthy_bool ?_
 cases k with
 |false=>
  obtain⟨k',e',q'⟩:=q3
  cases e'
  exact ite_ff ⟨H3,I3,q'⟩
 |true=>
  refine ite_tt (test_last (thn (hc zp s3 σ H3 _ I3 q3) fun w' s4 ⟨z',H4,I4,r4,q4⟩=>thn (ho' zp s4 σ H4 y z' u w' _ I4 r2 r4 q4) fun d' s5 ⟨z2,H5,I5,r5,k2,e2,q5⟩=>?_))
  subst e2
  cases r5
  exact wpAny_truthy_bool ⟨H5,I5,q5⟩
theorem ze6:(uQ:Nat)<2 ^ 63:=by rw[sizeLine_eq];decide
theorem zbP:OpR X (binaryOp .Add) (fun x y H Q=>∃i j,x=.str i/\y=.str j/\i.length+j.length<=uQ/\Q (.str (i++j)) H):=by
 intro zp s σ H x y v u Q I rx ry h
 obtain⟨i,j,rfl,rfl,hz,q⟩:=h
 obtain⟨t,rfl⟩:=rx
 obtain⟨t',rfl⟩:=ry
 exact add_str (fun t' tk=>⟨.str (i++j),H,I.tok _,⟨_,rfl⟩,q⟩) hz
theorem zbv{x:V}{us:List Value}(r:Vals [x] us):∃u,us=[u]/\RelV x u:=by
 cases r with
 |cons r1 r2=>cases r2;exact⟨_,rfl,r1⟩
theorem zhM{x y:V}{us:List Value}(r:Vals [x,y] us):∃u w',us=[u,w']/\RelV x u/\RelV y w':=by
 cases r with
 |cons r1 r2=>
  cases r2 with
  |cons r3 r4=>cases r4;exact⟨_,_,rfl,r1,r3⟩
theorem zkK:zav X (.builtin "abs") (fun xs H Q=>∃i,xs=[.int i]/\Q (.int (if i<0 then -i else i)) H):=by
 intro zp s σ H xs us Q I r h
 obtain⟨i,rfl,q⟩:=h
 obtain⟨u,rfl,t,rfl⟩:=zbv r
 exact call_abs_int fun u tk=>⟨.int (if i<0 then -i else i),H,I.tok _,⟨_,rfl⟩,q⟩
theorem ziP(hc:X.calm=true):zav X (.builtin "max") (fun xs H Q=>∃i j,xs=[.int i,.int j]/\Q (.int (if j > i then j else i)) H):=by
 intro zp s σ H xs us Q I r h
 obtain⟨i,j,rfl,q⟩:=h
 obtain⟨u,w',rfl,⟨t,rfl⟩,⟨t',rfl⟩⟩:=zhM r
 refine max_two_ints (I.ok.hd hc) fun h' tk k=>⟨_,H,I.kept k,?_,q⟩
 by_cases hj:j > i
 ·rw[if_pos hj,if_pos hj];exact⟨_,rfl⟩
 ·rw[if_neg hj,if_neg hj];exact⟨_,rfl⟩
theorem ziQ(hc:X.calm=true):zav X (.builtin "min") (fun xs H Q=>∃i j,xs=[.int i,.int j]/\Q (.int (if j<i then j else i)) H):=by
 intro zp s σ H xs us Q I r h
 obtain⟨i,j,rfl,q⟩:=h
 obtain⟨u,w',rfl,⟨t,rfl⟩,⟨t',rfl⟩⟩:=zhM r
 refine min_two_ints (I.ok.hd hc) fun h' tk k=>⟨_,H,I.kept k,?_,q⟩
 by_cases hj:j<i
 ·rw[if_pos hj,if_pos hj];exact⟨_,rfl⟩
 ·rw[if_neg hj,if_neg hj];exact⟨_,rfl⟩
theorem ze7:zav X (.type "int") (fun xs H Q=>(∃i,xs=[.int i]/\Q (.int i) H)\/∃k,xs=[.bl k]/\Q (.int (if k then 1 else 0)) H):=by
 intro zp s σ H xs us Q I r h
 rcases h with⟨i,rfl,q⟩|⟨k,rfl,q⟩
 ·obtain⟨u,rfl,t,rfl⟩:=zbv r
  exact call_int_int ⟨.int i,H,I,⟨_,rfl⟩,q⟩
 ·obtain⟨u,rfl,r1⟩:=zbv r
  cases r1
  exact call_int_bool ⟨.int (if k then 1 else 0),H,I.tok _,⟨_,rfl⟩,q⟩
theorem ze8:zav X (.type "str") (fun xs H Q=>∃i,xs=[.int i]/\i.natAbs.log2<1920/\Q (.str (toString i)) H):=by
 intro zp s σ H xs us Q I r h
 obtain⟨i,rfl,hz,q⟩:=h
 obtain⟨u,rfl,t,rfl⟩:=zbv r
 exact PySem.P.str_of_int hz ⟨.str _,H,I.tok _,⟨_,rfl⟩,q⟩
theorem zkL:zav X (.builtin "ord") (fun xs H Q=>∃x,xs=[.str x]/\x.length=1/\Q (.int (x.cps.getD 0 0:Nat)) H):=by
 intro zp s σ H xs us Q I r h
 obtain⟨x,rfl,hz,q⟩:=h
 obtain⟨u,rfl,t,rfl⟩:=zbv r
 exact ord_of_one hz ⟨.int _,H,I.tok _,⟨_,rfl⟩,q⟩
def LenV(K:uZ)(x:V)(H:Hp)(n:Nat):Prop:=
 match x with
 |.str y=>y.length<=uQ/\n=y.length
 |.byt y=>y.size<=uQ/\n=y.size
 |.ref p=>(∃xs,SqL K H p xs/\n=xs.length)\/∃xs,SqT K H p xs/\n=xs.length
 |_=>False
theorem zB:zav X (.builtin "len") (fun xs H Q=>∃x n,xs=[x]/\LenV X.K x H n/\Q (.int n) H):=by
 intro zp s σ H xs us Q I r h
 obtain⟨x,n,rfl,e,q⟩:=h
 obtain⟨u,rfl,rx⟩:=zbv r
 have hl:=ze6
 have hs:uQ=16777216:=sizeLine_eq
 cases x with
 |str y=>
  obtain⟨t,rfl⟩:=rx
  obtain⟨hy,e'⟩:y.length<=uQ/\n=y.length:=e
  subst e'
  exact len_str (by lia) ⟨.int _,H,I.tok _,⟨_,rfl⟩,q⟩
 |byt y=>
  obtain⟨t,rfl⟩:=rx
  obtain⟨hy,e'⟩:y.size<=uQ/\n=y.size:=e
  subst e'
  exact PySem.W.len_bytes (by lia) ⟨.int _,H,I.tok _,⟨_,rfl⟩,q⟩
 |ref p=>
  cases rx
  have e':(∃xs,SqL X.K H p xs/\n=xs.length)\/∃xs,SqT X.K H p xs/\n=xs.length:=e
  rcases e' with⟨xs,hx,e'⟩|⟨xs,hx,e'⟩
  ·subst e'
   obtain⟨its,r',pl,hz⟩:=I.list hx
   have hlen:=r'.length
   exact Calls.call_len_list pl.isList (by simp only[yD];lia) ⟨.int xs.length,H,I.tok _,⟨_,by simp only[yD];rw[hlen]⟩,q⟩
  ·subst e'
   obtain⟨its,r',pl,hz⟩:=I.tuple hx
   have hlen:=r'.length
   exact len_tuple pl (by simp only[yD];lia) ⟨.int xs.length,H,I.tok _,⟨_,by simp only[yD];rw[hlen]⟩,q⟩
 |_=>exact (show False from e).elim
end
structure ObjM(h:Heap)(x dx C:Addr)(mA:Str->Option Value):Prop where
 obj:h.get? x=some (instObj C dx)
 ns:h.Ns1 dx mA
 ne:dx≠x
theorem ziR{h:Heap}{dx:Addr}{mA:Str->Option Value}(n:h.Ns1 dx mA):∃od,h.get? dx=some od/\∀name,lookIn name od=some (mA name):=by
 obtain⟨o,es,ep,ho,hd,hk,_,hm⟩:=n
 refine⟨o,ho,fun name=>?_⟩
 have e:=hm name
 unfold nsFind findBy at e
 rw[←Array.find?_toList] at e
 unfold lookIn
 rw[hd]
 dsimp only
 split
 ·rename_i y q
  rw[q] at e
  exact congrArg some e
 ·rename_i q
  rw[q] at e
  have a:es.toList.any (·.refKey)=false:=by
   rw[List.any_eq_false]
   intro y hy
   obtain⟨z,t,hkey⟩:=hk y (Array.mem_toList_iff.mp hy)
   simp[DictEntry.refKey,hkey]
  have a':¬es.toList.any (·.refKey)=true:=by rw[a];exact yH
  rw[if_neg a']
  exact congrArg some e
theorem ObjM.look{h:Heap}{x dx C:Addr}{mA:Str->Option Value}(I:ObjM h x dx C mA):∃od,PySem.W.InstAt h x (instObj C dx) C (some od)/\∀name,lookIn name od=some (mA name):=
 let ⟨od,ho,hl⟩:=ziR I.ns
 ⟨od,⟨I.obj,rfl,rfl,ho⟩,hl⟩
section
variable{prog:Program}{w:World}{A:Around}{E:Value->Shared->Prop}{s:Shared}{K:uZ}{x dx C f:Addr}{mA:Str->Option Value}{name:Str}{v:Value}
theorem zmB{expr:Bool}{Q:Value->Shared->Prop}(X:K.In s.heap)(I:ObjM s.heap x dx C mA)(hg:plainGet K C name=true)(hh:hasDictIn K C=true)
  (ha:findIn K (.ref C) name=some none) (hv:mA name=some v) (hv':PySem.W.handedIn v=true) (h:Q v {s with toks:=s.toks+1}):
  wpAny (model prog w) A (getAttr (.ref x) name expr) Q E s:=by
 obtain⟨od,J,hl⟩:=I.look
 exact PySem.W.get_value X J (plainGet_of hg).1 (PySem.W.findObj_own hh ha rfl (by rw[hl,hv])) hv' h
theorem zkM{pl:Sem Bool}{Q:Value×List Value->Shared->Prop}(X:K.In s.heap)(I:ObjM s.heap x dx C mA)(hg:plainGet K C name=true)
  (hf:findIn K (.ref C) name=some (some (.ref f))) (ht:isFn K (.ref f)=true) (hv:mA name=none) (h:Q (.ref f,[.ref x]) s):
  wpAny (model prog w) A (getMethod (.ref x) name pl) Q E s:=by
 obtain⟨od,J,hl⟩:=I.look
 exact PySem.W.method_fn X J (plainGet_of hg).1 (plainGet_of hg).2 hf (beq_iff_eq.mp ht) (by show (lookIn name od).map (·.isSome)=some false;rw[hl,hv];rfl) h
theorem zmC{ns:List Str}{Q:Unit->Shared->Prop}(X:K.In s.heap)(I:ObjM s.heap x dx C mA)
  (hs:findIn K (.ref C) "__setattr__"=some (some (.builtin "object.__setattr__"))) (hp:plainOver K C=true) (ht:takerIn K C name=some none) (hh:hasDictIn K C=true)
  (hw:PySem.Within mA ns) (hsz:ns.length<=uQ)
  (h:∀h',ObjM h' x dx C (fun y=>if y=name then some v else mA y)->Heap.SameBut dx s.heap h'->Q () {s with heap:=h',toks:=s.toks+2}):
  wpAny (model prog w) A (setAttr (.ref x) name v) Q E s:=by
 obtain⟨od,J,hl⟩:=I.look
 refine PySem.W.set_plain X J hs (PySem.W.osa_open (s:={s with toks:=s.toks+1}) (r:=none) X J hp ht fun b=>?_)
 obtain⟨cd,hc,hd'⟩:=PySem.W.any_some hh
 have hx:s.heap.get? x=some ⟨.ref C,some dx,.plain,#[]⟩:=I.obj
 refine uJ (uK (uJ (uJ (wpAny_loadPart hx (uJ (PySem.W.Looks.here (s:={s with toks:=s.toks+1}) (PySem.W.looks_clsIn X hc) ?_))))))
 rw[hd']
 refine uK (a:=some dx) (uJ (uK (uJ ?_)))
 refine wpAny_nsSet1 (s:={s with toks:=s.toks+1}) I.ns fun h' hn2 hs2=>?_
 obtain⟨oD,esD,epD,hoD,hdD,hcD⟩:=hn2.count (PySem.Within.cons name v hw)
 refine uJ (wpAny_lookBehind hoD (by rw[hdD];exact pastItsLine_dict (yM hcD (by rw[yG];lia))) ?_)
 exact uK (h _ ⟨(hs2.2 _ (Ne.symm I.ne)).trans I.obj,hn2,I.ne⟩ hs2)
theorem zkN{R:Result->Shared->Prop}{vs:List Value}{kw:List (Str×Value)}(X:K.In s.heap)(hm:makesIn K C=true)
  (hi:findIn K (.ref C) "__init__"=some (some (.ref f))) (hf:PySem.W.typeIn K (.ref f)=some (.type "function"))
  (h:codeAny (model prog w) (A.under (.builtin "type.__call__" ⟨.ref C::vs,kw⟩)) (.call (.ref f) ⟨.ref (s.heap.objs.size+1)::vs,kw⟩) (PySem.W.InitBack (s.heap.objs.size+1) R)
   {s with heap:=(s.heap.push emptyDict).push (instObj C s.heap.objs.size)}):
  codeAny (model prog w) A (.call (.ref C) ⟨vs,kw⟩) R s:=by
 obtain⟨hh,g,d,t,os⟩:=s
 exact PySem.W.make_core (PySem.W.makes_of X hm) (PySem.W.looks_findIn X hi) (fun self=>PySem.W.bind_fn X self hf) (.inl rfl) h
end
noncomputable def putF(f:Str)(v:V):List (Str×V)->List (Str×V)
 |[]=>[(f,v)]
 |(g,x)::r=>if g=f then (g,v)::r else (g,x)::putF f v r
theorem Zz(f g:Str)(v:V):∀fs:List (Str×V),(putF f v fs).lookup g=if g=f then some v else fs.lookup g
 |[]=>by
  show xN g [(f,v)]=_
  by_cases h:g=f
  ·have hb:(g==f)=true:=beq_iff_eq.mpr h
   simp only[xN,hb,if_pos h]
  ·have hb:(g==f)=false:=beq_eq_false_iff_ne.mpr h
   simp only[xN,hb,if_neg h]
 |(k,x)::r=>by
  have ih:=Zz f g v r
  rw[show putF f v ((k,x)::r)=(if k=f then (k,v)::r else (k,x)::putF f v r) from rfl]
  by_cases hk:k=f
  ·rw[if_pos hk]
   by_cases h:g=k
   ·have hb:(g==k)=true:=beq_iff_eq.mpr h
    simp only[xN,hb,if_pos (h.trans hk)]
   ·have hb:(g==k)=false:=beq_eq_false_iff_ne.mpr h
    simp only[xN,hb,if_neg (fun e:g=f=>h (e.trans hk.symm))]
  ·rw[if_neg hk]
   by_cases h:g=k
   ·have hb:(g==k)=true:=beq_iff_eq.mpr h
    simp only[xN,hb,if_neg (fun e:g=f=>hk (h.symm.trans e))]
   ·have hb:(g==k)=false:=beq_eq_false_iff_ne.mpr h
    simp only[xN,hb]
    exact ih
theorem zcB(f:Str)(v:V):∀fs:List (Str×V),f∈(putF f v fs).map (·.1)/\∀g,g∈fs.map (·.1)->g∈(putF f v fs).map (·.1)
 |[]=>⟨by simp[putF],fun g h=>by simp at h⟩
 |(k,x)::r=>by
  obtain⟨i1,i2⟩:=zcB f v r
  rw[show putF f v ((k,x)::r)=(if k=f then (k,v)::r else (k,x)::putF f v r) from rfl]
  by_cases hk:k=f
  ·rw[if_pos hk]
   subst hk
   exact⟨by simp,fun g h=>by simpa using h⟩
  ·rw[if_neg hk]
   refine⟨?_,fun g h=>?_⟩
   ·rw[xA]
    exact yX _ i1
   ·rw[xA] at h ⊢
    rcases yQ.mp h with e|e
    ·exact yQ.mpr (.inl e)
    ·exact yX _ (i2 g e)
theorem zcC(f:Str)(v:V):∀fs:List (Str×V),(putF f v fs).length<=fs.length+1
 |[]=>by simp[putF]
 |(k,x)::r=>by
  have ih:=zcC f v r
  rw[show putF f v ((k,x)::r)=(if k=f then (k,v)::r else (k,x)::putF f v r) from rfl]
  by_cases hk:k=f
  ·rw[if_pos hk,yG,yG];lia
  ·rw[if_neg hk,yG,yG];lia
theorem RelO.some_of{v:V}{o:Option Value}(r:RelO (some v) o):∃u,o=some u/\RelV v u:=by
 cases o with
 |none=>exact (show False from r).elim
 |some u=>exact⟨u,rfl,r⟩
theorem RelO.none_of{o:Option Value}(r:RelO none o):o=none:=by
 cases o with
 |none=>rfl
 |some u=>exact (show False from r).elim
theorem ziS{v:V}{u:Value}(r:RelV v u):PySem.W.handedIn u=true:=by
 cases v with
 |non=>cases (show u=Value.none from r);rfl
 |bl b=>cases (show u=Value.bool b from r);rfl
 |int i=>obtain⟨t,e⟩:=(show ∃t,u=Value.int i t from r);cases e;rfl
 |str x=>obtain⟨t,e⟩:=(show ∃t,u=Value.str x t from r);cases e;rfl
 |byt b=>obtain⟨t,e⟩:=(show ∃t,u=Value.bytes b t from r);cases e;rfl
 |flt b=>obtain⟨t,e⟩:=(show ∃t,u=Value.float b t from r);cases e;rfl
 |ref a=>cases (show u=Value.ref a from r);rfl
 |ty n=>cases (show u=Value.type n from r);rfl
section
variable{P:Program}{w:World}{H H':Hp}{h h':Heap}{a C dx:Addr}{fs fs':List (Str×V)}
theorem zd2(hok:HOk P w H h)(e:H a=some (.ins C dx fs)):∃mA,ObjM h a dx C mA/\(∀f,RelO (fs.lookup f) (mA f))/\PySem.Within mA (fs.map (·.1))/\fs.length<=1000/\H dx=some (.own a):=by
 obtain⟨d,z,ne,ob,mA,n,r,q⟩:=(show Zh P w H h a (.ins C dx fs) from hok a _ e)
 exact⟨mA,⟨ob,n,ne⟩,r,q,z,d⟩
end
structure Cls(K:uZ)(C:Addr):Prop where
 pg:plainGet K C Str.empty=true
 hd:hasDictIn K C=true
 po:plainOver K C=true
 sa:findIn K (.ref C) "__setattr__"=some (some (.builtin "object.__setattr__"))
theorem Cls.get{K:uZ}{C:Addr}(c:Cls K C)(f:Str):plainGet K C f=true:=c.pg
def zH(K:uZ)(C:Addr)(f:Str):Prop:=findIn K (.ref C) f=some none
theorem zH.taker{K:uZ}{C:Addr}{f:Str}(n:zH K C f):takerIn K C f=some none:=by
 unfold takerIn
 rw[show findIn K (.ref C) f=some none from n]
 rfl
structure Meth(K:uZ)(C:Addr)(m:Str)(f:Addr):Prop where
 at_:findIn K (.ref C) m=some (some (.ref f))
 fn:isFn K (.ref f)=true
 kp:keepIn K (.ref f)=true
section
variable{X:Cx}{zp:List (Addr×Obj)}{σ:St}{H:Hp}{s:Shared}{a C dx:Addr}{fs:List (Str×V)}{f:Str}{v:V}{A:Around}{E:Value->Shared->Prop}
theorem zhN{b:Bool}{Q:Value->Shared->Prop}(I:Inv X zp σ H s)(e:H a=some (.ins C dx fs))(c:Cls X.K C)(n:zH X.K C f)(l:fs.lookup f=some v)
  (h:∀u s',Inv X zp σ H s'->RelV v u->Q u s'):wpAny (model X.prog X.w) A (getAttr (.ref a) f b) Q E s:=by
 obtain⟨mA,O,r,_,_,_⟩:=zd2 I.hok e
 obtain⟨u,hu,ru⟩:=RelO.some_of (v:=v) (o:=mA f) (by rw[←l];exact r f)
 exact zmB I.kIn O (c.get f) c.hd n hu (ziS ru) (h u _ (I.tok _) ru)
theorem zdI{m:Str}{g:Addr}{pl:Sem Bool}{Q:Value×List Value->Shared->Prop}(I:Inv X zp σ H s)(e:H a=some (.ins C dx fs))(c:Cls X.K C)(k:Meth X.K C m g)(l:fs.lookup m=none)
  (h:Q (.ref g,[.ref a]) s):wpAny (model X.prog X.w) A (getMethod (.ref a) m pl) Q E s:=by
 obtain⟨mA,O,r,_,_,_⟩:=zd2 I.hok e
 have hn:mA m=none:=RelO.none_of (by rw[←l];exact r m)
 exact zkM I.kIn O (c.get m) k.at_ k.fn hn h
theorem zhO{y:V}{u:Value}{Q:Unit->Shared->Prop}(I:Inv X zp σ H s)(e:H a=some (.ins C dx fs))(c:Cls X.K C)(n:zH X.K C f)(hl:fs.length<1000)(ry:RelV y u)
  (h:∀s',Inv X zp σ (upd H a (.ins C dx (putF f y fs))) s'->Q () s'):wpAny (model X.prog X.w) A (setAttr (.ref a) f u) Q E s:=by
 obtain⟨mA,O,r,wi,_,ho⟩:=zd2 I.hok e
 have hz:(fs.map (·.1)).length<=uQ:=by rw[yB,sizeLine_eq];lia
 refine zmC I.kIn O c.sa c.po n.taker c.hd wi hz fun h' O' sb=>h _ ?_
 have hd:∃o,h'.get? dx=some o:=let ⟨o,_,_,e',_⟩:=O'.ns;⟨o,e'⟩
 refine I.write (x:=a) (e:=dx) (by rw[e];exact True.intro) (.inr ho) (fun b q hb z=>(sb.2 b hb).trans z) hd ?_
 refine⟨by rw[zm O.ne];exact ho,?_,O.ne,O'.obj,_,O'.ns,fun g=>?_,fun g hg=>?_⟩
 ·have:=zcC f y fs;lia
 ·show RelO ((putF f y fs).lookup g) (if g=f then some u else mA g)
  rw[Zz]
  by_cases q:g=f
  ·rw[if_pos q,if_pos q];exact ry
  ·rw[if_neg q,if_neg q];exact r g
 ·by_cases q:g=f
  ·rw[q];exact (zcB f y fs).1
  ·refine (zcB f y fs).2 g (wi g fun z=>hg ?_)
   show (if g=f then some u else mA g)=none
   rw[if_neg q];exact z
theorem Inv.made(I:Inv X zp σ H s):Inv X zp σ (upd (upd H s.heap.objs.size (.own (s.heap.objs.size+1))) (s.heap.objs.size+1) (.ins C s.heap.objs.size []))
  {s with heap:=(s.heap.push emptyDict).push (instObj C s.heap.objs.size)}:=by
 have e1:(s.heap.push emptyDict).get? s.heap.objs.size=some emptyDict:=uN s.heap rfl
 have e2:((s.heap.push emptyDict).push (instObj C s.heap.objs.size)).get? (s.heap.objs.size+1)=some (instObj C s.heap.objs.size):=by
  have:=uN (s.heap.push emptyDict) (o:=instObj C s.heap.objs.size) rfl
  rwa [Heap.size_push] at this
 have e3:(s.heap.push emptyDict).Ns s.heap.objs.size (fun _=>none):=⟨emptyDict,#[],_,e1,rfl,(fun e he=>absurd he (by simp)),fun _=>rfl⟩
 have I1:=I.laid (a:=s.heap.objs.size) (o:=.own (s.heap.objs.size+1)) (h':=s.heap.push emptyDict) (t':=s.toks) (fun b u q=>uL _ q) (yF _) ⟨_,e1⟩
 refine I1.laid (a:=s.heap.objs.size+1) (o:=.ins C s.heap.objs.size []) (t':=s.toks) (fun b u q=>uL _ q) (Nat.le_of_eq (Heap.size_push _ _)) ?_
 have ne:s.heap.objs.size≠s.heap.objs.size+1:=yI (xZ _)
 refine⟨by rw[zm ne,zc],yN _,ne,e2,fun _=>none,(Heap.Ns1.of_empty e3).at fun o q=>uL _ q,fun _=>True.intro,fun y hy=>absurd rfl hy⟩
theorem zmD{prog:Program}{w:World}{env:Env}{e:Expr}{f:Str}{pos:Pos}{s:Shared}{Q:Value->Shared->Prop}(hb:attributeBase e f env (eval e env)=eval e env)
  (h:wpAny (model prog w) A (eval e env) (fun o s₁=>wpAny (model prog w) A (getAttr o f true) Q E s₁) E s):wpAny (model prog w) A (eval (.Attribute e f pos) env) Q E s:=
 Attribute_any_ h (by rw[arm_eval_Attribute,hb])
end
def tFld(K:uZ)(ta:TE)(f:Str):TE:=fun σ H Q=>ta σ H fun x H1=>∃a C dx fs v,x=.ref a/\H1 a=some (.ins C dx fs)/\Cls K C/\zH K C f/\fs.lookup f=some v/\Q v H1
def sFld(K:uZ)(ta tv:TE)(f:Str):TS:=fun D σ H=>tv σ H fun y H1=>ta σ H1 fun x H2=>∃a C dx fs,x=.ref a/\H2 a=some (.ins C dx fs)/\Cls K C/\zH K C f/\fs.length<1000 /\
 D.nx σ (upd H2 a (.ins C dx (putF f y fs)))
section
variable{X:Cx}{o e value:Expr}{f:Str}{pos pos' tpos:Pos}{ta tv:TE}
theorem zI(he:PE X e ta)(hb:attributeBase e f X.env (eval e X.env)=eval e X.env):PE X (.Attribute e f pos) (tFld X.K ta f):=by
 intro zp s σ H Q I h
 refine zmD hb (thn (he zp s σ H _ I h) fun u s1 ⟨x,H1,I1,rx,a,C,dx,fs,v,ex,ea,c,n,l,q⟩=>?_)
 subst ex
 obtain rfl:u=Value.ref a:=rx
 exact zhN I1 ea c n l fun u' s2 I2 ru=>⟨v,H1,I2,ru,q⟩
theorem ZK(ha:PE X o ta)(hv:PE X value tv)(hs:swapsWith value (some (.Attribute o f pos')) pos.line X.env=pure false):PS X (.Assign [.Attribute o f pos'] value pos) (sFld X.K ta tv f):=by
 intro zp s σ H D I h
 refine plainObj_wpAny_Assign_Attribute (thn (hv zp s σ H _ I h) fun u s1 ⟨y,H1,I1,ry,q⟩=>thn (ha zp s1 σ H1 _ I1 q) fun ov s2 ⟨x,H2,I2,rx,a,C,dx,fs,ex,ea,c,n,l,q2⟩=>?_) hs
 subst ex
 obtain rfl:ov=Value.ref a:=rx
 exact zhO I2 ea c n l ry fun s3 I3=>⟨σ,_,I3,q2⟩
end
section
variable{X:Cx}{zp:List (Addr×Obj)}{σ:St}{H:Hp}{s:Shared}{A:Around}{E:Value->Shared->Prop}{Q:Value->Shared->Prop}{c:Value}{b:Bool}
inductive TyOf(K:uZ)(H:Hp):V->Value->Prop where
 |non:TyOf K H .non (.type "NoneType")
 |bl (x:Bool):TyOf K H (.bl x) (.type "bool")
 |int (i:Int):TyOf K H (.int i) (.type "int")
 |str (x:Str):TyOf K H (.str x) (.type "str")
 |flt (x:UInt64):TyOf K H (.flt x) (.type "float")
 |lst {a:Addr}{xs:List V} (e:H a=some (.lst xs)):TyOf K H (.ref a) (.type "list")
 |frz {a:Addr}{o:Obj}{xs:List V} (e:H a=some (.frz o (.lst xs))):TyOf K H (.ref a) (.type "list")
 |tup {a:Addr}{xs:List V} (e:H a=some (.tup xs)):TyOf K H (.ref a) (.type "tuple")
 |dK {a:Addr}{kvs:List (Key×V)} (e:H a=some (.dK kvs)):TyOf K H (.ref a) (.type "dict")
 |dT {a:Addr}{kvs:List (List Key×V)} (e:H a=some (.dT kvs)):TyOf K H (.ref a) (.type "dict")
 |ins {a C dx:Addr}{fs:List (Str×V)} (e:H a=some (.ins C dx fs)) (cl:Cls K C) (ha:findIn K (.ref C) "__class__"=some (some (.builtin "object.__class__")))
   (hn:PySem.W.specialIn K (.builtin "object.__class__") "__get__"=some (some (.builtin "getset_descriptor.__get__"))) (htk:PySem.W.takesIn K (.builtin "object.__class__")=some true)
   (hm:PySem.W.mroIn K C (.type "object")=some true):TyOf K H (.ref a) (.ref C)
theorem ziT{x:V}{u t:Value}(I:Inv X zp σ H s)(rx:RelV x u)(ty:TyOf X.K H x t)(e:PySem.W.kitOne X.K t c=some b)(h:∀tk,Q (.bool b) {s with toks:=tk}):
  wpAny (model X.prog X.w) A (call (.builtin "isinstance") [u,c]) Q E s:=by
 cases ty with
 |non=>cases (show u=Value.none from rx);exact kia_one PySem.W.kitx_none I.kIn True.intro e (fun z=>nomatch z) h
 |bl y=>cases (show u=Value.bool y from rx);exact kia_one PySem.W.kitx_bool I.kIn True.intro e (fun z=>nomatch z) h
 |int i=>obtain⟨t,q⟩:=(show ∃t,u=Value.int i t from rx);cases q;exact kia_one PySem.W.kitx_int I.kIn True.intro e (fun z=>nomatch z) h
 |str y=>obtain⟨t,q⟩:=(show ∃t,u=Value.str y t from rx);cases q;exact kia_one PySem.W.kitx_str I.kIn True.intro e (fun z=>nomatch z) h
 |flt y=>obtain⟨t,q⟩:=(show ∃t,u=Value.float y t from rx);cases q;exact kia_one PySem.W.kitx_float I.kIn True.intro e (fun z=>nomatch z) h
 | @lst a xs ea=>
  cases (show u=Value.ref a from rx)
  obtain⟨_,_,n,_,h1⟩:=(show Zh X.prog X.w H s.heap a (.lst xs) from I.hok a _ ea)
  exact kia_one kitx_list I.kIn ⟨_,h1,rfl⟩ e (fun z=>nomatch z) h
 | @frz a ob xs ea=>
  cases (show u=Value.ref a from rx)
  obtain⟨_,_,_,n,_,h1⟩:=(show Zh X.prog X.w H s.heap a (.frz ob (.lst xs)) from I.hok a _ ea)
  exact kia_one kitx_list I.kIn ⟨_,h1,rfl⟩ e (fun z=>nomatch z) h
 | @tup a xs ea=>
  cases (show u=Value.ref a from rx)
  obtain⟨_,_,_,p⟩:=(show Zh X.prog X.w H s.heap a (.tup xs) from I.hok a _ ea)
  obtain⟨o,h1,h2,_⟩:=p
  exact kia_one PySem.W.kitx_tuple I.kIn ⟨o,h1,h2⟩ e (fun z=>nomatch z) h
 | @dK a kvs ea=>
  cases (show u=Value.ref a from rx)
  obtain⟨_,_,vs,_,p⟩:=(show Zh X.prog X.w H s.heap a (.dK kvs) from I.hok a _ ea)
  obtain⟨o,es,ep,h1,h2,_⟩:=p
  exact kia_one kitx_dict I.kIn ⟨o,h1,h2.1⟩ e (fun z=>nomatch z) h
 | @dT a kvs ea=>
  cases (show u=Value.ref a from rx)
  obtain⟨_,_,xs,_,o,es,ep,h1,h2,_⟩:=(show Zh X.prog X.w H s.heap a (.dT kvs) from I.hok a _ ea)
  exact kia_one kitx_dict I.kIn ⟨o,h1,h2.1⟩ e (fun z=>nomatch z) h
 | @ins a C dx fs ea cl ha hn htk hm=>
  cases (show u=Value.ref a from rx)
  obtain⟨mA,O,_⟩:=zd2 I.hok ea
  obtain⟨od,J,_⟩:=O.look
  exact kia_one (PySem.W.kitx_own (cl.get _) cl.hd ha hn htk hm) I.kIn J e (fun z=>nomatch z) h
end
structure Room(k:Nat)(A:Around):Prop where
 hd:A.handled=none
 dp:A.depth+3*k+5<recursionLimit
 un:A.units+16*k+200<cLine
 gd:A.guards=some []
theorem Room.mono{j k:Nat}{A:Around}(r:Room k A)(h:j<=k):Room j A:=⟨r.hd,by have:=r.dp;lia,by have:=r.un;lia,r.gd⟩
theorem Room.deeper{k:Nat}{A:Around}(r:Room (k+1) A)(env:Env):Room k (A.deeper env):=
 ⟨r.hd,by have:=r.dp;show A.depth+1+3*k+5<_;lia,by have:=r.un;show A.units+3+16*k+200<_;lia,r.gd⟩
theorem zhP{A:Around}{C:Addr}{us:List Value}{kw:List (Str×Value)}:(A.under (.builtin "type.__call__" ⟨.ref C::us,kw⟩)).depth=A.depth+1:=by
 first|rfl|simp[Around.under,Code.weight,Code.isCreation,Code.isGuard,Code.isCaller,Code.frames,Code.isFrame,guardIds]
theorem zhQ{A:Around}{C:Addr}{us:List Value}{kw:List (Str×Value)}:(A.under (.builtin "type.__call__" ⟨.ref C::us,kw⟩)).units=A.units+1:=by
 first|rfl|simp[Around.under,Code.cUnits,Code.frames,Code.isFrame]
theorem zf3{A:Around}{C:Addr}{us:List Value}{kw:List (Str×Value)}:(A.under (.builtin "type.__call__" ⟨.ref C::us,kw⟩)).guards=A.guards:=by
 first|rfl|(show pushGuards (Code.guards _) A.guards=_;rw[show Code.guards (.builtin "type.__call__" ⟨.ref C::us,kw⟩)=[] from rfl];rfl)|simp[Around.under,Code.guards,Code.isGuard,guardIds,pushGuards]
theorem Room.make{k:Nat}{A:Around}(r:Room (k+1) A)(C:Addr)(us:List Value)(kw:List (Str×Value)):Room k (A.under (.builtin "type.__call__" ⟨.ref C::us,kw⟩)):=
 ⟨r.hd,by have:=r.dp;rw[zhP];lia,by have:=r.un;rw[zhQ];lia,(zf3 (A:=A) (C:=C) (us:=us) (kw:=kw)).trans r.gd⟩
theorem Room.depth{k:Nat}{A:Around}(r:Room k A):A.depth<recursionLimit:=by have:=r.dp;lia
theorem Room.units{k:Nat}{A:Around}(r:Room k A):A.units+64<cLine:=by have:=r.un;lia
def tNil:TA:=fun _ H Q=>Q [] H
def zbe(ta:TE)(tr:TA):TA:=fun σ H Q=>ta σ H fun x H1=>tr σ H1 fun xs H2=>Q (x::xs) H2
section
variable{X:Cx}{e:Expr}{es:List Expr}{te:TE}{t:TA}{pos:Pos}
theorem zb:PA X [] tNil:=fun _ _ _ _ H Q I h=>Calls.spliced_nil ⟨[],H,I,.nil,h⟩
theorem za(ha:PE X e te)(hr:PA X es t)(hs:uS (e::es) X.env=(false,eval e X.env)::uS es X.env:=by rfl):PA X (e::es) (zbe te t):=by
 intro pos zp s σ H Q I h
 rw[hs]
 show wpAny _ _ (spliced ((false,eval e X.env)::backTo pos (uS es X.env))) _ _ s
 refine Calls.spliced_cons (thn (ha zp s σ H _ I h) fun u s1 ⟨x,H1,I1,r1,q1⟩=>?_)
 exact thn (hr pos zp s1 σ H1 _ I1 q1) fun us s2 ⟨xs,H2,I2,r2,q2⟩=>⟨x::xs,H2,I2,.cons r1 r2,q2⟩
def tTup(t:TA):TE:=fun σ H Q=>t σ H fun xs H1=>xs.length<=uQ/\∀p,H1 p=none->Q (.ref p) (upd H1 p (.tup xs))
def tLst(t:TA):TE:=fun σ H Q=>t σ H fun xs H1=>xs.length<=uQ/\∀p,H1 p=none->Q (.ref p) (upd H1 p (.lst xs))
theorem zy {x1} (h:PA X es t):PE X (.Tuple es x1 pos) (tTup t):=by
 intro zp s σ H Q I hq
 refine wpAny_Tuple_spliced (thn (h pos zp s σ H _ I hq) fun us s1 ⟨xs,H1,I1,r,z,q⟩=>⟨by rw[←r.length];exact z,?_⟩)
 have hf:H1 s1.heap.objs.size=none:=I1.hok.fresh (yF _)
 refine⟨.ref s1.heap.objs.size,upd H1 s1.heap.objs.size (.tup xs),I1.laid (t':=s1.toks) (fun b u e=>uL _ e) (yF _) ?_,rfl,q _ hf⟩
 exact⟨z,us,r,⟨_,uN _ rfl,rfl,_,rfl⟩⟩
theorem zS(h:PA X es t):PE X (.List es pos) (tLst t):=by
 intro zp s σ H Q I hq
 refine wpAny_List_spliced (thn (h pos zp s σ H _ I hq) fun us s1 ⟨xs,H1,I1,r,z,q⟩=>⟨by rw[←r.length];exact z,?_⟩)
 have hf:H1 s1.heap.objs.size=none:=I1.hok.fresh (yF _)
 refine⟨.ref s1.heap.objs.size,upd H1 s1.heap.objs.size (.lst xs),I1.laid (t':=s1.toks) (fun b u e=>uL _ e) (yF _) ?_,rfl,q _ hf⟩
 exact⟨z,us,0,r,uN _ rfl⟩
end
abbrev Sp:=List V->Hp->VK->XK->Prop
abbrev CXT:=List Env->Hp->Shared->XK->Value->Shared->Prop
structure Env0(P:Program)(w:World)(K:uZ)(mg:Str->Option Value)(base:Heap)(A:Around)(outer:List Env)(s:Shared)(H:Hp):Prop where
 frames:A.frames=some outer
 mod:Mod K mg base
 bs:∀b o,base.get? b=some o->s.heap.get? b=some o/\H b=none
 bsz:base.objs.size<=s.heap.objs.size
 funs:s.heap.FunFrames base outer
 frf:∀b∈frs outer,H b=none
 hok:HOk P w H s.heap
 bare:AllBare s.gens
def CE(outer:List Env)(P:Program)(w:World)(H:Hp)(s:Shared)(Q:VK)(u:Value)(s':Shared):Prop:=
 ∃v H',s'.os=s.os/\AllBare s'.gens/\Un (frs outer) [] H H' s.heap s'.heap/\HOk P w H' s'.heap/\RelV v u/\Q v H'
def CR(CX:CXT)(outer:List Env)(P:Program)(w:World)(H:Hp)(s:Shared)(Q:VK)(E:XK)(r:Result)(s':Shared):Prop:=
 match r with
 |.ok (.ret u)=>CE outer P w H s Q u s'
 |.ok _=>False
 |.error e=>CX outer H s E e s'
structure FnOk(P:Program)(w:World)(K:uZ)(mg:Str->Option Value)(base:Heap)(CX:CXT)(k:Nat)(f:Addr)(fd:tD)(ps:List Str)(sp:Sp):Prop where
 len:∀vs H Q E,sp vs H Q E->vs.length=ps.length
 run:∀(A:Around)(outer:List Env)(s:Shared)(H:Hp)(args:Args)(us:List Value)(vs:List V)(Q:VK)(E:XK),Room k A->Env0 P w K mg base A outer s H->BindsTo s fd args (ps.zip us)->Vals vs us->sp vs H Q E->
  codeAny (model P w) A (.call (.ref f) args) (CR CX outer P w H s Q E) s
theorem FnOk.mono{P:Program}{w:World}{K:uZ}{mg:Str->Option Value}{base:Heap}{CX:CXT}{j k:Nat}{f:Addr}{fd:tD}{ps:List Str}{sp:Sp}(F:FnOk P w K mg base CX j f fd ps sp)(h:j<=k):
  FnOk P w K mg base CX k f fd ps sp:=⟨F.len,fun A outer s H args us vs Q E hr=>F.run A outer s H args us vs Q E (hr.mono h)⟩
theorem Env0.make{P:Program}{w:World}{K:uZ}{mg:Str->Option Value}{base:Heap}{A:Around}{outer:List Env}{s:Shared}{H:Hp}(e:Env0 P w K mg base A outer s H)(C:Addr)(us:List Value)(kw:List (Str×Value)):
  Env0 P w K mg base (A.under (.builtin "type.__call__" ⟨.ref C::us,kw⟩)) outer s H:=⟨by first|exact e.frames|(simpa [Around.under,Code.envs,Code.isFrame,pushEnvs] using e.frames),e.mod,e.bs,e.bsz,e.funs,e.frf,e.hok,e.bare⟩
section
variable{X:Cx}{zp:List (Addr×Obj)}{σ:St}{H:Hp}{s s':Shared}
theorem Inv.env0(I:Inv X zp σ H s):Env0 X.prog X.w X.K X.mg X.base X.A X.stack s H:=
 ⟨I.ok.frames,I.ok.mod,I.bs,yM I.ok.bsz I.sz,I.stack,I.stkFree,I.hok,I.bare⟩
theorem Inv.after{Q:VK}{u:Value}(I:Inv X zp σ H s)(h:CE X.stack X.prog X.w H s Q u s'):EP X zp σ Q u s':=by
 obtain⟨v,H',os,bare,un,hok,r,q⟩:=h
 obtain⟨hh,g,d,t,os'⟩:=s'
 obtain rfl:os'=s.os:=os
 exact⟨v,H',I.call (h':=hh) (g':=g) (d':=d) (t':=t) (ch:=[]) un hok bare (fun b z=>absurd z (by simp)),r,q⟩
end
def ziU(sp:Sp)(dvs:List V)(E:XK)(t:TA):TE:=fun σ H Q=>t σ H fun vs H1=>sp (vs++dvs) H1 Q E
def ze9(C:Addr)(m:Str)(sp:Sp)(dvs:List V)(E:XK)(ta:TE)(t:TA):TE:=fun σ H Q=>ta σ H fun x H1=>∃a dx fs,x=.ref a/\H1 a=some (.ins C dx fs)/\fs.lookup m=none /\
 t σ H1 fun vs H2=>sp (x::(vs++dvs)) H2 Q E
def zmE(C:Addr)(sp:Sp)(dvs:List V)(E:XK)(t:TA):TE:=fun σ H Q=>t σ H fun vs H1=>∀x dx,H1 x=none->H1 dx=none->dx≠x->
 sp (.ref x::(vs++dvs)) (upd (upd H1 dx (.own x)) x (.ins C dx [])) (fun v H2=>v=.non/\Q (.ref x) H2) E
def Binds(K:uZ)(fd:tD)(ps:List Str)(ds:List Value):Prop:=
 ∀(s:Shared)(us:List Value),K.In s.heap->(us++ds).length=ps.length->BindsTo s fd ⟨us,[]⟩ (ps.zip (us++ds))
theorem Binds.all{K:uZ}{fd:tD}{ps:List Str}(h:∀us:List Value,us.length=ps.length->bindArgs fd ⟨us,[]⟩=pure (ps.zip us)):Binds K fd ps []:=fun s us _ hl=>by
 rw[xB] at hl ⊢
 exact .of_eq (h us hl)
def Passes(CX:CXT)(X:Cx)(E:XK):Prop:=∀(zp:List (Addr×Obj))(σ:St)(H:Hp)(s:Shared)(e:Value)(s':Shared),Inv X zp σ H s->CX X.stack H s E e s'->X.xe e s'
section
variable{X:Cx}{CX:CXT}{k:Nat}{f C:Addr}{fd:tD}{ps:List Str}{sp:Sp}{dvs:List V}{ds:List Value}{E:XK}{x m:Str}{p pos apos:Pos}{e o:Expr}{es:List Expr}{ta:TE}{t:TA}
theorem zg6{zp:List (Addr×Obj)}{σ:St}{H:Hp}{s:Shared}{Q:VK}{us:List Value}{vs:List V}(F:FnOk X.prog X.w X.K X.mg X.base CX k f fd ps sp)(hr:Room k X.A)(hb:Binds X.K fd ps ds)(hd:Vals dvs ds)(hx:Passes CX X E)
  (I:Inv X zp σ H s) (r:Vals vs us) (h:sp (vs++dvs) H Q E):wpAny (model X.prog X.w) X.A (call (.ref f) us) (EP X zp σ Q) X.xe s:=by
 have r2:Vals (vs++dvs) (us++ds):=r.append hd
 have hl:(us++ds).length=ps.length:=by rw[←r2.length];exact F.len _ _ _ _ h
 refine wpAny_call (codeAny_mono (F.run X.A X.stack s H ⟨us,[]⟩ (us++ds) (vs++dvs) Q E hr I.env0 (hb s us I.kIn hl) r2 h) fun r s' hq=>?_)
 cases r with
 |error e=>exact hx zp σ H s e s' I hq
 |ok fl=>
  cases fl with
  |ret u=>exact I.after hq
  |next=>exact False.elim hq
  |brk=>exact False.elim hq
  |cont=>exact False.elim hq
theorem zmF(F:FnOk X.prog X.w X.K X.mg X.base CX k f fd ps sp)(hr:Room k X.A)(hg:Gl X x)(hm:X.mg x=some (.ref f))(hk:keepIn X.K (.ref f)=true)(hb:Binds X.K fd ps ds)(hd:Vals dvs ds)(hx:Passes CX X E)
  (ha:PA X (e::es) t) (hdb:(x==("__debug__":Str))=false:=by decide) (he:uS (e::es) X.env=(false,eval e X.env)::uS es X.env:=by rfl) (hpl:(backTo pos (uS es X.env)).any (·.1)=false:=by rfl):
  PE X (.Call (.Name x p) (e::es) [] pos) (ziU sp dvs E t):=by
 intro zp s σ H Q I h
 refine wpAny_Call_Name_kw (zf0 I hg hm ?_ hdb)
 refine callWith_K (h₀:=X.base) I.ok.mod.kin hk (thn (ha pos zp s σ H _ I h) fun us s1 ⟨vs,H1,I1,r,q⟩=>⟨I1.kIn,?_⟩) he hpl
 exact zg6 F hr hb hd hx I1 r q
theorem ziV{pl:Sem Bool}(he:PE X o ta)(c:Cls X.K C)(hm:Meth X.K C m f)(F:FnOk X.prog X.w X.K X.mg X.base CX k f fd ps sp)(hr:Room k X.A)(hb:Binds X.K fd ps ds)(hd:Vals dvs ds)(hx:Passes CX X E)(ha:PA X (e::es) t)
  (hst:uS (e::es) X.env=(false,eval e X.env)::uS es X.env:=by rfl) (hpl:(backTo pos (uS es X.env)).any (·.1)=false:=by rfl)
  (ht:eval (.Call (.Attribute o m apos) (e::es) [] pos) X.env=(do
   let ov ←eval o X.env
   standAt apos.atName
   let (f,first) ←holding [ov] (getMethod ov m pl)
   callWith pos f first (backTo pos (uS (e::es) X.env)) (backToKw pos (keywordEach [] X.env))):=by rfl):
  PE X (.Call (.Attribute o m apos) (e::es) [] pos) (ze9 C m sp dvs E ta t):=by
 intro zp s σ H Q I h
 refine PySem.W.methodCall_KW (pl:=pl) (thn (he zp s σ H _ I h) fun u s1 ⟨x,H1,I1,rx,a,dx,fs,ex,ea,l,q⟩=>?_) ht
 subst ex
 obtain rfl:u=Value.ref a:=rx
 refine zdI I1 ea c hm l ?_
 refine callWith_K (first:=[.ref a]) (h₀:=X.base) I.ok.mod.kin hm.kp (thn (ha pos zp s1 σ H1 _ I1 q) fun us s2 ⟨vs,H2,I2,r,q2⟩=>⟨I2.kIn,?_⟩) hst hpl
 exact zg6 (us:=.ref a::us) (vs:=.ref a::vs) F hr hb hd hx I2 (.cons rfl r) q2
theorem zg7{pl:Sem Bool}(he:PE X o ta)(c:Cls X.K C)(hm:Meth X.K C m f)(F:FnOk X.prog X.w X.K X.mg X.base CX k f fd ps sp)(hr:Room k X.A)(hb:Binds X.K fd ps ds)(hd:Vals dvs ds)(hx:Passes CX X E)
  (ht:eval (.Call (.Attribute o m apos) [] [] pos) X.env=(do
   let ov ←eval o X.env
   standAt apos.atName
   let (f,first) ←holding [ov] (getMethod ov m pl)
   callWith pos f first (backTo pos (uS [] X.env)) (backToKw pos (keywordEach [] X.env))):=by rfl):
  PE X (.Call (.Attribute o m apos) [] [] pos) (ze9 C m sp dvs E ta tNil):=by
 intro zp s σ H Q I h
 refine PySem.W.methodCall_KW (pl:=pl) (thn (he zp s σ H _ I h) fun u s1 ⟨x,H1,I1,rx,a,dx,fs,ex,ea,l,q⟩=>?_) ht
 subst ex
 obtain rfl:u=Value.ref a:=rx
 refine zdI I1 ea c hm l ?_
 exact PySem.W.callWith_K0 (first:=[.ref a]) I1.kIn hm.kp (zg6 (us:=[.ref a]) (vs:=[.ref a]) F hr hb hd hx I1 (.cons rfl .nil) q)
structure Mk(K:uZ)(C f:Addr):Prop where
 makes:makesIn K C=true
 init:findIn K (.ref C) "__init__"=some (some (.ref f))
 fn:isFn K (.ref f)=true
 kp:keepIn K (.ref C)=true
theorem zkO{zp:List (Addr×Obj)}{σ:St}{H:Hp}{s:Shared}{Q:VK}{us:List Value}{vs:List V}(M:Mk X.K C f)(F:FnOk X.prog X.w X.K X.mg X.base CX k f fd ps sp)(hr:Room (k+1) X.A)(hb:Binds X.K fd ps ds)(hd:Vals dvs ds)
  (hx:Passes CX X E) (I:Inv X zp σ H s) (r:Vals vs us)
  (h:∀x dx,H x=none->H dx=none->dx≠x->sp (.ref x::(vs++dvs)) (upd (upd H dx (.own x)) x (.ins C dx [])) (fun v H2=>v=.non/\Q (.ref x) H2) E):
  wpAny (model X.prog X.w) X.A (call (.ref C) us) (EP X zp σ Q) X.xe s:=by
 have hq:=h (s.heap.objs.size+1) s.heap.objs.size (I.hok.fresh (wQ _)) (I.hok.fresh (yF _)) (yI (xZ _))
 have I2:=Inv.made (C:=C) I
 have r2:Vals (V.ref (s.heap.objs.size+1)::(vs++dvs)) (Value.ref (s.heap.objs.size+1)::(us++ds)):=.cons rfl (r.append hd)
 have hl:(Value.ref (s.heap.objs.size+1)::us++ds).length=ps.length:=by
  have e:=r2.length
  rw[F.len _ _ _ _ hq] at e
  exact e.symm
 refine wpAny_call (zkN (f:=f) I.kIn M.makes M.init (beq_iff_eq.mp M.fn) (codeAny_mono (F.run _ X.stack _ _ ⟨Value.ref (s.heap.objs.size+1)::us,[]⟩ (Value.ref (s.heap.objs.size+1)::(us++ds)) _ _ E (hr.make C us [])
  (I2.env0.make C us []) (hb _ (Value.ref (s.heap.objs.size+1)::us) I2.kIn hl) r2 hq) fun r s' hq'=>?_))
 cases r with
 |error e=>exact hx zp σ _ _ e s' I2 hq'
 |ok fl=>
  cases fl with
  |ret u=>
   obtain⟨v,H',I3,rv,ev,q3⟩:=I2.after hq'
   subst ev
   exact⟨rv,⟨V.ref (s.heap.objs.size+1),H',I3,rfl,q3⟩⟩
  |next=>exact False.elim hq'
  |brk=>exact False.elim hq'
  |cont=>exact False.elim hq'
theorem zmG(M:Mk X.K C f)(F:FnOk X.prog X.w X.K X.mg X.base CX k f fd ps sp)(hr:Room (k+1) X.A)(hg:Gl X x)(hm:X.mg x=some (.ref C))(hb:Binds X.K fd ps ds)(hd:Vals dvs ds)(hx:Passes CX X E)
  (ha:PA X (e::es) t) (hdb:(x==("__debug__":Str))=false:=by decide) (he:uS (e::es) X.env=(false,eval e X.env)::uS es X.env:=by rfl) (hpl:(backTo pos (uS es X.env)).any (·.1)=false:=by rfl):
  PE X (.Call (.Name x p) (e::es) [] pos) (zmE C sp dvs E t):=by
 intro zp s σ H Q I h
 refine wpAny_Call_Name_kw (zf0 I hg hm ?_ hdb)
 refine callWith_K (h₀:=X.base) I.ok.mod.kin M.kp (thn (ha pos zp s σ H _ I h) fun us s1 ⟨vs,H1,I1,r,q⟩=>⟨I1.kIn,?_⟩) he hpl
 exact zkO M F hr hb hd hx I1 r q
end
section
variable{X:Cx}{CX:CXT}{k:Nat}{f C:Addr}{fd:tD}{ps ks:List Str}{sp:Sp}{E:XK}{x m:Str}{p pos apos kpos:Pos}{e o:Expr}{es:List Expr}{kws:List Keyword}{te ta:TE}{t tk:TA}{nm:Option Str}
variable{g:List Value->List Value->List Value}{gV:List V->List V->List V}
end
structure FnScope(N P:List Str)(sc:Scope):Prop where
 kind:sc.kind=.function
 co:sc.isCoroutine=false
 gen:sc.isGenerator=false
 nd:N.Nodup
 pre:N.take P.length=P
 par:∀x∈P,sc.names.lookup x=some .local\/sc.names.lookup x=some .cell
 nofree:∀y∈sc.names,y.2≠.free
theorem mkSc{N P:List Str}{sc:Scope}(a:sc.kind=.function)(h:((sc.isCoroutine=false/\sc.isGenerator=false)/\N.Nodup/\N.take P.length=P)/\(∀x∈P,sc.names.lookup x=some .local\/sc.names.lookup x=some .cell)/\∀y∈sc.names,y.2≠.free):FnScope N P sc:=⟨a,h.1.1.1,h.1.1.2,h.1.2.1,h.1.2.2,h.2.1,h.2.2⟩
theorem zfa{kindOf:Str->Option NameKind}{x:Str}:∀{binds:List (Str×Value)}{m:Str->Option Value},(∀v,(x,v) ∉ binds)->bindL kindOf binds m x=m x
 |[],_,_=>rfl
 |(n,v)::r,m,h=>by
  unfold bindL
  rw[zfa fun w hw=>h w (yX _ hw)]
  split
  ·have:x≠n:=by rintro rfl;exact h v xG
   simp[this]
  ·rfl
theorem zfb{kindOf:Str->Option NameKind}{x:Str}:∀{binds:List (Str×Value)}{m:Str->Option Value},(∀v,(x,v) ∉ binds)->bindC kindOf binds m x=m x
 |[],_,_=>rfl
 |(n,v)::r,m,h=>by
  unfold bindC
  rw[zfb fun w hw=>h w (yX _ hw)]
  split
  ·rfl
  ·have:x≠n:=by rintro rfl;exact h v xG
   simp[this]
theorem zfc{kindOf:Str->Option NameKind}{x:Str}{v:Value}:∀{P:List Str}{vs:List Value}{i:Nat}{m:Str->Option Value},P.Nodup->P[i]?=some x->vs[i]?=some v->kindOf x=some .local->
  bindL kindOf (P.zip vs) m x=some v
 |[],_,_,_,_,h,_,_=>by simp at h
 |_::_,[],_,_,_,_,h,_=>by simp at h
 |p::P,w::vs,0,m,nd,h1,h2,hk=>by
  simp at h1 h2;subst h1;subst h2
  show bindL kindOf ((p,w)::P.zip vs) m p=_
  unfold bindL
  rw[zfa fun v hv=>(wV.mp nd).1 (vN hv).1,if_pos hk]
  simp
 |p::P,w::vs,i+1,m,nd,h1,h2,hk=>by
  show bindL kindOf ((p,w)::P.zip vs) m x=_
  unfold bindL
  exact zfc (i:=i) (wV.mp nd).2 (by simpa using h1) (by simpa using h2) hk
theorem zfd{kindOf:Str->Option NameKind}{x:Str}{v:Value}:∀{P:List Str}{vs:List Value}{i:Nat}{m:Str->Option Value},P.Nodup->P[i]?=some x->vs[i]?=some v->kindOf x≠some .local->
  bindC kindOf (P.zip vs) m x=some v
 |[],_,_,_,_,h,_,_=>by simp at h
 |_::_,[],_,_,_,_,h,_=>by simp at h
 |p::P,w::vs,0,m,nd,h1,h2,hk=>by
  simp at h1 h2;subst h1;subst h2
  show bindC kindOf ((p,w)::P.zip vs) m p=_
  unfold bindC
  rw[zfb fun v hv=>(wV.mp nd).1 (vN hv).1,if_neg hk]
  simp
 |p::P,w::vs,i+1,m,nd,h1,h2,hk=>by
  show bindC kindOf ((p,w)::P.zip vs) m x=_
  unfold bindC
  exact zfd (i:=i) (wV.mp nd).2 (by simpa using h1) (by simpa using h2) hk
noncomputable def start(N:List Str)(vs:List V):St:=vs.map some++List.replicate (N.length-vs.length) none
noncomputable def cxOf(CX:CXT)(P:Program)(w:World)(K:uZ)(mg:Str->Option Value)(base:Heap)(N:List Str)(qual:Str)(scope:Scope)(f:Addr)(cd:Value)(A:Around)(outer:List Env)(s:Shared)(H:Hp)(E:XK):Cx where
 prog:=P
 w:=w
 K:=K
 mg:=mg
 base:=base
 A:=A.deeper (envOfC qual scope s.heap.objs.size f cd)
 N:=N
 s₀:=s
 H₀:=H
 env:=envOfC qual scope s.heap.objs.size f cd
 outer:=outer
 stack:=envOfC qual scope s.heap.objs.size f cd::outer
 ex:=[]
 calm:=true
 fn:=fun _=>true
 pn:=[]
 xe:=fun e s'=>wpAny (model P w) (A.deeper (envOfC qual scope s.heap.objs.size f cd)) (leaving (envOfC qual scope s.heap.objs.size f cd) e) (fun _ s''=>CX outer H s E e s'') (fun e' s''=>CX outer H s E e' s'') s'
theorem zg8{sc:Scope}{n:Nat}{x:Str}(h:sc.names.lookup x=some .cell):∃c,(cellsFrom n sc.names []).lookup x=some c:=by
 have q:=PySem.W.cellsFrom_some sc.names n [] (.inl h)
 exact xX.mp q
theorem ziW{CX:CXT}{P:Program}{w:World}{K:uZ}{mg:Str->Option Value}{base:Heap}{N ps:List Str}{qual:Str}{scope:Scope}{f:Addr}{cd:Value}{A:Around}{outer:List Env}{s s1:Shared}{H:Hp}{E:XK}{us:List Value}{vs:List V}
  (S:FnScope N ps scope) (hd:A.handled=none) (e0:Env0 P w K mg base A outer s H) (hl:vs.length=ps.length) (r:Vals vs us)
  (x:InCallC s s.heap.objs.size (bindL (envOfC qual scope s.heap.objs.size f cd).kindOf (ps.zip us) fun _=>none) (cellsFrom (s.heap.objs.size+1) scope.names []) (bindC (envOfC qual scope s.heap.objs.size f cd).kindOf (ps.zip us) fun _=>none) s1):
  Inv (cxOf CX P w K mg base N qual scope f cd A outer s H E) [] (start N vs) H s1:=by
 have hpl:ps.length<=N.length:=by have:=congrArg List.length S.pre;rw[yU] at this;lia
 obtain⟨h1,tk,rfl,hk⟩:=x.done
 have noA:∀b:Addr,b ∉ (cxOf CX P w K mg base N qual scope f cd A outer s H E).ex:=fun b z=>absurd (show b∈([]:List Addr) from z) (by simp)
 refine⟨⟨e0.mod,S.kind,rfl,rfl,yF _,fun y z c h1 h2=>?_,fun y hy=>?_,fun y c _ h=>?_,fun _=>hd,Around.frames_deeper e0.frames,.inr ⟨rfl,rfl⟩,fun b z=>absurd z (noA b),e0.bs,e0.bsz,fun b _ _=>noA b,fun b z=>absurd z (noA b),e0.funs,e0.frf⟩,
  rfl,e0.bare,Un.kept hk,⟨_,x.toInCall.ns,fun i y v h1 h2 h3=>?_⟩,fun y c h=>⟨_,x.cell y c h⟩,e0.hok.fresh (yF _),fun y c h=>?_,fun p hp=>absurd (show p∈([]:List (Addr×Obj)) from hp) (by simp),e0.hok.kept hk,?_⟩
 ·exact name_of_addr x.apart (PySem.mem_of_lookup h1) (PySem.mem_of_lookup h2)
 ·have hy:scope.names.lookup y=some .cell\/scope.names.lookup y=some .free:=hy
  rcases hy with hy|hy
  ·exact zg8 hy
  ·exact absurd rfl (S.nofree _ (PySem.mem_of_lookup hy))
 ·exact xP (x.above y c (PySem.mem_of_lookup h))
 ·have hi:i<vs.length:=by
   unfold start at h2
   by_cases hi:i<vs.length
   ·exact hi
   ·rw[yL (by simpa using hi)] at h2
    rw[List.getElem?_replicate] at h2
    split at h2<;>cases h2
  have ha:vs[i]?=some v:=by
   unfold start at h2
   rw[yJ (by simpa using hi),yK] at h2
   cases e:vs[i]? with
   |none=>rw[e] at h2;cases h2
   |some a=>rw[e] at h2;cases h2;rfl
  obtain⟨u,hu,rv⟩:=r.get ha
  have hp:ps[i]?=some y:=by
   rw[←S.pre,xY (by lia)];exact h1
  have ndP:ps.Nodup:=by rw[←S.pre];exact S.nd.sublist (List.take_sublist _ _)
  refine⟨u,rv,?_⟩
  rcases S.par y (yS hp) with k|k
  ·exact .inl ⟨k,zfc ndP hp hu k⟩
  ·obtain⟨c,e⟩:=zg8 (n:=s.heap.objs.size+1) k
   refine .inr ⟨.inl k,c,e,?_⟩
   have q:=x.cell y c e
   rw[zfd ndP hp hu (by show scope.names.lookup y≠_;rw[k];decide)] at q
   exact q
 ·exact e0.hok.fresh (xP (x.above y c (PySem.mem_of_lookup h)))
 ·unfold start
  show _=N.length
  rw[yE,yB,List.length_replicate]
  lia
theorem znH{CX:CXT}{P:Program}{w:World}{K:uZ}{mg:Str->Option Value}{base:Heap}{k:Nat}{f:Addr}{name qual:Str}{params:Arguments}{body:List Stmt}{scope:Scope}{dV kV doc pm cdv ct oc:Value}{an od:Option Addr}
  {osl:Array (Option Value)}{N ps:List Str}{sp:Sp} (lk:K.lookup f=some ⟨oc,od,.func (fnOf name qual params body scope dV kV doc pm an cdv ct),osl⟩) (hcd:codeIn K cdv qual=true) (S:FnScope N ps scope)
  (len:∀vs H Q E,sp vs H Q E->vs.length=ps.length)
  (hbody:∀(A:Around)(outer:List Env)(s:Shared)(H:Hp)(vs:List V)(Q:VK)(E:XK),Room k (A.deeper (envOfC qual scope s.heap.objs.size f cdv))->sp vs H Q E->
   ∃t,PSs (cxOf CX P w K mg base N qual scope f cdv A outer s H E) body t/\t {nx:=fun _ H'=>Q .non H',rt:=Q} (start N vs) H):
  FnOk P w K mg base CX (k+1) f (fnOf name qual params body scope dV kV doc pm an cdv ct) ps sp:=by
 refine⟨len,fun A outer s H args us vs Q E hr e0 hb r hsp=>?_⟩
 have hl:=len _ _ _ _ hsp
 have KX:K.In s.heap:=e0.mod.kin.keeps fun b o e=>(e0.bs b o e).1
 have lim:s.heap.NoLimit:=e0.mod.nolimit.keeps fun b o e=>(e0.bs b o e).1
 have hkind:∀y∈ps.zip us,scope.names.lookup y.1=some .local\/(scope.names.lookup y.1=some .cell/\((cellsFrom (s.heap.objs.size+1) scope.names []).lookup y.1).isSome=true):=fun ⟨n,v⟩ hy=>by
  rcases S.par n (vN hy).1 with q|q
  ·exact .inl q
  ·exact .inr ⟨q,PySem.W.cellsFrom_some _ _ _ (.inl q)⟩
 refine codeAny_call_function hr.depth (KX _ _ lk) rfl S.co S.gen rfl (PySem.W.codeRec_of KX hcd) (hb _ _ _ _ ?_)
 refine wpAny_newFunctionEnv_cells S.kind hkind fun env he s1 x=>?_
 subst he
 refine⟨lim.keeps x.toInCall.keep,codeAny_func ?_⟩
 obtain⟨t,ht,hq⟩:=hbody A outer s H vs Q E (hr.deeper _) hsp
 have I:Inv (cxOf CX P w K mg base N qual scope f cdv A outer s H E) [] (start N vs) H s1:=ziW S hr.hd e0 hl r x
 refine wpAny_mono (ht [] s1 (start N vs) H _ I hq) (fun fl s' hs=>?_) fun e s' hs=>hs
 have fin:∀{σ':St}{H':Hp}{v:V}{u:Value},Inv (cxOf CX P w K mg base N qual scope f cdv A outer s H E) [] σ' H' s'->RelV v u->Q v H'->CE outer P w H s Q u s':=
  fun {σ' H' v u} J rv q=>⟨v,H',J.os,J.bare,J.base,J.hok,rv,q⟩
 cases fl with
 |ret u=>
  obtain⟨v,σ',H',J,rv,q⟩:=hs
  exact fin J rv q
 |next=>
  obtain⟨σ',H',J,q⟩:=hs
  exact fin (v:=V.non) (u:=Value.none) J rfl q
 |brk=>
  obtain⟨_,_,_,q⟩:=hs
  exact False.elim q
 |cont=>
  obtain⟨_,_,_,q⟩:=hs
  exact False.elim q
section
variable{X:Cx}{x:Str}{p pos:Pos}{e:Expr}{es:List Expr}{t:TA}{id T:String}{r:List V->Hp->VK->Prop}
def tCB(r:List V->Hp->VK->Prop)(t:TA):TE:=fun σ H Q=>t σ H fun vs H1=>r vs H1 Q
theorem zk(hc:zav X (.builtin id) r)(hg:Gl X x)(hm:X.mg x=none)(hv:uT x=some (.builtin id))(ha:PA X (e::es) t)(hn:x≠"__name__":=by decide)(hdb:(x==("__debug__":Str))=false:=by decide)
  (he:uS (e::es) X.env=(false,eval e X.env)::uS es X.env:=by rfl) (hpl:(backTo pos (uS es X.env)).any (·.1)=false:=by rfl):PE X (.Call (.Name x p) (e::es) [] pos) (tCB r t):=by
 intro zp s σ H Q I h
 refine wpAny_Call_Name_kw (zcr I hg hm hv ?_ hn hdb)
 exact PyProof.Rows.callWith_builtin1 (thn (ha pos zp s σ H _ I h) fun us s1 ⟨vs,H1,I1,r1,q1⟩=>hc zp s1 σ H1 vs us Q I1 r1 q1) he hpl
theorem zM(hc:zav X (.type T) r)(hg:Gl X x)(hm:X.mg x=none)(hv:uT x=some (.type T))(ha:PA X (e::es) t)(hn:x≠"__name__":=by decide)(hdb:(x==("__debug__":Str))=false:=by decide)
  (he:uS (e::es) X.env=(false,eval e X.env)::uS es X.env:=by rfl) (hpl:(backTo pos (uS es X.env)).any (·.1)=false:=by rfl):PE X (.Call (.Name x p) (e::es) [] pos) (tCB r t):=by
 intro zp s σ H Q I h
 refine wpAny_Call_Name_kw (zcr I hg hm hv ?_ hn hdb)
 exact PyProof.Rows.callWith_type1 (thn (ha pos zp s σ H _ I h) fun us s1 ⟨vs,H1,I1,r1,q1⟩=>hc zp s1 σ H1 vs us Q I1 r1 q1) he hpl
end
section
variable{κ:Type}[DecidableEq κ]
noncomputable def valV(kvs:List (κ×V))(k:κ):Option V:=(kvs.find? fun kv=>decide (kv.1=k)).map (·.2)
noncomputable def putK(kvs:List (κ×V))(k:κ)(v:V):List (κ×V):=
 if (kvs.any fun kv=>decide (kv.1=k))=true then kvs.map (fun kv=>if kv.1=k then (kv.1,v) else kv) else kvs++[(k,v)]
theorem ZC{p:κ×V}{r:List (κ×V)}{k:κ}(e:p.1=k):valV (p::r) k=some p.2:=by simp[valV,wE,e]
theorem ZD{p:κ×V}{r:List (κ×V)}{k:κ}(e:¬p.1=k):valV (p::r) k=valV r k:=by simp[valV,wE,e]
theorem zcl(k:κ):∀kvs:List (κ×V),(kvs.any fun kv=>decide (kv.1=k))=(valV kvs k).isSome
 |[]=>rfl
 |p::r=>by
  rw[wO]
  by_cases e:p.1=k
  ·simp only[ZC e,decide_eq_true e,Bool.true_or,Option.isSome_some]
  ·rw[ZD e,decide_eq_false e,Bool.false_or];exact zcl k r
theorem zg9(k j:κ)(y:V):∀kvs:List (κ×V),valV (kvs.map fun kv=>if kv.1=k then (kv.1,y) else kv) j=(valV kvs j).map fun x=>if j=k then y else x
 |[]=>rfl
 |p::r=>by
  have ih:=zg9 k j y r
  rw[xA]
  by_cases h:p.1=k
  ·rw[if_pos h]
   by_cases e:p.1=j
   ·rw[ZC (p:=(p.1,y)) e,ZC e,xU,if_pos (e.symm.trans h)]
   ·rw[ZD (p:=(p.1,y)) e,ZD e,ih]
  ·rw[if_neg h]
   by_cases e:p.1=j
   ·rw[ZC (p:=p) e,ZC e,xU,if_neg (fun z=>h (e.trans z))]
   ·rw[ZD (p:=p) e,ZD e,ih]
theorem zfe(k j:κ)(y:V):∀kvs:List (κ×V),valV kvs k=none->valV (kvs++[(k,y)]) j=if j=k then some y else valV kvs j
 |[],_=>by
  by_cases e:k=j
  ·rw[if_pos e.symm];exact ZC (p:=(k,y)) e
  ·rw[if_neg (fun z=>e z.symm)];exact ZD (p:=(k,y)) e
 |p::r,hn=>by
  rw[xL]
  have hk:¬p.1=k:=fun z=>by rw[ZC z] at hn;cases hn
  rw[ZD hk] at hn
  have ih:=zfe k j y r hn
  by_cases e:p.1=j
  ·rw[ZC e,ZC e,if_neg (fun z=>hk (e.trans z))]
  ·rw[ZD e,ZD e,ih]
theorem zkP(kvs:List (κ×V))(k j:κ)(y:V):valV (putK kvs k y) j=if j=k then some y else valV kvs j:=by
 unfold putK
 by_cases a:(kvs.any fun kv=>decide (kv.1=k))=true
 ·rw[if_pos a,zg9]
  rw[zcl] at a
  by_cases e:j=k
  ·obtain⟨x,hx⟩:=xX.mp a
   rw[if_pos e,e,hx,xU,if_pos rfl]
  ·rw[if_neg e]
   cases valV kvs j with
   |none=>rfl
   |some x=>rw[xU,if_neg e]
 ·rw[if_neg a]
  refine zfe k j y kvs ?_
  rw[zcl] at a
  cases q:valV kvs k with
  |none=>rfl
  |some x=>rw[q] at a;exact (a rfl).elim
theorem zbf(kvs:List (κ×V))(k:κ)(v:V):(putK kvs k v).length<=kvs.length+1:=by
 unfold putK
 split
 ·rw[yB];lia
 ·rw[yE,yG,wW];lia
theorem RelO.isSome_eq{o:Option V}{u:Option Value}(r:RelO o u):o.isSome=u.isSome:=by
 cases o with
 |none=>cases u with
  |none=>rfl
  |some _=>exact (show False from r).elim
 |some _=>cases u with
  |none=>exact (show False from r).elim
  |some _=>rfl
theorem RelO.getD{o:Option V}{u:Option Value}{d:V}{d':Value}(r:RelO o u)(rd:RelV d d'):RelV (o.getD d) (u.getD d'):=by
 cases o with
 |none=>cases u with
  |none=>exact rd
  |some _=>exact (show False from r).elim
 |some _=>cases u with
  |none=>exact (show False from r).elim
  |some _=>exact r
theorem KV.val{kvs:List (κ×V)}{vs:List (κ×Value)}(r:KV kvs vs)(k:κ):RelO (valV kvs k) (valueAt vs k):=by
 unfold KV at r
 induction r with
 |nil=>exact True.intro
 | @cons p q ps qs h t ih=>
  obtain⟨h1,h2⟩:=h
  by_cases e:p.1=k
  ·have e':q.1=k:=h1.symm.trans e
   have b:valueAt (q::qs) k=some q.2:=by simp[valueAt,wE,e']
   rw[ZC e,b];exact h2
  ·have e':¬q.1=k:=fun z=>e (h1.trans z)
   have b:valueAt (q::qs) k=valueAt qs k:=by simp[valueAt,wE,e']
   rw[ZD e,b];exact ih
theorem KV.any{kvs:List (κ×V)}{vs:List (κ×Value)}(r:KV kvs vs)(k:κ):(kvs.any fun kv=>decide (kv.1=k))=vs.any fun kv=>decide (kv.1=k):=by
 unfold KV at r
 induction r with
 |nil=>rfl
 |cons h t ih=>rw[wO,wO,ih,h.1]
theorem KV.repl{kvs:List (κ×V)}{vs:List (κ×Value)}(r:KV kvs vs)(k:κ){y:V}{u:Value}(ry:RelV y u):
  KV (kvs.map fun kv=>if kv.1=k then (kv.1,y) else kv) (vs.map fun kv=>if kv.1=k then (kv.1,u) else kv):=by
 unfold KV at r ⊢
 induction r with
 |nil=>exact .nil
 | @cons p q ps qs h t ih=>
  rw[xA,xA]
  refine .cons ?_ ih
  obtain⟨h1,h2⟩:=h
  by_cases e:p.1=k
  ·rw[if_pos e,if_pos (h1.symm.trans e)];exact⟨h1,ry⟩
  ·rw[if_neg e,if_neg (fun z=>e (h1.trans z))];exact⟨h1,h2⟩
theorem KV.put{kvs:List (κ×V)}{vs:List (κ×Value)}(r:KV kvs vs)(k:κ){y:V}{u:Value}(ry:RelV y u):KV (putK kvs k y) (stored vs k u):=by
 unfold putK stored
 rw[r.any k]
 by_cases e:(vs.any fun kv=>decide (kv.1=k))=true
 ·rw[if_pos e,if_pos e];exact r.repl k ry
 ·rw[if_neg e,if_neg e];exact Paired.snoc r ⟨rfl,ry⟩
theorem KV.length{kvs:List (κ×V)}{vs:List (κ×Value)}(r:KV kvs vs):kvs.length=vs.length:=Paired.length r
end
theorem zf4{P:Program}{w:World}{k:Key}{u:Value}(r:RelV (kV k) u):(zK P w).is k u=true:=by
 cases k with
 |inl i=>obtain⟨t,e⟩:=(show ∃t,u=Value.int i t from r);subst e;exact zfZ P w i t
 |inr x=>obtain⟨t,e⟩:=(show ∃t,u=Value.str x t from r);subst e;exact Zy P w x t
theorem zff{P:Program}{w:World}:∀{ks:List Key}{us:List Value},Vals (ks.map kV) us->ItemsAre (zK P w) ks us
 |[],_,r=>by rw[List.map_nil] at r;cases r;exact .nil
 |k::ks,_,r=>by
  rw[xA] at r
  cases r with
  |cons h t=>exact .cons (zf4 h) (zff t)
abbrev KT(H:Hp):List (List Key×V)->List (List Key×Addr×Value)->Prop:=Paired fun p q=>p.1=q.1/\H q.2.1=some (.tup (p.1.map kV))/\RelV p.2 q.2.2
theorem KT.val{H:Hp}{kvs:List (List Key×V)}{xs:List (List Key×Addr×Value)}(r:KT H kvs xs)(k:List Key):RelO (valV kvs k) ((atKey xs k).map (·.2)):=by
 induction r with
 |nil=>exact True.intro
 | @cons p q ps qs h t ih=>
  obtain⟨h1,_,h2⟩:=h
  by_cases e:p.1=k
  ·have e':q.1=k:=h1.symm.trans e
   have b:atKey (q::qs) k=some q.2:=by simp[atKey,wE,e']
   rw[ZC e,b];exact h2
  ·have e':¬q.1=k:=fun z=>e (h1.trans z)
   have b:atKey (q::qs) k=atKey qs k:=by simp[atKey,wE,e']
   rw[ZD e,b];exact ih
theorem KT.repl{H:Hp}{kvs:List (List Key×V)}{xs:List (List Key×Addr×Value)}(r:KT H kvs xs)(k:List Key){y:V}{u:Value}(ry:RelV y u):
  KT H (kvs.map fun kv=>if kv.1=k then (kv.1,y) else kv) (xs.map (putAt k u)):=by
 induction r with
 |nil=>exact .nil
 | @cons p q ps qs h t ih=>
  rw[xA,xA]
  refine .cons ?_ ih
  obtain⟨h1,h2,h3⟩:=h
  unfold putAt
  by_cases e:p.1=k
  ·rw[if_pos e,if_pos (h1.symm.trans e)];exact⟨h1,h2,ry⟩
  ·rw[if_neg e,if_neg (fun z=>e (h1.trans z))];exact⟨h1,h2,h3⟩
theorem KT.put{H:Hp}{kvs:List (List Key×V)}{xs:List (List Key×Addr×Value)}(r:KT H kvs xs)(k:List Key){b:Addr}{y:V}{u:Value}(hb:H b=some (.tup (k.map kV)))(ry:RelV y u):
  KT H (putK kvs k y) (storedH xs k b u):=by
 have e:(kvs.any fun kv=>decide (kv.1=k))=(atKey xs k).isSome:=by
  rw[zcl,(r.val k).isSome_eq,Option.isSome_map]
 unfold putK storedH
 rw[e]
 by_cases q:(atKey xs k).isSome=true
 ·rw[if_pos q,if_pos q];exact r.repl k ry
 ·rw[if_neg q,if_neg q];exact Paired.snoc r ⟨rfl,hb,ry⟩
theorem KT.keeps{H H':Hp}{kvs:List (List Key×V)}{xs:List (List Key×Addr×Value)}(r:KT H kvs xs)(ht:∀b ys,H b=some (.tup ys)->H' b=some (.tup ys)):KT H' kvs xs:=
 Paired.mapP r fun _ _ z=>⟨z.1,ht _ _ z.2.1,z.2.2⟩
section
variable{P:Program}{w:World}{H:Hp}{h:Heap}{a:Addr}
theorem znI{u:HO}(ok:HOk P w H h)(e:Rd H a u):Zh P w H h a u:=e.ok ok
theorem zkQ{kvs:List (Key×V)}(ok:HOk P w H h)(e:Rd H a (.dK kvs)):kvs.length<=uQ/\(a==sysModules)=false/\∃vs,KV kvs vs/\h.DictOf (zK P w) a vs:=
 show Zh P w H h a (.dK kvs) from znI ok e
theorem zoD{kvs:List (Key×V)}(ok:HOk P w H h)(e:H a=some (.dK kvs)):kvs.length<=uQ/\(a==sysModules)=false/\∃vs,KV kvs vs/\h.DictOf (zK P w) a vs:=zkQ ok (.inl e)
theorem ziX{ks:List Key}(ok:HOk P w H h)(e:H a=some (.tup (ks.map kV))):(tupleKind (zK P w)).is h ks a:=by
 obtain⟨_,its,r,o,h1,h2,n,h3⟩:=(show Zh P w H h a (.tup (ks.map kV)) from ok a _ e)
 exact⟨o,its.toArray,n,h1,h2,h3,by simpa using zff r⟩
theorem zmH{kvs:List (List Key×V)}(ok:HOk P w H h)(e:Rd H a (.dT kvs)):kvs.length<=uQ/\(a==sysModules)=false /\
  ∃xs,KT H kvs xs/\h.DictOfH (tupleKind (zK P w)) a xs:=by
 obtain⟨z,y,xs,r,o,es,ep,h1,h2,h3,h4,h5⟩:=(show Zh P w H h a (.dT kvs) from znI ok e)
 refine⟨z,y,xs,r,o,es,ep,h1,h2,h3,h4,fun x hx=>?_,h5⟩
 have all:∀{l:List (List Key×V)}{m:List (List Key×Addr×Value)},KT H l m->∀x∈m,(tupleKind (zK P w)).is h x.1 x.2.1:=by
  intro l m q
  induction q with
  |nil=>intro x hx;exact nomatch hx
  | @cons p q ps qs hq t ih=>
   intro x hx
   rcases yQ.mp hx with e|hx
   ·subst e
    exact ziX ok (by rw[←hq.1];exact hq.2.1)
   ·exact ih x hx
 exact all r x hx
theorem zoE{kvs:List (List Key×V)}(ok:HOk P w H h)(e:H a=some (.dT kvs)):kvs.length<=uQ/\(a==sysModules)=false /\
  ∃xs,KT H kvs xs/\h.DictOfH (tupleKind (zK P w)) a xs:=zmH ok (.inl e)
end
def DGet(H:Hp)(a:Addr)(y:V)(r:Option V):Prop:=
 (∃kvs k,Rd H a (.dK kvs)/\y=kV k/\r=valV kvs k)\/∃kvs k b,Rd H a (.dT kvs)/\y=.ref b/\H b=some (.tup (k.map kV))/\r=valV kvs k
def DPut(H:Hp)(a:Addr)(y v:V)(H':Hp):Prop:=
 (∃kvs k,H a=some (.dK kvs)/\y=kV k/\kvs.length<uQ/\H'=upd H a (.dK (putK kvs k v))) \/
 ∃kvs k b,H a=some (.dT kvs)/\y=.ref b/\H b=some (.tup (k.map kV))/\kvs.length<uQ/\H'=upd H a (.dT (putK kvs k v))
theorem DGet.k{H:Hp}{a:Addr}{kvs:List (Key×V)}{k:Key}(e:H a=some (.dK kvs)):DGet H a (kV k) (valV kvs k):=.inl ⟨kvs,k,.inl e,rfl,rfl⟩
theorem DPut.k{H:Hp}{a:Addr}{kvs:List (Key×V)}{k:Key}{v:V}(e:H a=some (.dK kvs))(hl:kvs.length<uQ):DPut H a (kV k) v (upd H a (.dK (putK kvs k v))):=.inl ⟨kvs,k,e,rfl,hl,rfl⟩
section
variable{X:Cx}{zp:List (Addr×Obj)}{σ:St}{H:Hp}{s:Shared}{a:Addr}{y v:V}{u r:Value}{o:Option V}{A:Around}{E:Value->Shared->Prop}
theorem Inv.big(I:Inv X zp σ H s):sysModules<s.heap.objs.size:=by
 have h:uP<s.heap.objs.size:=(I.mod.glob.keeps I.bk).lt
 exact Nat.lt_trans (by decide) h
theorem ziY{Q:Value->Shared->Prop}(hu:A.units+1<cLine)(I:Inv X zp σ H s)(g:DGet H a y (some v))(ry:RelV y u)(h:∀w' s',Inv X zp σ H s'->RelV v w'->Q w' s'):
  wpAny (model X.prog X.w) A (getItem (.ref a) u) Q E s:=by
 rcases g with⟨kvs,k,e,ey,l⟩|⟨kvs,k,b,e,ey,eb,l⟩
 ·subst ey
  obtain⟨z,hd,vs,rel,dd⟩:=zkQ I.hok e
  obtain⟨w',hw,rw'⟩:=RelO.some_of (v:=v) (o:=valueAt vs k) (by rw[l];exact rel.val k)
  exact wpAny_getItem_of (zf4 ry) dd.mapOf hw (h w' _ (I.tok _) rw')
 ·subst ey
  cases (show u=Value.ref b from ry)
  obtain⟨z,hd,xs,rel,dd⟩:=zmH I.hok e
  obtain⟨w',hw,rw'⟩:=RelO.some_of (v:=v) (o:=(atKey xs k).map (·.2)) (by rw[l];exact rel.val k)
  obtain⟨p,hp,hp2⟩:=yW.mp hw
  refine wpAny_getItem_heap (tupleKind_room_in1 hu) (ziX I.hok eb) dd hp ?_
  rw[hp2]
  exact h w' _ (I.tok _) rw'
theorem ziZ{h':Heap}{t':Nat}{ob:HO}(I:Inv X zp σ H s)(mu:Mut (H a))(hs:Heap.SameBut a s.heap h')(he:∃q,h'.get? a=some q)(new:Zh X.prog X.w (upd H a ob) h' a ob):
  Inv X zp σ (upd H a ob) {s with heap:=h',toks:=t'}:=
 I.write (x:=a) (e:=a) mu (.inl rfl) (fun b q hb z=>(hs.2 b hb).trans z) he new
theorem zlO{P:Program}{w:World}{H':Hp}{h':Heap}{kvs:List (Key×V)}{vs:List (Key×Value)}(z:kvs.length<=uQ)(hd:(a==sysModules)=false)(rel:KV kvs vs)(dd:h'.DictOf (zK P w) a vs):
  Zh P w H' h' a (.dK kvs):=⟨z,hd,vs,rel,dd⟩
theorem zi0{H':Hp}{Q:Unit->Shared->Prop}(hu:A.units+1<cLine)(I:Inv X zp σ H s)(g:DPut H a y v H')(ry:RelV y u)(rv:RelV v r)(h:∀s',Inv X zp σ H' s'->Q () s'):
  wpAny (model X.prog X.w) A (setItem (.ref a) u r) Q E s:=by
 rcases g with⟨kvs,k,e,ey,l,eH⟩|⟨kvs,k,b,e,ey,eb,l,eH⟩
 ·subst ey eH
  obtain⟨z,hd,vs,rel,dd⟩:=zoD I.hok e
  have hz:vs.length<=uQ:=by rw[←rel.length];exact z
  have hl:(putK kvs k v).length<=uQ:=by have:=zbf kvs k v;lia
  refine wpAny_setItem_pairs (hsz:=hz) (zf4 ry) dd fun h' dd' hs=>h _ ?_
  have he:∃q,h'.get? a=some q:=let ⟨q,_,_,hq,_⟩:=dd';⟨q,hq⟩
  exact ziZ I (by rw[e];exact True.intro) hs he (zlO hl hd (rel.put k rv) dd')
 ·subst ey eH
  cases (show u=Value.ref b from ry)
  obtain⟨z,hd,xs,rel,dd⟩:=zoE I.hok e
  have hz:xs.length<=uQ:=by rw[←Paired.length rel];exact z
  have hl:(putK kvs k v).length<=uQ:=by have:=zbf kvs k v;lia
  refine wpAny_setItem_heap (hsz:=hz) (tupleKind_room_in1 hu) (ziX I.hok eb) dd fun h' dd' hs=>h _ ?_
  obtain⟨q,es,ep,hq,h2,h3,h4,_,h5⟩:=dd'
  refine ziZ I (by rw[e];exact True.intro) hs ⟨q,hq⟩ ⟨hl,hd,_,(rel.put k eb rv).keeps fun c ys ec=>?_,q,es,ep,hq,h2,h3,h4,h5⟩
  rw[zm (zmw ec e (fun z=>nomatch z))]
  exact ec
end
section
variable{X:Cx}{zp:List (Addr×Obj)}{σ:St}{H:Hp}{s:Shared}{a:Addr}{kvs:List (Key×V)}{k:Key}{u:Value}{A:Around}{E:Value->Shared->Prop}
end
def NoSl(i:Expr):Prop:=∀ov iv,subscripted i false ov iv=operate [ov,iv] (getItem ov iv)
theorem zmI{prog:Program}{w:World}{A:Around}{E:Value->Shared->Prop}{s:Shared}{env:Env}{value slice:Expr}{pos:Pos}{T id:String}{Q:Value->Shared->Prop}
  (hl:typeLookup (.type T) "__getitem__"=pure (some (.builtin id))) (hs:NoSl slice)
  (h:wpAny (model prog w) A (eval value env) (fun o s₁=>wpAny (model prog w) A (eval slice env) (fun i s₂=>s₂.TypeIs o T/\wpAny (model prog w) A (getItem o i) Q E s₂) E s₁) E s):
  wpAny (model prog w) A (eval (.Subscript value slice pos) env) Q E s:=by
 refine Subscript_ (wpAny_mono h (fun o s₁ h₁=>wpAny_mono h₁ (fun i s₂ h₂=>?_) fun _ _ x=>x) fun _ _ x=>x)
 obtain⟨hT,h₂⟩:=h₂
 unfold subscriptTail
 refine uJ ?_
 rw[getitemInPython_of_ne hT.not_modules]
 refine uJ (wpAny_specialOf hT hl ?_)
 have fin:wpAny (model prog w) A (subscripted slice false o i) (fun r s₃=>wpAny (model prog w) A (letTemporaryGo value o r>>=fun _=>pure r) Q E s₃) E s₂:=by
  rw[hs o i]
  exact wpAny_operating (wpAny_mono h₂ (fun r s₃ h₃=>uJ (wpAny_letTemporaryGo (uK h₃))) fun _ _ x=>x)
 first
  |exact uK (uJ fin)
  |exact uJ (uK (uJ fin))
  |exact uJ fin
theorem zf5{X:Cx}{zp:List (Addr×Obj)}{σ:St}{H:Hp}{s:Shared}{a:Addr}{y:V}{o:Option V}(I:Inv X zp σ H s)(g:DGet H a y o):s.TypeIs (.ref a) "dict":=by
 rcases g with⟨kvs,k,e,_,_⟩|⟨kvs,k,b,e,_,_,_⟩
 ·obtain⟨_,_,vs,_,dd⟩:=zkQ I.hok e
  exact dd.typeIs
 ·obtain⟨_,_,xs,_,dd⟩:=zmH I.hok e
  exact dd.typeIs
def znJ(td ty:TE):TE:=fun σ H Q=>td σ H fun x H1=>ty σ H1 fun y H2=>∃a v,x=.ref a/\DGet H2 a y (some v)/\Q v H2
def znK(td ty tv:TE):TS:=fun D σ H=>tv σ H fun v H1=>td σ H1 fun x H2=>ty σ H2 fun y H3=>∃a H4,x=.ref a/\DPut H3 a y v H4/\D.nx σ H4
section
variable{X:Cx}{o i e value:Expr}{pos pos' tpos:Pos}{td ty tv:TE}
theorem zf6(hu:X.A.units+1<cLine)(ho:PE X o td)(hi:PE X i ty)(hs:NoSl i):PE X (.Subscript o i pos) (znJ td ty):=by
 intro zp s σ H Q I h
 refine zmI PySem.F.slot_dict_getitem.lookup hs (thn (ho zp s σ H _ I h) fun u s1 ⟨x,H1,I1,rx,q1⟩=>thn (hi zp s1 σ H1 _ I1 q1) fun iv s2 ⟨y,H2,I2,ry,a,v,ex,g,q2⟩=>?_)
 subst ex
 obtain rfl:u=Value.ref a:=rx
 exact⟨zf5 I2 g,ziY hu I2 g ry fun w' s3 I3 rw'=>⟨v,H2,I3,rw',q2⟩⟩
theorem zf7(hu:X.A.units+1<cLine)(ho:PE X o td)(hi:PE X i ty)(hv:PE X value tv)(hs:swapsWith value (some (.Subscript o i pos')) pos.line X.env=pure false):
  PS X (.Assign [.Subscript o i pos'] value pos) (znK td ty tv):=by
 intro zp s σ H D I h
 refine wpAny_Assign_Subscript (thn (hv zp s σ H _ I h) fun r s1 ⟨v,H1,I1,rv,q1⟩=>thn (ho zp s1 σ H1 _ I1 q1) fun u s2 ⟨x,H2,I2,rx,q2⟩=>thn (hi zp s2 σ H2 _ I2 q2) fun iv s3 ⟨y,H3,I3,ry,a,H4,ex,g,q3⟩=>?_) hs
 subst ex
 obtain rfl:u=Value.ref a:=rx
 exact zi0 hu I3 g ry rv fun s4 I4=>⟨σ,H4,I4,q3⟩
end
theorem zkR{P:Program}{w:World}{H:Hp}(h:Heap)(hb:sysModules<h.objs.size):Zh P w H (h.push {cls:=.type "dict",data:=.dict #[]}) h.objs.size (.dK []):=
 ⟨yN _,beq_eq_false_iff_ne.mpr (Ne.symm (yI hb)),[],.nil,Heap.DictOf.new h⟩
def zlP:TE:=fun _ H Q=>∀p,H p=none->Q (.ref p) (upd H p (.dK []))
section
variable{X:Cx}{pos:Pos}
theorem zd3:PE X (.Dict [] [] pos) zlP:=fun zp s σ H Q I h=>
 wpAny_Dict_empty ⟨.ref s.heap.objs.size,_,I.laid (a:=s.heap.objs.size) (o:=.dK []) (t':=s.toks) (fun _ _ q=>uL _ q) (yF _) (zkR s.heap I.big),rfl,h _ (I.hok.fresh (yF _))⟩
end
structure M1(X:Cx)(o:Expr)(m:Str)(apos:Pos)(e:Expr)(cpos:Pos):Prop where
 base:attributeBase o m X.env (eval o X.env)=eval o X.env
 few:((backTo cpos (uS [e] X.env)).all (fun x=>!x.1)&&(backToKw cpos (keywordEach [] X.env)).all (fun x=>x.1.isSome)
  && decide (([e]:List Expr).length+([]:List Keyword).length+(if ([]:List Keyword).isEmpty then 0 else 1)<30))=true
 line:(apos.endLine==cpos.line)=true
 trees:backTo cpos (uS [e] X.env)=[(false,eval e X.env)]
structure M2(X:Cx)(o:Expr)(m:Str)(apos:Pos)(e f:Expr)(cpos:Pos):Prop where
 base:attributeBase o m X.env (eval o X.env)=eval o X.env
 few:((backTo cpos (uS [e,f] X.env)).all (fun x=>!x.1)&&(backToKw cpos (keywordEach [] X.env)).all (fun x=>x.1.isSome)
  && decide (([e,f]:List Expr).length+([]:List Keyword).length+(if ([]:List Keyword).isEmpty then 0 else 1)<30))=true
 line:(apos.endLine==cpos.line)=true
 trees:backTo cpos (uS [e,f] X.env)=[(false,eval e X.env),(false,eval f X.env)]
section
variable{X:Cx}{zp:List (Addr×Obj)}{σ:St}{H:Hp}{s:Shared}{a:Addr}{y d:V}{u r:Value}{o:Option V}{A:Around}{E:Value->Shared->Prop}
end
section
variable{X:Cx}{o e f:Expr}{apos cpos:Pos}{td ty tx:TE}
end
section
variable{X:Cx}{zp:List (Addr×Obj)}{σ:St}{H:Hp}{s:Shared}{a:Addr}{kvs:List (Key×V)}{A:Around}{E:Value->Shared->Prop}
theorem zkS{Q:Value->Shared->Prop}(I:Inv X zp σ H s)(e:Rd H a (.dK kvs))(h:∀p s',H p=none->Inv X zp σ (upd H p (.dK kvs)) s'->Q (.ref p) s'):wpAny (model X.prog X.w) A (call (.type "dict") [.ref a]) Q E s:=by
 obtain⟨z,hd,vs,rel,dd⟩:=zkQ I.hok e
 refine kt_call_dict hd dd (by rw[←rel.length];exact z) fun h' dd' hs=>?_
 refine h _ _ (I.hok.fresh (yF _)) (I.laid (a:=s.heap.objs.size) (o:=.dK kvs) (t':=s.toks) (fun b q hq=>?_) (yF _) (zlO z (beq_eq_false_iff_ne.mpr (Ne.symm (yI I.big))) rel dd'))
 exact (hs.2 b (yI (uM hq))).trans (uL _ hq)
end
section
variable{X:Cx}{zp:List (Addr×Obj)}{σ:St}{H:Hp}{s:Shared}{a:Addr}{y:V}{u:Value}{A:Around}{E:Value->Shared->Prop}
end
end L2
namespace HT
open PySem PyProof.Rows
section
open PySem.SeqAt
open PySem.AutoSeq1 (wpAny_loadPart')
open PySem.MeetsSeq PySem.MeetsSeq2 PySem.MeetsSeq3
end
section
variable{prog:Program}{w:World}{A:Around}{E:Value->Shared->Prop}{s:Shared}
theorem cat_tup{t b:Addr}{vs ws:List Value}{Q:Value->Shared->Prop}(ht:IsTup s.heap t vs.toArray)(hb:IsTup s.heap b ws.toArray)(hv:vs≠[])
  (h1:ws=[]->Q (.ref t) s) (h2:ws≠[]->Q (.ref s.heap.objs.size) {s with heap:=s.heap.push {cls:=.type "tuple",data:=.seq (vs++ws).toArray}})
  (hsz:vs.length+ws.length<=uQ):wpAny (model prog w) A (binaryOp .Add (.ref t) (.ref b)) Q E s:=by
 obtain⟨⟨cls,dd,data,sl⟩,ho,hc,n,hd⟩:=id ht
 obtain⟨⟨cls2,dd2,data2,sl2⟩,ho2,hc2,n2,hd2⟩:=id hb
 simp only at hc hd hc2 hd2
 subst hc hd hc2 hd2
 have e:vs.toArray++ws.toArray=(vs++ws).toArray:=by simp
 by_cases hw:ws=[]
 ·exact concat_meets ⟨_,ho,rfl⟩ ⟨_,ho2,rfl⟩ noFill_tuple_add seq_tuple_add PySem.F.slot_tuple_add PySem.F.entry_tuple_add (PySem.F.args_tuple_add_2 _ _)
   (tuple_addW1 t b vs.toArray ws.toArray n n2 dd dd2 sl sl2 (by simpa using hv) (by simp[hw])) ⟨ho,ho2,h1 hw⟩
 ·refine concat_meets ⟨_,ho,rfl⟩ ⟨_,ho2,rfl⟩ noFill_tuple_add seq_tuple_add PySem.F.slot_tuple_add PySem.F.entry_tuple_add (PySem.F.args_tuple_add_2 _ _)
   (tuple_addW2 t b vs.toArray ws.toArray n n2 dd dd2 sl sl2 (by simpa using hv) (by simpa using hw) (by rw[yD,yD];exact hsz)) ⟨ho,ho2,?_⟩
  rw[e]
  exact h2 hw
noncomputable def sIx(n d:Nat):Option Int->Nat
 |none=>d
 |some v=>if v<0 then (v+(n:Int)).toNat else min v.toNat n
theorem sIx_nat(n d k:Nat):sIx n d (some (k:Int))=min k n:=by
 show (if (k:Int)<0 then ((k:Int)+(n:Int)).toNat else min (k:Int).toNat n)=min k n
 rw[if_neg (by lia),Int.toNat_natCast]
theorem znL(n d:Nat)(hd:d<=n)(o:Option Int):sIx n d o<=n:=by
 cases o with
 |none=>exact hd
 |some v=>
  show (if v<0 then (v+(n:Int)).toNat else min v.toNat n)<=n
  by_cases hv:v<0
  ·rw[if_pos hv];lia
  ·rw[if_neg hv];exact Nat.min_le_right _ _
theorem zi1(v:Int)(n d:Nat):(if v<0 then max (v+(n:Int)) 0 else min v (n:Int))=((sIx n d (some v):Nat):Int):=by
 show (if v<0 then max (v+(n:Int)) 0 else min v (n:Int))=(((if v<0 then (v+(n:Int)).toNat else min v.toNat n):Nat):Int)
 by_cases hv:v<0
 ·simp only[if_pos hv];lia
 ·simp only[if_neg hv];lia
theorem zhR(lo hi:Option Int)(n:Nat):Builtin.Slice.sliceAdjust lo hi 1 (n:Int)=(((sIx n 0 lo:Nat):Int),((sIx n n hi:Nat):Int)):=by
 have h1:¬((1:Int)<0):=by lia
 unfold Builtin.Slice.sliceAdjust
 simp only[h1,if_false]
 refine Prod.ext ?_ ?_
 ·cases lo with
  |none=>rfl
  |some v=>exact zi1 v n 0
 ·cases hi with
  |none=>rfl
  |some v=>exact zi1 v n n
theorem zhS(i j:Nat):Builtin.Slice.slicePlaces (i:Int) (j:Int) 1=j-i:=by
 unfold Builtin.Slice.slicePlaces
 have h1:(1:Int) > 0:=by lia
 simp only[h1,if_true,Int.ediv_one]
 split<;>lia
theorem zdJ{v:Value}{o:Option Int}{Q:Option Int->Shared->Prop}(p:IsPart v o)(h:Q o s):wpAny (model prog w) A (Builtin.Slice.slicePartIndex v) Q E s:=by
 cases p with
 |none=>exact slicePart_none h
 |int i t=>exact slicePart_int h
theorem zcb{sl:Addr}{vl vu:Value}{lo hi:Option Int}{n:Nat}{Q:Int×Int×Nat->Shared->Prop}(hs:s.heap.IsSliceOf sl vl vu .none)(pl:IsPart vl lo)(pu:IsPart vu hi)
  (h:Q (((sIx n 0 lo:Nat):Int),1,sIx n n hi-sIx n 0 lo) s):wpAny (model prog w) A (Builtin.Slice.sliceApplied (.ref sl) (pure (n:Int))) Q E s:=by
 obtain⟨os,hos,hcs,hds⟩:=id hs
 unfold Builtin.Slice.sliceApplied Builtin.Slice.sliceFields
 refine uJ (uJ (wpAny_field hos hds (x:=vl) rfl (uJ (wpAny_field hos hds (x:=vu) rfl (uJ (wpAny_field hos hds (x:=.none) rfl (uK ?_)))))))
 refine uJ (slicePart_none ?_)
 show wpAny _ _ (if ((1:Int)==0)=true then _ else _) _ _ s
 rw[if_neg (by decide)]
 refine uJ (zdJ pl (uJ (zdJ pu (uJ (uK ?_)))))
 show wpAny _ _ (match Builtin.Slice.sliceAdjust lo hi 1 (n:Int) with|(lo,hi)=>pure (lo,(1:Int),Builtin.Slice.slicePlaces lo hi 1)) _ _ s
 rw[zhR lo hi n]
 show wpAny _ _ (pure (((sIx n 0 lo:Nat):Int),(1:Int),Builtin.Slice.slicePlaces ((sIx n 0 lo:Nat):Int) ((sIx n n hi:Nat):Int) 1)) _ _ s
 rw[zhS]
 exact uK h
theorem zkT(xs:Array Value)(i k:Nat):((xR k).filterMap fun (m:Nat)=>xs[((i:Int)+(m:Int)*1).toNat]?).toArray=((xs.toList.drop i).take k).toArray:=by
 have e:(fun (m:Nat)=>xs[((i:Int)+(m:Int)*1).toNat]?)=fun m=>xs[i+m]?:=by
  funext m
  have:((i:Int)+(m:Int)*1).toNat=i+m:=by lia
  rw[this]
 rw[e]
 have:=pick_run xs i k
 rw[List.filterMap_map] at this
 have e2:((fun x=>xs[x]?)∘fun x=>i+x)=fun m=>xs[i+m]?:=rfl
 rw[e2] at this
 rw[this]
theorem getItem_tuple_cut{t sl:Addr}{items:Array Value}{vl vu:Value}{lo hi:Option Int}{Q:Value->Shared->Prop}(ht:IsTup s.heap t items)(hs:s.heap.IsSliceOf sl vl vu .none)(pl:IsPart vl lo)(pu:IsPart vu hi)
  (hw:¬(sIx items.size 0 lo=0/\sIx items.size items.size hi=items.size))
  (h:Q (.ref s.heap.objs.size) {s with heap:=s.heap.push {cls:=.type "tuple",data:=.seq ((items.toList.drop (sIx items.size 0 lo)).take (sIx items.size items.size hi-sIx items.size 0 lo)).toArray}})
  (hsz:items.size<=uQ):wpAny (model prog w) A (getItem (.ref t) (.ref sl)) Q E s:=by
 have htake:sizeOk (.seq ((items.toList.drop (sIx items.size 0 lo)).take (sIx items.size items.size hi-sIx items.size 0 lo)).toArray):=by
  show ((items.toList.drop (sIx items.size 0 lo)).take (sIx items.size items.size hi-sIx items.size 0 lo)).toArray.size<=uQ
  rw[yD,yU,vD,xE]
  lia
 have hj:sIx items.size items.size hi<=items.size:=znL _ _ (yF _) hi
 obtain⟨os,hos,hcs,hds⟩:=id hs
 have hTs:s.TypeIs (.ref sl) "slice":=⟨os,hos,hcs⟩
 unfold getItem
 try with_reducible refine wpAny_holding ?_
 first|refine uJ (uK ?_)|skip
 refine uJ (wpAny_sequenceKey ht.typeIs (by decide) ?_)
 refine uJ (wpAny_callSpecial?_slot (name:=uI "__getitem__") ht.typeIs PyProof.Rows.slot_tuple_getitem
  (wpAny_call_entry PyProof.Rows.slot_tuple_getitem ht.typeIs entry_tuple_getitem ?_ (args_tuple_getitem _ _)))
 show wpAny _ _ (Builtin.Tuple.tupleItemsOf (.ref t)>>=_) _ _ s
 refine uJ (tupleItemsOf_ ht ?_)
 refine uJ (wpAny_typeOf hTs ?_)
 rw[if_pos (by decide)]
 refine uJ (zcb hs pl pu ?_)
 have hno:¬((((sIx items.size 0 lo:Nat):Int)==0&&(1:Int)==1&&(sIx items.size items.size hi-sIx items.size 0 lo)==items.size)=true):=by
  intro q
  rw[yV,yV] at q
  have q1:((sIx items.size 0 lo:Nat):Int)=0:=eq_of_beq q.1.1
  have q2:sIx items.size items.size hi-sIx items.size 0 lo=items.size:=eq_of_beq q.2
  exact hw ⟨by lia,by lia⟩
 show wpAny _ _ (if (((sIx items.size 0 lo:Nat):Int)==0&&(1:Int)==1&&(sIx items.size items.size hi-sIx items.size 0 lo)==items.size)=true then _ else _) _ _ s
 rw[if_neg hno,zkT]
 first
  |exact uJ (m:=Builtin.Tuple.tupleExact _) (uR (uK ⟨_,rfl,uK h⟩) htake)
  |exact uJ (m:=Builtin.Tuple.tupleExact _) (uR (uJ (uK (uK ⟨_,rfl,uK h⟩))) htake)
  |exact uJ (uJ (m:=Builtin.Tuple.tupleExact _) (uR (uK (uK ⟨_,rfl,uK h⟩)) htake))
  |exact uJ (uJ (m:=Builtin.Tuple.tupleExact _) (uR (uK ⟨_,rfl,uK h⟩) htake))
end
end HT
namespace L2
open PySem PySem.Spec PyProof.Rows
abbrev TO:=St->Hp->(Option Int->Hp->Prop)->Prop
def PO(X:Cx)(e:Option Expr)(t:TO):Prop:=
 ∀(zp:List (Addr×Obj))(s:Shared)(σ:St)(H:Hp)(Q:Option Int->Hp->Prop),Inv X zp σ H s->t σ H Q->
  wpAny (model X.prog X.w) X.A (evalPart e X.env) (fun u s'=>∃o H',Inv X zp σ H' s'/\IsPart u o/\Q o H') X.xe s
def zi2:TO:=fun _ H Q=>Q none H
def znM(t:TE):TO:=fun σ H Q=>t σ H fun x H1=>∃i,x=.int i/\Q (some i) H1
section
variable{X:Cx}{e:Expr}{te:TE}{lo hi:Option Expr}{tl th:TO}{pos p2:Pos}
theorem zd4:PO X none zi2:=by
 intro zp s σ H Q I h
 rw[evalPart_none]
 exact uK ⟨none,H,I,.none,h⟩
theorem zbQ(h:PE X e te):PO X (some e) (znM te):=by
 intro zp s σ H Q I hw
 rw[evalPart_some]
 refine thn (h zp s σ H _ I hw) fun u s1 ⟨x,H1,I1,r1,q1⟩=>?_
 obtain⟨i,rfl,q⟩:=q1
 obtain⟨t,rfl⟩:=r1
 exact⟨some i,H1,I1,.int i t,q⟩
def SlR(X:Cx)(r:V->Option Int->Option Int->Hp->VK->Prop):Prop:=
 ∀(zp:List (Addr×Obj))(s:Shared)(σ:St)(H:Hp)(x:V)(v vl vu:Value)(lo hi:Option Int)(sl:Addr)(Q:VK),Inv X zp σ H s->RelV x v->s.heap.IsSliceOf sl vl vu .none->IsPart vl lo->IsPart vu hi->r x lo hi H Q->
  ∃T id,typeLookup (.type T) "__getitem__"=pure (some (.builtin id))/\s.TypeIs v T/\wpAny (model X.prog X.w) X.A (getItem v (.ref sl)) (EP X zp σ Q) X.xe s
def tSl(r:V->Option Int->Option Int->Hp->VK->Prop)(te:TE)(tl th:TO):TE:=fun σ H Q=>te σ H fun x H1=>tl σ H1 fun l H2=>th σ H2 fun u H3=>r x l u H3 Q
theorem zbw{r:V->Option Int->Option Int->Hp->VK->Prop}(hr:SlR X r)(he:PE X e te)(hl:PO X lo tl)(hu:PO X hi th):PE X (.Subscript e (.Slice lo hi none p2) pos) (tSl r te tl th):=by
 intro zp s σ H Q I h
 refine Subscript_ (thn (he zp s σ H _ I h) fun v s1 ⟨x,H1,I1,r1,q1⟩=>?_)
 refine wpAny_Slice (thn (hl zp s1 σ H1 _ I1 q1) fun vl s2 ⟨l,H2,I2,pl,q2⟩=>thn (hu zp s2 σ H2 _ I2 q2) fun vu s3 ⟨u,H3,I3,pu,q3⟩=>?_)
 rw[evalPart_none]
 refine uK ?_
 have I4:Inv X zp σ H3 {s3 with heap:=s3.heap.push {cls:=.type "slice",data:=.fields #[vl,vu,.none]}}:=I3.kept (t':=s3.toks) fun b ob q=>uL _ q
 obtain⟨T,id,hT,ht,hg⟩:=hr zp {s3 with heap:=s3.heap.push {cls:=.type "slice",data:=.fields #[vl,vu,.none]}} σ H3 x v vl vu l u s3.heap.objs.size Q I4 r1 (Heap.IsSliceOf.new ..) pl pu q3
 show wpAny (model X.prog X.w) X.A (subscriptTail e (.Slice lo hi none p2) v (.ref s3.heap.objs.size)) (EP X zp σ Q) X.xe {s3 with heap:=s3.heap.push {cls:=.type "slice",data:=.fields #[vl,vu,.none]}}
 exact tail_any (ops:=[.ref s3.heap.objs.size,v]) ht hT hg (by with_unfolding_all rfl)
noncomputable def cutV(xs:List V)(lo hi:Option Int):List V:=(xs.drop (HT.sIx xs.length 0 lo)).take (HT.sIx xs.length xs.length hi-HT.sIx xs.length 0 lo)
theorem zcD(xs:List V)(lo hi:Option Int):(cutV xs lo hi).length<=xs.length:=by
 unfold cutV
 rw[yU,vD]
 lia
def rSlT(K:uZ):V->Option Int->Option Int->Hp->VK->Prop:=fun x lo hi H Q=>∃a xs,x=.ref a/\SqT K H a xs /\
 ¬(HT.sIx xs.length 0 lo=0/\HT.sIx xs.length xs.length hi=xs.length)/\∀p,H p=none->Q (.ref p) (upd H p (.tup (cutV xs lo hi)))
theorem zlQ:SlR X (rSlT X.K):=by
 intro zp s σ H x v vl vu lo hi sl Q I rx hs pl pu h
 obtain⟨a,xs,rfl,hx,hw,q⟩:=h
 cases rx
 obtain⟨its,r,ht,hz⟩:=I.tuple hx
 have hlen:its.toArray.size=xs.length:=by rw[yD];exact r.length.symm
 refine⟨"tuple",_,PyProof.Rows.slot_tuple_getitem.lookup,ht.typeIs,?_⟩
 refine HT.getItem_tuple_cut ht hs pl pu (by rw[hlen];exact hw) ?_ (by rw[hlen];exact hz)
 rw[hlen]
 refine⟨.ref s.heap.objs.size,_,I.laid (t':=s.toks) (o:=.tup (cutV xs lo hi)) (fun b ob q=>uL _ q) (yF _) ?_,rfl,q _ (I.hok.fresh (yF _))⟩
 exact⟨yM (zcD xs lo hi) hz,_,(r.drop (HT.sIx xs.length 0 lo)).take (HT.sIx xs.length xs.length hi-HT.sIx xs.length 0 lo),IsTup.new _ _⟩
def znN(K:uZ):R2:=fun x y H Q=>∃a b xs ys,x=.ref a/\y=.ref b/\SqT K H a xs/\SqT K H b ys/\xs≠[]/\xs.length+ys.length<=uQ /\
 (ys=[]->Q (.ref a) H)/\(ys≠[]->∀p,H p=none->Q (.ref p) (upd H p (.tup (xs++ys))))
theorem Vals.nil_iff{xs:List V}{us:List Value}(r:Vals xs us):us=[] ↔ xs=[]:=by
 cases r with
 |nil=>simp
 |cons _ _=>simp
theorem zmJ:OpR X (binaryOp .Add) (znN X.K):=by
 intro zp s σ H x y v u Q I rx ry h
 obtain⟨a,b,xs,ys,rfl,rfl,ha,hb,hx,hz,q1,q2⟩:=h
 cases rx
 cases ry
 obtain⟨its,r1,p1,_⟩:=I.tuple ha
 obtain⟨its2,r2,p2,_⟩:=I.tuple hb
 refine HT.cat_tup p1 p2 (fun z=>hx (r1.nil_iff.mp z)) (fun z=>⟨.ref a,H,I,rfl,q1 (r2.nil_iff.mp z)⟩) (fun z=>?_) (by rw[←r1.length,←r2.length];exact hz)
 refine⟨.ref s.heap.objs.size,_,I.laid (t':=s.toks) (o:=.tup (xs++ys)) (fun b ob q=>uL _ q) (yF _) ?_,rfl,q2 (fun w=>z (r2.nil_iff.mpr w)) _ (I.hok.fresh (yF _))⟩
 exact⟨by rw[yE];exact hz,_,r1.append r2,IsTup.new _ _⟩
end
noncomputable def ixN(n:Nat)(i:Int):Option Nat:=if 0<=i then (if i<n then some i.toNat else none) else if -(n:Int)<=i then some (i+n).toNat else none
def atI{α:Type}(xs:List α)(i:Int):Option α:=(ixN xs.length i).bind fun j=>xs[j]?
theorem zi3{n:Nat}{i:Int}{j:Nat}(h:ixN n i=some j):seqIndex? i n=some j/\j<n/\-(n:Int)<=i/\i<n:=by
 unfold ixN at h
 by_cases h0:0<=i
 ·rw[if_pos h0] at h
  by_cases h1:i<n
  ·rw[if_pos h1] at h
   have e:i.toNat=j:=Option.some.inj h
   exact⟨by rw[seqIndex_of h0 h1,e],by lia,by lia,h1⟩
  ·rw[if_neg h1] at h;cases h
 ·rw[if_neg h0] at h
  by_cases h1:-(n:Int)<=i
  ·rw[if_pos h1] at h
   have e:(i+n).toNat=j:=Option.some.inj h
   exact⟨by rw[seqIndex_neg (by lia) h1,e],by lia,h1,by lia⟩
  ·rw[if_neg h1] at h;cases h
theorem zf8{α:Type}{xs:List α}{i:Int}{v:α}(h:atI xs i=some v):∃j,seqIndex? i xs.length=some j/\xs[j]?=some v/\j<xs.length/\-(xs.length:Int)<=i/\i<xs.length:=by
 unfold atI at h
 cases e:ixN xs.length i with
 |none=>rw[e] at h;cases h
 |some j=>
  rw[e] at h
  obtain⟨h1,h2,h3,h4⟩:=zi3 e
  exact⟨j,h1,h,h2,h3,h4⟩
theorem zl{α:Type}{xs:List α}{j:Nat}{v:α}(h:xs[j]?=some v):atI xs (j:Int)=some v:=by
 have hj:j<xs.length:=(yC.mp h).1
 have e:ixN xs.length (j:Int)=some j:=by
  unfold ixN
  rw[if_pos (by lia),if_pos (by lia)];simp
 unfold atI;rw[e];exact h
theorem zd5{α:Type}(xs:List α)(v:α):atI (xs++[v]) (-1)=some v:=by
 have hl:(xs++[v]).length=xs.length+1:=by simp
 have e:ixN (xs++[v]).length (-1)=some xs.length:=by
  unfold ixN
  rw[hl,if_neg (by decide),if_pos (by lia)]
  congr 1
  lia
 unfold atI
 rw[e]
 show (xs++[v])[xs.length]?=some v
 simp
def zi4(b:Expr):Prop:=∀o i,subscripted b false o i=operate [o,i] (getItem o i)
def IxR(X:Cx)(r:R2):Prop:=
 ∀(value slice:Expr)(zp:List (Addr×Obj))(s:Shared)(σ:St)(H:Hp)(x y:V)(v u:Value)(Q:VK),Inv X zp σ H s->RelV x v->RelV y u->r x y H Q->
  subscripted slice false v u=operate [v,u] (getItem v u)->wpAny (model X.prog X.w) X.A (subscriptTail value slice v u) (EP X zp σ Q) X.xe s
def MtR(X:Cx)(id:String)(r:V->List V->Hp->VK->Prop):Prop:=
 ∀(zp:List (Addr×Obj))(s:Shared)(σ:St)(H:Hp)(x:V)(xs:List V)(v:Value)(us:List Value)(Q:VK),Inv X zp σ H s->RelV x v->Vals xs us->r x xs H Q->
  wpAny (model X.prog X.w) X.A (call (.builtin id) (v::us)) (EP X zp σ Q) X.xe s
section
variable{X:Cx}{a b:Expr}{ta tb:TE}{pos:Pos}
theorem zo{r:R2}(hr:IxR X r)(ha:PE X a ta)(hb:PE X b tb)(hs:zi4 b):PE X (.Subscript a b pos) (tOp r ta tb):=by
 intro zp s σ H Q I h
 exact Subscript_ (binT ha hb I h fun v u s2 x y H2 I2 rx ry q=>hr a b zp s2 σ H2 x y v u Q I2 rx ry q (hs _ _))
def rIxL(K:uZ):R2:=fun x y H Q=>∃p xs i v,x=.ref p/\y=.int i/\SqL K H p xs/\atI xs i=some v/\Q v H
def rIxT(K:uZ):R2:=fun x y H Q=>∃p xs i v,x=.ref p/\y=.int i/\SqT K H p xs/\atI xs i=some v/\Q v H
def rIxS:R2:=fun x y H Q=>∃z i c,x=.str z/\y=.int i/\z.length<=uQ/\atI z.cps.toList i=some c/\Q (.str ⟨#[c]⟩) H
theorem zA:IxR X (rIxL X.K):=by
 intro value slice zp s σ H x y v u Q I rx ry h hs
 obtain⟨p,xs,i,z,rfl,rfl,hq,he,q⟩:=h
 cases rx
 obtain⟨t,rfl⟩:=ry
 obtain⟨its,r,pl,hz⟩:=I.list hq
 obtain⟨j,h1,h2,h3,h4,h5⟩:=zf8 he
 obtain⟨w,ew,rw'⟩:=r.get h2
 have hl:=r.length
 have hn:=ze6
 have fin:EP X zp σ Q w s:=⟨z,H,I,rw',q⟩
 by_cases h0:0<=i
 ·have hj:i.toNat=j:=by
   rw[seqIndex_of h0 h5] at h1
   exact Option.some.inj h1
  exact item_listR pl.isList h0 (by lia) (by rw[hj];simpa using ew) fin hs
 ·have hj:(i+(its.toArray.size:Int)).toNat=j:=by
   rw[seqIndex_neg (by lia) h4] at h1
   rw[yD,←hl]
   exact Option.some.inj h1
  exact subscriptTail_builtinR (x:=w) pl.isList.typeIs slot_list_getitem.lookup
   (wpAny_getItem_list_neg (Q:=fun r s'=>r=w/\EP X zp σ Q r s') pl.isList (by lia) (by rw[yD]<;>lia) (by lia) (by rw[hj];simpa using ew) ⟨rfl,fin⟩) hs
theorem zr:IxR X (rIxT X.K):=by
 intro value slice zp s σ H x y v u Q I rx ry h hs
 obtain⟨p,xs,i,z,rfl,rfl,hq,he,q⟩:=h
 cases rx
 obtain⟨t,rfl⟩:=ry
 obtain⟨its,r,pl,hz⟩:=I.tuple hq
 obtain⟨j,h1,h2,h3,h4,h5⟩:=zf8 he
 obtain⟨w,ew,rw'⟩:=r.get h2
 have hl:=r.length
 have hn:=ze6
 have fin:EP X zp σ Q w s:=⟨z,H,I,rw',q⟩
 exact subscriptTail_builtinR (x:=w) pl.typeIs slot_tuple_getitem.lookup
  (getItem_tuple (j:=j) (Q:=fun r s'=>r=w/\EP X zp σ Q r s') pl (by lia) (by lia) (by rw[yD,←hl];exact h1) (by simpa using ew) ⟨rfl,fin⟩) hs
theorem znO:IxR X rIxS:=by
 intro value slice zp s σ H x y v u Q I rx ry h hs
 obtain⟨z,i,c,rfl,rfl,hz,he,q⟩:=h
 obtain⟨t,rfl⟩:=rx
 obtain⟨t',rfl⟩:=ry
 obtain⟨j,h1,h2,h3,h4,h5⟩:=zf8 he
 have hl:z.cps.toList.length=z.length:=by simp[Str.length]
 rw[hl] at h1 h4 h5
 have hn:=ze6
 exact tail_any (typeIs_str s z t) slot_str_getitem.lookup (getItem_str (c:=c) (by
  have e1:decide (i < -(2 ^ 63:Int))=false:=decide_eq_false (by lia)
  have e2:decide (i ≥ 2 ^ 63)=false:=decide_eq_false (by lia)
  rw[e1,e2,Bool.or_false]) (by rw[h1];simpa using h2) ⟨.str ⟨#[c]⟩,H,I.tok _,⟨_,rfl⟩,q⟩) hs
theorem zhT(its:List Value)(n j:Nat)(u:Value):Obj.mapSeq (·.setIfInBounds j u) {cls:=.type "list",data:=.seq its.toArray n}={cls:=.type "list",data:=.seq (its.set j u).toArray n}:=by
 simp[Obj.mapSeq]
theorem Inv.lst{zp:List (Addr×Obj)}{σ:St}{H:Hp}{s:Shared}{p:Addr}{xs:List V}(I:Inv X zp σ H s)(h:H p=some (.lst xs)):
  ∃(its:List Value)(n:Nat),Vals xs its/\s.heap.get? p=some {cls:=.type "list",data:=.seq its.toArray n}/\xs.length<=uQ:=by
 obtain⟨z,its,n,r,e⟩:=I.hok p _ h
 exact⟨its,n,r,e,z⟩
theorem Inv.lstUpd{zp:List (Addr×Obj)}{σ:St}{H:Hp}{s:Shared}{p:Addr}{xs ys:List V}{its its':List Value}{n n':Nat}{f:Obj->Obj}(I:Inv X zp σ H s)(h:H p=some (.lst xs))
  (ho:s.heap.get? p=some {cls:=.type "list",data:=.seq its.toArray n}) (hf:f {cls:=.type "list",data:=.seq its.toArray n}={cls:=.type "list",data:=.seq its'.toArray n'}) (r:Vals ys its') (hz:ys.length<=uQ) (t:Nat):
  Inv X zp σ (upd H p (.lst ys)) {s with heap:=s.heap.update p f,toks:=t}:=by
 have e:(s.heap.update p f).get? p=some {cls:=.type "list",data:=.seq its'.toArray n'}:=by
  rw[Heap.get?_update_self f ho (by rw[hf]<;>rfl),hf]
 refine I.write (x:=p) (e:=p) (by rw[h];trivial) (.inl rfl) (fun b u hb q=>(Heap.get?_update_other _ _ (Ne.symm hb)).trans q) ⟨_,e⟩ ?_
 exact⟨hz,its',n',r,e⟩
def zoF:V->V->V->Hp->(Hp->Prop)->Prop:=fun o i v H Q=>∃p xs k j,o=.ref p/\i=.int k/\H p=some (.lst xs)/\ixN xs.length k=some j/\Q (upd H p (.lst (xs.set j v)))
theorem zbx:PSet X zoF:=by
 intro zp s σ H o i v ov iv u Q I ro ri rv h
 obtain⟨p,xs,k,j,rfl,rfl,hp,hj,q⟩:=h
 cases ro
 obtain⟨t,rfl⟩:=ri
 obtain⟨its,n,r,ho,hz⟩:=I.lst hp
 obtain⟨h1,h2,h3,h4⟩:=zi3 hj
 have hl:=r.length
 have hn:=ze6
 have I':Inv X zp σ (upd H p (.lst (xs.set j v))) {s with heap:=s.heap.update p (Obj.mapSeq (·.setIfInBounds j u))}:=
  I.lstUpd hp ho (zhT its n j u) (r.set rv j) (by rw[List.length_set];exact hz) s.toks
 by_cases h0:0<=k
 ·have hk:k.toNat=j:=by
   rw[seqIndex_of h0 h4] at h1
   exact Option.some.inj h1
  exact PySem.W.ki_setAt ho h0 (by lia) (by rw[yD,←hl];exact h4) (by rw[hk];exact⟨_,I',q⟩)
 ·have hk:(k+(its.toArray.size:Int)).toNat=j:=by
   rw[seqIndex_neg (by lia) h3] at h1
   rw[yD,←hl]
   exact Option.some.inj h1
  exact PySem.W.ki_setBack ho (by lia) (by rw[yD,←hl];exact h3) (by lia) (by rw[hk];exact⟨_,I',q⟩)
theorem zfg(lo hi:Option Int)(n:Nat):(sliceBounds lo hi none n).1=((HT.sIx n 0 lo:Nat):Int)/\(sliceBounds lo hi none n).2.1=((HT.sIx n n hi:Nat):Int)/\(sliceBounds lo hi none n).2.2=1:=by
 refine⟨?_,?_,rfl⟩
 ·cases lo with
  |none=>simp[sliceBounds,HT.sIx]
  |some i=>
   simp only[sliceBounds,HT.sIx,uD,show (1:Int) > 0 by decide,if_true]
   by_cases h:i<0
   ·simp only[h,if_true]<;>lia
   ·simp only[h,if_false]<;>lia
 ·cases hi with
  |none=>simp[sliceBounds,HT.sIx]
  |some i=>
   simp only[sliceBounds,HT.sIx,uD,show (1:Int) > 0 by decide,if_true]
   by_cases h:i<0
   ·simp only[h,if_true]<;>lia
   ·simp only[h,if_false]<;>lia
theorem zd6(its:List Value)(lo hi:Option Int):slicePick its.toArray lo hi none=((its.drop (HT.sIx its.length 0 lo)).take (HT.sIx its.length its.length hi-HT.sIx its.length 0 lo)).toArray:=by
 obtain⟨h1,h2,h3⟩:=zfg lo hi its.toArray.size
 unfold slicePick
 rw[h1,h2,h3]
 simp only[sliceRange_one,pick_run,yD]<;>rfl
def rSlL(K:uZ):V->Option Int->Option Int->Hp->VK->Prop:=fun x lo hi H Q=>∃a xs,x=.ref a/\SqL K H a xs/\∀p,H p=none->Q (.ref p) (upd H p (.lst (cutV xs lo hi)))
theorem zmK:SlR X (rSlL X.K):=by
 intro zp s σ H x v vl vu lo hi sl Q I rx hs pl pu h
 obtain⟨a,xs,rfl,hx,q⟩:=h
 cases rx
 obtain⟨its,r,ht,hz⟩:=I.list hx
 have hlen:=r.length
 refine⟨"list",_,slot_list_getitem.lookup,ht.isList.typeIs,?_⟩
 refine wpAny_getItem_list_slice ht.isList hs pl pu .none (by simp) ?_ (by rw[yD]<;>lia)
 rw[zd6,←hlen]
 refine⟨.ref s.heap.objs.size,_,I.laid (t':=s.toks) (o:=.lst (cutV xs lo hi)) (fun b ob q=>uL _ q) (yF _) ?_,rfl,q _ (I.hok.fresh (yF _))⟩
 exact⟨yM (zcD xs lo hi) hz,_,0,(r.drop (HT.sIx xs.length 0 lo)).take (HT.sIx xs.length xs.length hi-HT.sIx xs.length 0 lo),uN _ rfl⟩
noncomputable def zd7:V->Bool
 |.non=>true
 |.bl _=>true
 |.int _=>true
 |.str _=>true
 |_=>false
noncomputable def eqV:V->V->Bool
 |.non,.non=>true
 |.bl a,.bl b=>a==b
 |.bl a,.int b=>(if a then 1 else 0)==b
 |.int a,.bl b=>a==(if b then 1 else 0)
 |.int a,.int b=>a==b
 |.str a,.str b=>a==b
 |_,_=>false
theorem znP{A:Around}{s:Shared}{y x:V}{u v:Value}(ry:RelV y u)(rx:RelV x v)(fy:zd7 y=true)(fx:zd7 x=true):SeqAt.EqAt A s u v (eqV y x):=by
 cases y with
 |non=>
  cases ry
  cases x with
  |non=>cases rx;exact SeqAt.EqAt.same _
  |bl b=>cases rx;exact SeqAt.EqAt.none_bool b
  |int b=>obtain⟨t,rfl⟩:=rx;exact SeqAt.EqAt.none_int b t
  |str b=>obtain⟨t,rfl⟩:=rx;exact SeqAt.EqAt.none_str b t
  |_=>exact absurd (show false=true from fx) yH
 |bl a=>
  cases ry
  cases x with
  |non=>cases rx;exact SeqAt.EqAt.bool_none a
  |bl b=>cases rx;exact SeqAt.EqAt.bool_bool a b
  |int b=>obtain⟨t,rfl⟩:=rx;exact SeqAt.EqAt.bool_int a b t
  |str b=>obtain⟨t,rfl⟩:=rx;exact SeqAt.EqAt.bool_str a b t
  |_=>exact absurd (show false=true from fx) yH
 |int a=>
  obtain⟨t',rfl⟩:=ry
  cases x with
  |non=>cases rx;exact SeqAt.EqAt.int_none a t'
  |bl b=>cases rx;exact SeqAt.EqAt.int_bool a t' b
  |int b=>obtain⟨t,rfl⟩:=rx;exact SeqAt.EqAt.int_int a t' b t
  |str b=>obtain⟨t,rfl⟩:=rx;exact SeqAt.EqAt.int_str a t' b t
  |_=>exact absurd (show false=true from fx) yH
 |str a=>
  obtain⟨t',rfl⟩:=ry
  cases x with
  |non=>cases rx;exact SeqAt.EqAt.str_none a t'
  |bl b=>cases rx;exact SeqAt.EqAt.str_bool a t' b
  |int b=>obtain⟨t,rfl⟩:=rx;exact SeqAt.EqAt.str_int a t' b t
  |str b=>obtain⟨t,rfl⟩:=rx;exact SeqAt.EqAt.str_str a t' b t
  |_=>exact absurd (show false=true from fx) yH
 |_=>exact absurd (show false=true from fy) yH
def eqU(x:V)(u:Value):Bool:=match u with
 |.none=>eqV .non x
 |.bool b=>eqV (.bl b) x
 |.int i _=>eqV (.int i) x
 |.str z _=>eqV (.str z) x
 |_=>false
theorem zlR{x y:V}{u:Value}(r:RelV y u)(f:zd7 y=true):eqU x u=eqV y x:=by
 cases y with
 |non=>cases r;rfl
 |bl b=>cases r;rfl
 |int i=>obtain⟨t,rfl⟩:=r;rfl
 |str z=>obtain⟨t,rfl⟩:=r;rfl
 |_=>exact absurd (show false=true from f) yH
theorem zf9{x:V}:∀{xs:List V}{us:List Value},Vals xs us->xs.all zd7=true->us.any (eqU x)=xs.any fun y=>eqV y x
 |_,_,.nil,_=>rfl
 |y::xs,u::us,.cons r t,f=>by
  rw[vB,yV] at f
  rw[wO,wO,zlR r f.1,zf9 t f.2]
theorem zd8{A:Around}{s:Shared}{x:V}{v:Value}(rx:RelV x v)(fx:zd7 x=true):∀{xs:List V}{us:List Value},Vals xs us->xs.all zd7=true->∀u∈us,SeqAt.EqAt A s u v (eqU x u)
 |_,_,.nil,_=>fun u hu=>by cases hu
 |y::xs,u::us,.cons r t,f=>fun u' hu=>by
  rw[vB,yV] at f
  rcases yQ.mp hu with rfl|hu
  ·rw[zlR r f.1];exact znP r rx f.1 fx
  ·exact zd8 rx fx t f.2 u' hu
def inV(x:V)(xs:List V):Bool:=xs.any fun y=>eqV y x
def rIn(K:uZ)(neg:Bool):R2:=fun x y H Q=>∃p xs,y=.ref p/\(SqL K H p xs\/SqT K H p xs)/\zd7 x=true/\xs.all zd7=true/\Q (.bl (if neg then !inV x xs else inV x xs)) H
theorem zaw:OpR X (uU .In) (rIn X.K false):=by
 intro zp s σ H x y v u Q I rx ry h
 obtain⟨p,xs,rfl,hq,fx,fs,q⟩:=h
 cases ry
 rcases hq with hq|hq
 ·obtain⟨its,r,pl,hz⟩:=I.list hq
  refine SeqAt.in_listAt (eqU x) pl.isList (fun w hw=>zd8 rx fx r fs w (by simpa using hw)) ⟨.bl _,H,I,rfl,?_⟩
  rw[show its.toArray.any (eqU x)=its.any (eqU x) by simp,zf9 r fs]
  exact q
 ·obtain⟨its,r,pl,hz⟩:=I.tuple hq
  refine SeqAt.in_tupleAt (eqU x) pl (fun w hw=>zd8 rx fx r fs w (by simpa using hw)) ⟨.bl _,H,I,rfl,?_⟩
  rw[show its.toArray.any (eqU x)=its.any (eqU x) by simp,zf9 r fs]
  exact q
theorem zam:zav X (.type "list") (fun xs H Q=>∃p ys,xs=[.ref p]/\(SqL X.K H p ys\/SqT X.K H p ys)/\∀l,H l=none->Q (.ref l) (upd H l (.lst ys))):=by
 intro zp s σ H xs us Q I r h
 obtain⟨p,ys,rfl,hq,q⟩:=h
 obtain⟨u,rfl,rx⟩:=zbv r
 cases rx
 have fin:∀(its:List Value),Vals ys its->ys.length<=uQ->∀(h':Heap)(c':Nat),(∀b o',s.heap.get? b=some o'->h'.get? b=some o')->
   h'.get? s.heap.objs.size=some {cls:=.type "list",dict:=none,data:=.seq its.toArray c',slots:=#[]}->EP X zp σ Q (.ref s.heap.objs.size) {s with heap:=h'}:=fun its r' hz h' c' kp e=>
  ⟨.ref s.heap.objs.size,_,I.laid (t':=s.toks) kp (yF _) (show Zh X.prog X.w _ h' _ (.lst ys) from⟨hz,its,c',r',e⟩),rfl,q _ (I.hok.fresh (yF _))⟩
 rcases hq with hq|hq
 ·obtain⟨its,r',pl,hz⟩:=I.list hq
  have hlen:=r'.length
  obtain⟨o,ho,hc,n,hd⟩:=pl.isList
  exact call_list_seq p (.inl rfl) ho hc hd (fun h' c' kp e=>fin its r' hz h' c' kp e) (by simp only[yD]<;>lia)
 ·obtain⟨its,r',pl,hz⟩:=I.tuple hq
  have hlen:=r'.length
  obtain⟨o,ho,hc,n,hd⟩:=pl
  exact call_list_seq p (.inr rfl) ho hc hd (fun h' c' kp e=>fin its r' hz h' c' kp e) (by simp only[yD]<;>lia)
theorem ZY:zav X (.type "tuple") (fun xs H Q=>∃p ys,xs=[.ref p]/\((SqL X.K H p ys/\∀l,H l=none->Q (.ref l) (upd H l (.tup ys)))\/(SqT X.K H p ys/\Q (.ref p) H))):=by
 intro zp s σ H xs us Q I r h
 obtain⟨p,ys,rfl,h⟩:=h
 obtain⟨u,rfl,rx⟩:=zbv r
 cases rx
 rcases h with⟨hq,q⟩|⟨hq,q⟩
 ·obtain⟨its,r',pl,hz⟩:=I.list hq
  have hlen:=r'.length
  refine call_tuple_list pl.isList (fun h' kp=>?_) (by simp only[yD]<;>lia)
  have I1:Inv X zp σ H {s with heap:=h'}:=I.kept (t':=s.toks) kp
  have I2:Inv X zp σ (upd H h'.objs.size (.tup ys)) {s with heap:=h'.push {cls:=.type "tuple",data:=.seq its.toArray}}:=
   I1.laid (t':=s.toks) (fun b o e=>uL _ e) (yF _) (show Zh X.prog X.w _ _ _ (.tup ys) from⟨hz,its,r',IsTup.new _ _⟩)
  exact⟨.ref h'.objs.size,_,I2,rfl,q _ (I1.hok.fresh (yF _))⟩
 ·obtain⟨its,r',pl,hz⟩:=I.tuple hq
  exact call_tuple_same pl ⟨.ref p,H,I,rfl,q⟩
def tyV(K:uZ)(T:String)(x:V)(H:Hp):Prop:=match x with
 |.str _=>T="str"
 |.int _=>T="int"
 |.ref p=>(T="list"/\∃xs,SqL K H p xs)\/(T="tuple"/\∃o,K.lookup p=some o/\o.cls=.type "tuple"/\o.dict=none) \/
   (T="dict"/\((∃kvs,H p=some (.dK kvs))\/∃kvs,H p=some (.dT kvs)))\/(T="set"/\∃S n,H p=some (.set S n))
 |_=>False
theorem zlS{zp:List (Addr×Obj)}{σ:St}{H:Hp}{s:Shared}{T:String}{x:V}{v:Value}(I:Inv X zp σ H s)(r:RelV x v)(ty:tyV X.K T x H):
  s.TypeIs v T/\∀a,v=.ref a->∃ob,s.heap.get? a=some ob/\ob.dict=none:=by
 cases x with
 |str z=>
  obtain⟨t,rfl⟩:=r
  cases (show T="str" from ty)
  exact⟨typeIs_str s z t,fun _ e=>nomatch e⟩
 |int i=>
  obtain⟨t,rfl⟩:=r
  cases (show T="int" from ty)
  exact⟨typeIs_int s i t,fun _ e=>nomatch e⟩
 |ref p=>
  cases r
  rcases ty with⟨rfl,xs,hq⟩|⟨rfl,o,hk,hc,hd⟩|⟨rfl,hk⟩|⟨rfl,S,n,hk⟩
  ·obtain⟨its,_,pl,_⟩:=I.list hq
   refine⟨pl.isList.typeIs,fun a e=>?_⟩
   cases e
   obtain⟨o,n,e,c,hd,_⟩:=pl
   exact⟨o,e,hd⟩
  ·refine⟨⟨o,I.kIn p o hk,hc⟩,fun a e=>?_⟩
   cases e
   exact⟨o,I.kIn _ o hk,hd⟩
  ·have z:∃o,s.heap.get? p=some o/\o.ExactDict:=by
    rcases hk with⟨kvs,hk⟩|⟨kvs,hk⟩
    ·obtain⟨_,_,_,_,o,_,_,e,ex,_⟩:=I.hok p _ hk
     exact⟨o,e,ex⟩
    ·obtain⟨_,_,_,_,o,_,_,e,ex,_⟩:=I.hok p _ hk
     exact⟨o,e,ex⟩
   obtain⟨o,e,ex⟩:=z
   refine⟨⟨o,e,ex.1⟩,fun a e2=>?_⟩
   cases e2
   exact⟨o,e,ex.2.1⟩
  ·obtain⟨o,_,_,_,e,ex,_⟩:=I.hok p _ hk
   refine⟨⟨o,e,ex.1⟩,fun a e2=>?_⟩
   cases e2
   exact⟨o,e,ex.2.1⟩
 |_=>exact False.elim ty
def tBM0(K:uZ)(T:String)(r:V->List V->Hp->VK->Prop)(to:TE):TE:=fun σ H Q=>to σ H fun x H1=>tyV K T x H1/\r x [] H1 Q
def tBM(K:uZ)(T:String)(r:V->List V->Hp->VK->Prop)(to:TE)(t:TA):TE:=fun σ H Q=>to σ H fun x H1=>tyV K T x H1/\t σ H1 fun xs H2=>r x xs H2 Q
variable{o e:Expr}{es:List Expr}{to:TE}{t:TA}{name:Str}{apos cpos:Pos}{T id:String}{r:V->List V->Hp->VK->Prop}
theorem zdK(pa:PlainAttrs T)(slot:Slot T name id)(hty:typeOf (.builtin id)=pure (.type "method_descriptor"))(hm:MtR X id r)(ho:PE X o to)
  (hbase:attributeBase o name X.env (eval o X.env)=eval o X.env:=by rfl) (hline:(apos.endLine==cpos.line)=true:=by rfl):PE X (.Call (.Attribute o name apos) [] [] cpos) (tBM0 X.K T r to):=by
 intro zp s σ H Q I h
 refine wpAny_Call_method0_late hbase hline (thn (ho zp s σ H _ I h) fun v s1 ⟨x,H1,I1,r1,ty,q1⟩=>?_)
 obtain⟨h1,h2⟩:=zlS I1 r1 ty
 exact⟨T,id,pa,slot,hty,h1,h2,Calls.callWith_builtin rfl (PySem.evalArgs_none (hm zp s1 σ H1 x [] v [] Q I1 r1 .nil q1))⟩
theorem zcc(pa:PlainAttrs T)(slot:Slot T name id)(hty:typeOf (.builtin id)=pure (.type "method_descriptor"))(hm:MtR X id r)(ho:PE X o to)(ha:PA X (e::es) t)
  (hbase:attributeBase o name X.env (eval o X.env)=eval o X.env:=by rfl)
  (hfew:((backTo cpos (uS (e::es) X.env)).all (fun x=>!x.1)&&(backToKw cpos (keywordEach [] X.env)).all (fun x=>x.1.isSome)
   && decide ((e::es).length+([]:List Keyword).length+(if ([]:List Keyword).isEmpty then 0 else 1)<30))=true:=by rfl)
  (hline:(apos.endLine==cpos.line)=true:=by rfl) (hs:uS (e::es) X.env=(false,eval e X.env)::uS es X.env:=by rfl) (hplain:(backTo cpos (uS es X.env)).any (·.1)=false:=by rfl):
  PE X (.Call (.Attribute o name apos) (e::es) [] cpos) (tBM X.K T r to t):=by
 intro zp s σ H Q I h
 refine wpAny_Call_method_late hbase hfew hline rfl (thn (ho zp s σ H _ I h) fun v s1 ⟨x,H1,I1,r1,ty,q1⟩=>?_)
 obtain⟨h1,h2⟩:=zlS I1 r1 ty
 refine⟨T,id,pa,slot,hty,h1,h2,?_⟩
 have hA:=ha cpos zp s1 σ H1 _ I1 q1
 rw[hs] at hA ⊢
 refine Calls.callWith_builtin (by show (false||(backTo cpos (uS es X.env)).any (·.1))=false;rw[hplain]<;>rfl) (Calls.evalArgs_plain ?_)
 exact thn hA fun us s2 ⟨vs,H2,I2,r2,q2⟩=>hm zp s2 σ H2 x vs v us Q I2 r1 r2 q2
end
def MtM(X:Cx)(id:String)(r:V->List V->Hp->VK->Prop):Prop:=
 ∀(zp:List (Addr×Obj))(s:Shared)(σ:St)(H:Hp)(x:V)(xs:List V)(v:Value)(us:List Value)(Q:VK),Inv X zp σ H s->RelV x v->Vals xs us->r x xs H Q->
  wpAny (model X.prog X.w) X.A (call (.builtin id) (v::us)) (EP X zp σ Q) X.xe s
theorem Vals.one:∀{x:V}{us:List Value},Vals [x] us->∃u,us=[u]/\RelV x u
 |_,_,.cons r .nil=>⟨_,rfl,r⟩
theorem Vals.zero:∀{us:List Value},Vals [] us->us=[]
 |_,.nil=>rfl
theorem Vals.dropLast{xs:List V}{us:List Value}(h:Vals xs us):Vals xs.dropLast us.dropLast:=by
 induction h with
 |nil=>exact .nil
 |cons r t ih=>
  cases t with
  |nil=>exact .nil
  |cons q t'=>exact .cons r ih
theorem zhU{α:Type}(l:List α):l.eraseIdx (l.length-1)=l.dropLast:=by
 induction l with
 |nil=>rfl
 |cons a r ih=>
  cases r with
  |nil=>rfl
  |cons b r=>
   have e:(a::b::r).length-1=((b::r).length-1)+1:=by
    have h1:(a::b::r).length=r.length+2:=rfl
    have h2:(b::r).length=r.length+1:=rfl
    lia
   rw[e,List.eraseIdx_cons_succ,ih]
   all_goals rfl
section
variable{X:Cx}{zp:List (Addr×Obj)}{σ:St}{H:Hp}{s:Shared}{l b:Addr}{xs ys zs:List V}
theorem Inv.lset{its its':List Value}{n:Nat}{f:Array Value->Array Value}{t':Nat}(I:Inv X zp σ H s)(hH:H l=some (.lst xs))
  (e:s.heap.get? l=some {cls:=.type "list",data:=.seq its.toArray n}) (hf:f its.toArray=its'.toArray) (hv:Vals ys its') (hz:ys.length<=uQ):
  Inv X zp σ (upd H l (.lst ys)) {s with heap:=s.heap.update l (Obj.mapSeq f),toks:=t'}:=by
 have q:=PySem.IsL.update e f
 rw[hf] at q
 refine I.write (x:=l) (e:=l) (by rw[hH];exact trivial) (.inl rfl) (fun b' u hb hu=>(Heap.get?_update_other s.heap (Obj.mapSeq f) (Ne.symm hb)).trans hu) ⟨_,q⟩ ?_
 exact⟨hz,its',_,hv,q⟩
theorem Inv.fresh(I:Inv X zp σ H s):H s.heap.objs.size=none:=I.hok.fresh (yF _)
theorem Inv.lstM(I:Inv X zp σ H s)(hH:H l=some (.lst xs)):xs.length<=uQ/\∃(its:List Value)(n:Nat),Vals xs its/\xs.length=its.length/\s.heap.get? l=some {cls:=.type "list",data:=.seq its.toArray n}:=by
 obtain⟨z,its,n,r,e⟩:=I.hok l _ hH
 exact⟨z,its,n,r,r.length,e⟩
theorem zkU{n:Nat}(h:n<=uQ):Builtin.List.listTooLong n=false:=by
 unfold Builtin.List.listTooLong
 exact decide_eq_false (by lia)
end
section
variable{X:Cx}
def zmL:V->List V->Hp->VK->Prop:=fun x vs H Q=>∃l xs y,x=.ref l/\vs=[y]/\H l=some (.lst xs)/\xs.length<uQ/\Q .non (upd H l (.lst (xs++[y])))
theorem zax:MtM X "list.append" zmL:=by
 intro zp s σ H x vs v us Q I rx rv h
 obtain⟨l,xs,y,rfl,rfl,hH,hz,q⟩:=h
 cases rx
 obtain⟨u,rfl,ru⟩:=rv.one
 obtain⟨z,its,n,r,hl,e⟩:=I.lstM hH
 refine call_meets uY ⟨_,e,rfl⟩ F.entry_list_append (F.args_list_append_2 _ _) (PySem.list_append l its.toArray n u (by rw[yD];lia)) ⟨e,?_⟩
 refine⟨.non,_,I.lset (its':=its++[u]) hH e (by simp) (r.append (.cons ru .nil)) ?_,rfl,q⟩
 rw[yE,wH]
 lia
def zmM:V->List V->Hp->VK->Prop:=fun x vs H Q=>∃l b xs zs,x=.ref l/\vs=[.ref b]/\H l=some (.lst xs)/\H b=some (.lst zs)/\xs.length+zs.length<=uQ/\Q .non (upd H l (.lst (xs++zs)))
theorem zcE:MtM X "list.extend" zmM:=by
 intro zp s σ H x vs v us Q I rx rv h
 obtain⟨l,b,xs,zs,rfl,rfl,hH,hB,hz,q⟩:=h
 cases rx
 obtain⟨u,rfl,ru⟩:=rv.one
 cases ru
 obtain⟨z,its,n,r,hl,e⟩:=I.lstM hH
 obtain⟨z2,its2,n2,r2,hl2,e2⟩:=I.lstM hB
 have hsz:its.toArray.size+its2.toArray.size<=uQ:=by rw[yD,yD];lia
 have hlong:¬(!its.toArray.isEmpty&&Builtin.List.listTooLong (its.toArray.size+its2.toArray.size))=true:=by
  rw[zkU hsz,Bool.and_false]
  exact yH
 refine call_meets F.slot_list_extend ⟨_,e,rfl⟩ F.entry_list_extend (F.args_list_extend_2 _ _)
  (AutoSeq1.list_extend_list_list_0 l its.toArray n b its2.toArray n2 hlong (by rw[yD];lia) (by lia)) ⟨e,e2,?_⟩
 refine⟨.non,_,I.lset (its':=its++its2) hH e (by simp) (r.append r2) ?_,rfl,q⟩
 rw[yE]
 lia
def rPop:V->List V->Hp->VK->Prop:=fun x vs H Q=>∃l xs y,x=.ref l/\vs=[]/\H l=some (.lst xs)/\xs[xs.length-1]?=some y/\Q y (upd H l (.lst xs.dropLast))
theorem zlT:MtM X "list.pop" rPop:=by
 intro zp s σ H x vs v us Q I rx rv h
 obtain⟨l,xs,y,rfl,rfl,hH,hy,q⟩:=h
 cases rx
 have hus:=rv.zero
 subst hus
 obtain⟨z,its,n,r,hl,e⟩:=I.lstM hH
 obtain⟨u,hu,ru⟩:=r.get hy
 have hy':its.toArray[its.toArray.size-1]?=some u:=by
  show its.toArray[its.length-1]?=some u
  rw[←wI,←hl]
  exact hu
 refine call_meets F.slot_list_pop ⟨_,e,rfl⟩ F.entry_list_pop (F.args_list_pop_1 _) (MeetsSeq.list_pop_last l its.toArray n u hy' (by rw[yD];lia)) ⟨e,?_⟩
 refine⟨y,_,I.lset (its':=its.dropLast) hH e ?_ r.dropLast ?_,ru,q⟩
 ·show its.toArray.eraseIdxIfInBounds (its.toArray.size-1)=its.dropLast.toArray
  rw[yD,List.eraseIdxIfInBounds_toArray,zhU]
 ·rw[List.length_dropLast]
  lia
end
section
variable{prog:Program}{w:World}{A:Around}{E:Value->Shared->Prop}{s:Shared}
set_option maxRecDepth 100000 in
end
section
variable{X:Cx}
end
end L2
namespace Att
open PySem PySem.W PySem.Calls PyProof.Rows
theorem zcF{P:Params}{h:Heap}:∀(ns:List Int)(vs:List Value),WellAll P h vs (ns.map WData.int)->IntsAre vs ns:=by
 intro ns
 induction ns with
 |nil=>
  intro vs w
  rw[List.map_nil] at w
  cases w
  exact .nil
 |cons n ns ih=>
  intro vs w
  rw[xA] at w
  cases w with
  |cons a b=>
   cases a
   exact .cons _ _ (ih _ b)
theorem zi5{l:OpenLaw}{n:Nat}(hn:l.most=some n){P:Params}{h:Heap}{args:List WData}{vals:List Value}
  (hpre:l.row.toRowW.claim.pre args=true) (hwl:WellAll P h vals args):
  ∃a vs ns,vals=[Value.ref a]/\args=[WData.list (ns.map WData.int)]/\h.get? a=some {cls:=.type "list",data:=.seq vs.toArray}/\IntsAre vs ns/\ns.length<=n:=by
 have hsh:WShape.hasAll [] args [.list .int]=true:=(pre_splitW hpre).1
 have hc:l.pre.holds [] {args:=args}=true:=(pre_splitW hpre).2
 obtain⟨d,r,rfl,h1,h2⟩:=hasAllW_cons hsh
 obtain rfl:=hasAllW_nil h2
 obtain⟨xs,rfl,h3⟩:=hasW_list h1
 obtain⟨ns,rfl⟩:=items_int h3
 have hlen:ns.length<=n:=by
  unfold OpenLaw.pre at hc
  have h4:(WTm.not (.lt (.lit (.int (n:Int))) (.len (.arg 0)))).holds [] {args:=[.list (ns.map .int)]}=true:=by
   have h4:=(holds_andW hc).1
   rw[hn] at h4
   exact h4
  have h5:=condW_of h4 (w_not (w_lt w_lit (w_len_list (w_arg rfl))))
  rw[yB] at h5
  refine Nat.le_of_not_lt fun q=>?_
  have q':(n:Int)<((ns.length:Nat):Int):=by lia
  first
   |(rw[decide_eq_true q'] at h5;exact absurd h5 (by decide))
   |(simp at h5;lia)
 cases hwl with
 |cons w1 w2=>
  cases w2
  cases w1 with
  |list ho hall=>exact⟨_,_,ns,rfl,rfl,ho,zcF ns _ hall,hlen⟩
theorem zi6(l:OpenLaw)(args:List WData):l.row.toRowW.claim.post args (.bool true) args=true:=
 postW_of (r:=l.row.toRowW) (X:=(true==true))
  (show WShape.has [] (.bool true) .bool=true by first|rfl|decide|simp[WShape.has,WShape.arms,WShape.armsAll])
  (show (WTm.eq .res (.lit (.bool true))).value [] {args:=args,res:=some (.bool true),after:=args}=some (.bool (true==true)) from w_eq_bool (w_res rfl) w_lit) rfl
theorem attach_call{l:OpenLaw}{n:Nat}{q:Program}{loose:List Str}{XP:(Str->Option Value)->Heap->Prop}{YP:World->Heap->Prop}{d:DefRec}
  (hn:l.most=some n) (hdf:d.params.defaults=[])
  (call:∀(w:World)(s₀ s₁:Shared)(mg mb:Str->Option Value)(fa:Addr)(o:Obj)(pm cd doc:Value)(a:Addr)(vs:List Value)(ns:List Int),
   Ground q loose [] XP w s₀ mg mb s₁.heap->YP w s₁.heap->
   s₁.heap.get? fa=some o->o.data=.func (docDef d.name d.params d.body d.scope pm cd doc)->s₁.heap.CodeRec cd d.name->mg d.name=some (.ref fa)->
   s₁.heap.get? a=some {cls:=.type "list",data:=.seq vs.toArray}->IntsAre vs ns->ns.length<=n->s₁.gens=#[]->
   codeAny (model l.prog w) callerA (.call (.ref fa) ⟨[.ref a],[]⟩) (fun r s'=>r=.ok (.ret (.bool true))/\OldK s₁.heap s'.heap/\s'.os=s₁.os/\AllBare s'.gens) s₁):
  WalkO q loose XP YP l.row.toRowW d [] (fun f vs=>PySem.call f vs):=by
 intro w s₀ s₁ mg mb G Y fa o pm cd doc dV kV ho hd hcd hD hmg hg args vals as hpre hlay hrd hwl hlo
 obtain rfl:dV=.none:=Dflts.none hD hdf
 obtain rfl:kV=.none:=Dflts.noKw hD
 obtain⟨a,vs,ns,rfl,rfl,hobj,hints,hlen⟩:=zi5 hn hpre hwl
 refine enter_call (codeAny_mono (call w s₀ s₁ mg mb fa o pm cd doc a vs ns G Y ho (fd_plain hd) hcd hmg hobj hints hlen hg) fun r s' hq=>?_)
 obtain⟨rfl,h2,h3,h4⟩:=hq
 exact⟨.inl ⟨.bool true,.bool true,[],rfl,fun _=>rfl,.bool true,zi6 l _,fun _=>⟨List.Pairwise.nil,fun _ hm=>(nomatch hm)⟩⟩,h2,h3,h4⟩
section
variable{prog:Program}{w:World}{A:Around}{E:Value->Shared->Prop}{s:Shared}{K:Frag}
noncomputable def ledger(h:Heap)(L d:Addr):List (Addr×Obj):=(xR h.objs.size).filterMap fun a=>if a=L\/a=d then none else (h.get? a).map fun o=>(a,o)
end
end Att
namespace L2
open PySem PySem.Spec PyProof.Rows
theorem zfh:∀{vs:List Value}{ns:List Int},IntsAre vs ns->Vals (ns.map V.int) vs
 |_,_,.nil=>.nil
 |_,_,.cons n t h=>.cons ⟨t,rfl⟩ (zfh h)
def Only(H:Hp):Prop:=∀b,H b=none\/∃o xs,H b=some (.frz o (.lst xs))
theorem zkV{P:Program}{w:World}{K:uZ}{mg mb:Str->Option Value}{CX:CXT}{k:Nat}{fa a:Addr}{fd:tD}{x:Str}{sp:Sp}{s₁:Shared}{vs:List Value}{ns:List Int}
  (KX:K.In s₁.heap) (hns:s₁.heap.Ns uP mg) (hb:s₁.heap.Ns builtinsNs mb) (hbb:∀x:Str,x≠"__name__"->mb x=uT x) (hlim:s₁.heap.NoLimit) (hg:s₁.gens=#[])
  (ha:s₁.heap.get? a=some {cls:=.type "list",data:=.seq vs.toArray}) (hi:IntsAre vs ns) (hl:ns.length<=uQ) (hr:Room k callerA)
  (F:∀base:Heap,K.In base->base.Ns uP mg->FnOk P w K mg base CX k fa fd [x] sp) (hbind:∀(s:Shared)(u:Value),BindsTo s fd ⟨[u],[]⟩ [(x,u)])
  (hsp:∀H:Hp,Only H->SqL K H a (ns.map V.int)->sp [.ref a] H (fun v _=>v=.bl true) fun _ _ _=>False)
  (hCX:∀H e s',CX [] H s₁ (fun _ _ _=>False) e s'->False):
  codeAny (model P w) callerA (.call (.ref fa) ⟨[.ref a],[]⟩) (fun r s'=>r=.ok (.ret (.bool true))/\OldK s₁.heap s'.heap/\s'.os=s₁.os/\AllBare s'.gens) s₁:=by
 have rv:=zfh hi
 have lenV:=hi.length
 have core:∀H:Hp,Only H->SqL K H a (ns.map V.int)->HOk P w H s₁.heap->(∀b,H b≠none->b=a)->(H a≠none->K.lookup a=none)->
   codeAny (model P w) callerA (.call (.ref fa) ⟨[.ref a],[]⟩) (fun r s'=>r=.ok (.ret (.bool true))/\OldK s₁.heap s'.heap/\s'.os=s₁.os/\AllBare s'.gens) s₁:=by
  intro H hO hS hok hA hK
  have base_of:∀{b:Addr}{o:Obj},s₁.heap.get? b=some o->H b=none->(hidT s₁.heap H).get? b=some o:=fun e n=>zkE e n
  have noA:∀{b:Addr}{o:Obj}{es:Array DictEntry}{ep:Nat},s₁.heap.get? b=some o->o.data=.dict es ep->H b=none:=fun {b o es ep} e d=>by
   cases q:H b with
   |none=>rfl
   |some u=>
    have e':b=a:=hA b (by rw[q];simp)
    subst e'
    rw[ha] at e;cases e
    have d':Data.seq vs.toArray _=Data.dict es ep:=d
    cases d'
  have nsK:∀{b:Addr}{m:Str->Option Value},s₁.heap.Ns b m->(hidT s₁.heap H).Ns b m:=fun {b m} ⟨o,es,ep,e,d,r⟩=>⟨o,es,ep,base_of e (noA e d),d,r⟩
  have hKb:K.In (hidT s₁.heap H):=fun b o e=>base_of (KX b o e) (by
   cases q:H b with
   |none=>rfl
   |some u=>
    have e':b=a:=hA b (by rw[q];simp)
    subst e'
    rw[hK (by rw[q];simp)] at e;cases e)
  have hM:Mod K mg (hidT s₁.heap H):=⟨hKb,nsK hns,⟨mb,nsK hb,hbb⟩,let ⟨mc,h1,h2⟩:=hlim;⟨mc,nsK h1,h2⟩⟩
  have e0:Env0 P w K mg (hidT s₁.heap H) callerA [] s₁ H:=⟨rfl,hM,fun b o e=>zmx e,Nat.le_of_eq (ziF _ _),trivial,fun b hb=>absurd (show b∈([]:List Addr) from hb) (by simp),hok,.of_eq hg⟩
  refine codeAny_mono ((F _ hKb (nsK hns)).run callerA [] s₁ H ⟨[.ref a],[]⟩ [.ref a] [.ref a] _ _ hr e0 (hbind s₁ (.ref a)) (.cons rfl .nil) (hsp H hO hS)) fun r s' h=>?_
  cases r with
  |error e=>exact (hCX H e s' h).elim
  |ok fl=>
   cases fl with
   |next=>exact False.elim h
   |brk=>exact False.elim h
   |cont=>exact False.elim h
   |ret u=>
    obtain⟨v,H',os,bare,un,hok',r',q⟩:=h
    have q':v=.bl true:=q
    subst q'
    obtain rfl:u=Value.bool true:=r'
    refine⟨rfl,OldK.of_keep fun b o e=>?_,os,bare⟩
    cases q:H b with
    |none=>exact un.keep b o e q (by intro z;exact absurd (show b∈([]:List Addr) from z) (by simp)) (by simp)
    |some u=>
     rcases hO b with z|⟨ob,xs,z⟩
     ·rw[q] at z;cases z
     ·have z2:=un.frzs b ob _ z
      obtain⟨e1,_⟩:=hok b _ z
      obtain⟨e2,_⟩:=hok' b _ z2
      rw[e] at e1;cases e1
      exact e2
 cases hk:K.lookup a with
 |some o=>
  have e:=KX a o hk
  rw[ha] at e
  cases e
  refine core (fun _=>none) (fun _=>.inl rfl) (.inr ⟨_,vs.toArray,_,hk,rfl,rfl,rfl,by rw[yD,lenV];exact hl,by simpa using rv⟩) (fun b u z=>by have z':(none:Option HO)=some u:=z;cases z') (fun b z=>absurd rfl z) fun z=>absurd rfl z
 |none=>
  refine core (fun b=>if b=a then some (.frz {cls:=.type "list",data:=.seq vs.toArray} (.lst (ns.map V.int))) else none) (fun b=>?_) (.inl (.inr ⟨{cls:=.type "list",data:=.seq vs.toArray},if_pos rfl⟩)) (fun b u z=>?_) (fun b z=>?_) fun _=>hk
  ·by_cases hb:b=a
   ·exact .inr ⟨_,_,if_pos hb⟩
   ·exact .inl (if_neg hb)
  ·by_cases hb:b=a
   ·have z':=(if_pos hb).symm.trans z
    cases z'
    subst hb
    exact⟨ha,by rw[yB];exact hl,vs,_,rv,ha⟩
   ·have z':=(if_neg hb).symm.trans z
    cases z'
  ·by_cases hb:b=a
   ·exact hb
   ·exact absurd (if_neg hb) z
abbrev KOf{K:uZ}{h:Heap}(_:K.In h):uZ:=K
theorem zmN{l:PySem.W.OpenLaw}{n k:Nat}{q:Program}{loose:List Str}{XP:(Str->Option Value)->Heap->Prop}{YP:World->Heap->Prop}{d:DefRec}{K:Params->uZ}{CX:World->CXT}{sp:World->Sp}{x:Str}
  (hn:l.most=some n) (hn2:n<=uQ) (hdf:d.params.defaults=[]) (hr:Room k callerA)
  (hY:∀(w:World)(h:Heap),YP w h->(K w.params).In h)
  (F:∀(w:World)(mg:Str->Option Value)(fa:Addr)(h:Heap),(K w.params).In h->h.Ns uP mg->mg d.name=some (.ref fa)->
   ∃fd:tD,(∀(s:Shared)(u:Value),BindsTo s fd ⟨[u],[]⟩ [(x,u)]) /\
    ∀base:Heap,(K w.params).In base->base.Ns uP mg->FnOk l.prog w (K w.params) mg base (CX w) k fa fd [x] (sp w))
  (hsp:∀(w:World)(H:Hp)(a:Addr)(ns:List Int),ns.length<=n->Only H->SqL (K w.params) H a (ns.map V.int)->sp w [.ref a] H (fun v _=>v=.bl true) fun _ _ _=>False)
  (hCX:∀(w:World)(H:Hp)(s:Shared)(e:Value)(s':Shared),CX w [] H s (fun _ _ _=>False) e s'->False):
  PySem.W.WalkO q loose XP YP l.row.toRowW d [] (fun f vs=>PySem.call f vs):=by
 refine Att.attach_call hn hdf fun w s₀ s₁ mg mb fa o pm cd doc a vs ns G Y ho hd hcd hmg hobj hints hlen hg=>?_
 have KX:=hY w _ Y
 obtain⟨fd,hb,hF⟩:=F w mg fa _ KX G.T.g hmg
 exact zkV KX G.T.g G.T.b G.T.builtins G.T.nolimit hg hobj hints (yM hlen hn2) hr hF hb (fun H hO hS=>hsp w H a ns hlen hO hS) fun H e s'=>hCX w H s₁ e s'
end L2
namespace L2
open PySem PySem.Spec PyProof.Rows
noncomputable def zaE(s:Stmt)(j:Nat):Stmt:=match s with
 |.ClassDef _ _ _ body _ _ _ _ _ _ _=>body.getD j (.Pass ⟨0,0,0,0⟩)
 |_=>.Pass ⟨0,0,0,0⟩
noncomputable def zR(s:Stmt):Arguments:=match s with
 |.FunctionDef _ a _ _ _ _ _ _ _ _=>a
 |_=>{posonlyargs:=[],args:=[],vararg:=none,kwonlyargs:=[],kw_defaults:=[],kwarg:=none,defaults:=[]}
noncomputable def zP(s:Stmt):List Stmt:=match s with
 |.FunctionDef _ _ b _ _ _ _ _ _ _=>b
 |_=>[]
noncomputable def zg(s:Stmt):Scope:=match s with
 |.FunctionDef _ _ _ _ _ _ sc _ _ _=>sc
 |_=>{kind:=.function,names:=[],isGenerator:=false,isCoroutine:=false}
abbrev CX0:CXT:=fun _ _ _ _ _ _=>False
abbrev E0:XK:=fun _ _ _=>False
theorem zga{X:Cx}:Passes CX0 X E0:=fun _ _ _ _ _ _ _ h=>h.elim
structure Fun(K:uZ)(x qual:Str)(st:Stmt)(f:Addr)(fd:tD):Prop where
 ex:∃(oc:Value)(od:Option Addr)(kV doc pm:Value)(an:Option Addr)(cdv ct:Value)(osl:Array (Option Value)),
  fd=fnOf x qual (zR st) (zP st) (zg st) .none kV doc pm an cdv ct/\K.lookup f=some ⟨oc,od,.func fd,osl⟩/\codeIn K cdv qual=true
 kp:keepIn K (.ref f)=true
section
variable{P:Program}{w:World}{K:uZ}{mg:Str->Option Value}{base:Heap}
theorem Fun.ok{x qual:Str}{st:Stmt}{f:Addr}{fd:tD}{N ps:List Str}{k:Nat}{sp:Sp}(F:Fun K x qual st f fd)(S:FnScope N ps (zg st))(len:∀vs H Q E,sp vs H Q E->vs.length=ps.length)
  (hbody:∀(cdv:Value)(A:Around)(outer:List Env)(s:Shared)(H:Hp)(vs:List V)(Q:VK)(E:XK),Room k (A.deeper (envOfC qual (zg st) s.heap.objs.size f cdv))->sp vs H Q E->
   ∃t,PSs (cxOf CX0 P w K mg base N qual (zg st) f cdv A outer s H E).nox (zP st) t/\t {nx:=fun _ H'=>Q .non H',rt:=Q} (start N vs) H):FnOk P w K mg base CX0 (k+1) f fd ps sp:=by
 obtain⟨oc,od,kV,doc,pm,an,cdv,ct,osl,rfl,lk,hcd⟩:=F.ex
 refine znH lk hcd S len fun A outer s H vs Q E hr hsp=>?_
 obtain⟨t,h,q⟩:=hbody cdv A outer s H vs Q E hr hsp
 exact⟨t,h.nox,q⟩
theorem Fun.binds{x qual:Str}{st:Stmt}{f:Addr}{fd:tD}{ps:List Str}(F:Fun K x qual st f fd)
  (h:∀(kV doc pm:Value)(an:Option Addr)(cdv ct:Value)(us:List Value),us.length=ps.length->bindArgs (fnOf x qual (zR st) (zP st) (zg st) .none kV doc pm an cdv ct) ⟨us,[]⟩=pure (ps.zip us)):Binds K fd ps []:=by
 obtain⟨oc,od,kV,doc,pm,an,cdv,ct,osl,rfl,lk,hcd⟩:=F.ex
 exact .all (h kV doc pm an cdv ct)
theorem us_1{us:List Value}(h:us.length=1):∃x0,us=[x0]:=by
 match us,h with
 |[x0],_=>exact⟨x0,rfl⟩
theorem us_2{us:List Value}(h:us.length=2):∃x0 x1,us=[x0,x1]:=by
 match us,h with
 |[x0,x1],_=>exact⟨x0,x1,rfl⟩
theorem us_3{us:List Value}(h:us.length=3):∃x0 x1 x2,us=[x0,x1,x2]:=by
 match us,h with
 |[x0,x1,x2],_=>exact⟨x0,x1,x2,rfl⟩
theorem us_4{us:List Value}(h:us.length=4):∃x0 x1 x2 x3,us=[x0,x1,x2,x3]:=by
 match us,h with
 |[x0,x1,x2,x3],_=>exact⟨x0,x1,x2,x3,rfl⟩
theorem us_5{us:List Value}(h:us.length=5):∃x0 x1 x2 x3 x4,us=[x0,x1,x2,x3,x4]:=by
 match us,h with
 |[x0,x1,x2,x3,x4],_=>exact⟨x0,x1,x2,x3,x4,rfl⟩
theorem Fun.b1{x qual:Str}{st:Stmt}{f:Addr}{fd:tD}{z0:Str}(F:Fun K x qual st f fd)(h:∀(kV doc pm:Value) (an:Option Addr) (cdv ct:Value) (x0:Value),bindArgs (fnOf x qual (zR st) (zP st) (zg st) .none kV doc pm an cdv ct) ⟨[x0],[]⟩=pure ([z0].zip [x0])):Binds K fd [z0] []:=F.binds fun a b c d e g us hl=>by obtain⟨x0,rfl⟩:=us_1 hl;exact h a b c d e g x0
theorem Fun.b2{x qual:Str}{st:Stmt}{f:Addr}{fd:tD}{z0 z1:Str}(F:Fun K x qual st f fd)(h:∀(kV doc pm:Value) (an:Option Addr) (cdv ct:Value) (x0 x1:Value),bindArgs (fnOf x qual (zR st) (zP st) (zg st) .none kV doc pm an cdv ct) ⟨[x0,x1],[]⟩=pure ([z0,z1].zip [x0,x1])):Binds K fd [z0,z1] []:=F.binds fun a b c d e g us hl=>by obtain⟨x0,x1,rfl⟩:=us_2 hl;exact h a b c d e g x0 x1
theorem Fun.b3{x qual:Str}{st:Stmt}{f:Addr}{fd:tD}{z0 z1 z2:Str}(F:Fun K x qual st f fd)(h:∀(kV doc pm:Value) (an:Option Addr) (cdv ct:Value) (x0 x1 x2:Value),bindArgs (fnOf x qual (zR st) (zP st) (zg st) .none kV doc pm an cdv ct) ⟨[x0,x1,x2],[]⟩=pure ([z0,z1,z2].zip [x0,x1,x2])):Binds K fd [z0,z1,z2] []:=F.binds fun a b c d e g us hl=>by obtain⟨x0,x1,x2,rfl⟩:=us_3 hl;exact h a b c d e g x0 x1 x2
theorem Fun.b4{x qual:Str}{st:Stmt}{f:Addr}{fd:tD}{z0 z1 z2 z3:Str}(F:Fun K x qual st f fd)(h:∀(kV doc pm:Value) (an:Option Addr) (cdv ct:Value) (x0 x1 x2 x3:Value),bindArgs (fnOf x qual (zR st) (zP st) (zg st) .none kV doc pm an cdv ct) ⟨[x0,x1,x2,x3],[]⟩=pure ([z0,z1,z2,z3].zip [x0,x1,x2,x3])):Binds K fd [z0,z1,z2,z3] []:=F.binds fun a b c d e g us hl=>by obtain⟨x0,x1,x2,x3,rfl⟩:=us_4 hl;exact h a b c d e g x0 x1 x2 x3
theorem Fun.b5{x qual:Str}{st:Stmt}{f:Addr}{fd:tD}{z0 z1 z2 z3 z4:Str}(F:Fun K x qual st f fd)(h:∀(kV doc pm:Value) (an:Option Addr) (cdv ct:Value) (x0 x1 x2 x3 x4:Value),bindArgs (fnOf x qual (zR st) (zP st) (zg st) .none kV doc pm an cdv ct) ⟨[x0,x1,x2,x3,x4],[]⟩=pure ([z0,z1,z2,z3,z4].zip [x0,x1,x2,x3,x4])):Binds K fd [z0,z1,z2,z3,z4] []:=F.binds fun a b c d e g us hl=>by obtain⟨x0,x1,x2,x3,x4,rfl⟩:=us_5 hl;exact h a b c d e g x0 x1 x2 x3 x4
theorem zba{x qual:Str}{st:Stmt}{f:Addr}{oc:Value}{od an:Option Addr}{osl:Array (Option Value)}{kV doc pm cdv ct:Value}(l:K.lookup f=some ⟨oc,od,.func (fnOf x qual (zR st) (zP st) (zg st) .none kV doc pm an cdv ct),osl⟩)
  (c:codeIn K cdv qual=true) (k:keepIn K (.ref f)=true):Fun K x qual st f (fnOf x qual (zR st) (zP st) (zg st) .none kV doc pm an cdv ct):=⟨⟨oc,od,kV,doc,pm,an,cdv,ct,osl,rfl,l,c⟩,k⟩
end
theorem znQ{A:Around}{k:Nat}(hr:Room k A):A.units+1<cLine:=xS (Nat.add_le_add_left (by decide:1<=64) _) hr.units
theorem zaa{n:Nat}(h:n<=1000):n<uQ:=xS h (by decide)
section
variable{X:Cx}
theorem pv(i:Nat){x:Str}{pos:Pos}(hN:X.N[i]?=some x:=by rfl)(hv:Vis X.env.scope x:=by first|exact Or.inl rfl|exact Or.inr (Or.inl rfl)|exact Or.inr (Or.inr rfl))(hd:(x==("__debug__":Str))=false:=by decide)
  (hcd:(x==("__classdict__":Str))=false:=by decide):PE X (.Name x pos) (tVar i):=znA hN hv hd hcd
end
theorem iteF{A B:Prop}(h:B):if false=true then A else B:=by
 rw[if_neg yH]
 exact h
theorem iteT{A B:Prop}(h:A):if true=true then A else B:=by
 rw[if_pos rfl]
 exact h
theorem ite2{c A B:Prop}[Decidable c](h1:c->A)(h2:¬c->B):if c then A else B:=by
 by_cases h:c
 ·rw[if_pos h]
  exact h1 h
 ·rw[if_neg h]
  exact h2 h
def Same(H H':Hp):Prop:=∀b o,H b=some o->H' b=some o
theorem Sr(H:Hp):Same H H:=fun _ _ h=>h
theorem Same.trans{H H1 H2:Hp}(a:Same H H1)(b:Same H1 H2):Same H H2:=fun c o h=>b c o (a c o h)
theorem Same.free{H H':Hp}(e:Same H H'){l:Addr}(h:H' l=Option.none):H l=Option.none:=by
 cases q:H l with
 |none=>rfl
 |some o=>
  rw[e l o q] at h
  cases h
theorem Same.seq{K:uZ}{H H':Hp}{a:Addr}{xs:List V}(e:Same H H')(h:SqL K H a xs):SqL K H' a xs:=by
 rcases h with (h|⟨o,h⟩)|h
 ·exact .inl (.inl (e _ _ h))
 ·exact .inl (.inr ⟨o,e _ _ h⟩)
 ·exact .inr h
section
variable{κ:Type}[DecidableEq κ]
end
theorem HOk.track{P:Program}{w:World}{H:Hp}{h:Heap}{a:Addr}{o:HO}(x:HOk P w H h)(hn:H a=none)(new:Zh P w (upd H a o) h a o):HOk P w (upd H a o) h:=fun b u e=>by
 by_cases hb:b=a
 ·subst hb;rw[zc] at e;cases e;exact new
 ·rw[zm hb] at e
  exact (x b u e).stay (fun c v _ q=>q) (fun c q=>by rw[zm (zh q hn)];exact q) fun c xs q=>by rw[zm (zh q hn)];exact q
theorem HOk.other{P:Program}{w:World}{H:Hp}{h h':Heap}{a:Addr}(x:HOk P w H h)(hn:H a=none)(hs:Heap.SameBut a h h'):HOk P w H h':=fun b u e=>
 (x b u e).stay (fun c v hc q=>(hs.2 c (by
  rintro rfl
  rcases hc with rfl|hc
  ·rw[hn] at e;cases e
  ·rw[hn] at hc;cases hc)).trans q) (fun _ q=>q) fun _ _ q=>q
section
variable{prog:Program}{w:World}{A:Around}{R:Result->Shared->Prop}{s:Shared}
theorem zfi{elt target iter:Expr}{ifs:List Expr}{scope:Scope}{pos:Pos}{it acc:Value}{env:Env}(I:Nat->Shared->Prop)
  (turn:∀n s,I n s->wpAny (model prog w) A (pyNext it) (fun r s₁=>match r with
   |none=>R (.ok .next) s₁
   |some v=>wpAny (model prog w) A (letOwnedTupleGo target it v) (fun _ s₀=>wpAny (model prog w) A (assign target env v) (fun _ s₂=>
     wpAny (model prog w) A (forIn ifs true fun c r=>if r=true then do let ok ←isTrue c env (eval c env);pure (ForInStep.yield ok) else pure (ForInStep.yield r)) (fun ok s₃=>
      if ok=true then wpAny (model prog w) A (eval elt env) (fun x s₄=>
       wpAny (model prog w) A (call (.builtin "list.append") [acc,x]) (fun _ s₅=>∃m,m<n/\I m s₅) (notedBy (model prog w) A env fun e s'=>R (.error e) s') s₄) (notedBy (model prog w) A env fun e s'=>R (.error e) s') s₃
      else ∃m,m<n/\I m s₃) (notedBy (model prog w) A env fun e s'=>R (.error e) s') s₂) (notedBy (model prog w) A env fun e s'=>R (.error e) s') s₀) (notedBy (model prog w) A env fun e s'=>R (.error e) s') s₁) (notedBy (model prog w) A env fun e s'=>R (.error e) s') s)
  (n:Nat) (h:I n s):codeAny (model prog w) A (.compLoop (.ListComp elt [⟨target,iter,ifs,0⟩] scope pos) 0 it acc env) R s:=by
 refine codeAny_loop rfl I (fun n s hI=>?_) n h
 show wpAny _ A ((compTurn (.ListComp elt [⟨target,iter,ifs,0⟩] scope pos) 0 it acc env).onRaise (fun x=>do noteFrame x env;theTreesLotGoes x)) _ _ s
 refine wpAny_noted ?_
 rw[compTurn_list]
 refine uJ (wpAny_standAt (uJ (wpAny_mono (turn n s hI) (fun r s₁ h₁=>?_) fun _ _ h'=>h')))
 cases r with
 |none=>exact uK h₁
 |some v=>
  refine uJ (wpAny_mono h₁ (fun _ s₀ h₀=>?_) fun _ _ h'=>h')
  refine uJ (wpAny_mono h₀ (fun _ s₂ h₂=>uJ (wpAny_mono h₂ (fun ok s₃ h₃=>?_) fun _ _ h'=>h')) fun _ _ h'=>h')
  cases ok with
  |false=>exact uK ⟨rfl,h₃⟩
  |true=>
   exact uJ (uJ (wpAny_mono h₃ (fun x s₄ h₄=>uJ (wpAny_mono h₄ (fun _ s₅ h₅=>uK (uK ⟨rfl,h₅⟩)) fun _ _ h'=>h')) fun _ _ h'=>h'))
end
noncomputable def zL(X:Cx)(scope:Scope)(cl:List (Str×Addr))(NY:List Str)(C:Addr)(s:Shared)(H:Hp)(fp:List Addr):Cx where
 prog:=X.prog
 w:=X.w
 K:=X.K
 mg:=X.mg
 base:=X.base
 A:=X.A
 N:=NY
 s₀:=s
 H₀:=H
 env:=compEnvC scope cl C X.env
 outer:=X.stack
 stack:=X.stack
 ex:=fp
 fn:=fun _=>false
 calm:=true
 pn:=[]
 xe:=notedBy (model X.prog X.w) X.A (compEnvC scope cl C X.env) fun e s'=>compPost (model X.prog X.w) X.A X.xe none (fun _ _=>False) .none C (.error e) s'
def ClOk:List (Str×Addr)->List (Str×Addr)->Prop
 |[],_=>True
 |p::r,cells=>cells.lookup p.1=some p.2/\ClOk r cells
theorem ClOk.mem:∀{cl cells:List (Str×Addr)},ClOk cl cells->∀{x:Str}{c:Addr},cl.lookup x=some c->cells.lookup x=some c
 |[],_,_,_,_,e=>by simp at e
 |(y,d)::r,cells,h,x,c,e=>by
  rw[vE] at e
  split at e
  ·rename_i q
   have q':x=y:=by simpa using q
   subst q'
   cases e
   exact h.1
  ·exact ClOk.mem h.2 e
def FrOk(X:Cx)(scope:Scope)(cl:List (Str×Addr)):List Nat->List Str->Prop
 |[],[]=>True
 |i::r,y::ys=>(X.N[i]?=some y/\scope.names.lookup y=some .free/\Vis X.env.scope y/\X.env.kindOf y≠some .local/\∃c,cl.lookup y=some c)/\FrOk X scope cl r ys
 |_,_=>False
def PIfs(X:Cx)(ifs:List Expr)(t:TT):Prop:=
 ∀(zp:List (Addr×Obj))(s:Shared)(σ:St)(H:Hp)(Q:Bool->Hp->Prop),Inv X zp σ H s->t σ H Q->
  wpAny (model X.prog X.w) X.A (forIn ifs true fun c r=>if r=true then do let ok ←isTrue c X.env (eval c X.env);pure (ForInStep.yield ok) else pure (ForInStep.yield r)) (TP X zp σ Q) X.xe s
theorem zW{X:Cx}:PIfs X [] (fun _ H Q=>Q true H):=fun _ _ _ H _ I h=>wpAny_tests_nil ⟨H,I,h⟩
theorem zd9{X:Cx}{c:Expr}{t:TT}(h:PT X c t):PIfs X [c] t:=fun zp s σ H Q I q=>wpAny_tests_one (h zp s σ H Q I q)
noncomputable def frees(fr:List Nat)(σ:St):St:=fr.map fun k=>(σ[k]?).join
def zb7(fr:List Nat)(wi:TI)(tt:TT)(te:TE):TE:=fun σ H Q=>wi σ H fun J H1=>∃W:Nat->Nat->List V->Hp->Prop,(∃m,W 0 m [] H1)/\∀i m vs H,W i m vs H->vs.length<=uQ /\
 ((J.stop i H/\∀D,H D=none->Q (.ref D) (upd H D (.lst vs))) \/
  (J.go i H/\∀v H',J.yld i H v H'->tt (some v::frees fr σ) H' fun b H2=>if b=true then te (some v::frees fr σ) H2 fun y H3=>∃m',m'<m/\W (i+1) m' (vs++[y]) H3 else ∃m',m'<m/\W (i+1) m' vs H2))
noncomputable def relF(env:Env)(p:Str×NameKind):Str×NameKind:=if (p.2==NameKind.free&&env.scope.kind==.function&&env.kindOf p.1==some .cell)=true then (p.1,NameKind.cell) else (p.1,p.2)
theorem zkW(env:Env)(p:Str×NameKind):(relF env p).1=p.1:=by unfold relF;split<;>rfl
theorem zbg{env:Env}:∀{names:List (Str×NameKind)}{x:Str},(names.map (relF env)).lookup x=(names.lookup x).map fun k=>(relF env (x,k)).2
 |[],_=>rfl
 |(n,k)::r,x=>by
  have ih:=@zbg env r x
  rw[xA]
  have e:relF env (n,k)=(n,(relF env (n,k)).2):=Prod.ext (zkW env (n,k)) rfl
  rw[e]
  cases hx:x==n with
  |true=>
   have q':x=n:=by simpa using hx
   subst q'
   simp only[vE,hx,xU]
  |false=>simp only[vE,hx];exact ih
theorem zab{env:Env}{names:List (Str×NameKind)}{x:Str}(h:names.lookup x=some .free):
  (names.map (relF env)).lookup x=some .cell\/(names.map (relF env)).lookup x=some .free:=by
 rw[zbg,h,xU]
 unfold relF
 split
 ·exact .inl rfl
 ·exact .inr rfl
theorem zan{env:Env}{names:List (Str×NameKind)}{x:Str}(hn:∀y∈names,y.2≠.cell)(h:(names.map (relF env)).lookup x=some .cell\/(names.map (relF env)).lookup x=some .free):(x,NameKind.free)∈names:=by
 rw[zbg] at h
 cases q:names.lookup x with
 |none=>rw[q] at h;simp at h
 |some k=>
  rw[q] at h
  have hm:=PySem.mem_of_lookup q
  have hk:k=.free:=by
   unfold relF at h
   simp only[xU,Option.some.injEq] at h
   split at h
   ·rename_i c
    simp only[yV] at c
    simpa using c.1.1
   ·rcases h with h|h
    ·exact absurd h (hn _ hm)
    ·exact h
  rw[←hk]
  exact hm
theorem zcG{X:Cx}{scope:Scope}{cl:List (Str×Addr)}{σ:St}:∀{fr:List Nat}{ys:List Str},FrOk X scope cl fr ys->∀(j:Nat)(y:Str)(v:V),ys[j]?=some y->(frees fr σ)[j]?=some (some v)->
  ∃i:Nat,X.N[i]?=some y/\σ[i]?=some (some v)/\scope.names.lookup y=some .free/\Vis X.env.scope y/\X.env.kindOf y≠some .local/\∃c,cl.lookup y=some c
 |[],[],_,j,y,v,e,_=>by simp at e
 |[],_::_,h,_,_,_,_,_=>h.elim
 |_::_,[],h,_,_,_,_,_=>h.elim
 |i::r,z::ys,h,0,y,v,e1,e2=>by
  have e1':z=y:=by simpa using e1
  subst e1'
  have e2':(σ[i]?).join=some v:=by simpa [frees] using e2
  have:σ[i]?=some (some v):=by
   cases q:σ[i]? with
   |none=>rw[q] at e2';cases e2'
   |some o=>rw[q] at e2';cases o with
    |none=>cases e2'
    |some u=>cases e2';rfl
  exact⟨i,h.1.1,this,h.1.2.1,h.1.2.2.1,h.1.2.2.2.1,h.1.2.2.2.2⟩
 |i::r,z::ys,h,j+1,y,v,e1,e2=>zcG (fr:=r) (ys:=ys) h.2 j y v (by simpa using e1) (by simpa [frees] using e2)
theorem zcH{X:Cx}{scope:Scope}{cl:List (Str×Addr)}{σ:St}:∀{fr:List Nat}{ys:List Str},FrOk X scope cl fr ys->(frees fr σ).length=ys.length
 |[],[],_=>rfl
 |[],_::_,h=>h.elim
 |_::_,[],h=>h.elim
 |i::r,z::ys,h=>by
  have:=zcH (σ:=σ) (fr:=r) (ys:=ys) h.2
  simp only[frees,xA,yG,yB] at *
  lia
theorem zY{X:Cx}{elt iter:Expr}{x:Str}{px pos:Pos}{ifs:List Expr}{scope:Scope}{cl:List (Str×Addr)}(fr:List Nat)(ys:List Str){wi:TI}{tt:TT}{te:TE}
  (hc:X.calm=true) (hclos:closureFor scope X.env=pure cl) (hcell:∀y∈scope.names,y.2≠.cell) (hkind:scope.kind=.function) (hnames:∀y∈scope.names,y.2=.local->scope.names.lookup y.1=some .local)
  (hx:scope.names.lookup x=some .local) (hnd:(x::ys).Nodup) (hcl:ClOk cl X.env.cells) (hall:(scope.names.all fun y=>y.2 != .free||(cl.lookup y.1).isSome)=true) (hfr:FrOk X scope cl fr ys)
  (hi:PI X (.Name x px) iter wi)
  (hY:∀C s H fp,PIfs (zL X scope cl (x::ys) C s H fp) ifs tt/\PE (zL X scope cl (x::ys) C s H fp) elt te)
  (hs:∀v,foldedSetIterable iter X.env v=pure v:=by intro _;rfl):
  PE X (.ListComp elt [⟨.Name x px,iter,ifs,0⟩] scope pos) (zb7 fr wi tt te):=by
 intro zp s σ H Q I h
 rw[eval_ListComp]
 refine wpAny_comprehension_free (use:=none) rfl hs hclos hkind hnames (wpAny_mono (hi zp s σ H _ I h) (fun v s1 h1=>wpAny_mono h1 (fun itv s2 h2=>?_) fun _ _ e=>e) fun _ _ e=>e)
 obtain⟨it,fp,tn,J,H2,rfl,I2,T,st2,f2,W,⟨m0,w0⟩,turn⟩:=h2
 refine uR (wpAny_newFunctionEnv hcell (by intro y hy;simp at hy) (fun h₁ hns₁ hsb₁=>?_) hkind)
 dsimp only at hns₁ hsb₁ ⊢
 generalize hP2:s2.heap.push {cls:=.type "list",dict:=none,data:=.seq ([]:List Value).toArray}=P2 at hns₁ hsb₁ ⊢
 have hC:P2.objs.size=s2.heap.objs.size+1:=by rw[←hP2,Heap.size_push]
 have hDC:s2.heap.objs.size≠P2.objs.size:=by rw[hC];exact yI (xZ _)
 have hCle:s2.heap.objs.size<=P2.objs.size:=by rw[hC];exact wQ _
 have below:∀b,b<s2.heap.objs.size->b≠P2.objs.size/\b≠s2.heap.objs.size:=fun b hb=>⟨by rw[hC];exact yI (wT hb),yI hb⟩
 have old:∀b o,s2.heap.get? b=some o->h₁.get? b=some o:=fun b o e=>hsb₁.extBut b o (below b (uM e)).1 (uL _ (hP2▸uL _ e))
 have hacc:h₁.get? s2.heap.objs.size=some {cls:=.type "list",data:=.seq ([]:List Value).toArray}:=hsb₁.extBut _ _ hDC (uL _ (hP2▸uN _ rfl))
 have fpl:∀b∈fp,b<s2.heap.objs.size:=fun b hb=>by
  obtain⟨o,e,_⟩:=T.obj _ _ st2 b hb
  exact uM e
 have tlt:∀b o,H2 b=some o->b<s2.heap.objs.size:=fun b o e=>I2.hok.lt e
 generalize hCg:P2.objs.size=C at hns₁ hsb₁ hDC hCle below ⊢
 generalize hDg:s2.heap.objs.size=D at hDC below hacc fpl tlt ⊢
 have hDle:D<=C:=by rw[←hDg];exact hCle
 have cls:∀y c,cl.lookup y=some c->X.env.cells.lookup y=some c:=fun y c e=>hcl.mem e
 have clt:∀y c,cl.lookup y=some c->c<D:=fun y c e=>by
  obtain⟨v,q⟩:=I2.cell y c (cls y c e)
  rw[←hDg];exact q.lt
 have sub:∀b∈frs X.stack,b<D:=fun b hb=>by
  rcases yQ.mp (I2.stkSub b hb) with e|hb
  ·rw[e,←hDg];exact I2.lt
  ·obtain⟨_,o,ho,_⟩:=I2.ok.funs.mem hb
   rw[←hDg];exact yP (uM ho) I2.sz
 obtain⟨YI,YE⟩:=hY C s2 H2 fp
 have Yok:(zL X scope cl (x::ys) C s2 H2 fp).Ok:=by
  refine⟨I2.ok.mod,hkind,I2.ok.glob,I2.ok.blt,hCle,?_,?_,?_,fun _=>I2.ok.hd hc,I2.ok.frames,.inl rfl,?_,I2.bs,yM I2.ok.bsz I2.sz,?_,?_,I2.stack,I2.stkFree⟩
  ·exact fun y z c e1 e2=>I2.ok.inj y z c (cls y c e1) (cls z c e2)
  ·intro y hy
   have hm:=zan (env:=X.env) (names:=scope.names) (x:=y) hcell hy
   have q:=xQ.mp hall _ hm
   show ∃c,cl.lookup y=some c
   exact xX.mp (by simpa using q)
  ·intro y c hf _
   exact absurd hf (by show ¬false=true;decide)
  ·intro b hb
   refine⟨(below b (fpl b hb)).1,fun y c e z=>?_⟩
   exact (f2 b hb).2.2.2.2.1 y c (cls y c e) z
  ·intro b o e hb
   have hb:b∈fp:=hb
   rcases (f2 b hb).2.2.2.1 with z|z
   ·exact I2.ok.noex b o e z
   ·exact absurd (yP (uM e) (yM I2.ok.bsz z)) (xD _)
  ·intro b hb hf
   have hb:b∈fp:=hb
   rcases yQ.mp (I2.stkSub b hf) with e|hf
   ·exact (f2 b hb).2.1 e
   ·exact (f2 b hb).2.2.1 hf
 have hvis:Loc (zL X scope cl (x::ys) C s2 H2 fp).env.scope x:=.inl (lookup_relabel_local hx)
 have start:∀tk,Inv (zL X scope cl (x::ys) C s2 H2 fp) [] (none::frees fr σ) H2 {s2 with heap:=h₁,toks:=tk}:=fun tk=>by
  refine⟨Yok,rfl,I2.bare,Un.kept old,⟨_,hns₁,fun i y v e1 e2 e3=>?_⟩,fun y c e=>?_,?_,fun y c e=>?_,fun p hp=>absurd (show p∈([]:List (Addr×Obj)) from hp) (by simp),I2.hok.kept old,?_⟩
  ·cases i with
   |zero=>simp at e2
   |succ j=>
    obtain⟨i',n1,n2,n3,n4,n5,c,n6⟩:=zcG hfr j y v (by simpa [zL] using e1) (by simpa using e2)
    obtain⟨m,hn,hl⟩:=I2.loc
    obtain⟨u,r,l⟩:=hl i' y v n1 n2 n4
    refine⟨u,r,.inr ⟨zab n3,c,n6,?_⟩⟩
    rcases l with⟨k,_⟩|⟨k,c',e,z⟩
    ·exact absurd k n5
    ·rw[cls y c n6] at e
     cases e
     obtain⟨o,ho,hd⟩:=z
     exact⟨o,old _ _ ho,hd⟩
  ·obtain⟨v,o,ho,hd⟩:=I2.cell y c (cls y c e)
   exact⟨v,o,old _ _ ho,hd⟩
  ·show H2 C=none
   cases q:H2 C with
   |none=>rfl
   |some o=>exact absurd (tlt C o q) (Nat.not_lt.mpr hDle)
  ·exact I2.freeC y c (cls y c e)
  ·show (none::frees fr σ).length=(x::ys).length
   rw[yG,yG,zcH hfr]
 have fpY:∀{pl:List (Addr×Obj)}{H':Hp},(∀b∈fp,H' b=none)->(∀p∈pl,p.1=D)->∀b∈fp,FpOk (zL X scope cl (x::ys) C s2 H2 fp) pl H' b:=fun {pl H'} hn hpl b hb=>by
  refine⟨hn b hb,(below b (fpl b hb)).1,Yok.exfs b hb,.inl hb,fun y c e z=>(f2 b hb).2.2.2.2.1 y c (cls y c e) z,fun p hp=>?_⟩
  have hp:p∈[]++pl:=hp
  rw[vO] at hp
  rw[hpl p hp]
  exact (below b (fpl b hb)).2.symm
 have loop:∀s₃:Shared,(∃tk,s₃={s2 with heap:=h₁,toks:=tk})->
   codeAny (model X.prog X.w) X.A (.compLoop (.ListComp elt [⟨.Name x px,iter,ifs,0⟩] scope pos) 0 (.ref it) (.ref D) (compEnvC scope cl C X.env))
    (compPost (model X.prog X.w) X.A X.xe none (EP X zp σ Q) (.ref D) C) s₃:=by
  rintro s₃ ⟨tk,rfl⟩
  refine zfi
   (fun k s'=>∃i vs ws nn H',Inv (zL X scope cl (x::ys) C s2 H2 fp) [] (none::frees fr σ) H' s'/\tn i s'.heap/\(∀b∈fp,H' b=none)/\H' D=none /\
    s'.heap.get? D=some {cls:=.type "list",data:=.seq (ws:List Value).toArray nn}/\Vals vs ws/\W i k vs H') ?_ m0
   ⟨0,[],[],0,H2,start tk,T.keep _ _ _ st2 fun b _ o e=>old b o e,fun b hb=>(f2 b hb).1,?_,hacc,.nil,w0⟩
  ·rintro n s3 ⟨i,vs,ws,nn,H3,I3,st3,fr3,hD3,ho3,rv3,w3⟩
   have I3':Inv (zL X scope cl (x::ys) C s2 H2 fp) [(D,{cls:=.type "list",data:=.seq ws.toArray nn})] (none::frees fr σ) H3 s3:=I3.pins_of fun p hp=>by
    have e:p=(D,{cls:=.type "list",data:=.seq ws.toArray nn}):=by simpa using hp
    subst e
    refine⟨ho3,hD3,hDC,fun z=>absurd (sub D z) (xD _),fun v z=>?_⟩
    have z':Data.seq ws.toArray nn=Data.cell v:=z
    cases z'
   have fp3:=fpY (pl:=[(D,{cls:=.type "list",data:=.seq ws.toArray nn})]) fr3 (fun p hp=>by rw[yO.mp hp])
   obtain⟨hsz,alt⟩:=turn i n vs H3 w3
   rcases alt with⟨stop,fin⟩|⟨go,step⟩
   ·refine thn (T.done (zL X scope cl (x::ys) C s2 H2 fp) rfl rfl rfl rfl i _ s3 _ H3 _ I3' fp3 st3 stop) fun r s4 ⟨hr,I4⟩=>?_
    subst hr
    have pD:=I4.pin (D,{cls:=.type "list",data:=.seq ws.toArray nn}) (by show _∈[]++_;simp)
    obtain⟨m4,hn4,_⟩:=I4.loc
    refine⟨m4,hn4,fun h' hs'=>?_⟩
    have hC4:H3 C=none:=I4.free
    have hok':HOk X.prog X.w (upd H3 D (.lst vs)) h':=by
     refine HOk.track (I4.hok.other hC4 hs') hD3 ⟨hsz,ws,nn,rv3,(hs'.2 D hDC).trans pD.1⟩
    have b4:=I4.base
    have un:Un (frs X.stack) fp H2 (upd H3 D (.lst vs)) s2.heap h':=by
     have lt:∀b o,s2.heap.get? b=some o->b<D:=fun b o e=>by rw[←hDg];exact uM e
     refine⟨fun b o e n hb hx=>(hs'.2 b (below b (lt b o e)).1).trans (b4.keep b o e n hb hx),fun b o e n hb hx=>?_,fun b o e n hx=>?_,fun b o e hx=>?_,fun b zs e=>?_,fun b o u e=>?_,fun b ps e=>?_⟩
     ·obtain⟨sl,q⟩:=b4.slot b o e n hb hx
      exact⟨sl,(hs'.2 b (below b (lt b o e)).1).trans q⟩
     ·rw[zm (below b (lt b o e)).2];exact b4.free b o e n hx
     ·obtain⟨o',q⟩:=b4.there b o e hx
      exact⟨o',(hs'.2 b (below b (lt b o e)).1).trans q⟩
     ·rw[zm (below b (tlt b _ e)).2];exact b4.tups b zs e
     ·rw[zm (below b (tlt b _ e)).2];exact b4.frzs b o u e
     ·rw[zm (below b (tlt b _ e)).2];exact b4.tbls b ps e
    refine⟨.ref D,upd H3 D (.lst vs),?_,rfl,fin D hD3⟩
    exact I2.call' (s':={s4 with heap:=h'}) (ch:=fp) I4.os un hok' I4.bare fun b hb=>⟨(f2 b hb).2.2.2.1,(f2 b hb).2.1,(f2 b hb).2.2.2.2.1,(f2 b hb).2.2.2.2.2⟩
   ·refine thn (T.item (zL X scope cl (x::ys) C s2 H2 fp) rfl rfl rfl rfl i _ s3 _ H3 _ I3' fp3 st3 go) fun r s4 ⟨u,hr,h4⟩=>?_
    subst hr
    refine thn h4 fun _ s5 ⟨v,H5,I5,r5,y5,st5,fr5⟩=>?_
    have fp5:=fpY (pl:=[(D,{cls:=.type "list",data:=.seq ws.toArray nn})]) fr5 (fun p hp=>by rw[yO.mp hp])
    have I5':=I5.pinned fp5 (T.obj _ _ st5)
    refine thn (zX (X:=zL X scope cl (x::ys) C s2 H2 fp) (i:=0) (pos:=px) hnd rfl hvis (.inr (lookup_relabel_local hx)) _ s5 _ H5 v u (fun σ' H'=>σ'=some v::frees fr σ/\H'=H5) I5' r5 ⟨rfl,rfl⟩) fun _ s6 ⟨σ6,H6,I6,e6,e6'⟩=>?_
    subst e6 e6'
    refine thn (YI _ s6 _ _ _ I6 (step v H6 y5)) fun b s7 ⟨H7,I7,q7⟩=>?_
    have back:∀{H8:Hp}{s8:Shared},Inv (zL X scope cl (x::ys) C s2 H2 fp) ([(D,{cls:=.type "list",data:=.seq ws.toArray nn})]++zdH fp s5.heap) (some v::frees fr σ) H8 s8->
      s8.heap.get? D=some {cls:=.type "list",data:=.seq ws.toArray nn}/\H8 D=none/\(∀b∈fp,H8 b=none)/\(∀b∈fp,∀o,s5.heap.get? b=some o->s8.heap.get? b=some o):=fun {H8 s8} I8=>by
     have pD:=I8.pin (D,{cls:=.type "list",data:=.seq ws.toArray nn}) (by show _∈[]++_;simp)
     refine⟨pD.1,pD.2.1,fun b hb=>?_,fun b hb o e=>?_⟩
     ·obtain⟨o,e,d⟩:=T.obj _ _ st5 b hb
      exact (I8.pin (b,o) (yT _ (yT _ (Z5 hb e)))).2.1
     ·exact (I8.pin (b,o) (yT _ (yT _ (Z5 hb e)))).1
    have weak:∀{H8:Hp}{s8:Shared},Inv (zL X scope cl (x::ys) C s2 H2 fp) [] (some v::frees fr σ) H8 s8->Inv (zL X scope cl (x::ys) C s2 H2 fp) [] (none::frees fr σ) H8 s8:=fun {H8 s8} I8=>
     I8.weak rfl fun i v' e=>by
      cases i with
      |zero=>simp at e
      |succ j=>simpa using e
    have nopin:∀{H8:Hp}{s8:Shared}{pl:List (Addr×Obj)},Inv (zL X scope cl (x::ys) C s2 H2 fp) pl (some v::frees fr σ) H8 s8->Inv (zL X scope cl (x::ys) C s2 H2 fp) [] (some v::frees fr σ) H8 s8:=fun {H8 s8 pl} I8=>
     I8.pins_of fun p hp=>absurd hp (by simp)
    cases b with
    |false=>
     rw[if_neg yH] at q7 ⊢
     obtain⟨m',hm,w7⟩:=q7
     obtain⟨k1,k2,k3,k4⟩:=back I7
     exact⟨m',hm,i+1,vs,ws,nn,H7,weak (nopin I7),T.keep _ _ _ st5 k4,k3,k2,k1,rv3,w7⟩
    |true=>
     rw[if_pos rfl] at q7 ⊢
     refine thn (YE _ s7 _ _ _ I7 q7) fun u8 s8 ⟨y8,H8,I8,r8,m',hm,w8⟩=>?_
     obtain⟨k1,k2,k3,k4⟩:=back I8
     refine append_at (hsz:=by rw[yD,←rv3.length];exact hsz) k1 fun h9 hs9 ho9=>?_
     have I9:Inv (zL X scope cl (x::ys) C s2 H2 fp) [] (some v::frees fr σ) H8 {s8 with heap:=h9}:=
      (nopin I8).turned (t':=s8.toks) (it:=D) (fun b o hb e=>(hs9.2 b hb).trans e) k2 hDC (.inr (by rw[←hDg];exact yF _)) (fun y c e=>yI (clt y c e)) fun p hp=>absurd (show p∈([]:List (Addr×Obj)) from hp) (by simp)
     refine⟨m',hm,i+1,vs++[y8],ws++[u8],nn+1,H8,weak I9,?_,k3,k2,?_,rv3.append (.cons r8 .nil),w8⟩
     ·refine T.keep _ _ _ st5 fun b hb o e=>?_
      exact (hs9.2 b (below b (fpl b hb)).2).trans (k4 b hb o e)
     ·rw[ho9,List.push_toArray]
  ·cases q:H2 D with
   |none=>rfl
   |some o=>exact absurd (tlt D o q) (xD _)
 exact codeAny_compStart_list (loop _ ⟨_,rfl⟩) (T.self _ 0 _ _ _ (T.keep _ _ _ st2 fun b _ o e=>old b o e) (loop _ ⟨_,rfl⟩))
def Have(P:Program)(w:World)(K:uZ)(mg:Str->Option Value)(base:Heap)(x:Str)(k:Nat)(ps:List Str)(sp:Sp):Prop:=
 ∃(f:Addr)(fd:tD),FnOk P w K mg base CX0 k f fd ps sp/\Binds K fd ps []/\keepIn K (.ref f)=true/\mg x=some (.ref f)
theorem Have.mono{P:Program}{w:World}{K:uZ}{mg:Str->Option Value}{base:Heap}{x:Str}{j k:Nat}{ps:List Str}{sp:Sp}(h:Have P w K mg base x j ps sp)(e:j<=k):Have P w K mg base x k ps sp:=
 let ⟨f,fd,F,r⟩:=h;⟨f,fd,F.mono e,r⟩
theorem Have.up{P:Program}{w:World}{K:uZ}{mg:Str->Option Value}{base:Heap}{j k:Nat}{ps:List Str}{sp:Sp}{x:Str}(h:Have P w K mg base x j ps sp)(e:uH j k=true):Have P w K mg base x k ps sp:=h.mono (xT e)
section
variable{X:Cx}{x:Str}{k:Nat}{ps:List Str}{sp:Sp}{e:Expr}{es:List Expr}{t:TA}{p pos:Pos}
theorem zq(G:Have X.prog X.w X.K X.mg X.base x k ps sp)(hr:Room k X.A)(hg:Gl X x)(ha:PA X (e::es) t)(hdb:(x==("__debug__":Str))=false:=by decide)
  (he:uS (e::es) X.env=(false,eval e X.env)::uS es X.env:=by rfl) (hpl:(backTo pos (uS es X.env)).any (·.1)=false:=by rfl):
  PE X (.Call (.Name x p) (e::es) [] pos) (ziU sp [] E0 t):=by
 obtain⟨f,fd,F,b,kp,m⟩:=G
 exact zmF F hr hg m kp b .nil zga ha hdb he hpl
end
section
variable{X:Cx}
def zoG(i j:Int):Prop:=0<j/\j.natAbs.log2<9000
theorem zkX:OpR X (binaryOp .FloorDiv) (rI zoG fun i j=>.int (i / j)):=opI fun i j _ _ _ _ _ hc q=>by
 have h1:(0:Int)<j:=hc.1
 exact floordiv_int (by lia) (by rw[Int.fdiv_eq_ediv_of_nonneg i (by lia)];exact q) (.inl (PyProof.noPylong_of_log2 hc.2))
noncomputable def zby:List String:=["NoneType","bool","int","str","list","tuple","dict"]
noncomputable def isi(A T:String):Option Bool:=if zby.contains A&&zby.contains T then some (A==T||(A=="bool"&&T=="int")) else none
theorem zi7{A:String}(h:zby.contains A=true):A="NoneType"\/A="bool"\/A="int"\/A="str"\/A="list"\/A="tuple"\/A="dict":=by
 have:A∈zby:=by simpa using h
 simpa [zby] using this
theorem zi8{K:uZ}{A T:String}{b:Bool}(h:isi A T=some b):PySem.W.kitOne K (.type A) (.type T)=some b:=by
 unfold isi at h
 split at h
 ·rename_i c
  rw[yV] at c
  cases h
  rcases zi7 c.1 with rfl|rfl|rfl|rfl|rfl|rfl|rfl<;>rcases zi7 c.2 with rfl|rfl|rfl|rfl|rfl|rfl|rfl<;>kernel_rfl
 ·cases h
theorem zN:zav X (.builtin "isinstance") (fun xs H Q=>∃v T A b,xs=[v,.ty T]/\TyOf X.K H v (.type A)/\isi A T=some b/\Q (.bl b) H):=by
 intro zp s σ H xs us Q I r h
 obtain⟨v,T,A,b,rfl,ty,e,q⟩:=h
 obtain⟨u,c,rfl,ru,rc⟩:=zhM r
 cases (show c=Value.type T from rc)
 exact ziT I ru ty (zi8 e) fun tk=>⟨.bl b,H,I.tok tk,rfl,q⟩
theorem zgb{A:Around}{P:Program}{w:World}{xs:List Bool}{its:List Value}(r:Vals (xs.map V.bl) its):TruthOf P w A (fun i v=>its.toArray[i]?=some v) (fun i=>xs.getD i true):=by
 intro i v s Q E hv h
 have hv':its[i]?=some v:=by simpa using hv
 have hl:=r.length
 rw[yB] at hl
 have hi:i<xs.length:=by rw[hl];exact (yC.mp hv').1
 obtain⟨u,hu,ru⟩:=r.get (i:=i) (x:=V.bl xs[i]) (by rw[yK,yA hi];rfl)
 rw[hv'] at hu
 cases hu
 cases ru
 refine wpAny_truthy_bool ?_
 have e:xs.getD i true=xs[i]:=by rw[yR,yA hi];rfl
 have h:Q (xs.getD i true) s:=h
 rw[e] at h
 exact h
theorem zi9(xs:List Bool):(xR xs.length).all (fun i=>xs.getD i true)=xs.all id:=by
 rw[xJ,xQ,xQ]
 constructor
 ·intro h x hx
  obtain⟨i,hi,rfl⟩:=vS.mp hx
  have:=h i (wR.mpr hi)
  rw[yR,yA hi] at this
  exact this
 ·intro h i hi
  have hi:=wR.mp hi
  rw[yR,yA hi]
  exact h _ (yY hi)
theorem Zx(hc:X.calm=true):zav X (.builtin "all") (fun xs H Q=>∃(p:Addr)(bs:List Bool),xs=[.ref p]/\SqL X.K H p (bs.map V.bl)/\Q (.bl (bs.all id)) H):=by
 intro zp s σ H xs us Q I r h
 obtain⟨p,bs,rfl,hq,q⟩:=h
 obtain⟨u,rfl,rx⟩:=zbv r
 cases rx
 obtain⟨its,r',pl,hz⟩:=I.list hq
 have hl:=pl.isList
 obtain⟨o,ho,_⟩:=id hl
 have hlt:=uM ho
 refine call_all_walk (wpAny_pyIter_list hl ?_)
 refine⟨_,_,_,_,_,_,fun i=>bs.getD i true,rfl,Walks.list (A:=X.A.in1) (I.ok.hd hc) s.heap.objs.size p (yI hlt) its.toArray,⟨⟨_,uN _ rfl,rfl,rfl⟩,hl.push _⟩,zgb r',fun h' tk hk=>?_⟩
 have e:(xR its.toArray.size).all (fun i=>bs.getD i true)=bs.all id:=by
  have hl2:=r'.length
  rw[yB] at hl2
  rw[yD,←hl2]
  exact zi9 bs
 rw[e]
 refine⟨.bl (bs.all id),H,I.kept (h':=h') (t':=tk) fun b o e=>?_,rfl,q⟩
 exact hk b o (fun hm=>absurd (uM e) (by rw[yO.mp hm];exact xD _)) (uL _ e)
end
section
variable{prog:Program}{w:World}{A:Around}{R:Result->Shared->Prop}{I l:Addr}{vs:List Value}{ns:List Int}{d:Value}
end
noncomputable def Its(z:Str):It:=⟨fun i _=>i<z.cps.size,fun i H x H'=>H'=H/\∃c,z.cps[i]?=some c/\x=.str ⟨#[c]⟩,fun i _=>i=z.cps.size⟩
theorem zkY{P:Program}{w:World}{K:uZ}{tg:Expr}{it:Addr}{T:String}{z:Str}{t:Tok}
  (W:∀A:Around,A.handled=none->Walks P w A it [it] [it] z.cps.size (SignAt z) (fun i h=>h.IsStrIter it T z t i))
  (hT:["enumerate","zip","dict_itemiterator","dict_reverseitemiterator","odict_iterator","itertools.zip_longest","itertools.pairwise"].contains T=false)
  (self:∀(A:Around)(i:Nat)(s:Shared)(Q:Value->Shared->Prop)(E:Value->Shared->Prop),s.heap.IsStrIter it T z t i->Q (.ref it) s->wpAny (model P w) A (pyIter (.ref it)) Q E s):
  Turn P w K tg (Its z) [it] it (fun i h=>h.IsStrIter it T z t i) where
 mem:=by simp
 obj:=fun i h st b hb=>by
  have e:b=it:=by simpa using hb
  subst e
  obtain⟨o,e,c,d⟩:=st
  exact⟨o,e,fun v z=>by rw[d] at z;cases z⟩
 keep:=fun i h h' st k=>by
  obtain⟨o,e,c⟩:=st
  exact⟨o,k it (by simp) o e,c⟩
 item:=by
  intro X hP hw hK hc i zp s σ H E I hf st hg
  subst hP hw hK
  obtain⟨f0,f1,f2,f3,f4,f5⟩:=hf it (by simp)
  refine (W X.A (I.ok.hd hc)).item i s _ _ hg st fun v h' tk hP st' kk=>?_
  obtain⟨c,u,hcu,rfl⟩:=hP
  have I1:Inv X zp σ H {s with heap:=h',toks:=tk}:=I.turned (fun b o hb e=>kk b o (by simpa using hb) e) f0 f1 f3 f4 f5
  obtain⟨o,e,cc,d⟩:=id st'
  exact⟨_,rfl,zkG (s:={s with heap:=h',toks:=tk}) e cc d hT ⟨.str ⟨#[c]⟩,H,I1,⟨u,rfl⟩,⟨rfl,c,hcu,rfl⟩,st',fun b hb=>(hf b hb).1⟩⟩
 done:=by
  intro X hP hw hK hc i zp s σ H E I hf st hg
  subst hP hw hK
  obtain⟨f0,f1,f2,f3,f4,f5⟩:=hf it (by simp)
  have hg:i=z.cps.size:=hg
  subst hg
  exact (W X.A (I.ok.hd hc)).done s _ _ st fun h' tk kk=>⟨rfl,I.turned (fun b o hb e=>kk b o (by simpa using hb) e) f0 f1 f3 f4 f5⟩
 self:=fun A i s Q E st h=>self A i s Q E st h
def iStr(te:TE):TI:=fun σ H R=>te σ H fun x H1=>∃z,x=.str z/\R (Its z) H1
theorem zha{X:Cx}{tg e:Expr}{te:TE}(he:PE X e te):PI X tg e (iStr te):=by
 intro zp s σ H R I h
 refine thn (he zp s σ H _ I h) fun v s1 ⟨x,H1,I1,r1,q1⟩=>?_
 obtain⟨z,rfl,q⟩:=q1
 obtain⟨t,rfl⟩:=r1
 have fin:∀(T:String),(∀A:Around,A.handled=none->Walks X.prog X.w A s1.heap.objs.size [s1.heap.objs.size] [s1.heap.objs.size] z.cps.size (SignAt z) (fun i h=>h.IsStrIter s1.heap.objs.size T z t i))->
   ["enumerate","zip","dict_itemiterator","dict_reverseitemiterator","odict_iterator","itertools.zip_longest","itertools.pairwise"].contains T=false->
   (∀(A:Around)(i:Nat)(s:Shared)(Q:Value->Shared->Prop)(E:Value->Shared->Prop),s.heap.IsStrIter s1.heap.objs.size T z t i->Q (.ref s1.heap.objs.size) s->wpAny (model X.prog X.w) A (pyIter (.ref s1.heap.objs.size)) Q E s)->
   PIE X zp σ tg R (.ref s1.heap.objs.size) {s1 with heap:=s1.heap.push {cls:=.type T,data:=.fields #[.str z t,.int 0 0]}}:=fun T W hT self=>by
  refine⟨s1.heap.objs.size,[s1.heap.objs.size],_,_,H1,rfl,I1.kept (t':=s1.toks) fun b o e=>uL _ e,zkY W hT self,⟨_,uN _ rfl,rfl,rfl⟩,fun b hb=>?_,q⟩
  have e:b=s1.heap.objs.size:=by simpa using hb
  subst e
  exact I1.fpOk (yF _) (I1.hok.fresh (yF _))
 cases ha:z.cps.all (· < 128)
 ·exact wpAny_pyIter_wide ha (fin "str_iterator" (fun A hA=>Walks.strWide hA _ z t) (by decide) fun A i s Q E st h=>wpAny_pyIter_striter_wide st h)
 ·exact wpAny_pyIter_ascii ha (fin "str_ascii_iterator" (fun A hA=>Walks.strAscii hA _ z t) (by decide) fun A i s Q E st h=>wpAny_pyIter_striter_ascii st h)
theorem zfj{X:Cx}:OpR X (uU .LtE) (fun x y H Q=>∃i j:Str,x=.str i/\y=.str j/\Q (.bl (!decide (j.cps.toList<i.cps.toList))) H):=by
 intro zp s σ H x y v u Q I rx ry h
 obtain⟨i,j,rfl,rfl,q⟩:=h
 obtain⟨t,rfl⟩:=rx
 obtain⟨t',rfl⟩:=ry
 exact PySem.P.le_str ⟨.bl _,H,I,rfl,q⟩
theorem Zq{X:Cx}{x:Str}{i:Int}{pos:Pos}(hg:Gl X x)(hm:∃t,X.mg x=some (.int i t))(hd:(x==("__debug__":Str))=false:=by decide):PE X (.Name x pos) (tC (.int i)):=by
 obtain⟨t,hm⟩:=hm
 exact zQ hg hm ⟨t,rfl⟩ hd
theorem znR{X:Cx}{op:Operator}{r:R2}(h:OpR X (inplaceOp op) r):PIp X op r:=fun zp s σ H x y v u Q I rx ry q=>h zp s σ H x y v u Q I rx ry q
theorem ZE{X:Cx}{x:Str}{T:String}{pos:Pos}(hg:Gl X x)(hm:X.mg x=none)(hv:uT x=some (.type T))(hn:x≠"__name__":=by decide)(hd:(x==("__debug__":Str))=false:=by decide):PE X (.Name x pos) (tC (.ty T)):=zmz hg hm hv rfl hn hd
theorem Sn{H:Hp}{p:Addr}{o:HO}(h:H p=none):Same H (upd H p o):=fun b u q=>by rw[zm (zh q h)];exact q
theorem Same.seqT{K:uZ}{H H':Hp}{a:Addr}{xs:List V}(e:Same H H')(h:SqT K H a xs):SqT K H' a xs:=by
 rcases h with (h|⟨o,h⟩)|h
 ·exact .inl (.inl (e _ _ h))
 ·exact .inl (.inr ⟨o,e _ _ h⟩)
 ·exact .inr h
theorem ZU{α:Type}{xs:List α}{i:Nat}{x:α}(h:xs[i]?=some x):xs.take (i+1)=xs.take i++[x]:=by
 rw[List.take_add_one,h];rfl
theorem zja{fr:List Nat}{j:Nat}{te:TE}{σ:St}{H:Hp}{Q:VK}{z:Str}(outs:List V)(hσ:σ[j]?=some (some (.str z)))(hl:outs.length=z.cps.size)(hz:z.cps.size<=uQ)
  (step:∀(i c:Nat)(y:V)(H1:Hp)(R:VK),z.cps[i]?=some c->outs[i]?=some y->Same H H1->(∀H2,Same H1 H2->R y H2)->te (some (.str ⟨#[c]⟩)::frees fr σ) H1 R)
  (fin:∀(H1:Hp)(D:Addr),Same H H1->H1 D=none->Q (.ref D) (upd H1 D (.lst outs))):zb7 fr (iStr (tVar j)) (fun _ H Q=>Q true H) te σ H Q:=by
 refine⟨_,hσ,z,rfl,fun i m us H1=>i<=z.cps.size/\m=z.cps.size-i/\us=outs.take i/\Same H H1,⟨_,yN _,rfl,by simp,Sr _⟩,fun i m us H1 hW=>?_⟩
 obtain⟨hi,hm,hu,sm⟩:=hW
 refine⟨by rw[hu,yU];lia,?_⟩
 by_cases hlt:i<z.cps.size
 ·refine .inr ⟨hlt,fun v H' hy=>?_⟩
  obtain⟨rfl,c,hc,rfl⟩:=hy
  have hy:outs[i]?=some outs[i]:=yA (by lia)
  refine iteT ?_
  refine step i c outs[i] H' _ hc hy sm fun H2 s2=>⟨z.cps.size-(i+1),by lia,by lia,rfl,?_,sm.trans s2⟩
  rw[hu,ZU hy]
 ·have e:i=z.cps.size:=by lia
  refine .inl ⟨e,fun D hD=>?_⟩
  have e2:us=outs:=by rw[hu,xF (by lia)]
  rw[e2]
  exact fin H1 D sm hD
theorem zjb{K:uZ}{fr:List Nat}{j:Nat}{te:TE}{σ:St}{H:Hp}{Q:VK}{a:Addr}{vs:List V}(outs:List V)(hσ:σ[j]?=some (some (.ref a)))(hS:SqT K H a vs)(hl:outs.length=vs.length)(hz:vs.length<=uQ)
  (step:∀(i:Nat)(v y:V)(H1:Hp)(R:VK),vs[i]?=some v->outs[i]?=some y->Same H H1->(∀H2,Same H1 H2->R y H2)->te (some v::frees fr σ) H1 R)
  (fin:∀(H1:Hp)(D:Addr),Same H H1->H1 D=none->Q (.ref D) (upd H1 D (.lst outs))):zb7 fr (iTup K (tVar j)) (fun _ H Q=>Q true H) te σ H Q:=by
 refine⟨_,hσ,a,rfl,⟨vs,hS⟩,fun i m us H1=>i<=vs.length/\m=vs.length-i/\us=outs.take i/\Same H H1,⟨_,yN _,rfl,by simp,Sr _⟩,fun i m us H1 hW=>?_⟩
 obtain⟨hi,hm,hu,sm⟩:=hW
 refine⟨by rw[hu,yU];lia,?_⟩
 by_cases hlt:i<vs.length
 ·refine .inr ⟨⟨vs,vs[i],sm.seqT hS,yA hlt⟩,fun v H' hy=>?_⟩
  obtain⟨rfl,hv⟩:=hy
  have hv:=hv vs (sm.seqT hS)
  have hy:outs[i]?=some outs[i]:=yA (by lia)
  refine iteT ?_
  refine step i v outs[i] H' _ hv hy sm fun H2 s2=>⟨vs.length-(i+1),by lia,by lia,rfl,?_,sm.trans s2⟩
  rw[hu,ZU hy]
 ·have e:i=vs.length:=by lia
  refine .inl ⟨⟨vs,sm.seqT hS,by lia⟩,fun D hD=>?_⟩
  have e2:us=outs:=by rw[hu,xF (by lia)]
  rw[e2]
  exact fin H1 D sm hD
theorem zay:isi "tuple" "tuple"=some true:=by decide +kernel
theorem zfk:isi "int" "tuple"=some false:=by decide +kernel
theorem zcI:isi "str" "tuple"=some false:=by decide +kernel
theorem zlU:isi "bool" "tuple"=some false:=by decide +kernel
theorem zlV:isi "NoneType" "tuple"=some false:=by decide +kernel
theorem zlW:isi "list" "tuple"=some false:=by decide +kernel
theorem zlX:isi "dict" "tuple"=some false:=by decide +kernel
theorem zdL:isi "tuple" "str"=some false:=by decide +kernel
theorem zfl:isi "int" "str"=some false:=by decide +kernel
theorem zaL:isi "str" "str"=some true:=by decide +kernel
theorem zlY:isi "bool" "str"=some false:=by decide +kernel
theorem zlZ:isi "NoneType" "str"=some false:=by decide +kernel
theorem zl5:isi "list" "str"=some false:=by decide +kernel
theorem zl6:isi "dict" "str"=some false:=by decide +kernel
theorem znS:isi "tuple" "int"=some false:=by decide +kernel
theorem znT:isi "int" "int"=some true:=by decide +kernel
theorem znU:isi "str" "int"=some false:=by decide +kernel
theorem znV:isi "bool" "int"=some true:=by decide +kernel
theorem znW:isi "NoneType" "int"=some false:=by decide +kernel
theorem znX:isi "list" "int"=some false:=by decide +kernel
theorem znY:isi "dict" "int"=some false:=by decide +kernel
theorem znZ:isi "int" "bool"=some false:=by decide +kernel
theorem zn0:isi "bool" "bool"=some true:=by decide +kernel
theorem zF:uT (uI "tuple")=some (.type "tuple"):=by kernel_rfl
theorem Zl:uT (uI "str")=some (.type "str"):=by kernel_rfl
theorem zcJ:uT (uI "int")=some (.type "int"):=by kernel_rfl
theorem zhV:uT (uI "bool")=some (.type "bool"):=by kernel_rfl
theorem zJ:uT (uI "isinstance")=some (.builtin "isinstance"):=by kernel_rfl
theorem zjc:uT (uI "ord")=some (.builtin "ord"):=by kernel_rfl
theorem zjd:uT (uI "abs")=some (.builtin "abs"):=by kernel_rfl
theorem zaO:uT (uI "all")=some (.builtin "all"):=by kernel_rfl
end L2
namespace D
open PySem L2
noncomputable def top(i:Nat):Stmt:=PySem.Challenge.pw_leastforge_k38_one_task.main.body.getD i (.Pass ⟨0,0,0,0⟩)
abbrev zbh:Stmt:=top 6
abbrev zcK:Stmt:=top 7
abbrev zaP:Stmt:=top 8
abbrev zje:Stmt:=top 9
abbrev zbR:Stmt:=top 10
abbrev zjf:Stmt:=top 11
abbrev zbi:Stmt:=top 19
abbrev zaQ:Stmt:=top 20
abbrev zjg:Stmt:=top 21
abbrev zgc:Stmt:=top 22
abbrev zea:Stmt:=top 23
abbrev zbj:Stmt:=top 24
abbrev zaR:Stmt:=top 25
abbrev zcL:Stmt:=top 26
abbrev zbS:Stmt:=top 27
abbrev zcM:Stmt:=top 28
abbrev zbT:Stmt:=top 29
abbrev zeb:Stmt:=top 30
abbrev zec:Stmt:=top 31
abbrev zcN:Stmt:=top 32
abbrev zcO:Stmt:=top 33
abbrev zbU:Stmt:=top 36
abbrev zaF:Stmt:=top 47
abbrev zbk:Stmt:=top 48
abbrev zac:Stmt:=top 49
abbrev zar:Stmt:=top 50
abbrev zbV:Stmt:=top 51
abbrev Zt:Stmt:=top 52
abbrev zbW:Stmt:=top 53
abbrev zbl:Stmt:=top 54
abbrev zcP:Stmt:=top 55
abbrev zcQ:Stmt:=top 56
abbrev zbX:Stmt:=top 57
abbrev zcR:Stmt:=top 58
abbrev Zg:Stmt:=zaE (top 61) 0
abbrev Z6:Stmt:=zaE (top 61) 1
abbrev zcS:Stmt:=top 62
abbrev zbY:Stmt:=top 63
abbrev zcT:Stmt:=top 64
abbrev zcU:Stmt:=top 65
abbrev zed:Stmt:=top 66
abbrev zee:Stmt:=top 67
abbrev zef:Stmt:=top 68
abbrev zgd:Stmt:=top 69
abbrev zjh:Stmt:=top 71
abbrev zji:Stmt:=top 72
abbrev zcV:Stmt:=top 73
abbrev zcW:Stmt:=top 74
abbrev zeg:Stmt:=top 75
abbrev zaS:Stmt:=top 77
abbrev zaG:Stmt:=top 78
abbrev zbm:Stmt:=top 79
abbrev zjj:Stmt:=top 80
abbrev zcX:Stmt:=top 82
abbrev zbn:Stmt:=top 83
abbrev zbZ:Stmt:=top 84
abbrev zas:Stmt:=top 85
abbrev zcY:Stmt:=top 86
abbrev zbo:Stmt:=top 87
abbrev zaT:Stmt:=top 88
abbrev zb0:Stmt:=top 89
abbrev ZM:Stmt:=top 91
abbrev ZA:Stmt:=top 92
abbrev zb1:Stmt:=top 94
abbrev Za:Stmt:=zaE (top 95) 0
abbrev zO:Stmt:=zaE (top 95) 1
abbrev ZN:Stmt:=zaE (top 95) 2
abbrev ZO:Stmt:=zaE (top 95) 3
abbrev Zr:Stmt:=zaE (top 95) 4
abbrev Z7:Stmt:=zaE (top 95) 5
abbrev Z8:Stmt:=zaE (top 95) 6
abbrev zmO:Stmt:=top 97
abbrev sBox:Stmt:=top 98
abbrev zmP:Stmt:=top 99
abbrev zmQ:Stmt:=top 100
abbrev zge:Stmt:=top 101
abbrev zjk:Stmt:=top 102
abbrev zeh:Stmt:=top 103
abbrev zgf:Stmt:=top 104
abbrev zb2:Stmt:=top 105
abbrev zgg:Stmt:=top 106
abbrev zmR:Stmt:=top 107
abbrev zei:Stmt:=top 108
abbrev zej:Stmt:=top 109
abbrev sLaw:Stmt:=top 110
end D
namespace L2
open PySem PySem.Spec PyProof.Rows
theorem seqI{t u:TS}{D:Ends}{σ:St}{H:Hp}(Pv:St->Hp->Prop)(h2:∀σ' H',Pv σ' H'->u D σ' H')(h1:∀ {N:St->Hp->Prop},(∀σ' H',Pv σ' H'->N σ' H')->t {D with nx:=N} σ H):tSeq t u D σ H:=h1 h2
theorem pos(n:Nat):(0:Int)<(((n+1:Nat):Int)):=by lia
end L2
namespace D
open PySem L2
def ZZ(H:Hp)(b:Addr):Prop:=∃a f m:Int,H b=some (.lst [.int a,.int f,.int m])
structure Step(b:Addr)(H H':Hp):Prop where
 box:ZZ H' b
 keep:∀c o,c≠b->H c=some o->H' c=some o
theorem Step.refl{b:Addr}{H:Hp}(h:ZZ H b):Step b H H:=⟨h,fun _ _ _ e=>e⟩
theorem Step.trans{b:Addr}{H H1 H2:Hp}(x:Step b H H1)(y:Step b H1 H2):Step b H H2:=⟨y.box,fun c o hc e=>y.keep c o hc (x.keep c o hc e)⟩
theorem Step.new{b p:Addr}{H:Hp}{o:HO}(h:ZZ H b)(hp:H p=none):Step b H (upd H p o):=by
 obtain⟨a,f,m,e⟩:=h
 exact⟨⟨a,f,m,by rw[zm (zh e hp)];exact e⟩,fun c u _ e=>by rw[zm (zh e hp)];exact e⟩
theorem Step.put{b:Addr}{H:Hp}(a f m:Int):Step b H (upd H b (.lst [.int a,.int f,.int m])):=⟨⟨a,f,m,zc⟩,fun c o hc e=>by rw[zm hc];exact e⟩
theorem Step.keepN{b:Addr}{H H':Hp}(x:Step b H H'){c:Addr}{o:HO}(hb:ZZ H b)(e:H c=some o)(ho:∀a f m:Int,o≠.lst [.int a,.int f,.int m]):H' c=some o:=by
 obtain⟨a,f,m,e'⟩:=hb
 exact x.keep c o (zmw e e' (ho a f m)) e
def zl8(K:uZ):Sp:=fun vs H Q _=>∃(a:Addr)(ns:List Int)(k:Int),vs=[.ref a,.int k]/\SqL K H a (ns.map V.int)/\0<=k/\∀i:Int,Q (.int i) H
def zn1(K:uZ):Sp:=fun vs H Q _=>∃(a:Addr)(ns:List Int)(k:Int),vs=[.ref a,.int k]/\SqL K H a (ns.map V.int)/\0<=k/\∀(x f m:Int)(p:Addr),H p=none->Q (.ref p) (upd H p (.lst [.int x,.int f,.int m]))
def zcZ:Sp:=fun vs H Q _=>∃(b:Addr)(n:Int),vs=[.ref b,.int n]/\ZZ H b/\0<n/\n<10 ^ 61/\∀(r:Int)(H':Hp),0<=r->r<n->Step b H H'->Q (.int r) H'
def Signs(x:Str):Prop:=∀c∈x.cps.toList,32<=c/\c<=126/\c≠34/\c≠37
def zhb:Sp:=fun vs H Q _=>∃(b:Addr)(n:Int),vs=[.ref b,.int n]/\ZZ H b/\0<=n/\n<10000/\∀(x:Str)(H':Hp),(x.length:Int)<=n->Signs x->Step b H H'->Q (.str x) H'
def zek:Sp:=fun vs H Q _=>∃b:Addr,vs=[.ref b]/\ZZ H b/\∀(i:Int)(H':Hp),-(10 ^ 60)<i->i<10 ^ 60->Step b H H'->Q (.int i) H'
section
variable{P:Program}{w:World}{K:uZ}{mg:Str->Option Value}{base:Heap}{f:Addr}{fd:tD}{k n:Nat}{ARun ATask:Addr}
theorem zn2:FnScope ["_law_script","_law_k"] ["_law_script","_law_k"] (zg zmO):=mkSc rfl (by decide +kernel)
theorem zmS(F:Fun K "_law_cell" "_law_cell" zmO f fd)(m_len:mg "len"=none):FnOk P w K mg base CX0 (k+1) f fd ["_law_script","_law_k"] (zl8 K):=by
 refine F.ok zn2 (by rintro _ _ _ _ ⟨_,_,_,rfl,_⟩;rfl) fun cdv A outer s H vs Q E hr h=>?_
 obtain⟨a,ns,j,rfl,hS,h0,q⟩:=h
 refine⟨_,(zd (zD (zw zf1 (pv 1) (zk zB rfl m_len uO (za (pv 0) zb)) (nomark _)) (zf (zj (zo zA (pv 0) (pv 1) (fun _ _=>rfl)))) zt)
  (zf (zj (zC Zk (zC zcw ze (pv 1)) ze)))),?_⟩
 refine⟨_,rfl,_,rfl,_,_,rfl,.inl ⟨_,hS,rfl⟩,_,_,rfl,rfl,_,rfl,?_⟩
 refine ite2 (fun c=>?_) (fun c=>?_)
 ·have c':j<(((ns.map V.int).length:Nat):Int):=of_decide_eq_true c
  rw[yB] at c'
  have hj:j.toNat<ns.length:=by lia
  have ej:j=((j.toNat:Nat):Int):=by lia
  have at1:atI (ns.map V.int) ((j.toNat:Nat):Int)=some (.int ns[j.toNat]):=zl (by rw[yK,yA hj];rfl)
  rw[←ej] at at1
  exact⟨_,rfl,_,rfl,a,_,j,.int ns[j.toNat],rfl,rfl,hS,at1,q _⟩
 ·exact⟨_,rfl,_,_,rfl,rfl,.inl ⟨by decide,by decide⟩,_,_,rfl,rfl,q _⟩
theorem zkZ:FnScope ["_law_script","_law_k","_law_cell_here","_law_number_here","_law_mixed"] ["_law_script","_law_k"] (zg sBox):=mkSc rfl (by decide +kernel)
theorem zn3(F:Fun K "_law_box" "_law_box" sBox f fd)(G_lcell:Have P w K mg base "_law_cell" k ["_law_script","_law_k"] (zl8 K)):FnOk P w K mg base CX0 (k+1) f fd ["_law_script","_law_k"] (zn1 K):=by
 refine F.ok zkZ (by rintro _ _ _ _ ⟨_,_,_,rfl,_⟩;rfl) fun cdv A outer s H vs Q E hr h=>?_
 obtain⟨a,ns,j,rfl,hS,h0,q⟩:=h
 refine⟨_,(zd (zx (i:=2) zkZ.nd rfl (Or.inl rfl) (zq G_lcell hr rfl (za (pv 0) (za (pv 1) zb))))
  (zd (zx (i:=3) zkZ.nd rfl (Or.inl rfl) (zC za9 (zC zcw (zC Zk (zC za9 (pv 2) ze) ze) ze) ze))
  (zd (zx (i:=4) zkZ.nd rfl (Or.inl rfl) (zC za9 (zC Zk (zC zcw (pv 3) (zC Zk (zC za9 (pv 3) ze) ze)) (zC zcw ze (pv 1))) ze))
  (zd (zD (zw Ze (zC za9 (zq G_lcell hr rfl (za (pv 0) (za ze zb))) ze) ze (nomark _)) (zf (zj (zS (za (pv 2) (za ze (za (pv 4) zb)))))) zt)
  (zf (zj (zS (za (pv 4) (za ze (za ze zb)))))))))),?_⟩
 refine⟨_,rfl,_,rfl,a,ns,j,rfl,hS,h0,fun c=>?_⟩
 refine⟨_,rfl,_,_,rfl,rfl,pos _,_,_,rfl,rfl,_,_,rfl,rfl,.inr ⟨by decide,by decide⟩,_,_,rfl,rfl,pos _,?_⟩
 have b1:0<=(c % 2147483629+11)*69621 % 2147483629:=wP _ (by decide)
 have b2:(c % 2147483629+11)*69621 % 2147483629<2147483629:=wA _ (by decide)
 refine⟨_,rfl,_,rfl,_,_,rfl,rfl,pos _,_,_,rfl,rfl,_,_,rfl,rfl,.inl ⟨by lia,by lia⟩,_,rfl,_,_,rfl,rfl,.inl ⟨by decide,by decide⟩,_,_,rfl,rfl,_,_,rfl,rfl,pos _,?_⟩
 refine⟨_,rfl,a,ns,0,rfl,hS,uF 0,fun c0=>?_⟩
 refine⟨_,_,rfl,rfl,pos _,rfl,_,rfl,?_⟩
 refine ite2 (fun e=>?_) (fun e=>?_)
 ·exact⟨_,rfl,_,rfl,zl3,fun p hp=>q _ _ _ p hp⟩
 ·exact⟨_,rfl,zl3,fun p hp=>q _ _ _ p hp⟩
theorem zhc:FnScope ["_law_box_here","_law_wide","_law_found_here"] ["_law_box_here","_law_wide"] (zg zmP):=mkSc rfl (by decide +kernel)
theorem zn4{n:Int}(h0:0<n)(h:n<10 ^ 61):n.natAbs.log2<9000:=by
 have h1:n.natAbs<2 ^ 210:=by
  have:(10:Int) ^ 61<=2 ^ 210:=by decide
  lia
 have:=(uG (by lia)).mpr h1
 lia
theorem zmT(F:Fun K "_law_take" "_law_take" zmP f fd):FnOk P w K mg base CX0 (k+1) f fd ["_law_box_here","_law_wide"] zcZ:=by
 refine F.ok zhc (by rintro _ _ _ _ ⟨_,_,rfl,_⟩;rfl) fun cdv A outer s H vs Q E hr h=>?_
 obtain⟨b,n,rfl,⟨a0,f0,m,hb⟩,hn,hn2,q⟩:=h
 refine⟨_,(zd (zD (ze3 (zw Ze (zo zA (pv 0) ze (fun _ _=>rfl)) ze (nomark _)) (zcu (zw zaw (zo zA (pv 0) ze (fun _ _=>rfl)) (zy (za ze (za (zd1 zcy ze) zb))) (by rfl)))).pt (zd (zau (zo zA (pv 0) ze (fun _ _=>rfl)) (zcv (pv 0) ze zbx))
  (zf (zau ze (zcv (pv 0) ze zbx)))) zt)
  (zd (zD (zw Ze (zo zA (pv 0) ze (fun _ _=>rfl)) ze (nomark _)) (zd (zx (i:=2) zhc.nd rfl (Or.inl rfl) (zC za9 (zo zA (pv 0) ze (fun _ _=>rfl)) (pv 1)))
  (zd (zau (zC zkX (zo zA (pv 0) ze (fun _ _=>rfl)) (pv 1)) (zcv (pv 0) ze zbx))
  (zf (zj (pv 2))))) zt)
  (zd (zau (zC za9 (zC Zk (zC zcw (zo zA (pv 0) ze (fun _ _=>rfl)) ze) ze) ze) (zcv (pv 0) ze zbx))
  (zd (zx (i:=2) zhc.nd rfl (Or.inl rfl) (zC za9 (zC zcw (zo zA (pv 0) ze (fun _ _=>rfl)) (zC Zk (zC za9 (zo zA (pv 0) ze (fun _ _=>rfl)) ze) ze)) ze))
  (zd (zD (zw zcA (pv 1) (zC zcx ze ze) (nomark _)) (zf (zx (i:=2) zhc.nd rfl (Or.inl rfl) (zC Zk (zC zcx (pv 2) ze) (pv 2)))) zt)
  (zf (zj (zC za9 (pv 2) (pv 1))))))))),?_⟩
 refine seqI (fun σ' H'=>σ'=[some (.ref b),some (.int n),none]/\Step b H H') (fun σ' H1 h1=>?_) (fun rest=>?_)
 ·obtain⟨rfl,st1⟩:=h1
  obtain⟨a,f,m,hb1⟩:=st1.box
  refine⟨_,rfl,b,_,1,.int f,rfl,rfl,Sl hb1,rfl,rfl,_,rfl,?_⟩
  refine ite2 (fun e=>?_) (fun e=>?_)
  ·refine⟨_,rfl,b,_,0,.int a,rfl,rfl,Sl hb1,rfl,_,rfl,_,_,rfl,rfl,hn,?_⟩
   refine⟨_,rfl,b,_,0,.int a,rfl,rfl,Sl hb1,rfl,_,rfl,_,_,rfl,rfl,⟨hn,zn4 hn hn2⟩,_,rfl,b,_,0,0,rfl,rfl,hb1,rfl,?_⟩
   exact⟨_,rfl,q _ _ (wP _ (by lia)) (wA _ hn) (st1.trans (Step.put _ _ _))⟩
  ·refine⟨_,rfl,b,_,0,.int a,rfl,rfl,Sl hb1,rfl,_,_,rfl,rfl,.inr ⟨by decide,by decide⟩,_,_,rfl,rfl,_,_,rfl,rfl,pos _,_,rfl,b,_,0,0,rfl,rfl,hb1,rfl,?_⟩
   refine⟨_,rfl,b,_,0,_,rfl,rfl,Sl zc,rfl,_,rfl,b,_,0,_,rfl,rfl,Sl zc,rfl,_,_,rfl,rfl,pos _,_,_,rfl,rfl,_,_,rfl,rfl,.inr ⟨?_,?_⟩,_,_,rfl,rfl,pos _,?_⟩
   ·have:=wP ((a*69621+104729) % 2147483587) (show (16807:Int)≠0 by decide)
    lia
   ·have:=wA ((a*69621+104729) % 2147483587) (show (0:Int)<16807 by decide)
    lia
   dsimp only[Zj]
   refine seqI (t:=tIfS _ _ _) (fun σ' H'=>∃x:Int,σ'=[some (.ref b),some (.int n),some (.int x)]/\Step b H H') (fun σ' H1 h1=>?_) (fun rest=>?_)
   ·obtain⟨x,rfl,st2⟩:=h1
    exact⟨_,rfl,_,rfl,_,_,rfl,rfl,hn,q _ _ (wP _ (by lia)) (wA _ hn) st2⟩
   ·refine⟨_,rfl,_,_,rfl,rfl,⟨by decide,by decide,by decide⟩,_,_,rfl,rfl,_,rfl,?_⟩
    refine ite2 (fun e=>?_) (fun e=>?_)
    ·refine⟨_,rfl,_,_,rfl,rfl,⟨by decide,by decide,?_⟩,_,rfl,_,_,rfl,rfl,rest _ _ ⟨_,rfl,st1.trans (Step.put _ _ _)⟩⟩
     have l1:=wP ((a*69621+104729) % 2147483587*((a*69621+104729) % 2147483587 % 16807+1)) (show (2147483579:Int)≠0 by decide)
     have l2:=wA ((a*69621+104729) % 2147483587*((a*69621+104729) % 2147483587 % 16807+1)) (show (0:Int)<2147483579 by decide)
     lia
    ·exact rest _ _ ⟨_,rfl,st1.trans (Step.put _ _ _)⟩
 ·refine⟨_,rfl,b,_,1,.int f0,rfl,rfl,Sl hb,rfl,rfl,_,rfl,?_⟩
  refine ite2 (fun e=>?_) (fun e=>?_)
  ·refine⟨_,rfl,b,_,0,.int a0,rfl,rfl,Sl hb,rfl,_,rfl,zl2,fun t ht=>?_⟩
   have hb2:upd H t (.tup [.int 0,.int (-1)]) b=some (.lst [.int a0,.int f0,.int m]):=by rw[zm (zh hb ht)];exact hb
   refine⟨t,_,rfl,.inr (Sq zc),rfl,rfl,_,rfl,?_⟩
   refine ite2 (fun e=>?_) (fun e=>?_)
   ·refine⟨_,rfl,b,_,2,.int m,rfl,rfl,Sl hb2,rfl,_,rfl,b,_,0,0,rfl,rfl,hb2,rfl,?_⟩
    refine⟨_,rfl,b,_,1,1,rfl,rfl,zc,rfl,?_⟩
    exact rest _ _ ⟨rfl,((Step.new ⟨_,_,_,hb⟩ ht).trans (Step.put _ _ _)).trans (Step.put _ _ _)⟩
   ·exact rest _ _ ⟨rfl,Step.new ⟨_,_,_,hb⟩ ht⟩
  ·refine iteF ?_
   exact rest _ _ ⟨rfl,Step.refl ⟨_,_,_,hb⟩⟩
inductive W where
 |num (i:Int)
 |txt (x:Str)
 |lst (ws:List W)
mutual
noncomputable def W.size:W->Int
 |.num _=>1
 |.txt x=>1+(x.length:Int)
 |.lst ws=>1+sizes ws
noncomputable def sizes:List W->Int
 |[]=>0
 |w::r=>w.size+sizes r
end
mutual
noncomputable def W.depth:W->Nat
 |.num _=>0
 |.txt _=>0
 |.lst ws=>1+depths ws
noncomputable def depths:List W->Nat
 |[]=>0
 |w::r=>max w.depth (depths r)
end
mutual
def W.Ok:W->Prop
 |.num i=>-(10 ^ 60)<i/\i<10 ^ 60
 |.txt x=>x.length<=400/\Signs x
 |.lst ws=>ws.length<=60/\Oks ws
def Oks:List W->Prop
 |[]=>True
 |w::r=>w.Ok/\Oks r
end
theorem zhW(ws:List W)(w:W):sizes (ws++[w])=sizes ws+w.size:=by
 induction ws with
 |nil=>simp[sizes]
 |cons x r ih=>simp only[xL,sizes,ih];lia
theorem zgh(ws:List W)(w:W):depths (ws++[w])=max (depths ws) w.depth:=by
 induction ws with
 |nil=>simp[depths]
 |cons x r ih=>simp only[xL,depths,ih];lia
theorem zk0(ws:List W)(w:W):Oks (ws++[w]) ↔ Oks ws/\w.Ok:=by
 induction ws with
 |nil=>simp[Oks]
 |cons x r ih=>simp only[xL,Oks,ih,and_assoc]
theorem zel{ws:List W}(h:Oks ws):∀w∈ws,w.Ok:=by
 induction ws with
 |nil=>intro w hw;cases hw
 |cons x r ih=>
  intro w hw
  rcases yQ.mp hw with rfl|hw
  ·exact h.1
  ·exact ih h.2 w hw
theorem zaz{ws:List W}:∀w∈ws,w.depth<=depths ws:=by
 induction ws with
 |nil=>intro w hw;cases hw
 |cons x r ih=>
  intro w hw
  simp only[depths]
  rcases yQ.mp hw with rfl|hw
  ·lia
  ·have:=ih w hw
   lia
inductive RW(H:Hp):V->W->Prop where
 |num (i:Int):RW H (.int i) (.num i)
 |txt (x:Str):RW H (.str x) (.txt x)
 |lst {a:Addr}{vs:List V}{ws:List W}:H a=some (.tup vs)->vs.length=ws.length->(∀(i:Nat)(v:V)(w:W),vs[i]?=some v->ws[i]?=some w->RW H v w)->RW H (.ref a) (.lst ws)
structure RWs(H:Hp)(vs:List V)(ws:List W):Prop where
 len:vs.length=ws.length
 at':∀(i:Nat)(v:V)(w:W),vs[i]?=some v->ws[i]?=some w->RW H v w
def Tups(H H':Hp):Prop:=∀a vs,H a=some (.tup vs)->H' a=some (.tup vs)
theorem RW.mono{H H':Hp}(t:Tups H H'){v:V}{w:W}(h:RW H v w):RW H' v w:=by
 induction h with
 |num i=>exact .num i
 |txt x=>exact .txt x
 |lst e l _ ih=>exact .lst (t _ _ e) l ih
theorem RWs.mono{H H':Hp}(t:Tups H H'){vs:List V}{ws:List W}(h:RWs H vs ws):RWs H' vs ws:=⟨h.len,fun i v w a b=>(h.at' i v w a b).mono t⟩
theorem RWs.snoc{H:Hp}{vs:List V}{ws:List W}{v:V}{w:W}(h:RWs H vs ws)(x:RW H v w):RWs H (vs++[v]) (ws++[w]):=by
 refine⟨by rw[yE,yE,h.len];rfl,fun i v' w' a b=>?_⟩
 by_cases hi:i<vs.length
 ·rw[yJ hi] at a
  rw[yJ (h.len▸hi)] at b
  exact h.at' i v' w' a b
 ·rw[yL (by lia)] at a
  rw[yL (by have:=h.len;lia)] at b
  have hi0:i-vs.length=0:=by
   have:=(yC.mp a).1
   simp at this
   lia
  have hi1:i-ws.length=0:=by have:=h.len;lia
  rw[hi0] at a
  rw[hi1] at b
  have e1:v=v':=by simpa using a
  have e2:w=w':=by simpa using b
  rw[←e1,←e2]
  exact x
theorem Step.tups{b:Addr}{H H':Hp}(x:Step b H H')(hb:ZZ H b):Tups H H':=fun a vs e=>x.keepN hb e (fun _ _ _ z=>nomatch z)
theorem zk1{H:Hp}{p:Addr}{o:HO}(h:H p=none):Tups H (upd H p o):=fun a vs e=>by rw[zm (zh e h)];exact e
theorem zaH{H:Hp}{p:Addr}{xs:List V}{o:HO}(h:H p=some (.lst xs)):Tups H (upd H p o):=fun a vs e=>by rw[zm (zmw e h (fun z=>nomatch z))];exact e
noncomputable def zbz:Str:=uI " !#$&'()*+,-./0123456789:;<=>?@ABCDEFGHIJKLMNOPQRSTUVWXYZ"
noncomputable def zbA:Str:=uI "[\\]^_`abcdefghijklmnopqrstuvwxyz{|}~"
theorem zaA:(zbz++zbA).length=93:=by decide +kernel
theorem zjl:∀c∈(zbz++zbA).cps.toList,32<=c/\c<=126/\c≠34/\c≠37:=by decide +kernel
theorem zem(x:Str):x.cps.toList.length=x.length:=by simp[Str.length]
theorem zen(x y:Str):(x++y).cps.toList=x.cps.toList++y.cps.toList:=by
 show (x.cps++y.cps).toList=_
 simp
theorem zc0(x y:Str):(x++y).length=x.length+y.length:=by
 rw[←zem,zen,yE,zem,zem]
mutual
theorem zk2:∀w:W,1<=w.size
 |.num _=>by simp[W.size]
 |.txt x=>by simp only[W.size];lia
 |.lst ws=>by have:=sizes_nn ws;simp only[W.size];lia
theorem sizes_nn:∀ws:List W,0<=sizes ws
 |[]=>by simp[sizes]
 |w::r=>by have h1:=zk2 w;have h2:=sizes_nn r;simp only[sizes];lia
end
theorem zdM:FnScope ["_law_box_here","_law_most","_law_signs","_law_found_here","_law_k"] ["_law_box_here","_law_most"] (zg zmQ):=mkSc rfl (by decide +kernel)
theorem small{n:Nat}(h:n<=1000000):n<=uQ:=yM h (by decide)
theorem zmU(F:Fun K "_law_text" "_law_text" zmQ f fd)(G_ltake:Have P w K mg base "_law_take" k ["_law_box_here","_law_wide"] zcZ)(m_len:mg "len"=none)(m_range:mg "range"=none):
  FnOk P w K mg base CX0 (k+1) f fd ["_law_box_here","_law_most"] zhb:=by
 refine F.ok zdM (by rintro _ _ _ _ ⟨_,_,rfl,_⟩;rfl) fun cdv A outer s H vs Q E hr h=>?_
 obtain⟨b,n,rfl,hb,hn,hn2,q⟩:=h
 refine⟨_,(zd (zx (i:=2) zdM.nd rfl (Or.inl rfl) zu)
  (zd (zx (i:=2) zdM.nd rfl (Or.inl rfl) (zC zbP (pv 2) zu))
  (zd (zx (i:=3) zdM.nd rfl (Or.inl rfl) zu)
  (zd (za8 uV rfl (ZT rfl m_range (za (zq G_ltake hr rfl (za (pv 0) (za (zC Zk (pv 1) ze) zb))) zb)) (zX (i:=4) zdM.nd rfl (Or.inl rfl)) (zf (zx (i:=3) zdM.nd rfl (Or.inl rfl) (zC zbP (pv 3) (zo znO (pv 2) (zq G_ltake hr rfl (za (pv 0) (za (zk zB rfl m_len uO (za (pv 2) zb)) zb))) (fun _ _=>rfl))))))
  (zf (zj (pv 3))))))),?_⟩
 refine⟨_,rfl,zbz,zbA,rfl,rfl,small (by decide +kernel),?_⟩
 refine⟨_,rfl,_,rfl,_,_,rfl,rfl,b,n+1,rfl,hb,by lia,by lia,fun r H1 h0 h1 st=>?_⟩
 refine⟨r,rfl,by lia,by lia,ze5 (n:=r.toNat) (fun i σ' H'=>∃(x:Str)(o:Option V),σ'=[some (.ref b),some (.int n),some (.str (zbz++zbA)),some (.str x),o]/\x.length=i/\Signs x/\Step b H H')
  ⟨uI "",none,rfl,rfl,?_,st⟩ (fun i σ' H' hi h=>?_) (fun σ' H' h=>?_)⟩
 ·intro c hc
  have e0:(uI "").cps.toList=[]:=by decide +kernel
  rw[e0] at hc
  cases hc
 ·obtain⟨x,o,rfl,hx,sx,st1⟩:=h
  refine⟨_,rfl,_,rfl,_,rfl,_,rfl,_,_,rfl,⟨small (by rw[zaA];decide),rfl⟩,b,_,rfl,st1.box,by rw[zaA];decide,by rw[zaA];decide,fun r2 H2 r0 r1 st2=>?_⟩
  rw[zaA] at r1
  have hr2:r2.toNat<(zbz++zbA).cps.toList.length:=by rw[zem,zaA];lia
  have er2:r2=((r2.toNat:Nat):Int):=by lia
  have a1:atI (zbz++zbA).cps.toList ((r2.toNat:Nat):Int)=some (zbz++zbA).cps.toList[r2.toNat]:=zl (yA hr2)
  rw[←er2] at a1
  refine⟨_,r2,_,rfl,rfl,small (by rw[zaA];decide),a1,x,_,rfl,rfl,small ?_,?_⟩
  ·have:(Str.mk #[(zbz++zbA).cps.toList[r2.toNat]]).length=1:=rfl
   rw[this]
   lia
  ·refine⟨_,_,rfl,?_,?_,st1.trans st2⟩
   ·rw[zc0,hx]
    rfl
   ·intro c hc
    rw[zen] at hc
    rcases xI.mp hc with hc|hc
    ·exact sx c hc
    ·have:c=(zbz++zbA).cps.toList[r2.toNat]:=by simpa using hc
     rw[this]
     exact zjl _ (yY _)
 ·obtain⟨x,o,rfl,hx,sx,st1⟩:=h
  exact⟨_,rfl,q x H' (by lia) sx st1⟩
theorem zhd:FnScope ["_law_box_here","_law_kind"] ["_law_box_here"] (zg zge):=mkSc rfl (by decide +kernel)
theorem zjm(F:Fun K "_law_number" "_law_number" zge f fd)(G_ltake:Have P w K mg base "_law_take" k ["_law_box_here","_law_wide"] zcZ):
  FnOk P w K mg base CX0 (k+1) f fd ["_law_box_here"] zek:=by
 refine F.ok zhd (by rintro _ _ _ _ ⟨_,rfl,_⟩;rfl) fun cdv A outer s H vs Q E hr h=>?_
 obtain⟨b,rfl,hb,q⟩:=h
 refine⟨_,(zd (zx (i:=1) zhd.nd rfl (Or.inl rfl) (zq G_ltake hr rfl (za (pv 0) (za ze zb))))
  (zd (zD (zw Ze (pv 1) ze (nomark _)) (zf (zj (zC Zk (zC ZJ (zq G_ltake hr rfl (za (pv 0) (za (zC ZJ (zC zcw ze (zC zcx ze ze)) ze) zb))) (zC zcx ze ze)) ze))) zt)
  (zd (zD (zw Ze (pv 1) ze (nomark _)) (zf (zj (zo zA (zS (za (zC ZJ (zC zcx ze ze) ze) (za (zC ZJ ze (zC zcx ze ze)) (za ze (za (zd1 zcy ze) zb))))) (zq G_ltake hr rfl (za (pv 0) (za ze zb))) (fun _ _=>rfl)))) zt)
  (zf (zj (zC ZJ (zq G_ltake hr rfl (za (pv 0) (za ze zb))) ze)))))),?_⟩
 refine⟨_,rfl,b,4,rfl,hb,by decide,by decide,fun r H1 h0 h1 st=>?_⟩
 refine⟨_,rfl,rfl,_,rfl,?_⟩
 refine ite2 (fun e=>?_) (fun e=>?_)
 ·refine⟨_,rfl,_,_,rfl,rfl,⟨by decide,by decide,by decide⟩,_,_,rfl,rfl,.inl ⟨by decide,by decide⟩,_,_,rfl,rfl,b,_,rfl,st.box,by decide,by decide,fun r2 H2 r0 r1 st2=>?_⟩
  refine⟨_,_,rfl,rfl,⟨by decide,by decide,by decide⟩,_,_,rfl,rfl,_,_,rfl,rfl,q _ _ ?_ ?_ (st.trans st2)⟩
  ·have:(10:Int) ^ (60:Int).toNat=10 ^ 60:=rfl
   lia
  ·have:(10:Int) ^ (60:Int).toNat=10 ^ 60:=rfl
   have r1:r2<2*10 ^ 60-1:=r1
   lia
 ·refine⟨_,rfl,rfl,_,rfl,?_⟩
  refine ite2 (fun e=>?_) (fun e=>?_)
  ·refine⟨_,_,rfl,rfl,⟨by decide,by decide,by decide⟩,_,_,rfl,rfl,_,_,rfl,rfl,⟨by decide,by decide,by decide⟩,_,_,rfl,rfl,_,rfl,zl4,fun p hp=>?_⟩
   have st1:=st.trans (Step.new (o:=.lst [.int (10 ^ 60-1),.int (1-10 ^ 60),.int 0,.int (-1)]) st.box hp)
   refine⟨_,rfl,b,4,rfl,st1.box,by decide,by decide,fun r2 H2 r0 r1 st2=>?_⟩
   have hp2:H2 p=some (.lst [.int (10 ^ 60-1),.int (1-10 ^ 60),.int 0,.int (-1)]):=by
    obtain⟨a',f',m',e'⟩:=st.box
    exact st2.keep p _ (zh e' hp).symm zc
   have hcases:r2=0\/r2=1\/r2=2\/r2=3:=by lia
   rcases hcases with rfl|rfl|rfl|rfl
   ·exact⟨p,_,0,_,rfl,rfl,Sl hp2,rfl,q _ _ (by decide) (by decide) (st1.trans st2)⟩
   ·exact⟨p,_,1,_,rfl,rfl,Sl hp2,rfl,q _ _ (by decide) (by decide) (st1.trans st2)⟩
   ·exact⟨p,_,2,_,rfl,rfl,Sl hp2,rfl,q _ _ (by decide) (by decide) (st1.trans st2)⟩
   ·exact⟨p,_,3,_,rfl,rfl,Sl hp2,rfl,q _ _ (by decide) (by decide) (st1.trans st2)⟩
  ·refine⟨_,rfl,b,12,rfl,st.box,by decide,by decide,fun r2 H2 r0 r1 st2=>?_⟩
   exact⟨_,_,rfl,rfl,q _ _ (by have:(3:Int)<10 ^ 60:=(by decide);lia) (by have:(12:Int)<10 ^ 60:=(by decide);lia) (st.trans st2)⟩
def zeo(n:Nat):Sp:=fun vs H Q _=>∃(b:Addr)(room deep:Int),vs=[.ref b,.int room,.int deep]/\ZZ H b/\1<=room/\room<1000/\0<=deep/\deep<n /\
 ∀(v:V)(x:W)(H':Hp),RW H' v x->x.Ok->(x.depth:Int)<=deep->x.size<=16*room->Step b H H'->Q v H'
theorem zaU:FnScope ["_law_box_here","_law_room","_law_deep","_law_kind","_law_wide","_law_left","_law_found_here","_law_k","_law_share"] ["_law_box_here","_law_room","_law_deep"] (zg zjk):=mkSc rfl (by decide +kernel)
theorem zk3{n:Nat}(F:Fun K "_law_worth" "_law_worth" zjk f fd)(G_ltake:Have P w K mg base "_law_take" k ["_law_box_here","_law_wide"] zcZ)(G_ltext:Have P w K mg base "_law_text" k ["_law_box_here","_law_most"] zhb)
  (G_lnumber:Have P w K mg base "_law_number" k ["_law_box_here"] zek) (G_lworth:Have P w K mg base "_law_worth" k ["_law_box_here","_law_room","_law_deep"] (zeo n))
  (m_min:mg "min"=none) (m_range:mg "range"=none) (m_tuple:mg "tuple"=none):FnOk P w K mg base CX0 (k+1) f fd ["_law_box_here","_law_room","_law_deep"] (zeo (n+1)):=by
 refine F.ok zaU (by rintro _ _ _ _ ⟨_,_,_,rfl,_⟩;rfl) fun cdv A outer s H vs Q E hr h=>?_
 obtain⟨b,room,deep,rfl,hb,hr1,hr2,hd0,hd1,q⟩:=h
 refine⟨_,(zd (zx (i:=3) zaU.nd rfl (Or.inl rfl) (zq G_ltake hr rfl (za (pv 0) (za ze zb))))
  (zd (zD (ZX (zw Ze (pv 3) ze (nomark _)) (ZI (ze3 (zw Ze (pv 3) ze (nomark _)) (zcu (zw zf1 (pv 2) ze (nomark _)))).pt)).pt (zf (zj (zq G_lnumber hr rfl (za (pv 0) zb)))) zt)
  (zd (zD (zw Ze (pv 3) ze (nomark _)) (zf (zj (zq G_ltext hr rfl (za (pv 0) (za ze zb))))) zt)
  (zd (zx (i:=4) zaU.nd rfl (Or.inl rfl) (zq G_ltake hr rfl (za (pv 0) (za (zk (ziQ rfl) rfl m_min PyProof.Rows.boot_min (za (pv 1) (za ze zb))) zb))))
  (zd (zx (i:=5) zaU.nd rfl (Or.inl rfl) (zC ZJ (pv 1) ze))
  (zd (zx (i:=6) zaU.nd rfl (Or.inl rfl) (zS zb))
  (zd (za8 uV rfl (ZT rfl m_range (za (pv 4) zb)) (zX (i:=7) zaU.nd rfl (Or.inl rfl)) (zd (zx (i:=8) zaU.nd rfl (Or.inl rfl) (zC Zk ze (zq G_ltake hr rfl (za (pv 0) (za (zC ZJ (pv 5) (zC ZJ (zC ZJ (pv 4) ze) (pv 7))) zb)))))
  (zd (Zc (zcc uW uY uX zax (pv 6) (za (zq G_lworth hr rfl (za (pv 0) (za (pv 8) (za (zC ZJ (pv 2) ze) zb)))) zb)))
  (zf (zx (i:=5) zaU.nd rfl (Or.inl rfl) (zC ZJ (pv 5) (pv 8)))))))
  (zf (zj (zM ZY rfl m_tuple zF (za (pv 6) zb))))))))))),?_⟩
 refine⟨_,rfl,b,3,rfl,hb,by decide,by decide,fun kd H1 k0 k1 st=>?_⟩
 dsimp only[Zj]
 refine seqI (t:=tIfS _ _ _) (fun σ' H'=>σ'=[some (.ref b),some (.int room),some (.int deep),some (.int kd),none,none,none,none,none]/\Step b H H'/\(kd=1\/(kd=2/\1<=deep))) (fun σ' H2 h2=>?_) (fun rest=>?_)
 ·obtain⟨rfl,st2,hk⟩:=h2
  refine⟨_,rfl,rfl,_,rfl,?_⟩
  refine ite2 (fun e=>?_) (fun e=>?_)
  ·refine⟨_,rfl,b,15,rfl,st2.box,by decide,by decide,fun x H3 hx sx st3=>?_⟩
   refine q _ _ _ (.txt x) ⟨by lia,sx⟩ (by show ((0:Nat):Int)<=deep;lia) ?_ (st2.trans st3)
   show 1+(x.length:Int)<=16*room
   lia
  ·have e':¬V.int kd=V.int 1:=of_decide_eq_false (xK.mpr e)
   have hk2:kd=2/\1<=deep:=by
    rcases hk with hk|hk
    ·exact absurd (by rw[hk]) e'
    ·exact hk
   refine⟨_,rfl,_,rfl,room,61,rfl,b,_,rfl,st2.box,?_,?_,fun wide H3 w0 w1 st3=>?_⟩
   ·split<;>lia
   ·split<;>lia
   have w2:wide<room/\wide<61:=by
    revert w1
    split<;>intro w1<;>lia
   refine⟨_,rfl,_,_,rfl,rfl,zl0,fun l hl=>?_⟩
   have st4:=(st2.trans st3).trans (Step.new (o:=.lst []) st3.box hl)
   have lb:l≠b:=by
    obtain⟨a',f',m',e'⟩:=st3.box
    exact (zh e' hl).symm
   have hlH:H l=none:=by
    cases e:H l with
    |none=>rfl
    |some o=>
     have:=(st2.trans st3).keep l o lb e
     rw[hl] at this
     cases this
   refine⟨_,rfl,wide,rfl,by lia,by lia,ze5 (n:=wide.toNat) (fun i σ' H'=>∃(left:Int)(vs:List V)(ws:List W)(o1 o2:Option V),
     σ'=[some (.ref b),some (.int room),some (.int deep),some (.int kd),some (.int wide),some (.int left),some (.ref l),o1,o2]/\H' l=some (.lst vs)/\RWs H' vs ws/\ws.length=i/\Oks ws/\(depths ws:Int)<=deep-1 /\
     sizes ws<=16*(room-1-left)/\wide-i<=left/\Step b H H')
    ⟨room-1,[],[],none,none,rfl,zc,⟨rfl,fun i v w e=>by simp at e⟩,rfl,trivial,by show ((0:Nat):Int)<=deep-1;lia,by simp[sizes],by lia,st4⟩ (fun i σ' H' hi h=>?_) (fun σ' H' h=>?_)⟩
   ·obtain⟨left,vs,ws,o1,o2,rfl,hl',hrw,hlen,hok,hdp,hsz,hleft,st5⟩:=h
    have nn:=sizes_nn ws
    refine⟨_,rfl,_,rfl,_,rfl,_,_,rfl,rfl,_,rfl,_,_,rfl,rfl,_,_,rfl,rfl,b,_,rfl,st5.box,?_,?_,fun r H5 r0 r1 st6=>?_⟩
    ·lia
    ·have:(2000:Int)<10 ^ 61:=by decide
     lia
    have hl5:H5 l=some (.lst vs):=st6.keep l _ lb hl'
    refine⟨_,_,rfl,rfl,_,rfl,.inl ⟨rfl,_,Sl hl5⟩,_,rfl,_,rfl,_,rfl,_,_,rfl,rfl,b,_,_,rfl,st6.box,?_,?_,?_,?_,fun v x H6 rx okx dx sx st7=>?_⟩
    ·lia
    ·lia
    ·lia
    ·lia
    have hl6:H6 l=some (.lst vs):=st7.keep l _ lb hl5
    have hlv:vs.length<=61:=by have:=hrw.len;lia
    refine⟨l,vs,v,rfl,rfl,hl6,xS hlv (by decide),?_⟩
    refine⟨_,rfl,_,rfl,_,_,rfl,rfl,?_⟩
    have t6:Tups H' H6:=fun a us e=>(st7.tups st6.box) a us ((st6.tups st5.box) a us e)
    have t7:=zaH (o:=.lst (vs++[v])) hl6
    refine⟨_,vs++[v],ws++[x],_,_,rfl,zc,((hrw.mono t6).mono t7).snoc (rx.mono t7),?_,(zk0 _ _).mpr ⟨hok,okx⟩,?_,?_,?_,?_⟩
    ·rw[yE,hlen];rfl
    ·rw[zgh];lia
    ·rw[zhW];lia
    ·lia
    ·refine⟨?_,fun c o hc e=>?_⟩
     ·obtain⟨a',f',m',e'⟩:=st7.box
      exact⟨a',f',m',by rw[zm lb.symm];exact e'⟩
     ·rw[zm (zh e hlH)]
      exact (st5.trans (st6.trans st7)).keep c o hc e
   ·obtain⟨left,vs,ws,o1,o2,rfl,hl',hrw,hlen,hok,hdp,hsz,hleft,st5⟩:=h
    refine⟨_,rfl,l,vs,rfl,.inl ⟨Sl hl',fun t ht=>?_⟩⟩
    have t6:=zk1 (o:=.tup vs) ht
    refine q _ (.lst ws) _ (.lst zc hrw.len fun i v x a b=>(hrw.at' i v x a b).mono t6) ⟨by lia,hok⟩ ?_ ?_ (st5.trans (Step.new st5.box ht))
    ·show ((1+depths ws:Nat):Int)<=deep
     lia
    ·show 1+sizes ws<=16*room
     lia
 ·refine⟨_,rfl,rfl,_,rfl,?_⟩
  have fin:∀H2,Step b H H2->zek [.ref b] H2 Q E0:=fun H2 st2=>⟨b,rfl,st2.box,fun i H3 i0 i1 st3=>q _ (.num i) _ (.num i) ⟨i0,i1⟩ (by show ((0:Nat):Int)<=deep;lia) (by show (1:Int)<=16*room;lia) (st2.trans st3)⟩
  refine ite2 (fun e=>?_) (fun e=>?_)
  ·refine iteT ?_
   exact⟨_,rfl,fin H1 st⟩
  ·have e':¬V.int kd=V.int 0:=of_decide_eq_false (xK.mpr e)
   have kne:kd≠0:=fun z=>e' (by rw[z])
   refine⟨_,rfl,rfl,_,rfl,?_⟩
   refine ite2 (fun e2=>?_) (fun e2=>?_)
   ·have e2':V.int kd=V.int 2:=of_decide_eq_true e2
    have kd2:kd=2:=by injection e2'
    refine⟨_,rfl,_,_,rfl,rfl,_,rfl,?_⟩
    refine ite2 (fun e3=>?_) (fun e3=>?_)
    ·exact⟨_,rfl,fin H1 st⟩
    ·have e3':¬deep<1:=of_decide_eq_false (xK.mpr e3)
     exact rest _ _ ⟨rfl,st,.inr ⟨kd2,by lia⟩⟩
   ·have e2':¬V.int kd=V.int 2:=of_decide_eq_false (xK.mpr e2)
    have kne2:kd≠2:=fun z=>e2' (by rw[z])
    refine iteF ?_
    exact rest _ _ ⟨rfl,st,.inl (by lia)⟩
inductive T where
 |non
 |bl (b:Bool)
 |num (i:Int)
 |txt (x:Str)
 |tup (ts:List T)
 |lst
 |dic
mutual
noncomputable def T.size:T->Int
 |.txt x=>1+(x.length:Int)
 |.tup ts=>1+tsizes ts
 |_=>1
noncomputable def tsizes:List T->Int
 |[]=>0
 |t::r=>t.size+tsizes r
end
mutual
noncomputable def T.nodes:T->Nat
 |.tup ts=>1+tnodes ts
 |_=>1
noncomputable def tnodes:List T->Nat
 |[]=>0
 |t::r=>t.nodes+tnodes r
end
noncomputable def zcd(c:Nat):Bool:=decide (32<=c)&&(decide (c<=126)&&(decide (c≠34)&&decide (c≠37)))
def zbp(x:Str):Bool:=x.cps.toList.all zcd
def zdN(lv:Int):T->Bool
 |.num i=>decide (-(10 ^ 60)<i/\i<10 ^ 60)
 |.txt x=>decide (x.length<=400)&&zbp x
 |.tup ts=>decide (ts.length<=60)&&decide (0<lv)
 |_=>false
mutual
noncomputable def zc1:T->Int->Bool
 |.tup ts,lv=>decide (ts.length<=60)&&decide (0<lv)&&fitsA ts (lv-1)
 |.num i,_=>decide (-(10 ^ 60)<i/\i<10 ^ 60)
 |.txt x,_=>decide (x.length<=400)&&zbp x
 |.non,_=>false
 |.bl _,_=>false
 |.lst,_=>false
 |.dic,_=>false
noncomputable def fitsA:List T->Int->Bool
 |[],_=>true
 |t::r,lv=>zc1 t lv&&fitsA r lv
end
def Z0(t:T):Bool:=zc1 t 12&&decide (t.size<=1000)
mutual
def T.Sm:T->Prop
 |.txt x=>x.length<=100000
 |.tup ts=>ts.length<=100000/\Sms ts
 |_=>True
def Sms:List T->Prop
 |[]=>True
 |t::r=>t.Sm/\Sms r
end
mutual
theorem zfm:∀t:T,1<=t.size
 |.non=>by simp[T.size]
 |.bl _=>by simp[T.size]
 |.num _=>by simp[T.size]
 |.lst=>by simp[T.size]
 |.dic=>by simp[T.size]
 |.txt x=>by simp only[T.size];lia
 |.tup ts=>by have:=tsizes_nn ts;simp only[T.size];lia
theorem tsizes_nn:∀ts:List T,0<=tsizes ts
 |[]=>by simp[tsizes]
 |t::r=>by have h1:=zfm t;have h2:=tsizes_nn r;simp only[tsizes];lia
end
theorem zmV{ts:List T}(h:Sms ts):∀t∈ts,t.Sm:=by
 induction ts with
 |nil=>intro t ht;cases ht
 |cons x r ih=>
  intro t ht
  rcases yQ.mp ht with rfl|ht
  ·exact h.1
  ·exact ih h.2 t ht
inductive RT(H:Hp):V->T->Prop where
 |non:RT H .non .non
 |bl (b:Bool):RT H (.bl b) (.bl b)
 |num (i:Int):RT H (.int i) (.num i)
 |txt (x:Str):RT H (.str x) (.txt x)
 |tup {a:Addr}{vs:List V}{ts:List T}:H a=some (.tup vs)->vs.length=ts.length->(∀(i:Nat)(v:V)(t:T),vs[i]?=some v->ts[i]?=some t->RT H v t)->RT H (.ref a) (.tup ts)
 |lst {a:Addr}{vs:List V}:H a=some (.lst vs)->RT H (.ref a) .lst
 |dic {a:Addr}{kvs:List (Key×V)}:H a=some (.dK kvs)->RT H (.ref a) .dic
theorem RT.mono{H H':Hp}(s:Same H H'){v:V}{t:T}(h:RT H v t):RT H' v t:=by
 induction h with
 |non=>exact .non
 |bl b=>exact .bl b
 |num i=>exact .num i
 |txt x=>exact .txt x
 |tup e l _ ih=>exact .tup (s _ _ e) l ih
 |lst e=>exact .lst (s _ _ e)
 |dic e=>exact .dic (s _ _ e)
noncomputable def zl9:T->Bool
 |.num _=>true
 |_=>false
def zc2:Sp:=fun vs H Q _=>∃(v:V)(t:T),vs=[v]/\RT H v t/\Q (.bl (zl9 t)) H
def zhe:Sp:=fun vs H Q _=>∃c:Nat,vs=[.str ⟨#[c]⟩]/\Q (.bl (zcd c)) H
def zma:Sp:=fun vs H Q _=>∃(v:V)(t:T)(lv:Int),vs=[v,.int lv]/\RT H v t/\t.Sm/\∀H',Same H H'->Q (.bl (zdN lv t)) H'
noncomputable def ZP:T->Int
 |.txt x=>1+(x.length:Int)
 |_=>1
def zjn:Sp:=fun vs H Q _=>∃(v:V)(t:T),vs=[v]/\RT H v t/\t.Sm/\Q (.int (ZP t)) H
def zad:Sp:=fun vs H Q _=>∃(v:V)(t:T),vs=[v]/\RT H v t/\t.Sm/\∀H',Same H H'->Q (.bl (Z0 t)) H'
theorem zmb(a b:Nat):decide (([a]:List Nat)<[b])=decide (a<b):=by
 rw[xJ,decide_eq_true_iff,decide_eq_true_iff]
 constructor
 ·intro h
  rcases vP.mp h with h|⟨_,h⟩
  ·exact h
  ·exact absurd h (List.not_lt_nil _)
 ·exact fun h=>vP.mpr (.inl h)
theorem zk4:FnScope ["thing"] ["thing"] (zg zbh):=mkSc rfl (by decide +kernel)
theorem zk5(F:Fun K "is_number" "is_number" zbh f fd)(m_isi:mg "isinstance"=none)(m_int:mg "int"=none)(m_bool:mg "bool"=none):FnOk P w K mg base CX0 (k+1) f fd ["thing"] zc2:=by
 refine F.ok zk4 (by rintro _ _ _ _ ⟨_,_,rfl,_⟩;rfl) fun cdv A outer s H vs Q E hr h=>?_
 obtain⟨v,t,rfl,rt,q⟩:=h
 refine⟨_,(zf (zj (zU (zk zN rfl m_isi zJ (za (pv 0) (za (ZE rfl m_int zcJ) zb))) (zZ (znD (zk zN rfl m_isi zJ (za (pv 0) (za (ZE rfl m_bool zhV) zb)))))))),?_⟩
 cases rt with
 |non=>exact⟨_,rfl,_,_,_,_,rfl,.non,znW,_,rfl,iteF q⟩
 |bl b=>exact⟨_,rfl,_,_,_,_,rfl,.bl b,znV,_,rfl,iteT ⟨_,rfl,_,_,_,_,rfl,.bl b,zn0,_,rfl,q⟩⟩
 |num i=>exact⟨_,rfl,_,_,_,_,rfl,.int i,znT,_,rfl,iteT ⟨_,rfl,_,_,_,_,rfl,.int i,znZ,_,rfl,q⟩⟩
 |txt x=>exact⟨_,rfl,_,_,_,_,rfl,.str x,znU,_,rfl,iteF q⟩
 |tup e _ _=>exact⟨_,rfl,_,_,_,_,rfl,.tup e,znS,_,rfl,iteF q⟩
 |lst e=>exact⟨_,rfl,_,_,_,_,rfl,.lst e,znX,_,rfl,iteF q⟩
 |dic e=>exact⟨_,rfl,_,_,_,_,rfl,.dK e,znY,_,rfl,iteF q⟩
theorem zjo:FnScope ["sign"] ["sign"] (zg zcK):=mkSc rfl (by decide +kernel)
theorem zhX(c d:Nat):(!decide (V.str ⟨#[c]⟩=V.str ⟨#[d]⟩))=decide (c≠d):=by
 rw[xJ]
 simp
theorem zjp(F:Fun K "is_sign" "is_sign" zcK f fd)(m_ord:mg "ord"=none)(m_PERCENT:∃t,mg "PERCENT"=some (.int 37 t)):FnOk P w K mg base CX0 (k+1) f fd ["sign"] zhe:=by
 refine F.ok zjo (by rintro _ _ _ _ ⟨_,rfl,_⟩;rfl) fun cdv A outer s H vs Q E hr h=>?_
 obtain⟨c,rfl,q⟩:=h
 refine⟨_,(zf (zj (zU (zkJ zfj zfj zu (pv 0) zu) (zU (zE zcz (pv 0) zu (nomark _)) (zZ (zE zcz (zk (zkL) rfl m_ord zjc (za (pv 0) zb)) (Zq rfl m_PERCENT) (nomark _))))))),?_⟩
 have e32:(uI " ").cps.toList=[32]:=by decide +kernel
 have e126:(uI "~").cps.toList=[126]:=by decide +kernel
 have e34:uI "\""=⟨#[34]⟩:=by decide +kernel
 have l1:(!decide ((Str.mk #[c]).cps.toList<(uI " ").cps.toList))=decide (32<=c):=by rw[e32];show (!decide (([c]:List Nat)<[32]))=_;rw[zmb,xJ];simp
 have l2:(!decide ((uI "~").cps.toList<(Str.mk #[c]).cps.toList))=decide (c<=126):=by rw[e126];show (!decide (([126]:List Nat)<[c]))=_;rw[zmb,xJ];simp
 have l3:(!decide (V.str ⟨#[c]⟩=V.str (uI "\"")))=decide (c≠34):=by rw[e34];exact zhX c 34
 have l4:(!decide (V.int ((((Str.mk #[c]).cps.getD 0 0:Nat)):Int)=V.int 37))=decide (c≠37):=by
  show (!decide (V.int (c:Int)=V.int 37))=decide (c≠37)
  rw[xJ]
  simp
  lia
 refine⟨_,rfl,_,_,rfl,rfl,_,rfl,?_⟩
 have fin:∀b:Bool,zcd c=b->Q (.bl b) H:=fun b e=>by rw[←e];exact q
 refine ite2 (fun e=>?_) (fun e=>?_)
 ·have e1:decide (32<=c)=true:=by rw[←l1];exact e
  refine⟨_,_,rfl,rfl,_,rfl,?_⟩
  refine ite2 (fun e=>?_) (fun e=>?_)
  ·have e2:decide (c<=126)=true:=by rw[←l2];exact e
   refine⟨_,rfl,rfl,_,rfl,?_⟩
   refine ite2 (fun e=>?_) (fun e=>?_)
   ·have e3:decide (c≠34)=true:=by rw[←l3];exact e
    refine⟨_,rfl,_,rfl,rfl,rfl,fin _ ?_⟩
    rw[l4]
    unfold zcd
    rw[e1,e2,e3]
    rfl
   ·have e3:decide (c≠34)=false:=by rw[←l3];exact xK.mpr e
    refine fin _ ?_
    unfold zcd
    rw[e1,e2,e3]
    rfl
  ·have e2:decide (c<=126)=false:=by rw[←l2];exact xK.mpr e
   refine fin _ ?_
   unfold zcd
   rw[e1,e2]
   rfl
 ·have e1:decide (32<=c)=false:=by rw[←l1];exact xK.mpr e
  refine⟨_,rfl,iteF (fin _ ?_)⟩
  unfold zcd
  rw[e1]
  rfl
theorem zmW:FnScope ["thing","levels"] ["thing","levels"] (zg zaP):=mkSc rfl (by decide +kernel)
theorem all_map{α:Type}(p:α->Bool)(l:List α):(l.map p).all id=l.all p:=by rw[vL];rfl
theorem zmX(F:Fun K "fits_alone" "fits_alone" zaP f fd)(G_is_number:Have P w K mg base "is_number" k ["thing"] zc2)(G_is_sign:Have P w K mg base "is_sign" k ["sign"] zhe)
  (m_isi:mg "isinstance"=none) (m_str:mg "str"=none) (m_tuple:mg "tuple"=none) (m_len:mg "len"=none) (m_all:mg "all"=none) (m_abs:mg "abs"=none) (m_MOST_SIGNS:∃t,mg "MOST_SIGNS"=some (.int 400 t)) (m_MOST_ITEMS:∃t,mg "MOST_ITEMS"=some (.int 60 t)):
  FnOk P w K mg base CX0 (k+1) f fd ["thing","levels"] zma:=by
 refine F.ok zmW (by rintro _ _ _ _ ⟨_,_,_,rfl,_⟩;rfl) fun cdv A outer s H vs Q E hr h=>?_
 obtain⟨v,t,lv,rfl,rt,sm,q⟩:=h
 refine⟨_,(zd (zD (zG (zq G_is_number hr rfl (za (pv 0) zb))) (zf (zj (zE zf1 (zk (zkK) rfl m_abs zjd (za (pv 0) zb)) (zC zcx ze ze) (nomark _)))) zt)
  (zd (zD (zG (zk zN rfl m_isi zJ (za (pv 0) (za (ZE rfl m_str Zl) zb)))) (zf (zj (zU (zE zf2 (zk zB rfl m_len uO (za (pv 0) zb)) (Zq rfl m_MOST_SIGNS) (nomark _)) (zZ (zk (Zx rfl) rfl m_all zaO (za (zY [] [] rfl rfl (by decide +kernel) rfl (by decide +kernel) rfl (by decide +kernel) trivial rfl trivial (zha (pv 0)) (fun C s H fp=>⟨zW,(zq G_is_sign hr rfl (za (pv 0) zb))⟩)) zb)))))) zt)
  (zf (zj (zU (zk zN rfl m_isi zJ (za (pv 0) (za (ZE rfl m_tuple zF) zb))) (zU (zE zf2 (zk zB rfl m_len uO (za (pv 0) zb)) (Zq rfl m_MOST_ITEMS) (nomark _)) (zZ (zE zcA (pv 1) ze (nomark _))))))))),?_⟩
 have q0:∀b:Bool,zdN lv t=b->Q (.bl b) H:=fun b e=>by rw[←e];exact q H (Sr H)
 refine⟨_,rfl,v,t,rfl,rt,_,rfl,?_⟩
 cases rt with
 |non=>exact iteF ⟨_,rfl,_,_,_,_,rfl,.non,zlZ,_,rfl,iteF ⟨_,rfl,_,_,_,_,rfl,.non,zlV,_,rfl,iteF (q0 _ rfl)⟩⟩
 |bl b=>exact iteF ⟨_,rfl,_,_,_,_,rfl,.bl b,zlY,_,rfl,iteF ⟨_,rfl,_,_,_,_,rfl,.bl b,zlU,_,rfl,iteF (q0 _ rfl)⟩⟩
 |lst e=>exact iteF ⟨_,rfl,_,_,_,_,rfl,.lst e,zl5,_,rfl,iteF ⟨_,rfl,_,_,_,_,rfl,.lst e,zlW,_,rfl,iteF (q0 _ rfl)⟩⟩
 |dic e=>exact iteF ⟨_,rfl,_,_,_,_,rfl,.dK e,zl6,_,rfl,iteF ⟨_,rfl,_,_,_,_,rfl,.dK e,zlX,_,rfl,iteF (q0 _ rfl)⟩⟩
 |num i=>
  refine iteT ⟨_,rfl,i,rfl,_,_,rfl,rfl,⟨by decide,by decide,by decide⟩,_,_,rfl,rfl,q0 _ ?_⟩
  show decide (-(10 ^ 60)<i/\i<10 ^ 60)=decide ((if i<0 then -i else i)<10 ^ (60:Int).toNat)
  have e:(10:Int) ^ (60:Int).toNat=10 ^ 60:=rfl
  rw[e,xJ,decide_eq_true_iff,decide_eq_true_iff]
  constructor
  ·intro h
   split<;>lia
  ·split<;>intro h<;>lia
 |txt x=>
  refine iteF ⟨_,rfl,_,_,_,_,rfl,.str x,zaL,_,rfl,iteT ?_⟩
  have hx:x.length<=100000:=sm
  refine⟨_,rfl,_,_,rfl,⟨small (by lia),rfl⟩,_,_,rfl,rfl,_,rfl,?_⟩
  refine ite2 (fun e=>?_) (fun e=>?_)
  ·have e1:(x.length:Int)<=400:=of_decide_eq_true e
   dsimp only[tRet,tOp,tC,tCB,zbe,tNil]
   have hsz:x.cps.size=x.length:=rfl
   refine zja (x.cps.toList.map fun c=>V.bl (zcd c)) (by rfl) (by rw[yB];simp) (by rw[hsz];exact small (by lia)) (fun i c y H1 R hc hy s1 hR=>?_) (fun H1 D s1 hD=>?_)
   ·have hc':x.cps.toList[i]?=some c:=by simpa using hc
    rw[yK,hc'] at hy
    cases hy
    exact⟨_,rfl,c,rfl,hR _ (Sr _)⟩
   ·refine⟨D,x.cps.toList.map zcd,rfl,Sl ?_,?_⟩
    ·rw[zc,wB];rfl
    ·have:=q _ (s1.trans (Sn (o:=.lst (x.cps.toList.map fun c=>V.bl (zcd c))) hD))
     rw[all_map]
     have e3:zdN lv (.txt x)=x.cps.toList.all zcd:=by
      show (decide (x.length<=400)&&zbp x)=_
      rw[decide_eq_true (by lia)]
      rfl
     rw[←e3]
     exact this
  ·have e1:¬(x.length:Int)<=400:=of_decide_eq_false (xK.mpr e)
   refine q0 _ ?_
   show (decide (x.length<=400)&&zbp x)=_
   rw[decide_eq_false (by lia)]
   rfl
 | @tup a vs ts e l _=>
  refine iteF ⟨_,rfl,_,_,_,_,rfl,.tup e,zdL,_,rfl,iteF ?_⟩
  refine⟨_,rfl,_,_,_,_,rfl,.tup e,zay,_,rfl,iteT ?_⟩
  refine⟨_,rfl,_,_,rfl,.inr ⟨_,Sq e,rfl⟩,_,_,rfl,rfl,_,rfl,?_⟩
  refine ite2 (fun c=>?_) (fun c=>?_)
  ·have c1:(vs.length:Int)<=60:=of_decide_eq_true c
   refine⟨_,rfl,_,_,rfl,rfl,q0 _ ?_⟩
   show (decide (ts.length<=60)&&decide (0<lv))=_
   rw[decide_eq_true (by lia),vC]
  ·have c1:¬(vs.length:Int)<=60:=of_decide_eq_false (xK.mpr c)
   refine q0 _ ?_
   show (decide (ts.length<=60)&&decide (0<lv))=_
   rw[decide_eq_false (by lia),wS]
theorem zk6:FnScope ["worth"] ["worth"] (zg zje):=mkSc rfl (by decide +kernel)
theorem zk7(F:Fun K "size_alone" "size_alone" zje f fd)(m_isi:mg "isinstance"=none)(m_str:mg "str"=none)(m_len:mg "len"=none):FnOk P w K mg base CX0 (k+1) f fd ["worth"] zjn:=by
 refine F.ok zk6 (by rintro _ _ _ _ ⟨_,_,rfl,_⟩;rfl) fun cdv A outer s H vs Q E hr h=>?_
 obtain⟨v,t,rfl,rt,sm,q⟩:=h
 refine⟨_,zf (zj (Zp (zG (zk zN rfl m_isi zJ (za (pv 0) (za (ZE rfl m_str Zl) zb)))) (zC Zk ze (zk zB rfl m_len uO (za (pv 0) zb))) ze)),?_⟩
 cases rt with
 |non=>exact⟨_,rfl,_,_,_,_,rfl,.non,zlZ,_,rfl,iteF q⟩
 |bl b=>exact⟨_,rfl,_,_,_,_,rfl,.bl b,zlY,_,rfl,iteF q⟩
 |num i=>exact⟨_,rfl,_,_,_,_,rfl,.int i,zfl,_,rfl,iteF q⟩
 |lst e=>exact⟨_,rfl,_,_,_,_,rfl,.lst e,zl5,_,rfl,iteF q⟩
 |dic e=>exact⟨_,rfl,_,_,_,_,rfl,.dK e,zl6,_,rfl,iteF q⟩
 |tup e _ _=>exact⟨_,rfl,_,_,_,_,rfl,.tup e,zdL,_,rfl,iteF q⟩
 |txt x=>
  have hx:x.length<=100000:=sm
  refine⟨_,rfl,_,_,_,_,rfl,.str x,zaL,_,rfl,iteT ?_⟩
  exact⟨_,rfl,_,_,rfl,⟨small (by lia),rfl⟩,_,_,rfl,rfl,q⟩
structure StR(H0 H:Hp)(vs:List V)(ps:List (T×Int)):Prop where
 len:vs.length=ps.length
 at':∀(i:Nat)(v:V)(p:T×Int),vs[i]?=some v->ps[i]?=some p->∃(a:Addr)(u:V),v=.ref a/\H a=some (.tup [u,.int p.2])/\RT H0 u p.1
theorem StR.mono{H0 H H':Hp}(s:Tups H H'){vs:List V}{ps:List (T×Int)}(h:StR H0 H vs ps):StR H0 H' vs ps:=
 ⟨h.len,fun i v p e1 e2=>let ⟨a,u,x,y,z⟩:=h.at' i v p e1 e2;⟨a,u,x,s _ _ y,z⟩⟩
theorem StR.nil{H0 H:Hp}:StR H0 H [] []:=⟨rfl,fun i v p e=>by simp at e⟩
theorem StR.app{H0 H:Hp}{vs us:List V}{ps qs:List (T×Int)}(h:StR H0 H vs ps)(g:StR H0 H us qs):StR H0 H (vs++us) (ps++qs):=by
 refine⟨by rw[yE,yE,h.len,g.len],fun i v p e1 e2=>?_⟩
 by_cases hi:i<vs.length
 ·rw[yJ hi] at e1
  rw[yJ (h.len▸hi)] at e2
  exact h.at' i v p e1 e2
 ·rw[yL (by lia)] at e1
  rw[yL (by have:=h.len;lia)] at e2
  rw[h.len] at e1
  exact g.at' _ v p e1 e2
theorem StR.one{H0 H:Hp}{a:Addr}{u:V}{p:T×Int}(e:H a=some (.tup [u,.int p.2]))(r:RT H0 u p.1):StR H0 H [.ref a] [p]:=by
 refine⟨rfl,fun i v' p' e1 e2=>?_⟩
 cases i with
 |zero=>
  have q1:V.ref a=v':=by simpa using e1
  have q2:p=p':=by simpa using e2
  subst q1 q2
  exact⟨a,u,rfl,e,r⟩
 |succ j=>simp at e1
theorem StR.front{H0 H:Hp}{vs:List V}{ps:List (T×Int)}{v:V}{p:T×Int}(h:StR H0 H (vs++[v]) (ps++[p])):StR H0 H vs ps/\∃(a:Addr)(u:V),v=.ref a/\H a=some (.tup [u,.int p.2])/\RT H0 u p.1:=by
 have l:=h.len
 rw[yE,yE] at l
 have l':vs.length=ps.length:=by simpa using l
 refine⟨⟨l',fun i v' p' e1 e2=>?_⟩,?_⟩
 ·have h1:=(yC.mp e1).1
  exact h.at' i v' p' (by rw[yJ h1];exact e1) (by rw[yJ (l'▸h1)];exact e2)
 ·exact h.at' vs.length v p (by rw[yL (yF _)];simp) (by rw[l',yL (yF _)];simp)
theorem zaB{H H':Hp}(s:Same H H'):Tups H H':=fun a vs e=>s a _ e
theorem zbB{H H1:Hp}{l:Addr}{o:HO}(s:Same H H1)(hl:H l=none):Same H (upd H1 l o):=fun c u e=>by rw[zm (zh e hl)];exact s c u e
noncomputable def szs:List (T×Int)->Int
 |[]=>0
 |p::r=>p.1.size+szs r
noncomputable def nds:List (T×Int)->Nat
 |[]=>0
 |p::r=>p.1.nodes+nds r
def fts:List (T×Int)->Bool
 |[]=>true
 |p::r=>zc1 p.1 p.2&&fts r
theorem zjq(a b:List (T×Int)):szs (a++b)=szs a+szs b:=by
 induction a with
 |nil=>simp[szs]
 |cons p r ih=>simp only[xL,szs,ih];lia
theorem zjr(a b:List (T×Int)):nds (a++b)=nds a+nds b:=by
 induction a with
 |nil=>simp[nds]
 |cons p r ih=>simp only[xL,nds,ih];lia
theorem zjs(a b:List (T×Int)):fts (a++b)=(fts a&&fts b):=by
 induction a with
 |nil=>simp[fts]
 |cons p r ih=>simp only[xL,fts,ih,vT]
theorem zmc:∀ps:List (T×Int),0<=szs ps
 |[]=>by simp[szs]
 |p::r=>by have h1:=zfm p.1;have h2:=zmc r;simp only[szs];lia
theorem zmY(ts:List T)(lv:Int):szs (ts.map fun t=>(t,lv))=tsizes ts:=by
 induction ts with
 |nil=>rfl
 |cons t r ih=>simp only[xA,szs,tsizes,ih]
theorem zmZ(ts:List T)(lv:Int):nds (ts.map fun t=>(t,lv))=tnodes ts:=by
 induction ts with
 |nil=>rfl
 |cons t r ih=>simp only[xA,nds,tnodes,ih]
theorem zm0(ts:List T)(lv:Int):fts (ts.map fun t=>(t,lv))=fitsA ts lv:=by
 induction ts with
 |nil=>rfl
 |cons t r ih=>simp only[xA,fts,fitsA,ih]
def valB(ps:List (T×Int))(whole:Int):Bool:=fts ps&&decide (whole+szs ps<=1000)
theorem zhY{t:T}{lv:Int}(h:zdN lv t=false):zc1 t lv=false:=by
 cases t with
 |tup ts=>
  have h:(decide (ts.length<=60)&&decide (0<lv))=false:=h
  simp only[zc1,h,wS]
 |num i=>exact h
 |txt x=>exact h
 |non=>rfl
 |bl b=>rfl
 |lst=>rfl
 |dic=>rfl
theorem zhZ{t:T}{lv:Int}(h:zdN lv t=true)(hn:∀ts,t≠.tup ts):zc1 t lv=true/\t.size=ZP t:=by
 cases t with
 |tup ts=>exact absurd rfl (hn ts)
 |num i=>exact⟨h,rfl⟩
 |txt x=>exact⟨h,rfl⟩
 |non=>cases h
 |bl b=>cases h
 |lst=>cases h
 |dic=>cases h
theorem zh0(t:T):ZP t<=t.size/\1<=ZP t:=by
 cases t with
 |tup ts=>have:=tsizes_nn ts;simp only[ZP,T.size];lia
 |txt x=>simp only[ZP,T.size];lia
 |_=>simp[ZP,T.size]
theorem ZR:FnScope ["thing","waiting","whole","pair","item","levels"] ["thing"] (zg zbR):=mkSc rfl (by decide +kernel)
theorem zh1(F:Fun K "is_worth" "is_worth" zbR f fd)(G_fits_alone:Have P w K mg base "fits_alone" k ["thing","levels"] zma)(G_size_alone:Have P w K mg base "size_alone" k ["worth"] zjn)
  (m_isi:mg "isinstance"=none) (m_tuple:mg "tuple"=none) (m_len:mg "len"=none) (m_MOST_DEPTH:∃t,mg "MOST_DEPTH"=some (.int 12 t)) (m_MOST_SIZE:∃t,mg "MOST_SIZE"=some (.int 1000 t)):
  FnOk P w K mg base CX0 (k+1) f fd ["thing"] zad:=by
 refine F.ok ZR (by rintro _ _ _ _ ⟨_,_,rfl,_⟩;rfl) fun cdv A outer s H vs Q E hr h=>?_
 obtain⟨v,t,rfl,rt,sm,q⟩:=h
 refine⟨_,(zd (zx (i:=1) ZR.nd rfl (Or.inl rfl) (zS (za (zy (za (pv 0) (za (Zq rfl m_MOST_DEPTH) zb))) zb)))
  (zd (zx (i:=2) ZR.nd rfl (Or.inl rfl) ze)
  (zd (zbt uV (zw zcA (zk zB rfl m_len uO (za (pv 1) zb)) ze (nomark _)) (zd (zx (i:=3) ZR.nd rfl (Or.inl rfl) (zdK uW PySem.F.slot_list_pop PySem.F.type_list_pop zlT (pv 1)))
  (zd (zx (i:=4) ZR.nd rfl (Or.inl rfl) (zo zr (pv 3) ze (fun _ _=>rfl)))
  (zd (zx (i:=5) ZR.nd rfl (Or.inr rfl) (zo zr (pv 3) ze (fun _ _=>rfl)))
  (zd (zD (zT (zG (zq G_fits_alone hr rfl (za (pv 4) (za (pv 5) zb))))) (zf (zj zaj)) zt)
  (zd (ze4 (i:=2) ZR.nd rfl (Or.inl rfl) (zq G_size_alone hr rfl (za (pv 4) zb)) (znR ziJ))
  (zd (zD (zw zcA (pv 2) (Zq rfl m_MOST_SIZE) (nomark _)) (zf (zj zaj)) zt)
  (zf (zD (zG (zk zN rfl m_isi zJ (za (pv 4) (za (ZE rfl m_tuple zF) zb)))) (zf (Zc (zcc uW PySem.F.slot_list_extend PySem.F.type_list_extend zcE (pv 1) (za (zY [5] ["levels"] rfl rfl (by decide +kernel) rfl (by decide +kernel) rfl (by decide +kernel) ⟨rfl,trivial⟩ rfl ⟨⟨rfl,rfl,Or.inr (Or.inl rfl),(by show (some NameKind.cell:Option NameKind)≠some .local;decide),⟨_,rfl⟩⟩,trivial⟩ (zb6 (pv 4)) (fun C s H fp=>⟨zW,(zy (za (pv 0) (za (zC ZJ (pv 1) ze) zb)))⟩)) zb)))) zt)))))))))
  (zf (zj zaj))))),?_⟩
 refine⟨_,rfl,zl2,fun a ha=>?_⟩
 refine⟨zl1,fun l hl=>?_⟩
 have s1:Same H (upd (upd H a (.tup [v,.int 12])) l (.lst [.ref a])):=(Sn ha).trans (Sn hl)
 have hlH:H l=none:=by
  cases e:H l with
  |none=>rfl
  |some o=>have:=Sn (o:=.tup [v,.int 12]) ha l o e;rw[hl] at this;cases this
 have ea:upd (upd H a (.tup [v,.int 12])) l (.lst [.ref a]) a=some (.tup [v,.int 12]):=by rw[zm (zh zc hl)];exact zc
 have st0:StR H (upd (upd H a (.tup [v,.int 12])) l (.lst [.ref a])) [.ref a] [(t,12)]:=StR.one (p:=(t,12)) ea rt
 refine⟨fun m σ' H'=>∃(vs:List V)(ps:List (T×Int))(whole:Int)(o3 o4 o5:Option V),σ'=[some v,some (.ref l),some (.int whole),o3,o4,o5]/\H' l=some (.lst vs)/\StR H H' vs ps/\m=nds ps/\0<=whole/\whole<=1000 /\
   (vs.length:Int)<=60*whole+1/\(∀p∈ps,p.1.Sm)/\valB ps whole=Z0 t/\Same H H',
  ⟨_,[.ref a],[(t,12)],0,none,none,none,rfl,zc,st0,rfl,uF _,by decide,by simp,fun p hp=>by rw[yO.mp hp];exact sm,?_,s1⟩,fun m σ' H' hW=>?_⟩
 ·unfold valB Z0
  simp only[fts,szs,wG]
  congr 2
  rw[eq_iff_iff]
  constructor<;>intro h<;>lia
 obtain⟨vs,ps,whole,o3,o4,o5,rfl,hlv,hst,hm,hw0,hw1,hvl,hsm,hval,sH⟩:=hW
 refine⟨_,rfl,_,_,rfl,.inl ⟨_,Sl hlv,rfl⟩,_,_,rfl,rfl,_,rfl,?_⟩
 refine ite2 (fun c=>?_) (fun c=>?_)
 ·have c1:(0:Int)<vs.length:=of_decide_eq_true c
  refine⟨_,fun _ _ h=>h,?_⟩
  rcases wJ vs with rfl|⟨vs',vl,e⟩
  ·simp at c1
  rw[wK] at e
  subst e
  rcases wJ ps with rfl|⟨ps',p,e⟩
  ·have:=hst.len;simp at this
  rw[wK] at e
  subst e
  obtain⟨hst',ap,u,rfl,hap,rtu⟩:=hst.front
  have ed:(vs'++[V.ref ap]).dropLast=vs':=vU
  have smp:p.1.Sm:=hsm p (by simp)
  refine⟨_,rfl,.inl ⟨rfl,_,Sl hlv⟩,l,_,.ref ap,rfl,rfl,hlv,by simp,?_⟩
  rw[ed]
  have sH1:Same H (upd H' l (.lst vs')):=zbB sH hlH
  have hap1:upd H' l (.lst vs') ap=some (.tup [u,.int p.2]):=zaH hlv _ _ hap
  refine⟨_,rfl,ap,_,0,u,rfl,rfl,Sq hap1,rfl,?_⟩
  refine⟨_,rfl,ap,_,1,.int p.2,rfl,rfl,Sq hap1,rfl,?_⟩
  refine⟨_,rfl,_,rfl,u,p.1,p.2,rfl,rtu.mono sH1,smp,fun H2 s2=>⟨_,rfl,?_⟩⟩
  have vb:valB (ps'++[p]) whole=((fts ps'&&zc1 p.1 p.2)&&decide (whole+(szs ps'+p.1.size)<=1000)):=by
   unfold valB
   rw[zjs,zjq]
   simp only[fts,szs,wG]
   congr 2
   rw[eq_iff_iff]
   constructor<;>intro h<;>lia
  have hsn:=zmc ps'
  have hal:=zh0 p.1
  have sH2:=sH1.trans s2
  cases hal1:zdN p.2 p.1 with
  |false=>
   refine iteT ?_
   have:Z0 t=false:=by
    rw[←hval,vb,zhY hal1]
    simp
   have fin:=q _ sH2
   rw[this] at fin
   exact fin
  |true=>
   refine iteF ?_
   refine⟨_,rfl,_,rfl,u,p.1,rfl,rtu.mono sH2,smp,_,_,rfl,rfl,?_⟩
   refine⟨_,rfl,_,_,rfl,rfl,_,rfl,?_⟩
   refine ite2 (fun c2=>?_) (fun c2=>?_)
   ·have c3:(1000:Int)<whole+ZP p.1:=of_decide_eq_true c2
    have:Z0 t=false:=by
     rw[←hval,vb,decide_eq_false (by lia)]
     simp
    have fin:=q _ sH2
    rw[this] at fin
    exact fin
   ·have c3:¬(1000:Int)<whole+ZP p.1:=of_decide_eq_false (xK.mpr c2)
    have hl2:H2 l=some (.lst vs'):=s2 _ _ zc
    have hst2:StR H H2 vs' ps':=(hst'.mono (zaH hlv)).mono (zaB s2)
    have hvl':((vs'.length:Nat):Int)+1<=60*whole+1:=by
     rw[yE] at hvl
     have:([V.ref ap]:List V).length=1:=rfl
     lia
    have hnd:nds (ps'++[p])=nds ps'+p.1.nodes:=by rw[zjr];simp[nds]
    have hsm':∀p'∈ps',p'.1.Sm:=fun p' hp'=>hsm p' (wM _ hp')
    have leaf:∀(t':T),p.1=t'->(∀ts,t'≠.tup ts)->p.1.nodes=1->∃m',m'<m/\∃(vs:List V)(ps:List (T×Int))(whole':Int)(o3 o4 o5:Option V),[some v,some (.ref l),some (.int (whole+ZP p.1)),some (.ref ap),some u,some (.int p.2)]=[some v,some (.ref l),some (.int whole'),o3,o4,o5]/\H2 l=some (.lst vs)/\StR H H2 vs ps/\m'=nds ps/\0<=whole'/\whole'<=1000 /\
      (vs.length:Int)<=60*whole'+1/\(∀p∈ps,p.1.Sm)/\valB ps whole'=Z0 t/\Same H H2:=fun t' e hn hnode=>by
     obtain⟨hf,hz⟩:=zhZ hal1 (by rw[e];exact hn)
     refine⟨nds ps',by lia,vs',ps',whole+ZP p.1,_,_,_,rfl,hl2,hst2,rfl,by lia,by lia,by lia,hsm',?_,sH2⟩
     rw[←hval,vb,hf,hz]
     unfold valB
     rw[wG]
     congr 2
     rw[eq_iff_iff]
     constructor<;>intro h<;>lia
    obtain⟨tt,lv⟩:=p
    have rt2:RT H2 u tt:=rtu.mono sH2
    cases rt2 with
    |non=>exact⟨_,rfl,_,_,_,_,rfl,.non,zlV,_,rfl,iteF (leaf _ rfl (fun _ z=>nomatch z) rfl)⟩
    |bl b=>exact⟨_,rfl,_,_,_,_,rfl,.bl b,zlU,_,rfl,iteF (leaf _ rfl (fun _ z=>nomatch z) rfl)⟩
    |num i=>exact⟨_,rfl,_,_,_,_,rfl,.int i,zfk,_,rfl,iteF (leaf _ rfl (fun _ z=>nomatch z) rfl)⟩
    |txt x=>exact⟨_,rfl,_,_,_,_,rfl,.str x,zcI,_,rfl,iteF (leaf _ rfl (fun _ z=>nomatch z) rfl)⟩
    |lst e=>exact⟨_,rfl,_,_,_,_,rfl,.lst e,zlW,_,rfl,iteF (leaf _ rfl (fun _ z=>nomatch z) rfl)⟩
    |dic e=>exact⟨_,rfl,_,_,_,_,rfl,.dK e,zlX,_,rfl,iteF (leaf _ rfl (fun _ z=>nomatch z) rfl)⟩
    | @tup a2 us ts e2 l2 at2=>
     refine⟨_,rfl,_,_,_,_,rfl,.tup e2,zay,_,rfl,iteT ?_⟩
     have ha60:ts.length<=60:=by
      have h:(decide (ts.length<=60)&&decide (0<lv))=true:=hal1
      rw[yV] at h
      exact of_decide_eq_true h.1
     have hlv0:0<lv:=by
      have h:(decide (ts.length<=60)&&decide (0<lv))=true:=hal1
      rw[yV] at h
      exact of_decide_eq_true h.2
     refine⟨_,rfl,.inl ⟨rfl,_,Sl hl2⟩,?_⟩
     have at0:∀(i:Nat)(x:V)(t':T),us[i]?=some x->ts[i]?=some t'->RT H x t':=by
      cases rtu with
      | @tup a3 us3 ts3 e3 l3 at3=>
       have:us3=us:=by
        have h1:=sH2 _ _ e3
        rw[e2] at h1
        cases h1
        rfl
       subst this
       exact at3
     dsimp only[zbe,tNil]
     refine⟨_,rfl,a2,rfl,⟨us,Sq e2⟩,fun i m2 xs H3=>i<=us.length/\m2=us.length-i/\StR H H3 xs ((ts.take i).map fun t'=>(t',lv-1))/\Same H2 H3,⟨_,yN _,rfl,by simpa using StR.nil,Sr _⟩,fun i m2 xs H3 hW=>?_⟩
     obtain⟨hi,hm2,hxs,s3⟩:=hW
     have hxl:xs.length<=60:=by
      have:=hxs.len
      rw[yB,yU] at this
      lia
     refine⟨small (by lia),?_⟩
     have e3:=s3 _ _ e2
     by_cases hlt:i<us.length
     ·refine .inr ⟨⟨us,us[i],Sq e3,yA hlt⟩,fun y H4 hy=>?_⟩
      obtain⟨rfl,hy⟩:=hy
      have hy:=hy us (Sq e3)
      have hti:ts[i]?=some ts[i]:=yA (by lia)
      refine iteT ?_
      refine⟨_,rfl,_,rfl,_,_,rfl,rfl,zl2,fun a5 ha5=>?_⟩
      have s5:=Sn (o:=.tup [y,.int (lv-1)]) ha5
      refine⟨us.length-(i+1),by lia,by lia,rfl,?_,s3.trans s5⟩
      rw[ZU hti,wF]
      exact (hxs.mono (zaB s5)).app (StR.one (p:=(ts[i],lv-1)) zc (at0 i y ts[i] hy hti))
     ·have ei:i=us.length:=by lia
      refine .inl ⟨⟨us,Sq e3,by lia⟩,fun D hD=>?_⟩
      have et:ts.take i=ts:=xF (by lia)
      rw[et] at hxs
      have hl3:=s3 _ _ hl2
      have hl4:upd H3 D (.lst xs) l=some (.lst vs'):=by rw[zm (zh hl3 hD)];exact hl3
      refine⟨l,D,vs',xs,rfl,rfl,hl4,zc,?_,?_⟩
      ·have h60:vs'.length<=60001:=by lia
       exact small (by lia)
      ·have s4:=Sn (o:=.lst xs) hD
       have t5:=zaH (o:=.lst (vs'++xs)) hl4
       refine⟨nds ps'+tnodes ts,?_,vs'++xs,ps'++ts.map (fun t'=>(t',lv-1)),whole+1,_,_,_,rfl,zc,?_,?_,by lia,?_,?_,?_,?_,?_⟩
       ·have:(T.tup ts).nodes=1+tnodes ts:=rfl
        have h9:nds (ps'++[(T.tup ts,lv)])=nds ps'+(T.tup ts).nodes:=hnd
        lia
       ·exact ((((hst2.mono (zaB s3)).mono (zaB s4)).mono t5)).app ((hxs.mono (zaB s4)).mono t5)
       ·rw[zjr,zmZ]
       ·have:ZP (T.tup ts)=1:=rfl
        have c4:¬(1000:Int)<whole+ZP (T.tup ts):=c3
        lia
       ·rw[yE]
        lia
       ·intro p' hp'
        rcases xI.mp hp' with hp'|hp'
        ·exact hsm' p' hp'
        ·obtain⟨t',ht',rfl⟩:=wC.mp hp'
         exact zmV (show Sms ts from (show ts.length<=100000/\Sms ts from smp).2) t' ht'
       ·rw[←hval,vb]
        unfold valB
        rw[zjs,zm0,zjq,zmY]
        have f1:zc1 (T.tup ts) lv=fitsA ts (lv-1):=by
         show (decide (ts.length<=60)&&decide (0<lv)&&fitsA ts (lv-1))=_
         rw[decide_eq_true ha60,decide_eq_true hlv0]
         rfl
        have f2:(T.tup ts).size=1+tsizes ts:=rfl
        show _=((fts ps'&&zc1 (T.tup ts) lv)&&decide (whole+(szs ps'+(T.tup ts).size)<=1000))
        rw[f1,f2]
        congr 2
        rw[eq_iff_iff]
        constructor<;>intro h<;>lia
       ·exact zbB ((sH2.trans s3).trans s4) hlH
 ·have c1:¬(0:Int)<vs.length:=of_decide_eq_false (xK.mpr c)
  have hv0:vs=[]:=xC.mp (by lia)
  have hp0:ps=[]:=xC.mp (by rw[←hst.len,hv0];rfl)
  have:Z0 t=true:=by
   rw[←hval,hp0]
   unfold valB
   simp only[fts,szs,vC]
   exact decide_eq_true (by lia)
  have fin:=q _ sH
  rw[this] at fin
  exact fin
end
end D
namespace L2
open PySem PySem.Spec PyProof.Rows PySem.Builtin
section
variable{prog:Program}{w:World}{A:Around}{E:Value->Shared->Prop}{s:Shared}
end
theorem zk8{X:Cx}:OpR X (binaryOp .Add) (fun x y H Q=>∃(a b:Addr)(ys:List V),x=.ref a/\y=.ref b/\SqT X.K H a []/\SqT X.K H b ys/\Q (.ref b) H):=by
 intro zp s σ H x y v u Q I rx ry h
 obtain⟨a,b,ys,rfl,rfl,ha,hb,q⟩:=h
 cases rx
 cases ry
 obtain⟨its,r1,p1,_⟩:=I.tuple ha
 obtain⟨its2,r2,p2,_⟩:=I.tuple hb
 have e0:its=[]:=by cases r1;rfl
 subst e0
 obtain⟨⟨cls,dd,data,sl⟩,ho,hc,n,hd⟩:=id p1
 obtain⟨⟨cls2,dd2,data2,sl2⟩,ho2,hc2,n2,hd2⟩:=id p2
 simp only at hc hd hc2 hd2
 subst hc hd hc2 hd2
 exact concat_meets ⟨_,ho,rfl⟩ ⟨_,ho2,rfl⟩ noFill_tuple_add seq_tuple_add PySem.F.slot_tuple_add PySem.F.entry_tuple_add (PySem.F.args_tuple_add_2 _ _)
  (tuple_addW0 a b #[] its2.toArray n n2 dd dd2 sl sl2 rfl) ⟨ho,ho2,⟨.ref b,H,I,rfl,q⟩⟩
end L2
namespace L2
open PySem PySem.Spec PyProof.Rows
end L2
namespace D
open PySem L2
mutual
noncomputable def eqW:W->W->Bool
 |.num i,.num j=>i==j
 |.txt x,.txt y=>x==y
 |.lst ws,.lst zs=>eqWs ws zs
 |.num _,.txt _=>false
 |.num _,.lst _=>false
 |.txt _,.num _=>false
 |.txt _,.lst _=>false
 |.lst _,.num _=>false
 |.lst _,.txt _=>false
noncomputable def eqWs:List W->List W->Bool
 |[],[]=>true
 |w::r,z::s=>eqW w z&&eqWs r s
 |[],_::_=>false
 |_::_,[]=>false
end
mutual
theorem ZF:∀w:W,eqW w w=true
 |.num i=>by simp[eqW]
 |.txt x=>by simp[eqW]
 |.lst ws=>eqWs_refl ws
theorem eqWs_refl:∀ws:List W,eqWs ws ws=true
 |[]=>rfl
 |w::r=>by simp only[eqWs,ZF w,eqWs_refl r,vZ]
end
theorem zhf:∀ws zs:List W,eqWs ws zs=((xR (min ws.length zs.length)).all (fun j=>eqW (ws.getD j (.num 0)) (zs.getD j (.num 0)))&&ws.length==zs.length)
 |[],[]=>rfl
 |[],_::_=>rfl
 |_::_,[]=>rfl
 |w::r,z::s=>by
  rw[eqWs,zhf r s]
  have e:min (w::r).length (z::s).length=min r.length s.length+1:=by simp only[yG];lia
  rw[e,List.range_succ_eq_map,vB,vL]
  have e2:((w::r).length==(z::s).length)=(r.length==s.length):=by simp
  rw[e2,vT]
  rfl
theorem RW.inj{H:Hp}{v:V}{x:W}(h:RW H v x):∀{y:W},RW H v y->x=y:=by
 induction h with
 |num i=>intro y g;cases g;rfl
 |txt z=>intro y g;cases g;rfl
 | @lst a vs ws e l _ ih=>
  intro y g
  cases g with
  | @lst _ vs2 zs e2 l2 at2=>
   rw[e] at e2
   cases e2
   congr 1
   refine vF (by lia) fun i h1 h2=>?_
   exact ih i vs[i] ws[i] (yA (by lia)) (yA h1) (at2 i vs[i] zs[i] (yA (by lia)) (yA h2))
end D
namespace L2
open PySem PySem.Spec PyProof.Rows
theorem zaC:uT (uI "list")=some (.type "list"):=by kernel_rfl
end L2
namespace D
open PySem L2
mutual
def W.Th:W->Prop
 |.num _=>True
 |.txt x=>x.length<=100000/\Signs x
 |.lst ws=>ws.length<=1000/\Ths ws
def Ths:List W->Prop
 |[]=>True
 |w::r=>w.Th/\Ths r
end
mutual
theorem zbC:∀w:W,w.Ok->w.Th
 |.num _,_=>trivial
 |.txt _,h=>⟨yM h.1 (by decide),h.2⟩
 |.lst ws,h=>⟨yM h.1 (by decide),ths_of ws h.2⟩
theorem ths_of:∀ws:List W,Oks ws->Ths ws
 |[],_=>trivial
 |w::r,h=>⟨zbC w h.1,ths_of r h.2⟩
end
theorem zjt{ws:List W}(h:Ths ws):∀w∈ws,w.Th:=by
 induction ws with
 |nil=>intro w hw;cases hw
 |cons x r ih=>
  intro w hw
  rcases yQ.mp hw with rfl|hw
  ·exact h.1
  ·exact ih h.2 w hw
theorem zmd{ws:List W}(h:∀w∈ws,w.Th):Ths ws:=by
 induction ws with
 |nil=>trivial
 |cons x r ih=>exact⟨h x xG,ih fun w hw=>h w (yX _ hw)⟩
mutual
noncomputable def zdv:W->Bool
 |.num i=>decide (-(10 ^ 60)<i/\i<10 ^ 60)
 |.txt x=>decide (x.length<=400)
 |.lst ws=>decide (ws.length<=60)&&fitsWs ws
noncomputable def fitsWs:List W->Bool
 |[]=>true
 |w::r=>zdv w&&fitsWs r
end
mutual
noncomputable def W.toT:W->T
 |.num i=>.num i
 |.txt x=>.txt x
 |.lst ws=>.tup (toTs ws)
noncomputable def toTs:List W->List T
 |[]=>[]
 |w::r=>w.toT::toTs r
end
theorem zep:∀ws:List W,toTs ws=ws.map W.toT
 |[]=>rfl
 |w::r=>by simp only[toTs,xA,zep r]
theorem zeq(ws:List W):(toTs ws).length=ws.length:=by rw[zep,yB]
mutual
theorem zhg:∀w:W,w.toT.size=w.size
 |.num _=>rfl
 |.txt _=>rfl
 |.lst ws=>by simp only[W.toT,T.size,W.size,sizes_toT ws]
theorem sizes_toT:∀ws:List W,tsizes (toTs ws)=sizes ws
 |[]=>rfl
 |w::r=>by simp only[toTs,tsizes,sizes,zhg w,sizes_toT r]
end
mutual
theorem zfn:∀w:W,w.Th->w.toT.Sm
 |.num _,_=>trivial
 |.txt _,h=>h.1
 |.lst ws,h=>⟨by rw[zeq];exact yM h.1 (by decide),sms_toT ws h.2⟩
theorem sms_toT:∀ws:List W,Ths ws->Sms (toTs ws)
 |[],_=>trivial
 |w::r,h=>⟨zfn w h.1,sms_toT r h.2⟩
end
theorem zh2{x:Str}(h:Signs x):zbp x=true:=by
 unfold zbp
 rw[xQ]
 intro c hc
 have:=h c hc
 simp[zcd,this]
mutual
theorem zhh:∀(w:W)(lv:Nat),w.Th->zc1 w.toT (lv:Int)=(zdv w&&decide (w.depth<=lv))
 |.num i,lv,_=>by
  show decide (-(10 ^ 60)<i/\i<10 ^ 60)=(decide (-(10 ^ 60)<i/\i<10 ^ 60)&&decide (0<=lv))
  rw[decide_eq_true (yN lv),wG]
 |.txt x,lv,h=>by
  show (decide (x.length<=400)&&zbp x)=(decide (x.length<=400)&&decide (0<=lv))
  rw[zh2 h.2,decide_eq_true (yN lv)]
 |.lst ws,lv,h=>by
  show (decide ((toTs ws).length<=60)&&decide (0<(lv:Int))&&fitsA (toTs ws) ((lv:Int)-1))=((decide (ws.length<=60)&&fitsWs ws)&&decide (1+depths ws<=lv))
  rw[zeq]
  cases lv with
  |zero=>
   rw[decide_eq_false (show ¬(0:Int)<((0:Nat):Int) by lia),decide_eq_false (show ¬1+depths ws<=0 by lia)]
   simp
  |succ n=>
   have e:((n+1:Nat):Int)-1=(n:Int):=by lia
   rw[decide_eq_true (show (0:Int)<((n+1:Nat):Int) by lia),e,fits_toTs ws n h.2,wG,←vT]
   congr 2
   rw[eq_iff_iff]
   constructor<;>intro h<;>lia
theorem fits_toTs:∀(ws:List W)(lv:Nat),Ths ws->fitsA (toTs ws) (lv:Int)=(fitsWs ws&&decide (depths ws<=lv))
 |[],lv,_=>by
  show true=(true&&decide (0<=lv))
  rw[decide_eq_true (yN lv)]
  rfl
 |w::r,lv,h=>by
  show (zc1 w.toT lv&&fitsA (toTs r) lv)=((zdv w&&fitsWs r)&&decide (max w.depth (depths r)<=lv))
  rw[zhh w lv h.1,fits_toTs r lv h.2]
  have e:decide (max w.depth (depths r)<=lv)=(decide (w.depth<=lv)&&decide (depths r<=lv)):=by
   rw[xJ,yV,decide_eq_true_iff,decide_eq_true_iff,decide_eq_true_iff]
   lia
  rw[e]
  cases zdv w<;>cases fitsWs r<;>cases decide (w.depth<=lv)<;>cases decide (depths r<=lv)<;>rfl
end
def zgi(x:W):Bool:=zdv x&&(decide (x.size<=1000)&&decide ((x.depth:Int)<=12))
theorem zaI{x:W}(h:x.Th):Z0 x.toT=zgi x:=by
 unfold Z0 zgi
 have:=zhh x 12 h
 rw[show (12:Int)=((12:Nat):Int) from rfl,this,zhg]
 have e:decide ((x.depth:Int)<=((12:Nat):Int))=decide (x.depth<=12):=by
  rw[xJ,decide_eq_true_iff,decide_eq_true_iff]
  lia
 rw[e]
 cases zdv x<;>cases decide (x.depth<=12)<;>cases decide (x.size<=1000)<;>rfl
theorem RW.toRT{H:Hp}{v:V}{x:W}(h:RW H v x):RT H v x.toT:=by
 induction h with
 |num i=>exact .num i
 |txt x=>exact .txt x
 | @lst a vs ws e l _ ih=>
  refine .tup e (by rw[zeq];exact l) fun i v t hv ht=>?_
  rw[zep,yK] at ht
  obtain⟨w,hw,rfl⟩:=yW.mp ht
  exact ih i v w hv hw
inductive RS(K:uZ)(H:Hp):V->W->Prop where
 |num (i:Int):RS K H (.int i) (.num i)
 |txt (x:Str):RS K H (.str x) (.txt x)
 |lst {a:Addr}{vs:List V}{ws:List W}:SqT K H a vs->vs.length=ws.length->(∀(i:Nat)(v:V)(w:W),vs[i]?=some v->ws[i]?=some w->RS K H v w)->RS K H (.ref a) (.lst ws)
theorem RS.mono{K:uZ}{H H':Hp}(t:Same H H'){v:V}{w:W}(h:RS K H v w):RS K H' v w:=by
 induction h with
 |num i=>exact .num i
 |txt x=>exact .txt x
 |lst e l _ ih=>exact .lst (t.seqT e) l ih
theorem RW.toRS{K:uZ}{H:Hp}{v:V}{w:W}(h:RW H v w):RS K H v w:=by
 induction h with
 |num i=>exact .num i
 |txt x=>exact .txt x
 |lst e l _ ih=>exact .lst (Sq e) l ih
theorem zi{H H':Hp}(s:Same H H'):Tups H H':=fun a vs e=>s a _ e
theorem Step.ofSame{b:Addr}{H H':Hp}(hb:ZZ H b)(s:Same H H'):Step b H H':=⟨by obtain⟨x,y,z,e⟩:=hb;exact⟨x,y,z,s _ _ e⟩,fun c o _ e=>s c o e⟩
noncomputable def zn5:W:=.lst [.txt "wrong",.txt "great",.txt ""]
def zak(x:W):W:=if zgi x=true then .lst [.txt "made",x] else zn5
def RM(K:uZ)(H:Hp)(v:V)(w:W):Prop:=RS K H v w/\∀m x,w=.lst [m,x]->∃a u,v=.ref a/\SqT K H a [.str "made",u]/\RW H u x
def zaV(K:uZ)(n:Nat):Sp:=fun vs H Q _=>∃(v:V)(x:W),vs=[v]/\RW H v x/\x.Th/\x.depth<n/\∀(u:V)(H':Hp),Same H H'->RM K H' u (zak x)->Q u H'
theorem RS.two{K:uZ}{H:Hp}{a:Addr}{u1 u2:V}{w1 w2:W}(e:SqT K H a [u1,u2])(r1:RS K H u1 w1)(r2:RS K H u2 w2):RS K H (.ref a) (.lst [w1,w2]):=
 .lst e rfl fun i v w hv hw=>match i,hv,hw with
  |0,hv,hw=>by
   have a1:u1=v:=by simpa using hv
   have a2:w1=w:=by simpa using hw
   rw[←a1,←a2];exact r1
  |1,hv,hw=>by
   have a1:u2=v:=by simpa using hv
   have a2:w2=w:=by simpa using hw
   rw[←a1,←a2];exact r2
  |j+2,hv,hw=>by simp at hv
theorem RS.three{K:uZ}{H:Hp}{a:Addr}{u1 u2 u3:V}{w1 w2 w3:W}(e:SqT K H a [u1,u2,u3])(r1:RS K H u1 w1)(r2:RS K H u2 w2)(r3:RS K H u3 w3):RS K H (.ref a) (.lst [w1,w2,w3]):=
 .lst e rfl fun i v w hv hw=>match i,hv,hw with
  |0,hv,hw=>by
   have a1:u1=v:=by simpa using hv
   have a2:w1=w:=by simpa using hw
   rw[←a1,←a2];exact r1
  |1,hv,hw=>by
   have a1:u2=v:=by simpa using hv
   have a2:w2=w:=by simpa using hw
   rw[←a1,←a2];exact r2
  |2,hv,hw=>by
   have a1:u3=v:=by simpa using hv
   have a2:w3=w:=by simpa using hw
   rw[←a1,←a2];exact r3
  |j+3,hv,hw=>by simp at hv
theorem RM.three{K:uZ}{H:Hp}{a:Addr}{u1 u2 u3:V}{w1 w2 w3:W}(e:SqT K H a [u1,u2,u3])(r1:RS K H u1 w1)(r2:RS K H u2 w2)(r3:RS K H u3 w3):RM K H (.ref a) (.lst [w1,w2,w3]):=
 ⟨RS.three e r1 r2 r3,fun m x h=>by simp at h⟩
theorem RM.two{K:uZ}{H:Hp}{a:Addr}{u2:V}{w2:W}(e:SqT K H a [.str "made",u2])(r1:RS K H (.str "made") (.txt "made"))(r2:RW H u2 w2):RM K H (.ref a) (.lst [.txt "made",w2]):=
 ⟨RS.two e r1 r2.toRS,fun m x h=>by
  have e2:w2=x:=by simpa using (show _/\w2=x by simpa using h).2
  subst e2
  exact⟨a,u2,rfl,e,r2⟩⟩
section
variable{P:Program}{w:World}{K:uZ}{mg:Str->Option Value}{base:Heap}{f:Addr}{fd:tD}{k n:Nat}{ARun ATask:Addr}
theorem zm1:FnScope ["thing"] ["thing"] (zg zjg):=mkSc rfl (by decide +kernel)
theorem zm2{n:Nat}{g:Addr}(F:Fun K "made" "made" zjg f fd)(G_is_worth:Have P w K mg base "is_worth" k ["thing"] zad)
  (m_GREAT:mg "GREAT"=some (.ref g)) (hg:∀H:Hp,SqT K H g [.str "wrong",.str "great",.str ""]):FnOk P w K mg base CX0 (k+1) f fd ["thing"] (zaV K n):=by
 refine F.ok zm1 (by rintro _ _ _ _ ⟨_,_,rfl,_⟩;rfl) fun cdv A outer s H vs Q E hr h=>?_
 obtain⟨v,x,rfl,rw,hth,hn,q⟩:=h
 refine⟨_,(zf (zj (Zp (zG (zq G_is_worth hr rfl (za (pv 0) zb))) (zy (za zu (za (pv 0) zb))) (zQ (v:=.ref g) rfl m_GREAT rfl)))),?_⟩
 refine⟨_,rfl,v,x.toT,rfl,rw.toRT,zfn x hth,fun H1 s1=>⟨_,rfl,?_⟩⟩
 rw[zaI hth]
 cases hgd:zgi x with
 |true=>
  refine iteT ⟨_,rfl,zl2,fun a ha=>?_⟩
  have s2:=Sn (o:=.tup [.str "made",v]) ha
  refine q _ _ (s1.trans s2) ?_
  unfold zak
  rw[if_pos hgd]
  exact RM.two (Sq zc) (.txt _) (rw.mono (zi (s1.trans s2)))
 |false=>
  refine iteF (q _ _ s1 ?_)
  unfold zak
  rw[if_neg (by rw[hgd];decide)]
  exact RM.three (hg H1) (.txt _) (.txt _) (.txt _)
end
end D
namespace L2
open PySem PySem.Spec PyProof.Rows
section
variable{prog:Program}{w:World}{A:Around}{E:Value->Shared->Prop}{s:Shared}
open HT in
end
end L2
namespace D
open PySem L2
theorem zh3{H:Hp}{ws zs:List W}{its its2:List Value}{vs us:List V}(r1:Vals vs its)(r2:Vals us its2)(l1:vs.length=ws.length)(l2:us.length=zs.length):
  ((xR (min its.toArray.size its2.toArray.size)).all (fun j=>eqW (ws.getD j (.num 0)) (zs.getD j (.num 0)))&&its.toArray.size==its2.toArray.size)=eqW (.lst ws) (.lst zs):=by
 have e1:its.toArray.size=ws.length:=by rw[yD,←r1.length,l1]
 have e2:its2.toArray.size=zs.length:=by rw[yD,←r2.length,l2]
 rw[e1,e2]
 exact (zhf ws zs).symm
theorem zn6{X:Cx}{zp:List (Addr×Obj)}{σ:St}{H:Hp}{s:Shared}(I:Inv X zp σ H s):∀(n:Nat)(A:Around)(x y:W)(u v:V)(U V':Value),x.depth<n->RW H u x->RW H v y->RelV u U->RelV v V'->A.units+n+2<cLine->
  SeqAt.EqAt A s U V' (eqW x y):=by
 intro n
 induction n with
 |zero=>intro A x y u v U V' h;lia
 |succ n ih=>
  intro A x y u v U V' hd rx ry r1 r2 hu
  have hu0:A.units<cLine:=by lia
  cases rx with
  |num i=>
   obtain⟨t,rfl⟩:=r1
   cases ry with
   |num j=>obtain⟨t2,rfl⟩:=r2;exact SeqAt.EqAt.int_int i t j t2
   |txt z=>obtain⟨t2,rfl⟩:=r2;exact SeqAt.EqAt.int_str i t z t2
   |lst e _ _=>
    cases r2
    obtain⟨its,_,p,_⟩:=I.tuple (Sq e)
    exact SeqAt.EqAt.int_tuple i t p hu0
  |txt z=>
   obtain⟨t,rfl⟩:=r1
   cases ry with
   |num j=>obtain⟨t2,rfl⟩:=r2;exact SeqAt.EqAt.str_int z t j t2
   |txt z2=>obtain⟨t2,rfl⟩:=r2;exact SeqAt.EqAt.str_str z t z2 t2
   |lst e _ _=>
    cases r2
    obtain⟨its,_,p,_⟩:=I.tuple (Sq e)
    exact SeqAt.EqAt.str_tuple z t p hu0
  | @lst a vs ws e l at1=>
   cases r1
   obtain⟨its,rv,p,_⟩:=I.tuple (Sq e)
   cases ry with
   |num j=>obtain⟨t2,rfl⟩:=r2;exact SeqAt.EqAt.tuple_int j t2 p hu0
   |txt z2=>obtain⟨t2,rfl⟩:=r2;exact SeqAt.EqAt.tuple_str z2 t2 p hu0
   | @lst b us zs e2 l2 at2=>
    cases r2
    obtain⟨its2,rv2,p2,_⟩:=I.tuple (Sq e2)
    by_cases hab:a=b
    ·subst hab
     have:W.lst ws=W.lst zs:=RW.inj (.lst e l at1) (.lst e2 l2 at2)
     rw[this,ZF]
     exact SeqAt.EqAt.same _
    ·rw[←zh3 (H:=H) rv rv2 l l2]
     refine SeqAt.EqAt.of_refs hab (SeqAt.RcAt.tuples p p2 hu0 fun j h1 h2=>?_)
     have j1:j<its.length:=by simpa using h1
     have j2:j<its2.length:=by simpa using h2
     have k1:j<vs.length:=by rw[rv.length];exact j1
     have k2:j<us.length:=by rw[rv2.length];exact j2
     have m1:j<ws.length:=by lia
     have m2:j<zs.length:=by lia
     obtain⟨U1,hU1,rU1⟩:=rv.get (yA k1)
     obtain⟨U2,hU2,rU2⟩:=rv2.get (yA k2)
     have f1:its.toArray[j]=U1:=by have:=(yC.mp hU1).2;simpa using this
     have f2:its2.toArray[j]=U2:=by have:=(yC.mp hU2).2;simpa using this
     rw[f1,f2]
     have g1:ws.getD j (.num 0)=ws[j]:=by rw[yR,yA m1];rfl
     have g2:zs.getD j (.num 0)=zs[j]:=by rw[yR,yA m2];rfl
     rw[g1,g2]
     have hdj:=zaz ws[j] (yY m1)
     have hd':1+depths ws<n+1:=hd
     have hu1:A.in1.units=A.units+1:=rfl
     exact ih A.in1 ws[j] zs[j] vs[j] us[j] U1 U2 (by lia) (at1 j _ _ (yA k1) (yA m1)) (at2 j _ _ (yA k2) (yA m2)) rU1 rU2 (by lia)
theorem zme{X:Cx}(hu:X.A.units+64<cLine):OpR X (uU .Eq) (fun x y H Q=>∃wx wy:W,RW H x wx/\RW H y wy/\wx.depth<50/\Q (.bl (eqW wx wy)) H):=by
 intro zp s σ H x y v u Q I rx ry h
 obtain⟨wx,wy,hx,hy,hd,q⟩:=h
 have hu0:X.A.units<cLine:=by lia
 have fin:EP X zp σ Q (.bool (eqW wx wy)) s:=⟨.bl _,H,I,rfl,q⟩
 cases hx with
 |num i=>
  obtain⟨t,rfl⟩:=rx
  cases hy with
  |num j=>obtain⟨t2,rfl⟩:=ry;exact SeqAt.RcAt.int_int i t j t2 _ _ _ _ fin
  |txt z=>obtain⟨t2,rfl⟩:=ry;exact SeqAt.RcAt.int_str i t z t2 _ _ _ _ fin
  |lst e _ _=>
   cases ry
   obtain⟨its,_,p,_⟩:=I.tuple (Sq e)
   exact SeqAt.RcAt.int_tuple i t p hu0 _ _ _ _ fin
 |txt z=>
  obtain⟨t,rfl⟩:=rx
  cases hy with
  |num j=>obtain⟨t2,rfl⟩:=ry;exact SeqAt.RcAt.str_int z t j t2 _ _ _ _ fin
  |txt z2=>obtain⟨t2,rfl⟩:=ry;exact SeqAt.RcAt.str_str z t z2 t2 _ _ _ _ fin
  |lst e _ _=>
   cases ry
   obtain⟨its,_,p,_⟩:=I.tuple (Sq e)
   exact SeqAt.RcAt.str_tuple z t p hu0 _ _ _ _ fin
 | @lst a vs ws e l at1=>
  cases rx
  obtain⟨its,rv,p,_⟩:=I.tuple (Sq e)
  cases hy with
  |num j=>obtain⟨t2,rfl⟩:=ry;exact SeqAt.RcAt.tuple_int j t2 p hu0 _ _ _ _ fin
  |txt z2=>obtain⟨t2,rfl⟩:=ry;exact SeqAt.RcAt.tuple_str z2 t2 p hu0 _ _ _ _ fin
  | @lst b us zs e2 l2 at2=>
   cases ry
   obtain⟨its2,rv2,p2,_⟩:=I.tuple (Sq e2)
   rw[←zh3 (H:=H) rv rv2 l l2] at fin
   refine SeqAt.RcAt.tuples p p2 hu0 (fun j h1 h2=>?_) _ _ _ _ fin
   have j1:j<its.length:=by simpa using h1
   have j2:j<its2.length:=by simpa using h2
   have k1:j<vs.length:=by rw[rv.length];exact j1
   have k2:j<us.length:=by rw[rv2.length];exact j2
   have m1:j<ws.length:=by lia
   have m2:j<zs.length:=by lia
   obtain⟨U1,hU1,rU1⟩:=rv.get (yA k1)
   obtain⟨U2,hU2,rU2⟩:=rv2.get (yA k2)
   have f1:its.toArray[j]=U1:=by have:=(yC.mp hU1).2;simpa using this
   have f2:its2.toArray[j]=U2:=by have:=(yC.mp hU2).2;simpa using this
   rw[f1,f2]
   have g1:ws.getD j (.num 0)=ws[j]:=by rw[yR,yA m1];rfl
   have g2:zs.getD j (.num 0)=zs[j]:=by rw[yR,yA m2];rfl
   rw[g1,g2]
   have hdj:=zaz ws[j] (yY m1)
   have hd':1+depths ws<50:=hd
   have hu1:X.A.in1.units=X.A.units+1:=rfl
   exact zn6 I 50 X.A.in1 ws[j] zs[j] vs[j] us[j] U1 U2 (by lia) (at1 j _ _ (yA k1) (yA m1)) (at2 j _ _ (yA k2) (yA m2)) rU1 rU2 (by lia)
end D
namespace L2
open PySem PySem.Spec PyProof.Rows
structure QSs(X:Cx)(st:List Stmt)(t:TS):Prop where
 un:PSs X st t
structure QIfs(X:Cx)(ifs:List Expr)(t:TT):Prop where
 un:PIfs X ifs t
structure QGs(X:Cx)(ts:List Expr)(t:TGs):Prop where
 un:PGs X ts t
structure QE(X:Cx)(e:Expr)(t:TE):Prop where
 un:PE X e t
structure QT(X:Cx)(e:Expr)(t:TT):Prop where
 un:PT X e t
structure QW(X:Cx)(e:Expr)(t:TT):Prop where
 un:PW X e t
structure QA(X:Cx)(es:List Expr)(t:TA):Prop where
 un:PA X es t
structure QS(X:Cx)(st:Stmt)(t:TS):Prop where
 un:PS X st t
structure QI(X:Cx)(tg iter:Expr)(wi:TI):Prop where
 un:PI X tg iter wi
structure QG(X:Cx)(tg:Expr)(t:TG):Prop where
 un:PG X tg t
structure QO(X:Cx)(e:Option Expr)(t:TO):Prop where
 un:PO X e t
structure QC(X:Cx)(op:CmpOp)(a b:Expr)(t:TE):Prop where
 un:PC X op a b t
theorem Fun.okQ{P:Program}{w:World}{K:uZ}{mg:Str->Option Value}{base:Heap}{x qual:Str}{st:Stmt}{f:Addr}{fd:tD}{N ps:List Str}{k:Nat}{sp:Sp}(F:Fun K x qual st f fd)(sc:FnScope N ps (zg st))(h1:∀(vs:List V) (H:Hp) (Q:VK) (E:XK),sp vs H Q E->vs.length=ps.length)
  (h2:∀(cdv:Value)(A:Around)(outer:List Env)(s:Shared)(H:Hp)(vs:List V)(Q:VK)(E:XK),Room k (A.deeper (PyProof.Rows.envOfC qual (zg st) s.heap.objs.size f cdv))->sp vs H Q E->
   ∃t:TS,QSs (cxOf CX0 P w K mg base N qual (zg st) f cdv A outer s H E).nox (zP st) t/\t {nx:=fun _ H'=>Q V.non H',rt:=Q} (L2.start N vs) H):FnOk P w K mg base CX0 (k+1) f fd ps sp:=
 F.ok sc h1 fun cdv A outer s H vs Q E hr h=>let ⟨t,a,b⟩:=h2 cdv A outer s H vs Q E hr h;⟨t,a.un,b⟩
theorem zer{X:Cx}{x:Str}{z:Str}{pos:Pos}(hg:Gl X x)(hm:∃t,X.mg x=some (.str z t))(hd:(x==("__debug__":Str))=false:=by decide):PE X (.Name x pos) (tC (.str z)):=by
 obtain⟨t,hm⟩:=hm
 exact zQ hg hm ⟨t,rfl⟩ hd
end L2
namespace D
open PySem L2
theorem zt{X:Cx}:QSs X [] zhJ:=⟨L2.zt ⟩
theorem zd{X:Cx}{st:Stmt}{rest:List Stmt}{t u:TS}(h0:QS X st t)(h1:QSs X rest u):QSs X (st::rest) (tSeq t u):=⟨L2.zd h0.un h1.un⟩
theorem zf{X:Cx}{st:Stmt}{t:TS}(h0:QS X st t):QSs X [st] t:=⟨L2.zf h0.un⟩
theorem zj{X:Cx}{e:Expr}{te:TE}{pos:Pos}(h0:QE X e te):QS X (Stmt.Return (some e) pos) (tRet te):=⟨L2.zj h0.un⟩
theorem zD{X:Cx}{t u:TS}{pos:Pos}{c:Expr}{a b:List Stmt}{tc:TT}(h0:QT X c tc)(h1:QSs X a t)(h2:QSs X b u):QS X (Stmt.If c a b pos) (tIfS tc t u):=⟨L2.zD h0.un h1.un h2.un⟩
theorem zx{X:Cx}{pos:Pos}{i:Nat}{x:Str}{e:Expr}{te:TE}{pos':Pos}(h0:X.N.Nodup)(h1:X.N[i]?=some x)(h2:L2.Loc X.env.scope x)(h3:QE X e te)(h4:autoParam (swapsWith e (some (Expr.Name x pos')) pos.line X.env=pure false) L2.zx._auto_1)(h5:autoParam (X.fn x=true\/xN x X.env.scope.names=some NameKind.local) L2.zx._auto_2):QS X (Stmt.Assign [Expr.Name x pos'] e pos) (tAsg te (Zj i)):=⟨L2.zx h0 h1 h2 h3.un h4 h5⟩
theorem zau{X:Cx}{pos:Pos}{tg e:Expr}{te:TE}{g:TG}(h0:QE X e te)(h1:QG X tg g)(h2:autoParam (swapsWithSole [tg] e pos.line X.env=pure false) L2.zau._auto_1)(h3:autoParam (swappedStores [tg] e X.env=pure none) L2.zau._auto_2)(h4:autoParam (List.map (fun (x:Bool×(Value->Sem Unit))=>x.snd) (assignEach [tg] X.env)=[assign tg X.env]) L2.zau._auto_3):QS X (Stmt.Assign [tg] e pos) (tAsg te g):=⟨L2.zau h0.un h1.un h2 h3 h4⟩
theorem Zc{X:Cx}{e:Expr}{te:TE}{pos:Pos}(h0:QE X e te)(h1:autoParam (swapsWith e none pos.line X.env=pure false) L2.Zc._auto_1):QS X (Stmt.Expr e pos) (znE te):=⟨L2.Zc h0.un h1⟩
theorem za8{X:Cx}{tg iter:Expr}{body:List Stmt}{wi:TI}{g:TG}{tb:TS}{pos:Pos}(h0:PassesOwn (model X.prog X.w) X.A X.env X.xe)(h1:X.calm=true)(h2:QI X tg iter wi)(h3:QG X tg g)(h4:QSs X body tb)(h5:autoParam (∀(x:Value),foldedSetIterable iter X.env x=pure x) L2.za8._auto_1):QS X (Stmt.For tg iter body [] pos) (tFor wi g tb):=⟨L2.za8 h0 h1 h2.un h3.un h4.un h5⟩
theorem zbt{X:Cx}{pos:Pos}{c:Expr}{body:List Stmt}{tc:TT}{tb:TS}(h0:PassesOwn (model X.prog X.w) X.A X.env X.xe)(h1:QT X c tc)(h2:QSs X body tb):QS X (Stmt.While c body [] pos) (zlM tc tb):=⟨L2.zbt h0 h1.un h2.un⟩
theorem ze4{X:Cx}{pos:Pos}{i:Nat}{x:Str}{e:Expr}{te:TE}{op:Operator}{ti:TIp}{pos':Pos}(h0:X.N.Nodup)(h1:X.N[i]?=some x)(h2:L2.Loc X.env.scope x)(h3:QE X e te)(h4:PIp X op ti)(h5:autoParam (X.fn x=true\/xN x X.env.scope.names=some NameKind.local) L2.ze4._auto_1):QS X (Stmt.AugAssign (Expr.Name x pos') op e pos) (tAug i te ti):=⟨L2.ze4 h0 h1 h2 h3.un h4 h5⟩
theorem ze{X:Cx}{i:Int}{j:Nat}{pos:Pos}:QE X (Expr.Constant (Const.int i) j pos) (tC (V.int i)):=⟨L2.ze ⟩
theorem zu{X:Cx}{x:Str}{j:Nat}{pos:Pos}:QE X (Expr.Constant (Const.str x) j pos) (tC (V.str x)):=⟨L2.zu ⟩
theorem zaj{X:Cx}{b:Bool}{j:Nat}{pos:Pos}:QE X (Expr.Constant (Const.bool b) j pos) (tC (V.bl b)):=⟨L2.zaj ⟩
theorem zaM{X:Cx}{j:Nat}{pos:Pos}:QE X (Expr.Constant Const.none j pos) (tC V.non):=⟨L2.zaM ⟩
theorem pv{X:Cx}(i:Nat){x:Str}{pos:Pos}(h0:autoParam (X.N[i]?=some x) L2.pv._auto_1)(h1:autoParam (Vis X.env.scope x) L2.pv._auto_2)(h2:autoParam ((x==uI "__debug__")=false) L2.pv._auto_3)(h3:autoParam ((x==uI "__classdict__")=false) L2.pv._auto_4):QE X (Expr.Name x pos) (tVar i):=⟨L2.pv i h0 h1 h2 h3⟩
theorem zQ{X:Cx}{x:Str}{v:V}{u:Value}{pos:Pos}(h0:Gl X x)(h1:X.mg x=some u)(h2:RelV v u)(h3:autoParam ((x==uI "__debug__")=false) L2.zQ._auto_1):QE X (Expr.Name x pos) (tC v):=⟨L2.zQ h0 h1 h2 h3⟩
theorem Zq{X:Cx}{x:Str}{i:Int}{pos:Pos}(h0:Gl X x)(h1:(∃(t:Tok),X.mg x=some (Value.int i t)))(h2:autoParam ((x==uI "__debug__")=false) L2.Zq._auto_1):QE X (Expr.Name x pos) (tC (V.int i)):=⟨L2.Zq h0 h1 h2⟩
theorem ZE{X:Cx}{x:Str}{T:String}{pos:Pos}(h0:Gl X x)(h1:X.mg x=none)(h2:uT x=some (Value.type T))(h3:autoParam (x≠uI "__name__") L2.ZE._auto_1)(h4:autoParam ((x==uI "__debug__")=false) L2.ZE._auto_2):QE X (Expr.Name x pos) (tC (V.ty T)):=⟨L2.ZE h0 h1 h2 h3 h4⟩
theorem zC{X:Cx}{a b:Expr}{ta tb:TE}{pos:Pos}{op:Operator}{r:R2}(h0:OpR X (binaryOp op) r)(h1:QE X a ta)(h2:QE X b tb):QE X (a.BinOp op b pos) (tOp r ta tb):=⟨L2.zC h0 h1.un h2.un⟩
theorem zd1{X:Cx}{a:Expr}{ta:TE}{pos:Pos}{op:UnaryOp}{r:V->Hp->VK->Prop}(h0:UnR X (unaryOp op) r)(h1:QE X a ta):QE X (Expr.UnaryOp op a pos) (tUn r ta):=⟨L2.zd1 h0 h1.un⟩
theorem zE{X:Cx}{a b:Expr}{ta tb:TE}{pos:Pos}{op:CmpOp}{r:R2}(h0:OpR X (uU op) r)(h1:QE X a ta)(h2:QE X b tb)(h3:behindInMarks op b=false):QE X (a.Compare [op] [b] pos) (tOp r ta tb):=⟨L2.zE h0 h1.un h2.un h3⟩
theorem zw{X:Cx}{a b:Expr}{ta tb:TE}{pos:Pos}{op:CmpOp}{r:R2}(h0:OpR X (uU op) r)(h1:QE X a ta)(h2:QE X b tb)(h3:behindInMarks op b=false):QT X (a.Compare [op] [b] pos) (zkI (tOp r ta tb)):=⟨L2.zw h0 h1.un h2.un h3⟩
theorem zct{X:Cx}{a b:Expr}{pos:Pos}{op:CmpOp}{t:TE}(h0:QC X op a b t)(h1:autoParam (behindInMarks op b=false) L2.zct._auto_1):QE X (a.Compare [op] [b] pos) t:=⟨L2.zct h0.un h1⟩
theorem zbs{X:Cx}{a b:Expr}{pos:Pos}{op:CmpOp}{t:TE}(h0:QC X op a b t)(h1:autoParam (behindInMarks op b=false) L2.zbs._auto_1):QT X (a.Compare [op] [b] pos) (tB t):=⟨L2.zbs h0.un h1⟩
theorem zbu{X:Cx}{a b c:Expr}{ta tb tc:TE}{pos:Pos}{op op':CmpOp}{r r':R2}(h0:OpR X (uU op) r)(h1:OpR X (uU op') r')(h2:QE X a ta)(h3:QE X b tb)(h4:QE X c tc)(h5:autoParam (lastMarks [op,op'] [b,c]=false) L2.zbu._auto_1):QT X (a.Compare [op,op'] [b,c] pos) (zkI (ziO r r' ta tb tc)):=⟨L2.zbu h0 h1 h2.un h3.un h4.un h5⟩
theorem zU{X:Cx}{a b:Expr}{ta tb:TE}{pos:Pos}{rest:List Expr}(h0:QE X a ta)(h1:QE X (Expr.BoolOp BoolOp.And (b::rest) pos) tb):QE X (Expr.BoolOp BoolOp.And (a::b::rest) pos) (znC ta tb):=⟨L2.zU h0.un h1.un⟩
theorem zkF{X:Cx}{a b:Expr}{ta tb:TE}{pos:Pos}{rest:List Expr}(h0:QE X a ta)(h1:QE X (Expr.BoolOp BoolOp.Or (b::rest) pos) tb):QE X (Expr.BoolOp BoolOp.Or (a::b::rest) pos) (tOrV ta tb):=⟨L2.zkF h0.un h1.un⟩
theorem zZ{X:Cx}{a:Expr}{pos:Pos}{op:BoolOp}{t:TE}(h0:QE X a t):QE X (Expr.BoolOp op [a] pos) t:=⟨L2.zZ h0.un⟩
theorem Zp{X:Cx}{a b:Expr}{ta tb:TE}{pos:Pos}{tA:TT}{c:Expr}(h0:QT X c tA)(h1:QE X a ta)(h2:QE X b tb):QE X (c.IfExp a b pos) (tIf tA ta tb):=⟨L2.Zp h0.un h1.un h2.un⟩
theorem zG{X:Cx}{e:Expr}{t:TE}(h:QE X e t)(he:∀whole,isTrue e X.env whole=(do let v ←whole;standAt e.pos;holding [v] (truthy v)):=by intro _;rfl):QT X e (tB t):=⟨L2.zG h.un he⟩
theorem zT{X:Cx}{a:Expr}{pos:Pos}{tA:TT}(h0:QT X a tA):QT X (Expr.UnaryOp UnaryOp.Not a pos) (tNot tA):=⟨L2.zT h0.un⟩
theorem ze3{X:Cx}{a b:Expr}{pos:Pos}{tA tB':TT}{rest:List Expr}(h0:QT X a tA)(h1:QW X (Expr.BoolOp BoolOp.And (b::rest) pos) tB'):QW X (Expr.BoolOp BoolOp.And (a::b::rest) pos) (tAnd tA tB'):=⟨L2.ze3 h0.un h1.un⟩
theorem zcu{X:Cx}{a:Expr}{pos:Pos}{tA:TT}(h0:QT X a tA):QW X (Expr.BoolOp BoolOp.And [a] pos) tA:=⟨L2.zcu h0.un⟩
theorem ZX{X:Cx}{a b:Expr}{pos:Pos}{tA tB':TT}{rest:List Expr}(h0:QT X a tA)(h1:QW X (Expr.BoolOp BoolOp.Or (b::rest) pos) tB'):QW X (Expr.BoolOp BoolOp.Or (a::b::rest) pos) (tOr tA tB'):=⟨L2.ZX h0.un h1.un⟩
theorem ZI{X:Cx}{a:Expr}{pos:Pos}{tA:TT}(h0:QT X a tA):QW X (Expr.BoolOp BoolOp.Or [a] pos) tA:=⟨L2.ZI h0.un⟩
theorem PW.pt{X:Cx}{e:Expr}{t:TT}(h0:QW X e t):QT X e t:=⟨L2.PW.pt h0.un⟩
theorem zq{X:Cx}{x:Str}{k:Nat}{ps:List Str}{sp:Sp}{e:Expr}{es:List Expr}{t:TA}{p pos:Pos}(h0:Have X.prog X.w X.K X.mg X.base x k ps sp)(h1:Room k X.A)(h2:Gl X x)(h3:QA X (e::es) t)(h4:autoParam ((x==uI "__debug__")=false) L2.zq._auto_1)(h5:autoParam (uS (e::es) X.env=(false,eval e X.env)::uS es X.env) L2.zq._auto_2)(h6:autoParam (((backTo pos (uS es X.env)).any fun (x:Bool×Sem Value)=>x.fst)=false) L2.zq._auto_3):QE X ((Expr.Name x p).Call (e::es) [] pos) (ziU sp [] E0 t):=⟨L2.zq h0 h1 h2 h3.un h4 h5 h6⟩
theorem zk{X:Cx}{x:Str}{p pos:Pos}{e:Expr}{es:List Expr}{t:TA}{id:String}{r:List V->Hp->VK->Prop}(h0:zav X (Value.builtin id) r)(h1:Gl X x)(h2:X.mg x=none)(h3:uT x=some (Value.builtin id))(h4:QA X (e::es) t)(h5:autoParam (x≠uI "__name__") L2.zk._auto_1)(h6:autoParam ((x==uI "__debug__")=false) L2.zk._auto_2)(h7:autoParam (uS (e::es) X.env=(false,eval e X.env)::uS es X.env) L2.zk._auto_3)(h8:autoParam (((backTo pos (uS es X.env)).any fun (x:Bool×Sem Value)=>x.fst)=false) L2.zk._auto_4):QE X ((Expr.Name x p).Call (e::es) [] pos) (tCB r t):=⟨L2.zk h0 h1 h2 h3 h4.un h5 h6 h7 h8⟩
theorem zM{X:Cx}{x:Str}{p pos:Pos}{e:Expr}{es:List Expr}{t:TA}{T:String}{r:List V->Hp->VK->Prop}(h0:zav X (Value.type T) r)(h1:Gl X x)(h2:X.mg x=none)(h3:uT x=some (Value.type T))(h4:QA X (e::es) t)(h5:autoParam (x≠uI "__name__") L2.zM._auto_1)(h6:autoParam ((x==uI "__debug__")=false) L2.zM._auto_2)(h7:autoParam (uS (e::es) X.env=(false,eval e X.env)::uS es X.env) L2.zM._auto_3)(h8:autoParam (((backTo pos (uS es X.env)).any fun (x:Bool×Sem Value)=>x.fst)=false) L2.zM._auto_4):QE X ((Expr.Name x p).Call (e::es) [] pos) (tCB r t):=⟨L2.zM h0 h1 h2 h3 h4.un h5 h6 h7 h8⟩
theorem zcc{X:Cx}{o e:Expr}{es:List Expr}{to:TE}{t:TA}{name:Str}{apos cpos:Pos}{T id:String}{r:V->List V->Hp->VK->Prop}(pa:PlainAttrs T)(slot:Slot T name id)(hty:typeOf (.builtin id)=pure (.type "method_descriptor"))(hm:MtR X id r)(ho:QE X o to)(ha:QA X (e::es) t)
  (hbase:attributeBase o name X.env (eval o X.env)=eval o X.env:=by rfl)
  (hfew:((backTo cpos (uS (e::es) X.env)).all (fun x=>!x.1)&&(backToKw cpos (keywordEach [] X.env)).all (fun x=>x.1.isSome)
   && decide ((e::es).length+([]:List Keyword).length+(if ([]:List Keyword).isEmpty then 0 else 1)<30))=true:=by rfl)
  (hline:(apos.endLine==cpos.line)=true:=by rfl) (hs:uS (e::es) X.env=(false,eval e X.env)::uS es X.env:=by rfl) (hplain:(backTo cpos (uS es X.env)).any (·.1)=false:=by rfl):
  QE X (.Call (.Attribute o name apos) (e::es) [] cpos) (tBM X.K T r to t):=⟨L2.zcc pa slot hty hm ho.un ha.un hbase hfew hline hs hplain⟩
theorem zdK{X:Cx}{o:Expr}{to:TE}{name:Str}{apos cpos:Pos}{T id:String}{r:V->List V->Hp->VK->Prop}(h0:PlainAttrs T)(h1:Slot T name id)(h2:typeOf (Value.builtin id)=pure (Value.type "method_descriptor"))(h3:MtR X id r)(h4:QE X o to)(h5:autoParam (attributeBase o name X.env (eval o X.env)=eval o X.env) L2.zdK._auto_1)(h6:autoParam ((apos.endLine==cpos.line)=true) L2.zdK._auto_2):QE X ((o.Attribute name apos).Call [] [] cpos) (tBM0 X.K T r to):=⟨L2.zdK h0 h1 h2 h3 h4.un h5 h6⟩
theorem zo{X:Cx}{a b:Expr}{ta tb:TE}{pos:Pos}{r:R2}(h0:IxR X r)(h1:QE X a ta)(h2:QE X b tb)(h3:zi4 b):QE X (a.Subscript b pos) (tOp r ta tb):=⟨L2.zo h0 h1.un h2.un h3⟩
theorem zbw{X:Cx}{e:Expr}{te:TE}{lo hi:Option Expr}{tl th:TO}{pos p2:Pos}{r:V->Option Int->Option Int->Hp->VK->Prop}(h0:SlR X r)(h1:QE X e te)(h2:QO X lo tl)(h3:QO X hi th):QE X (e.Subscript (Expr.Slice lo hi none p2) pos) (tSl r te tl th):=⟨L2.zbw h0 h1.un h2.un h3.un⟩
theorem zd4{X:Cx}:QO X none zi2:=⟨L2.zd4 ⟩
theorem zbQ{X:Cx}{e:Expr}{te:TE}(h0:QE X e te):QO X (some e) (znM te):=⟨L2.zbQ h0.un⟩
theorem zS{X:Cx}{es:List Expr}{t:TA}{pos:Pos}(h0:QA X es t):QE X (Expr.List es pos) (tLst t):=⟨L2.zS h0.un⟩
theorem zy{X:Cx}{es:List Expr}{t:TA}{pos:Pos}{x1:Nat}(h0:QA X es t):QE X (Expr.Tuple es x1 pos) (tTup t):=⟨L2.zy h0.un⟩
theorem zb{X:Cx}:QA X [] tNil:=⟨L2.zb ⟩
theorem za{X:Cx}{e:Expr}{es:List Expr}{te:TE}{t:TA}(h0:QE X e te)(h1:QA X es t)(h2:autoParam (uS (e::es) X.env=(false,eval e X.env)::uS es X.env) L2.za._auto_1):QA X (e::es) (zbe te t):=⟨L2.za h0.un h1.un h2⟩
theorem zd3{X:Cx}{pos:Pos}:QE X (Expr.Dict [] [] pos) zlP:=⟨L2.zd3 ⟩
theorem zf6{X:Cx}{o i:Expr}{pos:Pos}{td ty:TE}(h0:X.A.units+1<cLine)(h1:QE X o td)(h2:QE X i ty)(h3:NoSl i):QE X (o.Subscript i pos) (znJ td ty):=⟨L2.zf6 h0 h1.un h2.un h3⟩
theorem zcs{X:Cx}{a:Expr}{ta:TE}{j:Nat}{pos':Pos}(h0:QE X a ta):QC X CmpOp.Is a (Expr.Constant Const.none j pos') (tIsN ta):=⟨L2.zcs h0.un⟩
theorem zbd{X:Cx}{a:Expr}{ta:TE}{j:Nat}{pos':Pos}(h0:QE X a ta):QC X CmpOp.IsNot a (Expr.Constant Const.none j pos') (znB ta):=⟨L2.zbd h0.un⟩
theorem zf7{X:Cx}{o i value:Expr}{pos pos':Pos}{td ty tv:TE}(h0:X.A.units+1<cLine)(h1:QE X o td)(h2:QE X i ty)(h3:QE X value tv)(h4:swapsWith value (some (o.Subscript i pos')) pos.line X.env=pure false):QS X (Stmt.Assign [o.Subscript i pos'] value pos) (znK td ty tv):=⟨L2.zf7 h0 h1.un h2.un h3.un h4⟩
theorem zY{X:Cx}{elt iter:Expr}{x:Str}{px pos:Pos}{ifs:List Expr}{scope:Scope}{cl:List (Str×Addr)}(fr:List Nat)(ys:List Str){wi:TI}{tt:TT}{te:TE}(h0:X.calm=true)(h1:closureFor scope X.env=pure cl)(h2:(∀(y:Str×NameKind),y∈scope.names->y.snd≠NameKind.cell))(h3:scope.kind=ScopeKind.function)(h4:(∀(y:Str×NameKind),y∈scope.names->y.snd=NameKind.local->xN y.fst scope.names=some NameKind.local))(h5:xN x scope.names=some NameKind.local)(h6:(x::ys).Nodup)(h7:ClOk cl X.env.cells)(h8:(scope.names.all fun (y:Str×NameKind)=>y.snd != NameKind.free||(xN y.fst cl).isSome)=true)(h9:FrOk X scope cl fr ys)(h10:QI X (Expr.Name x px) iter wi)(h11:(∀(C:Addr) (s:Shared) (H:Hp) (fp:List Addr),QIfs (zL X scope cl (x::ys) C s H fp) ifs tt/\QE (zL X scope cl (x::ys) C s H fp) elt te))(h12:autoParam (∀(v:Value),foldedSetIterable iter X.env v=pure v) L2.zY._auto_1):QE X (elt.ListComp [{target:=Expr.Name x px,iter:=iter,ifs:=ifs,is_async:=0}] scope pos) (zb7 fr wi tt te):=⟨L2.zY fr ys h0 h1 h2 h3 h4 h5 h6 h7 h8 h9 h10.un (fun C s H fp=>⟨(h11 C s H fp).1.un,(h11 C s H fp).2.un⟩) h12⟩
theorem zW{X:Cx}:QIfs X [] fun (x:St)(H:Hp)(Q:Bool->Hp->Prop)=>Q true H:=⟨L2.zW ⟩
theorem zd9{X:Cx}{c:Expr}{t:TT}(h0:QT X c t):QIfs X [c] t:=⟨L2.zd9 h0.un⟩
theorem zaq{X:Cx}{tg l:Expr}{tl:TE}(h0:QE X l tl):QI X tg l (ziH X.K tl):=⟨L2.zaq h0.un⟩
theorem zb6{X:Cx}{tg l:Expr}{tl:TE}(h0:QE X l tl):QI X tg l (iTup X.K tl):=⟨L2.zb6 h0.un⟩
theorem zha{X:Cx}{tg e:Expr}{te:TE}(h0:QE X e te):QI X tg e (iStr te):=⟨L2.zha h0.un⟩
theorem ZT{X:Cx}{tg a:Expr}{ta:TA}{p pos:Pos}(h0:Gl X (uI "range"))(h1:X.mg (uI "range")=none)(h2:QA X [a] ta)(h3:autoParam (uS [a] X.env=[(false,eval a X.env)]) L2.ZT._auto_1):QI X tg ((Expr.Name (uI "range") p).Call [a] [] pos) (znG ta):=⟨L2.ZT h0 h1 h2.un h3⟩
theorem zX{X:Cx}{pos:Pos}{i:Nat}{x:Str}(h0:X.N.Nodup)(h1:X.N[i]?=some x)(h2:L2.Loc X.env.scope x)(h3:autoParam (X.fn x=true\/xN x X.env.scope.names=some NameKind.local) L2.zX._auto_1):QG X (Expr.Name x pos) (Zj i):=⟨L2.zX h0 h1 h2 h3⟩
theorem za7{X:Cx}{pos:Pos}{es:List Expr}{k:Nat}{t:TGs}{n:Nat}(h0:X.calm=true)(h1:QGs X es t)(h2:autoParam ((assignEach es X.env).length=n) L2.za7._auto_1)(h3:autoParam (List.findIdx? (fun (x:Bool×(Value->Sem Unit))=>x.fst) (assignEach es X.env)=none) L2.za7._auto_2):QG X (Expr.Tuple es k pos) (gTup X.K n t):=⟨L2.za7 h0 h1.un h2 h3⟩
theorem zaN{X:Cx}:QGs X [] gNil:=⟨L2.zaN ⟩
theorem Zd{X:Cx}{e:Expr}{es:List Expr}{t:TG}{u:TGs}(h0:QG X e t)(h1:QGs X es u)(h2:autoParam (List.map (fun (x:Bool×(Value->Sem Unit))=>x.snd) (assignEach (e::es) X.env)=assign e X.env::List.map (fun (x:Bool×(Value->Sem Unit))=>x.snd) (assignEach es X.env)) L2.Zd._auto_1):QGs X (e::es) (znF t u):=⟨L2.Zd h0.un h1.un h2⟩
theorem zcv{X:Cx}{pos:Pos}{o i:Expr}{to ti:TE}{t:TSet}(ho:QE X o to)(hi:QE X i ti)(hs:PSet X t)
  (ha:∀v,assign (.Subscript o i pos) X.env v=(do
   let ov ←holding [v] (eval o X.env)
   let iv ←holding [v,ov] (eval i X.env)
   standAt pos
   holding [v,ov,iv] (setItem ov iv v)
   release [v,ov,iv] []):=by intro _;rfl):QG X (.Subscript o i pos) (gSub to ti t):=⟨L2.zcv ho.un hi.un hs ha⟩
theorem zI{X:Cx}{e:Expr}{f:Str}{pos:Pos}{ta:TE}(h0:QE X e ta)(h1:attributeBase e f X.env (eval e X.env)=eval e X.env):QE X (e.Attribute f pos) (tFld X.K ta f):=⟨L2.zI h0.un h1⟩
theorem ZK{X:Cx}{o value:Expr}{f:Str}{pos pos':Pos}{ta tv:TE}(h0:QE X o ta)(h1:QE X value tv)(h2:swapsWith value (some (o.Attribute f pos')) pos.line X.env=pure false):QS X (Stmt.Assign [o.Attribute f pos'] value pos) (sFld X.K ta tv f):=⟨L2.ZK h0.un h1.un h2⟩
theorem zer{X:Cx}{x:Str}{z:Str}{pos:Pos}(hg:Gl X x)(hm:∃t,X.mg x=some (.str z t))(hd:(x==("__debug__":Str))=false:=by decide):QE X (.Name x pos) (tC (.str z)):=⟨L2.zer hg hm hd⟩
end D
namespace L2
open PySem PySem.Spec PyProof.Rows
def MD(P:Program)(w:World)(K:uZ)(g:Addr)(kvs:List (Key×V)):Prop:=
 ∃(o:Obj)(vs:List (Key×Value)),K.lookup g=some o/\PySem.Obj.IsDictOf (zK P w) o vs/\KV kvs vs/\(g==sysModules)=false
theorem MD.dict{P:Program}{w:World}{K:uZ}{g:Addr}{kvs:List (Key×V)}{h:Heap}(m:MD P w K g kvs)(x:K.In h):∃vs,KV kvs vs/\h.DictOf (zK P w) g vs/\(g==sysModules)=false:=by
 obtain⟨o,vs,e,d,r,n⟩:=m
 exact⟨vs,r,Heap.dictOf_iff.mpr ⟨o,x _ _ e,d⟩,n⟩
theorem zhi{P:Program}{w:World}:∀l:List (Str×Tok×V×Value),Pairs (zK P w) (l.map fun p=>(⟨hashStr w p.1,.str p.1 p.2.1,p.2.2.2⟩:DictEntry)) (l.map fun p=>((Sum.inr p.1:Key),p.2.2.2))
 |[]=>.nil
 |p::r=>.cons (Zy P w p.1 p.2.1) rfl (zhi r)
theorem zn7:∀l:List (Str×Tok×V×Value),(∀p∈l,RelV p.2.2.1 p.2.2.2)->KV (l.map fun p=>((Sum.inr p.1:Key),p.2.2.1)) (l.map fun p=>((Sum.inr p.1:Key),p.2.2.2))
 |[],_=>.nil
 |p::r,h=>.cons ⟨rfl,h p xG⟩ (zn7 r fun q hq=>h q (yX _ hq))
theorem zju{P:Program}{w:World}{K:uZ}{g:Addr}(l:List (Str×Tok×V×Value)){ep:Nat}(e:K.lookup g=some ⟨.type "dict",none,.dict (l.map fun p=>(⟨hashStr w p.1,.str p.1 p.2.1,p.2.2.2⟩:DictEntry)).toArray ep,#[]⟩)
  (n:(g==sysModules)=false) (hr:∀p∈l,RelV p.2.2.1 p.2.2.2) (nd:(l.map (·.1)).Nodup):MD P w K g (l.map fun p=>((Sum.inr p.1:Key),p.2.2.1)):=by
 refine⟨_,l.map fun p=>((Sum.inr p.1:Key),p.2.2.2),e,⟨_,_,⟨rfl,rfl,rfl⟩,rfl,?_,?_,?_⟩,zn7 l hr,n⟩
 ·intro x hx
  have hx':x∈l.map fun p=>(⟨hashStr w p.1,.str p.1 p.2.1,p.2.2.2⟩:DictEntry):=by simpa using hx
  obtain⟨p,_,rfl⟩:=wC.mp hx'
  exact⟨Sum.inr p.1,Zy P w p.1 p.2.1,rfl⟩
 ·rw[wY]
  exact zhi l
 ·rw[wB]
  have:(l.map ((fun x:Key×Value=>x.1)∘fun p=>((Sum.inr p.1:Key),p.2.2.2)))=(l.map (·.1)).map (Sum.inr:Str->Key):=by rw[wB];rfl
  rw[this]
  exact List.pairwise_map.mpr (List.Pairwise.imp (fun {a b} (h:a≠b) (e:(Sum.inr a:Key)=Sum.inr b)=>h (by simpa using e)) nd)
theorem zmf{X:Cx}:OpR X (uU .In) (fun x y H Q=>∃(g:Addr)(kvs:List (Key×V))(k:Key),x=kV k/\y=.ref g/\MD X.prog X.w X.K g kvs/\Q (.bl (valV kvs k).isSome) H):=by
 intro zp s σ H x y v u Q I rx ry h
 obtain⟨g,kvs,k,rfl,rfl,m,q⟩:=h
 cases ry
 obtain⟨vs,rel,dd,hd⟩:=m.dict I.kIn
 refine wpAny_in_of (zf4 rx) hd dd.mapOf ?_
 rw[←(rel.val k).isSome_eq]
 exact⟨.bl _,H,I.tok _,rfl,q⟩
theorem zfo{X:Cx}:OpR X (uU .NotIn) (fun x y H Q=>∃(g:Addr)(kvs:List (Key×V))(k:Key),x=kV k/\y=.ref g/\MD X.prog X.w X.K g kvs/\Q (.bl (!(valV kvs k).isSome)) H):=by
 intro zp s σ H x y v u Q I rx ry h
 obtain⟨g,kvs,k,rfl,rfl,m,q⟩:=h
 cases ry
 obtain⟨vs,rel,dd,hd⟩:=m.dict I.kIn
 refine wpAny_notIn_of (zf4 rx) hd dd.mapOf ?_
 rw[←(rel.val k).isSome_eq]
 exact⟨.bl _,H,I.tok _,rfl,q⟩
theorem zhj{X:Cx}:IxR X (fun x y H Q=>∃(g:Addr)(kvs:List (Key×V))(k:Key)(v:V),x=.ref g/\y=kV k/\MD X.prog X.w X.K g kvs/\valV kvs k=some v/\Q v H):=by
 intro value slice zp s σ H x y v u Q I rx ry h hs
 obtain⟨g,kvs,k,z,rfl,rfl,m,hv,q⟩:=h
 cases rx
 obtain⟨vs,rel,dd,hd⟩:=m.dict I.kIn
 obtain⟨w',hw,rw'⟩:=RelO.some_of (v:=z) (o:=valueAt vs k) (by rw[←hv];exact rel.val k)
 exact tail_any dd.typeIs PySem.F.slot_dict_getitem.lookup (wpAny_getItem_of (zf4 ry) dd.mapOf hw ⟨z,H,I.tok _,rw',q⟩) hs
def Zm(P:Program)(w:World)(K:uZ)(mg:Str->Option Value)(base:Heap)(f:Addr)(k:Nat)(ps:List Str)(sp:Sp):Prop:=∃fd:tD,FnOk P w K mg base CX0 k f fd ps sp/\Binds K fd ps []/\keepIn K (.ref f)=true
theorem Zm.mono{P:Program}{w:World}{K:uZ}{mg:Str->Option Value}{base:Heap}{f:Addr}{j k:Nat}{ps:List Str}{sp:Sp}(h:Zm P w K mg base f j ps sp)(e:j<=k):Zm P w K mg base f k ps sp:=
 let ⟨fd,F,r⟩:=h;⟨fd,F.mono e,r⟩
theorem Zm.up{P:Program}{w:World}{K:uZ}{mg:Str->Option Value}{base:Heap}{j k:Nat}{ps:List Str}{sp:Sp}{f:Addr}(h:Zm P w K mg base f j ps sp)(e:uH j k=true):Zm P w K mg base f k ps sp:=h.mono (xT e)
def zmg(P:Program)(w:World)(K:uZ)(mg:Str->Option Value)(base:Heap)(k:Nat)(tf:TE)(t:TA):TE:=fun σ H Q=>tf σ H fun x H1=>∃(f:Addr)(ps:List Str)(sp:Sp),x=.ref f/\Zm P w K mg base f k ps sp/\t σ H1 fun vs H2=>sp vs H2 Q E0
theorem zbD{X:Cx}{k:Nat}{fe e:Expr}{es:List Expr}{tf:TE}{t:TA}{pos:Pos}(hr:Room k X.A)(hf:PE X fe tf)(ha:PA X (e::es) t)
  (hev:eval (.Call fe (e::es) [] pos) X.env=(do callWith pos (←eval fe X.env) [] (backTo pos (uS (e::es) X.env)) (backToKw pos (keywordEach [] X.env))):=by rfl)
  (he:uS (e::es) X.env=(false,eval e X.env)::uS es X.env:=by rfl) (hpl:(backTo pos (uS es X.env)).any (·.1)=false:=by rfl):
  PE X (.Call fe (e::es) [] pos) (zmg X.prog X.w X.K X.mg X.base k tf t):=by
 intro zp s σ H Q I h
 refine Call_ (thn (hf zp s σ H _ I h) fun fv s1 ⟨x,H1,I1,rx,f,ps,sp,ex,⟨fd,F,b,kp⟩,q1⟩=>?_) hev
 subst ex
 obtain rfl:fv=Value.ref f:=rx
 refine callWith_K (h₀:=X.base) I.ok.mod.kin kp (thn (ha pos zp s1 σ H1 _ I1 q1) fun us s2 ⟨vs,H2,I2,r,q⟩=>⟨I2.kIn,?_⟩) he hpl
 exact zg6 F hr b .nil zga I2 r (by rw[xB];exact q)
end L2
namespace D
open PySem L2
theorem zbD{X:Cx}{k:Nat}{fe e:Expr}{es:List Expr}{tf:TE}{t:TA}{pos:Pos}(hr:Room k X.A)(hf:QE X fe tf)(ha:QA X (e::es) t)
  (hev:eval (.Call fe (e::es) [] pos) X.env=(do callWith pos (←eval fe X.env) [] (backTo pos (uS (e::es) X.env)) (backToKw pos (keywordEach [] X.env))):=by rfl)
  (he:uS (e::es) X.env=(false,eval e X.env)::uS es X.env:=by rfl) (hpl:(backTo pos (uS es X.env)).any (·.1)=false:=by rfl):
  QE X (.Call fe (e::es) [] pos) (zmg X.prog X.w X.K X.mg X.base k tf t):=⟨L2.zbD hr hf.un ha.un hev he hpl⟩
end D
namespace L2
open PySem PySem.Spec PyProof.Rows PySem.Builtin PySem.Builtin.Str
theorem zm3{X:Cx}:OpR X (binaryOp .Mult) (rI IntMulOk fun i j=>.int (i*j)):=opI fun _ _ _ _ _ _ _ hc q=>mul_int q hc
def zn8(i j:Int):Prop:=j≠0/\j.natAbs.log2<9000
theorem zjv{X:Cx}:OpR X (binaryOp .FloorDiv) (rI zn8 fun i j=>.int (i.fdiv j)):=opI fun _ _ _ _ _ _ _ hc q=>floordiv_int hc.1 q (.inl (PyProof.noPylong_of_log2 hc.2))
def zoH(K:uZ):R2:=fun x y H Q=>(∃i j,x=.str i/\y=.str j/\i.length+j.length<=uQ/\Q (.str (i++j)) H)\/znN K x y H Q \/
 ∃(a b:Addr)(ys:List V),x=.ref a/\y=.ref b/\SqT K H a []/\SqT K H b ys/\Q (.ref b) H
theorem zjw{X:Cx}:OpR X (binaryOp .Add) (zoH X.K):=OpR.or zbP (OpR.or zmJ zk8)
theorem zm4{K:uZ}{A T1 T2:String}{b1 b2:Bool}(h1:isi A T1=some b1)(h2:isi A T2=some b2):kitAny K (.type A) [.type T1,.type T2]=some (b1||b2):=by
 unfold kitAny
 rw[zi8 h1]
 cases b1 with
 |true=>rfl
 |false=>
  show kitAny K (.type A) [.type T2]=_
  unfold kitAny
  rw[zi8 h2]
  cases b2<;>rfl
theorem zjx{X:Cx}:zav X (.builtin "isinstance") (fun xs H Q=>∃v A p T1 T2 b1 b2,xs=[v,.ref p]/\TyOf X.K H v (.type A)/\H p=some (.tup [.ty T1,.ty T2])/\isi A T1=some b1/\isi A T2=some b2/\Q (.bl (b1||b2)) H):=by
 intro zp s σ H xs us Q I r h
 obtain⟨v,A,p,T1,T2,b1,b2,rfl,ty,hp,e1,e2,q⟩:=h
 obtain⟨u,c,rfl,rx,rc⟩:=zhM r
 cases (show c=Value.ref p from rc)
 obtain⟨_,its,ri,⟨o,ho,hc,hd⟩⟩:=(show Zh X.prog X.w H s.heap p (.tup [.ty T1,.ty T2]) from I.hok p _ hp)
 obtain⟨n,hd⟩:=hd
 have eits:its=[.type T1,.type T2]:=by
  cases ri with
  |cons r1 r2=>
  cases r2 with
  |cons r3 r4=>
  cases r4
  cases (show _=Value.type T1 from r1)
  cases (show _=Value.type T2 from r3)
  rfl
 have htp:s.heap.get? p=some ⟨.type "tuple",o.dict,.seq its.toArray n,o.slots⟩:=by
  rw[ho]
  cases o
  simp only at hc hd
  rw[hc,hd]
 have ha:=zm4 (K:=X.K) e1 e2
 rw[eits] at htp
 have fin:∀tk,EP X zp σ Q (.bool (b1||b2)) {s with toks:=tk}:=fun tk=>⟨.bl _,H,I.tok tk,rfl,q⟩
 cases ty with
 |non=>cases (show u=Value.none from rx);exact kia_tup PySem.W.kitx_none I.kIn True.intro htp ha (fun z=>nomatch z) fin
 |bl y=>cases (show u=Value.bool y from rx);exact kia_tup PySem.W.kitx_bool I.kIn True.intro htp ha (fun z=>nomatch z) fin
 |int i=>obtain⟨t,q⟩:=(show ∃t,u=Value.int i t from rx);cases q;exact kia_tup PySem.W.kitx_int I.kIn True.intro htp ha (fun z=>nomatch z) fin
 |str y=>obtain⟨t,q⟩:=(show ∃t,u=Value.str y t from rx);cases q;exact kia_tup PySem.W.kitx_str I.kIn True.intro htp ha (fun z=>nomatch z) fin
 |flt y=>obtain⟨t,q⟩:=(show ∃t,u=Value.float y t from rx);cases q;exact kia_tup PySem.W.kitx_float I.kIn True.intro htp ha (fun z=>nomatch z) fin
 | @lst a xs ea=>
  cases (show u=Value.ref a from rx)
  obtain⟨_,_,n,_,h1⟩:=(show Zh X.prog X.w H s.heap a (.lst xs) from I.hok a _ ea)
  exact kia_tup kitx_list I.kIn ⟨_,h1,rfl⟩ htp ha (fun z=>nomatch z) fin
 | @frz a ob xs ea=>
  cases (show u=Value.ref a from rx)
  obtain⟨_,_,_,n,_,h1⟩:=(show Zh X.prog X.w H s.heap a (.frz ob (.lst xs)) from I.hok a _ ea)
  exact kia_tup kitx_list I.kIn ⟨_,h1,rfl⟩ htp ha (fun z=>nomatch z) fin
 | @tup a xs ea=>
  cases (show u=Value.ref a from rx)
  obtain⟨_,_,_,p⟩:=(show Zh X.prog X.w H s.heap a (.tup xs) from I.hok a _ ea)
  obtain⟨o,h1,h2,_⟩:=p
  exact kia_tup PySem.W.kitx_tuple I.kIn ⟨o,h1,h2⟩ htp ha (fun z=>nomatch z) fin
 | @dK a kvs ea=>
  cases (show u=Value.ref a from rx)
  obtain⟨_,_,vs,_,p⟩:=(show Zh X.prog X.w H s.heap a (.dK kvs) from I.hok a _ ea)
  obtain⟨o,es,ep,h1,h2,_⟩:=p
  exact kia_tup kitx_dict I.kIn ⟨o,h1,h2.1⟩ htp ha (fun z=>nomatch z) fin
 | @dT a kvs ea=>
  cases (show u=Value.ref a from rx)
  obtain⟨_,_,xs,_,o,es,ep,h1,h2,_⟩:=(show Zh X.prog X.w H s.heap a (.dT kvs) from I.hok a _ ea)
  exact kia_tup kitx_dict I.kIn ⟨o,h1,h2.1⟩ htp ha (fun z=>nomatch z) fin
end L2
namespace L2
open PySem PySem.Spec PyProof.Rows
theorem zc3{X:Cx}{i:Nat}{y:Str}{py spos:Pos}{elt iter:Expr}{x:Str}{px pos:Pos}{ifs:List Expr}{scope:Scope}{cl:List (Str×Addr)}(fr:List Nat)(ys:List Str){wi:TI}{tt:TT}{te:TE}
  (hc:X.calm=true) (hclos:closureFor scope X.env=pure cl) (hcell:∀y∈scope.names,y.2≠.cell) (hkind:scope.kind=.function) (hnames:∀y∈scope.names,y.2=.local->scope.names.lookup y.1=some .local)
  (hx:scope.names.lookup x=some .local) (hnd:(x::ys).Nodup) (hcl:ClOk cl X.env.cells) (hall:(scope.names.all fun y=>y.2 != .free||(cl.lookup y.1).isSome)=true) (hfr:FrOk X scope cl fr ys)
  (hi:PI X (.Name x px) iter wi)
  (hY:∀C s H fp,PIfs (zL X scope cl (x::ys) C s H fp) ifs tt/\PE (zL X scope cl (x::ys) C s H fp) elt te)
  (hN:X.N.Nodup) (hiy:X.N[i]?=some y) (hy:Loc X.env.scope y) (hsw:swapsWith (.ListComp elt [⟨.Name x px,iter,ifs,0⟩] scope pos) (some (.Name y py)) spos.line X.env=pure true:=by rfl)
  (hf:X.fn y=true\/X.env.scope.names.lookup y=some .local:=by first|exact .inl rfl|exact .inr rfl|assumption)
  (hs:∀v,foldedSetIterable iter X.env v=pure v:=by intro _;rfl):
  PS X (.Assign [.Name y py] (.ListComp elt [⟨.Name x px,iter,ifs,0⟩] scope pos) spos) (tAsg (zb7 fr wi tt te) (Zj i)):=by
 intro zp s σ H Dn I h
 rw[exec_Assign_Name_used _ _ _ _ hsw]
 refine uJ (wpAny_standAt (uJ ?_))
 refine (show wpAny _ X.A (do let _ ←comprehension (.ListComp elt [⟨.Name x px,iter,ifs,0⟩] scope pos) scope X.env _ (newList []) false (eval iter X.env) (some (assign (.Name y py) X.env))) _ _ s from ?_)
 refine uJ (wpAny_mono (wpAny_comprehension_free (use:=some (assign (.Name y py) X.env)) (Q:=fun _ s'=>SP X zp Dn .next s') rfl hs hclos hkind hnames (wpAny_mono (hi zp s σ H _ I h) (fun v s1 h1=>wpAny_mono h1 (fun itv s2 h2=>?_) fun _ _ e=>e) fun _ _ e=>e)) (fun _ s' hq=>uK (uK hq)) fun _ _ e=>e)
 obtain⟨it,fp,tn,J,H2,rfl,I2,T,st2,f2,W,⟨m0,w0⟩,turn⟩:=h2
 refine uR (wpAny_newFunctionEnv hcell (by intro y hy;simp at hy) (fun h₁ hns₁ hsb₁=>?_) hkind)
 dsimp only at hns₁ hsb₁ ⊢
 generalize hP2:s2.heap.push {cls:=.type "list",dict:=none,data:=.seq ([]:List Value).toArray}=P2 at hns₁ hsb₁ ⊢
 have hC:P2.objs.size=s2.heap.objs.size+1:=by rw[←hP2,Heap.size_push]
 have hDC:s2.heap.objs.size≠P2.objs.size:=by rw[hC];exact yI (xZ _)
 have hCle:s2.heap.objs.size<=P2.objs.size:=by rw[hC];exact wQ _
 have below:∀b,b<s2.heap.objs.size->b≠P2.objs.size/\b≠s2.heap.objs.size:=fun b hb=>⟨by rw[hC];exact yI (wT hb),yI hb⟩
 have old:∀b o,s2.heap.get? b=some o->h₁.get? b=some o:=fun b o e=>hsb₁.extBut b o (below b (uM e)).1 (uL _ (hP2▸uL _ e))
 have hacc:h₁.get? s2.heap.objs.size=some {cls:=.type "list",data:=.seq ([]:List Value).toArray}:=hsb₁.extBut _ _ hDC (uL _ (hP2▸uN _ rfl))
 have fpl:∀b∈fp,b<s2.heap.objs.size:=fun b hb=>by
  obtain⟨o,e,_⟩:=T.obj _ _ st2 b hb
  exact uM e
 have tlt:∀b o,H2 b=some o->b<s2.heap.objs.size:=fun b o e=>I2.hok.lt e
 generalize hCg:P2.objs.size=C at hns₁ hsb₁ hDC hCle below ⊢
 generalize hDg:s2.heap.objs.size=D at hDC below hacc fpl tlt ⊢
 have hDle:D<=C:=by rw[←hDg];exact hCle
 have cls:∀y c,cl.lookup y=some c->X.env.cells.lookup y=some c:=fun y c e=>hcl.mem e
 have clt:∀y c,cl.lookup y=some c->c<D:=fun y c e=>by
  obtain⟨v,q⟩:=I2.cell y c (cls y c e)
  rw[←hDg];exact q.lt
 have sub:∀b∈frs X.stack,b<D:=fun b hb=>by
  rcases yQ.mp (I2.stkSub b hb) with e|hb
  ·rw[e,←hDg];exact I2.lt
  ·obtain⟨_,o,ho,_⟩:=I2.ok.funs.mem hb
   rw[←hDg];exact yP (uM ho) I2.sz
 obtain⟨YI,YE⟩:=hY C s2 H2 fp
 have Yok:(zL X scope cl (x::ys) C s2 H2 fp).Ok:=by
  refine⟨I2.ok.mod,hkind,I2.ok.glob,I2.ok.blt,hCle,?_,?_,?_,fun _=>I2.ok.hd hc,I2.ok.frames,.inl rfl,?_,I2.bs,yM I2.ok.bsz I2.sz,?_,?_,I2.stack,I2.stkFree⟩
  ·exact fun y z c e1 e2=>I2.ok.inj y z c (cls y c e1) (cls z c e2)
  ·intro y hy
   have hm:=zan (env:=X.env) (names:=scope.names) (x:=y) hcell hy
   have q:=xQ.mp hall _ hm
   show ∃c,cl.lookup y=some c
   exact xX.mp (by simpa using q)
  ·intro y c hf _
   exact absurd hf (by show ¬false=true;decide)
  ·intro b hb
   refine⟨(below b (fpl b hb)).1,fun y c e z=>?_⟩
   exact (f2 b hb).2.2.2.2.1 y c (cls y c e) z
  ·intro b o e hb
   have hb:b∈fp:=hb
   rcases (f2 b hb).2.2.2.1 with z|z
   ·exact I2.ok.noex b o e z
   ·exact absurd (yP (uM e) (yM I2.ok.bsz z)) (xD _)
  ·intro b hb hf
   have hb:b∈fp:=hb
   rcases yQ.mp (I2.stkSub b hf) with e|hf
   ·exact (f2 b hb).2.1 e
   ·exact (f2 b hb).2.2.1 hf
 have hvis:Loc (zL X scope cl (x::ys) C s2 H2 fp).env.scope x:=.inl (lookup_relabel_local hx)
 have start:∀tk,Inv (zL X scope cl (x::ys) C s2 H2 fp) [] (none::frees fr σ) H2 {s2 with heap:=h₁,toks:=tk}:=fun tk=>by
  refine⟨Yok,rfl,I2.bare,Un.kept old,⟨_,hns₁,fun i y v e1 e2 e3=>?_⟩,fun y c e=>?_,?_,fun y c e=>?_,fun p hp=>absurd (show p∈([]:List (Addr×Obj)) from hp) (by simp),I2.hok.kept old,?_⟩
  ·cases i with
   |zero=>simp at e2
   |succ j=>
    obtain⟨i',n1,n2,n3,n4,n5,c,n6⟩:=zcG hfr j y v (by simpa [zL] using e1) (by simpa using e2)
    obtain⟨m,hn,hl⟩:=I2.loc
    obtain⟨u,r,l⟩:=hl i' y v n1 n2 n4
    refine⟨u,r,.inr ⟨zab n3,c,n6,?_⟩⟩
    rcases l with⟨k,_⟩|⟨k,c',e,z⟩
    ·exact absurd k n5
    ·rw[cls y c n6] at e
     cases e
     obtain⟨o,ho,hd⟩:=z
     exact⟨o,old _ _ ho,hd⟩
  ·obtain⟨v,o,ho,hd⟩:=I2.cell y c (cls y c e)
   exact⟨v,o,old _ _ ho,hd⟩
  ·show H2 C=none
   cases q:H2 C with
   |none=>rfl
   |some o=>exact absurd (tlt C o q) (Nat.not_lt.mpr hDle)
  ·exact I2.freeC y c (cls y c e)
  ·show (none::frees fr σ).length=(x::ys).length
   rw[yG,yG,zcH hfr]
 have fpY:∀{pl:List (Addr×Obj)}{H':Hp},(∀b∈fp,H' b=none)->(∀p∈pl,p.1=D)->∀b∈fp,FpOk (zL X scope cl (x::ys) C s2 H2 fp) pl H' b:=fun {pl H'} hn hpl b hb=>by
  refine⟨hn b hb,(below b (fpl b hb)).1,Yok.exfs b hb,.inl hb,fun y c e z=>(f2 b hb).2.2.2.2.1 y c (cls y c e) z,fun p hp=>?_⟩
  have hp:p∈[]++pl:=hp
  rw[vO] at hp
  rw[hpl p hp]
  exact (below b (fpl b hb)).2.symm
 have loop:∀s₃:Shared,(∃tk,s₃={s2 with heap:=h₁,toks:=tk})->
   codeAny (model X.prog X.w) X.A (.compLoop (.ListComp elt [⟨.Name x px,iter,ifs,0⟩] scope pos) 0 (.ref it) (.ref D) (compEnvC scope cl C X.env))
    (compPost (model X.prog X.w) X.A X.xe (some (assign (.Name y py) X.env)) (fun _ s'=>SP X zp Dn .next s') (.ref D) C) s₃:=by
  rintro s₃ ⟨tk,rfl⟩
  refine zfi
   (fun k s'=>∃i vs ws nn H',Inv (zL X scope cl (x::ys) C s2 H2 fp) [] (none::frees fr σ) H' s'/\tn i s'.heap/\(∀b∈fp,H' b=none)/\H' D=none /\
    s'.heap.get? D=some {cls:=.type "list",data:=.seq (ws:List Value).toArray nn}/\Vals vs ws/\W i k vs H') ?_ m0
   ⟨0,[],[],0,H2,start tk,T.keep _ _ _ st2 fun b _ o e=>old b o e,fun b hb=>(f2 b hb).1,?_,hacc,.nil,w0⟩
  ·rintro n s3 ⟨i,vs,ws,nn,H3,I3,st3,fr3,hD3,ho3,rv3,w3⟩
   have I3':Inv (zL X scope cl (x::ys) C s2 H2 fp) [(D,{cls:=.type "list",data:=.seq ws.toArray nn})] (none::frees fr σ) H3 s3:=I3.pins_of fun p hp=>by
    have e:p=(D,{cls:=.type "list",data:=.seq ws.toArray nn}):=by simpa using hp
    subst e
    refine⟨ho3,hD3,hDC,fun z=>absurd (sub D z) (xD _),fun v z=>?_⟩
    have z':Data.seq ws.toArray nn=Data.cell v:=z
    cases z'
   have fp3:=fpY (pl:=[(D,{cls:=.type "list",data:=.seq ws.toArray nn})]) fr3 (fun p hp=>by rw[yO.mp hp])
   obtain⟨hsz,alt⟩:=turn i n vs H3 w3
   rcases alt with⟨stop,fin⟩|⟨go,step⟩
   ·refine thn (T.done (zL X scope cl (x::ys) C s2 H2 fp) rfl rfl rfl rfl i _ s3 _ H3 _ I3' fp3 st3 stop) fun r s4 ⟨hr,I4⟩=>?_
    subst hr
    have pD:=I4.pin (D,{cls:=.type "list",data:=.seq ws.toArray nn}) (by show _∈[]++_;simp)
    obtain⟨m4,hn4,_⟩:=I4.loc
    have hC4:H3 C=none:=I4.free
    have hok4:HOk X.prog X.w (upd H3 D (.lst vs)) s4.heap:=HOk.track I4.hok hD3 ⟨hsz,ws,nn,rv3,pD.1⟩
    have b4:=I4.base
    have un4:Un (frs X.stack) fp H2 (upd H3 D (.lst vs)) s2.heap s4.heap:=by
     have lt:∀b o,s2.heap.get? b=some o->b<D:=fun b o e=>by rw[←hDg];exact uM e
     refine⟨b4.keep,b4.slot,fun b o e n hx=>?_,b4.there,fun b zs e=>?_,fun b o u e=>?_,fun b ps e=>?_⟩
     ·rw[zm (below b (lt b o e)).2];exact b4.free b o e n hx
     ·rw[zm (below b (tlt b _ e)).2];exact b4.tups b zs e
     ·rw[zm (below b (tlt b _ e)).2];exact b4.frzs b o u e
     ·rw[zm (below b (tlt b _ e)).2];exact b4.tbls b ps e
    have I5:Inv X zp σ (upd H3 D (.lst vs)) s4:=I2.call' (ch:=fp) I4.os un4 hok4 I4.bare fun b hb=>⟨(f2 b hb).2.2.2.1,(f2 b hb).2.1,(f2 b hb).2.2.2.2.1,(f2 b hb).2.2.2.2.2⟩
    have fC:FpOk X zp (upd H3 D (.lst vs)) C:=I2.fpOk (by rw[hDg];exact hDle) (by rw[zm hDC.symm];exact hC4)
    refine (show wpAny _ X.A (assign (.Name y py) X.env (.ref D)) _ _ s4 from wpAny_assign_Name (ze2 I5 hN hiy hy (v:=.ref D) rfl (fun s5 I6 ⟨a,hsa,ha⟩=>?_) hf))
    have aC:C≠a:=by
     rcases ha with ha|ha
     ·rw[ha];exact fC.2.1
     ·exact (fC.2.2.2.2.1 _ _ ha).symm
    refine⟨m4,hn4.sameBut hsa aC,fun h' hs'=>⟨_,upd H3 D (.lst vs),I6.turned (t':=s5.toks) (it:=C) (fun b o hb e=>(hs'.2 b hb).trans e) fC.1 fC.2.1 fC.2.2.2.1 fC.2.2.2.2.1 fC.2.2.2.2.2,fin D hD3⟩⟩
   ·refine thn (T.item (zL X scope cl (x::ys) C s2 H2 fp) rfl rfl rfl rfl i _ s3 _ H3 _ I3' fp3 st3 go) fun r s4 ⟨u,hr,h4⟩=>?_
    subst hr
    refine thn h4 fun _ s5 ⟨v,H5,I5,r5,y5,st5,fr5⟩=>?_
    have fp5:=fpY (pl:=[(D,{cls:=.type "list",data:=.seq ws.toArray nn})]) fr5 (fun p hp=>by rw[yO.mp hp])
    have I5':=I5.pinned fp5 (T.obj _ _ st5)
    refine thn (zX (X:=zL X scope cl (x::ys) C s2 H2 fp) (i:=0) (pos:=px) hnd rfl hvis (.inr (lookup_relabel_local hx)) _ s5 _ H5 v u (fun σ' H'=>σ'=some v::frees fr σ/\H'=H5) I5' r5 ⟨rfl,rfl⟩) fun _ s6 ⟨σ6,H6,I6,e6,e6'⟩=>?_
    subst e6 e6'
    refine thn (YI _ s6 _ _ _ I6 (step v H6 y5)) fun b s7 ⟨H7,I7,q7⟩=>?_
    have back:∀{H8:Hp}{s8:Shared},Inv (zL X scope cl (x::ys) C s2 H2 fp) ([(D,{cls:=.type "list",data:=.seq ws.toArray nn})]++zdH fp s5.heap) (some v::frees fr σ) H8 s8->
      s8.heap.get? D=some {cls:=.type "list",data:=.seq ws.toArray nn}/\H8 D=none/\(∀b∈fp,H8 b=none)/\(∀b∈fp,∀o,s5.heap.get? b=some o->s8.heap.get? b=some o):=fun {H8 s8} I8=>by
     have pD:=I8.pin (D,{cls:=.type "list",data:=.seq ws.toArray nn}) (by show _∈[]++_;simp)
     refine⟨pD.1,pD.2.1,fun b hb=>?_,fun b hb o e=>?_⟩
     ·obtain⟨o,e,d⟩:=T.obj _ _ st5 b hb
      exact (I8.pin (b,o) (yT _ (yT _ (Z5 hb e)))).2.1
     ·exact (I8.pin (b,o) (yT _ (yT _ (Z5 hb e)))).1
    have weak:∀{H8:Hp}{s8:Shared},Inv (zL X scope cl (x::ys) C s2 H2 fp) [] (some v::frees fr σ) H8 s8->Inv (zL X scope cl (x::ys) C s2 H2 fp) [] (none::frees fr σ) H8 s8:=fun {H8 s8} I8=>
     I8.weak rfl fun i v' e=>by
      cases i with
      |zero=>simp at e
      |succ j=>simpa using e
    have nopin:∀{H8:Hp}{s8:Shared}{pl:List (Addr×Obj)},Inv (zL X scope cl (x::ys) C s2 H2 fp) pl (some v::frees fr σ) H8 s8->Inv (zL X scope cl (x::ys) C s2 H2 fp) [] (some v::frees fr σ) H8 s8:=fun {H8 s8 pl} I8=>
     I8.pins_of fun p hp=>absurd hp (by simp)
    cases b with
    |false=>
     rw[if_neg yH] at q7 ⊢
     obtain⟨m',hm,w7⟩:=q7
     obtain⟨k1,k2,k3,k4⟩:=back I7
     exact⟨m',hm,i+1,vs,ws,nn,H7,weak (nopin I7),T.keep _ _ _ st5 k4,k3,k2,k1,rv3,w7⟩
    |true=>
     rw[if_pos rfl] at q7 ⊢
     refine thn (YE _ s7 _ _ _ I7 q7) fun u8 s8 ⟨y8,H8,I8,r8,m',hm,w8⟩=>?_
     obtain⟨k1,k2,k3,k4⟩:=back I8
     refine append_at (hsz:=by rw[yD,←rv3.length];exact hsz) k1 fun h9 hs9 ho9=>?_
     have I9:Inv (zL X scope cl (x::ys) C s2 H2 fp) [] (some v::frees fr σ) H8 {s8 with heap:=h9}:=
      (nopin I8).turned (t':=s8.toks) (it:=D) (fun b o hb e=>(hs9.2 b hb).trans e) k2 hDC (.inr (by rw[←hDg];exact yF _)) (fun y c e=>yI (clt y c e)) fun p hp=>absurd (show p∈([]:List (Addr×Obj)) from hp) (by simp)
     refine⟨m',hm,i+1,vs++[y8],ws++[u8],nn+1,H8,weak I9,?_,k3,k2,?_,rv3.append (.cons r8 .nil),w8⟩
     ·refine T.keep _ _ _ st5 fun b hb o e=>?_
      exact (hs9.2 b (below b (fpl b hb)).2).trans (k4 b hb o e)
     ·rw[ho9,List.push_toArray]
  ·cases q:H2 D with
   |none=>rfl
   |some o=>exact absurd (tlt D o q) (xD _)
 exact codeAny_compStart_list (loop _ ⟨_,rfl⟩) (T.self _ 0 _ _ _ (T.keep _ _ _ st2 fun b _ o e=>old b o e) (loop _ ⟨_,rfl⟩))
end L2
namespace D
open PySem L2
theorem zc3{X:Cx}{i:Nat}{y:Str}{py spos:Pos}{elt iter:Expr}{x:Str}{px pos:Pos}{ifs:List Expr}{scope:Scope}{cl:List (Str×Addr)}(fr:List Nat)(ys:List Str){wi:TI}{tt:TT}{te:TE}
  (hc:X.calm=true) (hclos:closureFor scope X.env=pure cl) (hcell:∀y∈scope.names,y.2≠.cell) (hkind:scope.kind=.function) (hnames:∀y∈scope.names,y.2=.local->scope.names.lookup y.1=some .local)
  (hx:scope.names.lookup x=some .local) (hnd:(x::ys).Nodup) (hcl:ClOk cl X.env.cells) (hall:(scope.names.all fun y=>y.2 != .free||(cl.lookup y.1).isSome)=true) (hfr:FrOk X scope cl fr ys)
  (hi:QI X (.Name x px) iter wi)
  (hY:∀C s H fp,QIfs (zL X scope cl (x::ys) C s H fp) ifs tt/\QE (zL X scope cl (x::ys) C s H fp) elt te)
  (hN:X.N.Nodup) (hiy:X.N[i]?=some y) (hy:L2.Loc X.env.scope y) (hsw:swapsWith (.ListComp elt [⟨.Name x px,iter,ifs,0⟩] scope pos) (some (.Name y py)) spos.line X.env=pure true:=by rfl)
  (hf:X.fn y=true\/X.env.scope.names.lookup y=some .local:=by first|exact .inl rfl|exact .inr rfl|assumption)
  (hs:∀v,foldedSetIterable iter X.env v=pure v:=by intro _;rfl):
  QS X (.Assign [.Name y py] (.ListComp elt [⟨.Name x px,iter,ifs,0⟩] scope pos) spos) (tAsg (zb7 fr wi tt te) (Zj i)):=
 ⟨L2.zc3 fr ys hc hclos hcell hkind hnames hx hnd hcl hall hfr hi.un (fun C s H fp=>⟨(hY C s H fp).1.un,(hY C s H fp).2.un⟩) hN hiy hy hsw hf hs⟩
end D
namespace L2
open PySem PySem.Spec PyProof.Rows
theorem zfp{X:Cx}:zav X (.type "dict") (fun xs H Q=>∃(a:Addr)(kvs:List (Key×V)),xs=[.ref a]/\H a=some (.dK kvs)/\∀p,H p=none->Q (.ref p) (upd H p (.dK kvs))):=by
 intro zp s σ H xs us Q I r h
 obtain⟨a,kvs,rfl,e,q⟩:=h
 obtain⟨u,rfl,rx⟩:=zbv r
 cases rx
 exact zkS I (.inl e) fun p s' hp I'=>⟨.ref p,_,I',rfl,q p hp⟩
def zmh(P:Program)(w:World)(K:uZ)(td ty tx:TE):TE:=fun σ H Q=>td σ H fun x H1=>∃(g:Addr)(kvs:List (Key×V)),x=.ref g/\MD P w K g kvs/\ty σ H1 fun y H2=>tx σ H2 fun z H3=>∃k:Key,y=kV k/\Q ((valV kvs k).getD z) H3
theorem zes{X:Cx}{o e f:Expr}{apos cpos:Pos}{td ty tx:TE}(ho:PE X o td)(he:PE X e ty)(hf:PE X f tx)(m:M2 X o "get" apos e f cpos):PE X (.Call (.Attribute o "get" apos) [e,f] [] cpos) (zmh X.prog X.w X.K td ty tx):=by
 intro zp s σ H Q I h
 refine wpAny_Call_method m.base m.few m.line PySem.F.plainAttrs_dict PySem.F.slot_dict_get PySem.F.type_dict_get (thn (ho zp s σ H _ I h) fun u s1 ⟨x,H1,I1,rx,a,kvs,ex,d,q1⟩=>?_)
 subst ex
 obtain rfl:u=Value.ref a:=rx
 obtain⟨vs1,rel1,dd1,hd1⟩:=d.dict I1.kIn
 refine⟨dd1.typeIs,fun b q=>?_,?_⟩
 ·cases q
  obtain⟨ob,_,_,h1,h2,_⟩:=dd1
  exact⟨ob,h1,h2.2.1⟩
 rw[m.trees]
 refine Calls.callWith_builtin rfl (Calls.evalArgs_plain (Calls.spliced_cons (thn (he zp s1 σ H1 _ I1 q1) fun iv s2 ⟨y,H2,I2,ry,q2⟩=>
  Calls.spliced_cons (thn (hf zp s2 σ H2 _ I2 q2) fun fv s3 ⟨z,H3,I3,rz,k,ey,q3⟩=>Calls.spliced_nil ?_))))
 subst ey
 obtain⟨vs,rel,dd,hd⟩:=d.dict I3.kIn
 refine call_meetsIn PySem.F.slot_dict_get dd.typeIs PySem.F.entry_dict_get (PySem.F.args_dict_get_3 _ _ _) (meets_dict_get_default (zK X.prog X.w) a (zf4 ry) hd fv) ⟨_,dd.mapOf,?_⟩
 exact⟨_,H3,I3.tok _,(rel.val k).getD rz,q3⟩
end L2
namespace D
open PySem L2
theorem zes{X:Cx}{o e f:Expr}{apos cpos:Pos}{td ty tx:TE}(ho:QE X o td)(he:QE X e ty)(hf:QE X f tx)(m:M2 X o "get" apos e f cpos):QE X (.Call (.Attribute o "get" apos) [e,f] [] cpos) (zmh X.prog X.w X.K td ty tx):=⟨L2.zes ho.un he.un hf.un m⟩
end D
namespace L2
open PySem PySem.Spec PyProof.Rows
def Z2(P:Program)(w:World)(K:uZ)(mg:Str->Option Value)(base:Heap)(C:Addr)(m:Str)(k:Nat)(ps:List Str)(sp:Sp):Prop:=
 ∃(f:Addr)(fd:tD),FnOk P w K mg base CX0 k f fd ps sp/\Binds K fd ps []/\Meth K C m f/\Cls K C
def zce(P:Program)(w:World)(K:uZ)(mg:Str->Option Value)(base:Heap)(C:Addr)(x:Str)(k:Nat)(ps:List Str)(sp:Sp):Prop:=
 ∃(f:Addr)(fd:tD)(j:Nat),k=j+1/\FnOk P w K mg base CX0 j f fd ps sp/\Binds K fd ps []/\Mk K C f/\mg x=some (.ref C)
theorem Z2.mono{P:Program}{w:World}{K:uZ}{mg:Str->Option Value}{base:Heap}{C:Addr}{m:Str}{j k:Nat}{ps:List Str}{sp:Sp}(h:Z2 P w K mg base C m j ps sp)(e:j<=k):Z2 P w K mg base C m k ps sp:=
 let ⟨f,fd,F,r⟩:=h;⟨f,fd,F.mono e,r⟩
theorem Z2.up{P:Program}{w:World}{K:uZ}{mg:Str->Option Value}{base:Heap}{j k:Nat}{ps:List Str}{sp:Sp}{C:Addr}{m:Str}(h:Z2 P w K mg base C m j ps sp)(e:uH j k=true):Z2 P w K mg base C m k ps sp:=h.mono (xT e)
theorem zce.mono{P:Program}{w:World}{K:uZ}{mg:Str->Option Value}{base:Heap}{C:Addr}{m:Str}{j k:Nat}{ps:List Str}{sp:Sp}(h:zce P w K mg base C m j ps sp)(e:j<=k):zce P w K mg base C m k ps sp:=by
 obtain⟨f,fd,i,rfl,F,r⟩:=h
 exact⟨f,fd,k-1,by lia,F.mono (by lia),r⟩
theorem zce.up{P:Program}{w:World}{K:uZ}{mg:Str->Option Value}{base:Heap}{j k:Nat}{ps:List Str}{sp:Sp}{C:Addr}{m:Str}(h:zce P w K mg base C m j ps sp)(e:uH j k=true):zce P w K mg base C m k ps sp:=h.mono (xT e)
section
variable{X:Cx}{C:Addr}{x m:Str}{k:Nat}{ps:List Str}{sp:Sp}{e o:Expr}{es:List Expr}{ta:TE}{t:TA}{p pos apos:Pos}
theorem pe_m(G:Z2 X.prog X.w X.K X.mg X.base C m k ps sp)(hr:Room k X.A)(ho:PE X o ta)(ha:PA X (e::es) t){pl:Sem Bool}
  (hst:uS (e::es) X.env=(false,eval e X.env)::uS es X.env:=by rfl) (hpl:(backTo pos (uS es X.env)).any (·.1)=false:=by rfl)
  (ht:eval (.Call (.Attribute o m apos) (e::es) [] pos) X.env=(do
   let ov ←eval o X.env
   standAt apos.atName
   let (f,first) ←holding [ov] (getMethod ov m pl)
   callWith pos f first (backTo pos (uS (e::es) X.env)) (backToKw pos (keywordEach [] X.env))):=by rfl):
  PE X (.Call (.Attribute o m apos) (e::es) [] pos) (ze9 C m sp [] E0 ta t):=by
 obtain⟨f,fd,F,b,mm,c⟩:=G
 exact ziV ho c mm F hr b .nil zga ha hst hpl ht
theorem zh4(G:Z2 X.prog X.w X.K X.mg X.base C m k ps sp)(hr:Room k X.A)(ho:PE X o ta){pl:Sem Bool}
  (ht:eval (.Call (.Attribute o m apos) [] [] pos) X.env=(do
   let ov ←eval o X.env
   standAt apos.atName
   let (f,first) ←holding [ov] (getMethod ov m pl)
   callWith pos f first (backTo pos (uS [] X.env)) (backToKw pos (keywordEach [] X.env))):=by rfl):
  PE X (.Call (.Attribute o m apos) [] [] pos) (ze9 C m sp [] E0 ta tNil):=by
 obtain⟨f,fd,F,b,mm,c⟩:=G
 exact zg7 ho c mm F hr b .nil zga ht
theorem zfq(G:zce X.prog X.w X.K X.mg X.base C x k ps sp)(hr:Room k X.A)(hg:Gl X x)(ha:PA X (e::es) t)(hdb:(x==("__debug__":Str))=false:=by decide)
  (he:uS (e::es) X.env=(false,eval e X.env)::uS es X.env:=by rfl) (hpl:(backTo pos (uS es X.env)).any (·.1)=false:=by rfl):
  PE X (.Call (.Name x p) (e::es) [] pos) (zmE C sp [] E0 t):=by
 obtain⟨f,fd,j,rfl,F,b,mk,mg⟩:=G
 exact zmG mk F hr hg mg b .nil zga ha hdb he hpl
end
end L2
namespace D
open PySem L2
section
variable{X:Cx}{C:Addr}{x m:Str}{k:Nat}{ps:List Str}{sp:Sp}{e o:Expr}{es:List Expr}{ta:TE}{t:TA}{p pos apos:Pos}
theorem pe_m(G:Z2 X.prog X.w X.K X.mg X.base C m k ps sp)(hr:Room k X.A)(ho:QE X o ta)(ha:QA X (e::es) t){pl:Sem Bool}
  (hst:uS (e::es) X.env=(false,eval e X.env)::uS es X.env:=by rfl) (hpl:(backTo pos (uS es X.env)).any (·.1)=false:=by rfl)
  (ht:eval (.Call (.Attribute o m apos) (e::es) [] pos) X.env=(do
   let ov ←eval o X.env
   standAt apos.atName
   let (f,first) ←holding [ov] (getMethod ov m pl)
   callWith pos f first (backTo pos (uS (e::es) X.env)) (backToKw pos (keywordEach [] X.env))):=by rfl):
  QE X (.Call (.Attribute o m apos) (e::es) [] pos) (ze9 C m sp [] E0 ta t):=⟨L2.pe_m G hr ho.un ha.un hst hpl ht⟩
theorem zh4(G:Z2 X.prog X.w X.K X.mg X.base C m k ps sp)(hr:Room k X.A)(ho:QE X o ta){pl:Sem Bool}
  (ht:eval (.Call (.Attribute o m apos) [] [] pos) X.env=(do
   let ov ←eval o X.env
   standAt apos.atName
   let (f,first) ←holding [ov] (getMethod ov m pl)
   callWith pos f first (backTo pos (uS [] X.env)) (backToKw pos (keywordEach [] X.env))):=by rfl):
  QE X (.Call (.Attribute o m apos) [] [] pos) (ze9 C m sp [] E0 ta tNil):=⟨L2.zh4 G hr ho.un ht⟩
theorem zfq(G:zce X.prog X.w X.K X.mg X.base C x k ps sp)(hr:Room k X.A)(hg:Gl X x)(ha:QA X (e::es) t)(hdb:(x==("__debug__":Str))=false:=by decide)
  (he:uS (e::es) X.env=(false,eval e X.env)::uS es X.env:=by rfl) (hpl:(backTo pos (uS es X.env)).any (·.1)=false:=by rfl):
  QE X (.Call (.Name x p) (e::es) [] pos) (zmE C sp [] E0 t):=⟨L2.zfq G hr hg ha.un hdb he hpl⟩
end
end D
namespace L2
open PySem PySem.Spec PyProof.Rows
theorem Inv.turnedL{X:Cx}{zp:List (Addr×Obj)}{σ:St}{H:Hp}{s:Shared}{h':Heap}{t':Nat}{fp:List Addr}(I:Inv X zp σ H s)(k:∀b o,b ∉ fp->s.heap.get? b=some o->h'.get? b=some o)(hf:∀b∈fp,FpOk X zp H b):
  Inv X zp σ H {s with heap:=h',toks:=t'}:=by
 have nit:∀b u,H b=some u->b ∉ fp:=fun b u e z=>by
  have:=(hf b z).1
  rw[e] at this
  cases this
 refine I.step (g':=s.gens) (d':=s.drawn) (ch:=fp) (fun b hb=>?_) (fun b o _ _ hc e _=>k b o hc e) (fun b o _ _ hc e _=>⟨o.slots,k b o hc e⟩) (fun _ _ _ _ n=>n)
  (fun b o hc e=>⟨o,k b o hc e⟩) (fun _ _ e=>e) (fun _ _ _ e=>e) (fun b ps e=>⟨#[],by rw[e];simp⟩) (fun m hm=>?_) (fun b u e=>?_) I.bare
 ·obtain⟨f0,f1,f2,f3,f4,f5⟩:=hf b hb
  exact⟨f3,f1,f4,f5⟩
 ·obtain⟨o,es,ep,ho,r⟩:=hm
  exact⟨o,es,ep,k _ o (fun z=>(hf _ z).2.1 rfl) ho,r⟩
 ·refine (I.hok b u e).stay (fun c v hc q=>k c v ?_ q) (fun _ q=>q) fun _ _ q=>q
  rcases hc with z|z
  ·rw[z];exact nit b u e
  ·exact nit c _ z
theorem zhk{h:Heap}{o u:Obj}{b:Addr}(e:(h.push o).get? b=some u)(hb:b<h.objs.size):h.get? b=some u:=by
 rcases Heap.get?_push_cases e with⟨r,_⟩|r
 ·rw[r] at hb
  exact absurd hb (xD _)
 ·exact r
def Ite(K:uZ)(a:Addr):It:=
 ⟨fun i H=>∃xs x,SqL K H a xs/\xs[i]?=some x,fun i H x H'=>∃t y,H t=none/\x=.ref t/\(∀xs,SqL K H a xs->xs[i]?=some y)/\H'=upd H t (.tup [.int i,y]),fun i H=>∃xs,SqL K H a xs/\xs.length<=i⟩
theorem zjy{P:Program}{w:World}{K:uZ}{elts:List Expr}{k:Nat}{pos:Pos}(a e it:Addr)(hei:e≠it):Turn P w K (.Tuple elts k pos) (Ite K a) [e,it] e (fun i h=>(∃old,IsEnum h e it i old)/\h.IsListIter it a i) where
 mem:=by simp
 obj:=fun i h st b hb=>by
  obtain⟨⟨old,he⟩,hit⟩:=st
  have hc:b=e\/b=it:=by simpa using hb
  rcases hc with rfl|rfl
  ·exact⟨_,he,fun v z=>by
    have z':Data.fields _=Data.cell v:=z
    cases z'⟩
  ·obtain⟨o,eo,c,d⟩:=hit
   exact⟨o,eo,fun v z=>by rw[d] at z;cases z⟩
 keep:=fun i h h' st kk=>by
  obtain⟨⟨old,he⟩,hit⟩:=st
  exact⟨⟨old,kk e (by simp) _ he⟩,hit.at fun o x=>kk it (by simp) o x⟩
 item:=by
  intro X hP hw hK hc i zp s σ H E I hf st hg
  subst hP hw hK
  obtain⟨⟨old,he⟩,hit⟩:=st
  obtain⟨xs,x,hq,hx⟩:=hg
  obtain⟨its,rv,p,hz⟩:=I.list hq
  obtain⟨u,hu,ru⟩:=rv.get hx
  have hfr:H s.heap.objs.size=none:=I.hok.fresh (yF _)
  have helt:e<s.heap.objs.size:=uM he
  have hilt:it<s.heap.objs.size:=by obtain⟨_,z,_⟩:=hit;exact uM z
  refine wpAny_pyNext_enum_item he hit p.isList (x:=u) (by simpa using hu) hei fun h' ho hit' hT hsz hk=>⟨_,rfl,wpAny_letOwnedTupleGo_enum ho fun h2 he2 hs2=>?_⟩
  have I1:Inv X zp σ (upd H s.heap.objs.size (.tup [.int i,x])) {s with heap:=s.heap.push {cls:=.type "tuple",data:=.seq #[.int i s.toks,u]},toks:=s.toks}:=
   I.laid (t':=s.toks) (fun b u e=>uL _ e) (yF _) ⟨zl2,[.int i s.toks,u],.cons ⟨_,rfl⟩ (.cons ru .nil),⟨_,uN _ rfl,rfl,_,rfl⟩⟩
  have nn:∀b∈[e,it],upd H s.heap.objs.size (.tup [.int i,x]) b=none:=fun b hb=>by
   rw[zm (fun z=>by
    have hc:b=e\/b=it:=by simpa using hb
    rcases hc with r|r
    ·rw[←r,z] at helt;exact xD _ helt
    ·rw[←r,z] at hilt;exact xD _ hilt)]
   exact (hf b hb).1
  have I2:Inv X zp σ (upd H s.heap.objs.size (.tup [.int i,x])) {s with heap:=h2,toks:=s.toks+1}:=by
   refine Inv.turnedL (s:={s with heap:=s.heap.push {cls:=.type "tuple",data:=.seq #[.int i s.toks,u]},toks:=s.toks}) (h':=h2) (t':=s.toks+1) (fp:=[e,it]) I1 (fun b o hb eb=>?_) (fun b hb=>?_)
   ·have hbe:b≠e:=fun z=>hb (by simp[z])
    have hbi:b≠it:=fun z=>hb (by simp[z])
    refine (hs2.2 b hbe).trans ?_
    by_cases hbs:b=s.heap.objs.size
    ·subst hbs
     have e1:(s.heap.push {cls:=.type "tuple",data:=.seq #[.int i s.toks,u]}).get? s.heap.objs.size=some {cls:=.type "tuple",data:=.seq #[.int i s.toks,u]}:=uN _ rfl
     have eb:(s.heap.push {cls:=.type "tuple",data:=.seq #[.int i s.toks,u]}).get? s.heap.objs.size=some o:=eb
     rw[e1] at eb
     cases eb
     exact hT
    ·refine hk b o hbe hbi ?_
     have eb:(s.heap.push {cls:=.type "tuple",data:=.seq #[.int i s.toks,u]}).get? b=some o:=eb
     have hlt:=uM eb
     rw[Heap.size_push] at hlt
     exact zhk eb (Nat.lt_of_le_of_ne (Nat.le_of_lt_succ hlt) hbs)
   ·obtain⟨f0,f1,f2,f3,f4,f5⟩:=hf b hb
    exact⟨nn b hb,f1,f2,f3,f4,f5⟩
  refine⟨.ref s.heap.objs.size,_,I2,rfl,⟨s.heap.objs.size,x,hfr,rfl,fun ys hy=>by rw[I.list_inj hy hq];exact hx,rfl⟩,⟨⟨_,by simpa using he2⟩,hit'.at fun o y=>(hs2.2 it hei.symm).trans y⟩,nn⟩
 done:=by
  intro X hP hw hK hc i zp s σ H E I hf st hg
  subst hP hw hK
  obtain⟨⟨old,he⟩,hit⟩:=st
  obtain⟨xs,hq,hx⟩:=hg
  obtain⟨its,rv,p,hz⟩:=I.list hq
  have hl:=rv.length
  refine wpAny_pyNext_enum_end (I.ok.hd hc) he hit p.isList (by simp;lia) fun h' eb=>⟨rfl,?_⟩
  exact I.turnedL (t':=s.toks) (fp:=[e,it]) (fun b o hb e'=>eb b o (fun z=>hb (by simp[z])) e') hf
 self:=fun _ _ _ _ _ st h=>by
  obtain⟨⟨old,he⟩,_⟩:=st
  exact wpAny_pyIter_enum he h
theorem zjz:uT (uI "enumerate")=some (.type "enumerate"):=by kernel_rfl
def zn9(K:uZ)(ta:TA):TI:=fun σ H R=>ta σ H fun vs H1=>∃(a:Addr)(xs:List V),vs=[.ref a]/\SqL K H1 a xs/\R (Ite K a) H1
theorem zc4{X:Cx}{elts:List Expr}{k:Nat}{ps:Pos}{a:Expr}{ta:TA}{p pos:Pos}(hg:Gl X "enumerate")(hm:X.mg "enumerate"=none)(ha:PA X [a] ta)(hs:uS [a] X.env=[(false,eval a X.env)]:=by rfl):
  PI X (.Tuple elts k ps) (.Call (.Name "enumerate" p) [a] [] pos) (zn9 X.K ta):=by
 intro zp s σ H R I h
 refine Call_ (zcr I hg hm zjz (PyProof.Rows.callWith_type1 (thn (ha pos zp s σ H _ I h) fun us s1 ⟨vs,H1,I1,r1,q1⟩=>?_) hs rfl))
 obtain⟨b,xs,e,hq,q⟩:=q1
 subst e
 obtain⟨u,rfl,rx⟩:=zbv r1
 cases rx
 obtain⟨its,rv,pl,hz⟩:=I1.list hq
 refine call_enumerate_list pl.isList fun h' he hi hsz hk=>?_
 have hne:s1.heap.objs.size+1≠s1.heap.objs.size:=Nat.succ_ne_self _
 refine wpAny_pyIter_enum he ?_
 have I2:Inv X zp σ H1 {s1 with heap:=h',toks:=s1.toks}:=I1.kept (t':=s1.toks) hk
 refine⟨s1.heap.objs.size+1,[s1.heap.objs.size+1,s1.heap.objs.size],_,_,H1,rfl,I2,zjy b _ _ hne,⟨⟨_,he⟩,hi⟩,fun c hc=>?_,q⟩
 have hcs:c=s1.heap.objs.size+1\/c=s1.heap.objs.size:=by simpa using hc
 have hle:s1.heap.objs.size<=c:=by
  rcases hcs with r|r
  ·rw[r];exact wQ _
  ·rw[r];exact yF _
 exact I1.fpOk hle (I1.hok.fresh hle)
theorem zet{K:uZ}{a:Addr}{xs:List V}{g:TG}{tb:TS}{D:Ends}{σ:St}{H:Hp}(Pv:Nat->St->Hp->Prop)(h0:Pv 0 σ H)(hl:∀i σ H,i<=xs.length->Pv i σ H->SqL K H a xs)
  (hs:∀i x t σ H,xs[i]?=some x->H t=none->Pv i σ H->g (.ref t) σ (upd H t (.tup [.int i,x])) fun σ2 H2=>tb {D with nx:=Pv (i+1),ct:=Pv (i+1),bk:=D.nx} σ2 H2) (hd:∀σ H,Pv xs.length σ H->D.nx σ H):
  ∃W:Nat->Nat->St->Hp->Prop,(∃m,W 0 m σ H)/\∀i m σ H,W i m σ H->
   ((Ite K a).stop i H/\D.nx σ H)\/((Ite K a).go i H/\∃N:St->Hp->Prop,(∀σ' H',N σ' H'->∃m',m'<m/\W (i+1) m' σ' H')/\∀x H',(Ite K a).yld i H x H'->g x σ H' fun σ2 H2=>tb {D with nx:=N,ct:=N,bk:=D.nx} σ2 H2):=by
 refine⟨fun i m σ H=>m=xs.length-i/\i<=xs.length/\Pv i σ H,⟨xs.length,by simp,yN _,h0⟩,?_⟩
 rintro i m σ H ⟨rfl,hi,p⟩
 have q:=hl i σ H hi p
 by_cases hlt:i<xs.length
 ·refine .inr ⟨⟨xs,xs[i],q,by simp[hlt]⟩,Pv (i+1),fun σ' H' p'=>⟨xs.length-(i+1),by lia,rfl,hlt,p'⟩,fun x H' y=>?_⟩
  obtain⟨t,y,ht,rfl,hy,rfl⟩:=y
  exact hs i y t σ H (hy xs q) ht p
 ·have e:i=xs.length:=by lia
  subst e
  exact .inl ⟨⟨xs,q,yF _⟩,hd σ H p⟩
end L2
namespace D
open PySem L2
theorem zc4{X:Cx}{elts:List Expr}{k:Nat}{ps:Pos}{a:Expr}{ta:TA}{p pos:Pos}(hg:Gl X "enumerate")(hm:X.mg "enumerate"=none)(ha:QA X [a] ta)(hs:uS [a] X.env=[(false,eval a X.env)]:=by rfl):
  QI X (.Tuple elts k ps) (.Call (.Name "enumerate" p) [a] [] pos) (zn9 X.K ta):=⟨L2.zc4 hg hm ha.un hs⟩
end D
namespace D
open PySem L2 PySem.Spec PyProof.Rows
theorem zjA{xs:List V}{its:List Value}(r:Vals xs its){j:Nat}{x:V}(h:xs[j]?=some x)(hj:j<its.toArray.size):RelV x its.toArray[j]:=by
 obtain⟨u,hu,ru⟩:=r.get h
 have e:its.toArray[j]=u:=by
  have:=(yC.mp hu).2
  simpa using this
 rw[e]
 exact ru
theorem zoa{X:Cx}(hu:X.A.units<cLine):OpR X (uU .Eq) (fun x y H Q=>∃(a b:Addr)(us:List V),x=.ref a/\y=.ref b/\SqL X.K H a us/\SqL X.K H b []/\Q (.bl us.isEmpty) H):=by
 intro zp s σ H x y v u Q I rx ry h
 obtain⟨a,b,us,rfl,rfl,ha,hb,q⟩:=h
 cases rx
 cases ry
 obtain⟨its,v1,p1,_⟩:=I.list ha
 obtain⟨its2,v2,p2,_⟩:=I.list hb
 have l1:=v1.length
 have l2:=v2.length
 cases us with
 |nil=>
  refine SeqAt.eq_listAt (e:=fun _=>true) p1.isList p2.isList (by rw[yD,yD];lia) hu (fun j h1 h2=>?_) ?_
  ·have h3:j<its.length:=by simpa using h1
   exact absurd h3 (by rw[←l1];exact Nat.not_lt_zero _)
  ·have e:((xR its.toArray.size).all fun _=>true)=true:=by simp
   rw[e]
   exact⟨.bl true,H,I,rfl,q⟩
 |cons x r=>
  have hsz:(its.toArray.size != its2.toArray.size)=true:=by
   rw[yD,yD,←l1,←l2]
   simp
  exact SeqAt.eq_list_lengthsAt p1.isList p2.isList hsz hu ⟨.bl false,H,I,rfl,q⟩
end D
namespace L2
open PySem PySem.Spec PyProof.Rows
end L2
namespace D
open PySem L2
end D
namespace L2
open PySem PySem.Spec PyProof.Rows
section
variable{prog:Program}{w:World}{A:Around}{E:Value->Shared->Prop}{s:Shared}
end
section
variable{prog:Program}{w:World}{A:Around}{E:Value->Shared->Prop}{s:Shared}
end
theorem zk9:uT (uI "zip")=some (.type "zip"):=by kernel_rfl
end L2
namespace D
open PySem L2
end D
namespace L2
open PySem PySem.Spec PyProof.Rows
section
variable{prog:Program}{w:World}{A:Around}{E:Value->Shared->Prop}{s:Shared}
abbrev zhl(h:Heap)(z TI TO:Addr)(f0:Value)(f1:Bool):Prop:=
 h.get? z=some {cls:=.type "zip",dict:=none,data:=.fields #[f0,.bool f1,.bool false,.ref TI,.ref TO],slots:=#[]}
structure ZL(h:Heap)(z TI TO i1 i2 l1 l2:Addr)(k:Nat)(xs ys:Array Value):Prop where
 zip:IsZip h z TI TO .none\/∃(T:Addr)(o:Obj)(f:Bool),zhl h z TI TO (rawInt T) f/\h.get? T=some o/\T≠z/\T≠TO/\T≠i1/\T≠i2
 ti:IsPair h TI (.ref i1) (.ref i2)
 to:∃a b,IsPair h TO a b
 it1:h.IsListIter i1 l1 k
 it2:h.IsListIter i2 l2 k
 ls1:h.IsList l1 xs
 ls2:h.IsList l2 ys
theorem alive{a:Addr}{o:Obj}{Q:Option Obj->Shared->Prop}(ho:s.heap.get? a=some o)(h:Q (some o) s):wpAny (model prog w) A (loadIfAlive a) Q E s:=by
 have h':Q (s.heap.get? a) s:=by rw[ho];exact h
 exact fun _ _ _=>h'
theorem zhm{z TI TO T:Addr}{o:Obj}{f:Bool}{Q:Bool->Shared->Prop}(hz:zhl s.heap z TI TO (rawInt T) f)(hT:s.heap.get? T=some o)
  (q:∀h1,zhl h1 z TI TO (rawInt T) true->Heap.SameBut z s.heap h1->Q false {s with heap:=h1}):wpAny (model prog w) A (Builtin.SmallTypes.ownedTupleIsFree (.ref z)) Q E s:=by
 unfold Builtin.SmallTypes.ownedTupleIsFree
 refine uJ (wpAny_field hz rfl (x:=rawInt T) rfl ?_)
 show wpAny _ _ (loadIfAlive ((T:Int).toNat)>>=_) _ _ _
 rw[Int.toNat_natCast]
 refine uJ (alive hT ?_)
 simp only[Option.isNone_some,yZ,if_false]
 refine uJ (wpAny_field hz rfl (x:=.bool f) rfl ?_)
 cases f with
 |true=>
  rw[if_neg (show ¬((Value.bool true != Value.bool true)=true) from yH)]
  exact uK (q s.heap hz (Heap.SameBut.refl _ _))
 |false=>
  rw[if_pos (show (Value.bool false != Value.bool true)=true from rfl)]
  refine uJ (wpAny_setField_rec hz (by simp) fun h1 z1 s1=>?_)
  exact uK (q h1 z1 s1)
theorem zm5{z TI TO i1 i2 l1 l2:Addr}{k:Nat}{xs ys:Array Value}{x y:Value}{Q:Option Value->Shared->Prop}(D:ZipApart z TI TO i1 i2 l1 l2)(Z:ZL s.heap z TI TO i1 i2 l1 l2 k xs ys)(e1:xs[k]?=some x)(e2:ys[k]?=some y)
  (q:∀h',ZL h' z TI TO i1 i2 l1 l2 (k+1) xs ys->IsPair h' s.heap.objs.size x y->(∀c o,c≠z->c≠TO->c≠i1->c≠i2->s.heap.get? c=some o->h'.get? c=some o)->Q (some (.ref s.heap.objs.size)) {s with heap:=h'}):
  wpAny (model prog w) A (pyNext (.ref z)) Q E s:=by
 obtain⟨zz,hI,⟨a,b,hO⟩,j1,j2,L1,L2⟩:=Z
 have lt:∀ {c o},s.heap.get? c=some o->s.heap.objs.size≠c:=fun e=>xV (uM e)
 have n1:s.heap.objs.size≠i1:=by obtain⟨_,e,_⟩:=j1;exact lt e
 have n2:s.heap.objs.size≠i2:=by obtain⟨_,e,_⟩:=j2;exact lt e
 rcases zz with hz|⟨T,o,f,hz,hT,nz,nO,ni1,ni2⟩
 ·refine wpAny_pyNext_zip_item D hz hI hO j1 j2 L1 L2 e1 e2 fun h' a1 a2 a3 a4 a5 a6 a7=>q h' ⟨.inr ⟨_,_,false,a1,a5,lt hz,lt hO,n1,n2⟩,a7 _ _ D.TIz D.TITO D.TIi1 D.TIi2 hI,⟨_,_,a2⟩,a3,a4,L1.at fun o e=>a7 _ o D.l1z D.l1TO D.l1i1 D.l1i2 e,L2.at fun o e=>a7 _ o D.l2z D.l2TO D.l2i1 D.l2i2 e⟩ a5 a7
 ·have ty:s.TypeIs (.ref z) "zip":=⟨_,hz,rfl⟩
  unfold pyNext
  refine uJ (wpAny_attempt (wpAny_callSpecial?_slot (name:=uI "__next__") ty F.slot_zip_next (wpAny_call_entry F.slot_zip_next ty F.entry_zip_next ?_ (F.args_zip_next_1 _))))
  show wpAny _ _ (field (.ref z) 2>>=_) _ _ _;refine uJ (wpAny_field hz rfl (x:=.bool false) rfl ?_)
  show wpAny _ _ (field (.ref z) 3>>=_) _ _ _;refine uJ (wpAny_field hz rfl (x:=.ref TI) rfl ?_)
  refine uJ (wpAny_seqItems hI rfl ?_)
  show wpAny _ _ (Builtin.SmallTypes.ownedTupleIsFree (.ref z)>>=_) _ _ _
  refine uJ (zhm hz hT fun h1 z1 s1=>?_)
  simp only[yZ,if_false]
  refine uJ ?_
  simp only[uB,List.forIn_cons,List.forIn_nil]
  refine uJ (uJ (wpAny_holding ?_));show wpAny _ _ (Builtin.SmallTypes.nextOf (.ref i1)>>=_) _ _ _
  refine uJ (wpAny_nextOf_list_item (j1.extBut s1.extBut D.i1z) (L1.extBut s1.extBut D.l1z) e1 fun h2 j12 s2=>uK ?_)
  refine uK ?_
  refine uJ (uJ (wpAny_holding ?_));show wpAny _ _ (Builtin.SmallTypes.nextOf (.ref i2)>>=_) _ _ _
  refine uJ (wpAny_nextOf_list_item ((j2.extBut s1.extBut D.i2z).extBut s2.extBut D.i12.symm) ((L2.extBut s1.extBut D.l2z).extBut s2.extBut D.l2i1) e2 fun h3 j23 s3=>uK ?_)
  refine uK (uK ?_)
  show wpAny _ _ (newTuple [x,y]>>=_) _ _ _
  refine uJ (wpAny_newTuple ?_)
  have size:h3.objs.size=s.heap.objs.size:=by rw[s3.1,s2.1,s1.1]
  have ke:∀c o,c≠z->c≠i1->c≠i2->s.heap.get? c=some o->(h3.push {cls:=.type "tuple",data:=.seq #[x,y]}).get? c=some o:=fun c o n1 n2 n3 e=>uL _ (s3.extBut _ _ n3 (s2.extBut _ _ n2 (s1.extBut _ _ n1 e)))
  have zz:zhl (h3.push {cls:=.type "tuple",data:=.seq #[x,y]}) z TI TO (rawInt T) true:=uL _ (s3.extBut _ _ D.i2z.symm (s2.extBut _ _ D.i1z.symm z1))
  refine uK ⟨_,rfl,uK ?_⟩
  show Q (some (.ref h3.objs.size)) _
  have tp:IsPair (h3.push {cls:=.type "tuple",data:=.seq #[x,y]}) h3.objs.size x y:=uN _ rfl
  rw[size] at tp ⊢
  refine q _ ⟨.inr ⟨T,o,true,zz,ke T o nz ni1 ni2 hT,nz,nO,ni1,ni2⟩,ke _ _ D.TIz D.TIi1 D.TIi2 hI,⟨_,_,ke _ _ D.TOz D.TOi1 D.TOi2 hO⟩,?_,?_,L1.at fun o e=>ke _ o D.l1z D.l1i1 D.l1i2 e,L2.at fun o e=>ke _ o D.l2z D.l2i1 D.l2i2 e⟩ tp fun c o n1 _ n3 n4 e=>ke c o n1 n3 n4 e
  ·exact (j12.extBut s3.extBut D.i12).at fun o e=>uL _ e
  ·exact j23.at fun o e=>uL _ e
theorem zob{z TI TO i1 i2 l1 l2:Addr}{k:Nat}{xs ys:Array Value}{Q:Option Value->Shared->Prop}(hh:A.handled=none)(D:ZipApart z TI TO i1 i2 l1 l2)(Z:ZL s.heap z TI TO i1 i2 l1 l2 k xs ys)(he:xs[k]?=none\/ys[k]?=none)
  (q:∀h',(∀c o,c≠z->c≠TO->c≠i1->c≠i2->s.heap.get? c=some o->h'.get? c=some o)->Q none {s with heap:=h'}):wpAny (model prog w) A (pyNext (.ref z)) Q E s:=by
 obtain⟨zz,hI,⟨a,b,hO⟩,j1,j2,L1,L2⟩:=Z
 rcases zz with hz|⟨T,o,f,hz,hT,nz,nO,ni1,ni2⟩
 ·exact wpAny_pyNext_zip_end hh D hz hI hO j1 j2 L1 L2 he q
 ·have ty:s.TypeIs (.ref z) "zip":=⟨_,hz,rfl⟩
  unfold pyNext
  refine uJ (wpAny_attempt (wpAny_callSpecial?_slot (name:=uI "__next__") ty F.slot_zip_next (wpAny_call_entry F.slot_zip_next ty F.entry_zip_next ?_ (F.args_zip_next_1 _))))
  show wpAny _ _ (field (.ref z) 2>>=_) _ _ _;refine uJ (wpAny_field hz rfl (x:=.bool false) rfl ?_)
  show wpAny _ _ (field (.ref z) 3>>=_) _ _ _;refine uJ (wpAny_field hz rfl (x:=.ref TI) rfl ?_)
  refine uJ (wpAny_seqItems hI rfl ?_)
  show wpAny _ _ (Builtin.SmallTypes.ownedTupleIsFree (.ref z)>>=_) _ _ _
  refine uJ (zhm hz hT fun h1 z1 s1=>?_)
  simp only[yZ,if_false]
  refine uJ ?_
  simp only[uB,List.forIn_cons,List.forIn_nil]
  refine uJ (uJ (wpAny_holding ?_));show wpAny _ _ (Builtin.SmallTypes.nextOf (.ref i1)>>=_) _ _ _
  cases hx:xs[k]? with
  |none=>
   refine uJ (wpAny_nextOf_list_end hh (j1.extBut s1.extBut D.i1z) (L1.extBut s1.extBut D.l1z) hx fun h2 e s2 ee=>?_)
   obtain⟨oe,ge,ce⟩:=ee
   refine uJ (wpAny_isInstance (T:="StopIteration") (b:=true) ⟨oe,ge,ce⟩ isSubtype_stop ?_)
   exact uK (q _ fun c o n1 _ n3 _ e=>s2 _ _ n3 (s1.extBut _ _ n1 e))
  |some x=>
   have hy:ys[k]?=none:=by rcases he with h|h;rw[hx] at h;cases h;exact h
   refine uJ (wpAny_nextOf_list_item (j1.extBut s1.extBut D.i1z) (L1.extBut s1.extBut D.l1z) hx fun h2 j12 s2=>uK ?_)
   refine uK ?_
   refine uJ (uJ (wpAny_holding ?_));show wpAny _ _ (Builtin.SmallTypes.nextOf (.ref i2)>>=_) _ _ _
   refine uJ (wpAny_nextOf_list_end hh ((j2.extBut s1.extBut D.i2z).extBut s2.extBut D.i12.symm) ((L2.extBut s1.extBut D.l2z).extBut s2.extBut D.l2i1) hy fun h3 e s3 ee=>?_)
   obtain⟨oe,ge,ce⟩:=ee
   refine uJ (wpAny_isInstance (T:="StopIteration") (b:=true) ⟨oe,ge,ce⟩ isSubtype_stop ?_)
   exact uK (q _ fun c o n1 _ n3 n4 e=>s3 _ _ n4 (s2.extBut _ _ n3 (s1.extBut _ _ n1 e)))
end
def Prs(H:Hp)(xs ys:List V)(ts:List Addr):Prop:=∀(j:Nat)(t:Addr)(x y:V),ts[j]?=some t->xs[j]?=some x->ys[j]?=some y->H t=some (.tup [x,y])
abbrev zjB(h:Heap)(S:Addr)(acc:Array Value)(c:Nat):Prop:=h.get? S=some {cls:=.type "list",dict:=none,data:=.seq acc c,slots:=#[]}
section
variable{X:Cx}{zp:List (Addr×Obj)}{σ:St}{A:Around}{R:Result->Shared->Prop}{z TI TO i1 i2 l1 l2 S:Addr}{xs ys:List V}{as bs:List Value}
theorem zm6(hh:A.handled=none)(D:ZipApart z TI TO i1 i2 l1 l2)(va:Vals xs as)(vb:Vals ys bs)(hS:S ∉ [z,TI,TO,i1,i2])(s1:S≠l1)(s2:S≠l2)(res:Value)(hn:xs.length<=uQ):
  ∀(k i:Nat)(s:Shared)(H:Hp)(ts:List Addr)(acc:Array Value)(c:Nat),min xs.length ys.length-i=k->i<=min xs.length ys.length->Inv X zp σ H s->(∀b∈[S,z,TI,TO,i1,i2],FpOk X zp H b)->
   ZL s.heap z TI TO i1 i2 l1 l2 i as.toArray bs.toArray->zjB s.heap S acc c->acc.toList=ts.map Value.ref->ts.length=i->Prs H xs ys ts->
   (∀(s':Shared)(H':Hp)(ts':List Addr)(acc':Array Value)(c':Nat),Inv X zp σ H' s'->(∀b o,H b=some o->H' b=some o)->zjB s'.heap S acc' c'->acc'.toList=ts'.map Value.ref->ts'.length=min xs.length ys.length->Prs H' xs ys ts'->R (.ok (.ret res)) s')->
   codeAny (model X.prog X.w) A (.builtin "list.extend.loop" ⟨[.ref S,.ref z,res],[]⟩) R s:=by
 intro k
 have la:=va.length
 have lb:=vb.length
 induction k with
 |zero=>
  intro i s H ts acc c hk hi I hf Z LS ha hl hp q
  refine codeAny_builtin PySem.F.entry_extend_loop ?_
  rw[Around.under_plainId PySem.F.plain_extend_loop _]
  show wpAny _ A.in1 (pyNext (.ref z)>>=_) _ _ s
  refine uJ (zob hh D Z ?_ fun h' kp=>?_)
  ·rcases Nat.le_total xs.length ys.length with h|h
   ·exact .inl (by simp;lia)
   ·exact .inr (by simp;lia)
  have nS:S≠z/\S≠TO/\S≠i1/\S≠i2:=by simp at hS;exact⟨hS.1,hS.2.2.1,hS.2.2.2.1,hS.2.2.2.2⟩
  refine uK (q _ H ts acc c (I.turnedL (t':=s.toks) (fp:=[S,z,TI,TO,i1,i2]) (fun b o hb e=>kp b o (fun t=>hb (by simp[t])) (fun t=>hb (by simp[t])) (fun t=>hb (by simp[t])) (fun t=>hb (by simp[t])) e) hf) (fun b o e=>e) (kp S _ nS.1 nS.2.1 nS.2.2.1 nS.2.2.2 LS) ha (by lia) hp)
 |succ k ih=>
  intro i s H ts acc c hk hi I hf Z LS ha hl hp q
  refine codeAny_builtin PySem.F.entry_extend_loop ?_
  rw[Around.under_plainId PySem.F.plain_extend_loop _]
  show wpAny _ A.in1 (pyNext (.ref z)>>=_) _ _ s
  have ix:i<xs.length:=by lia
  have iy:i<ys.length:=by lia
  obtain⟨u,eu,ru⟩:=va.get (yA ix)
  obtain⟨v,ev,rv⟩:=vb.get (yA iy)
  have old:∀b∈[S,z,TI,TO,i1,i2],b<s.heap.objs.size:=fun b hb=>by
   obtain⟨hz,hI,⟨x,y,hO⟩,⟨o1,g1,_⟩,⟨o2,g2,_⟩,_,_⟩:=id Z
   have hc:b=S\/b=z\/b=TI\/b=TO\/b=i1\/b=i2:=by simpa using hb
   rcases hc with rfl|rfl|rfl|rfl|rfl|rfl
   ·exact uM LS
   ·rcases hz with hz|⟨_,_,_,hz,_⟩<;>exact uM hz
   ·exact uM hI
   ·exact uM hO
   ·exact uM g1
   ·exact uM g2
  have nS:S≠z/\S≠TI/\S≠TO/\S≠i1/\S≠i2:=by simp at hS;exact⟨hS.1,hS.2.1,hS.2.2.1,hS.2.2.2.1,hS.2.2.2.2⟩
  refine uJ (zm5 D Z (x:=u) (y:=v) (by simpa using eu) (by simpa using ev) fun h1 Z1 T1 k1=>?_)
  have LS1:zjB h1 S acc c:=k1 S _ nS.1 nS.2.2.1 nS.2.2.2.1 nS.2.2.2.2 LS
  have sz:acc.size=i:=by rw[←xE,ha,yB];exact hl
  show wpAny _ A.in1 (updateSeq S (·.push (.ref s.heap.objs.size))>>=_) _ _ _
  refine uJ ?_
  have I1:Inv X zp σ (upd H s.heap.objs.size (.tup [xs[i],ys[i]])) {s with heap:=s.heap.push {cls:=.type "tuple",data:=.seq #[u,v]},toks:=s.toks}:=
   I.laid (t':=s.toks) (fun b u e=>uL _ e) (yF _) ⟨zl2,[u,v],.cons ru (.cons rv .nil),⟨_,uN _ rfl,rfl,_,rfl⟩⟩
  have hf1:∀b∈[S,z,TI,TO,i1,i2],FpOk X zp (upd H s.heap.objs.size (.tup [xs[i],ys[i]])) b:=fun b hb=>by
   obtain⟨f0,f1⟩:=hf b hb
   exact⟨by rw[zm (yI (old b hb))];exact f0,f1⟩
  refine wpAny_updateSeq LS1 rfl (uK ⟨plainId_quiet PySem.F.plain_extend_loop _,?_⟩) (by rw[sz];lia) (by show (acc.push (.ref s.heap.objs.size)).size<=uQ+1;rw[Array.size_push,sz];lia)
  have oth:∀b o,b≠S->h1.get? b=some o->(h1.update S (Obj.mapSeq (·.push (.ref s.heap.objs.size)))).get? b=some o:=fun b o hb e=>(Heap.get?_update_other _ _ (Ne.symm hb)).trans e
  refine ih (i+1) _ (upd H s.heap.objs.size (.tup [xs[i],ys[i]])) (ts++[s.heap.objs.size]) (acc.push (.ref s.heap.objs.size)) _ (by lia) (by lia) ?_ hf1 ?_ (Heap.get?_update_self _ LS1 rfl) (by simp[ha]) (by simp[hl]) ?_ fun s' H' ts' acc' c' I' sm LS' ha' hl' hp'=>q s' H' ts' acc' c' I' (fun b o e=>sm b o ?_) LS' ha' hl' hp'
  ·refine Inv.turnedL (s:={s with heap:=s.heap.push {cls:=.type "tuple",data:=.seq #[u,v]},toks:=s.toks}) (t':=s.toks) (fp:=[S,z,TI,TO,i1,i2]) I1 (fun b o hb e=>?_) hf1
   refine oth b o (fun t=>hb (by simp[t])) ?_
   by_cases hcs:b=s.heap.objs.size
   ·subst hcs
    have f1:(s.heap.push {cls:=.type "tuple",data:=.seq #[u,v]}).get? s.heap.objs.size=some {cls:=.type "tuple",data:=.seq #[u,v]}:=uN _ rfl
    have e:(s.heap.push {cls:=.type "tuple",data:=.seq #[u,v]}).get? s.heap.objs.size=some o:=e
    rw[f1] at e
    cases e
    exact T1
   ·refine k1 b o (fun t=>hb (by simp[t])) (fun t=>hb (by simp[t])) (fun t=>hb (by simp[t])) (fun t=>hb (by simp[t])) ?_
    have e:(s.heap.push {cls:=.type "tuple",data:=.seq #[u,v]}).get? b=some o:=e
    have hlt:=uM e
    rw[Heap.size_push] at hlt
    exact zhk e (Nat.lt_of_le_of_ne (Nat.le_of_lt_succ hlt) hcs)
  ·obtain⟨hz,hI,⟨x,y,hO⟩,j1,j2,L1,L2⟩:=Z1
   have tS:s.heap.objs.size≠S:=xV (old S (by simp))
   refine⟨?_,oth _ _ nS.2.1.symm hI,⟨x,y,oth _ _ nS.2.2.1.symm hO⟩,j1.at fun o e=>oth _ o nS.2.2.2.1.symm e,j2.at fun o e=>oth _ o nS.2.2.2.2.symm e,L1.at fun o e=>oth _ o s1.symm e,L2.at fun o e=>oth _ o s2.symm e⟩
   rcases hz with hz|⟨T,o,f,hz,hT,r⟩
   ·exact .inl (oth _ _ nS.1.symm hz)
   ·by_cases hTS:T=S
    ·subst hTS
     exact .inr ⟨T,_,f,oth _ _ nS.1.symm hz,Heap.get?_update_self _ LS1 rfl,r⟩
    ·exact .inr ⟨T,o,f,oth _ _ nS.1.symm hz,oth _ _ hTS hT,r⟩
  ·intro j t x y ej ex ey
   by_cases hj:j<ts.length
   ·rw[yJ hj] at ej
    have:=hp j t x y ej ex ey
    rw[zm (fun z=>by rw[z,I.fresh] at this;cases this)]
    exact this
   ·have hji:j=i:=by
     have:=(yC.mp ej).1
     simp only[yE,yG,wW] at this
     lia
    subst hji
    rw[←hl,yL (yF _),Nat.sub_self] at ej
    cases ej
    rw[yA ix] at ex
    rw[yA iy] at ey
    cases ex
    cases ey
    exact zc
  ·rw[zm (fun z=>by rw[z,I.fresh] at e;cases e)]
   exact e
end
abbrev nl(h:Heap):Heap:=h.push {cls:=.type "list",data:=.seq ([]:List Value).toArray}
theorem zh5:typeLookup (.type "zip") "__len__"=pure none:=by rw[typeLookup_type,builtinLookup_eq_fast];kernel_rfl
theorem zgj:typeLookup (.type "zip") "__length_hint__"=pure none:=by rw[typeLookup_type,builtinLookup_eq_fast];kernel_rfl
section
variable{X:Cx}{zp:List (Addr×Obj)}{σ:St}{A:Around}{E:Value->Shared->Prop}{s:Shared}{H:Hp}{z TI TO i1 i2 l1 l2:Addr}{xs ys:List V}{as bs:List Value}
theorem ZL.ty{s:Shared}{k:Nat}{xs ys:Array Value}(Z:ZL s.heap z TI TO i1 i2 l1 l2 k xs ys):s.TypeIs (.ref z) "zip":=by
 rcases Z.zip with h|⟨_,_,_,h,_⟩<;>exact⟨_,h,rfl⟩
theorem ZL.old{h:Heap}{k:Nat}{xs ys:Array Value}(Z:ZL h z TI TO i1 i2 l1 l2 k xs ys):∀b∈[z,TI,TO,i1,i2,l1,l2],b<h.objs.size:=fun b hb=>by
 obtain⟨hz,hI,⟨x,y,hO⟩,⟨o1,g1,_⟩,⟨o2,g2,_⟩,⟨o3,g3,_⟩,⟨o4,g4,_⟩⟩:=Z
 have hc:b=z\/b=TI\/b=TO\/b=i1\/b=i2\/b=l1\/b=l2:=by simpa using hb
 rcases hc with rfl|rfl|rfl|rfl|rfl|rfl|rfl
 ·rcases hz with hz|⟨_,_,_,hz,_⟩<;>exact uM hz
 ·exact uM hI
 ·exact uM hO
 ·exact uM g1
 ·exact uM g2
 ·exact uM ‹_›
 ·exact uM ‹_›
theorem ZL.keep{h h':Heap}{k:Nat}{xs ys:Array Value}(Z:ZL h z TI TO i1 i2 l1 l2 k xs ys)(e:∀b o,h.get? b=some o->h'.get? b=some o):ZL h' z TI TO i1 i2 l1 l2 k xs ys:=by
 obtain⟨hz,hI,⟨x,y,hO⟩,j1,j2,L1,L2⟩:=Z
 refine⟨?_,e _ _ hI,⟨x,y,e _ _ hO⟩,j1.at fun o q=>e _ o q,j2.at fun o q=>e _ o q,L1.at fun o q=>e _ o q,L2.at fun o q=>e _ o q⟩
 rcases hz with hz|⟨T,o,f,hz,hT,r⟩
 ·exact .inl (e _ _ hz)
 ·exact .inr ⟨T,o,f,e _ _ hz,e _ _ hT,r⟩
def ZQ(X:Cx)(zp:List (Addr×Obj))(σ:St)(H:Hp)(xs ys:List V)(H':Hp)(ts:List Addr)(s':Shared):Prop:=
 Inv X zp σ H' s'/\(∀b o,H b=some o->H' b=some o)/\ts.length=min xs.length ys.length/\Prs H' xs ys ts
theorem zgk{Q:List Value->Shared->Prop}(hh:A.handled=none)(D:ZipApart z TI TO i1 i2 l1 l2)(va:Vals xs as)(vb:Vals ys bs)(hn:xs.length<=uQ)(I:Inv X zp σ H s)(hf:∀b∈[z,TI,TO,i1,i2],FpOk X zp H b)
  (Z:ZL s.heap z TI TO i1 i2 l1 l2 0 as.toArray bs.toArray) (q:∀(H':Hp)(ts:List Addr)(s':Shared),ZQ X zp σ H xs ys H' ts s'->Q (ts.map Value.ref) s'):wpAny (model X.prog X.w) A (collect (.ref z)) Q E s:=by
 have old:=Z.old
 have hSI:s.heap.objs.size≠z:=xV (old z (by simp))
 unfold collect
 refine uJ (wpAny_runValue (codeAny_builtin PySem.F.entry_proto_collect ?_))
 rw[Around.under_plainId PySem.F.plain_proto_collect _]
 show wpAny _ A.in1 (newList []>>=fun l=>again (.builtin "list.__iadd__" ⟨[l,.ref z],[]⟩)) _ _ s
 refine uJ (uR ?_)
 refine uK ⟨plainId_quiet PySem.F.plain_list_iadd _,codeAny_builtin PySem.F.entry_list_iadd ?_⟩
 rw[Around.under_plainId PySem.F.plain_list_iadd _]
 have Z1:ZL (nl s.heap) z TI TO i1 i2 l1 l2 0 as.toArray bs.toArray:=Z.keep fun b o e=>uL _ e
 have ty:Shared.TypeIs {s with heap:=nl s.heap} (.ref z) "zip":=ZL.ty (s:={s with heap:=nl s.heap}) Z1
 show wpAny _ A.in1 (Builtin.List.listExtendWith (.ref s.heap.objs.size) (.ref z) (.ref s.heap.objs.size)) _ _ _
 unfold Builtin.List.listExtendWith
 refine uJ (wpAny_typeOf ty ?_)
 have d1:Builtin.List.listSameRef (.ref s.heap.objs.size) (.ref z)=false:=by simp[Builtin.List.listSameRef,hSI]
 have d2:(Value.type "zip"==Value.type "list")=false:=by decide
 have d3:(Value.type "zip"==Value.type "tuple")=false:=by decide
 simp only[d1,d2,d3,Bool.or_false,yZ,if_false]
 have self:∀{Q':Value->Shared->Prop}{E':Value->Shared->Prop}{A':Around},Q' (.ref z) {s with heap:=nl s.heap}->wpAny (model X.prog X.w) A' (pyIter (.ref z)) Q' E' {s with heap:=nl s.heap}:=fun h=>by
  refine wpAny_pyIter_slot ty F.slot_zip_iter (wpAny_call_entry F.slot_zip_iter ty F.entry_zip_iter ?_ (F.args_zip_iter_1 _))
  show wpAny _ _ (ret (.ref z)) _ _ _
  exact uK ⟨_,rfl,"zip",_,ty,F.slot_zip_next.lookup,h⟩
 refine uJ (self ?_)
 refine uJ (wpAny_holding ?_)
 unfold Builtin.List.listLengthHint
 refine uJ (wpAny_specialOf ty zh5 ?_)
 show wpAny _ A.in1 (specialOf (Value.ref z) (uI "__length_hint__")>>=_) _ _ _
 refine uJ (wpAny_specialOf ty zgj ?_)
 refine uK ?_
 show wpAny _ A.in1 (rule "list.extend.makes-room">>=fun _=>Builtin.List.listTouch (.ref s.heap.objs.size)>>=fun _=>
  again (.builtin "list.extend.loop" ⟨[.ref s.heap.objs.size,.ref z,.ref s.heap.objs.size],[]⟩)) _ _ _
 refine uJ (wpAny_rule ?_)
 have g1:(nl s.heap).get? s.heap.objs.size=some {cls:=.type "list",data:=.seq ([]:List Value).toArray}:=uN _ rfl
 refine uJ ?_
 show wpAny _ A.in1 (updateSeq s.heap.objs.size (·.push .none)>>=fun _=>updateSeq s.heap.objs.size (·.pop)) _ _ _
 refine uJ (wpAny_updateSeq g1 rfl ?_)
 have g2:=Heap.get?_update_self (Obj.mapSeq (·.push Value.none)) g1 rfl
 refine wpAny_updateSeq g2 rfl ?_
 have g3:=Heap.get?_update_self (Obj.mapSeq (·.pop)) g2 rfl
 have kp:∀b o,s.heap.get? b=some o->
   (((nl s.heap).update s.heap.objs.size (Obj.mapSeq (·.push Value.none))).update s.heap.objs.size (Obj.mapSeq (·.pop))).get? b=some o:=
  fun b o e=>(Heap.get?_update_other _ _ (xV (uM e))).trans ((Heap.get?_update_other _ _ (xV (uM e))).trans (uL _ e))
 refine uK ⟨plainId_quiet PySem.F.plain_extend_loop _,zm6 (X:=X) (zp:=zp) (σ:=σ) (xs:=xs) (ys:=ys) hh D va vb (S:=s.heap.objs.size) (fun hm=>?_) (xV (old l1 (by simp))) (xV (old l2 (by simp))) _ hn _ 0 _ H [] _ _ rfl (yN _) (I.kept (t':=s.toks) kp) (fun b hb=>?_) (Z.keep kp) g3 rfl rfl (fun j t x y e=>by simp at e) fun s' H' ts' acc' c' I' sm LS' ha' hl' hp'=>?_⟩
 ·have:=old s.heap.objs.size (by simp at hm ⊢;rcases hm with h|h|h|h|h<;>simp[h])
  exact absurd this (xD _)
 ·rcases yQ.mp hb with rfl|hb
  ·exact I.fpOk (yF _) I.fresh
  ·exact hf b hb
 show wpAny _ A (load s.heap.objs.size>>=_) _ _ s'
 refine uJ (wpAny_load LS' ?_)
 refine uK ?_
 show Q acc'.toList s'
 rw[ha']
 exact q H' ts' s' ⟨I',sm,hl',hp'⟩
end
section
variable{X:Cx}{zp:List (Addr×Obj)}{σ:St}{A:Around}{E:Value->Shared->Prop}{s:Shared}{H:Hp}{z TI TO i1 i2 l1 l2:Addr}{xs ys:List V}{as bs:List Value}
theorem zfr:∀ts:List Addr,Vals (ts.map V.ref) (ts.map Value.ref)
 |[]=>.nil
 |_::ts=>.cons rfl (zfr ts)
def ZT2(X:Cx)(zp:List (Addr×Obj))(σ:St)(H:Hp)(xs ys:List V)(v:Value)(s':Shared):Prop:=
 ∃(H2:Hp)(ts:List Addr)(t:Addr),v=.ref t/\Inv X zp σ H2 s'/\Same H H2/\H t=none/\ts.length=min xs.length ys.length/\Prs H2 xs ys ts/\H2 t=some (.tup (ts.map V.ref))
theorem zdw{Q₁:Value->Shared->Prop}(hh:A.handled=none)(D:ZipApart z TI TO i1 i2 l1 l2)(va:Vals xs as)(vb:Vals ys bs)(hn:xs.length<=uQ)(I:Inv X zp σ H s)(hf:∀b∈[z,TI,TO,i1,i2],FpOk X zp H b)
  (Z:ZL s.heap z TI TO i1 i2 l1 l2 0 as.toArray bs.toArray) (q:∀v s',s'.TypeIs v "tuple"->ZT2 X zp σ H xs ys v s'->Q₁ v s'):
  codeAny (model X.prog X.w) A (.call (.builtin "tuple.__new__") ⟨[.type "tuple",.ref z],[]⟩) (wants Q₁ E) s:=by
 refine codeAny_of_tree ?_
 show wpAny _ A.in1 (do checkBuiltinCall "tuple.__new__" ⟨[.type "tuple",.ref z],[]⟩;again (.builtin "tuple.__new__" ⟨[.type "tuple",.ref z],[]⟩)) _ _ s
 refine uJ (wpAny_of_eq (F.newCall_tuple_1 _) (uK ⟨plainId_quiet F.plain_tuple_new _,codeAny_builtin F.entry_tuple_new ?_⟩))
 rw[Around.under_plainId F.plain_tuple_new _]
 have hsub:=sub_tuple_self
 have hinit:=init_tuple_lookup
 have hmh:=madeHere_tuple
 have hTI:=Z.ty
 have hcol:∀{Q:List Value->Shared->Prop}{E:Value->Shared->Prop},(∀(H':Hp)(ts:List Addr)(s':Shared),ZQ X zp σ H xs ys H' ts s'->Q (ts.map Value.ref) s')->wpAny (model X.prog X.w) A.in1 (collect (.ref z)) Q E s:=fun {Q E} q=>zgk (A:=A.in1) (by simpa using hh) D va vb hn I hf Z q
 wp_walk using wpAny_typeOf hTI,hcol
 intro H1 ts s1 h
 obtain⟨I1,sm,hl,hp⟩:=h
 show wpAny _ _ (Builtin.Tuple.tupleExact (ts.map Value.ref).toArray>>=fun v=>ret v) _ _ _
 unfold Builtin.Tuple.tupleExact
 have hle:ts.length<=uQ:=by rw[hl];exact yM (Nat.min_le_left ..) hn
 refine uJ (uR ?_ (by show (ts.map Value.ref).toArray.size<=uQ;simpa using hle))
 refine uK ?_
 have I2:Inv X zp σ (upd H1 s1.heap.objs.size (.tup (ts.map V.ref))) {s1 with heap:=s1.heap.push {cls:=.type "tuple",data:=.seq (ts.map Value.ref).toArray},toks:=s1.toks}:=
  I1.laid (t':=s1.toks) (fun b u e=>uL _ e) (yF _) ⟨by simpa using hle,_,zfr ts,⟨_,uN _ rfl,rfl,_,rfl⟩⟩
 have fr:=I1.fresh
 have up:Same H1 (upd H1 s1.heap.objs.size (.tup (ts.map V.ref))):=fun b o e=>by rw[zm (fun z=>by rw[z,fr] at e;cases e)];exact e
 exact q _ _ ⟨_,uN _ rfl,rfl⟩ ⟨_,ts,_,rfl,I2,Same.trans sm up,Same.free sm fr,hl,fun j t x y e1 e2 e3=>up _ _ (hp j t x y e1 e2 e3),zc⟩
theorem zdx{Q:Value->Shared->Prop}(hh:A.handled=none)(D:ZipApart z TI TO i1 i2 l1 l2)(va:Vals xs as)(vb:Vals ys bs)(hn:xs.length<=uQ)(I:Inv X zp σ H s)(hf:∀b∈[z,TI,TO,i1,i2],FpOk X zp H b)
  (Z:ZL s.heap z TI TO i1 i2 l1 l2 0 as.toArray bs.toArray) (q:∀v s',ZT2 X zp σ H xs ys v s'->Q v s'):wpAny (model X.prog X.w) A (call (.type "tuple") [.ref z]) Q E s:=by
 refine callType_codes (Q₁:=fun obj s₁=>s₁.TypeIs obj "tuple"/\Q obj s₁) F.called_tuple (F.typeCall_tuple_1 _) F.entry_object_init
  (zdw (by simpa using hh) D va vb hn I hf Z fun v s' ty h=>⟨ty,q v s' h⟩) fun obj s₁ h₁=>?_
 exact⟨h₁.1,F.args_object_init_2 obj _,object_init_meets F.called_tuple.init.lookup F.called_tuple.made (by decide) X.prog X.w A.in1 _ s₁ ⟨h₁.1,rfl,h₁.2⟩⟩
end
def tTZ(K:uZ)(ta:TA):TE:=fun σ H Q=>ta σ H fun vs H1=>∃(a b:Addr)(xs ys:List V),vs=[.ref a,.ref b]/\SqL K H1 a xs/\SqL K H1 b ys /\
 ∀(ts:List Addr)(t:Addr)(H2:Hp),Same H1 H2->H1 t=none->ts.length=min xs.length ys.length->Prs H2 xs ys ts->H2 t=some (.tup (ts.map V.ref))->Q (.ref t) H2
theorem zeu{X:Cx}{a b:Expr}{ta:TA}{p p2 pos pos2:Pos}(hc:X.calm=true)(hg:Gl X "zip")(hm:X.mg "zip"=none)(hgt:Gl X "tuple")(hmt:X.mg "tuple"=none)(ha:PA X [a,b] ta)(hs:uS [a,b] X.env=(false,eval a X.env)::uS [b] X.env:=by rfl)
  (hpl:(backTo pos2 (uS [b] X.env)).any (·.1)=false:=by rfl) (hs2:uS [.Call (.Name "zip" p2) [a,b] [] pos2] X.env=(false,eval (.Call (.Name "zip" p2) [a,b] [] pos2) X.env)::uS [] X.env:=by rfl) (hpl2:(backTo pos (uS [] X.env)).any (·.1)=false:=by rfl):
  PE X (.Call (.Name "tuple" p) [.Call (.Name "zip" p2) [a,b] [] pos2] [] pos) (tTZ X.K ta):=by
 intro zp s σ H Q I h
 refine wpAny_Call_Name_kw (zcr I hgt hmt zF (PyProof.Rows.callWith_type1 ?_ hs2 hpl2))
 rw[hs2]
 show wpAny _ _ (spliced ((false,eval (.Call (.Name "zip" p2) [a,b] [] pos2) X.env)::backTo pos (uS [] X.env))) _ _ s
 refine Calls.spliced_cons ?_
 refine wpAny_Call_Name_kw (zcr I hg hm zk9 (PyProof.Rows.callWith_type1 (thn (ha pos2 zp s σ H _ I h) fun us s1 ⟨vs,H1,I1,r1,q1⟩=>?_) hs hpl))
 obtain⟨c,d,xs,ys,e,q2,q3,q⟩:=q1
 subst e
 obtain⟨u,u',rfl,rx,ry⟩:=zhM r1
 cases rx
 cases ry
 obtain⟨as,r2,p1,hz1⟩:=I1.list q2
 obtain⟨bs,r3,p2,hz2⟩:=I1.list q3
 obtain⟨oc,_,gc,_⟩:=id p1
 obtain⟨od,_,gd,_⟩:=id p2
 refine call_zip_2 p1.isList p2.isList fun h' z1 z2 z3 z4 z5 z6 hk=>?_
 have I2:Inv X zp σ H1 {s1 with heap:=h',toks:=s1.toks}:=I1.kept (t':=s1.toks) hk
 refine Calls.spliced_nil ?_
 have fp:∀b∈[s1.heap.objs.size+4,s1.heap.objs.size+2,s1.heap.objs.size+3,s1.heap.objs.size,s1.heap.objs.size+1],FpOk X zp H1 b:=fun e he=>by
  have hle:s1.heap.objs.size<=e:=by
   have hc:e=s1.heap.objs.size+4\/e=s1.heap.objs.size+2\/e=s1.heap.objs.size+3\/e=s1.heap.objs.size\/e=s1.heap.objs.size+1:=by simpa using he
   rcases hc with r|r|r|r|r<;>rw[r]<;>first|exact yF _|exact Nat.le_add_right _ _
  exact I1.fpOk hle (I1.hok.fresh hle)
 refine zdx (X:=X) (zp:=zp) (σ:=σ) (H:=H1) (I.ok.hd hc) (zipApart_new (uM gc) (uM gd)) r2 r3 hz1 I2 fp ⟨.inl z1,z2,⟨_,_,z3⟩,z4,z5,p1.isList.at fun o e=>hk _ o e,p2.isList.at fun o e=>hk _ o e⟩ fun v s' hz=>?_
 obtain⟨H2,ts,t,rfl,I3,sm,fr,hl,hp,et⟩:=hz
 exact⟨.ref t,H2,I3,rfl,q ts t H2 sm fr hl hp et⟩
end L2
namespace D
open PySem L2
theorem zeu{X:Cx}{a b:Expr}{ta:TA}{p p2 pos pos2:Pos}(hc:X.calm=true)(hg:Gl X "zip")(hm:X.mg "zip"=none)(hgt:Gl X "tuple")(hmt:X.mg "tuple"=none)(ha:QA X [a,b] ta)(hs:uS [a,b] X.env=(false,eval a X.env)::uS [b] X.env:=by rfl)
  (hpl:(backTo pos2 (uS [b] X.env)).any (·.1)=false:=by rfl) (hs2:uS [.Call (.Name "zip" p2) [a,b] [] pos2] X.env=(false,eval (.Call (.Name "zip" p2) [a,b] [] pos2) X.env)::uS [] X.env:=by rfl) (hpl2:(backTo pos (uS [] X.env)).any (·.1)=false:=by rfl):
  QE X (.Call (.Name "tuple" p) [.Call (.Name "zip" p2) [a,b] [] pos2] [] pos) (tTZ X.K ta):=⟨L2.zeu hc hg hm hgt hmt ha.un hs hpl hs2 hpl2⟩
mutual
def TB(B:Nat):PyData->Prop
 |.none=>True
 |.bool _=>True
 |.int i=>i.natAbs<B
 |.str x=>x.length<=400/\∀c∈x.cps.toList,c<200
 |.tuple xs=>TBs B xs
 |.list _=>False
 |.dict _=>False
def TBs(B:Nat):List PyData->Prop
 |[]=>True
 |x::xs=>TB B x/\TBs B xs
end
noncomputable def big:Nat:=10 ^ 121
abbrev TOk:=TB big
abbrev TOks:=TBs big
mutual
noncomputable def cnt:PyData->Nat
 |.tuple xs=>cnts xs+1
 |.none=>1
 |.bool _=>1
 |.int _=>1
 |.str _=>1
 |.list _=>1
 |.dict _=>1
noncomputable def cnts:List PyData->Nat
 |[]=>0
 |x::xs=>cnt x+cnts xs
end
mutual
theorem zfs:∀d:PyData,TOk d->d.shown.length+10<=4020*cnt d
 |.none,_=>by decide +kernel
 |.bool true,_=>by decide +kernel
 |.bool false,_=>by decide +kernel
 |.int i,h=>by
  have h:i.natAbs<10 ^ 121:=h
  have e:(PyData.int i).shown.length=(toString i).length:=by
   simp only[PyData.shown];exact ofString_length _
  rw[e]
  have:=int_text_length_le10 (k:=121) (by decide) h
  simp only[cnt];lia
 |.str x,h=>by
  have h:x.length<=400/\∀c∈x.cps.toList,c<200:=h
  have:=StrLaws.reprText_len x (fun c hc=>yP (h.2 c hc) (by decide))
  simp only[PyData.shown,cnt];lia
 |.tuple xs,h=>by
  have ih:=piled_len xs h
  have e:(tupleText (PyData.shownAll xs)).length<=piled (PyData.shownAll xs)+3:=by
   unfold tupleText
   rw[strLen_append,strLen_append]
   have e1:((("(":String):Str)).length=1:=rfl
   have e3:(((if (PyData.shownAll xs).length==1 then ",)" else ")":String):Str)).length<=2:=by split<;>decide
   have e2:(Str.join ", " (PyData.shownAll xs)).length<=piled (PyData.shownAll xs):=by
    cases q:PyData.shownAll xs with
    |nil=>decide +kernel
    |cons a b=>have:=join_length_add (a::b) (by simp);lia
   lia
  simp only[PyData.shown,cnt];lia
 |.list _,h=>h.elim
 |.dict _,h=>h.elim
theorem piled_len:∀ds:List PyData,TOks ds->piled (PyData.shownAll ds)<=4020*cnts ds
 |[],_=>by decide
 |x::xs,h=>by
  have a:=zfs x h.1
  have b:=piled_len xs h.2
  simp only[PyData.shownAll,piled_cons,cnts];lia
end
theorem zh6{n k:Nat}(hk:0<k)(h:n<2 ^ k):n.log2<k:=by
 by_cases z:n=0
 ·subst z;exact hk
 ·exact (uG z).mpr h
mutual
theorem zc5:∀d:PyData,TOk d->d.showable=true/\d.hasDict=false
 |.none,_=>⟨rfl,rfl⟩
 |.bool _,_=>⟨rfl,rfl⟩
 |.int i,h=>⟨by simp only[PyData.showable,decide_eq_true_eq];exact zh6 (by decide) (yP (show i.natAbs<10 ^ 121 from h) (by decide +kernel)),rfl⟩
 |.str _,_=>⟨rfl,rfl⟩
 |.tuple xs,h=>by simp only[PyData.showable,PyData.hasDict];exact showables_of xs h
 |.list _,h=>h.elim
 |.dict _,h=>h.elim
theorem showables_of:∀ds:List PyData,TOks ds->PyData.showableAll ds=true/\PyData.hasDictAll ds=false
 |[],_=>⟨rfl,rfl⟩
 |x::xs,h=>by
  obtain⟨a,b⟩:=zc5 x h.1
  obtain⟨c,d⟩:=showables_of xs h.2
  simp only[PyData.showableAll,PyData.hasDictAll,a,b,c,d]
  exact⟨rfl,rfl⟩
end
theorem zc6{h:Heap}:∀{us:List Value}{ds:List PyData},us.length=ds.length->(∀(i:Nat)(u:Value)(d:PyData),us[i]?=some u->ds[i]?=some d->∃as,Reads h u d as)->∃as,ReadsAll h us ds as
 |[],[],_,_=>⟨_,.nil⟩
 |u::us,d::ds,l,g=>by
  obtain⟨a,r⟩:=g 0 u d rfl rfl
  obtain⟨b,rs⟩:=zc6 (us:=us) (ds:=ds) (by simpa using l) fun i u d e1 e2=>g (i+1) u d e1 e2
  exact⟨_,.cons r rs⟩
theorem zft:uT (uI "repr")=some (.builtin "repr"):=by kernel_rfl
end D
namespace L2
open PySem
theorem Room.u80{k:Nat}{A:Around}(r:Room k A):A.units+80<cLine:=by have:=r.un;lia
end L2
namespace D
open PySem L2
theorem RS.inj{X:Cx}{zp:List (Addr×Obj)}{σ:St}{H:Hp}{s:Shared}(I:Inv X zp σ H s){u:V}{x:W}(h:RS X.K H u x):∀{y:W},RS X.K H u y->x=y:=by
 induction h with
 |num i=>intro y h;cases h;rfl
 |txt z=>intro y h;cases h;rfl
 | @lst a vs ws e l at1 ih=>
  intro y h
  cases h with
  | @lst _ us zs e2 l2 at2=>
   have hv:vs=us:=I.tuple_inj e e2
   subst hv
   congr 1
   refine vF (by lia) fun i h1 h2=>?_
   have hv:vs[i]?=some vs[i]:=yA (by lia)
   exact ih i _ _ hv (yA h1) (at2 i _ _ hv (yA h2))
theorem zoc{X:Cx}{zp:List (Addr×Obj)}{σ:St}{H:Hp}{s:Shared}(I:Inv X zp σ H s):∀(n:Nat)(A:Around)(x y:W)(u v:V)(U V':Value),x.depth<n->RS X.K H u x->RS X.K H v y->RelV u U->RelV v V'->A.units+n+2<cLine->SeqAt.EqAt A s U V' (eqW x y):=by
 intro n
 induction n with
 |zero=>intro A x y u v U V' h;lia
 |succ n ih=>
  intro A x y u v U V' hd rx ry r1 r2 hu
  have hu0:A.units<cLine:=by lia
  cases rx with
  |num i=>
   obtain⟨t,rfl⟩:=r1
   cases ry with
   |num j=>obtain⟨t2,rfl⟩:=r2;exact SeqAt.EqAt.int_int i t j t2
   |txt z=>obtain⟨t2,rfl⟩:=r2;exact SeqAt.EqAt.int_str i t z t2
   |lst e _ _=>
    cases r2
    obtain⟨its,_,p,_⟩:=I.tuple e
    exact SeqAt.EqAt.int_tuple i t p hu0
  |txt z=>
   obtain⟨t,rfl⟩:=r1
   cases ry with
   |num j=>obtain⟨t2,rfl⟩:=r2;exact SeqAt.EqAt.str_int z t j t2
   |txt z2=>obtain⟨t2,rfl⟩:=r2;exact SeqAt.EqAt.str_str z t z2 t2
   |lst e _ _=>
    cases r2
    obtain⟨its,_,p,_⟩:=I.tuple e
    exact SeqAt.EqAt.str_tuple z t p hu0
  | @lst a vs ws e l at1=>
   cases r1
   obtain⟨its,rv,p,_⟩:=I.tuple e
   cases ry with
   |num j=>obtain⟨t2,rfl⟩:=r2;exact SeqAt.EqAt.tuple_int j t2 p hu0
   |txt z2=>obtain⟨t2,rfl⟩:=r2;exact SeqAt.EqAt.tuple_str z2 t2 p hu0
   | @lst b us zs e2 l2 at2=>
    cases r2
    obtain⟨its2,rv2,p2,_⟩:=I.tuple e2
    by_cases hab:a=b
    ·subst hab
     have:W.lst ws=W.lst zs:=RS.inj I (.lst e l at1) (.lst e2 l2 at2)
     rw[this,ZF]
     exact SeqAt.EqAt.same _
    ·rw[←zh3 (H:=H) rv rv2 l l2]
     refine SeqAt.EqAt.of_refs hab (SeqAt.RcAt.tuples p p2 hu0 fun j h1 h2=>?_)
     have j1:j<its.length:=by simpa using h1
     have j2:j<its2.length:=by simpa using h2
     have k1:j<vs.length:=by rw[rv.length];exact j1
     have k2:j<us.length:=by rw[rv2.length];exact j2
     have m1:j<ws.length:=by lia
     have m2:j<zs.length:=by lia
     obtain⟨U1,hU1,rU1⟩:=rv.get (yA k1)
     obtain⟨U2,hU2,rU2⟩:=rv2.get (yA k2)
     have f1:its.toArray[j]=U1:=by have:=(yC.mp hU1).2;simpa using this
     have f2:its2.toArray[j]=U2:=by have:=(yC.mp hU2).2;simpa using this
     rw[f1,f2]
     have g1:ws.getD j (.num 0)=ws[j]:=by rw[yR,yA m1];rfl
     have g2:zs.getD j (.num 0)=zs[j]:=by rw[yR,yA m2];rfl
     rw[g1,g2]
     have hdj:=zaz ws[j] (yY m1)
     have hd':1+depths ws<n+1:=hd
     have hu1:A.in1.units=A.units+1:=rfl
     exact ih A.in1 ws[j] zs[j] vs[j] us[j] U1 U2 (by lia) (at1 j _ _ (yA k1) (yA m1)) (at2 j _ _ (yA k2) (yA m2)) rU1 rU2 (by lia)
mutual
theorem zgl:∀w z:W,eqW w z=true ↔ w=z
 |.num i,.num j=>by simp[eqW]
 |.txt x,.txt y=>by simp[eqW]
 |.lst ws,.lst zs=>by
  rw[eqW,eqWs_iff' ws zs]
  constructor
  ·intro h;rw[h]
  ·intro h;cases h;rfl
 |.num _,.txt _=>by simp[eqW]
 |.num _,.lst _=>by simp[eqW]
 |.txt _,.num _=>by simp[eqW]
 |.txt _,.lst _=>by simp[eqW]
 |.lst _,.num _=>by simp[eqW]
 |.lst _,.txt _=>by simp[eqW]
theorem eqWs_iff':∀ws zs:List W,eqWs ws zs=true ↔ ws=zs
 |[],[]=>by simp[eqWs]
 |w::r,z::s=>by
  rw[eqWs,yV,zgl w z,eqWs_iff' r s]
  constructor
  ·rintro⟨rfl,rfl⟩;rfl
  ·intro h;cases h;exact⟨rfl,rfl⟩
 |[],_::_=>by simp[eqWs]
 |_::_,[]=>by simp[eqWs]
end
theorem zod{w z:W}(h:w≠z):eqW w z=false:=by
 cases e:eqW w z with
 |false=>rfl
 |true=>exact absurd ((zgl w z).mp e) h
structure RSs(K:uZ)(H:Hp)(vs:List V)(ws:List W):Prop where
 len:vs.length=ws.length
 at':∀(i:Nat)(v:V)(w:W),vs[i]?=some v->ws[i]?=some w->RS K H v w
theorem RWs.rss{K:uZ}{H:Hp}{vs:List V}{ws:List W}(h:RWs H vs ws):RSs K H vs ws:=⟨h.len,fun i v w a b=>(h.at' i v w a b).toRS⟩
theorem RS.parts{K:uZ}{H:Hp}{v:V}{ws:List W}(h:RS K H v (.lst ws)):∃a vs,v=.ref a/\SqT K H a vs/\RSs K H vs ws:=by
 cases h with
 | @lst a vs _ e l at1=>exact⟨a,vs,rfl,e,l,at1⟩
theorem zcm{X:Cx}{zp:List (Addr×Obj)}{σ:St}{H:Hp}{s:Shared}(I:Inv X zp σ H s)(hu:X.A.units+64<cLine){us vs:List V}{ws zs:List W}{its its2:List Value}(v1:Vals us its)(v2:Vals vs its2)(r1:RSs X.K H us ws)(r2:RSs X.K H vs zs)(hd:depths ws<50)(j:Nat)(h1:j<its.toArray.size)(h2:j<its2.toArray.size):
  SeqAt.EqAt X.A.in1 s its.toArray[j] its2.toArray[j] (eqW (ws.getD j (.num 0)) (zs.getD j (.num 0))):=by
 have l1:=v1.length
 have l2:=v2.length
 have m1:=r1.len
 have m2:=r2.len
 have j1:j<us.length:=by rw[l1];simpa using h1
 have j2:j<vs.length:=by rw[l2];simpa using h2
 have e1:us[j]?=some us[j]:=yA j1
 have e2:vs[j]?=some vs[j]:=yA j2
 have k1:j<ws.length:=by lia
 have k2:j<zs.length:=by lia
 have e3:ws[j]?=some ws[j]:=yA k1
 have e4:zs[j]?=some zs[j]:=yA k2
 have g1:ws.getD j (.num 0)=ws[j]:=by rw[yR,e3];rfl
 have g2:zs.getD j (.num 0)=zs[j]:=by rw[yR,e4];rfl
 rw[g1,g2]
 have hdj:=zaz ws[j] (yY k1)
 have hu1:X.A.in1.units=X.A.units+1:=rfl
 exact zoc I 50 X.A.in1 ws[j] zs[j] us[j] vs[j] _ _ (by lia) (r1.at' j _ _ e1 e3) (r2.at' j _ _ e2 e4) (zjA v1 e1 h1) (zjA v2 e2 h2) (by lia)
def rTT(K:uZ)(g:Bool->Bool):V->V->Hp->VK->Prop:=fun x y H Q=>∃(ws zs:List W),RS K H x (.lst ws)/\RS K H y (.lst zs)/\depths ws<50/\Q (.bl (g (eqW (.lst ws) (.lst zs)))) H
def rLL(K:uZ)(g:Bool->Bool):V->V->Hp->VK->Prop:=fun x y H Q=>∃(a b:Addr)(us vs:List V)(ws zs:List W),x=.ref a/\y=.ref b/\SqL K H a us/\SqL K H b vs/\RSs K H us ws/\RSs K H vs zs/\depths ws<50/\Q (.bl (g (eqW (.lst ws) (.lst zs)))) H
theorem zgm{X:Cx}(hu:X.A.units+64<cLine):OpR X (uU .Eq) (rTT X.K fun b=>b):=by
 intro zp s σ H x y v u Q I rx ry h
 obtain⟨ws,zs,hx,hy,hd,q⟩:=h
 obtain⟨a,us,rfl,ha,r1⟩:=hx.parts
 obtain⟨b,vs,rfl,hb,r2⟩:=hy.parts
 cases rx
 cases ry
 obtain⟨its,v1,p1,_⟩:=I.tuple ha
 obtain⟨its2,v2,p2,_⟩:=I.tuple hb
 have key:=SeqAt.RcAt.tuples p1 p2 (by lia) (zcm I hu v1 v2 r1 r2 hd)
 rw[zh3 (H:=H) v1 v2 r1.len r2.len] at key
 exact key X.prog X.w _ _ ⟨.bl _,H,I,rfl,q⟩
theorem zev{X:Cx}(hu:X.A.units+64<cLine):OpR X (uU .NotEq) (rTT X.K fun b=>!b):=by
 intro zp s σ H x y v u Q I rx ry h
 obtain⟨ws,zs,hx,hy,hd,q⟩:=h
 obtain⟨a,us,rfl,ha,r1⟩:=hx.parts
 obtain⟨b,vs,rfl,hb,r2⟩:=hy.parts
 cases rx
 cases ry
 obtain⟨its,v1,p1,_⟩:=I.tuple ha
 obtain⟨its2,v2,p2,_⟩:=I.tuple hb
 have key:=SeqAt.RcNeAt.tuples p1 p2 (by lia) (zcm I hu v1 v2 r1 r2 hd)
 rw[zh3 (H:=H) v1 v2 r1.len r2.len] at key
 exact key X.prog X.w _ _ ⟨.bl _,H,I,rfl,q⟩
theorem zjC{ws zs:List W}(h:ws.length≠zs.length):eqW (.lst ws) (.lst zs)=false:=zod fun z=>h (by injection z with z;rw[z])
theorem zmi{ws zs:List W}{its its2:List Value}{us vs:List V}(v1:Vals us its)(v2:Vals vs its2)(l1:us.length=ws.length)(l2:vs.length=zs.length)(e:ws.length=zs.length):
  ((xR its.toArray.size).all fun j=>eqW (ws.getD j (.num 0)) (zs.getD j (.num 0)))=eqW (.lst ws) (.lst zs):=by
 rw[←zh3 (H:=fun _=>none) v1 v2 l1 l2]
 have e1:its.toArray.size=ws.length:=by rw[yD,←v1.length,l1]
 have e2:its2.toArray.size=zs.length:=by rw[yD,←v2.length,l2]
 rw[e1,e2,e,Nat.min_self]
 simp
theorem zm7{X:Cx}(hu:X.A.units+64<cLine):OpR X (uU .Eq) (rLL X.K fun b=>b):=by
 intro zp s σ H x y v u Q I rx ry h
 obtain⟨a,b,us,vs,ws,zs,rfl,rfl,ha,hb,r1,r2,hd,q⟩:=h
 cases rx
 cases ry
 obtain⟨its,v1,p1,_⟩:=I.list ha
 obtain⟨its2,v2,p2,_⟩:=I.list hb
 have e1:its.toArray.size=ws.length:=by rw[yD,←v1.length,r1.len]
 have e2:its2.toArray.size=zs.length:=by rw[yD,←v2.length,r2.len]
 by_cases e:ws.length=zs.length
 ·have key:=SeqAt.RcAt.lists p1.isList p2.isList (by rw[e1,e2,e]) (by lia) (zcm I hu v1 v2 r1 r2 hd)
  rw[zmi v1 v2 r1.len r2.len e] at key
  exact key X.prog X.w _ _ ⟨.bl _,H,I,rfl,q⟩
 ·have key:=SeqAt.RcAt.lists_lengths (A:=X.A) p1.isList p2.isList (by rw[e1,e2];simp[e]) (by lia)
  rw[zjC e] at q
  exact key X.prog X.w _ _ ⟨.bl _,H,I,rfl,q⟩
theorem zjD{X:Cx}(hu:X.A.units+64<cLine):OpR X (uU .NotEq) (rLL X.K fun b=>!b):=by
 intro zp s σ H x y v u Q I rx ry h
 obtain⟨a,b,us,vs,ws,zs,rfl,rfl,ha,hb,r1,r2,hd,q⟩:=h
 cases rx
 cases ry
 obtain⟨its,v1,p1,_⟩:=I.list ha
 obtain⟨its2,v2,p2,_⟩:=I.list hb
 have e1:its.toArray.size=ws.length:=by rw[yD,←v1.length,r1.len]
 have e2:its2.toArray.size=zs.length:=by rw[yD,←v2.length,r2.len]
 by_cases e:ws.length=zs.length
 ·have key:=SeqAt.RcNeAt.lists p1.isList p2.isList (by rw[e1,e2,e]) (by lia) (zcm I hu v1 v2 r1 r2 hd)
  rw[zmi v1 v2 r1.len r2.len e] at key
  exact key X.prog X.w _ _ ⟨.bl _,H,I,rfl,q⟩
 ·have key:=SeqAt.RcNeAt.lists_lengths (A:=X.A) p1.isList p2.isList (by rw[e1,e2];simp[e]) (by lia)
  rw[zjC e] at q
  exact key X.prog X.w _ _ ⟨.bl _,H,I,rfl,q⟩
end D
namespace L2
open PySem PySem.Spec PyProof.Rows
structure FunD(K:uZ)(x qual:Str)(st:Stmt)(dV:Value)(f:Addr)(fd:tD):Prop where
 ex:∃(oc:Value)(od:Option Addr)(kV doc pm:Value)(an:Option Addr)(cdv ct:Value)(osl:Array (Option Value)),
  fd=fnOf x qual (zR st) (zP st) (zg st) dV kV doc pm an cdv ct/\K.lookup f=some ⟨oc,od,.func fd,osl⟩/\codeIn K cdv qual=true
section
variable{P:Program}{w:World}{K:uZ}{mg:Str->Option Value}{base:Heap}
theorem FunD.okQ{x qual:Str}{st:Stmt}{dV:Value}{f:Addr}{fd:tD}{N ps:List Str}{k:Nat}{sp:Sp}(F:FunD K x qual st dV f fd)(sc:FnScope N ps (zg st))(h1:∀(vs:List V) (H:Hp) (Q:VK) (E:XK),sp vs H Q E->vs.length=ps.length)
  (h2:∀(cdv:Value)(A:Around)(outer:List Env)(s:Shared)(H:Hp)(vs:List V)(Q:VK)(E:XK),Room k (A.deeper (PyProof.Rows.envOfC qual (zg st) s.heap.objs.size f cdv))->sp vs H Q E->
   ∃t:TS,QSs (cxOf CX0 P w K mg base N qual (zg st) f cdv A outer s H E).nox (zP st) t/\t {nx:=fun _ H'=>Q V.non H',rt:=Q} (L2.start N vs) H):FnOk P w K mg base CX0 (k+1) f fd ps sp:=by
 obtain⟨oc,od,kV,doc,pm,an,cdv,ct,osl,rfl,lk,hcd⟩:=F.ex
 refine znH lk hcd sc h1 fun A outer s H vs Q E hr hsp=>?_
 obtain⟨t,h,q⟩:=h2 cdv A outer s H vs Q E hr hsp
 exact⟨t,h.un.nox,q⟩
theorem FunD.binds{x qual:Str}{st:Stmt}{T f:Addr}{fd:tD}{ps:List Str}{ds:List Value}{o:Obj}{items:Array Value}{n:Nat}(F:FunD K x qual st (.ref T) f fd)(ho:K.lookup T=some o)(hs:o.data=.seq items n)
  (h:∀(kV doc pm:Value)(an:Option Addr)(cdv ct:Value)(us:List Value),(us++ds).length=ps.length->∃k:Option (Array Value)->Sem (List (Str×Value)),bindArgs (fnOf x qual (zR st) (zP st) (zg st) (.ref T) kV doc pm an cdv ct) ⟨us,[]⟩=seqItems? (fnOf x qual (zR st) (zP st) (zg st) (.ref T) kV doc pm an cdv ct).defaults>>=k/\k (some items)=pure (ps.zip (us++ds))):Binds K fd ps ds:=by
 obtain⟨oc,od,kV,doc,pm,an,cdv,ct,osl,rfl,lk,hcd⟩:=F.ex
 intro s us KX hl
 obtain⟨k,e1,e2⟩:=h kV doc pm an cdv ct us hl
 exact PySem.W.binds_K KX rfl ho hs e1 e2
theorem zm8{x qual:Str}{st:Stmt}{dV:Value}{f:Addr}{oc:Value}{od an:Option Addr}{osl:Array (Option Value)}{kV doc pm cdv ct:Value}(l:K.lookup f=some ⟨oc,od,.func (fnOf x qual (zR st) (zP st) (zg st) dV kV doc pm an cdv ct),osl⟩)
  (c:codeIn K cdv qual=true):FunD K x qual st dV f (fnOf x qual (zR st) (zP st) (zg st) dV kV doc pm an cdv ct):=⟨⟨oc,od,kV,doc,pm,an,cdv,ct,osl,rfl,l,c⟩⟩
end
def zbb(P:Program)(w:World)(K:uZ)(mg:Str->Option Value)(base:Heap)(C:Addr)(m:Str)(k:Nat)(ps:List Str)(sp:Sp):Prop:=
 ∃(f:Addr)(fd:tD),FnOk P w K mg base CX0 k f fd ps sp/\Binds K fd ps []/\Binds K fd ps [.none]/\Meth K C m f/\Cls K C
theorem zbb.mono{P:Program}{w:World}{K:uZ}{mg:Str->Option Value}{base:Heap}{C:Addr}{m:Str}{j k:Nat}{ps:List Str}{sp:Sp}(h:zbb P w K mg base C m j ps sp)(e:j<=k):zbb P w K mg base C m k ps sp:=
 let ⟨f,fd,F,r⟩:=h;⟨f,fd,F.mono e,r⟩
theorem zbb.up{P:Program}{w:World}{K:uZ}{mg:Str->Option Value}{base:Heap}{j k:Nat}{ps:List Str}{sp:Sp}{C:Addr}{m:Str}(h:zbb P w K mg base C m j ps sp)(e:uH j k=true):zbb P w K mg base C m k ps sp:=h.mono (xT e)
end L2
namespace D
open PySem L2
section
variable{X:Cx}{C:Addr}{x m:Str}{k:Nat}{ps:List Str}{sp:Sp}{e o:Expr}{es:List Expr}{ta:TE}{t:TA}{p pos apos:Pos}
theorem zoI(G:zbb X.prog X.w X.K X.mg X.base C m k ps sp)(hr:Room k X.A)(ho:QE X o ta)(ha:QA X (e::es) t){pl:Sem Bool}
  (hst:uS (e::es) X.env=(false,eval e X.env)::uS es X.env:=by rfl) (hpl:(backTo pos (uS es X.env)).any (·.1)=false:=by rfl)
  (ht:eval (.Call (.Attribute o m apos) (e::es) [] pos) X.env=(do
   let ov ←eval o X.env
   standAt apos.atName
   let (f,first) ←holding [ov] (getMethod ov m pl)
   callWith pos f first (backTo pos (uS (e::es) X.env)) (backToKw pos (keywordEach [] X.env))):=by rfl):
  QE X (.Call (.Attribute o m apos) (e::es) [] pos) (ze9 C m sp [] E0 ta t):=by
 obtain⟨f,fd,F,b,_,mm,c⟩:=G
 exact⟨L2.ziV ho.un c mm F hr b .nil zga ha.un hst hpl ht⟩
theorem zoe(G:zbb X.prog X.w X.K X.mg X.base C m k ps sp)(hr:Room k X.A)(ho:QE X o ta){pl:Sem Bool}
  (ht:eval (.Call (.Attribute o m apos) [] [] pos) X.env=(do
   let ov ←eval o X.env
   standAt apos.atName
   let (f,first) ←holding [ov] (getMethod ov m pl)
   callWith pos f first (backTo pos (uS [] X.env)) (backToKw pos (keywordEach [] X.env))):=by rfl):
  QE X (.Call (.Attribute o m apos) [] [] pos) (ze9 C m sp [.non] E0 ta tNil):=by
 obtain⟨f,fd,F,_,b,mm,c⟩:=G
 exact⟨L2.zg7 ho.un c mm F hr b (.cons rfl .nil) zga ht⟩
end
def zm9:V->List V->Hp->VK->Prop:=fun x vs H Q=>∃(l:Addr)(xs:List V)(y:V),x=.ref l/\vs=[.int 0,y]/\H l=some (.lst xs)/\xs.length<1000/\Q .non (upd H l (.lst (y::xs)))
theorem zjE{X:Cx}:MtM X "list.insert" zm9:=by
 intro zp s σ H x vs v us Q I rx rv h
 obtain⟨l,xs,y,rfl,rfl,hH,hz,q⟩:=h
 cases rx
 obtain⟨u0,u,rfl,⟨t,rfl⟩,ru⟩:=zhM rv
 obtain⟨z,its,n,r,hl,e⟩:=I.lstM hH
 refine call_meets F.slot_list_insert ⟨_,e,rfl⟩ F.entry_list_insert (F.args_list_insert_3 _ _ _) (AutoListH.list_insert_list_int_val_1 l its.toArray n 0 t u (by decide) (by rw[yD];exact yM (xP (by lia)) (show 1000<=uQ by decide))) ⟨e,?_⟩
 refine⟨.non,_,I.lset (its':=u::its) hH e (by simp) (.cons ru r) ?_,rfl,q⟩
 exact yM (by rw[yG];lia) (show 1000<=uQ by decide)
mutual
noncomputable def W.toD:W->PyData
 |.num i=>.int i
 |.txt x=>.str x
 |.lst ws=>.tuple (toDs ws)
noncomputable def toDs:List W->List PyData
 |[]=>[]
 |w::r=>w.toD::toDs r
end
theorem zew:∀ws:List W,toDs ws=ws.map W.toD
 |[]=>rfl
 |w::r=>by simp only[toDs,xA,zew r]
theorem RS.reads{X:Cx}{zp:List (Addr×Obj)}{σ:St}{H:Hp}{s:Shared}(I:Inv X zp σ H s){v:V}{w:W}(h:RS X.K H v w):∀{u:Value},RelV v u->∃as,Reads s.heap u w.toD as:=by
 induction h with
 |num i=>intro u r;obtain⟨t,rfl⟩:=r;exact⟨_,.int i t⟩
 |txt x=>intro u r;obtain⟨t,rfl⟩:=r;exact⟨_,.str x t⟩
 | @lst a vs ws e l _ ih=>
  intro u r
  cases r
  obtain⟨its,rv,p,_⟩:=I.tuple e
  obtain⟨o,g1,g2,n,g3⟩:=p
  have hl:=rv.length
  obtain⟨as,ra⟩:=zc6 (h:=s.heap) (us:=its.toArray.toList) (ds:=toDs ws) (by rw[wY,zew,yB,←hl,l]) fun i u d e1 e2=>by
   rw[wY] at e1
   rw[zew,yK] at e2
   obtain⟨w,hw,rfl⟩:=yW.mp e2
   have hi:i<its.length:=(yC.mp e1).1
   have hv:i<vs.length:=by lia
   obtain⟨U,hU,rU⟩:=rv.get (yA hv)
   rw[e1] at hU
   cases hU
   exact ih i _ _ (yA hv) hw rU
  exact⟨_,.tuple g1 g2 g3 ra⟩
theorem zdO{X:Cx}(hg:X.A.guards=some [])(hu:X.A.units+80<cLine):zav X (.builtin "repr") (fun xs H Q=>∃(v:V)(w:W),xs=[v]/\RS X.K H v w/\TOk w.toD/\w.toD.depth<70/\cnt w.toD<=4100/\Q (.str w.toD.shown) H):=by
 intro zp s σ H xs us Q I r h
 obtain⟨v,w,rfl,rs,ok,dp,ct,q⟩:=h
 obtain⟨u,rfl,rx⟩:=zbv r
 have hz:w.toD.shown.length<=uQ:=by
  have:=zfs w.toD ok
  rw[sizeLine_eq]
  lia
 obtain⟨sh,nd⟩:=zc5 w.toD ok
 cases rs with
 |num i=>
  obtain⟨t,rfl⟩:=rx
  exact P.repr_of_int (by simpa [W.toD,PyData.showable] using sh) ⟨.str _,H,I.tok _,⟨s.toks,by simp only[W.toD,PyData.shown]⟩,q⟩
 |txt x=>
  obtain⟨t,rfl⟩:=rx
  exact P.repr_of_str ⟨.str _,H,I.tok _,⟨s.toks,by simp only[W.toD,PyData.shown]⟩,q⟩ (by simpa only [W.toD,PyData.shown] using hz)
 | @lst a vs ws e l at1=>
  cases rx
  obtain⟨as,rd⟩:=RS.reads I (.lst e l at1) (u:=.ref a) rfl
  exact repr_of_reads' rd sh (PyData.noDict_hsm nd) hg (by lia) (fun _ _ e=>e) (fun h' u tk hk=>⟨.str _,H,I.kept (h':=h') (t':=tk) hk,⟨_,rfl⟩,q⟩) hz
end D
namespace L2
open PySem PySem.Spec PyProof.Rows
noncomputable def txOf:Value->Str
 |.str z _=>z
 |_=>uI ""
noncomputable def byTx(w:World):Bool:=w.params.followText "set-order"
def Tabled(w:World)(t:SetTable)(n:Nat):Prop:=t.led=!byTx w/\(n=0\/t.plain=false)
def za5(P:Program)(w:World)(a:Addr)(ds:List Str)(h:Heap):Prop:=
 ∃(o:Obj)(es:Array (Int×Value))(ep:Nat)(t:SetTable),h.get? a=some o/\o.ExactSet/\o.data=.set es ep t/\ElemsOf (zK P w) es.toList/\(∀e∈es.toList,∃z tk,e.2=.str z tk) /\
  (es.toList.map fun e=>txOf e.2).Perm ds/\es.size<scanBound/\t.fits es.size=true/\Tabled w t es.size
noncomputable def addS(ds:List Str)(z:Str):List Str:=if z∈ds then ds else ds++[z]
theorem zla(t:SetTable)(n:Nat):(t.orStandIn n).led=t.led/\(t.plain=false->(t.orStandIn n).plain=false):=by
 unfold SetTable.orStandIn
 split
 ·exact⟨rfl,id⟩
 ·exact⟨rfl,fun _=>rfl⟩
theorem zjF(t:SetTable)(es:Array (Int×Value))(h:Int)(x:Value):(layNew t es h x).2.1.led=t.led/\(t.plain=false->(layNew t es h x).2.1.plain=false):=by
 unfold layNew
 split
 ·rename_i slot dm _
  obtain⟨a,b⟩:=zla (t.put slot).1 (SetTable.insertAt es (t.put slot).2 (h,x)).size
  exact⟨a,fun z=>b z⟩
 ·exact⟨rfl,fun _=>rfl⟩
theorem zfu{t t':SetTable}{hs:Array Int}{n:Nat}{order:Array Nat}(e:t.relaid hs n=some (t',order)):t'.led=t.led/\t'.plain=t.plain:=by
 unfold SetTable.relaid SetTable.laid at e
 cases hc:SetTable.layClean (SetTable.sizeAbove n-1) hs with
 |none=>rw[hc] at e;cases e
 |some ow=>
  rw[hc] at e
  cases e
  exact⟨rfl,rfl⟩
theorem zgn(t:SetTable)(es:Array (Int×Value))(n:Nat):(relayAll t es n).2.1.led=t.led/\(t.plain=false->(relayAll t es n).2.1.plain=false):=by
 unfold relayAll
 split
 ·rename_i t' order e
  obtain⟨a,b⟩:=zfu e
  dsimp only
  split
  ·exact⟨a,fun z=>b.trans z⟩
  ·exact⟨rfl,fun _=>rfl⟩
 ·exact⟨rfl,fun _=>rfl⟩
theorem za5.store{P:Program}{w:World}{h:Heap}{a:Addr}{o:Obj}{es es':Array (Int×Value)}{ep:Nat}{t t':SetTable}{ds:List Str}(ho:h.get? a=some o)(hex:o.ExactSet)(hd:o.data=.set es ep t)
  (hel:ElemsOf (zK P w) es'.toList) (htx:∀e∈es'.toList,∃z tk,e.2=.str z tk) (hp:(es'.toList.map fun e=>txOf e.2).Perm ds) (hb:es'.size<scanBound) (hf:t'.fits es'.size=true) (hm:Tabled w t' es'.size):
  (h.update a (Obj.putSet es' t')).get? a=some {o with data:=.set es' (ep+1) t'}/\za5 P w a ds (h.update a (Obj.putSet es' t')):=by
 have g:(h.update a (Obj.putSet es' t')).get? a=some {o with data:=.set es' (ep+1) t'}:=by
  rw[←putSet_of es' t' hd]
  exact Heap.get?_update_self _ ho (by rw[putSet_of es' t' hd];rfl)
 exact⟨g,_,es',ep+1,t',g,hex,rfl,hel,htx,hp,hb,hf,hm⟩
section
variable{P:Program}{w:World}{A:Around}{E:Value->Shared->Prop}
theorem zh7{s:Shared}{a:Addr}{ds:List Str}{z:Str}{tk:Tok}{Q:Bool->Shared->Prop}(hS:za5 P w a ds s.heap)(room:ds.length+1<scanBound)
  (h:∀(b:Bool)(h':Heap),Heap.SameBut a s.heap h'->za5 P w a (addS ds z) h'->Q b {s with heap:=h'}):
  wpAny (model P w) A (setAddHashed a (.str z tk) ((zK P w).hash (.inr z))) Q E s:=by
 have hS0:=hS
 obtain⟨o,es,ep,t,ho,hex,hd,hel,htx,hpm,hb,hf,hmk⟩:=hS
 have hsz:es.size=ds.length:=by
  have:=hpm.length_eq
  rw[yB,xE] at this
  exact this
 have is:=Zy P w z tk
 unfold setAddHashed setAddHashedIn
 refine wpAny_holding (uJ (wpAny_setState_of ho hd hf ?_))
 dsimp only
 rw[byScan_of (knd:=zK P w) (x:=.str z tk) rfl hb hel]
 simp only[↓reduceIte]
 unfold setAddByScan
 refine uJ (uJ (wpAny_rule (uJ (wpAny_setScan_of is ho hd hf hel ?_))))
 cases hr:es.toList.findIdx? (fun e=>(zK P w).is (.inr z) e.2) with
 |some j=>
  obtain⟨hj,hpj,_⟩:=List.findIdx?_eq_some_iff_getElem.mp hr
  have hin:z∈ds:=by
   obtain⟨y,u,e⟩:=htx _ (yY hj)
   have hzy:z=y:=by
    rw[e] at hpj
    have:=(zK P w).inj (.str y u) (.inr z) (.inr y) hpj (Zy P w y u)
    exact Sum.inr.inj this
   refine hpm.mem_iff.mp (wC.mpr ⟨_,yY hj,?_⟩)
   rw[e,hzy]
   rfl
  have key:=h false s.heap (Heap.SameBut.refl a s.heap) (by unfold addS;rw[if_pos hin];exact hS0)
  exact uK (uK key)
 |none=>
  have hout:z ∉ ds:=fun hz=>by
   obtain⟨e,he,hze⟩:=wC.mp (hpm.mem_iff.mpr hz)
   obtain⟨y,u,ey⟩:=htx e he
   have h1:=List.findIdx?_eq_none_iff.mp hr e he
   rw[ey] at h1 hze
   have:y=z:=hze
   subst this
   rw[Zy] at h1
   cases h1
  have ead:addS ds z=ds++[z]:=by unfold addS;rw[if_neg hout]
  dsimp only
  have hperm:=layNew_perm t es ((zK P w).hash (.inr z)) (.str z tk)
  have hfits:=layNew_fits t es ((zK P w).hash (.inr z)) (.str z tk)
  have hmark:=zjF t es ((zK P w).hash (.inr z)) (.str z tk)
  generalize layNew t es ((zK P w).hash (.inr z)) (.str z tk)=L at hperm hfits hmark ⊢
  obtain⟨es1,t1,dm,gave⟩:=L
  dsimp only at hperm hfits hmark ⊢
  rw[uC] at hperm
  have hel1:ElemsOf (zK P w) es1.toList:=(hel.push is rfl).perm hperm
  have htx1:∀e∈es1.toList,∃z tk,e.2=.str z tk:=fun e he=>by
   rcases xI.mp (hperm.mem_iff.mp he) with h1|h1
   ·exact htx e h1
   ·rw[yO.mp h1];exact⟨_,_,rfl⟩
  have hpm1:(es1.toList.map fun e=>txOf e.2).Perm (ds++[z]):=by
   refine (hperm.map _).trans ?_
   rw[wF]
   exact hpm.append (uE.refl _)
  have hsz1:es1.size=ds.length+1:=by
   have:=hpm1.length_eq
   rw[yB,xE,yE] at this
   exact this
  have hb1:es1.size<scanBound:=by lia
  have gw:∀(b:Bool)(s1:Shared)(Q':Unit->Shared->Prop),Q' () s1->wpAny (model P w) A (match b with|true=>rule "set.scan.the-table-gave-way"|false=>pure ()) Q' E s1:=fun b s1 Q' hq=>by
   cases b
   ·exact uK hq
   ·exact wpAny_rule hq
  refine uJ (gw _ _ _ ?_)
  have tail:∀t2:SetTable,t2.fits es1.size=true->Tabled w t2 es1.size->wpAny (model P w) A (storeSet a es1 t2>>=fun _=>if (!dm&&t2.tooFull)=true then (match (relayAll t2 es1 (SetTable.grown es1.size)).2.2 with|true=>rule "set.scan.the-table-gave-way"|false=>pure ())>>=fun _=>storeSet a (relayAll t2 es1 (SetTable.grown es1.size)).1 (relayAll t2 es1 (SetTable.grown es1.size)).2.1>>=fun _=>pure (some true) else pure (some true))
    (fun r s'=>wpAny (model P w) A (match r with|some added=>pure added|none=>setAddHashedIn a (.str z tk) ((zK P w).hash (.inr z)) 99999) Q E s') E s:=fun t2 hf2 hm2=>by
   obtain⟨g1,S1⟩:=za5.store (es':=es1) (t':=t2) (ds:=ds++[z]) ho hex hd hel1 htx1 hpm1 hb1 hf2 hm2
   refine uJ (wpAny_storeSet_of ho hd ?_ (fits_of_scanBound hb1))
   have sb1:=Heap.SameBut.update s.heap a (Obj.putSet es1 t2)
   split
   ·have hp:=relayAll_perm t2 es1 (SetTable.grown es1.size)
    have hfr:=relayAll_fits t2 es1 (SetTable.grown es1.size)
    have hmr:=zgn t2 es1 (SetTable.grown es1.size)
    generalize relayAll t2 es1 (SetTable.grown es1.size)=Rl at hp hfr hmr ⊢
    obtain⟨es2,t3,gv⟩:=Rl
    dsimp only at hp hfr hmr ⊢
    have hz2:es2.size=es1.size:=by rw[←xE,hp.length_eq,xE]
    have hb2:es2.size<scanBound:=by rw[hz2];exact hb1
    refine uJ (gw _ _ _ (uJ (wpAny_storeSet_of g1 rfl ?_ (fits_of_scanBound hb2))))
    obtain⟨_,S2⟩:=za5.store (es':=es2) (t':=t3) (ds:=ds++[z]) g1 hex rfl (hel1.perm hp) (fun e he=>htx1 e (hp.mem_iff.mp he)) ((hp.map _).trans hpm1) hb2 hfr ⟨hmr.1.trans hm2.1,.inr (hmr.2 (hm2.2.resolve_left (by lia)))⟩
    exact uK (uK (h true _ (sb1.trans (Heap.SameBut.update _ a _)) (by rw[ead];exact S2)))
   ·exact uK (uK (h true _ sb1 (by rw[ead];exact S1)))
  split
  ·refine uJ ?_
   rw[hashByValue_scannable 8 rfl]
   exact uK (tail {t1 with plain:=false} (SetTable.fits_plain_off hfits) ⟨hmark.1.trans hmk.1,.inr rfl⟩)
  ·rename_i hpl
   exact uJ (uK (tail t1 hfits ⟨hmark.1.trans hmk.1,.inr (by simpa using hpl)⟩))
def allS(ys:List Str):List Str:=ys.foldl addS []
theorem zjG(ys:List Str)(z:Str):allS (ys++[z])=addS (allS ys) z:=by unfold allS;rw[List.foldl_append];rfl
theorem zlb{ds:List Str}{z:Str}:(addS ds z).length<=ds.length+1:=by
 unfold addS
 split
 ·lia
 ·rw[yE];exact yF _
theorem zfv:∀(ys ds:List Str),(ys.foldl addS ds).length<=ds.length+ys.length
 |[],ds=>by simp
 |z::ys,ds=>by
  have h1:=zfv ys (addS ds z)
  have h2:=zlb (ds:=ds) (z:=z)
  rw[List.foldl_cons,yG]
  lia
theorem zlc(ys:List Str):(allS ys).length<=ys.length:=by have:=zfv ys [];simpa [allS] using this
theorem zgo{R:Result->Shared->Prop}{I:Addr}{fp wr:List Addr}{G:Array GenState->Array GenState->Prop}{Pi:Nat->Value->Prop}{St:Nat->Shared->Prop}(ys:List Str)
  (Wk:WalksS P w A.in1 I fp wr G ys.length Pi St) (S:Addr) (hSf:S ∉ fp) (hk:∀i v,Pi i v->∃z tk,ys[i]?=some z/\v=.str z tk) (hb:ys.length+1<scanBound):
  ∀(m i:Nat)(s:Shared),m+i=ys.length->St i s->za5 P w S (allS (ys.take i)) s.heap->
   (∀s',Moved (S::wr) G s s'->za5 P w S (allS ys) s'.heap->R (.ok (.ret .none)) s')->codeAny (model P w) A (.builtin "set.update.loop" ⟨[.ref S,.ref I],[]⟩) R s:=by
 have out:S ∉ wr:=fun z=>hSf (Wk.sub _ z)
 have wid:∀b∈wr,b∈S::wr:=fun b z=>.tail _ z
 have held:∀(s s':Shared)(ds:List Str),za5 P w S ds s.heap->(∀o,s.heap.get? S=some o->s'.heap.get? S=some o)->za5 P w S ds s'.heap:=fun s s' ds ⟨o,es,ep,t,ho,rest⟩ k=>⟨o,es,ep,t,k o ho,rest⟩
 intro m
 induction m with
 |zero=>
  intro i s hi st hs fin
  obtain rfl:i=ys.length:=by lia
  rw[vG] at hs
  refine codeAny_builtin PyProof.Rows.F.entry_set_update_loop ?_
  rw[Around.under_plainId PyProof.Rows.F.plain_set_update_loop _]
  refine (show wpAny _ A.in1 (pyNext (.ref I)>>=_) _ _ s from uJ (Wk.done s _ _ st fun s' mv=>?_))
  exact (show wpAny _ A.in1 (ret Value.none) _ _ s' from uK (fin s' (mv.mono wid) (held s s' _ hs fun o e=>mv.heap S o out e)))
 |succ m ih=>
  intro i s hi st hs fin
  have lt:i<ys.length:=by lia
  refine codeAny_builtin PyProof.Rows.F.entry_set_update_loop ?_
  rw[Around.under_plainId PyProof.Rows.F.plain_set_update_loop _]
  refine (show wpAny _ A.in1 (pyNext (.ref I)>>=_) _ _ s from uJ (Wk.item i s _ _ lt st fun v s' hv st' mv=>?_))
  obtain⟨z,tk,hz,rfl⟩:=hk i v hv
  have hs':=held s s' _ hs fun o e=>mv.heap S o out e
  refine (show wpAny _ A.in1 (holding [.str z tk] (setAdd S (.str z tk))>>=_) _ _ s' from uJ (wpAny_holding ?_))
  unfold setAdd
  refine wpAny_holding (uJ ((zK P w).pyHash (k:=.inr z) (Zy P w z tk) ?_))
  have hl:=zlc (ys.take i)
  rw[yU] at hl
  refine zh7 (s:={s' with toks:=s'.toks+1}) hs' (by lia) fun b h' sb S2=>?_
  rw[←zjG,show ys.take i++[z]=ys.take (i+1) by rw[List.take_succ,hz];rfl] at S2
  refine uK ⟨plainId_quiet PyProof.Rows.F.plain_set_update_loop _,ih (i+1) _ (by lia) (Wk.frame _ s' _ _ st' (wQ _) fun b hb' o e=>?_) S2 fun s'' mv'' z'=>?_⟩
  ·rw[sb.2 b (fun z:b=S=>hSf (by rw[←z];exact hb'))];exact e
  ·refine fin s'' (Moved.trans Wk.gtrans ((mv.mono wid).then_heap (wQ _) fun b o hb' e=>?_) mv'') z'
   rw[sb.2 b (fun y:b=S=>hb' (by rw[y];exact xG))];exact e
end
section
variable{P:Program}{w:World}{A:Around}{E:Value->Shared->Prop}
abbrev setO(led:Bool):Obj:={cls:=.type "set",dict:=none,data:=.set #[] 0 (.fresh 0 0 led)}
theorem zh8{s:Shared}(a:Value){Q₁:Value->Shared->Prop}(h:Q₁ (.ref s.heap.objs.size) {s with heap:=s.heap.push (setO (!byTx w))}):
  codeAny (model P w) A (.call (.builtin "set.__new__") ⟨[.type "set",a],[]⟩) (wants Q₁ E) s:=by
 refine codeAny_of_tree (show wpAny _ A.in1 (checkBuiltinCall "set.__new__" ⟨[.type "set",a],[]⟩>>=fun _=>again (.builtin "set.__new__" ⟨[.type "set",a],[]⟩)) _ _ s from ?_)
 refine uJ (wpAny_of_eq (PySem.F.newCall_set_1 a) (uK ⟨plainId_quiet PySem.F.plain_set_new _,codeAny_builtin PySem.F.entry_set_new ?_⟩))
 rw[Around.under_plainId PySem.F.plain_set_new _]
 unfold Builtin.«set.__new__» Builtin.Frozenset.newClass
 have hsub:=PySem.sub_set_self
 obtain⟨hp,g,d,tk,os⟩:=s
 dsimp only
 wp_walk
 refine wpAny_askSetting (uK ?_)
 simp only[newObj]
 exact uJ (wpAny_alloc (uK (uK h)))
set_option maxHeartbeats 8000000 in
theorem zjH{s:Shared}{l:Addr}{items:Array Value}{ys:List Str}{Q:Value->Shared->Prop}(hh:A.handled=none)(hl:s.heap.IsList l items)(hz:items.size=ys.length)
  (hk:∀(i:Nat)(v:Value),items[i]?=some v->∃z tk,ys[i]?=some z/\v=.str z tk) (hb:ys.length+1<scanBound)
  (h:∀(h':Heap)(tk:Nat),za5 P w s.heap.objs.size (allS ys) h'->(∀b o,b<s.heap.objs.size->s.heap.get? b=some o->h'.get? b=some o)->Q (.ref s.heap.objs.size) {s with heap:=h',toks:=tk}):
  wpAny (model P w) A (call (.type "set") [.ref l]) Q E s:=by
 obtain⟨_,_,hmro⟩:=PySem.F.called_set.mro
 have hmade:=PySem.F.called_set.made
 have hsub:=PySem.F.called_set.sub
 refine wpAny_call (codeAny_of_tree (show wpAny _ _ (callAny (.type "set") _) _ _ _ from uK ⟨Code.quiet_builtin _ (by decide +kernel),codeAny_builtin PySem.F.entry_type_call ?_⟩))
 rw[Around.under_plain (weight_type_call_type "set" [.ref l] []) rfl]
 have h1:=PySem.F.called_set.notType
 have h2:=PySem.F.called_set.canCreate
 have hct:=PySem.F.typeCall_set_1 (.ref l)
 repeat any_goals (first|assumption|wp_step)
 refine codeAny_mono (zh8 (.ref l) (E:=E) (Q₁:=fun obj s₁=>obj=.ref s.heap.objs.size/\s₁={s with heap:=s.heap.push (setO (!byTx w))}) ⟨rfl,rfl⟩) fun r s₁ hr=>?_
 cases r with
 |error e=>exact hr
 |ok fl=>
  cases fl with
  |ret obj=>
   obtain⟨rfl,rfl⟩:=hr
   have gS:(s.heap.push (setO (!byTx w))).get? s.heap.objs.size=some (setO (!byTx w)):=uN _ rfl
   have tS:Shared.TypeIs {s with heap:=s.heap.push (setO (!byTx w))} (.ref s.heap.objs.size) "set":=⟨_,gS,rfl⟩
   have hli:=PySem.F.called_set.init.lookup
   have hbi:=PySem.F.called_set.init.bind (.ref s.heap.objs.size)
   repeat any_goals (first|assumption|wp_step)
   refine codeAny_mono (codeAny_call_builtin (R:=wants (fun r s₂=>r=.none/\∃h' tk,s₂={s with heap:=h',toks:=tk}/\za5 P w s.heap.objs.size (allS ys) h'/\∀b o,b<s.heap.objs.size->s.heap.get? b=some o->h'.get? b=some o) E)
    PySem.F.called_set.init.plain PySem.F.entry_set_init (check_set_init_1 tS ?_)) fun r₂ s₂ hr₂=>?_
   ·obtain⟨ol,hol,hcl,nl,hdl⟩:=hl
    obtain⟨ocls,odict,odata,oslots⟩:=ol
    simp only at hcl hdl
    subst hcl hdl
    have hol':(s.heap.push (setO (!byTx w))).get? l=some {cls:=.type "list",dict:=odict,data:=.seq items nl,slots:=oslots}:=uL _ hol
    have hsls:=PySem.F.sub_list_set
    have hslf:=PySem.F.sub_list_frozenset
    have hne:(Value.type "list"==Value.type "dict")=false:=by decide
    have hl1:(s.heap.push (setO (!byTx w))).IsList l items:=⟨_,hol',rfl,nl,rfl⟩
    unfold Builtin.«set.__init__» noKeywords Builtin.Frozenset.updateFrom
    generalize hPI:pyIter=PI
    wp_walk
    subst hPI
    refine wpAny_pyIter_list hl1 (uJ (wpAny_runValue ?_))
    have hlS:l<s.heap.objs.size:=uM hol
    have hh3:A.in1.in1.in1.handled=none:=by simp[hh]
    have sz:(s.heap.push (setO (!byTx w))).objs.size=s.heap.objs.size+1:=Heap.size_push ..
    have n1:l≠(s.heap.push (setO (!byTx w))).objs.size:=by rw[sz];exact yI (wT hlS)
    have n2:s.heap.objs.size ∉ [(s.heap.push (setO (!byTx w))).objs.size,l]:=by
     intro z
     rcases yQ.mp z with z|z
     ·rw[sz] at z
      exact absurd z (yI (xZ _))
     ·exact absurd (yO.mp z) (xV hlS)
    have Wl:=(Walks.list (prog:=P) (w:=w) hh3 _ l n1 items).toS
    rw[hz] at Wl
    refine zgo ys Wl s.heap.objs.size n2 (fun i v hv=>hk i v hv) hb ys.length 0 _ (by lia)
     ⟨⟨_,uN _ rfl,rfl,rfl⟩,(hl1.push _)⟩ ?c0 ?cR
    case c0=>
     have hget:=uL {cls:=.type "list_iterator",data:=.fields #[.ref l,.int 0 0]} gS
     exact⟨_,#[],0,_,hget,⟨rfl,rfl,rfl⟩,rfl,(fun e he=>by simp at he),(fun e he=>by simp at he),(by simp[allS]),by decide,by rfl,rfl,.inl rfl⟩
    case cR=>
     intro s' hm hS'
     obtain⟨h',g',d',tk',os'⟩:=s'
     have eg:g'=s.gens:=hm.gens
     have ed:d'=s.drawn:=hm.drawn
     have eo:os'=s.os:=hm.os
     subst eg ed eo
     refine uK (show wpAny _ _ (ret Value.none) _ _ _ from uK ⟨rfl,h',tk',rfl,hS',fun b o hb e=>?_⟩)
     refine hm.heap b o ?_ (uL _ (uL _ e))
     intro z
     rcases yQ.mp z with z|z
     ·exact absurd z (yI hb)
     ·have z:=yO.mp z
      rw[sz] at z
      exact absurd z (yI (wT hb))
   ·cases r₂ with
    |error e=>exact hr₂
    |ok fl₂=>
     cases fl₂ with
     |ret r=>
      obtain⟨rfl,h',tk,rfl,hS',hk'⟩:=hr₂
      repeat any_goals (first|assumption|wp_step)
      exact h _ _ hS' hk'
     |_=>exact hr₂.elim
  |_=>exact hr.elim
end
noncomputable def SetH(P:Program)(w:World)(a:Addr)(ds:List Str):HO:=.ext (za5 P w a ds)
theorem zgp{X:Cx}(hc:X.calm=true):zav X (.type "set") (fun xs H Q=>∃(p:Addr)(ys:List Str),xs=[.ref p]/\SqL X.K H p (ys.map V.str)/\ys.length<=1000/\∀l,H l=none->Q (.ref l) (upd H l (SetH X.prog X.w l (allS ys)))):=by
 intro zp s σ H xs us Q I r h
 obtain⟨p,ys,rfl,hq,hz,q⟩:=h
 obtain⟨u,rfl,rx⟩:=zbv r
 cases rx
 obtain⟨its,rv,pl,_⟩:=I.list hq
 have l1:=rv.length
 rw[yB] at l1
 have lz:its.toArray.size=ys.length:=by rw[yD,l1]
 refine zjH (I.ok.hd hc) pl.isList lz (fun i v hv=>?_) (by unfold scanBound;lia) (fun h' tk hS kp=>?_)
 ·have hv':its[i]?=some v:=by simpa using hv
  have hi:i<ys.length:=by rw[l1];exact (yC.mp hv').1
  obtain⟨u1,hu1,t1,rfl⟩:=rv.get (i:=i) (x:=V.str ys[i]) (by rw[yK,yA hi];rfl)
  rw[hu1] at hv'
  cases hv'
  exact⟨_,_,yA hi,rfl⟩
 ·have kp':∀b o,s.heap.get? b=some o->h'.get? b=some o:=fun b o e=>kp b o (uM e) e
  refine⟨.ref s.heap.objs.size,_,I.laid (t':=tk) kp' (yF _) (show Zh X.prog X.w _ h' _ (SetH X.prog X.w s.heap.objs.size (allS ys)) from⟨hS,?_,fun h1 h2 ⟨o,es,ep,t,ho,rest⟩ hk=>⟨o,es,ep,t,hk o ho,rest⟩⟩),rfl,q _ (I.hok.fresh (yF _))⟩
  obtain⟨o,es,ep,t,ho,rest⟩:=hS
  exact⟨o,ho⟩
theorem ZG:Slot "set_iterator" "__next__" "set_iterator.__next__":=
 .of (owner:="set_iterator") (n:="__next__") (by rw[typeLookup_type,builtinLookup_eq_fast];kernel_rfl)
  (by decide +kernel) (by decide +kernel) (by decide +kernel) (.inl (by decide +kernel)) (by rw[isSubtype_type];kernel_rfl)
theorem zbE:Slot "set_iterator" "__iter__" "set_iterator.__iter__":=
 .of (owner:="set_iterator") (n:="__iter__") (by rw[typeLookup_type,builtinLookup_eq_fast];kernel_rfl)
  (by decide +kernel) (by decide +kernel) (by decide +kernel) (.inl (by decide +kernel)) (by rw[isSubtype_type];kernel_rfl)
theorem zdy:entryFor table "set_iterator.__next__"=some Builtin.«set_iterator.__next__»:=entryFor_of_tree (by kernel_rfl)
theorem zdz:entryFor table "set_iterator.__iter__"=some Builtin.«dict_keyiterator.__iter__»:=
 entryFor_alias (id':="dict_keyiterator.__iter__") (by kernel_rfl) (by decide +kernel) (by decide +kernel) (by kernel_rfl)
theorem zdA:entryFor table "set.__iter__"=some Builtin.«frozenset.__iter__»:=
 entryFor_alias (id':="frozenset.__iter__") (by kernel_rfl) (by decide +kernel) (by decide +kernel) (by kernel_rfl)
theorem zfw:Manifest.owners.lookup (String.ofList "rotareti_tes".toList.reverse)=some Manifest.sig_set_iterator:=by kernel_rfl
theorem zex(a:Value):argsOk "set_iterator.__next__" ⟨[a],[]⟩:=by
 unfold argsOk
 rw[signature?_of (id:="set_iterator.__next__") (n:="__txen__".toList) (o:="rotareti_tes".toList) (by kernel_rfl) zfw]
 kernel_rfl
theorem zey(a:Value):argsOk "set_iterator.__iter__" ⟨[a],[]⟩:=by
 unfold argsOk
 rw[signature?_of (id:="set_iterator.__iter__") (n:="__reti__".toList) (o:="rotareti_tes".toList) (by kernel_rfl) zfw]
 kernel_rfl
theorem zdP{α:Type}{l:List α}{i:Nat}(h:i<l.length):(l[i]::l.eraseIdx i).Perm l:=by
 rw[List.eraseIdx_eq_take_drop_succ]
 refine List.perm_middle.symm.trans ?_
 rw[List.getElem_cons_drop h,wL]
theorem zjI{α:Type}(nx:Nat->Nat):∀(fuel k:Nat)(left:List α)(out:Array α),fuel=left.length->(pickOrder.go nx fuel k left out).toList.Perm (out.toList++left)
 |0,k,left,out,h=>by
  have:left=[]:=xC.mp h.symm
  subst this
  unfold pickOrder.go
  simp
 |fuel+1,k,left,out,h=>by
  have hpos:0<left.length:=by lia
  have hi:nx k % left.length<left.length:=Nat.mod_lt _ hpos
  unfold pickOrder.go
  rw[yA hi]
  refine (zjI nx fuel (k+1) _ _ (by rw[vV,if_pos hi];lia)).trans ?_
  rw[uC,xW]
  exact uE.append_left _ (zdP hi)
theorem zjJ{α:Type}(nx:Nat->Nat)(xs:Array α):(pickOrder nx xs).toList.Perm xs.toList:=by
 have:=zjI nx xs.size 0 xs.toList #[] (by rw[xE])
 simpa [pickOrder] using this
section
variable{P:Program}{w:World}{A:Around}{E:Value->Shared->Prop}
theorem zld{α:Type}(n:Nat):∀(xs:List α)(s:Shared)(Q:List α->Shared->Prop),xs.length=n->(∀(ys:List α) d',ys.Perm xs->Q ys {s with drawn:=d'})->wpAny (model P w) A (drawOrder n xs) Q E s:=by
 induction n with
 |zero=>
  intro xs s Q h q
  have:xs=[]:=xC.mp h
  subst this
  unfold drawOrder
  exact uK (q [] s.drawn .nil)
 |succ n ih=>
  intro xs s Q h q
  cases xs with
  |nil=>cases h
  |cons x xs=>
  unfold drawOrder
  refine uJ (fun Γ p hΓ=>?_)
  show Sem.wp _ _ (Sem.choose .order (x::xs).length Sem.pure) _ _ _ _
  rw[Sem.wp_choose]
  refine⟨by simp,?_⟩
  rw[Sem.wp_pure]
  have hi:(model P w).w.draws .order (s.drawn.get .order) % (x::xs).length<(x::xs).length:=Nat.mod_lt _ (by simp)
  generalize (model P w).w.draws .order (s.drawn.get .order) % (x::xs).length=i at hi ⊢
  show wpAny (model P w) A (match (x::xs)[i]? with|some y=>drawOrder n ((x::xs).eraseIdx i)>>=fun l=>pure (y::l)|none=>unsupported "internal:drawOrder") Q E _
  rw[yA hi]
  refine uJ (ih _ _ _ (by rw[vV,if_pos hi];lia) fun ys d' hp=>uK (q _ d' ?_))
  exact (uE.cons _ hp).trans (zdP hi)
end
def ItAt(w:World)(I a pl:Addr)(es:Array (Int×Value))(ep:Nat)(t:SetTable)(ord:List Value)(i:Nat)(h:Heap):Prop:=
 (∃o,h.get? a=some o/\o.data=.set es ep t)/\∃(oI:Obj)(first:Value),h.get? I=some oI/\oI.cls=.type "set_iterator"/\oI.data=.fields #[first,rawInt i,.ref a,rawInt es.size,rawInt ep] /\
  ((byTx w=true/\first=rawInt 0/\ord=(pickOrder (w.params.setOrder a ep) es).toList.map (·.2)) \/
   (byTx w=false/\∃(ps:List Nat)(op:Obj)(c:Nat),first=.ref pl/\h.get? pl=some op/\op.data=.seq (ps.map fun (p:Nat)=>rawInt p).toArray c/\ord.length=ps.length/\∀(j p:Nat),ps[j]?=some p->∃e,es[p]?=some e/\ord[j]?=some e.2) \/
   (byTx w=false/\es.size<=1/\t.led=true/\ord=es.toList.map (·.2)/\∃sl:Nat,first=rawInt sl/\(i=0->sl=0)/\(0<i->∀j,t.place[0]?=some j->sl=j+1)))
section
variable{P:Program}{w:World}{A:Around}{E:Value->Shared->Prop}
theorem zna{s:Shared}{Q:PySem.Fin->Shared->Prop}{E':Value->Shared->Prop}(hh:A.handled=none)
  (h:∀(x:Addr)(h':Heap),(∀b o,s.heap.get? b=some o->h'.get? b=some o)->(∃o,h'.get? x=some o/\o.cls=.type "StopIteration")->E' (.ref x) {s with heap:=h'}):
  wpAny (model P w) A (newExc (.type "StopIteration") []>>=fun e=>raiseNew e) Q E' s:=by
 refine uJ ?_
 simp only[newExc,newTuple]
 refine uJ (uR ?_ (by size_fits))
 refine uJ (m:=firstArgMember _ _) (wpAny_of_eq (a:=Value.none) (by first|rfl|(simp only[firstArgMember];rfl)) ?_)
 refine uR ?_ (by size_fits)
 simp only[raiseNew]
 refine uJ (wpAny_handled ?_)
 rw[hh]
 refine uJ (uK (wpAny_throw (h _ _ (fun b o e=>uL _ (uL _ e)) ⟨_,uN _ rfl,rfl⟩)))
theorem zbF{s:Shared}{Q:Bool->Shared->Prop}(h:Q (byTx w) s):wpAny (model P w) A setsByText Q E s:=by
 unfold setsByText
 exact uJ (wpAny_askSetting (uK h))
theorem zle{s:Shared}{a:Addr}{oa:Obj}{es:Array (Int×Value)}{ep sl g:Nat}{t:SetTable}{Q:Option (Value×Nat)->Shared->Prop}(hb:byTx w=true)(hoa:s.heap.get? a=some oa)(hda:oa.data=.set es ep t)(hf:t.fits es.size=true)
  (h:Q (((pickOrder (w.params.setOrder a ep) es)[g]?).map fun e=>(e.2,sl)) s):wpAny (model P w) A (setNext a sl g ep) Q E s:=by
 unfold setNext
 refine uJ (wpAny_setState_of hoa hda hf (uJ (zbF ?_)))
 rw[hb]
 simp only[↓reduceIte,bne_self_eq_false,yZ]
 unfold setWalk
 refine uJ (uJ (wpAny_setState_of hoa hda hf (uJ (zbF ?_))))
 rw[hb]
 simp only[↓reduceIte]
 exact uJ (wpAny_askSetting (uK (uK h)))
theorem zlf{s:Shared}{a:Addr}{oa:Obj}{es:Array (Int×Value)}{ep sl g:Nat}{t:SetTable}{Q:Option (Value×Nat)->Shared->Prop}(hb:byTx w=false)(hled:t.led=true)(h1:es.size<=1)(hoa:s.heap.get? a=some oa)(hda:oa.data=.set es ep t)(hf:t.fits es.size=true)
  (h:Q (match es[SetTable.below t.place sl]?,t.place[SetTable.below t.place sl]? with|some (_,x),some j=>some (x,j+1)|_,_=>none) s):wpAny (model P w) A (setNext a sl g ep) Q E s:=by
 unfold setNext
 refine uJ (wpAny_setState_of hoa hda hf (uJ (zbF ?_)))
 rw[hb]
 simp only[↓reduceIte,yZ]
 split
 ·rename_i hd
  have hd':(!t.plain&&decide (es.size > 1))=true:=hd
  rw[yV,decide_eq_true_eq] at hd'
  lia
 ·refine uJ (show wpAny _ _ (if (!t.led && !es.isEmpty)=true then unsupported "set:maker-not-led" else pure ()) _ _ s from ?_)
  rw[hled,Bool.not_true,wS,if_neg yH]
  exact uK (uK h)
theorem zjK{s:Shared}{a:Addr}{oa:Obj}{es:Array (Int×Value)}{ep p:Nat}{t:SetTable}{e:Int×Value}{Q:Value->Shared->Prop}(hoa:s.heap.get? a=some oa)(hda:oa.data=.set es ep t)(hf:t.fits es.size=true)(he:es[p]?=some e)(h:Q e.2 s):
  wpAny (model P w) A (setNextDrawn a p ep) Q E s:=by
 unfold setNextDrawn
 refine uJ (wpAny_setState_of hoa hda hf ?_)
 simp only[bne_self_eq_false,yZ,↓reduceIte]
 rw[he]
 exact uK h
theorem zof{xs:Array Nat}(h:xs.size=1):∃j,xs=#[j]:=by
 obtain⟨l⟩:=xs
 match l,h with
 |[j],_=>exact⟨j,rfl⟩
theorem zjL{t:SetTable}{j:Nat}(h:t.place=#[j]):SetTable.below t.place 0=0/\SetTable.below t.place (j+1)=1:=by
 rw[h]
 unfold SetTable.below
 constructor
 ·simp[SetTable.below.go]
 ·simp[SetTable.below.go]
theorem zjM{t:SetTable}{j:Nat}(h:t.place=#[]):SetTable.below t.place j=0:=by
 rw[h]
 rfl
theorem fld{h:Heap}{I:Addr}{o:Obj}{vs:Array Value}(ho:h.get? I=some o)(hd:o.data=.fields vs)(k:Nat)(x:Value):
  (∃o',(h.update I (Obj.mapFields (·.setIfInBounds k x))).get? I=some o'/\o'.cls=o.cls/\o'.data=.fields (vs.setIfInBounds k x))/\∀b q,b≠I->h.get? b=some q->(h.update I (Obj.mapFields (·.setIfInBounds k x))).get? b=some q:=
 ⟨⟨_,Heap.get?_update_self _ ho (Obj.isFreed_of_fields (Obj.data_mapFields hd _)),Obj.cls_mapFields ..,Obj.data_mapFields hd _⟩,fun b q hb e=>(Heap.get?_update_other _ _ (Ne.symm hb)).trans e⟩
theorem zhn{s:Shared}{I a pl:Addr}{es:Array (Int×Value)}{ep:Nat}{t:SetTable}{ord:List Value}{i:Nat}{Q:Option Value->Shared->Prop}(hh:A.handled=none)(hf:t.fits es.size=true)(hz:ord.length=es.size)(hne:a≠I)(hnp:pl≠I)
  (h:ItAt w I a pl es ep t ord i s.heap)
  (item:∀(v:Value)(h':Heap),ord[i]?=some v->ItAt w I a pl es ep t ord (i+1) h'->(∀b o,b≠I->s.heap.get? b=some o->h'.get? b=some o)->Q (some v) {s with heap:=h'})
  (done:ord[i]?=none->∀h':Heap,(∀b o,b≠I->s.heap.get? b=some o->h'.get? b=some o)->Q none {s with heap:=h'}):
  wpAny (model P w) A (pyNext (.ref I)) Q E s:=by
 obtain⟨⟨oa,hoa,hda⟩,oI,first,hI,hc,hd,mode⟩:=h
 have hT:s.TypeIs (.ref I) "set_iterator":=⟨oI,hI,hc⟩
 unfold pyNext
 refine uJ (wpAny_attempt (wpAny_callSpecial?_slot (name:=uI "__next__") hT ZG (wpAny_call_entry ZG hT zdy ?_ (zex _))))
 unfold Builtin.«set_iterator.__next__»
 refine uJ (uK (uJ (wpAny_fieldsOf hI hd ?_)))
 have stop:∀(h2:Heap),ord[i]?=none->(∀b o,b≠I->s.heap.get? b=some o->h2.get? b=some o)->wpAny (model P w) A.in1 (newExc (.type "StopIteration") []>>=fun e=>(raiseNew e:Sem PySem.Fin)) (fun fin s'=>∃v,fin=.done (.ret v)/\wpAny (model P w) A (match (Except.ok (some v):Except Value (Option Value)) with|Except.ok (some v)=>pure (some v)|Except.ok none=>unsupported "iter:the-iterator's-class-has-lost-its-__next__-amid-the-walk"|Except.error e=>do
   let b ←isInstance e (Value.type "StopIteration")
   if b=true then pure none else throw e) Q E s') (fun e s'=>wpAny (model P w) A (match (Except.error e:Except Value (Option Value)) with|Except.ok (some v)=>pure (some v)|Except.ok none=>unsupported "iter:the-iterator's-class-has-lost-its-__next__-amid-the-walk"|Except.error e=>do
   let b ←isInstance e (Value.type "StopIteration")
   if b=true then pure none else throw e) Q E s') {s with heap:=h2}:=fun h2 hn hk=>by
  refine zna (A:=A.in1) (by simpa using hh) fun x h' hk' hx=>?_
  obtain⟨ox,hox,hcx⟩:=hx
  refine uJ (wpAny_isInstance (T:="StopIteration") (b:=true) ⟨ox,hox,hcx⟩ isSubtype_stop ?_)
  exact uK (done hn h' fun b o hb e=>hk' b o (hk b o hb e))
 refine uJ (wpAny_setEntries_of hoa hda hf ?_)
 rw[if_neg (by simp)]
 have hlt:∀ {v},ord[i]?=some v->i<es.size:=fun {v} e=>by rw[←hz];exact (yC.mp e).1
 rcases mode with⟨hb,rfl,hord⟩|⟨hb,ps,op,c,rfl,hop,hdp,hlen,hps⟩|⟨hb,h1,hled,hord,sl,rfl,hs0,hs1⟩
 ·refine uJ (zle hb hoa hda hf ?_)
  have hoi:ord[i]?=((pickOrder (w.params.setOrder a ep) es)[i]?).map (·.2):=by rw[hord,yK,wI]
  show wpAny _ _ (match (((pickOrder (w.params.setOrder a ep) es)[i]?).map fun e=>(e.2,(0:Nat))) with|some (x,next)=>_|none=>_) _ _ s
  cases hp:(pickOrder (w.params.setOrder a ep) es)[i]? with
  |none=>
   rw[hp] at hoi
   obtain⟨⟨o1,g1,c1,d1⟩,k1⟩:=fld hI hd 2 .none
   exact uJ (wpAny_setField hI hd (by simp) (stop _ hoi k1))
  |some e=>
   rw[hp] at hoi
   obtain⟨⟨o1,g1,c1,d1⟩,k1⟩:=fld hI hd 0 (rawInt (0:Nat))
   obtain⟨⟨o2,g2,c2,d2⟩,k2⟩:=fld g1 d1 1 (rawInt ((i:Int)+1))
   refine uJ (wpAny_setField hI hd (by simp) (uJ (wpAny_setField g1 d1 (by simp) ?_)))
   have kk:∀b q,b≠I->s.heap.get? b=some q->_:=fun b q hb e'=>k2 b q hb (k1 b q hb e')
   exact uK ⟨_,rfl,uK (item _ _ hoi ⟨⟨oa,kk a _ hne hoa,hda⟩,o2,rawInt 0,g2,c2.trans (c1.trans hc),by rw[d2];simp[rawInt],.inl ⟨hb,rfl,hord⟩⟩ kk)⟩
 ·refine uJ (wpAny_seqItems hop hdp ?_)
  show wpAny _ _ (match ((ps.map fun (p:Nat)=>rawInt p).toArray)[i]? with|some (Value.int place tok)=>_|some _=>_|none=>_) _ _ s
  rw[List.getElem?_toArray,yK]
  cases hp:ps[i]? with
  |none=>
   have hoi:ord[i]?=none:=xH (by rw[hlen];exact List.getElem?_eq_none_iff.mp hp)
   obtain⟨⟨o1,g1,c1,d1⟩,k1⟩:=fld hI hd 0 (rawInt 0)
   obtain⟨⟨o2,g2,c2,d2⟩,k2⟩:=fld g1 d1 2 .none
   exact uJ (wpAny_setField hI hd (by simp) (uJ (wpAny_setField g1 d1 (by simp) (stop _ hoi fun b q hb e'=>k2 b q hb (k1 b q hb e')))))
  |some p=>
   obtain⟨e,he,hoi⟩:=hps i p hp
   obtain⟨⟨o1,g1,c1,d1⟩,k1⟩:=fld hI hd 1 (rawInt ((i:Int)+1))
   refine uJ (show wpAny _ _ (setNextDrawn a p ep) _ _ s from zjK hoa hda hf he (uJ (wpAny_setField hI hd (by simp) ?_)))
   exact uK ⟨_,rfl,uK (item _ _ hoi ⟨⟨oa,k1 a _ hne hoa,hda⟩,o1,_,g1,c1.trans hc,by rw[d1];simp[rawInt],.inr (.inl ⟨hb,ps,op,c,rfl,k1 pl _ hnp hop,hdp,hlen,hps⟩)⟩ k1)⟩
 ·refine uJ (zlf hb hled h1 hoa hda hf ?_)
  have hpz:t.place.size=es.size:=by
   have:=hf
   unfold SetTable.fits at this
   rw[yV,beq_iff_eq] at this
   exact this.1
  show wpAny _ _ (match (match es[SetTable.below t.place sl]?,t.place[SetTable.below t.place sl]? with|some (_,x),some j=>some (x,j+1)|_,_=>none) with|some (x,next)=>_|none=>_) _ _ s
  have fin:ord[i]?=none->wpAny (model P w) A.in1 (setField (.ref I) 2 .none>>=fun _=>newExc (.type "StopIteration") []>>=fun e=>(raiseNew e:Sem PySem.Fin)) _ _ s:=fun hoi=>by
   obtain⟨⟨o1,g1,c1,d1⟩,k1⟩:=fld hI hd 2 .none
   exact uJ (wpAny_setField hI hd (by simp) (stop _ hoi k1))
  by_cases h0:es.size=0
  ·have hp0:t.place=#[]:=Array.eq_empty_of_size_eq_zero (by lia)
   rw[zjM hp0,vM (by lia)]
   exact fin (xH (by lia))
  ·have he1:es.size=1:=by lia
   obtain⟨j,hj⟩:∃j,t.place=#[j]:=by
    have:t.place.size=1:=by lia
    exact zof this
   obtain⟨b0,b1⟩:=zjL hj
   by_cases hi0:i=0
   ·subst hi0
    rw[hs0 rfl,b0,hj,xO (show 0<es.size by lia)]
    obtain⟨⟨o1,g1,c1,d1⟩,k1⟩:=fld hI hd 0 (rawInt ((j+1:Nat):Int))
    obtain⟨⟨o2,g2,c2,d2⟩,k2⟩:=fld g1 d1 1 (rawInt (((0:Nat):Int)+1))
    have hoi:ord[0]?=some es[0].2:=by rw[hord,yK,wI,xO (show 0<es.size by lia)];rfl
    have kk:∀b q,b≠I->s.heap.get? b=some q->_:=fun b q hb e'=>k2 b q hb (k1 b q hb e')
    refine uJ (wpAny_setField hI hd (by simp) (uJ (wpAny_setField g1 d1 (by simp) ?_)))
    exact uK ⟨_,rfl,uK (item _ _ hoi ⟨⟨oa,kk a _ hne hoa,hda⟩,o2,rawInt ((j+1:Nat):Int),g2,c2.trans (c1.trans hc),by rw[d2];simp[rawInt],.inr (.inr ⟨hb,h1,hled,hord,j+1,rfl,(fun z=>by lia),fun _ j' hj'=>by rw[hj] at hj';simpa using hj'⟩)⟩ kk)⟩
   ·rw[hs1 (by lia) j (by rw[hj];rfl),b1,vM (by lia)]
    exact fin (xH (by lia))
theorem zlg(hh:A.handled=none)(I a pl:Addr){es:Array (Int×Value)}{ep:Nat}{t:SetTable}{ord:List Value}(hf:t.fits es.size=true)(hz:ord.length=es.size)(hne:a≠I)(hnp:pl≠I):
  Walks P w A I [I,a,pl] [I] ord.length (fun i v=>ord[i]?=some v) (fun i h=>ItAt w I a pl es ep t ord i h) where
 sub:=fun b hb=>by rw[yO.mp hb];exact xG
 frame:=fun i h h' st hk=>by
  obtain⟨⟨oa,hoa,hda⟩,oI,first,hI,hc,hd,mode⟩:=st
  refine⟨⟨oa,hk a (by simp) _ hoa,hda⟩,oI,first,hk I (by simp) _ hI,hc,hd,?_⟩
  rcases mode with m|⟨hb,ps,op,c,e1,hop,rest⟩|m
  ·exact .inl m
  ·exact .inr (.inl ⟨hb,ps,op,c,e1,hk pl (by simp) _ hop,rest⟩)
  ·exact .inr (.inr m)
 item:=fun i s Q E hi st hQ=>by
  refine zhn hh hf hz hne hnp st (fun v h' hv st' kp=>hQ v h' s.toks hv st' fun b o hb e=>kp b o (fun z=>hb (by simp[z])) e) (fun hn=>?_)
  rw[yA hi] at hn
  cases hn
 done:=fun s Q E st hQ=>by
  refine zhn hh hf hz hne hnp st (fun v h' hv=>?_) (fun hn h' kp=>hQ h' s.toks fun b o hb e=>kp b o (fun z=>hb (by simp[z])) e)
  rw[xH (yF _)] at hv
  cases hv
 self:=fun i s Q E st hQ=>by
  obtain⟨_,oI,first,hI,hc,_⟩:=st
  have hT:s.TypeIs (.ref I) "set_iterator":=⟨oI,hI,hc⟩
  refine wpAny_pyIter_slot hT zbE (wpAny_call_entry zbE hT zdz ?_ (zey _))
  exact (show wpAny _ _ (ret (Value.ref I)) _ _ s from uK ⟨_,rfl,"set_iterator",_,hT,ZG.lookup,hQ⟩)
theorem zlh{s:Shared}{a:Addr}{ds:List Str}{Q:Value->Shared->Prop}(hS:za5 P w a ds s.heap)
  (h:∀(I pl:Addr)(h':Heap)(d':Drawn)(es:Array (Int×Value))(ep:Nat)(t:SetTable)(ord:List Value),(∀b o,s.heap.get? b=some o->h'.get? b=some o)->s.heap.objs.size<=I->pl≠I->(pl=a\/s.heap.objs.size<=pl)->t.fits es.size=true->ord.length=es.size->ord.Perm (es.toList.map (·.2))->(∀v∈ord,∃z tk,v=.str z tk)->(ord.map txOf).Perm ds->ItAt w I a pl es ep t ord 0 h'->Q (.ref I) {s with heap:=h',drawn:=d'}):
  wpAny (model P w) A (pyIter (.ref a)) Q E s:=by
 obtain⟨o,es,ep,t,ho,hex,hd,hel,htx,hpm,hb,hf,hmk⟩:=hS
 have hT:s.TypeIs (.ref a) "set":=⟨o,ho,hex.1⟩
 have haI:a<s.heap.objs.size:=uM ho
 refine wpAny_pyIter_slot hT PySem.F.slot_set_iter (wpAny_call_entry PySem.F.slot_set_iter hT zdA ?_ (PySem.F.args_set_iter_1 _))
 unfold Builtin.«frozenset.__iter__»
 have hvals:∀ord:List Value,ord.Perm (es.toList.map (·.2))->ord.length=es.size/\(∀v∈ord,∃z tk,v=.str z tk)/\(ord.map txOf).Perm ds:=fun ord hp=>by
  refine⟨by rw[hp.length_eq,yB,xE],fun v hv=>?_,?_⟩
  ·obtain⟨e,he,rfl⟩:=wC.mp (hp.mem_iff.mp hv)
   exact htx e he
  ·have:=hp.map txOf
   rw[wB] at this
   exact this.trans hpm
 refine uJ (m:=Builtin.Frozenset.slot0 "__iter__" _) (uK ?_)
 refine uJ (show wpAny _ _ (setEntries a>>=fun x=>pure x.size) _ _ s from uJ (wpAny_setEntries_of ho hd hf (uK ?_)))
 refine uJ ?_
 unfold setDrawn
 refine uJ (wpAny_setState_of ho hd hf (uJ (zbF (uK ?_))))
 show wpAny _ _ (if (!byTx w&&(!t.plain&&decide (es.size > 1)))=true then _ else _) _ _ s
 split
 ·rename_i hdr
  rw[yV,yV,decide_eq_true_eq] at hdr
  have hb0:byTx w=false:=by simpa using hdr.1
  refine uJ (zld es.size (xR es.size) s _ (by simp) fun ps d' hps=>?_)
  have hpl:ps.length=es.size:=by rw[hps.length_eq,List.length_range]
  refine uJ (uR ?_ (by show (List.map _ ps).toArray.size<=uQ;rw[yD,yB,hpl];exact fits_of_scanBound hb))
  have kp1:∀b q,s.heap.get? b=some q->(s.heap.push {cls:=.type "tuple",data:=.seq (ps.map fun (p:Nat)=>rawInt p).toArray}).get? b=some q:=fun b q e=>uL _ e
  refine uJ (wpAny_setEpoch_of (kp1 a _ ho) hd hf (uJ (uR ?_)))
  refine uK ⟨_,rfl,"set_iterator",_,⟨_,uN _ rfl,rfl⟩,ZG.lookup,?_⟩
  have kp2:∀b q,s.heap.get? b=some q->((s.heap.push {cls:=.type "tuple",data:=.seq (ps.map fun (p:Nat)=>rawInt p).toArray}).push {cls:=.type "set_iterator",data:=.fields #[.ref s.heap.objs.size,rawInt 0,.ref a,rawInt es.size,rawInt ep]}).get? b=some q:=fun b q e=>uL _ (kp1 b q e)
  have hin:∀p∈ps,p<es.size:=fun p hp=>wR.mp (hps.mem_iff.mp hp)
  have ho':(ps.map fun p=>(es.toList.map (·.2)).getD p .none).Perm (es.toList.map (·.2)):=by
   refine (hps.map _).trans (uE.of_eq ?_)
   apply vF (by simp)
   intro k h1 h2
   simp at h2
   simp[h2]
  obtain⟨h1,h2,h3⟩:=hvals _ ho'
  have sz:(s.heap.push {cls:=.type "tuple",data:=.seq (ps.map fun (p:Nat)=>rawInt p).toArray}).objs.size=s.heap.objs.size+1:=Heap.size_push ..
  refine h _ s.heap.objs.size _ d' es ep t _ kp2 (by rw[sz];exact wQ _) (yI (by rw[sz];exact xZ _)) (.inr (yF _)) hf h1 ho' h2 h3 ⟨⟨o,kp2 a _ ho,hd⟩,_,.ref s.heap.objs.size,uN _ rfl,rfl,rfl,.inr (.inl ⟨hb0,ps,_,_,rfl,uL _ (uN _ rfl),rfl,by rw[yB],fun j p hj=>?_⟩)⟩
  have hp:=hin p (yS hj)
  refine⟨es[p],xO hp,?_⟩
  rw[yK,hj]
  simp[hp]
 ·rename_i hdr
  refine uJ (uK (uJ (wpAny_setEpoch_of ho hd hf (uJ (uR ?_)))))
  refine uK ⟨_,rfl,"set_iterator",_,⟨_,uN _ rfl,rfl⟩,ZG.lookup,?_⟩
  have kp:∀b o,s.heap.get? b=some o->(s.heap.push {cls:=.type "set_iterator",data:=.fields #[rawInt 0,rawInt 0,.ref a,rawInt es.size,rawInt ep]}).get? b=some o:=fun b o e=>uL _ e
  cases hbt:byTx w with
  |true=>
   have hp:((pickOrder (w.params.setOrder a ep) es).toList.map (·.2)).Perm (es.toList.map (·.2)):=(zjJ _ es).map _
   obtain⟨h1,h2,h3⟩:=hvals _ hp
   exact h s.heap.objs.size a _ s.drawn es ep t _ kp (yF _) (yI haI) (.inl rfl) hf h1 hp h2 h3 ⟨⟨o,kp a _ ho,hd⟩,_,rawInt 0,uN _ rfl,rfl,rfl,.inl ⟨hbt,rfl,rfl⟩⟩
  |false=>
   have hsz:es.size<=1:=by
    rw[hbt] at hdr
    rcases hmk.2 with h0|h0
    ·lia
    ·rw[h0] at hdr
     simp at hdr
     lia
   obtain⟨h1,h2,h3⟩:=hvals _ (.refl _)
   exact h s.heap.objs.size a _ s.drawn es ep t _ kp (yF _) (yI haI) (.inl rfl) hf h1 (.refl _) h2 h3 ⟨⟨o,kp a _ ho,hd⟩,_,rawInt 0,uN _ rfl,rfl,rfl,.inr (.inr ⟨hbt,hsz,by rw[hmk.1,hbt];rfl,rfl,0,rfl,fun _=>rfl,fun z=>absurd z (xD _)⟩)⟩
end
theorem zh9(v:Value)(h:∃z tk,v=.str z tk):txOf v=strOf v:=by
 obtain⟨z,tk,rfl⟩:=h
 rfl
section
variable{P:Program}{w:World}{A:Around}{E:Value->Shared->Prop}
theorem zli{s:Shared}{r:Addr}{Q:Bool->Shared->Prop}(hT:s.TypeIs (.ref r) "set")(h:Q false s):wpAny (model P w) A (Builtin.List.listLengthHint (.ref r)) Q E s:=by
 unfold Builtin.List.listLengthHint
 refine uJ (wpAny_specialOf hT PySem.F.slot_set_len.lookup ?_)
 generalize hid:("set.__len__":String)=id0
 wp_delta
 rw[show splitId id0=some ("set","__len__") from by subst hid;decide +kernel]
 subst hid
 refine uJ (wpAny_isInstance (T:="set") (b:=true) hT PySem.sub_set_self ?_)
 refine wpAny_ite_split (fun hab=>absurd hab (by decide)) (fun _=>?_)
 refine wpAny_ite_split (fun _=>?_) (fun hab=>absurd (by decide +kernel) hab)
 exact uJ (wpAny_typeOf hT (uK h))
abbrev lO(xs:Array Value)(c:Nat):Obj:={cls:=.type "list",dict:=none,data:=.seq xs c,slots:=#[]}
theorem zgq{s:Shared}{a:Addr}{T:String}{oa:Obj}{n:Nat}{Gd:(Nat->Value->Prop)->Prop}{R:List Value->Shared->Prop}(hoa:s.heap.get? a=some oa)(hca:oa.cls=.type T)(hT2:(Value.type T==.type "list"||Value.type T==.type "tuple")=false)(hn1:n<=uQ)
  (hnt:∀(s1:Shared)(Q:Bool->Shared->Prop)(E:Value->Shared->Prop),s1.TypeIs (.ref a) T->Q false s1->wpAny (model P w) A.in1 (Builtin.List.listLengthHint (.ref a)) Q E s1)
  (it:∀(Q:Value->Shared->Prop)(E:Value->Shared->Prop),(∀(I:Addr)(fp:List Addr)(h1:Heap)(d1:Drawn)(St:Nat->Heap->Prop)(Pi:Nat->Value->Prop),Gd Pi->(∀b o,(s.heap.push (lO #[] 0)).get? b=some o->h1.get? b=some o)->s.heap.objs.size<I->s.heap.objs.size ∉ fp->Walks P w A.in1 I fp [I] n Pi St->St 0 h1->Q (.ref I) {s with heap:=h1,drawn:=d1})->wpAny (model P w) A.in1 (pyIter (.ref a)) Q E {s with heap:=s.heap.push (lO #[] 0)})
  (h:∀(h':Heap)(tk:Nat)(d':Drawn)(acc:Array Value)(Pi:Nat->Value->Prop),Gd Pi->(∀b o,s.heap.get? b=some o->h'.get? b=some o)->s.heap.objs.size<=h'.objs.size->ItemsOf Pi acc n->R acc.toList {s with heap:=h',toks:=tk,drawn:=d'}):
  wpAny (model P w) A (collect (.ref a)) R E s:=by
 have haS:a≠s.heap.objs.size:=yI (uM hoa)
 unfold collect
 refine uJ (wpAny_runValue (codeAny_builtin entry_proto_collect' ?_))
 rw[Around.under_plainId PySem.F.plain_proto_collect _]
 refine (show wpAny _ A.in1 (newList []>>=fun l=>again (.builtin "list.__iadd__" ⟨[l,.ref a],[]⟩)) _ _ s from uJ (uR (uK ⟨plainId_quiet PySem.F.plain_list_iadd _,codeAny_builtin entry_list_iadd' ?_⟩)))
 rw[Around.under_plainId PySem.F.plain_list_iadd _]
 have kp0:∀b o,s.heap.get? b=some o->(s.heap.push (lO #[] 0)).get? b=some o:=fun b o e=>uL _ e
 have gS:(s.heap.push (lO #[] 0)).get? s.heap.objs.size=some (lO #[] 0):=uN _ rfl
 have hT1:Shared.TypeIs {s with heap:=s.heap.push (lO #[] 0)} (.ref a) T:=⟨oa,kp0 a _ hoa,hca⟩
 refine (show wpAny _ A.in1 (Builtin.List.listExtendWith (.ref s.heap.objs.size) (.ref a) (.ref s.heap.objs.size)) _ _ {s with heap:=s.heap.push (lO #[] 0)} from ?_)
 unfold Builtin.List.listExtendWith
 refine uJ (wpAny_typeOf hT1 ?_)
 have h1:Builtin.List.listSameRef (.ref s.heap.objs.size) (.ref a)=false:=by simp[Builtin.List.listSameRef,haS.symm]
 rw[if_neg (by rw[h1,Bool.false_or,hT2];exact yH)]
 refine uJ (it _ _ fun I fp h1 d1 St Pi hgd kp hI hSf Wk0 st=>?_)
 have kp1:∀b o,s.heap.get? b=some o->h1.get? b=some o:=fun b o e=>kp b o (kp0 b o e)
 have hI':s.heap.objs.size<=I:=xP hI
 refine uJ (wpAny_holding (hnt _ _ _ ⟨oa,kp1 a _ hoa,hca⟩ ?_))
 have gS1:=kp _ _ gS
 have loop:∀(h2:Heap)(c:Nat),St 0 h2->(∀b o,b≠s.heap.objs.size->h1.get? b=some o->h2.get? b=some o)->h2.get? s.heap.objs.size=some (lO #[] c)->
   codeAny (model P w) A (.builtin "list.extend.loop" ⟨[.ref s.heap.objs.size,.ref I,.ref s.heap.objs.size],[]⟩) (fun q s'=>∃(h':Heap)(tk:Nat)(acc:Array Value)(c':Nat),q=.ok (.ret (.ref s.heap.objs.size))/\s'={s with heap:=h',toks:=tk,drawn:=d1}/\(∀b o,s.heap.get? b=some o->h'.get? b=some o)/\h'.get? s.heap.objs.size=some (lO acc c')/\ItemsOf Pi acc n) {s with heap:=h2,drawn:=d1}:=fun h2 c st2 k2 g2=>by
  refine codeAny_extend_loopS Wk0.toS hn1 s.heap.objs.size hSf (.ref s.heap.objs.size) n 0 {s with heap:=h2,drawn:=d1} #[] c rfl (yN _) st2 g2 (ItemsOf.nil _) fun s' acc' c' hm gS' hacc=>?_
  obtain⟨h',g',d',tk',os'⟩:=s'
  have eg:g'=s.gens:=hm.gens
  have ed:d'=d1:=hm.drawn
  have eo:os'=s.os:=hm.os
  subst eg ed eo
  refine⟨h',tk',acc',c',rfl,rfl,fun b o e=>?_,gS',hacc⟩
  have hb:b<s.heap.objs.size:=uM e
  refine hm.heap b o (fun z=>?_) (k2 b o (yI hb) (kp1 b o e))
  rcases yQ.mp z with z|z
  ·exact absurd z (yI hb)
  ·exact absurd (yO.mp z) (yI (yP hb hI'))
 refine wpAny_ite_split (fun _=>?_) (fun _=>?_)
 ·refine uJ (wpAny_rule (uJ ?_))
  refine (show wpAny _ _ (updateSeq s.heap.objs.size (·.push .none)>>=fun _=>updateSeq s.heap.objs.size (·.pop)) _ _ _ from uJ (wpAny_updateSeq gS1 rfl ?_))
  have gS2:=Heap.get?_update_self (Obj.mapSeq (·.push Value.none)) gS1 rfl
  refine wpAny_updateSeq (hz:=by seq_fits) gS2 rfl ?_
  have gS3:=Heap.get?_update_self (Obj.mapSeq (·.pop)) gS2 rfl
  have oth:∀b o,b≠s.heap.objs.size->h1.get? b=some o->((h1.update s.heap.objs.size (Obj.mapSeq (·.push Value.none))).update s.heap.objs.size (Obj.mapSeq (·.pop))).get? b=some o:=fun b o hb e=>(Heap.get?_update_other _ _ (Ne.symm hb)).trans ((Heap.get?_update_other _ _ (Ne.symm hb)).trans e)
  have st3:=Wk0.frame 0 h1 _ st fun b hb o e=>oth b o (fun z=>hSf (z▸hb)) e
  refine uK ⟨plainId_quiet PySem.F.plain_extend_loop _,codeAny_mono (loop _ _ st3 oth gS3) fun q s2 y=>?_⟩
  obtain⟨h',tk,acc,c',rfl,rfl,hk,hS',hacc⟩:=y
  exact (show wpAny _ A (load s.heap.objs.size>>=_) _ _ _ from uJ (wpAny_load hS' (uK (h h' tk d1 acc Pi hgd hk (xP (uM hS')) hacc))))
 ·refine uK ⟨plainId_quiet PySem.F.plain_extend_loop _,codeAny_mono (loop _ _ st (fun _ _ _ e=>e) gS1) fun q s2 y=>?_⟩
  obtain⟨h',tk,acc,c',rfl,rfl,hk,hS',hacc⟩:=y
  exact (show wpAny _ A (load s.heap.objs.size>>=_) _ _ _ from uJ (wpAny_load hS' (uK (h h' tk d1 acc Pi hgd hk (xP (uM hS')) hacc))))
theorem zgr{s:Shared}{a:Addr}{ds:List Str}{R:List Value->Shared->Prop}(hh:A.handled=none)(hS:za5 P w a ds s.heap)(hn:ds.length<=1000)
  (h:∀(h':Heap)(tk:Nat)(d':Drawn)(vs:List Value),(∀b o,s.heap.get? b=some o->h'.get? b=some o)->s.heap.objs.size<=h'.objs.size->(∀v∈vs,∃z tk,v=.str z tk)->(vs.map txOf).Perm ds->R vs {s with heap:=h',toks:=tk,drawn:=d'}):
  wpAny (model P w) A (collect (.ref a)) R E s:=by
 obtain⟨oa,hoa,hexa⟩:∃o,s.heap.get? a=some o/\o.ExactSet:=by
  obtain⟨o,es,ep,t,ho,hex,_⟩:=hS
  exact⟨o,ho,hex⟩
 have haS:a<s.heap.objs.size:=uM hoa
 have hS1:za5 P w a ds (s.heap.push (lO #[] 0)):=by
  obtain⟨o,es,ep,t,ho,rest⟩:=hS
  exact⟨o,es,ep,t,uL _ ho,rest⟩
 have sz:(s.heap.push (lO #[] 0)).objs.size=s.heap.objs.size+1:=Heap.size_push ..
 have hh2:A.in1.handled=none:=by simpa using hh
 refine zgq (n:=ds.length) (Gd:=fun Pi=>∃ord:List Value,(Pi=fun i v=>ord[i]?=some v)/\(∀v∈ord,∃z tk,v=.str z tk)/\(ord.map txOf).Perm ds) hoa hexa.1 (by decide) (yM hn (by decide)) (fun s1 Q E hT q=>zli hT q) (fun Q E q=>?_) fun h' tk d' acc Pi hgd kp hle hacc=>?_
 ·refine zlh (A:=A.in1) hS1 fun I pl h1 d1 es ep t ord kp hI hplI hpla hf hz hpo hst hpm st=>?_
  rw[show ({s with heap:=s.heap.push (lO #[] 0)}:Shared).heap.objs.size=s.heap.objs.size+1 from sz] at hI hpla
  have haI:a≠I:=yI (yP haS (Nat.le_of_succ_le hI))
  have hl:ord.length=ds.length:=by rw[←hpm.length_eq,yB]
  have Wk:=zlg (P:=P) (w:=w) (A:=A.in1) hh2 I a pl (ep:=ep) hf hz haI hplI
  rw[hl] at Wk
  refine q I [I,a,pl] h1 d1 _ _ ⟨ord,rfl,hst,hpm⟩ kp hI (fun z=>?_) Wk st
  rcases yQ.mp z with z|z
  ·exact absurd z (yI hI)
  ·rcases yQ.mp z with z|z
   ·exact absurd z.symm (yI haS)
   ·have e:=yO.mp z
    rcases hpla with e'|e'
    ·rw[e'] at e
     exact absurd e.symm (yI haS)
    ·exact absurd e (yI e')
 ·obtain⟨ord,rfl,hst,hpm⟩:=hgd
  have hl:ord.length=ds.length:=by rw[←hpm.length_eq,yB]
  have eord:acc.toList=ord:=by
   apply List.ext_getElem?
   intro k
   by_cases hk:k<acc.size
   ·have:=hacc.2 k acc[k] (xO hk)
    rw[wI,xO hk,this]
   ·rw[xH (by rw[xE];lia),xH (by rw[hl,←hacc.1];lia)]
  rw[eord]
  exact h h' tk d' ord kp hle hst hpm
theorem znb{s:Shared}{D:Addr}{vs:List Value}{n:Nat}{Q:Value->Shared->Prop}(ho:s.heap.get? D=some (seqObj "list" vs.toArray n))(hv:∀v∈vs,∃z tk,v=.str z tk)(h64:vs.length<64)
  (h:∀(h':Heap)(out:List Value)(ss:List Str)(e:Nat),(∀b o,b≠D->s.heap.get? b=some o->h'.get? b=some o)->h'.get? D=some (seqObj "list" out.toArray e)->StrsAre out ss->ss.Perm (vs.map txOf)->sortedS ss=true->Q .none {s with heap:=h'}):
  wpAny (model P w) A (call (.builtin "list.sort") [.ref D]) Q E s:=by
 have hS:=strsAre_map vs fun v hm=>hv v hm
 have hm:vs.map strOf=vs.map txOf:=List.map_congr_left fun v hm=>(zh9 v (hv v hm)).symm
 refine wpAny_call_entry slot_list_sort ⟨_,ho,rfl⟩ entry_list_sort (list_sort_treeK strKind_oneLt ho hS.keysOf (fun v₁ v₂ rest e=>keyKind_strs (by rw[←e];exact hS)) h64 fun st' hp hs=>⟨_,rfl,?_⟩) (args_list_sort _)
 obtain⟨ss',h1,h2,h3⟩:=sorted_out_str hS hp hs
 obtain⟨e,he⟩:=sortedHeap_at (out:=(arrOf st').map (·.2)) ho
 exact h _ ((arrOf st').map (·.2)).toList ss' e (fun b o hb eo=>(sortedHeap_old hb (uM eo)).trans eo) he h1 (by rw[←hm];exact h2) h3
end
section
variable{P:Program}{w:World}{A:Around}{E:Value->Shared->Prop}
theorem zia{s:Shared}{a:Addr}{ds:List Str}{Q:Value->Shared->Prop}
  (hcol:∀(R:List Value->Shared->Prop),(∀(h':Heap)(tk:Nat)(d':Drawn)(vs:List Value),(∀b o,s.heap.get? b=some o->h'.get? b=some o)->s.heap.objs.size<=h'.objs.size->(∀v∈vs,∃z tk,v=.str z tk)->(vs.map txOf).Perm ds->R vs {s with heap:=h',toks:=tk,drawn:=d'})->wpAny (model P w) A.in1 (collect (.ref a)) R E s) (h64:ds.length<64)
  (h:∀(D:Addr)(h':Heap)(tk:Nat)(d':Drawn)(out:List Value)(ss:List Str)(e:Nat),(∀b o,s.heap.get? b=some o->h'.get? b=some o)->s.heap.objs.size<=D->h'.get? D=some (seqObj "list" out.toArray e)->StrsAre out ss->ss.Perm ds->sortedS ss=true->Q (.ref D) {s with heap:=h',toks:=tk,drawn:=d'}):
  wpAny (model P w) A (call (.builtin "sorted") [.ref a]) Q E s:=by
 refine Calls.call_function_entry kind_sorted plain_sorted entry_sorted (args_sorted1 _) ?_
 unfold Builtin.«sorted»
 refine uJ (m:=checkCount "sorted" 1 1 _) (uK (uJ (hcol _ fun h1 tk d1 vs kp hle hst hpm=>?_)))
 have hl:vs.length=ds.length:=by rw[←hpm.length_eq,yB]
 refine uJ (wpAny_newList ?_ (by rw[hl];exact yM (xP h64) (by decide)))
 have gD:(h1.push (seqObj "list" vs.toArray 0)).get? h1.objs.size=some (seqObj "list" vs.toArray 0):=uN _ rfl
 refine uJ (wpAny_holding (znb gD hst (by lia) fun h2 out ss e k2 g2 hs hp hS=>?_))
 refine uK ⟨_,rfl,h h1.objs.size h2 tk d1 out ss e (fun b o eb=>?_) ?_ g2 hs (hp.trans hpm) hS⟩
 ·have hb:=kp b o eb
  exact k2 b o (yI (uM hb)) (uL _ hb)
 ·exact hle
end
theorem Inv.drawn{X:Cx}{zp:List (Addr×Obj)}{σ:List (Option V)}{H:Hp}{s:Shared}(I:Inv X zp σ H s)(d':Drawn):Inv X zp σ H {s with drawn:=d'}:=⟨I.ok,I.os,I.bare,I.base,I.loc,I.cell,I.free,I.freeC,I.pin,I.hok,I.len⟩
theorem zjN:∀{us:List Value}{ss:List Str},StrsAre us ss->Vals (ss.map V.str) us
 |_,_,.nil=>.nil
 |_,_,.cons y t h=>.cons ⟨t,rfl⟩ (zjN h)
theorem zc7{X:Cx}(hc:X.calm=true):zav X (.builtin "sorted") (fun xs H Q=>∃(a:Addr)(ds:List Str),xs=[.ref a]/\H a=some (SetH X.prog X.w a ds)/\ds.length<64/\∀(l:Addr)(ss:List Str),H l=none->ss.Perm ds->sortedS ss=true->Q (.ref l) (upd H l (.lst (ss.map V.str)))):=by
 intro zp s σ H xs us Q I r h
 obtain⟨a,ds,rfl,ea,hn,q⟩:=h
 obtain⟨u,rfl,rx⟩:=zbv r
 cases rx
 obtain⟨hS,_⟩:=(show Zh X.prog X.w H s.heap a (SetH X.prog X.w a ds) from I.hok a _ ea)
 refine zia (ds:=ds) (fun R hR=>zgr (A:=X.A.in1) (by simpa using I.ok.hd hc) hS (by lia) hR) hn fun D h' tk d' out ss e kp hD g hs hp hS'=>?_
 have hl:ss.length<64:=by rw[hp.length_eq];exact hn
 exact⟨.ref D,_,(I.drawn d').laid (t':=tk) kp hD (show Zh X.prog X.w _ h' _ (.lst (ss.map V.str)) from⟨by rw[yB];exact yM (xP hl) (by decide),out,e,zjN hs,g⟩),rfl,q D ss (I.hok.fresh hD) hp hS'⟩
end L2
namespace D
open PySem L2
inductive Wd where
 |add|sub|mul|div|less|same|join|list|item|count|figs
noncomputable def zdB:W:=.lst [.txt "wrong",.txt "kind",.txt ""]
noncomputable def zgs:W:=.lst [.txt "wrong",.txt "nought",.txt ""]
noncomputable def zmj:W:=.lst [.txt "wrong",.txt "place",.txt ""]
noncomputable def zho(b:Bool):W:=.lst [.txt "made",.num (if b then 1 else 0)]
def two(f:Int->Int->W):List W->W
 |[.num a,.num b]=>f a b
 |_=>zdB
def recW:Wd->List W->W
 |.add,ws=>two (fun a b=>zak (.num (a+b))) ws
 |.sub,ws=>two (fun a b=>zak (.num (a-b))) ws
 |.mul,ws=>two (fun a b=>zak (.num (a*b))) ws
 |.div,ws=>two (fun a b=>if b=0 then zgs else zak (.num (a.fdiv b))) ws
 |.less,ws=>two (fun a b=>zho (decide (a<b))) ws
 |.figs,[.num a]=>zak (.txt (uI (toString a)))
 |.figs,_=>zdB
 |.same,[x,y]=>zho (eqW x y)
 |.same,_=>zdB
 |.join,[.txt x,.txt y]=>zak (.txt (x++y))
 |.join,[.lst xs,.lst ys]=>zak (.lst (xs++ys))
 |.join,_=>zdB
 |.list,ws=>zak (.lst ws)
 |.item,[.lst xs,.num i]=>if 0<=i/\i<(xs.length:Int) then zak (xs.getD i.toNat (.num 0)) else zmj
 |.item,_=>zdB
 |.count,[.txt x]=>zak (.num x.length)
 |.count,[.lst xs]=>zak (.num xs.length)
 |.count,_=>zdB
def zmk:Sp:=fun vs H Q _=>∃(u v:V)(x y:W),vs=[u,v]/\RW H u x/\RW H v y/\x.depth<50/\Q (.bl (eqW x y)) H
def zgt(K:uZ):Sp:=fun vs H Q _=>∃b:Bool,vs=[.bl b]/\∀(u:V)(H':Hp),Same H H'->RM K H' u (zho b)->Q u H'
def Zi(K:uZ)(pre:List W->Prop)(r:List W->W):Sp:=fun vs H Q _=>∃(l:Addr)(us:List V)(ws:List W),vs=[.ref l]/\H l=some (.lst us)/\RWs H us ws/\Oks ws/\depths ws<=12/\ws.length<=8/\pre ws /\
 ∀(u:V)(H':Hp),Same H H'->RM K H' u (r ws)->Q u H'
theorem rws1{H:Hp}{us:List V}{x:W}(h:RWs H us [x]):∃u,us=[u]/\RW H u x:=by
 match us,h.len with
 |[u],_=>exact⟨u,rfl,h.at' 0 u x rfl rfl⟩
theorem rws2{H:Hp}{us:List V}{x y:W}(h:RWs H us [x,y]):∃u v,us=[u,v]/\RW H u x/\RW H v y:=by
 match us,h.len with
 |[u,v],_=>exact⟨u,v,rfl,h.at' 0 u x rfl rfl,h.at' 1 v y rfl rfl⟩
theorem rwn2{H:Hp}{us:List V}{a b:Int}(h:RWs H us [.num a,.num b]):us=[.int a,.int b]:=by
 obtain⟨u,v,rfl,r1,r2⟩:=rws2 h
 cases r1
 cases r2
 rfl
theorem znc{ws:List W}(h:ws.length=2):∃x y,ws=[x,y]:=by
 match ws,h with
 |[x,y],_=>exact⟨x,y,rfl⟩
theorem zog{ws:List W}(h:ws.length=1):∃x,ws=[x]:=by
 match ws,h with
 |[x],_=>exact⟨x,rfl⟩
theorem ok60{a:Int}(h:(W.num a).Ok):a.natAbs.log2<1920:=by
 have h1:-(10 ^ 60)<a:=h.1
 have h2:a<10 ^ 60:=h.2
 by_cases h0:a.natAbs=0
 ·rw[h0];decide
 ·have:=(uG h0).mpr (show a.natAbs<2 ^ 200 by
   have:(10:Int) ^ 60<2 ^ 200:=by decide
   lia)
  lia
theorem zjO{a:Int}(h:a.natAbs.log2<1920):Builtin.Int.intBits a<=1920:=by
 unfold Builtin.Int.intBits
 split<;>lia
theorem zoJ{a b:Int}(h1:a.natAbs.log2<1920)(h2:b.natAbs.log2<1920):IntMulOk a b:=by
 unfold IntMulOk
 have:=zjO h1
 have:=zjO h2
 have e:Builtin.Int.intTooBig (Builtin.Int.intBits a+Builtin.Int.intBits b)=false:=by
  unfold Builtin.Int.intTooBig
  have hb:10000<=bitsLine:=by decide
  exact decide_eq_false (by lia)
 rw[e]
 simp
theorem zfx(a:Int):Signs (uI (toString a)):=fun c hc=>by
 by_cases h:c=45\/(48<=c/\c<=57)
 ·lia
 ·exact absurd hc (PyProof.Rows.int_text_free' c (by lia) a)
section
variable{P:Program}{w:World}{K:uZ}{mg:Str->Option Value}{base:Heap}{f:Addr}{fd:tD}{k n:Nat}{ARun ATask:Addr}
theorem znd:FnScope ["one","other"] ["one","other"] (zg zjf):=mkSc rfl (by decide +kernel)
theorem zne(F:Fun K "same" "same" zjf f fd):FnOk P w K mg base CX0 (k+1) f fd ["one","other"] (zmk):=by
 refine F.okQ znd (by rintro _ _ _ _ ⟨_,_,_,_,rfl,_⟩;rfl) fun cdv A outer s H vs Q E hr h=>?_
 obtain⟨u,v,x,y,rfl,rx,ry,hd,q⟩:=h
 refine⟨_,(zf (zj (zE (zme hr.units) (pv 0) (pv 1) (nomark _)))),?_⟩
 exact⟨_,rfl,_,rfl,x,y,rx,ry,hd,q⟩
theorem zlj:FnScope ["is_so"] ["is_so"] (zg zgc):=mkSc rfl (by decide +kernel)
theorem zlk(F:Fun K "truth" "truth" zgc f fd):FnOk P w K mg base CX0 (k+1) f fd ["is_so"] (zgt K):=by
 refine F.okQ zlj (by rintro _ _ _ _ ⟨_,rfl,_⟩;rfl) fun cdv A outer s H vs Q E hr h=>?_
 obtain⟨b,rfl,q⟩:=h
 refine⟨_,(zf (zj (zy (za zu (za (Zp (zG (pv 0)) ze ze) zb))))),?_⟩
 refine⟨_,rfl,_,rfl,?_⟩
 cases b with
 |true=>exact iteT ⟨zl2,fun a ha=>q _ _ (Sn ha) (RM.two (Sq zc) (.txt _) (.num _))⟩
 |false=>exact iteF ⟨zl2,fun a ha=>q _ _ (Sn ha) (RM.two (Sq zc) (.txt _) (.num _))⟩
theorem zjP:FnScope ["worths"] ["worths"] (zg zea):=mkSc rfl (by decide +kernel)
theorem zjQ(F:Fun K "summed" "summed" zea f fd)(G_made:Have P w K mg base "made" k ["thing"] (zaV K 24)):FnOk P w K mg base CX0 (k+1) f fd ["worths"] (Zi K (fun ws=>∃a b,ws=[.num a,.num b]) (recW .add)):=by
 refine F.okQ zjP (by rintro _ _ _ _ ⟨_,_,_,rfl,_⟩;rfl) fun cdv A outer s H vs Q E hr h=>?_
 obtain⟨l,us,ws,rfl,hl,hw,ok,hd,hn,⟨a,b,rfl⟩,q⟩:=h
 have e:=rwn2 hw
 subst e
 refine⟨_,(zf (zj (zq G_made hr rfl (za (zC Zk (zo zA (pv 0) ze (fun _ _=>rfl)) (zo zA (pv 0) ze (fun _ _=>rfl))) zb)))),?_⟩
 refine⟨_,rfl,l,_,0,_,rfl,rfl,Sl hl,rfl,_,rfl,l,_,1,_,rfl,rfl,Sl hl,rfl,_,_,rfl,rfl,?_⟩
 exact⟨_,.num (a+b),rfl,.num _,trivial,(by show 0<24;decide),q⟩
theorem zfy:FnScope ["worths"] ["worths"] (zg zbj):=mkSc rfl (by decide +kernel)
theorem zfz(F:Fun K "differing" "differing" zbj f fd)(G_made:Have P w K mg base "made" k ["thing"] (zaV K 24)):FnOk P w K mg base CX0 (k+1) f fd ["worths"] (Zi K (fun ws=>∃a b,ws=[.num a,.num b]) (recW .sub)):=by
 refine F.okQ zfy (by rintro _ _ _ _ ⟨_,_,_,rfl,_⟩;rfl) fun cdv A outer s H vs Q E hr h=>?_
 obtain⟨l,us,ws,rfl,hl,hw,ok,hd,hn,⟨a,b,rfl⟩,q⟩:=h
 have e:=rwn2 hw
 subst e
 refine⟨_,(zf (zj (zq G_made hr rfl (za (zC ZJ (zo zA (pv 0) ze (fun _ _=>rfl)) (zo zA (pv 0) ze (fun _ _=>rfl))) zb)))),?_⟩
 refine⟨_,rfl,l,_,0,_,rfl,rfl,Sl hl,rfl,_,rfl,l,_,1,_,rfl,rfl,Sl hl,rfl,_,_,rfl,rfl,?_⟩
 exact⟨_,.num (a-b),rfl,.num _,trivial,(by show 0<24;decide),q⟩
theorem zez:FnScope ["worths"] ["worths"] (zg zaR):=mkSc rfl (by decide +kernel)
theorem zeA(F:Fun K "multiplied" "multiplied" zaR f fd)(G_made:Have P w K mg base "made" k ["thing"] (zaV K 24)):FnOk P w K mg base CX0 (k+1) f fd ["worths"] (Zi K (fun ws=>∃a b,ws=[.num a,.num b]) (recW .mul)):=by
 refine F.okQ zez (by rintro _ _ _ _ ⟨_,_,_,rfl,_⟩;rfl) fun cdv A outer s H vs Q E hr h=>?_
 obtain⟨l,us,ws,rfl,hl,hw,ok,hd,hn,⟨a,b,rfl⟩,q⟩:=h
 have e:=rwn2 hw
 subst e
 refine⟨_,(zf (zj (zq G_made hr rfl (za (zC zm3 (zo zA (pv 0) ze (fun _ _=>rfl)) (zo zA (pv 0) ze (fun _ _=>rfl))) zb)))),?_⟩
 refine⟨_,rfl,l,_,0,_,rfl,rfl,Sl hl,rfl,_,rfl,l,_,1,_,rfl,rfl,Sl hl,rfl,_,_,rfl,rfl,zoJ (ok60 ok.1) (ok60 ok.2.1),?_⟩
 exact⟨_,.num (a*b),rfl,.num _,trivial,(by show 0<24;decide),q⟩
theorem zib:FnScope ["worths"] ["worths"] (zg zcL):=mkSc rfl (by decide +kernel)
theorem zic(F:Fun K "divided" "divided" zcL f fd)(G_made:Have P w K mg base "made" k ["thing"] (zaV K 24)){g_NOUGHT:Addr}(m_NOUGHT:mg "NOUGHT"=some (.ref g_NOUGHT))(t_NOUGHT:∀H:Hp,SqT K H g_NOUGHT [.str "wrong",.str "nought",.str ""]):FnOk P w K mg base CX0 (k+1) f fd ["worths"] (Zi K (fun ws=>∃a b,ws=[.num a,.num b]) (recW .div)):=by
 refine F.okQ zib (by rintro _ _ _ _ ⟨_,_,_,rfl,_⟩;rfl) fun cdv A outer s H vs Q E hr h=>?_
 obtain⟨l,us,ws,rfl,hl,hw,ok,hd,hn,⟨a,b,rfl⟩,q⟩:=h
 have e:=rwn2 hw
 subst e
 refine⟨_,(zd (zD (zw Ze (zo zA (pv 0) ze (fun _ _=>rfl)) ze (nomark _)) (zf (zj (zQ (v:=.ref g_NOUGHT) rfl m_NOUGHT rfl))) zt) (zf (zj (zq G_made hr rfl (za (zC zjv (zo zA (pv 0) ze (fun _ _=>rfl)) (zo zA (pv 0) ze (fun _ _=>rfl))) zb))))),?_⟩
 refine⟨_,rfl,l,_,1,_,rfl,rfl,Sl hl,rfl,rfl,_,rfl,?_⟩
 have er:recW .div [.num a,.num b]=if b=0 then zgs else zak (.num (a.fdiv b)):=rfl
 rw[er] at q
 refine ite2 (fun e=>?_) (fun e=>?_)
 ·have hb:b=0:=by simpa using of_decide_eq_true e
  rw[if_pos hb] at q
  exact q _ _ (Sr _) (RM.three (t_NOUGHT H) (.txt _) (.txt _) (.txt _))
 ·have hb:b≠0:=fun z=>e (by rw[z];rfl)
  rw[if_neg hb] at q
  refine⟨_,rfl,l,_,0,_,rfl,rfl,Sl hl,rfl,_,rfl,l,_,1,_,rfl,rfl,Sl hl,rfl,_,_,rfl,rfl,⟨hb,?_⟩,?_⟩
  ·have:=ok60 ok.2.1;lia
  ·exact⟨_,.num (a.fdiv b),rfl,.num _,trivial,(by show 0<24;decide),q⟩
theorem zgu:FnScope ["worths"] ["worths"] (zg zbS):=mkSc rfl (by decide +kernel)
theorem zgv(F:Fun K "lessened" "lessened" zbS f fd)(G_truth:Have P w K mg base "truth" k ["is_so"] (zgt K)):FnOk P w K mg base CX0 (k+1) f fd ["worths"] (Zi K (fun ws=>∃a b,ws=[.num a,.num b]) (recW .less)):=by
 refine F.okQ zgu (by rintro _ _ _ _ ⟨_,_,_,rfl,_⟩;rfl) fun cdv A outer s H vs Q E hr h=>?_
 obtain⟨l,us,ws,rfl,hl,hw,ok,hd,hn,⟨a,b,rfl⟩,q⟩:=h
 have e:=rwn2 hw
 subst e
 refine⟨_,(zf (zj (zq G_truth hr rfl (za (zE zf1 (zo zA (pv 0) ze (fun _ _=>rfl)) (zo zA (pv 0) ze (fun _ _=>rfl)) (nomark _)) zb)))),?_⟩
 refine⟨_,rfl,l,_,0,_,rfl,rfl,Sl hl,rfl,_,rfl,l,_,1,_,rfl,rfl,Sl hl,rfl,_,_,rfl,rfl,?_⟩
 exact⟨_,rfl,q⟩
theorem zid:FnScope ["worths"] ["worths"] (zg zcM):=mkSc rfl (by decide +kernel)
theorem zie(F:Fun K "figured" "figured" zcM f fd)(G_made:Have P w K mg base "made" k ["thing"] (zaV K 24))(m_str:mg "str"=none):FnOk P w K mg base CX0 (k+1) f fd ["worths"] (Zi K (fun ws=>∃a,ws=[.num a]) (recW .figs)):=by
 refine F.okQ zid (by rintro _ _ _ _ ⟨_,_,_,rfl,_⟩;rfl) fun cdv A outer s H vs Q E hr h=>?_
 obtain⟨l,us,ws,rfl,hl,hw,ok,hd,hn,⟨a,rfl⟩,q⟩:=h
 obtain⟨u,rfl,ru⟩:=rws1 hw
 cases ru
 refine⟨_,(zf (zj (zq G_made hr rfl (za (zM ze8 rfl m_str Zl (za (zo zA (pv 0) ze (fun _ _=>rfl)) zb)) zb)))),?_⟩
 refine⟨_,rfl,l,_,0,_,rfl,rfl,Sl hl,rfl,a,rfl,ok60 ok.1,?_⟩
 refine⟨_,.txt (uI (toString a)),rfl,.txt _,⟨?_,zfx a⟩,(by show 0<24;decide),q⟩
 have:=PyProof.Rows.int_text_len_1921 (ok60 ok.1)
 lia
theorem zgw:FnScope ["worths"] ["worths"] (zg zbT):=mkSc rfl (by decide +kernel)
theorem zgx(F:Fun K "compared" "compared" zbT f fd)(G_truth:Have P w K mg base "truth" k ["is_so"] (zgt K))(G_same:Have P w K mg base "same" k ["one","other"] (zmk)):FnOk P w K mg base CX0 (k+1) f fd ["worths"] (Zi K (fun ws=>ws.length=2) (recW .same)):=by
 refine F.okQ zgw (by rintro _ _ _ _ ⟨_,_,_,rfl,_⟩;rfl) fun cdv A outer s H vs Q E hr h=>?_
 obtain⟨l,us,ws,rfl,hl,hw,ok,hd,hn,h2,q⟩:=h
 obtain⟨x,y,rfl⟩:=znc h2
 obtain⟨u,v,rfl,ru,rv⟩:=rws2 hw
 have hd2:max x.depth (max y.depth 0)<=12:=hd
 refine⟨_,(zf (zj (zq G_truth hr rfl (za (zq G_same hr rfl (za (zo zA (pv 0) ze (fun _ _=>rfl)) (za (zo zA (pv 0) ze (fun _ _=>rfl)) zb))) zb)))),?_⟩
 refine⟨_,rfl,l,_,0,_,rfl,rfl,Sl hl,rfl,_,rfl,l,_,1,_,rfl,rfl,Sl hl,rfl,u,v,x,y,rfl,ru,rv,by lia,?_⟩
 exact⟨_,rfl,q⟩
theorem zjR:FnScope ["worths"] ["worths"] (zg zec):=mkSc rfl (by decide +kernel)
theorem zjS(F:Fun K "listed" "listed" zec f fd)(G_made:Have P w K mg base "made" k ["thing"] (zaV K 24))(m_tuple:mg "tuple"=none):FnOk P w K mg base CX0 (k+1) f fd ["worths"] (Zi K (fun _=>True) (recW .list)):=by
 refine F.okQ zjR (by rintro _ _ _ _ ⟨_,_,_,rfl,_⟩;rfl) fun cdv A outer s H vs Q E hr h=>?_
 obtain⟨l,us,ws,rfl,hl,hw,ok,hd,hn,_,q⟩:=h
 refine⟨_,(zf (zj (zq G_made hr rfl (za (zM ZY rfl m_tuple zF (za (pv 0) zb)) zb)))),?_⟩
 refine⟨_,rfl,l,us,rfl,.inl ⟨Sl hl,fun t ht=>?_⟩⟩
 have s1:=Sn (o:=.tup us) ht
 refine⟨_,.lst ws,rfl,.lst zc hw.len fun i v w a b=>(hw.at' i v w a b).mono (zi s1),⟨by lia,ths_of ws ok⟩,?_,fun u H' s2 r=>q u H' (s1.trans s2) r⟩
 show 1+depths ws<24
 lia
theorem zif:FnScope ["worths"] ["worths"] (zg zcO):=mkSc rfl (by decide +kernel)
theorem zig(F:Fun K "counted" "counted" zcO f fd)(G_made:Have P w K mg base "made" k ["thing"] (zaV K 24))(m_isi:mg "isinstance"=none)(m_len:mg "len"=none)(m_str:mg "str"=none)(m_tuple:mg "tuple"=none){g_KIND:Addr}(m_KIND:mg "KIND"=some (.ref g_KIND))(t_KIND:∀H:Hp,SqT K H g_KIND [.str "wrong",.str "kind",.str ""]):FnOk P w K mg base CX0 (k+1) f fd ["worths"] (Zi K (fun ws=>ws.length=1) (recW .count)):=by
 refine F.okQ zif (by rintro _ _ _ _ ⟨_,_,_,rfl,_⟩;rfl) fun cdv A outer s H vs Q E hr h=>?_
 obtain⟨l,us,ws,rfl,hl,hw,ok,hd,hn,h1,q⟩:=h
 obtain⟨x,rfl⟩:=zog h1
 obtain⟨u,rfl,ru⟩:=rws1 hw
 refine⟨_,(zf (zj (Zp (zG (zk zjx rfl m_isi zJ (za (zo zA (pv 0) ze (fun _ _=>rfl)) (za (zy (za (ZE rfl m_str Zl) (za (ZE rfl m_tuple zF) zb))) zb)))) (zq G_made hr rfl (za (zk zB rfl m_len uO (za (zo zA (pv 0) ze (fun _ _=>rfl)) zb)) zb)) (zQ (v:=.ref g_KIND) rfl m_KIND rfl)))),?_⟩
 refine⟨_,rfl,l,_,0,_,rfl,rfl,Sl hl,rfl,zl2,fun p hp=>?_⟩
 have s1:=Sn (o:=.tup [.ty "str",.ty "tuple"]) hp
 cases ru with
 |num i=>
  refine⟨_,_,p,_,_,_,_,rfl,.int i,zc,zfl,zfk,_,rfl,iteF (q _ _ s1 ?_)⟩
  exact RM.three (t_KIND _) (.txt _) (.txt _) (.txt _)
 |txt z=>
  refine⟨_,_,p,_,_,_,_,rfl,.str z,zc,zaL,zcI,_,rfl,iteT ?_⟩
  have hz:z.length<=400:=ok.1.1
  refine⟨_,rfl,l,_,0,_,rfl,rfl,Sl (s1 _ _ hl),rfl,_,_,rfl,⟨small (by lia),rfl⟩,?_⟩
  exact⟨_,.num z.length,rfl,.num _,trivial,(by show 0<24;decide),fun u H' s2 r=>q u H' (s1.trans s2) r⟩
 | @lst a vs ws e ll at'=>
  refine⟨_,_,p,_,_,_,_,rfl,.tup (s1 _ _ e),zc,zdL,zay,_,rfl,iteT ?_⟩
  refine⟨_,rfl,l,_,0,_,rfl,rfl,Sl (s1 _ _ hl),rfl,_,_,rfl,.inr ⟨_,Sq (s1 _ _ e),rfl⟩,?_⟩
  rw[ll]
  exact⟨_,.num ws.length,rfl,.num _,trivial,(by show 0<24;decide),fun u H' s2 r=>q u H' (s1.trans s2) r⟩
end
end D
namespace L2
open PySem
theorem znf{K:uZ}{fr:List Nat}{j:Nat}{te:TE}{σ:St}{H:Hp}{Q:VK}{a:Addr}{vs:List V}(outs:List V)(hσ:σ[j]?=some (some (.ref a)))(hS:SqL K H a vs)(hl:outs.length=vs.length)(hz:vs.length<=uQ)
  (step:∀(i:Nat)(v y:V)(H1:Hp)(R:VK),vs[i]?=some v->outs[i]?=some y->Same H H1->(∀H2,Same H1 H2->R y H2)->te (some v::frees fr σ) H1 R)
  (fin:∀(H1:Hp)(D:Addr),Same H H1->H1 D=none->Q (.ref D) (upd H1 D (.lst outs))):zb7 fr (ziH K (tVar j)) (fun _ H Q=>Q true H) te σ H Q:=by
 refine⟨_,hσ,a,rfl,⟨vs,hS⟩,fun i m us H1=>i<=vs.length/\m=vs.length-i/\us=outs.take i/\Same H H1,⟨_,yN _,rfl,by simp,Sr _⟩,fun i m us H1 hW=>?_⟩
 obtain⟨hi,hm,hu,sm⟩:=hW
 refine⟨by rw[hu,yU];lia,?_⟩
 by_cases hlt:i<vs.length
 ·refine .inr ⟨⟨vs,vs[i],sm.seq hS,yA hlt⟩,fun v H' hy=>?_⟩
  obtain⟨rfl,hv⟩:=hy
  have hv:=hv vs (sm.seq hS)
  have hy:outs[i]?=some outs[i]:=yA (by lia)
  refine iteT ?_
  refine step i v outs[i] H' _ hv hy sm fun H2 s2=>⟨vs.length-(i+1),by lia,by lia,rfl,?_,sm.trans s2⟩
  rw[hu,ZU hy]
 ·have e:i=vs.length:=by lia
  refine .inl ⟨⟨vs,sm.seq hS,by lia⟩,fun D hD=>?_⟩
  have e2:us=outs:=by rw[hu,xF (by lia)]
  rw[e2]
  exact fin H1 D sm hD
end L2
namespace D
open PySem L2
noncomputable def wdS:Wd->Str
 |.add=>"+"|.sub=>"-"|.mul=>"*"|.div=>"/"|.less=>"less"|.same=>"same"|.join=>"join"|.list=>"list"|.item=>"item"|.count=>"count"|.figs=>"figures"
def arity:Wd->Nat->Prop
 |.list,_=>True
 |.count,n=>n=1
 |.figs,n=>n=1
 |_,n=>n=2
def zjT(K:uZ):Sp:=fun vs H Q _=>∃(d:Wd)(l:Addr)(us:List V)(ws:List W),vs=[.str (wdS d),.ref l]/\H l=some (.lst us)/\RWs H us ws/\Oks ws/\depths ws<=12/\ws.length<=8/\arity d ws.length /\
 ∀(u:V)(H':Hp),Same H H'->RM K H' u (recW d ws)->Q u H'
noncomputable def kvsN(f1 f2 f3 f4 f5 f6:Addr):List (Key×V):=[(.inr "+",.ref f1),(.inr "-",.ref f2),(.inr "*",.ref f3),(.inr "/",.ref f4),(.inr "less",.ref f5),(.inr "figures",.ref f6)]
noncomputable def kvsO(f7 f8 f9 f10 f11:Addr):List (Key×V):=[(.inr "same",.ref f7),(.inr "join",.ref f8),(.inr "list",.ref f9),(.inr "item",.ref f10),(.inr "count",.ref f11)]
noncomputable def Zs:W->Bool
 |.num _=>true
 |_=>false
theorem zfA(x:W):zl9 x.toT=Zs x:=by cases x<;>rfl
theorem zbG(f:Int->Int->W):∀{ws:List W},ws.all Zs=false->two f ws=zdB
 |[],_=>rfl
 |[_],h=>by
  rename_i x
  cases x<;>rfl
 |[x,y],h=>by
  cases x with
  |num a=>
   cases y with
   |num b=>simp[Zs] at h
   |txt z=>rfl
   |lst z=>rfl
  |txt z=>rfl
  |lst z=>rfl
 |x::y::z::r,h=>by cases x<;>cases y<;>rfl
theorem zjU:∀{ws:List W},ws.all Zs=true->ws.length=2->∃a b,ws=[.num a,.num b]
 |[x,y],h,_=>by
  cases x with
  |num a=>
   cases y with
   |num b=>exact⟨a,b,rfl⟩
   |txt z=>simp[Zs] at h
   |lst z=>simp[Zs] at h
  |txt z=>simp[Zs] at h
  |lst z=>simp[Zs] at h
theorem zoK:∀{ws:List W},ws.all Zs=true->ws.length=1->∃a,ws=[.num a]
 |[x],h,_=>by
  cases x with
  |num a=>exact⟨a,rfl⟩
  |txt z=>simp[Zs] at h
  |lst z=>simp[Zs] at h
section
variable{P:Program}{w:World}{K:uZ}{mg:Str->Option Value}{base:Heap}{f:Addr}{fd:tD}{k n:Nat}{ARun ATask:Addr}
theorem zaW:FnScope ["worths","one","other","are_texts","are_lists"] ["worths"] (zg zeb):=mkSc rfl (by decide +kernel)
theorem zjV(F:Fun K "joined" "joined" zeb f fd)(G_made:Have P w K mg base "made" k ["thing"] (zaV K 24))(m_isi:mg "isinstance"=none)(m_str:mg "str"=none)(m_tuple:mg "tuple"=none){g_KIND:Addr}(m_KIND:mg "KIND"=some (.ref g_KIND))(t_KIND:∀H:Hp,SqT K H g_KIND [.str "wrong",.str "kind",.str ""]):FnOk P w K mg base CX0 (k+1) f fd ["worths"] (Zi K (fun ws=>ws.length=2) (recW .join)):=by
 refine F.okQ zaW (by rintro _ _ _ _ ⟨_,_,_,rfl,_⟩;rfl) fun cdv A outer s H vs Q E hr h=>?_
 obtain⟨l,us,ws,rfl,hl,hw,ok,hd,hn,h2,q⟩:=h
 obtain⟨x,y,rfl⟩:=znc h2
 obtain⟨u,v,rfl,ru,rv⟩:=rws2 hw
 have hd2:max x.depth (max y.depth 0)<=12:=hd
 refine⟨_,(zd (zx (i:=1) zaW.nd rfl (Or.inl rfl) (zo zA (pv 0) ze (fun _ _=>rfl)))
  (zd (zx (i:=2) zaW.nd rfl (Or.inl rfl) (zo zA (pv 0) ze (fun _ _=>rfl)))
  (zd (zx (i:=3) zaW.nd rfl (Or.inl rfl) (zU (zk zN rfl m_isi zJ (za (pv 1) (za (ZE rfl m_str Zl) zb))) (zZ (zk zN rfl m_isi zJ (za (pv 2) (za (ZE rfl m_str Zl) zb))))))
  (zd (zx (i:=4) zaW.nd rfl (Or.inl rfl) (zU (zk zN rfl m_isi zJ (za (pv 1) (za (ZE rfl m_tuple zF) zb))) (zZ (zk zN rfl m_isi zJ (za (pv 2) (za (ZE rfl m_tuple zF) zb))))))
  (zf (zj (Zp (PW.pt (ZX (zG (pv 3)) (ZI (zG (pv 4))))) (zq G_made hr rfl (za (zC zjw (pv 1) (pv 2)) zb)) (zQ (v:=.ref g_KIND) rfl m_KIND rfl)))))))),?_⟩
 refine⟨_,rfl,l,_,0,_,rfl,rfl,Sl hl,rfl,_,rfl,l,_,1,_,rfl,rfl,Sl hl,rfl,?_⟩
 have kd:recW .join [x,y]=zdB->Q (.ref g_KIND) H:=fun e=>q _ _ (Sr _) (by rw[e];exact RM.three (t_KIND _) (.txt _) (.txt _) (.txt _))
 cases ru with
 |num i=>
  refine⟨_,rfl,_,_,_,_,rfl,.int i,zfl,_,rfl,iteF ⟨_,rfl,_,_,_,_,rfl,.int i,zfk,_,rfl,iteF ?_⟩⟩
  exact⟨_,rfl,_,rfl,iteF ⟨_,rfl,_,rfl,iteF (kd (by cases y<;>rfl))⟩⟩
 |txt z=>
  have no:∀(b:Bool),_:=fun (b:Bool)=>(b:Bool)
  cases rv with
  |num j=>
   refine⟨_,rfl,_,_,_,_,rfl,.str z,zaL,_,rfl,iteT ⟨_,rfl,_,_,_,_,rfl,.int j,zfl,_,rfl,_,_,_,_,rfl,.str z,zcI,_,rfl,iteF ?_⟩⟩
   exact⟨_,rfl,_,rfl,iteF ⟨_,rfl,_,rfl,iteF (kd rfl)⟩⟩
  |txt z2=>
   refine⟨_,rfl,_,_,_,_,rfl,.str z,zaL,_,rfl,iteT ⟨_,rfl,_,_,_,_,rfl,.str z2,zaL,_,rfl,_,_,_,_,rfl,.str z,zcI,_,rfl,iteF ?_⟩⟩
   have h1:z.length<=400:=ok.1.1
   have h3:z2.length<=400:=ok.2.1.1
   refine⟨_,rfl,_,rfl,iteT (iteT ⟨_,rfl,_,rfl,.inl ⟨z,z2,rfl,rfl,small (by lia),?_⟩⟩)⟩
   refine⟨_,.txt (z++z2),rfl,.txt _,⟨by rw[zc0];lia,fun c hc=>?_⟩,(by show 0<24;decide),q⟩
   rw[zen] at hc
   rcases xI.mp hc with hc|hc
   ·exact ok.1.2 c hc
   ·exact ok.2.1.2 c hc
  | @lst a vs ws e ll at'=>
   refine⟨_,rfl,_,_,_,_,rfl,.str z,zaL,_,rfl,iteT ⟨_,rfl,_,_,_,_,rfl,.tup e,zdL,_,rfl,_,_,_,_,rfl,.str z,zcI,_,rfl,iteF ?_⟩⟩
   exact⟨_,rfl,_,rfl,iteF ⟨_,rfl,_,rfl,iteF (kd rfl)⟩⟩
 | @lst a vs xs e ll at'=>
  refine⟨_,rfl,_,_,_,_,rfl,.tup e,zdL,_,rfl,iteF ⟨_,rfl,_,_,_,_,rfl,.tup e,zay,_,rfl,iteT ?_⟩⟩
  cases rv with
  |num j=>
   refine⟨_,rfl,_,_,_,_,rfl,.int j,zfk,?_⟩
   exact⟨_,rfl,_,rfl,iteF ⟨_,rfl,_,rfl,iteF (kd rfl)⟩⟩
  |txt z2=>
   refine⟨_,rfl,_,_,_,_,rfl,.str z2,zcI,?_⟩
   exact⟨_,rfl,_,rfl,iteF ⟨_,rfl,_,rfl,iteF (kd rfl)⟩⟩
  | @lst b us2 ys e2 ll2 at2=>
   refine⟨_,rfl,_,_,_,_,rfl,.tup e2,zay,?_⟩
   refine⟨_,rfl,_,rfl,iteF ⟨_,rfl,_,rfl,iteT ?_⟩⟩
   have l1:xs.length<=60:=ok.1.1
   have l2:ys.length<=60:=ok.2.1.1
   have hth:(W.lst (xs++ys)).Th:=⟨by rw[yE];lia,zmd fun z hz=>by
    rcases xI.mp hz with hz|hz
    ·exact zbC z (zel ok.1.2 z hz)
    ·exact zbC z (zel ok.2.1.2 z hz)⟩
   have hdp:(W.lst (xs++ys)).depth<24:=by
    have e1:(W.lst xs).depth=1+depths xs:=rfl
    have e3:(W.lst ys).depth=1+depths ys:=rfl
    have e4:∀(a b:List W),depths (a++b)=max (depths a) (depths b):=fun a b=>by
     induction a with
     |nil=>simp[depths]
     |cons x r ih=>simp only[xL,depths,ih];lia
    show 1+depths (xs++ys)<24
    rw[e4]
    lia
   by_cases hx:vs=[]
   ·have ex:xs=[]:=xC.mp (by rw[←ll,hx];rfl)
    subst ex
    subst hx
    refine⟨_,rfl,_,rfl,.inr (.inr ⟨a,b,us2,rfl,rfl,Sq e,Sq e2,?_⟩)⟩
    exact⟨_,.lst ([]++ys),rfl,.lst e2 ll2 at2,hth,hdp,q⟩
   ·refine⟨_,rfl,_,rfl,.inr (.inl ⟨a,b,vs,us2,rfl,rfl,Sq e,Sq e2,hx,small (by lia),fun hy=>?_,fun hy p hp=>?_⟩)⟩
    ·have ey:ys=[]:=xC.mp (by rw[←ll2,hy];rfl)
     subst ey
     exact⟨_,.lst (xs++[]),rfl,by rw[xB];exact .lst e ll at',hth,hdp,q⟩
    ·have s1:=Sn (o:=.tup (vs++us2)) hp
     refine⟨_,.lst (xs++ys),rfl,.lst zc (by rw[yE,yE,ll,ll2]) fun i v w a1 a2=>?_,hth,hdp,fun u H' s2 r=>q u H' (s1.trans s2) r⟩
     by_cases hi:i<vs.length
     ·rw[yJ hi] at a1
      rw[yJ (by lia)] at a2
      exact (at' i v w a1 a2).mono (zi s1)
     ·rw[yL (by lia)] at a1
      rw[yL (by lia),←ll] at a2
      exact (at2 _ v w a1 a2).mono (zi s1)
theorem zb3:FnScope ["worths","items","place"] ["worths"] (zg zcN):=mkSc rfl (by decide +kernel)
theorem zih(F:Fun K "item_at" "item_at" zcN f fd)(G_made:Have P w K mg base "made" k ["thing"] (zaV K 24))(G_is_number:Have P w K mg base "is_number" k ["thing"] (zc2))(m_isi:mg "isinstance"=none)(m_len:mg "len"=none)(m_tuple:mg "tuple"=none){g_KIND:Addr}(m_KIND:mg "KIND"=some (.ref g_KIND))(t_KIND:∀H:Hp,SqT K H g_KIND [.str "wrong",.str "kind",.str ""]){g_PLACE:Addr}(m_PLACE:mg "PLACE"=some (.ref g_PLACE))(t_PLACE:∀H:Hp,SqT K H g_PLACE [.str "wrong",.str "place",.str ""]):FnOk P w K mg base CX0 (k+1) f fd ["worths"] (Zi K (fun ws=>ws.length=2) (recW .item)):=by
 refine F.okQ zb3 (by rintro _ _ _ _ ⟨_,_,_,rfl,_⟩;rfl) fun cdv A outer s H vs Q E hr h=>?_
 obtain⟨l,us,ws,rfl,hl,hw,ok,hd,hn,h2,q⟩:=h
 obtain⟨x,y,rfl⟩:=znc h2
 obtain⟨u,v,rfl,ru,rv⟩:=rws2 hw
 have hd2:max x.depth (max y.depth 0)<=12:=hd
 refine⟨_,(zd (zx (i:=1) zb3.nd rfl (Or.inl rfl) (zo zA (pv 0) ze (fun _ _=>rfl)))
  (zd (zx (i:=2) zb3.nd rfl (Or.inl rfl) (zo zA (pv 0) ze (fun _ _=>rfl)))
  (zd (zD (PW.pt (ZX (zT (zG (zk zN rfl m_isi zJ (za (pv 1) (za (ZE rfl m_tuple zF) zb))))) (ZI (zT (zG (zq G_is_number hr rfl (za (pv 2) zb))))))) (zf (zj (zQ (v:=.ref g_KIND) rfl m_KIND rfl))) zt)
  (zf (zj (Zp (zbu zf2 zf1 ze (pv 2) (zk zB rfl m_len uO (za (pv 1) zb))) (zq G_made hr rfl (za (zo zr (pv 1) (pv 2) (fun _ _=>rfl)) zb)) (zQ (v:=.ref g_PLACE) rfl m_PLACE rfl))))))),?_⟩
 refine⟨_,rfl,l,_,0,_,rfl,rfl,Sl hl,rfl,_,rfl,l,_,1,_,rfl,rfl,Sl hl,rfl,?_⟩
 have kd:recW .item [x,y]=zdB->Q (.ref g_KIND) H:=fun e=>q _ _ (Sr _) (by rw[e];exact RM.three (t_KIND _) (.txt _) (.txt _) (.txt _))
 cases ru with
 |num i=>exact⟨_,rfl,_,_,_,_,rfl,.int i,zfk,_,rfl,iteT (iteT (kd rfl))⟩
 |txt z=>exact⟨_,rfl,_,_,_,_,rfl,.str z,zcI,_,rfl,iteT (iteT (kd rfl))⟩
 | @lst a vs xs e ll at'=>
  refine⟨_,rfl,_,_,_,_,rfl,.tup e,zay,_,rfl,iteF ⟨_,rfl,v,y.toT,rfl,rv.toRT,_,rfl,?_⟩⟩
  cases rv with
  |txt z=>exact iteT (kd rfl)
  |lst e2 ll2 at2=>exact iteT (kd rfl)
  |num i=>
   refine iteF ?_
   have er:recW .item [.lst xs,.num i]=if 0<=i/\i<(xs.length:Int) then zak (xs.getD i.toNat (.num 0)) else zmj:=rfl
   rw[er] at q
   have pl:¬(0<=i/\i<(xs.length:Int))->Q (.ref g_PLACE) H:=fun hc=>by
    rw[if_neg hc] at q
    exact q _ _ (Sr _) (RM.three (t_PLACE _) (.txt _) (.txt _) (.txt _))
   refine⟨_,rfl,_,_,rfl,rfl,_,rfl,?_⟩
   refine ite2 (fun c1=>?_) (fun c1=>?_)
   ·have c1':0<=i:=of_decide_eq_true c1
    refine⟨_,rfl,_,_,rfl,.inr ⟨_,Sq e,rfl⟩,_,_,rfl,rfl,_,rfl,?_⟩
    refine ite2 (fun c2=>?_) (fun c2=>pl fun hc=>c2 (decide_eq_true (by rw[ll];exact hc.2)))
    have c2':i<(vs.length:Int):=of_decide_eq_true c2
    have hi:i.toNat<xs.length:=by lia
    have hv:vs[i.toNat]?=some vs[i.toNat]:=yA (by lia)
    have hx:xs[i.toNat]?=some xs[i.toNat]:=yA hi
    rw[if_pos ⟨c1',by lia⟩,yR,hx] at q
    have hat:atI vs i=some vs[i.toNat]:=by
     have:=zl hv
     rw[show ((i.toNat:Nat):Int)=i by lia] at this
     exact this
    have hm:=yS hx
    have hdm:=zaz xs[i.toNat] hm
    have e1:(W.lst xs).depth=1+depths xs:=rfl
    refine⟨_,rfl,_,rfl,a,vs,i,_,rfl,rfl,Sq e,hat,?_⟩
    exact⟨_,xs[i.toNat],rfl,at' _ _ _ hv hx,zbC _ (zel ok.1.2 _ hm),by lia,q⟩
   ·exact⟨_,rfl,iteF (pl fun hc=>c1 (decide_eq_true hc.1))⟩
theorem zgy:FnScope ["word","worths"] ["word","worths"] (zg zbU):=mkSc rfl (by decide +kernel)
theorem zgz(F:Fun K "reckoned" "reckoned" zbU f fd)(G_is_number:Have P w K mg base "is_number" k ["thing"] (zc2))(m_all:mg "all"=none){g_KIND:Addr}(m_KIND:mg "KIND"=some (.ref g_KIND))(t_KIND:∀H:Hp,SqT K H g_KIND [.str "wrong",.str "kind",.str ""]){g_NUMBER_DEEDS g_OTHER_DEEDS f1 f2 f3 f4 f5 f6 f7 f8 f9 f10 f11:Addr}(m_NUMBER_DEEDS:mg "NUMBER_DEEDS"=some (.ref g_NUMBER_DEEDS))(d_NUM:MD P w K g_NUMBER_DEEDS (kvsN f1 f2 f3 f4 f5 f6))(m_OTHER_DEEDS:mg "OTHER_DEEDS"=some (.ref g_OTHER_DEEDS))(d_OTH:MD P w K g_OTHER_DEEDS (kvsO f7 f8 f9 f10 f11))(c1:Zm P w K mg base f1 k ["worths"] (Zi K (fun ws=>∃a b,ws=[.num a,.num b]) (recW .add)))(c2:Zm P w K mg base f2 k ["worths"] (Zi K (fun ws=>∃a b,ws=[.num a,.num b]) (recW .sub)))(c3:Zm P w K mg base f3 k ["worths"] (Zi K (fun ws=>∃a b,ws=[.num a,.num b]) (recW .mul)))(c4:Zm P w K mg base f4 k ["worths"] (Zi K (fun ws=>∃a b,ws=[.num a,.num b]) (recW .div)))(c5:Zm P w K mg base f5 k ["worths"] (Zi K (fun ws=>∃a b,ws=[.num a,.num b]) (recW .less)))(c6:Zm P w K mg base f6 k ["worths"] (Zi K (fun ws=>∃a,ws=[.num a]) (recW .figs)))(c7:Zm P w K mg base f7 k ["worths"] (Zi K (fun ws=>ws.length=2) (recW .same)))(c8:Zm P w K mg base f8 k ["worths"] (Zi K (fun ws=>ws.length=2) (recW .join)))(c9:Zm P w K mg base f9 k ["worths"] (Zi K (fun _=>True) (recW .list)))(c10:Zm P w K mg base f10 k ["worths"] (Zi K (fun ws=>ws.length=2) (recW .item)))(c11:Zm P w K mg base f11 k ["worths"] (Zi K (fun ws=>ws.length=1) (recW .count))):FnOk P w K mg base CX0 (k+1) f fd ["word","worths"] (zjT K):=by
 refine F.okQ zgy (by rintro _ _ _ _ ⟨_,_,_,_,rfl,_⟩;rfl) fun cdv A outer s H vs Q E hr h=>?_
 obtain⟨d,l,us,ws,rfl,hl,hw,ok,hd,hn,ha,q⟩:=h
 refine⟨_,(zd (zD (zw zfo (pv 0) (zQ (v:=.ref g_NUMBER_DEEDS) rfl m_NUMBER_DEEDS rfl) (by rfl)) (zf (zj (zbD hr (zo zhj (zQ (v:=.ref g_OTHER_DEEDS) rfl m_OTHER_DEEDS rfl) (pv 0) (fun _ _=>rfl)) (za (pv 1) zb)))) zt)
  (zd (zD (zT (zG (zk (Zx rfl) rfl m_all zaO (za (zY [] [] rfl rfl (by decide +kernel) rfl (by decide +kernel) rfl (by decide +kernel) trivial rfl trivial (zaq (pv 1)) (fun C s H fp=>⟨zW,(zq G_is_number hr rfl (za (pv 0) zb))⟩)) zb)))) (zf (zj (zQ (v:=.ref g_KIND) rfl m_KIND rfl))) zt)
  (zf (zj (zbD hr (zo zhj (zQ (v:=.ref g_NUMBER_DEEDS) rfl m_NUMBER_DEEDS rfl) (pv 0) (fun _ _=>rfl)) (za (pv 1) zb)))))),?_⟩
 refine⟨_,rfl,g_NUMBER_DEEDS,_,.inr (wdS d),rfl,rfl,d_NUM,_,rfl,?_⟩
 have facts:(∃(f0:Addr)(pre:List W->Prop),valV (kvsN f1 f2 f3 f4 f5 f6) (.inr (wdS d))=some (.ref f0)/\Zm P w K mg base f0 k ["worths"] (Zi K pre (recW d))/\(ws.all Zs=true->pre ws)/\(ws.all Zs=false->recW d ws=zdB)) \/
   (valV (kvsN f1 f2 f3 f4 f5 f6) (.inr (wdS d))=none/\∃(f0:Addr)(pre:List W->Prop),valV (kvsO f7 f8 f9 f10 f11) (.inr (wdS d))=some (.ref f0)/\Zm P w K mg base f0 k ["worths"] (Zi K pre (recW d))/\pre ws):=by
  cases d with
  |add=>exact .inl ⟨f1,_,rfl,c1,fun h=>zjU h ha,zbG _⟩
  |sub=>exact .inl ⟨f2,_,rfl,c2,fun h=>zjU h ha,zbG _⟩
  |mul=>exact .inl ⟨f3,_,rfl,c3,fun h=>zjU h ha,zbG _⟩
  |div=>exact .inl ⟨f4,_,rfl,c4,fun h=>zjU h ha,zbG _⟩
  |less=>exact .inl ⟨f5,_,rfl,c5,fun h=>zjU h ha,zbG _⟩
  |figs=>exact .inl ⟨f6,_,rfl,c6,fun h=>zoK h ha,fun h=>by
    obtain⟨x,rfl⟩:=zog ha
    cases x with
    |num a=>simp[Zs] at h
    |txt z=>rfl
    |lst z=>rfl⟩
  |same=>exact .inr ⟨rfl,f7,_,rfl,c7,ha⟩
  |join=>exact .inr ⟨rfl,f8,_,rfl,c8,ha⟩
  |list=>exact .inr ⟨rfl,f9,_,rfl,c9,trivial⟩
  |item=>exact .inr ⟨rfl,f10,_,rfl,c10,ha⟩
  |count=>exact .inr ⟨rfl,f11,_,rfl,c11,ha⟩
 rcases facts with⟨f0,pre,hv,hf,h1,h2⟩|⟨hv,f0,pre,hv2,hf,h1⟩
 ·rw[hv]
  refine iteF ?_
  dsimp only[zhJ,tRet,tOp,tC,tCB,zbe,tNil,tB,tNot,tIfS,tSeq]
  refine znf (ws.map fun x=>V.bl (Zs x)) (by rfl) (Sl hl) (by rw[yB,hw.len]) (small (by have:=hw.len;lia)) (fun i v y H1 R hv' hy s1 hR=>?_) (fun H1 D s1 hD=>?_)
  ·rw[yK] at hy
   obtain⟨x,hx,rfl⟩:=yW.mp hy
   refine⟨_,rfl,v,x.toT,rfl,((hw.at' i v x hv' hx).mono (zi s1)).toRT,?_⟩
   rw[zfA]
   exact hR _ (Sr _)
  ·have s2:=s1.trans (Sn (o:=.lst (ws.map fun x=>V.bl (Zs x))) hD)
   refine⟨D,ws.map Zs,rfl,Sl ?_,_,rfl,?_⟩
   ·rw[zc,wB];rfl
   have e3:(ws.map Zs).all id=ws.all Zs:=by rw[vL];rfl
   rw[e3]
   cases hall:ws.all Zs with
   |false=>
    refine iteT (q _ _ s2 ?_)
    rw[h2 hall]
    exact RM.three (t_KIND _) (.txt _) (.txt _) (.txt _)
   |true=>
    refine iteF ⟨_,rfl,g_NUMBER_DEEDS,_,.inr (wdS d),.ref f0,rfl,rfl,d_NUM,hv,f0,_,_,rfl,hf,_,rfl,?_⟩
    exact⟨l,us,ws,rfl,s2 _ _ hl,hw.mono (zi s2),ok,hd,hn,h1 hall,fun u H' s3 r=>q u H' (s2.trans s3) r⟩
 ·rw[hv]
  refine iteT ⟨_,rfl,g_OTHER_DEEDS,_,.inr (wdS d),.ref f0,rfl,rfl,d_OTH,hv2,f0,_,_,rfl,hf,_,rfl,?_⟩
  exact⟨l,us,ws,rfl,hl,hw,ok,hd,hn,h1,q⟩
noncomputable def zoh:W->Bool
 |.txt _=>true
 |_=>false
noncomputable def tnW:W->String
 |.num _=>"int"
 |.txt _=>"str"
 |.lst _=>"tuple"
theorem isiS(x:W):isi (tnW x) "str"=some (zoh x):=match x with|.num _=>zfl|.txt _=>zaL|.lst _=>zdL
theorem zoi:isi "list" "list"=some true:=by decide +kernel
theorem zii:uT (uI "dict")=some (.type "dict"):=by kernel_rfl
inductive Res where
 |made (x:W)
 |wrong (ws:List W)
 |stop
inductive R where
 |mk (res:Res) (subs:List R)
noncomputable def R.res:R->Res
 |.mk r _=>r
noncomputable def Res.isMade:Res->Bool
 |.made _=>true
 |.wrong _=>false
 |.stop=>false
noncomputable def Res.toW:Res->W
 |.made x=>.lst [.txt "made",x]
 |.wrong ws=>.lst (.txt "wrong"::ws)
 |.stop=>.lst []
mutual
noncomputable def R.toW:R->W
 |.mk r subs=>.lst [r.toW,.lst (toWs subs)]
noncomputable def toWs:List R->List W
 |[]=>[]
 |r::l=>r.toW::toWs l
end
theorem zhp:∀l:List R,(toWs l).length=l.length
 |[]=>rfl
 |_::l=>by simp only[toWs,yG,zhp l]
theorem zjW:∀(l:List R)(i:Nat),(toWs l)[i]?=(l[i]?).map R.toW
 |[],_=>by simp[toWs]
 |r::l,0=>by simp[toWs]
 |r::l,i+1=>by simp only[toWs,vH];exact zjW l i
def RRes(K:uZ)(H:Hp)(v:V):Res->Prop
 |.made x=>∃a u,v=.ref a/\SqT K H a [.str "made",u]/\RW H u x
 |.wrong ws=>RS K H v (.lst (.txt "wrong"::ws))
 |.stop=>v=.non
theorem RRes.mono{K:uZ}{H H':Hp}(t:Same H H'){v:V}:∀{r:Res},RRes K H v r->RRes K H' v r
 |.made _,⟨a,u,e1,e2,e3⟩=>⟨a,u,e1,t.seqT e2,e3.mono (zi t)⟩
 |.wrong _,h=>RS.mono t h
 |.stop,h=>h
theorem RRes.rs{K:uZ}{H:Hp}{v:V}:∀{r:Res},r≠.stop->RRes K H v r->RS K H v r.toW
 |.made _,_,⟨a,u,e1,e2,e3⟩=>by rw[e1];exact RS.two e2 (.txt _) e3.toRS
 |.wrong _,_,h=>h
 |.stop,n,_=>absurd rfl n
theorem RRes.word{K:uZ}{H:Hp}{v:V}:∀{r:Res},r≠.stop->RRes K H v r->∃a us,v=.ref a/\SqT K H a (.str (if r.isMade then "made" else "wrong")::us)
 |.stop,n,_=>absurd rfl n
 |.made _,_,⟨a,u,e1,e2,e3⟩=>⟨a,[u],e1,e2⟩
 |.wrong ws,_,h=>by
  have h:RS K H v (.lst (.txt "wrong"::ws)):=h
  cases h with
  | @lst a vs _ e l at'=>
   match vs,l with
   |u::us,_=>
    have:=at' 0 u _ rfl rfl
    cases this
    exact⟨a,us,rfl,e⟩
inductive RR(K:uZ)(H:Hp):V->R->Prop where
 |mk {a b:Addr}{rv:V}{vs:List V}{res:Res}{rs:List R}:H a=some (.tup [rv,.ref b])->RRes K H rv res->H b=some (.tup vs)->vs.length=rs.length->(∀(i:Nat)(v:V)(r:R),vs[i]?=some v->rs[i]?=some r->RR K H v r)->RR K H (.ref a) (.mk res rs)
theorem RR.mono{K:uZ}{H H':Hp}(t:Same H H'){v:V}{r:R}(h:RR K H v r):RR K H' v r:=by
 induction h with
 |mk e1 e2 e3 l _ ih=>exact .mk (t _ _ e1) (e2.mono t) (t _ _ e3) l ih
structure RRs(K:uZ)(H:Hp)(vs:List V)(rs:List R):Prop where
 len:vs.length=rs.length
 at':∀(i:Nat)(v:V)(r:R),vs[i]?=some v->rs[i]?=some r->RR K H v r
theorem RRs.mono{K:uZ}{H H':Hp}(t:Same H H'){vs:List V}{rs:List R}(h:RRs K H vs rs):RRs K H' vs rs:=⟨h.len,fun i v r a b=>(h.at' i v r a b).mono t⟩
theorem RRs.nil{K:uZ}{H:Hp}:RRs K H [] []:=⟨rfl,fun i v r e=>by simp at e⟩
theorem RRs.snoc{K:uZ}{H:Hp}{vs:List V}{rs:List R}{v:V}{r:R}(h:RRs K H vs rs)(x:RR K H v r):RRs K H (vs++[v]) (rs++[r]):=by
 refine⟨by rw[yE,yE,h.len];rfl,fun i v' r' a b=>?_⟩
 by_cases hi:i<vs.length
 ·rw[yJ hi] at a
  rw[yJ (by rw[←h.len];exact hi)] at b
  exact h.at' i v' r' a b
 ·rw[yL (by lia)] at a
  rw[yL (by rw[←h.len];lia),←h.len] at b
  have e0:i-vs.length=0:=by
   have:=(yC.mp a).1
   simp at this
   lia
  rw[e0] at a b
  cases a
  cases b
  exact x
theorem RRs.one{K:uZ}{H:Hp}{v:V}{r:R}(x:RR K H v r):RRs K H [v] [r]:=RRs.nil.snoc x
theorem RRs.two{K:uZ}{H:Hp}{v v2:V}{r r2:R}(x:RR K H v r)(y:RR K H v2 r2):RRs K H [v,v2] [r,r2]:=(RRs.one x).snoc y
theorem RRs.rr{K:uZ}{H:Hp}{a b:Addr}{rv:V}{vs:List V}{res:Res}{rs:List R}(h:RRs K H vs rs)(e1:H a=some (.tup [rv,.ref b]))(e2:RRes K H rv res)(e3:H b=some (.tup vs)):RR K H (.ref a) (.mk res rs):=.mk e1 e2 e3 h.len h.at'
theorem RR.res{K:uZ}{H:Hp}{v:V}{r:R}(h:RR K H v r):∃a b rv,v=.ref a/\H a=some (.tup [rv,.ref b])/\RRes K H rv r.res:=by
 cases h with
 | @mk a b rv vs res rs e1 e2 e3 l at'=>exact⟨a,b,rv,rfl,e1,e2⟩
noncomputable def kvsB:List (Key×V):=[(.inr "let",.int 1),(.inr "each",.int 1),(.inr "over",.int 2)]
noncomputable def kvsP:List (Key×V):=[(.inr "let",.int 2),(.inr "if",.int 3),(.inr "+",.int 2),(.inr "-",.int 2),(.inr "*",.int 2),(.inr "/",.int 2),(.inr "same",.int 2),(.inr "less",.int 2),(.inr "join",.int 2),(.inr "item",.int 2),(.inr "count",.int 1),(.inr "figures",.int 1),(.inr "each",.int 2),(.inr "over",.int 3),(.inr "look",.int 1),(.inr "else",.int 2),(.inr "cry",.int 1)]
theorem zij{z:Str}(h1:z≠"let")(h2:z≠"each")(h3:z≠"over"):valV kvsB (.inr z)=none:=by
 unfold kvsB
 simp[valV,List.find?,h1,h2,h3,Ne.symm h1,Ne.symm h2,Ne.symm h3]
def hasP(z:Str):Bool:=decide (z="list")||(valV kvsP (.inr z)).isSome
def bcn(z:Str):Nat:=match valV kvsB (.inr z) with
 |some (.int i)=>i.toNat
 |_=>0
theorem zoL(z:Str):(valV kvsB (.inr z)).getD (.int 0)=.int (bcn z):=by
 unfold bcn
 by_cases h1:z="let"
 ·subst h1;rfl
 by_cases h2:z="each"
 ·subst h2;rfl
 by_cases h3:z="over"
 ·subst h3;rfl
 have:valV kvsB (.inr z)=none:=zij h1 h2 h3
 rw[this]
 rfl
def ptsV(z:Str)(us:List V):List V:=if hasP z then us.drop (bcn z) else []
theorem zng(d:Wd)(us:List V):ptsV (wdS d) us=us:=by cases d<;>rfl
def zdQ:Sp:=fun vs H Q _=>∃z:Str,vs=[.str z]/\Q (.bl (hasP z)) H
def zcn:Sp:=fun vs H Q _=>∃z:Str,vs=[.str z]/\Q (.int (bcn z)) H
def zaX:Sp:=fun vs H Q _=>∃(a:Addr)(z:Str)(us:List V),vs=[.ref a]/\H a=some (.tup (.str z::us))/\us.length<=100/\∀(l:Addr)(H':Hp),Same H H'->H' l=some (.lst (ptsV z us))->H l=none->Q (.ref l) H'
def zao(K:uZ):Sp:=fun vs H Q _=>∃(v:V)(r:R),vs=[v]/\RR K H v r/\Q (.bl r.res.isMade) H
def zae(K:uZ):Sp:=fun vs H Q _=>∃(v:V)(r:R)(x:W),vs=[v]/\RR K H v r/\r.res=.made x/\∀u,RW H u x->Q u H
def zaJ(K:uZ):Sp:=fun vs H Q _=>∃(l:Addr)(us:List V)(rs:List R)(r:R),vs=[.ref l]/\H l=some (.lst us)/\RRs K H us rs/\rs.getLast?=some r/\∀(v:V)(H':Hp),Same H H'->RR K H' v (.mk r.res rs)->Q v H'
def zml:Sp:=fun vs H Q _=>∃(bd:Addr)(z:Str)(u:V)(kvs:List (Key×V)),vs=[.ref bd,.str z,u]/\H bd=some (.dK kvs)/\kvs.length<=1000/\∀(p:Addr)(H':Hp),Same H H'->H' p=some (.dK (putK kvs (.inr z) u))->Q (.ref p) H'
theorem zbH{us:List V}{v:V}(e:us[us.length-1]?=some v)(h:0<us.length):atI us (-1)=some v:=by
 have h1:=ZU e
 rw[show us.length-1+1=us.length by lia,vG] at h1
 rw[h1]
 exact zd5 _ _
theorem zfB:FnScope ["word"] ["word"] (zg zbk):=mkSc rfl (by decide +kernel)
theorem zfC(F:Fun K "has_parts" "has_parts" zbk f fd){g_PARTS:Addr}(m_PARTS:mg "PARTS"=some (.ref g_PARTS))(d_PARTS:MD P w K g_PARTS kvsP):FnOk P w K mg base CX0 (k+1) f fd ["word"] (zdQ):=by
 refine F.okQ zfB (by rintro _ _ _ _ ⟨_,rfl,_⟩;rfl) fun cdv A outer s H vs Q E hr h=>?_
 obtain⟨z,rfl,q⟩:=h
 refine⟨_,(zf (zj (zkF (zE Ze (pv 0) zu (nomark _)) (zZ (zE zmf (pv 0) (zQ (v:=.ref g_PARTS) rfl m_PARTS rfl) (by rfl)))))),?_⟩
 refine⟨_,rfl,rfl,_,rfl,?_⟩
 unfold hasP at q
 by_cases hz:z="list"
 ·rw[decide_eq_true (show V.str z=V.str (uI "list") from congrArg V.str hz)]
  rw[decide_eq_true hz] at q
  exact iteT q
 ·rw[decide_eq_false (show V.str z≠V.str (uI "list") from fun e=>hz (V.str.inj e))]
  rw[decide_eq_false hz] at q
  exact iteF ⟨_,rfl,g_PARTS,kvsP,.inr z,rfl,rfl,d_PARTS,q⟩
theorem zcf:FnScope ["word"] ["word"] (zg zac):=mkSc rfl (by decide +kernel)
theorem zcg(F:Fun K "binding_count" "binding_count" zac f fd){g_BINDING:Addr}(m_BINDING:mg "BINDING"=some (.ref g_BINDING))(d_BINDING:MD P w K g_BINDING kvsB):FnOk P w K mg base CX0 (k+1) f fd ["word"] (zcn):=by
 refine F.okQ zcf (by rintro _ _ _ _ ⟨_,rfl,_⟩;rfl) fun cdv A outer s H vs Q E hr h=>?_
 obtain⟨z,rfl,q⟩:=h
 refine⟨_,(zf (zj (zes (zQ (v:=.ref g_BINDING) rfl m_BINDING rfl) (pv 0) ze ⟨rfl,rfl,rfl,rfl⟩))),?_⟩
 refine⟨g_BINDING,kvsB,rfl,d_BINDING,_,rfl,.inr z,rfl,?_⟩
 rw[zoL]
 exact q
theorem zc8:FnScope ["expression","word"] ["expression"] (zg zbV):=mkSc rfl (by decide +kernel)
theorem zgA(F:Fun K "parts_of" "parts_of" zbV f fd)(G_binding_count:Have P w K mg base "binding_count" k ["word"] (zcn))(G_has_parts:Have P w K mg base "has_parts" k ["word"] (zdQ))(m_list:mg "list"=none):FnOk P w K mg base CX0 (k+1) f fd ["expression"] (zaX):=by
 refine F.okQ zc8 (by rintro _ _ _ _ ⟨_,_,_,rfl,_⟩;rfl) fun cdv A outer s H vs Q E hr h=>?_
 obtain⟨a,z,us,rfl,ha,hl,q⟩:=h
 refine⟨_,(zd (zx (i:=1) zc8.nd rfl (Or.inl rfl) (zo zr (pv 0) ze (fun _ _=>rfl)))
  (zd (zD (zT (zG (zq G_has_parts hr rfl (za (pv 1) zb)))) (zf (zj (zS zb))) zt)
  (zf (zj (zM zam rfl m_list zaC (za (zbw zlQ (pv 0) (zbQ (zC Zk ze (zq G_binding_count hr rfl (za (pv 1) zb)))) zd4) zb)))))),?_⟩
 refine⟨_,rfl,a,_,0,_,rfl,rfl,Sq ha,zl (j:=0) rfl,?_⟩
 refine⟨_,rfl,z,rfl,_,rfl,?_⟩
 unfold ptsV at q
 cases hp:hasP z with
 |false=>
  rw[hp] at q
  exact iteT ⟨zl0,fun l hl=>q l _ (Sn hl) zc hl⟩
 |true=>
  rw[hp,if_pos rfl] at q
  refine iteF ⟨_,rfl,_,rfl,z,rfl,_,_,rfl,rfl,_,rfl,a,_,rfl,Sq ha,?_,fun p hp=>?_⟩
  ·intro h
   have h1:HT.sIx (V.str z::us).length 0 (some (((1+bcn z:Nat)):Int))=0:=h.1
   rw[HT.sIx_nat,yG] at h1
   lia
  have e:cutV (V.str z::us) (some (1+(bcn z:Int))) none=us.drop (bcn z):=by
   show ((V.str z::us).drop (HT.sIx (V.str z::us).length 0 (some ((1+bcn z:Nat):Int)))).take ((V.str z::us).length-HT.sIx (V.str z::us).length 0 (some ((1+bcn z:Nat):Int)))=us.drop (bcn z)
   rw[HT.sIx_nat,yG]
   by_cases hb:bcn z<=us.length
   ·rw[show min (1+bcn z) (us.length+1)=bcn z+1 by lia,wZ,xF (by rw[vD];lia)]
   ·rw[show min (1+bcn z) (us.length+1)=us.length+1 by lia,wZ,wD (yF _),wD (by lia),List.take_nil]
  have s1:=Sn (o:=.tup (cutV (V.str z::us) (some (1+(bcn z:Int))) none)) hp
  refine⟨p,us.drop (bcn z),rfl,.inr (Sq (by rw[zc];exact congrArg _ (congrArg _ e))),fun l hl=>q l _ (s1.trans (Sn hl)) zc (s1.free hl)⟩
theorem zik:FnScope ["record"] ["record"] (zg zcS):=mkSc rfl (by decide +kernel)
theorem zil(F:Fun K "is_made" "is_made" zcS f fd):FnOk P w K mg base CX0 (k+1) f fd ["record"] (zao K):=by
 refine F.okQ zik (by rintro _ _ _ _ ⟨_,_,rfl,_⟩;rfl) fun cdv A outer s H vs Q E hr h=>?_
 obtain⟨v,r,rfl,rr,q⟩:=h
 refine⟨_,(zf (zj (zU (zct (zbd (zo zr (pv 0) ze (fun _ _=>rfl)))) (zZ (zE Ze (zo zr (zo zr (pv 0) ze (fun _ _=>rfl)) ze (fun _ _=>rfl)) zu (nomark _)))))),?_⟩
 obtain⟨a,b,rv,rfl,ea,rres⟩:=rr.res
 by_cases hst:r.res=.stop
 ·rw[hst] at rres q
  obtain rfl:rv=.non:=rres
  exact⟨_,rfl,a,_,0,_,rfl,rfl,Sq ea,rfl,_,rfl,iteF q⟩
 obtain⟨c,us,rfl,ec⟩:=rres.word hst
 refine⟨_,rfl,a,_,0,_,rfl,rfl,Sq ea,rfl,?_⟩
 refine⟨_,rfl,iteT ⟨_,rfl,a,_,0,_,rfl,rfl,Sq ea,rfl,c,_,0,_,rfl,rfl,ec,zl (j:=0) rfl,rfl,?_⟩⟩
 cases hm:r.res.isMade with
 |true=>rw[hm] at q;exact q
 |false=>rw[hm] at q;exact q
theorem zgB:FnScope ["record"] ["record"] (zg zbY):=mkSc rfl (by decide +kernel)
theorem zgC(F:Fun K "worth_of" "worth_of" zbY f fd):FnOk P w K mg base CX0 (k+1) f fd ["record"] (zae K):=by
 refine F.okQ zgB (by rintro _ _ _ _ ⟨_,_,_,rfl,_⟩;rfl) fun cdv A outer s H vs Q E hr h=>?_
 obtain⟨v,r,x,rfl,rr,e,q⟩:=h
 refine⟨_,(zf (zj (zo zr (zo zr (pv 0) ze (fun _ _=>rfl)) ze (fun _ _=>rfl)))),?_⟩
 obtain⟨a,b,rv,rfl,ea,rres⟩:=rr.res
 rw[e] at rres
 obtain⟨c,u,rfl,ec,ru⟩:=rres
 exact⟨_,rfl,a,_,0,_,rfl,rfl,Sq ea,rfl,c,_,1,_,rfl,rfl,ec,rfl,q u ru⟩
theorem zim:FnScope ["records"] ["records"] (zg zcT):=mkSc rfl (by decide +kernel)
theorem zin(F:Fun K "as_last" "as_last" zcT f fd)(m_tuple:mg "tuple"=none):FnOk P w K mg base CX0 (k+1) f fd ["records"] (zaJ K):=by
 refine F.okQ zim (by rintro _ _ _ _ ⟨_,_,_,_,rfl,_⟩;rfl) fun cdv A outer s H vs Q E hr h=>?_
 obtain⟨l,us,rs,r,rfl,hl,hrs,hr',q⟩:=h
 refine⟨_,(zf (zj (zy (za (zo zr (zo zA (pv 0) (zd1 zcy ze) (fun _ _=>rfl)) ze (fun _ _=>rfl)) (za (zM ZY rfl m_tuple zF (za (pv 0) zb)) zb))))),?_⟩
 have hne:rs≠[]:=fun z=>by rw[z] at hr';cases hr'
 have hn:0<rs.length:=vA.mpr hne
 have hl':=hrs.len
 have e1:us[us.length-1]?=some us[us.length-1]:=yA (by lia)
 have e2:rs[us.length-1]?=some r:=by rw[hl',←List.getLast?_eq_getElem?];exact hr'
 have rr:=hrs.at' _ _ _ e1 e2
 obtain⟨a,b,rv,ev,ea,rres⟩:=rr.res
 refine⟨_,rfl,_,rfl,l,us,-1,us[us.length-1],rfl,rfl,Sl hl,zbH e1 (by lia),a,_,0,_,ev,rfl,Sq ea,rfl,_,rfl,l,us,rfl,.inl ⟨Sl hl,fun t ht=>⟨zl2,fun a2 ha2=>?_⟩⟩⟩
 have s1:=Sn (o:=.tup us) ht
 have s2:=Sn (o:=.tup [rv,.ref t]) ha2
 have s3:=s1.trans s2
 exact q _ _ s3 ((hrs.mono s3).rr zc (rres.mono s3) (s2 _ _ zc))
theorem zdR:FnScope ["bound","name","worth","inner"] ["bound","name","worth"] (zg zcU):=mkSc rfl (by decide +kernel)
theorem zio(F:Fun K "binding" "binding" zcU f fd)(m_dict:mg "dict"=none):FnOk P w K mg base CX0 (k+1) f fd ["bound","name","worth"] (zml):=by
 refine F.okQ zdR (by rintro _ _ _ _ ⟨_,_,_,_,rfl,_⟩;rfl) fun cdv A outer s H vs Q E hr h=>?_
 obtain⟨bd,z,u,kvs,rfl,hb,hk,q⟩:=h
 refine⟨_,(zd (zx (i:=3) zdR.nd rfl (Or.inl rfl) (zM zfp rfl m_dict zii (za (pv 0) zb)))
  (zd (zf7 (znQ hr) (pv 3) (pv 1) (pv 2) rfl)
  (zf (zj (pv 3))))),?_⟩
 refine⟨_,rfl,bd,kvs,rfl,hb,fun p hp=>?_⟩
 refine⟨_,rfl,_,rfl,_,rfl,p,_,rfl,DPut.k (k:=.inr z) zc (xS hk (by decide)),_,rfl,q _ _ (fun c o e=>?_) zc⟩
 rw[zm (zh e hp),zm (zh e hp)]
 exact e
abbrev Env:=Str->Option W
abbrev Ns:=List Str
noncomputable def put(e:Env)(s:Str)(x:W):Env:=fun t=>if t=s then some x else e t
inductive Ex where
 |lit (x:W)
 |var (s:Str)
 |letE (s:Str) (a b:Ex)
 |ifE (a b c:Ex)
 |elseE (a b:Ex)
 |cryE (a:Ex)
 |lookE (a:Ex)
 |reck (d:Wd) (es:List Ex)
mutual
noncomputable def Ex.toW:Ex->W
 |.lit x=>.lst [.txt "lit",x]
 |.var s=>.lst [.txt "var",.txt s]
 |.letE s a b=>.lst [.txt "let",.txt s,a.toW,b.toW]
 |.ifE a b c=>.lst [.txt "if",a.toW,b.toW,c.toW]
 |.elseE a b=>.lst [.txt "else",a.toW,b.toW]
 |.cryE a=>.lst [.txt "cry",a.toW]
 |.lookE a=>.lst [.txt "look",a.toW]
 |.reck d es=>.lst (.txt (wdS d)::exWs es)
noncomputable def exWs:List Ex->List W
 |[]=>[]
 |e::es=>e.toW::exWs es
end
mutual
noncomputable def Ex.high:Ex->Nat
 |.lit _=>1
 |.var _=>1
 |.letE _ a b=>1+max a.high b.high
 |.ifE a b c=>1+max a.high (max b.high c.high)
 |.elseE a b=>1+max a.high b.high
 |.cryE a=>1+a.high
 |.lookE a=>1+a.high
 |.reck _ es=>1+highs es
noncomputable def highs:List Ex->Nat
 |[]=>0
 |e::es=>max e.high (highs es)
end
noncomputable def zch:W->Res
 |.lst [_,x]=>.made x
 |.lst (_::ws)=>.wrong ws
 |_=>.wrong []
noncomputable def R.worth:R->W
 |.mk (.made x) _=>x
 |.mk _ _=>.num 0
noncomputable def zci(l:List R)(r:R):R:=(l.getLast?).getD r
noncomputable def zaf(l:List R):Bool:=l.all fun r=>r.res.isMade
noncomputable def found(fs:List Res)(n:Nat):Res:=(fs[n]?).getD .stop
section
variable(fs:List Res)
mutual
noncomputable def ev:Ex->Env->Ns->R×Ns
 |.lit x,_,ns=>(.mk (.made x) [],ns)
 |.var s,e,ns=>(.mk (.made ((e s).getD (.num 0))) [],ns)
 |.letE s a b,e,ns=>match (ev a e ns).1.res with
  |.made x=>(.mk (ev b (put e s x) (ev a e ns).2).1.res [(ev a e ns).1,(ev b (put e s x) (ev a e ns).2).1],(ev b (put e s x) (ev a e ns).2).2)
  |r=>(.mk r [(ev a e ns).1],(ev a e ns).2)
 |.ifE a b c,e,ns=>match (ev a e ns).1.res with
  |.made (.num i)=>if i=0 then (.mk (ev c e (ev a e ns).2).1.res [(ev a e ns).1,(ev c e (ev a e ns).2).1],(ev c e (ev a e ns).2).2) else (.mk (ev b e (ev a e ns).2).1.res [(ev a e ns).1,(ev b e (ev a e ns).2).1],(ev b e (ev a e ns).2).2)
  |.made _=>(.mk (.wrong [.txt "kind",.txt ""]) [(ev a e ns).1],(ev a e ns).2)
  |r=>(.mk r [(ev a e ns).1],(ev a e ns).2)
 |.elseE a b,e,ns=>match (ev a e ns).1.res with
  |.wrong _=>(.mk (ev b e (ev a e ns).2).1.res [(ev a e ns).1,(ev b e (ev a e ns).2).1],(ev b e (ev a e ns).2).2)
  |r=>(.mk r [(ev a e ns).1],(ev a e ns).2)
 |.cryE a,e,ns=>match (ev a e ns).1.res with
  |.made x=>(.mk (.wrong [.txt "cried",x]) [(ev a e ns).1],(ev a e ns).2)
  |r=>(.mk r [(ev a e ns).1],(ev a e ns).2)
 |.lookE a,e,ns=>match (ev a e ns).1.res with
  |.made (.txt s)=>(.mk (found fs (ev a e ns).2.length) [(ev a e ns).1],(ev a e ns).2++[s])
  |.made _=>(.mk (.wrong [.txt "kind",.txt ""]) [(ev a e ns).1],(ev a e ns).2)
  |r=>(.mk r [(ev a e ns).1],(ev a e ns).2)
 |.reck d es,e,ns=>if zaf (evs es e ns).1 then (.mk (zch (recW d ((evs es e ns).1.map R.worth))) (evs es e ns).1,(evs es e ns).2) else (.mk (zci (evs es e ns).1 (.mk (.made (.num 0)) [])).res (evs es e ns).1,(evs es e ns).2)
noncomputable def evs:List Ex->Env->Ns->List R×Ns
 |[],_,ns=>([],ns)
 |x::xs,e,ns=>if (ev x e ns).1.res.isMade then ((ev x e ns).1::(evs xs e (ev x e ns).2).1,(evs xs e (ev x e ns).2).2) else ([(ev x e ns).1],(ev x e ns).2)
end
mutual
def Fine:Ex->Env->Ns->Prop
 |.lit _,_,_=>True
 |.var s,e,_=>∃x,e s=some x
 |.letE s a b,e,ns=>Fine a e ns/\∀x,(ev fs a e ns).1.res=.made x->Fine b (put e s x) (ev fs a e ns).2
 |.ifE a b c,e,ns=>Fine a e ns/\∀i,(ev fs a e ns).1.res=.made (.num i)->(i≠0->Fine b e (ev fs a e ns).2)/\(i=0->Fine c e (ev fs a e ns).2)
 |.elseE a b,e,ns=>Fine a e ns/\∀w,(ev fs a e ns).1.res=.wrong w->Fine b e (ev fs a e ns).2
 |.cryE a,e,ns=>Fine a e ns
 |.lookE a,e,ns=>Fine a e ns/\(ev fs a e ns).2.length<=1000
 |.reck d es,e,ns=>es.length<=100/\Fines es e ns/\(zaf (evs fs es e ns).1=true->Oks ((evs fs es e ns).1.map R.worth)/\depths ((evs fs es e ns).1.map R.worth)<=12/\(evs fs es e ns).1.length<=8/\arity d (evs fs es e ns).1.length)
def Fines:List Ex->Env->Ns->Prop
 |[],_,_=>True
 |x::xs,e,ns=>Fine x e ns/\((ev fs x e ns).1.res.isMade=true->Fines xs e (ev fs x e ns).2)
end
end
def EnvR(H:Hp)(kvs:List (Key×V))(e:Env):Prop:=∀s x,e s=some x->∃v,valV kvs (.inr s)=some v/\RW H v x
theorem EnvR.mono{H H':Hp}{kvs:List (Key×V)}{e:Env}(h:EnvR H kvs e)(s:Same H H'):EnvR H' kvs e:=fun z x hx=>let ⟨v,h1,h2⟩:=h z x hx;⟨v,h1,h2.mono (zi s)⟩
theorem EnvR.put{H:Hp}{kvs:List (Key×V)}{e:Env}(h:EnvR H kvs e){s:Str}{u:V}{x:W}(r:RW H u x):EnvR H (putK kvs (.inr s) u) (put e s x):=fun z y hy=>by
 unfold D.put at hy
 rw[zkP]
 by_cases hz:z=s
 ·rw[if_pos hz] at hy
  cases hy
  exact⟨u,by rw[if_pos (by rw[hz])],r⟩
 ·rw[if_neg hz] at hy
  obtain⟨v,h1,h2⟩:=h z y hy
  exact⟨v,by rw[if_neg (fun q=>hz (by simpa using q))];exact h1,h2⟩
theorem RW.tup{H:Hp}{u:V}{ws:List W}(h:RW H u (.lst ws)):∃a vs,u=.ref a/\H a=some (.tup vs)/\RWs H vs ws:=by
 cases h with
 | @lst a vs _ e l at'=>exact⟨a,vs,rfl,e,l,at'⟩
theorem RWs.cons{H:Hp}{vs:List V}{x:W}{ws:List W}(h:RWs H vs (x::ws)):∃u us,vs=u::us/\RW H u x/\RWs H us ws:=by
 match vs,h.len with
 |u::us,hl=>exact⟨u,us,rfl,h.at' 0 u x rfl rfl,by simpa using hl,fun i v w a b=>h.at' (i+1) v w a b⟩
theorem RWs.nil'{H:Hp}{vs:List V}(h:RWs H vs []):vs=[]:=xC.mp h.len
theorem RW.str{H:Hp}{u:V}{s:Str}(h:RW H u (.txt s)):u=.str s:=by cases h;rfl
def Kb(p:Addr)(H H':Hp):Prop:=∀c o,c≠p->H c=some o->H' c=some o
theorem Kb.put{p:Addr}{H:Hp}{o:HO}:Kb p H (upd H p o):=fun c u hc e=>by rw[zm hc];exact e
theorem Kb.seqT{K:uZ}{p:Addr}{H H':Hp}{ts:List V}(e:Kb p H H')(hp:H p=some (.lst ts)){a:Addr}{xs:List V}(h:SqT K H a xs):SqT K H' a xs:=by
 rcases h with (h|⟨o,h⟩)|h
 ·exact .inl (.inl (e _ _ (fun z=>by rw[z,hp] at h;cases h) h))
 ·exact .inl (.inr ⟨o,e _ _ (fun z=>by rw[z,hp] at h;cases h) h⟩)
 ·exact .inr h
theorem Kb.rs{K:uZ}{p:Addr}{H H':Hp}{ts:List V}(e:Kb p H H')(hp:H p=some (.lst ts)){v:V}{w:W}(h:RS K H v w):RS K H' v w:=by
 induction h with
 |num i=>exact .num i
 |txt x=>exact .txt x
 |lst e1 l _ ih=>exact .lst (e.seqT hp e1) l ih
theorem Kb.tups{p:Addr}{H H':Hp}{ts:List V}(e:Kb p H H')(hp:H p=some (.lst ts)):Tups H H':=fun a vs h=>e _ _ (fun z=>by rw[z,hp] at h;cases h) h
theorem Kb.res{K:uZ}{p:Addr}{H H':Hp}{ts:List V}(e:Kb p H H')(hp:H p=some (.lst ts)){v:V}:∀{r:Res},RRes K H v r->RRes K H' v r
 |.made _,⟨a,u,e1,e2,e3⟩=>⟨a,u,e1,e.seqT hp e2,e3.mono (e.tups hp)⟩
 |.wrong _,h=>Kb.rs e hp h
 |.stop,h=>h
theorem Kb.rr{K:uZ}{p:Addr}{H H':Hp}{ts:List V}(e:Kb p H H')(hp:H p=some (.lst ts)){v:V}{r:R}(h:RR K H v r):RR K H' v r:=by
 induction h with
 |mk e1 e2 e3 l _ ih=>exact .mk (e.tups hp _ _ e1) (e.res hp e2) (e.tups hp _ _ e3) l ih
theorem Kb.rrs{K:uZ}{p:Addr}{H H':Hp}{ts:List V}(e:Kb p H H')(hp:H p=some (.lst ts)){vs:List V}{rs:List R}(h:RRs K H vs rs):RRs K H' vs rs:=⟨h.len,fun i v r a b=>e.rr hp (h.at' i v r a b)⟩
def fR(l1 l2:Addr):List (Str×V):=putF "names" (.ref l2) (putF "founds" (.ref l1) [])
theorem zbI(l1 l2:Addr):(fR l1 l2).lookup ("names":Str)=some (.ref l2):=by
 unfold fR
 rw[Zz,if_pos rfl]
theorem zfD(l1 l2:Addr):(fR l1 l2).lookup ("founds":Str)=some (.ref l1):=by
 unfold fR
 rw[Zz,if_neg (by decide +kernel),Zz,if_pos rfl]
theorem znh(l1 l2:Addr):(fR l1 l2).lookup ("look":Str)=none:=by
 unfold fR
 rw[Zz,if_neg (by decide +kernel),Zz,if_neg (by decide +kernel)]
 rfl
structure G(l:Addr)(H H':Hp):Prop where
 k:Kb l H H'
 l:∃xs,H l=some (.lst xs)
structure Rn(K:uZ)(AR:Addr)(fs:List Res)(rp l1 l:Addr)(H:Hp)(ns:Ns):Prop where
 ins:∃dx,H rp=some (.ins AR dx (fR l1 l))
 fo:∃us,H l1=some (.lst us)/\us.length=fs.length/\∀(i:Nat)(u:V)(r:Res),us[i]?=some u->fs[i]?=some r->RRes K H u r
 na:H l=some (.lst (ns.map V.str))
 ne:l1≠l
 few:fs.length<=1000
section
variable{K:uZ}{AR rp l1 l:Addr}{fs:List Res}{H H1 H2:Hp}{ns:Ns}
theorem G.trans(a:G l H H1)(b:G l H1 H2):G l H H2:=⟨fun c o hc e=>b.k c o hc (a.k c o hc e),a.l⟩
theorem G.same(a:G l H H1)(b:Same H1 H2):G l H H2:=⟨fun c o hc e=>b c o (a.k c o hc e),a.l⟩
theorem Rn.g(r:Rn K AR fs rp l1 l H ns)(s:Same H H1):G l H H1:=⟨fun c o _ e=>s c o e,_,r.na⟩
theorem Rn.same(r:Rn K AR fs rp l1 l H ns)(s:Same H H1):Rn K AR fs rp l1 l H1 ns:=by
 obtain⟨dx,e1⟩:=r.ins
 obtain⟨us,e2,e3,e4⟩:=r.fo
 exact⟨⟨dx,s _ _ e1⟩,⟨us,s _ _ e2,e3,fun i u r a b=>(e4 i u r a b).mono s⟩,s _ _ r.na,r.ne,r.few⟩
theorem G.ts(g:G l H H1):Tups H H1:=let ⟨_,e⟩:=g.l;g.k.tups e
theorem G.t(g:G l H H1){a:Addr}{vs:List V}(e:H a=some (.tup vs)):H1 a=some (.tup vs):=g.ts a vs e
theorem G.d(g:G l H H1){a:Addr}{kvs:List (Key×V)}(e:H a=some (.dK kvs)):H1 a=some (.dK kvs):=by
 obtain⟨_,e'⟩:=g.l
 exact g.k _ _ (fun z=>by rw[z,e'] at e;cases e) e
theorem G.rr(g:G l H H1){v:V}{r:R}(h:RR K H v r):RR K H1 v r:=let ⟨_,e⟩:=g.l;g.k.rr e h
theorem G.rrs(g:G l H H1){vs:List V}{rs:List R}(h:RRs K H vs rs):RRs K H1 vs rs:=let ⟨_,e⟩:=g.l;g.k.rrs e h
theorem G.sq(g:G l H H1){a:Addr}{xs:List V}(h:SqT K H a xs):SqT K H1 a xs:=let ⟨_,e⟩:=g.l;g.k.seqT e h
theorem G.env(g:G l H H1){kvs:List (Key×V)}{e:Env}(h:EnvR H kvs e):EnvR H1 kvs e:=fun z x hx=>let ⟨v,h1,h2⟩:=h z x hx;⟨v,h1,h2.mono g.ts⟩
end
def spG(K:uZ)(AR:Addr)(n:Nat)(pre:Ex->Prop):Sp:=fun vs H Q _=>∃(fs:List Res)(rp l1 l:Addr)(u:V)(bd:Addr)(kvs:List (Key×V))(e:Env)(x:Ex)(ns:Ns),vs=[.ref rp,u,.ref bd]/\Rn K AR fs rp l1 l H ns/\RW H u x.toW/\H bd=some (.dK kvs)/\kvs.length+2*n<=1000/\EnvR H kvs e/\x.high<=n/\Fine fs x e ns/\pre x /\
 ∀(v:V)(H':Hp),G l H H'->Rn K AR fs rp l1 l H' (ev fs x e ns).2->RR K H' v (ev fs x e ns).1->Q v H'
def zjX(K:uZ)(AR:Addr):Sp:=fun vs H Q _=>∃(fs:List Res)(rp l1 l:Addr)(z:Str)(ns:Ns),vs=[.ref rp,.str z]/\Rn K AR fs rp l1 l H ns/\ns.length<=1000/\∀(v:V)(H':Hp),G l H H'->Rn K AR fs rp l1 l H' (ns++[z])->RRes K H' v (found fs ns.length)->Q v H'
section
variable{fs:List Res}{s t z:Str}{a b c:Ex}{e:Env}{ns:Ns}{x:W}{w:List W}{i:Int}
theorem zc9(h:(ev fs a e ns).1.res=.made x):ev fs (.letE s a b) e ns=(.mk (ev fs b (put e s x) (ev fs a e ns).2).1.res [(ev fs a e ns).1,(ev fs b (put e s x) (ev fs a e ns).2).1],(ev fs b (put e s x) (ev fs a e ns).2).2):=by rw[ev,h]
theorem zeB(h:(ev fs a e ns).1.res.isMade=false):ev fs (.letE s a b) e ns=(.mk (ev fs a e ns).1.res [(ev fs a e ns).1],(ev fs a e ns).2):=by
 rw[ev]
 cases hr:(ev fs a e ns).1.res with
 |made x=>rw[hr] at h;cases h
 |wrong ws=>rfl
 |stop=>rfl
theorem zjY(h:(ev fs a e ns).1.res.isMade=false):ev fs (.ifE a b c) e ns=(.mk (ev fs a e ns).1.res [(ev fs a e ns).1],(ev fs a e ns).2):=by
 rw[ev]
 cases hr:(ev fs a e ns).1.res with
 |made x=>rw[hr] at h;cases h
 |wrong ws=>rfl
 |stop=>rfl
theorem zfE(h:(ev fs a e ns).1.res=.made (.num 0)):ev fs (.ifE a b c) e ns=(.mk (ev fs c e (ev fs a e ns).2).1.res [(ev fs a e ns).1,(ev fs c e (ev fs a e ns).2).1],(ev fs c e (ev fs a e ns).2).2):=by rw[ev,h];rfl
theorem zfF(h:(ev fs a e ns).1.res=.made (.num i))(hi:i≠0):ev fs (.ifE a b c) e ns=(.mk (ev fs b e (ev fs a e ns).2).1.res [(ev fs a e ns).1,(ev fs b e (ev fs a e ns).2).1],(ev fs b e (ev fs a e ns).2).2):=by
 rw[ev,h]
 exact if_neg hi
theorem zfG(h:(ev fs a e ns).1.res=.made x)(hx:Zs x=false):ev fs (.ifE a b c) e ns=(.mk (.wrong [.txt "kind",.txt ""]) [(ev fs a e ns).1],(ev fs a e ns).2):=by
 rw[ev,h]
 cases x with
 |num i=>cases hx
 |txt _=>rfl
 |lst _=>rfl
theorem zbJ(h:(ev fs a e ns).1.res=.wrong w):ev fs (.elseE a b) e ns=(.mk (ev fs b e (ev fs a e ns).2).1.res [(ev fs a e ns).1,(ev fs b e (ev fs a e ns).2).1],(ev fs b e (ev fs a e ns).2).2):=by rw[ev,h]
theorem Z3(h:∀w,(ev fs a e ns).1.res≠.wrong w):ev fs (.elseE a b) e ns=(.mk (ev fs a e ns).1.res [(ev fs a e ns).1],(ev fs a e ns).2):=by
 rw[ev]
 cases hr:(ev fs a e ns).1.res with
 |made x=>rfl
 |wrong ws=>exact absurd hr (h ws)
 |stop=>rfl
theorem zda(h:(ev fs a e ns).1.res=.made x):ev fs (.cryE a) e ns=(.mk (.wrong [.txt "cried",x]) [(ev fs a e ns).1],(ev fs a e ns).2):=by rw[ev,h]
theorem zgD(h:(ev fs a e ns).1.res.isMade=false):ev fs (.cryE a) e ns=(.mk (ev fs a e ns).1.res [(ev fs a e ns).1],(ev fs a e ns).2):=by
 rw[ev]
 cases hr:(ev fs a e ns).1.res with
 |made x=>rw[hr] at h;cases h
 |wrong ws=>rfl
 |stop=>rfl
theorem zbK(h:(ev fs a e ns).1.res=.made (.txt z)):ev fs (.lookE a) e ns=(.mk (found fs (ev fs a e ns).2.length) [(ev fs a e ns).1],(ev fs a e ns).2++[z]):=by rw[ev,h]
theorem zeC(h:(ev fs a e ns).1.res.isMade=false):ev fs (.lookE a) e ns=(.mk (ev fs a e ns).1.res [(ev fs a e ns).1],(ev fs a e ns).2):=by
 rw[ev]
 cases hr:(ev fs a e ns).1.res with
 |made x=>rw[hr] at h;cases h
 |wrong ws=>rfl
 |stop=>rfl
theorem zbL(h:(ev fs a e ns).1.res=.made x)(hx:∀z,x≠.txt z):ev fs (.lookE a) e ns=(.mk (.wrong [.txt "kind",.txt ""]) [(ev fs a e ns).1],(ev fs a e ns).2):=by
 rw[ev,h]
 cases x with
 |num i=>rfl
 |txt z=>exact absurd rfl (hx z)
 |lst _=>rfl
end
theorem zjZ:FnScope ["run","expression","bound"] ["run","expression","bound"] (zg zed):=mkSc rfl (by decide +kernel)
theorem zj0(F:Fun K "go_lit" "go_lit" zed f fd):FnOk P w K mg base CX0 (k+1) f fd ["run","expression","bound"] (spG K ARun (n+1) (fun x=>∃y,x=.lit y)):=by
 refine F.okQ zjZ (by rintro _ _ _ _ ⟨_,_,_,_,_,_,_,_,_,_,rfl,_⟩;rfl) fun cdv A outer s H vs Q E hr h=>?_
 obtain⟨fs,rp,l1,l,u,bd,kvs,e,x,ns,rfl,rn,ru,hb,hk,he,hh,hf,⟨y,rfl⟩,q⟩:=h
 obtain⟨a,vs,rfl,ea,hw⟩:=ru.tup
 obtain⟨u0,us,rfl,r0,hw⟩:=hw.cons
 obtain⟨u1,us,rfl,r1,hw⟩:=hw.cons
 cases hw.nil'
 refine⟨_,(zf (zj (zy (za (zy (za zu (za (zo zr (pv 1) ze (fun _ _=>rfl)) zb))) (za (zy zb) zb))))),?_⟩
 refine⟨_,rfl,a,_,1,_,rfl,rfl,Sq ea,rfl,zl2,fun p hp=>⟨zl0,fun p2 hp2=>⟨zl2,fun p3 hp3=>?_⟩⟩⟩
 have s1:=Sn (o:=.tup [.str "made",u1]) hp
 have s2:=Sn (o:=.tup []) hp2
 have s3:=Sn (o:=.tup [.ref p,.ref p2]) hp3
 have s13:=(s1.trans s2).trans s3
 exact q _ _ (rn.g s13) (rn.same s13) (RRs.nil.rr zc ⟨p,u1,rfl,Sq ((s2.trans s3) _ _ zc),r1.mono (zi s13)⟩ (s3 _ _ zc))
theorem zj1:FnScope ["run","expression","bound"] ["run","expression","bound"] (zg zee):=mkSc rfl (by decide +kernel)
theorem zj2(F:Fun K "go_var" "go_var" zee f fd):FnOk P w K mg base CX0 (k+1) f fd ["run","expression","bound"] (spG K ARun (n+1) (fun x=>∃s,x=.var s)):=by
 refine F.okQ zj1 (by rintro _ _ _ _ ⟨_,_,_,_,_,_,_,_,_,_,rfl,_⟩;rfl) fun cdv A outer s H vs Q E hr h=>?_
 obtain⟨fs,rp,l1,l,u,bd,kvs,e,x,ns,rfl,rn,ru,hb,hk,he,hh,hf,⟨z,rfl⟩,q⟩:=h
 obtain⟨x0,hf⟩:∃x,e z=some x:=by simpa only [Fine] using hf
 obtain⟨a,vs,rfl,ea,hw⟩:=ru.tup
 obtain⟨u0,us,rfl,r0,hw⟩:=hw.cons
 obtain⟨u1,us,rfl,r1,hw⟩:=hw.cons
 cases hw.nil'
 cases r1.str
 obtain⟨v,hv,rv⟩:=he z x0 hf
 refine⟨_,(zf (zj (zy (za (zy (za zu (za (zf6 (znQ hr) (pv 2) (zo zr (pv 1) ze (fun _ _=>rfl)) (fun _ _=>rfl)) zb))) (za (zy zb) zb))))),?_⟩
 refine⟨_,rfl,_,rfl,a,_,1,_,rfl,rfl,Sq ea,rfl,bd,v,rfl,by rw[←hv];exact DGet.k (k:=.inr z) hb,zl2,fun p hp=>⟨zl0,fun p2 hp2=>⟨zl2,fun p3 hp3=>?_⟩⟩⟩
 have s1:=Sn (o:=.tup [.str "made",v]) hp
 have s2:=Sn (o:=.tup []) hp2
 have s3:=Sn (o:=.tup [.ref p,.ref p2]) hp3
 have s13:=(s1.trans s2).trans s3
 have hev:ev fs (.var z) e ns=(.mk (.made x0) [],ns):=by rw[ev,hf];rfl
 rw[hev] at q
 exact q _ _ (rn.g s13) (rn.same s13) (RRs.nil.rr zc ⟨p,v,rfl,Sq ((s2.trans s3) _ _ zc),rv.mono (zi s13)⟩ (s3 _ _ zc))
theorem zdb:FnScope ["run","expression","bound","first","inner"] ["run","expression","bound"] (zg zef):=mkSc rfl (by decide +kernel)
theorem zj3(F:Fun K "go_let" "go_let" zef f fd)(G_as_last:Have P w K mg base "as_last" k ["records"] (zaJ K))(G_record_of:Have P w K mg base "record_of" k ["run","expression","bound"] (spG K ARun n (fun _=>True)))(G_binding:Have P w K mg base "binding" k ["bound","name","worth"] (zml))(G_worth_of:Have P w K mg base "worth_of" k ["record"] (zae K))(G_is_made:Have P w K mg base "is_made" k ["record"] (zao K)):FnOk P w K mg base CX0 (k+1) f fd ["run","expression","bound"] (spG K ARun (n+1) (fun x=>∃s a b,x=.letE s a b)):=by
 refine F.okQ zdb (by rintro _ _ _ _ ⟨_,_,_,_,_,_,_,_,_,_,rfl,_⟩;rfl) fun cdv A outer s H vs Q E hr h=>?_
 obtain⟨fs,rp,l1,l,u,bd,kvs,e,x,ns,rfl,rn,ru,hb,hk,he,hh,hf,⟨z,A1,B1,rfl⟩,q⟩:=h
 rw[Ex.toW] at ru
 rw[Ex.high] at hh
 rw[Fine] at hf
 obtain⟨a,vs,rfl,ea,hw⟩:=ru.tup
 obtain⟨u0,us,rfl,r0,hw⟩:=hw.cons
 obtain⟨u1,us,rfl,r1,hw⟩:=hw.cons
 obtain⟨u2,us,rfl,r2,hw⟩:=hw.cons
 obtain⟨u3,us,rfl,r3,hw⟩:=hw.cons
 cases hw.nil'
 cases r1.str
 refine⟨_,(zd (zx (i:=3) zdb.nd rfl (Or.inl rfl) (zq G_record_of hr rfl (za (pv 0) (za (zo zr (pv 1) ze (fun _ _=>rfl)) (za (pv 2) zb)))))
  (zd (zD (zT (zG (zq G_is_made hr rfl (za (pv 3) zb)))) (zf (zj (zq G_as_last hr rfl (za (zS (za (pv 3) zb)) zb)))) zt)
  (zd (zx (i:=4) zdb.nd rfl (Or.inl rfl) (zq G_binding hr rfl (za (pv 2) (za (zo zr (pv 1) ze (fun _ _=>rfl)) (za (zq G_worth_of hr rfl (za (pv 3) zb)) zb)))))
  (zf (zj (zq G_as_last hr rfl (za (zS (za (pv 3) (za (zq G_record_of hr rfl (za (pv 0) (za (zo zr (pv 1) ze (fun _ _=>rfl)) (za (pv 4) zb)))) zb))) zb))))))),?_⟩
 refine⟨_,rfl,_,rfl,a,_,2,_,rfl,rfl,Sq ea,rfl,_,rfl,fs,rp,l1,l,u2,bd,kvs,e,A1,ns,rfl,rn,r2,hb,by lia,he,by lia,hf.1,trivial,fun v1 H1 g1 rn1 rr1=>?_⟩
 refine⟨_,rfl,v1,(ev fs A1 e ns).1,rfl,rr1,_,rfl,?_⟩
 cases hm:(ev fs A1 e ns).1.res.isMade with
 |false=>
  refine iteT ⟨_,rfl,zl1,fun p hp=>?_⟩
  have s2:=Sn (o:=.lst [v1]) hp
  rw[zeB hm] at q
  exact⟨p,[v1],[(ev fs A1 e ns).1],(ev fs A1 e ns).1,rfl,zc,RRs.one (rr1.mono s2),rfl,fun v H' s3 rr=>q v H' (g1.same (s2.trans s3)) (rn1.same (s2.trans s3)) rr⟩
 |true=>
  obtain⟨x,hres⟩:∃x,(ev fs A1 e ns).1.res=.made x:=by
   cases hr:(ev fs A1 e ns).1.res with
   |made x=>exact⟨x,rfl⟩
   |wrong _=>rw[hr] at hm;cases hm
   |stop=>rw[hr] at hm;cases hm
  rw[zc9 hres] at q
  refine iteF ⟨_,rfl,_,rfl,a,_,1,_,rfl,rfl,Sq (g1.t ea),rfl,_,rfl,v1,(ev fs A1 e ns).1,x,rfl,rr1,hres,fun ux rx=>?_⟩
  refine⟨bd,z,ux,kvs,rfl,g1.d hb,by lia,fun p H2 s2 hp=>?_⟩
  have g12:=g1.same s2
  have hl:=zbf kvs (.inr z) ux
  refine⟨_,rfl,_,rfl,_,rfl,a,_,3,_,rfl,rfl,Sq (g12.t ea),rfl,_,rfl,fs,rp,l1,l,u3,p,_,put e z x,B1,_,rfl,rn1.same s2,r3.mono g12.ts,hp,by lia,((g12.env he).put (rx.mono (zi s2))),by lia,hf.2 x hres,trivial,fun v2 H3 g3 rn3 rr2=>⟨zl2,fun p4 hp4=>?_⟩⟩
  have s4:=Sn (o:=.lst [v1,v2]) hp4
  exact⟨p4,[v1,v2],[(ev fs A1 e ns).1,_],_,rfl,zc,RRs.two ((g3.rr (rr1.mono s2)).mono s4) (rr2.mono s4),rfl,fun v H' s5 rr=>q v H' ((g12.trans g3).same (s4.trans s5)) (rn3.same (s4.trans s5)) rr⟩
theorem ZV{r:Res}(h:r.isMade=true):∃x,r=.made x:=by
 cases r with
 |made x=>exact⟨x,rfl⟩
 |wrong _=>cases h
 |stop=>cases h
theorem RW.tyW{K:uZ}{H:Hp}{v:V}{x:W}(h:RW H v x):TyOf K H v (.type (tnW x)):=by
 cases h with
 |num i=>exact .int i
 |txt z=>exact .str z
 |lst e _ _=>exact .tup e
theorem zfH:FnScope ["run","expression","bound","first"] ["run","expression","bound"] (zg zeg):=mkSc rfl (by decide +kernel)
theorem zj4(F:Fun K "go_cry" "go_cry" zeg f fd)(G_worth_of:Have P w K mg base "worth_of" k ["record"] (zae K))(G_is_made:Have P w K mg base "is_made" k ["record"] (zao K))(G_as_last:Have P w K mg base "as_last" k ["records"] (zaJ K))(G_record_of:Have P w K mg base "record_of" k ["run","expression","bound"] (spG K ARun n (fun _=>True))):FnOk P w K mg base CX0 (k+1) f fd ["run","expression","bound"] (spG K ARun (n+1) (fun x=>∃a,x=.cryE a)):=by
 refine F.okQ zfH (by rintro _ _ _ _ ⟨_,_,_,_,_,_,_,_,_,_,rfl,_⟩;rfl) fun cdv A outer s H vs Q E hr h=>?_
 obtain⟨fs,rp,l1,l,u,bd,kvs,e,x,ns,rfl,rn,ru,hb,hk,he,hh,hf,⟨A1,rfl⟩,q⟩:=h
 rw[Ex.toW] at ru
 rw[Ex.high] at hh
 rw[Fine] at hf
 obtain⟨a,vs,rfl,ea,hw⟩:=ru.tup
 obtain⟨u0,us,rfl,r0,hw⟩:=hw.cons
 obtain⟨u1,us,rfl,r1,hw⟩:=hw.cons
 cases hw.nil'
 refine⟨_,(zd (zx (i:=3) zfH.nd rfl (Or.inl rfl) (zq G_record_of hr rfl (za (pv 0) (za (zo zr (pv 1) ze (fun _ _=>rfl)) (za (pv 2) zb)))))
  (zd (zD (zT (zG (zq G_is_made hr rfl (za (pv 3) zb)))) (zf (zj (zq G_as_last hr rfl (za (zS (za (pv 3) zb)) zb)))) zt)
  (zf (zj (zy (za (zy (za zu (za zu (za (zq G_worth_of hr rfl (za (pv 3) zb)) zb)))) (za (zy (za (pv 3) zb)) zb))))))),?_⟩
 refine⟨_,rfl,_,rfl,a,_,1,_,rfl,rfl,Sq ea,rfl,_,rfl,fs,rp,l1,l,u1,bd,kvs,e,A1,ns,rfl,rn,r1,hb,by lia,he,by lia,hf,trivial,fun v1 H1 g1 rn1 rr1=>?_⟩
 refine⟨_,rfl,v1,(ev fs A1 e ns).1,rfl,rr1,_,rfl,?_⟩
 cases hm:(ev fs A1 e ns).1.res.isMade with
 |false=>
  refine iteT ⟨_,rfl,zl1,fun p hp=>?_⟩
  have s2:=Sn (o:=.lst [v1]) hp
  rw[zgD hm] at q
  exact⟨p,[v1],[(ev fs A1 e ns).1],(ev fs A1 e ns).1,rfl,zc,RRs.one (rr1.mono s2),rfl,fun v H' s3 rr=>q v H' (g1.same (s2.trans s3)) (rn1.same (s2.trans s3)) rr⟩
 |true=>
  obtain⟨x,hres⟩:=ZV hm
  rw[zda hres] at q
  refine iteF ⟨_,rfl,v1,(ev fs A1 e ns).1,x,rfl,rr1,hres,fun ux rx=>⟨zl3,fun p hp=>⟨_,rfl,zl1,fun p2 hp2=>⟨zl2,fun p3 hp3=>?_⟩⟩⟩⟩
  have s2:=Sn (o:=.tup [.str "wrong",.str "cried",ux]) hp
  have s3:=Sn (o:=.tup [v1]) hp2
  have s4:=Sn (o:=.tup [.ref p,.ref p2]) hp3
  have s24:=(s2.trans s3).trans s4
  refine q _ _ (g1.same s24) (rn1.same s24) ?_
  exact (RRs.one (rr1.mono s24)).rr zc (show RS K _ _ _ from RS.three (Sq ((s3.trans s4) _ _ zc)) (.txt _) (.txt _) (rx.mono (zi s24)).toRS) (s4 _ _ zc)
theorem zdS:FnScope ["run","expression","bound","first"] ["run","expression","bound"] (zg zcW):=mkSc rfl (by decide +kernel)
theorem ziq(F:Fun K "go_else" "go_else" zcW f fd)(G_as_last:Have P w K mg base "as_last" k ["records"] (zaJ K))(G_record_of:Have P w K mg base "record_of" k ["run","expression","bound"] (spG K ARun n (fun _=>True)))(G_is_made:Have P w K mg base "is_made" k ["record"] (zao K)):FnOk P w K mg base CX0 (k+1) f fd ["run","expression","bound"] (spG K ARun (n+1) (fun x=>∃a b,x=.elseE a b)):=by
 refine F.okQ zdS (by rintro _ _ _ _ ⟨_,_,_,_,_,_,_,_,_,_,rfl,_⟩;rfl) fun cdv A outer s H vs Q E hr h=>?_
 obtain⟨fs,rp,l1,l,u,bd,kvs,e,x,ns,rfl,rn,ru,hb,hk,he,hh,hf,⟨A1,B1,rfl⟩,q⟩:=h
 rw[Ex.toW] at ru
 rw[Ex.high] at hh
 rw[Fine] at hf
 obtain⟨a,vs,rfl,ea,hw⟩:=ru.tup
 obtain⟨u0,us,rfl,r0,hw⟩:=hw.cons
 obtain⟨u1,us,rfl,r1,hw⟩:=hw.cons
 obtain⟨u2,us,rfl,r2,hw⟩:=hw.cons
 cases hw.nil'
 refine⟨_,(zd (zx (i:=3) zdS.nd rfl (Or.inl rfl) (zq G_record_of hr rfl (za (pv 0) (za (zo zr (pv 1) ze (fun _ _=>rfl)) (za (pv 2) zb)))))
  (zd (zD (PW.pt (ZX (zbs (zcs (zo zr (pv 3) ze (fun _ _=>rfl)))) (ZI (zG (zq G_is_made hr rfl (za (pv 3) zb)))))) (zf (zj (zq G_as_last hr rfl (za (zS (za (pv 3) zb)) zb)))) zt)
  (zf (zj (zq G_as_last hr rfl (za (zS (za (pv 3) (za (zq G_record_of hr rfl (za (pv 0) (za (zo zr (pv 1) ze (fun _ _=>rfl)) (za (pv 2) zb)))) zb))) zb)))))),?_⟩
 refine⟨_,rfl,_,rfl,a,_,1,_,rfl,rfl,Sq ea,rfl,_,rfl,fs,rp,l1,l,u1,bd,kvs,e,A1,ns,rfl,rn,r1,hb,by lia,he,by lia,hf.1,trivial,fun v1 H1 g1 rn1 rr1=>?_⟩
 obtain⟨a1,b1,rv1,ev1,ea1,rres1⟩:=rr1.res
 subst ev1
 cases hres:(ev fs A1 e ns).1.res with
 |stop=>
  rw[hres] at rres1
  obtain rfl:rv1=.non:=rres1
  refine⟨_,rfl,a1,_,0,_,rfl,rfl,Sq ea1,rfl,_,rfl,iteT ?_⟩
  refine⟨_,rfl,zl1,fun p hp=>?_⟩
  have s2:=Sn (o:=.lst [.ref a1]) hp
  rw[Z3 (fun w z=>by rw[hres] at z;cases z)] at q
  exact⟨p,[.ref a1],[(ev fs A1 e ns).1],(ev fs A1 e ns).1,rfl,zc,RRs.one (rr1.mono s2),rfl,fun v H' s3 rr=>q v H' (g1.same (s2.trans s3)) (rn1.same (s2.trans s3)) rr⟩
 |made x=>
  obtain⟨c1,us1,rfl,ec1⟩:=rres1.word (by rw[hres];exact fun z=>nomatch z)
  refine⟨_,rfl,a1,_,0,_,rfl,rfl,Sq ea1,rfl,_,rfl,iteF ⟨_,rfl,_,(ev fs A1 e ns).1,rfl,rr1,_,rfl,?_⟩⟩
  rw[hres]
  refine iteT ⟨_,rfl,zl1,fun p hp=>?_⟩
  have s2:=Sn (o:=.lst [.ref a1]) hp
  rw[Z3 (fun w z=>by rw[hres] at z;cases z)] at q
  exact⟨p,[.ref a1],[(ev fs A1 e ns).1],(ev fs A1 e ns).1,rfl,zc,RRs.one (rr1.mono s2),rfl,fun v H' s3 rr=>q v H' (g1.same (s2.trans s3)) (rn1.same (s2.trans s3)) rr⟩
 |wrong ws=>
  obtain⟨c1,us1,rfl,ec1⟩:=rres1.word (by rw[hres];exact fun z=>nomatch z)
  refine⟨_,rfl,a1,_,0,_,rfl,rfl,Sq ea1,rfl,_,rfl,iteF ⟨_,rfl,_,(ev fs A1 e ns).1,rfl,rr1,_,rfl,?_⟩⟩
  rw[hres]
  rw[zbJ hres] at q
  refine iteF ⟨_,rfl,_,rfl,_,rfl,a,_,2,_,rfl,rfl,Sq (g1.t ea),rfl,_,rfl,fs,rp,l1,l,u2,bd,kvs,e,B1,_,rfl,rn1,r2.mono g1.ts,g1.d hb,by lia,g1.env he,by lia,hf.2 ws hres,trivial,fun v2 H3 g3 rn3 rr2=>⟨zl2,fun p hp=>?_⟩⟩
  have s4:=Sn (o:=.lst [.ref a1,v2]) hp
  exact⟨p,[.ref a1,v2],[(ev fs A1 e ns).1,_],_,rfl,zc,RRs.two ((g3.rr rr1).mono s4) (rr2.mono s4),rfl,fun v H' s5 rr=>q v H' ((g1.trans g3).same (s4.trans s5)) (rn3.same (s4.trans s5)) rr⟩
theorem zeD:FnScope ["run","expression","bound","first","branch"] ["run","expression","bound"] (zg zgd):=mkSc rfl (by decide +kernel)
theorem zll(F:Fun K "go_if" "go_if" zgd f fd)(G_as_last:Have P w K mg base "as_last" k ["records"] (zaJ K))(G_record_of:Have P w K mg base "record_of" k ["run","expression","bound"] (spG K ARun n (fun _=>True)))(G_worth_of:Have P w K mg base "worth_of" k ["record"] (zae K))(G_is_number:Have P w K mg base "is_number" k ["thing"] (zc2))(G_is_made:Have P w K mg base "is_made" k ["record"] (zao K)){g_KIND:Addr}(m_KIND:mg "KIND"=some (.ref g_KIND))(t_KIND:∀H:Hp,SqT K H g_KIND [.str "wrong",.str "kind",.str ""]):FnOk P w K mg base CX0 (k+1) f fd ["run","expression","bound"] (spG K ARun (n+1) (fun x=>∃a b c,x=.ifE a b c)):=by
 refine F.okQ zeD (by rintro _ _ _ _ ⟨_,_,_,_,_,_,_,_,_,_,rfl,_⟩;rfl) fun cdv A outer s H vs Q E hr h=>?_
 obtain⟨fs,rp,l1,l,u,bd,kvs,e,x,ns,rfl,rn,ru,hb,hk,he,hh,hf,⟨A1,B1,C1,rfl⟩,q⟩:=h
 rw[Ex.toW] at ru
 rw[Ex.high] at hh
 rw[Fine] at hf
 obtain⟨a,vs,rfl,ea,hw⟩:=ru.tup
 obtain⟨u0,us,rfl,r0,hw⟩:=hw.cons
 obtain⟨u1,us,rfl,r1,hw⟩:=hw.cons
 obtain⟨u2,us,rfl,r2,hw⟩:=hw.cons
 obtain⟨u3,us,rfl,r3,hw⟩:=hw.cons
 cases hw.nil'
 refine⟨_,(zd (zx (i:=3) zeD.nd rfl (Or.inl rfl) (zq G_record_of hr rfl (za (pv 0) (za (zo zr (pv 1) ze (fun _ _=>rfl)) (za (pv 2) zb)))))
  (zd (zD (zT (zG (zq G_is_made hr rfl (za (pv 3) zb)))) (zf (zj (zq G_as_last hr rfl (za (zS (za (pv 3) zb)) zb)))) zt)
  (zd (zD (zT (zG (zq G_is_number hr rfl (za (zq G_worth_of hr rfl (za (pv 3) zb)) zb)))) (zf (zj (zy (za (zQ (v:=.ref g_KIND) rfl m_KIND rfl) (za (zy (za (pv 3) zb)) zb))))) zt)
  (zd (zx (i:=4) zeD.nd rfl (Or.inl rfl) (Zp (zw zcz (zq G_worth_of hr rfl (za (pv 3) zb)) ze (nomark _)) (zo zr (pv 1) ze (fun _ _=>rfl)) (zo zr (pv 1) ze (fun _ _=>rfl))))
  (zf (zj (zq G_as_last hr rfl (za (zS (za (pv 3) (za (zq G_record_of hr rfl (za (pv 0) (za (pv 4) (za (pv 2) zb)))) zb))) zb)))))))),?_⟩
 refine⟨_,rfl,_,rfl,a,_,1,_,rfl,rfl,Sq ea,rfl,_,rfl,fs,rp,l1,l,u1,bd,kvs,e,A1,ns,rfl,rn,r1,hb,by lia,he,by lia,hf.1,trivial,fun v1 H1 g1 rn1 rr1=>?_⟩
 refine⟨_,rfl,v1,(ev fs A1 e ns).1,rfl,rr1,_,rfl,?_⟩
 cases hm:(ev fs A1 e ns).1.res.isMade with
 |false=>
  refine iteT ⟨_,rfl,zl1,fun p hp=>?_⟩
  have s2:=Sn (o:=.lst [v1]) hp
  rw[zjY hm] at q
  exact⟨p,[v1],[(ev fs A1 e ns).1],(ev fs A1 e ns).1,rfl,zc,RRs.one (rr1.mono s2),rfl,fun v H' s3 rr=>q v H' (g1.same (s2.trans s3)) (rn1.same (s2.trans s3)) rr⟩
 |true=>
  obtain⟨x,hres⟩:=ZV hm
  refine iteF ⟨_,rfl,v1,(ev fs A1 e ns).1,x,rfl,rr1,hres,fun ux rx=>⟨ux,x.toT,rfl,rx.toRT,_,rfl,?_⟩⟩
  rw[zfA]
  cases hn:Zs x with
  |false=>
   refine iteT ⟨_,rfl,zl1,fun p2 hp2=>⟨zl2,fun p3 hp3=>?_⟩⟩
   have s3:=Sn (o:=.tup [v1]) hp2
   have s4:=Sn (o:=.tup [.ref g_KIND,.ref p2]) hp3
   have s24:=s3.trans s4
   rw[zfG hres hn] at q
   exact q _ _ (g1.same s24) (rn1.same s24) ((RRs.one (rr1.mono s24)).rr zc (show RS K _ _ _ from RS.three (t_KIND _) (.txt _) (.txt _) (.txt _)) (s4 _ _ zc))
  |true=>
   cases x with
   |txt _=>cases hn
   |lst _=>cases hn
   |num i=>
    have hfi:=hf.2 i hres
    refine iteF ⟨_,rfl,v1,(ev fs A1 e ns).1,.num i,rfl,rr1,hres,fun ux2 rx2=>?_⟩
    cases rx2
    refine⟨rfl,_,rfl,?_⟩
    refine ite2 (fun c=>?_) (fun c=>?_)
    ·have hi:i≠0:=fun z=>by rw[z] at c;cases c
     rw[zfF hres hi] at q
     refine⟨_,rfl,a,_,2,_,rfl,rfl,Sq (g1.t ea),rfl,?_⟩
     refine⟨_,rfl,_,rfl,_,rfl,_,rfl,fs,rp,l1,l,u2,bd,kvs,e,B1,_,rfl,rn1,r2.mono g1.ts,g1.d hb,by lia,g1.env he,by lia,hfi.1 hi,trivial,fun v2 H3 g3 rn3 rr2=>⟨zl2,fun p hp=>?_⟩⟩
     have s4:=Sn (o:=.lst [v1,v2]) hp
     exact⟨p,[v1,v2],[(ev fs A1 e ns).1,_],_,rfl,zc,RRs.two ((g3.rr rr1).mono s4) (rr2.mono s4),rfl,fun v H' s5 rr=>q v H' ((g1.trans g3).same (s4.trans s5)) (rn3.same (s4.trans s5)) rr⟩
    ·have hi:i=0:=by
      apply Classical.byContradiction
      intro z
      exact c (by rw[decide_eq_false (by simpa using z)];rfl)
     subst hi
     rw[zfE hres] at q
     refine⟨_,rfl,a,_,3,_,rfl,rfl,Sq (g1.t ea),rfl,?_⟩
     refine⟨_,rfl,_,rfl,_,rfl,_,rfl,fs,rp,l1,l,u3,bd,kvs,e,C1,_,rfl,rn1,r3.mono g1.ts,g1.d hb,by lia,g1.env he,by lia,hfi.2 rfl,trivial,fun v2 H3 g3 rn3 rr2=>⟨zl2,fun p hp=>?_⟩⟩
     have s4:=Sn (o:=.lst [v1,v2]) hp
     exact⟨p,[v1,v2],[(ev fs A1 e ns).1,_],_,rfl,zc,RRs.two ((g3.rr rr1).mono s4) (rr2.mono s4),rfl,fun v H' s5 rr=>q v H' ((g1.trans g3).same (s4.trans s5)) (rn3.same (s4.trans s5)) rr⟩
theorem zgE:FnScope ["self","name"] ["self","name"] (zg Z6):=mkSc rfl (by decide +kernel)
theorem zgF(F:Fun K "look" "Run.look" Z6 f fd)(m_len:mg "len"=none)(clR:Cls K ARun)(nF:zH K ARun "founds")(nN:zH K ARun "names"):FnOk P w K mg base CX0 (k+1) f fd ["self","name"] (zjX K ARun):=by
 refine F.okQ zgE (by rintro _ _ _ _ ⟨_,_,_,_,_,_,rfl,_⟩;rfl) fun cdv A outer s H vs Q E hr h=>?_
 obtain⟨fs,rp,l1,l,z,ns,rfl,rn,hns,q⟩:=h
 obtain⟨dx,hins⟩:=rn.ins
 obtain⟨us,e1,hlen,hres⟩:=rn.fo
 have na:=rn.na
 refine⟨_,(zd (Zc (zcc uW uY uX zax (zI (pv 0) rfl) (za (pv 1) zb)))
  (zd (zD (zw zcA (zk zB rfl m_len uO (za (zI (pv 0) rfl) zb)) (zk zB rfl m_len uO (za (zI (pv 0) rfl) zb)) (nomark _)) (zf (zj zaM)) zt)
  (zf (zj (zo zA (zI (pv 0) rfl) (zC ZJ (zk zB rfl m_len uO (za (zI (pv 0) rfl) zb)) ze) (fun _ _=>rfl)))))),?_⟩
 refine⟨_,rfl,rp,ARun,dx,_,_,rfl,hins,clR,nN,zbI _ _,.inl ⟨rfl,_,Sl na⟩,_,rfl,l,_,.str z,rfl,rfl,na,zaa (by rw[yB];lia),?_⟩
 have kb:Kb l H (upd H l (.lst (ns.map V.str++[.str z]))):=Kb.put
 have na1:upd H l (.lst (ns.map V.str++[.str z])) l=some (.lst (ns.map V.str++[.str z])):=zc
 have hins1:=kb _ _ (fun c=>by rw[c,na] at hins;cases hins) hins
 have e11:=kb _ _ rn.ne e1
 have hres1:∀(i:Nat)(u:V)(r:Res),us[i]?=some u->fs[i]?=some r->RRes K (upd H l (.lst (ns.map V.str++[.str z]))) u r:=fun i u r a b=>kb.res na (hres i u r a b)
 have g:G l H (upd H l (.lst (ns.map V.str++[.str z]))):=⟨kb,_,na⟩
 generalize upd H l (.lst (ns.map V.str++[.str z]))=H1 at na1 hins1 e11 hres1 g
 have rn1:Rn K ARun fs rp l1 l H1 (ns++[z]):=⟨⟨dx,hins1⟩,⟨us,e11,hlen,hres1⟩,by rw[na1,wF];rfl,rn.ne,rn.few⟩
 have hnl:(ns.map V.str++[V.str z]).length=ns.length+1:=by simp
 refine⟨_,rfl,rp,ARun,dx,_,_,rfl,hins1,clR,nN,zbI _ _,_,_,rfl,.inl ⟨_,Sl na1,rfl⟩,_,rfl,rp,ARun,dx,_,_,rfl,hins1,clR,nF,zfD _ _,_,_,rfl,.inl ⟨_,Sl e11,rfl⟩,_,_,rfl,rfl,_,rfl,?_⟩
 by_cases hgt:fs.length<ns.length+1
 ·rw[show decide (((us.length:Nat):Int)<(((ns.map V.str++[V.str z]).length:Nat):Int))=true from decide_eq_true (by rw[hnl];lia)]
  refine iteT (q _ _ g rn1 ?_)
  unfold found
  rw[xH (by lia)]
  rfl
 ·rw[show decide (((us.length:Nat):Int)<(((ns.map V.str++[V.str z]).length:Nat):Int))=false from decide_eq_false (by rw[hnl];lia)]
  have hi:ns.length<us.length:=by lia
  have hi2:ns.length<fs.length:=by lia
  refine iteF ⟨_,rfl,rp,ARun,dx,_,_,rfl,hins1,clR,nF,zfD _ _,_,rfl,rp,ARun,dx,_,_,rfl,hins1,clR,nN,zbI _ _,_,_,rfl,.inl ⟨_,Sl na1,rfl⟩,_,_,rfl,rfl,l1,us,_,us[ns.length],rfl,rfl,Sl e11,?_,q _ _ g rn1 ?_⟩
  ·rw[hnl,show (((ns.length+1:Nat):Int)-1)=(ns.length:Int) by lia]
   exact zl (yA hi)
  ·unfold found
   rw[yA hi2]
   exact hres1 ns.length _ _ (yA hi) (yA hi2)
theorem zdT:FnScope ["run","expression","bound","first"] ["run","expression","bound"] (zg zcV):=mkSc rfl (by decide +kernel)
theorem zir(F:Fun K "go_look" "go_look" zcV f fd)(G_Run_look:Z2 P w K mg base ARun "look" k ["self","name"] (zjX K ARun))(G_worth_of:Have P w K mg base "worth_of" k ["record"] (zae K))(G_is_made:Have P w K mg base "is_made" k ["record"] (zao K))(G_as_last:Have P w K mg base "as_last" k ["records"] (zaJ K))(G_record_of:Have P w K mg base "record_of" k ["run","expression","bound"] (spG K ARun n (fun _=>True)))(m_isi:mg "isinstance"=none)(m_str:mg "str"=none){g_KIND:Addr}(m_KIND:mg "KIND"=some (.ref g_KIND))(t_KIND:∀H:Hp,SqT K H g_KIND [.str "wrong",.str "kind",.str ""]):FnOk P w K mg base CX0 (k+1) f fd ["run","expression","bound"] (spG K ARun (n+1) (fun x=>∃a,x=.lookE a)):=by
 refine F.okQ zdT (by rintro _ _ _ _ ⟨_,_,_,_,_,_,_,_,_,_,rfl,_⟩;rfl) fun cdv A outer s H vs Q E hr h=>?_
 obtain⟨fs,rp,l1,l,u,bd,kvs,e,x,ns,rfl,rn,ru,hb,hk,he,hh,hf,⟨A1,rfl⟩,q⟩:=h
 rw[Ex.toW] at ru
 rw[Ex.high] at hh
 rw[Fine] at hf
 obtain⟨a,vs,rfl,ea,hw⟩:=ru.tup
 obtain⟨u0,us,rfl,r0,hw⟩:=hw.cons
 obtain⟨u1,us,rfl,r1,hw⟩:=hw.cons
 cases hw.nil'
 refine⟨_,(zd (zx (i:=3) zdT.nd rfl (Or.inl rfl) (zq G_record_of hr rfl (za (pv 0) (za (zo zr (pv 1) ze (fun _ _=>rfl)) (za (pv 2) zb)))))
  (zd (zD (zT (zG (zq G_is_made hr rfl (za (pv 3) zb)))) (zf (zj (zq G_as_last hr rfl (za (zS (za (pv 3) zb)) zb)))) zt)
  (zd (zD (zT (zG (zk zN rfl m_isi zJ (za (zq G_worth_of hr rfl (za (pv 3) zb)) (za (ZE rfl m_str Zl) zb))))) (zf (zj (zy (za (zQ (v:=.ref g_KIND) rfl m_KIND rfl) (za (zy (za (pv 3) zb)) zb))))) zt)
  (zf (zj (zy (za (pe_m G_Run_look hr (pv 0) (za (zq G_worth_of hr rfl (za (pv 3) zb)) zb)) (za (zy (za (pv 3) zb)) zb)))))))),?_⟩
 refine⟨_,rfl,_,rfl,a,_,1,_,rfl,rfl,Sq ea,rfl,_,rfl,fs,rp,l1,l,u1,bd,kvs,e,A1,ns,rfl,rn,r1,hb,by lia,he,by lia,hf.1,trivial,fun v1 H1 g1 rn1 rr1=>?_⟩
 refine⟨_,rfl,v1,(ev fs A1 e ns).1,rfl,rr1,_,rfl,?_⟩
 cases hm:(ev fs A1 e ns).1.res.isMade with
 |false=>
  refine iteT ⟨_,rfl,zl1,fun p hp=>?_⟩
  have s2:=Sn (o:=.lst [v1]) hp
  rw[zeC hm] at q
  exact⟨p,[v1],[(ev fs A1 e ns).1],(ev fs A1 e ns).1,rfl,zc,RRs.one (rr1.mono s2),rfl,fun v H' s3 rr=>q v H' (g1.same (s2.trans s3)) (rn1.same (s2.trans s3)) rr⟩
 |true=>
  obtain⟨x,hres⟩:=ZV hm
  have kindC:(∀z,x≠.txt z)->∀(p2 p3:Addr)(hp2:H1 p2=none)(hp3:upd H1 p2 (.tup [v1]) p3=none),Q (.ref p3) (upd (upd H1 p2 (.tup [v1])) p3 (.tup [.ref g_KIND,.ref p2])):=fun hx p2 p3 hp2 hp3=>by
   have s3:=Sn (o:=.tup [v1]) hp2
   have s4:=Sn (o:=.tup [.ref g_KIND,.ref p2]) hp3
   have s24:=s3.trans s4
   rw[zbL hres hx] at q
   exact q _ _ (g1.same s24) (rn1.same s24) ((RRs.one (rr1.mono s24)).rr zc (show RS K _ _ _ from RS.three (t_KIND _) (.txt _) (.txt _) (.txt _)) (s4 _ _ zc))
  refine iteF ⟨_,rfl,v1,(ev fs A1 e ns).1,x,rfl,rr1,hres,fun ux rx=>⟨_,_,_,_,rfl,rx.tyW,isiS _,_,rfl,?_⟩⟩
  cases x with
  |num i=>exact iteT ⟨_,rfl,zl1,fun p2 hp2=>⟨zl2,fun p3 hp3=>kindC (fun z c=>nomatch c) p2 p3 hp2 hp3⟩⟩
  |lst ws=>exact iteT ⟨_,rfl,zl1,fun p2 hp2=>⟨zl2,fun p3 hp3=>kindC (fun z c=>nomatch c) p2 p3 hp2 hp3⟩⟩
  |txt z=>
   rw[zbK hres] at q
   obtain⟨dx,hins⟩:=rn1.ins
   refine iteF ⟨_,rfl,rp,dx,_,rfl,hins,znh _ _,_,rfl,v1,(ev fs A1 e ns).1,.txt z,rfl,rr1,hres,fun ux2 rx2=>?_⟩
   obtain rfl:=rx2.str
   refine⟨fs,rp,l1,l,z,_,rfl,rn1,hf.2,fun v2 H2 g2 rn2 rres=>⟨_,rfl,zl1,fun p2 hp2=>⟨zl2,fun p3 hp3=>?_⟩⟩⟩
   have s3:=Sn (o:=.tup [v1]) hp2
   have s4:=Sn (o:=.tup [v2,.ref p2]) hp3
   have s24:=s3.trans s4
   exact q _ _ ((g1.trans g2).same s24) (rn2.same s24) ((RRs.one ((g2.rr rr1).mono s24)).rr zc (rres.mono s24) (s4 _ _ zc))
end
end D
namespace L2
open PySem
def iSeq(K:uZ)(tl:TE):TI:=fun σ H R=>ziH K tl σ H R\/iTup K tl σ H R
theorem zdc{X:Cx}{tg l:Expr}{tl:TE}(hl:PE X l tl):PI X tg l (iSeq X.K tl):=fun zp s σ H R I h=>h.elim (fun h=>zaq hl zp s σ H R I h) (fun h=>zb6 hl zp s σ H R I h)
theorem zj5{K:uZ}{fr:List Nat}{te:TE}{σ:St}{H:Hp}{F:Addr->Hp->List V->Prop}{a:Addr}{vs:List V}(Pv:Nat->List V->Hp->Prop)(hS:SqL K H a vs)(hz:vs.length<=uQ)(h0:Pv 0 [] H)(hlen:∀i us H1,Pv i us H1->us.length=i)
  (step:∀(i:Nat)(v:V)(us:List V)(H1:Hp)(R:VK),vs[i]?=some v->Pv i us H1->Same H H1->(∀y H2,Same H1 H2->Pv (i+1) (us++[y]) H2->R y H2)->te (some v::frees fr σ) H1 R)
  (fin:∀(us:List V)(H1:Hp)(D:Addr),Pv vs.length us H1->Same H H1->H1 D=none->F D H1 us):
  ∃W:Nat->Nat->List V->Hp->Prop,(∃m,W 0 m [] H)/\∀i m vs H,W i m vs H->vs.length<=uQ /\
   (((Itl K a).stop i H/\∀D,H D=none->F D H vs) \/
    ((Itl K a).go i H/\∀v H',(Itl K a).yld i H v H'->if true=true then te (some v::frees fr σ) H' fun y H3=>∃m',m'<m/\W (i+1) m' (vs++[y]) H3 else ∃m',m'<m/\W (i+1) m' vs H')):=by
 refine⟨fun i m us H1=>i<=vs.length/\m=vs.length-i/\Pv i us H1/\Same H H1,⟨_,yN _,rfl,h0,Sr _⟩,fun i m us H1 hW=>?_⟩
 obtain⟨hi,hm,hu,sm⟩:=hW
 refine⟨by rw[hlen _ _ _ hu];lia,?_⟩
 by_cases hlt:i<vs.length
 ·refine .inr ⟨⟨vs,vs[i],sm.seq hS,yA hlt⟩,fun v H' hy=>?_⟩
  obtain⟨rfl,hv⟩:=hy
  have hv:=hv vs (sm.seq hS)
  refine iteT ?_
  exact step i v us H' _ hv hu sm fun y H2 s2 p2=>⟨vs.length-(i+1),by lia,by lia,rfl,p2,sm.trans s2⟩
 ·have e:i=vs.length:=by lia
  subst e
  exact .inl ⟨⟨vs,sm.seq hS,by lia⟩,fun D hD=>fin us H1 D hu sm hD⟩
end L2
namespace D
open PySem L2
theorem zdc{X:Cx}{tg l:Expr}{tl:TE}(hl:QE X l tl):QI X tg l (iSeq X.K tl):=⟨L2.zdc hl.un⟩
theorem zeE:∀(l:List Ex)(i:Nat),(exWs l)[i]?=(l[i]?).map Ex.toW
 |[],_=>by simp[exWs]
 |r::l,0=>by simp[exWs]
 |r::l,i+1=>by simp only[exWs,vH];exact zeE l i
theorem zap:∀l:List Ex,(exWs l).length=l.length
 |[]=>by simp[exWs]
 |_::l=>by simp only[exWs,yG,zap l]
theorem zaD{x:Ex}:∀{es:List Ex},x∈es->x.high<=highs es
 |y::ys,h=>by
  rw[highs]
  rcases yQ.mp h with rfl|h
  ·lia
  ·have:=zaD h;lia
theorem Zn(x:W):(∃y,zak x=.lst [.txt "made",y])\/∃p q,zak x=.lst [.txt "wrong",p,q]:=by
 unfold zak
 split
 ·exact .inl ⟨_,rfl⟩
 ·exact .inr ⟨_,_,rfl⟩
theorem zbM{f:Int->Int->W}(hf:∀a b,(∃y,f a b=.lst [.txt "made",y])\/∃p q,f a b=.lst [.txt "wrong",p,q])(ws:List W):(∃y,two f ws=.lst [.txt "made",y])\/∃p q,two f ws=.lst [.txt "wrong",p,q]:=by
 unfold two
 split
 ·rename_i a b
  exact hf a b
 ·exact .inr ⟨.txt "kind",.txt "",rfl⟩
theorem zlm(d:Wd)(ws:List W):(∃y,recW d ws=.lst [.txt "made",y])\/∃p q,recW d ws=.lst [.txt "wrong",p,q]:=by
 unfold recW
 split
 ·exact zbM (fun _ _=>Zn _) _
 ·exact zbM (fun _ _=>Zn _) _
 ·exact zbM (fun _ _=>Zn _) _
 ·refine zbM (fun _ _=>?_) _
  split
  ·exact .inr ⟨.txt "nought",.txt "",rfl⟩
  ·exact Zn _
 ·exact zbM (fun _ _=>.inl ⟨_,rfl⟩) _
 ·exact Zn _
 ·exact .inr ⟨.txt "kind",.txt "",rfl⟩
 ·exact .inl ⟨_,rfl⟩
 ·exact .inr ⟨.txt "kind",.txt "",rfl⟩
 ·exact Zn _
 ·exact Zn _
 ·exact .inr ⟨.txt "kind",.txt "",rfl⟩
 ·exact Zn _
 ·split
  ·exact Zn _
  ·exact .inr ⟨.txt "place",.txt "",rfl⟩
 ·exact .inr ⟨.txt "kind",.txt "",rfl⟩
 ·exact Zn _
 ·exact Zn _
 ·exact .inr ⟨.txt "kind",.txt "",rfl⟩
theorem RM.res{K:uZ}{H:Hp}{v:V}{w:W}(h:RM K H v w)(f:(∃y,w=.lst [.txt "made",y])\/∃p q,w=.lst [.txt "wrong",p,q]):RRes K H v (zch w):=by
 rcases f with⟨y,rfl⟩|⟨p,q,rfl⟩
 ·exact h.2 _ _ rfl
 ·exact h.1
theorem zis:∀{r:R},r.res.isMade=true->r.res=.made r.worth
 |.mk (.made x) _,_=>rfl
 |.mk (.wrong _) _,h=>by cases h
 |.mk .stop _,h=>by cases h
theorem RRs.last{K:uZ}{H:Hp}{vs:List V}{rs:List R}(h:RRs K H vs rs){r:R}(hr:rs.getLast?=some r):∃v,vs[vs.length-1]?=some v/\0<vs.length/\RR K H v r:=by
 have hne:rs≠[]:=fun z=>by rw[z] at hr;cases hr
 have hn:0<rs.length:=vA.mpr hne
 have hl:=h.len
 have e1:vs[vs.length-1]?=some vs[vs.length-1]:=yA (by lia)
 exact⟨_,e1,by lia,h.at' _ _ _ e1 (by rw[hl,←List.getLast?_eq_getElem?];exact hr)⟩
theorem zln{l:List R}{r x:R}(h:l.getLast?=some r):zci l x=r:=by unfold zci;rw[h];rfl
theorem Kb.seqL{K:uZ}{p a:Addr}{H H':Hp}{xs:List V}(e:Kb p H H')(ne:a≠p)(h:SqL K H a xs):SqL K H' a xs:=by
 rcases h with (h|⟨o,h⟩)|h
 ·exact .inl (.inl (e _ _ ne h))
 ·exact .inl (.inr ⟨o,e _ _ ne h⟩)
 ·exact .inr h
theorem Rn.keep{K:uZ}{AR rp l1 l p:Addr}{fs:List Res}{H H':Hp}{ns:Ns}{xs:List V}(r:Rn K AR fs rp l1 l H ns)(kb:Kb p H H')(ep:H p=some (.lst xs))(n1:l1≠p)(n2:l≠p):Rn K AR fs rp l1 l H' ns:=by
 obtain⟨dx,e1⟩:=r.ins
 obtain⟨us,e2,e3,e4⟩:=r.fo
 exact⟨⟨dx,kb _ _ (fun z=>by rw[z,ep] at e1;cases e1) e1⟩,⟨us,kb _ _ n1 e2,e3,fun i u r a b=>kb.res ep (e4 i u r a b)⟩,kb _ _ n2 r.na,r.ne,r.few⟩
theorem Rn.fresh{K:uZ}{AR rp l1 l p:Addr}{fs:List Res}{H:Hp}{ns:Ns}(r:Rn K AR fs rp l1 l H ns)(hp:H p=none):l1≠p/\l≠p:=by
 obtain⟨us,e2,_⟩:=r.fo
 exact⟨zh e2 hp,zh r.na hp⟩
section
variable{fs:List Res}{e:Env}
theorem zaY(x:Ex)(xs:List Ex)(ns:Ns):evs fs (x::xs) e ns=if (ev fs x e ns).1.res.isMade then ((ev fs x e ns).1::(evs fs xs e (ev fs x e ns).2).1,(evs fs xs e (ev fs x e ns).2).2) else ([(ev fs x e ns).1],(ev fs x e ns).2):=by rw[evs]
theorem zeF:∀{es:List Ex}{ns:Ns}{r:R},(evs fs es e ns).1.getLast?=some r->r.res.isMade=zaf (evs fs es e ns).1
 |[],ns,r,h=>by rw[evs] at h;cases h
 |x::xs,ns,r,h=>by
  rw[evs] at h ⊢
  cases hx:(ev fs x e ns).1.res.isMade with
  |false=>
   rw[hx,if_neg (by decide)] at h
   rw[if_neg (by decide)]
   cases h
   simp[zaf,hx]
  |true=>
   rw[hx,if_pos rfl] at h
   rw[if_pos rfl]
   unfold zaf
   rw[vB,hx,vC]
   cases hxs:(evs fs xs e (ev fs x e ns).2).1 with
   |nil=>
    have h:((ev fs x e ns).1::(evs fs xs e (ev fs x e ns).2).1).getLast?=some r:=h
    rw[hxs] at h
    cases h
    simpa using hx
   |cons y ys=>
    have h:((ev fs x e ns).1::(evs fs xs e (ev fs x e ns).2).1).getLast?=some r:=h
    rw[hxs,vI,←hxs] at h
    have:=zeF h
    rw[hxs] at this
    exact this
theorem zj6:∀{es:List Ex}{ns:Ns},(evs fs es e ns).1.length<=es.length
 |[],ns=>by rw[evs];exact yF _
 |x::xs,ns=>by
  rw[evs]
  split
  ·have:=zj6 (es:=xs) (ns:=(ev fs x e ns).2)
   simp only[yG]
   lia
  ·simp
end
def zhq(K:uZ)(AR:Addr)(n:Nat):Sp:=fun vs H Q _=>∃(fs:List Res)(rp l1 l la bd:Addr)(us:List V)(kvs:List (Key×V))(e:Env)(es:List Ex)(ns:Ns),vs=[.ref rp,.ref la,.ref bd]/\Rn K AR fs rp l1 l H ns/\((SqL K H la us/\la≠l)\/SqT K H la us)/\RWs H us (exWs es)/\H bd=some (.dK kvs)/\kvs.length+2*n<=1000/\EnvR H kvs e/\highs es<=n/\Fines fs es e ns/\es.length<=100 /\
 ∀(p:Addr)(vs':List V)(H':Hp),H p=none->G l H H'->Rn K AR fs rp l1 l H' (evs fs es e ns).2->H' p=some (.lst vs')->RRs K H' vs' (evs fs es e ns).1->Q (.ref p) H'
section
variable{P:Program}{w:World}{K:uZ}{mg:Str->Option Value}{base:Heap}{f:Addr}{fd:tD}{k n:Nat}{ARun ATask:Addr}
theorem zaK:FnScope ["run","expressions","bound","records","expression"] ["run","expressions","bound"] (zg zaS):=mkSc rfl (by decide +kernel)
theorem zeG(F:Fun K "go_through" "go_through" zaS f fd)(G_is_made:Have P w K mg base "is_made" k ["record"] (zao K))(G_record_of:Have P w K mg base "record_of" k ["run","expression","bound"] (spG K ARun n (fun _=>True))):FnOk P w K mg base CX0 (k+1) f fd ["run","expressions","bound"] (zhq K ARun n):=by
 refine F.okQ zaK (by rintro _ _ _ _ ⟨_,_,_,_,_,_,_,_,_,_,_,rfl,_⟩;rfl) fun cdv A outer s H vs Q E hr h=>?_
 obtain⟨fs,rp,l1,l,la,bd,us,kvs,e,es,ns,rfl,rn,hl,hw,hb,hk,he,hh,hf,hn,q⟩:=h
 have hul:=hw.len
 rw[zap] at hul
 refine⟨_,(zd (zx (i:=3) zaK.nd rfl (Or.inl rfl) (zS zb))
  (zd (za8 uV rfl (zdc (pv 1)) (zX (i:=4) zaK.nd rfl (Or.inl rfl)) (zd (Zc (zcc uW uY uX zax (pv 3) (za (zq G_record_of hr rfl (za (pv 0) (za (pv 4) (za (pv 2) zb)))) zb)))
  (zf (zD (zT (zG (zq G_is_made hr rfl (za (zo zA (pv 3) (zd1 zcy ze) (fun _ _=>rfl)) zb)))) (zf (zj (pv 3))) zt))))
  (zf (zj (pv 3))))),?_⟩
 refine⟨zl0,fun p hp=>?_⟩
 have sP:Same H (upd H p (.lst [])):=Sn hp
 obtain⟨n1,n2⟩:=rn.fresh hp
 rcases hl with⟨hl,hla⟩|hl
 ·refine .inl ⟨_,rfl,la,rfl,⟨us,sP.seq hl⟩,zg5 (xs:=us) (fun i σ' H'=>∃(o:Option V)(vs':List V)(dn:List R)(nsi:Ns),σ'=[some (.ref rp),some (.ref la),some (.ref bd),some (.ref p),o]/\G l H H'/\Rn K ARun fs rp l1 l H' nsi/\H' p=some (.lst vs')/\RRs K H' vs' dn/\evs fs es e ns=(dn++(evs fs (es.drop i) e nsi).1,(evs fs (es.drop i) e nsi).2)/\Fines fs (es.drop i) e nsi/\dn.length=i)
   ⟨none,[],[],ns,rfl,rn.g sP,rn.same sP,zc,RRs.nil,rfl,hf,rfl⟩ (fun i σ' H' _ h=>?_) (fun i x σ' H' hx h=>?_) (fun σ' H' h=>?_)⟩
  ·obtain⟨o,vs',dn,nsi,_,g,_⟩:=h
   exact g.k.seqL hla hl
  ·obtain⟨o,vs',dn,nsi,rfl,g,rni,ep,rrs,hwk,hfi,hdl⟩:=h
   have hi:i<us.length:=(yC.mp hx).1
   have hie:i<es.length:=by lia
   have hy:es[i]?=some es[i]:=yA hie
   have hw':RW H x (es[i]).toW:=hw.at' i x _ hx (by rw[zeE,hy];rfl)
   have hhy:=zaD (yS hy)
   have hvl:=rrs.len
   rw[xM hie,zaY] at hwk
   rw[xM hie,Fines] at hfi
   refine⟨_,rfl,.inl ⟨rfl,_,Sl ep⟩,_,rfl,_,rfl,_,rfl,fs,rp,l1,l,x,bd,kvs,e,es[i],nsi,rfl,rni,hw'.mono g.ts,g.d hb,hk,g.env he,by lia,hfi.1,trivial,fun v H2 g2 rn2 rr=>?_⟩
   have ep2:=g2.k p _ n2.symm ep
   refine⟨p,vs',v,rfl,rfl,ep2,zaa (by lia),?_⟩
   have kb:Kb p H2 (upd H2 p (.lst (vs'++[v]))):=Kb.put
   have rr3:=kb.rr ep2 rr
   have rrs3:=(kb.rrs ep2 (g2.rrs rrs)).snoc rr3
   have g3:G l H (upd H2 p (.lst (vs'++[v]))):=⟨fun c o hc ec=>by rw[zm (zh ec hp)];exact g2.k _ _ hc (g.k _ _ hc ec),g.l⟩
   have rn3:=rn2.keep kb ep2 n1 n2
   have ep3:upd H2 p (.lst (vs'++[v])) p=some (.lst (vs'++[v])):=zc
   generalize upd H2 p (.lst (vs'++[v]))=H3 at rr3 rrs3 g3 rn3 ep3
   refine⟨_,rfl,_,rfl,p,vs'++[v],-1,v,rfl,rfl,Sl ep3,zd5 _ _,v,(ev fs es[i] e nsi).1,rfl,rr3,_,rfl,?_⟩
   cases hmd:(ev fs es[i] e nsi).1.res.isMade with
   |false=>
    rw[hmd,if_neg (by decide)] at hwk
    rw[hwk] at q
    exact iteT ⟨_,rfl,q p _ _ hp g3 rn3 ep3 rrs3⟩
   |true=>
    rw[hmd,if_pos rfl] at hwk
    exact iteF ⟨_,vs'++[v],dn++[(ev fs es[i] e nsi).1],_,rfl,g3,rn3,ep3,rrs3,by rw[hwk,xW];rfl,hfi.2 hmd,by simp[hdl]⟩
  ·obtain⟨o,vs',dn,nsi,rfl,g,rni,ep,rrs,hwk,hfi,hdl⟩:=h
   rw[hul,List.drop_length,evs,xB] at hwk
   rw[hwk] at q
   exact⟨_,rfl,q p vs' _ hp g rni ep rrs⟩
 ·refine .inr ⟨_,rfl,la,rfl,⟨us,sP.seqT hl⟩,zmA (xs:=us) (fun i σ' H'=>∃(o:Option V)(vs':List V)(dn:List R)(nsi:Ns),σ'=[some (.ref rp),some (.ref la),some (.ref bd),some (.ref p),o]/\G l H H'/\Rn K ARun fs rp l1 l H' nsi/\H' p=some (.lst vs')/\RRs K H' vs' dn/\evs fs es e ns=(dn++(evs fs (es.drop i) e nsi).1,(evs fs (es.drop i) e nsi).2)/\Fines fs (es.drop i) e nsi/\dn.length=i)
   ⟨none,[],[],ns,rfl,rn.g sP,rn.same sP,zc,RRs.nil,rfl,hf,rfl⟩ (fun i σ' H' _ h=>?_) (fun i x σ' H' hx h=>?_) (fun σ' H' h=>?_)⟩
  ·obtain⟨o,vs',dn,nsi,_,g,_⟩:=h
   exact g.sq hl
  ·obtain⟨o,vs',dn,nsi,rfl,g,rni,ep,rrs,hwk,hfi,hdl⟩:=h
   have hi:i<us.length:=(yC.mp hx).1
   have hie:i<es.length:=by lia
   have hy:es[i]?=some es[i]:=yA hie
   have hw':RW H x (es[i]).toW:=hw.at' i x _ hx (by rw[zeE,hy];rfl)
   have hhy:=zaD (yS hy)
   have hvl:=rrs.len
   rw[xM hie,zaY] at hwk
   rw[xM hie,Fines] at hfi
   refine⟨_,rfl,.inl ⟨rfl,_,Sl ep⟩,_,rfl,_,rfl,_,rfl,fs,rp,l1,l,x,bd,kvs,e,es[i],nsi,rfl,rni,hw'.mono g.ts,g.d hb,hk,g.env he,by lia,hfi.1,trivial,fun v H2 g2 rn2 rr=>?_⟩
   have ep2:=g2.k p _ n2.symm ep
   refine⟨p,vs',v,rfl,rfl,ep2,zaa (by lia),?_⟩
   have kb:Kb p H2 (upd H2 p (.lst (vs'++[v]))):=Kb.put
   have rr3:=kb.rr ep2 rr
   have rrs3:=(kb.rrs ep2 (g2.rrs rrs)).snoc rr3
   have g3:G l H (upd H2 p (.lst (vs'++[v]))):=⟨fun c o hc ec=>by rw[zm (zh ec hp)];exact g2.k _ _ hc (g.k _ _ hc ec),g.l⟩
   have rn3:=rn2.keep kb ep2 n1 n2
   have ep3:upd H2 p (.lst (vs'++[v])) p=some (.lst (vs'++[v])):=zc
   generalize upd H2 p (.lst (vs'++[v]))=H3 at rr3 rrs3 g3 rn3 ep3
   refine⟨_,rfl,_,rfl,p,vs'++[v],-1,v,rfl,rfl,Sl ep3,zd5 _ _,v,(ev fs es[i] e nsi).1,rfl,rr3,_,rfl,?_⟩
   cases hmd:(ev fs es[i] e nsi).1.res.isMade with
   |false=>
    rw[hmd,if_neg (by decide)] at hwk
    rw[hwk] at q
    exact iteT ⟨_,rfl,q p _ _ hp g3 rn3 ep3 rrs3⟩
   |true=>
    rw[hmd,if_pos rfl] at hwk
    exact iteF ⟨_,vs'++[v],dn++[(ev fs es[i] e nsi).1],_,rfl,g3,rn3,ep3,rrs3,by rw[hwk,xW];rfl,hfi.2 hmd,by simp[hdl]⟩
  ·obtain⟨o,vs',dn,nsi,rfl,g,rni,ep,rrs,hwk,hfi,hdl⟩:=h
   rw[hul,List.drop_length,evs,xB] at hwk
   rw[hwk] at q
   exact⟨_,rfl,q p vs' _ hp g rni ep rrs⟩
theorem zbc:FnScope ["run","expression","bound","records"] ["run","expression","bound"] (zg zaG):=mkSc rfl (by decide +kernel)
theorem zdC(F:Fun K "go_reckoned" "go_reckoned" zaG f fd)(G_reckoned:Have P w K mg base "reckoned" k ["word","worths"] (zjT K))(G_worth_of:Have P w K mg base "worth_of" k ["record"] (zae K))(G_is_made:Have P w K mg base "is_made" k ["record"] (zao K))(G_as_last:Have P w K mg base "as_last" k ["records"] (zaJ K))(G_go_through:Have P w K mg base "go_through" k ["run","expressions","bound"] (zhq K ARun n))(G_parts_of:Have P w K mg base "parts_of" k ["expression"] (zaX))(m_len:mg "len"=none)(m_tuple:mg "tuple"=none):FnOk P w K mg base CX0 (k+1) f fd ["run","expression","bound"] (spG K ARun (n+1) (fun x=>∃d es,x=.reck d es)):=by
 refine F.okQ zbc (by rintro _ _ _ _ ⟨_,_,_,_,_,_,_,_,_,_,rfl,_⟩;rfl) fun cdv A outer s H vs Q E hr h=>?_
 obtain⟨fs,rp,l1,l,u,bd,kvs,e,x,ns,rfl,rn,ru,hb,hk,he,hh,hf,⟨d,es,rfl⟩,q⟩:=h
 rw[Ex.toW] at ru
 rw[Ex.high] at hh
 rw[Fine] at hf
 obtain⟨hlen,hfs,hok⟩:=hf
 obtain⟨a,vs,rfl,ea,hw0⟩:=ru.tup
 obtain⟨u0,us,rfl,r0,hw⟩:=hw0.cons
 obtain rfl:=r0.str
 have hul:=hw.len
 rw[zap] at hul
 refine⟨_,(zd (zx (i:=3) zbc.nd rfl (Or.inl rfl) (zq G_go_through hr rfl (za (pv 0) (za (zq G_parts_of hr rfl (za (pv 1) zb)) (za (pv 2) zb)))))
  (zd (zD (PW.pt (ze3 (zw zcA (zk zB rfl m_len uO (za (pv 3) zb)) ze (nomark _)) (zcu (zT (zG (zq G_is_made hr rfl (za (zo zA (pv 3) (zd1 zcy ze) (fun _ _=>rfl)) zb))))))) (zf (zj (zq G_as_last hr rfl (za (pv 3) zb)))) zt)
  (zf (zj (zy (za (zq G_reckoned hr rfl (za (zo zr (pv 1) ze (fun _ _=>rfl)) (za (zY [] [] rfl rfl (by decide +kernel) rfl (by decide +kernel) rfl (by decide +kernel) trivial rfl trivial (zaq (pv 3)) (fun C s H fp=>⟨zW,(zq G_worth_of hr rfl (za (pv 0) zb))⟩)) zb))) (za (zM ZY rfl m_tuple zF (za (pv 3) zb)) zb))))))),?_⟩
 refine⟨_,rfl,_,rfl,a,wdS d,us,rfl,ea,by lia,fun la H1 s1 el hla=>⟨_,rfl,fs,rp,l1,l,la,bd,us,kvs,e,es,ns,rfl,rn.same s1,.inl ⟨Sl (el.trans (by rw[zng])),fun z=>zh rn.na hla z.symm⟩,hw.mono (zi s1),s1 _ _ hb,by lia,he.mono s1,by lia,hfs,hlen,fun p vs' H2 hp g2 rn2 ep rrs=>?_⟩⟩
 have g12:=(rn.g s1).trans g2
 have hvl:=rrs.len
 have hev:=zj6 (fs:=fs) (e:=e) (es:=es) (ns:=ns)
 refine⟨_,rfl,_,_,rfl,.inl ⟨_,Sl ep,rfl⟩,_,_,rfl,rfl,_,rfl,?_⟩
 have good:zaf (evs fs es e ns).1=true->tTup (zbe (ziU (zjT K) [] E0 (zbe (tOp (rIxT K) (tVar 1) (tC (.int 0))) (zbe (zb7 [] (ziH K (tVar 3)) (fun _ H Q=>Q true H) (ziU (zae K) [] E0 (zbe (tVar 0) tNil))) tNil))) (zbe (tCB (fun xs H Q=>∃p ys,xs=[.ref p]/\((SqL K H p ys/\∀l,H l=none->Q (.ref l) (upd H l (.tup ys)))\/(SqT K H p ys/\Q (.ref p) H))) (zbe (tVar 3) tNil)) tNil))
   [some (.ref rp),some (.ref a),some (.ref bd),some (.ref p)] H2 Q:=fun hall=>by
  obtain⟨ok,dep,l8,ar⟩:=hok hall
  refine⟨_,rfl,a,_,0,_,rfl,rfl,Sq (g12.t ea),zl (j:=0) rfl,_,rfl,p,rfl,⟨_,Sl ep⟩,?_⟩
  refine zj5 (K:=K) (vs:=vs') (fun i us H3=>us.length=i/\∀(j:Nat)(y:V)(r:R),us[j]?=some y->(evs fs es e ns).1[j]?=some r->RW H3 y r.worth) (Sl ep) (xP (zaa (by lia))) ⟨rfl,fun j y r h=>by simp at h⟩ (fun _ _ _ h=>h.1)
   (fun i v us H3 R hv hP sm r=>?_) (fun us H3 D hP sm hD=>?_)
  ·have hi:=(yC.mp hv).1
   have hi':i<(evs fs es e ns).1.length:=by lia
   have er:(evs fs es e ns).1[i]?=some (evs fs es e ns).1[i]:=yA hi'
   have hm:((evs fs es e ns).1[i]).res.isMade=true:=xQ.mp hall _ (yY hi')
   refine⟨_,rfl,v,(evs fs es e ns).1[i],_,rfl,(rrs.at' i v _ hv er).mono sm,zis hm,fun y ry=>?_⟩
   refine r y H3 (Sr _) ⟨by simp[hP.1],fun j z rj hz hrj=>?_⟩
   by_cases hj:j<us.length
   ·rw[yJ hj] at hz
    exact hP.2 j z rj hz hrj
   ·have hlt:=(yC.mp hz).1
    have ej:j=us.length:=by simp at hlt;lia
    subst ej
    obtain rfl:y=z:=by simpa using hz
    rw[hP.1,er] at hrj
    cases hrj
    exact ry
  ·have s3:=sm.trans (Sn (o:=.lst us) hD)
   have hP1:us.length=vs'.length:=hP.1
   refine⟨d,D,us,(evs fs es e ns).1.map R.worth,rfl,zc,⟨by rw[yB];lia,fun j y z hy hz=>?_⟩,ok,dep,by rw[yB];exact l8,by rw[yB];exact ar,fun uu H4 s4 rm=>?_⟩
   ·rw[yK] at hz
    obtain⟨r,hr,rfl⟩:=yW.mp hz
    exact (hP.2 j y r hy hr).mono (zi (Sn (o:=.lst us) hD))
   ·have s34:=s3.trans s4
    refine⟨_,rfl,p,vs',rfl,.inl ⟨Sl (s34 _ _ ep),fun t ht=>⟨zl2,fun a2 ha2=>?_⟩⟩⟩
    have s5:=Sn (o:=.tup vs') ht
    have s6:=Sn (o:=.tup [uu,.ref t]) ha2
    have s56:=s5.trans s6
    have hE:ev fs (.reck d es) e ns=(.mk (zch (recW d ((evs fs es e ns).1.map R.worth))) (evs fs es e ns).1,(evs fs es e ns).2):=by rw[ev,if_pos hall]
    rw[hE] at q
    exact q _ _ ((g12.same s34).same s56) ((rn2.same s34).same s56) ((rrs.mono (s34.trans s56)).rr zc ((rm.res (zlm _ _)).mono s56) (s6 _ _ zc))
 cases hrs:(evs fs es e ns).1.getLast? with
 |none=>
  have hnil:(evs fs es e ns).1=[]:=List.getLast?_eq_none_iff.mp hrs
  have hv0:vs'.length=0:=by rw[hvl,hnil];rfl
  rw[show decide ((0:Int)<((vs'.length:Nat):Int))=false from decide_eq_false (by lia)]
  exact iteF (iteF (good (by rw[hnil];rfl)))
 |some r=>
  obtain⟨v,ev1,hpos,rr⟩:=rrs.last hrs
  rw[show decide ((0:Int)<((vs'.length:Nat):Int))=true from decide_eq_true (by lia)]
  refine iteT ⟨_,rfl,_,rfl,p,vs',-1,v,rfl,rfl,Sl ep,zbH ev1 hpos,v,r,rfl,rr,_,rfl,?_⟩
  cases hm:r.res.isMade with
  |true=>
   refine iteF (good ?_)
   rw[←zeF hrs]
   exact hm
  |false=>
   have hE:ev fs (.reck d es) e ns=(.mk r.res (evs fs es e ns).1,(evs fs es e ns).2):=by rw[ev,if_neg (by rw[←zeF hrs,hm];decide),zln hrs]
   rw[hE] at q
   exact iteT ⟨_,rfl,p,vs',(evs fs es e ns).1,r,rfl,ep,rrs,hrs,fun v' H3 s3 rr3=>q _ _ (g12.same s3) (rn2.same s3) rr3⟩
theorem zj7{fs:List Res}{e:Env}{ns:Ns}(a:Ex):evs fs [a] e ns=([(ev fs a e ns).1],(ev fs a e ns).2):=by
 rw[evs]
 split
 ·rw[evs]
 ·rfl
noncomputable def kvsG(f1 f2 f3 f4 f5 f6 f7 f8 f9:Addr):List (Key×V):=[(.inr "lit",.ref f1),(.inr "var",.ref f2),(.inr "let",.ref f3),(.inr "if",.ref f4),(.inr "each",.ref f5),(.inr "over",.ref f6),(.inr "look",.ref f7),(.inr "else",.ref f8),(.inr "cry",.ref f9)]
noncomputable def e0:Env:=fun _=>none
def zj8(K:uZ)(AR:Addr):Sp:=fun vs H Q _=>∃(p dx fl:Addr)(us:List V),vs=[.ref p,.ref fl]/\H p=some (.ins AR dx [])/\SqL K H fl us/\∀l1 l2:Addr,H l1=none->H l2=none->l1≠l2->∀H':Hp,H' p=some (.ins AR dx (fR l1 l2))->H' l1=some (.lst us)->H' l2=some (.lst [])->(∀c o,c≠p->H c=some o->H' c=some o)->Q .non H'
def zj9(K:uZ):Sp:=fun vs H Q _=>∃(u:V)(fl:Addr)(us:List V)(fs:List Res)(x:Ex),vs=[u,.ref fl]/\RW H u x.toW/\SqL K H fl us/\us.length=fs.length/\fs.length<=1000/\(∀(i:Nat)(v:V)(r:Res),us[i]?=some v->fs[i]?=some r->RRes K H v r)/\x.high<=30/\Fine fs x e0 [] /\
 ((ev fs x e0 []).1.res=.stop->∀(a l:Addr)(H':Hp),Same H H'->H l=none->H' a=some (.tup [.str "look",.ref l])->H' l=some (.lst ((ev fs x e0 []).2.map V.str))->Q (.ref a) H') /\
 ((ev fs x e0 []).1.res≠.stop->∀(a l:Addr)(rv:V)(H':Hp),Same H H'->H l=none->H' a=some (.tup [.str "ended",.ref l,rv])->H' l=some (.lst ((ev fs x e0 []).2.map V.str))->RR K H' rv (ev fs x e0 []).1->Q (.ref a) H')
theorem RRes.ne_non{K:uZ}{H:Hp}{v:V}{r:Res}(n:r≠.stop)(h:RRes K H v r):decide (v=V.non)=false:=by
 obtain⟨a,us,rfl,_⟩:=h.word n
 rfl
theorem zfI:FnScope ["run","expression","bound"] ["run","expression","bound"] (zg zbm):=mkSc rfl (by decide +kernel)
theorem zfJ(F:Fun K "record_of" "record_of" zbm f fd)(G_go_reckoned:Have P w K mg base "go_reckoned" k ["run","expression","bound"] (spG K ARun (n+1) (fun x=>∃d es,x=.reck d es))){g_GOING f1 f2 f3 f4 f5 f6 f7 f8 f9:Addr}(m_GOING:mg "GOING"=some (.ref g_GOING))(d_GOING:MD P w K g_GOING (kvsG f1 f2 f3 f4 f5 f6 f7 f8 f9))(c1:Zm P w K mg base f1 k ["run","expression","bound"] (spG K ARun (n+1) (fun x=>∃y,x=.lit y)))(c2:Zm P w K mg base f2 k ["run","expression","bound"] (spG K ARun (n+1) (fun x=>∃s,x=.var s)))(c3:Zm P w K mg base f3 k ["run","expression","bound"] (spG K ARun (n+1) (fun x=>∃s a b,x=.letE s a b)))(c4:Zm P w K mg base f4 k ["run","expression","bound"] (spG K ARun (n+1) (fun x=>∃a b c,x=.ifE a b c)))(c7:Zm P w K mg base f7 k ["run","expression","bound"] (spG K ARun (n+1) (fun x=>∃a,x=.lookE a)))(c8:Zm P w K mg base f8 k ["run","expression","bound"] (spG K ARun (n+1) (fun x=>∃a b,x=.elseE a b)))(c9:Zm P w K mg base f9 k ["run","expression","bound"] (spG K ARun (n+1) (fun x=>∃a,x=.cryE a))):FnOk P w K mg base CX0 (k+1) f fd ["run","expression","bound"] (spG K ARun (n+1) (fun _=>True)):=by
 refine F.okQ zfI (by rintro _ _ _ _ ⟨_,_,_,_,_,_,_,_,_,_,rfl,_⟩;rfl) fun cdv A outer s H vs Q E hr h=>?_
 obtain⟨fs,rp,l1,l,u,bd,kvs,e,x,ns,rfl,rn,ru,hb,hk,he,hh,hf,_,q⟩:=h
 refine⟨_,(zd (zD (zw zmf (zo zr (pv 1) ze (fun _ _=>rfl)) (zQ (v:=.ref g_GOING) rfl m_GOING rfl) (by rfl)) (zf (zj (zbD hr (zo zhj (zQ (v:=.ref g_GOING) rfl m_GOING rfl) (zo zr (pv 1) ze (fun _ _=>rfl)) (fun _ _=>rfl)) (za (pv 0) (za (pv 1) (za (pv 2) zb)))))) zt)
  (zf (zj (zq G_go_reckoned hr rfl (za (pv 0) (za (pv 1) (za (pv 2) zb))))))),?_⟩
 have go:∀(s:Str)(ws:List W),x.toW=.lst (.txt s::ws)->∃(a:Addr)(us:List V),u=.ref a/\H a=some (.tup (.str s::us)):=fun s ws hx=>by
  rw[hx] at ru
  obtain⟨a,vs,rfl,ea,hw0⟩:=ru.tup
  obtain⟨u0,us,rfl,r0,_⟩:=hw0.cons
  obtain rfl:=r0.str
  exact⟨a,us,rfl,ea⟩
 cases x with
 |lit y=>
  obtain⟨a,us,rfl,ea⟩:=go "lit" _ (by rw[Ex.toW])
  refine⟨_,rfl,a,_,0,_,rfl,rfl,Sq ea,zl (j:=0) rfl,g_GOING,_,.inr "lit",rfl,rfl,d_GOING,_,rfl,iteT ?_⟩
  refine⟨_,rfl,a,_,0,_,rfl,rfl,Sq ea,zl (j:=0) rfl,g_GOING,_,.inr "lit",.ref f1,rfl,rfl,d_GOING,rfl,f1,_,_,rfl,c1,_,rfl,_,rfl,_,rfl,?_⟩
  exact⟨fs,rp,l1,l,_,bd,kvs,e,_,ns,rfl,rn,ru,hb,hk,he,hh,hf,⟨_,rfl⟩,q⟩
 |var z=>
  obtain⟨a,us,rfl,ea⟩:=go "var" _ (by rw[Ex.toW])
  refine⟨_,rfl,a,_,0,_,rfl,rfl,Sq ea,zl (j:=0) rfl,g_GOING,_,.inr "var",rfl,rfl,d_GOING,_,rfl,iteT ?_⟩
  refine⟨_,rfl,a,_,0,_,rfl,rfl,Sq ea,zl (j:=0) rfl,g_GOING,_,.inr "var",.ref f2,rfl,rfl,d_GOING,rfl,f2,_,_,rfl,c2,_,rfl,_,rfl,_,rfl,?_⟩
  exact⟨fs,rp,l1,l,_,bd,kvs,e,_,ns,rfl,rn,ru,hb,hk,he,hh,hf,⟨_,rfl⟩,q⟩
 |letE z a1 b1=>
  obtain⟨a,us,rfl,ea⟩:=go "let" _ (by rw[Ex.toW])
  refine⟨_,rfl,a,_,0,_,rfl,rfl,Sq ea,zl (j:=0) rfl,g_GOING,_,.inr "let",rfl,rfl,d_GOING,_,rfl,iteT ?_⟩
  refine⟨_,rfl,a,_,0,_,rfl,rfl,Sq ea,zl (j:=0) rfl,g_GOING,_,.inr "let",.ref f3,rfl,rfl,d_GOING,rfl,f3,_,_,rfl,c3,_,rfl,_,rfl,_,rfl,?_⟩
  exact⟨fs,rp,l1,l,_,bd,kvs,e,_,ns,rfl,rn,ru,hb,hk,he,hh,hf,⟨_,_,_,rfl⟩,q⟩
 |ifE a1 b1 c1'=>
  obtain⟨a,us,rfl,ea⟩:=go "if" _ (by rw[Ex.toW])
  refine⟨_,rfl,a,_,0,_,rfl,rfl,Sq ea,zl (j:=0) rfl,g_GOING,_,.inr "if",rfl,rfl,d_GOING,_,rfl,iteT ?_⟩
  refine⟨_,rfl,a,_,0,_,rfl,rfl,Sq ea,zl (j:=0) rfl,g_GOING,_,.inr "if",.ref f4,rfl,rfl,d_GOING,rfl,f4,_,_,rfl,c4,_,rfl,_,rfl,_,rfl,?_⟩
  exact⟨fs,rp,l1,l,_,bd,kvs,e,_,ns,rfl,rn,ru,hb,hk,he,hh,hf,⟨_,_,_,rfl⟩,q⟩
 |elseE a1 b1=>
  obtain⟨a,us,rfl,ea⟩:=go "else" _ (by rw[Ex.toW])
  refine⟨_,rfl,a,_,0,_,rfl,rfl,Sq ea,zl (j:=0) rfl,g_GOING,_,.inr "else",rfl,rfl,d_GOING,_,rfl,iteT ?_⟩
  refine⟨_,rfl,a,_,0,_,rfl,rfl,Sq ea,zl (j:=0) rfl,g_GOING,_,.inr "else",.ref f8,rfl,rfl,d_GOING,rfl,f8,_,_,rfl,c8,_,rfl,_,rfl,_,rfl,?_⟩
  exact⟨fs,rp,l1,l,_,bd,kvs,e,_,ns,rfl,rn,ru,hb,hk,he,hh,hf,⟨_,_,rfl⟩,q⟩
 |cryE a1=>
  obtain⟨a,us,rfl,ea⟩:=go "cry" _ (by rw[Ex.toW])
  refine⟨_,rfl,a,_,0,_,rfl,rfl,Sq ea,zl (j:=0) rfl,g_GOING,_,.inr "cry",rfl,rfl,d_GOING,_,rfl,iteT ?_⟩
  refine⟨_,rfl,a,_,0,_,rfl,rfl,Sq ea,zl (j:=0) rfl,g_GOING,_,.inr "cry",.ref f9,rfl,rfl,d_GOING,rfl,f9,_,_,rfl,c9,_,rfl,_,rfl,_,rfl,?_⟩
  exact⟨fs,rp,l1,l,_,bd,kvs,e,_,ns,rfl,rn,ru,hb,hk,he,hh,hf,⟨_,rfl⟩,q⟩
 |lookE a1=>
  obtain⟨a,us,rfl,ea⟩:=go "look" _ (by rw[Ex.toW])
  refine⟨_,rfl,a,_,0,_,rfl,rfl,Sq ea,zl (j:=0) rfl,g_GOING,_,.inr "look",rfl,rfl,d_GOING,_,rfl,iteT ?_⟩
  refine⟨_,rfl,a,_,0,_,rfl,rfl,Sq ea,zl (j:=0) rfl,g_GOING,_,.inr "look",.ref f7,rfl,rfl,d_GOING,rfl,f7,_,_,rfl,c7,_,rfl,_,rfl,_,rfl,?_⟩
  exact⟨fs,rp,l1,l,_,bd,kvs,e,_,ns,rfl,rn,ru,hb,hk,he,hh,hf,⟨_,rfl⟩,q⟩
 |reck d es=>
  obtain⟨a,us,rfl,ea⟩:=go (wdS d) _ (by rw[Ex.toW])
  refine⟨_,rfl,a,_,0,_,rfl,rfl,Sq ea,zl (j:=0) rfl,g_GOING,_,.inr (wdS d),rfl,rfl,d_GOING,_,rfl,?_⟩
  rw[show valV (kvsG f1 f2 f3 f4 f5 f6 f7 f8 f9) (.inr (wdS d))=none by cases d<;>rfl]
  exact iteF ⟨_,rfl,_,rfl,_,rfl,fs,rp,l1,l,_,bd,kvs,e,_,ns,rfl,rn,ru,hb,hk,he,hh,hf,⟨_,_,rfl⟩,q⟩
theorem zdd:FnScope ["self","founds"] ["self","founds"] (zg Zg):=mkSc rfl (by decide +kernel)
theorem zde(F:Fun K "__init__" "Run.__init__" Zg f fd)(m_list:mg "list"=none)(clR:Cls K ARun)(nF:zH K ARun "founds")(nN:zH K ARun "names"):FnOk P w K mg base CX0 (k+1) f fd ["self","founds"] (zj8 K ARun):=by
 refine F.okQ zdd (by rintro _ _ _ _ ⟨_,_,_,_,rfl,_⟩;rfl) fun cdv A outer s H vs Q E hr h=>?_
 obtain⟨p,dx,fl,us,rfl,hp,hfl,q⟩:=h
 refine⟨_,(zd (ZK (pv 0) (zM zam rfl m_list zaC (za (pv 1) zb)) rfl)
  (zf (ZK (pv 0) (zS zb) rfl))),?_⟩
 refine⟨_,rfl,fl,us,rfl,.inl hfl,fun l1 hl1=>?_⟩
 have n1:p≠l1:=zh hp hl1
 refine⟨_,rfl,p,ARun,dx,[],rfl,(by rw[zm n1];exact hp),clR,nF,(by show 0<1000;decide),zl0,fun l2 hl2=>?_⟩
 have n2:p≠l2:=by
  intro z
  rw[←z,zc] at hl2
  cases hl2
 have n12:l1≠l2:=by
  intro z
  rw[←z,zm n1.symm,zc] at hl2
  cases hl2
 have hl20:H l2=none:=by
  rw[zm n2.symm,zm n12.symm] at hl2
  exact hl2
 refine⟨_,rfl,p,ARun,dx,_,rfl,(by rw[zm n2,zc]),clR,nN,(by show 1<1000;decide),?_⟩
 refine q l1 l2 hl1 hl20 n12 _ zc (by rw[zm n1.symm,zm n12,zm n1.symm,zc]) (by rw[zm n2.symm,zc]) fun c o hc e=>?_
 rw[zm hc,zm (zh e hl20),zm hc,zm (zh e hl1)]
 exact e
theorem zgG:FnScope ["rule","founds","run","record"] ["rule","founds"] (zg zjj):=mkSc rfl (by decide +kernel)
theorem zni(F:Fun K "gone" "gone" zjj f fd)(G_record_of:Have P w K mg base "record_of" k ["run","expression","bound"] (spG K ARun 30 (fun _=>True)))(G_Run___init__:zce P w K mg base ARun "Run" k ["self","founds"] (zj8 K ARun))(m_list:mg "list"=none)(clR:Cls K ARun)(nN:zH K ARun "names"):FnOk P w K mg base CX0 (k+1) f fd ["rule","founds"] (zj9 K):=by
 refine F.okQ zgG (by rintro _ _ _ _ ⟨_,_,_,_,_,rfl,_⟩;rfl) fun cdv A outer s H vs Q E hr h=>?_
 obtain⟨u,fl,us,fs,x,rfl,ru,hfl,hlen,few,hres,hh,hf,q1,q2⟩:=h
 refine⟨_,(zd (zx (i:=2) zgG.nd rfl (Or.inl rfl) (zfq G_Run___init__ hr rfl (za (pv 1) zb)))
  (zd (zx (i:=3) zgG.nd rfl (Or.inl rfl) (zq G_record_of hr rfl (za (pv 2) (za (pv 0) (za zd3 zb)))))
  (zd (zD (zbs (zcs (zo zr (pv 3) ze (fun _ _=>rfl)))) (zf (zj (zy (za zu (za (zM zam rfl m_list zaC (za (zI (pv 2) rfl) zb)) zb))))) zt)
  (zf (zj (zy (za zu (za (zM zam rfl m_list zaC (za (zI (pv 2) rfl) zb)) (za (pv 3) zb))))))))),?_⟩
 refine⟨_,rfl,fun p dx np ndx nxp=>?_⟩
 have s1:Same H (upd (upd H dx (.own p)) p (.ins ARun dx [])):=fun c o e=>by
  rw[zm (zh e np),zm (zh e ndx)]
  exact e
 refine⟨p,dx,fl,us,rfl,zc,s1.seq hfl,fun l1 l2 hl1 hl2 n12 H2 hp2 el1 el2 kp=>⟨rfl,?_⟩⟩
 have s2:Same H H2:=fun c o e=>kp c o (zh e np) (s1 c o e)
 have rn2:Rn K ARun fs p l1 l2 H2 []:=⟨⟨dx,hp2⟩,⟨us,el1,hlen,fun i v r a b=>(hres i v r a b).mono s2⟩,el2,n12,few⟩
 have hl20:H l2=none:=s1.free hl2
 refine⟨_,rfl,_,rfl,fun d hd=>?_⟩
 have s3:=Sn (o:=.dK []) hd
 have s23:=s2.trans s3
 refine⟨fs,p,l1,l2,u,d,[],e0,x,[],rfl,rn2.same s3,ru.mono (zi s23),zc,by decide,(fun s x hx=>by cases hx),hh,hf,trivial,fun rv H4 g4 rn4 rr=>?_⟩
 have s4:Same H H4:=fun c o e=>g4.k c o (zh e hl20) (s23 c o e)
 obtain⟨dx4,hp4⟩:=rn4.ins
 have na:=rn4.na
 obtain⟨a,b,rv0,rfl,ea,rres⟩:=rr.res
 refine⟨_,rfl,a,_,0,_,rfl,rfl,Sq ea,rfl,_,rfl,?_⟩
 by_cases hst:(ev fs x e0 []).1.res=.stop
 ·rw[hst] at rres
  obtain rfl:rv0=.non:=rres
  refine iteT ⟨_,rfl,p,ARun,dx4,_,_,rfl,hp4,clR,nN,zbI _ _,l2,_,rfl,.inl (Sl na),fun l3 hl3=>?_⟩
  have s5:=Sn (o:=.lst ((ev fs x e0 []).2.map V.str)) hl3
  refine⟨zl2,fun a6 ha6=>?_⟩
  have s6:=Sn (o:=.tup [.str "look",.ref l3]) ha6
  exact q1 hst a6 l3 _ ((s4.trans s5).trans s6) (s4.free hl3) zc (s6 _ _ zc)
 ·rw[rres.ne_non hst]
  refine iteF ⟨_,rfl,p,ARun,dx4,_,_,rfl,hp4,clR,nN,zbI _ _,l2,_,rfl,.inl (Sl na),fun l3 hl3=>?_⟩
  have s5:=Sn (o:=.lst ((ev fs x e0 []).2.map V.str)) hl3
  refine⟨_,rfl,zl3,fun a6 ha6=>?_⟩
  have s6:=Sn (o:=.tup [.str "ended",.ref l3,.ref a]) ha6
  exact q2 hst a6 l3 _ _ ((s4.trans s5).trans s6) (s4.free hl3) zc (s6 _ _ zc) (rr.mono (s5.trans s6))
structure Cs{α:Type}(st:α->Prop)(C:List Res->Ns->α×Ns)(fs:List Res)(ns:Ns):Prop where
 ge:ns <+: (C fs ns).2
 s1:st (C fs ns).1->(C fs ns).2.length=fs.length+1
 s0:¬st (C fs ns).1->(C fs ns).2.length<=fs.length
 c1:∀j,ns.length<=j->j<fs.length->(C fs ns).2.length<=j->C (fs.take j) ns=C fs ns
 c2:∀j,ns.length<=j->j<fs.length->j<(C fs ns).2.length->st (C (fs.take j) ns).1/\(C (fs.take j) ns).2=(C fs ns).2.take (j+1)
section
variable{α β:Type}{sa:α->Prop}{sb:β->Prop}{fs:List Res}{ns:Ns}
theorem Cs.pure{a:α}(h:¬sa a)(hn:ns.length<=fs.length):Cs sa (fun _ ns=>(a,ns)) fs ns:=
 ⟨vJ _,fun z=>absurd z h,fun _=>hn,fun _ _ _ _=>rfl,fun j h1 _ h3=>absurd h3 (by show ¬j<ns.length;lia)⟩
theorem zlo{a b:Ns}(h:a <+: b){j:Nat}(hj:j<=a.length):b.take j=a.take j:=by
 obtain⟨t,rfl⟩:=h
 exact List.take_append_of_le_length hj
theorem Cs.bind{A:List Res->Ns->α×Ns}{B:List Res->Ns->β×Ns}{D:List Res->Ns->β×Ns}(hA:Cs sa A fs ns)
  (hs:∀gs,sa (A gs ns).1->sb (D gs ns).1/\(D gs ns).2=(A gs ns).2)
  (hg:∀gs,(A gs ns)=(A fs ns)->¬sa (A fs ns).1->D gs ns=B gs (A fs ns).2)
  (hB:¬sa (A fs ns).1->Cs sb B fs (A fs ns).2):Cs sb D fs ns:=by
 by_cases h:sa (A fs ns).1
 ·obtain⟨d1,d2⟩:=hs fs h
  have l1:=hA.s1 h
  refine⟨by rw[d2];exact hA.ge,fun _=>by rw[d2];exact l1,fun z=>absurd d1 z,fun j _ h2 h3=>?_,fun j h1 h2 h3=>?_⟩
  ·rw[d2] at h3;lia
  ·obtain⟨i1,i2⟩:=hA.c2 j h1 h2 (by lia)
   obtain⟨e1,e2⟩:=hs (fs.take j) i1
   exact⟨e1,by rw[e2,i2,d2]⟩
 ·have hb:=hB h
  have e:=hg fs rfl h
  refine⟨by rw[e];exact hA.ge.trans hb.ge,fun z=>by rw[e] at z ⊢;exact hb.s1 z,fun z=>by rw[e] at z ⊢;exact hb.s0 z,fun j h1 h2 h3=>?_,fun j h1 h2 h3=>?_⟩
  ·rw[e] at h3 ⊢
   have hle:(A fs ns).2.length<=j:=yM hb.ge.length_le h3
   have eA:=hA.c1 j h1 h2 hle
   rw[hg (fs.take j) eA h]
   exact hb.c1 j hle h2 h3
  ·rw[e] at h3 ⊢
   by_cases hle:(A fs ns).2.length<=j
   ·have eA:=hA.c1 j h1 h2 hle
    rw[hg (fs.take j) eA h]
    exact hb.c2 j hle h2 h3
   ·obtain⟨i1,i2⟩:=hA.c2 j h1 h2 (by lia)
    obtain⟨e1,e2⟩:=hs (fs.take j) i1
    refine⟨e1,?_⟩
    rw[e2,i2,zlo hb.ge (by lia)]
theorem Cs.map{A:List Res->Ns->α×Ns}{D:List Res->Ns->β×Ns}(hA:Cs sa A fs ns)(hd:∀gs,∃b,D gs ns=(b,(A gs ns).2)/\(sb b ↔ sa (A gs ns).1))(he:∀gs,A gs ns=A fs ns->D gs ns=D fs ns):Cs sb D fs ns:=by
 obtain⟨b,eb,ib⟩:=hd fs
 refine⟨by rw[eb];exact hA.ge,fun z=>by rw[eb] at z ⊢;exact hA.s1 (ib.mp z),fun z=>by rw[eb] at z ⊢;exact hA.s0 (fun y=>z (ib.mpr y)),fun j h1 h2 h3=>?_,fun j h1 h2 h3=>?_⟩
 ·rw[eb] at h3
  exact he _ (hA.c1 j h1 h2 h3)
 ·rw[eb] at h3
  obtain⟨i1,i2⟩:=hA.c2 j h1 h2 h3
  obtain⟨b',eb',ib'⟩:=hd (fs.take j)
  rw[eb',eb]
  exact⟨ib'.mpr i1,i2⟩
end
def stR(r:R):Prop:=r.res=.stop
noncomputable def r00:R:=.mk (.made (.num 0)) []
def stL(l:List R):Prop:=(zci l r00).res=.stop
theorem zgH(x:R)(l:List R)(d:R):zci (x::l) d=zci l x:=by
 unfold zci
 cases l with
 |nil=>rfl
 |cons y ys=>
  rw[vI]
  cases hq:(y::ys).getLast? with
  |none=>simp at hq
  |some r=>rfl
theorem zeH{x:R}{l:List R}(h:x.res≠.stop):stL (x::l) ↔ stL l:=by
 unfold stL
 rw[zgH]
 unfold zci
 cases l with
 |nil=>exact⟨fun z=>absurd z h,fun z=>nomatch z⟩
 |cons y ys=>
  cases hq:(y::ys).getLast? with
  |none=>simp at hq
  |some r=>exact Iff.rfl
theorem znj{x:R}:stL [x] ↔ x.res=.stop:=Iff.rfl
theorem zb8{l:List R}(h:zaf l=true):¬stL l:=by
 unfold stL zci
 cases hq:l.getLast? with
 |none=>exact fun z=>nomatch z
 |some r=>
  have:=(xQ.mp h) r (vW hq)
  intro z
  have z:r.res=.stop:=z
  rw[z] at this
  cases this
theorem zlp(w:W):zch w≠.stop:=by
 unfold zch
 split<;>exact fun z=>nomatch z
section
variable{fs:List Res}(ok:∀r∈fs,r≠Res.stop)
theorem zlq{n:Nat}(ok:∀r∈fs,r≠Res.stop)(h:n<fs.length):found fs n≠.stop:=by
 unfold found
 rw[yA h]
 exact ok _ (yY h)
theorem zdU{n:Nat}(h:fs.length<=n):found fs n=.stop:=by
 unfold found
 rw[xH h]
 rfl
theorem zlr{n j:Nat}(h:n<j):found (fs.take j) n=found fs n:=by
 unfold found
 rw[xY h]
theorem znk(ok:∀r∈fs,r≠Res.stop){ns:Ns}(hn:ns.length<=fs.length)(s:Str)(g:Res->R)(hg:∀r,(g r).res=r):Cs stR (fun fs ns=>(g (found fs ns.length),ns++[s])) fs ns:=by
 have hl:(ns++[s]).length=ns.length+1:=by rw[yE];rfl
 refine⟨List.prefix_append _ _,fun z=>?_,fun z=>?_,fun j h1 h2 h3=>?_,fun j h1 h2 h3=>?_⟩
 ·have z:found fs ns.length=.stop:=(hg _).symm.trans z
  by_cases h:ns.length<fs.length
  ·exact absurd z (zlq ok h)
  ·show (ns++[s]).length=_
   lia
 ·show (ns++[s]).length<=_
  by_cases h:ns.length<fs.length
  ·lia
  ·exact absurd ((hg _).trans (zdU (by lia))) z
 ·have h3:(ns++[s]).length<=j:=h3
  show (g (found (fs.take j) ns.length),ns++[s])=_
  rw[zlr (by lia)]
 ·have h3:j<(ns++[s]).length:=h3
  have:j=ns.length:=by lia
  subst this
  refine⟨(hg _).trans (zdU (by rw[yU];lia)),?_⟩
  show ns++[s]=(ns++[s]).take (ns.length+1)
  rw[←hl,vG]
end
noncomputable def Res.isStop:Res->Bool
 |.stop=>true
 |_=>false
theorem znl{r:Res}(h:r≠.stop):r.isStop=false:=by
 cases r with
 |stop=>exact absurd rfl h
 |made _=>rfl
 |wrong _=>rfl
section
variable{fs:List Res}
theorem Zf(r:Res):r=.stop\/(∃x,r=.made x)\/∃w,r=.wrong w:=by
 cases r with
 |made x=>exact .inr (.inl ⟨x,rfl⟩)
 |wrong w=>exact .inr (.inr ⟨w,rfl⟩)
 |stop=>exact .inl rfl
theorem Cs.then{e:Env}{a:Ex}{ns:Ns}{B:R->List Res->Ns->R×Ns}{D:List Res->Ns->R×Ns}(hA:Cs stR (fun fs ns=>ev fs a e ns) fs ns)(hD:∀gs,D gs ns=if (ev gs a e ns).1.res.isStop then (.mk .stop [(ev gs a e ns).1],(ev gs a e ns).2) else B (ev gs a e ns).1 gs (ev gs a e ns).2)
  (hB:(ev fs a e ns).1.res≠.stop->Cs stR (B (ev fs a e ns).1) fs (ev fs a e ns).2):Cs stR D fs ns:=by
 refine Cs.bind (B:=B (ev fs a e ns).1) hA (fun gs h=>?_) (fun gs e1 h=>?_) hB
 ·have h:(ev gs a e ns).1.res=.stop:=h
  rw[hD gs,if_pos (by rw[h];rfl)]
  exact⟨rfl,rfl⟩
 ·have h:¬(ev fs a e ns).1.res=.stop:=h
  have e1:ev gs a e ns=ev fs a e ns:=e1
  rw[hD gs,e1,if_neg (by rw[znl h];decide)]
theorem ZW{r:R}{ns:Ns}(h:r.res≠.stop)(hn:ns.length<=fs.length):Cs stR (fun _ ns=>(r,ns)) fs ns:=Cs.pure h hn
theorem zeI{e:Env}{b:Ex}{ns:Ns}(hB:Cs stR (fun fs ns=>ev fs b e ns) fs ns)(p:R->List R):Cs stR (fun fs ns=>(.mk (ev fs b e ns).1.res (p (ev fs b e ns).1),(ev fs b e ns).2)) fs ns:=
 Cs.map hB (fun gs=>⟨_,rfl,Iff.rfl⟩) fun gs h=>by
  have h:ev gs b e ns=ev fs b e ns:=h
  show (R.mk (ev gs b e ns).1.res (p (ev gs b e ns).1),(ev gs b e ns).2)=_
  rw[h]
end
section
variable{fs:List Res}
theorem zmm{e:Env}:∀{es:List Ex}{ns:Ns},(∀x∈es,∀ns:Ns,ns.length<=fs.length->Cs stR (fun fs ns=>ev fs x e ns) fs ns)->ns.length<=fs.length->Cs stL (fun fs ns=>evs fs es e ns) fs ns
 |[],ns,_,hn=>by
  have:(fun (fs:List Res)(ns:Ns)=>evs fs [] e ns)=fun _ ns=>([],ns):=by funext fs ns;rw[evs]
  rw[this]
  exact Cs.pure (fun z=>nomatch z) hn
 |x::xs,ns,h,hn=>by
  have hA:=h x xG ns hn
  refine Cs.bind (B:=fun gs m=>if (ev fs x e ns).1.res.isMade then ((ev fs x e ns).1::(evs gs xs e m).1,(evs gs xs e m).2) else ([(ev fs x e ns).1],m)) hA (fun gs z=>?_) (fun gs e1 z=>?_) (fun z=>?_)
  ·have z:(ev gs x e ns).1.res=.stop:=z
   show stL (evs gs (x::xs) e ns).1/\(evs gs (x::xs) e ns).2=_
   rw[zaY,if_neg (by rw[z];decide)]
   exact⟨z,rfl⟩
  ·have e1:ev gs x e ns=ev fs x e ns:=e1
   show evs gs (x::xs) e ns=_
   rw[zaY,e1]
  ·have z:(ev fs x e ns).1.res≠.stop:=z
   have hle:=hA.s0 z
   cases hm:(ev fs x e ns).1.res.isMade with
   |true=>
    have ih:=zmm (es:=xs) (ns:=(ev fs x e ns).2) (fun y hy=>h y (yX _ hy)) hle
    refine Cs.map ih (fun gs=>⟨(ev fs x e ns).1::(evs gs xs e (ev fs x e ns).2).1,rfl,zeH z⟩) fun gs h=>?_
    have h:evs gs xs e (ev fs x e ns).2=evs fs xs e (ev fs x e ns).2:=h
    show (_::(evs gs xs e (ev fs x e ns).2).1,(evs gs xs e (ev fs x e ns).2).2)=(_::(evs fs xs e (ev fs x e ns).2).1,(evs fs xs e (ev fs x e ns).2).2)
    rw[h]
   |false=>exact Cs.pure z hle
mutual
theorem csE(ok:∀r∈fs,r≠Res.stop):∀(x:Ex)(e:Env)(ns:Ns),ns.length<=fs.length->Cs stR (fun fs ns=>ev fs x e ns) fs ns
 |.lit x,e,ns,hn=>by
  have:(fun (fs:List Res)(ns:Ns)=>ev fs (.lit x) e ns)=fun _ ns=>(.mk (.made x) [],ns):=by funext fs ns;rw[ev]
  rw[this]
  exact ZW (fun z=>nomatch z) hn
 |.var s,e,ns,hn=>by
  have:(fun (fs:List Res)(ns:Ns)=>ev fs (.var s) e ns)=fun _ ns=>(.mk (.made ((e s).getD (.num 0))) [],ns):=by funext fs ns;rw[ev]
  rw[this]
  exact ZW (fun z=>nomatch z) hn
 |.letE s a b,e,ns,hn=>by
  have hA:=csE ok a e ns hn
  refine hA.then (B:=fun r gs m=>match r.res with|.made x=>(.mk (ev gs b (put e s x) m).1.res [r,(ev gs b (put e s x) m).1],(ev gs b (put e s x) m).2)|q=>(.mk q [r],m)) (fun gs=>?_) (fun z=>?_)
  ·show ev gs (.letE s a b) e ns=_
   rw[ev]
   rcases Zf (ev gs a e ns).1.res with h|⟨x,h⟩|⟨w,h⟩<;>rw[h]<;>rfl
  ·have hle:=hA.s0 z
   rcases Zf (ev fs a e ns).1.res with h|⟨x,h⟩|⟨w,h⟩
   ·exact absurd h z
   ·rw[h]
    exact zeI (csE ok b (put e s x) _ hle) (fun q=>[(ev fs a e ns).1,q])
   ·rw[h]
    exact ZW (fun z=>nomatch z) hle
 |.ifE a b c,e,ns,hn=>by
  have hA:=csE ok a e ns hn
  refine hA.then (B:=fun r gs m=>match r.res with
   |.made (.num i)=>if i=0 then (.mk (ev gs c e m).1.res [r,(ev gs c e m).1],(ev gs c e m).2) else (.mk (ev gs b e m).1.res [r,(ev gs b e m).1],(ev gs b e m).2)
   |.made _=>(.mk (.wrong [.txt "kind",.txt ""]) [r],m)
   |q=>(.mk q [r],m)) (fun gs=>?_) (fun z=>?_)
  ·show ev gs (.ifE a b c) e ns=_
   rw[ev]
   rcases Zf (ev gs a e ns).1.res with h|⟨x,h⟩|⟨w,h⟩
   ·rw[h];rfl
   ·rw[h];cases x<;>rfl
   ·rw[h];rfl
  ·have hle:=hA.s0 z
   rcases Zf (ev fs a e ns).1.res with h|⟨x,h⟩|⟨w,h⟩
   ·exact absurd h z
   ·rw[h]
    cases x with
    |num i=>
     by_cases hi:i=0
     ·simp only[hi,if_true]
      exact zeI (csE ok c e _ hle) (fun q=>[(ev fs a e ns).1,q])
     ·simp only[hi,if_false]
      exact zeI (csE ok b e _ hle) (fun q=>[(ev fs a e ns).1,q])
    |txt s=>exact ZW (fun z=>nomatch z) hle
    |lst ws=>exact ZW (fun z=>nomatch z) hle
   ·rw[h]
    exact ZW (fun z=>nomatch z) hle
 |.elseE a b,e,ns,hn=>by
  have hA:=csE ok a e ns hn
  refine hA.then (B:=fun r gs m=>match r.res with|.wrong _=>(.mk (ev gs b e m).1.res [r,(ev gs b e m).1],(ev gs b e m).2)|q=>(.mk q [r],m)) (fun gs=>?_) (fun z=>?_)
  ·show ev gs (.elseE a b) e ns=_
   rw[ev]
   rcases Zf (ev gs a e ns).1.res with h|⟨x,h⟩|⟨w,h⟩<;>rw[h]<;>rfl
  ·have hle:=hA.s0 z
   rcases Zf (ev fs a e ns).1.res with h|⟨x,h⟩|⟨w,h⟩
   ·exact absurd h z
   ·rw[h]
    exact ZW (fun z=>nomatch z) hle
   ·rw[h]
    exact zeI (csE ok b e _ hle) (fun q=>[(ev fs a e ns).1,q])
 |.cryE a,e,ns,hn=>by
  have hA:=csE ok a e ns hn
  refine hA.then (B:=fun r gs m=>match r.res with|.made x=>(.mk (.wrong [.txt "cried",x]) [r],m)|q=>(.mk q [r],m)) (fun gs=>?_) (fun z=>?_)
  ·show ev gs (.cryE a) e ns=_
   rw[ev]
   rcases Zf (ev gs a e ns).1.res with h|⟨x,h⟩|⟨w,h⟩<;>rw[h]<;>rfl
  ·have hle:=hA.s0 z
   rcases Zf (ev fs a e ns).1.res with h|⟨x,h⟩|⟨w,h⟩
   ·exact absurd h z
   ·rw[h]
    exact ZW (fun z=>nomatch z) hle
   ·rw[h]
    exact ZW (fun z=>nomatch z) hle
 |.lookE a,e,ns,hn=>by
  have hA:=csE ok a e ns hn
  refine hA.then (B:=fun r gs m=>match r.res with
   |.made (.txt s)=>(.mk (found gs m.length) [r],m++[s])
   |.made _=>(.mk (.wrong [.txt "kind",.txt ""]) [r],m)
   |q=>(.mk q [r],m)) (fun gs=>?_) (fun z=>?_)
  ·show ev gs (.lookE a) e ns=_
   rw[ev]
   rcases Zf (ev gs a e ns).1.res with h|⟨x,h⟩|⟨w,h⟩
   ·rw[h];rfl
   ·rw[h];cases x<;>rfl
   ·rw[h];rfl
  ·have hle:=hA.s0 z
   rcases Zf (ev fs a e ns).1.res with h|⟨x,h⟩|⟨w,h⟩
   ·exact absurd h z
   ·rw[h]
    cases x with
    |num i=>exact ZW (fun z=>nomatch z) hle
    |lst ws=>exact ZW (fun z=>nomatch z) hle
    |txt s=>exact znk ok hle s (fun q=>.mk q [(ev fs a e ns).1]) (fun _=>rfl)
   ·rw[h]
    exact ZW (fun z=>nomatch z) hle
 |.reck d es,e,ns,hn=>by
  have hL:=csL ok es e ns hn
  refine Cs.map hL (fun gs=>?_) (fun gs h=>?_)
  ·by_cases hall:zaf (evs gs es e ns).1=true
   ·refine⟨.mk (zch (recW d ((evs gs es e ns).1.map R.worth))) (evs gs es e ns).1,?_,fun z=>absurd z (zlp _),fun z=>absurd z (zb8 hall)⟩
    show ev gs (.reck d es) e ns=_
    rw[ev,if_pos hall]
   ·refine⟨.mk (zci (evs gs es e ns).1 (.mk (.made (.num 0)) [])).res (evs gs es e ns).1,?_,Iff.rfl⟩
    show ev gs (.reck d es) e ns=_
    rw[ev,if_neg hall]
  ·have h:evs gs es e ns=evs fs es e ns:=h
   show ev gs (.reck d es) e ns=ev fs (.reck d es) e ns
   rw[ev,ev,h]
theorem csL(ok:∀r∈fs,r≠Res.stop):∀(es:List Ex)(e:Env)(ns:Ns),ns.length<=fs.length->Cs stL (fun fs ns=>evs fs es e ns) fs ns
 |[],e,ns,hn=>zmm (fun x hx=>nomatch hx) hn
 |x::xs,e,ns,hn=>by
  have hA:=csE ok x e ns hn
  refine Cs.bind (B:=fun gs m=>if (ev fs x e ns).1.res.isMade then ((ev fs x e ns).1::(evs gs xs e m).1,(evs gs xs e m).2) else ([(ev fs x e ns).1],m)) hA (fun gs z=>?_) (fun gs e1 z=>?_) (fun z=>?_)
  ·have z:(ev gs x e ns).1.res=.stop:=z
   show stL (evs gs (x::xs) e ns).1/\(evs gs (x::xs) e ns).2=_
   rw[zaY,if_neg (by rw[z];decide)]
   exact⟨z,rfl⟩
  ·have e1:ev gs x e ns=ev fs x e ns:=e1
   show evs gs (x::xs) e ns=_
   rw[zaY,e1]
  ·have z:(ev fs x e ns).1.res≠.stop:=z
   have hle:=hA.s0 z
   cases hm:(ev fs x e ns).1.res.isMade with
   |true=>
    have ih:=csL ok xs e (ev fs x e ns).2 hle
    refine Cs.map ih (fun gs=>⟨(ev fs x e ns).1::(evs gs xs e (ev fs x e ns).2).1,rfl,zeH z⟩) fun gs h=>?_
    have h:evs gs xs e (ev fs x e ns).2=evs fs xs e (ev fs x e ns).2:=h
    show (_::(evs gs xs e (ev fs x e ns).2).1,(evs gs xs e (ev fs x e ns).2).2)=(_::(evs fs xs e (ev fs x e ns).2).1,(evs fs xs e (ev fs x e ns).2).2)
    rw[h]
   |false=>exact Cs.pure z hle
end
end
mutual
theorem zoj:∀w:W,w.Th->zdv w=true->w.Ok
 |.num i,_,h=>(of_decide_eq_true h:-(10 ^ 60)<i/\i<10 ^ 60)
 |.txt z,t,h=>⟨of_decide_eq_true h,t.2⟩
 |.lst ws,t,h=>by
  have t2:Ths ws:=t.2
  simp only[zdv,yV,decide_eq_true_eq] at h
  exact⟨h.1,oks_th ws t2 h.2⟩
theorem oks_th:∀ws:List W,Ths ws->fitsWs ws=true->Oks ws
 |[],_,_=>trivial
 |w::r,t,h=>by
  simp only[fitsWs,yV] at h
  exact⟨zoj w t.1 h.1,oks_th r t.2 h.2⟩
end
structure Gd(x:W):Prop where
 ok:x.Ok
 dp:x.depth<=12
theorem Gd.th{x:W}(h:Gd x):x.Th:=zbC x h.ok
theorem gd0:Gd (.num 0):=⟨⟨by decide,by decide⟩,yN _⟩
theorem gd1:Gd (.num 1):=⟨⟨by decide,by decide⟩,yN _⟩
def ROk:Res->Prop
 |.made y=>Gd y
 |.wrong ws=>∃c y,ws=[.txt c,y]/\(W.txt c).Th/\y.Th/\y.depth<=12
 |.stop=>True
theorem zag{s:Str}(h1:s.length<=400)(h2:∀c∈s.cps.toList,32<=c/\c<=126/\c≠34/\c≠37):(W.txt s).Ok:=⟨h1,h2⟩
theorem zdV{s:Str}(h1:s.length<=400)(h2:∀c∈s.cps.toList,32<=c/\c<=126/\c≠34/\c≠37):(W.txt s).Th:=zbC _ (zag h1 h2)
theorem zls:(W.txt "").Th:=zdV (by decide +kernel) (by decide +kernel)
theorem zlt{c:Str}(h:(W.txt c).Th):ROk (.wrong [.txt c,.txt ""]):=⟨c,_,rfl,h,zls,yN _⟩
theorem ZS:ROk (.wrong [.txt "kind",.txt ""]):=zlt (zdV (by decide +kernel) (by decide +kernel))
theorem zka:ROk (.wrong [.txt "place",.txt ""]):=zlt (zdV (by decide +kernel) (by decide +kernel))
theorem zkb:ROk (.wrong [.txt "great",.txt ""]):=zlt (zdV (by decide +kernel) (by decide +kernel))
theorem zit:ROk (.wrong [.txt "nought",.txt ""]):=zlt (zdV (by decide +kernel) (by decide +kernel))
theorem zlu:(W.txt "cried").Th:=zdV (by decide +kernel) (by decide +kernel)
theorem ROk.dp:∀{r:Res},ROk r->r.toW.depth<=13
 |.made y,h=>by
  have:=Gd.dp h
  simp only[Res.toW,W.depth,depths]
  lia
 |.wrong ws,⟨c,y,e,t,t2,d⟩=>by
  rw[e]
  simp only[Res.toW,W.depth,depths]
  lia
 |.stop,_=>by simp only[Res.toW,W.depth,depths];lia
theorem ZH{z:W}(t:z.Th):ROk (zch (zak z)):=by
 unfold zak
 split
 ·rename_i g
  unfold zgi at g
  simp only[yV,decide_eq_true_eq] at g
  exact⟨zoj z t g.1,by lia⟩
 ·exact zkb
theorem znm{xs ys:List W}(h1:Ths xs)(h2:Ths ys):Ths (xs++ys):=zmd fun w hw=>by
 rcases xI.mp hw with h|h
 ·exact zjt h1 w h
 ·exact zjt h2 w h
theorem zdf{f:Int->Int->W}(hf:∀a b,ROk (zch (f a b)))(ws:List W):ROk (zch (two f ws)):=by
 unfold two
 split
 ·exact hf _ _
 ·exact ZS
theorem zfK(b:Bool):ROk (zch (zho b)):=by
 cases b
 ·exact gd0
 ·exact gd1
theorem znn{d:Wd}{xs:List W}(ok:Oks xs)(l8:xs.length<=8):ROk (zch (recW d xs)):=by
 have tx:=ths_of xs ok
 unfold recW
 split
 ·exact zdf (fun a b=>ZH (z:=.num (a+b)) trivial) _
 ·exact zdf (fun a b=>ZH (z:=.num (a-b)) trivial) _
 ·exact zdf (fun a b=>ZH (z:=.num (a*b)) trivial) _
 ·refine zdf (fun a b=>?_) _
  show ROk (zch (if b=0 then zgs else zak (.num (a.fdiv b))))
  split
  ·exact zit
  ·exact ZH (z:=.num (a.fdiv b)) trivial
 ·exact zdf (fun a b=>zfK _) _
 ·rename_i a
  refine ZH ⟨?_,zfx a⟩
  have:=PyProof.Rows.int_text_len_1921 (ok60 ok.1)
  lia
 ·exact ZS
 ·exact zfK _
 ·exact ZS
 ·rename_i x y
  have o1:x.length<=400/\Signs x:=ok.1
  have o2:y.length<=400/\Signs y:=ok.2.1
  refine ZH ⟨?_,fun c hc=>?_⟩
  ·rw[PySem.Str.length_append]
   lia
  ·rw[zen] at hc
   rcases xI.mp hc with h|h
   ·exact o1.2 c h
   ·exact o2.2 c h
 ·rename_i xs ys
  have o1:xs.length<=60/\Oks xs:=ok.1
  have o2:ys.length<=60/\Oks ys:=ok.2.1
  refine ZH ⟨?_,znm (ths_of _ o1.2) (ths_of _ o2.2)⟩
  rw[yE]
  lia
 ·exact ZS
 ·exact ZH ⟨by lia,tx⟩
 ·rename_i xs i
  have o1:xs.length<=60/\Oks xs:=ok.1
  split
  ·rename_i hi
   have hlt:i.toNat<xs.length:=by lia
   have:xs.getD i.toNat (.num 0)=xs[i.toNat]:=by rw[yR,yA hlt];rfl
   rw[this]
   exact ZH (zbC _ (zel o1.2 _ (yY hlt)))
  ·exact zka
 ·exact ZS
 ·refine ZH ?_
  trivial
 ·refine ZH ?_
  trivial
 ·exact ZS
theorem zlv:∀{r:R},ROk r.res->Gd r.worth
 |.mk (.made _) _,h=>h
 |.mk (.wrong _) _,_=>gd0
 |.mk .stop _,_=>gd0
theorem zkc{rs:List R}(h:∀r∈rs,ROk r.res):Oks (rs.map R.worth)/\depths (rs.map R.worth)<=12:=by
 induction rs with
 |nil=>exact⟨trivial,yN _⟩
 |cons r rs ih=>
  have g:=zlv (h r xG)
  obtain⟨i1,i2⟩:=ih fun x hx=>h x (yX _ hx)
  refine⟨⟨g.ok,i1⟩,?_⟩
  have:=g.dp
  simp only[xA,depths]
  lia
theorem zkd{l:List R}{r:R}{P:R->Prop}(h:∀x∈l,P x)(hr:P r):P (zci l r):=by
 unfold zci
 cases hl:l.getLast? with
 |none=>exact hr
 |some x=>exact h x (vW hl)
mutual
def Wf:Ex->List Str->Prop
 |.lit x,_=>Gd x
 |.var s,sc=>s∈sc
 |.letE s a b,sc=>Wf a sc/\Wf b (sc++[s])
 |.ifE a b c,sc=>Wf a sc/\Wf b sc/\Wf c sc
 |.elseE a b,sc=>Wf a sc/\Wf b sc
 |.cryE a,sc=>Wf a sc
 |.lookE a,sc=>Wf a sc
 |.reck d es,sc=>es.length<=8/\arity d es.length/\Wfs es sc
def Wfs:List Ex->List Str->Prop
 |[],_=>True
 |x::xs,sc=>Wf x sc/\Wfs xs sc
end
def EG(sc:List Str)(e:Env):Prop:=∀s∈sc,∃y,e s=some y/\Gd y
theorem EG.put{sc:List Str}{e:Env}(h:EG sc e){s:Str}{y:W}(g:Gd y):EG (sc++[s]) (D.put e s y):=fun t ht=>by
 unfold D.put
 by_cases hts:t=s
 ·rw[if_pos hts];exact⟨y,rfl,g⟩
 ·rw[if_neg hts]
  rcases xI.mp ht with ht|ht
  ·exact h t ht
  ·exact absurd (yO.mp ht) hts
section
variable{fs:List Res}
theorem zke(okF:∀r∈fs,ROk r)(n:Nat):ROk (found fs n):=by
 unfold found
 cases h:fs[n]? with
 |none=>trivial
 |some r=>exact okF r (yS h)
theorem zhr{e:Env}:∀{es:List Ex}{ns:Ns},zaf (evs fs es e ns).1=true->(evs fs es e ns).1.length=es.length
 |[],ns,_=>by rw[evs];rfl
 |x::xs,ns,h=>by
  rw[zaY] at h ⊢
  split
  ·rename_i hm
   rw[if_pos hm] at h
   have h:((ev fs x e ns).1.res.isMade&&zaf (evs fs xs e (ev fs x e ns).2).1)=true:=h
   rw[yV] at h
   show ((ev fs x e ns).1::(evs fs xs e (ev fs x e ns).2).1).length=_
   rw[yG,yG,zhr h.2]
  ·rename_i hm
   rw[if_neg hm] at h
   have h:((ev fs x e ns).1.res.isMade&&true)=true:=h
   rw[wG] at h
   exact absurd h hm
mutual
theorem zal(nst:∀r∈fs,r≠Res.stop)(okF:∀r∈fs,ROk r)(hl:fs.length<=900):∀(x:Ex)(sc:List Str)(e:Env)(ns:Ns),Wf x sc->EG sc e->ns.length<=fs.length->Fine fs x e ns/\ROk (ev fs x e ns).1.res
 |.lit x,sc,e,ns,hw,_,_=>by rw[Wf] at hw;rw[Fine,ev];exact⟨trivial,hw⟩
 |.var s,sc,e,ns,hw,he,_=>by
  rw[Wf] at hw
  obtain⟨y,hy,g⟩:=he s hw
  rw[Fine,ev,hy]
  exact⟨⟨y,rfl⟩,g⟩
 |.letE s a b,sc,e,ns,hw,he,hn=>by
  rw[Wf] at hw
  obtain⟨f1,r1⟩:=zal nst okF hl a sc e ns hw.1 he hn
  have cs:=csE nst a e ns hn
  have go:∀x,(ev fs a e ns).1.res=.made x->Fine fs b (put e s x) (ev fs a e ns).2/\ROk (ev fs b (put e s x) (ev fs a e ns).2).1.res:=fun x hx=>by
   rw[hx] at r1
   exact zal nst okF hl b (sc++[s]) (put e s x) _ hw.2 (he.put r1) (cs.s0 (fun z=>by have z:(ev fs a e ns).1.res=.stop:=z;rw[hx] at z;cases z))
  rw[Fine]
  refine⟨⟨f1,fun x hx=>(go x hx).1⟩,?_⟩
  by_cases hm:(ev fs a e ns).1.res.isMade=true
  ·obtain⟨x,hx⟩:=ZV hm
   rw[zc9 hx]
   exact (go x hx).2
  ·rw[zeB (by simpa using hm)]
   exact r1
 |.ifE a b c,sc,e,ns,hw,he,hn=>by
  rw[Wf] at hw
  obtain⟨f1,r1⟩:=zal nst okF hl a sc e ns hw.1 he hn
  have cs:=csE nst a e ns hn
  have len:∀x,(ev fs a e ns).1.res=.made x->(ev fs a e ns).2.length<=fs.length:=fun x hx=>cs.s0 (fun z=>by have z:(ev fs a e ns).1.res=.stop:=z;rw[hx] at z;cases z)
  rw[Fine]
  refine⟨⟨f1,fun i hi=>⟨fun _=>(zal nst okF hl b sc e _ hw.2.1 he (len _ hi)).1,fun _=>(zal nst okF hl c sc e _ hw.2.2 he (len _ hi)).1⟩⟩,?_⟩
  by_cases hm:(ev fs a e ns).1.res.isMade=true
  ·obtain⟨x,hx⟩:=ZV hm
   cases x with
   |num i=>
    by_cases hi:i=0
    ·subst hi
     rw[zfE hx]
     exact (zal nst okF hl c sc e _ hw.2.2 he (len _ hx)).2
    ·rw[zfF hx hi]
     exact (zal nst okF hl b sc e _ hw.2.1 he (len _ hx)).2
   |txt z=>rw[zfG hx rfl];exact ZS
   |lst z=>rw[zfG hx rfl];exact ZS
  ·rw[zjY (by simpa using hm)]
   exact r1
 |.elseE a b,sc,e,ns,hw,he,hn=>by
  rw[Wf] at hw
  obtain⟨f1,r1⟩:=zal nst okF hl a sc e ns hw.1 he hn
  have cs:=csE nst a e ns hn
  have go:∀w,(ev fs a e ns).1.res=.wrong w->Fine fs b e (ev fs a e ns).2/\ROk (ev fs b e (ev fs a e ns).2).1.res:=fun w hx=>
   zal nst okF hl b sc e _ hw.2 he (cs.s0 (fun z=>by have z:(ev fs a e ns).1.res=.stop:=z;rw[hx] at z;cases z))
  rw[Fine]
  refine⟨⟨f1,fun w hx=>(go w hx).1⟩,?_⟩
  rcases Zf (ev fs a e ns).1.res with h|⟨x,h⟩|⟨w,h⟩
  ·rw[Z3 (fun w z=>by rw[h] at z;cases z)];exact r1
  ·rw[Z3 (fun w z=>by rw[h] at z;cases z)];exact r1
  ·rw[zbJ h];exact (go w h).2
 |.cryE a,sc,e,ns,hw,he,hn=>by
  rw[Wf] at hw
  obtain⟨f1,r1⟩:=zal nst okF hl a sc e ns hw he hn
  rw[Fine]
  refine⟨f1,?_⟩
  by_cases hm:(ev fs a e ns).1.res.isMade=true
  ·obtain⟨x,hx⟩:=ZV hm
   rw[zda hx]
   rw[hx] at r1
   exact⟨"cried",x,rfl,zlu,Gd.th r1,Gd.dp r1⟩
  ·rw[zgD (by simpa using hm)]
   exact r1
 |.lookE a,sc,e,ns,hw,he,hn=>by
  rw[Wf] at hw
  obtain⟨f1,r1⟩:=zal nst okF hl a sc e ns hw he hn
  have cs:=csE nst a e ns hn
  rw[Fine]
  refine⟨⟨f1,?_⟩,?_⟩
  ·by_cases h:(ev fs a e ns).1.res=.stop
   ·have:(ev fs a e ns).2.length=fs.length+1:=cs.s1 h
    lia
   ·have:(ev fs a e ns).2.length<=fs.length:=cs.s0 h
    lia
  by_cases hm:(ev fs a e ns).1.res.isMade=true
  ·obtain⟨x,hx⟩:=ZV hm
   cases x with
   |num i=>rw[zbL hx (fun z h=>nomatch h)];exact ZS
   |lst i=>rw[zbL hx (fun z h=>nomatch h)];exact ZS
   |txt z=>rw[zbK hx];exact zke okF _
  ·rw[zeC (by simpa using hm)]
   exact r1
 |.reck d es,sc,e,ns,hw,he,hn=>by
  rw[Wf] at hw
  obtain⟨f1,r1⟩:=fineL nst okF hl es sc e ns hw.2.2 he hn
  have hle:=zj6 (fs:=fs) (e:=e) (es:=es) (ns:=ns)
  obtain⟨o1,o2⟩:=zkc r1
  have h8:=hw.1
  rw[Fine]
  refine⟨⟨by lia,f1,fun hall=>⟨o1,o2,by lia,by rw[zhr hall];exact hw.2.1⟩⟩,?_⟩
  rw[ev]
  split
  ·exact znn o1 (by rw[yB];lia)
  ·exact zkd (P:=fun r=>ROk r.res) r1 gd0
theorem fineL(nst:∀r∈fs,r≠Res.stop)(okF:∀r∈fs,ROk r)(hl:fs.length<=900):∀(es:List Ex)(sc:List Str)(e:Env)(ns:Ns),Wfs es sc->EG sc e->ns.length<=fs.length->Fines fs es e ns/\∀r∈(evs fs es e ns).1,ROk r.res
 |[],sc,e,ns,_,_,_=>by rw[Fines,evs];exact⟨trivial,fun r h=>nomatch h⟩
 |x::xs,sc,e,ns,hw,he,hn=>by
  rw[Wfs] at hw
  obtain⟨f1,r1⟩:=zal nst okF hl x sc e ns hw.1 he hn
  have cs:=csE nst x e ns hn
  rw[Fines,zaY]
  by_cases hm:(ev fs x e ns).1.res.isMade=true
  ·obtain⟨i1,i2⟩:=fineL nst okF hl xs sc e _ hw.2 he (cs.s0 (fun z=>by have z:(ev fs x e ns).1.res=.stop:=z;rw[z] at hm;cases hm))
   rw[if_pos hm]
   refine⟨⟨f1,fun _=>i1⟩,fun r hr=>?_⟩
   rcases yQ.mp hr with rfl|hr
   ·exact r1
   ·exact i2 r hr
  ·rw[if_neg hm]
   exact⟨⟨f1,fun z=>absurd z hm⟩,fun r hr=>by rw[yO.mp hr];exact r1⟩
end
end
inductive GR:Nat->R->Prop where
 |mk {n:Nat}{res:Res}{ss:List R}:ROk res->res≠.stop->(∀r∈ss,GR n r)->GR (n+1) (.mk res ss)
theorem GR.up{n m:Nat}{r:R}(h:GR n r)(l:n<=m):GR m r:=by
 induction h generalizing m with
 | @mk n res ss a b _ ih=>
  obtain⟨k,rfl⟩:∃k,m=k+1:=⟨m-1,by lia⟩
  exact .mk a b fun r hr=>ih r hr (by lia)
theorem gr1{n:Nat}{a:R}{res:Res}(ok:ROk res)(ns:res≠.stop)(ga:GR n a):GR (n+1) (.mk res [a]):=.mk ok ns fun r hr=>by rw[yO.mp hr];exact ga
theorem gr2{n:Nat}{a b:R}{res:Res}(ok:ROk res)(ns:res≠.stop)(ga:GR n a)(gb:GR n b):GR (n+1) (.mk res [a,b]):=.mk ok ns fun r hr=>by
 rcases yQ.mp hr with rfl|hr
 ·exact ga
 ·rw[yO.mp hr];exact gb
theorem zat{r:Res}{x:W}(h:r=.made x):r≠.stop:=fun z=>by rw[h] at z;cases z
theorem zhs{r:Res}{x:List W}(h:r=.wrong x):r≠.stop:=fun z=>by rw[h] at z;cases z
section
variable{fs:List Res}
mutual
theorem grE(nst:∀r∈fs,r≠Res.stop)(okF:∀r∈fs,ROk r)(hl:fs.length<=900):∀(x:Ex)(sc:List Str)(e:Env)(ns:Ns),Wf x sc->EG sc e->ns.length<=fs.length->(ev fs x e ns).1.res≠.stop->GR x.high (ev fs x e ns).1
 |.lit x,sc,e,ns,hw,he,hn,hs=>by
  have ok:=(zal nst okF hl _ sc e ns hw he hn).2
  rw[ev] at ok hs ⊢
  rw[Ex.high]
  exact .mk ok hs fun r hr=>nomatch hr
 |.var s,sc,e,ns,hw,he,hn,hs=>by
  have ok:=(zal nst okF hl _ sc e ns hw he hn).2
  rw[ev] at ok hs ⊢
  rw[Ex.high]
  exact .mk ok hs fun r hr=>nomatch hr
 |.letE s a b,sc,e,ns,hw,he,hn,hs=>by
  have ok:=(zal nst okF hl _ sc e ns hw he hn).2
  rw[Wf] at hw
  have r1:=(zal nst okF hl a sc e ns hw.1 he hn).2
  have cs:=csE nst a e ns hn
  rw[Ex.high,wU]
  by_cases hm:(ev fs a e ns).1.res.isMade=true
  ·obtain⟨x,hx⟩:=ZV hm
   rw[hx] at r1
   rw[zc9 hx] at ok hs ⊢
   exact gr2 ok hs ((grE nst okF hl a sc e ns hw.1 he hn (zat hx)).up (by lia)) ((grE nst okF hl b (sc++[s]) (put e s x) _ hw.2 (he.put r1) (cs.s0 (zat hx)) hs).up (by lia))
  ·rw[zeB (by simpa using hm)] at ok hs ⊢
   exact gr1 ok hs ((grE nst okF hl a sc e ns hw.1 he hn hs).up (by lia))
 |.ifE a b c,sc,e,ns,hw,he,hn,hs=>by
  have ok:=(zal nst okF hl _ sc e ns hw he hn).2
  rw[Wf] at hw
  have cs:=csE nst a e ns hn
  rw[Ex.high,wU]
  by_cases hm:(ev fs a e ns).1.res.isMade=true
  ·obtain⟨x,hx⟩:=ZV hm
   have ga:=(grE nst okF hl a sc e ns hw.1 he hn (zat hx)).up (m:=max a.high (max b.high c.high)) (by lia)
   cases x with
   |num i=>
    by_cases hi:i=0
    ·subst hi
     rw[zfE hx] at ok hs ⊢
     exact gr2 ok hs ga ((grE nst okF hl c sc e _ hw.2.2 he (cs.s0 (zat hx)) hs).up (by lia))
    ·rw[zfF hx hi] at ok hs ⊢
     exact gr2 ok hs ga ((grE nst okF hl b sc e _ hw.2.1 he (cs.s0 (zat hx)) hs).up (by lia))
   |txt z=>rw[zfG hx rfl] at ok hs ⊢;exact gr1 ok hs ga
   |lst z=>rw[zfG hx rfl] at ok hs ⊢;exact gr1 ok hs ga
  ·rw[zjY (by simpa using hm)] at ok hs ⊢
   exact gr1 ok hs ((grE nst okF hl a sc e ns hw.1 he hn hs).up (by lia))
 |.elseE a b,sc,e,ns,hw,he,hn,hs=>by
  have ok:=(zal nst okF hl _ sc e ns hw he hn).2
  rw[Wf] at hw
  have cs:=csE nst a e ns hn
  rw[Ex.high,wU]
  rcases Zf (ev fs a e ns).1.res with h|⟨x,h⟩|⟨w,h⟩
  ·rw[Z3 (fun w z=>by rw[h] at z;cases z)] at hs
   exact absurd h hs
  ·rw[Z3 (fun w z=>by rw[h] at z;cases z)] at ok hs ⊢
   exact gr1 ok hs ((grE nst okF hl a sc e ns hw.1 he hn hs).up (by lia))
  ·rw[zbJ h] at ok hs ⊢
   exact gr2 ok hs ((grE nst okF hl a sc e ns hw.1 he hn (zhs h)).up (by lia)) ((grE nst okF hl b sc e _ hw.2 he (cs.s0 (zhs h)) hs).up (by lia))
 |.cryE a,sc,e,ns,hw,he,hn,hs=>by
  have ok:=(zal nst okF hl _ sc e ns hw he hn).2
  rw[Wf] at hw
  rw[Ex.high,wU]
  by_cases hm:(ev fs a e ns).1.res.isMade=true
  ·obtain⟨x,hx⟩:=ZV hm
   rw[zda hx] at ok hs ⊢
   exact gr1 ok hs (grE nst okF hl a sc e ns hw he hn (zat hx))
  ·rw[zgD (by simpa using hm)] at ok hs ⊢
   exact gr1 ok hs (grE nst okF hl a sc e ns hw he hn hs)
 |.lookE a,sc,e,ns,hw,he,hn,hs=>by
  have ok:=(zal nst okF hl _ sc e ns hw he hn).2
  rw[Wf] at hw
  rw[Ex.high,wU]
  by_cases hm:(ev fs a e ns).1.res.isMade=true
  ·obtain⟨x,hx⟩:=ZV hm
   have ga:=grE nst okF hl a sc e ns hw he hn (zat hx)
   cases x with
   |num i=>rw[zbL hx (fun z h=>nomatch h)] at ok hs ⊢;exact gr1 ok hs ga
   |lst i=>rw[zbL hx (fun z h=>nomatch h)] at ok hs ⊢;exact gr1 ok hs ga
   |txt z=>rw[zbK hx] at ok hs ⊢;exact gr1 ok hs ga
  ·rw[zeC (by simpa using hm)] at ok hs ⊢
   exact gr1 ok hs (grE nst okF hl a sc e ns hw he hn hs)
 |.reck d es,sc,e,ns,hw,he,hn,hs=>by
  have ok:=(zal nst okF hl _ sc e ns hw he hn).2
  rw[Wf] at hw
  rw[Ex.high,wU]
  rw[ev] at ok hs ⊢
  by_cases hall:zaf (evs fs es e ns).1=true
  ·rw[if_pos hall] at ok hs ⊢
   exact .mk ok hs (grL nst okF hl es sc e ns hw.2.2 he hn (zb8 hall))
  ·rw[if_neg hall] at ok hs ⊢
   exact .mk ok hs (grL nst okF hl es sc e ns hw.2.2 he hn hs)
theorem grL(nst:∀r∈fs,r≠Res.stop)(okF:∀r∈fs,ROk r)(hl:fs.length<=900):∀(es:List Ex)(sc:List Str)(e:Env)(ns:Ns),Wfs es sc->EG sc e->ns.length<=fs.length->¬stL (evs fs es e ns).1->∀r∈(evs fs es e ns).1,GR (highs es) r
 |[],sc,e,ns,hw,he,hn,hs,r,hr=>by rw[evs] at hr;cases hr
 |x::xs,sc,e,ns,hw,he,hn,hs,r,hr=>by
  rw[Wfs] at hw
  rw[zaY] at hs hr
  rw[highs]
  by_cases hm:(ev fs x e ns).1.res.isMade=true
  ·rw[if_pos hm] at hs hr
   obtain⟨y,hx⟩:=ZV hm
   rcases yQ.mp hr with rfl|hr
   ·exact (grE nst okF hl x sc e ns hw.1 he hn (zat hx)).up (by lia)
   ·exact (grL nst okF hl xs sc e _ hw.2 he ((csE nst x e ns hn).s0 (zat hx)) (fun z=>hs ((zeH (zat hx)).mpr z)) r hr).up (by lia)
  ·rw[if_neg hm] at hs hr
   rw[yO.mp hr]
   exact (grE nst okF hl x sc e ns hw.1 he hn (fun z=>hs (znj.mpr z))).up (by lia)
end
end
theorem zok{ss:List R}{n:Nat}(h:∀r∈ss,r.toW.depth<=n):depths (toWs ss)<=n:=by
 induction ss with
 |nil=>rw[toWs,depths];lia
 |cons r l ih=>
  rw[toWs,depths]
  have h1:=h r xG
  have h2:=ih fun x hx=>h x (yX _ hx)
  lia
theorem GR.dp{n:Nat}{r:R}(h:GR n r):r.toW.depth<=2*n+14:=by
 induction h with
 | @mk n res ss a b _ ih=>
  have h1:=ROk.dp a
  have h2:=zok ih
  rw[R.toW]
  simp only[W.depth,depths]
  lia
theorem GR.rs{K:uZ}{H:Hp}{n:Nat}{r:R}(g:GR n r):∀{v:V},RR K H v r->RS K H v r.toW:=by
 induction g with
 | @mk n res ss a b _ ih=>
  intro v h
  cases h with
  | @mk a1 b1 rv vs _ _ e1 e2 e3 l at'=>
   rw[R.toW]
   refine RS.two (Sq e1) (e2.rs b) (.lst (Sq e3) (by rw[zhp];exact l) fun i v w hv hw=>?_)
   rw[zjW] at hw
   obtain⟨r,hr,rfl⟩:=yW.mp hw
   exact ih r (yS hr) (at' i v r hv hr)
inductive Pl where
 |leaf (r:Res)
 |look (t:Str) (l r:Pl)
def is1(r:Res):Bool:=eqW r.toW (.lst [.txt "made",.num 1])
def Pl.go:Pl->List Res->Ns×Option Res
 |.leaf r,_=>([],some r)
 |.look t _ _,[]=>([t],none)
 |.look t l r,f::fs=>(t::(if is1 f then l.go fs else r.go fs).1,(if is1 f then l.go fs else r.go fs).2)
noncomputable def Pl.deep:Pl->Nat
 |.leaf _=>0
 |.look _ l r=>1+max l.deep r.deep
theorem zht(x:W):is1 (.made x)=eqW x (.num 1):=by
 simp only[is1,Res.toW,eqW,eqWs,wG]
 rw[show ((uI "made":Str)=="made")=true by decide +kernel,vC]
theorem zfL(ws:List W):is1 (.wrong ws)=false:=by
 cases ws with
 |nil=>rfl
 |cons w r=>
  simp only[is1,Res.toW,eqW,eqWs]
  rw[show ((uI "wrong":Str)=="made")=false by decide +kernel,wS]
theorem zaZ(t:Str)(l r:Pl)(f:Res)(fs:List Res):(Pl.look t l r).go (f::fs)=(t::((if is1 f then l else r).go fs).1,((if is1 f then l else r).go fs).2):=by
 rw[Pl.go]
 cases is1 f<;>rfl
theorem zdg:∀(P:Pl)(fs:List Res),(P.go fs).2=none->(P.go fs).1.length=fs.length+1
 |.leaf r,fs,h=>by rw[Pl.go] at h;cases h
 |.look t l r,[],h=>by rw[Pl.go];rfl
 |.look t l r,f::fs,h=>by
  rw[Pl.go] at h ⊢
  cases hf:is1 f with
  |true=>
   simp only[hf,if_true] at h ⊢
   rw[yG,zdg l fs h,yG]
  |false=>
   simp only[hf,yZ,if_false] at h ⊢
   rw[yG,zdg r fs h,yG]
theorem zdh:∀(P:Pl)(fs:List Res)(o:Res),(P.go fs).2=some o->(P.go fs).1.length<=fs.length
 |.leaf r,fs,o,h=>by rw[Pl.go];exact yN _
 |.look t l r,[],o,h=>by rw[Pl.go] at h;cases h
 |.look t l r,f::fs,o,h=>by
  rw[Pl.go] at h ⊢
  cases hf:is1 f with
  |true=>
   simp only[hf,if_true] at h ⊢
   exact Nat.succ_le_succ (zdh l fs o h)
  |false=>
   simp only[hf,yZ,if_false] at h ⊢
   exact Nat.succ_le_succ (zdh r fs o h)
theorem zgI:∀(P:Pl)(fs gs:List Res)(o:Res),(P.go fs).2=some o->P.go (fs++gs)=P.go fs
 |.leaf r,fs,gs,o,h=>by rw[Pl.go,Pl.go]
 |.look t l r,[],gs,o,h=>by rw[Pl.go] at h;cases h
 |.look t l r,f::fs,gs,o,h=>by
  rw[xL,Pl.go,Pl.go]
  rw[Pl.go] at h
  cases hf:is1 f with
  |true=>
   simp only[hf,if_true] at h ⊢
   rw[zgI l fs gs o h]
  |false=>
   simp only[hf,yZ,if_false] at h ⊢
   rw[zgI r fs gs o h]
theorem zkf:∀(P:Pl)(fs gs:List Res),(P.go fs).1 <+: (P.go (fs++gs)).1
 |.leaf r,fs,gs=>by rw[Pl.go,Pl.go];exact vJ _
 |.look t l r,[],[]=>vJ _
 |.look t l r,[],g::gs=>by rw[vO,Pl.go,Pl.go];exact⟨_,rfl⟩
 |.look t l r,f::fs,gs=>by
  rw[xL,Pl.go,Pl.go]
  cases hf:is1 f with
  |true=>simp only[if_true];exact (vQ).mpr ⟨rfl,zkf l fs gs⟩
  |false=>simp only[yZ,if_false];exact (vQ).mpr ⟨rfl,zkf r fs gs⟩
theorem zeJ:∀(P:Pl)(fs:List Res),(P.go fs).2=none->fs.length<P.deep
 |.leaf r,fs,h=>by rw[Pl.go] at h;cases h
 |.look t l r,[],h=>by rw[Pl.deep,wW];lia
 |.look t l r,f::fs,h=>by
  rw[Pl.go] at h
  rw[Pl.deep,yG]
  cases hf:is1 f with
  |true=>
   simp only[hf,if_true] at h
   have:=zeJ l fs h
   lia
  |false=>
   simp only[hf,yZ,if_false] at h
   have:=zeJ r fs h
   lia
def Cm(P:Pl)(fs:List Res):Prop:=(∃o,(P.go fs).2=some o)/\(P.go fs).1.length=fs.length
theorem zah{α:Type}(o:Option α):o=none\/∃x,o=some x:=by cases o;exact .inl rfl;exact .inr ⟨_,rfl⟩
def Al(P:Pl)(fs:List Res):Prop:=(P.go fs).2=none\/Cm P fs
theorem zmn(P:Pl):Al P []:=by
 rcases zah (P.go []).2 with h|⟨o,h⟩
 ·exact .inl h
 ·have:=zdh P [] o h
  exact .inr ⟨⟨o,h⟩,Nat.le_zero.mp this⟩
theorem zkg{P:Pl}{fs:List Res}(h:(P.go fs).2=none)(f:Res):Al P (fs++[f]):=by
 rcases zah (P.go (fs++[f])).2 with h2|⟨o,h2⟩
 ·exact .inl h2
 ·have h3:=zdh P _ o h2
  have h4:=(zkf P fs [f]).length_le
  rw[zdg P fs h] at h4
  rw[yE,wH] at h3
  refine .inr ⟨⟨o,h2⟩,?_⟩
  rw[yE,wH]
  lia
inductive Pn where
 |made (n:Int)
 |cried (n:Int)
 |look (t:Str) (l r:Pn)
noncomputable def Pn.toW:Pn->W
 |.made n=>.lst [.txt "made",.num n]
 |.cried n=>.lst [.txt "cried",.num n]
 |.look t l r=>.lst [.txt "look",.txt t,l.toW,r.toW]
noncomputable def Pn.pl:Pn->Pl
 |.made n=>.leaf (.made (.num n))
 |.cried n=>.leaf (.wrong [.txt "cried",.num n])
 |.look t l r=>.look t l.pl r.pl
noncomputable def Pn.ex:Pn->Ex
 |.made n=>.lit (.num n)
 |.cried n=>.cryE (.lit (.num n))
 |.look t l r=>.letE "a" (.elseE (.lookE (.lit (.txt t))) (.lit (.num 0))) (.ifE (.reck .same [.var "a",.lit (.num 1)]) l.ex r.ex)
noncomputable def Pn.looks:Pn->Nat
 |.made _=>0
 |.cried _=>0
 |.look _ l r=>1+l.looks+r.looks
def Pn.Ok:Pn->Prop
 |.made n=>0<=n/\n<1000
 |.cried n=>0<=n/\n<1000
 |.look t l r=>(t.length<=9/\Signs t)/\l.Ok/\r.Ok
theorem zgJ:∀p:Pn,p.pl.deep<=p.looks
 |.made _=>yF _
 |.cried _=>yF _
 |.look _ l r=>by
  have h1:=zgJ l
  have h2:=zgJ r
  simp only[Pn.pl,Pl.deep,Pn.looks]
  lia
theorem zdi:∀p:Pn,p.ex.high<=2*p.looks+2
 |.made _=>by simp only[Pn.ex,Ex.high];lia
 |.cried _=>by simp only[Pn.ex,Ex.high];lia
 |.look t l r=>by
  have h1:=zdi l
  have h2:=zdi r
  simp only[Pn.ex,Ex.high,highs,Pn.looks]
  lia
theorem zdj:∀p:Pn,p.ex.toW.depth<=2*p.looks+2
 |.made _=>by simp only[Pn.ex,Ex.toW,W.depth,depths];lia
 |.cried _=>by simp only[Pn.ex,Ex.toW,W.depth,depths];lia
 |.look t l r=>by
  have h1:=zdj l
  have h2:=zdj r
  simp only[Pn.ex,Ex.toW,exWs,W.depth,depths,Pn.looks]
  lia
theorem zdk{n:Int}(h:0<=n/\n<1000):Gd (.num n):=⟨⟨by lia,by lia⟩,yN _⟩
theorem zlw:∀(p:Pn)(sc:List Str),p.Ok->Wf p.ex sc
 |.made n,sc,h=>by simp only[Pn.ex,Wf];exact zdk h
 |.cried n,sc,h=>by simp only[Pn.ex,Wf];exact zdk h
 |.look t l r,sc,h=>by
  simp only[Pn.ex,Wf,Wfs]
  refine⟨⟨⟨⟨?_,h.1.2⟩,yN _⟩,zdk (by lia)⟩,⟨by decide,rfl,by simp,zdk (by lia),trivial⟩,zlw l _ h.2.1,zlw r _ h.2.2⟩
  exact yM h.1.1 (by decide)
theorem zdW(fs:List Res)(ns:Ns):fs.drop ns.length=[]/\found fs ns.length=.stop\/∃f gs,fs.drop ns.length=f::gs/\found fs ns.length=f/\fs.drop (ns.length+1)=gs:=by
 by_cases h:ns.length<fs.length
 ·refine .inr ⟨fs[ns.length],fs.drop (ns.length+1),(xM h),?_,rfl⟩
  unfold found
  rw[yA h]
  rfl
 ·refine .inl ⟨wD (by lia),?_⟩
  unfold found
  rw[xH (by lia)]
  rfl
theorem zkh(fs:List Res)(nst:∀r∈fs,r≠Res.stop):∀(p:Pn)(e:Env)(ns:Ns),(ev fs p.ex e ns).2=ns++(p.pl.go (fs.drop ns.length)).1/\(ev fs p.ex e ns).1.res=((p.pl.go (fs.drop ns.length)).2).getD .stop
 |.made n,e,ns=>by
  rw[Pn.ex,Pn.pl,ev,Pl.go]
  exact⟨(xB _).symm,rfl⟩
 |.cried n,e,ns=>by
  rw[Pn.ex,Pn.pl,zda (x:=.num n) (by rw[ev];rfl),ev,Pl.go]
  exact⟨(xB _).symm,rfl⟩
 |.look t l r,e,ns=>by
  have e1:ev fs (.lookE (.lit (.txt t))) e ns=(.mk (found fs ns.length) [.mk (.made (.txt t)) []],ns++[t]):=by
   rw[zbK (z:=t) (by rw[ev];rfl),ev]
  have hlen:(ns++[t]).length=ns.length+1:=by simp
  rw[Pn.pl,Pn.ex]
  rcases zdW fs ns with⟨h1,h2⟩|⟨f,gs,h1,h2,h3⟩
  ·rw[h1,Pl.go]
   have e2:ev fs (.elseE (.lookE (.lit (.txt t))) (.lit (.num 0))) e ns=(.mk .stop [.mk .stop [.mk (.made (.txt t)) []]],ns++[t]):=by
    rw[Z3 (by rw[e1,h2];intro w h;cases h),e1,h2]
    rfl
   rw[zeB (by rw[e2];rfl),e2]
   exact⟨rfl,rfl⟩
  ·rw[h1,zaZ]
   have hf:f≠.stop:=nst f (by rw[←wL ns.length fs,h1];simp)
   obtain⟨x,rr,e2,hx⟩:∃(x:W)(rr:R),ev fs (.elseE (.lookE (.lit (.txt t))) (.lit (.num 0))) e ns=(rr,ns++[t])/\rr.res=.made x/\eqW x (.num 1)=is1 f:=by
    cases f with
    |stop=>exact absurd rfl hf
    |made x=>
     refine⟨x,.mk (.made x) [.mk (.made x) [.mk (.made (.txt t)) []]],?_,rfl,(zht x).symm⟩
     rw[Z3 (by rw[e1,h2];intro w h;cases h),e1,h2]
     rfl
    |wrong ws=>
     refine⟨.num 0,.mk (.made (.num 0)) [.mk (.wrong ws) [.mk (.made (.txt t)) []],.mk (.made (.num 0)) []],?_,rfl,?_⟩
     ·rw[zbJ (w:=ws) (by rw[e1,h2];rfl),e1,h2,ev]
      rfl
     ·rw[zfL];rfl
   obtain⟨hx,hq⟩:=hx
   have hx':(ev fs (.elseE (.lookE (.lit (.txt t))) (.lit (.num 0))) e ns).1.res=.made x:=by rw[e2];exact hx
   rw[zc9 hx',e2]
   dsimp only
   have e3:ev fs (.reck .same [.var "a",.lit (.num 1)]) (put e "a" x) (ns++[t])=(.mk (.made (.num (if eqW x (.num 1) then 1 else 0))) [.mk (.made x) [],.mk (.made (.num 1)) []],ns++[t]):=by
    have e4:evs fs [.var "a",.lit (.num 1)] (put e "a" x) (ns++[t])=([.mk (.made x) [],.mk (.made (.num 1)) []],ns++[t]):=by
     rw[zaY,ev,zj7,ev]
     have:put e "a" x "a"=some x:=by unfold put;rw[if_pos rfl]
     rw[this]
     rfl
    rw[ev,e4]
    rfl
   cases hb:is1 f with
   |true=>
    rw[hq,hb] at e3
    have h4:=zkh fs nst l (put e "a" x) (ns++[t])
    rw[zfF (i:=1) (by rw[e3];rfl) (by decide),e3]
    rw[hlen,h3] at h4
    simp only[if_true]
    exact⟨by rw[h4.1,xW];rfl,h4.2⟩
   |false=>
    rw[hq,hb] at e3
    have h4:=zkh fs nst r (put e "a" x) (ns++[t])
    rw[zfE (by rw[e3];rfl),e3]
    rw[hlen,h3] at h4
    simp only[yZ,if_false]
    exact⟨by rw[h4.1,xW];rfl,h4.2⟩
structure RuP(P:Pl)(x:Ex):Prop where
 wf:Wf x []
 hi:x.high<=12
 ev:∀fs:List Res,(∀r∈fs,r≠Res.stop)->(ev fs x e0 []).2=(P.go fs).1/\(ev fs x e0 []).1.res=((P.go fs).2).getD .stop
 dp:x.toW.depth<=13
 de:P.deep<=5
 ns:∀(fs:List Res)(o:Res),(P.go fs).2=some o->o≠.stop
 tok:TOk x.toW.toD
 tdp:x.toW.toD.depth<70
 tct:cnt x.toW.toD<=800
theorem Zu{s:Str}(h:s.length<=400/\∀c∈s.cps.toList,c<200):TOk (.str s):=h
theorem zeK{n:Int}(h:0<=n/\n<1000):TOk (.int n):=by
 show n.natAbs<big
 have:(1000:Nat)<big:=by decide +kernel
 lia
theorem zki:∀p:Pn,p.Ok->TOk p.ex.toW.toD
 |.made n,h=>⟨Zu (by decide +kernel),zeK h,trivial⟩
 |.cried n,h=>⟨Zu (by decide +kernel),⟨Zu (by decide +kernel),zeK h,trivial⟩,trivial⟩
 |.look t l r,h=>by
  have h1:=zki l h.2.1
  have h2:=zki r h.2.2
  have ht:TOk (.str t):=⟨yM h.1.1 (by decide),fun c hc=>by have:=h.1.2 c hc;lia⟩
  exact⟨Zu (by decide +kernel),Zu (by decide +kernel),⟨Zu (by decide +kernel),⟨Zu (by decide +kernel),⟨Zu (by decide +kernel),ht,trivial⟩,trivial⟩,⟨Zu (by decide +kernel),zeK (by lia),trivial⟩,trivial⟩,⟨Zu (by decide +kernel),⟨Zu (by decide +kernel),⟨Zu (by decide +kernel),Zu (by decide +kernel),trivial⟩,⟨Zu (by decide +kernel),zeK (by lia),trivial⟩,trivial⟩,h1,h2,trivial⟩,trivial⟩
theorem zkj:∀p:Pn,cnt p.ex.toW.toD<=28*p.looks+5
 |.made n=>by simp only[Pn.ex,Ex.toW,W.toD,toDs,cnt,cnts];lia
 |.cried n=>by simp only[Pn.ex,Ex.toW,W.toD,toDs,cnt,cnts];lia
 |.look t l r=>by
  have h1:=zkj l
  have h2:=zkj r
  simp only[Pn.ex,Ex.toW,exWs,W.toD,toDs,cnt,cnts,Pn.looks]
  lia
mutual
theorem zeL:∀w:W,w.toD.depth<=w.depth
 |.num _=>yF _
 |.txt _=>yF _
 |.lst ws=>by
  have:=toDs_dep ws
  simp only[W.toD,PyData.depth,W.depth]
  lia
theorem toDs_dep:∀ws:List W,PyData.depthAll (toDs ws)<=depths ws
 |[]=>yF _
 |w::r=>by
  have h1:=zeL w
  have h2:=toDs_dep r
  simp only[toDs,PyData.depthAll,depths]
  lia
end
theorem zno:∀(p:Pn)(fs:List Res)(o:Res),(p.pl.go fs).2=some o->o≠.stop
 |.made n,fs,o,h=>by rw[Pn.pl,Pl.go] at h;cases h;exact fun z=>nomatch z
 |.cried n,fs,o,h=>by rw[Pn.pl,Pl.go] at h;cases h;exact fun z=>nomatch z
 |.look t l r,[],o,h=>by rw[Pn.pl,Pl.go] at h;cases h
 |.look t l r,f::fs,o,h=>by
  rw[Pn.pl,zaZ] at h
  cases hf:is1 f with
  |true=>rw[hf] at h;exact zno l fs o h
  |false=>rw[hf] at h;exact zno r fs o h
theorem zmo{p:Pn}(h:p.Ok)(l:p.looks<=5):RuP p.pl p.ex where
 wf:=zlw p [] h
 hi:=by have:=zdi p;lia
 ev:=fun fs nst=>by
  have:=zkh fs nst p e0 []
  simpa using this
 dp:=by have:=zdj p;lia
 de:=by have:=zgJ p;lia
 ns:=zno p
 tok:=zki p h
 tdp:=by have:=zeL p.ex.toW;have:=zdj p;lia
 tct:=by have:=zkj p;lia
end
end D
namespace L2
open PySem
theorem zeM{fr:List Nat}{te:TE}{σ:St}{H:Hp}{F:Addr->Hp->List V->Prop}{n:Int}(Pv:Nat->List V->Hp->Prop)(h0:Pv 0 [] H)(hlen:∀i us H1,Pv i us H1->us.length=i)(hn:n.toNat<=1000000)
  (step:∀(i:Nat)(us:List V)(H1:Hp)(R:VK),i<n.toNat->Pv i us H1->(∀y H2,Pv (i+1) (us++[y]) H2->R y H2)->te (some (.int (0+(i:Int)))::frees fr σ) H1 R)
  (fin:∀(us:List V)(H1:Hp)(D:Addr),Pv n.toNat us H1->H1 D=none->F D H1 us):
  ∃W:Nat->Nat->List V->Hp->Prop,(∃m,W 0 m [] H)/\∀i m us H,W i m us H->us.length<=uQ /\
   (((Itr 0 n.toNat).stop i H/\∀D,H D=none->F D H us) \/
    ((Itr 0 n.toNat).go i H/\∀v H',(Itr 0 n.toNat).yld i H v H'->if true=true then te (some v::frees fr σ) H' fun y H3=>∃m',m'<m/\W (i+1) m' (us++[y]) H3 else ∃m',m'<m/\W (i+1) m' us H')):=by
 refine⟨fun i m us H1=>i<=n.toNat/\m=n.toNat-i/\Pv i us H1,⟨_,yN _,rfl,h0⟩,fun i m us H1 hW=>?_⟩
 obtain⟨hi,hm,hu⟩:=hW
 have hz:(1000000:Nat)<=uQ:=by decide
 refine⟨by rw[hlen _ _ _ hu];lia,?_⟩
 by_cases hlt:i<n.toNat
 ·refine .inr ⟨hlt,fun v H' hy=>?_⟩
  obtain⟨rfl,rfl⟩:=hy
  refine iteT ?_
  exact step i us H' _ hlt hu fun y H2 p2=>⟨n.toNat-(i+1),by lia,by lia,rfl,p2⟩
 ·have e:i=n.toNat:=by lia
  subst e
  exact .inl ⟨yF _,fun D hD=>fin us H1 D hu hD⟩
theorem zhu{K:uZ}{fr:List Nat}{te:TE}{σ:St}{H:Hp}{F:Addr->Hp->List V->Prop}{a:Addr}{vs:List V}(outs:List V)(hS:SqT K H a vs)(hl:outs.length=vs.length)(hz:vs.length<=uQ)
  (step:∀(i:Nat)(v y:V)(H1:Hp)(R:VK),vs[i]?=some v->outs[i]?=some y->Same H H1->(∀H2,Same H1 H2->R y H2)->te (some v::frees fr σ) H1 R)
  (fin:∀(H1:Hp)(D:Addr),Same H H1->H1 D=none->F D H1 outs):
  ∃W:Nat->Nat->List V->Hp->Prop,(∃m,W 0 m [] H)/\∀i m vs H,W i m vs H->vs.length<=uQ /\
   (((Itt K a).stop i H/\∀D,H D=none->F D H vs) \/
    ((Itt K a).go i H/\∀v H',(Itt K a).yld i H v H'->if true=true then te (some v::frees fr σ) H' fun y H3=>∃m',m'<m/\W (i+1) m' (vs++[y]) H3 else ∃m',m'<m/\W (i+1) m' vs H')):=by
 refine⟨fun i m us H1=>i<=vs.length/\m=vs.length-i/\us=outs.take i/\Same H H1,⟨_,yN _,rfl,by simp,Sr _⟩,fun i m us H1 hW=>?_⟩
 obtain⟨hi,hm,hu,sm⟩:=hW
 refine⟨by rw[hu,yU];lia,?_⟩
 by_cases hlt:i<vs.length
 ·refine .inr ⟨⟨vs,vs[i],sm.seqT hS,yA hlt⟩,fun v H' hy=>?_⟩
  obtain⟨rfl,hv⟩:=hy
  have hv:=hv vs (sm.seqT hS)
  have hy:outs[i]?=some outs[i]:=yA (by lia)
  refine iteT ?_
  refine step i v outs[i] H' _ hv hy sm fun H2 s2=>⟨vs.length-(i+1),by lia,by lia,rfl,?_,sm.trans s2⟩
  rw[hu,ZU hy]
 ·have e:i=vs.length:=by lia
  refine .inl ⟨⟨vs,sm.seqT hS,by lia⟩,fun D hD=>?_⟩
  have e2:us=outs:=by rw[hu,xF (by lia)]
  rw[e2]
  exact fin H1 D sm hD
end L2
namespace D
open PySem L2
theorem RW.pair{H:Hp}{a:Addr}{u1 u2:V}{w1 w2:W}(e:H a=some (.tup [u1,u2]))(r1:RW H u1 w1)(r2:RW H u2 w2):RW H (.ref a) (.lst [w1,w2]):=
 .lst e rfl fun i v w hv hw=>match i,hv,hw with
  |0,hv,hw=>by
   have a1:u1=v:=by simpa using hv
   have a2:w1=w:=by simpa using hw
   rw[←a1,←a2];exact r1
  |1,hv,hw=>by
   have a1:u2=v:=by simpa using hv
   have a2:w2=w:=by simpa using hw
   rw[←a1,←a2];exact r2
  |j+2,hv,hw=>by simp at hv
theorem RW.three{H:Hp}{p:Addr}{u v t:V}{x y z:W}(e:H p=some (.tup [u,v,t]))(h1:RW H u x)(h2:RW H v y)(h3:RW H t z):RW H (.ref p) (.lst [x,y,z]):=.lst e rfl fun i a b ha hb=>match i,ha,hb with
 |0,ha,hb=>by
  obtain rfl:u=a:=by simpa using ha
  obtain rfl:x=b:=by simpa using hb
  exact h1
 |1,ha,hb=>by
  obtain rfl:v=a:=by simpa using ha
  obtain rfl:y=b:=by simpa using hb
  exact h2
 |2,ha,hb=>by
  obtain rfl:t=a:=by simpa using ha
  obtain rfl:z=b:=by simpa using hb
  exact h3
 |j+3,ha,hb=>by simp at ha
theorem zlx{names:List Str}{n:Int}(n0:0<=n)(n1:n<names.length):∃z∈names,atI (names.map V.str) n=some (.str z):=by
 have hi:n.toNat<names.length:=by lia
 refine⟨names[n.toNat],yY hi,?_⟩
 have:=zl (xs:=names.map V.str) (j:=n.toNat) (v:=.str names[n.toNat]) (by rw[yK,yA hi];rfl)
 rw[show ((n.toNat:Nat):Int)=n by lia] at this
 exact this
theorem ZZ.ne{H:Hp}{b p:Addr}(h:ZZ H b)(hp:H p=none):p≠b:=fun z=>by
 obtain⟨x,y,w,e⟩:=h
 rw[z,e] at hp
 cases hp
theorem RW.four{H:Hp}{p:Addr}{u v t s:V}{x y z w:W}(e:H p=some (.tup [u,v,t,s]))(h1:RW H u x)(h2:RW H v y)(h3:RW H t z)(h4:RW H s w):RW H (.ref p) (.lst [x,y,z,w]):=.lst e rfl fun i a b ha hb=>match i,ha,hb with
 |0,ha,hb=>by cases ha;cases hb;exact h1
 |1,ha,hb=>by cases ha;cases hb;exact h2
 |2,ha,hb=>by cases ha;cases hb;exact h3
 |3,ha,hb=>by cases ha;cases hb;exact h4
 |j+4,ha,hb=>by simp at ha
theorem RWs.nil0{H:Hp}{us:List V}(h:RWs H us []):us=[]:=xC.mp h.len
noncomputable def zly:List Str:=["kind","great","nought","place"]
noncomputable def zdl:List Str:=["none","shut"]
def zkk(x:W):Prop:=x.Ok/\x.size<=1000/\x.depth<=12
def Wdt(c:Str)(x:W):Prop:=(c∈zly/\x=.txt "")\/(c∈zdl/\∃z,x=.txt z)\/c="cried"
def Gdr:Res->Prop
 |.made x=>zkk x
 |.wrong ws=>∃c x,ws=[.txt c,x]/\zkk x/\Wdt c x
 |.stop=>False
structure Fd(r:Res):Prop where
 ok:ROk r
 ns:r≠.stop
 tok:TOk r.toW.toD
 ct:cnt r.toW.toD<=83
 gd:Gdr r
mutual
theorem zhv:∀w:W,w.Ok->TOk w.toD
 |.num i,h=>by
  have h:-(10 ^ 60)<i/\i<10 ^ 60:=h
  show i.natAbs<big
  have:(10:Nat) ^ 60<big:=by decide +kernel
  have h2:((10:Int) ^ 60)=((10 ^ 60:Nat):Int):=by decide +kernel
  lia
 |.txt x,h=>⟨yM h.1 (by decide),fun c hc=>by have:=h.2 c hc;lia⟩
 |.lst ws,h=>oks_toks ws h.2
theorem oks_toks:∀ws:List W,Oks ws->TOks (toDs ws)
 |[],_=>trivial
 |w::r,h=>⟨zhv w h.1,oks_toks r h.2⟩
end
mutual
theorem zeN:∀w:W,(cnt w.toD:Int)<=w.size
 |.num i=>by simp only[W.toD,cnt,W.size];lia
 |.txt x=>by simp only[W.toD,cnt,W.size];lia
 |.lst ws=>by
  have:=cnts_sizes ws
  simp only[W.toD,cnt,W.size]
  lia
theorem cnts_sizes:∀ws:List W,(cnts (toDs ws):Int)<=sizes ws
 |[]=>by simp only[toDs,cnts,sizes];lia
 |w::r=>by
  have h1:=zeN w
  have h2:=cnts_sizes r
  simp only[toDs,cnts,sizes]
  lia
end
theorem zdm{x:W}(h:x.Ok)(d:(x.depth:Int)<=2)(s:x.size<=80):Fd (.made x):=by
 have:=zeN x
 refine⟨⟨h,by lia⟩,(fun z=>nomatch z),⟨Zu (by decide +kernel),zhv x h,trivial⟩,?_,h,by lia,by lia⟩
 simp only[Res.toW,W.toD,toDs,cnt,cnts]
 lia
theorem Z4{c:Str}{x:W}(oc:(W.txt c).Ok)(h:x.Ok)(d:(x.depth:Int)<=2)(s:x.size<=80)(g:Wdt c x):Fd (.wrong [.txt c,x]):=by
 have:=zeN x
 refine⟨⟨c,x,rfl,zbC _ oc,zbC _ h,by lia⟩,(fun z=>nomatch z),⟨Zu (by decide +kernel),zhv _ oc,zhv x h,trivial⟩,?_,c,x,rfl,⟨h,by lia,by lia⟩,g⟩
 simp only[Res.toW,W.toD,toDs,cnt,cnts]
 lia
def zol:Sp:=fun vs H Q _=>∃b:Addr,vs=[.ref b]/\ZZ H b/\∀(v:V)(r:Res)(H':Hp),RW H' v r.toW->Fd r->Step b H H'->Q v H'
def zhw(n:Nat):Sp:=fun vs H Q _=>∃(b sp tx:Addr)(s:Nat)(ts:List Str),vs=[.ref b,.ref sp,.ref tx]/\ZZ H b/\H sp=some (.lst [.int s])/\sp≠b/\H tx=some (.lst (ts.map V.str))/\tx≠b/\s<n/\s<=5/\ts≠[]/\ts.length<=10/\(∀t∈ts,t.length<=9/\Signs t) /\
 ∀(u:V)(p:Pn)(s':Nat)(H':Hp),RW H' u p.toW->p.Ok->p.looks+s'<=s->H' sp=some (.lst [.int s'])->ZZ H' b->(∀c o,c≠b->c≠sp->H c=some o->H' c=some o)->Q u H'
def zco(n:Nat):Sp:=fun vs H Q _=>∃(u:V)(p:Pn),vs=[u]/\RW H u p.toW/\p.looks<n/\∀(v:V)(H':Hp),Same H H'->RW H' v p.ex.toW->Q v H'
section
variable{P:Program}{w:World}{K:uZ}{mg:Str->Option Value}{base:Heap}{f:Addr}{fd:tD}{k n:Nat}{ARun ATask:Addr}
theorem zdn:FnScope ["_law_box_here","_law_kind","_law_word"] ["_law_box_here"] (zg zeh):=mkSc rfl (by decide +kernel)
theorem zkl(F:Fun K "_law_found" "_law_found" zeh f fd)(G_ltext:Have P w K mg base "_law_text" k ["_law_box_here","_law_most"] (zhb))(G_lworth:Have P w K mg base "_law_worth" k ["_law_box_here","_law_room","_law_deep"] (zeo 13))(G_ltake:Have P w K mg base "_law_take" k ["_law_box_here","_law_wide"] (zcZ))(m_int:mg "int"=none):FnOk P w K mg base CX0 (k+1) f fd ["_law_box_here"] (zol):=by
 refine F.okQ zdn (by rintro _ _ _ _ ⟨_,rfl,_⟩;rfl) fun cdv A outer s H vs Q E hr h=>?_
 obtain⟨b,rfl,hb,q⟩:=h
 refine⟨_,(zd (zx (i:=1) zdn.nd rfl (Or.inl rfl) (zq G_ltake hr rfl (za (pv 0) (za ze zb))))
  (zd (zD (zw Ze (pv 1) ze (nomark _)) (zf (zj (zy (za zu (za (zq G_lworth hr rfl (za (pv 0) (za ze (za ze zb)))) zb))))) zt)
  (zd (zD (zw zf1 (pv 1) ze (nomark _)) (zf (zj (zy (za zu (za (zq G_ltake hr rfl (za (pv 0) (za ze zb))) zb))))) zt)
  (zd (zx (i:=2) zdn.nd rfl (Or.inl rfl) (zo zA (zS (za zu (za zu (za zu (za zu (za zu (za zu (za zu zb)))))))) (zq G_ltake hr rfl (za (pv 0) (za ze zb))) (fun _ _=>rfl)))
  (zd (zD (zw Ze (pv 2) zu (nomark _)) (zf (zj (zy (za zu (za (pv 2) (za (zq G_lworth hr rfl (za (pv 0) (za ze (za ze zb)))) zb)))))) zt)
  (zf (zj (zy (za zu (za (pv 2) (za (zo zA (zS (za (zq G_ltext hr rfl (za (pv 0) (za ze zb))) (za zu zb))) (zM ze7 rfl m_int zcJ (za (zE zaw (pv 2) (zy (za zu (za zu (za zu (za zu zb))))) (by rfl)) zb)) (fun _ _=>rfl)) zb))))))))))),?_⟩
 refine⟨_,rfl,b,4,rfl,hb,by decide,by decide,fun kd H1 k0 k1 st1=>?_⟩
 have md:∀(p:Addr)(t:V)(y:W)(H2:Hp)(hp:H2 p=none),Step b H H2->RW H2 t y->Fd (.made y)->Q (.ref p) (upd H2 p (.tup [.str "made",t])):=fun p t y H2 hp st rt oy=>by
  have s3:=Sn (o:=.tup [.str "made",t]) hp
  exact q _ (.made y) _ (RW.pair zc (.txt _) (rt.mono (zi s3))) oy (st.trans (Step.ofSame st.box s3))
 have wr:∀(p:Addr)(c:Str)(t:V)(y:W)(H2:Hp)(hp:H2 p=none),Step b H H2->RW H2 t y->Fd (.wrong [.txt c,y])->Q (.ref p) (upd H2 p (.tup [.str "wrong",.str c,t])):=fun p c t y H2 hp st rt oy=>by
  have s3:=Sn (o:=.tup [.str "wrong",.str c,t]) hp
  exact q _ (.wrong [.txt c,y]) _ (RW.three zc (.txt _) (.txt _) (rt.mono (zi s3))) oy (st.trans (Step.ofSame st.box s3))
 refine⟨_,rfl,rfl,_,rfl,ite2 (fun _=>?_) (fun _=>?_)⟩
 ·exact⟨_,rfl,b,5,2,rfl,st1.box,by decide,by decide,by decide,by decide,fun v x H2 rx okx dx sx st2=>⟨zl2,fun p hp=>md p v x H2 hp (st1.trans st2) rx (zdm okx dx (by lia))⟩⟩
 refine⟨_,rfl,_,_,rfl,rfl,_,rfl,ite2 (fun _=>?_) (fun _=>?_)⟩
 ·exact⟨_,rfl,b,3,rfl,st1.box,by decide,by decide,fun m H2 m0 m1 st2=>⟨zl2,fun p hp=>md p _ (.num m) H2 hp (st1.trans st2) (.num m) (zdm ⟨by lia,by lia⟩ (by show ((0:Nat):Int)<=2;decide) (by show (1:Int)<=80;decide))⟩⟩
 refine⟨zl7,fun l hl=>?_⟩
 have st2:=st1.trans (Step.new (o:=.lst [.str "kind",.str "great",.str "nought",.str "place",.str "none",.str "shut",.str "cried"]) st1.box hl)
 have el:upd H1 l (.lst [.str "kind",.str "great",.str "nought",.str "place",.str "none",.str "shut",.str "cried"]) l=some (.lst [.str "kind",.str "great",.str "nought",.str "place",.str "none",.str "shut",.str "cried"]):=zc
 have nlb:l≠b:=ZZ.ne st1.box hl
 generalize upd H1 l (.lst [.str "kind",.str "great",.str "nought",.str "place",.str "none",.str "shut",.str "cried"])=H2 at st2 el
 refine⟨_,rfl,b,7,rfl,st2.box,by decide,by decide,fun m H3 m0 m1 st3=>?_⟩
 have el3:=st3.keep l _ nlb el
 have st:=st2.trans st3
 have ed:∀s:Str,s.length<=400->Signs s->(W.txt s).Ok:=fun s a b=>⟨a,b⟩
 have e0:(W.txt "").Ok:=zag (by decide +kernel) (by decide +kernel)
 have hm:m=0\/m=1\/m=2\/m=3\/m=4\/m=5\/m=6:=by lia
 rcases hm with rfl|rfl|rfl|rfl|rfl|rfl|rfl
 ·refine⟨l,_,0,.str "kind",rfl,rfl,Sl el3,zl (j:=0) rfl,?_⟩
  dsimp only[Zj]
  refine⟨_,rfl,rfl,_,rfl,iteF ?_⟩
  refine⟨_,rfl,_,rfl,b,9,rfl,st.box,by decide,by decide,fun x H4 hx sx st4=>⟨zl2,fun l2 hl2=>⟨_,rfl,zl4,fun t ht=>⟨t,_,rfl,.inr (Sq zc),rfl,rfl,.inr ⟨_,rfl,l2,[.str x,.str ""],1,.str "",rfl,rfl,Sl ?_,zl (j:=1) rfl,zl3,fun p hp=>?_⟩⟩⟩⟩⟩
  ·rw[zm (zh zc ht)];exact zc
  ·have sa:=Sn (o:=.lst [.str x,.str ""]) hl2
   have sb:=Sn (o:=.tup [.str "kind",.str "great",.str "nought",.str "place"]) ht
   have st5:=st.trans st4
   exact wr p "kind" _ (.txt "") _ hp (st5.trans (Step.ofSame st5.box (sa.trans sb))) (.txt _) (Z4 (zag (by decide +kernel) (by decide +kernel)) e0 (by show ((0:Nat):Int)<=2;decide) (by decide +kernel) (.inl ⟨by decide +kernel,rfl⟩))
 ·refine⟨l,_,1,.str "great",rfl,rfl,Sl el3,zl (j:=1) rfl,?_⟩
  dsimp only[Zj]
  refine⟨_,rfl,rfl,_,rfl,iteF ?_⟩
  refine⟨_,rfl,_,rfl,b,9,rfl,st.box,by decide,by decide,fun x H4 hx sx st4=>⟨zl2,fun l2 hl2=>⟨_,rfl,zl4,fun t ht=>⟨t,_,rfl,.inr (Sq zc),rfl,rfl,.inr ⟨_,rfl,l2,[.str x,.str ""],1,.str "",rfl,rfl,Sl ?_,zl (j:=1) rfl,zl3,fun p hp=>?_⟩⟩⟩⟩⟩
  ·rw[zm (zh zc ht)];exact zc
  ·have sa:=Sn (o:=.lst [.str x,.str ""]) hl2
   have sb:=Sn (o:=.tup [.str "kind",.str "great",.str "nought",.str "place"]) ht
   have st5:=st.trans st4
   exact wr p "great" _ (.txt "") _ hp (st5.trans (Step.ofSame st5.box (sa.trans sb))) (.txt _) (Z4 (zag (by decide +kernel) (by decide +kernel)) e0 (by show ((0:Nat):Int)<=2;decide) (by decide +kernel) (.inl ⟨by decide +kernel,rfl⟩))
 ·refine⟨l,_,2,.str "nought",rfl,rfl,Sl el3,zl (j:=2) rfl,?_⟩
  dsimp only[Zj]
  refine⟨_,rfl,rfl,_,rfl,iteF ?_⟩
  refine⟨_,rfl,_,rfl,b,9,rfl,st.box,by decide,by decide,fun x H4 hx sx st4=>⟨zl2,fun l2 hl2=>⟨_,rfl,zl4,fun t ht=>⟨t,_,rfl,.inr (Sq zc),rfl,rfl,.inr ⟨_,rfl,l2,[.str x,.str ""],1,.str "",rfl,rfl,Sl ?_,zl (j:=1) rfl,zl3,fun p hp=>?_⟩⟩⟩⟩⟩
  ·rw[zm (zh zc ht)];exact zc
  ·have sa:=Sn (o:=.lst [.str x,.str ""]) hl2
   have sb:=Sn (o:=.tup [.str "kind",.str "great",.str "nought",.str "place"]) ht
   have st5:=st.trans st4
   exact wr p "nought" _ (.txt "") _ hp (st5.trans (Step.ofSame st5.box (sa.trans sb))) (.txt _) (Z4 (zag (by decide +kernel) (by decide +kernel)) e0 (by show ((0:Nat):Int)<=2;decide) (by decide +kernel) (.inl ⟨by decide +kernel,rfl⟩))
 ·refine⟨l,_,3,.str "place",rfl,rfl,Sl el3,zl (j:=3) rfl,?_⟩
  dsimp only[Zj]
  refine⟨_,rfl,rfl,_,rfl,iteF ?_⟩
  refine⟨_,rfl,_,rfl,b,9,rfl,st.box,by decide,by decide,fun x H4 hx sx st4=>⟨zl2,fun l2 hl2=>⟨_,rfl,zl4,fun t ht=>⟨t,_,rfl,.inr (Sq zc),rfl,rfl,.inr ⟨_,rfl,l2,[.str x,.str ""],1,.str "",rfl,rfl,Sl ?_,zl (j:=1) rfl,zl3,fun p hp=>?_⟩⟩⟩⟩⟩
  ·rw[zm (zh zc ht)];exact zc
  ·have sa:=Sn (o:=.lst [.str x,.str ""]) hl2
   have sb:=Sn (o:=.tup [.str "kind",.str "great",.str "nought",.str "place"]) ht
   have st5:=st.trans st4
   exact wr p "place" _ (.txt "") _ hp (st5.trans (Step.ofSame st5.box (sa.trans sb))) (.txt _) (Z4 (zag (by decide +kernel) (by decide +kernel)) e0 (by show ((0:Nat):Int)<=2;decide) (by decide +kernel) (.inl ⟨by decide +kernel,rfl⟩))
 ·refine⟨l,_,4,.str "none",rfl,rfl,Sl el3,zl (j:=4) rfl,?_⟩
  dsimp only[Zj]
  refine⟨_,rfl,rfl,_,rfl,iteF ?_⟩
  refine⟨_,rfl,_,rfl,b,9,rfl,st.box,by decide,by decide,fun x H4 hx sx st4=>⟨zl2,fun l2 hl2=>⟨_,rfl,zl4,fun t ht=>⟨t,_,rfl,.inr (Sq zc),rfl,rfl,.inr ⟨_,rfl,l2,[.str x,.str ""],0,.str x,rfl,rfl,Sl ?_,zl (j:=0) rfl,zl3,fun p hp=>?_⟩⟩⟩⟩⟩
  ·rw[zm (zh zc ht)];exact zc
  ·have sa:=Sn (o:=.lst [.str x,.str ""]) hl2
   have sb:=Sn (o:=.tup [.str "kind",.str "great",.str "nought",.str "place"]) ht
   have st5:=st.trans st4
   exact wr p "none" _ (.txt x) _ hp (st5.trans (Step.ofSame st5.box (sa.trans sb))) (.txt _) (Z4 (zag (by decide +kernel) (by decide +kernel)) (ed x (by lia) sx) (by show ((0:Nat):Int)<=2;decide) (by show (1:Int)+(x.length:Int)<=80;lia) (.inr (.inl ⟨by decide +kernel,_,rfl⟩)))
 ·refine⟨l,_,5,.str "shut",rfl,rfl,Sl el3,zl (j:=5) rfl,?_⟩
  dsimp only[Zj]
  refine⟨_,rfl,rfl,_,rfl,iteF ?_⟩
  refine⟨_,rfl,_,rfl,b,9,rfl,st.box,by decide,by decide,fun x H4 hx sx st4=>⟨zl2,fun l2 hl2=>⟨_,rfl,zl4,fun t ht=>⟨t,_,rfl,.inr (Sq zc),rfl,rfl,.inr ⟨_,rfl,l2,[.str x,.str ""],0,.str x,rfl,rfl,Sl ?_,zl (j:=0) rfl,zl3,fun p hp=>?_⟩⟩⟩⟩⟩
  ·rw[zm (zh zc ht)];exact zc
  ·have sa:=Sn (o:=.lst [.str x,.str ""]) hl2
   have sb:=Sn (o:=.tup [.str "kind",.str "great",.str "nought",.str "place"]) ht
   have st5:=st.trans st4
   exact wr p "shut" _ (.txt x) _ hp (st5.trans (Step.ofSame st5.box (sa.trans sb))) (.txt _) (Z4 (zag (by decide +kernel) (by decide +kernel)) (ed x (by lia) sx) (by show ((0:Nat):Int)<=2;decide) (by show (1:Int)+(x.length:Int)<=80;lia) (.inr (.inl ⟨by decide +kernel,_,rfl⟩)))
 ·refine⟨l,_,6,.str "cried",rfl,rfl,Sl el3,zl (j:=6) rfl,?_⟩
  dsimp only[Zj]
  refine⟨_,rfl,rfl,_,rfl,iteT ?_⟩
  exact⟨_,rfl,_,rfl,b,5,2,rfl,st.box,by decide,by decide,by decide,by decide,fun v x H4 rx okx dx sx st4=>⟨zl3,fun p hp=>wr p "cried" v x H4 hp (st.trans st4) rx (Z4 (zag (by decide +kernel) (by decide +kernel)) okx dx (by lia) (.inr (.inr rfl)))⟩⟩
theorem zeO:FnScope ["_law_box_here","_law_spare","_law_texts","_law_text_here","_law_left"] ["_law_box_here","_law_spare","_law_texts"] (zg zgf):=mkSc rfl (by decide +kernel)
theorem zlz{n:Nat}(F:Fun K "_law_plan" "_law_plan" zgf f fd)(G_lplan:Have P w K mg base "_law_plan" k ["_law_box_here","_law_spare","_law_texts"] (zhw n))(G_ltake:Have P w K mg base "_law_take" k ["_law_box_here","_law_wide"] (zcZ))(m_len:mg "len"=none):FnOk P w K mg base CX0 (k+1) f fd ["_law_box_here","_law_spare","_law_texts"] (zhw (n+1)):=by
 refine F.okQ zeO (by rintro _ _ _ _ ⟨_,_,_,_,_,rfl,_⟩;rfl) fun cdv A outer s H vs Q E hr h=>?_
 obtain⟨b,sp,tx,s,ts,rfl,hb,hsp,nsb,htx,ntb,hn,h5,hne,ht10,hts,q⟩:=h
 refine⟨_,(zd (zD (PW.pt (ZX (zw Ze (zo zA (pv 1) ze (fun _ _=>rfl)) ze (nomark _)) (ZI (zw Ze (zq G_ltake hr rfl (za (pv 0) (za ze zb))) ze (nomark _))))) (zf (zj (zy (za (zo zA (zS (za zu (za zu zb))) (zq G_ltake hr rfl (za (pv 0) (za ze zb))) (fun _ _=>rfl)) (za (zq G_ltake hr rfl (za (pv 0) (za ze zb))) zb))))) zt)
  (zd (zau (zC ZJ (zo zA (pv 1) ze (fun _ _=>rfl)) ze) (zcv (pv 1) ze zbx))
  (zd (zx (i:=3) zeO.nd rfl (Or.inl rfl) (zo zA (pv 2) (zq G_ltake hr rfl (za (pv 0) (za (zk zB rfl m_len uO (za (pv 2) zb)) zb))) (fun _ _=>rfl)))
  (zd (zx (i:=4) zeO.nd rfl (Or.inl rfl) (zq G_lplan hr rfl (za (pv 0) (za (pv 1) (za (pv 2) zb)))))
  (zf (zj (zy (za zu (za (pv 3) (za (pv 4) (za (zq G_lplan hr rfl (za (pv 0) (za (pv 1) (za (pv 2) zb)))) zb))))))))))),?_⟩
 have lf:∀(p:Addr)(P:Pn)(m:Int)(H4:Hp),Step b H H4->H4 p=none->∀{o:HO},(∀H':Hp,H' p=some o->RW H' (.ref p) P.toW)->P.Ok->P.looks=0->Q (.ref p) (upd H4 p o):=fun p P m H4 st hp o rw' ok lk=>by
  have s5:=Sn (o:=o) hp
  have st5:=st.trans (Step.ofSame st.box s5)
  exact q _ P s _ (rw' _ zc) ok (by lia) (st5.keep sp _ nsb hsp) st5.box (fun c o hc _ e=>st5.keep c o hc e)
 refine⟨_,rfl,sp,_,0,_,rfl,rfl,Sl hsp,rfl,rfl,_,rfl,ite2 (fun _=>iteT ?_) (fun hs0=>?_)⟩
 ·refine⟨zl2,fun l hl=>?_⟩
  have el:upd H l (.lst [.str "made",.str "cried"]) l=some (.lst [.str "made",.str "cried"]):=zc
  have st2:=(Step.refl hb).trans (Step.new (o:=.lst [.str "made",.str "cried"]) (Step.refl hb).box hl)
  have nlb:l≠b:=ZZ.ne (Step.refl hb).box hl
  generalize upd H l (.lst [.str "made",.str "cried"])=H2 at st2 el
  refine⟨_,rfl,b,2,rfl,st2.box,by decide,by decide,fun m H3 m0 m1 st3=>?_⟩
  have el3:=st3.keep l _ nlb el
  have hm:m=0\/m=1:=by lia
  rcases hm with rfl|rfl
  ·exact⟨l,[.str "made",.str "cried"],0,.str "made",rfl,rfl,Sl el3,zl (j:=0) rfl,_,rfl,b,1000,rfl,st3.box,by decide,by decide,fun m H4 m0 m1 st4=>⟨zl2,fun p hp=>lf p (.made m) m H4 ((st2.trans st3).trans st4) hp (fun H e=>RW.pair e (.txt _) (.num m)) ⟨m0,m1⟩ rfl⟩⟩
  ·exact⟨l,[.str "made",.str "cried"],1,.str "cried",rfl,rfl,Sl el3,zl (j:=1) rfl,_,rfl,b,1000,rfl,st3.box,by decide,by decide,fun m H4 m0 m1 st4=>⟨zl2,fun p hp=>lf p (.cried m) m H4 ((st2.trans st3).trans st4) hp (fun H e=>RW.pair e (.txt _) (.num m)) ⟨m0,m1⟩ rfl⟩⟩
 have hs1:0<s:=Nat.pos_of_ne_zero fun z=>hs0 (by rw[z];rfl)
 refine⟨_,rfl,b,4,rfl,hb,by decide,by decide,fun m4 H1 _ _ st1=>⟨rfl,_,rfl,ite2 (fun _=>?_) (fun _=>?_)⟩⟩
 ·refine⟨zl2,fun l hl=>?_⟩
  have el:upd H1 l (.lst [.str "made",.str "cried"]) l=some (.lst [.str "made",.str "cried"]):=zc
  have st2:=st1.trans (Step.new (o:=.lst [.str "made",.str "cried"]) st1.box hl)
  have nlb:l≠b:=ZZ.ne st1.box hl
  generalize upd H1 l (.lst [.str "made",.str "cried"])=H2 at st2 el
  refine⟨_,rfl,b,2,rfl,st2.box,by decide,by decide,fun m H3 m0 m1 st3=>?_⟩
  have el3:=st3.keep l _ nlb el
  have hm:m=0\/m=1:=by lia
  rcases hm with rfl|rfl
  ·exact⟨l,[.str "made",.str "cried"],0,.str "made",rfl,rfl,Sl el3,zl (j:=0) rfl,_,rfl,b,1000,rfl,st3.box,by decide,by decide,fun m H4 m0 m1 st4=>⟨zl2,fun p hp=>lf p (.made m) m H4 ((st2.trans st3).trans st4) hp (fun H e=>RW.pair e (.txt _) (.num m)) ⟨m0,m1⟩ rfl⟩⟩
  ·exact⟨l,[.str "made",.str "cried"],1,.str "cried",rfl,rfl,Sl el3,zl (j:=1) rfl,_,rfl,b,1000,rfl,st3.box,by decide,by decide,fun m H4 m0 m1 st4=>⟨zl2,fun p hp=>lf p (.cried m) m H4 ((st2.trans st3).trans st4) hp (fun H e=>RW.pair e (.txt _) (.num m)) ⟨m0,m1⟩ rfl⟩⟩
 have hsp1:=st1.keep sp _ nsb hsp
 obtain⟨s0,rfl⟩:∃s0,s=s0+1:=⟨s-1,by lia⟩
 refine⟨_,rfl,sp,_,0,_,rfl,rfl,Sl hsp1,rfl,_,_,rfl,rfl,_,rfl,sp,_,0,0,rfl,rfl,hsp1,rfl,?_⟩
 have e2:upd H1 sp (.lst ([V.int ((s0+1:Nat):Int)].set 0 (.int (((s0+1:Nat):Int)-1))))=upd H1 sp (.lst [.int (s0:Int)]):=by
  rw[show (((s0+1:Nat):Int)-1)=(s0:Int) by lia]
  rfl
 rw[e2]
 have hb2:ZZ (upd H1 sp (.lst [.int (s0:Int)])) b:=by
  obtain⟨x,y,z,e⟩:=st1.box
  exact⟨x,y,z,by rw[zm nsb.symm];exact e⟩
 have hsp2:upd H1 sp (.lst [.int (s0:Int)]) sp=some (.lst [.int (s0:Int)]):=zc
 have nst:tx≠sp:=fun z=>by
  rw[z,hsp] at htx
  have:ts.map V.str=[.int ((s0+1:Nat):Int)]:=by injection htx with h;injection h with h;exact h.symm
  cases ts with
  |nil=>cases this
  |cons t r=>simp at this
 have htx2:upd H1 sp (.lst [.int (s0:Int)]) tx=some (.lst (ts.map V.str)):=by rw[zm nst];exact st1.keep tx _ ntb htx
 have kp2:∀c o,c≠b->c≠sp->H c=some o->upd H1 sp (.lst [.int (s0:Int)]) c=some o:=fun c o c1 c2 e=>by rw[zm c2];exact st1.keep c o c1 e
 generalize upd H1 sp (.lst [.int (s0:Int)])=H2 at hb2 hsp2 htx2 kp2
 have hpos:0<ts.length:=vA.mpr hne
 refine⟨_,rfl,_,rfl,_,rfl,_,_,rfl,.inl ⟨_,Sl htx2,rfl⟩,b,_,rfl,hb2,by rw[yB];lia,by rw[yB];lia,fun m H3 m0 m1 st3=>?_⟩
 rw[yB] at m1
 obtain⟨z,hzm,hat⟩:=zlx m0 m1
 refine⟨tx,_,m,_,rfl,rfl,Sl (st3.keep tx _ ntb htx2),hat,?_⟩
 dsimp only[Zj]
 have kp3:∀c o,c≠b->c≠sp->H c=some o->H3 c=some o:=fun c o c1 c2 e=>st3.keep c o c1 (kp2 c o c1 c2 e)
 refine⟨_,rfl,_,rfl,_,rfl,b,sp,tx,s0,ts,rfl,st3.box,st3.keep sp _ nsb hsp2,nsb,st3.keep tx _ ntb htx2,ntb,by lia,by lia,hne,ht10,hts,fun u1 p1 s1 H4 ru1 ok1 lk1 hs4 hb4 kp4=>?_⟩
 have htx4:=kp4 tx _ ntb nst (st3.keep tx _ ntb htx2)
 refine⟨_,rfl,_,rfl,_,rfl,_,rfl,_,rfl,b,sp,tx,s1,ts,rfl,hb4,hs4,nsb,htx4,ntb,by lia,by lia,hne,ht10,hts,fun u2 p2 s2 H5 ru2 ok2 lk2 hs5 hb5 kp5=>⟨zl4,fun a ha=>?_⟩⟩
 have s6:=Sn (o:=.tup [.str "look",.str z,u1,u2]) ha
 have t45:Tups H4 H5:=fun c vs e=>kp5 c _ (fun z=>by obtain⟨x,y,w,e'⟩:=hb4;rw[z,e'] at e;cases e) (fun z=>by rw[z,hs4] at e;cases e) e
 obtain⟨x,y,w',eb⟩:=hb5
 exact q _ (.look z p1 p2) s2 _ (RW.four zc (.txt _) (.txt _) ((ru1.mono t45).mono (zi s6)) (ru2.mono (zi s6))) ⟨hts z hzm,ok1,ok2⟩ (by show 1+p1.looks+p2.looks+s2<=s0+1;lia) (s6 _ _ hs5) ⟨x,y,w',s6 _ _ eb⟩ (fun c o c1 c2 e=>s6 _ _ (kp5 c o c1 c2 (kp4 c o c1 c2 (kp3 c o c1 c2 e))))
theorem zbq:FnScope ["_law_plan_here","_law_look","_law_choice"] ["_law_plan_here"] (zg zb2):=mkSc rfl (by decide +kernel)
theorem zgK{n:Nat}(F:Fun K "_law_rule_of" "_law_rule_of" zb2 f fd)(G_lrule_of:Have P w K mg base "_law_rule_of" k ["_law_plan_here"] (zco n)):FnOk P w K mg base CX0 (k+1) f fd ["_law_plan_here"] (zco (n+1)):=by
 refine F.okQ zbq (by rintro _ _ _ _ ⟨_,_,rfl,_⟩;rfl) fun cdv A outer s H vs Q E hr h=>?_
 obtain⟨u,p,rfl,ru,hn,q⟩:=h
 refine⟨_,(zd (zD (zw Ze (zo zr (pv 0) ze (fun _ _=>rfl)) zu (nomark _)) (zf (zj (zy (za zu (za (zo zr (pv 0) ze (fun _ _=>rfl)) zb))))) zt)
  (zd (zD (zw Ze (zo zr (pv 0) ze (fun _ _=>rfl)) zu (nomark _)) (zf (zj (zy (za zu (za (zy (za zu (za (zo zr (pv 0) ze (fun _ _=>rfl)) zb))) zb))))) zt)
  (zd (zx (i:=1) zbq.nd rfl (Or.inl rfl) (zy (za zu (za (zy (za zu (za (zy (za zu (za (zo zr (pv 0) ze (fun _ _=>rfl)) zb))) zb))) (za (zy (za zu (za ze zb))) zb)))))
  (zd (zx (i:=2) zbq.nd rfl (Or.inl rfl) (zy (za zu (za (zy (za zu (za (zy (za zu (za zu zb))) (za (zy (za zu (za ze zb))) zb)))) (za (zq G_lrule_of hr rfl (za (zo zr (pv 0) ze (fun _ _=>rfl)) zb)) (za (zq G_lrule_of hr rfl (za (zo zr (pv 0) ze (fun _ _=>rfl)) zb)) zb))))))
  (zf (zj (zy (za zu (za zu (za (pv 1) (za (pv 2) zb))))))))))),?_⟩
 cases p with
 |made m=>
  rw[Pn.toW] at ru
  obtain⟨a,us,rfl,ea,hw⟩:=ru.tup
  obtain⟨u0,us,rfl,r0,hw⟩:=hw.cons
  obtain⟨u1,us,rfl,r1,hw⟩:=hw.cons
  obtain rfl:=RWs.nil0 hw
  obtain rfl:=r0.str
  refine⟨_,rfl,a,_,0,_,rfl,rfl,Sq ea,zl (j:=0) rfl,rfl,_,rfl,iteT ?_⟩
  refine⟨_,rfl,a,_,1,_,rfl,rfl,Sq ea,zl (j:=1) rfl,zl2,fun p hp=>?_⟩
  have s1:=Sn (o:=.tup [.str "lit",u1]) hp
  exact q _ _ s1 (RW.pair zc (.txt _) (r1.mono (zi s1)))
 |cried m=>
  rw[Pn.toW] at ru
  obtain⟨a,us,rfl,ea,hw⟩:=ru.tup
  obtain⟨u0,us,rfl,r0,hw⟩:=hw.cons
  obtain⟨u1,us,rfl,r1,hw⟩:=hw.cons
  obtain rfl:=RWs.nil0 hw
  obtain rfl:=r0.str
  refine⟨_,rfl,a,_,0,_,rfl,rfl,Sq ea,zl (j:=0) rfl,rfl,_,rfl,iteF ?_⟩
  refine⟨_,rfl,a,_,0,_,rfl,rfl,Sq ea,zl (j:=0) rfl,rfl,_,rfl,iteT ?_⟩
  refine⟨_,rfl,a,_,1,_,rfl,rfl,Sq ea,zl (j:=1) rfl,zl2,fun p hp=>⟨zl2,fun p2 hp2=>?_⟩⟩
  have s1:=Sn (o:=.tup [.str "lit",u1]) hp
  have s2:=Sn (o:=.tup [.str "cry",.ref p]) hp2
  exact q _ _ (s1.trans s2) (RW.pair zc (.txt _) (RW.pair (s2 _ _ zc) (.txt _) ((r1.mono (zi s1)).mono (zi s2))))
 |look t l r=>
  rw[Pn.toW] at ru
  obtain⟨a,us,rfl,ea,hw⟩:=ru.tup
  obtain⟨u0,us,rfl,r0,hw⟩:=hw.cons
  obtain⟨u1,us,rfl,r1,hw⟩:=hw.cons
  obtain⟨u2,us,rfl,r2,hw⟩:=hw.cons
  obtain⟨u3,us,rfl,r3,hw⟩:=hw.cons
  obtain rfl:=RWs.nil0 hw
  obtain rfl:=r0.str
  obtain rfl:=r1.str
  have hlk:1+l.looks+r.looks<n+1:=hn
  refine⟨_,rfl,a,_,0,_,rfl,rfl,Sq ea,zl (j:=0) rfl,rfl,_,rfl,iteF ?_⟩
  refine⟨_,rfl,a,_,0,_,rfl,rfl,Sq ea,zl (j:=0) rfl,rfl,_,rfl,iteF ?_⟩
  refine⟨_,rfl,a,_,1,_,rfl,rfl,Sq ea,zl (j:=1) rfl,zl2,fun p1 hp1=>⟨zl2,fun p2 hp2=>⟨zl2,fun p3 hp3=>⟨zl3,fun p4 hp4=>?_⟩⟩⟩⟩
  have s1:=Sn (o:=.tup [.str "lit",.str t]) hp1
  have s2:=Sn (o:=.tup [.str "look",.ref p1]) hp2
  have s3:=Sn (o:=.tup [.str "lit",.int 0]) hp3
  have s4:=Sn (o:=.tup [.str "else",.ref p2,.ref p3]) hp4
  have w4:=RW.three (p:=p4) zc (.txt "else") (RW.pair ((s3.trans s4) _ _ zc) (.txt "look") (RW.pair (((s2.trans s3).trans s4) _ _ zc) (.txt "lit") (.txt t))) (RW.pair (s4 _ _ zc) (.txt "lit") (.num 0))
  have sA:=((s1.trans s2).trans s3).trans s4
  generalize upd (upd (upd (upd H p1 _) p2 _) p3 _) p4 _=HA at sA w4
  dsimp only[Zj]
  refine⟨zl2,fun p5 hp5=>⟨zl2,fun p6 hp6=>⟨zl3,fun p7 hp7=>?_⟩⟩⟩
  have s5:=Sn (o:=.tup [.str "var",.str "a"]) hp5
  have s6:=Sn (o:=.tup [.str "lit",.int 1]) hp6
  have s7:=Sn (o:=.tup [.str "same",.ref p5,.ref p6]) hp7
  have w7:=RW.three (p:=p7) zc (.txt "same") (RW.pair ((s6.trans s7) _ _ zc) (.txt "var") (.txt "a")) (RW.pair (s7 _ _ zc) (.txt "lit") (.num 1))
  have sB:=(s5.trans s6).trans s7
  generalize upd (upd (upd HA p5 _) p6 _) p7 _=HB at sB w7
  have sAB:=sA.trans sB
  refine⟨_,rfl,a,_,2,_,rfl,rfl,Sq (sAB _ _ ea),zl (j:=2) rfl,u2,l,rfl,r2.mono (zi sAB),by lia,fun v2 H2 g2 w2=>?_⟩
  refine⟨_,rfl,a,_,3,_,rfl,rfl,Sq (g2 _ _ (sAB _ _ ea)),zl (j:=3) rfl,u3,r,rfl,(r3.mono (zi sAB)).mono (zi g2),by lia,fun v3 H3 g3 w3=>⟨zl4,fun p8 hp8=>?_⟩⟩
  have s8:=Sn (o:=.tup [.str "if",.ref p7,v2,v3]) hp8
  have w8:=RW.four (p:=p8) zc (.txt "if") (((w7.mono (zi g2)).mono (zi g3)).mono (zi s8)) ((w2.mono (zi g3)).mono (zi s8)) (w3.mono (zi s8))
  dsimp only[Zj]
  refine⟨_,rfl,_,rfl,zl4,fun p9 hp9=>?_⟩
  have s9:=Sn (o:=.tup [.str "let",.str "a",.ref p4,.ref p8]) hp9
  have sC:=(((sB.trans g2).trans g3).trans s8).trans s9
  exact q _ _ (sA.trans sC) (RW.four zc (.txt _) (.txt _) (w4.mono (zi sC)) (w8.mono (zi s9)))
theorem znp{K:uZ}{H:Hp}{v:V}:∀{r:Res},r≠.stop->RW H v r.toW->RRes K H v r
 |.made x,_,h=>by
  obtain⟨p,vs,rfl,e,hw⟩:=h.tup
  obtain⟨q,us,rfl,rq,hw⟩:=hw.cons
  obtain⟨r,us,rfl,rr,hw⟩:=hw.cons
  obtain rfl:=RWs.nil0 hw
  obtain rfl:=rq.str
  exact⟨p,r,rfl,Sq e,rr⟩
 |.wrong ws,_,h=>RW.toRS h
 |.stop,n,_=>absurd rfl n
theorem eg0:EG [] e0:=fun s hs=>nomatch hs
structure Fo(H:Hp)(us:List V)(fs:List Res):Prop where
 rs:RWs H us (fs.map Res.toW)
 fd:∀r∈fs,Fd r
 few:fs.length<=5
theorem Fo.len{H:Hp}{us:List V}{fs:List Res}(h:Fo H us fs):us.length=fs.length:=by rw[h.rs.len,yB]
theorem Fo.mono{H H':Hp}{us:List V}{fs:List Res}(h:Fo H us fs)(t:Tups H H'):Fo H' us fs:=⟨h.rs.mono t,h.fd,h.few⟩
theorem Fo.ns{H:Hp}{us:List V}{fs:List Res}(h:Fo H us fs):∀r∈fs,r≠Res.stop:=fun r hr=>(h.fd r hr).ns
theorem Fo.ok{H:Hp}{us:List V}{fs:List Res}(h:Fo H us fs):∀r∈fs,ROk r:=fun r hr=>(h.fd r hr).ok
theorem Fo.at{H:Hp}{us:List V}{fs:List Res}(h:Fo H us fs){i:Nat}{v:V}{r:Res}(hv:us[i]?=some v)(hr:fs[i]?=some r):RW H v r.toW:=h.rs.at' i v _ hv (by rw[yK,hr];rfl)
theorem Fo.res{K:uZ}{H:Hp}{us:List V}{fs:List Res}(h:Fo H us fs):∀(i:Nat)(v:V)(r:Res),us[i]?=some v->fs[i]?=some r->RRes K H v r:=fun i v r hv hr=>znp (h.ns r (yS hr)) (h.at hv hr)
theorem Fo.fine{H:Hp}{us:List V}{fs:List Res}(h:Fo H us fs){x:Ex}(hw:Wf x []):Fine fs x e0 []:=(zal h.ns h.ok (by have:=h.few;lia) x [] e0 [] hw eg0 (yN _)).1
theorem Fo.nil{H:Hp}:Fo H [] []:=⟨⟨rfl,fun i v w e=>by simp at e⟩,fun r h=>(nomatch h),yN _⟩
theorem Fd.lst{r:Res}(h:Fd r):∃ws,r.toW=.lst ws/\depths ws<=12:=by
 have:=h.ok.dp
 cases r with
 |stop=>exact absurd rfl h.ns
 |made x=>exact⟨_,rfl,by simp only[Res.toW,W.depth] at this;lia⟩
 |wrong ws=>exact⟨_,rfl,by simp only[Res.toW,W.depth] at this;lia⟩
def zgL(K:uZ):Sp:=fun vs H Q _=>∃(u:V)(fl:Addr)(us:List V)(fs:List Res)(p:Pn),vs=[u,.ref fl]/\RW H u p.toW/\p.Ok/\SqL K H fl us/\Fo H us fs /\
 ∀(a ln:Addr)(o:V)(H':Hp),Same H H'->H ln=none->H' a=some (.tup [.ref ln,o])->H' ln=some (.lst ((p.pl.go fs).1.map V.str))->((p.pl.go fs).2=none->o=.non)->(∀r,(p.pl.go fs).2=some r->RW H' o r.toW/\Fd r)->Q (.ref a) H'
theorem zeP:FnScope ["_law_plan_here","_law_founds","_law_names"] ["_law_plan_here","_law_founds"] (zg zgg):=mkSc rfl (by decide +kernel)
theorem zlA(F:Fun K "_law_gone" "_law_gone" zgg f fd)(m_int:mg "int"=none)(m_len:mg "len"=none):FnOk P w K mg base CX0 (k+1) f fd ["_law_plan_here","_law_founds"] (zgL K):=by
 refine F.okQ zeP (by rintro _ _ _ _ ⟨_,_,_,_,_,rfl,_⟩;rfl) fun cdv A outer s H vs Q E hr h=>?_
 obtain⟨u,fl,us,fs,p,rfl,ru,okp,hfl,fo,q⟩:=h
 refine⟨_,(zd (zx (i:=2) zeP.nd rfl (Or.inl rfl) (zS zb))
  (zd (zbt uV (zw Ze (zo zr (pv 0) ze (fun _ _=>rfl)) zu (nomark _)) (zd (Zc (zcc uW uY uX zax (pv 2) (za (zo zr (pv 0) ze (fun _ _=>rfl)) zb)))
  (zd (zD (zw zcA (zk zB rfl m_len uO (za (pv 2) zb)) (zk zB rfl m_len uO (za (pv 1) zb)) (nomark _)) (zf (zj (zy (za (pv 2) (za zaM zb))))) zt)
  (zf (zx (i:=0) zeP.nd rfl (Or.inl rfl) (zo zr (pv 0) (zC Zk ze (zM ze7 rfl m_int zcJ (za (zE (zev hr.units) (zo zA (pv 1) (zC ZJ (zk zB rfl m_len uO (za (pv 2) zb)) ze) (fun _ _=>rfl)) (zy (za zu (za ze zb))) (nomark _)) zb))) (fun _ _=>rfl)))))))
  (zd (zD (zw Ze (zo zr (pv 0) ze (fun _ _=>rfl)) zu (nomark _)) (zf (zj (zy (za (pv 2) (za (zy (za zu (za (zo zr (pv 0) ze (fun _ _=>rfl)) zb))) zb))))) zt)
  (zf (zj (zy (za (pv 2) (za (zy (za zu (za zu (za (zo zr (pv 0) ze (fun _ _=>rfl)) zb)))) zb)))))))),?_⟩
 refine⟨zl0,fun ln hln=>?_⟩
 dsimp only[Zj]
 have s1:=Sn (o:=.lst []) hln
 have eln:upd H ln (.lst []) ln=some (.lst []):=zc
 generalize upd H ln (.lst [])=H1 at s1 eln
 refine⟨fun m σ' H'=>∃(v:V)(p':Pn)(ns:Ns),m=p'.looks/\σ'=[some v,some (.ref fl),some (.ref ln)]/\Same H H'/\H' ln=some (.lst (ns.map V.str))/\RW H' v p'.toW/\p'.Ok/\ns.length<=fs.length/\(p.pl.go fs)=(ns++(p'.pl.go (fs.drop ns.length)).1,(p'.pl.go (fs.drop ns.length)).2),⟨p.looks,u,p,[],rfl,rfl,s1,eln,ru.mono (zi s1),okp,yN _,rfl⟩,?_⟩
 rintro m σ' H' ⟨v,p',ns,rfl,rfl,sm,en,rv,okv,hnl,hgo⟩
 have few:=fo.few
 cases p' with
 |made j=>
  rw[Pn.toW] at rv
  obtain⟨a,us',rfl,ea,hw⟩:=rv.tup
  obtain⟨u0,us',rfl,r0,hw⟩:=hw.cons
  obtain⟨u1,us',rfl,r1,hw⟩:=hw.cons
  obtain rfl:=RWs.nil0 hw
  obtain rfl:=r0.str
  rw[Pn.pl,Pl.go,xB] at hgo
  refine⟨_,rfl,a,_,0,_,rfl,rfl,Sq ea,zl (j:=0) rfl,rfl,_,rfl,iteF ?_⟩
  refine⟨_,rfl,a,_,0,_,rfl,rfl,Sq ea,zl (j:=0) rfl,rfl,_,rfl,iteT ?_⟩
  refine⟨_,rfl,_,rfl,a,_,1,_,rfl,rfl,Sq ea,zl (j:=1) rfl,zl2,fun p1 hp1=>⟨zl2,fun p2 hp2=>?_⟩⟩
  have s2:=Sn (o:=.tup [.str "made",u1]) hp1
  have s3:=Sn (o:=.tup [.ref ln,.ref p1]) hp2
  refine q p2 ln _ _ (sm.trans (s2.trans s3)) hln zc ?_ (fun z=>?_) (fun r hr=>?_)
  ·rw[hgo];exact (s2.trans s3) _ _ en
  ·rw[hgo] at z;cases z
  ·rw[hgo] at hr
   cases hr
   exact⟨RW.pair (s3 _ _ zc) (.txt _) (r1.mono (zi (s2.trans s3))),zdm ⟨by have:=okv.1;lia,by have:=okv.2;lia⟩ (by show ((0:Nat):Int)<=2;decide) (by show (1:Int)<=80;decide)⟩
 |cried j=>
  rw[Pn.toW] at rv
  obtain⟨a,us',rfl,ea,hw⟩:=rv.tup
  obtain⟨u0,us',rfl,r0,hw⟩:=hw.cons
  obtain⟨u1,us',rfl,r1,hw⟩:=hw.cons
  obtain rfl:=RWs.nil0 hw
  obtain rfl:=r0.str
  rw[Pn.pl,Pl.go,xB] at hgo
  refine⟨_,rfl,a,_,0,_,rfl,rfl,Sq ea,zl (j:=0) rfl,rfl,_,rfl,iteF ?_⟩
  refine⟨_,rfl,a,_,0,_,rfl,rfl,Sq ea,zl (j:=0) rfl,rfl,_,rfl,iteF ?_⟩
  refine⟨_,rfl,_,rfl,a,_,1,_,rfl,rfl,Sq ea,zl (j:=1) rfl,zl3,fun p1 hp1=>⟨zl2,fun p2 hp2=>?_⟩⟩
  have s2:=Sn (o:=.tup [.str "wrong",.str "cried",u1]) hp1
  have s3:=Sn (o:=.tup [.ref ln,.ref p1]) hp2
  refine q p2 ln _ _ (sm.trans (s2.trans s3)) hln zc ?_ (fun z=>?_) (fun r hr=>?_)
  ·rw[hgo];exact (s2.trans s3) _ _ en
  ·rw[hgo] at z;cases z
  ·rw[hgo] at hr
   cases hr
   exact⟨RW.three (s3 _ _ zc) (.txt _) (.txt _) (r1.mono (zi (s2.trans s3))),Z4 (zag (by decide +kernel) (by decide +kernel)) ⟨by have:=okv.1;lia,by have:=okv.2;lia⟩ (by show ((0:Nat):Int)<=2;decide) (by show (1:Int)<=80;decide) (.inr (.inr rfl))⟩
 |look t l r=>
  have rv0:=rv
  rw[Pn.toW] at rv
  obtain⟨a,us',rfl,ea,hw⟩:=rv.tup
  obtain⟨u0,us',rfl,r0,hw⟩:=hw.cons
  obtain⟨u1,us',rfl,r1,hw⟩:=hw.cons
  obtain⟨u2,us',rfl,r2,hw⟩:=hw.cons
  obtain⟨u3,us',rfl,r3,hw⟩:=hw.cons
  obtain rfl:=RWs.nil0 hw
  obtain rfl:=r0.str
  obtain rfl:=r1.str
  refine⟨_,rfl,a,_,0,_,rfl,rfl,Sq ea,zl (j:=0) rfl,rfl,_,rfl,iteT ?_⟩
  refine⟨fun σ' H'=>∃(v:V)(p':Pn)(ns:Ns),p'.looks<(Pn.look t l r).looks/\σ'=[some v,some (.ref fl),some (.ref ln)]/\Same H H'/\H' ln=some (.lst (ns.map V.str))/\RW H' v p'.toW/\p'.Ok/\ns.length<=fs.length/\(p.pl.go fs)=(ns++(p'.pl.go (fs.drop ns.length)).1,(p'.pl.go (fs.drop ns.length)).2),fun σ2 H2 h2=>?_,?_⟩
  ·obtain⟨v,p',ns,hl,h⟩:=h2
   exact⟨p'.looks,hl,v,p',ns,rfl,h⟩
  refine⟨_,rfl,.inl ⟨rfl,_,Sl en⟩,_,rfl,a,_,1,_,rfl,rfl,Sq ea,zl (j:=1) rfl,ln,_,_,rfl,rfl,en,zaa (by rw[yB];lia),?_⟩
  have e2:(ns.map V.str)++[V.str t]=(ns++[t]).map V.str:=by simp
  rw[e2]
  have sm2:Same H (upd H' ln (.lst ((ns++[t]).map V.str))):=fun c o e=>by rw[zm (zh e hln)];exact sm c o e
  have t2:Tups H' (upd H' ln (.lst ((ns++[t]).map V.str))):=zaH en
  have en2:upd H' ln (.lst ((ns++[t]).map V.str)) ln=some (.lst ((ns++[t]).map V.str)):=zc
  have ea2:=t2 _ _ ea
  generalize upd H' ln (.lst ((ns++[t]).map V.str))=H2 at sm2 t2 en2 ea2
  have hfl2:=sm2.seq hfl
  have hul:=fo.len
  have lenE:((ns++[t]).map V.str).length=ns.length+1:=by simp
  refine⟨_,rfl,_,_,rfl,.inl ⟨_,Sl en2,rfl⟩,_,rfl,_,_,rfl,.inl ⟨_,hfl2,rfl⟩,_,_,rfl,rfl,_,rfl,ite2 (fun hc=>?_) (fun hc=>?_)⟩
  ·have hc:((us.length:Nat):Int)<((((ns++[t]).map V.str).length:Nat):Int):=of_decide_eq_true hc
   rw[lenE] at hc
   have e0:fs.drop ns.length=[]:=wD (by lia)
   rw[e0,Pn.pl,Pl.go] at hgo
   refine⟨_,rfl,zl2,fun p2 hp2=>?_⟩
   have s3:=Sn (o:=.tup [.ref ln,.non]) hp2
   refine q p2 ln _ _ (sm2.trans s3) hln zc ?_ (fun _=>rfl) (fun r hr=>?_)
   ·rw[hgo];exact s3 _ _ en2
   ·rw[hgo] at hr;cases hr
  ·have hc:¬((us.length:Nat):Int)<((((ns++[t]).map V.str).length:Nat):Int):=fun z=>hc (decide_eq_true z)
   rw[lenE] at hc
   have hlt:ns.length<fs.length:=by lia
   have hd:=xM hlt
   have hu:us[ns.length]?=some us[ns.length]:=yA (by lia)
   have hf:fs[ns.length]?=some fs[ns.length]:=yA hlt
   have fdh:=fo.fd _ (yY hlt)
   have rwh:=(fo.mono (zi sm2)).at hu hf
   obtain⟨ws,ews,dws⟩:=fdh.lst
   have hat:atI us (((((ns++[t]).map V.str).length:Nat):Int)-1)=some us[ns.length]:=by
    rw[lenE,show (((ns.length+1:Nat):Int)-1)=((ns.length:Nat):Int) by lia]
    exact zl hu
   refine⟨_,rfl,_,rfl,_,rfl,_,_,rfl,.inl ⟨_,Sl en2,rfl⟩,_,_,rfl,rfl,fl,_,_,_,rfl,rfl,hfl2,hat,zl2,fun p1 hp1=>?_⟩
   have s3:=Sn (o:=.tup [.str "made",.int 1]) hp1
   have w1:RW (upd H2 p1 (.tup [.str "made",.int 1])) (.ref p1) (.lst [.txt "made",.num 1]):=RW.pair zc (.txt _) (.num 1)
   have fin:∀(j:Int)(v:V)(p':Pn),(j=2/\v=u2/\p'=l\/j=3/\v=u3/\p'=r)->p'.pl=(if is1 fs[ns.length] then l.pl else r.pl)->atI [V.str "look",.str t,u2,u3] j=some v/\∃(v':V)(p'':Pn)(ns':Ns),p''.looks<(Pn.look t l r).looks/\[some v,some (.ref fl),some (.ref ln)]=[some v',some (.ref fl),some (.ref ln)]/\Same H (upd H2 p1 (.tup [.str "made",.int 1]))/\upd H2 p1 (.tup [.str "made",.int 1]) ln=some (.lst (ns'.map V.str))/\RW (upd H2 p1 (.tup [.str "made",.int 1])) v' p''.toW/\p''.Ok/\ns'.length<=fs.length/\(p.pl.go fs)=(ns'++(p''.pl.go (fs.drop ns'.length)).1,(p''.pl.go (fs.drop ns'.length)).2):=fun j v p' hj hpl=>by
    have hg:(p.pl.go fs)=((ns++[t])++(p'.pl.go (fs.drop (ns++[t]).length)).1,(p'.pl.go (fs.drop (ns++[t]).length)).2):=by
     rw[hgo,hd,Pn.pl,zaZ,←hpl,yE,wH,xW]
     rfl
    have t3:Tups H' (upd H2 p1 (.tup [.str "made",.int 1])):=fun c vs e=>s3 _ _ (t2 c vs e)
    rcases hj with⟨rfl,rfl,rfl⟩|⟨rfl,rfl,rfl⟩
    ·exact⟨zl (j:=2) rfl,_,_,ns++[t],by simp only[Pn.looks];lia,rfl,sm2.trans s3,s3 _ _ en2,r2.mono t3,okv.2.1,by simp;lia,hg⟩
    ·exact⟨zl (j:=3) rfl,_,_,ns++[t],by simp only[Pn.looks];lia,rfl,sm2.trans s3,s3 _ _ en2,r3.mono t3,okv.2.2,by simp;lia,hg⟩
   have ei:eqW (.lst ws) (.lst [.txt "made",.num 1])=is1 fs[ns.length]:=by unfold is1;rw[ews]
   refine⟨ws,[.txt "made",.num 1],?_,w1.toRS,by lia,?_⟩
   ·rw[←ews];exact (rwh.mono (zi s3)).toRS
   rw[ei]
   cases hb:is1 fs[ns.length] with
   |true=>
    obtain⟨f1,f2⟩:=fin 2 u2 l (.inl ⟨rfl,rfl,rfl⟩) (by rw[hb];rfl)
    exact .inr ⟨_,rfl,_,_,rfl,rfl,a,_,_,_,rfl,rfl,Sq (s3 _ _ ea2),f1,f2⟩
   |false=>
    obtain⟨f1,f2⟩:=fin 3 u3 r (.inr ⟨rfl,rfl,rfl⟩) (by rw[hb];rfl)
    exact .inr ⟨_,rfl,_,_,rfl,rfl,a,_,_,_,rfl,rfl,Sq (s3 _ _ ea2),f1,f2⟩
structure Pp(H:Hp)(a:Addr)(u:V)(ns us:List V)(rv:V):Prop where
 ex:∃(t:Addr)(ts:List Addr),H a=some (.tup [u,.ref t,rv])/\H t=some (.tup (ts.map V.ref))/\ts.length=ns.length/\Prs H ns us ts
 len:ns.length=us.length
 few:ns.length<=1000
theorem Pp.tups{H H':Hp}{a:Addr}{u rv:V}{ns us:List V}(h:Pp H a u ns us rv)(s:Tups H H'):Pp H' a u ns us rv:=by
 obtain⟨⟨t,ts,e1,e2,e3,e4⟩,l,f⟩:=h
 exact⟨⟨t,ts,s _ _ e1,s _ _ e2,e3,fun j t x y a b c=>s _ _ (e4 j t x y a b c)⟩,l,f⟩
theorem Pp.mono{H H':Hp}{a:Addr}{u rv:V}{ns us:List V}(h:Pp H a u ns us rv)(s:Same H H'):Pp H' a u ns us rv:=h.tups (zi s)
def zb4:Sp:=fun vs H Q _=>∃(a:Addr)(u rv:V)(ns us:List V),vs=[.ref a]/\Pp H a u ns us rv/\∀(p:Addr)(H':Hp),Same H H'->H p=none->H' p=some (.lst us)->Q (.ref p) H'
def zmp(K:uZ):Sp:=fun vs H Q _=>∃(u rv:V)(fl e l:Addr)(ns us:List V),vs=[u,.ref fl,.ref e]/\SqL K H fl us/\H e=some (.tup [.str "ended",.ref l,rv])/\H l=some (.lst ns)/\ns.length=us.length/\ns.length<=1000/\∀(a:Addr)(H':Hp),Same H H'->Pp H' a u ns us rv->Q (.ref a) H'
structure Rep(ws:List W):Prop where
 tok:TOk (W.lst ws).toD
 tdp:(W.lst ws).toD.depth<70
 tct:cnt (W.lst ws).toD<=4100
 dp:depths ws<50
def zhx(K:uZ):Sp:=fun vs H Q _=>∃(u v:V)(ws zs:List W),vs=[u,v]/\RS K H u (.lst ws)/\RS K H v (.lst zs)/\Rep ws/\Q (.bl (eqW (.lst ws) (.lst zs))) H
theorem Fd.rep{r:Res}(h:Fd r):∃ws,r.toW=.lst ws/\Rep ws:=by
 obtain⟨ws,e,d⟩:=h.lst
 have h1:=h.tok
 have h2:=h.ct
 have h3:=zeL r.toW
 have h4:=h.ok.dp
 rw[e] at h1 h2 h3 h4
 exact⟨ws,e,h1,by lia,by lia,by lia⟩
theorem zom:∀x:Ex,∃ws,x.toW=.lst ws
 |.lit _=>⟨_,by rw[Ex.toW]⟩
 |.var _=>⟨_,by rw[Ex.toW]⟩
 |.letE _ _ _=>⟨_,by rw[Ex.toW]⟩
 |.ifE _ _ _=>⟨_,by rw[Ex.toW]⟩
 |.elseE _ _=>⟨_,by rw[Ex.toW]⟩
 |.cryE _=>⟨_,by rw[Ex.toW]⟩
 |.lookE _=>⟨_,by rw[Ex.toW]⟩
 |.reck _ _=>⟨_,by rw[Ex.toW]⟩
theorem RuP.rep{P:Pl}{x:Ex}(h:RuP P x):∃ws,x.toW=.lst ws/\Rep ws:=by
 obtain⟨ws,e⟩:=zom x
 have h1:=h.tok
 have h2:=h.tct
 have h3:=h.tdp
 have h4:=h.dp
 rw[e] at h1 h2 h3 h4
 have h5:1+depths ws<=13:=h4
 exact⟨ws,e,h1,h3,by lia,by lia⟩
def zeQ:Sp:=fun _ _ _ _=>False
def zkm:Sp:=fun vs H Q _=>∃(l:Addr)(c:Nat),vs=[.ref l,.int c]/\H l=some (.lst [])/\∀(a:Addr)(H':Hp),Same H H'->H' a=some (.tup [.str "none"])->Q (.ref a) H'
theorem ziu:FnScope ["one","other"] ["one","other"] (zg zcX):=mkSc rfl (by decide +kernel)
theorem ziv(F:Fun K "just_so" "just_so" zcX f fd)(m_repr:mg "repr"=none):FnOk P w K mg base CX0 (k+1) f fd ["one","other"] (zhx K):=by
 refine F.okQ ziu (by rintro _ _ _ _ ⟨_,_,_,_,rfl,_⟩;rfl) fun cdv A outer s H vs Q E hr h=>?_
 obtain⟨u,v,ws,zs,rfl,ru,rv,rp,q⟩:=h
 refine⟨_,(zf (zj (zU (zE (zgm hr.units) (pv 0) (pv 1) (nomark _)) (zZ (zE Ze (zk (zdO hr.gd hr.u80) rfl m_repr zft (za (pv 0) zb)) (zk (zdO hr.gd hr.u80) rfl m_repr zft (za (pv 1) zb)) (nomark _)))))),?_⟩
 refine⟨_,rfl,_,rfl,ws,zs,ru,rv,rp.dp,?_⟩
 cases hb:eqW (.lst ws) (.lst zs) with
 |false=>
  rw[hb] at q
  exact⟨false,rfl,iteF q⟩
 |true=>
  rw[hb] at q
  have e:=(zgl _ _).mp hb
  rw[←e] at rv
  refine⟨true,rfl,iteT ⟨_,rfl,u,.lst ws,rfl,ru,rp.tok,rp.tdp,rp.tct,_,rfl,v,.lst ws,rfl,rv,rp.tok,rp.tdp,rp.tct,rfl,?_⟩⟩
  rw[decide_eq_true (rfl:V.str (W.lst ws).toD.shown=V.str (W.lst ws).toD.shown)]
  exact q
theorem zfM:FnScope ["paper"] ["paper"] (zg zbn):=mkSc rfl (by decide +kernel)
theorem zfN(F:Fun K "founds_of" "founds_of" zbn f fd):FnOk P w K mg base CX0 (k+1) f fd ["paper"] (zb4):=by
 refine F.okQ zfM (by rintro _ _ _ _ ⟨_,_,_,_,_,rfl,_⟩;rfl) fun cdv A outer s H vs Q E hr h=>?_
 obtain⟨a,u,rv,ns,us,rfl,pp,q⟩:=h
 obtain⟨⟨t,ts,e1,e2,e3,e4⟩,l,few⟩:=pp
 refine⟨_,(zf (zj (zY [] [] rfl rfl (by decide +kernel) rfl (by decide +kernel) rfl (by decide +kernel) trivial rfl trivial (zb6 (zo zr (pv 0) ze (fun _ _=>rfl))) (fun C s H fp=>⟨zW,(zo (show IxR _ (rIxT K) from zr) (pv 0) ze (fun _ _=>rfl))⟩)))),?_⟩
 refine⟨_,rfl,a,_,1,_,rfl,rfl,Sq e1,zl (j:=1) rfl,t,rfl,⟨_,Sq e2⟩,?_⟩
 refine zhu us (Sq e2) (by rw[yB];lia) (by rw[yB];exact yM (show ts.length<=1000 by lia) (by decide)) (fun i v y H1 R hv hy sm r=>?_) (fun H1 D sm hD=>?_)
 ·rw[yK] at hv
  obtain⟨b,hb,rfl⟩:=yW.mp hv
  have hi:i<ns.length:=by have:=(yC.mp hb).1;lia
  exact⟨_,rfl,b,_,1,_,rfl,rfl,Sq (sm _ _ (e4 i b _ y hb (yA hi) hy)),zl (j:=1) rfl,r _ (Sr _)⟩
 ·exact q D _ (sm.trans (Sn hD)) (sm.free hD) zc
theorem zdo:FnScope ["rule","founds","ended"] ["rule","founds","ended"] (zg zas):=mkSc rfl (by decide +kernel)
theorem zdp(F:Fun K "paper_of_run" "paper_of_run" zas f fd)(m_tuple:mg "tuple"=none)(m_zip:mg "zip"=none):FnOk P w K mg base CX0 (k+1) f fd ["rule","founds","ended"] (zmp K):=by
 refine F.okQ zdo (by rintro _ _ _ _ ⟨_,_,_,_,_,_,_,rfl,_⟩;rfl) fun cdv A outer s H vs Q E hr h=>?_
 obtain⟨u,rv,fl,e,l,ns,us,rfl,hf,he,hl,hlen,few,q⟩:=h
 refine⟨_,(zf (zj (zy (za (pv 0) (za (zeu rfl rfl m_zip rfl m_tuple (za (zo zr (pv 2) ze (fun _ _=>rfl)) (za (pv 1) zb))) (za (zo zr (pv 2) ze (fun _ _=>rfl)) zb)))))),?_⟩
 refine⟨_,rfl,_,rfl,e,_,1,_,rfl,rfl,Sq he,zl (j:=1) rfl,_,rfl,l,fl,ns,us,rfl,Sl hl,hf,fun ts t H2 sm ht hlt hp et=>?_⟩
 refine⟨_,rfl,e,_,2,_,rfl,rfl,Sq (sm _ _ he),zl (j:=2) rfl,zl3,fun a ha=>?_⟩
 have s2:=Sn (o:=.tup [u,.ref t,rv]) ha
 exact q a _ (sm.trans s2) ⟨⟨t,ts,zc,s2 _ _ et,by lia,fun j t x y a b c=>s2 _ _ (hp j t x y a b c)⟩,hlen,few⟩
theorem zgM:FnScope ["paper","place"] ["paper","place"] (zg zb1):=mkSc rfl (by decide +kernel)
theorem zgN(F:Fun K "found_at" "found_at" zb1 f fd):FnOk P w K mg base CX0 (k+1) f fd ["paper","place"] (zeQ):=by
 refine F.okQ zgM (fun vs H Q E h=>?_) (fun cdv A outer s H vs Q E hr h=>?_)
 ·exact h.elim
 exact h.elim
theorem zbN:FnScope ["paper","founds","place","pair"] ["paper","founds"] (zg ZM):=mkSc rfl (by decide +kernel)
theorem zbO(F:Fun K "first_otherwise" "first_otherwise" ZM f fd)(G_founds_of:Have P w K mg base "founds_of" k ["paper"] (zb4))(G_just_so:Have P w K mg base "just_so" k ["one","other"] (zhx K))(m_enumerate:mg "enumerate"=none)(m_zip:mg "zip"=none):FnOk P w K mg base CX0 (k+1) f fd ["paper","founds"] (zeQ):=by
 refine F.okQ zbN (fun vs H Q E h=>?_) (fun cdv A outer s H vs Q E hr h=>?_)
 ·exact h.elim
 exact h.elim
theorem Zv:FnScope ["papers","count","number","paper"] ["papers","count"] (zg ZA):=mkSc rfl (by decide +kernel)
theorem za6(F:Fun K "matched_beginning" "matched_beginning" ZA f fd)(m_enumerate:mg "enumerate"=none)(m_len:mg "len"=none):FnOk P w K mg base CX0 (k+1) f fd ["papers","count"] (zkm):=by
 refine F.okQ Zv (by rintro _ _ _ _ ⟨_,_,rfl,_⟩;rfl) fun cdv A outer s H vs Q E hr h=>?_
 obtain⟨l,c,rfl,hl,q⟩:=h
 refine⟨_,(zd (za8 uV rfl (zc4 rfl m_enumerate (za (pv 0) zb)) (za7 rfl (Zd (zX (i:=2) Zv.nd rfl (Or.inl rfl)) (Zd (zX (i:=3) Zv.nd rfl (Or.inl rfl)) zaN))) (zf (zD (zw Ze (zk zB rfl m_len uO (za (zo zr (pv 3) ze (fun _ _=>rfl)) zb)) (pv 1) (nomark _)) (zf (zj (zy (za zu (za (pv 2) zb))))) zt)))
  (zf (zj (Zp (zw zcA (zk zB rfl m_len uO (za (pv 0) zb)) ze (nomark _)) (zy (za zu (za (zo zr (zo zr (zo zr (zo zA (pv 0) ze (fun _ _=>rfl)) ze (fun _ _=>rfl)) (pv 1) (fun _ _=>rfl)) ze (fun _ _=>rfl)) zb))) (zy (za zu zb)))))),?_⟩
 refine⟨_,rfl,l,[],rfl,Sl hl,?_⟩
 refine zet (K:=K) (xs:=[]) (fun i σ' H'=>σ'=[some (.ref l),some (.int c),none,none]/\H'=H) ⟨rfl,rfl⟩ (fun i σ' H' _ h=>by rw[h.2];exact Sl hl) (fun i x t σ' H' hx=>by simp at hx) (fun σ' H' h=>?_)
 obtain⟨rfl,rfl⟩:=h
 refine⟨_,rfl,_,_,rfl,.inl ⟨_,Sl hl,rfl⟩,_,_,rfl,rfl,_,rfl,iteF ⟨zl1,fun a ha=>?_⟩⟩
 exact q a _ (Sn ha) zc
def isT:HO->Prop
 |.tup _=>True
 |.frz _ (.tup _)=>True
 |_=>False
def Tq(H H':Hp):Prop:=∀c o,isT o->H c=some o->H' c=some o
theorem Tq.trans{H H' H'':Hp}(a:Tq H H')(b:Tq H' H''):Tq H H'':=fun c o t h=>b c o t (a c o t h)
theorem Tq.refl{H:Hp}:Tq H H:=fun _ _ _ e=>e
theorem Zw{H H':Hp}(s:Same H H'):Tq H H':=fun c o _ h=>s c o h
theorem zon{H:Hp}{d:Addr}{o u:HO}(e:H d=some o)(no:¬isT o):Tq H (upd H d u):=fun c o' t h=>by
 rw[zm fun z=>no (by rw[z,e] at h;cases h;exact t)]
 exact h
theorem Tq.tups{H H':Hp}(t:Tq H H'):Tups H H':=fun a vs e=>t a _ trivial e
theorem SqT.tq{K:uZ}{H H':Hp}(t:Tq H H'){a:Addr}{xs:List V}(h:SqT K H a xs):SqT K H' a xs:=by
 rcases h with (h|⟨o,h⟩)|h
 ·exact .inl (.inl (t _ _ trivial h))
 ·exact .inl (.inr ⟨o,t _ _ trivial h⟩)
 ·exact .inr h
theorem RS.tq{K:uZ}{H H':Hp}(t:Tq H H'){v:V}{w:W}(h:RS K H v w):RS K H' v w:=by
 induction h with
 |num i=>exact .num i
 |txt x=>exact .txt x
 |lst e l _ ih=>exact .lst (SqT.tq t e) l ih
theorem RRes.tq{K:uZ}{H H':Hp}(t:Tq H H'){v:V}:∀{r:Res},RRes K H v r->RRes K H' v r
 |.made _,⟨a,u,e1,e2,e3⟩=>⟨a,u,e1,SqT.tq t e2,e3.mono t.tups⟩
 |.wrong _,h=>RS.tq t h
 |.stop,h=>h
theorem RR.tq{K:uZ}{H H':Hp}(t:Tq H H'){v:V}{r:R}(h:RR K H v r):RR K H' v r:=by
 induction h with
 |mk e1 e2 e3 l _ ih=>exact .mk (t _ _ trivial e1) (e2.tq t) (t _ _ trivial e3) l ih
structure Ppr(K:uZ)(H:Hp)(p:Addr)(u:V)(P:Pl)(x:Ex)(us:List V)(fs:List Res)(rv:V):Prop where
 ru:RW H u x.toW
 rp:RuP P x
 cm:Cm P fs
 fo:Fo H us fs
 pp:Pp H p u ((P.go fs).1.map V.str) us rv
 rr:RR K H rv (ev fs x e0 []).1
theorem Ppr.tq{K:uZ}{H H':Hp}(t:Tq H H'){p:Addr}{u rv:V}{P:Pl}{x:Ex}{us:List V}{fs:List Res}(h:Ppr K H p u P x us fs rv):Ppr K H' p u P x us fs rv:=
 ⟨h.ru.mono t.tups,h.rp,h.cm,h.fo.mono t.tups,h.pp.tups t.tups,h.rr.tq t⟩
noncomputable def fT(nm nd fo pa ho ru ke en:V):List (Str×V):=[("name",nm),("needs",nd),("founds",fo),("paper",pa),("how",ho),("rule",ru),("kept",ke),("ends",en)]
theorem zhy(nm nd fo pa ho ru ke en v:V):putF "needs" v (fT nm nd fo pa ho ru ke en)=fT nm v fo pa ho ru ke en:=by with_unfolding_all rfl
theorem zlB(nm nd fo pa ho ru ke en v:V):putF "paper" v (fT nm nd fo pa ho ru ke en)=fT nm nd fo v ho ru ke en:=by with_unfolding_all rfl
theorem zmq(nm nd fo pa ho ru ke en v:V):putF "how" v (fT nm nd fo pa ho ru ke en)=fT nm nd fo pa v ru ke en:=by with_unfolding_all rfl
theorem znq(nm nd fo pa ho ru ke en v:V):putF "ends" v (fT nm nd fo pa ho ru ke en)=fT nm nd fo pa ho ru ke v:=by with_unfolding_all rfl
structure Tk(AT:Addr)(H:Hp)(p lf le:Addr)(nm nd pa ho u kv:V)(us es:List V):Prop where
 ins:∃dx,H p=some (.ins AT dx (fT nm nd (.ref lf) pa ho u kv (.ref le)))
 fo:H lf=some (.lst us)
 en:H le=some (.lst es)
 ne:lf≠le
theorem Tk.npf{AT:Addr}{H:Hp}{p lf le:Addr}{nm nd pa ho u kv:V}{us es:List V}(h:Tk AT H p lf le nm nd pa ho u kv us es):p≠lf:=fun z=>by
 obtain⟨dx,e⟩:=h.ins
 rw[z,h.fo] at e
 cases e
theorem Tk.npe{AT:Addr}{H:Hp}{p lf le:Addr}{nm nd pa ho u kv:V}{us es:List V}(h:Tk AT H p lf le nm nd pa ho u kv us es):p≠le:=fun z=>by
 obtain⟨dx,e⟩:=h.ins
 rw[z,h.en] at e
 cases e
theorem Tk.keep{AT:Addr}{H H':Hp}{p lf le:Addr}{nm nd pa ho u kv:V}{us es:List V}(h:Tk AT H p lf le nm nd pa ho u kv us es)(s:∀c o,c=p\/c=lf\/c=le->H c=some o->H' c=some o):Tk AT H' p lf le nm nd pa ho u kv us es:=
 ⟨let ⟨dx,e⟩:=h.ins;⟨dx,s _ _ (.inl rfl) e⟩,s _ _ (.inr (.inl rfl)) h.fo,s _ _ (.inr (.inr rfl)) h.en,h.ne⟩
theorem Tk.same{AT:Addr}{H H':Hp}{p lf le:Addr}{nm nd pa ho u kv:V}{us es:List V}(h:Tk AT H p lf le nm nd pa ho u kv us es)(s:Same H H'):Tk AT H' p lf le nm nd pa ho u kv us es:=h.keep fun c o _ e=>s c o e
theorem Tk.put{AT:Addr}{H:Hp}{p lf le:Addr}{nm nd pa ho u kv nd' pa' ho':V}{us es:List V}{dx:Addr}{fs:List (Str×V)}(h:Tk AT H p lf le nm nd pa ho u kv us es)(e:fs=fT nm nd' (.ref lf) pa' ho' u kv (.ref le)):Tk AT (upd H p (.ins AT dx fs)) p lf le nm nd' pa' ho' u kv us es:=
 ⟨⟨dx,by rw[zc,e]⟩,by rw[zm h.npf.symm];exact h.fo,by rw[zm h.npe.symm];exact h.en,h.ne⟩
theorem RW.one{H:Hp}{a:Addr}{v:V}{x:W}(e:H a=some (.tup [v]))(r:RW H v x):RW H (.ref a) (.lst [x]):=.lst e rfl fun i u w hv hw=>match i,hv,hw with|0,hv,hw=>by cases hv;cases hw;exact r|_+1,hv,_=>by simp at hv
def zcp(AT:Addr):Sp:=fun vs H Q _=>∃(p lf le:Addr)(nm nd pa ho u kv h pw:V)(us es:List V),vs=[.ref p,h,pw]/\Tk AT H p lf le nm nd pa ho u kv us es/\∀H',Tk AT H' p lf le nm nd pw h u kv us es->(∀c o,c≠p->H c=some o->H' c=some o)->Q .non H'
def zlC(AT:Addr):Sp:=fun vs H Q _=>∃(p lf le:Addr)(nm nd pa ho u:V)(us es:List V),vs=[.ref p]/\Tk AT H p lf le nm nd pa ho u .non us es/\Q (.bl false) H
def zeR(AT:Addr):Sp:=fun vs H Q _=>∃(p lf le:Addr)(nm nd pa ho u v:V)(us:List V),vs=[.ref p,v]/\Tk AT H p lf le nm nd pa ho u .non us []/\us.length<=5 /\
 ∀(le':Addr)(H':Hp),H le'=none->Tk AT H' p lf le' nm .non pa ho u .non (us++[v]) []->(∀c o,c≠p->c≠lf->H c=some o->H' c=some o)->Q .non H'
def znr(AT:Addr):Sp:=fun vs H Q _=>∃(p lf le:Addr)(nm nd pa ho u:V)(us es:List V),vs=[.ref p]/\Tk AT H p lf le nm nd pa ho u .non us es/\∀(v:V)(H':Hp),Same H H'->RW H' v (.lst [.txt "new"])->Q v H'
theorem zdD:FnScope ["self","how","paper"] ["self","how","paper"] (zg Zr):=mkSc rfl (by decide +kernel)
theorem zdE(F:Fun K "finish" "Task.finish" Zr f fd)(clT:Cls K ATask)(nH:zH K ATask "how")(nP:zH K ATask "paper"):FnOk P w K mg base CX0 (k+1) f fd ["self","how","paper"] (zcp ATask):=by
 refine F.okQ zdD (by rintro _ _ _ _ ⟨_,_,_,_,_,_,_,_,_,_,_,_,_,rfl,_⟩;rfl) fun cdv A outer s H vs Q E hr h=>?_
 obtain⟨p,lf,le,nm,nd,pa,ho,u,kv,h,pw,us,es,rfl,tk,q⟩:=h
 refine⟨_,(zd (ZK (pv 0) (pv 1) rfl)
  (zf (ZK (pv 0) (pv 2) rfl))),?_⟩
 obtain⟨dx,ei⟩:=tk.ins
 refine⟨_,rfl,_,rfl,p,ATask,dx,_,rfl,ei,clT,nH,(by show 8<1000;decide),?_⟩
 have t1:=tk.put (dx:=dx) (zmq nm nd (.ref lf) pa ho u kv (.ref le) h)
 refine⟨_,rfl,_,rfl,p,ATask,dx,_,rfl,zc,clT,nP,(by show 8<1000;decide),?_⟩
 have t2:=t1.put (dx:=dx) ((congrArg (putF "paper" pw) (zmq nm nd (.ref lf) pa ho u kv (.ref le) h)).trans (zlB nm nd (.ref lf) pa h u kv (.ref le) pw))
 exact q _ t2 (fun c o hc e=>by rw[zm hc,zm hc];exact e)
theorem za0:FnScope ["self"] ["self"] (zg zO):=mkSc rfl (by decide +kernel)
theorem za1(F:Fun K "has_kept_rule" "Task.has_kept_rule" zO f fd)(G_just_so:Have P w K mg base "just_so" k ["one","other"] (zhx K))(clT:Cls K ATask)(nK:zH K ATask "kept")(nR:zH K ATask "rule"):FnOk P w K mg base CX0 (k+1) f fd ["self"] (zlC ATask):=by
 refine F.okQ za0 (by rintro _ _ _ _ ⟨_,_,_,_,_,_,_,_,_,_,rfl,_⟩;rfl) fun cdv A outer s H vs Q E hr h=>?_
 obtain⟨p,lf,le,nm,nd,pa,ho,u,us,es,rfl,tk,q⟩:=h
 refine⟨_,(zf (zj (zU (zct (zbd (zI (pv 0) rfl))) (zZ (zq G_just_so hr rfl (za (zo zr (zI (pv 0) rfl) ze (fun _ _=>rfl)) (za (zI (pv 0) rfl) zb))))))),?_⟩
 obtain⟨dx,ei⟩:=tk.ins
 exact⟨_,rfl,p,ATask,dx,_,.non,rfl,ei,clT,nK,rfl,false,rfl,iteF q⟩
theorem zb9:FnScope ["self","found","place"] ["self","found"] (zg ZO):=mkSc rfl (by decide +kernel)
theorem zfO(F:Fun K "take" "Task.take" ZO f fd)(G_found_at:Have P w K mg base "found_at" k ["paper","place"] (zeQ))(m_len:mg "len"=none)(clT:Cls K ATask)(nF:zH K ATask "founds")(nE:zH K ATask "ends")(nN:zH K ATask "needs"):FnOk P w K mg base CX0 (k+1) f fd ["self","found"] (zeR ATask):=by
 refine F.okQ zb9 (by rintro _ _ _ _ ⟨_,_,_,_,_,_,_,_,_,_,rfl,_⟩;rfl) fun cdv A outer s H vs Q E hr h=>?_
 obtain⟨p,lf,le,nm,nd,pa,ho,u,v,us,rfl,tk,few,q⟩:=h
 refine⟨_,(zd (zx (i:=2) zb9.nd rfl (Or.inr rfl) (zk zB rfl m_len uO (za (zI (pv 0) rfl) zb)))
  (zd (ZK (pv 0) (zY [1,2] ["found","place"] rfl rfl (by decide +kernel) rfl (by decide +kernel) rfl (by decide +kernel) ⟨rfl,rfl,trivial⟩ rfl ⟨⟨rfl,rfl,Or.inr (Or.inl rfl),(by show (some NameKind.cell:Option NameKind)≠some .local;decide),⟨_,rfl⟩⟩,⟨rfl,rfl,Or.inr (Or.inl rfl),(by show (some NameKind.cell:Option NameKind)≠some .local;decide),⟨_,rfl⟩⟩,trivial⟩ (zaq (zI (pv 0) rfl)) (fun C s H fp=>⟨(zd9 (zw (show OpR _ (uU .Eq) (rTT K fun b=>b) from zgm hr.units) (zq G_found_at hr rfl (za (zo (show IxR _ (rIxT K) from zr) (pv 0) ze (fun _ _=>rfl)) (za (pv 2) zb))) (pv 1) (nomark _))),(pv 0)⟩)) rfl)
  (zd (Zc (zcc uW uY uX zax (zI (pv 0) rfl) (za (pv 1) zb)))
  (zf (ZK (pv 0) zaM rfl))))),?_⟩
 obtain⟨dx,ei⟩:=tk.ins
 refine⟨_,rfl,p,ATask,dx,_,.ref lf,rfl,ei,clT,nF,rfl,_,_,rfl,.inl ⟨_,Sl tk.fo,rfl⟩,?_⟩
 dsimp only[Zj]
 refine⟨_,rfl,p,ATask,dx,_,.ref le,rfl,ei,clT,nE,rfl,le,rfl,⟨_,Sl tk.en⟩,?_⟩
 refine⟨fun i m vs H1=>i=0/\vs=[]/\H1=H,⟨0,rfl,rfl,rfl⟩,fun i m vs H1 h=>?_⟩
 obtain⟨rfl,rfl,rfl⟩:=h
 refine⟨yN _,.inl ⟨⟨_,Sl tk.en,yF _⟩,fun D hD=>?_⟩⟩
 have s1:=Sn (o:=.lst []) hD
 have tk1:=tk.same s1
 have eD:upd H1 D (.lst []) D=some (.lst []):=zc
 generalize upd H1 D (.lst [])=H2 at s1 tk1 eD
 obtain⟨dx2,ei2⟩:=tk1.ins
 have npD:p≠D:=zh ei hD
 have nlD:lf≠D:=zh tk.fo hD
 refine⟨_,rfl,p,ATask,dx2,_,rfl,ei2,clT,nE,(by show 8<1000;decide),?_⟩
 have tk2:Tk ATask (upd H2 p (.ins ATask dx2 (putF "ends" (.ref D) (fT nm nd (.ref lf) pa ho u .non (.ref le))))) p lf D nm nd pa ho u .non us []:=
  ⟨⟨dx2,by rw[zc,znq]⟩,by rw[zm tk.npf.symm];exact tk1.fo,by rw[zm npD.symm];exact eD,nlD⟩
 have k2:∀c o,c≠p->H1 c=some o->upd H2 p (.ins ATask dx2 (putF "ends" (.ref D) (fT nm nd (.ref lf) pa ho u .non (.ref le)))) c=some o:=fun c o hc e=>by rw[zm hc];exact s1 _ _ e
 generalize upd H2 p (.ins ATask dx2 (putF "ends" (.ref D) (fT nm nd (.ref lf) pa ho u .non (.ref le))))=H3 at tk2 k2
 obtain⟨dx3,ei3⟩:=tk2.ins
 refine⟨_,rfl,p,ATask,dx3,_,.ref lf,rfl,ei3,clT,nF,rfl,.inl ⟨rfl,_,Sl tk2.fo⟩,_,rfl,lf,_,_,rfl,rfl,tk2.fo,zaa (by lia),?_⟩
 have tk3:Tk ATask (upd H3 lf (.lst (us++[v]))) p lf D nm nd pa ho u .non (us++[v]) []:=
  ⟨⟨dx3,by rw[zm tk.npf];exact ei3⟩,zc,by rw[zm nlD.symm];exact tk2.en,nlD⟩
 have k3:∀c o,c≠p->c≠lf->H1 c=some o->upd H3 lf (.lst (us++[v])) c=some o:=fun c o hc hl e=>by rw[zm hl];exact k2 _ _ hc e
 generalize upd H3 lf (.lst (us++[v]))=H4 at tk3 k3
 obtain⟨dx4,ei4⟩:=tk3.ins
 refine⟨_,rfl,p,ATask,dx4,_,rfl,ei4,clT,nN,(by show 8<1000;decide),?_⟩
 exact q D _ hD (tk3.put (zhy nm nd (.ref lf) pa ho u .non (.ref D) .non)) (fun c o hc hl e=>by rw[zm hc];exact k3 _ _ hc hl e)
theorem zbr:FnScope ["self","place","look"] ["self"] (zg Z8):=mkSc rfl (by decide +kernel)
theorem zgO(F:Fun K "why" "Task.why" Z8 f fd)(G_first_otherwise:Have P w K mg base "first_otherwise" k ["paper","founds"] (zeQ))(G_Task_has_kept_rule:Z2 P w K mg base ATask "has_kept_rule" k ["self"] (zlC ATask))(clT:Cls K ATask)(nK:zH K ATask "kept")(nF:zH K ATask "founds"):FnOk P w K mg base CX0 (k+1) f fd ["self"] (znr ATask):=by
 refine F.okQ zbr (by rintro _ _ _ _ ⟨_,_,_,_,_,_,_,_,_,_,rfl,_⟩;rfl) fun cdv A outer s H vs Q E hr h=>?_
 obtain⟨p,lf,le,nm,nd,pa,ho,u,us,es,rfl,tk,q⟩:=h
 refine⟨_,(zd (zD (zbs (zcs (zI (pv 0) rfl))) (zf (zj (zy (za zu zb)))) zt)
  (zd (zD (zT (zG (zh4 G_Task_has_kept_rule hr (pv 0)))) (zf (zj (zy (za zu zb)))) zt)
  (zd (zx (i:=1) zbr.nd rfl (Or.inl rfl) (zq G_first_otherwise hr rfl (za (zI (pv 0) rfl) (za (zI (pv 0) rfl) zb))))
  (zd (zx (i:=2) zbr.nd rfl (Or.inl rfl) (zo zr (zo zr (zI (pv 0) rfl) ze (fun _ _=>rfl)) (pv 1) (fun _ _=>rfl)))
  (zf (zj (zy (za zu (za (pv 1) (za (zo zr (pv 2) ze (fun _ _=>rfl)) (za (zo zr (pv 2) ze (fun _ _=>rfl)) (za (zo zA (zI (pv 0) rfl) (pv 1) (fun _ _=>rfl)) zb)))))))))))),?_⟩
 obtain⟨dx,ei⟩:=tk.ins
 refine⟨_,rfl,p,ATask,dx,_,.non,rfl,ei,clT,nK,rfl,_,rfl,iteT ⟨zl1,fun a ha=>?_⟩⟩
 exact q _ _ (Sn ha) (RW.one zc (.txt _))
noncomputable def zlD:W:=.lst [.txt "done",.lst [.txt "new"]]
def zdX(K:uZ)(H':Hp)(P:Pl)(x:Ex)(u:V)(us:List V)(fs:List Res)(nd pa ho:V):Prop:=
 ((P.go fs).2=none/\∃z,(P.go fs).1.getLast?=some z/\nd=.str z/\pa=.non/\ho=.non) \/
 ((∃o,(P.go fs).2=some o)/\nd=.non/\∃(pp:Addr)(rv:V),pa=.ref pp/\Ppr K H' pp u P x us fs rv/\RW H' ho zlD)
theorem zdX.tq{K:uZ}{H H':Hp}(t:Tq H H'){P:Pl}{x:Ex}{u:V}{us:List V}{fs:List Res}{nd pa ho:V}(h:zdX K H P x u us fs nd pa ho):zdX K H' P x u us fs nd pa ho:=by
 rcases h with h|⟨h1,h2,pp,rv,h3,h4,h5⟩
 ·exact .inl h
 ·exact .inr ⟨h1,h2,pp,rv,h3,h4.tq t,h5.mono t.tups⟩
def zgP(K:uZ)(AT:Addr):Sp:=fun vs H Q _=>∃(p lf le:Addr)(nm u:V)(us es:List V)(P:Pl)(x:Ex)(fs:List Res),vs=[.ref p]/\Tk AT H p lf le nm .non .non .non u .non us es/\RW H u x.toW/\RuP P x/\Fo H us fs/\Al P fs /\
 ∀(nd pa ho:V)(H':Hp),Tk AT H' p lf le nm nd pa ho u .non us es->zdX K H' P x u us fs nd pa ho->(∀c o,c≠p->H c=some o->H' c=some o)->Q .non H'
def zns(AT:Addr):Sp:=fun vs H Q _=>∃(p dx rl:Addr)(nm u:V),vs=[.ref p,nm,u,.non,.ref rl]/\H p=some (.ins AT dx [])/\H rl=some (.lst []) /\
 ∀(lf le:Addr)(H':Hp),H lf=none->H le=none->Tk AT H' p lf le nm .non .non .non u .non [] []->(∀c o,c≠p->H c=some o->H' c=some o)->Q .non H'
def Ist(AT:Addr)(H:Hp)(p dx:Addr)(fs:List (Str×V))(G:Hp):Prop:=G p=some (.ins AT dx fs)/\∀c o,c≠p->H c=some o->G c=some o
theorem Ist.put{AT:Addr}{H:Hp}{p dx:Addr}{fs fs':List (Str×V)}{G:Hp}(h:Ist AT H p dx fs G):Ist AT H p dx fs' (upd G p (.ins AT dx fs')):=⟨zc,fun c o hc e=>by rw[zm hc];exact h.2 c o hc e⟩
theorem Ist.new{AT:Addr}{H:Hp}{p dx a:Addr}{fs:List (Str×V)}{G:Hp}{o':HO}(h:Ist AT H p dx fs G)(ha:G a=none):Ist AT H p dx fs (upd G a o'):=⟨by rw[zm (zh h.1 ha)];exact h.1,fun c o hc e=>by rw[zm (zh (h.2 c o hc e) ha)];exact h.2 c o hc e⟩
theorem Ist.free{AT:Addr}{H:Hp}{p dx a:Addr}{fs:List (Str×V)}{G:Hp}(h:Ist AT H p dx fs G)(n:a≠p)(ha:G a=none):H a=none:=by
 cases hh:H a with
 |none=>rfl
 |some o=>rw[h.2 a o n hh] at ha;cases ha
theorem zoo(nm u kv lf le:V):putF "ends" le (putF "kept" kv (putF "rule" u (putF "how" .non (putF "paper" .non (putF "founds" lf (putF "needs" .non (putF "name" nm [])))))))=fT nm .non lf .non .non u kv le:=by with_unfolding_all rfl
theorem zdq:FnScope ["self","went"] ["self"] (zg Z7):=mkSc rfl (by decide +kernel)
theorem zgQ(F:Fun K "run" "Task.run" Z7 f fd)(G_Task_finish:Z2 P w K mg base ATask "finish" k ["self","how","paper"] (zcp ATask))(G_paper_of_run:Have P w K mg base "paper_of_run" k ["rule","founds","ended"] (zmp K))(G_Task_why:Z2 P w K mg base ATask "why" k ["self"] (znr ATask))(G_gone:Have P w K mg base "gone" k ["rule","founds"] (zj9 K))(clT:Cls K ATask)(nR:zH K ATask "rule")(nF:zH K ATask "founds")(nN:zH K ATask "needs"):FnOk P w K mg base CX0 (k+1) f fd ["self"] (zgP K ATask):=by
 refine F.okQ zdq (by rintro _ _ _ _ ⟨_,_,_,_,_,_,_,_,_,_,rfl,_⟩;rfl) fun cdv A outer s H vs Q E hr h=>?_
 obtain⟨p,lf,le,nm,u,us,es,P,x,fs,rfl,tk,ru,rp,fo,al,q⟩:=h
 refine⟨_,(zd (zx (i:=1) zdq.nd rfl (Or.inl rfl) (zq G_gone hr rfl (za (zI (pv 0) rfl) (za (zI (pv 0) rfl) zb))))
  (zf (zD (zw Ze (zo zr (pv 1) ze (fun _ _=>rfl)) zu (nomark _)) (zf (ZK (pv 0) (zo zA (zo zr (pv 1) ze (fun _ _=>rfl)) (zd1 zcy ze) (fun _ _=>rfl)) rfl)) (zf (Zc (pe_m G_Task_finish hr (pv 0) (za (zy (za zu (za (zh4 G_Task_why hr (pv 0)) zb))) (za (zq G_paper_of_run hr rfl (za (zI (pv 0) rfl) (za (zI (pv 0) rfl) (za (pv 1) zb)))) zb)))))))),?_⟩
 obtain⟨dx,ei⟩:=tk.ins
 have few:=fo.few
 obtain⟨ev2,ev1⟩:=rp.ev fs fo.ns
 refine⟨_,rfl,p,ATask,dx,_,u,rfl,ei,clT,nR,rfl,_,rfl,p,ATask,dx,_,.ref lf,rfl,ei,clT,nF,rfl,?_⟩
 refine⟨u,lf,us,fs,x,rfl,ru,Sl tk.fo,fo.len,by lia,fo.res,by have:=rp.hi;lia,fo.fine rp.wf,fun hst a l H1 s1 hl ea el=>?_,fun hst a l rv H1 s1 hl ea el rr=>?_⟩
 ·dsimp only[Zj]
  have hno:(P.go fs).2=none:=by
   rcases zah (P.go fs).2 with h|⟨o,h⟩
   ·exact h
   ·rw[h] at ev1
    exact absurd (ev1.symm.trans hst) (rp.ns fs o h)
  rw[ev2] at el
  have hlen:=zdg P fs hno
  have hlt:fs.length<(P.go fs).1.length:=by lia
  have hz:(P.go fs).1.getLast?=some (P.go fs).1[fs.length]:=by
   rw[List.getLast?_eq_getElem?,hlen,Nat.add_sub_cancel]
   exact yA hlt
  have hat:atI ((P.go fs).1.map V.str) (-1)=some (.str (P.go fs).1[fs.length]):=zbH (by rw[yB,hlen,Nat.add_sub_cancel,yK,yA hlt];rfl) (by rw[yB];lia)
  have tk1:=tk.same s1
  obtain⟨dx1,ei1⟩:=tk1.ins
  refine⟨_,rfl,a,_,0,_,rfl,rfl,Sq ea,zl (j:=0) rfl,rfl,_,rfl,iteT ?_⟩
  refine⟨_,rfl,a,_,1,_,rfl,rfl,Sq ea,zl (j:=1) rfl,_,rfl,l,_,-1,_,rfl,rfl,Sl el,hat,_,rfl,p,ATask,dx1,_,rfl,ei1,clT,nN,(by show 8<1000;decide),?_⟩
  exact q _ _ _ _ (tk1.put (zhy nm .non (.ref lf) .non .non u .non (.ref le) _)) (.inl ⟨hno,_,hz,rfl,rfl,rfl⟩) (fun c o hc e=>by rw[zm hc];exact s1 _ _ e)
 ·dsimp only[Zj]
  obtain⟨o,ho⟩:∃o,(P.go fs).2=some o:=by
   rcases zah (P.go fs).2 with h|h
   ·rw[h] at ev1
    exact absurd ev1 hst
   ·exact h
  have cm:Cm P fs:=by
   rcases al with h|h
   ·rw[h] at ho;cases ho
   ·exact h
  rw[ev2] at el
  have tk1:=tk.same s1
  obtain⟨dx1,ei1⟩:=tk1.ins
  refine⟨_,rfl,a,_,0,_,rfl,rfl,Sq ea,zl (j:=0) rfl,rfl,_,rfl,iteF ?_⟩
  refine⟨_,rfl,p,dx1,_,rfl,ei1,rfl,?_⟩
  refine⟨_,rfl,p,dx1,_,rfl,ei1,rfl,p,lf,le,nm,_,_,_,u,us,es,rfl,tk1,fun v H2 s2 rwy=>⟨zl2,fun b hb=>?_⟩⟩
  have s3:=Sn (o:=.tup [.str "done",v]) hb
  have w3:RW (upd H2 b (.tup [.str "done",v])) (.ref b) zlD:=RW.pair zc (.txt _) (rwy.mono (zi s3))
  have sA:=(s1.trans s2).trans s3
  have sB:=s2.trans s3
  generalize upd H2 b (.tup [.str "done",v])=H3 at s3 w3 sA sB
  have tk3:=tk1.same sB
  obtain⟨dx3,ei3⟩:=tk3.ins
  refine⟨_,rfl,p,ATask,dx3,_,u,rfl,ei3,clT,nR,rfl,_,rfl,p,ATask,dx3,_,.ref lf,rfl,ei3,clT,nF,rfl,_,rfl,u,rv,lf,a,l,_,us,rfl,Sl tk3.fo,sB _ _ ea,sB _ _ el,by rw[yB,cm.2];exact fo.len.symm,by rw[yB,cm.2];lia,fun pp H4 s4 hpp=>?_⟩
  have tk4:=tk3.same s4
  refine⟨p,lf,le,nm,_,_,_,u,.non,_,_,us,es,rfl,tk4,fun H5 tk5 k5=>?_⟩
  have t5:Tq H4 H5:=fun c o t e=>k5 c o (fun z=>by obtain⟨dx,e'⟩:=tk4.ins;rw[z,e'] at e;cases e;exact t) e
  have t35:Tq H3 H5:=(Zw s4).trans t5
  have ppr:Ppr K H5 pp u P x us fs rv:=⟨ru.mono ((Zw (sA.trans s4)).trans t5).tups,rp,cm,fo.mono ((Zw (sA.trans s4)).trans t5).tups,hpp.tups t5.tups,(rr.mono (sB.trans s4)).tq t5⟩
  exact q _ _ _ _ tk5 (.inr ⟨⟨o,ho⟩,rfl,pp,rv,rfl,ppr,w3.mono t35.tups⟩) (fun c o hc e=>k5 c o hc ((sA.trans s4) _ _ e))
theorem zcj:FnScope ["self","name","rule","kept","rows"] ["self","name","rule","kept","rows"] (zg Za):=mkSc rfl (by decide +kernel)
theorem zck(F:Fun K "__init__" "Task.__init__" Za f fd)(G_Task_has_kept_rule:Z2 P w K mg base ATask "has_kept_rule" k ["self"] (zlC ATask))(clT:Cls K ATask)(nNm:zH K ATask "name")(nN:zH K ATask "needs")(nF:zH K ATask "founds")(nP:zH K ATask "paper")(nH:zH K ATask "how")(nR:zH K ATask "rule")(nK:zH K ATask "kept")(nE:zH K ATask "ends"):FnOk P w K mg base CX0 (k+1) f fd ["self","name","rule","kept","rows"] (zns ATask):=by
 refine F.okQ zcj (by rintro _ _ _ _ ⟨_,_,_,_,_,rfl,_⟩;rfl) fun cdv A outer s H vs Q E hr h=>?_
 obtain⟨p,dx,rl,nm,u,rfl,hp,hrl,q⟩:=h
 refine⟨_,(zd (ZK (pv 0) (pv 1) rfl)
  (zd (ZK (pv 0) zaM rfl)
  (zd (ZK (pv 0) (zS zb) rfl)
  (zd (ZK (pv 0) zaM rfl)
  (zd (ZK (pv 0) zaM rfl)
  (zd (ZK (pv 0) (pv 2) rfl)
  (zd (ZK (pv 0) (pv 3) rfl)
  (zd (ZK (pv 0) (zY [] [] rfl rfl (by decide +kernel) rfl (by decide +kernel) rfl (by decide +kernel) trivial rfl trivial (zaq (pv 4)) (fun C s H fp=>⟨zW,(zy (za (zy (za zu (za (zo (show IxR _ (rIxT K) from zr) (pv 0) ze (fun _ _=>rfl)) zb))) (za (zo (show IxR _ (rIxT K) from zr) (pv 0) ze (fun _ _=>rfl)) zb)))⟩)) rfl)
  (zf (zD (zG (zh4 G_Task_has_kept_rule hr (pv 0))) (zf (Zc (zcc uW PySem.F.slot_list_insert PySem.F.type_list_insert zjE (zI (pv 0) rfl) (za ze (za (zy (za (zy (za zu zb)) (za (pv 3) zb))) zb))))) zt)))))))))),?_⟩
 refine⟨_,rfl,_,rfl,p,ATask,dx,_,rfl,hp,clT,nNm,(by show 0<1000;decide),?_⟩
 have i1:=Ist.put (fs':=putF "name" nm []) ⟨hp,fun c o _ e=>e⟩
 generalize upd H p (.ins ATask dx (putF "name" nm []))=H1 at i1
 refine⟨_,rfl,p,ATask,dx,_,rfl,i1.1,clT,nN,(by show 1<1000;decide),?_⟩
 have i2:=i1.put (fs':=putF "needs" .non (putF "name" nm []))
 generalize upd H1 p (.ins ATask dx (putF "needs" .non (putF "name" nm [])))=H2 at i2
 refine⟨zl0,fun lf hlf=>?_⟩
 have elf:upd H2 lf (.lst []) lf=some (.lst []):=zc
 have npl:p≠lf:=zh i2.1 hlf
 have hlf0:=i2.free npl.symm hlf
 have i3:=i2.new (o':=.lst []) hlf
 generalize upd H2 lf (.lst [])=H3 at elf i3
 refine⟨_,rfl,p,ATask,dx,_,rfl,i3.1,clT,nF,(by show 2<1000;decide),?_⟩
 have i4:=i3.put (fs':=putF "founds" (.ref lf) (putF "needs" .non (putF "name" nm [])))
 have e4:upd H3 p (.ins ATask dx (putF "founds" (.ref lf) (putF "needs" .non (putF "name" nm [])))) lf=some (.lst []):=by rw[zm npl.symm];exact elf
 generalize upd H3 p (.ins ATask dx (putF "founds" (.ref lf) (putF "needs" .non (putF "name" nm []))))=H4 at i4 e4
 refine⟨_,rfl,p,ATask,dx,_,rfl,i4.1,clT,nP,(by show 3<1000;decide),?_⟩
 have i5:=i4.put (fs':=putF "paper" .non (putF "founds" (.ref lf) (putF "needs" .non (putF "name" nm []))))
 have e5:upd H4 p (.ins ATask dx (putF "paper" .non (putF "founds" (.ref lf) (putF "needs" .non (putF "name" nm []))))) lf=some (.lst []):=by rw[zm npl.symm];exact e4
 generalize upd H4 p (.ins ATask dx (putF "paper" .non (putF "founds" (.ref lf) (putF "needs" .non (putF "name" nm [])))))=H5 at i5 e5
 refine⟨_,rfl,p,ATask,dx,_,rfl,i5.1,clT,nH,(by show 4<1000;decide),?_⟩
 have i6:=i5.put (fs':=putF "how" .non (putF "paper" .non (putF "founds" (.ref lf) (putF "needs" .non (putF "name" nm [])))))
 have e6:upd H5 p (.ins ATask dx (putF "how" .non (putF "paper" .non (putF "founds" (.ref lf) (putF "needs" .non (putF "name" nm [])))))) lf=some (.lst []):=by rw[zm npl.symm];exact e5
 generalize upd H5 p (.ins ATask dx (putF "how" .non (putF "paper" .non (putF "founds" (.ref lf) (putF "needs" .non (putF "name" nm []))))))=H6 at i6 e6
 refine⟨_,rfl,_,rfl,p,ATask,dx,_,rfl,i6.1,clT,nR,(by show 5<1000;decide),?_⟩
 have i7:=i6.put (fs':=putF "rule" u (putF "how" .non (putF "paper" .non (putF "founds" (.ref lf) (putF "needs" .non (putF "name" nm []))))))
 have e7:upd H6 p (.ins ATask dx (putF "rule" u (putF "how" .non (putF "paper" .non (putF "founds" (.ref lf) (putF "needs" .non (putF "name" nm []))))))) lf=some (.lst []):=by rw[zm npl.symm];exact e6
 generalize upd H6 p (.ins ATask dx (putF "rule" u (putF "how" .non (putF "paper" .non (putF "founds" (.ref lf) (putF "needs" .non (putF "name" nm [])))))))=H7 at i7 e7
 refine⟨_,rfl,_,rfl,p,ATask,dx,_,rfl,i7.1,clT,nK,(by show 6<1000;decide),?_⟩
 have i8:=i7.put (fs':=putF "kept" .non (putF "rule" u (putF "how" .non (putF "paper" .non (putF "founds" (.ref lf) (putF "needs" .non (putF "name" nm [])))))))
 have e8:upd H7 p (.ins ATask dx (putF "kept" .non (putF "rule" u (putF "how" .non (putF "paper" .non (putF "founds" (.ref lf) (putF "needs" .non (putF "name" nm [])))))))) lf=some (.lst []):=by rw[zm npl.symm];exact e7
 generalize upd H7 p (.ins ATask dx (putF "kept" .non (putF "rule" u (putF "how" .non (putF "paper" .non (putF "founds" (.ref lf) (putF "needs" .non (putF "name" nm []))))))))=H8 at i8 e8
 have npr:p≠rl:=fun z=>by rw[z,hrl] at hp;cases hp
 have hrl8:=i8.2 _ _ npr.symm hrl
 refine⟨_,rfl,rl,rfl,⟨_,Sl hrl8⟩,?_⟩
 refine⟨fun i m vs G=>i=0/\vs=[]/\G=H8,⟨0,rfl,rfl,rfl⟩,fun i m vs G h=>?_⟩
 obtain⟨rfl,rfl,rfl⟩:=h
 refine⟨yN _,.inl ⟨⟨_,Sl hrl8,yF _⟩,fun D hD=>?_⟩⟩
 have eD:upd G D (.lst []) D=some (.lst []):=zc
 have sD:=Sn (o:=.lst []) hD
 have nlD:lf≠D:=zh e8 hD
 have npD:p≠D:=zh i8.1 hD
 have hD0:H D=none:=i8.free npD.symm hD
 generalize upd G D (.lst [])=G2 at eD sD
 refine⟨_,rfl,p,ATask,dx,_,rfl,sD _ _ i8.1,clT,nE,(by show 7<1000;decide),?_⟩
 have tk:Tk ATask (upd G2 p (.ins ATask dx (putF "ends" (.ref D) (putF "kept" .non (putF "rule" u (putF "how" .non (putF "paper" .non (putF "founds" (.ref lf) (putF "needs" .non (putF "name" nm []))))))))))
   p lf D nm .non .non .non u .non [] []:=
  ⟨⟨dx,by rw[zc];exact congrArg (fun z=>some (HO.ins ATask dx z)) (zoo nm u .non (.ref lf) (.ref D))⟩,by rw[zm npl.symm];exact sD _ _ e8,by rw[zm npD.symm];exact eD,nlD⟩
 obtain⟨dx3,ei3⟩:=tk.ins
 exact⟨_,rfl,p,dx3,_,rfl,ei3,rfl,p,lf,D,nm,_,_,_,u,_,[],rfl,tk,false,rfl,iteF (q lf D _ hlf0 hD0 tk fun c o hc e=>by rw[zm hc];exact sD _ _ (i8.2 c o hc e))⟩
def zkn(K:uZ)(AT:Addr):Sp:=fun vs H Q _=>∃(p lf le:Addr)(nm u nd v:V)(us:List V)(P:Pl)(x:Ex)(fs fs':List Res),vs=[.ref p,v]/\Tk AT H p lf le nm nd .non .non u .non us []/\RW H u x.toW/\RuP P x/\Fo H us fs /\
 ((nd=.non/\fs'=fs/\Al P fs)\/∃z f,nd=.str z/\RW H v f.toW/\Fd f/\fs.length<5/\(P.go fs).2=none/\fs'=fs++[f]) /\
 ∀(le':Addr)(us':List V)(nd' pa' ho':V)(H':Hp),Tk AT H' p lf le' nm nd' pa' ho' u .non us' []->(H le'=none\/le'=le)->Fo H' us' fs'->zdX K H' P x u us' fs' nd' pa' ho'->Tq H H'->(∀c o,c≠p->c≠lf->H c=some o->H' c=some o)->Q .non H'
theorem Fo.snoc{H:Hp}{us:List V}{fs:List Res}{v:V}{f:Res}(h:Fo H us fs)(r:RW H v f.toW)(d:Fd f)(l:fs.length<5):Fo H (us++[v]) (fs++[f]):=
 ⟨by rw[wF];exact h.rs.snoc r,fun x hx=>by rcases xI.mp hx with hx|hx;exact h.fd x hx;rw[yO.mp hx];exact d,by rw[yE];show fs.length+1<=5;lia⟩
theorem zca:FnScope ["self","found","answer"] ["self","found"] (zg ZN):=mkSc rfl (by decide +kernel)
theorem zfP{dV:Value}(F:FunD K "step" "Task.step" ZN dV f fd)(G_Task_finish:Z2 P w K mg base ATask "finish" k ["self","how","paper"] (zcp ATask))(G_Task_run:Z2 P w K mg base ATask "run" k ["self"] (zgP K ATask))(G_matched_beginning:Have P w K mg base "matched_beginning" k ["papers","count"] (zkm))(G_Task_take:Z2 P w K mg base ATask "take" k ["self","found"] (zeR ATask))(m_len:mg "len"=none)(clT:Cls K ATask)(nN:zH K ATask "needs")(nF:zH K ATask "founds")(nE:zH K ATask "ends"):FnOk P w K mg base CX0 (k+1) f fd ["self","found"] (zkn K ATask):=by
 refine F.okQ zca (by rintro _ _ _ _ ⟨_,_,_,_,_,_,_,_,_,_,_,_,rfl,_⟩;rfl) fun cdv A outer s H vs Q E hr h=>?_
 obtain⟨p,lf,le,nm,u,nd,v,us,P,x,fs,fs',rfl,tk,ru,rp,fo,hcase,q⟩:=h
 refine⟨_,(zd (zD (zbs (zbd (zI (pv 0) rfl))) (zf (Zc (pe_m G_Task_take hr (pv 0) (za (pv 1) zb)))) zt)
  (zd (zx (i:=2) zca.nd rfl (Or.inl rfl) (zq G_matched_beginning hr rfl (za (zY [] [] rfl rfl (by decide +kernel) rfl (by decide +kernel) rfl (by decide +kernel) trivial rfl trivial (zaq (zI (pv 0) rfl)) (fun C s H fp=>⟨zW,(zo (show IxR _ (rIxT K) from zr) (pv 0) ze (fun _ _=>rfl))⟩)) (za (zk zB rfl m_len uO (za (zI (pv 0) rfl) zb)) zb))))
  (zf (zD (zw Ze (zo zr (pv 2) ze (fun _ _=>rfl)) zu (nomark _)) (zf (Zc (pe_m G_Task_finish hr (pv 0) (za (zo zr (zo zA (zI (pv 0) rfl) (zo zr (pv 2) ze (fun _ _=>rfl)) (fun _ _=>rfl)) ze (fun _ _=>rfl)) (za (zo zr (zo zA (zI (pv 0) rfl) (zo zr (pv 2) ze (fun _ _=>rfl)) (fun _ _=>rfl)) ze (fun _ _=>rfl)) zb))))) (zf (zD (zw Ze (zo zr (pv 2) ze (fun _ _=>rfl)) zu (nomark _)) (zf (ZK (pv 0) (zo zr (pv 2) ze (fun _ _=>rfl)) rfl)) (zf (Zc (zh4 G_Task_run hr (pv 0)))))))))),?_⟩
 have hal:Al P fs':=by
  rcases hcase with⟨_,rfl,h⟩|⟨z,g,_,_,_,_,h,rfl⟩
  ·exact h
  ·exact zkg h g
 refine seqI (fun σ' G=>σ'=[some (.ref p),some v,none]/\∃(le1:Addr)(us1:List V),Tk ATask G p lf le1 nm .non .non .non u .non us1 []/\(H le1=none\/le1=le)/\Fo G us1 fs'/\Tq H G/\∀c o,c≠p->c≠lf->H c=some o->G c=some o) (fun σ' G h=>?_) (fun nx=>?_)
 ·obtain⟨rfl,le1,us1,tk1,hle1,fo1,t1,k1⟩:=h
  obtain⟨dx1,ei1⟩:=tk1.ins
  refine⟨_,rfl,p,ATask,dx1,_,.ref le1,rfl,ei1,clT,nE,rfl,le1,rfl,⟨_,Sl tk1.en⟩,?_⟩
  refine⟨fun i m vs G'=>i=0/\vs=[]/\G'=G,⟨0,rfl,rfl,rfl⟩,fun i m vs G' h=>?_⟩
  obtain⟨rfl,rfl,rfl⟩:=h
  refine⟨yN _,.inl ⟨⟨_,Sl tk1.en,yF _⟩,fun D hD=>?_⟩⟩
  have eD:upd G' D (.lst []) D=some (.lst []):=zc
  have s1:=Sn (o:=.lst []) hD
  generalize upd G' D (.lst [])=G2 at eD s1
  have tk2:=tk1.same s1
  obtain⟨dx2,ei2⟩:=tk2.ins
  have t2:=t1.trans (Zw s1)
  have fo2:=fo1.mono (zi s1)
  have hlen:=fo2.len
  refine⟨_,rfl,p,ATask,dx2,_,.ref lf,rfl,ei2,clT,nF,rfl,_,_,rfl,.inl ⟨_,Sl tk2.fo,rfl⟩,D,us1.length,rfl,eD,fun a G3 s3 ea=>?_⟩
  dsimp only[Zj]
  have tk3:=tk2.same s3
  obtain⟨dx3,ei3⟩:=tk3.ins
  have t3:=t2.trans (Zw s3)
  refine⟨_,rfl,a,_,0,_,rfl,rfl,Sq ea,zl (j:=0) rfl,rfl,_,rfl,iteF ?_⟩
  refine⟨_,rfl,a,_,0,_,rfl,rfl,Sq ea,zl (j:=0) rfl,rfl,_,rfl,iteF ?_⟩
  refine⟨_,rfl,p,dx3,_,rfl,ei3,rfl,p,lf,le1,nm,u,us1,_,P,x,fs',rfl,tk3,ru.mono t3.tups,rp,fo2.mono (zi s3),hal,fun nd pa ho G4 tk4 post k4=>?_⟩
  have t4:Tq G3 G4:=fun c o t e=>k4 c o (fun z=>by rw[z,ei3] at e;cases e;exact t) e
  exact q le1 us1 nd pa ho G4 tk4 hle1 ((fo2.mono (zi s3)).mono t4.tups) post (t3.trans t4) (fun c o c1 c2 e=>k4 c o c1 (s3 _ _ (s1 _ _ (k1 c o c1 c2 e))))
 ·obtain⟨dx,ei⟩:=tk.ins
  refine⟨_,rfl,p,ATask,dx,_,nd,rfl,ei,clT,nN,rfl,?_⟩
  rcases hcase with⟨rfl,rfl,_⟩|⟨z,g,rfl,rg,dg,l5,hgo,rfl⟩
  ·refine⟨_,rfl,iteF ?_⟩
   exact nx _ _ ⟨rfl,le,us,tk,.inr rfl,fo,Tq.refl,fun c o _ _ e=>e⟩
  ·refine⟨_,rfl,iteT ⟨_,rfl,p,dx,_,rfl,ei,rfl,_,rfl,?_⟩⟩
   refine⟨p,lf,le,nm,_,_,_,u,v,us,rfl,tk,by rw[fo.len];exact fo.few,fun le' G hle' tk' k'=>?_⟩
   have t':Tq H G:=fun c o t e=>k' c o (fun z=>by rw[z,ei] at e;cases e;exact t) (fun z=>by rw[z,tk.fo] at e;cases e;exact t) e
   exact nx _ _ ⟨rfl,le',us++[v],tk',.inl hle',(fo.mono t'.tups).snoc (rg.mono t'.tups) dg l5,t',k'⟩
noncomputable def abcL:Str:=uI "abcdefghijklmnopqrstuvwxyz"
def Vr(z:Str):Prop:=1<=z.length/\z.length<=8/\∀c∈z.cps.toList,97<=c/\c<=122
theorem zlE(c:Nat)(h:97<=c/\c<=122):c∈abcL.cps.toList:=by
 have e:abcL.cps.toList=(xR 26).map (· + 97):=by decide +kernel
 rw[e]
 exact wC.mpr ⟨c-97,wR.mpr (by lia),by lia⟩
def zgR:Sp:=fun vs H Q _=>∃z:Str,vs=[.str z]/\Vr z/\∀H',Same H H'->Q (.bl true) H'
def zko:Sp:=fun vs H Q _=>∃(a:Addr)(bs:List Str),vs=[.ref a]/\H a=some (.tup (bs.map V.str))/\(∀z∈bs,Vr z)/\bs.Nodup/\bs.length<=2/\∀H',Same H H'->Q (.bl true) H'
mutual
theorem zkp:∀x:W,x.Ok->zdv x=true
 |.num i,h=>decide_eq_true ⟨h.1,h.2⟩
 |.txt z,h=>decide_eq_true h.1
 |.lst ws,h=>by
  have h1:ws.length<=60:=h.1
  have h2:Oks ws:=h.2
  simp only[zdv,decide_eq_true h1,fitss_ok ws h2,vZ]
theorem fitss_ok:∀ws:List W,Oks ws->fitsWs ws=true
 |[],_=>rfl
 |x::r,h=>by simp only[fitsWs,zkp x h.1,fitss_ok r h.2,vZ]
end
theorem zgS{x:W}(h:x.Ok)(hs:x.size<=1000)(hd:x.depth<=12):zgi x=true:=by
 unfold zgi
 rw[zkp x h,decide_eq_true hs,decide_eq_true (show (x.depth:Int)<=12 by lia)]
 rfl
def Ex.wd:Ex->Str
 |.lit _=>"lit"
 |.var _=>"var"
 |.letE _ _ _=>"let"
 |.ifE _ _ _=>"if"
 |.elseE _ _=>"else"
 |.cryE _=>"cry"
 |.lookE _=>"look"
 |.reck d _=>wdS d
noncomputable def Ex.bnd:Ex->List Str
 |.letE s _ _=>[s]
 |_=>[]
noncomputable def Ex.kids:Ex->List Ex
 |.lit _=>[]
 |.var _=>[]
 |.letE _ a b=>[a,b]
 |.ifE a b c=>[a,b,c]
 |.elseE a b=>[a,b]
 |.cryE a=>[a]
 |.lookE a=>[a]
 |.reck _ es=>es
noncomputable def Ex.leaf:Ex->Bool
 |.lit _=>true
 |.var _=>true
 |_=>false
def Ex.argW:Ex->List W
 |.lit y=>[y]
 |.var s=>[.txt s]
 |.letE s a b=>[.txt s,a.toW,b.toW]
 |.ifE a b c=>[a.toW,b.toW,c.toW]
 |.elseE a b=>[a.toW,b.toW]
 |.cryE a=>[a.toW]
 |.lookE a=>[a.toW]
 |.reck _ es=>exWs es
theorem zmr(x:Ex):x.toW=.lst (.txt x.wd::x.argW):=by cases x<;>rw[Ex.toW]<;>rfl
theorem zkq(x:Ex):bcn x.wd=x.bnd.length:=by
 cases x with
 |reck d es=>cases d<;>rfl
 |_=>rfl
theorem znt(x:Ex):hasP x.wd=!x.leaf:=by
 cases x with
 |reck d es=>cases d<;>rfl
 |_=>rfl
def Fm:Ex->Prop
 |.lit y=>y.Ok/\y.size<=1000/\y.depth<=12
 |.var s=>Vr s
 |.letE s _ _=>Vr s
 |.reck d es=>d=.same/\es.length=2
 |_=>True
theorem zkr{x:Ex}(h:Fm x)(l:x.leaf=false):valV kvsP (.inr x.wd)=some (.int x.kids.length):=by
 cases x with
 |lit y=>cases l
 |var s=>cases l
 |reck d es=>obtain⟨rfl,h⟩:=h;rw[Ex.kids,h];rfl
 |_=>rfl
theorem zlF{x:Ex}(l:x.leaf=false):x.argW.length=x.bnd.length+x.kids.length:=by
 cases x with
 |lit y=>cases l
 |var s=>cases l
 |reck d es=>show (exWs es).length=0+es.length;rw[zap,Nat.zero_add]
 |_=>rfl
theorem opn{H:Hp}{v:V}{x:Ex}(h:RW H v x.toW):∃a us,v=.ref a/\H a=some (.tup (.str x.wd::us))/\RWs H us x.argW:=by
 rw[zmr] at h
 obtain⟨a,vs,rfl,ea,hw⟩:=h.tup
 obtain⟨u0,us,rfl,r0,hw2⟩:=hw.cons
 obtain rfl:=r0.str
 exact⟨a,us,rfl,ea,hw2⟩
theorem zgT{H:Hp}{us:List V}{x:Ex}(h:RWs H us x.argW):RWs H (ptsV x.wd us) (exWs x.kids):=by
 unfold ptsV
 rw[znt,zkq]
 cases x with
 |lit y=>exact (⟨rfl,fun i v w e=>by simp at e⟩:RWs H [] [])
 |var s=>exact (⟨rfl,fun i v w e=>by simp at e⟩:RWs H [] [])
 |letE s a b=>obtain⟨u0,us,rfl,_,h⟩:=h.cons;exact h
 |reck d es=>exact h
 |ifE a b c=>exact h
 |elseE a b=>exact h
 |cryE a=>exact h
 |lookE a=>exact h
theorem zhz{H:Hp}{us:List V}{x:Ex}(h:RWs H us x.argW)(l:x.leaf=false):us.take (bcn x.wd)=x.bnd.map V.str:=by
 rw[zkq]
 cases x with
 |lit y=>cases l
 |var s=>cases l
 |letE s a b=>obtain⟨u0,us,rfl,r,h⟩:=h.cons;rw[r.str];rfl
 |_=>rfl
def zeS:Sp:=fun vs H Q _=>∃(a:Addr)(z:Str)(us:List V),vs=[.ref a]/\H a=some (.tup (.str z::us))/\us.length<=100/\∀(p:Addr)(H':Hp),Same H H'->H' p=some (.tup (us.take (bcn z)))->Q (.ref p) H'
def zfQ:Sp:=fun vs H Q _=>∃(v:V)(x:Ex),vs=[v]/\RW H v x.toW/\Fm x/\x.toW.depth<50/\∀H',Same H H'->Q (.bl true) H'
theorem znu(x:Ex):eqW x.toW (.lst [])=false:=by rw[zmr];rfl
theorem zdF:FnScope ["thing"] ["thing"] (zg zaF):=mkSc rfl (by decide +kernel)
theorem zdG(F:Fun K "is_variable" "is_variable" zaF f fd)(m_all:mg "all"=none)(m_isi:mg "isinstance"=none)(m_len:mg "len"=none)(m_str:mg "str"=none)(m_MOST_LETTERS:∃t,mg "MOST_LETTERS"=some (.int 8 t))(m_LETTERS:∃t,mg "LETTERS"=some (.str abcL t)):FnOk P w K mg base CX0 (k+1) f fd ["thing"] (zgR):=by
 refine F.okQ zdF (by rintro _ _ _ _ ⟨_,rfl,_⟩;rfl) fun cdv A outer s H vs Q E hr h=>?_
 obtain⟨z,rfl,hz,q⟩:=h
 refine⟨_,(zd (zD (PW.pt (ZX (zT (zG (zk zN rfl m_isi zJ (za (pv 0) (za (ZE rfl m_str Zl) zb))))) (ZI (zT (zbu zf2 zf2 ze (zk zB rfl m_len uO (za (pv 0) zb)) (Zq rfl m_MOST_LETTERS)))))) (zf (zj zaj)) zt)
  (zf (zj (zk (Zx rfl) rfl m_all zaO (za (zY [] [] rfl rfl (by decide +kernel) rfl (by decide +kernel) rfl (by decide +kernel) trivial rfl trivial (zha (pv 0)) (fun C s H fp=>⟨zW,(zE ziN (pv 0) (zer rfl m_LETTERS) (by rfl))⟩)) zb))))),?_⟩
 have h1:=hz.1
 have h2:=hz.2.1
 refine⟨_,rfl,_,_,_,_,rfl,.str z,zaL,_,rfl,iteF ?_⟩
 refine⟨_,rfl,_,_,rfl,⟨small (by lia),rfl⟩,_,_,rfl,rfl,_,rfl,?_⟩
 rw[decide_eq_true (show (1:Int)<=(z.length:Int) by lia)]
 refine iteT ⟨_,_,rfl,rfl,_,rfl,?_⟩
 rw[decide_eq_true (show (z.length:Int)<=8 by lia)]
 refine iteF ?_
 have hsz:z.cps.size=z.length:=rfl
 dsimp only[zhJ,tRet,tOp,tC,tCB,zbe,tNil]
 refine zja (z.cps.toList.map fun c=>V.bl true) (by rfl) (by rw[yB];simp) (by rw[hsz];exact small (by lia)) (fun i c y H1 R hc hy s1 hR=>?_) (fun H1 D s1 hD=>?_)
 ·have hc':z.cps.toList[i]?=some c:=by simpa using hc
  rw[yK,hc'] at hy
  cases hy
  refine⟨_,rfl,_,_,rfl,rfl,?_⟩
  rw[show (!(Builtin.Str.occurrences abcL ⟨#[c]⟩ 0 abcL.length 1).isEmpty)=decide (c∈abcL.cps.toList) from StrLaws.found_one abcL c,decide_eq_true (zlE c (hz.2.2 c (yS hc')))]
  exact hR _ (Sr _)
 ·refine⟨D,z.cps.toList.map fun _=>true,rfl,Sl ?_,?_⟩
  ·rw[zc,wB];rfl
  ·rw[show ((z.cps.toList.map fun _=>true).all id)=true by simp]
   exact q _ (s1.trans (Sn hD))
theorem za2:FnScope ["names"] ["names"] (zg Zt):=mkSc rfl (by decide +kernel)
theorem za3(F:Fun K "are_good_variables" "are_good_variables" Zt f fd)(G_is_variable:Have P w K mg base "is_variable" k ["thing"] (zgR))(m_all:mg "all"=none)(m_len:mg "len"=none):FnOk P w K mg base CX0 (k+1) f fd ["names"] (zko):=by
 refine F.okQ za2 (by rintro _ _ _ _ ⟨_,_,rfl,_⟩;rfl) fun cdv A outer s H vs Q E hr h=>?_
 obtain⟨a,bs,rfl,ha,hv,hnd,hl,q⟩:=h
 refine⟨_,(zd (zD (zT (zG (zk (Zx rfl) rfl m_all zaO (za (zY [] [] rfl rfl (by decide +kernel) rfl (by decide +kernel) rfl (by decide +kernel) trivial rfl trivial (zb6 (pv 0)) (fun C s H fp=>⟨zW,(zq G_is_variable hr rfl (za (pv 0) zb))⟩)) zb)))) (zf (zj zaj)) zt)
  (zf (zj (zkF (zE zf1 (zk zB rfl m_len uO (za (pv 0) zb)) ze (nomark _)) (zZ (zE zcz (zo zr (pv 0) ze (fun _ _=>rfl)) (zo zr (pv 0) ze (fun _ _=>rfl)) (nomark _))))))),?_⟩
 dsimp only[zhJ,tRet,tOp,tC,tCB,zbe,tNil,tB,tNot,tIfS,tSeq]
 refine zjb (K:=K) (bs.map fun _=>V.bl true) (by rfl) (Sq ha) (by rw[yB,yB]) (yM (show (bs.map V.str).length<=2 by rw[yB];exact hl) (by decide)) (fun i v y H1 R hv' hy s1 hR=>?_) (fun H1 D s1 hD=>?_)
 ·rw[yK] at hv' hy
  obtain⟨z,hz,rfl⟩:=yW.mp hv'
  rw[hz] at hy
  cases hy
  exact⟨_,rfl,z,rfl,hv z (yS hz),fun H2 s2=>hR H2 s2⟩
 ·have s2:=s1.trans (Sn (o:=.lst (bs.map fun _=>V.bl true)) hD)
  refine⟨D,bs.map fun _=>true,rfl,Sl (by rw[zc,wB];rfl),_,rfl,?_⟩
  rw[show ((bs.map fun _=>true).all id)=true by simp]
  refine iteF ⟨_,rfl,_,_,rfl,.inr ⟨_,Sq (s2 _ _ ha),rfl⟩,_,_,rfl,rfl,_,rfl,?_⟩
  rw[yB]
  match bs,hnd,hl with
  |[],_,_=>exact iteT (q _ s2)
  |[x],_,_=>exact iteT (q _ s2)
  |[x,y],hnd,_=>
   have hxy:x≠y:=fun z=>by subst z;simp at hnd
   refine iteF ⟨_,rfl,a,_,0,_,rfl,rfl,Sq (s2 _ _ ha),zl (j:=0) rfl,_,rfl,a,_,1,_,rfl,rfl,Sq (s2 _ _ ha),zl (j:=1) rfl,rfl,?_⟩
   rw[show decide (V.str x=V.str y)=false from decide_eq_false fun z=>hxy (V.str.inj z)]
   exact q _ s2
theorem zdr:FnScope ["expression"] ["expression"] (zg zar):=mkSc rfl (by decide +kernel)
theorem zds(F:Fun K "variables_of" "variables_of" zar f fd)(G_binding_count:Have P w K mg base "binding_count" k ["word"] (zcn)):FnOk P w K mg base CX0 (k+1) f fd ["expression"] (zeS):=by
 refine F.okQ zdr (by rintro _ _ _ _ ⟨_,_,_,rfl,_⟩;rfl) fun cdv A outer s H vs Q E hr h=>?_
 obtain⟨a,z,us,rfl,ha,hl,q⟩:=h
 refine⟨_,(zf (zj (zbw zlQ (pv 0) (zbQ ze) (zbQ (zC Zk ze (zq G_binding_count hr rfl (za (zo zr (pv 0) ze (fun _ _=>rfl)) zb))))))),?_⟩
 refine⟨_,rfl,_,rfl,_,rfl,a,_,0,_,rfl,rfl,Sq ha,zl (j:=0) rfl,z,rfl,_,_,rfl,rfl,_,rfl,a,_,rfl,Sq ha,?_,fun p hp=>?_⟩
 ·intro h
  have h1:HT.sIx (V.str z::us).length 0 (some ((1:Nat):Int))=0:=h.1
  rw[HT.sIx_nat,yG] at h1
  lia
 have e:cutV (V.str z::us) (some 1) (some (1+(bcn z:Int)))=us.take (bcn z):=by
  show ((V.str z::us).drop (HT.sIx (V.str z::us).length 0 (some ((1:Nat):Int)))).take (HT.sIx (V.str z::us).length (V.str z::us).length (some ((1+bcn z:Nat):Int))-HT.sIx (V.str z::us).length 0 (some ((1:Nat):Int)))=us.take (bcn z)
  rw[HT.sIx_nat,HT.sIx_nat,yG,show min 1 (us.length+1)=1 by lia,wZ,vX]
  by_cases hb:bcn z<=us.length
  ·rw[show min (1+bcn z) (us.length+1)-1=bcn z by lia]
  ·rw[show min (1+bcn z) (us.length+1)-1=us.length by lia,xF (yF _),xF (by lia)]
 have s1:=Sn (o:=.tup (cutV (V.str z::us) (some 1) (some (1+(bcn z:Int))))) hp
 exact q p _ s1 (by rw[zc,e])
theorem zdt:FnScope ["thing","word"] ["thing"] (zg zbW):=mkSc rfl (by decide +kernel)
theorem zgU(F:Fun K "has_form" "has_form" zbW f fd)(G_are_good_variables:Have P w K mg base "are_good_variables" k ["names"] (zko))(G_variables_of:Have P w K mg base "variables_of" k ["expression"] (zeS))(G_binding_count:Have P w K mg base "binding_count" k ["word"] (zcn))(G_is_variable:Have P w K mg base "is_variable" k ["thing"] (zgR))(G_is_worth:Have P w K mg base "is_worth" k ["thing"] (zad))(m_isi:mg "isinstance"=none)(m_len:mg "len"=none)(m_str:mg "str"=none)(m_tuple:mg "tuple"=none)(m_MOST_LISTED:∃t,mg "MOST_LISTED"=some (.int 8 t)){g_PARTS:Addr}(m_PARTS:mg "PARTS"=some (.ref g_PARTS))(d_PARTS:MD P w K g_PARTS kvsP):FnOk P w K mg base CX0 (k+1) f fd ["thing"] (zfQ):=by
 refine F.okQ zdt (by rintro _ _ _ _ ⟨_,_,rfl,_⟩;rfl) fun cdv A outer s H vs Q E hr h=>?_
 obtain⟨v,x,rfl,hv,hg,hd,q⟩:=h
 refine⟨_,(zd (zD (PW.pt (ZX (zT (zG (zk zN rfl m_isi zJ (za (pv 0) (za (ZE rfl m_tuple zF) zb))))) (ZX (zw (zme hr.units) (pv 0) (zy zb) (nomark _)) (ZI (zT (zG (zk zN rfl m_isi zJ (za (zo zr (pv 0) ze (fun _ _=>rfl)) (za (ZE rfl m_str Zl) zb))))))))) (zf (zj zaj)) zt)
  (zd (zx (i:=1) zdt.nd rfl (Or.inl rfl) (zo zr (pv 0) ze (fun _ _=>rfl)))
  (zd (zD (zw Ze (pv 1) zu (nomark _)) (zf (zj (zU (zE Ze (zk zB rfl m_len uO (za (pv 0) zb)) ze (nomark _)) (zZ (zq G_is_worth hr rfl (za (zo zr (pv 0) ze (fun _ _=>rfl)) zb)))))) zt)
  (zd (zD (zw Ze (pv 1) zu (nomark _)) (zf (zj (zU (zE Ze (zk zB rfl m_len uO (za (pv 0) zb)) ze (nomark _)) (zZ (zq G_is_variable hr rfl (za (zo zr (pv 0) ze (fun _ _=>rfl)) zb)))))) zt)
  (zd (zD (zw Ze (pv 1) zu (nomark _)) (zf (zj (zE zf2 (zk zB rfl m_len uO (za (pv 0) zb)) (zC Zk ze (Zq rfl m_MOST_LISTED)) (nomark _)))) zt)
  (zd (zD (PW.pt (ZX (zw zfo (pv 1) (zQ (v:=.ref g_PARTS) rfl m_PARTS rfl) (by rfl)) (ZI (zw zcz (zk zB rfl m_len uO (za (pv 0) zb)) (zC Zk (zC Zk ze (zq G_binding_count hr rfl (za (pv 1) zb))) (zo zhj (zQ (v:=.ref g_PARTS) rfl m_PARTS rfl) (pv 1) (fun _ _=>rfl))) (nomark _))))) (zf (zj zaj)) zt)
  (zf (zj (zq G_are_good_variables hr rfl (za (zq G_variables_of hr rfl (za (pv 0) zb)) zb)))))))))),?_⟩
 obtain⟨a,us,rfl,ea,ho⟩:=opn hv
 have hul:=ho.len
 refine⟨_,rfl,_,_,_,_,rfl,.tup ea,zay,_,rfl,iteF ?_⟩
 refine⟨_,rfl,zl0,fun e he=>?_⟩
 have s1:=Sn (o:=.tup []) he
 have ea1:=s1 _ _ ea
 refine⟨x.toW,.lst [],hv.mono (zi s1),.lst zc rfl (fun i v w e=>by simp at e),hd,_,rfl,?_⟩
 rw[znu]
 refine iteF ⟨_,rfl,a,_,0,_,rfl,rfl,Sq ea1,zl (j:=0) rfl,_,_,_,_,rfl,.str _,zaL,_,rfl,iteF ?_⟩
 refine⟨_,rfl,a,_,0,_,rfl,rfl,Sq ea1,zl (j:=0) rfl,?_⟩
 dsimp only[Zj]
 cases hlf:x.leaf with
 |true=>
  cases x with
  |lit y=>
   obtain⟨vx,us,rfl,hx,ho⟩:=ho.cons
   obtain rfl:=RWs.nil0 ho
   refine⟨_,rfl,rfl,_,rfl,iteT ⟨_,rfl,_,_,rfl,.inr ⟨_,Sq ea1,rfl⟩,rfl,_,rfl,iteT ?_⟩⟩
   have hok:=zbC y hg.1
   refine⟨_,rfl,a,_,1,_,rfl,rfl,Sq ea1,zl (j:=1) rfl,vx,y.toT,rfl,(hx.mono (zi s1)).toRT,zfn y hok,fun H2 s2=>?_⟩
   rw[zaI hok,zgS hg.1 hg.2.1 hg.2.2]
   exact q _ (s1.trans s2)
  |var z=>
   obtain⟨vx,us,rfl,hx,ho⟩:=ho.cons
   obtain rfl:=RWs.nil0 ho
   obtain rfl:=hx.str
   refine⟨_,rfl,rfl,_,rfl,iteF ⟨_,rfl,rfl,_,rfl,iteT ⟨_,rfl,_,_,rfl,.inr ⟨_,Sq ea1,rfl⟩,rfl,_,rfl,iteT ?_⟩⟩⟩
   exact⟨_,rfl,a,_,1,_,rfl,rfl,Sq ea1,zl (j:=1) rfl,z,rfl,hg,fun H2 s2=>q _ (s1.trans s2)⟩
  |_=>cases hlf
 |false=>
  have hw:decide (V.str x.wd=V.str (uI "lit"))=false/\decide (V.str x.wd=V.str (uI "var"))=false/\decide (V.str x.wd=V.str (uI "list"))=false:=by
   cases x with
   |lit y=>cases hlf
   |var s=>cases hlf
   |reck d es=>obtain⟨rfl,_⟩:=hg;exact⟨rfl,rfl,rfl⟩
   |_=>exact⟨rfl,rfl,rfl⟩
  have hlen:=zlF hlf
  refine⟨_,rfl,rfl,_,rfl,?_⟩
  rw[hw.1]
  refine iteF ⟨_,rfl,rfl,_,rfl,?_⟩
  rw[hw.2.1]
  refine iteF ⟨_,rfl,rfl,_,rfl,?_⟩
  rw[hw.2.2]
  refine iteF ⟨_,rfl,g_PARTS,kvsP,.inr x.wd,rfl,rfl,d_PARTS,_,rfl,?_⟩
  rw[zkr hg hlf]
  refine iteF ⟨_,rfl,_,_,rfl,.inr ⟨_,Sq ea1,rfl⟩,?_⟩
  refine⟨_,rfl,x.wd,rfl,_,_,rfl,rfl,_,rfl,g_PARTS,kvsP,.inr x.wd,_,rfl,rfl,d_PARTS,zkr hg hlf,_,_,rfl,rfl,rfl,_,rfl,?_⟩
  have en:(!decide (V.int (((V.str x.wd::us).length:Nat):Int)=V.int (1+(bcn x.wd:Int)+(x.kids.length:Int))))=false:=by rw[decide_eq_true (congrArg V.int (by rw[yG,hul,hlen,zkq];lia))];rfl
  rw[en]
  refine iteF ?_
  have hb8:us.length<=100:=by
   rw[hul,hlen]
   cases x with
   |reck d es=>obtain⟨_,h⟩:=hg;show 0+es.length<=100;lia
   |lit y=>cases hlf
   |var s=>cases hlf
   |letE s a b=>show 1+2<=100;decide
   |ifE a b c=>show 0+3<=100;decide
   |elseE a b=>show 0+2<=100;decide
   |cryE a=>show 0+1<=100;decide
   |lookE a=>show 0+1<=100;decide
  refine⟨_,rfl,a,x.wd,us,rfl,ea1,hb8,fun p H2 s2 ep=>?_⟩
  rw[zhz ho hlf] at ep
  refine⟨p,x.bnd,rfl,ep,fun z hz=>?_,?_,?_,fun H3 s3=>q _ (s1.trans (s2.trans s3))⟩
  ·cases x with
   |letE s a b=>rw[yO.mp hz];exact hg
   |_=>cases hz
  ·cases x with
   |letE s a b=>simp[Ex.bnd]
   |_=>simp[Ex.bnd]
  ·cases x with
   |letE s a b=>show 1<=2;decide
   |_=>show 0<=2;decide
end
end D
namespace L2
open PySem
theorem zks:uT (uI "set")=some (.type "set"):=by kernel_rfl
theorem zlG{K:uZ}{fr:List Nat}{te:TE}{σ:St}{H:Hp}{F:Addr->Hp->List V->Prop}{a:Addr}{vs:List V}(Pv:Nat->List V->Hp->Prop)(hz:vs.length<=uQ)(h0:Pv 0 [] H)(hlen:∀i us H1,Pv i us H1->us.length=i)(hS:∀i us H1,Pv i us H1->SqL K H1 a vs)
  (step:∀(i:Nat)(v:V)(us:List V)(H1:Hp)(R:VK),vs[i]?=some v->Pv i us H1->(∀y H2,Pv (i+1) (us++[y]) H2->R y H2)->te (some v::frees fr σ) H1 R)
  (fin:∀(us:List V)(H1:Hp)(D:Addr),Pv vs.length us H1->H1 D=none->F D H1 us):
  ∃W:Nat->Nat->List V->Hp->Prop,(∃m,W 0 m [] H)/\∀i m vs H,W i m vs H->vs.length<=uQ /\
   (((Itl K a).stop i H/\∀D,H D=none->F D H vs) \/
    ((Itl K a).go i H/\∀v H',(Itl K a).yld i H v H'->if true=true then te (some v::frees fr σ) H' fun y H3=>∃m',m'<m/\W (i+1) m' (vs++[y]) H3 else ∃m',m'<m/\W (i+1) m' vs H')):=by
 refine⟨fun i m us H1=>i<=vs.length/\m=vs.length-i/\Pv i us H1,⟨_,yN _,rfl,h0⟩,fun i m us H1 hW=>?_⟩
 obtain⟨hi,hm,hu⟩:=hW
 have sq:=hS _ _ _ hu
 refine⟨by rw[hlen _ _ _ hu];lia,?_⟩
 by_cases hlt:i<vs.length
 ·refine .inr ⟨⟨vs,vs[i],sq,yA hlt⟩,fun v H' hy=>?_⟩
  obtain⟨rfl,hv⟩:=hy
  have hv:=hv vs sq
  refine iteT ?_
  exact step i v us H' _ hv hu fun y H2 p2=>⟨vs.length-(i+1),by lia,by lia,rfl,p2⟩
 ·have e:i=vs.length:=by lia
  subst e
  exact .inl ⟨⟨vs,sq,by lia⟩,fun D hD=>fin us H1 D hu hD⟩
end L2
namespace D
open PySem L2
mutual
noncomputable def Ex.many:Ex->Nat
 |.letE _ a b=>1+(a.many+b.many)
 |.ifE a b c=>1+(a.many+(b.many+c.many))
 |.elseE a b=>1+(a.many+b.many)
 |.cryE a=>1+a.many
 |.lookE a=>1+a.many
 |.reck _ es=>1+manys es
 |.lit _=>1
 |.var _=>1
noncomputable def manys:List Ex->Nat
 |[]=>0
 |p::r=>p.many+manys r
end
theorem zgV(x:Ex):x.many=1+manys x.kids:=by cases x<;>simp[Ex.many,manys,Ex.kids]
theorem zeT(x:Ex):x.high=1+highs x.kids:=by cases x<;>simp[Ex.high,highs,Ex.kids]
theorem zhA:∀l:List Ex,l.length<=manys l
 |[]=>yF _
 |y::r=>by rw[manys,yG,zgV];have:=zhA r;lia
theorem zeU{l:List Ex}{i:Nat}{k:Ex}(h:l[i]?=some k):(exWs l)[i]?=some k.toW:=by rw[zeE,h];rfl
theorem zms:∀{l:List Ex}{sc:List Str}{i:Nat}{k:Ex},Wfs l sc->l[i]?=some k->Wf k sc
 |y::r,sc,0,k,h,e=>by cases e;rw[Wfs] at h;exact h.1
 |y::r,sc,i+1,k,h,e=>by rw[Wfs] at h;exact zms (l:=r) h.2 (by simpa using e)
theorem zop{x:Ex}{sc:List Str}{i:Nat}{k:Ex}(h:Wf x sc)(e:x.kids[i]?=some k):Wf k (if i+1=x.kids.length then sc++x.bnd else sc):=by
 cases x with
 |lit y=>simp[Ex.kids] at e
 |var s=>simp[Ex.kids] at e
 |reck d es=>rw[Wf] at h;have:=zms h.2.2 e;split;(rw[show Ex.bnd (.reck d es)=[] from rfl,xB];exact this);exact this
 |letE s a b=>
  rw[Wf] at h
  match i,e with
  |0,e=>cases e;exact h.1
  |1,e=>cases e;exact h.2
 |ifE a b c=>
  rw[Wf] at h
  match i,e with
  |0,e=>cases e;exact h.1
  |1,e=>cases e;exact h.2.1
  |2,e=>cases e;rw[show Ex.bnd (.ifE a b k)=[] from rfl,xB,ite_self];exact h.2.2
 |elseE a b=>
  rw[Wf] at h
  match i,e with
  |0,e=>cases e;exact h.1
  |1,e=>cases e;rw[show Ex.bnd (.elseE a k)=[] from rfl,xB,ite_self];exact h.2
 |cryE a=>
  rw[Wf] at h
  match i,e with
  |0,e=>cases e;rw[show Ex.bnd (.cryE k)=[] from rfl,xB,ite_self];exact h
 |lookE a=>
  rw[Wf] at h
  match i,e with
  |0,e=>cases e;rw[show Ex.bnd (.lookE k)=[] from rfl,xB,ite_self];exact h
theorem zeV{x:Ex}(hg:Fm x):x.argW.length<=100:=by
 cases x with
 |reck d es=>obtain⟨_,h⟩:=hg;show (exWs es).length<=100;rw[zap];lia
 |_=>simp[Ex.argW]
theorem zoq(x:Ex):x.bnd.length<=1:=by cases x<;>simp[Ex.bnd]
noncomputable def Ex.isV:Ex->Bool
 |.var _=>true
 |_=>false
theorem zor(x:Ex)(hg:Fm x):decide (V.str x.wd=V.str (uI "var"))=x.isV:=by
 cases x with
 |reck d es=>obtain⟨rfl,_⟩:=hg;rfl
 |_=>rfl
theorem zos(x:Ex)(hg:Fm x):inV (.str x.wd) [.str "each",.str "over"]=false:=by
 cases x with
 |reck d es=>obtain⟨rfl,_⟩:=hg;rfl
 |_=>rfl
inductive Fa:Ex->Prop where
 |mk {x:Ex}:Fm x->x.toW.depth<50->(∀k∈x.kids,Fa k)->Fa x
theorem Fa.fm{x:Ex}:Fa x->Fm x|.mk h _ _=>h
theorem Fa.dp{x:Ex}:Fa x->x.toW.depth<50|.mk _ h _=>h
theorem Fa.kid{x:Ex}:Fa x->∀k∈x.kids,Fa k|.mk _ _ h=>h
theorem zfR{y:W}(h:y.Ok/\y.size<=1000/\y.depth<=12):Fa (.lit y):=.mk h (by have:=h.2.2;simp only[Ex.toW,W.depth,depths];lia) (fun k hk=>by cases hk)
theorem zeW{n:Int}(h:0<=n/\n<1000):(W.num n).Ok/\(W.num n).size<=1000/\(W.num n).depth<=12:=⟨(zdk h).1,by simp[W.size],yN _⟩
theorem mem1{α:Type}{P:α->Prop}{a:α}(h:P a):∀k∈[a],P k:=fun k hk=>by rw[yO.mp hk];exact h
theorem mem2{α:Type}{P:α->Prop}{a b:α}(h:P a)(g:P b):∀k∈[a,b],P k:=fun k hk=>by
 rcases yQ.mp hk with rfl|hk
 ·exact h
 ·exact mem1 g k hk
theorem mem3{α:Type}{P:α->Prop}{a b c:α}(h:P a)(g:P b)(j:P c):∀k∈[a,b,c],P k:=fun k hk=>by
 rcases yQ.mp hk with rfl|hk
 ·exact h
 ·exact mem2 g j k hk
theorem vr_a:Vr "a":=⟨by decide +kernel,by decide +kernel,by decide +kernel⟩
theorem znv:∀p:Pn,p.Ok->p.looks<=10->Fa p.ex
 |.made n,h,_=>zfR (zeW h)
 |.cried n,h,_=>.mk trivial (by simp only[Pn.ex,Ex.toW,W.depth,depths];lia) (mem1 (zfR (zeW h)))
 |.look t l r,h,hl=>by
  have hl':1+l.looks+r.looks<=10:=hl
  have h1:=znv l h.2.1 (by lia)
  have h2:=znv r h.2.2 (by lia)
  have d0:=zdj (.look t l r)
  have d1:=zdj l
  have d2:=zdj r
  have dl:(Pn.look t l r).looks=1+l.looks+r.looks:=rfl
  have ht:(W.txt t).Ok/\(W.txt t).size<=1000/\(W.txt t).depth<=12:=⟨⟨yM h.1.1 (by decide),h.1.2⟩,(by have:=h.1.1;simp only[W.size];lia),yN _⟩
  refine .mk vr_a (by lia) (mem2 (.mk trivial (by simp only[Ex.toW,W.depth,depths];lia) (mem2 (.mk trivial (by simp only[Ex.toW,W.depth,depths];lia) (mem1 (zfR ht))) (zfR (zeW (by lia))))) (.mk trivial (by simp only[Ex.toW,exWs,W.depth,depths];lia) (mem3 (.mk ⟨rfl,rfl⟩ (by simp only[Ex.toW,exWs,W.depth,depths];lia) (mem2 (.mk vr_a (by simp only[Ex.toW,W.depth,depths];lia) (fun k hk=>by cases hk)) (zfR (zeW (by lia))))) h1 h2)))
theorem zgW:∀p:Pn,p.ex.many<=11*p.looks+2
 |.made n=>by simp only[Pn.ex,Ex.many,Pn.looks];lia
 |.cried n=>by simp only[Pn.ex,Ex.many,Pn.looks];lia
 |.look t l r=>by
  have h1:=zgW l
  have h2:=zgW r
  simp only[Pn.ex,Ex.many,manys,Pn.looks]
  lia
theorem zcq(s:Str)(b:List Str):inV (.str s) (b.map V.str)=decide (s∈b):=by
 induction b with
 |nil=>rfl
 |cons x r ih=>
  unfold inV at ih ⊢
  rw[xA,wO,ih]
  rw[show eqV (V.str x) (V.str s)=(x==s) from rfl]
  by_cases e:s=x
  ·subst e;simp
  ·have e':¬x=s:=fun z=>e z.symm
   simp[e,e']
structure SkR(H:Hp)(vs:List V)(ps:List (Ex×Nat)):Prop where
 len:vs.length=ps.length
 at':∀(i:Nat)(v:V)(p:Ex×Nat),vs[i]?=some v->ps[i]?=some p->∃(a:Addr)(u:V),v=.ref a/\H a=some (.tup [u,.int p.2])/\RW H u p.1.toW
theorem SkR.mono{H H':Hp}(s:Tups H H'){vs:List V}{ps:List (Ex×Nat)}(h:SkR H vs ps):SkR H' vs ps:=
 ⟨h.len,fun i v p e1 e2=>let ⟨a,u,x,y,z⟩:=h.at' i v p e1 e2;⟨a,u,x,s _ _ y,z.mono s⟩⟩
theorem SkR.nil{H:Hp}:SkR H [] []:=⟨rfl,fun i v p e=>by simp at e⟩
theorem SkR.app{H:Hp}{vs us:List V}{ps qs:List (Ex×Nat)}(h:SkR H vs ps)(g:SkR H us qs):SkR H (vs++us) (ps++qs):=by
 refine⟨by rw[yE,yE,h.len,g.len],fun i v p e1 e2=>?_⟩
 by_cases hi:i<vs.length
 ·rw[yJ hi] at e1
  rw[yJ (h.len▸hi)] at e2
  exact h.at' i v p e1 e2
 ·rw[yL (by lia)] at e1
  rw[yL (by have:=h.len;lia)] at e2
  rw[h.len] at e1
  exact g.at' _ v p e1 e2
theorem SkR.one{H:Hp}{a:Addr}{u:V}{p:Ex×Nat}(e:H a=some (.tup [u,.int p.2]))(r:RW H u p.1.toW):SkR H [.ref a] [p]:=by
 refine⟨rfl,fun i v' p' e1 e2=>?_⟩
 cases i with
 |zero=>
  have q1:V.ref a=v':=by simpa using e1
  have q2:p=p':=by simpa using e2
  subst q1 q2
  exact⟨a,u,rfl,e,r⟩
 |succ j=>simp at e1
theorem SkR.front{H:Hp}{vs:List V}{ps:List (Ex×Nat)}{v:V}{p:Ex×Nat}(h:SkR H (vs++[v]) (ps++[p])):SkR H vs ps/\∃(a:Addr)(u:V),v=.ref a/\H a=some (.tup [u,.int p.2])/\RW H u p.1.toW:=by
 have l:=h.len
 rw[yE,yE] at l
 have l':vs.length=ps.length:=by simpa using l
 refine⟨⟨l',fun i v' p' e1 e2=>?_⟩,?_⟩
 ·have h1:=(yC.mp e1).1
  exact h.at' i v' p' (by rw[yJ h1];exact e1) (by rw[yJ (l'▸h1)];exact e2)
 ·exact h.at' vs.length v p (by rw[yL (yF _)];simp) (by rw[l',yL (yF _)];simp)
noncomputable def mnR:List (Ex×Nat)->Nat
 |[]=>0
 |p::r=>p.1.many+mnR r
theorem zgX(a b:List (Ex×Nat)):mnR (a++b)=mnR a+mnR b:=by
 induction a with
 |nil=>simp[mnR]
 |cons p r ih=>simp only[xL,mnR,ih];lia
theorem zkt(ps:List Ex)(n:Nat):mnR (ps.map fun p=>(p,n))=manys ps:=by
 induction ps with
 |nil=>simp[mnR,manys]
 |cons p r ih=>simp only[xA,mnR,manys,ih]
theorem zku:∀ps:List (Ex×Nat),ps.length<=mnR ps
 |[]=>by simp[mnR]
 |p::r=>by
  have h1:=zku r
  have h2:1<=p.1.many:=by rw[zgV];lia
  simp only[mnR,yG]
  lia
def Wt(p:Ex×Nat):Prop:=Fa p.1/\p.2+p.1.high<=13
theorem Wt.kids{r:Ex}{n:Nat}(h:Wt (r,n)):∀p∈r.kids,Wt (p,n+1):=fun p hp=>by
 have d2:=zaD hp
 have d3:=zeT r
 have h4':n+r.high<=13:=h.2
 exact⟨h.1.kid p hp,(by show n+1+p.high<=13;lia)⟩
def zhB:Sp:=fun vs H Q _=>∃(v:V)(r:Ex),vs=[v]/\RW H v r.toW/\Wt (r,0)/\r.many<=60/\∀H',Same H H'->Q (.bl true) H'
def zlH(n:Nat):Sp:=fun vs H Q _=>∃(v:V)(r:Ex)(b:Addr)(bnd:List Str),vs=[v,.ref b]/\RW H v r.toW/\Fa r/\Wf r bnd/\r.high<n/\H b=some (.tup (bnd.map V.str))/\bnd.length+n<=100 /\
 ∀(l:Addr)(H':Hp),H l=none->Same H H'->H' l=some (.lst [])->Q (.ref l) H'
def zmt:Sp:=fun vs H Q _=>∃(v:V)(r:Ex),vs=[v]/\RW H v r.toW/\Fa r/\Wf r []/\r.high<20 /\
 ∀(l:Addr)(H':Hp),H l=none->Same H H'->H' l=some (.lst [])->Q (.ref l) H'
def zlI(n:Nat):Sp:=fun vs H Q _=>∃(v:V)(r:Ex),vs=[v]/\RW H v r.toW/\Fa r/\r.high<n/\∀(H':Hp),Same H H'->Q (.int 0) H'
def zhC:Sp:=fun vs H Q _=>∃(v:V)(r:Ex),vs=[v]/\RW H v r.toW/\Wt (r,0)/\r.many<=60/\Wf r []/\∀H',Same H H'->Q (.bl true) H'
section
variable{P:Program}{w:World}{K:uZ}{mg:Str->Option Value}{base:Heap}{f:Addr}{fd:tD}{k n:Nat}{ARun ATask:Addr}
theorem Zo:FnScope ["thing","waiting","whole","pair","expression","level"] ["thing"] (zg zbl):=mkSc rfl (by decide +kernel)
theorem zfS(F:Fun K "is_formed" "is_formed" zbl f fd)(G_parts_of:Have P w K mg base "parts_of" k ["expression"] (zaX))(G_has_form:Have P w K mg base "has_form" k ["thing"] (zfQ))(m_len:mg "len"=none)(m_MOST_MANY:∃t,mg "MOST_MANY"=some (.int 60 t))(m_MOST_NESTING:∃t,mg "MOST_NESTING"=some (.int 12 t)):FnOk P w K mg base CX0 (k+1) f fd ["thing"] (zhB):=by
 refine F.okQ Zo (by rintro _ _ _ _ ⟨_,_,rfl,_⟩;rfl) fun cdv A outer s H vs Q E hr h=>?_
 obtain⟨v,r,rfl,hv,hwt,hmn,q⟩:=h
 refine⟨_,(zd (zx (i:=1) Zo.nd rfl (Or.inl rfl) (zS (za (zy (za (pv 0) (za ze zb))) zb)))
  (zd (zx (i:=2) Zo.nd rfl (Or.inl rfl) ze)
  (zd (zbt uV (zw zcA (zk zB rfl m_len uO (za (pv 1) zb)) ze (nomark _)) (zd (zx (i:=3) Zo.nd rfl (Or.inl rfl) (zdK uW PySem.F.slot_list_pop PySem.F.type_list_pop zlT (pv 1)))
  (zd (zx (i:=4) Zo.nd rfl (Or.inl rfl) (zo zr (pv 3) ze (fun _ _=>rfl)))
  (zd (zx (i:=5) Zo.nd rfl (Or.inr rfl) (zo zr (pv 3) ze (fun _ _=>rfl)))
  (zd (ze4 (i:=2) Zo.nd rfl (Or.inl rfl) ze (znR ziJ))
  (zd (zD (PW.pt (ZX (zw zcA (pv 2) (Zq rfl m_MOST_MANY) (nomark _)) (ZX (zw zcA (pv 5) (Zq rfl m_MOST_NESTING) (nomark _)) (ZI (zT (zG (zq G_has_form hr rfl (za (pv 4) zb)))))))) (zf (zj zaj)) zt)
  (zf (Zc (zcc uW PySem.F.slot_list_extend PySem.F.type_list_extend zcE (pv 1) (za (zY [5] ["level"] rfl rfl (by decide +kernel) rfl (by decide +kernel) rfl (by decide +kernel) ⟨rfl,trivial⟩ rfl ⟨⟨rfl,rfl,Or.inr (Or.inl rfl),(by show (some NameKind.cell:Option NameKind)≠some .local;decide),⟨_,rfl⟩⟩,trivial⟩ (zaq (zq G_parts_of hr rfl (za (pv 4) zb))) (fun C s H fp=>⟨zW,(zy (za (pv 0) (za (zC Zk (pv 1) ze) zb)))⟩)) zb))))))))))
  (zf (zj zaj))))),?_⟩
 refine⟨_,rfl,zl2,fun a ha=>?_⟩
 refine⟨zl1,fun l hl=>?_⟩
 have sa:=Sn (o:=.tup [v,.int 0]) ha
 have sl:=Sn (o:=.lst [.ref a]) hl
 have s1:=sa.trans sl
 have hlH:H l=none:=sa.free hl
 refine⟨fun m σ' H'=>∃(vs:List V)(ps:List (Ex×Nat))(whole:Int)(o3 o4 o5:Option V),σ'=[some v,some (.ref l),some (.int whole),o3,o4,o5]/\H' l=some (.lst vs)/\SkR H' vs ps/\m=mnR ps/\0<=whole/\whole+mnR ps<=60/\(∀p∈ps,Wt p)/\Same H H',
  ⟨_,[.ref a],[(r,0)],0,none,none,none,rfl,zc,SkR.one (p:=(r,0)) (sl _ _ zc) (hv.mono (zi s1)),rfl,uF _,(by simp only[mnR];lia),fun p hp=>by rw[yO.mp hp];exact hwt,s1⟩,fun m σ' H' hW=>?_⟩
 obtain⟨vs,ps,whole,o3,o4,o5,rfl,hlv,hst,hm,hw0,hw1,hall,sH⟩:=hW
 refine⟨_,rfl,_,_,rfl,.inl ⟨_,Sl hlv,rfl⟩,_,_,rfl,rfl,_,rfl,?_⟩
 refine ite2 (fun c=>?_) (fun c=>?_)
 ·have c1:(0:Int)<vs.length:=of_decide_eq_true c
  refine⟨_,fun _ _ h=>h,?_⟩
  rcases wJ vs with rfl|⟨vs',vl,e⟩
  ·simp at c1
  rw[wK] at e
  subst e
  rcases wJ ps with rfl|⟨ps',p,e⟩
  ·have:=hst.len;simp at this
  rw[wK] at e
  subst e
  obtain⟨hst',ap,u,rfl,hap,rwu⟩:=hst.front
  obtain⟨r1,n1⟩:=p
  have ed:(vs'++[V.ref ap]).dropLast=vs':=vU
  have wp:Wt (r1,n1):=hall _ (by simp)
  have hmp:mnR (ps'++[(r1,n1)])=mnR ps'+r1.many:=by rw[zgX];simp[mnR]
  have hme:=zgV r1
  have hml:=zhA r1.kids
  have hpl:=zku ps'
  have hvl:=hst'.len
  refine⟨_,rfl,.inl ⟨rfl,_,Sl hlv⟩,l,_,.ref ap,rfl,rfl,hlv,by simp,?_⟩
  rw[ed]
  have t1:=zaH (o:=.lst vs') hlv
  have sH1:Same H (upd H' l (.lst vs')):=zbB sH hlH
  have hap1:upd H' l (.lst vs') ap=some (.tup [u,.int n1]):=t1 _ _ hap
  have rwu1:RW (upd H' l (.lst vs')) u r1.toW:=RW.mono t1 rwu
  refine⟨_,rfl,ap,_,0,u,rfl,rfl,Sq hap1,rfl,?_⟩
  refine⟨_,rfl,ap,_,1,.int n1,rfl,rfl,Sq hap1,rfl,?_⟩
  refine⟨_,rfl,_,_,rfl,rfl,?_⟩
  have hh:n1+r1.high<=13:=wp.2
  have hhe:=zeT r1
  refine⟨_,rfl,_,_,rfl,rfl,_,rfl,?_⟩
  rw[decide_eq_false (show ¬(60:Int)<whole+1 by lia)]
  refine iteF ⟨_,rfl,_,_,rfl,rfl,_,rfl,?_⟩
  rw[decide_eq_false (show ¬(12:Int)<(n1:Int) by lia)]
  refine iteF ⟨_,rfl,u,r1,rfl,rwu1,wp.1.fm,wp.1.dp,fun H2 s2=>⟨_,rfl,iteF ?_⟩⟩
  have sH2:=sH1.trans s2
  have hl2:H2 l=some (.lst vs'):=s2 _ _ zc
  refine⟨_,rfl,.inl ⟨rfl,_,Sl hl2⟩,?_⟩
  dsimp only[zbe,tNil]
  obtain⟨ua,us0,rfl,eu,ho⟩:=opn (RW.mono (zi s2) rwu1)
  refine⟨_,rfl,ua,r1.wd,us0,rfl,eu,by rw[ho.len];exact zeV wp.1.fm,fun lp H3 s3 elp hlp=>⟨lp,rfl,⟨_,Sl elp⟩,?_⟩⟩
  have hus:=(zgT ho).mono (zi s3)
  generalize ptsV r1.wd us0=us at elp hus
  have hul:=hus.len
  rw[zap] at hul
  refine zlG (K:=K) (vs:=us) (fun i xs H4=>Same H3 H4/\xs.length=i/\SkR H4 xs ((r1.kids.take i).map fun p=>(p,n1+1))) (yM (show us.length<=60 by lia) (by decide)) ⟨Sr _,rfl,SkR.nil⟩ (fun i us H4 h=>h.2.1) (fun i us H4 h=>Sl (h.1 _ _ elp)) (fun i x xs H4 R hx hP hR=>?_) (fun xs H4 D hP hD=>?_)
  ·obtain⟨s4,hxl,hsk⟩:=hP
   have hi:i<us.length:=(yC.mp hx).1
   have hki:r1.kids[i]?=some r1.kids[i]:=yA (by lia)
   refine⟨_,rfl,_,rfl,_,_,rfl,rfl,zl2,fun a5 ha5=>?_⟩
   have s5:=Sn (o:=.tup [x,.int ((n1:Int)+1)]) ha5
   refine hR _ _ ⟨s4.trans s5,by rw[yE,hxl];rfl,?_⟩
   rw[List.take_add_one,hki,Option.toList_some,wF]
   exact (hsk.mono (zi s5)).app (SkR.one (p:=(r1.kids[i],n1+1)) zc (RW.mono (zi (s4.trans s5)) (hus.at' i x _ hx (zeU hki))))
  ·obtain⟨s4,hxl,hsk⟩:=hP
   have s5:=Sn (o:=.lst xs) hD
   have sA:=s3.trans (s4.trans s5)
   rw[xF (by lia)] at hsk
   have hl4:upd H4 D (.lst xs) l=some (.lst vs'):=sA _ _ hl2
   have t6:=zaH (o:=.lst (vs'++xs)) hl4
   refine⟨l,D,vs',xs,rfl,rfl,hl4,zc,yM (show vs'.length+xs.length<=120 by lia) (by decide),?_⟩
   refine⟨mnR (ps'++r1.kids.map fun p=>(p,n1+1)),?_,vs'++xs,ps'++r1.kids.map (fun p=>(p,n1+1)),whole+1,_,_,_,rfl,zc,?_,rfl,by lia,?_,?_,?_⟩
   ·rw[zgX,zkt];lia
   ·exact (((hst'.mono t1).mono (zi (s2.trans sA))).mono t6).app ((hsk.mono (zi s5)).mono t6)
   ·rw[zgX,zkt];lia
   ·intro p hp
    rcases xI.mp hp with hp|hp
    ·exact hall p (wM _ hp)
    ·obtain⟨p',hp',rfl⟩:=wC.mp hp
     exact wp.kids p' hp'
   ·exact zbB (sH2.trans sA) hlH
 ·exact q _ sH
theorem Z9:FnScope ["expression","bound","parts","names","place","part","is_last"] ["expression","bound"] (zg zcP):=mkSc rfl (by decide +kernel)
theorem ziw{n:Nat}(F:Fun K "unbound" "unbound" zcP f fd)(G_unbound:Have P w K mg base "unbound" k ["expression","bound"] (zlH n))(G_variables_of:Have P w K mg base "variables_of" k ["expression"] (zeS))(G_parts_of:Have P w K mg base "parts_of" k ["expression"] (zaX))(m_enumerate:mg "enumerate"=none)(m_len:mg "len"=none):FnOk P w K mg base CX0 (k+1) f fd ["expression","bound"] (zlH (n+1)):=by
 refine F.okQ Z9 (by rintro _ _ _ _ ⟨_,_,_,_,rfl,_⟩;rfl) fun cdv A outer s H vs Q E hr h=>?_
 obtain⟨v,r,b,bnd,rfl,hv,hfa,hwf,hh,hb,hbl,q⟩:=h
 refine⟨_,(zd (zD (zw Ze (zo zr (pv 0) ze (fun _ _=>rfl)) zu (nomark _)) (zf (zj (Zp (zw zaw (zo zr (pv 0) ze (fun _ _=>rfl)) (pv 1) (by rfl)) (zS zb) (zS (za (zo zr (pv 0) ze (fun _ _=>rfl)) zb))))) zt)
  (zd (zx (i:=2) Z9.nd rfl (Or.inl rfl) (zq G_parts_of hr rfl (za (pv 0) zb)))
  (zd (zx (i:=3) Z9.nd rfl (Or.inl rfl) (zS zb))
  (zd (za8 uV rfl (zc4 rfl m_enumerate (za (pv 2) zb)) (za7 rfl (Zd (zX (i:=4) Z9.nd rfl (Or.inl rfl)) (Zd (zX (i:=5) Z9.nd rfl (Or.inl rfl)) zaN))) (zd (zx (i:=6) Z9.nd rfl (Or.inl rfl) (zE Ze (pv 4) (zC ZJ (zk zB rfl m_len uO (za (pv 2) zb)) ze) (nomark _)))
  (zf (Zc (zcc uW PySem.F.slot_list_extend PySem.F.type_list_extend zcE (pv 3) (za (zq G_unbound hr rfl (za (pv 5) (za (Zp (zG (pv 6)) (zC zjw (pv 1) (zq G_variables_of hr rfl (za (pv 0) zb))) (pv 1)) zb))) zb))))))
  (zf (zj (pv 3))))))),?_⟩
 obtain⟨a,us0,rfl,ea,ho⟩:=opn hv
 refine⟨_,rfl,a,_,0,_,rfl,rfl,Sq ea,zl (j:=0) rfl,rfl,_,rfl,?_⟩
 rw[zor r hfa.fm]
 by_cases hvr:∃s,r=.var s
 ·obtain⟨s,rfl⟩:=hvr
  obtain⟨u1,us1,rfl,r1,ho⟩:=ho.cons
  obtain rfl:=r1.str
  rw[Wf] at hwf
  refine iteT ⟨_,rfl,a,_,1,_,rfl,rfl,Sq ea,zl (j:=1) rfl,_,rfl,b,_,rfl,.inr (Sq hb),rfl,?_,_,rfl,?_⟩
  ·rw[vL];simp[zd7]
  ·show if inV (.str s) (bnd.map V.str)=true then _ else _
   rw[zcq,decide_eq_true hwf]
   exact iteT ⟨zl0,fun l hl=>q l _ hl (Sn hl) zc⟩
 have e0:r.isV=false:=by
  cases r with
  |var s=>exact absurd ⟨s,rfl⟩ hvr
  |_=>rfl
 rw[e0]
 have hhe:=zeT r
 refine iteF ⟨_,rfl,a,r.wd,us0,rfl,ea,by rw[ho.len];exact zeV hfa.fm,fun l H1 s1 el hl=>⟨zl0,fun nm hnm=>?_⟩⟩
 have hus:=(zgT ho).mono (zi s1)
 generalize ptsV r.wd us0=us at el hus
 have hul:=hus.len
 rw[zap] at hul
 have s2:=Sn (o:=.lst []) hnm
 have nmH:H nm=none:=s1.free hnm
 refine⟨_,rfl,l,us,rfl,Sl (s2 _ _ el),zet (xs:=us) (fun i σ' H'=>∃(o4 o5 o6:Option V),σ'=[some (.ref a),some (.ref b),some (.ref l),some (.ref nm),o4,o5,o6]/\Same (upd H1 nm (.lst [])) H')
  ⟨none,none,none,rfl,Sr _⟩ (fun i σ' H' _ h=>?_) (fun i x t σ' H' hx ht h=>?_) (fun σ' H' h=>?_)⟩
 ·obtain⟨_,_,_,_,kp⟩:=h
  exact Sl (kp _ _ (s2 _ _ el))
 ·obtain⟨o4,o5,o6,rfl,kp⟩:=h
  have hi:i<us.length:=(yC.mp hx).1
  have hki:r.kids[i]?=some r.kids[i]:=yA (by lia)
  have hpm:=yY (show i<r.kids.length by lia)
  have h2:=zaD hpm
  have hwk:=zop hwf hki
  have hfk:=hfa.kid _ hpm
  have sT:=kp.trans (Sn (o:=.tup [.int i,x]) ht)
  have sN:=s1.trans (s2.trans sT)
  have enm:=sT _ _ (zc (H:=H1) (a:=nm) (o:=.lst []))
  refine⟨t,_,rfl,Sq zc,rfl,_,_,rfl,_,_,rfl,rfl,?_⟩
  refine⟨_,rfl,_,rfl,_,_,rfl,.inl ⟨_,Sl (sT _ _ (s2 _ _ el)),rfl⟩,_,_,rfl,rfl,rfl,?_⟩
  refine⟨_,rfl,.inl ⟨rfl,_,Sl enm⟩,_,rfl,_,rfl,_,rfl,?_⟩
  have rwx:RW (upd H' t (.tup [.int i,x])) x (r.kids[i]).toW:=(hus.at' i x _ hx (zeU hki)).mono (zi (s2.trans sT))
  generalize hG:upd H' t (.tup [.int i,x])=G at sT sN enm rwx ⊢
  have F:∀(oo:Option V)(l2:Addr)(H6:Hp),Same G H6->∃(o4 o5 o6:Option V),[some (V.ref a),some (.ref b),some (.ref l),some (.ref nm),some (.int i),some x,oo]=[some (.ref a),some (.ref b),some (.ref l),some (.ref nm),o4,o5,o6]/\Same (upd H1 nm (.lst [])) (upd H6 nm (.lst ([]++[]))):=fun oo l2 H6 s6=>by
   refine⟨_,_,_,rfl,fun c o e=>?_⟩
   by_cases hc:c=nm
   ·subst hc;rw[zc] at e ⊢;exact e
   ·rw[zm hc];exact s6 _ _ (sT _ _ e)
  have hbn:=zoq r
  refine ite2 (fun c=>?_) (fun c=>?_)
  ·have hlast:i+1=r.kids.length:=by
    have:=of_decide_eq_true c
    injection this with this
    lia
   rw[if_pos hlast] at hwk
   have hlf:r.leaf=false:=by
    cases r with
    |lit y=>simp[Ex.kids] at hlast
    |var s=>exact absurd ⟨s,rfl⟩ hvr
    |_=>rfl
   refine⟨_,rfl,_,rfl,a,r.wd,us0,rfl,sN _ _ ea,by rw[ho.len];exact zeV hfa.fm,fun p H5 s5 ep=>?_⟩
   rw[zhz ho hlf] at ep
   have hbl2:(bnd++r.bnd).length+n<=100:=by rw[yE];lia
   cases hbn:bnd with
   |nil=>
    subst hbn
    exact .inr (.inr ⟨b,p,_,rfl,rfl,Sq (s5 _ _ (sN _ _ hb)),Sq ep,⟨x,r.kids[i],p,[]++r.bnd,rfl,rwx.mono (zi (s5.trans (Sr H5))),hfk,hwk,by lia,ep,hbl2,fun l2 H7 hl2 s7 el2=>⟨nm,l2,[],[],rfl,rfl,s7 _ _ ((Sr H5) _ _ (s5 _ _ enm)),el2,yN _,F _ l2 H7 (s5.trans ((Sr H5).trans s7))⟩⟩⟩)
   |cons z zs=>
    refine .inr (.inl ⟨b,p,_,_,rfl,rfl,Sq (s5 _ _ (sN _ _ hb)),Sq ep,(by rw[hbn];exact fun z=>nomatch z),by rw[yB,yB];exact yM (show bnd.length+r.bnd.length<=1100 by lia) (by decide),fun hz=>?_,fun _ p6 hp6=>?_⟩)
    ·have hbs:r.bnd=[]:=List.map_eq_nil_iff.mp hz
     exact⟨x,r.kids[i],b,bnd++r.bnd,rfl,rwx.mono (zi (s5.trans (Sr H5))),hfk,hwk,by lia,(by rw[hbs,xB];exact s5 _ _ (sN _ _ hb)),hbl2,fun l2 H7 hl2 s7 el2=>⟨nm,l2,[],[],rfl,rfl,s7 _ _ ((Sr H5) _ _ (s5 _ _ enm)),el2,yN _,F _ l2 H7 (s5.trans ((Sr H5).trans s7))⟩⟩
    ·have s6:=Sn (o:=.tup (bnd.map V.str++r.bnd.map V.str)) hp6
     exact⟨x,r.kids[i],p6,bnd++r.bnd,rfl,rwx.mono (zi (s5.trans s6)),hfk,hwk,by lia,(by rw[zc,wF]),hbl2,fun l2 H7 hl2 s7 el2=>⟨nm,l2,[],[],rfl,rfl,s7 _ _ (s6 _ _ (s5 _ _ enm)),el2,yN _,F _ l2 H7 (s5.trans (s6.trans s7))⟩⟩
  ·have hlast:¬i+1=r.kids.length:=fun z=>c (decide_eq_true (congrArg V.int (show (i:Int)=(us.length:Int)-1 by lia)))
   rw[if_neg hlast] at hwk
   exact⟨_,rfl,x,_,b,bnd,rfl,rwx,hfk,hwk,by lia,sN _ _ hb,by lia,fun l2 H6 hl2 s6 el2=>⟨nm,l2,[],[],rfl,rfl,s6 _ _ enm,el2,yN _,F _ l2 H6 s6⟩⟩
 ·obtain⟨o4,o5,o6,rfl,kp⟩:=h
  exact⟨_,rfl,q nm H' nmH (s1.trans (s2.trans kp)) (kp _ _ zc)⟩
theorem zix:FnScope ["expression"] ["expression"] (zg zcQ):=mkSc rfl (by decide +kernel)
theorem ziy(F:Fun K "free_in" "free_in" zcQ f fd)(G_unbound:Have P w K mg base "unbound" k ["expression","bound"] (zlH 20))(m_set:mg "set"=none)(m_sorted:mg "sorted"=none):FnOk P w K mg base CX0 (k+1) f fd ["expression"] (zmt):=by
 refine F.okQ zix (by rintro _ _ _ _ ⟨_,_,rfl,_⟩;rfl) fun cdv A outer s H vs Q E hr h=>?_
 obtain⟨v,r,rfl,hv,hfa,hwf,hh,q⟩:=h
 refine⟨_,(zf (zj (zk (zc7 rfl) rfl m_sorted PyProof.Rows.boot_sorted (za (zM (zgp rfl) rfl m_set zks (za (zq G_unbound hr rfl (za (pv 0) (za (zy zb) zb))) zb)) zb)))),?_⟩
 refine⟨_,rfl,zl0,fun p hp=>?_⟩
 have s1:=Sn (o:=.tup []) hp
 refine⟨v,r,p,[],rfl,hv.mono (zi s1),hfa,hwf,hh,zc,by decide,fun l H2 hl s2 el=>⟨l,[],rfl,Sl el,by decide,fun st hst=>⟨st,L2.allS [],rfl,zc,by decide,fun o ss ho hp hs=>?_⟩⟩⟩
 have hss:ss=[]:=xC.mp (hp.length_eq.trans (by decide))
 subst hss
 have s3:=Sn (o:=L2.SetH P w st (L2.allS [])) hst
 have s4:=(s1.trans s2).trans s3
 exact q o _ (s4.free ho) (s4.trans (Sn ho)) zc
theorem ZB:FnScope ["expression","parts","deepest","place","part","is_repeated"] ["expression"] (zg zbX):=mkSc rfl (by decide +kernel)
theorem zgY{n:Nat}(F:Fun K "repeated" "repeated" zbX f fd)(G_repeated:Have P w K mg base "repeated" k ["expression"] (zlI n))(G_parts_of:Have P w K mg base "parts_of" k ["expression"] (zaX))(m_enumerate:mg "enumerate"=none)(m_len:mg "len"=none)(m_max:mg "max"=none){g_REPEATING:Addr}(m_REPEATING:mg "REPEATING"=some (.ref g_REPEATING))(t_REPEATING:∀H:Hp,SqT K H g_REPEATING [.str "each",.str "over"]):FnOk P w K mg base CX0 (k+1) f fd ["expression"] (zlI (n+1)):=by
 refine F.okQ ZB (by rintro _ _ _ _ ⟨_,_,rfl,_⟩;rfl) fun cdv A outer s H vs Q E hr h=>?_
 obtain⟨v,r,rfl,hv,hfa,hh,q⟩:=h
 refine⟨_,(zd (zx (i:=1) ZB.nd rfl (Or.inl rfl) (zq G_parts_of hr rfl (za (pv 0) zb)))
  (zd (zx (i:=2) ZB.nd rfl (Or.inl rfl) ze)
  (zd (za8 uV rfl (zc4 rfl m_enumerate (za (pv 1) zb)) (za7 rfl (Zd (zX (i:=3) ZB.nd rfl (Or.inl rfl)) (Zd (zX (i:=4) ZB.nd rfl (Or.inl rfl)) zaN))) (zd (zx (i:=5) ZB.nd rfl (Or.inl rfl) (zU (zE zaw (zo zr (pv 0) ze (fun _ _=>rfl)) (zQ (v:=.ref g_REPEATING) rfl m_REPEATING rfl) (by rfl)) (zZ (zE Ze (pv 3) (zC ZJ (zk zB rfl m_len uO (za (pv 1) zb)) ze) (nomark _)))))
  (zf (zx (i:=2) ZB.nd rfl (Or.inl rfl) (zk (ziP rfl) rfl m_max PyProof.Rows.boot_max (za (pv 2) (za (zC Zk (zq G_repeated hr rfl (za (pv 4) zb)) (Zp (zG (pv 5)) ze ze)) zb)))))))
  (zf (zj (pv 2)))))),?_⟩
 obtain⟨a,us0,rfl,ea,ho⟩:=opn hv
 have hhe:=zeT r
 refine⟨_,rfl,a,r.wd,us0,rfl,ea,by rw[ho.len];exact zeV hfa.fm,fun l H1 s1 el hl=>?_⟩
 have hus:=(zgT ho).mono (zi s1)
 generalize ptsV r.wd us0=us at el hus
 have hul:=hus.len
 rw[zap] at hul
 refine⟨_,rfl,l,us,rfl,Sl el,zet (xs:=us) (fun i σ' H'=>∃(o3 o4 o5:Option V),σ'=[some (.ref a),some (.ref l),some (.int 0),o3,o4,o5]/\Same H1 H')
  ⟨none,none,none,rfl,Sr _⟩ (fun i σ' H' _ h=>?_) (fun i x t σ' H' hx ht h=>?_) (fun σ' H' h=>?_)⟩
 ·obtain⟨_,_,_,_,s2⟩:=h
  exact Sl (s2 _ _ el)
 ·obtain⟨o3,o4,o5,rfl,s2⟩:=h
  have hi:i<us.length:=(yC.mp hx).1
  have hki:r.kids[i]?=some r.kids[i]:=yA (by lia)
  have hpm:=yY (show i<r.kids.length by lia)
  have sT:=s2.trans (Sn (o:=.tup [.int i,x]) ht)
  have h2:=zaD hpm
  have ea1:=sT _ _ (s1 _ _ ea)
  have rwx:RW (upd H' t (.tup [.int i,x])) x (r.kids[i]).toW:=RW.mono (zi sT) (hus.at' i x _ hx (zeU hki))
  refine⟨t,_,rfl,Sq zc,rfl,_,_,rfl,_,_,rfl,rfl,?_⟩
  refine⟨_,rfl,a,_,0,_,rfl,rfl,Sq ea1,zl (j:=0) rfl,g_REPEATING,_,rfl,.inr (t_REPEATING _),rfl,rfl,_,rfl,?_⟩
  show if inV (.str r.wd) [.str "each",.str "over"]=true then _ else _
  rw[zos r hfa.fm]
  refine iteF ⟨_,rfl,_,rfl,x,_,rfl,rwx,hfa.kid _ hpm,by lia,fun H6 s6=>?_⟩
  refine⟨_,rfl,_,rfl,iteF ⟨_,_,rfl,rfl,_,_,rfl,?_⟩⟩
  exact⟨_,_,_,rfl,sT.trans s6⟩
 ·obtain⟨o3,o4,o5,rfl,s2⟩:=h
  exact⟨_,rfl,q H' (s1.trans s2)⟩
theorem ziz:FnScope ["thing"] ["thing"] (zg zcR):=mkSc rfl (by decide +kernel)
theorem ziA(F:Fun K "is_rule" "is_rule" zcR f fd)(G_repeated:Have P w K mg base "repeated" k ["expression"] (zlI 20))(G_free_in:Have P w K mg base "free_in" k ["expression"] (zmt))(G_is_formed:Have P w K mg base "is_formed" k ["thing"] (zhB))(m_MOST_REPEATED:∃t,mg "MOST_REPEATED"=some (.int 2 t)):FnOk P w K mg base CX0 (k+1) f fd ["thing"] (zhC):=by
 refine F.okQ ziz (by rintro _ _ _ _ ⟨_,_,rfl,_⟩;rfl) fun cdv A outer s H vs Q E hr h=>?_
 obtain⟨v,r,rfl,hv,hw,hm,hu,q⟩:=h
 refine⟨_,(zf (zj (zU (zq G_is_formed hr rfl (za (pv 0) zb)) (zU (zE (zoa (xS (Nat.le_add_right _ 64) hr.units)) (zq G_free_in hr rfl (za (pv 0) zb)) (zS zb) (nomark _)) (zZ (zE zf2 (zq G_repeated hr rfl (za (pv 0) zb)) (Zq rfl m_MOST_REPEATED) (nomark _))))))),?_⟩
 have hh:0+r.high<=13:=hw.2
 refine⟨_,rfl,v,r,rfl,hv,hw,hm,fun H1 s1=>⟨_,rfl,iteT ?_⟩⟩
 refine⟨_,rfl,v,r,rfl,RW.mono (zi s1) hv,hw.1,hu,by lia,fun l H2 hl s2 el=>?_⟩
 refine⟨zl0,fun e he=>?_⟩
 have s3:=Sn (o:=.lst []) he
 have s123:=s1.trans (s2.trans s3)
 refine⟨l,e,[],rfl,rfl,Sl (s3 _ _ el),Sl zc,_,rfl,iteT ?_⟩
 refine⟨_,rfl,v,r,rfl,RW.mono (zi s123) hv,hw.1,by lia,fun H4 s4=>⟨_,_,rfl,rfl,?_⟩⟩
 exact q _ (s123.trans s4)
mutual
noncomputable def R.rnd:R->Nat
 |.mk _ l=>1+rnds l
noncomputable def rnds:List R->Nat
 |[]=>0
 |r::l=>r.rnd+rnds l
end
inductive Ra:R->Prop where
 |mk {r:Res}{l:List R}:Fd r->(∀s∈l,Ra s)->Ra (.mk r l)
theorem zmu:∀{l:List R},(∀s∈l,cnt s.toW.toD<=85*s.rnd/\TOk s.toW.toD)->cnts (toDs (toWs l))<=85*rnds l/\TOks (toDs (toWs l))
 |[],_=>⟨yN _,trivial⟩
 |r::l,h=>by
  have h1:=h r xG
  have h2:=zmu fun s hs=>h s (yX _ hs)
  simp only[toWs,toDs,cnts,rnds]
  exact⟨by lia,h1.2,h2.2⟩
theorem Ra.ct{r:R}(h:Ra r):cnt r.toW.toD<=85*r.rnd/\TOk r.toW.toD:=by
 induction h with
 | @mk r l a _ ih=>
  have h1:=zmu ih
  have h2:=a.ct
  rw[R.toW]
  simp only[W.toD,toDs,cnt,cnts,R.rnd]
  exact⟨by lia,a.tok,h1.2,trivial⟩
theorem zhD{n:Int}(h:0<=n/\n<1000):Fd (.made (.num n)):=zdm (zdk h).1 (by show ((0:Nat):Int)<=2;decide) (by show (1:Int)<=80;decide)
theorem zmv{n:Int}(h:0<=n/\n<1000):Fd (.wrong [.txt "cried",.num n]):=Z4 (zag (by decide +kernel) (by decide +kernel)) (zdk h).1 (by show ((0:Nat):Int)<=2;decide) (by show (1:Int)<=80;decide) (.inr (.inr rfl))
theorem zhE:∀(p:Pn)(fs:List Res)(o:Res),p.Ok->(p.pl.go fs).2=some o->Fd o
 |.made n,fs,o,h,e=>by rw[Pn.pl,Pl.go] at e;cases e;exact zhD h
 |.cried n,fs,o,h,e=>by rw[Pn.pl,Pl.go] at e;cases e;exact zmv h
 |.look t l r,[],o,h,e=>by rw[Pn.pl,Pl.go] at e;cases e
 |.look t l r,f::fs,o,h,e=>by
  rw[Pn.pl,zaZ] at e
  cases hf:is1 f with
  |true=>rw[hf] at e;exact zhE l fs o h.2.1 e
  |false=>rw[hf] at e;exact zhE r fs o h.2.2 e
theorem zkv(fs:List Res)(hd:∀r∈fs,Fd r):∀(p:Pn)(e:Env)(ns:Ns)(o:Res),p.Ok->(p.pl.go (fs.drop ns.length)).2=some o->Ra (ev fs p.ex e ns).1/\(ev fs p.ex e ns).1.rnd<=9*p.looks+2
 |.made n,e,ns,o,h,_=>by
  rw[Pn.ex,ev]
  exact⟨.mk (zhD h) (fun s hs=>nomatch hs),by simp only[R.rnd,rnds];lia⟩
 |.cried n,e,ns,o,h,_=>by
  rw[Pn.ex,zda (x:=.num n) (by rw[ev];rfl),ev]
  exact⟨.mk (zmv h) (mem1 (.mk (zhD h) fun s hs=>nomatch hs)),by simp only[R.rnd,rnds];lia⟩
 |.look t l r,e,ns,o,h,ho=>by
  have nst:∀r∈fs,r≠Res.stop:=fun r hr=>(hd r hr).ns
  have e1:ev fs (.lookE (.lit (.txt t))) e ns=(.mk (found fs ns.length) [.mk (.made (.txt t)) []],ns++[t]):=by
   rw[zbK (z:=t) (by rw[ev];rfl),ev]
  have hlen:(ns++[t]).length=ns.length+1:=by simp
  have ft:Fd (.made (.txt t)):=zdm ⟨yM h.1.1 (by decide),h.1.2⟩ (by show ((0:Nat):Int)<=2;decide) (by have:=h.1.1;show (1:Int)+(t.length:Int)<=80;lia)
  have f01:∀{b:Bool},Fd (.made (.num (if b then 1 else 0))):=fun {b}=>zhD (by split<;>lia)
  rw[Pn.pl] at ho
  rw[Pn.ex]
  rcases zdW fs ns with⟨h1,h2⟩|⟨f,gs,h1,h2,h3⟩
  ·rw[h1,Pl.go] at ho
   cases ho
  ·rw[h1,zaZ] at ho
   have hfm:f∈fs:=by rw[←wL ns.length fs,h1];simp
   have hfd:=hd f hfm
   have lt:Ra (.mk (.made (.txt t)) []):=.mk ft fun s hs=>nomatch hs
   obtain⟨x,rr,e2,hx,hq,hra,hnd,fx⟩:∃(x:W)(rr:R),ev fs (.elseE (.lookE (.lit (.txt t))) (.lit (.num 0))) e ns=(rr,ns++[t])/\rr.res=.made x/\eqW x (.num 1)=is1 f/\Ra rr/\rr.rnd<=4/\Fd (.made x):=by
    cases f with
    |stop=>exact absurd rfl hfd.ns
    |made x=>
     refine⟨x,.mk (.made x) [.mk (.made x) [.mk (.made (.txt t)) []]],?_,rfl,(zht x).symm,.mk hfd (mem1 (.mk hfd (mem1 lt))),by simp only[R.rnd,rnds];lia,hfd⟩
     rw[Z3 (by rw[e1,h2];intro w h;cases h),e1,h2]
     rfl
    |wrong ws=>
     refine⟨.num 0,.mk (.made (.num 0)) [.mk (.wrong ws) [.mk (.made (.txt t)) []],.mk (.made (.num 0)) []],?_,rfl,?_,.mk (f01 (b:=false)) (mem2 (.mk hfd (mem1 lt)) (.mk (f01 (b:=false)) fun s hs=>nomatch hs)),by simp only[R.rnd,rnds];lia,f01 (b:=false)⟩
     ·rw[zbJ (w:=ws) (by rw[e1,h2];rfl),e1,h2,ev]
      rfl
     ·rw[zfL];rfl
   have hx':(ev fs (.elseE (.lookE (.lit (.txt t))) (.lit (.num 0))) e ns).1.res=.made x:=by rw[e2];exact hx
   rw[zc9 hx',e2]
   dsimp only
   have e3:ev fs (.reck .same [.var "a",.lit (.num 1)]) (put e "a" x) (ns++[t])=(.mk (.made (.num (if eqW x (.num 1) then 1 else 0))) [.mk (.made x) [],.mk (.made (.num 1)) []],ns++[t]):=by
    have e4:evs fs [.var "a",.lit (.num 1)] (put e "a" x) (ns++[t])=([.mk (.made x) [],.mk (.made (.num 1)) []],ns++[t]):=by
     rw[zaY,ev,zj7,ev]
     have:put e "a" x "a"=some x:=by unfold put;rw[if_pos rfl]
     rw[this]
     rfl
    rw[ev,e4]
    rfl
   have sr:Ra (.mk (.made (.num (if is1 f then 1 else 0))) [.mk (.made x) [],.mk (.made (.num 1)) []]):=.mk f01 (mem2 (.mk fx fun s hs=>nomatch hs) (.mk (f01 (b:=true)) fun s hs=>nomatch hs))
   have fin:∀(p:Pn),p.Ok->(p.pl.go gs).2=some o->(Ra (ev fs p.ex (put e "a" x) (ns++[t])).1/\(ev fs p.ex (put e "a" x) (ns++[t])).1.rnd<=9*p.looks+2)->p.looks<=l.looks+r.looks->∀S:R,Ra S->S.rnd<=3->
     Ra (.mk (ev fs p.ex (put e "a" x) (ns++[t])).1.res [rr,.mk (ev fs p.ex (put e "a" x) (ns++[t])).1.res [S,(ev fs p.ex (put e "a" x) (ns++[t])).1]])/\(R.mk (ev fs p.ex (put e "a" x) (ns++[t])).1.res [rr,.mk (ev fs p.ex (put e "a" x) (ns++[t])).1.res [S,(ev fs p.ex (put e "a" x) (ns++[t])).1]]).rnd<=9*(Pn.look t l r).looks+2:=fun p okp hp ih hlk S hS hn=>by
    have ho:=(zkh fs nst p (put e "a" x) (ns++[t])).2
    rw[hlen,h3,hp] at ho
    have fo:Fd (ev fs p.ex (put e "a" x) (ns++[t])).1.res:=by rw[ho];exact zhE p gs o okp hp
    refine⟨.mk fo (mem2 hra (.mk fo (mem2 hS ih.1))),?_⟩
    have:=ih.2
    simp only[R.rnd,rnds,Pn.looks]
    lia
   cases hb:is1 f with
   |true=>
    rw[hq,hb] at e3
    rw[hb] at ho sr
    rw[zfF (i:=1) (by rw[e3];rfl) (by decide),e3]
    exact fin l h.2.1 ho (zkv fs hd l _ _ o h.2.1 (by rw[hlen,h3];exact ho)) (by lia) _ sr (by simp only[R.rnd,rnds];lia)
   |false=>
    rw[hq,hb] at e3
    rw[hb] at ho sr
    rw[zfE (by rw[e3];rfl),e3]
    exact fin r h.2.2 ho (zkv fs hd r _ _ o h.2.2 (by rw[hlen,h3];exact ho)) (by lia) _ sr (by simp only[R.rnd,rnds];lia)
def Rok(x:Ex)(fs:List Res):Prop:=∃ws,(ev fs x e0 []).1.toW=.lst ws/\Rep ws
theorem zot{p:Pn}{fs:List Res}(h:p.Ok)(hl:p.looks<=5)(hd:∀r∈fs,Fd r)(few:fs.length<=5){o:Res}(ho:(p.pl.go fs).2=some o):Rok p.ex fs:=by
 obtain⟨ra,nd⟩:=zkv fs hd p e0 [] o h ho
 have nst:∀r∈fs,r≠Res.stop:=fun r hr=>(hd r hr).ns
 have hh:=zdi p
 have ns:(ev fs p.ex e0 []).1.res≠.stop:=by
  have:=(zkh fs nst p e0 []).2
  rw[wW,vX,ho] at this
  rw[this]
  exact (zhE p fs o h ho).ns
 have g:=(grE nst (fun r hr=>(hd r hr).ok) (by lia) p.ex [] e0 [] (zlw p [] h) eg0 (yN _) ns).dp
 obtain⟨c1,c2⟩:=ra.ct
 have d1:=zeL (ev fs p.ex e0 []).1.toW
 generalize hE:(ev fs p.ex e0 []).1=E at g c1 c2 d1 nd
 cases E with
 |mk r l=>
  rw[R.toW] at g c1 c2 d1
  refine⟨_,by rw[hE,R.toW],c2,?_,?_,?_⟩
  ·lia
  ·lia
  ·simp only[W.depth] at g;lia
theorem zeX:∀(p:Pn)(fs:List Res),p.Ok->∀z∈(p.pl.go fs).1,(W.txt z).Ok
 |.made n,fs,h,z,hz=>by rw[Pn.pl,Pl.go] at hz;cases hz
 |.cried n,fs,h,z,hz=>by rw[Pn.pl,Pl.go] at hz;cases hz
 |.look t l r,[],h,z,hz=>by rw[Pn.pl,Pl.go] at hz;rw[yO.mp hz];exact⟨yM h.1.1 (by decide),h.1.2⟩
 |.look t l r,f::fs,h,z,hz=>by
  rw[Pn.pl,zaZ] at hz
  rcases yQ.mp hz with rfl|hz
  ·exact⟨yM h.1.1 (by decide),h.1.2⟩
  ·cases hf:is1 f with
   |true=>rw[hf] at hz;exact zeX l fs h.2.1 z hz
   |false=>rw[hf] at hz;exact zeX r fs h.2.2 z hz
theorem is_w{H:Hp}{v:V}{x:W}{Q:VK}(r:RW H v x)(g:zkk x)(q:∀H',Same H H'->Q (.bl true) H'):zad [v] H Q L2.E0:=
 ⟨v,x.toT,rfl,r.toRT,zfn x (zbC x g.1),fun H' s'=>by rw[zaI (zbC x g.1),zgS g.1 g.2.1 g.2.2];exact q H' s'⟩
theorem zhF{z:Str}(h:(W.txt z).Ok):zkk (.txt z):=⟨h,by have:=h.1;simp only[W.size];lia,yN _⟩
theorem zgZ:∀w∈zdl,decide (w∈zly)=false:=by decide +kernel
theorem dyS{a b:Str}(h:a=b):decide (V.str a=V.str b)=true:=decide_eq_true (congrArg V.str h)
def zkw:Sp:=fun vs H Q _=>∃(c:Str)(v:V)(x:W),vs=[.str c,v]/\RW H v x/\zkk x/\Wdt c x/\∀H',Same H H'->Q (.bl true) H'
def zkx:Sp:=fun vs H Q _=>∃(v:V)(r:Res),vs=[v]/\RW H v r.toW/\Gdr r/\∀H',Same H H'->Q (.bl true) H'
def zdY(H:Hp)(t:Addr):Prop:=∃(z:Str)(v:V)(r:Res),H t=some (.tup [.str z,v])/\(W.txt z).Ok/\RW H v r.toW/\Gdr r
theorem zdY.mono{H H':Hp}{t:Addr}(s:Same H H')(h:zdY H t):zdY H' t:=let ⟨z,v,r,a,b,c,d⟩:=h;⟨z,v,r,s _ _ a,b,c.mono (zi s),d⟩
def zhG:Sp:=fun vs H Q _=>∃(t:Addr),vs=[.ref t]/\zdY H t/\∀H',Same H H'->Q (.bl true) H'
def zdZ:Sp:=fun vs H Q _=>∃(t:Addr)(ts:List Addr),vs=[.ref t]/\H t=some (.tup (ts.map V.ref))/\ts.length<=1000/\(∀a∈ts,zdY H a)/\∀H',Same H H'->Q (.bl true) H'
structure Pr(K:uZ)(H:Hp)(a:Addr)(u:V)(P:Pl)(x:Ex)(us:List V)(fs:List Res)(rv:V):Prop where
 pp:Ppr K H a u P x us fs rv
 wt:Wt (x,0)
 mn:x.many<=60
 nm:∀z∈(P.go fs).1,(W.txt z).Ok
 rk:Rok x fs
def zou(K:uZ):Sp:=fun vs H Q _=>∃(a:Addr)(u rv:V)(P:Pl)(x:Ex)(us:List V)(fs:List Res),vs=[.ref a]/\Pr K H a u P x us fs rv/\∀H',Same H H'->Q (.bl true) H'
def zfT:Sp:=fun vs H Q _=>∃(a:Addr)(u rv:V)(ns us:List V),vs=[.ref a]/\Pp H a u ns us rv/\∀(p:Addr)(H':Hp),Same H H'->H p=none->H' p=some (.lst ns)->Q (.ref p) H'
def zky(K:uZ):Sp:=fun vs H Q _=>∃(a:Addr)(u rv:V)(P:Pl)(x:Ex)(us:List V)(fs:List Res),vs=[.ref a]/\Pr K H a u P x us fs rv/\∀H',Same H H'->Q (.bl true) H'
theorem Pr.same{K:uZ}{H H':Hp}{a:Addr}{u rv:V}{P:Pl}{x:Ex}{us:List V}{fs:List Res}(h:Pr K H a u P x us fs rv)(s:Same H H'):Pr K H' a u P x us fs rv:=⟨h.pp.tq (Zw s),h.wt,h.mn,h.nm,h.rk⟩
theorem Pr.looks{K:uZ}{H:Hp}{a:Addr}{u rv:V}{P:Pl}{x:Ex}{us:List V}{fs:List Res}(h:Pr K H a u P x us fs rv):∃(t:Addr)(ts:List Addr),H a=some (.tup [u,.ref t,rv])/\H t=some (.tup (ts.map V.ref))/\ts.length<=1000/\∀c∈ts,zdY H c:=by
 obtain⟨⟨t,ts,e1,e2,e3,e4⟩,l,few⟩:=h.pp.pp
 refine⟨t,ts,e1,e2,by lia,fun c hc=>?_⟩
 obtain⟨i,hi⟩:=List.mem_iff_getElem?.mp hc
 have hil:=(yC.mp hi).1
 have hfl:=h.pp.fo.len
 have hi2:i<(P.go fs).1.length:=by rw[yB] at e3;lia
 have hi3:i<us.length:=by rw[yB] at l;lia
 have hi4:i<fs.length:=by lia
 have hn:(P.go fs).1[i]?=some (P.go fs).1[i]:=yA hi2
 have hu:us[i]?=some us[i]:=yA hi3
 have hf:fs[i]?=some fs[i]:=yA hi4
 exact⟨_,_,_,e4 i c _ _ hi (by rw[yK,hn];rfl) hu,h.nm _ (yS hn),h.pp.fo.at hu hf,(h.pp.fo.fd _ (yS hf)).gd⟩
theorem zfU:FnScope ["word","detail"] ["word","detail"] (zg zbi):=mkSc rfl (by decide +kernel)
theorem zfV(F:Fun K "fits_word" "fits_word" zbi f fd)(G_is_worth:Have P w K mg base "is_worth" k ["thing"] (zad))(m_isi:mg "isinstance"=none)(m_str:mg "str"=none){g_BARE_WORDS:Addr}(m_BARE_WORDS:mg "BARE_WORDS"=some (.ref g_BARE_WORDS))(t_BARE_WORDS:∀H:Hp,SqT K H g_BARE_WORDS [.str "kind",.str "great",.str "nought",.str "place"]){g_NAMING_WORDS:Addr}(m_NAMING_WORDS:mg "NAMING_WORDS"=some (.ref g_NAMING_WORDS))(t_NAMING_WORDS:∀H:Hp,SqT K H g_NAMING_WORDS [.str "none",.str "shut"]):FnOk P w K mg base CX0 (k+1) f fd ["word","detail"] (zkw):=by
 refine F.okQ zfU (by rintro _ _ _ _ ⟨_,_,_,rfl,_⟩;rfl) fun cdv A outer s H vs Q E hr h=>?_
 obtain⟨c,v,x,rfl,rv,gx,g,q⟩:=h
 refine⟨_,(zd (zD (zw zaw (pv 0) (zQ (v:=.ref g_BARE_WORDS) rfl m_BARE_WORDS rfl) (by rfl)) (zf (zj (zE Ze (pv 1) zu (nomark _)))) zt)
  (zd (zD (zw zaw (pv 0) (zQ (v:=.ref g_NAMING_WORDS) rfl m_NAMING_WORDS rfl) (by rfl)) (zf (zj (zU (zk zN rfl m_isi zJ (za (pv 1) (za (ZE rfl m_str Zl) zb))) (zZ (zq G_is_worth hr rfl (za (pv 1) zb)))))) zt)
  (zf (zj (zU (zE Ze (pv 0) zu (nomark _)) (zZ (zq G_is_worth hr rfl (za (pv 1) zb)))))))),?_⟩
 refine⟨_,rfl,g_BARE_WORDS,zly.map V.str,rfl,.inr (t_BARE_WORDS H),rfl,rfl,_,rfl,?_⟩
 rw[zcq]
 rcases g with⟨hw,rfl⟩|⟨hw,z,rfl⟩|rfl
 ·cases rv
  rw[decide_eq_true hw]
  refine iteT ⟨_,rfl,rfl,?_⟩
  rw[dyS rfl]
  exact q H (Sr H)
 ·rw[zgZ _ hw]
  refine iteF ⟨_,rfl,g_NAMING_WORDS,zdl.map V.str,rfl,.inr (t_NAMING_WORDS H),rfl,rfl,_,rfl,?_⟩
  rw[zcq,decide_eq_true hw]
  cases rv with
  |txt _=>exact iteT ⟨_,rfl,_,_,_,true,rfl,.str _,zaL,_,rfl,iteT ⟨_,rfl,is_w (.txt _) gx q⟩⟩
 ·rw[show decide ((uI "cried")∈zly)=false by decide +kernel]
  refine iteF ⟨_,rfl,g_NAMING_WORDS,zdl.map V.str,rfl,.inr (t_NAMING_WORDS H),rfl,rfl,_,rfl,?_⟩
  rw[zcq,show decide ((uI "cried")∈zdl)=false by decide +kernel]
  refine iteF ⟨_,rfl,rfl,true,?_,iteT ⟨_,rfl,is_w rv gx q⟩⟩
  rw[dyS rfl]
theorem zeY:FnScope ["thing"] ["thing"] (zg zaQ):=mkSc rfl (by decide +kernel)
theorem zeZ(F:Fun K "is_outcome" "is_outcome" zaQ f fd)(G_fits_word:Have P w K mg base "fits_word" k ["word","detail"] (zkw))(G_is_worth:Have P w K mg base "is_worth" k ["thing"] (zad))(m_isi:mg "isinstance"=none)(m_len:mg "len"=none)(m_tuple:mg "tuple"=none):FnOk P w K mg base CX0 (k+1) f fd ["thing"] (zkx):=by
 refine F.okQ zeY (by rintro _ _ _ _ ⟨_,_,rfl,_⟩;rfl) fun cdv A outer s H vs Q E hr h=>?_
 obtain⟨v,r,rfl,rv,g,q⟩:=h
 refine⟨_,(zd (zD (zT (zG (zk zN rfl m_isi zJ (za (pv 0) (za (ZE rfl m_tuple zF) zb))))) (zf (zj zaj)) zt)
  (zd (zD (zw Ze (zk zB rfl m_len uO (za (pv 0) zb)) ze (nomark _)) (zf (zj (zU (zE Ze (zo zr (pv 0) ze (fun _ _=>rfl)) zu (nomark _)) (zZ (zq G_is_worth hr rfl (za (zo zr (pv 0) ze (fun _ _=>rfl)) zb)))))) zt)
  (zf (zj (zU (zE Ze (zk zB rfl m_len uO (za (pv 0) zb)) ze (nomark _)) (zU (zE Ze (zo zr (pv 0) ze (fun _ _=>rfl)) zu (nomark _)) (zZ (zq G_fits_word hr rfl (za (zo zr (pv 0) ze (fun _ _=>rfl)) (za (zo zr (pv 0) ze (fun _ _=>rfl)) zb)))))))))),?_⟩
 cases r with
 |stop=>exact g.elim
 |made x=>
  obtain⟨a,vs,rfl,ea,hw⟩:=rv.tup
  obtain⟨u0,us,rfl,r0,hw1⟩:=hw.cons
  obtain⟨u,us,rfl,ru,hw2⟩:=hw1.cons
  obtain rfl:=RWs.nil0 hw2
  obtain rfl:=r0.str
  refine⟨_,rfl,_,_,_,true,rfl,.tup ea,zay,_,rfl,iteF ?_⟩
  refine⟨_,rfl,_,_,rfl,.inr ⟨_,Sq ea,rfl⟩,rfl,_,rfl,iteT ?_⟩
  refine⟨_,rfl,a,_,0,_,rfl,rfl,Sq ea,rfl,rfl,true,?_,iteT ⟨_,rfl,a,_,1,_,rfl,rfl,Sq ea,rfl,is_w ru g q⟩⟩
  rw[dyS rfl]
 |wrong ws=>
  obtain⟨c,x,rfl,gx,gc⟩:=g
  obtain⟨a,vs,rfl,ea,hw⟩:=rv.tup
  obtain⟨u0,us,rfl,r0,hw1⟩:=hw.cons
  obtain⟨u1,us,rfl,r1,hw2⟩:=hw1.cons
  obtain⟨u,us,rfl,ru,hw3⟩:=hw2.cons
  obtain rfl:=RWs.nil0 hw3
  obtain rfl:=r0.str
  obtain rfl:=r1.str
  refine⟨_,rfl,_,_,_,true,rfl,.tup ea,zay,_,rfl,iteF ?_⟩
  refine⟨_,rfl,_,_,rfl,.inr ⟨_,Sq ea,rfl⟩,rfl,_,rfl,iteF ?_⟩
  refine⟨_,rfl,_,_,rfl,.inr ⟨_,Sq ea,rfl⟩,rfl,true,rfl,iteT ?_⟩
  refine⟨_,rfl,a,_,0,_,rfl,rfl,Sq ea,rfl,rfl,true,?_,iteT ⟨_,rfl,a,_,1,_,rfl,rfl,Sq ea,rfl,_,rfl,a,_,2,_,rfl,rfl,Sq ea,rfl,c,u,x,rfl,ru,gx,gc,q⟩⟩
  rw[dyS rfl]
theorem ziB:FnScope ["thing"] ["thing"] (zg zcY):=mkSc rfl (by decide +kernel)
theorem ziC(F:Fun K "is_look" "is_look" zcY f fd)(G_is_outcome:Have P w K mg base "is_outcome" k ["thing"] (zkx))(G_is_worth:Have P w K mg base "is_worth" k ["thing"] (zad))(m_isi:mg "isinstance"=none)(m_len:mg "len"=none)(m_str:mg "str"=none)(m_tuple:mg "tuple"=none):FnOk P w K mg base CX0 (k+1) f fd ["thing"] (zhG):=by
 refine F.okQ ziB (by rintro _ _ _ _ ⟨_,rfl,_⟩;rfl) fun cdv A outer s H vs Q E hr h=>?_
 obtain⟨a,rfl,⟨z,v,r,ea,okz,rv,gr⟩,q⟩:=h
 refine⟨_,(zd (zD (PW.pt (ZX (zT (zG (zk zN rfl m_isi zJ (za (pv 0) (za (ZE rfl m_tuple zF) zb))))) (ZI (zw zcz (zk zB rfl m_len uO (za (pv 0) zb)) ze (nomark _))))) (zf (zj zaj)) zt)
  (zf (zj (zU (zk zN rfl m_isi zJ (za (zo zr (pv 0) ze (fun _ _=>rfl)) (za (ZE rfl m_str Zl) zb))) (zU (zq G_is_worth hr rfl (za (zo zr (pv 0) ze (fun _ _=>rfl)) zb)) (zZ (zq G_is_outcome hr rfl (za (zo zr (pv 0) ze (fun _ _=>rfl)) zb)))))))),?_⟩
 refine⟨_,rfl,_,_,_,true,rfl,.tup ea,zay,_,rfl,iteF ?_⟩
 refine⟨_,rfl,_,_,rfl,.inr ⟨_,Sq ea,rfl⟩,rfl,_,rfl,iteF ?_⟩
 refine⟨_,rfl,a,_,0,_,rfl,rfl,Sq ea,rfl,_,_,_,true,rfl,.str z,zaL,_,rfl,iteT ?_⟩
 refine⟨_,rfl,a,_,0,_,rfl,rfl,Sq ea,rfl,.str z,(W.txt z).toT,rfl,(RW.txt z).toRT,zfn _ (zbC _ okz),fun H1 s1=>?_⟩
 rw[zaI (zbC _ okz),zgS okz (zhF okz).2.1 (zhF okz).2.2]
 refine⟨_,rfl,iteT ?_⟩
 exact⟨_,rfl,a,_,1,_,rfl,rfl,Sq (s1 _ _ ea),rfl,v,r,rfl,rv.mono (zi s1),gr,fun H2 s2=>q _ (s1.trans s2)⟩
theorem zfW:FnScope ["thing"] ["thing"] (zg zbo):=mkSc rfl (by decide +kernel)
theorem zfX(F:Fun K "are_looks" "are_looks" zbo f fd)(G_is_look:Have P w K mg base "is_look" k ["thing"] (zhG))(m_all:mg "all"=none)(m_isi:mg "isinstance"=none)(m_tuple:mg "tuple"=none):FnOk P w K mg base CX0 (k+1) f fd ["thing"] (zdZ):=by
 refine F.okQ zfW (by rintro _ _ _ _ ⟨_,_,rfl,_⟩;rfl) fun cdv A outer s H vs Q E hr h=>?_
 obtain⟨a,ts,rfl,ea,hl,hall,q⟩:=h
 refine⟨_,(zf (zj (zU (zk zN rfl m_isi zJ (za (pv 0) (za (ZE rfl m_tuple zF) zb))) (zZ (zk (Zx rfl) rfl m_all zaO (za (zY [] [] rfl rfl (by decide +kernel) rfl (by decide +kernel) rfl (by decide +kernel) trivial rfl trivial (zb6 (pv 0)) (fun C s H fp=>⟨zW,(zq G_is_look hr rfl (za (pv 0) zb))⟩)) zb)))))),?_⟩
 refine⟨_,rfl,_,_,_,true,rfl,.tup ea,zay,_,rfl,iteT ?_⟩
 dsimp only[zhJ,tRet,tOp,tC,tCB,zbe,tNil]
 refine zjb (K:=K) (ts.map fun _=>V.bl true) (by rfl) (Sq ea) (by rw[yB,yB]) (yM (show (ts.map V.ref).length<=1000 by rw[yB];exact hl) (by decide)) (fun i v y H1 R hv' hy s1 hR=>?_) (fun H1 D s1 hD=>?_)
 ·rw[yK] at hv' hy
  obtain⟨z,hz,rfl⟩:=yW.mp hv'
  rw[hz] at hy
  cases hy
  exact⟨_,rfl,z,rfl,(hall z (yS hz)).mono s1,fun H2 s2=>hR H2 s2⟩
 ·refine⟨D,ts.map fun _=>true,rfl,Sl (by rw[zc,wB];rfl),?_⟩
  rw[show ((ts.map fun _=>true).all id)=true by simp]
  exact q _ (s1.trans (Sn hD))
theorem ze0:FnScope ["thing"] ["thing"] (zg zaT):=mkSc rfl (by decide +kernel)
theorem ze1(F:Fun K "may_be_run" "may_be_run" zaT f fd)(G_are_looks:Have P w K mg base "are_looks" k ["thing"] (zdZ))(G_is_rule:Have P w K mg base "is_rule" k ["thing"] (zhC))(m_isi:mg "isinstance"=none)(m_len:mg "len"=none)(m_tuple:mg "tuple"=none):FnOk P w K mg base CX0 (k+1) f fd ["thing"] (zou K):=by
 refine F.okQ ze0 (by rintro _ _ _ _ ⟨_,_,_,_,_,_,_,rfl,_⟩;rfl) fun cdv A outer s H vs Q E hr h=>?_
 obtain⟨a,u,rv,P,x,us,fs,rfl,pr,q⟩:=h
 refine⟨_,(zd (zD (PW.pt (ZX (zT (zG (zk zN rfl m_isi zJ (za (pv 0) (za (ZE rfl m_tuple zF) zb))))) (ZI (zw zcz (zk zB rfl m_len uO (za (pv 0) zb)) ze (nomark _))))) (zf (zj zaj)) zt)
  (zf (zj (zU (zq G_is_rule hr rfl (za (zo zr (pv 0) ze (fun _ _=>rfl)) zb)) (zZ (zq G_are_looks hr rfl (za (zo zr (pv 0) ze (fun _ _=>rfl)) zb))))))),?_⟩
 obtain⟨t,ts,ea,et,hl,hall⟩:=pr.looks
 refine⟨_,rfl,_,_,_,true,rfl,.tup ea,zay,_,rfl,iteF ?_⟩
 refine⟨_,rfl,_,_,rfl,.inr ⟨_,Sq ea,rfl⟩,rfl,_,rfl,iteF ?_⟩
 refine⟨_,rfl,a,_,0,_,rfl,rfl,Sq ea,rfl,u,x,rfl,pr.pp.ru,pr.wt,pr.mn,pr.pp.rp.wf,fun H1 s1=>⟨_,rfl,iteT ?_⟩⟩
 exact⟨_,rfl,a,_,1,_,rfl,rfl,Sq (s1 _ _ ea),rfl,t,ts,rfl,s1 _ _ et,hl,fun c hc=>(hall c hc).mono s1,fun H2 s2=>q _ (s1.trans s2)⟩
theorem zg0:FnScope ["paper"] ["paper"] (zg zbZ):=mkSc rfl (by decide +kernel)
theorem zg1(F:Fun K "names_of" "names_of" zbZ f fd):FnOk P w K mg base CX0 (k+1) f fd ["paper"] (zfT):=by
 refine F.okQ zg0 (by rintro _ _ _ _ ⟨_,_,_,_,_,rfl,_⟩;rfl) fun cdv A outer s H vs Q E hr h=>?_
 obtain⟨a,u,rv,ns,us,rfl,pp,q⟩:=h
 obtain⟨⟨t,ts,e1,e2,e3,e4⟩,l,few⟩:=pp
 refine⟨_,(zf (zj (zY [] [] rfl rfl (by decide +kernel) rfl (by decide +kernel) rfl (by decide +kernel) trivial rfl trivial (zb6 (zo zr (pv 0) ze (fun _ _=>rfl))) (fun C s H fp=>⟨zW,(zo (show IxR _ (rIxT K) from zr) (pv 0) ze (fun _ _=>rfl))⟩)))),?_⟩
 refine⟨_,rfl,a,_,1,_,rfl,rfl,Sq e1,zl (j:=1) rfl,t,rfl,⟨_,Sq e2⟩,?_⟩
 refine zhu ns (Sq e2) (by rw[yB];lia) (by rw[yB];exact yM (show ts.length<=1000 by lia) (by decide)) (fun i v y H1 R hv hy sm r=>?_) (fun H1 D sm hD=>?_)
 ·rw[yK] at hv
  obtain⟨b,hb,rfl⟩:=yW.mp hv
  have hi:i<us.length:=by have:=(yC.mp hb).1;lia
  exact⟨_,rfl,b,_,0,_,rfl,rfl,Sq (sm _ _ (e4 i b y _ hb hy (yA hi))),zl (j:=0) rfl,r _ (Sr _)⟩
 ·exact q D _ (sm.trans (Sn hD)) (sm.free hD) zc
theorem zdu:FnScope ["thing","ended"] ["thing"] (zg zb0):=mkSc rfl (by decide +kernel)
theorem zg2(F:Fun K "is_right" "is_right" zb0 f fd)(G_just_so:Have P w K mg base "just_so" k ["one","other"] (zhx K))(G_names_of:Have P w K mg base "names_of" k ["paper"] (zfT))(G_gone:Have P w K mg base "gone" k ["rule","founds"] (zj9 K))(G_founds_of:Have P w K mg base "founds_of" k ["paper"] (zb4))(G_may_be_run:Have P w K mg base "may_be_run" k ["thing"] (zou K)):FnOk P w K mg base CX0 (k+1) f fd ["thing"] (zky K):=by
 refine F.okQ zdu (by rintro _ _ _ _ ⟨_,_,_,_,_,_,_,rfl,_⟩;rfl) fun cdv A outer s H vs Q E hr h=>?_
 obtain⟨a,u,rv,P,x,us,fs,rfl,pr,q⟩:=h
 refine⟨_,(zd (zD (zT (zG (zq G_may_be_run hr rfl (za (pv 0) zb)))) (zf (zj zaj)) zt)
  (zd (zx (i:=1) zdu.nd rfl (Or.inl rfl) (zq G_gone hr rfl (za (zo zr (pv 0) ze (fun _ _=>rfl)) (za (zq G_founds_of hr rfl (za (pv 0) zb)) zb))))
  (zf (zj (zU (zE Ze (zo zr (pv 1) ze (fun _ _=>rfl)) zu (nomark _)) (zU (zE (zm7 hr.units) (zo zr (pv 1) ze (fun _ _=>rfl)) (zq G_names_of hr rfl (za (pv 0) zb)) (nomark _)) (zZ (zq G_just_so hr rfl (za (zo zr (pv 1) ze (fun _ _=>rfl)) (za (zo zr (pv 0) ze (fun _ _=>rfl)) zb)))))))))),?_⟩
 obtain⟨t,ts,ea,et,hl,hall⟩:=pr.looks
 obtain⟨ws,ew,rep⟩:=pr.rk
 have fo:=pr.pp.fo
 have few:=fo.few
 obtain⟨⟨o,ho⟩,hlen⟩:=pr.pp.cm
 obtain⟨ev2,ev1⟩:=pr.pp.rp.ev fs fo.ns
 rw[ho] at ev1
 have hns:(ev fs x e0 []).1.res≠.stop:=by rw[ev1];exact pr.pp.rp.ns fs o ho
 have g:=grE fo.ns fo.ok (by lia) x [] e0 [] pr.pp.rp.wf eg0 (yN _) hns
 refine⟨_,rfl,a,u,rv,P,x,us,fs,rfl,pr,fun H1 s1=>⟨_,rfl,iteF ?_⟩⟩
 refine⟨_,rfl,a,_,0,_,rfl,rfl,Sq (s1 _ _ ea),zl (j:=0) rfl,_,rfl,a,u,rv,_,us,rfl,pr.pp.pp.mono s1,fun fl H2 s2 hfl efl=>?_⟩
 have s12:=s1.trans s2
 refine⟨u,fl,us,fs,x,rfl,pr.pp.ru.mono (zi s12),Sl efl,fo.len,by lia,(fo.mono (zi s12)).res,by have:=pr.pp.rp.hi;lia,fo.fine pr.pp.rp.wf,fun z=>absurd z hns,fun _ e l rv2 H3 s3 hl ee el rr=>?_⟩
 dsimp only[Zj]
 have s13:=s12.trans s3
 refine⟨_,rfl,e,_,0,_,rfl,rfl,Sq ee,rfl,rfl,_,rfl,?_⟩
 rw[dyS rfl]
 refine iteT ⟨_,rfl,e,_,1,_,rfl,rfl,Sq ee,rfl,_,rfl,a,u,rv,_,us,rfl,pr.pp.pp.mono s13,fun nl H4 s4 hnl enl=>?_⟩
 rw[ev2] at el
 have hz:∀{G:Hp}(ns:Ns),RSs K G (ns.map V.str) (ns.map W.txt):=fun ns=>⟨by rw[yB,yB],fun i v w hv hw=>by
  rw[yK] at hv hw
  obtain⟨z,hz,rfl⟩:=yW.mp hv
  rw[hz] at hw
  cases hw
  exact .txt z⟩
 have dz:∀ns:Ns,depths (ns.map W.txt)=0:=fun ns=>by
  induction ns with
  |nil=>rfl
  |cons z r ih=>rw[xA,depths,ih];rfl
 refine⟨l,nl,_,_,_,_,rfl,rfl,Sl (s4 _ _ el),Sl enl,hz _,hz _,by rw[dz];decide,_,rfl,?_⟩
 rw[ZF]
 have s14:=s13.trans s4
 have r1:RS K H4 rv2 (.lst ws):=by rw[←ew];exact g.rs (rr.tq (Zw s4))
 have r2:RS K H4 rv (.lst ws):=by rw[←ew];exact g.rs (pr.pp.rr.tq (Zw s14))
 refine iteT ⟨_,rfl,e,_,2,_,rfl,rfl,Sq (s4 _ _ ee),rfl,_,rfl,a,_,2,_,rfl,rfl,Sq (s14 _ _ ea),rfl,rv2,rv,ws,ws,rfl,r1,r2,rep,?_⟩
 rw[ZF]
 exact q _ s14
theorem zkz{ws:List W}{n:Nat}(h:∀w∈ws,w.depth<=n):depths ws<=n:=by
 induction ws with
 |nil=>rw[depths];lia
 |cons w r ih=>
  rw[depths]
  have:=h w (by simp)
  have:=ih fun u hu=>h u (yX _ hu)
  lia
noncomputable def lkW(n:Str)(r:Res):W:=.lst [.txt n,r.toW]
def lksW(P:Pl)(fs:List Res):W:=.lst (List.zipWith lkW (P.go fs).1 fs)
theorem zhH{P:Pl}{H:Hp}{t:Addr}{ts:List Addr}{us:List V}{fs:List Res}(e:H t=some (.tup (ts.map V.ref)))(p:Prs H ((P.go fs).1.map V.str) us ts)(fo:Fo H us fs)(cm:Cm P fs)(l:ts.length=fs.length):RW H (.ref t) (lksW P fs):=by
 have h1:=cm.2
 have h2:=fo.len
 refine .lst e (by rw[yB,vY];lia) fun i v w hv hw=>?_
 rw[yK] at hv
 obtain⟨c,hc,rfl⟩:=yW.mp hv
 have hi:i<ts.length:=(yC.mp hc).1
 have g1:(P.go fs).1[i]?=some (P.go fs).1[i]:=yA (by lia)
 have g2:fs[i]?=some fs[i]:=yA (by lia)
 have g3:us[i]?=some us[i]:=yA (by lia)
 rw[List.getElem?_zipWith,g1,g2] at hw
 obtain rfl:lkW _ _=w:=by simpa using hw
 exact RW.pair (p i c _ _ hc (by rw[yK,g1];rfl) g3) (.txt _) (fo.at g3 g2)
theorem zov{P:Pl}{fs:List Res}(h:∀r∈fs,Fd r):(lksW P fs).depth<=15:=by
 have:depths (List.zipWith lkW (P.go fs).1 fs)<=14:=zkz fun w hw=>by
  obtain⟨i,hi,rfl⟩:=vS.mp hw
  rw[List.getElem_zipWith]
  have hif:i<fs.length:=by rw[vY] at hi;lia
  have:=(h _ (yY hif)).ok.dp
  simp only[lkW,W.depth,depths]
  lia
 simp only[lksW,W.depth]
 lia
theorem Ppr.nst{K:uZ}{H:Hp}{p:Addr}{u rv:V}{P:Pl}{x:Ex}{us:List V}{fs:List Res}(h:Ppr K H p u P x us fs rv):(ev fs x e0 []).1.res≠.stop:=by
 obtain⟨⟨o,ho⟩,_⟩:=h.cm
 rw[(h.rp.ev fs h.fo.ns).2,ho]
 exact h.rp.ns fs o ho
theorem zoM{us:List V}{k:Nat}(h:k<=us.length):cutV us none (some (k:Int))=us.take k:=by
 unfold cutV
 rw[HT.sIx_nat,show HT.sIx us.length 0 none=0 from rfl,vX,show min k us.length-0=k by lia]
theorem zg3:∀(P:Pl)(fs:List Res)(o:Res),(P.go fs).2=some o->P.go (fs.take (P.go fs).1.length)=P.go fs
 |.leaf r,fs,o,h=>by rw[Pl.go,Pl.go]
 |.look t l r,[],o,h=>by rw[Pl.go] at h;cases h
 |.look t l r,f::fs,o,h=>by
  rw[zaZ] at h ⊢
  rw[yG,List.take_succ_cons,zaZ]
  cases hf:is1 f with
  |true=>rw[hf] at h;simp only[if_true];rw[zg3 l fs o h]
  |false=>rw[hf] at h;simp only[yZ,if_false];rw[zg3 r fs o h]
theorem Fo.dps{H:Hp}{us:List V}{fs:List Res}(h:Fo H us fs):depths (fs.map Res.toW)<50:=xS (zkz (n:=13) fun w hw=>by obtain⟨r,hr,rfl⟩:=wC.mp hw;exact (h.fd r hr).ok.dp) (by decide)
structure Ed(K:uZ)(AT:Addr)(H:Hp)(p lf:Addr)(u:V)(us:List V)(P:Pl)(x:Ex)(fs:List Res):Prop where
 ex:∃(dx:Addr)(nm le ho rv:V)(pp:Addr),H p=some (.ins AT dx (fT nm .non (.ref lf) (.ref pp) ho u .non le))/\Pr K H pp u P x us fs rv/\RW H ho zlD
 fo:H lf=some (.lst us)
theorem Ed.keep{K:uZ}{AT:Addr}{H H':Hp}{p lf:Addr}{u:V}{us:List V}{P:Pl}{x:Ex}{fs:List Res}(h:Ed K AT H p lf u us P x fs)(t:Tq H H')(k:∀c o,c=p\/c=lf->H c=some o->H' c=some o):Ed K AT H' p lf u us P x fs:=
 ⟨let ⟨dx,nm,le,ho,rv,pp,e,pr,r⟩:=h.ex;⟨dx,nm,le,ho,rv,pp,k _ _ (.inl rfl) e,⟨pr.pp.tq t,pr.wt,pr.mn,pr.nm,pr.rk⟩,r.mono t.tups⟩,k _ _ (.inr rfl) h.fo⟩
theorem Ed.same{K:uZ}{AT:Addr}{H H':Hp}{p lf:Addr}{u:V}{us:List V}{P:Pl}{x:Ex}{fs:List Res}(h:Ed K AT H p lf u us P x fs)(s:Same H H'):Ed K AT H' p lf u us P x fs:=h.keep (Zw s) fun c o _ e=>s c o e
def zow(K:uZ)(AT:Addr):Sp:=fun vs H Q _=>∃(p lf le fl:Addr)(nm nd u kv:V)(us es us2:List V)(fs:List Res),vs=[.ref p,nd,.ref fl]/\Tk AT H p lf le nm nd .non .non u kv us es/\(nd=.non\/∃z,nd=.str z)/\Fo H us fs/\SqL K H fl us2/\Fo H us2 fs/\Q (.bl true) H
def zkA(K:uZ)(AT:Addr):Sp:=fun vs H Q _=>∃(p lf nl fl:Addr)(u v ov:V)(us us2:List V)(P:Pl)(x:Ex)(fs:List Res)(r:Res),vs=[.ref p,v,.ref nl,.ref fl,ov]/\Ed K AT H p lf u us P x fs/\RW H v x.toW/\SqL K H nl ((P.go fs).1.map V.str)/\SqL K H fl us2/\Fo H us2 fs/\(P.go fs).2=some r/\RW H ov r.toW/\Fd r/\∀H',Same H H'->Q (.bl true) H'
theorem zox:FnScope ["_law_task","_law_needs","_law_founds"] ["_law_task","_law_needs","_law_founds"] (zg zmR):=mkSc rfl (by decide +kernel)
theorem zoy(F:Fun K "_law_is" "_law_is" zmR f fd)(m_isi:mg "isinstance"=none)(m_list:mg "list"=none)(clT:Cls K ATask)(nN:zH K ATask "needs")(nF:zH K ATask "founds")(nP:zH K ATask "paper")(nH:zH K ATask "how"):FnOk P w K mg base CX0 (k+1) f fd ["_law_task","_law_needs","_law_founds"] (zow K ATask):=by
 refine F.okQ zox (by rintro _ _ _ _ ⟨_,_,_,_,_,_,_,_,_,_,_,_,rfl,_⟩;rfl) fun cdv A outer s H vs Q E hr h=>?_
 obtain⟨p,lf,le,fl,nm,nd,u,kv,us,es,us2,fs,rfl,tk,hnd,fo,hfl,fo2,q⟩:=h
 refine⟨_,(zd (zD (PW.pt (ZX (zw zcz (zI (pv 0) rfl) (pv 1) (nomark _)) (ZX (zw (zjD hr.units) (zI (pv 0) rfl) (pv 2) (nomark _)) (ZI (zT (zG (zk zN rfl m_isi zJ (za (zI (pv 0) rfl) (za (ZE rfl m_list zaC) zb))))))))) (zf (zj zaj)) zt)
  (zf (zj (zU (zct (zcs (zI (pv 0) rfl))) (zZ (zct (zcs (zI (pv 0) rfl)))))))),?_⟩
 obtain⟨dx,ei⟩:=tk.ins
 have hsc:scal nd nd=true:=by rcases hnd with rfl|⟨z,rfl⟩<;>rfl
 refine⟨_,rfl,p,ATask,dx,_,nd,rfl,ei,clT,nN,rfl,_,rfl,hsc,_,rfl,?_⟩
 rw[show (!decide (nd=nd))=false by rw[decide_eq_true rfl];rfl]
 refine iteF ⟨_,rfl,p,ATask,dx,_,.ref lf,rfl,ei,clT,nF,rfl,_,rfl,lf,fl,us,us2,fs.map Res.toW,fs.map Res.toW,rfl,rfl,Sl tk.fo,hfl,fo.rs.rss,fo2.rs.rss,fo.dps,_,rfl,?_⟩
 rw[ZF]
 refine iteF ⟨_,rfl,p,ATask,dx,_,.ref lf,rfl,ei,clT,nF,rfl,_,_,_,true,rfl,.lst tk.fo,zoi,_,rfl,iteF ?_⟩
 exact⟨_,rfl,p,ATask,dx,_,.non,rfl,ei,clT,nP,rfl,_,rfl,iteT ⟨_,rfl,p,ATask,dx,_,.non,rfl,ei,clT,nH,rfl,q⟩⟩
theorem zfY:FnScope ["_law_task","_law_rule","_law_names","_law_founds","_law_outcome","_law_paper"] ["_law_task","_law_rule","_law_names","_law_founds","_law_outcome"] (zg zei):=mkSc rfl (by decide +kernel)
theorem zkB(F:Fun K "_law_ended" "_law_ended" zei f fd)(G_is_right:Have P w K mg base "is_right" k ["thing"] (zky K))(m_isi:mg "isinstance"=none)(m_len:mg "len"=none)(m_tuple:mg "tuple"=none)(m_zip:mg "zip"=none)(clT:Cls K ATask)(nP:zH K ATask "paper")(nN:zH K ATask "needs")(nF:zH K ATask "founds")(nH:zH K ATask "how"):FnOk P w K mg base CX0 (k+1) f fd ["_law_task","_law_rule","_law_names","_law_founds","_law_outcome"] (zkA K ATask):=by
 refine F.okQ zfY (by rintro _ _ _ _ ⟨_,_,_,_,_,_,_,_,_,_,_,_,_,rfl,_⟩;rfl) fun cdv A outer s H vs Q E hr h=>?_
 obtain⟨p,lf,nl,fl,u,v,ov,us,us2,P,x,fs,r,rfl,ed,rv,hnl,hfl,fo2,hgo,rov,fdr,q⟩:=h
 refine⟨_,(zd (zx (i:=5) zfY.nd rfl (Or.inl rfl) (zI (pv 0) rfl))
  (zd (zD (PW.pt (ZX (zT (zG (zk zN rfl m_isi zJ (za (pv 5) (za (ZE rfl m_tuple zF) zb))))) (ZX (zw zcz (zk zB rfl m_len uO (za (pv 5) zb)) ze (nomark _)) (ZX (zbs (zbd (zI (pv 0) rfl))) (ZI (zw (zjD hr.units) (zI (pv 0) rfl) (pv 3) (nomark _))))))) (zf (zj zaj)) zt)
  (zd (zD (PW.pt (ZX (zw (zev hr.units) (zo zr (pv 5) ze (fun _ _=>rfl)) (pv 1) (nomark _)) (ZX (zw (zev hr.units) (zo zr (pv 5) ze (fun _ _=>rfl)) (zeu rfl rfl m_zip rfl m_tuple (za (pv 2) (za (pv 3) zb))) (nomark _)) (ZI (zw (zev hr.units) (zo zr (zo zr (pv 5) ze (fun _ _=>rfl)) ze (fun _ _=>rfl)) (pv 4) (nomark _)))))) (zf (zj zaj)) zt)
  (zf (zj (zU (zE (zgm hr.units) (zI (pv 0) rfl) (zy (za zu (za (zy (za zu zb)) zb))) (nomark _)) (zZ (zq G_is_right hr rfl (za (pv 5) zb))))))))),?_⟩
 obtain⟨⟨dx,nm,le,ho,rv0,pp,ei,pr,rho⟩,elf⟩:=ed
 have ppr:=pr.pp
 have fo:=ppr.fo
 have cm:=ppr.cm
 obtain⟨⟨t,ts,e1,e2,e3,e4⟩,l,few⟩:=ppr.pp
 rw[yB,cm.2] at e3
 obtain⟨ra,rb,rv1,rfl,era,rres⟩:=ppr.rr.res
 refine⟨_,rfl,p,ATask,dx,_,.ref pp,rfl,ei,clT,nP,rfl,?_⟩
 dsimp only[Zj]
 refine⟨_,rfl,_,_,_,true,rfl,.tup e1,zay,_,rfl,iteF ?_⟩
 refine⟨_,rfl,_,_,rfl,.inr ⟨_,Sq e1,rfl⟩,rfl,_,rfl,iteF ?_⟩
 refine⟨_,rfl,p,ATask,dx,_,.non,rfl,ei,clT,nN,rfl,_,rfl,iteF ?_⟩
 refine⟨_,rfl,p,ATask,dx,_,.ref lf,rfl,ei,clT,nF,rfl,_,rfl,lf,fl,us,us2,fs.map Res.toW,fs.map Res.toW,rfl,rfl,Sl elf,hfl,fo.rs.rss,fo2.rs.rss,fo.dps,_,rfl,?_⟩
 rw[ZF]
 obtain⟨xs,ex,rx⟩:=ppr.rp.rep
 have ru1:=ppr.ru
 rw[ex] at ru1 rv
 refine iteF ⟨_,rfl,pp,_,0,_,rfl,rfl,Sq e1,rfl,_,rfl,xs,xs,ru1.toRS,rv.toRS,rx.dp,_,rfl,?_⟩
 rw[ZF]
 refine iteF ⟨_,rfl,pp,_,1,_,rfl,rfl,Sq e1,rfl,_,rfl,_,rfl,nl,fl,_,us2,rfl,hnl,hfl,fun ts2 t2 H2 s2 ht2 hl2 pr2 et2=>?_⟩
 have hlen2:ts2.length=fs.length:=by rw[hl2,yB,cm.2,fo2.len,Nat.min_self]
 have w1:=zhH (P:=P) (s2 _ _ e2) (fun j t x y a b c=>s2 _ _ (e4 j t x y a b c)) (fo.mono (zi s2)) cm e3
 have w2:=zhH et2 pr2 (fo2.mono (zi s2)) cm hlen2
 refine⟨_,_,w1.toRS,w2.toRS,?_,_,rfl,?_⟩
 ·have h2:=zov (P:=P) fo.fd
  simp only[lksW,W.depth] at h2
  lia
 rw[ZF]
 refine iteF ⟨_,rfl,pp,_,2,_,rfl,rfl,Sq (s2 _ _ e1),rfl,ra,_,0,_,rfl,rfl,Sq (s2 _ _ era),rfl,_,rfl,?_⟩
 have hres:(ev fs x e0 []).1.res=r:=by rw[(ppr.rp.ev fs fo.ns).2,hgo];rfl
 obtain⟨ws,ew,rep⟩:=fdr.rep
 have q1:=(RRes.rs ppr.nst rres).mono s2
 rw[hres,ew] at q1
 rw[ew] at rov
 refine⟨ws,ws,q1,(rov.mono (zi s2)).toRS,rep.dp,_,rfl,?_⟩
 rw[ZF]
 refine iteF ⟨_,rfl,p,ATask,dx,_,ho,rfl,s2 _ _ ei,clT,nH,rfl,zl1,fun c hc=>⟨zl2,fun d hd=>?_⟩⟩
 have s3:=Sn (o:=.tup [.str "new"]) hc
 have s4:=Sn (o:=.tup [.str "done",.ref c]) hd
 have r4:RW (upd (upd H2 c (.tup [.str "new"])) d (.tup [.str "done",.ref c])) (.ref d) zlD:=RW.pair zc (.txt _) ((RW.one zc (.txt _)).mono (zi s4))
 have sA:=s2.trans (s3.trans s4)
 refine⟨_,_,(rho.mono (zi sA)).toRS,r4.toRS,by decide +kernel,_,rfl,?_⟩
 rw[ZF]
 exact iteT ⟨_,rfl,pp,u,_,P,x,us,fs,rfl,pr.same sA,fun H' s'=>q _ (sA.trans s')⟩
structure Ls(K:uZ)(AT:Addr)(H G:Hp)(p lf le sf:Addr)(nm nd pa ho u:V)(us us0:List V)(pn:Pn)(fs:List Res):Prop where
 tk:Tk AT G p lf le nm nd pa ho u .non us []
 fo:Fo G us fs
 po:zdX K G pn.pl pn.ex u us fs nd pa ho
 es:G sf=some (.lst us0)
 f2:Fo G us0 fs
 tq:Tq H G
 fr:∀c o,c≠p->c≠lf->H c=some o->G c=some o
 al:Al pn.pl fs
 ne:sf≠le
theorem Ls.same{K:uZ}{AT:Addr}{H G G':Hp}{p lf le sf:Addr}{nm nd pa ho u:V}{us us0:List V}{pn:Pn}{fs:List Res}(h:Ls K AT H G p lf le sf nm nd pa ho u us us0 pn fs)(s:Same G G'):Ls K AT H G' p lf le sf nm nd pa ho u us us0 pn fs:=
 ⟨h.tk.same s,h.fo.mono (zi s),h.po.tq (Zw s),s _ _ h.es,h.f2.mono (zi s),h.tq.trans (Zw s),fun c o a b e=>s _ _ (h.fr c o a b e),h.al,h.ne⟩
theorem Ls.ed{K:uZ}{AT:Addr}{H G:Hp}{p lf le sf:Addr}{nm nd pa ho u:V}{us us0:List V}{pn:Pn}{fs:List Res}(h:Ls K AT H G p lf le sf nm nd pa ho u us us0 pn fs)(ok:pn.Ok)(lk:pn.looks<=5){r:Res}(hr:(pn.pl.go fs).2=some r):Ed K AT G p lf u us pn.pl pn.ex fs:=by
 rcases h.po with⟨h0,_⟩|⟨_,rfl,pp,rv,rfl,ppr,rho⟩
 ·rw[h0] at hr;cases hr
 ·obtain⟨dx,ei⟩:=h.tk.ins
  have h1:=zdi pn
  have h2:=zgW pn
  exact⟨⟨dx,nm,_,ho,rv,pp,ei,⟨ppr,⟨znv pn ok (by lia),by show 0+pn.ex.high<=13;lia⟩,by lia,zeX pn fs ok,zot ok lk h.fo.fd h.fo.few hr⟩,rho⟩,h.tk.fo⟩
theorem zoz{P:Pl}{fs:List Res}{i:Nat}{r:Res}(ha:Al P (fs.take i))(hi:i<=fs.length)(hr:(P.go (fs.take i)).2=some r):(P.go fs).1.length=i:=by
 rcases ha with h|h
 ·rw[h] at hr;cases hr
 ·have e:=zgI P (fs.take i) (fs.drop i) r hr
  rw[wL] at e
  rw[e,h.2,yU]
  lia
def zkC(K:uZ)(AT:Addr):Sp:=fun vs H Q _=>∃(p lf le fl:Addr)(nm u v pv:V)(us0:List V)(pn:Pn)(fs0:List Res),vs=[.ref p,pv,v,.ref fl]/\Tk AT H p lf le nm .non .non .non u .non [] []/\RW H u pn.ex.toW/\RW H v pn.ex.toW/\RW H pv pn.toW/\pn.Ok/\pn.looks<=5/\H fl=some (.lst us0)/\Fo H us0 fs0/\fs0.length=5/\fl≠lf /\
 ∀(us:List V)(H':Hp),Ed K AT H' p lf u us pn.pl pn.ex (fs0.take (pn.pl.go fs0).1.length)->Tq H H'->(∀c o,c≠p->c≠lf->H c=some o->H' c=some o)->Q (.bl true) H'
theorem zai:FnScope ["_law_task","_law_plan_here","_law_rule","_law_founds","_law_so_far","_law_found_here","_law_names","_law_outcome"] ["_law_task","_law_plan_here","_law_rule","_law_founds"] (zg zej):=mkSc rfl (by decide +kernel)
theorem zkD(F:Fun K "_law_steps" "_law_steps" zej f fd)(G_lended:Have P w K mg base "_law_ended" k ["_law_task","_law_rule","_law_names","_law_founds","_law_outcome"] (zkA K ATask))(G_lgone:Have P w K mg base "_law_gone" k ["_law_plan_here","_law_founds"] (zgL K))(G_Task_step:zbb P w K mg base ATask "step" k ["self","found"] (zkn K ATask))(G_lis:Have P w K mg base "_law_is" k ["_law_task","_law_needs","_law_founds"] (zow K ATask)):FnOk P w K mg base CX0 (k+1) f fd ["_law_task","_law_plan_here","_law_rule","_law_founds"] (zkC K ATask):=by
 refine F.okQ zai (by rintro _ _ _ _ ⟨_,_,_,_,_,_,_,_,_,_,_,rfl,_⟩;rfl) fun cdv A outer s H vs Q E hr h=>?_
 obtain⟨p,lf,le,fl,nm,u,v,rpl,us0,pn,fs0,rfl,tk,ru,rv,rpv,okp,lkp,hfl,fo0,l5,nfl,q⟩:=h
 refine⟨_,(zd (zx (i:=4) zai.nd rfl (Or.inl rfl) (zS zb))
  (zd (zD (zT (zG (zq G_lis hr rfl (za (pv 0) (za zaM (za (zS zb) zb)))))) (zf (zj zaj)) zt)
  (zd (Zc (zoe G_Task_step hr (pv 0)))
  (zd (za8 uV rfl (zaq (pv 3)) (zX (i:=5) zai.nd rfl (Or.inl rfl)) (zd (zau (zq G_lgone hr rfl (za (pv 1) (za (pv 4) zb))) (za7 rfl (Zd (zX (i:=6) zai.nd rfl (Or.inl rfl)) (Zd (zX (i:=7) zai.nd rfl (Or.inl rfl)) zaN))))
  (zd (zD (zbs (zbd (pv 7))) (zf (zj (zq G_lended hr rfl (za (pv 0) (za (pv 2) (za (pv 6) (za (pv 4) (za (pv 7) zb)))))))) zt)
  (zd (zD (zT (zG (zq G_lis hr rfl (za (pv 0) (za (zo zA (pv 6) (zd1 zcy ze) (fun _ _=>rfl)) (za (pv 4) zb)))))) (zf (zj zaj)) zt)
  (zd (Zc (zoI G_Task_step hr (pv 0) (za (pv 5) zb)))
  (zf (Zc (zcc uW uY uX zax (pv 4) (za (pv 5) zb)))))))))
  (zd (zau (zq G_lgone hr rfl (za (pv 1) (za (pv 4) zb))) (za7 rfl (Zd (zX (i:=6) zai.nd rfl (Or.inl rfl)) (Zd (zX (i:=7) zai.nd rfl (Or.inl rfl)) zaN))))
  (zf (zj (zq G_lended hr rfl (za (pv 0) (za (pv 2) (za (pv 6) (za (pv 4) (za (pv 7) zb))))))))))))),?_⟩
 have rup:=zmo okp lkp
 have hul:=fo0.len
 have nfp:fl≠p:=fun z=>by obtain⟨dx,e⟩:=tk.ins;rw[z,e] at hfl;cases hfl
 refine⟨zl0,fun sf hsf=>?_⟩
 dsimp only[Zj]
 have s1:=Sn (o:=.lst []) hsf
 have esf:upd H sf (.lst []) sf=some (.lst []):=zc
 have nsp:sf≠p:=by obtain⟨dx,e⟩:=tk.ins;exact (zh e hsf).symm
 have nsl:sf≠lf:=(zh tk.fo hsf).symm
 have nse:sf≠le:=(zh tk.en hsf).symm
 generalize upd H sf (.lst [])=H1 at s1 esf
 refine⟨_,rfl,zl0,fun c hc=>?_⟩
 have s2:=Sn (o:=.lst []) hc
 have ec:upd H1 c (.lst []) c=some (.lst []):=zc
 generalize upd H1 c (.lst [])=H2 at s2 ec
 have s12:=s1.trans s2
 have tk2:=tk.same s12
 obtain⟨dx2,ei2⟩:=tk2.ins
 refine⟨p,lf,le,c,nm,.non,u,.non,[],[],[],[],rfl,tk2,.inl rfl,Fo.nil,Sl ec,Fo.nil,_,rfl,iteF ?_⟩
 refine⟨_,rfl,p,dx2,_,rfl,ei2,rfl,?_⟩
 refine⟨p,lf,le,_,u,.non,.non,[],pn.pl,pn.ex,[],[],rfl,tk2,ru.mono (zi s12),rup,Fo.nil,.inl ⟨rfl,rfl,zmn _⟩,fun le3 us3 nd3 pa3 ho3 H3 tk3 hle3 fo3 post3 t3 k3=>?_⟩
 have ls3:Ls K ATask H H3 p lf le3 sf nm nd3 pa3 ho3 u us3 [] pn []:=⟨tk3,fo3,post3,k3 sf _ nsp nsl (s2 _ _ esf),Fo.nil,(Zw s12).trans t3,fun c o a b e=>k3 c o a b (s12 _ _ e),zmn _,by
  rcases hle3 with h|h
  ·exact zh (s2 _ _ esf) h
  ·rw[h];exact nse⟩
 refine⟨_,rfl,fl,rfl,⟨_,Sl (ls3.fr _ _ nfp nfl hfl)⟩,?_⟩
 refine zg5 (K:=K) (xs:=us0) (fun i σ' G=>∃(o5 o6 o7:Option V)(le:Addr)(us':List V)(nd pa ho:V),i<=5/\σ'=[some (.ref p),some rpl,some v,some (.ref fl),some (.ref sf),o5,o6,o7]/\Ls K ATask H G p lf le sf nm nd pa ho u us' (us0.take i) pn (fs0.take i)) ⟨none,none,none,le3,us3,nd3,pa3,ho3,by decide,rfl,ls3⟩ (fun i σ' G _ h=>?_) (fun i vv σ' G hv h=>?_) (fun σ' G h=>?_)
 ·obtain⟨_,_,_,_,_,_,_,_,_,_,ls⟩:=h
  exact Sl (ls.fr _ _ nfp nfl hfl)
 ·obtain⟨o5,o6,o7,le,us',nd,pa,ho,hi5,rfl,ls⟩:=h
  have hi:i<us0.length:=(yC.mp hv).1
  have hlt:(fs0.take i).length=i:=by rw[yU];lia
  refine⟨_,rfl,_,rfl,rpl,sf,us0.take i,fs0.take i,pn,rfl,rpv.mono ls.tq.tups,okp,Sl ls.es,ls.f2,fun ta ln ov G2 g2 hln eta eln hov1 hov2=>?_⟩
  refine⟨ta,_,rfl,Sq eta,rfl,_,_,rfl,_,_,rfl,rfl,?_⟩
  have ls2:=ls.same g2
  refine⟨_,rfl,_,rfl,?_⟩
  rcases zah (pn.pl.go (fs0.take i)).2 with hn|⟨r,hr⟩
  ·obtain rfl:=hov1 hn
   refine iteF ?_
   have hnl:=zdg pn.pl _ hn
   rcases ls2.po with⟨_,zn,hzn,rfl,rfl,rfl⟩|⟨⟨o,ho'⟩,_⟩
   case inr=>rw[hn] at ho';cases ho'
   have hat:atI ((pn.pl.go (fs0.take i)).1.map V.str) (-1)=some (.str zn):=zbH (by rw[yB,yK,←List.getLast?_eq_getElem?,hzn];rfl) (by rw[yB];lia)
   have hif:i<fs0.length:=by lia
   have hf:fs0[i]?=some fs0[i]:=yA hif
   refine⟨_,rfl,_,rfl,_,rfl,ln,_,-1,_,rfl,rfl,Sl eln,hat,_,rfl,p,lf,le,sf,nm,.str zn,u,.non,us',[],us0.take i,fs0.take i,rfl,ls2.tk,.inr ⟨zn,rfl⟩,ls2.fo,Sl ls2.es,ls2.f2,_,rfl,iteF ?_⟩
   obtain⟨dxx,eix⟩:=ls2.tk.ins
   refine⟨_,rfl,p,dxx,_,rfl,eix,rfl,_,rfl,?_⟩
   refine⟨p,lf,le,_,u,_,vv,us',pn.pl,pn.ex,fs0.take i,fs0.take i++[fs0[i]],rfl,ls2.tk,ru.mono ls2.tq.tups,rup,ls2.fo,.inr ⟨zn,fs0[i],rfl,(fo0.mono ls2.tq.tups).at hv hf,fo0.fd _ (yS hf),by lia,hn,rfl⟩,fun le4 us4 nd4 pa4 ho4 G4 tk4 hle4 fo4 post4 t4 k4=>?_⟩
   have es4:=k4 sf _ nsp nsl ls2.es
   have nse4:sf≠le4:=by
    rcases hle4 with h|h
    ·exact zh ls2.es h
    ·rw[h];exact ls2.ne
   refine⟨_,rfl,.inl ⟨rfl,_,Sl es4⟩,_,rfl,sf,_,_,rfl,rfl,es4,zaa (by rw[yU];lia),?_⟩
   have hT:Tq G4 (upd G4 sf (.lst (us0.take i++[vv]))):=zon es4 (fun z=>z)
   have tq2:=(ls2.tq.trans t4).trans hT
   refine⟨_,_,_,le4,us4,nd4,pa4,ho4,by lia,rfl,?_⟩
   rw[ZU hf,ZU hv]
   refine⟨tk4.keep fun c o hc e=>?_,fo4.mono hT.tups,post4.tq hT,zc,((ls2.f2.mono t4.tups).mono hT.tups).snoc ((fo0.mono tq2.tups).at hv hf) (fo0.fd _ (yS hf)) (by lia),tq2,fun c o a b e=>?_,zkg hn _,nse4⟩
   ·rw[zm (fun z=>by rw[z] at hc;rcases hc with h|h|h;exact nsp h;exact nsl h;exact nse4 h)]
    exact e
   ·rw[zm (zh e hsf)]
    exact k4 c o a b (ls2.fr c o a b e)
  ·obtain⟨rov,fdr⟩:=hov2 r hr
   obtain⟨ws,ew,_⟩:=fdr.lst
   have rov':=rov
   rw[ew] at rov'
   obtain⟨oc,ovs,rfl,_,_⟩:=rov'.tup
   have ed:=ls2.ed okp lkp hr
   have hn:=zoz ls2.al (by lia) hr
   refine iteT ⟨_,rfl,_,rfl,_,rfl,_,rfl,_,rfl,p,lf,ln,sf,u,v,_,us',us0.take i,pn.pl,pn.ex,fs0.take i,r,rfl,ed,rv.mono ls2.tq.tups,Sl eln,Sl ls2.es,ls2.f2,hr,rov,fdr,fun H' s'=>q us' H' ?_ (ls2.tq.trans (Zw s')) fun c o a b e=>s' _ _ (ls2.fr c o a b e)⟩
   rw[hn]
   exact ed.same s'
 ·obtain⟨o5,o6,o7,le,us',nd,pa,ho,hi5,rfl,ls⟩:=h
  have hlt:(fs0.take us0.length).length=us0.length:=by rw[yU];lia
  refine⟨_,rfl,_,rfl,rpl,sf,us0.take us0.length,fs0.take us0.length,pn,rfl,rpv.mono ls.tq.tups,okp,Sl ls.es,ls.f2,fun ta ln ov G2 g2 hln eta eln hov1 hov2=>?_⟩
  refine⟨ta,_,rfl,Sq eta,rfl,_,_,rfl,_,_,rfl,rfl,?_⟩
  have ls2:=ls.same g2
  rcases zah (pn.pl.go (fs0.take us0.length)).2 with hn|⟨r,hr⟩
  ·have h1:=zeJ pn.pl _ hn
   have h2:=rup.de
   lia
  ·obtain⟨rov,fdr⟩:=hov2 r hr
   have ed:=ls2.ed okp lkp hr
   have hn:=zoz ls2.al (by lia) hr
   refine⟨_,rfl,_,rfl,_,rfl,_,rfl,_,rfl,p,lf,ln,sf,u,v,_,us',us0.take us0.length,pn.pl,pn.ex,fs0.take us0.length,r,rfl,ed,rv.mono ls2.tq.tups,Sl eln,Sl ls2.es,ls2.f2,hr,rov,fdr,fun H' s'=>q us' H' ?_ (ls2.tq.trans (Zw s')) fun c o a b e=>s' _ _ (ls2.fr c o a b e)⟩
   rw[hn]
   exact ed.same s'
def zlJ(K:uZ):Sp:=fun vs H Q _=>∃(a:Addr)(ns:List Int),vs=[.ref a]/\SqL K H a (ns.map V.int)/\ns.length<=63/\∀H',Q (.bl true) H'
theorem Fo.take{H:Hp}{us:List V}{fs:List Res}(h:Fo H us fs)(i:Nat):Fo H (us.take i) (fs.take i):=by
 have hl:=h.len
 refine⟨⟨by rw[yU,yB,yU,hl],fun j v w hv hw=>?_⟩,fun r hr=>h.fd r (List.mem_of_mem_take hr),by rw[yU];have:=h.few;lia⟩
 have hj:j<i:=by
  have:=(yC.mp hv).1
  rw[yU] at this
  lia
 rw[List.map_take,xY hj] at hw
 rw[xY hj] at hv
 exact h.rs.at' j v w hv hw
theorem za4:FnScope ["_law_script","_law_box_here","_law_texts","_law_plan_here","_law_rule","_law_founds","_law_others","_law_task","_law_other","_law_names","_law_outcome"] ["_law_script"] (zg sLaw):=mkSc rfl (by decide +kernel)
theorem zoA(F:Fun K "law" "law" sLaw f fd)(G_lended:Have P w K mg base "_law_ended" k ["_law_task","_law_rule","_law_names","_law_founds","_law_outcome"] (zkA K ATask))(G_lgone:Have P w K mg base "_law_gone" k ["_law_plan_here","_law_founds"] (zgL K))(G_lsteps:Have P w K mg base "_law_steps" k ["_law_task","_law_plan_here","_law_rule","_law_founds"] (zkC K ATask))(G_Task___init__:zce P w K mg base ATask "Task" k ["self","name","rule","kept","rows"] (zns ATask))(G_lfound:Have P w K mg base "_law_found" k ["_law_box_here"] (zol))(G_lbox:Have P w K mg base "_law_box" k ["_law_script","_law_k"] (zn1 K))(G_lrule_of:Have P w K mg base "_law_rule_of" k ["_law_plan_here"] (zco 7))(G_lplan:Have P w K mg base "_law_plan" k ["_law_box_here","_law_spare","_law_texts"] (zhw 6))(G_ltake:Have P w K mg base "_law_take" k ["_law_box_here","_law_wide"] (zcZ))(G_ltext:Have P w K mg base "_law_text" k ["_law_box_here","_law_most"] (zhb))(m_len:mg "len"=none)(m_range:mg "range"=none)(clT:Cls K ATask)(nNm:zH K ATask "name"):FnOk P w K mg base CX0 (k+1) f fd ["_law_script"] (zlJ K):=by
 refine F.okQ za4 (by rintro _ _ _ _ ⟨_,_,rfl,_⟩;rfl) fun cdv A outer s H vs Q E hr h=>?_
 obtain⟨a,ns,rfl,hS,_,q⟩:=h
 refine⟨_,(zd (zx (i:=1) za4.nd rfl (Or.inr rfl) (zq G_lbox hr rfl (za (pv 0) (za ze zb))))
  (zd (zc3 (i:=2) [1] ["_law_box_here"] rfl rfl (by decide +kernel) rfl (by decide +kernel) rfl (by decide +kernel) ⟨rfl,trivial⟩ rfl ⟨⟨rfl,rfl,Or.inr (Or.inl rfl),(by show (some NameKind.cell:Option NameKind)≠some .local;decide),⟨_,rfl⟩⟩,trivial⟩ (ZT rfl m_range (za (zC Zk ze (zq G_ltake hr rfl (za (pv 1) (za ze zb)))) zb)) (fun C s H fp=>⟨zW,(zq G_ltext hr rfl (za (pv 1) (za ze zb)))⟩) za4.nd rfl (Or.inl rfl))
  (zd (zx (i:=3) za4.nd rfl (Or.inl rfl) (zq G_lplan hr rfl (za (pv 1) (za (zS (za (zq G_ltake hr rfl (za (pv 1) (za ze zb))) zb)) (za (pv 2) zb)))))
  (zd (zx (i:=4) za4.nd rfl (Or.inl rfl) (zq G_lrule_of hr rfl (za (pv 3) zb)))
  (zd (zc3 (i:=5) [0] ["_law_script"] rfl rfl (by decide +kernel) rfl (by decide +kernel) rfl (by decide +kernel) ⟨rfl,trivial⟩ rfl ⟨⟨rfl,rfl,Or.inr (Or.inl rfl),(by show (some NameKind.cell:Option NameKind)≠some .local;decide),⟨_,rfl⟩⟩,trivial⟩ (ZT rfl m_range (za ze zb)) (fun C s H fp=>⟨zW,(zq G_lfound hr rfl (za (zq G_lbox hr rfl (za (pv 1) (za (zC Zk ze (pv 0)) zb))) zb))⟩) za4.nd rfl (Or.inl rfl))
  (zd (zc3 (i:=6) [0] ["_law_script"] rfl rfl (by decide +kernel) rfl (by decide +kernel) rfl (by decide +kernel) ⟨rfl,trivial⟩ rfl ⟨⟨rfl,rfl,Or.inr (Or.inl rfl),(by show (some NameKind.cell:Option NameKind)≠some .local;decide),⟨_,rfl⟩⟩,trivial⟩ (ZT rfl m_range (za ze zb)) (fun C s H fp=>⟨zW,(zq G_lfound hr rfl (za (zq G_lbox hr rfl (za (pv 1) (za (zC Zk ze (pv 0)) zb))) zb))⟩) za4.nd rfl (Or.inl rfl))
  (zd (zx (i:=7) za4.nd rfl (Or.inl rfl) (zfq G_Task___init__ hr rfl (za zu (za (pv 4) (za zaM (za (zS zb) zb))))))
  (zd (zx (i:=8) za4.nd rfl (Or.inl rfl) (zfq G_Task___init__ hr rfl (za zu (za (pv 4) (za zaM (za (zS zb) zb))))))
  (zd (zD (PW.pt (ZX (zw zcz (zI (pv 7) rfl) zu (nomark _)) (ZI (zw zcz (zI (pv 8) rfl) zu (nomark _))))) (zf (zj zaj)) zt)
  (zd (zD (PW.pt (ZX (zT (zG (zq G_lsteps hr rfl (za (pv 8) (za (pv 3) (za (pv 4) (za (pv 6) zb))))))) (ZI (zT (zG (zq G_lsteps hr rfl (za (pv 7) (za (pv 3) (za (pv 4) (za (pv 5) zb)))))))))) (zf (zj zaj)) zt)
  (zd (zau (zq G_lgone hr rfl (za (pv 3) (za (pv 6) zb))) (za7 rfl (Zd (zX (i:=9) za4.nd rfl (Or.inl rfl)) (Zd (zX (i:=10) za4.nd rfl (Or.inl rfl)) zaN))))
  (zf (zj (zq G_lended hr rfl (za (pv 8) (za (pv 4) (za (pv 9) (za (zbw zmK (pv 6) zd4 (zbQ (zk zB rfl m_len uO (za (pv 9) zb)))) (za (pv 10) zb))))))))))))))))))),?_⟩
 refine⟨_,rfl,a,ns,1,rfl,hS,by decide,fun bx bf bm b hb=>?_⟩
 dsimp only[Zj]
 have s1:=Sn (o:=.lst [.int bx,.int bf,.int bm]) hb
 have box1:ZZ (upd H b (.lst [.int bx,.int bf,.int bm])) b:=⟨_,_,_,zc⟩
 generalize upd H b (.lst [.int bx,.int bf,.int bm])=H1 at s1 box1
 refine⟨_,rfl,b,5,rfl,box1,by decide,by decide,fun m H2 m0 m1 st2=>⟨_,_,rfl,rfl,_,rfl,by lia,by lia,?_⟩⟩
 refine zeM (n:=1+m) (fun i us G=>∃ts:List Str,us=ts.map V.str/\ts.length=i/\(∀t∈ts,t.length<=9/\Signs t)/\Step b H1 G) ⟨[],rfl,rfl,(fun t ht=>nomatch ht),st2⟩ (fun i us G h=>by obtain⟨ts,rfl,h,_⟩:=h;rw[yB];exact h) (by lia) (fun i us G R hi h r=>?_) (fun us G D h hD=>?_)
 ·obtain⟨ts,rfl,hl,hts,stG⟩:=h
  refine⟨_,rfl,b,9,rfl,stG.box,by decide,by decide,fun x G2 hx sx stG2=>r _ _ ⟨ts++[x],by simp,by rw[yE,hl];rfl,fun t ht=>?_,stG.trans stG2⟩⟩
  rcases xI.mp ht with ht|ht
  ·exact hts t ht
  ·rw[yO.mp ht]
   exact⟨by lia,sx⟩
 obtain⟨ts,rfl,htl,hts,stG⟩:=h
 dsimp only[Zj]
 have nDb:D≠b:=ZZ.ne stG.box hD
 have eD:upd G D (.lst (ts.map V.str)) D=some (.lst (ts.map V.str)):=zc
 have st3:=stG.trans (Step.ofSame stG.box (Sn (o:=.lst (ts.map V.str)) hD))
 have kp3:∀c o,c≠b->H1 c=some o->upd G D (.lst (ts.map V.str)) c=some o:=st3.keep
 generalize upd G D (.lst (ts.map V.str))=H3 at eD st3 kp3
 refine⟨_,rfl,_,rfl,b,6,rfl,st3.box,by decide,by decide,fun sp0 H4 sp1 sp2 st4=>⟨zl1,fun sp hsp=>?_⟩⟩
 have nspb:sp≠b:=ZZ.ne st4.box hsp
 have s5:=Sn (o:=.lst [.int sp0]) hsp
 have esp:upd H4 sp (.lst [.int sp0]) sp=some (.lst [.int sp0]):=zc
 have st5:=(st3.trans st4).trans (Step.ofSame st4.box s5)
 have eD5:=s5 _ _ (st4.keep D _ nDb eD)
 generalize upd H4 sp (.lst [.int sp0])=H5 at s5 esp st5 eD5
 have esp':H5 sp=some (.lst [.int ((sp0.toNat:Nat):Int)]):=by rw[esp,show ((sp0.toNat:Nat):Int)=sp0 by lia]
 refine⟨_,rfl,b,sp,D,sp0.toNat,ts,rfl,st5.box,esp',nspb,eD5,nDb,by lia,by lia,?_,by lia,hts,fun rpl p s' H6 rpv okp lkp _ hb6 kp6=>?_⟩
 ·intro z
  rw[z] at htl
  have:(1+m).toNat=0:=htl.symm
  lia
 have hspH:H sp=none:=by
  cases hh:H sp with
  |none=>rfl
  |some o=>
   have:=(st3.trans st4).keep sp o nspb (s1 _ _ hh)
   rw[this] at hsp
   cases hsp
 have s6:Same H H6:=fun c o e=>kp6 c o (zh e hb) (zh e hspH) (st5.keep c o (zh e hb) (s1 _ _ e))
 dsimp only[Zj]
 refine⟨_,rfl,rpl,p,rfl,rpv,by lia,fun u H7 s7 ru=>?_⟩
 dsimp only[Zj]
 have s67:=s6.trans s7
 have rpv7:=rpv.mono (zi s7)
 have lk5:p.looks<=5:=by lia
 have rup:=zmo okp lk5
 refine⟨5,rfl,by decide,by decide,?_⟩
 refine zeM (n:=5) (fun i us G=>∃fs:List Res,us.length=i/\fs.length=i/\i<=5/\Fo G us fs/\Same H7 G) ⟨[],rfl,rfl,by decide,Fo.nil,Sr _⟩ (fun i us G2 h=>by obtain⟨_,h,_⟩:=h;exact h) (by decide) (fun i us G R hi h r=>?_) (fun us1 G8 L1 h hL1=>?_)
 ·obtain⟨fs,h1,h2,h3,fo,sG⟩:=h
  have hi5:i<5:=hi
  refine⟨_,rfl,_,rfl,_,_,rfl,rfl,a,ns,_,rfl,(s67.trans sG).seq hS,by lia,fun bx bf bm b hb=>?_⟩
  have w1:=Sn (o:=.lst [.int bx,.int bf,.int bm]) hb
  have box1:ZZ (upd G b (.lst [.int bx,.int bf,.int bm])) b:=⟨_,_,_,zc⟩
  generalize upd G b (.lst [.int bx,.int bf,.int bm])=G1 at w1 box1
  refine⟨b,rfl,box1,fun v rr G3 rw' fdr st2=>r v G3 ⟨fs++[rr],by rw[yE,h1];rfl,by rw[yE,h2];rfl,by lia,((fo.mono (zi w1)).mono (st2.tups box1)).snoc rw' fdr (by lia),fun c o e=>st2.keep c o (zh (sG _ _ e) hb) (w1 _ _ (sG _ _ e))⟩⟩
 obtain⟨fs1,g1,g2,_,fo1,s8⟩:=h
 dsimp only[Zj]
 have w8:=Sn (o:=.lst us1) hL1
 have eL1:upd G8 L1 (.lst us1) L1=some (.lst us1):=zc
 have s8':=s8.trans w8
 have fo1':=fo1.mono (zi w8)
 generalize upd G8 L1 (.lst us1)=H8 at w8 eL1 s8' fo1'
 refine⟨5,rfl,by decide,by decide,?_⟩
 refine zeM (n:=5) (fun i us G=>∃fs:List Res,us.length=i/\fs.length=i/\i<=5/\Fo G us fs/\Same H8 G) ⟨[],rfl,rfl,by decide,Fo.nil,Sr _⟩ (fun i us G2 h=>by obtain⟨_,h,_⟩:=h;exact h) (by decide) (fun i us G R hi h r=>?_) (fun us2 G9 L2 h hL2=>?_)
 ·obtain⟨fs,h1,h2,h3,fo,sG⟩:=h
  have hi5:i<5:=hi
  refine⟨_,rfl,_,rfl,_,_,rfl,rfl,a,ns,_,rfl,((s67.trans s8').trans sG).seq hS,by lia,fun bx bf bm b hb=>?_⟩
  have w1:=Sn (o:=.lst [.int bx,.int bf,.int bm]) hb
  have box1:ZZ (upd G b (.lst [.int bx,.int bf,.int bm])) b:=⟨_,_,_,zc⟩
  generalize upd G b (.lst [.int bx,.int bf,.int bm])=G1 at w1 box1
  refine⟨b,rfl,box1,fun v rr G3 rw' fdr st2=>r v G3 ⟨fs++[rr],by rw[yE,h1];rfl,by rw[yE,h2];rfl,by lia,((fo.mono (zi w1)).mono (st2.tups box1)).snoc rw' fdr (by lia),fun c o e=>st2.keep c o (zh (sG _ _ e) hb) (w1 _ _ (sG _ _ e))⟩⟩
 obtain⟨fs2,g3,g4,_,fo2,s9⟩:=h
 dsimp only[Zj]
 have w9:=Sn (o:=.lst us2) hL2
 have eL2:upd G9 L2 (.lst us2) L2=some (.lst us2):=zc
 have s9':=s9.trans w9
 have fo2':=fo2.mono (zi w9)
 generalize upd G9 L2 (.lst us2)=H9 at w9 eL2 s9' fo2'
 have eL1':=s9' _ _ eL1
 have fo1n:=fo1'.mono (zi s9')
 have s79:=s8'.trans s9'
 have ru9:=ru.mono (zi s79)
 have rpv9:=rpv7.mono (zi s79)
 clear fo2 fo1 fo1' ru rpv rpv7 eL1
 refine⟨_,rfl,zl0,fun rl hrl=>?_⟩
 have v0:=Sn (o:=.lst []) hrl
 have erl:upd H9 rl (.lst []) rl=some (.lst []):=zc
 generalize upd H9 rl (.lst [])=I0 at v0 erl
 refine fun p1 dx hp1 hdx nxp=>?_
 have v1:Same I0 (upd (upd I0 dx (.own p1)) p1 (.ins ATask dx [])):=fun c o e=>by
  rw[zm (zh e hp1),zm (zh e hdx)]
  exact e
 have ep1:upd (upd I0 dx (.own p1)) p1 (.ins ATask dx []) p1=some (.ins ATask dx []):=zc
 have v01:=v0.trans v1
 generalize upd (upd I0 dx (.own p1)) p1 (.ins ATask dx [])=I1 at v1 ep1 v01
 refine⟨p1,dx,rl,_,u,rfl,ep1,v1 _ _ erl,fun lf1 le1 I2 hlf1 hle1 tk1 k2=>⟨rfl,?_⟩⟩
 have hp10:H9 p1=none:=v0.free hp1
 have hlf10:H9 lf1=none:=v01.free hlf1
 have v2:Same H9 I2:=fun c o e=>k2 c o (zh e hp10) (v01 _ _ e)
 dsimp only[Zj]
 refine⟨_,rfl,zl0,fun rl2 hrl2=>?_⟩
 have x0:=Sn (o:=.lst []) hrl2
 have erl2:upd I2 rl2 (.lst []) rl2=some (.lst []):=zc
 generalize upd I2 rl2 (.lst [])=J0 at x0 erl2
 refine fun p2 dx2 hp2 hdx2 nxp2=>?_
 have x1:Same J0 (upd (upd J0 dx2 (.own p2)) p2 (.ins ATask dx2 [])):=fun c o e=>by
  rw[zm (zh e hp2),zm (zh e hdx2)]
  exact e
 have ep2:upd (upd J0 dx2 (.own p2)) p2 (.ins ATask dx2 []) p2=some (.ins ATask dx2 []):=zc
 have x01:=x0.trans x1
 generalize upd (upd J0 dx2 (.own p2)) p2 (.ins ATask dx2 [])=J1 at x1 ep2 x01
 refine⟨p2,dx2,rl2,_,u,rfl,ep2,x1 _ _ erl2,fun lf2 le2 J2 hlf2 hle2 tk2 m2=>⟨rfl,?_⟩⟩
 have hp20:I2 p2=none:=x0.free hp2
 have hlf20:I2 lf2=none:=x01.free hlf2
 have x2:Same I2 J2:=fun c o e=>m2 c o (zh e hp20) (x01 _ _ e)
 dsimp only[Zj]
 have tk1':=tk1.same x2
 obtain⟨d1,ei1⟩:=tk1.ins
 have ei1':=x2 _ _ ei1
 obtain⟨d2,ei2⟩:=tk2.ins
 have n1:p1≠p2:=zh ei1 hp20
 have n2:p1≠lf2:=zh ei1 hlf20
 have n3:lf1≠p2:=zh tk1.fo hp20
 have n4:lf1≠lf2:=zh tk1.fo hlf20
 have n5:le1≠p2:=zh tk1.en hp20
 have n6:le1≠lf2:=zh tk1.en hlf20
 have sJ:=v2.trans x2
 have eL1J:=sJ _ _ eL1'
 have eL2J:=sJ _ _ eL2
 have fo1J:=fo1n.mono (zi sJ)
 have fo2J:=fo2'.mono (zi sJ)
 have ruJ:=ru9.mono (zi sJ)
 have rpJ:=rpv9.mono (zi sJ)
 have nL1f1:L1≠lf1:=zh eL1' hlf10
 have nL1p1:L1≠p1:=zh eL1' hp10
 have nL2f2:L2≠lf2:=zh (v2 _ _ eL2) hlf20
 have nL2p2:L2≠p2:=zh (v2 _ _ eL2) hp20
 have nL2f1:L2≠lf1:=zh eL2 hlf10
 have nL2p1:L2≠p1:=zh eL2 hp10
 have nL1f2:L1≠lf2:=zh (v2 _ _ eL1') hlf20
 have nL1p2:L1≠p2:=zh (v2 _ _ eL1') hp20
 refine⟨_,rfl,p1,ATask,d1,_,.str "a.b",rfl,ei1',clT,nNm,rfl,rfl,_,rfl,iteF ?_⟩
 refine⟨_,rfl,p2,ATask,d2,_,.str "a.c",rfl,ei2,clT,nNm,rfl,rfl,_,rfl,iteF ?_⟩
 refine⟨_,rfl,_,rfl,_,rfl,_,rfl,p2,lf2,le2,L2,_,u,u,rpl,us2,p,fs2,rfl,tk2,ruJ,ruJ,rpJ,okp,lk5,eL2J,fo2J,g4,nL2f2,fun ux2 M1 ed2 t1 fr1=>⟨_,rfl,iteF ?_⟩⟩
 have tkM:Tk ATask M1 p1 lf1 le1 _ .non .non .non u .non [] []:=tk1'.keep fun c o hc e=>fr1 c o (by rcases hc with h|h|h<;>rw[h];exact n1;exact n3;exact n5) (by rcases hc with h|h|h<;>rw[h];exact n2;exact n4;exact n6) e
 refine⟨_,rfl,_,rfl,_,rfl,_,rfl,p1,lf1,le1,L1,_,u,u,rpl,us1,p,fs1,rfl,tkM,ruJ.mono t1.tups,ruJ.mono t1.tups,rpJ.mono t1.tups,okp,lk5,fr1 _ _ nL1p2 nL1f2 eL1J,fo1J.mono t1.tups,g2,nL1f1,fun ux1 M2 ed1 t2 fr2=>⟨_,rfl,iteF ?_⟩⟩
 have edM:=ed2.keep t2 fun c o hc e=>fr2 c o (by rcases hc with h|h<;>rw[h];exact n1.symm;exact n2.symm) (by rcases hc with h|h<;>rw[h];exact n3.symm;exact n4.symm) e
 have t12:=t1.trans t2
 have eL2M:=fr2 _ _ nL2p1 nL2f1 (fr1 _ _ nL2p2 nL2f2 eL2J)
 refine⟨_,rfl,_,rfl,rpl,L2,us2,fs2,p,rfl,rpJ.mono t12.tups,okp,Sl eL2M,fo2J.mono t12.tups,fun ta ln ov M3 s3 hln eta eln hov1 hov2=>?_⟩
 refine⟨ta,_,rfl,Sq eta,rfl,_,_,rfl,_,_,rfl,rfl,?_⟩
 rcases zah (p.pl.go fs2).2 with hn|⟨r,hr⟩
 ·have h1:=zeJ p.pl _ hn
  have h2:=rup.de
  lia
 obtain⟨rov,fdr⟩:=hov2 r hr
 have hle:=zdh p.pl fs2 r hr
 have hgt:=zg3 p.pl fs2 r hr
 have edN:=edM.same s3
 have hul:=fo2J.len
 refine⟨_,rfl,_,rfl,_,rfl,_,rfl,_,rfl,_,_,rfl,.inl ⟨_,Sl eln,rfl⟩,_,rfl,L2,us2,rfl,Sl (s3 _ _ eL2M),fun sq hsq=>?_⟩
 have ecut:cutV us2 none (some ((((p.pl.go fs2).1.map V.str).length:Nat):Int))=us2.take (p.pl.go fs2).1.length:=by
  rw[yB]
  exact zoM (by lia)
 rw[ecut]
 have s4:=Sn (o:=.lst (us2.take (p.pl.go fs2).1.length)) hsq
 have s34:=s3.trans s4
 have foq:Fo (upd M3 sq (.lst (us2.take (p.pl.go fs2).1.length))) (us2.take (p.pl.go fs2).1.length) (fs2.take (p.pl.go fs2).1.length):=(fo2J.mono (t12.trans (Zw s34)).tups).take _
 refine⟨_,rfl,p2,lf2,ln,sq,u,u,ov,ux2,_,p.pl,p.ex,_,r,rfl,edN.same s4,ruJ.mono (t12.trans (Zw s34)).tups,Sl (by rw[hgt];exact s4 _ _ eln),Sl zc,foq,by rw[hgt];exact hr,rov.mono (zi s4),fdr,fun H' _=>q H'⟩
end
end D
namespace PySem.W.Fast
def tw17504312697698038324:=Nat
def tw408485748769867591:=Nat
def tw8905289671362399599:=Nat
def tw5549443875821280547:=Nat
def tw6677781240605710521:=Nat
def tw12505258098102598498:=Nat
def tw6019646788507808365:=Nat
def tw8496499372880937857:=Nat
def tw15484070281621072412:=Nat
def tw14787344896887012363:=Nat
def tw17141694680328885180:=Nat
def tw13313839074164926189:=Nat
def tw16735129671925896086:=Nat
def tw13494933653209563995:=Nat
def tw16907184017552536872:=Nat
def tw15799449704195971255:=Nat
def tw10308100454942020300:=Nat
def tw12817794706581138423:=Nat
def tw16412411465221098129:=Nat
def tw115811960501887359:=Nat
def tw12588626185660144501:=Nat
def tw9613527629609869202:=Nat
def tw10329711358677555471:=Nat
def tw8333618361574644998:=Nat
def tw15480087515077150755:=Nat
def tw6348194593074118925:=Nat
def tw16753009345955675283:=Nat
def tw14046385946394407556:=Nat
def tw6075479445954443247:=Nat
def tw17085784110916013637:=Nat
def tw6157522317807347265:=Nat
def tw17554026685098633382:=Nat
def tw7111310495958954775:=Nat
def tw18092622873968744420:=Nat
def tw16843996241634923826:=Nat
def tw16189258665600500164:=Nat
def tw14465534619738446032:=Nat
def tw8780818380837413243:=Nat
def tw5506743686904093678:=Nat
def tw490165334228669759:=Nat
def tw15960384817466304395:=Nat
def tw12510680520346960684:=Nat
def tw11474887567264636987:=Nat
def tw5745480358878388843:=Nat
def tw10993886428797956144:=Nat
def tw1876035975412868441:=Nat
def tw4839869836291298697:=Nat
def tw13798465701228025454:=Nat
def tw12871085429527480358:=Nat
def tw1781028732208178817:=Nat
def tw15536281454968820460:=Nat
def tw1881377757357984301:=Nat
def tw4283770344557754322:=Nat
def tw6208127291897733078:=Nat
def tw7947118097557378855:=Nat
def tw2902241060788826222:=Nat
def tw6255281650805761242:=Nat
def tw16894290528119675693:=Nat
def tw10242107814793715022:=Nat
def tw14521728416961082499:=Nat
def tw3104757390190073612:=Nat
def tw12165596485395016131:=Nat
def tw4607325684942487046:=Nat
def tw6786174017426862809:=Nat
def tw3742200204026997757:=Nat
def tw18192385600907571431:=Nat
def tw7712948285115054199:=Nat
def tw11849174186985891752:=Nat
def tw10056017759866086715:=Nat
def tw9491612873338431102:=Nat
def tw10950228751506655954:=Nat
def tw18209394853742253061:=Nat
def tw7249947485435338901:=Nat
def tw12977932435567297422:=Nat
def tw17574001144342685440:=Nat
def tw7859387234660462784:=Nat
def tw3518120029904797646:=Nat
def tw2961024817351278997:=Nat
def tw9233394418703785417:=Nat
def tw17462702733502363652:=Nat
def tw11109135670005436002:=Nat
def tw17603465046898040891:=Nat
def tw2112989462117891470:=Nat
def tw8042842690502010041:=Nat
def tw15925552799572527345:=Nat
def tw1085814753863287860:=Nat
def tw5851185396940085921:=Nat
def tw7240424530921839973:=Nat
def tw10772212875820648766:=Nat
def tw16223886886058559560:=Nat
def tw4407255055332273229:=Nat
def tw6628321032891858157:=Nat
def tw9551455288853452711:=Nat
def tw2440894511209344767:=Nat
def tw3341446660699053354:=Nat
def tw17380750977914818404:=Nat
def tw12788587002788956146:=Nat
def tw4033764856489140903:=Nat
def tw4000641388935809572:=Nat
def tw14635079762774073044:=Nat
def tw840265242777333418:=Nat
def tw11684455201690987410:=Nat
def tw14068210676614293937:=Nat
def tw8123421668355490260:=Nat
def tw9947629566839934601:=Nat
def tw4626583537981745323:=Nat
def tw13565357412664868206:=Nat
def tw2607437024417060319:=Nat
def tw13455070481825228645:=Nat
def tw13089126077590037752:=Nat
def tw12979245217319827729:=Nat
def tw12904829140145152509:=Nat
def tw5248454032127930789:=Nat
def tw3867904282186603225:=Nat
def tw6874511328289338096:=Nat
def tw6667060348734631254:=Nat
def tw11352561056069914150:=Nat
def tw17610223730771332119:=Nat
def tw10976041709141431735:=Nat
def tw16968043315514743527:=Nat
def tw16770801797701501492:=Nat
def tw17867057486131103591:=Nat
def tw1261945128930267165:=Nat
def tw14449246591313399617:=Nat
def tw13789203934597546715:=Nat
def tw11603764178049152779:=Nat
def tw13419594144306039573:=Nat
def tw945361024297276972:=Nat
def tw797773935577412852:=Nat
def tw10586283786337962617:=Nat
def tw6830276964013081324:=Nat
def tw16789153976931906927:=Nat
def tw8468523811467092874:=Nat
def tw3708339113344017064:=Nat
def tw5000923397122489946:=Nat
def tw2387698417548340326:=Nat
def tw9835983365204384128:=Nat
def tw8510380900228177948:=Nat
def tw11732248267391851543:=Nat
def tw1834681919144803451:=Nat
def tw1235222366536355327:=Nat
def tw1457027802648546810:=Nat
def tw11655755270453395815:=Nat
def tw7056336286523306431:=Nat
def tw13720338977388506366:=Nat
def tw17735476305886368971:=Nat
def tw9551554613992871149:=Nat
def tw10476687486812501227:=Nat
def tw10436027396779748460:=Nat
def tw1295099219211371699:=Nat
def tw15613381878086938393:=Nat
def tw14808176996341081023:=Nat
def tw8285857840213492069:=Nat
def tw1736056510717042666:=Nat
def tw7261458510563833754:=Nat
def tw11810675723546563114:=Nat
def tw13621529461404814962:=Nat
def tw18219041601721061269:=Nat
def tw18311768841743185070:=Nat
def tw16782737784585364566:=Nat
def tw8863628744273123404:=Nat
def tw8683543969992921135:=Nat
def tw8681026874622651612:=Nat
def tw5405640386003257410:=Nat
def tw15325867447579659720:=Nat
def tw15029081913320365578:=Nat
def tw5892372543296914703:=Nat
def tw4848036818474814124:=Nat
def tw260611620991291189:=Nat
def tw9822599548872689505:=Nat
def tw12467614311294436471:=Nat
def tw15688296105211593092:=Nat
def tw8428746944905338851:=Nat
def tw5339052813804656132:=Nat
def tw6039154056573264479:=Nat
def tw12984698862226009287:=Nat
def tw6146444910132213079:=Nat
def tw8575752278234755490:=Nat
def tw4192096677044534624:=Nat
def tw6749000871387580841:=Nat
def tw12297495658419181591:=Nat
def tw6983992107310757917:=Nat
def tw13986141183414542202:=Nat
def tw272185910421051967:=Nat
def tw13080110335050357289:=Nat
def tw12275342383256709233:=Nat
def tw10824169490492065143:=Nat
def tw8914002872514814406:=Nat
def tw7278891411459651538:=Nat
def tw14789334221752733312:=Nat
def tw8948077107005842732:=Nat
def tw15496593026994553707:=Nat
def tw16402905509518747130:=Nat
def tw11727202916751478645:=Nat
def tw8031419052726703223:=Nat
def tw10925379909700815781:=Nat
def tw7535093473878209988:=Nat
def tw3598576549315089758:=Nat
def tw7848960630927448320:=Nat
def tw4508273840596123354:=Nat
def tw7910656573537339291:=Nat
def tw14928579323837661020:=Nat
def tw6346752427463338330:=Nat
def tw1799411773518426453:=Nat
def tw10989915277254488946:=Nat
def tw11582837328132668440:=Nat
def tw946039021578041022:=Nat
def tw12504087668314543774:=Nat
def tw7298759588725180963:=Nat
def tw2808835465434918121:=Nat
def tw9339326366612919715:=Nat
def tw7179954603258174320:=Nat
def tw1005106983754892913:=Nat
def tw3747218089884581872:=Nat
def tw1169202516680315265:=Nat
def tw17686625422572607698:=Nat
def tw957904065935979614:=Nat
def tw3431741237963935352:=Nat
def tw15528207708245505758:=Nat
def tw9703215251637028320:=Nat
def tw13992841984379250609:=Nat
def tw10226271322821572389:=Nat
def tw13689837961118853531:=Nat
def tw1431807171855410682:=Nat
def tw9558839649891586846:=Nat
def tw4150703575573260433:=Nat
def tw18440485695112776081:=Nat
def tw3758450685297016836:=Nat
def tw573309656554826971:=Nat
def tw13773702446628667615:=Nat
def tw6861061306556814133:=Nat
def tw13533532535642638715:=Nat
def tw5015910288490552086:=Nat
def tw7110683852015407206:=Nat
def tw11309863392518157678:=Nat
def tw12590030825273848786:=Nat
def tw15066002809845386841:=Nat
def tw14414770040265745113:=Nat
def tw2888935649990006269:=Nat
def tw17174677972567957531:=Nat
def tw4904509736285624784:=Nat
def tw12147976630301847653:=Nat
def tw5193473280233766266:=Nat
def tw7534914155187739228:=Nat
def tw10024046290951195570:=Nat
def tw1883276525734410352:=Nat
def tw2103360103765713272:=Nat
def tw9805594396792412535:=Nat
def tw8421446417266194215:=Nat
def tw12928781343924968870:=Nat
def tw18411639108283072383:=Nat
def tw727914021988824556:=Nat
def tw11685032986567813133:=Nat
def tw17596338448573673232:=Nat
def tw14743439208571006261:=Nat
def tw2066718408452258977:=Nat
def tw8026627178271992113:=Nat
def tw10206505033422822083:=Nat
def tw4591526556736106546:=Nat
def tw2062673145114456595:=Nat
end PySem.W.Fast
namespace D
open PySem L2
theorem zb5{P:Program}{w:World}{K:uZ}{mg:Str->Option Value}{base:Heap}{f:Addr}{fd:tD}{ps:List Str}{sp:Sp}(no:∀vs H Q E,¬sp vs H Q E)(k:Nat):FnOk P w K mg base CX0 k f fd ps sp:=
 ⟨fun vs H Q E h=>absurd h (no vs H Q E),fun A outer s H args us vs Q E _ _ _ _ h=>absurd h (no vs H Q E)⟩
theorem zlK(x:Ex):1<=x.high:=by cases x<;>simp only[Ex.high]<;>lia
abbrev nI(K:uZ)(s:Str)(f:Addr):Prop:=nsIn K uP s=some (some (.ref f))
abbrev lI(K:uZ)(f:Addr)(s:Str)(t:Stmt)(oc:Value)(od:Option Addr)(kV dc pm:Value)(an:Option Addr)(cd ct:Value)(sl:Array (Option Value)):Prop:=K.lookup f=some ⟨oc,od,.func (fnOf s s (zR t) (zP t) (zg t) .none kV dc pm an cd ct),sl⟩
abbrev cI(K:uZ)(c:Value)(s:Str):Prop:=codeIn K c s=true
abbrev kI(K:uZ)(f:Addr):Prop:=keepIn K (.ref f)=true
theorem hv(P:Program)(w:World){K:uZ}{mg:Str->Option Value}(base:Heap)(k:Nat){ps:List Str}{sp:Sp}{f:Addr}{fd:tD}{x:Str}(F:FnOk P w K mg base CX0 (k+1) f fd ps sp)(b:Binds K fd ps [])(c:keepIn K (.ref f)=true)(m:mg x=some (.ref f)):Have P w K mg base x (k+1) ps sp:=⟨_,_,F,b,c,m⟩
theorem hvF(P:Program)(w:World){K:uZ}{mg:Str->Option Value}(base:Heap)(k:Nat){ps:List Str}{sp:Sp}{f:Addr}{fd:tD}(F:FnOk P w K mg base CX0 (k+1) f fd ps sp)(b:Binds K fd ps [])(c:keepIn K (.ref f)=true):Zm P w K mg base f (k+1) ps sp:=⟨_,F,b,c⟩
abbrev gI(K:uZ)(f:Addr)(s:Str)(t:Stmt):Prop:=∃fd,Fun K s s t f fd
theorem zoB{l:PySem.W.OpenLaw}{w:World}{K:uZ}{h:Heap}{mg:Str->Option Value}{fa f0 f1 f2 f3 f4 f5 f6 f7 f8 f9 f10 f11 f12 f13 f14 f15 f16 f17 f18 f19 f20 f21 f22 f23 f24 f25 f26 f27 f28 f29 f30 f31 f32 f33 f34 f35 f36 f37 f38 f39 f40 f41 f42 f43 f44 f45 f46 f47 f48 f49 f50 f51 f52 f53 f54 f55 f56 f57 f58 f59 f60 f61 f62 f63 f64 f65 f66 f67 f68 f69 f70 f71 f72 f73 f74 f75 f76 f77 f78 f79 f80 f81 f82 f83 f84:Addr}(X:K.In h)(G:h.Ns uP mg)(hfa:mg "law"=some (.ref fa))
  {od34 an34 od35 an35 od64 an64 od65 an65 od66 an66 od67 an67 od68 an68 od69 an69 od70 an70 od84 an84:Option Addr}{sl34 sl35 sl64 sl65 sl66 sl67 sl68 sl69 sl70 sl84:Array (Option Value)}{oc34 kV34 dc34 pm34 cd34 ct34 oc35 kV35 dc35 pm35 cd35 ct35 oc64 kV64 dc64 pm64 cd64 ct64 oc65 kV65 dc65 pm65 cd65 ct65 oc66 kV66 dc66 pm66 cd66 ct66 oc67 kV67 dc67 pm67 cd67 ct67 oc68 kV68 dc68 pm68 cd68 ct68 oc69 kV69 dc69 pm69 cd69 ct69 oc70 kV70 dc70 pm70 cd70 ct70 oc84 kV84 dc84 pm84 cd84 ct84:Value}
  {ARun:Addr} (aC_Run:nsIn K uP "Run"=some (some (.ref ARun))) (pg_Run:plainGet K ARun Str.empty=true) (hd_Run:hasDictIn K ARun=true) (po_Run:plainOver K ARun=true) (sa_Run:findIn K (.ref ARun) "__setattr__"=some (some (.builtin "object.__setattr__"))) (mk_Run:makesIn K ARun=true) (kc_Run:keepIn K (.ref ARun)=true) (nf_Run_founds:findIn K (.ref ARun) "founds"=some none) (nf_Run_names:findIn K (.ref ARun) "names"=some none)
  {ATask:Addr} (aC_Task:nsIn K uP "Task"=some (some (.ref ATask))) (pg_Task:plainGet K ATask Str.empty=true) (hd_Task:hasDictIn K ATask=true) (po_Task:plainOver K ATask=true) (sa_Task:findIn K (.ref ATask) "__setattr__"=some (some (.builtin "object.__setattr__"))) (mk_Task:makesIn K ATask=true) (kc_Task:keepIn K (.ref ATask)=true) (nf_Task_name:findIn K (.ref ATask) "name"=some none) (nf_Task_needs:findIn K (.ref ATask) "needs"=some none) (nf_Task_founds:findIn K (.ref ATask) "founds"=some none) (nf_Task_paper:findIn K (.ref ATask) "paper"=some none) (nf_Task_how:findIn K (.ref ATask) "how"=some none) (nf_Task_rule:findIn K (.ref ATask) "rule"=some none) (nf_Task_kept:findIn K (.ref ATask) "kept"=some none) (nf_Task_ends:findIn K (.ref ATask) "ends"=some none)
  (a0:nI K "is_number" f0) (l0:gI K f0 "is_number" zbh)
  (a1:nI K "is_sign" f1) (l1:gI K f1 "is_sign" zcK)
  (a2:nI K "fits_alone" f2) (l2:gI K f2 "fits_alone" zaP)
  (a3:nI K "size_alone" f3) (l3:gI K f3 "size_alone" zje)
  (a4:nI K "is_worth" f4) (l4:gI K f4 "is_worth" zbR)
  (a5:nI K "same" f5) (l5:gI K f5 "same" zjf)
  (a6:nI K "fits_word" f6) (l6:gI K f6 "fits_word" zbi)
  (a7:nI K "is_outcome" f7) (l7:gI K f7 "is_outcome" zaQ)
  (a8:nI K "made" f8) (l8:gI K f8 "made" zjg)
  (a9:nI K "truth" f9) (l9:gI K f9 "truth" zgc)
  (a10:nI K "summed" f10) (l10:gI K f10 "summed" zea)
  (a11:nI K "differing" f11) (l11:gI K f11 "differing" zbj)
  (a12:nI K "multiplied" f12) (l12:gI K f12 "multiplied" zaR)
  (a13:nI K "divided" f13) (l13:gI K f13 "divided" zcL)
  (a14:nI K "lessened" f14) (l14:gI K f14 "lessened" zbS)
  (a15:nI K "figured" f15) (l15:gI K f15 "figured" zcM)
  (a16:nI K "compared" f16) (l16:gI K f16 "compared" zbT)
  (a17:nI K "joined" f17) (l17:gI K f17 "joined" zeb)
  (a18:nI K "listed" f18) (l18:gI K f18 "listed" zec)
  (a19:nI K "item_at" f19) (l19:gI K f19 "item_at" zcN)
  (a20:nI K "counted" f20) (l20:gI K f20 "counted" zcO)
  (a21:nI K "reckoned" f21) (l21:gI K f21 "reckoned" zbU)
  (a22:nI K "is_variable" f22) (l22:gI K f22 "is_variable" zaF)
  (a23:nI K "has_parts" f23) (l23:gI K f23 "has_parts" zbk)
  (a24:nI K "binding_count" f24) (l24:gI K f24 "binding_count" zac)
  (a25:nI K "variables_of" f25) (l25:gI K f25 "variables_of" zar)
  (a26:nI K "parts_of" f26) (l26:gI K f26 "parts_of" zbV)
  (a27:nI K "are_good_variables" f27) (l27:gI K f27 "are_good_variables" Zt)
  (a28:nI K "has_form" f28) (l28:gI K f28 "has_form" zbW)
  (a29:nI K "is_formed" f29) (l29:gI K f29 "is_formed" zbl)
  (a30:nI K "unbound" f30) (l30:gI K f30 "unbound" zcP)
  (a31:nI K "free_in" f31) (l31:gI K f31 "free_in" zcQ)
  (a32:nI K "repeated" f32) (l32:gI K f32 "repeated" zbX)
  (a33:nI K "is_rule" f33) (l33:gI K f33 "is_rule" zcR)
  (a34:findIn K (.ref ARun) "__init__"=some (some (.ref f34))) (q34:isFn K (.ref f34)=true) (l34:K.lookup f34=some ⟨oc34,od34,.func (fnOf "__init__" "Run.__init__" (zR Zg) (zP Zg) (zg Zg) .none kV34 dc34 pm34 an34 cd34 ct34),sl34⟩) (c34:codeIn K cd34 "Run.__init__"=true) (k34:keepIn K (.ref f34)=true)
  (a35:findIn K (.ref ARun) "look"=some (some (.ref f35))) (q35:isFn K (.ref f35)=true) (l35:K.lookup f35=some ⟨oc35,od35,.func (fnOf "look" "Run.look" (zR Z6) (zP Z6) (zg Z6) .none kV35 dc35 pm35 an35 cd35 ct35),sl35⟩) (c35:codeIn K cd35 "Run.look"=true) (k35:keepIn K (.ref f35)=true)
  (a36:nI K "is_made" f36) (l36:gI K f36 "is_made" zcS)
  (a37:nI K "worth_of" f37) (l37:gI K f37 "worth_of" zbY)
  (a38:nI K "as_last" f38) (l38:gI K f38 "as_last" zcT)
  (a39:nI K "binding" f39) (l39:gI K f39 "binding" zcU)
  (a40:nI K "go_lit" f40) (l40:gI K f40 "go_lit" zed)
  (a41:nI K "go_var" f41) (l41:gI K f41 "go_var" zee)
  (a42:nI K "go_let" f42) (l42:gI K f42 "go_let" zef)
  (a43:nI K "go_if" f43) (l43:gI K f43 "go_if" zgd)
  (a44:nI K "go_each" f44) (l44:gI K f44 "go_each" zjh)
  (a45:nI K "go_over" f45) (l45:gI K f45 "go_over" zji)
  (a46:nI K "go_look" f46) (l46:gI K f46 "go_look" zcV)
  (a47:nI K "go_else" f47) (l47:gI K f47 "go_else" zcW)
  (a48:nI K "go_cry" f48) (l48:gI K f48 "go_cry" zeg)
  (a49:nI K "go_through" f49) (l49:gI K f49 "go_through" zaS)
  (a50:nI K "go_reckoned" f50) (l50:gI K f50 "go_reckoned" zaG)
  (a51:nI K "record_of" f51) (l51:gI K f51 "record_of" zbm)
  (a52:nI K "gone" f52) (l52:gI K f52 "gone" zjj)
  (a53:nI K "just_so" f53) (l53:gI K f53 "just_so" zcX)
  (a54:nI K "founds_of" f54) (l54:gI K f54 "founds_of" zbn)
  (a55:nI K "names_of" f55) (l55:gI K f55 "names_of" zbZ)
  (a56:nI K "paper_of_run" f56) (l56:gI K f56 "paper_of_run" zas)
  (a57:nI K "is_look" f57) (l57:gI K f57 "is_look" zcY)
  (a58:nI K "are_looks" f58) (l58:gI K f58 "are_looks" zbo)
  (a59:nI K "may_be_run" f59) (l59:gI K f59 "may_be_run" zaT)
  (a60:nI K "is_right" f60) (l60:gI K f60 "is_right" zb0)
  (a61:nI K "first_otherwise" f61) (l61:gI K f61 "first_otherwise" ZM)
  (a62:nI K "matched_beginning" f62) (l62:gI K f62 "matched_beginning" ZA)
  (a63:nI K "found_at" f63) (l63:gI K f63 "found_at" zb1)
  (a64:findIn K (.ref ATask) "__init__"=some (some (.ref f64))) (q64:isFn K (.ref f64)=true) (l64:K.lookup f64=some ⟨oc64,od64,.func (fnOf "__init__" "Task.__init__" (zR Za) (zP Za) (zg Za) .none kV64 dc64 pm64 an64 cd64 ct64),sl64⟩) (c64:codeIn K cd64 "Task.__init__"=true) (k64:keepIn K (.ref f64)=true)
  (a65:findIn K (.ref ATask) "has_kept_rule"=some (some (.ref f65))) (q65:isFn K (.ref f65)=true) (l65:K.lookup f65=some ⟨oc65,od65,.func (fnOf "has_kept_rule" "Task.has_kept_rule" (zR zO) (zP zO) (zg zO) .none kV65 dc65 pm65 an65 cd65 ct65),sl65⟩) (c65:codeIn K cd65 "Task.has_kept_rule"=true) (k65:keepIn K (.ref f65)=true)
  {T66:Addr}{td66:Option Addr}{tn66:Nat}{ts66:Array (Option Value)}
  (a66:findIn K (.ref ATask) "step"=some (some (.ref f66))) (q66:isFn K (.ref f66)=true) (l66:K.lookup f66=some ⟨oc66,od66,.func (fnOf "step" "Task.step" (zR ZN) (zP ZN) (zg ZN) (.ref T66) kV66 dc66 pm66 an66 cd66 ct66),sl66⟩) (c66:codeIn K cd66 "Task.step"=true) (k66:keepIn K (.ref f66)=true) (dl66:K.lookup T66=some ⟨.type "tuple",td66,.seq #[.none] tn66,ts66⟩)
  (a67:findIn K (.ref ATask) "take"=some (some (.ref f67))) (q67:isFn K (.ref f67)=true) (l67:K.lookup f67=some ⟨oc67,od67,.func (fnOf "take" "Task.take" (zR ZO) (zP ZO) (zg ZO) .none kV67 dc67 pm67 an67 cd67 ct67),sl67⟩) (c67:codeIn K cd67 "Task.take"=true) (k67:keepIn K (.ref f67)=true)
  (a68:findIn K (.ref ATask) "finish"=some (some (.ref f68))) (q68:isFn K (.ref f68)=true) (l68:K.lookup f68=some ⟨oc68,od68,.func (fnOf "finish" "Task.finish" (zR Zr) (zP Zr) (zg Zr) .none kV68 dc68 pm68 an68 cd68 ct68),sl68⟩) (c68:codeIn K cd68 "Task.finish"=true) (k68:keepIn K (.ref f68)=true)
  (a69:findIn K (.ref ATask) "run"=some (some (.ref f69))) (q69:isFn K (.ref f69)=true) (l69:K.lookup f69=some ⟨oc69,od69,.func (fnOf "run" "Task.run" (zR Z7) (zP Z7) (zg Z7) .none kV69 dc69 pm69 an69 cd69 ct69),sl69⟩) (c69:codeIn K cd69 "Task.run"=true) (k69:keepIn K (.ref f69)=true)
  (a70:findIn K (.ref ATask) "why"=some (some (.ref f70))) (q70:isFn K (.ref f70)=true) (l70:K.lookup f70=some ⟨oc70,od70,.func (fnOf "why" "Task.why" (zR Z8) (zP Z8) (zg Z8) .none kV70 dc70 pm70 an70 cd70 ct70),sl70⟩) (c70:codeIn K cd70 "Task.why"=true) (k70:keepIn K (.ref f70)=true)
  (a71:nI K "_law_cell" f71) (l71:gI K f71 "_law_cell" zmO)
  (a72:nI K "_law_box" f72) (l72:gI K f72 "_law_box" sBox)
  (a73:nI K "_law_take" f73) (l73:gI K f73 "_law_take" zmP)
  (a74:nI K "_law_text" f74) (l74:gI K f74 "_law_text" zmQ)
  (a75:nI K "_law_number" f75) (l75:gI K f75 "_law_number" zge)
  (a76:nI K "_law_worth" f76) (l76:gI K f76 "_law_worth" zjk)
  (a77:nI K "_law_found" f77) (l77:gI K f77 "_law_found" zeh)
  (a78:nI K "_law_plan" f78) (l78:gI K f78 "_law_plan" zgf)
  (a79:nI K "_law_rule_of" f79) (l79:gI K f79 "_law_rule_of" zb2)
  (a80:nI K "_law_gone" f80) (l80:gI K f80 "_law_gone" zgg)
  (a81:nI K "_law_is" f81) (l81:gI K f81 "_law_is" zmR)
  (a82:nI K "_law_ended" f82) (l82:gI K f82 "_law_ended" zei)
  (a83:nI K "_law_steps" f83) (l83:gI K f83 "_law_steps" zej)
  (a84:nI K "law" f84) (l84:lI K f84 "law" sLaw oc84 od84 kV84 dc84 pm84 an84 cd84 ct84 sl84) (c84:cI K cd84 "law") (k84:kI K f84)
  (z0:nsIn K uP "isinstance"=some none)
  (z1:nsIn K uP "int"=some none)
  (z2:nsIn K uP "bool"=some none)
  (z3:nsIn K uP "ord"=some none)
  (z4:nsIn K uP "str"=some none)
  (z5:nsIn K uP "tuple"=some none)
  (z6:nsIn K uP "len"=some none)
  (z7:nsIn K uP "all"=some none)
  (z8:nsIn K uP "abs"=some none)
  (z9:nsIn K uP "list"=some none)
  (z10:nsIn K uP "enumerate"=some none)
  (z11:nsIn K uP "set"=some none)
  (z12:nsIn K uP "sorted"=some none)
  (z13:nsIn K uP "max"=some none)
  (z14:nsIn K uP "dict"=some none)
  (z15:nsIn K uP "repr"=some none)
  (z16:nsIn K uP "zip"=some none)
  (z17:nsIn K uP "range"=some none)
  (z18:nsIn K uP "min"=some none)
  {t0:Tok} (i0:nsIn K uP "PERCENT"=some (some (.int 37 t0)))
  {t1:Tok} (i1:nsIn K uP "MOST_SIGNS"=some (some (.int 400 t1)))
  {t2:Tok} (i2:nsIn K uP "MOST_ITEMS"=some (some (.int 60 t2)))
  {t3:Tok} (i3:nsIn K uP "MOST_DEPTH"=some (some (.int 12 t3)))
  {t4:Tok} (i4:nsIn K uP "MOST_SIZE"=some (some (.int 1000 t4)))
  {t5:Tok} (i5:nsIn K uP "MOST_LETTERS"=some (some (.int 8 t5)))
  {t6:Tok} (i6:nsIn K uP "MOST_LISTED"=some (some (.int 8 t6)))
  {t7:Tok} (i7:nsIn K uP "MOST_MANY"=some (some (.int 60 t7)))
  {t8:Tok} (i8:nsIn K uP "MOST_NESTING"=some (some (.int 12 t8)))
  {t9:Tok} (i9:nsIn K uP "MOST_REPEATED"=some (some (.int 2 t9)))
  {v0:Tok} (s0:nsIn K uP "LETTERS"=some (some (.str "abcdefghijklmnopqrstuvwxyz" v0)))
  {g0:Addr}{gd0:Option Addr}{gn0:Nat}{gs0:Array (Option Value)}{u0_0 u0_1 u0_2 u0_3:Tok} (y0:nsIn K uP "BARE_WORDS"=some (some (.ref g0))) (x0:K.lookup g0=some ⟨.type "tuple",gd0,.seq #[.str "kind" u0_0,.str "great" u0_1,.str "nought" u0_2,.str "place" u0_3] gn0,gs0⟩)
  {g1:Addr}{gd1:Option Addr}{gn1:Nat}{gs1:Array (Option Value)}{u1_0 u1_1:Tok} (y1:nsIn K uP "NAMING_WORDS"=some (some (.ref g1))) (x1:K.lookup g1=some ⟨.type "tuple",gd1,.seq #[.str "none" u1_0,.str "shut" u1_1] gn1,gs1⟩)
  {g2:Addr}{gd2:Option Addr}{gn2:Nat}{gs2:Array (Option Value)}{u2_0 u2_1 u2_2:Tok} (y2:nsIn K uP "GREAT"=some (some (.ref g2))) (x2:K.lookup g2=some ⟨.type "tuple",gd2,.seq #[.str "wrong" u2_0,.str "great" u2_1,.str "" u2_2] gn2,gs2⟩)
  {g3:Addr}{gd3:Option Addr}{gn3:Nat}{gs3:Array (Option Value)}{u3_0 u3_1 u3_2:Tok} (y3:nsIn K uP "NOUGHT"=some (some (.ref g3))) (x3:K.lookup g3=some ⟨.type "tuple",gd3,.seq #[.str "wrong" u3_0,.str "nought" u3_1,.str "" u3_2] gn3,gs3⟩)
  {g4:Addr}{gd4:Option Addr}{gn4:Nat}{gs4:Array (Option Value)}{u4_0 u4_1 u4_2:Tok} (y4:nsIn K uP "KIND"=some (some (.ref g4))) (x4:K.lookup g4=some ⟨.type "tuple",gd4,.seq #[.str "wrong" u4_0,.str "kind" u4_1,.str "" u4_2] gn4,gs4⟩)
  {g5:Addr}{gd5:Option Addr}{gn5:Nat}{gs5:Array (Option Value)}{u5_0 u5_1 u5_2:Tok} (y5:nsIn K uP "PLACE"=some (some (.ref g5))) (x5:K.lookup g5=some ⟨.type "tuple",gd5,.seq #[.str "wrong" u5_0,.str "place" u5_1,.str "" u5_2] gn5,gs5⟩)
  {g6:Addr}{gd6:Option Addr}{gn6:Nat}{gs6:Array (Option Value)}{u6_0 u6_1:Tok} (y6:nsIn K uP "REPEATING"=some (some (.ref g6))) (x6:K.lookup g6=some ⟨.type "tuple",gd6,.seq #[.str "each" u6_0,.str "over" u6_1] gn6,gs6⟩)
  {dg0:Addr}{dn0:Nat}{du0_0 du0_1 du0_2 du0_3 du0_4 du0_5:Tok} (dy0:nsIn K uP "NUMBER_DEEDS"=some (some (.ref dg0))) (dx0:K.lookup dg0=some ⟨.type "dict",none,.dict #[⟨hashStr w "+",.str "+" du0_0,.ref f10⟩,⟨hashStr w "-",.str "-" du0_1,.ref f11⟩,⟨hashStr w "*",.str "*" du0_2,.ref f12⟩,⟨hashStr w "/",.str "/" du0_3,.ref f13⟩,⟨hashStr w "less",.str "less" du0_4,.ref f14⟩,⟨hashStr w "figures",.str "figures" du0_5,.ref f15⟩] dn0,#[]⟩) (dz0:(dg0==sysModules)=false)
  {dg1:Addr}{dn1:Nat}{du1_0 du1_1 du1_2 du1_3 du1_4:Tok} (dy1:nsIn K uP "OTHER_DEEDS"=some (some (.ref dg1))) (dx1:K.lookup dg1=some ⟨.type "dict",none,.dict #[⟨hashStr w "same",.str "same" du1_0,.ref f16⟩,⟨hashStr w "join",.str "join" du1_1,.ref f17⟩,⟨hashStr w "list",.str "list" du1_2,.ref f18⟩,⟨hashStr w "item",.str "item" du1_3,.ref f19⟩,⟨hashStr w "count",.str "count" du1_4,.ref f20⟩] dn1,#[]⟩) (dz1:(dg1==sysModules)=false)
  {dg2:Addr}{dn2:Nat}{du2_0 dv2_0 du2_1 dv2_1 du2_2 dv2_2:Tok} (dy2:nsIn K uP "BINDING"=some (some (.ref dg2))) (dx2:K.lookup dg2=some ⟨.type "dict",none,.dict #[⟨hashStr w "let",.str "let" du2_0,.int 1 dv2_0⟩,⟨hashStr w "each",.str "each" du2_1,.int 1 dv2_1⟩,⟨hashStr w "over",.str "over" du2_2,.int 2 dv2_2⟩] dn2,#[]⟩) (dz2:(dg2==sysModules)=false)
  {dg3:Addr}{dn3:Nat}{du3_0 dv3_0 du3_1 dv3_1 du3_2 dv3_2 du3_3 dv3_3 du3_4 dv3_4 du3_5 dv3_5 du3_6 dv3_6 du3_7 dv3_7 du3_8 dv3_8 du3_9 dv3_9 du3_10 dv3_10 du3_11 dv3_11 du3_12 dv3_12 du3_13 dv3_13 du3_14 dv3_14 du3_15 dv3_15 du3_16 dv3_16:Tok} (dy3:nsIn K uP "PARTS"=some (some (.ref dg3))) (dx3:K.lookup dg3=some ⟨.type "dict",none,.dict #[⟨hashStr w "let",.str "let" du3_0,.int 2 dv3_0⟩,⟨hashStr w "if",.str "if" du3_1,.int 3 dv3_1⟩,⟨hashStr w "+",.str "+" du3_2,.int 2 dv3_2⟩,⟨hashStr w "-",.str "-" du3_3,.int 2 dv3_3⟩,⟨hashStr w "*",.str "*" du3_4,.int 2 dv3_4⟩,⟨hashStr w "/",.str "/" du3_5,.int 2 dv3_5⟩,⟨hashStr w "same",.str "same" du3_6,.int 2 dv3_6⟩,⟨hashStr w "less",.str "less" du3_7,.int 2 dv3_7⟩,⟨hashStr w "join",.str "join" du3_8,.int 2 dv3_8⟩,⟨hashStr w "item",.str "item" du3_9,.int 2 dv3_9⟩,⟨hashStr w "count",.str "count" du3_10,.int 1 dv3_10⟩,⟨hashStr w "figures",.str "figures" du3_11,.int 1 dv3_11⟩,⟨hashStr w "each",.str "each" du3_12,.int 2 dv3_12⟩,⟨hashStr w "over",.str "over" du3_13,.int 3 dv3_13⟩,⟨hashStr w "look",.str "look" du3_14,.int 1 dv3_14⟩,⟨hashStr w "else",.str "else" du3_15,.int 2 dv3_15⟩,⟨hashStr w "cry",.str "cry" du3_16,.int 1 dv3_16⟩] dn3,#[]⟩) (dz3:(dg3==sysModules)=false)
  {dg4:Addr}{dn4:Nat}{du4_0 du4_1 du4_2 du4_3 du4_4 du4_5 du4_6 du4_7 du4_8:Tok} (dy4:nsIn K uP "GOING"=some (some (.ref dg4))) (dx4:K.lookup dg4=some ⟨.type "dict",none,.dict #[⟨hashStr w "lit",.str "lit" du4_0,.ref f40⟩,⟨hashStr w "var",.str "var" du4_1,.ref f41⟩,⟨hashStr w "let",.str "let" du4_2,.ref f42⟩,⟨hashStr w "if",.str "if" du4_3,.ref f43⟩,⟨hashStr w "each",.str "each" du4_4,.ref f44⟩,⟨hashStr w "over",.str "over" du4_5,.ref f45⟩,⟨hashStr w "look",.str "look" du4_6,.ref f46⟩,⟨hashStr w "else",.str "else" du4_7,.ref f47⟩,⟨hashStr w "cry",.str "cry" du4_8,.ref f48⟩] dn4,#[]⟩) (dz4:(dg4==sysModules)=false)
  : ∃fd:tD,(∀(s:Shared)(v:Value),BindsTo s fd ⟨[v],[]⟩ [("_law_script",v)])/\∀base:Heap,K.In base->base.Ns uP mg->FnOk l.prog w K mg base CX0 200 fa fd ["_law_script"] (zlJ K):=by
 have e:=hfa.symm.trans (mg_of X G a84)
 cases e
 obtain⟨_,F0⟩:=l0
 obtain⟨_,F1⟩:=l1
 obtain⟨_,F2⟩:=l2
 obtain⟨_,F3⟩:=l3
 obtain⟨_,F4⟩:=l4
 obtain⟨_,F5⟩:=l5
 obtain⟨_,F6⟩:=l6
 obtain⟨_,F7⟩:=l7
 obtain⟨_,F8⟩:=l8
 have b8:=F8.binds (ps:=["thing"]) fun _ _ _ _ _ _ us hl=>by obtain⟨_,rfl⟩:=us_1 hl;rfl
 have n8:=mg_of X G a8
 obtain⟨_,F9⟩:=l9
 obtain⟨_,F10⟩:=l10
 obtain⟨_,F11⟩:=l11
 obtain⟨_,F12⟩:=l12
 obtain⟨_,F13⟩:=l13
 obtain⟨_,F14⟩:=l14
 obtain⟨_,F15⟩:=l15
 obtain⟨_,F16⟩:=l16
 obtain⟨_,F17⟩:=l17
 obtain⟨_,F18⟩:=l18
 obtain⟨_,F19⟩:=l19
 obtain⟨_,F20⟩:=l20
 obtain⟨_,F21⟩:=l21
 obtain⟨_,F22⟩:=l22
 obtain⟨_,F23⟩:=l23
 obtain⟨_,F24⟩:=l24
 obtain⟨_,F25⟩:=l25
 obtain⟨_,F26⟩:=l26
 obtain⟨_,F27⟩:=l27
 obtain⟨_,F28⟩:=l28
 obtain⟨_,F29⟩:=l29
 obtain⟨_,F30⟩:=l30
 have b30:=F30.binds (ps:=["expression","bound"]) fun _ _ _ _ _ _ us hl=>by obtain⟨_,_,rfl⟩:=us_2 hl;rfl
 have n30:=mg_of X G a30
 obtain⟨_,F31⟩:=l31
 obtain⟨_,F32⟩:=l32
 have b32:=F32.binds (ps:=["expression"]) fun _ _ _ _ _ _ us hl=>by obtain⟨_,rfl⟩:=us_1 hl;rfl
 have n32:=mg_of X G a32
 obtain⟨_,F33⟩:=l33
 have F34:=zba (st:=Zg) l34 c34 k34
 have b34:=F34.binds (ps:=["self","founds"]) fun _ _ _ _ _ _ us hl=>by obtain⟨_,_,rfl⟩:=us_2 hl;rfl
 have F35:=zba (st:=Z6) l35 c35 k35
 have b35:=F35.binds (ps:=["self","name"]) fun _ _ _ _ _ _ us hl=>by obtain⟨_,_,rfl⟩:=us_2 hl;rfl
 obtain⟨_,F36⟩:=l36
 obtain⟨_,F37⟩:=l37
 obtain⟨_,F38⟩:=l38
 obtain⟨_,F39⟩:=l39
 obtain⟨_,F40⟩:=l40
 have b40:=F40.binds (ps:=["run","expression","bound"]) fun _ _ _ _ _ _ us hl=>by obtain⟨_,_,_,rfl⟩:=us_3 hl;rfl
 have n40:=mg_of X G a40
 obtain⟨_,F41⟩:=l41
 have b41:=F41.binds (ps:=["run","expression","bound"]) fun _ _ _ _ _ _ us hl=>by obtain⟨_,_,_,rfl⟩:=us_3 hl;rfl
 have n41:=mg_of X G a41
 obtain⟨_,F42⟩:=l42
 have b42:=F42.binds (ps:=["run","expression","bound"]) fun _ _ _ _ _ _ us hl=>by obtain⟨_,_,_,rfl⟩:=us_3 hl;rfl
 have n42:=mg_of X G a42
 obtain⟨_,F43⟩:=l43
 have b43:=F43.binds (ps:=["run","expression","bound"]) fun _ _ _ _ _ _ us hl=>by obtain⟨_,_,_,rfl⟩:=us_3 hl;rfl
 have n43:=mg_of X G a43
 obtain⟨_,F44⟩:=l44
 have b44:=F44.binds (ps:=["run","expression","bound"]) fun _ _ _ _ _ _ us hl=>by obtain⟨_,_,_,rfl⟩:=us_3 hl;rfl
 have n44:=mg_of X G a44
 obtain⟨_,F45⟩:=l45
 have b45:=F45.binds (ps:=["run","expression","bound"]) fun _ _ _ _ _ _ us hl=>by obtain⟨_,_,_,rfl⟩:=us_3 hl;rfl
 have n45:=mg_of X G a45
 obtain⟨_,F46⟩:=l46
 have b46:=F46.binds (ps:=["run","expression","bound"]) fun _ _ _ _ _ _ us hl=>by obtain⟨_,_,_,rfl⟩:=us_3 hl;rfl
 have n46:=mg_of X G a46
 obtain⟨_,F47⟩:=l47
 have b47:=F47.binds (ps:=["run","expression","bound"]) fun _ _ _ _ _ _ us hl=>by obtain⟨_,_,_,rfl⟩:=us_3 hl;rfl
 have n47:=mg_of X G a47
 obtain⟨_,F48⟩:=l48
 have b48:=F48.binds (ps:=["run","expression","bound"]) fun _ _ _ _ _ _ us hl=>by obtain⟨_,_,_,rfl⟩:=us_3 hl;rfl
 have n48:=mg_of X G a48
 obtain⟨_,F49⟩:=l49
 have b49:=F49.binds (ps:=["run","expressions","bound"]) fun _ _ _ _ _ _ us hl=>by obtain⟨_,_,_,rfl⟩:=us_3 hl;rfl
 have n49:=mg_of X G a49
 obtain⟨_,F50⟩:=l50
 have b50:=F50.binds (ps:=["run","expression","bound"]) fun _ _ _ _ _ _ us hl=>by obtain⟨_,_,_,rfl⟩:=us_3 hl;rfl
 have n50:=mg_of X G a50
 obtain⟨_,F51⟩:=l51
 have b51:=F51.binds (ps:=["run","expression","bound"]) fun _ _ _ _ _ _ us hl=>by obtain⟨_,_,_,rfl⟩:=us_3 hl;rfl
 have n51:=mg_of X G a51
 obtain⟨_,F52⟩:=l52
 obtain⟨_,F53⟩:=l53
 obtain⟨_,F54⟩:=l54
 obtain⟨_,F55⟩:=l55
 obtain⟨_,F56⟩:=l56
 obtain⟨_,F57⟩:=l57
 obtain⟨_,F58⟩:=l58
 obtain⟨_,F59⟩:=l59
 obtain⟨_,F60⟩:=l60
 obtain⟨_,F61⟩:=l61
 obtain⟨_,F62⟩:=l62
 obtain⟨_,F63⟩:=l63
 have F64:=zba (st:=Za) l64 c64 k64
 have b64:=F64.binds (ps:=["self","name","rule","kept","rows"]) fun _ _ _ _ _ _ us hl=>by obtain⟨_,_,_,_,_,rfl⟩:=us_5 hl;rfl
 have F65:=zba (st:=zO) l65 c65 k65
 have b65:=F65.binds (ps:=["self"]) fun _ _ _ _ _ _ us hl=>by obtain⟨_,rfl⟩:=us_1 hl;rfl
 have F66:=zm8 (st:=ZN) l66 c66
 have b66:=F66.binds (ps:=["self","found"]) (ds:=[]) dl66 rfl fun _ _ _ _ _ _ us hl=>by rw[xB] at hl ⊢;obtain⟨_,_,rfl⟩:=us_2 hl;exact⟨_,rfl,rfl⟩
 have bd66:=F66.binds (ps:=["self","found"]) (ds:=[.none]) dl66 rfl fun _ _ _ _ _ _ us hl=>by rw[yE] at hl;obtain⟨_,rfl⟩:=us_1 (Nat.succ.inj hl);exact⟨_,rfl,rfl⟩
 have F67:=zba (st:=ZO) l67 c67 k67
 have b67:=F67.binds (ps:=["self","found"]) fun _ _ _ _ _ _ us hl=>by obtain⟨_,_,rfl⟩:=us_2 hl;rfl
 have F68:=zba (st:=Zr) l68 c68 k68
 have b68:=F68.binds (ps:=["self","how","paper"]) fun _ _ _ _ _ _ us hl=>by obtain⟨_,_,_,rfl⟩:=us_3 hl;rfl
 have F69:=zba (st:=Z7) l69 c69 k69
 have b69:=F69.binds (ps:=["self"]) fun _ _ _ _ _ _ us hl=>by obtain⟨_,rfl⟩:=us_1 hl;rfl
 have F70:=zba (st:=Z8) l70 c70 k70
 have b70:=F70.binds (ps:=["self"]) fun _ _ _ _ _ _ us hl=>by obtain⟨_,rfl⟩:=us_1 hl;rfl
 obtain⟨_,F71⟩:=l71
 obtain⟨_,F72⟩:=l72
 obtain⟨_,F73⟩:=l73
 obtain⟨_,F74⟩:=l74
 obtain⟨_,F75⟩:=l75
 obtain⟨_,F76⟩:=l76
 have b76:=F76.binds (ps:=["_law_box_here","_law_room","_law_deep"]) fun _ _ _ _ _ _ us hl=>by obtain⟨_,_,_,rfl⟩:=us_3 hl;rfl
 have n76:=mg_of X G a76
 obtain⟨_,F77⟩:=l77
 obtain⟨_,F78⟩:=l78
 have b78:=F78.binds (ps:=["_law_box_here","_law_spare","_law_texts"]) fun _ _ _ _ _ _ us hl=>by obtain⟨_,_,_,rfl⟩:=us_3 hl;rfl
 have n78:=mg_of X G a78
 obtain⟨_,F79⟩:=l79
 have b79:=F79.binds (ps:=["_law_plan_here"]) fun _ _ _ _ _ _ us hl=>by obtain⟨_,rfl⟩:=us_1 hl;rfl
 have n79:=mg_of X G a79
 obtain⟨_,F80⟩:=l80
 obtain⟨_,F81⟩:=l81
 obtain⟨_,F82⟩:=l82
 obtain⟨_,F83⟩:=l83
 have F84:=zba (st:=sLaw) l84 c84 k84
 have cl_Run:Cls K ARun:=⟨pg_Run,hd_Run,po_Run,sa_Run⟩
 have cl_Task:Cls K ATask:=⟨pg_Task,hd_Task,po_Task,sa_Task⟩
 have m_isinstance:=mg_none_of X G z0
 have m_int:=mg_none_of X G z1
 have m_bool:=mg_none_of X G z2
 have m_ord:=mg_none_of X G z3
 have m_str:=mg_none_of X G z4
 have m_tuple:=mg_none_of X G z5
 have m_len:=mg_none_of X G z6
 have m_all:=mg_none_of X G z7
 have m_abs:=mg_none_of X G z8
 have m_list:=mg_none_of X G z9
 have m_enumerate:=mg_none_of X G z10
 have m_set:=mg_none_of X G z11
 have m_sorted:=mg_none_of X G z12
 have m_max:=mg_none_of X G z13
 have m_dict:=mg_none_of X G z14
 have m_repr:=mg_none_of X G z15
 have m_zip:=mg_none_of X G z16
 have m_range:=mg_none_of X G z17
 have m_min:=mg_none_of X G z18
 have m_PERCENT:∃t,mg "PERCENT"=some (.int 37 t):=⟨t0,mg_of X G i0⟩
 have m_MOST_SIGNS:∃t,mg "MOST_SIGNS"=some (.int 400 t):=⟨t1,mg_of X G i1⟩
 have m_MOST_ITEMS:∃t,mg "MOST_ITEMS"=some (.int 60 t):=⟨t2,mg_of X G i2⟩
 have m_MOST_DEPTH:∃t,mg "MOST_DEPTH"=some (.int 12 t):=⟨t3,mg_of X G i3⟩
 have m_MOST_SIZE:∃t,mg "MOST_SIZE"=some (.int 1000 t):=⟨t4,mg_of X G i4⟩
 have m_MOST_LETTERS:∃t,mg "MOST_LETTERS"=some (.int 8 t):=⟨t5,mg_of X G i5⟩
 have m_MOST_LISTED:∃t,mg "MOST_LISTED"=some (.int 8 t):=⟨t6,mg_of X G i6⟩
 have m_MOST_MANY:∃t,mg "MOST_MANY"=some (.int 60 t):=⟨t7,mg_of X G i7⟩
 have m_MOST_NESTING:∃t,mg "MOST_NESTING"=some (.int 12 t):=⟨t8,mg_of X G i8⟩
 have m_MOST_REPEATED:∃t,mg "MOST_REPEATED"=some (.int 2 t):=⟨t9,mg_of X G i9⟩
 have m_LETTERS:∃t,mg "LETTERS"=some (.str abcL t):=⟨v0,mg_of X G s0⟩
 have m_BARE_WORDS:=mg_of X G y0
 have t_BARE_WORDS:∀H:Hp,SqT K H g0 [.str "kind",.str "great",.str "nought",.str "place"]:=fun H=>.inr ⟨_,_,_,x0,rfl,rfl,zl4,(.cons ⟨_,rfl⟩ (.cons ⟨_,rfl⟩ (.cons ⟨_,rfl⟩ (.cons ⟨_,rfl⟩ .nil))))⟩
 have m_NAMING_WORDS:=mg_of X G y1
 have t_NAMING_WORDS:∀H:Hp,SqT K H g1 [.str "none",.str "shut"]:=fun H=>.inr ⟨_,_,_,x1,rfl,rfl,zl2,(.cons ⟨_,rfl⟩ (.cons ⟨_,rfl⟩ .nil))⟩
 have m_GREAT:=mg_of X G y2
 have t_GREAT:∀H:Hp,SqT K H g2 [.str "wrong",.str "great",.str ""]:=fun H=>.inr ⟨_,_,_,x2,rfl,rfl,zl3,(.cons ⟨_,rfl⟩ (.cons ⟨_,rfl⟩ (.cons ⟨_,rfl⟩ .nil)))⟩
 have m_NOUGHT:=mg_of X G y3
 have t_NOUGHT:∀H:Hp,SqT K H g3 [.str "wrong",.str "nought",.str ""]:=fun H=>.inr ⟨_,_,_,x3,rfl,rfl,zl3,(.cons ⟨_,rfl⟩ (.cons ⟨_,rfl⟩ (.cons ⟨_,rfl⟩ .nil)))⟩
 have m_KIND:=mg_of X G y4
 have t_KIND:∀H:Hp,SqT K H g4 [.str "wrong",.str "kind",.str ""]:=fun H=>.inr ⟨_,_,_,x4,rfl,rfl,zl3,(.cons ⟨_,rfl⟩ (.cons ⟨_,rfl⟩ (.cons ⟨_,rfl⟩ .nil)))⟩
 have m_PLACE:=mg_of X G y5
 have t_PLACE:∀H:Hp,SqT K H g5 [.str "wrong",.str "place",.str ""]:=fun H=>.inr ⟨_,_,_,x5,rfl,rfl,zl3,(.cons ⟨_,rfl⟩ (.cons ⟨_,rfl⟩ (.cons ⟨_,rfl⟩ .nil)))⟩
 have m_REPEATING:=mg_of X G y6
 have t_REPEATING:∀H:Hp,SqT K H g6 [.str "each",.str "over"]:=fun H=>.inr ⟨_,_,_,x6,rfl,rfl,zl2,(.cons ⟨_,rfl⟩ (.cons ⟨_,rfl⟩ .nil))⟩
 have m_NUMBER_DEEDS:=mg_of X G dy0
 have d_NUMBER_DEEDS:MD l.prog w K dg0 (kvsN f10 f11 f12 f13 f14 f15):=zju [("+",du0_0,.ref f10,.ref f10),("-",du0_1,.ref f11,.ref f11),("*",du0_2,.ref f12,.ref f12),("/",du0_3,.ref f13,.ref f13),("less",du0_4,.ref f14,.ref f14),("figures",du0_5,.ref f15,.ref f15)] dx0 dz0 (fun p hp=>by simp only[yQ,wN,or_false] at hp;rcases hp with rfl|rfl|rfl|rfl|rfl|rfl<;>first|exact rfl|exact⟨_,rfl⟩) (by show (["+","-","*","/","less","figures"]:List Str).Nodup;decide +kernel)
 have m_OTHER_DEEDS:=mg_of X G dy1
 have d_OTHER_DEEDS:MD l.prog w K dg1 (kvsO f16 f17 f18 f19 f20):=zju [("same",du1_0,.ref f16,.ref f16),("join",du1_1,.ref f17,.ref f17),("list",du1_2,.ref f18,.ref f18),("item",du1_3,.ref f19,.ref f19),("count",du1_4,.ref f20,.ref f20)] dx1 dz1 (fun p hp=>by simp only[yQ,wN,or_false] at hp;rcases hp with rfl|rfl|rfl|rfl|rfl<;>first|exact rfl|exact⟨_,rfl⟩) (by show (["same","join","list","item","count"]:List Str).Nodup;decide +kernel)
 have m_BINDING:=mg_of X G dy2
 have d_BINDING:MD l.prog w K dg2 (kvsB ):=zju [("let",du2_0,.int 1,.int 1 dv2_0),("each",du2_1,.int 1,.int 1 dv2_1),("over",du2_2,.int 2,.int 2 dv2_2)] dx2 dz2 (fun p hp=>by simp only[yQ,wN,or_false] at hp;rcases hp with rfl|rfl|rfl<;>first|exact rfl|exact⟨_,rfl⟩) (by show (["let","each","over"]:List Str).Nodup;decide +kernel)
 have m_PARTS:=mg_of X G dy3
 have d_PARTS:MD l.prog w K dg3 (kvsP ):=zju [("let",du3_0,.int 2,.int 2 dv3_0),("if",du3_1,.int 3,.int 3 dv3_1),("+",du3_2,.int 2,.int 2 dv3_2),("-",du3_3,.int 2,.int 2 dv3_3),("*",du3_4,.int 2,.int 2 dv3_4),("/",du3_5,.int 2,.int 2 dv3_5),("same",du3_6,.int 2,.int 2 dv3_6),("less",du3_7,.int 2,.int 2 dv3_7),("join",du3_8,.int 2,.int 2 dv3_8),("item",du3_9,.int 2,.int 2 dv3_9),("count",du3_10,.int 1,.int 1 dv3_10),("figures",du3_11,.int 1,.int 1 dv3_11),("each",du3_12,.int 2,.int 2 dv3_12),("over",du3_13,.int 3,.int 3 dv3_13),("look",du3_14,.int 1,.int 1 dv3_14),("else",du3_15,.int 2,.int 2 dv3_15),("cry",du3_16,.int 1,.int 1 dv3_16)] dx3 dz3 (fun p hp=>by simp only[yQ,wN,or_false] at hp;rcases hp with rfl|rfl|rfl|rfl|rfl|rfl|rfl|rfl|rfl|rfl|rfl|rfl|rfl|rfl|rfl|rfl|rfl<;>first|exact rfl|exact⟨_,rfl⟩) (by show (["let","if","+","-","*","/","same","less","join","item","count","figures","each","over","look","else","cry"]:List Str).Nodup;decide +kernel)
 have m_GOING:=mg_of X G dy4
 have d_GOING:MD l.prog w K dg4 (kvsG f40 f41 f42 f43 f44 f45 f46 f47 f48):=zju [("lit",du4_0,.ref f40,.ref f40),("var",du4_1,.ref f41,.ref f41),("let",du4_2,.ref f42,.ref f42),("if",du4_3,.ref f43,.ref f43),("each",du4_4,.ref f44,.ref f44),("over",du4_5,.ref f45,.ref f45),("look",du4_6,.ref f46,.ref f46),("else",du4_7,.ref f47,.ref f47),("cry",du4_8,.ref f48,.ref f48)] dx4 dz4 (fun p hp=>by simp only[yQ,wN,or_false] at hp;rcases hp with rfl|rfl|rfl|rfl|rfl|rfl|rfl|rfl|rfl<;>first|exact rfl|exact⟨_,rfl⟩) (by show (["lit","var","let","if","each","over","look","else","cry"]:List Str).Nodup;decide +kernel)
 refine⟨fnOf "law" "law" (zR sLaw) (zP sLaw) (zg sLaw) .none kV84 dc84 pm84 an84 cd84 ct84,fun s v=>.of_eq rfl,fun base _ _=>?_⟩
 have h_is_number:=hv l.prog w base 0 (zk5 F0 m_isinstance m_int m_bool) (F0.b1 (by intros;rfl)) F0.2 (mg_of X G a0)
 have h_is_sign:=hv l.prog w base 0 (zjp F1 m_ord m_PERCENT) (F1.b1 (by intros;rfl)) F1.2 (mg_of X G a1)
 have h_size_alone:=hv l.prog w base 0 (zk7 F3 m_isinstance m_str m_len) (F3.b1 (by intros;rfl)) F3.2 (mg_of X G a3)
 have h_same:=hv l.prog w base 0 (zne F5 ) (F5.b2 (by intros;rfl)) F5.2 (mg_of X G a5)
 have h_truth:=hv l.prog w base 0 (zlk F9 ) (F9.b1 (by intros;rfl)) F9.2 (mg_of X G a9)
 have h_is_variable:=hv l.prog w base 0 (zdG F22 m_all m_isinstance m_len m_str m_MOST_LETTERS m_LETTERS) (F22.b1 (by intros;rfl)) F22.2 (mg_of X G a22)
 have h_has_parts:=hv l.prog w base 0 (zfC F23 m_PARTS d_PARTS) (F23.b1 (by intros;rfl)) F23.2 (mg_of X G a23)
 have h_binding_count:=hv l.prog w base 0 (zcg F24 m_BINDING d_BINDING) (F24.b1 (by intros;rfl)) F24.2 (mg_of X G a24)
 have h_Run_look:Z2 l.prog w K mg base ARun "look" 1 ["self","name"] (zjX K ARun):=⟨_,_,(zgF F35 m_len cl_Run nf_Run_founds nf_Run_names:FnOk l.prog w K mg base CX0 (0+1) _ _ _ _),b35,⟨a35,q35,k35⟩,cl_Run⟩
 have h_is_made:=hv l.prog w base 0 (zil F36 ) (F36.b1 (by intros;rfl)) F36.2 (mg_of X G a36)
 have h_worth_of:=hv l.prog w base 0 (zgC F37 ) (F37.b1 (by intros;rfl)) F37.2 (mg_of X G a37)
 have h_as_last:=hv l.prog w base 0 (zin F38 m_tuple) (F38.b1 (by intros;rfl)) F38.2 (mg_of X G a38)
 have h_binding:=hv l.prog w base 0 (zio F39 m_dict) (F39.b3 (by intros;rfl)) F39.2 (mg_of X G a39)
 have h_just_so:=hv l.prog w base 0 (ziv F53 m_repr) (F53.b2 (by intros;rfl)) F53.2 (mg_of X G a53)
 have h_founds_of:=hv l.prog w base 0 (zfN F54 ) (F54.b1 (by intros;rfl)) F54.2 (mg_of X G a54)
 have h_names_of:=hv l.prog w base 0 (zg1 F55 ) (F55.b1 (by intros;rfl)) F55.2 (mg_of X G a55)
 have h_paper_of_run:=hv l.prog w base 0 (zdp F56 m_tuple m_zip) (F56.b3 (by intros;rfl)) F56.2 (mg_of X G a56)
 have h_matched_beginning:=hv l.prog w base 0 (za6 F62 m_enumerate m_len) (F62.b2 (by intros;rfl)) F62.2 (mg_of X G a62)
 have h_found_at:=hv l.prog w base 0 (zgN F63 ) (F63.b2 (by intros;rfl)) F63.2 (mg_of X G a63)
 have h_Task_finish:Z2 l.prog w K mg base ATask "finish" 1 ["self","how","paper"] (zcp ATask):=⟨_,_,(zdE F68 cl_Task nf_Task_how nf_Task_paper:FnOk l.prog w K mg base CX0 (0+1) _ _ _ _),b68,⟨a68,q68,k68⟩,cl_Task⟩
 have h_lcell:=hv l.prog w base 0 (zmS F71 m_len) (F71.b2 (by intros;rfl)) F71.2 (mg_of X G a71)
 have h_ltake:=hv l.prog w base 0 (zmT F73 ) (F73.b2 (by intros;rfl)) F73.2 (mg_of X G a73)
 have h_lrule_of:∀n:Nat,Have l.prog w K mg base "_law_rule_of" (n+1) ["_law_plan_here"] (zco n):=fun n=>by
  induction n with
  |zero=>exact⟨_,_,zb5 (fun vs H Q E h=>by obtain⟨u,p,_,_,h0,_⟩:=h;lia) _,b79,F79.2,n79⟩
  |succ n ih=>exact⟨_,_,zgK F79 ih,b79,F79.2,n79⟩
 have h_lgone:=hv l.prog w base 0 (zlA F80 m_int m_len) (F80.b2 (by intros;rfl)) F80.2 (mg_of X G a80)
 have h_lis:=hv l.prog w base 0 (zoy F81 m_isinstance m_list cl_Task nf_Task_needs nf_Task_founds nf_Task_paper nf_Task_how) (F81.b3 (by intros;rfl)) F81.2 (mg_of X G a81)
 have h_fits_alone:=hv l.prog w base 1 (zmX F2 (h_is_number.up rfl) (h_is_sign.up rfl) m_isinstance m_str m_tuple m_len m_all m_abs m_MOST_SIGNS m_MOST_ITEMS) (F2.b2 (by intros;rfl)) F2.2 (mg_of X G a2)
 have hf_lessened:=hvF l.prog w base 1 (zgv F14 (h_truth.up rfl)) (F14.b1 (by intros;rfl)) F14.2
 have hf_compared:=hvF l.prog w base 1 (zgx F16 (h_truth.up rfl) (h_same.up rfl)) (F16.b1 (by intros;rfl)) F16.2
 have h_variables_of:=hv l.prog w base 1 (zds F25 (h_binding_count.up rfl)) (F25.b1 (by intros;rfl)) F25.2 (mg_of X G a25)
 have h_parts_of:=hv l.prog w base 1 (zgA F26 (h_binding_count.up rfl) (h_has_parts.up rfl) m_list) (F26.b1 (by intros;rfl)) F26.2 (mg_of X G a26)
 have h_are_good_variables:=hv l.prog w base 1 (za3 F27 (h_is_variable.up rfl) m_all m_len) (F27.b1 (by intros;rfl)) F27.2 (mg_of X G a27)
 have h_Run___init__:zce l.prog w K mg base ARun "Run" 2 ["self","founds"] (zj8 K ARun):=⟨_,_,1,rfl,(zde F34 m_list cl_Run nf_Run_founds nf_Run_names:FnOk l.prog w K mg base CX0 (0+1) _ _ _ _),b34,⟨mk_Run,a34,q34,kc_Run⟩,mg_of X G aC_Run⟩
 have h_first_otherwise:=hv l.prog w base 1 (zbO F61 (h_founds_of.up rfl) (h_just_so.up rfl) m_enumerate m_zip) (F61.b2 (by intros;rfl)) F61.2 (mg_of X G a61)
 have h_Task_has_kept_rule:Z2 l.prog w K mg base ATask "has_kept_rule" 2 ["self"] (zlC ATask):=⟨_,_,(za1 F65 (h_just_so.up rfl) cl_Task nf_Task_kept nf_Task_rule:FnOk l.prog w K mg base CX0 (1+1) _ _ _ _),b65,⟨a65,q65,k65⟩,cl_Task⟩
 have h_Task_take:Z2 l.prog w K mg base ATask "take" 2 ["self","found"] (zeR ATask):=⟨_,_,(zfO F67 (h_found_at.up rfl) m_len cl_Task nf_Task_founds nf_Task_ends nf_Task_needs:FnOk l.prog w K mg base CX0 (1+1) _ _ _ _),b67,⟨a67,q67,k67⟩,cl_Task⟩
 have h_lbox:=hv l.prog w base 1 (zn3 F72 (h_lcell.up rfl)) (F72.b2 (by intros;rfl)) F72.2 (mg_of X G a72)
 have h_ltext:=hv l.prog w base 1 (zmU F74 (h_ltake.up rfl) m_len m_range) (F74.b2 (by intros;rfl)) F74.2 (mg_of X G a74)
 have h_lnumber:=hv l.prog w base 1 (zjm F75 (h_ltake.up rfl)) (F75.b1 (by intros;rfl)) F75.2 (mg_of X G a75)
 have h_lplan:∀n:Nat,Have l.prog w K mg base "_law_plan" (n+2) ["_law_box_here","_law_spare","_law_texts"] (zhw n):=fun n=>by
  induction n with
  |zero=>exact⟨_,_,zb5 (fun vs H Q E h=>by obtain⟨b,sp,tx,s,ts,_,_,_,_,_,_,h0,_⟩:=h;lia) _,b78,F78.2,n78⟩
  |succ n ih=>exact⟨_,_,zlz F78 ih (h_ltake.mono (by lia)) m_len,b78,F78.2,n78⟩
 have h_is_worth:=hv l.prog w base 2 (zh1 F4 (h_fits_alone.up rfl) (h_size_alone.up rfl) m_isinstance m_tuple m_len m_MOST_DEPTH m_MOST_SIZE) (F4.b1 (by intros;rfl)) F4.2 (mg_of X G a4)
 have h_unbound:∀n:Nat,Have l.prog w K mg base "unbound" (n+3) ["expression","bound"] (zlH n):=fun n=>by
  induction n with
  |zero=>exact⟨_,_,zb5 (fun vs H Q E h=>by obtain⟨_,_,_,_,_,_,_,_,h0,_⟩:=h;lia) _,b30,F30.2,n30⟩
  |succ n ih=>exact⟨_,_,ziw F30 ih (h_variables_of.mono (by lia)) (h_parts_of.mono (by lia)) m_enumerate m_len,b30,F30.2,n30⟩
 have h_repeated:∀n:Nat,Have l.prog w K mg base "repeated" (n+3) ["expression"] (zlI n):=fun n=>by
  induction n with
  |zero=>exact⟨_,_,zb5 (fun vs H Q E h=>by obtain⟨_,_,_,_,_,h0,_⟩:=h;lia) _,b32,F32.2,n32⟩
  |succ n ih=>exact⟨_,_,zgY F32 ih (h_parts_of.mono (by lia)) m_enumerate m_len m_max m_REPEATING t_REPEATING,b32,F32.2,n32⟩
 have h_Task_why:Z2 l.prog w K mg base ATask "why" 3 ["self"] (znr ATask):=⟨_,_,(zgO F70 (h_first_otherwise.up rfl) (h_Task_has_kept_rule.up rfl) cl_Task nf_Task_kept nf_Task_founds:FnOk l.prog w K mg base CX0 (2+1) _ _ _ _),b70,⟨a70,q70,k70⟩,cl_Task⟩
 have h_lworth:∀n:Nat,Have l.prog w K mg base "_law_worth" (n+3) ["_law_box_here","_law_room","_law_deep"] (zeo n):=fun n=>by
  induction n with
  |zero=>exact⟨_,_,zb5 (fun vs H Q E h=>by obtain⟨b,room,deep,_,_,_,_,h0,h1,_⟩:=h;lia) _,b76,F76.2,n76⟩
  |succ n ih=>exact⟨_,_,zk3 F76 (h_ltake.mono (by lia)) (h_ltext.mono (by lia)) (h_lnumber.mono (by lia)) ih m_min m_range m_tuple,b76,F76.2,n76⟩
 have h_fits_word:=hv l.prog w base 3 (zfV F6 (h_is_worth.up rfl) m_isinstance m_str m_BARE_WORDS t_BARE_WORDS m_NAMING_WORDS t_NAMING_WORDS) (F6.b2 (by intros;rfl)) F6.2 (mg_of X G a6)
 have h_made:Have l.prog w K mg base "made" 4 ["thing"] (zaV K 24):=⟨_,_,(zm2 F8 (h_is_worth.up rfl) m_GREAT t_GREAT:FnOk l.prog w K mg base CX0 (3+1) _ _ _ _),b8,F8.2,n8⟩
 have h_has_form:=hv l.prog w base 3 (zgU F28 (h_are_good_variables.up rfl) (h_variables_of.up rfl) (h_binding_count.up rfl) (h_is_variable.up rfl) (h_is_worth.up rfl) m_isinstance m_len m_str m_tuple m_MOST_LISTED m_PARTS d_PARTS) (F28.b1 (by intros;rfl)) F28.2 (mg_of X G a28)
 have h_Task___init__:zce l.prog w K mg base ATask "Task" 4 ["self","name","rule","kept","rows"] (zns ATask):=⟨_,_,3,rfl,(zck F64 (h_Task_has_kept_rule.up rfl) cl_Task nf_Task_name nf_Task_needs nf_Task_founds nf_Task_paper nf_Task_how nf_Task_rule nf_Task_kept nf_Task_ends:FnOk l.prog w K mg base CX0 (2+1) _ _ _ _),b64,⟨mk_Task,a64,q64,kc_Task⟩,mg_of X G aC_Task⟩
 have h_is_outcome:=hv l.prog w base 4 (zeZ F7 (h_fits_word.up rfl) (h_is_worth.up rfl) m_isinstance m_len m_tuple) (F7.b1 (by intros;rfl)) F7.2 (mg_of X G a7)
 have hf_summed:=hvF l.prog w base 4 (zjQ F10 (h_made.up rfl)) (F10.b1 (by intros;rfl)) F10.2
 have hf_differing:=hvF l.prog w base 4 (zfz F11 (h_made.up rfl)) (F11.b1 (by intros;rfl)) F11.2
 have hf_multiplied:=hvF l.prog w base 4 (zeA F12 (h_made.up rfl)) (F12.b1 (by intros;rfl)) F12.2
 have hf_divided:=hvF l.prog w base 4 (zic F13 (h_made.up rfl) m_NOUGHT t_NOUGHT) (F13.b1 (by intros;rfl)) F13.2
 have hf_figured:=hvF l.prog w base 4 (zie F15 (h_made.up rfl) m_str) (F15.b1 (by intros;rfl)) F15.2
 have hf_joined:=hvF l.prog w base 4 (zjV F17 (h_made.up rfl) m_isinstance m_str m_tuple m_KIND t_KIND) (F17.b1 (by intros;rfl)) F17.2
 have hf_listed:=hvF l.prog w base 4 (zjS F18 (h_made.up rfl) m_tuple) (F18.b1 (by intros;rfl)) F18.2
 have hf_item_at:=hvF l.prog w base 4 (zih F19 (h_made.up rfl) (h_is_number.up rfl) m_isinstance m_len m_tuple m_KIND t_KIND m_PLACE t_PLACE) (F19.b1 (by intros;rfl)) F19.2
 have hf_counted:=hvF l.prog w base 4 (zig F20 (h_made.up rfl) m_isinstance m_len m_str m_tuple m_KIND t_KIND) (F20.b1 (by intros;rfl)) F20.2
 have h_is_formed:=hv l.prog w base 4 (zfS F29 (h_parts_of.up rfl) (h_has_form.up rfl) m_len m_MOST_MANY m_MOST_NESTING) (F29.b1 (by intros;rfl)) F29.2 (mg_of X G a29)
 have h_reckoned:=hv l.prog w base 5 (zgz F21 (h_is_number.up rfl) m_all m_KIND t_KIND m_NUMBER_DEEDS d_NUMBER_DEEDS m_OTHER_DEEDS d_OTHER_DEEDS (hf_summed.up rfl) (hf_differing.up rfl) (hf_multiplied.up rfl) (hf_divided.up rfl) (hf_lessened.up rfl) (hf_figured.up rfl) (hf_compared.up rfl) (hf_joined.up rfl) (hf_listed.up rfl) (hf_item_at.up rfl) (hf_counted.up rfl)) (F21.b2 (by intros;rfl)) F21.2 (mg_of X G a21)
 have h_is_look:=hv l.prog w base 5 (ziC F57 (h_is_outcome.up rfl) (h_is_worth.up rfl) m_isinstance m_len m_str m_tuple) (F57.b1 (by intros;rfl)) F57.2 (mg_of X G a57)
 have h_are_looks:=hv l.prog w base 6 (zfX F58 (h_is_look.up rfl) m_all m_isinstance m_tuple) (F58.b1 (by intros;rfl)) F58.2 (mg_of X G a58)
 have h_lfound:=hv l.prog w base 16 (zkl F77 (h_ltext.up rfl) ((h_lworth 13).up rfl) (h_ltake.up rfl) m_int) (F77.b1 (by intros;rfl)) F77.2 (mg_of X G a77)
 have h_free_in:=hv l.prog w base 23 (ziy F31 ((h_unbound 20).up rfl) m_set m_sorted) (F31.b1 (by intros;rfl)) F31.2 (mg_of X G a31)
 have h_is_rule:=hv l.prog w base 24 (ziA F33 ((h_repeated 20).up rfl) (h_free_in.up rfl) (h_is_formed.up rfl) m_MOST_REPEATED) (F33.b1 (by intros;rfl)) F33.2 (mg_of X G a33)
 have h_may_be_run:=hv l.prog w base 25 (ze1 F59 (h_are_looks.up rfl) (h_is_rule.up rfl) m_isinstance m_len m_tuple) (F59.b1 (by intros;rfl)) F59.2 (mg_of X G a59)
 have h_record_of:∀n:Nat,Have l.prog w K mg base "record_of" (3*n+7) ["run","expression","bound"] (spG K ARun n (fun _=>True)):=fun n=>by
  induction n with
  |zero=>exact⟨_,_,zb5 (fun vs H Q E h=>by obtain⟨_,_,_,_,_,_,_,_,x,_,_,_,_,_,_,_,hh,_⟩:=h;exact absurd hh (by have:=zlK x;lia)) _,b51,F51.2,n51⟩
  |succ n ih=>
   have h_go_through:Have l.prog w K mg base "go_through" (3*n+7+0+1) ["run","expressions","bound"] (zhq K ARun n):=⟨_,_,(zeG F49 (h_is_made.mono (by lia)) (ih.mono (by lia)):FnOk l.prog w K mg base CX0 (3*n+7+0+1) _ _ _ (zhq K ARun n)),b49,F49.2,n49⟩
   have hf_go_lit:Zm l.prog w K mg base f40 (3*n+7+0+1) ["run","expression","bound"] (spG K ARun (n+1) (fun x=>∃y,x=.lit y)):=⟨_,(zj0 F40:FnOk l.prog w K mg base CX0 (3*n+7+0+1) _ _ _ (spG K ARun (n+1) (fun x=>∃y,x=.lit y))),b40,F40.2⟩
   have hf_go_var:Zm l.prog w K mg base f41 (3*n+7+0+1) ["run","expression","bound"] (spG K ARun (n+1) (fun x=>∃s,x=.var s)):=⟨_,(zj2 F41:FnOk l.prog w K mg base CX0 (3*n+7+0+1) _ _ _ (spG K ARun (n+1) (fun x=>∃s,x=.var s))),b41,F41.2⟩
   have hf_go_let:Zm l.prog w K mg base f42 (3*n+7+0+1) ["run","expression","bound"] (spG K ARun (n+1) (fun x=>∃s a b,x=.letE s a b)):=⟨_,(zj3 F42 (h_as_last.mono (by lia)) (ih.mono (by lia)) (h_binding.mono (by lia)) (h_worth_of.mono (by lia)) (h_is_made.mono (by lia)):FnOk l.prog w K mg base CX0 (3*n+7+0+1) _ _ _ (spG K ARun (n+1) (fun x=>∃s a b,x=.letE s a b))),b42,F42.2⟩
   have hf_go_if:Zm l.prog w K mg base f43 (3*n+7+0+1) ["run","expression","bound"] (spG K ARun (n+1) (fun x=>∃a b c,x=.ifE a b c)):=⟨_,(zll F43 (h_as_last.mono (by lia)) (ih.mono (by lia)) (h_worth_of.mono (by lia)) (h_is_number.mono (by lia)) (h_is_made.mono (by lia)) m_KIND t_KIND:FnOk l.prog w K mg base CX0 (3*n+7+0+1) _ _ _ (spG K ARun (n+1) (fun x=>∃a b c,x=.ifE a b c))),b43,F43.2⟩
   have hf_go_look:Zm l.prog w K mg base f46 (3*n+7+0+1) ["run","expression","bound"] (spG K ARun (n+1) (fun x=>∃a,x=.lookE a)):=⟨_,(zir F46 (h_Run_look.mono (by lia)) (h_worth_of.mono (by lia)) (h_is_made.mono (by lia)) (h_as_last.mono (by lia)) (ih.mono (by lia)) m_isinstance m_str m_KIND t_KIND:FnOk l.prog w K mg base CX0 (3*n+7+0+1) _ _ _ (spG K ARun (n+1) (fun x=>∃a,x=.lookE a))),b46,F46.2⟩
   have hf_go_else:Zm l.prog w K mg base f47 (3*n+7+0+1) ["run","expression","bound"] (spG K ARun (n+1) (fun x=>∃a b,x=.elseE a b)):=⟨_,(ziq F47 (h_as_last.mono (by lia)) (ih.mono (by lia)) (h_is_made.mono (by lia)):FnOk l.prog w K mg base CX0 (3*n+7+0+1) _ _ _ (spG K ARun (n+1) (fun x=>∃a b,x=.elseE a b))),b47,F47.2⟩
   have hf_go_cry:Zm l.prog w K mg base f48 (3*n+7+0+1) ["run","expression","bound"] (spG K ARun (n+1) (fun x=>∃a,x=.cryE a)):=⟨_,(zj4 F48 (h_worth_of.mono (by lia)) (h_is_made.mono (by lia)) (h_as_last.mono (by lia)) (ih.mono (by lia)):FnOk l.prog w K mg base CX0 (3*n+7+0+1) _ _ _ (spG K ARun (n+1) (fun x=>∃a,x=.cryE a))),b48,F48.2⟩
   have h_go_reckoned:Have l.prog w K mg base "go_reckoned" (3*n+7+1+1) ["run","expression","bound"] (spG K ARun (n+1) (fun x=>∃d es,x=.reck d es)):=⟨_,_,(zdC F50 (h_reckoned.mono (by lia)) (h_worth_of.mono (by lia)) (h_is_made.mono (by lia)) (h_as_last.mono (by lia)) (h_go_through.mono (by lia)) (h_parts_of.mono (by lia)) m_len m_tuple:FnOk l.prog w K mg base CX0 (3*n+7+1+1) _ _ _ (spG K ARun (n+1) (fun x=>∃d es,x=.reck d es))),b50,F50.2,n50⟩
   have hm:Have l.prog w K mg base "record_of" (3*n+7+2+1) ["run","expression","bound"] (spG K ARun (n+1) (fun _=>True)):=⟨_,_,(zfJ F51 (h_go_reckoned.mono (by lia))  m_GOING d_GOING (hf_go_lit.mono (by lia)) (hf_go_var.mono (by lia)) (hf_go_let.mono (by lia)) (hf_go_if.mono (by lia)) (hf_go_look.mono (by lia)) (hf_go_else.mono (by lia)) (hf_go_cry.mono (by lia)):FnOk l.prog w K mg base CX0 (3*n+7+2+1) _ _ _ (spG K ARun (n+1) (fun _=>True))),b51,F51.2,n51⟩
   exact hm.mono (by lia)
 have h_gone:=hv l.prog w base 97 (zni F52 ((h_record_of 30).up rfl) (h_Run___init__.up rfl) m_list cl_Run nf_Run_names) (F52.b2 (by intros;rfl)) F52.2 (mg_of X G a52)
 have h_is_right:=hv l.prog w base 98 (zg2 F60 (h_just_so.up rfl) (h_names_of.up rfl) (h_gone.up rfl) (h_founds_of.up rfl) (h_may_be_run.up rfl)) (F60.b1 (by intros;rfl)) F60.2 (mg_of X G a60)
 have h_Task_run:Z2 l.prog w K mg base ATask "run" 99 ["self"] (zgP K ATask):=⟨_,_,(zgQ F69 (h_Task_finish.up rfl) (h_paper_of_run.up rfl) (h_Task_why.up rfl) (h_gone.up rfl) cl_Task nf_Task_rule nf_Task_founds nf_Task_needs:FnOk l.prog w K mg base CX0 (98+1) _ _ _ _),b69,⟨a69,q69,k69⟩,cl_Task⟩
 have h_Task_step:zbb l.prog w K mg base ATask "step" 100 ["self","found"] (zkn K ATask):=⟨_,_,(zfP F66 (h_Task_finish.mono (by lia)) (h_Task_run.mono (by lia)) (h_matched_beginning.mono (by lia)) (h_Task_take.mono (by lia)) m_len cl_Task nf_Task_needs nf_Task_founds nf_Task_ends:FnOk l.prog w K mg base CX0 (99+1) _ _ _ _),b66,bd66,⟨a66,q66,k66⟩,cl_Task⟩
 have h_lended:=hv l.prog w base 99 (zkB F82 (h_is_right.up rfl) m_isinstance m_len m_tuple m_zip cl_Task nf_Task_paper nf_Task_needs nf_Task_founds nf_Task_how) (F82.b5 (by intros;rfl)) F82.2 (mg_of X G a82)
 have h_lsteps:=hv l.prog w base 100 (zkD F83 (h_lended.up rfl) (h_lgone.up rfl) (h_Task_step.up rfl) (h_lis.up rfl)) (F83.b4 (by intros;rfl)) F83.2 (mg_of X G a83)
 exact (zoA F84 (h_lended.up rfl) (h_lgone.up rfl) (h_lsteps.up rfl) (h_Task___init__.up rfl) (h_lfound.up rfl) (h_lbox.up rfl) ((h_lrule_of 7).up rfl) ((h_lplan 6).up rfl) (h_ltake.up rfl) (h_ltext.up rfl) m_len m_range cl_Task nf_Task_name:FnOk l.prog w K mg base CX0 (199+1) _ _ _ _)
theorem zlL{l:PySem.W.OpenLaw}{q:Program}{loose:List Str}{XP:(Str->Option Value)->Heap->Prop}{YP:World->Heap->Prop}{d:DefRec}{K:Params->uZ}(hn:l.most=some 63)(hdf:d.params.defaults=[])
  (hY:∀(w:World)(h:Heap),YP w h->(K w.params).In h)
  (F:∀(w:World)(mg:Str->Option Value)(fa:Addr)(h:Heap),(K w.params).In h->h.Ns uP mg->mg d.name=some (.ref fa)->
   ∃fd:tD,(∀(s:Shared)(u:Value),BindsTo s fd ⟨[u],[]⟩ [("_law_script",u)])/\∀base:Heap,(K w.params).In base->base.Ns uP mg->FnOk l.prog w (K w.params) mg base CX0 200 fa fd ["_law_script"] (zlJ (K w.params))):
  PySem.W.WalkO q loose XP YP l.row.toRowW d [] (fun f vs=>PySem.call f vs):=
 L2.zmN (n:=63) (k:=200) (x:="_law_script") (CX:=fun _=>CX0) (sp:=fun w=>zlJ (K w.params)) hn (by decide) hdf ⟨rfl,by decide,by decide,rfl⟩ hY F (fun _ _ a ns hl _ hS=>⟨a,ns,rfl,hS,hl,fun _=>rfl⟩) fun _ _ _ _ _ z=>z
end D
end
open PySem PySem.W PyProof.Rows
set_option maxRecDepth 100000 in
set_option maxHeartbeats 0 in
theorem PySem.Challenge.cw_leastforge_k38_one_task_holds : PySem.Challenge.rw_leastforge_k38_one_task.Holds := by
 w_on; o_law; k_head; (case hw=>w_witness2)
 k_fill
 refine D.zlL (l:=PySem.Challenge.rw_leastforge_k38_one_task) rfl rfl (fun w h Y=>PySem.W.kIn_of Y) ?F
 case F=>
  intro w mg fa h KX G hmg
  apply D.zoB KX G hmg
  all_goals try (first | (refine' ⟨_,L2.zba ?_ ?_ ?_⟩ <;> try first | k_is | rfl) | ((try unfold D.nI); (try unfold D.lI); (try unfold D.cI); (try unfold D.kI); first | k_is | rfl))
