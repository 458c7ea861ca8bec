import PyProof.Rows.All
import Wide.All
import OpenK.AllK
import Wide.FinOn
import Lean
import PyProof.EqAt
import PyProof.EqKinds
import PyProof.TupleCall
import PyProof.EnumMake
import PyProof.WalksEnum
import PyProof.NeKinds
import PyProof.Rows.ZipGen
import PyProof.TupleIter
import PyProof.ZipIter
import PyProof.TupleOfGen
import PyProof.ReprRoads
import PyProof.FitsInt
import PyProof.StrLawsRepr
import PyProof.AutoListH
import OpenK.KMore
import PySem.Challenge.RW_leastforge_k39_papers_of_a_task
open PySem.W (instObj methodObj lookIn plainGet hasDictIn findIn plainGet_of isFn plainOver takerIn makesIn emptyDict keepIn kia_one kitx_list kitx_dict callWith_K fnOf codeIn kitAny kia_tup nsIn mg_of mg_none_of)
set_option Elab.async false
set_option linter.all false
set_option maxRecDepth 100000
set_option maxHeartbeats 4000000
theorem L2.zl0:0<=PySem.sizeLine:=by decide
theorem L2.zl1:1<=PySem.sizeLine:=by decide
theorem L2.zl2:2<=PySem.sizeLine:=by decide
theorem L2.zl3:3<=PySem.sizeLine:=by decide
theorem L2.zl4:4<=PySem.sizeLine:=by decide
theorem L2.zl5:5<=PySem.sizeLine:=by decide
theorem L2.zl7:7<=PySem.sizeLine:=by decide
open List renaming getElem?_eq_getElem->yA, length_map->yB, getElem?_eq_some_iff->yC, length_append->yD, getElem?_map->yF, size_toArray->yG, mem_of_getElem?->yH, length_cons->yJ, getElem?_append_right->yK, getElem?_append_left->yL, mem_singleton->yM, length_take->yP, mem_append_right->yR, mem_cons->yS, getD_eq_getElem?_getD->yU, mem_cons_of_mem->yV, map_cons->yX, mem_cons_self->yY, mem_append->yZ, getElem_mem->xA, drop_eq_getElem_cons->xD, getElem?_cons_succ->xH, take_of_length_le->xJ, append_nil->xK, length_eq_zero_iff->xL, filter_append->xM, map_append->xN, cons_append->xO, mem_map->xP, append_assoc->xQ, replicate->xR, all_eq_true->xT, length_drop->xU, filter_cons->xV, lookup->xX, mem_filter->xZ, drop_eq_nil_of_le->wC, find?_cons->wD, forIn_cons->wE, length_singleton->wG, cons_prefix_cons->wH, range->wK, mem_iff_getElem->wL, forIn_nil->wM, take_length->wP, prefix_refl->wQ, not_mem_nil->wS, forIn_toArray->wW, getElem?_take->wX, getElem?_replicate->wY, length_replicate->vA, getElem?_eq_none->vB, take_append_drop->vC, length_filter_le->vD, any_cons->vE, mem_append_left->vF, nodup_cons->vH, length_nil->vI, nil_append->vJ, filterMap_cons->vK, toList_toArray->vL, length_pos_iff->vM, map_map->vN, push_toArray->vS, getElem?_take_of_lt->vT, all_cons->vU, lookup_cons->vW, getLast?_cons_cons->vX, drop_length->vY, getElem?_set_self->vZ, of_mem_zip->uB, nil_prefix->uC, cons_lt_cons_iff->uD, eq_nil_or_concat->uE, concat_eq_append->uF, singleton_append->uG, mem_range->uH, getElem?_set_ne->uI, mem_of_getLast?->uK, mem_of_mem_take->uL, length_zipWith->uM, mem_filterMap->uN, getElem?_drop->uO, map_nil->uP, all_map->uQ
open Nat renaming le_refl->yE, zero_le->yN, lt_of_lt_of_le->yO, le_trans->yQ, ne_of_lt->yW, lt_irrefl->xB, ne_of_gt->xE, lt_of_le_of_lt->xS, le_of_ble_eq_true->xY, lt_succ_of_lt->wI, lt_succ_self->wN, le_add_right->wO, add_comm->wR, add_lt_add_left->wU, le_of_lt->wZ, le_succ->vG, sub_self->vO, add_sub_cancel->vQ, log2_lt->uS, ble->uT
open Bool renaming false_ne_true->yI, false_eq_true->xC, and_eq_true->xF, eq_iff_iff->xG, eq_false_iff->xI, and_true->wF, false_and->vP, true_and->vV, and_assoc->uJ
open Option renaming map_eq_some_iff->yT, isSome_iff_exists->xW, map_some->wA, getD_none->uR
open Int renaming emod_lt_of_pos->wB, emod_nonneg->wV, toNat_natCast->vR, zero_add->uA
open Array renaming length_toList->wT
open PySem.Str renaming ofString->uU
open PySem renaming wpAny_bind->uV, wpAny_pure->uW, boot_len->tD, mainGlobals->tE, sizeLine->tF, wpAny_newObj_type->tH, starEach->tI, bootBuiltins->tJ, compareOp->tK, FuncData->tQ
open PySem.Heap renaming get?_push_of_some->uX, lt_size->uY, get?_push_size->uZ
open PySem.PassesOwn renaming never->tL
open PySem.F renaming plainAttrs_list->tM, type_list_append->tN, slot_list_append->tO
open PySem.W renaming Frag->tP
noncomputable section
namespace L2
open PySem PySem.Spec PyProof.Rows
abbrev Key:=Sum Int Str
noncomputable def zg6:Key->Value->Bool
 |.inl k,v=>Value.isInt k v
 |.inr x,v=>Value.isStrOf x v
noncomputable def keyH(w:World):Key->Int
 |.inl k=>hashInt k
 |.inr x=>hashStr w x
theorem Zk:∀{k:Key}{v:Value},zg6 k v=true->(∃i t,k=Sum.inl i/\v=Value.int i t)\/(∃x t,k=Sum.inr x/\v=Value.str x t)
 |.inl i,v,h=>by
  obtain⟨t,e⟩:=Value.isInt_shape (k:=i) (v:=v) h
  exact .inl ⟨i,t,rfl,e⟩
 |.inr x,v,h=>by
  obtain⟨t,e⟩:=Value.isStrOf_shape (x:=x) (v:=v) h
  exact .inr ⟨x,t,rfl,e⟩
theorem zhS(i:Int)(t:Tok):zg6 (.inl i) (.int i t)=true:=by simp[zg6,Value.isInt]
theorem zhT(x:Str)(t:Tok):zg6 (.inr x) (.str x t)=true:=by simp[zg6,Value.isStrOf]
theorem zmw(a b:Int):decide ((Sum.inl a:Key)=Sum.inl b)=(a==b):=by
 by_cases e:a=b
 ·subst e;simp
 ·have h:¬(Sum.inl a:Key)=Sum.inl b:=fun q=>e (Sum.inl.inj q)
  rw[decide_eq_false h]
  exact (beq_eq_false_iff_ne.mpr e).symm
theorem zmx(a b:Str):decide ((Sum.inr a:Key)=Sum.inr b)=decide (a=b):=by
 by_cases e:a=b
 ·subst e;simp
 ·have h:¬(Sum.inr a:Key)=Sum.inr b:=fun q=>e (Sum.inr.inj q)
  rw[decide_eq_false h,decide_eq_false e]
theorem zmy(a:Int)(b:Str):decide ((Sum.inl a:Key)=Sum.inr b)=false:=decide_eq_false (fun q=>nomatch q)
theorem zmz(a:Str)(b:Int):decide ((Sum.inr a:Key)=Sum.inl b)=false:=decide_eq_false (fun q=>nomatch q)
def Zu(prog:Program)(w:World):PySem.KeyKind prog w Key where
 is:=zg6
 hash:=keyH w
 inj:=fun v a b ha hb=>by
  rcases Zk ha with⟨i,t,rfl,rfl⟩|⟨x,t,rfl,rfl⟩
  ·rcases Zk hb with⟨j,u,rfl,e⟩|⟨y,u,rfl,e⟩
   ·injection e with e1 _;rw[e1]
   ·exact nomatch e
  ·rcases Zk hb with⟨j,u,rfl,e⟩|⟨y,u,rfl,e⟩
   ·exact nomatch e
   ·injection e with e1 _;rw[e1]
 byValue:=fun k v h=>by
  rcases Zk h with⟨i,t,rfl,rfl⟩|⟨x,t,rfl,rfl⟩<;>rfl
 pyHash:=fun hv h=>by
  rcases Zk hv with⟨i,t,rfl,rfl⟩|⟨x,t,rfl,rfl⟩
  ·exact wpAny_pyHash_int h
  ·exact wpAny_pyHash_str h
 eqBool:=fun hu hv h=>by
  rcases Zk hu with⟨i,t,rfl,rfl⟩|⟨x,t,rfl,rfl⟩
  ·rcases Zk hv with⟨j,u,rfl,rfl⟩|⟨y,u,rfl,rfl⟩
   ·rw[zmw] at h;exact wpAny_eqBool_int h
   ·rw[zmy] at h;exact SeqAt.EqAt.int_str i t y u _ _ _ _ h
  ·rcases Zk hv with⟨j,u,rfl,rfl⟩|⟨y,u,rfl,rfl⟩
   ·rw[zmz] at h;exact SeqAt.EqAt.str_int x t j u _ _ _ _ h
   ·rw[zmx] at h;exact wpAny_eqBool_str h
 «strs»:=fun k x t v h=>by
  rcases Zk h with⟨i,u,rfl,e⟩|⟨y,u,rfl,e⟩
  ·exact nomatch e
  ·injection e with e1 _
   subst e1
   cases v<;>rfl
theorem zfB(prog:Program)(w:World)(i:Int)(t:Tok):(Zu prog w).is (.inl i) (.int i t)=true:=zhS i t
theorem zbi(prog:Program)(w:World)(x:Str)(t:Tok):(Zu prog w).is (.inr x) (.str x t)=true:=zhT x t
inductive V where
 |non|bl (b:Bool)|int (i:Int)|str (x:Str)|byt (b:Array UInt8)|flt (b:UInt64)|ref (a:Addr)|ty (n:String)
 deriving DecidableEq
def RelV:V->Value->Prop
 |.non,u=>u=Value.none
 |.bl b,u=>u=Value.bool b
 |.int i,u=>∃t,u=Value.int i t
 |.str x,u=>∃t,u=Value.str x t
 |.byt b,u=>∃t,u=Value.bytes b t
 |.flt b,u=>∃t,u=Value.float b t
 |.ref a,u=>u=Value.ref a
 |.ty n,u=>u=Value.type n
abbrev Vals:List V->List Value->Prop:=Paired RelV
theorem Vals.length{xs:List V}{us:List Value}(r:Vals xs us):xs.length=us.length:=Paired.length r
theorem Vals.get:∀{xs:List V}{us:List Value}{i:Nat}{x:V},Vals xs us->xs[i]?=some x->∃u,us[i]?=some u/\RelV x u
 |_,_,_,_,.nil,e=>by simp at e
 |_,_,0,_,.cons r _,e=>by simp at e;subst e;exact⟨_,rfl,r⟩
 |_,_,i+1,x,.cons _ t,e=>by
  obtain⟨u,h1,h2⟩:=Vals.get (i:=i) (x:=x) t (by simpa using e)
  exact⟨u,by simpa using h1,h2⟩
theorem Vals.set{x:V}{u:Value}(r:RelV x u):∀{xs:List V}{us:List Value}(i:Nat),Vals xs us->Vals (xs.set i x) (us.set i u)
 |_,_,_,.nil=>.nil
 |_,_,0,.cons _ t=>.cons r t
 |_,_,i+1,.cons q t=>.cons q (Vals.set r i t)
theorem Vals.append:∀{xs ys:List V}{us ws:List Value},Vals xs us->Vals ys ws->Vals (xs++ys) (us++ws)
 |_,_,_,_,.nil,s=>s
 |_,_,_,_,.cons r t,s=>.cons r (Vals.append t s)
theorem Vals.take:∀{xs:List V}{us:List Value}(n:Nat),Vals xs us->Vals (xs.take n) (us.take n)
 |_,_,0,_=>.nil
 |_,_,_+1,.nil=>.nil
 |_,_,n+1,.cons r t=>.cons r (Vals.take n t)
theorem Vals.drop:∀{xs:List V}{us:List Value}(n:Nat),Vals xs us->Vals (xs.drop n) (us.drop n)
 |_,_,0,r=>r
 |_,_,_+1,.nil=>.nil
 |_,_,n+1,.cons _ t=>Vals.drop n t
def RelO:Option V->Option Value->Prop
 |some v,some u=>RelV v u
 |none,none=>True
 |_,_=>False
def KV{κ:Type}:List (κ×V)->List (κ×Value)->Prop:=Paired fun (p:κ×V)(q:κ×Value)=>p.1=q.1/\RelV p.2 q.2
noncomputable def kV:Key->V
 |.inl i=>.int i
 |.inr x=>.str x
inductive HO where
 |lst (xs:List V)
 |tup (xs:List V)
 |dK (kvs:List (Key×V))|dT (kvs:List (List Key×V))
 |set (S:Int->Bool) (n:Nat)
 |ins (C dx:Addr) (fs:List (Str×V))
 |own (x:Addr)
 |xd (fs:List (Str×V))
 |met (f x:Addr)
 |rng (lo hi:Int)
 |frz (o:Obj) (u:HO)
 |tbl (ps:Array Value)
 |ext (φ:Heap->Prop)
abbrev Hp:=Addr->Option HO
noncomputable def upd(H:Hp)(a:Addr)(o:HO):Hp:=fun b=>if b=a then some o else H b
theorem zf{H:Hp}{a:Addr}{o:HO}:upd H a o a=some o:=by unfold upd;rw[if_pos rfl]
theorem zu{H:Hp}{a b:Addr}{o:HO}(h:b≠a):upd H a o b=H b:=by unfold upd;rw[if_neg h]
theorem zlg{H:Hp}{a b:Addr}{o u:HO}(h:H a=some o)(h':H b=some u)(d:o≠u):a≠b:=by
 intro e;subst e;rw[h] at h';exact d (Option.some.inj h')
theorem zm{H:Hp}{a b:Addr}{o:HO}(h:H a=some o)(h':H b=none):a≠b:=by
 intro e;subst e;rw[h] at h';cases h'
section
variable(P:Program)(w:World)
def Zw(H:Hp)(h:Heap)(a:Addr):HO->Prop
 |.lst xs=>xs.length<=tF/\∃(its:List Value)(n:Nat),Vals xs its/\h.get? a=some {cls:=.type "list",data:=.seq its.toArray n}
 |.tup xs=>xs.length<=tF/\∃its:List Value,Vals xs its/\IsTup h a its.toArray
 |.dK kvs=>kvs.length<=tF/\(a==sysModules)=false/\∃vs,KV kvs vs/\h.DictOf (Zu P w) a vs
 |.dT kvs=>kvs.length<=tF/\(a==sysModules)=false/\∃xs:List (List Key×Addr×Value),
   Paired (fun (p:List Key×V)(q:List Key×Addr×Value)=>p.1=q.1/\H q.2.1=some (.tup (p.1.map kV))/\RelV p.2 q.2.2) kvs xs /\
   ∃o es ep,h.get? a=some o/\o.ExactDict/\o.data=.dict es ep/\es.toList=xs.map (entryOfKey (tupleKind (Zu P w)))/\(xs.map (·.1)).Nodup
 |.set S n=>h.SetOf (intKind P w) a S n
 |.ins C dx fs=>H dx=some (.own a)/\fs.length<=1000/\dx≠a/\h.get? a=some (instObj C dx) /\
   ∃mA,h.Ns1 dx mA/\(∀f,RelO (fs.lookup f) (mA f))/\PySem.Within mA (fs.map (·.1))
 |.own _=>∃o,h.get? a=some o
 |.xd fs=>∃mA,h.Ns1 a mA/\∀f,RelO (fs.lookup f) (mA f)
 |.rng lo hi=>∃t u v,h.get? a=some {cls:=.type "range",data:=.fields #[.int lo t,.int hi u,.int 1 v]}
 |.frz o u=>h.get? a=some o/\Zw H h a u
 |.tbl ps=>h.get? a=some {cls:=.none,data:=.fields ps}
 |.met f x=>h.get? a=some (methodObj (.ref f) (.ref x))
 |.ext φ=>φ h/\(∃o,h.get? a=some o)/\∀h1 h2:Heap,φ h1->(∀o,h1.get? a=some o->h2.get? a=some o)->φ h2
def HOk(H:Hp)(h:Heap):Prop:=∀a o,H a=some o->Zw P w H h a o
end
section
variable{P:Program}{w:World}{H H':Hp}{h h':Heap}{a:Addr}{o:HO}
theorem Zw.lt(x:Zw P w H h a o):a<h.objs.size:=by
 cases o with
 |lst xs=>obtain⟨_,_,_,_,e⟩:=x;exact uY e
 |tup xs=>obtain⟨_,_,_,p⟩:=x;exact p.lt
 |dK kvs=>obtain⟨_,_,_,_,o,_,_,e,_⟩:=x;exact uY e
 |dT kvs=>obtain⟨_,_,_,_,o,_,_,e,_⟩:=x;exact uY e
 |set S n=>obtain⟨o,_,_,_,e,_⟩:=x;exact uY e
 |ins C dx fs=>obtain⟨_,_,_,e,_⟩:=x;exact uY e
 |own y=>obtain⟨_,e⟩:=x;exact uY e
 |xd fs=>obtain⟨_,⟨_,_,_,e,_⟩,_⟩:=x;exact uY e
 |rng lo hi=>obtain⟨_,_,_,e⟩:=x;exact uY e
 |frz ob u=>obtain⟨e,_⟩:=x;exact uY e
 |tbl ps=>exact uY (show h.get? a=some _ from x)
 |met f y=>exact uY (show h.get? a=some _ from x)
 |ext φ=>obtain⟨_,⟨_,e⟩,_⟩:=x;exact uY e
theorem Paired.mapP{α β:Type}{F G:α->β->Prop}:∀{l₁:List α}{l₂:List β},Paired F l₁ l₂->(∀a b,F a b->G a b)->Paired G l₁ l₂
 |_,_,.nil,_=>.nil
 |_,_,.cons r t,f=>.cons (f _ _ r) (Paired.mapP t f)
theorem Zw.stay(x:Zw P w H h a o)(k:∀b u,(b=a\/H b=some (.own a))->h.get? b=some u->h'.get? b=some u)
  (ho:∀b,H b=some (.own a)->H' b=some (.own a)) (ht:∀b xs,H b=some (.tup xs)->H' b=some (.tup xs)):Zw P w H' h' a o:=by
 induction o with
 |lst xs=>obtain⟨z,its,n,r,e⟩:=x;exact⟨z,its,n,r,k _ _ (.inl rfl) e⟩
 |tup xs=>obtain⟨z,its,r,ob,e,c⟩:=x;exact⟨z,its,r,ob,k _ _ (.inl rfl) e,c⟩
 |dK kvs=>obtain⟨z,y,vs,r,ob,es,ep,e,c⟩:=x;exact⟨z,y,vs,r,ob,es,ep,k _ _ (.inl rfl) e,c⟩
 |dT kvs=>
  obtain⟨z,y,xs,r,ob,es,ep,e,c⟩:=x
  exact⟨z,y,xs,Paired.mapP r fun p q z=>⟨z.1,ht _ _ z.2.1,z.2.2⟩,ob,es,ep,k _ _ (.inl rfl) e,c⟩
 |set S n=>obtain⟨ob,es,ep,t,e,c⟩:=x;exact⟨ob,es,ep,t,k _ _ (.inl rfl) e,c⟩
 |ins C dx fs=>
  obtain⟨d,z,ne,e,mA,⟨od,es,ep,e2,c⟩,r⟩:=x
  exact⟨ho _ d,z,ne,k _ _ (.inl rfl) e,mA,⟨od,es,ep,k _ _ (.inr d) e2,c⟩,r⟩
 |own y=>obtain⟨ob,e⟩:=x;exact⟨ob,k _ _ (.inl rfl) e⟩
 |xd fs=>obtain⟨mA,⟨od,es,ep,e,c⟩,r⟩:=x;exact⟨mA,⟨od,es,ep,k _ _ (.inl rfl) e,c⟩,r⟩
 |rng lo hi=>obtain⟨t,u,v,e⟩:=x;exact⟨t,u,v,k _ _ (.inl rfl) e⟩
 |frz ob u ih=>obtain⟨e,q⟩:=x;exact⟨k _ _ (.inl rfl) e,ih q⟩
 |tbl ps=>
  have e:h.get? a=some {cls:=.none,data:=.fields ps}:=x
  show h'.get? a=some {cls:=.none,data:=.fields ps}
  exact k a _ (.inl rfl) e
 |met f y=>
  have e:h.get? a=some (methodObj (.ref f) (.ref y)):=x
  show h'.get? a=some (methodObj (.ref f) (.ref y))
  exact k a _ (.inl rfl) e
 |ext φ=>obtain⟨p,⟨o,e⟩,st⟩:=x;exact⟨st _ _ p fun o q=>k _ _ (.inl rfl) q,⟨o,k _ _ (.inl rfl) e⟩,st⟩
theorem HOk.lt(x:HOk P w H h)(e:H a=some o):a<h.objs.size:=(x a o e).lt
theorem HOk.fresh(x:HOk P w H h)(e:h.objs.size<=a):H a=none:=by
 cases q:H a with
 |none=>rfl
 |some u=>exact absurd (yO (x.lt q) e) (xB _)
theorem HOk.kept(x:HOk P w H h)(k:∀b u,h.get? b=some u->h'.get? b=some u):HOk P w H h':=fun a o e=>
 (x a o e).stay (fun b u _ q=>k b u q) (fun _ q=>q) fun _ _ q=>q
theorem HOk.laid(x:HOk P w H h)(k:∀b u,h.get? b=some u->h'.get? b=some u)(hp:h.objs.size<=a)(new:Zw P w (upd H a o) h' a o):HOk P w (upd H a o) h':=fun b u e=>by
 have hn:=x.fresh hp
 by_cases hb:b=a
 ·subst hb;rw[zf] at e;cases e;exact new
 ·rw[zu hb] at e
  exact (x b u e).stay (fun c v _ q=>k c v q) (fun c q=>by rw[zu (zm q hn)];exact q) fun c xs q=>by rw[zu (zm q hn)];exact q
end
def Rd(H:Hp)(a:Addr)(u:HO):Prop:=H a=some u\/∃o,H a=some (.frz o u)
theorem Rd.ok{P:Program}{w:World}{H:Hp}{h:Heap}{a:Addr}{u:HO}(r:Rd H a u)(x:HOk P w H h):Zw P w H h a u:=by
 rcases r with r|⟨o,r⟩
 ·exact x a u r
 ·obtain⟨_,q⟩:=x a _ r
  exact q
def Mut:Option HO->Prop
 |some (.lst _)=>True
 |some (.dK _)=>True
 |some (.dT _)=>True
 |some (.set _ _)=>True
 |some (.ins _ _ _)=>True
 |some (.ext _)=>True
 |_=>False
section
variable{P:Program}{w:World}{H:Hp}{h h':Heap}{x e:Addr}{o':HO}
theorem HOk.write(ok:HOk P w H h)(mu:Mut (H x))(he:e=x\/H e=some (.own x))(k:∀b u,b≠e->h.get? b=some u->h'.get? b=some u)(heo:∃u,h'.get? e=some u)
  (new:Zw P w (upd H x o') h' x o'):HOk P w (upd H x o') h':=fun b u q=>by
 have nown:∀c y,H c=some (.own y)->c≠x:=fun c y r z=>by subst z;rw[r] at mu;exact mu
 have ntup:∀c xs,H c=some (.tup xs)->c≠x:=fun c xs r z=>by subst z;rw[r] at mu;exact mu
 by_cases hb:b=x
 ·subst hb;rw[zf] at q;cases q;exact new
 ·rw[zu hb] at q
  by_cases hbe:b=e
  ·have q':H b=some (.own x):=by
    rcases he with z|z
    ·exact absurd (hbe.trans z) hb
    ·rw[hbe];exact z
   rw[q] at q';cases q'
   obtain⟨v,hv⟩:=heo
   exact⟨v,by rw[hbe];exact hv⟩
  ·refine (ok b u q).stay (fun c v hc r=>k c v ?_ r) (fun c r=>by rw[zu (nown c b r)];exact r) fun c xs r=>by rw[zu (ntup c xs r)];exact r
   rcases hc with rfl|hc
   ·exact hbe
   ·rintro rfl
    rcases he with z|z
    ·exact nown c b hc z
    ·rw[hc] at z;cases z;exact hb rfl
end
structure Un(fs ex:List Addr)(H H':Hp)(h h':Heap):Prop where
 keep:∀b o,h.get? b=some o->H b=none->b ∉ fs->b ∉ ex->h'.get? b=some o
 slot:∀b o,h.get? b=some o->H b=none->b∈fs->b ∉ ex->∃sl,h'.get? b=some {o with slots:=sl}
 free:∀b o,h.get? b=some o->H b=none->b ∉ ex->H' b=none
 there:∀b o,h.get? b=some o->b ∉ ex->∃o',h'.get? b=some o'
 tups:∀b xs,H b=some (.tup xs)->H' b=some (.tup xs)
 frzs:∀b o u,H b=some (.frz o u)->H' b=some (.frz o u)
 tbls:∀b ps,H b=some (.tbl ps)->∃more,H' b=some (.tbl (ps++more))
section
variable{fs fs' ex ex':List Addr}{H H1 H2:Hp}{h h1 h2 h':Heap}{a x e:Addr}{o:HO}
theorem Un.any(u:Un fs ex H H1 h h1){b:Addr}{ob:Obj}(q:h.get? b=some ob)(n:H b=none)(hx:b ∉ ex):∃sl,h1.get? b=some {ob with slots:=sl}:=by
 by_cases hb:b∈fs
 ·exact u.slot b ob q n hb hx
 ·exact⟨ob.slots,u.keep b ob q n hb hx⟩
theorem Un.kept(k:∀b u,h.get? b=some u->h'.get? b=some u):Un fs ex H H h h':=
 ⟨fun b ob q _ _ _=>k b ob q,fun b ob q _ _ _=>⟨ob.slots,k b ob q⟩,fun _ _ _ n _=>n,fun b ob q _=>⟨ob,k b ob q⟩,fun _ _ q=>q,fun _ _ _ q=>q,fun _ ps q=>⟨#[],by rw[q];simp⟩⟩
theorem Un.refl:Un fs ex H H h h:=Un.kept fun _ _ q=>q
theorem Un.laid(k:∀b u,h.get? b=some u->h'.get? b=some u)(hp:h.objs.size<=a)(hn:H a=none):Un fs ex H (upd H a o) h h' where
 keep:=fun b u q _ _ _=>k b u q
 slot:=fun b u q _ _ _=>⟨u.slots,k b u q⟩
 free:=fun b u q n _=>by rw[zu (yW (yO (uY q) hp))];exact n
 there:=fun b u q _=>⟨u,k b u q⟩
 tups:=fun b xs q=>by rw[zu (zm q hn)];exact q
 frzs:=fun b u xs q=>by rw[zu (zm q hn)];exact q
 tbls:=fun b ps q=>⟨#[],by rw[zu (zm q hn),q];simp⟩
theorem Un.write(mu:Mut (H x))(he:e=x\/H e=some (.own x))(k:∀b u,b≠e->h.get? b=some u->h'.get? b=some u)(heo:∃u,h'.get? e=some u):Un fs ex H (upd H x o) h h':=by
 have hx:∀b,H b=none->b≠x:=fun b n z=>by subst z;rw[n] at mu;exact mu
 have hb:∀b,H b=none->b≠e:=fun b n z=>by
  subst z
  rcases he with r|r
  ·exact hx b n r
  ·rw[n] at r;cases r
 have hm:∀b u,H b=some u->¬Mut (some u)->b≠x:=fun b u q nm z=>by subst z;rw[q] at mu;exact nm mu
 refine⟨fun b u q n _ _=>k b u (hb b n) q,fun b u q n _ _=>⟨u.slots,k b u (hb b n) q⟩,fun b u q n _=>by rw[zu (hx b n)];exact n,fun b u q _=>?_,
  fun b xs q=>by rw[zu (hm b _ q fun z=>z)];exact q,fun b u xs q=>by rw[zu (hm b _ q fun z=>z)];exact q,fun b ps q=>⟨#[],by rw[zu (hm b _ q fun z=>z),q];simp⟩⟩
 by_cases hbe:b=e
 ·subst hbe;exact heo
 ·exact⟨u,k b u hbe q⟩
end
noncomputable def trk(h:Heap)(H:Hp):List Addr:=(wK h.objs.size).filter fun a=>(H a).isSome
def hidT(h:Heap)(H:Hp):Heap:=PySem.W.hideAll h (trk h H)
theorem zhU(h:Heap)(H:Hp):(hidT h H).objs.size=h.objs.size:=PySem.W.hideAll_size _ _
theorem zjA{h:Heap}{H:Hp}{b:Addr}{o:Obj}(e:h.get? b=some o)(n:H b=none):(hidT h H).get? b=some o:=
 PySem.W.hideAll_get _ e fun hm=>by
  have q:(H b).isSome=true:=(xZ.mp hm).2
  rw[n] at q;simp at q
theorem zlh{h:Heap}{H:Hp}{b:Addr}{o:Obj}(e:(hidT h H).get? b=some o):h.get? b=some o/\H b=none:=by
 have e':h.get? b=some o:=PySem.W.of_hideAll (trk h H) e
 refine⟨e',?_⟩
 cases q:H b with
 |none=>rfl
 |some x=>
  have hm:b∈trk h H:=xZ.mpr ⟨uH.mpr (uY e'),by simp[q]⟩
  have z:(hidT h H).get? b=none:=PySem.W.hideAll_none (trk h H) hm
  rw[z] at e;cases e
noncomputable def zli(g h:Heap)(L:Addr):List (Addr×Obj):=(wK h.objs.size).filterMap fun a=>if a=L\/(g.get? a).isSome=true then none else (h.get? a).map fun o=>(a,o)
def rest(g h:Heap)(L d:Addr):List (Addr×Obj):=(zli g h L).filter fun p=>decide (p.1≠d)
structure Mod(K:tP)(mg:Str->Option Value)(base:Heap):Prop where
 kin:K.In base
 glob:base.Ns tE mg
 blt:∃mb,base.Ns builtinsNs mb/\∀x:Str,x≠"__name__"->mb x=tJ x
 nolimit:base.NoLimit
structure Cx where
 prog:Program
 w:World
 K:tP
 mg:Str->Option Value
 base:Heap
 A:Around
 N:List Str
 s₀:Shared
 H₀:Hp
 env:Env
 outer:List Env
 stack:List Env
 ex:List Addr
 fn:Str->Bool
 calm:Bool
 pn:List (Addr×Obj)
 xe:Value->Shared->Prop
noncomputable def frs(l:List Env):List Addr:=l.filterMap (·.frame)
abbrev Cx.fs(X:Cx):List Addr:=frs X.outer
def Vis(sc:Scope)(x:Str):Prop:=sc.names.lookup x=some .local\/sc.names.lookup x=some .cell\/sc.names.lookup x=some .free
def Loc(sc:Scope)(x:Str):Prop:=sc.names.lookup x=some .local\/sc.names.lookup x=some .cell
def Look(env:Env)(h:Heap)(m:Str->Option Value)(x:Str)(u:Value):Prop:=
 (env.kindOf x=some .local/\m x=some u)\/((env.kindOf x=some .cell\/env.kindOf x=some .free)/\∃c,env.cells.lookup x=some c/\h.IsCell c (some u))
structure Cx.Ok(X:Cx):Prop where
 mod:Mod X.K X.mg X.base
 kind:X.env.scope.kind=.function
 glob:X.env.globals=tE
 blt:X.env.builtins=builtinsNs
 above:X.s₀.heap.objs.size<=X.env.locals
 inj:∀x y c,X.env.cells.lookup x=some c->X.env.cells.lookup y=some c->x=y
 has:∀x,(X.env.kindOf x=some .cell\/X.env.kindOf x=some .free)->∃c,X.env.cells.lookup x=some c
 cab:∀x c,X.fn x=true->X.env.cells.lookup x=some c->X.s₀.heap.objs.size<=c
 hd:X.calm=true->X.A.handled=none
 frames:X.A.frames=some X.stack
 stk:X.stack=X.outer\/(X.stack=X.env::X.outer/\X.env.frame=some X.env.locals)
 exf:∀b∈X.ex,b≠X.env.locals/\∀x c,X.env.cells.lookup x=some c->c≠b
 bs:∀b o,X.base.get? b=some o->X.s₀.heap.get? b=some o/\X.H₀ b=none
 bsz:X.base.objs.size<=X.s₀.heap.objs.size
 noex:∀b o,X.base.get? b=some o->b ∉ X.ex
 exfs:∀b∈X.ex,b ∉ X.fs
 funs:X.s₀.heap.FunFrames X.base X.outer
 frf:∀b∈X.fs,X.H₀ b=none
structure Inv(X:Cx)(pins:List (Addr×Obj))(σ:List (Option V))(H:Hp)(s:Shared):Prop where
 ok:X.Ok
 os:s.os=X.s₀.os
 bare:AllBare s.gens
 base:Un X.fs X.ex X.H₀ H X.s₀.heap s.heap
 loc:∃m,s.heap.Ns X.env.locals m/\∀(i:Nat)(x:Str)(v:V),X.N[i]?=some x->σ[i]?=some (some v)->Vis X.env.scope x->∃u,RelV v u/\Look X.env s.heap m x u
 cell:∀x c,X.env.cells.lookup x=some c->∃v,s.heap.IsCell c v
 free:H X.env.locals=none
 freeC:∀x c,X.env.cells.lookup x=some c->H c=none
 pin:∀p∈X.pn++pins,s.heap.get? p.1=some p.2/\H p.1=none/\p.1≠X.env.locals/\p.1 ∉ X.fs/\∀v,p.2.data≠.cell v
 hok:HOk X.prog X.w H s.heap
 len:σ.length=X.N.length
section
variable{X:Cx}{pins:List (Addr×Obj)}{σ:List (Option V)}{H H':Hp}{s:Shared}{h':Heap}
theorem Cx.Ok.nofr(ok:X.Ok){b:Addr}{o:Obj}(e:X.base.get? b=some o):b ∉ X.fs:=fun hb=>by
 have:=(ok.funs.mem hb).1
 rw[e] at this;cases this
theorem Inv.bs(I:Inv X pins σ H s):∀b o,X.base.get? b=some o->s.heap.get? b=some o/\H b=none:=fun b o e=>
 ⟨I.base.keep b o (I.ok.bs b o e).1 (I.ok.bs b o e).2 (I.ok.nofr e) (I.ok.noex b o e),I.base.free b o (I.ok.bs b o e).1 (I.ok.bs b o e).2 (I.ok.noex b o e)⟩
theorem Inv.bk(I:Inv X pins σ H s):∀b o,X.base.get? b=some o->s.heap.get? b=some o:=fun b o e=>(I.bs b o e).1
theorem Inv.mod(I:Inv X pins σ H s):Mod X.K X.mg X.base:=I.ok.mod
theorem Inv.kIn(I:Inv X pins σ H s):X.K.In s.heap:=I.ok.mod.kin.keeps I.bk
theorem Inv.lt(I:Inv X pins σ H s):X.env.locals<s.heap.objs.size:=let ⟨_,hn,_⟩:=I.loc;hn.lt
theorem Inv.sz(I:Inv X pins σ H s):X.s₀.heap.objs.size<=s.heap.objs.size:=yQ I.ok.above (wZ I.lt)
theorem Inv.nofs(I:Inv X pins σ H s){a:Addr}(h:s.heap.objs.size<=a):a ∉ X.fs:=fun hb=>by
 obtain⟨_,o,ho,_⟩:=I.ok.funs.mem hb
 exact absurd (yO (uY ho) (yQ I.sz h)) (xB _)
theorem Inv.cne(I:Inv X pins σ H s):∀x c,X.env.cells.lookup x=some c->c≠X.env.locals:=fun x c e z=>by
 obtain⟨v,o,ho,hd⟩:=I.cell x c e
 obtain⟨m,⟨o',es,ep,ho',hd',_⟩,_⟩:=I.loc
 rw[z,ho'] at ho;cases ho;rw[hd'] at hd;cases hd
theorem Inv.funs(I:Inv X pins σ H s):s.heap.FunFrames X.base X.outer:=by
 have all:∀(l:List Env),(∀b∈frs l,b∈X.fs)->X.s₀.heap.FunFrames X.base l->s.heap.FunFrames X.base l:=by
  intro l
  induction l with
  |nil=>intro _ _;trivial
  |cons env r ih=>
   intro hs hl
   obtain⟨hk,⟨L,o,hf,hn,ho,hd⟩,hr⟩:=hl
   have hL:L∈X.fs:=hs L (by unfold frs;rw[vK,hf];exact yY)
   obtain⟨sl,e⟩:=I.base.slot L o ho (I.ok.frf L hL) hL fun z=>I.ok.exfs L z hL
   exact⟨hk,⟨L,_,hf,hn,e,hd⟩,ih (fun b hb=>hs b (by unfold frs;rw[vK,hf];exact yV _ hb)) hr⟩
 exact all X.outer (fun _ hb=>hb) I.ok.funs
theorem Inv.stack(I:Inv X pins σ H s):s.heap.FunFrames X.base X.stack:=by
 rcases I.ok.stk with e|⟨e,hf⟩
 ·rw[e];exact I.funs
 ·rw[e]
  obtain⟨m,hn,_⟩:=I.loc
  refine .cons (by rw[I.ok.kind];decide) hf hn ?_ I.funs
  exact Heap.get?_none_of_le (yQ I.ok.bsz I.ok.above)
theorem Inv.stkSub(I:Inv X pins σ H s):∀b∈frs X.stack,b∈X.env.locals::X.fs:=fun b hb=>by
 rcases I.ok.stk with e|⟨e,hf⟩
 ·rw[e] at hb;exact yV _ hb
 ·rw[e] at hb
  unfold frs at hb
  rw[vK,hf] at hb
  exact hb
theorem Inv.stkFree(I:Inv X pins σ H s):∀b∈frs X.stack,H b=none:=fun b hb=>by
 rcases yS.mp (I.stkSub b hb) with e|hb
 ·rw[e];exact I.free
 ·obtain⟨_,o,ho,_⟩:=I.ok.funs.mem hb
  exact I.base.free b o ho (I.ok.frf b hb) fun z=>I.ok.exfs b z hb
theorem Inv.step{g':Array GenState}{t':Nat}{d':Drawn}{ch:List Addr}(I:Inv X pins σ H s)
  (hch:∀b∈ch,(b∈X.ex\/X.s₀.heap.objs.size<=b)/\b≠X.env.locals/\(∀x c,X.env.cells.lookup x=some c->c≠b)/\∀p∈X.pn++pins,p.1≠b)
  (keep:∀b o,b≠X.env.locals->b ∉ X.fs->b ∉ ch->s.heap.get? b=some o->H b=none->h'.get? b=some o)
  (slot:∀b o,b≠X.env.locals->b∈X.fs->b ∉ ch->s.heap.get? b=some o->H b=none->∃sl,h'.get? b=some {o with slots:=sl}) (free:∀b o,b ∉ ch->s.heap.get? b=some o->H b=none->H' b=none)
  (there:∀b o,b ∉ ch->s.heap.get? b=some o->∃o',h'.get? b=some o')
  (tups:∀b xs,H b=some (.tup xs)->H' b=some (.tup xs)) (frzs:∀b o u,H b=some (.frz o u)->H' b=some (.frz o u)) (tbls:∀b ps,H b=some (.tbl ps)->∃more,H' b=some (.tbl (ps++more)))
  (ns:∀m,s.heap.Ns X.env.locals m->h'.Ns X.env.locals m) (hok:HOk X.prog X.w H' h') (hg:AllBare g'):
  Inv X pins σ H' {s with heap:=h',gens:=g',drawn:=d',toks:=t'}:=by
 have neL:∀b o,X.s₀.heap.get? b=some o->b≠X.env.locals:=fun b o e=>yW (yO (uY e) I.ok.above)
 have neC:∀b o,X.s₀.heap.get? b=some o->b ∉ X.ex->b ∉ ch:=fun b o e hx hb=>by
  rcases (hch b hb).1 with z|z
  ·exact hx z
  ·exact absurd (yO (uY e) z) (xB _)
 have cellK:∀x c,X.env.cells.lookup x=some c->∀v,s.heap.IsCell c v->h'.IsCell c v:=fun x c e v ⟨o,ho,hd⟩=>by
  have nch:c ∉ ch:=fun z=>(hch c z).2.2.1 x c e rfl
  by_cases hc:c∈X.fs
  ·obtain⟨sl,q⟩:=slot c o (I.cne x c e) hc nch ho (I.freeC x c e)
   exact⟨_,q,hd⟩
  ·exact⟨o,keep c o (I.cne x c e) hc nch ho (I.freeC x c e),hd⟩
 refine⟨I.ok,I.os,hg,⟨fun b o e n hb hx=>?_,fun b o e n hb hx=>?_,fun b o e n hx=>?_,fun b o e hx=>?_,fun b xs e=>tups b xs (I.base.tups b xs e),fun b o xs e=>frzs b o xs (I.base.frzs b o xs e),fun b ps e=>?_⟩,?_,fun x c e=>?_,?_,fun x c e=>?_,fun p hp=>?_,hok,I.len⟩
 ·exact keep b o (neL b o e) hb (neC b o e hx) (I.base.keep b o e n hb hx) (I.base.free b o e n hx)
 ·obtain⟨sl,e1⟩:=I.base.slot b o e n hb hx
  obtain⟨sl',e2⟩:=slot b _ (neL b o e) hb (neC b o e hx) e1 (I.base.free b o e n hx)
  exact⟨sl',e2⟩
 ·obtain⟨o',e1⟩:=I.base.there b o e hx
  exact free b o' (neC b o e hx) e1 (I.base.free b o e n hx)
 ·obtain⟨o',e1⟩:=I.base.there b o e hx
  exact there b o' (neC b o e hx) e1
 ·obtain⟨m1,e1⟩:=I.base.tbls b ps e
  obtain⟨m2,e2⟩:=tbls b _ e1
  exact⟨m1++m2,by rw[e2,Array.append_assoc]⟩
 ·obtain⟨m,hn,hl⟩:=I.loc
  refine⟨m,ns m hn,fun i x v e1 e2 e3=>?_⟩
  obtain⟨u,r,l⟩:=hl i x v e1 e2 e3
  refine⟨u,r,?_⟩
  rcases l with l|⟨k,c,e,z⟩
  ·exact .inl l
  ·exact .inr ⟨k,c,e,cellK x c e _ z⟩
 ·obtain⟨v,z⟩:=I.cell x c e
  exact⟨v,cellK x c e v z⟩
 ·obtain⟨m,⟨o,_,_,ho,_⟩,_⟩:=I.loc
  exact free _ o (fun z=>(hch _ z).2.1 rfl) ho I.free
 ·obtain⟨v,o,ho,hd⟩:=I.cell x c e
  exact free c o (fun z=>(hch c z).2.2.1 x c e rfl) ho (I.freeC x c e)
 ·obtain⟨e,n,ne,nf,d⟩:=I.pin p hp
  have nch:p.1 ∉ ch:=fun z=>(hch p.1 z).2.2.2 p hp rfl
  exact⟨keep p.1 p.2 ne nf nch e n,free p.1 p.2 nch e n,ne,nf,d⟩
theorem Inv.un{t':Nat}(I:Inv X pins σ H s)(u:Un X.fs [] H H' s.heap h')(hok:HOk X.prog X.w H' h'):Inv X pins σ H' {s with heap:=h',toks:=t'}:=by
 obtain⟨m,⟨o,es,ep,ho,r⟩,_⟩:=id I.loc
 obtain⟨sl,hL⟩:=u.any ho I.free (by simp)
 exact I.step (g':=s.gens) (d':=s.drawn) (ch:=[]) (fun _ z=>nomatch z) (fun b o _ hb _ e n=>u.keep b o e n hb (by simp)) (fun b o _ hb _ e n=>u.slot b o e n hb (by simp)) (fun b o _ e n=>u.free b o e n (by simp)) (fun b o _ e=>u.there b o e (by simp)) u.tups u.frzs u.tbls (fun m' hm=>by
  obtain⟨o',es',ep',ho',r'⟩:=hm
  rw[ho] at ho';cases ho'
  exact⟨_,es',ep',hL,r'⟩) hok I.bare
theorem Inv.call{g':Array GenState}{t':Nat}{d':Drawn}{ch:List Addr}(I:Inv X pins σ H s)(u:Un (frs X.stack) ch H H' s.heap h')(hok:HOk X.prog X.w H' h')(hg:AllBare g')
  (hch:∀b∈ch,(b∈X.ex\/X.s₀.heap.objs.size<=b)/\b≠X.env.locals/\(∀x c,X.env.cells.lookup x=some c->c≠b)/\∀p∈X.pn++pins,p.1≠b):
  Inv X pins σ H' {s with heap:=h',gens:=g',drawn:=d',toks:=t'}:=by
 obtain⟨m,⟨o,es,ep,ho,r⟩,_⟩:=id I.loc
 obtain⟨sl,hL⟩:=u.any ho I.free fun z=>(hch _ z).2.1 rfl
 exact I.step (ch:=ch) hch (fun b o hL hb hc e n=>u.keep b o e n (fun z=>(yS.mp (I.stkSub b z)).elim hL hb) hc) (fun b o _ _ hc e n=>u.any e n hc) (fun b o hc e n=>u.free b o e n hc) (fun b o hc e=>u.there b o e hc) u.tups u.frzs u.tbls (fun m' hm=>by
  obtain⟨o',es',ep',ho',r'⟩:=hm
  rw[ho] at ho';cases ho'
  exact⟨_,es',ep',hL,r'⟩) hok hg
theorem Inv.turned{t':Nat}{it:Addr}(I:Inv X pins σ H s)(k:∀b o,b≠it->s.heap.get? b=some o->h'.get? b=some o)(hn:H it=none)(hL:it≠X.env.locals)
  (h1:it∈X.ex\/X.s₀.heap.objs.size<=it) (h2:∀x c,X.env.cells.lookup x=some c->c≠it) (h3:∀p∈X.pn++pins,p.1≠it):Inv X pins σ H {s with heap:=h',toks:=t'}:=by
 have nit:∀b u,H b=some u->b≠it:=fun b u e z=>by rw[z,hn] at e;cases e
 refine I.step (g':=s.gens) (d':=s.drawn) (ch:=[it]) (fun b hb=>?_) (fun b o _ _ hc e _=>k b o (fun z=>hc (by simp[z])) e) (fun b o _ _ hc e _=>⟨o.slots,k b o (fun z=>hc (by simp[z])) e⟩) (fun _ _ _ _ n=>n)
  (fun b o hc e=>⟨o,k b o (fun z=>hc (by simp[z])) e⟩) (fun _ _ e=>e) (fun _ _ _ e=>e) (fun b ps e=>⟨#[],by rw[e];simp⟩) (fun m hm=>?_) (fun b u e=>?_) I.bare
 ·have e:b=it:=by simpa using hb
  subst e
  exact⟨h1,hL,h2,h3⟩
 ·obtain⟨o,es,ep,ho,r⟩:=hm
  exact⟨o,es,ep,k _ o (Ne.symm hL) ho,r⟩
 ·refine (I.hok b u e).stay (fun c v hc q=>k c v ?_ q) (fun _ q=>q) fun _ _ q=>q
  rcases hc with z|z
  ·rw[z];exact nit b u e
  ·exact nit c _ z
theorem Inv.tok(I:Inv X pins σ H s)(t:Nat):Inv X pins σ H {s with toks:=t}:=I.un (h':=s.heap) (t':=t) Un.refl I.hok
theorem Inv.kept{t':Nat}(I:Inv X pins σ H s)(k:∀b u,s.heap.get? b=some u->h'.get? b=some u):Inv X pins σ H {s with heap:=h',toks:=t'}:=I.un (Un.kept k) (I.hok.kept k)
theorem Inv.laid{a:Addr}{o:HO}{t':Nat}(I:Inv X pins σ H s)(k:∀b u,s.heap.get? b=some u->h'.get? b=some u)(hp:s.heap.objs.size<=a)(new:Zw X.prog X.w (upd H a o) h' a o):
  Inv X pins σ (upd H a o) {s with heap:=h',toks:=t'}:=I.un (Un.laid k hp (I.hok.fresh hp)) (I.hok.laid k hp new)
theorem Inv.write{x e:Addr}{o:HO}{t':Nat}(I:Inv X pins σ H s)(mu:Mut (H x))(he:e=x\/H e=some (.own x))(k:∀b u,b≠e->s.heap.get? b=some u->h'.get? b=some u)(heo:∃u,h'.get? e=some u)
  (new:Zw X.prog X.w (upd H x o) h' x o):Inv X pins σ (upd H x o) {s with heap:=h',toks:=t'}:=I.un (Un.write mu he k heo) (I.hok.write mu he k heo new)
theorem Inv.weak{σ':List (Option V)}(I:Inv X pins σ H s)(hl:σ'.length=σ.length)(w:∀(i:Nat) v,σ'[i]?=some (some v)->σ[i]?=some (some v)):Inv X pins σ' H s:=
 ⟨I.ok,I.os,I.bare,I.base,let ⟨m,hn,hl'⟩:=I.loc;⟨m,hn,fun i x v e1 e2 e3=>hl' i x v e1 (w i v e2) e3⟩,I.cell,I.free,I.freeC,I.pin,I.hok,hl.trans I.len⟩
theorem Inv.pins_of{pins':List (Addr×Obj)}(I:Inv X pins σ H s)(h:∀p∈pins',s.heap.get? p.1=some p.2/\H p.1=none/\p.1≠X.env.locals/\p.1 ∉ X.fs/\∀v,p.2.data≠.cell v):Inv X pins' σ H s:=
 ⟨I.ok,I.os,I.bare,I.base,I.loc,I.cell,I.free,I.freeC,fun p hp=>(yZ.mp hp).elim (fun z=>I.pin p (vF _ z)) (h p),I.hok,I.len⟩
theorem zgs{N:List Str}(hN:N.Nodup){i j:Nat}{x:Str}(a:N[i]?=some x)(b:N[j]?=some x):i=j:=by
 obtain⟨h1,e1⟩:=yC.mp a
 obtain⟨h2,e2⟩:=yC.mp b
 exact (List.getElem_inj hN).mp (e1.trans e2.symm)
theorem zeF{M:Model}{A:Around}{E:Value->Shared->Prop}{i:Nat}{x:Str}{v:V}{u:Value}{Q:Unit->Shared->Prop}(I:Inv X pins σ H s)(hN:X.N.Nodup)(hi:X.N[i]?=some x)(hx:Loc X.env.scope x)(r:RelV v u)
  (h:∀s',Inv X pins (σ.set i (some v)) H s'->(∃a,Heap.SameBut a s.heap s'.heap/\(a=X.env.locals\/X.env.cells.lookup x=some a))->Q () s') (hf:X.fn x=true\/X.env.scope.names.lookup x=some .local:=by first|exact .inl rfl|exact .inr rfl|assumption):wpAny M A (storeName X.env x u) Q E s:=by
 obtain⟨m,hn,hl⟩:=id I.loc
 have hcls:(X.env.scope.kind==.class||(X.env.scope.kind==.module&&X.env.locals != X.env.globals))=false:=by rw[I.ok.kind];rfl
 have hiσ:i<σ.length:=by rw[I.len];exact (yC.mp hi).1
 have cne:=I.cne
 have tracked:∀{a:Addr}{h':Heap},(∃o,s.heap.get? a=some o/\H a=none)->Heap.SameBut a s.heap h'->HOk X.prog X.w H h':=fun {a h'} ha hs b ob e=>by
  obtain⟨_,_,hfree⟩:=ha
  refine (I.hok b ob e).stay (fun c w' hc q=>(hs.2 c ?_).trans q) (fun _ q=>q) fun _ _ q=>q
  rintro rfl
  rcases hc with rfl|hc
  ·rw[hfree] at e;cases e
  ·rw[hfree] at hc;cases hc
 rcases hx with hk|hk
 ·refine wpAny_storeName_local hk hn (fun h' hn' hs=>?_) hcls
  obtain⟨oL,_,_,hoL,_⟩:=id hn
  refine h _ ⟨I.ok,I.os,I.bare,⟨fun b o e n hb hx=>?_,fun b o e n hb hx=>?_,I.base.free,fun b o e hx=>?_,I.base.tups,I.base.frzs,I.base.tbls⟩,⟨_,hn',fun j y v' e1 e2 e3=>?_⟩,fun y c e=>?_,I.free,I.freeC,fun p hp=>?_,tracked ⟨oL,hoL,I.free⟩ hs,by simpa using I.len⟩ ⟨_,hs,.inl rfl⟩
  ·exact (hs.2 b (yW (yO (uY e) I.ok.above))).trans (I.base.keep b o e n hb hx)
  ·obtain⟨sl,e1⟩:=I.base.slot b o e n hb hx
   exact⟨sl,(hs.2 b (yW (yO (uY e) I.ok.above))).trans e1⟩
  ·obtain⟨o',e1⟩:=I.base.there b o e hx
   exact⟨o',(hs.2 b (yW (yO (uY e) I.ok.above))).trans e1⟩
  ·by_cases hj:j=i
   ·subst hj
    rw[hi] at e1;cases e1
    rw[vZ hiσ] at e2
    cases e2
    exact⟨u,r,.inl ⟨hk,by simp⟩⟩
   ·rw[uI (Ne.symm hj)] at e2
    obtain⟨u',r',q⟩:=hl j y v' e1 e2 e3
    refine⟨u',r',?_⟩
    rcases q with⟨k,e⟩|⟨k,c,e,z⟩
    ·refine .inl ⟨k,?_⟩
     have:y≠x:=fun e=>hj (zgs hN e1 (e▸hi))
     simp[this,e]
    ·exact .inr ⟨k,c,e,z.sameBut hs (cne y c e)⟩
  ·obtain⟨w',z⟩:=I.cell y c e
   exact⟨w',z.sameBut hs (cne y c e)⟩
  ·obtain⟨e,n,ne,nf,d⟩:=I.pin p hp
   exact⟨(hs.2 p.1 ne).trans e,n,ne,nf,d⟩
 ·have hfn:X.fn x=true:=by
   rcases hf with z|z
   ·exact z
   ·rw[z] at hk;cases hk
  obtain⟨c,hc⟩:=I.ok.has x (.inl hk)
  obtain⟨w',z⟩:=I.cell x c hc
  refine wpAny_storeName_cell I.ok.kind hk hc z (fun h' hc' hs=>?_)
  obtain⟨oc,hoc,hocd⟩:=id z
  refine h {s with heap:=h'} ⟨I.ok,I.os,I.bare,⟨fun b o e n hb hx=>?_,fun b o e n hb hx=>?_,I.base.free,fun b o e hx=>?_,I.base.tups,I.base.frzs,I.base.tbls⟩,⟨m,hn.sameBut hs (Ne.symm (cne x c hc)),fun j y v' e1 e2 e3=>?_⟩,fun y c' e=>?_,I.free,I.freeC,fun p hp=>?_,tracked ⟨oc,hoc,I.freeC x c hc⟩ hs,by simpa using I.len⟩ ⟨c,hs,.inr hc⟩
  ·exact (hs.2 b (yW (yO (uY e) (I.ok.cab x c hfn hc)))).trans (I.base.keep b o e n hb hx)
  ·obtain⟨sl,e1⟩:=I.base.slot b o e n hb hx
   exact⟨sl,(hs.2 b (yW (yO (uY e) (I.ok.cab x c hfn hc)))).trans e1⟩
  ·obtain⟨o',e1⟩:=I.base.there b o e hx
   exact⟨o',(hs.2 b (yW (yO (uY e) (I.ok.cab x c hfn hc)))).trans e1⟩
  ·by_cases hj:j=i
   ·subst hj
    rw[hi] at e1;cases e1
    rw[vZ hiσ] at e2
    cases e2
    exact⟨u,r,.inr ⟨.inl hk,c,hc,hc'⟩⟩
   ·rw[uI (Ne.symm hj)] at e2
    obtain⟨u',r',q⟩:=hl j y v' e1 e2 e3
    refine⟨u',r',?_⟩
    rcases q with q|⟨k,c',e,z'⟩
    ·exact .inl q
    ·refine .inr ⟨k,c',e,z'.sameBut hs ?_⟩
     rintro rfl
     exact hj (zgs hN e1 (I.ok.inj _ _ _ e hc▸hi))
  ·by_cases hcc:c'=c
   ·subst hcc;exact⟨_,hc'⟩
   ·obtain⟨w2,z2⟩:=I.cell y c' e
    exact⟨w2,z2.sameBut hs hcc⟩
  ·obtain⟨e,n,ne,nf,d⟩:=I.pin p hp
   refine⟨(hs.2 p.1 ?_).trans e,n,ne,nf,d⟩
   intro q
   rw[q,hoc] at e
   have q':oc=p.2:=Option.some.inj e
   exact d w' (by rw[←q'];exact hocd)
theorem zdH{M:Model}{A:Around}{E:Value->Shared->Prop}{i:Nat}{x:Str}{v:V}{u:Value}{Q:Unit->Shared->Prop}(I:Inv X pins σ H s)(hN:X.N.Nodup)(hi:X.N[i]?=some x)(hx:Loc X.env.scope x)(r:RelV v u)
  (h:∀s',Inv X pins (σ.set i (some v)) H s'->Q () s') (hf:X.fn x=true\/X.env.scope.names.lookup x=some .local:=by first|exact .inl rfl|exact .inr rfl|assumption):wpAny M A (storeName X.env x u) Q E s:=
 zeF I hN hi hx r (fun s' I' _=>h s' I') hf
theorem Inv.call'{s':Shared}{ch:List Addr}(I:Inv X pins σ H s)(ho:s'.os=s.os)(u:Un (frs X.stack) ch H H' s.heap s'.heap)(hok:HOk X.prog X.w H' s'.heap)(hg:AllBare s'.gens)
  (hch:∀b∈ch,(b∈X.ex\/X.s₀.heap.objs.size<=b)/\b≠X.env.locals/\(∀x c,X.env.cells.lookup x=some c->c≠b)/\∀p∈X.pn++pins,p.1≠b):Inv X pins σ H' s':=by
 obtain⟨h',g',d',t',o'⟩:=s'
 have e:o'=s.os:=ho
 subst e
 exact I.call (g':=g') (t':=t') (d':=d') u hok hg hch
end
abbrev XK:=Value->Option Addr->Hp->Prop
abbrev St:=List (Option V)
abbrev VK:=V->Hp->Prop
abbrev TE:=St->Hp->VK->Prop
abbrev TT:=St->Hp->(Bool->Hp->Prop)->Prop
abbrev TA:=St->Hp->(List V->Hp->Prop)->Prop
structure Ends where
 nx:St->Hp->Prop
 rt:VK
 bk:St->Hp->Prop:=fun _ _=>False
 ct:St->Hp->Prop:=fun _ _=>False
abbrev TS:=Ends->St->Hp->Prop
def EP(X:Cx)(pins:List (Addr×Obj))(σ:St)(Q:VK)(u:Value)(s':Shared):Prop:=∃v H',Inv X pins σ H' s'/\RelV v u/\Q v H'
def TP(X:Cx)(pins:List (Addr×Obj))(σ:St)(Q:Bool->Hp->Prop)(b:Bool)(s':Shared):Prop:=∃H',Inv X pins σ H' s'/\Q b H'
def AP(X:Cx)(pins:List (Addr×Obj))(σ:St)(Q:List V->Hp->Prop)(us:List Value)(s':Shared):Prop:=∃vs H',Inv X pins σ H' s'/\Vals vs us/\Q vs H'
def SP(X:Cx)(pins:List (Addr×Obj))(D:Ends)(f:Flow)(s':Shared):Prop:=
 match f with
 |.next=>∃σ' H',Inv X pins σ' H' s'/\D.nx σ' H'
 |.brk=>∃σ' H',Inv X pins σ' H' s'/\D.bk σ' H'
 |.cont=>∃σ' H',Inv X pins σ' H' s'/\D.ct σ' H'
 |.ret u=>∃v σ' H',Inv X pins σ' H' s'/\RelV v u/\D.rt v H'
def PE(X:Cx)(e:Expr)(t:TE):Prop:=
 ∀(pins:List (Addr×Obj))(s:Shared)(σ:St)(H:Hp)(Q:VK),Inv X pins σ H s->t σ H Q->wpAny (model X.prog X.w) X.A (eval e X.env) (EP X pins σ Q) X.xe s
def PT(X:Cx)(e:Expr)(t:TT):Prop:=
 ∀(pins:List (Addr×Obj))(s:Shared)(σ:St)(H:Hp)(Q:Bool->Hp->Prop),Inv X pins σ H s->t σ H Q->wpAny (model X.prog X.w) X.A (isTrue e X.env (eval e X.env)) (TP X pins σ Q) X.xe s
def PW(X:Cx)(e:Expr)(t:TT):Prop:=
 ∀(whole:Sem Value)(pins:List (Addr×Obj))(s:Shared)(σ:St)(H:Hp)(Q:Bool->Hp->Prop),Inv X pins σ H s->t σ H Q->wpAny (model X.prog X.w) X.A (isTrue e X.env whole) (TP X pins σ Q) X.xe s
theorem PW.pt{X:Cx}{e:Expr}{t:TT}(h:PW X e t):PT X e t:=h _
def PA(X:Cx)(es:List Expr)(t:TA):Prop:=
 ∀(pos:Pos)(pins:List (Addr×Obj))(s:Shared)(σ:St)(H:Hp)(Q:List V->Hp->Prop),Inv X pins σ H s->t σ H Q->wpAny (model X.prog X.w) X.A (spliced (backTo pos (tI es X.env))) (AP X pins σ Q) X.xe s
def PS(X:Cx)(st:Stmt)(t:TS):Prop:=
 ∀(pins:List (Addr×Obj))(s:Shared)(σ:St)(H:Hp)(D:Ends),Inv X pins σ H s->t D σ H->wpAny (model X.prog X.w) X.A (exec st X.env) (SP X pins D) X.xe s
def PSs(X:Cx)(st:List Stmt)(t:TS):Prop:=
 ∀(pins:List (Addr×Obj))(s:Shared)(σ:St)(H:Hp)(D:Ends),Inv X pins σ H s->t D σ H->wpAny (model X.prog X.w) X.A (execs st X.env) (SP X pins D) X.xe s
theorem thn{α:Type}{t:Sem α}{Q Q':α->Shared->Prop}{M:Model}{A:Around}{E:Value->Shared->Prop}{s:Shared}(h:wpAny M A t Q E s)(hQ:∀a s,Q a s->Q' a s):wpAny M A t Q' E s:=wpAny_mono h hQ fun _ _ x=>x
section
variable{X:Cx}
def tVar(i:Nat):TE:=fun σ H Q=>∃v,σ[i]?=some (some v)/\Q v H
def tC(v:V):TE:=fun _ H Q=>Q v H
theorem zmA{i:Nat}{x:Str}{pos:Pos}(hN:X.N[i]?=some x)(hv:Vis X.env.scope x)(hd:(x==("__debug__":Str))=false:=by decide)(hcd:(x==("__classdict__":Str))=false:=by decide):PE X (.Name x pos) (tVar i):=by
 intro pins s σ H Q I h
 obtain⟨v,e,h⟩:=h
 obtain⟨m,hn,hl⟩:=I.loc
 obtain⟨u,r,l⟩:=hl i x v hN e hv
 have fin:EP X pins σ Q u s:=⟨v,H,I,r,h⟩
 rcases l with⟨hk,hm⟩|⟨hk,c,hc,hcell⟩
 ·exact wpAny_Name (wpAny_loadName_local I.ok.kind hk hn hm fin) hd
 ·rcases hk with hk|hk
  ·exact wpAny_Name (wpAny_loadName_cell I.ok.kind hk hc hcell fin) hd
  ·exact wpAny_Name (wpAny_loadName_free I.ok.kind hk hc hcell fin hcd) hd
theorem zk {i j pos}:PE X (.Constant (.int i) j pos) (tC (.int i)):=fun _ _ _ H _ I h=>wpAny_Constant_int ⟨.int i,H,I.tok _,⟨_,rfl⟩,h⟩
theorem zfC {b j pos}:PE X (.Constant (.bool b) j pos) (tC (.bl b)):=fun _ _ _ H _ I h=>Constant_bool ⟨.bl b,H,I,rfl,h⟩
theorem zaB {j pos}:PE X (.Constant .none j pos) (tC .non):=fun _ _ _ H _ I h=>Constant_none ⟨.non,H,I,rfl,h⟩
theorem zA {x j pos}:PE X (.Constant (.str x) j pos) (tC (.str x)):=fun _ _ _ H _ I h=>Calls.Constant_str ⟨.str x,H,I.tok _,⟨_,rfl⟩,h⟩
def Gl(X:Cx)(x:Str):Prop:=X.env.kindOf x=some .globalImplicit
theorem zfD{E:Value->Shared->Prop}{pins:List (Addr×Obj)}{s:Shared}{σ:St}{H:Hp}{x:Str}{u:Value}{pos:Pos}{Q:Value->Shared->Prop}(I:Inv X pins σ H s)(hg:Gl X x)(hm:X.mg x=some u)(h:Q u s)
  (hd:(x==("__debug__":Str))=false:=by decide):wpAny (model X.prog X.w) X.A (eval (.Name x pos) X.env) Q E s:=
 Calls.Name_function_global I.ok.kind hg (Calls.loadGlobal_global (by rw[I.ok.glob];exact I.mod.glob.keeps I.bk) hm h) hd
theorem zbu{E:Value->Shared->Prop}{pins:List (Addr×Obj)}{s:Shared}{σ:St}{H:Hp}{x:Str}{u:Value}{pos:Pos}{Q:Value->Shared->Prop}(I:Inv X pins σ H s)(hg:Gl X x)(hm:X.mg x=none)(hv:tJ x=some u)(h:Q u s)
  (hn:x≠"__name__":=by decide) (hd:(x==("__debug__":Str))=false:=by decide):wpAny (model X.prog X.w) X.A (eval (.Name x pos) X.env) Q E s:=by
 obtain⟨mb,h1,h2⟩:=I.mod.blt
 exact Calls.Name_function_global I.ok.kind hg (Calls.loadGlobal_builtin (by rw[I.ok.glob];exact I.mod.glob.keeps I.bk) hm (by rw[I.ok.blt];exact h1.keeps I.bk) ((h2 x hn).trans hv) h) hd
theorem Zd{x:Str}{v:V}{u:Value}{pos:Pos}(hg:Gl X x)(hm:X.mg x=some u)(r:RelV v u)(hd:(x==("__debug__":Str))=false:=by decide):PE X (.Name x pos) (tC v):=
 fun _ _ _ H _ I h=>zfD I hg hm ⟨v,H,I,r,h⟩ hd
theorem zlj{x:Str}{v:V}{u:Value}{pos:Pos}(hg:Gl X x)(hm:X.mg x=none)(hv:tJ x=some u)(r:RelV v u)(hn:x≠"__name__":=by decide)(hd:(x==("__debug__":Str))=false:=by decide):PE X (.Name x pos) (tC v):=
 fun _ _ _ H _ I h=>zbu I hg hm hv ⟨v,H,I,r,h⟩ hn hd
variable{a b:Expr}{ta tb:TE}{pos:Pos}
def PC(X:Cx)(op:CmpOp)(a b:Expr)(t:TE):Prop:=
 ∀(pins:List (Addr×Obj))(s:Shared)(σ:St)(H:Hp)(Q:VK),Inv X pins σ H s->t σ H Q->
  wpAny (model X.prog X.w) X.A (eval a X.env) (fun v s₁=>wpAny (model X.prog X.w) X.A (eval b X.env) (fun u s₂=>wpAny (model X.prog X.w) X.A (tK op v u) (EP X pins σ Q) X.xe s₂) X.xe s₁) X.xe s
theorem nobehind(b:Expr){op:CmpOp}(h:op≠.In)(h2:op≠.NotIn):behindInMarks op b=false:=by
 have e1:(op==CmpOp.In)=false:=by cases op<;>first|rfl|exact absurd rfl h
 have e2:(op==CmpOp.NotIn)=false:=by cases op<;>first|rfl|exact absurd rfl h2
 cases b<;>simp[behindInMarks,e1,e2]
def tIsN(ta:TE):TE:=fun σ H Q=>ta σ H fun x H1=>Q (.bl (decide (x=.non))) H1
def zmB(ta:TE):TE:=fun σ H Q=>ta σ H fun x H1=>Q (.bl (!decide (x=.non))) H1
theorem RelV.none_iff{x:V}{v:Value}(r:RelV x v):(v==Value.none)=decide (x=.non):=by
 cases x with
 |non=>cases r;rfl
 |bl _=>cases r;rfl
 |int _=>obtain⟨t,rfl⟩:=r;rfl
 |str _=>obtain⟨t,rfl⟩:=r;rfl
 |byt _=>obtain⟨t,rfl⟩:=r;rfl
 |flt _=>obtain⟨t,rfl⟩:=r;rfl
 |ref _=>cases r;rfl
 |ty _=>cases r;rfl
theorem zb5 {j pos'} (ha:PE X a ta):PC X .Is a (.Constant .none j pos') (tIsN ta):=by
 intro pins s σ H Q I h
 refine thn (ha pins s σ H _ I h) fun v s1 ⟨x,H1,I1,r1,q1⟩=>?_
 exact Constant_none (is_none_gen ⟨.bl _,H1,I1,by rw[r1.none_iff];rfl,q1⟩)
theorem zax {j pos'} (ha:PE X a ta):PC X .IsNot a (.Constant .none j pos') (zmB ta):=by
 intro pins s σ H Q I h
 refine thn (ha pins s σ H _ I h) fun v s1 ⟨x,H1,I1,r1,q1⟩=>?_
 exact Constant_none (isnot_none_gen ⟨.bl _,H1,I1,by rw[r1.none_iff];rfl,q1⟩)
def tB(t:TE):TT:=fun σ H Q=>t σ H fun x H1=>∃c,x=.bl c/\Q c H1
theorem zeG{op:CmpOp}{t:TE}(h:PC X op a b t)(h1:behindInMarks op b=false:=by first|exact nobehind _ (by decide) (by decide)|rfl):PE X (.Compare a [op] [b] pos) t:=fun pins s σ H Q I hw=>wpAny_Compare1 (h pins s σ H Q I hw) h1
theorem zao{op:CmpOp}{t:TE}(h:PC X op a b t)(h1:behindInMarks op b=false:=by first|exact nobehind _ (by decide) (by decide)|rfl):PT X (.Compare a [op] [b] pos) (tB t):=by
 intro pins s σ H Q I hw
 refine wpAny_isTrue_Compare1 (thn (h pins s σ H _ I hw) fun v s1 h1=>thn h1 fun u s2 h2=>thn h2 fun c s3 ⟨x,H1,I1,r1,q1⟩=>?_) h1
 obtain⟨d,rfl,q⟩:=q1
 cases r1
 exact wpAny_truthy_bool ⟨H1,I1,q⟩
theorem zZ{e:Expr}{t:TE}(h:PE X e t)(he:∀whole,isTrue e X.env whole=(do let v ←whole;standAt e.pos;holding [v] (truthy v)):=by intro _;rfl):PT X e (tB t):=by
 intro pins s σ H Q I hw
 refine isTrue_plain (thn (h pins s σ H _ I hw) fun v s1 ⟨x,H1,I1,r1,q1⟩=>?_) (he _)
 obtain⟨d,rfl,q⟩:=q1
 cases r1
 exact wpAny_truthy_bool ⟨H1,I1,q⟩
variable{tA tB':TT}{rest:List Expr}
def tAnd(t u:TT):TT:=fun σ H Q=>t σ H fun c H1=>if c=true then u σ H1 Q else Q false H1
def tOr(t u:TT):TT:=fun σ H Q=>t σ H fun c H1=>if c=true then Q true H1 else u σ H1 Q
def tNot(t:TT):TT:=fun σ H Q=>t σ H fun c H1=>Q (!c) H1
theorem zbO(ha:PT X a tA):PW X (.BoolOp .And [a] pos) tA:=by
 intro wh pins s σ H Q I h
 refine isTrue_and (thn (ha pins s σ H Q I h) fun c s1 e=>?_)
 cases c with
 |true=>exact isTrue_and_nil e
 |false=>exact e
theorem zbv(ha:PT X a tA):PW X (.BoolOp .Or [a] pos) tA:=by
 intro wh pins s σ H Q I h
 refine isTrue_or (thn (ha pins s σ H Q I h) fun c s1 e=>?_)
 cases c with
 |false=>exact isTrue_or_nil e
 |true=>exact e
theorem zcu(ha:PT X a tA)(hb:PW X (.BoolOp .And (b::rest) pos) tB'):PW X (.BoolOp .And (a::b::rest) pos) (tAnd tA tB'):=by
 intro wh pins s σ H Q I h
 refine isTrue_and (thn (ha pins s σ H _ I h) fun c s1 ⟨H1,I1,q1⟩=>?_)
 cases c with
 |true=>exact hb wh pins s1 σ H1 Q I1 q1
 |false=>exact⟨H1,I1,q1⟩
theorem zcc(ha:PT X a tA)(hb:PW X (.BoolOp .Or (b::rest) pos) tB'):PW X (.BoolOp .Or (a::b::rest) pos) (tOr tA tB'):=by
 intro wh pins s σ H Q I h
 refine isTrue_or (thn (ha pins s σ H _ I h) fun c s1 ⟨H1,I1,q1⟩=>?_)
 cases c with
 |true=>exact⟨H1,I1,q1⟩
 |false=>exact hb wh pins s1 σ H1 Q I1 q1
theorem ZK(ha:PT X a tA):PT X (.UnaryOp .Not a pos) (tNot tA):=by
 intro pins s σ H Q I h
 exact isTrue_not (ha pins s σ H (fun c H1=>Q (!c) H1) I h)
def zmC(ta tb:TE):TE:=fun σ H Q=>ta σ H fun x H1=>∃c,x=.bl c/\if c=true then tb σ H1 Q else Q (.bl false) H1
def tOrV(ta tb:TE):TE:=fun σ H Q=>ta σ H fun x H1=>∃c,x=.bl c/\if c=true then Q (.bl true) H1 else tb σ H1 Q
def znz(ta:TE):TE:=fun σ H Q=>ta σ H fun x H1=>∃c,x=.bl c/\Q (.bl (!c)) H1
theorem zaC {op}{t:TE} (h:PE X a t):PE X (.BoolOp op [a] pos) t:=fun pins s σ H Q I hw=>BoolOp_one (h pins s σ H Q I hw)
theorem zas(ha:PE X a ta)(hb:PE X (.BoolOp .And (b::rest) pos) tb):PE X (.BoolOp .And (a::b::rest) pos) (zmC ta tb):=by
 intro pins s σ H Q I h
 refine BoolOp_and (thn (ha pins s σ H _ I h) fun v s1 ⟨x,H1,I1,r1,q1⟩=>?_)
 obtain⟨c,rfl,q1⟩:=q1
 cases r1
 refine wpAny_truthy_bool ?_
 cases c with
 |true=>exact hb pins s1 σ H1 Q I1 q1
 |false=>exact⟨.bl false,H1,I1,rfl,q1⟩
theorem zlk(ha:PE X a ta)(hb:PE X (.BoolOp .Or (b::rest) pos) tb):PE X (.BoolOp .Or (a::b::rest) pos) (tOrV ta tb):=by
 intro pins s σ H Q I h
 refine BoolOp_or (thn (ha pins s σ H _ I h) fun v s1 ⟨x,H1,I1,r1,q1⟩=>?_)
 obtain⟨c,rfl,q1⟩:=q1
 cases r1
 refine wpAny_truthy_bool ?_
 cases c with
 |false=>exact hb pins s1 σ H1 Q I1 q1
 |true=>exact⟨.bl true,H1,I1,rfl,q1⟩
theorem zmD(ha:PE X a ta):PE X (.UnaryOp .Not a pos) (znz ta):=by
 intro pins s σ H Q I h
 refine UnaryOp_ (thn (ha pins s σ H _ I h) fun v s1 ⟨x,H1,I1,r1,q1⟩=>?_)
 obtain⟨c,rfl,q1⟩:=q1
 cases r1
 exact not_of (wpAny_truthy_bool ⟨.bl (!c),H1,I1,rfl,q1⟩)
def tIf(t:TT)(ta tb:TE):TE:=fun σ H Q=>t σ H fun c H1=>if c=true then ta σ H1 Q else tb σ H1 Q
theorem ZO{c:Expr}(hc:PT X c tA)(ha:PE X a ta)(hb:PE X b tb):PE X (.IfExp c a b pos) (tIf tA ta tb):=by
 intro pins s σ H Q I h
 refine wpAny_IfExp (thn (hc pins s σ H _ I h) fun d s1 ⟨H1,I1,q1⟩=>?_)
 cases d with
 |true=>exact ha pins s1 σ H1 Q I1 q1
 |false=>exact hb pins s1 σ H1 Q I1 q1
end
def SqL(K:tP)(H:Hp)(a:Addr)(xs:List V):Prop:=
 Rd H a (.lst xs) \/
  ∃(o:Obj)(its:Array Value)(n:Nat),K.lookup a=some o/\o.cls=.type "list"/\o.dict=none/\o.data=.seq its n/\its.size<=tF/\Vals xs its.toList
def SqT(K:tP)(H:Hp)(a:Addr)(xs:List V):Prop:=
 Rd H a (.tup xs) \/
  ∃(o:Obj)(its:Array Value)(n:Nat),K.lookup a=some o/\o.cls=.type "tuple"/\o.data=.seq its n/\its.size<=tF/\Vals xs its.toList
noncomputable def absV:Value->Option V
 |.none=>some .non
 |.bool b=>some (.bl b)
 |.int i _=>some (.int i)
 |.str x _=>some (.str x)
 |.bytes b _=>some (.byt b)
 |.float b _=>some (.flt b)
 |.ref a=>some (.ref a)
 |.type n=>some (.ty n)
 |_=>none
theorem RelV.abs{x:V}{u:Value}(r:RelV x u):absV u=some x:=by
 cases x with
 |non=>cases r;rfl
 |bl _=>cases r;rfl
 |int _=>obtain⟨t,rfl⟩:=r;rfl
 |str _=>obtain⟨t,rfl⟩:=r;rfl
 |byt _=>obtain⟨t,rfl⟩:=r;rfl
 |flt _=>obtain⟨t,rfl⟩:=r;rfl
 |ref _=>cases r;rfl
 |ty _=>cases r;rfl
theorem RelV.inj{x y:V}{u:Value}(r:RelV x u)(q:RelV y u):x=y:=Option.some.inj (r.abs.symm.trans q.abs)
theorem Vals.inj:∀{xs ys:List V}{us:List Value},Vals xs us->Vals ys us->xs=ys
 |_,_,_,.nil,.nil=>rfl
 |_,_,_,.cons r t,.cons r' t'=>by rw[r.inj r',Vals.inj t t']
section
variable{X:Cx}{pins:List (Addr×Obj)}{σ:St}{H:Hp}{s:Shared}{a:Addr}{xs ys:List V}
theorem Sl{K:tP}(h:H a=some (.lst xs)):SqL K H a xs:=.inl (.inl h)
theorem Sq{K:tP}(h:H a=some (.tup xs)):SqT K H a xs:=.inl (.inl h)
theorem Inv.list(I:Inv X pins σ H s)(h:SqL X.K H a xs):∃its:List Value,Vals xs its/\PlainL s.heap a its.toArray/\xs.length<=tF:=by
 rcases h with h|⟨o,its,n,hk,hc,hd,hs,hz,r⟩
 ·obtain⟨z,its,n,r,e⟩:=h.ok I.hok
  exact⟨its,r,⟨_,n,e,rfl,rfl,rfl⟩,z⟩
 ·refine⟨its.toList,r,⟨o,n,I.kIn a o hk,hc,hd,by simpa using hs⟩,?_⟩
  have e:=r.length
  simp only[wT] at e
  lia
theorem Inv.tuple(I:Inv X pins σ H s)(h:SqT X.K H a xs):∃its:List Value,Vals xs its/\IsTup s.heap a its.toArray/\xs.length<=tF:=by
 rcases h with h|⟨o,its,n,hk,hc,hs,hz,r⟩
 ·obtain⟨z,its,r,p⟩:=h.ok I.hok
  exact⟨its,r,p,z⟩
 ·refine⟨its.toList,r,⟨o,I.kIn a o hk,hc,n,by simpa using hs⟩,?_⟩
  have e:=r.length
  simp only[wT] at e
  lia
theorem Inv.list_inj(I:Inv X pins σ H s)(h:SqL X.K H a xs)(h':SqL X.K H a ys):xs=ys:=by
 obtain⟨its,r,⟨o,n,e,_,_,d⟩,_⟩:=I.list h
 obtain⟨its',r',⟨o',n',e',_,_,d'⟩,_⟩:=I.list h'
 rw[e] at e';cases e'
 rw[d] at d'
 injection d' with d1 _
 have:its=its':=by simpa using congrArg Array.toList d1
 subst this
 exact r.inj r'
theorem Inv.tuple_inj(I:Inv X pins σ H s)(h:SqT X.K H a xs)(h':SqT X.K H a ys):xs=ys:=by
 obtain⟨its,r,⟨o,e,_,n,d⟩,_⟩:=I.tuple h
 obtain⟨its',r',⟨o',e',_,n',d'⟩,_⟩:=I.tuple h'
 rw[e] at e';cases e'
 rw[d] at d'
 injection d' with d1 _
 have:its=its':=by simpa using congrArg Array.toList d1
 subst this
 exact r.inj r'
end
abbrev Cx.wish(X:Cx)(E:Value->Shared->Prop):Cx:={X with xe:=E}
abbrev Cx.nox(X:Cx):Cx:=X.wish fun _ _=>False
theorem Cx.Ok.wish{X:Cx}(ok:X.Ok)(E:Value->Shared->Prop):(X.wish E).Ok:=
 ⟨ok.mod,ok.kind,ok.glob,ok.blt,ok.above,ok.inj,ok.has,ok.cab,ok.hd,ok.frames,ok.stk,ok.exf,ok.bs,ok.bsz,ok.noex,ok.exfs,ok.funs,ok.frf⟩
theorem Cx.Ok.unwish{X:Cx}{E:Value->Shared->Prop}(ok:(X.wish E).Ok):X.Ok:=
 ⟨ok.mod,ok.kind,ok.glob,ok.blt,ok.above,ok.inj,ok.has,ok.cab,ok.hd,ok.frames,ok.stk,ok.exf,ok.bs,ok.bsz,ok.noex,ok.exfs,ok.funs,ok.frf⟩
section
variable{X:Cx}{pins:List (Addr×Obj)}{σ:St}{H:Hp}{s:Shared}{E:Value->Shared->Prop}
theorem Inv.wish(I:Inv X pins σ H s)(E:Value->Shared->Prop):Inv (X.wish E) pins σ H s:=⟨I.ok.wish E,I.os,I.bare,I.base,I.loc,I.cell,I.free,I.freeC,I.pin,I.hok,I.len⟩
theorem Inv.unwish(I:Inv (X.wish E) pins σ H s):Inv X pins σ H s:=⟨I.ok.unwish,I.os,I.bare,I.base,I.loc,I.cell,I.free,I.freeC,I.pin,I.hok,I.len⟩
theorem SP.unwish{D:Ends}{f:Flow}{s':Shared}(h:SP (X.wish E) pins D f s'):SP X pins D f s':=by
 cases f with
 |next=>obtain⟨σ',H',I,q⟩:=h;exact⟨σ',H',I.unwish,q⟩
 |brk=>obtain⟨σ',H',I,q⟩:=h;exact⟨σ',H',I.unwish,q⟩
 |cont=>obtain⟨σ',H',I,q⟩:=h;exact⟨σ',H',I.unwish,q⟩
 |ret u=>obtain⟨v,σ',H',I,r,q⟩:=h;exact⟨v,σ',H',I.unwish,r,q⟩
theorem PSs.nox{st:List Stmt}{t:TS}(h:PSs X.nox st t):PSs X st t:=fun pins s σ H D I hw=>
 wpAny_mono (h pins s σ H D (I.wish _) hw) (fun _ _ q=>q.unwish) fun _ _ z=>False.elim z
end
section
variable{X:Cx}{st:Stmt}{rest:List Stmt}{t u:TS}{e:Expr}{te:TE}{pos:Pos}
def zll:TS:=fun D σ H=>D.nx σ H
def tSeq(t u:TS):TS:=fun D σ H=>t {D with nx:=u D} σ H
theorem zC:PSs X [] zll:=fun _ _ σ H _ I h=>wpAny_execs_nil ⟨σ,H,I,h⟩
theorem zj(h1:PS X st t)(h2:PSs X rest u):PSs X (st::rest) (tSeq t u):=by
 intro pins s σ H D I h
 refine wpAny_execs_cons (thn (h1 pins s σ H {D with nx:=u D} I h) fun f s1 q=>?_)
 cases f with
 |next=>
  obtain⟨σ',H',I',q⟩:=q
  exact h2 pins s1 σ' H' D I' q
 |ret v=>exact q
 |brk=>exact q
 |cont=>exact q
theorem zq(h1:PS X st t):PSs X [st] t:=by
 intro pins s σ H D I h
 refine wpAny_execs_cons (thn (h1 pins s σ H D I h) fun f s1 q=>?_)
 cases f with
 |next=>exact wpAny_execs_nil q
 |ret v=>exact q
 |brk=>exact q
 |cont=>exact q
theorem Inv.quiet{pins:List (Addr×Obj)}{σ:St}{H:Hp}{s:Shared}(I:Inv X pins σ H s):interactive X.env=false:=by simp[interactive,I.ok.kind]
def zmE(te:TE):TS:=fun D σ H=>te σ H fun _ H1=>D.nx σ H1
theorem Ze(he:PE X e te)(hs:swapsWith e none pos.line X.env=pure false:=by rfl):PS X (.Expr e pos) (zmE te):=by
 intro pins s σ H D I h
 exact wpAny_Expr_any (thn (he pins s σ H _ I h) fun v s1 ⟨x,H1,I1,r1,q1⟩=>⟨σ,H1,I1,q1⟩) I.quiet hs
def tRet(te:TE):TS:=fun D σ H=>te σ H D.rt
theorem zw(he:PE X e te):PS X (.Return (some e) pos) (tRet te):=by
 intro pins s σ H D I h
 exact wpAny_Return_some (thn (he pins s σ H _ I h) fun v s1 ⟨x,H1,I1,r1,q1⟩=>⟨x,σ,H1,I1,r1,q1⟩)
def tIfS(c:TT)(t u:TS):TS:=fun D σ H=>c σ H fun b H1=>if b=true then t D σ H1 else u D σ H1
theorem zN{c:Expr}{a b:List Stmt}{tc:TT}(hc:PT X c tc)(ha:PSs X a t)(hb:PSs X b u):PS X (.If c a b pos) (tIfS tc t u):=by
 intro pins s σ H D I h
 refine wpAny_If (thn (hc pins s σ H _ I h) fun d s1 ⟨H1,I1,q1⟩=>?_)
 cases d with
 |true=>exact ha pins s1 σ H1 D I1 q1
 |false=>exact hb pins s1 σ H1 D I1 q1
end
abbrev TG:=V->St->Hp->(St->Hp->Prop)->Prop
abbrev TGs:=List V->St->Hp->(St->Hp->Prop)->Prop
def PG(X:Cx)(target:Expr)(t:TG):Prop:=
 ∀(pins:List (Addr×Obj))(s:Shared)(σ:St)(H:Hp)(v:V)(u:Value)(Q:St->Hp->Prop),Inv X pins σ H s->RelV v u->t v σ H Q->
  wpAny (model X.prog X.w) X.A (assign target X.env u) (fun _ s'=>∃σ' H',Inv X pins σ' H' s'/\Q σ' H') X.xe s
def PGs(X:Cx)(ts:List Expr)(t:TGs):Prop:=
 ∀(pins:List (Addr×Obj))(s:Shared)(σ:St)(H:Hp)(vs:List V)(us:List Value)(Q:St->Hp->Prop),Inv X pins σ H s->Vals vs us->t vs σ H Q->
  wpAny (model X.prog X.w) X.A (assignInOrder ((assignEach ts X.env).map (·.2)) us) (fun _ s'=>∃σ' H',Inv X pins σ' H' s'/\Q σ' H') X.xe s
abbrev TSet:=V->V->V->Hp->(Hp->Prop)->Prop
def PSet(X:Cx)(t:TSet):Prop:=
 ∀(pins:List (Addr×Obj))(s:Shared)(σ:St)(H:Hp)(o i v:V)(ov iv u:Value)(Q:Hp->Prop),Inv X pins σ H s->RelV o ov->RelV i iv->RelV v u->t o i v H Q->
  wpAny (model X.prog X.w) X.A (setItem ov iv u) (fun _ s'=>∃H',Inv X pins σ H' s'/\Q H') X.xe s
abbrev TIp:=V->V->Hp->VK->Prop
def PIp(X:Cx)(op:Operator)(t:TIp):Prop:=
 ∀(pins:List (Addr×Obj))(s:Shared)(σ:St)(H:Hp)(x y:V)(v u:Value)(Q:VK),Inv X pins σ H s->RelV x v->RelV y u->t x y H Q->
  wpAny (model X.prog X.w) X.A (inplaceOp op v u) (EP X pins σ Q) X.xe s
section
variable{X:Cx}{pos:Pos}
def zX(i:Nat):TG:=fun v σ H Q=>Q (σ.set i (some v)) H
theorem zR{i:Nat}{x:Str}(hN:X.N.Nodup)(hi:X.N[i]?=some x)(hx:Loc X.env.scope x)(hf:X.fn x=true\/X.env.scope.names.lookup x=some .local:=by first|exact .inl rfl|exact .inr rfl|assumption):PG X (.Name x pos) (zX i):=by
 intro pins s σ H v u Q I r h
 exact wpAny_assign_Name (zdH I hN hi hx r (fun s' I'=>⟨_,H,I',h⟩) hf)
noncomputable def gNil:TGs:=fun vs σ H Q=>vs=[]/\Q σ H
noncomputable def zg7(t:TG)(u:TGs):TGs:=fun vs σ H Q=>∃v r,vs=v::r/\t v σ H fun σ' H'=>u r σ' H' Q
theorem zay:PGs X [] gNil:=by
 intro pins s σ H vs us Q I r h
 obtain⟨e,h⟩:=h
 subst e
 cases r
 exact assignInOrder_nil ⟨σ,H,I,h⟩
theorem zY{e:Expr}{es:List Expr}{t:TG}{u:TGs}(h1:PG X e t)(h2:PGs X es u)
  (hs:(assignEach (e::es) X.env).map (·.2)=assign e X.env::(assignEach es X.env).map (·.2):=by rfl):PGs X (e::es) (zg7 t u):=by
 intro pins s σ H vs us Q I r h
 obtain⟨v,vr,e1,h⟩:=h
 subst e1
 cases r with
 |cons r rr=>
  rw[hs]
  refine assignInOrder_cons (thn (h1 pins s σ H _ _ _ I r h) fun _ s1 ⟨σ1,H1,I1,q1⟩=>?_)
  exact h2 pins s1 σ1 H1 _ _ Q I1 rr q1
def gTup(K:tP)(n:Nat)(t:TGs):TG:=fun v σ H Q=>∃a xs,v=.ref a/\SqT K H a xs/\xs.length=n/\t xs σ H Q
theorem zaR{es:List Expr}{k:Nat}{t:TGs}{n:Nat}(hc:X.calm=true)(h:PGs X es t)
  (hn:(assignEach es X.env).length=n:=by rfl) (hst:(assignEach es X.env).findIdx? (·.1)=none:=by rfl):PG X (.Tuple es k pos) (gTup X.K n t):=by
 intro pins s σ H v u Q I r hw
 obtain⟨a,xs,e1,hq,hl,hw⟩:=hw
 subst e1
 cases r
 obtain⟨its,rv,ht,hz⟩:=I.tuple hq
 refine assign_Tuple_tuple (I.ok.hd hc) ht (by simp[hn,←hl,rv.length]) hst fun h' hx=>?_
 have I1:Inv X pins σ H {s with heap:=h'}:=I.kept (t':=s.toks) fun b o e=>hx b o (yW (uY e)) e
 exact h pins _ σ H xs _ Q I1 (by simpa using rv) hw
def gSub(to ti:TE)(t:TSet):TG:=fun v σ H Q=>to σ H fun o H1=>ti σ H1 fun i H2=>t o i v H2 fun H3=>Q σ H3
theorem zcv{o i:Expr}{to ti:TE}{t:TSet}(ho:PE X o to)(hi:PE X i ti)(hs:PSet X t)
  (ha:∀v,assign (.Subscript o i pos) X.env v=(do
   let ov ←holding [v] (eval o X.env)
   let iv ←holding [v,ov] (eval i X.env)
   standAt pos
   holding [v,ov,iv] (setItem ov iv v)
   release [v,ov,iv] []):=by intro _;rfl):PG X (.Subscript o i pos) (gSub to ti t):=by
 intro pins s σ H v u Q I r h
 rw[ha]
 refine uV (wpAny_holding (thn (ho pins s σ H _ I h) fun ov s1 ⟨x,H1,I1,r1,q1⟩=>?_))
 refine uV (wpAny_holding (thn (hi pins s1 σ H1 _ I1 q1) fun iv s2 ⟨y,H2,I2,r2,q2⟩=>?_))
 refine uV (wpAny_standAt (uV (wpAny_holding (thn (hs pins s2 σ H2 x y v ov iv u _ I2 r1 r2 r q2) fun _ s3 ⟨H3,I3,q3⟩=>?_))))
 exact wpAny_release ⟨σ,H3,I3,q3⟩
def tAsg(te:TE)(g:TG):TS:=fun D σ H=>te σ H fun x H1=>g x σ H1 D.nx
theorem zaD{tg e:Expr}{te:TE}{g:TG}(he:PE X e te)(hg:PG X tg g)(hs:swapsWithSole [tg] e pos.line X.env=pure false:=by rfl)(hw:swappedStores [tg] e X.env=pure none:=by rfl)
  (h1:(assignEach [tg] X.env).map (·.2)=[assign tg X.env]:=by rfl):PS X (.Assign [tg] e pos) (tAsg te g):=by
 intro pins s σ H D I h
 refine wpAny_Assign_stores (thn (he pins s σ H _ I h) fun v s1 ⟨x,H1,I1,r1,q1⟩=>?_) hs hw
 rw[h1]
 exact thn (hg pins s1 σ H1 x v _ I1 r1 q1) fun _ s2 q=>q
theorem zG{i:Nat}{x:Str}{e:Expr}{te:TE}{pos':Pos}(hN:X.N.Nodup)(hi:X.N[i]?=some x)(hx:Loc X.env.scope x)(he:PE X e te)(hs:swapsWith e (some (.Name x pos')) pos.line X.env=pure false:=by rfl)(hf:X.fn x=true\/X.env.scope.names.lookup x=some .local:=by first|exact .inl rfl|exact .inr rfl|assumption):
  PS X (.Assign [.Name x pos'] e pos) (tAsg te (zX i)):=by
 intro pins s σ H D I h
 refine wpAny_Assign_Name (thn (he pins s σ H _ I h) fun v s1 ⟨y,H1,I1,r1,q1⟩=>?_) hs
 exact zdH I1 hN hi hx r1 (fun s2 I2=>⟨_,H1,I2,q1⟩) hf
def tAug(i:Nat)(te:TE)(ti:TIp):TS:=fun D σ H=>∃x,σ[i]?=some (some x)/\te σ H fun y H1=>ti x y H1 fun z H2=>D.nx (σ.set i (some z)) H2
theorem zmF{i:Nat}{x:Str}{e:Expr}{te:TE}{op:Operator}{ti:TIp}{pos':Pos}(hN:X.N.Nodup)(hi:X.N[i]?=some x)(hx:Loc X.env.scope x)(he:PE X e te)(ho:PIp X op ti)(hf:X.fn x=true\/X.env.scope.names.lookup x=some .local:=by first|exact .inl rfl|exact .inr rfl|assumption):
  PS X (.AugAssign (.Name x pos') op e pos) (tAug i te ti):=by
 intro pins s σ H D I h
 obtain⟨v,e1,h⟩:=h
 obtain⟨m,hn,hl⟩:=I.loc
 have vis:Vis X.env.scope x:=by rcases hx with k|k;exact .inl k;exact .inr (.inl k)
 obtain⟨u,r,l⟩:=hl i x v hi e1 vis
 refine wpAny_AugAssign_Name ?_
 have go:wpAny (model X.prog X.w) X.A (eval e X.env) (fun w s₂=>wpAny (model X.prog X.w) X.A (inplaceOp op u w) (fun r s₃=>wpAny (model X.prog X.w) X.A (storeName X.env x r) (fun _=>SP X pins D .next) X.xe s₃) X.xe s₂) X.xe s:=by
  refine thn (he pins s σ H _ I h) fun w s1 ⟨y,H1,I1,r1,q1⟩=>?_
  refine thn (ho pins s1 σ H1 v y u w _ I1 r r1 q1) fun z s2 ⟨zv,H2,I2,r2,q2⟩=>?_
  exact zdH I2 hN hi hx r2 (fun s3 I3=>⟨_,H2,I3,q2⟩) hf
 rcases l with⟨hk,hm⟩|⟨hk,c,hc,hcell⟩
 ·exact wpAny_loadName_local I.ok.kind hk hn hm go
 ·rcases hk with hk|hk
  ·exact wpAny_loadName_cell I.ok.kind hk hc hcell go
  ·rcases hx with k|k
   ·have:X.env.scope.names.lookup x=some .free:=hk
    rw[k] at this;cases this
   ·have:X.env.scope.names.lookup x=some .free:=hk
    rw[k] at this;cases this
end
section
variable{X:Cx}{pos:Pos}
def zkD(c:TT)(tb:TS):TS:=fun D σ H=>∃W:Nat->St->Hp->Prop,(∃m,W m σ H)/\∀m σ H,W m σ H->
 c σ H fun b H1=>if b=true then ∃N:St->Hp->Prop,(∀σ' H',N σ' H'->∃m',m'<m/\W m' σ' H')/\tb {D with nx:=N,ct:=N,bk:=D.nx} σ H1 else D.nx σ H1
theorem zbw{c:Expr}{body:List Stmt}{tc:TT}{tb:TS}(hp:PassesOwn (model X.prog X.w) X.A X.env X.xe)(hc:PT X c tc)(hb:PSs X body tb):PS X (.While c body [] pos) (zkD tc tb):=by
 intro pins s σ H D I h
 obtain⟨W,⟨m0,w0⟩,turn⟩:=h
 refine wpAny_While (codeAny_whileLoop (fun n s'=>∃σ' H',Inv X pins σ' H' s'/\W n σ' H') ?_ m0 ⟨σ,H,I,w0⟩)
 rintro n s1 ⟨σ1,H1,I1,w1⟩
 refine wpAny_passesOwn hp (thn (hc pins s1 σ1 H1 _ I1 (turn n σ1 H1 w1)) fun b s2 ⟨H2,I2,q2⟩=>?_)
 cases b with
 |true=>
  obtain⟨N,hN,q2⟩:=q2
  rw[if_pos rfl]
  refine wpAny_passesOwn hp (thn (hb pins s2 σ1 H2 _ I2 q2) fun f s3 q3=>?_)
  cases f with
  |next=>
   obtain⟨σ3,H3,I3,n3⟩:=q3
   obtain⟨m',hm,w3⟩:=hN σ3 H3 n3
   exact⟨m',hm,σ3,H3,I3,w3⟩
  |cont=>
   obtain⟨σ3,H3,I3,n3⟩:=q3
   obtain⟨m',hm,w3⟩:=hN σ3 H3 n3
   exact⟨m',hm,σ3,H3,I3,w3⟩
  |brk=>exact q3
  |ret v=>exact q3
 |false=>
  rw[if_neg yI]
  exact wpAny_execs_nil ⟨σ1,H2,I2,q2⟩
end
structure It where
 go:Nat->Hp->Prop
 yld:Nat->Hp->V->Hp->Prop
 stop:Nat->Hp->Prop
def FpOk(X:Cx)(pins:List (Addr×Obj))(H:Hp)(b:Addr):Prop:=
 H b=none/\b≠X.env.locals/\b ∉ X.fs/\(b∈X.ex\/X.s₀.heap.objs.size<=b)/\(∀x c,X.env.cells.lookup x=some c->c≠b)/\∀p∈X.pn++pins,p.1≠b
theorem Inv.fpOk{X:Cx}{pins:List (Addr×Obj)}{σ:St}{H H':Hp}{s:Shared}{b:Addr}(I:Inv X pins σ H s)(hb:s.heap.objs.size<=b)(hn:H' b=none):FpOk X pins H' b:=by
 refine⟨hn,xE (yO I.lt hb),I.nofs hb,.inr (yQ I.sz hb),fun x c e z=>?_,fun p hp z=>?_⟩
 ·obtain⟨v,q⟩:=I.cell x c e
  exact absurd (yO q.lt (by rw[z];exact hb)) (xB _)
 ·exact absurd (yO (uY (I.pin p hp).1) (by rw[z];exact hb)) (xB _)
structure Turn(P:Program)(w:World)(K:tP)(tg:Expr)(J:It)(fp:List Addr)(it:Addr)(tn:Nat->Heap->Prop):Prop where
 mem:it∈fp
 obj:∀i h,tn i h->∀b∈fp,∃o,h.get? b=some o/\∀v,o.data≠.cell v
 keep:∀i h h',tn i h->(∀b∈fp,∀o,h.get? b=some o->h'.get? b=some o)->tn i h'
 item:∀(X:Cx),X.prog=P->X.w=w->X.K=K->X.calm=true->∀(i:Nat)(pins:List (Addr×Obj))(s:Shared)(σ:St)(H:Hp)(E:Value->Shared->Prop),Inv X pins σ H s->(∀b∈fp,FpOk X pins H b)->tn i s.heap->J.go i H->
  wpAny (model P w) X.A (pyNext (.ref it)) (fun r s1=>∃u,r=some u /\
   wpAny (model P w) X.A (letOwnedTupleGo tg (.ref it) u) (fun _ s2=>∃x H',Inv X pins σ H' s2/\RelV x u/\J.yld i H x H'/\tn (i+1) s2.heap/\∀b∈fp,H' b=none) E s1) E s
 done:∀(X:Cx),X.prog=P->X.w=w->X.K=K->X.calm=true->∀(i:Nat)(pins:List (Addr×Obj))(s:Shared)(σ:St)(H:Hp)(E:Value->Shared->Prop),Inv X pins σ H s->(∀b∈fp,FpOk X pins H b)->tn i s.heap->J.stop i H->
  wpAny (model P w) X.A (pyNext (.ref it)) (fun r s1=>r=none/\Inv X pins σ H s1) E s
 self:∀(A:Around)(i:Nat)(s:Shared)(Q:Value->Shared->Prop)(E:Value->Shared->Prop),tn i s.heap->Q (.ref it) s->wpAny (model P w) A (pyIter (.ref it)) Q E s
abbrev TI:=St->Hp->(It->Hp->Prop)->Prop
def PIE(X:Cx)(pins:List (Addr×Obj))(σ:St)(tg:Expr)(R:It->Hp->Prop)(itv:Value)(s2:Shared):Prop:=
 ∃(it:Addr)(fp:List Addr)(tn:Nat->Heap->Prop)(J:It)(H':Hp),itv=.ref it/\Inv X pins σ H' s2/\Turn X.prog X.w X.K tg J fp it tn/\tn 0 s2.heap/\(∀b∈fp,FpOk X pins H' b)/\R J H'
def PI(X:Cx)(tg iter:Expr)(wi:TI):Prop:=
 ∀(pins:List (Addr×Obj))(s:Shared)(σ:St)(H:Hp)(R:It->Hp->Prop),Inv X pins σ H s->wi σ H R->
  wpAny (model X.prog X.w) X.A (eval iter X.env) (fun v s1=>wpAny (model X.prog X.w) X.A (pyIter v) (PIE X pins σ tg R) X.xe s1) X.xe s
theorem zjB{M:Model}{A:Around}{E:Value->Shared->Prop}{s:Shared}{tg:Expr}{it:Addr}{u:Value}{o:Obj}{n:String}{vs:Array Value}{Q:Unit->Shared->Prop}(ho:s.heap.get? it=some o)(hc:o.cls=.type n)(hd:o.data=.fields vs)
  (hn:["enumerate","zip","dict_itemiterator","dict_reverseitemiterator","odict_iterator","itertools.zip_longest","itertools.pairwise"].contains n=false) (hQ:Q () s):wpAny M A (letOwnedTupleGo tg (.ref it) u) Q E s:=by
 unfold letOwnedTupleGo
 cases tg<;>first
  |exact uW hQ
  |(
    cases u<;>first
    |exact uW hQ
    |(
      refine uV (wpAny_load ho ?_)
      rw[hc,hd]
      show wpAny M A (if (["enumerate","zip","dict_itemiterator","dict_reverseitemiterator","odict_iterator","itertools.zip_longest","itertools.pairwise"].contains n&&vs[0]? == some (rawInt _))=true then _ else _) Q E s
      rw[if_neg (by intro h;rw[hn,vP] at h;cases h)]
      exact uW hQ))
noncomputable def Itl(K:tP)(a:Addr):It:=
 ⟨fun i H=>∃xs x,SqL K H a xs/\xs[i]?=some x,fun i H x H'=>H'=H/\∀xs,SqL K H a xs->xs[i]?=some x,fun i H=>∃xs,SqL K H a xs/\xs.length<=i⟩
noncomputable def Itt(K:tP)(a:Addr):It:=
 ⟨fun i H=>∃xs x,SqT K H a xs/\xs[i]?=some x,fun i H x H'=>H'=H/\∀xs,SqT K H a xs->xs[i]?=some x,fun i H=>∃xs,SqT K H a xs/\xs.length<=i⟩
noncomputable def Itr(lo:Int)(n:Nat):It:=⟨fun i _=>i<n,fun i H x H'=>H'=H/\x=.int (lo+i),fun i _=>n<=i⟩
theorem zhV{P:Program}{w:World}{K:tP}{tg:Expr}(a it:Addr):Turn P w K tg (Itl K a) [it] it (fun i h=>h.IsListIter it a i) where
 mem:=by simp
 obj:=fun i h st b hb=>by
  have e:b=it:=by simpa using hb
  subst e
  obtain⟨o,e,c,d⟩:=st
  exact⟨o,e,fun v z=>by rw[d] at z;cases z⟩
 keep:=fun i h h' st k=>st.at fun o e=>k it (by simp) o e
 item:=by
  intro X hP hw hK hc i pins s σ H E I hf st hg
  subst hP hw hK
  obtain⟨xs,x,hq,hx⟩:=hg
  obtain⟨its,rv,p,hz⟩:=I.list hq
  obtain⟨u,hu,ru⟩:=rv.get hx
  obtain⟨f0,f1,f2,f3,f4,f5⟩:=hf it (by simp)
  refine wpAny_pyNext_list_item st p.isList (x:=u) (by simpa using hu) fun h' st' sb=>?_
  have I1:Inv X pins σ H {s with heap:=h'}:=I.turned (t':=s.toks) (fun b o hb e=>(sb.2 b hb).trans e) f0 f1 f3 f4 f5
  obtain⟨o,e,c,d⟩:=id st'
  exact⟨u,rfl,zjB (s:={s with heap:=h'}) e c d (by decide) ⟨x,H,I1,ru,⟨rfl,fun ys hy=>by rw[I.list_inj hy hq];exact hx⟩,st',fun b hb=>(hf b hb).1⟩⟩
 done:=by
  intro X hP hw hK hc i pins s σ H E I hf st hg
  subst hP hw hK
  obtain⟨xs,hq,hx⟩:=hg
  obtain⟨its,rv,p,hz⟩:=I.list hq
  obtain⟨f0,f1,f2,f3,f4,f5⟩:=hf it (by simp)
  have hl:=rv.length
  exact wpAny_pyNext_list_end (I.ok.hd hc) st p.isList (by simp;lia) fun h' eb=>⟨rfl,I.turned (t':=s.toks) (fun b o hb e=>eb b o hb e) f0 f1 f3 f4 f5⟩
 self:=fun _ _ _ _ _ st h=>wpAny_pyIter_listiter st h
theorem zg8{P:Program}{w:World}{K:tP}{tg:Expr}(a it:Addr):Turn P w K tg (Itt K a) [it] it (fun i h=>h.IsTupleIter it a i) where
 mem:=by simp
 obj:=fun i h st b hb=>by
  have e:b=it:=by simpa using hb
  subst e
  obtain⟨o,e,c,d⟩:=st
  exact⟨o,e,fun v z=>by rw[d] at z;cases z⟩
 keep:=fun i h h' st k=>st.at fun o e=>k it (by simp) o e
 item:=by
  intro X hP hw hK hc i pins s σ H E I hf st hg
  subst hP hw hK
  obtain⟨xs,x,hq,hx⟩:=hg
  obtain⟨its,rv,p,hz⟩:=I.tuple hq
  obtain⟨u,hu,ru⟩:=rv.get hx
  obtain⟨f0,f1,f2,f3,f4,f5⟩:=hf it (by simp)
  refine wpAny_pyNext_tuple_item st (show s.heap.IsTuple a its.toArray from p) (x:=u) (by simpa using hu) fun h' st' sb=>?_
  have I1:Inv X pins σ H {s with heap:=h'}:=I.turned (t':=s.toks) (fun b o hb e=>(sb.2 b hb).trans e) f0 f1 f3 f4 f5
  obtain⟨o,e,c,d⟩:=id st'
  exact⟨u,rfl,zjB (s:={s with heap:=h'}) e c d (by decide) ⟨x,H,I1,ru,⟨rfl,fun ys hy=>by rw[I.tuple_inj hy hq];exact hx⟩,st',fun b hb=>(hf b hb).1⟩⟩
 done:=by
  intro X hP hw hK hc i pins s σ H E I hf st hg
  subst hP hw hK
  obtain⟨xs,hq,hx⟩:=hg
  obtain⟨its,rv,p,hz⟩:=I.tuple hq
  obtain⟨f0,f1,f2,f3,f4,f5⟩:=hf it (by simp)
  have hl:=rv.length
  exact wpAny_pyNext_tuple_end (I.ok.hd hc) st (show s.heap.IsTuple a its.toArray from p) (by simp;lia) fun h' eb=>⟨rfl,I.turned (t':=s.toks) (fun b o hb e=>eb b o hb e) f0 f1 f3 f4 f5⟩
 self:=fun _ _ _ _ _ st h=>wpAny_pyIter_tupleiter st h
theorem zg9{P:Program}{w:World}{K:tP}{tg:Expr}(it:Addr)(lo:Int)(n:Nat):Turn P w K tg (Itr lo n) [it] it (fun i h=>IsRangeIter h it (lo+(i:Nat)*1) ((n:Int)-(i:Nat)) 1) where
 mem:=by simp
 obj:=fun i h st b hb=>by
  have e:b=it:=by simpa using hb
  subst e
  exact⟨_,st,fun v z=>by
   have z':Data.fields _=Data.cell v:=z
   cases z'⟩
 keep:=fun i h h' st k=>k it (by simp) _ st
 item:=by
  intro X hP hw hK hc i pins s σ H E I hf st hg
  subst hP hw hK
  obtain⟨f0,f1,f2,f3,f4,f5⟩:=hf it (by simp)
  have W:=Walks.range (prog:=X.prog) (w:=X.w) (I.ok.hd hc) it lo 1 n
  refine W.item i s _ _ hg st fun v h' tk hv st' kk=>?_
  obtain⟨t,rfl⟩:=hv
  have I1:Inv X pins σ H {s with heap:=h',toks:=tk}:=I.turned (fun b o hb e=>kk b o (by simpa using hb) e) f0 f1 f3 f4 f5
  refine⟨_,rfl,zjB (s:={s with heap:=h',toks:=tk}) (n:="range_iterator") st' rfl rfl (by decide) ⟨.int (lo+i),H,I1,⟨t,?_⟩,⟨rfl,rfl⟩,st',fun b hb=>(hf b hb).1⟩⟩
  rw[Int.mul_one]
 done:=by
  intro X hP hw hK hc i pins s σ H E I hf st hg
  subst hP hw hK
  obtain⟨f0,f1,f2,f3,f4,f5⟩:=hf it (by simp)
  exact wpAny_pyNext_range_end (I.ok.hd hc) st (by have:n<=i:=hg;lia) fun h' eb=>⟨rfl,I.turned (t':=s.toks) (fun b o hb e=>eb b o hb e) f0 f1 f3 f4 f5⟩
 self:=fun _ _ _ _ _ st h=>wpAny_pyIter_rangeiter st h
section
variable{X:Cx}{tg:Expr}
def zhW(K:tP)(tl:TE):TI:=fun σ H R=>tl σ H fun x H1=>∃a,x=.ref a/\(∃xs,SqL K H1 a xs)/\R (Itl K a) H1
def iTup(K:tP)(tl:TE):TI:=fun σ H R=>tl σ H fun x H1=>∃a,x=.ref a/\(∃xs,SqT K H1 a xs)/\R (Itt K a) H1
theorem ZZ{l:Expr}{tl:TE}(hl:PE X l tl):PI X tg l (zhW X.K tl):=by
 intro pins s σ H R I h
 refine thn (hl pins s σ H _ I h) fun v s1 ⟨x,H1,I1,r1,q1⟩=>?_
 obtain⟨a,e,⟨xs,hq⟩,q⟩:=q1
 subst e
 cases r1
 obtain⟨its,rv,p,hz⟩:=I1.list hq
 refine wpAny_pyIter_list p.isList ?_
 refine⟨s1.heap.objs.size,[s1.heap.objs.size],_,_,H1,rfl,I1.kept (t':=s1.toks) fun b o e=>uX _ e,zhV a _,⟨_,uZ _ rfl,rfl,rfl⟩,fun b hb=>?_,q⟩
 have e:b=s1.heap.objs.size:=by simpa using hb
 subst e
 exact I1.fpOk (yE _) (I1.hok.fresh (yE _))
theorem zcw{l:Expr}{tl:TE}(hl:PE X l tl):PI X tg l (iTup X.K tl):=by
 intro pins s σ H R I h
 refine thn (hl pins s σ H _ I h) fun v s1 ⟨x,H1,I1,r1,q1⟩=>?_
 obtain⟨a,e,⟨xs,hq⟩,q⟩:=q1
 subst e
 cases r1
 obtain⟨its,rv,p,hz⟩:=I1.tuple hq
 refine wpAny_pyIter_tuple (show s1.heap.IsTuple a its.toArray from p) ?_
 refine⟨s1.heap.objs.size,[s1.heap.objs.size],_,_,H1,rfl,I1.kept (t':=s1.toks) fun b o e=>uX _ e,zg8 a _,⟨_,uZ _ rfl,rfl,rfl⟩,fun b hb=>?_,q⟩
 have e:b=s1.heap.objs.size:=by simpa using hb
 subst e
 exact I1.fpOk (yE _) (I1.hok.fresh (yE _))
theorem zjC{pins:List (Addr×Obj)}{σ:St}{H:Hp}{s:Shared}{R:It->Hp->Prop}{E:Value->Shared->Prop}{lo hi:Int}{t u v:Tok}{tk:Nat}(I:Inv X pins σ H s)(h1:-(2 ^ 62)<=lo)(h2:lo<2 ^ 62)(h3:-(2 ^ 62)<=hi)(h4:hi<2 ^ 62)
  (q:R (Itr lo (hi-lo).toNat) H):wpAny (model X.prog X.w) X.A (pyIter (.ref s.heap.objs.size)) (PIE X pins σ tg R) E {s with heap:=s.heap.push {cls:=.type "range",data:=.fields #[.int lo t,.int hi u,.int 1 v]},toks:=tk}:=by
 refine wpAny_pyIter_range (IsRange.new ..) (small_one h1 h2 h3 h4) ?_
 have I1:Inv X pins σ H {s with heap:=s.heap.push {cls:=.type "range",data:=.fields #[.int lo t,.int hi u,.int 1 v]},toks:=tk}:=I.kept fun b o e=>uX _ e
 refine⟨(s.heap.push {cls:=.type "range",data:=.fields #[.int lo t,.int hi u,.int 1 v]}).objs.size,[(s.heap.push {cls:=.type "range",data:=.fields #[.int lo t,.int hi u,.int 1 v]}).objs.size],_,_,H,rfl,
  I1.kept (t':=tk) fun b o e=>uX _ e,zg9 _ lo (hi-lo).toNat,?_,fun b hb=>?_,q⟩
 ·have e1:lo+((0:Nat):Int)*1=lo:=by simp
  have e2:(((hi-lo).toNat:Nat):Int)-((0:Nat):Int)=Builtin.Range.rangeSize lo hi 1:=by rw[rangeSize_one];split<;>lia
  show IsRangeIter _ _ (lo+((0:Nat):Int)*1) ((((hi-lo).toNat:Nat):Int)-((0:Nat):Int)) 1
  rw[e1,e2]
  exact uZ _ rfl
 ·have e:b=(s.heap.push {cls:=.type "range",data:=.fields #[.int lo t,.int hi u,.int 1 v]}).objs.size:=by simpa using hb
  subst e
  exact I1.fpOk (yE _) (I1.hok.fresh (yE _))
def zmG(ta:TA):TI:=fun σ H R=>ta σ H fun vs H1=>∃j:Int,vs=[.int j]/\-(2 ^ 62)<=j/\j<2 ^ 62/\R (Itr 0 j.toNat) H1
theorem ZD{a:Expr}{ta:TA}{p pos:Pos}(hg:Gl X "range")(hm:X.mg "range"=none)(ha:PA X [a] ta)(hs:tI [a] X.env=[(false,eval a X.env)]:=by rfl):PI X tg (.Call (.Name "range" p) [a] [] pos) (zmG ta):=by
 intro pins s σ H R I h
 refine Call_ (zbu I hg hm boot_range (PyProof.Rows.callWith_type1 (thn (ha pos pins s σ H _ I h) fun us s1 ⟨vs,H1,I1,r1,q1⟩=>?_) hs rfl))
 obtain⟨j,e,q1,q2,q⟩:=q1
 subst e
 cases r1 with
 |cons r rr=>
  cases rr
  obtain⟨t,rfl⟩:=r
  exact call_range_1 (zjC I1 (by lia) (by lia) q1 q2 (by simpa using q))
def tFor(wi:TI)(g:TG)(tb:TS):TS:=fun D σ H=>wi σ H fun J H1=>∃W:Nat->Nat->St->Hp->Prop,(∃m,W 0 m σ H1)/\∀i m σ H,W i m σ H->
 (J.stop i H/\D.nx σ H)\/(J.go i H/\∃N:St->Hp->Prop,(∀σ' H',N σ' H'->∃m',m'<m/\W (i+1) m' σ' H')/\∀x H',J.yld i H x H'->g x σ H' fun σ2 H2=>tb {D with nx:=N,ct:=N,bk:=D.nx} σ2 H2)
noncomputable def zcx(fp:List Addr)(h:Heap):List (Addr×Obj):=fp.filterMap fun b=>(h.get? b).map fun o=>(b,o)
theorem ZM{fp:List Addr}{h:Heap}{b:Addr}{o:Obj}(hb:b∈fp)(e:h.get? b=some o):(b,o)∈zcx fp h:=uN.mpr ⟨b,hb,by rw[e];rfl⟩
theorem zhX{fp:List Addr}{h:Heap}{p:Addr×Obj}(hp:p∈zcx fp h):p.1∈fp/\h.get? p.1=some p.2:=by
 obtain⟨b,hb,e⟩:=uN.mp hp
 cases q:h.get? b with
 |none=>rw[q] at e;cases e
 |some o=>
  rw[q] at e
  have e':(b,o)=p:=Option.some.inj e
  subst e'
  exact⟨hb,q⟩
theorem Inv.pinned{pins:List (Addr×Obj)}{σ:St}{H:Hp}{s:Shared}{fp:List Addr}(I:Inv X pins σ H s)(hf:∀b∈fp,FpOk X pins H b)(ho:∀b∈fp,∃o,s.heap.get? b=some o/\∀v,o.data≠.cell v):Inv X (pins++zcx fp s.heap) σ H s:=
 I.pins_of fun p hp=>(yZ.mp hp).elim (fun z=>I.pin p (yR _ z)) fun z=>by
  obtain⟨hb,e⟩:=zhX z
  obtain⟨f0,f1,f2,_⟩:=hf p.1 hb
  obtain⟨o,e',d⟩:=ho p.1 hb
  rw[e] at e';cases e'
  exact⟨e,f0,f1,f2,d⟩
theorem Inv.unpinned{pins pl:List (Addr×Obj)}{σ:St}{H:Hp}{s:Shared}(I:Inv X (pins++pl) σ H s):Inv X pins σ H s:=I.pins_of fun p hp=>I.pin p (yR _ (vF _ hp))
theorem zat{iter:Expr}{body:List Stmt}{wi:TI}{g:TG}{tb:TS}{pos:Pos}(hp:PassesOwn (model X.prog X.w) X.A X.env X.xe)(hc:X.calm=true)(hi:PI X tg iter wi)(hg:PG X tg g)(hb:PSs X body tb)
  (hs:∀x,foldedSetIterable iter X.env x=pure x:=by intro _;rfl):PS X (.For tg iter body [] pos) (tFor wi g tb):=by
 intro pins s σ H D I h
 refine wpAny_For (thn (hi pins s σ H _ I h) fun v s1 h1=>thn h1 fun itv s2 h2=>?_) hs
 obtain⟨it,fp,tn,J,H2,e,I2,T,st2,f2,W,⟨m0,w0⟩,turn⟩:=h2
 subst e
 have stat:∀{H':Hp},(∀b∈fp,H' b=none)->∀b∈fp,FpOk X pins H' b:=fun hn b hb=>⟨hn b hb,(f2 b hb).2⟩
 refine codeAny_forLoop_any (fun n s'=>∃i σ' H',Inv X pins σ' H' s'/\tn i s'.heap/\(∀b∈fp,H' b=none)/\W i n σ' H') ?_ m0 ⟨0,σ,H2,I2,st2,fun b hb=>(f2 b hb).1,w0⟩
 rintro n s3 ⟨i,σ3,H3,I3,st3,fr3,w3⟩
 rcases turn i n σ3 H3 w3 with⟨stop,qn⟩|⟨go,N,hN,step⟩
 ·refine wpAny_passesOwn hp (thn (T.done X rfl rfl rfl hc i pins s3 σ3 H3 X.xe I3 (stat fr3) st3 stop) fun r s4 ⟨hr,I4⟩=>?_)
  subst hr
  exact wpAny_execs_nil ⟨σ3,H3,I4,qn⟩
 ·refine wpAny_passesOwn hp (thn (T.item X rfl rfl rfl hc i pins s3 σ3 H3 X.xe I3 (stat fr3) st3 go) fun r s4 ⟨u,hr,h4⟩=>?_)
  subst hr
  refine wpAny_passesOwn hp (thn h4 fun _ s5 ⟨x,H5,I5,r5,y5,st5,fr5⟩=>?_)
  have I5':=I5.pinned (stat fr5) (T.obj _ _ st5)
  refine wpAny_passesOwn hp (thn (hg _ s5 σ3 H5 x u _ I5' r5 (step x H5 y5)) fun _ s6 ⟨σ6,H6,I6,q6⟩=>?_)
  refine wpAny_passesOwn hp (thn (hb _ s6 σ6 H6 _ I6 q6) fun f s7 q7=>?_)
  have again:∀{σ7:St}{H7:Hp},Inv X (pins++zcx fp s5.heap) σ7 H7 s7->N σ7 H7->∃m,m<n/\∃i σ' H',Inv X pins σ' H' s7/\tn i s7.heap/\(∀b∈fp,H' b=none)/\W i m σ' H':=fun {σ7 H7} I7 n7=>by
   obtain⟨m',hm,w7⟩:=hN σ7 H7 n7
   refine⟨m',hm,i+1,σ7,H7,I7.unpinned,T.keep _ _ _ st5 fun b hb o e=>(I7.pin (b,o) (yR _ (yR _ (ZM hb e)))).1,fun b hb=>?_,w7⟩
   obtain⟨o,e,d⟩:=T.obj _ _ st5 b hb
   exact (I7.pin (b,o) (yR _ (yR _ (ZM hb e)))).2.1
  cases f with
  |next=>obtain⟨σ7,H7,I7,n7⟩:=q7;exact again I7 n7
  |cont=>obtain⟨σ7,H7,I7,n7⟩:=q7;exact again I7 n7
  |brk=>obtain⟨σ7,H7,I7,q7⟩:=q7;exact⟨σ7,H7,I7.unpinned,q7⟩
  |ret v=>obtain⟨x7,σ7,H7,I7,r7,q7⟩:=q7;exact⟨x7,σ7,H7,I7.unpinned,r7,q7⟩
end
theorem zdI{K:tP}{a:Addr}{xs:List V}{g:TG}{tb:TS}{D:Ends}{σ:St}{H:Hp}(Pv:Nat->St->Hp->Prop)(h0:Pv 0 σ H)(hl:∀i σ H,i<=xs.length->Pv i σ H->SqL K H a xs)
  (hs:∀i x σ H,xs[i]?=some x->Pv i σ H->g x σ H fun σ2 H2=>tb {D with nx:=Pv (i+1),ct:=Pv (i+1),bk:=D.nx} σ2 H2) (hd:∀σ H,Pv xs.length σ H->D.nx σ H):
  ∃W:Nat->Nat->St->Hp->Prop,(∃m,W 0 m σ H)/\∀i m σ H,W i m σ H->
   ((Itl K a).stop i H/\D.nx σ H)\/((Itl K a).go i H/\∃N:St->Hp->Prop,(∀σ' H',N σ' H'->∃m',m'<m/\W (i+1) m' σ' H')/\∀x H',(Itl K a).yld i H x H'->g x σ H' fun σ2 H2=>tb {D with nx:=N,ct:=N,bk:=D.nx} σ2 H2):=by
 refine⟨fun i m σ H=>m=xs.length-i/\i<=xs.length/\Pv i σ H,⟨xs.length,by simp,yN _,h0⟩,?_⟩
 rintro i m σ H ⟨rfl,hi,p⟩
 have q:=hl i σ H hi p
 by_cases hlt:i<xs.length
 ·refine .inr ⟨⟨xs,xs[i],q,by simp[hlt]⟩,Pv (i+1),fun σ' H' p'=>⟨xs.length-(i+1),by lia,rfl,hlt,p'⟩,fun x H' y=>?_⟩
  obtain⟨e,y⟩:=y
  subst e
  exact hs i x σ _ (y xs q) p
 ·have e:i=xs.length:=by lia
  subst e
  exact .inl ⟨⟨xs,q,yE _⟩,hd σ H p⟩
theorem zhY{K:tP}{a:Addr}{xs:List V}{g:TG}{tb:TS}{D:Ends}{σ:St}{H:Hp}(Pv:Nat->St->Hp->Prop)(h0:Pv 0 σ H)(hl:∀i σ H,i<=xs.length->Pv i σ H->SqT K H a xs)
  (hs:∀i x σ H,xs[i]?=some x->Pv i σ H->g x σ H fun σ2 H2=>tb {D with nx:=Pv (i+1),ct:=Pv (i+1),bk:=D.nx} σ2 H2) (hd:∀σ H,Pv xs.length σ H->D.nx σ H):
  ∃W:Nat->Nat->St->Hp->Prop,(∃m,W 0 m σ H)/\∀i m σ H,W i m σ H->
   ((Itt K a).stop i H/\D.nx σ H)\/((Itt K a).go i H/\∃N:St->Hp->Prop,(∀σ' H',N σ' H'->∃m',m'<m/\W (i+1) m' σ' H')/\∀x H',(Itt K a).yld i H x H'->g x σ H' fun σ2 H2=>tb {D with nx:=N,ct:=N,bk:=D.nx} σ2 H2):=by
 refine⟨fun i m σ H=>m=xs.length-i/\i<=xs.length/\Pv i σ H,⟨xs.length,by simp,yN _,h0⟩,?_⟩
 rintro i m σ H ⟨rfl,hi,p⟩
 have q:=hl i σ H hi p
 by_cases hlt:i<xs.length
 ·refine .inr ⟨⟨xs,xs[i],q,by simp[hlt]⟩,Pv (i+1),fun σ' H' p'=>⟨xs.length-(i+1),by lia,rfl,hlt,p'⟩,fun x H' y=>?_⟩
  obtain⟨e,y⟩:=y
  subst e
  exact hs i x σ _ (y xs q) p
 ·have e:i=xs.length:=by lia
  subst e
  exact .inl ⟨⟨xs,q,yE _⟩,hd σ H p⟩
theorem zaU{lo:Int}{n:Nat}{g:TG}{tb:TS}{D:Ends}{σ:St}{H:Hp}(Pv:Nat->St->Hp->Prop)(h0:Pv 0 σ H)
  (hs:∀i σ H,i<n->Pv i σ H->g (.int (lo+i)) σ H fun σ2 H2=>tb {D with nx:=Pv (i+1),ct:=Pv (i+1),bk:=D.nx} σ2 H2) (hd:∀σ H,Pv n σ H->D.nx σ H):
  ∃W:Nat->Nat->St->Hp->Prop,(∃m,W 0 m σ H)/\∀i m σ H,W i m σ H->
   ((Itr lo n).stop i H/\D.nx σ H)\/((Itr lo n).go i H/\∃N:St->Hp->Prop,(∀σ' H',N σ' H'->∃m',m'<m/\W (i+1) m' σ' H')/\∀x H',(Itr lo n).yld i H x H'->g x σ H' fun σ2 H2=>tb {D with nx:=N,ct:=N,bk:=D.nx} σ2 H2):=by
 refine⟨fun i m σ H=>m=n-i/\i<=n/\Pv i σ H,⟨n,by simp,yN _,h0⟩,?_⟩
 rintro i m σ H ⟨rfl,hi,p⟩
 by_cases hlt:i<n
 ·refine .inr ⟨hlt,Pv (i+1),fun σ' H' p'=>⟨n-(i+1),by lia,rfl,hlt,p'⟩,fun x H' y=>?_⟩
  obtain⟨e,y⟩:=y
  subst e y
  exact hs i σ _ hlt p
 ·have e:i=n:=by lia
  subst e
  exact .inl ⟨yE _,hd σ H p⟩
abbrev R2:=V->V->Hp->VK->Prop
def OpR(X:Cx)(f:Value->Value->Sem Value)(r:R2):Prop:=
 ∀(pins:List (Addr×Obj))(s:Shared)(σ:St)(H:Hp)(x y:V)(v u:Value)(Q:VK),Inv X pins σ H s->RelV x v->RelV y u->r x y H Q->
  wpAny (model X.prog X.w) X.A (f v u) (EP X pins σ Q) X.xe s
def UnR(X:Cx)(f:Value->Sem Value)(r:V->Hp->VK->Prop):Prop:=
 ∀(pins:List (Addr×Obj))(s:Shared)(σ:St)(H:Hp)(x:V)(v:Value)(Q:VK),Inv X pins σ H s->RelV x v->r x H Q->
  wpAny (model X.prog X.w) X.A (f v) (EP X pins σ Q) X.xe s
def zaV(X:Cx)(f:Value)(r:List V->Hp->VK->Prop):Prop:=
 ∀(pins:List (Addr×Obj))(s:Shared)(σ:St)(H:Hp)(xs:List V)(us:List Value)(Q:VK),Inv X pins σ H s->Vals xs us->r xs H Q->
  wpAny (model X.prog X.w) X.A (call f us) (EP X pins σ Q) X.xe s
def tOp(r:R2)(ta tb:TE):TE:=fun σ H Q=>ta σ H fun x H1=>tb σ H1 fun y H2=>r x y H2 Q
def tUn(r:V->Hp->VK->Prop)(ta:TE):TE:=fun σ H Q=>ta σ H fun x H1=>r x H1 Q
def rI(C:Int->Int->Prop)(g:Int->Int->V):R2:=fun x y H Q=>∃i j,x=.int i/\y=.int j/\C i j/\Q (g i j) H
def rI0(g:Int->Int->V):R2:=fun x y H Q=>∃i j,x=.int i/\y=.int j/\Q (g i j) H
def rU(g:Int->V):V->Hp->VK->Prop:=fun x H Q=>∃i,x=.int i/\Q (g i) H
section
variable{X:Cx}{a b c:Expr}{ta tb tc:TE}{pos:Pos}
theorem binT(ha:PE X a ta)(hb:PE X b tb){pins:List (Addr×Obj)}{s:Shared}{σ:St}{H:Hp}{R:V->V->Hp->Prop}(I:Inv X pins σ H s)
  (h:ta σ H fun x H1=>tb σ H1 fun y H2=>R x y H2) {Q:Value->Shared->Prop}{f:Value->Value->Sem Value}
  (hf:∀v u s2 x y H2,Inv X pins σ H2 s2->RelV x v->RelV y u->R x y H2->wpAny (model X.prog X.w) X.A (f v u) Q X.xe s2):
  wpAny (model X.prog X.w) X.A (eval a X.env) (fun v s₁=>wpAny (model X.prog X.w) X.A (eval b X.env) (fun u s₂=>wpAny (model X.prog X.w) X.A (f v u) Q X.xe s₂) X.xe s₁) X.xe s:=by
 refine thn (ha pins s σ H _ I h) fun v s1 ⟨x,H1,I1,r1,q1⟩=>?_
 refine thn (hb pins s1 σ H1 _ I1 q1) fun u s2 ⟨y,H2,I2,r2,q2⟩=>?_
 exact hf v u s2 x y H2 I2 r1 r2 q2
theorem zK{op:Operator}{r:R2}(ho:OpR X (binaryOp op) r)(ha:PE X a ta)(hb:PE X b tb):PE X (.BinOp a op b pos) (tOp r ta tb):=by
 intro pins s σ H Q I h
 exact wpAny_BinOp (binT ha hb I h fun v u s2 x y H2 I2 rx ry q=>ho pins s2 σ H2 x y v u Q I2 rx ry q)
theorem zcy{op:UnaryOp}{r:V->Hp->VK->Prop}(ho:UnR X (unaryOp op) r)(ha:PE X a ta):PE X (.UnaryOp op a pos) (tUn r ta):=by
 intro pins s σ H Q I h
 exact UnaryOp_ (thn (ha pins s σ H _ I h) fun v s1 ⟨x,H1,I1,r1,q1⟩=>ho pins s1 σ H1 x v Q I1 r1 q1)
theorem opI{f:Value->Value->Sem Value}{C:Int->Int->Prop}{g:Int->Int->Int}
  (rule:∀(i j:Int)(t u:Tok)(s:Shared)(Q:Value->Shared->Prop)(E:Value->Shared->Prop),C i j->Q (.int (g i j) s.toks) {s with toks:=s.toks+1}->wpAny (model X.prog X.w) X.A (f (.int i t) (.int j u)) Q E s):
  OpR X f (rI C fun i j=>.int (g i j)):=by
 intro pins s σ H x y v u Q I rx ry h
 obtain⟨i,j,rfl,rfl,hc,q⟩:=h
 obtain⟨t,rfl⟩:=rx
 obtain⟨t',rfl⟩:=ry
 exact rule i j t t' s _ _ hc ⟨.int (g i j),H,I.tok _,⟨_,rfl⟩,q⟩
theorem opI0{f:Value->Value->Sem Value}{g:Int->Int->Int}
  (rule:∀(i j:Int)(t u:Tok)(s:Shared)(Q:Value->Shared->Prop)(E:Value->Shared->Prop),Q (.int (g i j) s.toks) {s with toks:=s.toks+1}->wpAny (model X.prog X.w) X.A (f (.int i t) (.int j u)) Q E s):
  OpR X f (rI0 fun i j=>.int (g i j)):=by
 intro pins s σ H x y v u Q I rx ry h
 obtain⟨i,j,rfl,rfl,q⟩:=h
 obtain⟨t,rfl⟩:=rx
 obtain⟨t',rfl⟩:=ry
 exact rule i j t t' s _ _ ⟨.int (g i j),H,I.tok _,⟨_,rfl⟩,q⟩
theorem opB0{f:Value->Value->Sem Value}{g:Int->Int->Bool}
  (rule:∀(i j:Int)(t u:Tok)(s:Shared)(Q:Value->Shared->Prop)(E:Value->Shared->Prop),Q (.bool (g i j)) s->wpAny (model X.prog X.w) X.A (f (.int i t) (.int j u)) Q E s):
  OpR X f (rI0 fun i j=>.bl (g i j)):=by
 intro pins s σ H x y v u Q I rx ry h
 obtain⟨i,j,rfl,rfl,q⟩:=h
 obtain⟨t,rfl⟩:=rx
 obtain⟨t',rfl⟩:=ry
 exact rule i j t t' s _ _ ⟨.bl (g i j),H,I,rfl,q⟩
def CPow(i j:Int):Prop:=0<=j/\j<=1000000/\i.natAbs<2 ^ 64
def CMul(i j:Int):Prop:=(-(2 ^ 64)<i/\i<2 ^ 64)\/(-(2 ^ 64)<j/\j<2 ^ 64)
theorem CMul.ok{i j:Int}(h:CMul i j):IntMulOk i j:=by
 rcases h with⟨h1,h2⟩|⟨h1,h2⟩
 ·exact .of_left (intBits_le_64 h1 h2)
 ·exact .of_right (intBits_le_64 h1 h2)
theorem ZP:OpR X (binaryOp .Add) (rI0 fun i j=>.int (i+j)):=opI0 fun _ _ _ _ _ _ _ q=>add_int q
theorem zaf:OpR X (binaryOp .Sub) (rI0 fun i j=>.int (i-j)):=opI0 fun _ _ _ _ _ _ _ q=>sub_int q
theorem zcz:OpR X (binaryOp .Mult) (rI CMul fun i j=>.int (i*j)):=opI fun _ _ _ _ _ _ _ hc q=>mul_int q hc.ok
theorem zbd:OpR X (binaryOp .Mod) (rI (fun _ j=>0<j) fun i j=>.int (i % j)):=opI fun i j _ _ _ _ _ hc q=>by
 have h1:(0:Int)<j:=hc
 exact mod_int' (by lia) (by rw[Int.fmod_eq_emod_of_nonneg i (by lia)];exact q)
theorem zcA:OpR X (binaryOp .Pow) (rI CPow fun i j=>.int (i ^ j.toNat)):=opI fun _ _ _ _ _ _ _ hc q=>pow_int_small hc.1 hc.2.1 hc.2.2 q
theorem zlm:OpR X (inplaceOp .Add) (rI0 fun i j=>.int (i+j)):=opI0 fun _ _ _ _ _ _ _ q=>iadd_int q
theorem unI{f:Value->Sem Value}{g:Int->Int}
  (rule:∀(i:Int)(t:Tok)(s:Shared)(Q:Value->Shared->Prop)(E:Value->Shared->Prop),Q (.int (g i) s.toks) {s with toks:=s.toks+1}->wpAny (model X.prog X.w) X.A (f (.int i t)) Q E s):
  UnR X f (rU fun i=>.int (g i)):=by
 intro pins s σ H x v Q I rx h
 obtain⟨i,rfl,q⟩:=h
 obtain⟨t,rfl⟩:=rx
 exact rule i t s _ _ ⟨.int (g i),H,I.tok _,⟨_,rfl⟩,q⟩
theorem zbx:UnR X (unaryOp .USub) (rU fun i=>.int (-i)):=unI fun _ _ _ _ _ q=>neg_int q
end
noncomputable def scal:V->V->Bool
 |.non,.non=>true|.non,.int _=>true|.int _,.non=>true|.non,.bl _=>true|.bl _,.non=>true|.non,.str _=>true|.str _,.non=>true
 |.int _,.int _=>true|.bl _,.bl _=>true|.str _,.str _=>true|.byt _,.byt _=>true
 |.int _,.str _=>true|.str _,.int _=>true|.bl _,.str _=>true|.str _,.bl _=>true
 |_,_=>false
def rEq:R2:=fun x y H Q=>scal x y=true/\Q (.bl (decide (x=y))) H
def rNe:R2:=fun x y H Q=>scal x y=true/\Q (.bl (!decide (x=y))) H
theorem zhZ{i j:Int}:decide (V.int i=V.int j)=(i==j):=by
 rw[xG]
 simp
theorem zkE{i j:Bool}:decide (V.bl i=V.bl j)=(i==j):=by
 rw[xG]
 simp
theorem zh0{i j:Str}:decide (V.str i=V.str j)=(i==j):=by
 rw[xG]
 simp
theorem zh1{i j:Array UInt8}:decide (V.byt i=V.byt j)=(i.toList==j.toList):=by
 rw[xG]
 cases i
 cases j
 simp
section
variable{X:Cx}{a b c:Expr}{ta tb tc:TE}{pos:Pos}
theorem Zc{pins:List (Addr×Obj)}{σ:St}{H:Hp}{s:Shared}{Q:VK}{k k':Bool}(I:Inv X pins σ H s)(q:Q (.bl k) H)(e:k=k'):EP X pins σ Q (.bool k') s:=by
 subst e
 exact⟨.bl k,H,I,rfl,q⟩
theorem Z0:OpR X (tK .Eq) rEq:=by
 intro pins s σ H x y v u Q I rx ry h
 obtain⟨hs,q⟩:=h
 cases x with
 |non=>
  cases rx
  cases y with
  |non=>cases ry;exact PySem.EqNone.eq_none_none (Zc I q (by simp))
  |bl j=>cases ry;exact PySem.EqNone.eq_none_bool (Zc I q (by simp))
  |int j=>obtain⟨t',rfl⟩:=ry;exact PySem.EqNone.eq_none_int (Zc I q (by simp))
  |str j=>obtain⟨t',rfl⟩:=ry;exact PySem.EqNone.eq_none_str (Zc I q (by simp))
  |_=>exact absurd (show false=true from hs) yI
 |bl i=>
  cases rx
  cases y with
  |non=>cases ry;exact PySem.EqNone.eq_bool_none (Zc I q (by simp))
  |bl j=>cases ry;exact eq_bool (Zc I q zkE)
  |str j=>obtain⟨t',rfl⟩:=ry;exact PySem.EqMixed.eq_bool_str (Zc I q (by simp))
  |_=>exact absurd (show false=true from hs) yI
 |int i=>
  obtain⟨t,rfl⟩:=rx
  cases y with
  |non=>cases ry;exact PySem.EqNone.eq_int_none (Zc I q (by simp))
  |int j=>obtain⟨t',rfl⟩:=ry;exact eq_int (Zc I q zhZ)
  |str j=>obtain⟨t',rfl⟩:=ry;exact PySem.EqMixed.eq_int_str (Zc I q (by simp))
  |_=>exact absurd (show false=true from hs) yI
 |str i=>
  obtain⟨t,rfl⟩:=rx
  cases y with
  |non=>cases ry;exact PySem.EqNone.eq_str_none (Zc I q (by simp))
  |bl j=>cases ry;exact PySem.EqMixed.eq_str_bool (Zc I q (by simp))
  |int j=>obtain⟨t',rfl⟩:=ry;exact PySem.EqMixed.eq_str_int (Zc I q (by simp))
  |str j=>obtain⟨t',rfl⟩:=ry;exact eq_str (Zc I q zh0)
  |_=>exact absurd (show false=true from hs) yI
 |byt i=>
  obtain⟨t,rfl⟩:=rx
  cases y with
  |byt j=>obtain⟨t',rfl⟩:=ry;exact PySem.W.eq_bytes (Zc I q zh1)
  |_=>exact absurd (show false=true from hs) yI
 |_=>cases y<;>exact absurd (show false=true from hs) yI
theorem zjD:OpR X (tK .NotEq) rNe:=by
 intro pins s σ H x y v u Q I rx ry h
 obtain⟨hs,q⟩:=h
 cases x with
 |non=>
  cases rx
  cases y with
  |non=>cases ry;exact PySem.EqNone.ne_none_none (Zc I q (by simp))
  |bl j=>cases ry;exact PySem.EqNone.ne_none_bool (Zc I q (by simp))
  |int j=>obtain⟨t',rfl⟩:=ry;exact PySem.EqNone.ne_none_int (Zc I q (by simp))
  |str j=>obtain⟨t',rfl⟩:=ry;exact PySem.EqNone.ne_none_str (Zc I q (by simp))
  |_=>exact absurd (show false=true from hs) yI
 |bl i=>
  cases rx
  cases y with
  |non=>cases ry;exact PySem.EqNone.ne_bool_none (Zc I q (by simp))
  |bl j=>cases ry;exact ne_bool (Zc I q (congrArg not zkE))
  |str j=>obtain⟨t',rfl⟩:=ry;exact PySem.EqMixed.ne_bool_str (Zc I q (by simp))
  |_=>exact absurd (show false=true from hs) yI
 |int i=>
  obtain⟨t,rfl⟩:=rx
  cases y with
  |non=>cases ry;exact PySem.EqNone.ne_int_none (Zc I q (by simp))
  |int j=>obtain⟨t',rfl⟩:=ry;exact ne_int (Zc I q (congrArg not zhZ))
  |str j=>obtain⟨t',rfl⟩:=ry;exact PySem.EqMixed.ne_int_str (Zc I q (by simp))
  |_=>exact absurd (show false=true from hs) yI
 |str i=>
  obtain⟨t,rfl⟩:=rx
  cases y with
  |non=>cases ry;exact PySem.EqNone.ne_str_none (Zc I q (by simp))
  |bl j=>cases ry;exact PySem.EqMixed.ne_str_bool (Zc I q (by simp))
  |int j=>obtain⟨t',rfl⟩:=ry;exact PySem.EqMixed.ne_str_int (Zc I q (by simp))
  |str j=>obtain⟨t',rfl⟩:=ry;exact ne_str (Zc I q (congrArg not zh0))
  |_=>exact absurd (show false=true from hs) yI
 |byt i=>
  obtain⟨t,rfl⟩:=rx
  cases y with
  |byt j=>obtain⟨t',rfl⟩:=ry;exact PySem.W.ne_bytes (Zc I q (congrArg not zh1))
  |_=>exact absurd (show false=true from hs) yI
 |_=>cases y<;>exact absurd (show false=true from hs) yI
theorem zha:OpR X (tK .Lt) (rI0 fun i j=>.bl (decide (i<j))):=opB0 fun _ _ _ _ _ _ _ q=>lt_int q
theorem zln:OpR X (tK .LtE) (rI0 fun i j=>.bl (decide (i<=j))):=opB0 fun _ _ _ _ _ _ _ q=>le_int q
theorem zdJ:OpR X (tK .Gt) (rI0 fun i j=>.bl (decide (j<i))):=opB0 fun _ _ _ _ _ _ _ q=>gt_int q
theorem OpR.or{f:Value->Value->Sem Value}{r r':R2}(h:OpR X f r)(h':OpR X f r'):OpR X f (fun x y H Q=>r x y H Q\/r' x y H Q):=by
 intro pins s σ H x y v u Q I rx ry q
 rcases q with q|q
 ·exact h pins s σ H x y v u Q I rx ry q
 ·exact h' pins s σ H x y v u Q I rx ry q
theorem nomark(b:Expr){op:CmpOp}(h:op≠.In:=by decide)(h2:op≠.NotIn:=by decide):behindInMarks op b=false:=by
 have e1:(op==CmpOp.In)=false:=by cases op<;>first|rfl|exact absurd rfl h
 have e2:(op==CmpOp.NotIn)=false:=by cases op<;>first|rfl|exact absurd rfl h2
 cases b<;>simp[behindInMarks,e1,e2]
theorem Zh{op:CmpOp}{r:R2}(ho:OpR X (tK op) r)(ha:PE X a ta)(hb:PE X b tb)(hm:behindInMarks op b=false):PE X (.Compare a [op] [b] pos) (tOp r ta tb):=by
 intro pins s σ H Q I h
 exact wpAny_Compare1 (binT ha hb I h fun v u s2 x y H2 I2 rx ry q=>ho pins s2 σ H2 x y v u Q I2 rx ry q) hm
def zjE(t:TE):TT:=fun σ H Q=>t σ H fun x H'=>∃k,x=.bl k/\Q k H'
theorem zH{op:CmpOp}{r:R2}(ho:OpR X (tK op) r)(ha:PE X a ta)(hb:PE X b tb)(hm:behindInMarks op b=false):PT X (.Compare a [op] [b] pos) (zjE (tOp r ta tb)):=by
 intro pins s σ H Q I h
 refine wpAny_isTrue_Compare1 (thn (ha pins s σ H _ I h) fun v s1 ⟨x,H1,I1,r1,q1⟩=>thn (hb pins s1 σ H1 _ I1 q1) fun u s2 ⟨y,H2,I2,r2,q2⟩=>
  thn (ho pins s2 σ H2 x y v u _ I2 r1 r2 q2) fun c s3 ⟨z,H3,I3,r3,k,e,q3⟩=>?_) hm
 subst e
 cases r3
 exact wpAny_truthy_bool ⟨H3,I3,q3⟩
def zh2(r r':R2)(ta tb tc:TE):TE:=fun σ H Q=>ta σ H fun x H1=>tb σ H1 fun y H2=>r x y H2 fun z H3=>∃k,z=.bl k /\
 (if k=true then tc σ H3 fun w' H4=>r' y w' H4 Q else Q (.bl false) H3)
theorem zjF{op op':CmpOp}{r r':R2}(ho:OpR X (tK op) r)(ho':OpR X (tK op') r')(ha:PE X a ta)(hb:PE X b tb)(hc:PE X c tc)
  (hm:lastMarks [op,op'] [b,c]=false:=by with_unfolding_all rfl):PE X (.Compare a [op,op'] [b,c] pos) (zh2 r r' ta tb tc):=by
 intro pins s σ H Q I h
 refine Compare_chain (thn (ha pins s σ H _ I h) fun v s1 ⟨x,H1,I1,r1,q1⟩=>chain_link (thn (hb pins s1 σ H1 _ I1 q1) fun u s2 ⟨y,H2,I2,r2,q2⟩=>
  thn (ho pins s2 σ H2 x y v u _ I2 r1 r2 q2) fun d s3 ⟨z,H3,I3,r3,k,e,q3⟩=>?_)) hm
 subst e
 cases r3
 refine wpAny_truthy_bool ?_
 cases k with
 |false=>exact ite_ff ⟨.bl false,H3,I3,rfl,q3⟩
 |true=>exact ite_tt (chain_last (thn (hc pins s3 σ H3 _ I3 q3) fun w' s4 ⟨z',H4,I4,r4,q4⟩=>ho' pins s4 σ H4 y z' u w' Q I4 r2 r4 q4))
theorem zcl{op op':CmpOp}{r r':R2}(ho:OpR X (tK op) r)(ho':OpR X (tK op') r')(ha:PE X a ta)(hb:PE X b tb)(hc:PE X c tc)
  (hm:lastMarks [op,op'] [b,c]=false:=by with_unfolding_all rfl):PT X (.Compare a [op,op'] [b,c] pos) (zjE (zh2 r r' ta tb tc)):=by
 intro pins s σ H Q I h
 refine isTrue_chain (thn (ha pins s σ H _ I h) fun v s1 ⟨x,H1,I1,r1,q1⟩=>test_link (thn (hb pins s1 σ H1 _ I1 q1) fun u s2 ⟨y,H2,I2,r2,q2⟩=>
  thn (ho pins s2 σ H2 x y v u _ I2 r1 r2 q2) fun d s3 ⟨z,H3,I3,r3,k,e,q3⟩=>?_)) hm
 subst e
 cases r3
 refine wpAny_truthy_bool ?_
 cases k with
 |false=>
  obtain⟨k',e',q'⟩:=q3
  cases e'
  exact ite_ff ⟨H3,I3,q'⟩
 |true=>
  refine ite_tt (test_last (thn (hc pins s3 σ H3 _ I3 q3) fun w' s4 ⟨z',H4,I4,r4,q4⟩=>thn (ho' pins s4 σ H4 y z' u w' _ I4 r2 r4 q4) fun d' s5 ⟨z2,H5,I5,r5,k2,e2,q5⟩=>?_))
  subst e2
  cases r5
  exact wpAny_truthy_bool ⟨H5,I5,q5⟩
theorem zeH:(tF:Nat)<2 ^ 63:=by rw[sizeLine_eq];decide
theorem zbP:OpR X (binaryOp .Add) (fun x y H Q=>∃i j,x=.str i/\y=.str j/\i.length+j.length<=tF/\Q (.str (i++j)) H):=by
 intro pins s σ H x y v u Q I rx ry h
 obtain⟨i,j,rfl,rfl,hz,q⟩:=h
 obtain⟨t,rfl⟩:=rx
 obtain⟨t',rfl⟩:=ry
 exact add_str (fun t' tk=>⟨.str (i++j),H,I.tok _,⟨_,rfl⟩,q⟩) hz
theorem zcd{x:V}{us:List Value}(r:Vals [x] us):∃u,us=[u]/\RelV x u:=by
 cases r with
 |cons r1 r2=>cases r2;exact⟨_,rfl,r1⟩
theorem zhb{x y:V}{us:List Value}(r:Vals [x,y] us):∃u w',us=[u,w']/\RelV x u/\RelV y w':=by
 cases r with
 |cons r1 r2=>
  cases r2 with
  |cons r3 r4=>cases r4;exact⟨_,_,rfl,r1,r3⟩
theorem zjG:zaV X (.builtin "abs") (fun xs H Q=>∃i,xs=[.int i]/\Q (.int (if i<0 then -i else i)) H):=by
 intro pins s σ H xs us Q I r h
 obtain⟨i,rfl,q⟩:=h
 obtain⟨u,rfl,t,rfl⟩:=zcd r
 exact call_abs_int fun u tk=>⟨.int (if i<0 then -i else i),H,I.tok _,⟨_,rfl⟩,q⟩
theorem zh3(hc:X.calm=true):zaV X (.builtin "min") (fun xs H Q=>∃i j,xs=[.int i,.int j]/\Q (.int (if j<i then j else i)) H):=by
 intro pins s σ H xs us Q I r h
 obtain⟨i,j,rfl,q⟩:=h
 obtain⟨u,w',rfl,⟨t,rfl⟩,⟨t',rfl⟩⟩:=zhb r
 refine min_two_ints (I.ok.hd hc) fun h' tk k=>⟨_,H,I.kept k,?_,q⟩
 by_cases hj:j<i
 ·rw[if_pos hj,if_pos hj];exact⟨_,rfl⟩
 ·rw[if_neg hj,if_neg hj];exact⟨_,rfl⟩
theorem zeI:zaV X (.type "int") (fun xs H Q=>(∃i,xs=[.int i]/\Q (.int i) H)\/∃k,xs=[.bl k]/\Q (.int (if k then 1 else 0)) H):=by
 intro pins s σ H xs us Q I r h
 rcases h with⟨i,rfl,q⟩|⟨k,rfl,q⟩
 ·obtain⟨u,rfl,t,rfl⟩:=zcd r
  exact call_int_int ⟨.int i,H,I,⟨_,rfl⟩,q⟩
 ·obtain⟨u,rfl,r1⟩:=zcd r
  cases r1
  exact call_int_bool ⟨.int (if k then 1 else 0),H,I.tok _,⟨_,rfl⟩,q⟩
theorem zeJ:zaV X (.type "str") (fun xs H Q=>∃i,xs=[.int i]/\i.natAbs.log2<1920/\Q (.str (toString i)) H):=by
 intro pins s σ H xs us Q I r h
 obtain⟨i,rfl,hz,q⟩:=h
 obtain⟨u,rfl,t,rfl⟩:=zcd r
 exact PySem.P.str_of_int hz ⟨.str _,H,I.tok _,⟨_,rfl⟩,q⟩
theorem zjH:zaV X (.builtin "ord") (fun xs H Q=>∃x,xs=[.str x]/\x.length=1/\Q (.int (x.cps.getD 0 0:Nat)) H):=by
 intro pins s σ H xs us Q I r h
 obtain⟨x,rfl,hz,q⟩:=h
 obtain⟨u,rfl,t,rfl⟩:=zcd r
 exact ord_of_one hz ⟨.int _,H,I.tok _,⟨_,rfl⟩,q⟩
def LenV(K:tP)(x:V)(H:Hp)(n:Nat):Prop:=
 match x with
 |.str y=>y.length<=tF/\n=y.length
 |.byt y=>y.size<=tF/\n=y.size
 |.ref p=>(∃xs,SqL K H p xs/\n=xs.length)\/∃xs,SqT K H p xs/\n=xs.length
 |_=>False
theorem zP:zaV X (.builtin "len") (fun xs H Q=>∃x n,xs=[x]/\LenV X.K x H n/\Q (.int n) H):=by
 intro pins s σ H xs us Q I r h
 obtain⟨x,n,rfl,e,q⟩:=h
 obtain⟨u,rfl,rx⟩:=zcd r
 have hl:=zeH
 have hs:tF=16777216:=sizeLine_eq
 cases x with
 |str y=>
  obtain⟨t,rfl⟩:=rx
  obtain⟨hy,e'⟩:y.length<=tF/\n=y.length:=e
  subst e'
  exact len_str (by lia) ⟨.int _,H,I.tok _,⟨_,rfl⟩,q⟩
 |byt y=>
  obtain⟨t,rfl⟩:=rx
  obtain⟨hy,e'⟩:y.size<=tF/\n=y.size:=e
  subst e'
  exact PySem.W.len_bytes (by lia) ⟨.int _,H,I.tok _,⟨_,rfl⟩,q⟩
 |ref p=>
  cases rx
  have e':(∃xs,SqL X.K H p xs/\n=xs.length)\/∃xs,SqT X.K H p xs/\n=xs.length:=e
  rcases e' with⟨xs,hx,e'⟩|⟨xs,hx,e'⟩
  ·subst e'
   obtain⟨its,r',pl,hz⟩:=I.list hx
   have hlen:=r'.length
   exact Calls.call_len_list pl.isList (by simp only[yG];lia) ⟨.int xs.length,H,I.tok _,⟨_,by simp only[yG];rw[hlen]⟩,q⟩
  ·subst e'
   obtain⟨its,r',pl,hz⟩:=I.tuple hx
   have hlen:=r'.length
   exact len_tuple pl (by simp only[yG];lia) ⟨.int xs.length,H,I.tok _,⟨_,by simp only[yG];rw[hlen]⟩,q⟩
 |_=>exact (show False from e).elim
end
structure ObjM(h:Heap)(x dx C:Addr)(mA:Str->Option Value):Prop where
 obj:h.get? x=some (instObj C dx)
 ns:h.Ns1 dx mA
 ne:dx≠x
theorem zh4{h:Heap}{dx:Addr}{mA:Str->Option Value}(n:h.Ns1 dx mA):∃od,h.get? dx=some od/\∀name,lookIn name od=some (mA name):=by
 obtain⟨o,es,ep,ho,hd,hk,_,hm⟩:=n
 refine⟨o,ho,fun name=>?_⟩
 have e:=hm name
 unfold nsFind findBy at e
 rw[←Array.find?_toList] at e
 unfold lookIn
 rw[hd]
 dsimp only
 split
 ·rename_i y q
  rw[q] at e
  exact congrArg some e
 ·rename_i q
  rw[q] at e
  have a:es.toList.any (·.refKey)=false:=by
   rw[List.any_eq_false]
   intro y hy
   obtain⟨z,t,hkey⟩:=hk y (Array.mem_toList_iff.mp hy)
   simp[DictEntry.refKey,hkey]
  have a':¬es.toList.any (·.refKey)=true:=by rw[a];exact yI
  rw[if_neg a']
  exact congrArg some e
theorem ObjM.look{h:Heap}{x dx C:Addr}{mA:Str->Option Value}(I:ObjM h x dx C mA):∃od,PySem.W.InstAt h x (instObj C dx) C (some od)/\∀name,lookIn name od=some (mA name):=
 let ⟨od,ho,hl⟩:=zh4 I.ns
 ⟨od,⟨I.obj,rfl,rfl,ho⟩,hl⟩
section
variable{prog:Program}{w:World}{A:Around}{E:Value->Shared->Prop}{s:Shared}{K:tP}{x dx C f:Addr}{mA:Str->Option Value}{name:Str}{v:Value}
theorem zlo{expr:Bool}{Q:Value->Shared->Prop}(X:K.In s.heap)(I:ObjM s.heap x dx C mA)(hg:plainGet K C name=true)(hh:hasDictIn K C=true)
  (ha:findIn K (.ref C) name=some none) (hv:mA name=some v) (hv':PySem.W.handedIn v=true) (h:Q v {s with toks:=s.toks+1}):
  wpAny (model prog w) A (getAttr (.ref x) name expr) Q E s:=by
 obtain⟨od,J,hl⟩:=I.look
 exact PySem.W.get_value X J (plainGet_of hg).1 (PySem.W.findObj_own hh ha rfl (by rw[hl,hv])) hv' h
theorem zjI{pl:Sem Bool}{Q:Value×List Value->Shared->Prop}(X:K.In s.heap)(I:ObjM s.heap x dx C mA)(hg:plainGet K C name=true)
  (hf:findIn K (.ref C) name=some (some (.ref f))) (ht:isFn K (.ref f)=true) (hv:mA name=none) (h:Q (.ref f,[.ref x]) s):
  wpAny (model prog w) A (getMethod (.ref x) name pl) Q E s:=by
 obtain⟨od,J,hl⟩:=I.look
 exact PySem.W.method_fn X J (plainGet_of hg).1 (plainGet_of hg).2 hf (beq_iff_eq.mp ht) (by show (lookIn name od).map (·.isSome)=some false;rw[hl,hv];rfl) h
theorem zlp{ns:List Str}{Q:Unit->Shared->Prop}(X:K.In s.heap)(I:ObjM s.heap x dx C mA)
  (hs:findIn K (.ref C) "__setattr__"=some (some (.builtin "object.__setattr__"))) (hp:plainOver K C=true) (ht:takerIn K C name=some none) (hh:hasDictIn K C=true)
  (hw:PySem.Within mA ns) (hsz:ns.length<=tF)
  (h:∀h',ObjM h' x dx C (fun y=>if y=name then some v else mA y)->Heap.SameBut dx s.heap h'->Q () {s with heap:=h',toks:=s.toks+2}):
  wpAny (model prog w) A (setAttr (.ref x) name v) Q E s:=by
 obtain⟨od,J,hl⟩:=I.look
 refine PySem.W.set_plain X J hs (PySem.W.osa_open (s:={s with toks:=s.toks+1}) (r:=none) X J hp ht fun b=>?_)
 obtain⟨cd,hc,hd'⟩:=PySem.W.any_some hh
 have hx:s.heap.get? x=some ⟨.ref C,some dx,.plain,#[]⟩:=I.obj
 refine uV (uW (uV (uV (wpAny_loadPart hx (uV (PySem.W.Looks.here (s:={s with toks:=s.toks+1}) (PySem.W.looks_clsIn X hc) ?_))))))
 rw[hd']
 refine uW (a:=some dx) (uV (uW (uV ?_)))
 refine wpAny_nsSet1 (s:={s with toks:=s.toks+1}) I.ns fun h' hn2 hs2=>?_
 obtain⟨oD,esD,epD,hoD,hdD,hcD⟩:=hn2.count (PySem.Within.cons name v hw)
 refine uV (wpAny_lookBehind hoD (by rw[hdD];exact pastItsLine_dict (yQ hcD (by rw[yJ];lia))) ?_)
 exact uW (h _ ⟨(hs2.2 _ (Ne.symm I.ne)).trans I.obj,hn2,I.ne⟩ hs2)
theorem zjJ{R:Result->Shared->Prop}{vs:List Value}{kw:List (Str×Value)}(X:K.In s.heap)(hm:makesIn K C=true)
  (hi:findIn K (.ref C) "__init__"=some (some (.ref f))) (hf:PySem.W.typeIn K (.ref f)=some (.type "function"))
  (h:codeAny (model prog w) (A.under (.builtin "type.__call__" ⟨.ref C::vs,kw⟩)) (.call (.ref f) ⟨.ref (s.heap.objs.size+1)::vs,kw⟩) (PySem.W.InitBack (s.heap.objs.size+1) R)
   {s with heap:=(s.heap.push emptyDict).push (instObj C s.heap.objs.size)}):
  codeAny (model prog w) A (.call (.ref C) ⟨vs,kw⟩) R s:=by
 obtain⟨hh,g,d,t,os⟩:=s
 exact PySem.W.make_core (PySem.W.makes_of X hm) (PySem.W.looks_findIn X hi) (fun self=>PySem.W.bind_fn X self hf) (.inl rfl) h
end
noncomputable def putF(f:Str)(v:V):List (Str×V)->List (Str×V)
 |[]=>[(f,v)]
 |(g,x)::r=>if g=f then (g,v)::r else (g,x)::putF f v r
theorem ZH(f g:Str)(v:V):∀fs:List (Str×V),(putF f v fs).lookup g=if g=f then some v else fs.lookup g
 |[]=>by
  show xX g [(f,v)]=_
  by_cases h:g=f
  ·have hb:(g==f)=true:=beq_iff_eq.mpr h
   simp only[xX,hb,if_pos h]
  ·have hb:(g==f)=false:=beq_eq_false_iff_ne.mpr h
   simp only[xX,hb,if_neg h]
 |(k,x)::r=>by
  have ih:=ZH f g v r
  rw[show putF f v ((k,x)::r)=(if k=f then (k,v)::r else (k,x)::putF f v r) from rfl]
  by_cases hk:k=f
  ·rw[if_pos hk]
   by_cases h:g=k
   ·have hb:(g==k)=true:=beq_iff_eq.mpr h
    simp only[xX,hb,if_pos (h.trans hk)]
   ·have hb:(g==k)=false:=beq_eq_false_iff_ne.mpr h
    simp only[xX,hb,if_neg (fun e:g=f=>h (e.trans hk.symm))]
  ·rw[if_neg hk]
   by_cases h:g=k
   ·have hb:(g==k)=true:=beq_iff_eq.mpr h
    simp only[xX,hb,if_neg (fun e:g=f=>hk (h.symm.trans e))]
   ·have hb:(g==k)=false:=beq_eq_false_iff_ne.mpr h
    simp only[xX,hb]
    exact ih
theorem zcB(f:Str)(v:V):∀fs:List (Str×V),f∈(putF f v fs).map (·.1)/\∀g,g∈fs.map (·.1)->g∈(putF f v fs).map (·.1)
 |[]=>⟨by simp[putF],fun g h=>by simp at h⟩
 |(k,x)::r=>by
  obtain⟨i1,i2⟩:=zcB f v r
  rw[show putF f v ((k,x)::r)=(if k=f then (k,v)::r else (k,x)::putF f v r) from rfl]
  by_cases hk:k=f
  ·rw[if_pos hk]
   subst hk
   exact⟨by simp,fun g h=>by simpa using h⟩
  ·rw[if_neg hk]
   refine⟨?_,fun g h=>?_⟩
   ·rw[yX]
    exact yV _ i1
   ·rw[yX] at h ⊢
    rcases yS.mp h with e|e
    ·exact yS.mpr (.inl e)
    ·exact yV _ (i2 g e)
theorem zcC(f:Str)(v:V):∀fs:List (Str×V),(putF f v fs).length<=fs.length+1
 |[]=>by simp[putF]
 |(k,x)::r=>by
  have ih:=zcC f v r
  rw[show putF f v ((k,x)::r)=(if k=f then (k,v)::r else (k,x)::putF f v r) from rfl]
  by_cases hk:k=f
  ·rw[if_pos hk,yJ,yJ];lia
  ·rw[if_neg hk,yJ,yJ];lia
theorem RelO.some_of{v:V}{o:Option Value}(r:RelO (some v) o):∃u,o=some u/\RelV v u:=by
 cases o with
 |none=>exact (show False from r).elim
 |some u=>exact⟨u,rfl,r⟩
theorem RelO.none_of{o:Option Value}(r:RelO none o):o=none:=by
 cases o with
 |none=>rfl
 |some u=>exact (show False from r).elim
theorem zh5{v:V}{u:Value}(r:RelV v u):PySem.W.handedIn u=true:=by
 cases v with
 |non=>cases (show u=Value.none from r);rfl
 |bl b=>cases (show u=Value.bool b from r);rfl
 |int i=>obtain⟨t,e⟩:=(show ∃t,u=Value.int i t from r);cases e;rfl
 |str x=>obtain⟨t,e⟩:=(show ∃t,u=Value.str x t from r);cases e;rfl
 |byt b=>obtain⟨t,e⟩:=(show ∃t,u=Value.bytes b t from r);cases e;rfl
 |flt b=>obtain⟨t,e⟩:=(show ∃t,u=Value.float b t from r);cases e;rfl
 |ref a=>cases (show u=Value.ref a from r);rfl
 |ty n=>cases (show u=Value.type n from r);rfl
section
variable{P:Program}{w:World}{H H':Hp}{h h':Heap}{a C dx:Addr}{fs fs':List (Str×V)}
theorem zdK(hok:HOk P w H h)(e:H a=some (.ins C dx fs)):∃mA,ObjM h a dx C mA/\(∀f,RelO (fs.lookup f) (mA f))/\PySem.Within mA (fs.map (·.1))/\fs.length<=1000/\H dx=some (.own a):=by
 obtain⟨d,z,ne,ob,mA,n,r,q⟩:=(show Zw P w H h a (.ins C dx fs) from hok a _ e)
 exact⟨mA,⟨ob,n,ne⟩,r,q,z,d⟩
end
structure Cls(K:tP)(C:Addr):Prop where
 pg:plainGet K C Str.empty=true
 hd:hasDictIn K C=true
 po:plainOver K C=true
 sa:findIn K (.ref C) "__setattr__"=some (some (.builtin "object.__setattr__"))
theorem Cls.get{K:tP}{C:Addr}(c:Cls K C)(f:Str):plainGet K C f=true:=c.pg
def zO(K:tP)(C:Addr)(f:Str):Prop:=findIn K (.ref C) f=some none
theorem zO.taker{K:tP}{C:Addr}{f:Str}(n:zO K C f):takerIn K C f=some none:=by
 unfold takerIn
 rw[show findIn K (.ref C) f=some none from n]
 rfl
structure Meth(K:tP)(C:Addr)(m:Str)(f:Addr):Prop where
 at_:findIn K (.ref C) m=some (some (.ref f))
 fn:isFn K (.ref f)=true
 kp:keepIn K (.ref f)=true
section
variable{X:Cx}{pins:List (Addr×Obj)}{σ:St}{H:Hp}{s:Shared}{a C dx:Addr}{fs:List (Str×V)}{f:Str}{v:V}{A:Around}{E:Value->Shared->Prop}
theorem zhc{b:Bool}{Q:Value->Shared->Prop}(I:Inv X pins σ H s)(e:H a=some (.ins C dx fs))(c:Cls X.K C)(n:zO X.K C f)(l:fs.lookup f=some v)
  (h:∀u s',Inv X pins σ H s'->RelV v u->Q u s'):wpAny (model X.prog X.w) A (getAttr (.ref a) f b) Q E s:=by
 obtain⟨mA,O,r,_,_,_⟩:=zdK I.hok e
 obtain⟨u,hu,ru⟩:=RelO.some_of (v:=v) (o:=mA f) (by rw[←l];exact r f)
 exact zlo I.kIn O (c.get f) c.hd n hu (zh5 ru) (h u _ (I.tok _) ru)
theorem zds{m:Str}{g:Addr}{pl:Sem Bool}{Q:Value×List Value->Shared->Prop}(I:Inv X pins σ H s)(e:H a=some (.ins C dx fs))(c:Cls X.K C)(k:Meth X.K C m g)(l:fs.lookup m=none)
  (h:Q (.ref g,[.ref a]) s):wpAny (model X.prog X.w) A (getMethod (.ref a) m pl) Q E s:=by
 obtain⟨mA,O,r,_,_,_⟩:=zdK I.hok e
 have hn:mA m=none:=RelO.none_of (by rw[←l];exact r m)
 exact zjI I.kIn O (c.get m) k.at_ k.fn hn h
theorem zhd{y:V}{u:Value}{Q:Unit->Shared->Prop}(I:Inv X pins σ H s)(e:H a=some (.ins C dx fs))(c:Cls X.K C)(n:zO X.K C f)(hl:fs.length<1000)(ry:RelV y u)
  (h:∀s',Inv X pins σ (upd H a (.ins C dx (putF f y fs))) s'->Q () s'):wpAny (model X.prog X.w) A (setAttr (.ref a) f u) Q E s:=by
 obtain⟨mA,O,r,wi,_,ho⟩:=zdK I.hok e
 have hz:(fs.map (·.1)).length<=tF:=by rw[yB,sizeLine_eq];lia
 refine zlp I.kIn O c.sa c.po n.taker c.hd wi hz fun h' O' sb=>h _ ?_
 have hd:∃o,h'.get? dx=some o:=let ⟨o,_,_,e',_⟩:=O'.ns;⟨o,e'⟩
 refine I.write (x:=a) (e:=dx) (by rw[e];exact True.intro) (.inr ho) (fun b q hb z=>(sb.2 b hb).trans z) hd ?_
 refine⟨by rw[zu O.ne];exact ho,?_,O.ne,O'.obj,_,O'.ns,fun g=>?_,fun g hg=>?_⟩
 ·have:=zcC f y fs;lia
 ·show RelO ((putF f y fs).lookup g) (if g=f then some u else mA g)
  rw[ZH]
  by_cases q:g=f
  ·rw[if_pos q,if_pos q];exact ry
  ·rw[if_neg q,if_neg q];exact r g
 ·by_cases q:g=f
  ·rw[q];exact (zcB f y fs).1
  ·refine (zcB f y fs).2 g (wi g fun z=>hg ?_)
   show (if g=f then some u else mA g)=none
   rw[if_neg q];exact z
theorem Inv.made(I:Inv X pins σ H s):Inv X pins σ (upd (upd H s.heap.objs.size (.own (s.heap.objs.size+1))) (s.heap.objs.size+1) (.ins C s.heap.objs.size []))
  {s with heap:=(s.heap.push emptyDict).push (instObj C s.heap.objs.size)}:=by
 have e1:(s.heap.push emptyDict).get? s.heap.objs.size=some emptyDict:=uZ s.heap rfl
 have e2:((s.heap.push emptyDict).push (instObj C s.heap.objs.size)).get? (s.heap.objs.size+1)=some (instObj C s.heap.objs.size):=by
  have:=uZ (s.heap.push emptyDict) (o:=instObj C s.heap.objs.size) rfl
  rwa [Heap.size_push] at this
 have e3:(s.heap.push emptyDict).Ns s.heap.objs.size (fun _=>none):=⟨emptyDict,#[],_,e1,rfl,(fun e he=>absurd he (by simp)),fun _=>rfl⟩
 have I1:=I.laid (a:=s.heap.objs.size) (o:=.own (s.heap.objs.size+1)) (h':=s.heap.push emptyDict) (t':=s.toks) (fun b u q=>uX _ q) (yE _) ⟨_,e1⟩
 refine I1.laid (a:=s.heap.objs.size+1) (o:=.ins C s.heap.objs.size []) (t':=s.toks) (fun b u q=>uX _ q) (Nat.le_of_eq (Heap.size_push _ _)) ?_
 have ne:s.heap.objs.size≠s.heap.objs.size+1:=yW (wN _)
 refine⟨by rw[zu ne,zf],yN _,ne,e2,fun _=>none,(Heap.Ns1.of_empty e3).at fun o q=>uX _ q,fun _=>True.intro,fun y hy=>absurd rfl hy⟩
theorem zlq{prog:Program}{w:World}{env:Env}{e:Expr}{f:Str}{pos:Pos}{s:Shared}{Q:Value->Shared->Prop}(hb:attributeBase e f env (eval e env)=eval e env)
  (h:wpAny (model prog w) A (eval e env) (fun o s₁=>wpAny (model prog w) A (getAttr o f true) Q E s₁) E s):wpAny (model prog w) A (eval (.Attribute e f pos) env) Q E s:=
 Attribute_any_ h (by rw[arm_eval_Attribute,hb])
end
def tFld(K:tP)(ta:TE)(f:Str):TE:=fun σ H Q=>ta σ H fun x H1=>∃a C dx fs v,x=.ref a/\H1 a=some (.ins C dx fs)/\Cls K C/\zO K C f/\fs.lookup f=some v/\Q v H1
def sFld(K:tP)(ta tv:TE)(f:Str):TS:=fun D σ H=>tv σ H fun y H1=>ta σ H1 fun x H2=>∃a C dx fs,x=.ref a/\H2 a=some (.ins C dx fs)/\Cls K C/\zO K C f/\fs.length<1000 /\
 D.nx σ (upd H2 a (.ins C dx (putF f y fs)))
section
variable{X:Cx}{o e value:Expr}{f:Str}{pos pos' tpos:Pos}{ta tv:TE}
theorem zL(he:PE X e ta)(hb:attributeBase e f X.env (eval e X.env)=eval e X.env):PE X (.Attribute e f pos) (tFld X.K ta f):=by
 intro pins s σ H Q I h
 refine zlq hb (thn (he pins s σ H _ I h) fun u s1 ⟨x,H1,I1,rx,a,C,dx,fs,v,ex,ea,c,n,l,q⟩=>?_)
 subst ex
 obtain rfl:u=Value.ref a:=rx
 exact zhc I1 ea c n l fun u' s2 I2 ru=>⟨v,H1,I2,ru,q⟩
theorem ZY(ha:PE X o ta)(hv:PE X value tv)(hs:swapsWith value (some (.Attribute o f pos')) pos.line X.env=pure false):PS X (.Assign [.Attribute o f pos'] value pos) (sFld X.K ta tv f):=by
 intro pins s σ H D I h
 refine plainObj_wpAny_Assign_Attribute (thn (hv pins s σ H _ I h) fun u s1 ⟨y,H1,I1,ry,q⟩=>thn (ha pins s1 σ H1 _ I1 q) fun ov s2 ⟨x,H2,I2,rx,a,C,dx,fs,ex,ea,c,n,l,q2⟩=>?_) hs
 subst ex
 obtain rfl:ov=Value.ref a:=rx
 exact zhd I2 ea c n l ry fun s3 I3=>⟨σ,_,I3,q2⟩
end
section
variable{X:Cx}{pins:List (Addr×Obj)}{σ:St}{H:Hp}{s:Shared}{A:Around}{E:Value->Shared->Prop}{Q:Value->Shared->Prop}{c:Value}{b:Bool}
inductive TyOf(K:tP)(H:Hp):V->Value->Prop where
 |non:TyOf K H .non (.type "NoneType")
 |bl (x:Bool):TyOf K H (.bl x) (.type "bool")
 |int (i:Int):TyOf K H (.int i) (.type "int")
 |str (x:Str):TyOf K H (.str x) (.type "str")
 |flt (x:UInt64):TyOf K H (.flt x) (.type "float")
 |lst {a:Addr}{xs:List V} (e:H a=some (.lst xs)):TyOf K H (.ref a) (.type "list")
 |frz {a:Addr}{o:Obj}{xs:List V} (e:H a=some (.frz o (.lst xs))):TyOf K H (.ref a) (.type "list")
 |tup {a:Addr}{xs:List V} (e:H a=some (.tup xs)):TyOf K H (.ref a) (.type "tuple")
 |dK {a:Addr}{kvs:List (Key×V)} (e:H a=some (.dK kvs)):TyOf K H (.ref a) (.type "dict")
 |dT {a:Addr}{kvs:List (List Key×V)} (e:H a=some (.dT kvs)):TyOf K H (.ref a) (.type "dict")
 |ins {a C dx:Addr}{fs:List (Str×V)} (e:H a=some (.ins C dx fs)) (cl:Cls K C) (ha:findIn K (.ref C) "__class__"=some (some (.builtin "object.__class__")))
   (hn:PySem.W.specialIn K (.builtin "object.__class__") "__get__"=some (some (.builtin "getset_descriptor.__get__"))) (htk:PySem.W.takesIn K (.builtin "object.__class__")=some true)
   (hm:PySem.W.mroIn K C (.type "object")=some true):TyOf K H (.ref a) (.ref C)
theorem zh6{x:V}{u t:Value}(I:Inv X pins σ H s)(rx:RelV x u)(ty:TyOf X.K H x t)(e:PySem.W.kitOne X.K t c=some b)(h:∀tk,Q (.bool b) {s with toks:=tk}):
  wpAny (model X.prog X.w) A (call (.builtin "isinstance") [u,c]) Q E s:=by
 cases ty with
 |non=>cases (show u=Value.none from rx);exact kia_one PySem.W.kitx_none I.kIn True.intro e (fun z=>nomatch z) h
 |bl y=>cases (show u=Value.bool y from rx);exact kia_one PySem.W.kitx_bool I.kIn True.intro e (fun z=>nomatch z) h
 |int i=>obtain⟨t,q⟩:=(show ∃t,u=Value.int i t from rx);cases q;exact kia_one PySem.W.kitx_int I.kIn True.intro e (fun z=>nomatch z) h
 |str y=>obtain⟨t,q⟩:=(show ∃t,u=Value.str y t from rx);cases q;exact kia_one PySem.W.kitx_str I.kIn True.intro e (fun z=>nomatch z) h
 |flt y=>obtain⟨t,q⟩:=(show ∃t,u=Value.float y t from rx);cases q;exact kia_one PySem.W.kitx_float I.kIn True.intro e (fun z=>nomatch z) h
 | @lst a xs ea=>
  cases (show u=Value.ref a from rx)
  obtain⟨_,_,n,_,h1⟩:=(show Zw X.prog X.w H s.heap a (.lst xs) from I.hok a _ ea)
  exact kia_one kitx_list I.kIn ⟨_,h1,rfl⟩ e (fun z=>nomatch z) h
 | @frz a ob xs ea=>
  cases (show u=Value.ref a from rx)
  obtain⟨_,_,_,n,_,h1⟩:=(show Zw X.prog X.w H s.heap a (.frz ob (.lst xs)) from I.hok a _ ea)
  exact kia_one kitx_list I.kIn ⟨_,h1,rfl⟩ e (fun z=>nomatch z) h
 | @tup a xs ea=>
  cases (show u=Value.ref a from rx)
  obtain⟨_,_,_,p⟩:=(show Zw X.prog X.w H s.heap a (.tup xs) from I.hok a _ ea)
  obtain⟨o,h1,h2,_⟩:=p
  exact kia_one PySem.W.kitx_tuple I.kIn ⟨o,h1,h2⟩ e (fun z=>nomatch z) h
 | @dK a kvs ea=>
  cases (show u=Value.ref a from rx)
  obtain⟨_,_,vs,_,p⟩:=(show Zw X.prog X.w H s.heap a (.dK kvs) from I.hok a _ ea)
  obtain⟨o,es,ep,h1,h2,_⟩:=p
  exact kia_one kitx_dict I.kIn ⟨o,h1,h2.1⟩ e (fun z=>nomatch z) h
 | @dT a kvs ea=>
  cases (show u=Value.ref a from rx)
  obtain⟨_,_,xs,_,o,es,ep,h1,h2,_⟩:=(show Zw X.prog X.w H s.heap a (.dT kvs) from I.hok a _ ea)
  exact kia_one kitx_dict I.kIn ⟨o,h1,h2.1⟩ e (fun z=>nomatch z) h
 | @ins a C dx fs ea cl ha hn htk hm=>
  cases (show u=Value.ref a from rx)
  obtain⟨mA,O,_⟩:=zdK I.hok ea
  obtain⟨od,J,_⟩:=O.look
  exact kia_one (PySem.W.kitx_own (cl.get _) cl.hd ha hn htk hm) I.kIn J e (fun z=>nomatch z) h
end
structure Room(k:Nat)(A:Around):Prop where
 hd:A.handled=none
 dp:A.depth+3*k+5<recursionLimit
 un:A.units+16*k+200<cLine
 gd:A.guards=some []
theorem Room.mono{j k:Nat}{A:Around}(r:Room k A)(h:j<=k):Room j A:=⟨r.hd,by have:=r.dp;lia,by have:=r.un;lia,r.gd⟩
theorem Room.deeper{k:Nat}{A:Around}(r:Room (k+1) A)(env:Env):Room k (A.deeper env):=
 ⟨r.hd,by have:=r.dp;show A.depth+1+3*k+5<_;lia,by have:=r.un;show A.units+3+16*k+200<_;lia,r.gd⟩
theorem zhe{A:Around}{C:Addr}{us:List Value}{kw:List (Str×Value)}:(A.under (.builtin "type.__call__" ⟨.ref C::us,kw⟩)).depth=A.depth+1:=by
 first|rfl|simp[Around.under,Code.weight,Code.isCreation,Code.isGuard,Code.isCaller,Code.frames,Code.isFrame,guardIds]
theorem zhf{A:Around}{C:Addr}{us:List Value}{kw:List (Str×Value)}:(A.under (.builtin "type.__call__" ⟨.ref C::us,kw⟩)).units=A.units+1:=by
 first|rfl|simp[Around.under,Code.cUnits,Code.frames,Code.isFrame]
theorem zfE{A:Around}{C:Addr}{us:List Value}{kw:List (Str×Value)}:(A.under (.builtin "type.__call__" ⟨.ref C::us,kw⟩)).guards=A.guards:=by
 first|rfl|(show pushGuards (Code.guards _) A.guards=_;rw[show Code.guards (.builtin "type.__call__" ⟨.ref C::us,kw⟩)=[] from rfl];rfl)|simp[Around.under,Code.guards,Code.isGuard,guardIds,pushGuards]
theorem Room.make{k:Nat}{A:Around}(r:Room (k+1) A)(C:Addr)(us:List Value)(kw:List (Str×Value)):Room k (A.under (.builtin "type.__call__" ⟨.ref C::us,kw⟩)):=
 ⟨r.hd,by have:=r.dp;rw[zhe];lia,by have:=r.un;rw[zhf];lia,(zfE (A:=A) (C:=C) (us:=us) (kw:=kw)).trans r.gd⟩
theorem Room.depth{k:Nat}{A:Around}(r:Room k A):A.depth<recursionLimit:=by have:=r.dp;lia
theorem Room.units{k:Nat}{A:Around}(r:Room k A):A.units+64<cLine:=by have:=r.un;lia
def tNil:TA:=fun _ H Q=>Q [] H
def zcD(ta:TE)(tr:TA):TA:=fun σ H Q=>ta σ H fun x H1=>tr σ H1 fun xs H2=>Q (x::xs) H2
section
variable{X:Cx}{e:Expr}{es:List Expr}{te:TE}{t:TA}{pos:Pos}
theorem zi:PA X [] tNil:=fun _ _ _ _ H Q I h=>Calls.spliced_nil ⟨[],H,I,.nil,h⟩
theorem zc(ha:PE X e te)(hr:PA X es t)(hs:tI (e::es) X.env=(false,eval e X.env)::tI es X.env:=by rfl):PA X (e::es) (zcD te t):=by
 intro pos pins s σ H Q I h
 rw[hs]
 show wpAny _ _ (spliced ((false,eval e X.env)::backTo pos (tI es X.env))) _ _ s
 refine Calls.spliced_cons (thn (ha pins s σ H _ I h) fun u s1 ⟨x,H1,I1,r1,q1⟩=>?_)
 exact thn (hr pos pins s1 σ H1 _ I1 q1) fun us s2 ⟨xs,H2,I2,r2,q2⟩=>⟨x::xs,H2,I2,.cons r1 r2,q2⟩
def tTup(t:TA):TE:=fun σ H Q=>t σ H fun xs H1=>xs.length<=tF/\∀p,H1 p=none->Q (.ref p) (upd H1 p (.tup xs))
def tLst(t:TA):TE:=fun σ H Q=>t σ H fun xs H1=>xs.length<=tF/\∀p,H1 p=none->Q (.ref p) (upd H1 p (.lst xs))
theorem zE {x1} (h:PA X es t):PE X (.Tuple es x1 pos) (tTup t):=by
 intro pins s σ H Q I hq
 refine wpAny_Tuple_spliced (thn (h pos pins s σ H _ I hq) fun us s1 ⟨xs,H1,I1,r,z,q⟩=>⟨by rw[←r.length];exact z,?_⟩)
 have hf:H1 s1.heap.objs.size=none:=I1.hok.fresh (yE _)
 refine⟨.ref s1.heap.objs.size,upd H1 s1.heap.objs.size (.tup xs),I1.laid (t':=s1.toks) (fun b u e=>uX _ e) (yE _) ?_,rfl,q _ hf⟩
 exact⟨z,us,r,⟨_,uZ _ rfl,rfl,_,rfl⟩⟩
theorem Zb(h:PA X es t):PE X (.List es pos) (tLst t):=by
 intro pins s σ H Q I hq
 refine wpAny_List_spliced (thn (h pos pins s σ H _ I hq) fun us s1 ⟨xs,H1,I1,r,z,q⟩=>⟨by rw[←r.length];exact z,?_⟩)
 have hf:H1 s1.heap.objs.size=none:=I1.hok.fresh (yE _)
 refine⟨.ref s1.heap.objs.size,upd H1 s1.heap.objs.size (.lst xs),I1.laid (t':=s1.toks) (fun b u e=>uX _ e) (yE _) ?_,rfl,q _ hf⟩
 exact⟨z,us,0,r,uZ _ rfl⟩
end
abbrev Sp:=List V->Hp->VK->XK->Prop
abbrev CXT:=List Env->Hp->Shared->XK->Value->Shared->Prop
structure Env0(P:Program)(w:World)(K:tP)(mg:Str->Option Value)(base:Heap)(A:Around)(outer:List Env)(s:Shared)(H:Hp):Prop where
 frames:A.frames=some outer
 mod:Mod K mg base
 bs:∀b o,base.get? b=some o->s.heap.get? b=some o/\H b=none
 bsz:base.objs.size<=s.heap.objs.size
 funs:s.heap.FunFrames base outer
 frf:∀b∈frs outer,H b=none
 hok:HOk P w H s.heap
 bare:AllBare s.gens
def CE(outer:List Env)(P:Program)(w:World)(H:Hp)(s:Shared)(Q:VK)(u:Value)(s':Shared):Prop:=
 ∃v H',s'.os=s.os/\AllBare s'.gens/\Un (frs outer) [] H H' s.heap s'.heap/\HOk P w H' s'.heap/\RelV v u/\Q v H'
def CR(CX:CXT)(outer:List Env)(P:Program)(w:World)(H:Hp)(s:Shared)(Q:VK)(E:XK)(r:Result)(s':Shared):Prop:=
 match r with
 |.ok (.ret u)=>CE outer P w H s Q u s'
 |.ok _=>False
 |.error e=>CX outer H s E e s'
structure FnOk(P:Program)(w:World)(K:tP)(mg:Str->Option Value)(base:Heap)(CX:CXT)(k:Nat)(f:Addr)(fd:tQ)(ps:List Str)(sp:Sp):Prop where
 len:∀vs H Q E,sp vs H Q E->vs.length=ps.length
 run:∀(A:Around)(outer:List Env)(s:Shared)(H:Hp)(args:Args)(us:List Value)(vs:List V)(Q:VK)(E:XK),Room k A->Env0 P w K mg base A outer s H->BindsTo s fd args (ps.zip us)->Vals vs us->sp vs H Q E->
  codeAny (model P w) A (.call (.ref f) args) (CR CX outer P w H s Q E) s
theorem FnOk.mono{P:Program}{w:World}{K:tP}{mg:Str->Option Value}{base:Heap}{CX:CXT}{j k:Nat}{f:Addr}{fd:tQ}{ps:List Str}{sp:Sp}(F:FnOk P w K mg base CX j f fd ps sp)(h:j<=k):
  FnOk P w K mg base CX k f fd ps sp:=⟨F.len,fun A outer s H args us vs Q E hr=>F.run A outer s H args us vs Q E (hr.mono h)⟩
theorem Env0.make{P:Program}{w:World}{K:tP}{mg:Str->Option Value}{base:Heap}{A:Around}{outer:List Env}{s:Shared}{H:Hp}(e:Env0 P w K mg base A outer s H)(C:Addr)(us:List Value)(kw:List (Str×Value)):
  Env0 P w K mg base (A.under (.builtin "type.__call__" ⟨.ref C::us,kw⟩)) outer s H:=⟨by first|exact e.frames|(simpa [Around.under,Code.envs,Code.isFrame,pushEnvs] using e.frames),e.mod,e.bs,e.bsz,e.funs,e.frf,e.hok,e.bare⟩
section
variable{X:Cx}{pins:List (Addr×Obj)}{σ:St}{H:Hp}{s s':Shared}
theorem Inv.env0(I:Inv X pins σ H s):Env0 X.prog X.w X.K X.mg X.base X.A X.stack s H:=
 ⟨I.ok.frames,I.ok.mod,I.bs,yQ I.ok.bsz I.sz,I.stack,I.stkFree,I.hok,I.bare⟩
theorem Inv.after{Q:VK}{u:Value}(I:Inv X pins σ H s)(h:CE X.stack X.prog X.w H s Q u s'):EP X pins σ Q u s':=by
 obtain⟨v,H',os,bare,un,hok,r,q⟩:=h
 obtain⟨hh,g,d,t,os'⟩:=s'
 obtain rfl:os'=s.os:=os
 exact⟨v,H',I.call (h':=hh) (g':=g) (d':=d) (t':=t) (ch:=[]) un hok bare (fun b z=>absurd z (by simp)),r,q⟩
end
def zh7(sp:Sp)(dvs:List V)(E:XK)(t:TA):TE:=fun σ H Q=>t σ H fun vs H1=>sp (vs++dvs) H1 Q E
def zeK(C:Addr)(m:Str)(sp:Sp)(dvs:List V)(E:XK)(ta:TE)(t:TA):TE:=fun σ H Q=>ta σ H fun x H1=>∃a dx fs,x=.ref a/\H1 a=some (.ins C dx fs)/\fs.lookup m=none /\
 t σ H1 fun vs H2=>sp (x::(vs++dvs)) H2 Q E
def zlr(C:Addr)(sp:Sp)(dvs:List V)(E:XK)(t:TA):TE:=fun σ H Q=>t σ H fun vs H1=>∀x dx,H1 x=none->H1 dx=none->dx≠x->
 sp (.ref x::(vs++dvs)) (upd (upd H1 dx (.own x)) x (.ins C dx [])) (fun v H2=>v=.non/\Q (.ref x) H2) E
def Binds(K:tP)(fd:tQ)(ps:List Str)(ds:List Value):Prop:=
 ∀(s:Shared)(us:List Value),K.In s.heap->(us++ds).length=ps.length->BindsTo s fd ⟨us,[]⟩ (ps.zip (us++ds))
theorem Binds.all{K:tP}{fd:tQ}{ps:List Str}(h:∀us:List Value,us.length=ps.length->bindArgs fd ⟨us,[]⟩=pure (ps.zip us)):Binds K fd ps []:=fun s us _ hl=>by
 rw[xK] at hl ⊢
 exact .of_eq (h us hl)
def Passes(CX:CXT)(X:Cx)(E:XK):Prop:=∀(pins:List (Addr×Obj))(σ:St)(H:Hp)(s:Shared)(e:Value)(s':Shared),Inv X pins σ H s->CX X.stack H s E e s'->X.xe e s'
section
variable{X:Cx}{CX:CXT}{k:Nat}{f C:Addr}{fd:tQ}{ps:List Str}{sp:Sp}{dvs:List V}{ds:List Value}{E:XK}{x m:Str}{p pos apos:Pos}{e o:Expr}{es:List Expr}{ta:TE}{t:TA}
theorem zgt{pins:List (Addr×Obj)}{σ:St}{H:Hp}{s:Shared}{Q:VK}{us:List Value}{vs:List V}(F:FnOk X.prog X.w X.K X.mg X.base CX k f fd ps sp)(hr:Room k X.A)(hb:Binds X.K fd ps ds)(hd:Vals dvs ds)(hx:Passes CX X E)
  (I:Inv X pins σ H s) (r:Vals vs us) (h:sp (vs++dvs) H Q E):wpAny (model X.prog X.w) X.A (call (.ref f) us) (EP X pins σ Q) X.xe s:=by
 have r2:Vals (vs++dvs) (us++ds):=r.append hd
 have hl:(us++ds).length=ps.length:=by rw[←r2.length];exact F.len _ _ _ _ h
 refine wpAny_call (codeAny_mono (F.run X.A X.stack s H ⟨us,[]⟩ (us++ds) (vs++dvs) Q E hr I.env0 (hb s us I.kIn hl) r2 h) fun r s' hq=>?_)
 cases r with
 |error e=>exact hx pins σ H s e s' I hq
 |ok fl=>
  cases fl with
  |ret u=>exact I.after hq
  |next=>exact False.elim hq
  |brk=>exact False.elim hq
  |cont=>exact False.elim hq
theorem zls(F:FnOk X.prog X.w X.K X.mg X.base CX k f fd ps sp)(hr:Room k X.A)(hg:Gl X x)(hm:X.mg x=some (.ref f))(hk:keepIn X.K (.ref f)=true)(hb:Binds X.K fd ps ds)(hd:Vals dvs ds)(hx:Passes CX X E)
  (ha:PA X (e::es) t) (hdb:(x==("__debug__":Str))=false:=by decide) (he:tI (e::es) X.env=(false,eval e X.env)::tI es X.env:=by rfl) (hpl:(backTo pos (tI es X.env)).any (·.1)=false:=by rfl):
  PE X (.Call (.Name x p) (e::es) [] pos) (zh7 sp dvs E t):=by
 intro pins s σ H Q I h
 refine wpAny_Call_Name_kw (zfD I hg hm ?_ hdb)
 refine callWith_K (h₀:=X.base) I.ok.mod.kin hk (thn (ha pos pins s σ H _ I h) fun us s1 ⟨vs,H1,I1,r,q⟩=>⟨I1.kIn,?_⟩) he hpl
 exact zgt F hr hb hd hx I1 r q
theorem zh8{pl:Sem Bool}(he:PE X o ta)(c:Cls X.K C)(hm:Meth X.K C m f)(F:FnOk X.prog X.w X.K X.mg X.base CX k f fd ps sp)(hr:Room k X.A)(hb:Binds X.K fd ps ds)(hd:Vals dvs ds)(hx:Passes CX X E)(ha:PA X (e::es) t)
  (hst:tI (e::es) X.env=(false,eval e X.env)::tI es X.env:=by rfl) (hpl:(backTo pos (tI es X.env)).any (·.1)=false:=by rfl)
  (ht:eval (.Call (.Attribute o m apos) (e::es) [] pos) X.env=(do
   let ov ←eval o X.env
   standAt apos.atName
   let (f,first) ←holding [ov] (getMethod ov m pl)
   callWith pos f first (backTo pos (tI (e::es) X.env)) (backToKw pos (keywordEach [] X.env))):=by rfl):
  PE X (.Call (.Attribute o m apos) (e::es) [] pos) (zeK C m sp dvs E ta t):=by
 intro pins s σ H Q I h
 refine PySem.W.methodCall_KW (pl:=pl) (thn (he pins s σ H _ I h) fun u s1 ⟨x,H1,I1,rx,a,dx,fs,ex,ea,l,q⟩=>?_) ht
 subst ex
 obtain rfl:u=Value.ref a:=rx
 refine zds I1 ea c hm l ?_
 refine callWith_K (first:=[.ref a]) (h₀:=X.base) I.ok.mod.kin hm.kp (thn (ha pos pins s1 σ H1 _ I1 q) fun us s2 ⟨vs,H2,I2,r,q2⟩=>⟨I2.kIn,?_⟩) hst hpl
 exact zgt (us:=.ref a::us) (vs:=.ref a::vs) F hr hb hd hx I2 (.cons rfl r) q2
theorem zgu{pl:Sem Bool}(he:PE X o ta)(c:Cls X.K C)(hm:Meth X.K C m f)(F:FnOk X.prog X.w X.K X.mg X.base CX k f fd ps sp)(hr:Room k X.A)(hb:Binds X.K fd ps ds)(hd:Vals dvs ds)(hx:Passes CX X E)
  (ht:eval (.Call (.Attribute o m apos) [] [] pos) X.env=(do
   let ov ←eval o X.env
   standAt apos.atName
   let (f,first) ←holding [ov] (getMethod ov m pl)
   callWith pos f first (backTo pos (tI [] X.env)) (backToKw pos (keywordEach [] X.env))):=by rfl):
  PE X (.Call (.Attribute o m apos) [] [] pos) (zeK C m sp dvs E ta tNil):=by
 intro pins s σ H Q I h
 refine PySem.W.methodCall_KW (pl:=pl) (thn (he pins s σ H _ I h) fun u s1 ⟨x,H1,I1,rx,a,dx,fs,ex,ea,l,q⟩=>?_) ht
 subst ex
 obtain rfl:u=Value.ref a:=rx
 refine zds I1 ea c hm l ?_
 exact PySem.W.callWith_K0 (first:=[.ref a]) I1.kIn hm.kp (zgt (us:=[.ref a]) (vs:=[.ref a]) F hr hb hd hx I1 (.cons rfl .nil) q)
structure Mk(K:tP)(C f:Addr):Prop where
 makes:makesIn K C=true
 init:findIn K (.ref C) "__init__"=some (some (.ref f))
 fn:isFn K (.ref f)=true
 kp:keepIn K (.ref C)=true
theorem zjK{pins:List (Addr×Obj)}{σ:St}{H:Hp}{s:Shared}{Q:VK}{us:List Value}{vs:List V}(M:Mk X.K C f)(F:FnOk X.prog X.w X.K X.mg X.base CX k f fd ps sp)(hr:Room (k+1) X.A)(hb:Binds X.K fd ps ds)(hd:Vals dvs ds)
  (hx:Passes CX X E) (I:Inv X pins σ H s) (r:Vals vs us)
  (h:∀x dx,H x=none->H dx=none->dx≠x->sp (.ref x::(vs++dvs)) (upd (upd H dx (.own x)) x (.ins C dx [])) (fun v H2=>v=.non/\Q (.ref x) H2) E):
  wpAny (model X.prog X.w) X.A (call (.ref C) us) (EP X pins σ Q) X.xe s:=by
 have hq:=h (s.heap.objs.size+1) s.heap.objs.size (I.hok.fresh (vG _)) (I.hok.fresh (yE _)) (yW (wN _))
 have I2:=Inv.made (C:=C) I
 have r2:Vals (V.ref (s.heap.objs.size+1)::(vs++dvs)) (Value.ref (s.heap.objs.size+1)::(us++ds)):=.cons rfl (r.append hd)
 have hl:(Value.ref (s.heap.objs.size+1)::us++ds).length=ps.length:=by
  have e:=r2.length
  rw[F.len _ _ _ _ hq] at e
  exact e.symm
 refine wpAny_call (zjJ (f:=f) I.kIn M.makes M.init (beq_iff_eq.mp M.fn) (codeAny_mono (F.run _ X.stack _ _ ⟨Value.ref (s.heap.objs.size+1)::us,[]⟩ (Value.ref (s.heap.objs.size+1)::(us++ds)) _ _ E (hr.make C us [])
  (I2.env0.make C us []) (hb _ (Value.ref (s.heap.objs.size+1)::us) I2.kIn hl) r2 hq) fun r s' hq'=>?_))
 cases r with
 |error e=>exact hx pins σ _ _ e s' I2 hq'
 |ok fl=>
  cases fl with
  |ret u=>
   obtain⟨v,H',I3,rv,ev,q3⟩:=I2.after hq'
   subst ev
   exact⟨rv,⟨V.ref (s.heap.objs.size+1),H',I3,rfl,q3⟩⟩
  |next=>exact False.elim hq'
  |brk=>exact False.elim hq'
  |cont=>exact False.elim hq'
theorem zlt(M:Mk X.K C f)(F:FnOk X.prog X.w X.K X.mg X.base CX k f fd ps sp)(hr:Room (k+1) X.A)(hg:Gl X x)(hm:X.mg x=some (.ref C))(hb:Binds X.K fd ps ds)(hd:Vals dvs ds)(hx:Passes CX X E)
  (ha:PA X (e::es) t) (hdb:(x==("__debug__":Str))=false:=by decide) (he:tI (e::es) X.env=(false,eval e X.env)::tI es X.env:=by rfl) (hpl:(backTo pos (tI es X.env)).any (·.1)=false:=by rfl):
  PE X (.Call (.Name x p) (e::es) [] pos) (zlr C sp dvs E t):=by
 intro pins s σ H Q I h
 refine wpAny_Call_Name_kw (zfD I hg hm ?_ hdb)
 refine callWith_K (h₀:=X.base) I.ok.mod.kin M.kp (thn (ha pos pins s σ H _ I h) fun us s1 ⟨vs,H1,I1,r,q⟩=>⟨I1.kIn,?_⟩) he hpl
 exact zjK M F hr hb hd hx I1 r q
end
section
variable{X:Cx}{CX:CXT}{k:Nat}{f C:Addr}{fd:tQ}{ps ks:List Str}{sp:Sp}{E:XK}{x m:Str}{p pos apos kpos:Pos}{e o:Expr}{es:List Expr}{kws:List Keyword}{te ta:TE}{t tk:TA}{nm:Option Str}
variable{g:List Value->List Value->List Value}{gV:List V->List V->List V}
end
structure FnScope(N P:List Str)(sc:Scope):Prop where
 kind:sc.kind=.function
 co:sc.isCoroutine=false
 gen:sc.isGenerator=false
 nd:N.Nodup
 pre:N.take P.length=P
 par:∀x∈P,sc.names.lookup x=some .local\/sc.names.lookup x=some .cell
 nofree:∀y∈sc.names,y.2≠.free
theorem mkSc{N P:List Str}{sc:Scope}(a:sc.kind=.function)(h:((sc.isCoroutine=false/\sc.isGenerator=false)/\N.Nodup/\N.take P.length=P)/\(∀x∈P,sc.names.lookup x=some .local\/sc.names.lookup x=some .cell)/\∀y∈sc.names,y.2≠.free):FnScope N P sc:=⟨a,h.1.1.1,h.1.1.2,h.1.2.1,h.1.2.2,h.2.1,h.2.2⟩
theorem zeL{kindOf:Str->Option NameKind}{x:Str}:∀{binds:List (Str×Value)}{m:Str->Option Value},(∀v,(x,v) ∉ binds)->bindL kindOf binds m x=m x
 |[],_,_=>rfl
 |(n,v)::r,m,h=>by
  unfold bindL
  rw[zeL fun w hw=>h w (yV _ hw)]
  split
  ·have:x≠n:=by rintro rfl;exact h v yY
   simp[this]
  ·rfl
theorem zeM{kindOf:Str->Option NameKind}{x:Str}:∀{binds:List (Str×Value)}{m:Str->Option Value},(∀v,(x,v) ∉ binds)->bindC kindOf binds m x=m x
 |[],_,_=>rfl
 |(n,v)::r,m,h=>by
  unfold bindC
  rw[zeM fun w hw=>h w (yV _ hw)]
  split
  ·rfl
  ·have:x≠n:=by rintro rfl;exact h v yY
   simp[this]
theorem zeN{kindOf:Str->Option NameKind}{x:Str}{v:Value}:∀{P:List Str}{vs:List Value}{i:Nat}{m:Str->Option Value},P.Nodup->P[i]?=some x->vs[i]?=some v->kindOf x=some .local->
  bindL kindOf (P.zip vs) m x=some v
 |[],_,_,_,_,h,_,_=>by simp at h
 |_::_,[],_,_,_,_,h,_=>by simp at h
 |p::P,w::vs,0,m,nd,h1,h2,hk=>by
  simp at h1 h2;subst h1;subst h2
  show bindL kindOf ((p,w)::P.zip vs) m p=_
  unfold bindL
  rw[zeL fun v hv=>(vH.mp nd).1 (uB hv).1,if_pos hk]
  simp
 |p::P,w::vs,i+1,m,nd,h1,h2,hk=>by
  show bindL kindOf ((p,w)::P.zip vs) m x=_
  unfold bindL
  exact zeN (i:=i) (vH.mp nd).2 (by simpa using h1) (by simpa using h2) hk
theorem zeO{kindOf:Str->Option NameKind}{x:Str}{v:Value}:∀{P:List Str}{vs:List Value}{i:Nat}{m:Str->Option Value},P.Nodup->P[i]?=some x->vs[i]?=some v->kindOf x≠some .local->
  bindC kindOf (P.zip vs) m x=some v
 |[],_,_,_,_,h,_,_=>by simp at h
 |_::_,[],_,_,_,_,h,_=>by simp at h
 |p::P,w::vs,0,m,nd,h1,h2,hk=>by
  simp at h1 h2;subst h1;subst h2
  show bindC kindOf ((p,w)::P.zip vs) m p=_
  unfold bindC
  rw[zeM fun v hv=>(vH.mp nd).1 (uB hv).1,if_neg hk]
  simp
 |p::P,w::vs,i+1,m,nd,h1,h2,hk=>by
  show bindC kindOf ((p,w)::P.zip vs) m x=_
  unfold bindC
  exact zeO (i:=i) (vH.mp nd).2 (by simpa using h1) (by simpa using h2) hk
noncomputable def start(N:List Str)(vs:List V):St:=vs.map some++xR (N.length-vs.length) none
noncomputable def cxOf(CX:CXT)(P:Program)(w:World)(K:tP)(mg:Str->Option Value)(base:Heap)(N:List Str)(qual:Str)(scope:Scope)(f:Addr)(cd:Value)(A:Around)(outer:List Env)(s:Shared)(H:Hp)(E:XK):Cx where
 prog:=P
 w:=w
 K:=K
 mg:=mg
 base:=base
 A:=A.deeper (envOfC qual scope s.heap.objs.size f cd)
 N:=N
 s₀:=s
 H₀:=H
 env:=envOfC qual scope s.heap.objs.size f cd
 outer:=outer
 stack:=envOfC qual scope s.heap.objs.size f cd::outer
 ex:=[]
 calm:=true
 fn:=fun _=>true
 pn:=[]
 xe:=fun e s'=>wpAny (model P w) (A.deeper (envOfC qual scope s.heap.objs.size f cd)) (leaving (envOfC qual scope s.heap.objs.size f cd) e) (fun _ s''=>CX outer H s E e s'') (fun e' s''=>CX outer H s E e' s'') s'
theorem zgv{sc:Scope}{n:Nat}{x:Str}(h:sc.names.lookup x=some .cell):∃c,(cellsFrom n sc.names []).lookup x=some c:=by
 have q:=PySem.W.cellsFrom_some sc.names n [] (.inl h)
 exact xW.mp q
theorem zh9{CX:CXT}{P:Program}{w:World}{K:tP}{mg:Str->Option Value}{base:Heap}{N ps:List Str}{qual:Str}{scope:Scope}{f:Addr}{cd:Value}{A:Around}{outer:List Env}{s s1:Shared}{H:Hp}{E:XK}{us:List Value}{vs:List V}
  (S:FnScope N ps scope) (hd:A.handled=none) (e0:Env0 P w K mg base A outer s H) (hl:vs.length=ps.length) (r:Vals vs us)
  (x:InCallC s s.heap.objs.size (bindL (envOfC qual scope s.heap.objs.size f cd).kindOf (ps.zip us) fun _=>none) (cellsFrom (s.heap.objs.size+1) scope.names []) (bindC (envOfC qual scope s.heap.objs.size f cd).kindOf (ps.zip us) fun _=>none) s1):
  Inv (cxOf CX P w K mg base N qual scope f cd A outer s H E) [] (start N vs) H s1:=by
 have hpl:ps.length<=N.length:=by have:=congrArg List.length S.pre;rw[yP] at this;lia
 obtain⟨h1,tk,rfl,hk⟩:=x.done
 have noA:∀b:Addr,b ∉ (cxOf CX P w K mg base N qual scope f cd A outer s H E).ex:=fun b z=>absurd (show b∈([]:List Addr) from z) (by simp)
 refine⟨⟨e0.mod,S.kind,rfl,rfl,yE _,fun y z c h1 h2=>?_,fun y hy=>?_,fun y c _ h=>?_,fun _=>hd,Around.frames_deeper e0.frames,.inr ⟨rfl,rfl⟩,fun b z=>absurd z (noA b),e0.bs,e0.bsz,fun b _ _=>noA b,fun b z=>absurd z (noA b),e0.funs,e0.frf⟩,
  rfl,e0.bare,Un.kept hk,⟨_,x.toInCall.ns,fun i y v h1 h2 h3=>?_⟩,fun y c h=>⟨_,x.cell y c h⟩,e0.hok.fresh (yE _),fun y c h=>?_,fun p hp=>absurd (show p∈([]:List (Addr×Obj)) from hp) (by simp),e0.hok.kept hk,?_⟩
 ·exact name_of_addr x.apart (PySem.mem_of_lookup h1) (PySem.mem_of_lookup h2)
 ·have hy:scope.names.lookup y=some .cell\/scope.names.lookup y=some .free:=hy
  rcases hy with hy|hy
  ·exact zgv hy
  ·exact absurd rfl (S.nofree _ (PySem.mem_of_lookup hy))
 ·exact wZ (x.above y c (PySem.mem_of_lookup h))
 ·have hi:i<vs.length:=by
   unfold start at h2
   by_cases hi:i<vs.length
   ·exact hi
   ·rw[yK (by simpa using hi)] at h2
    rw[wY] at h2
    split at h2<;>cases h2
  have ha:vs[i]?=some v:=by
   unfold start at h2
   rw[yL (by simpa using hi),yF] at h2
   cases e:vs[i]? with
   |none=>rw[e] at h2;cases h2
   |some a=>rw[e] at h2;cases h2;rfl
  obtain⟨u,hu,rv⟩:=r.get ha
  have hp:ps[i]?=some y:=by
   rw[←S.pre,vT (by lia)];exact h1
  have ndP:ps.Nodup:=by rw[←S.pre];exact S.nd.sublist (List.take_sublist _ _)
  refine⟨u,rv,?_⟩
  rcases S.par y (yH hp) with k|k
  ·exact .inl ⟨k,zeN ndP hp hu k⟩
  ·obtain⟨c,e⟩:=zgv (n:=s.heap.objs.size+1) k
   refine .inr ⟨.inl k,c,e,?_⟩
   have q:=x.cell y c e
   rw[zeO ndP hp hu (by show scope.names.lookup y≠_;rw[k];decide)] at q
   exact q
 ·exact e0.hok.fresh (wZ (x.above y c (PySem.mem_of_lookup h)))
 ·unfold start
  show _=N.length
  rw[yD,yB,vA]
  lia
theorem zmH{CX:CXT}{P:Program}{w:World}{K:tP}{mg:Str->Option Value}{base:Heap}{k:Nat}{f:Addr}{name qual:Str}{params:Arguments}{body:List Stmt}{scope:Scope}{dV kV doc pm cdv ct oc:Value}{an od:Option Addr}
  {osl:Array (Option Value)}{N ps:List Str}{sp:Sp} (lk:K.lookup f=some ⟨oc,od,.func (fnOf name qual params body scope dV kV doc pm an cdv ct),osl⟩) (hcd:codeIn K cdv qual=true) (S:FnScope N ps scope)
  (len:∀vs H Q E,sp vs H Q E->vs.length=ps.length)
  (hbody:∀(A:Around)(outer:List Env)(s:Shared)(H:Hp)(vs:List V)(Q:VK)(E:XK),Room k (A.deeper (envOfC qual scope s.heap.objs.size f cdv))->sp vs H Q E->
   ∃t,PSs (cxOf CX P w K mg base N qual scope f cdv A outer s H E) body t/\t {nx:=fun _ H'=>Q .non H',rt:=Q} (start N vs) H):
  FnOk P w K mg base CX (k+1) f (fnOf name qual params body scope dV kV doc pm an cdv ct) ps sp:=by
 refine⟨len,fun A outer s H args us vs Q E hr e0 hb r hsp=>?_⟩
 have hl:=len _ _ _ _ hsp
 have KX:K.In s.heap:=e0.mod.kin.keeps fun b o e=>(e0.bs b o e).1
 have lim:s.heap.NoLimit:=e0.mod.nolimit.keeps fun b o e=>(e0.bs b o e).1
 have hkind:∀y∈ps.zip us,scope.names.lookup y.1=some .local\/(scope.names.lookup y.1=some .cell/\((cellsFrom (s.heap.objs.size+1) scope.names []).lookup y.1).isSome=true):=fun ⟨n,v⟩ hy=>by
  rcases S.par n (uB hy).1 with q|q
  ·exact .inl q
  ·exact .inr ⟨q,PySem.W.cellsFrom_some _ _ _ (.inl q)⟩
 refine codeAny_call_function hr.depth (KX _ _ lk) rfl S.co S.gen rfl (PySem.W.codeRec_of KX hcd) (hb _ _ _ _ ?_)
 refine wpAny_newFunctionEnv_cells S.kind hkind fun env he s1 x=>?_
 subst he
 refine⟨lim.keeps x.toInCall.keep,codeAny_func ?_⟩
 obtain⟨t,ht,hq⟩:=hbody A outer s H vs Q E (hr.deeper _) hsp
 have I:Inv (cxOf CX P w K mg base N qual scope f cdv A outer s H E) [] (start N vs) H s1:=zh9 S hr.hd e0 hl r x
 refine wpAny_mono (ht [] s1 (start N vs) H _ I hq) (fun fl s' hs=>?_) fun e s' hs=>hs
 have fin:∀{σ':St}{H':Hp}{v:V}{u:Value},Inv (cxOf CX P w K mg base N qual scope f cdv A outer s H E) [] σ' H' s'->RelV v u->Q v H'->CE outer P w H s Q u s':=
  fun {σ' H' v u} J rv q=>⟨v,H',J.os,J.bare,J.base,J.hok,rv,q⟩
 cases fl with
 |ret u=>
  obtain⟨v,σ',H',J,rv,q⟩:=hs
  exact fin J rv q
 |next=>
  obtain⟨σ',H',J,q⟩:=hs
  exact fin (v:=V.non) (u:=Value.none) J rfl q
 |brk=>
  obtain⟨_,_,_,q⟩:=hs
  exact False.elim q
 |cont=>
  obtain⟨_,_,_,q⟩:=hs
  exact False.elim q
section
variable{X:Cx}{x:Str}{p pos:Pos}{e:Expr}{es:List Expr}{t:TA}{id T:String}{r:List V->Hp->VK->Prop}
def tCB(r:List V->Hp->VK->Prop)(t:TA):TE:=fun σ H Q=>t σ H fun vs H1=>r vs H1 Q
theorem zB(hc:zaV X (.builtin id) r)(hg:Gl X x)(hm:X.mg x=none)(hv:tJ x=some (.builtin id))(ha:PA X (e::es) t)(hn:x≠"__name__":=by decide)(hdb:(x==("__debug__":Str))=false:=by decide)
  (he:tI (e::es) X.env=(false,eval e X.env)::tI es X.env:=by rfl) (hpl:(backTo pos (tI es X.env)).any (·.1)=false:=by rfl):PE X (.Call (.Name x p) (e::es) [] pos) (tCB r t):=by
 intro pins s σ H Q I h
 refine wpAny_Call_Name_kw (zbu I hg hm hv ?_ hn hdb)
 exact PyProof.Rows.callWith_builtin1 (thn (ha pos pins s σ H _ I h) fun us s1 ⟨vs,H1,I1,r1,q1⟩=>hc pins s1 σ H1 vs us Q I1 r1 q1) he hpl
theorem zJ(hc:zaV X (.type T) r)(hg:Gl X x)(hm:X.mg x=none)(hv:tJ x=some (.type T))(ha:PA X (e::es) t)(hn:x≠"__name__":=by decide)(hdb:(x==("__debug__":Str))=false:=by decide)
  (he:tI (e::es) X.env=(false,eval e X.env)::tI es X.env:=by rfl) (hpl:(backTo pos (tI es X.env)).any (·.1)=false:=by rfl):PE X (.Call (.Name x p) (e::es) [] pos) (tCB r t):=by
 intro pins s σ H Q I h
 refine wpAny_Call_Name_kw (zbu I hg hm hv ?_ hn hdb)
 exact PyProof.Rows.callWith_type1 (thn (ha pos pins s σ H _ I h) fun us s1 ⟨vs,H1,I1,r1,q1⟩=>hc pins s1 σ H1 vs us Q I1 r1 q1) he hpl
end
section
variable{κ:Type}[DecidableEq κ]
noncomputable def valV(kvs:List (κ×V))(k:κ):Option V:=(kvs.find? fun kv=>decide (kv.1=k)).map (·.2)
noncomputable def putK(kvs:List (κ×V))(k:κ)(v:V):List (κ×V):=
 if (kvs.any fun kv=>decide (kv.1=k))=true then kvs.map (fun kv=>if kv.1=k then (kv.1,v) else kv) else kvs++[(k,v)]
theorem ZR{p:κ×V}{r:List (κ×V)}{k:κ}(e:p.1=k):valV (p::r) k=some p.2:=by simp[valV,wD,e]
theorem ZT{p:κ×V}{r:List (κ×V)}{k:κ}(e:¬p.1=k):valV (p::r) k=valV r k:=by simp[valV,wD,e]
theorem zcm(k:κ):∀kvs:List (κ×V),(kvs.any fun kv=>decide (kv.1=k))=(valV kvs k).isSome
 |[]=>rfl
 |p::r=>by
  rw[vE]
  by_cases e:p.1=k
  ·simp only[ZR e,decide_eq_true e,Bool.true_or,Option.isSome_some]
  ·rw[ZT e,decide_eq_false e,Bool.false_or];exact zcm k r
theorem zgw(k j:κ)(y:V):∀kvs:List (κ×V),valV (kvs.map fun kv=>if kv.1=k then (kv.1,y) else kv) j=(valV kvs j).map fun x=>if j=k then y else x
 |[]=>rfl
 |p::r=>by
  have ih:=zgw k j y r
  rw[yX]
  by_cases h:p.1=k
  ·rw[if_pos h]
   by_cases e:p.1=j
   ·rw[ZR (p:=(p.1,y)) e,ZR e,wA,if_pos (e.symm.trans h)]
   ·rw[ZT (p:=(p.1,y)) e,ZT e,ih]
  ·rw[if_neg h]
   by_cases e:p.1=j
   ·rw[ZR (p:=p) e,ZR e,wA,if_neg (fun z=>h (e.trans z))]
   ·rw[ZT (p:=p) e,ZT e,ih]
theorem zeP(k j:κ)(y:V):∀kvs:List (κ×V),valV kvs k=none->valV (kvs++[(k,y)]) j=if j=k then some y else valV kvs j
 |[],_=>by
  by_cases e:k=j
  ·rw[if_pos e.symm];exact ZR (p:=(k,y)) e
  ·rw[if_neg (fun z=>e z.symm)];exact ZT (p:=(k,y)) e
 |p::r,hn=>by
  rw[xO]
  have hk:¬p.1=k:=fun z=>by rw[ZR z] at hn;cases hn
  rw[ZT hk] at hn
  have ih:=zeP k j y r hn
  by_cases e:p.1=j
  ·rw[ZR e,ZR e,if_neg (fun z=>hk (e.trans z))]
  ·rw[ZT e,ZT e,ih]
theorem zjL(kvs:List (κ×V))(k j:κ)(y:V):valV (putK kvs k y) j=if j=k then some y else valV kvs j:=by
 unfold putK
 by_cases a:(kvs.any fun kv=>decide (kv.1=k))=true
 ·rw[if_pos a,zgw]
  rw[zcm] at a
  by_cases e:j=k
  ·obtain⟨x,hx⟩:=xW.mp a
   rw[if_pos e,e,hx,wA,if_pos rfl]
  ·rw[if_neg e]
   cases valV kvs j with
   |none=>rfl
   |some x=>rw[wA,if_neg e]
 ·rw[if_neg a]
  refine zeP k j y kvs ?_
  rw[zcm] at a
  cases q:valV kvs k with
  |none=>rfl
  |some x=>rw[q] at a;exact (a rfl).elim
theorem zaK(kvs:List (κ×V))(k:κ)(v:V):(putK kvs k v).length<=kvs.length+1:=by
 unfold putK
 split
 ·rw[yB];lia
 ·rw[yD,yJ,vI];lia
theorem RelO.isSome_eq{o:Option V}{u:Option Value}(r:RelO o u):o.isSome=u.isSome:=by
 cases o with
 |none=>cases u with
  |none=>rfl
  |some _=>exact (show False from r).elim
 |some _=>cases u with
  |none=>exact (show False from r).elim
  |some _=>rfl
theorem RelO.getD{o:Option V}{u:Option Value}{d:V}{d':Value}(r:RelO o u)(rd:RelV d d'):RelV (o.getD d) (u.getD d'):=by
 cases o with
 |none=>cases u with
  |none=>exact rd
  |some _=>exact (show False from r).elim
 |some _=>cases u with
  |none=>exact (show False from r).elim
  |some _=>exact r
theorem KV.val{kvs:List (κ×V)}{vs:List (κ×Value)}(r:KV kvs vs)(k:κ):RelO (valV kvs k) (valueAt vs k):=by
 unfold KV at r
 induction r with
 |nil=>exact True.intro
 | @cons p q ps qs h t ih=>
  obtain⟨h1,h2⟩:=h
  by_cases e:p.1=k
  ·have e':q.1=k:=h1.symm.trans e
   have b:valueAt (q::qs) k=some q.2:=by simp[valueAt,wD,e']
   rw[ZR e,b];exact h2
  ·have e':¬q.1=k:=fun z=>e (h1.trans z)
   have b:valueAt (q::qs) k=valueAt qs k:=by simp[valueAt,wD,e']
   rw[ZT e,b];exact ih
theorem KV.any{kvs:List (κ×V)}{vs:List (κ×Value)}(r:KV kvs vs)(k:κ):(kvs.any fun kv=>decide (kv.1=k))=vs.any fun kv=>decide (kv.1=k):=by
 unfold KV at r
 induction r with
 |nil=>rfl
 |cons h t ih=>rw[vE,vE,ih,h.1]
theorem KV.repl{kvs:List (κ×V)}{vs:List (κ×Value)}(r:KV kvs vs)(k:κ){y:V}{u:Value}(ry:RelV y u):
  KV (kvs.map fun kv=>if kv.1=k then (kv.1,y) else kv) (vs.map fun kv=>if kv.1=k then (kv.1,u) else kv):=by
 unfold KV at r ⊢
 induction r with
 |nil=>exact .nil
 | @cons p q ps qs h t ih=>
  rw[yX,yX]
  refine .cons ?_ ih
  obtain⟨h1,h2⟩:=h
  by_cases e:p.1=k
  ·rw[if_pos e,if_pos (h1.symm.trans e)];exact⟨h1,ry⟩
  ·rw[if_neg e,if_neg (fun z=>e (h1.trans z))];exact⟨h1,h2⟩
theorem KV.put{kvs:List (κ×V)}{vs:List (κ×Value)}(r:KV kvs vs)(k:κ){y:V}{u:Value}(ry:RelV y u):KV (putK kvs k y) (stored vs k u):=by
 unfold putK stored
 rw[r.any k]
 by_cases e:(vs.any fun kv=>decide (kv.1=k))=true
 ·rw[if_pos e,if_pos e];exact r.repl k ry
 ·rw[if_neg e,if_neg e];exact Paired.snoc r ⟨rfl,ry⟩
theorem KV.length{kvs:List (κ×V)}{vs:List (κ×Value)}(r:KV kvs vs):kvs.length=vs.length:=Paired.length r
end
theorem zfF{P:Program}{w:World}{k:Key}{u:Value}(r:RelV (kV k) u):(Zu P w).is k u=true:=by
 cases k with
 |inl i=>obtain⟨t,e⟩:=(show ∃t,u=Value.int i t from r);subst e;exact zfB P w i t
 |inr x=>obtain⟨t,e⟩:=(show ∃t,u=Value.str x t from r);subst e;exact zbi P w x t
theorem zeQ{P:Program}{w:World}:∀{ks:List Key}{us:List Value},Vals (ks.map kV) us->ItemsAre (Zu P w) ks us
 |[],_,r=>by rw[uP] at r;cases r;exact .nil
 |k::ks,_,r=>by
  rw[yX] at r
  cases r with
  |cons h t=>exact .cons (zfF h) (zeQ t)
abbrev KT(H:Hp):List (List Key×V)->List (List Key×Addr×Value)->Prop:=Paired fun p q=>p.1=q.1/\H q.2.1=some (.tup (p.1.map kV))/\RelV p.2 q.2.2
theorem KT.val{H:Hp}{kvs:List (List Key×V)}{xs:List (List Key×Addr×Value)}(r:KT H kvs xs)(k:List Key):RelO (valV kvs k) ((atKey xs k).map (·.2)):=by
 induction r with
 |nil=>exact True.intro
 | @cons p q ps qs h t ih=>
  obtain⟨h1,_,h2⟩:=h
  by_cases e:p.1=k
  ·have e':q.1=k:=h1.symm.trans e
   have b:atKey (q::qs) k=some q.2:=by simp[atKey,wD,e']
   rw[ZR e,b];exact h2
  ·have e':¬q.1=k:=fun z=>e (h1.trans z)
   have b:atKey (q::qs) k=atKey qs k:=by simp[atKey,wD,e']
   rw[ZT e,b];exact ih
theorem KT.repl{H:Hp}{kvs:List (List Key×V)}{xs:List (List Key×Addr×Value)}(r:KT H kvs xs)(k:List Key){y:V}{u:Value}(ry:RelV y u):
  KT H (kvs.map fun kv=>if kv.1=k then (kv.1,y) else kv) (xs.map (putAt k u)):=by
 induction r with
 |nil=>exact .nil
 | @cons p q ps qs h t ih=>
  rw[yX,yX]
  refine .cons ?_ ih
  obtain⟨h1,h2,h3⟩:=h
  unfold putAt
  by_cases e:p.1=k
  ·rw[if_pos e,if_pos (h1.symm.trans e)];exact⟨h1,h2,ry⟩
  ·rw[if_neg e,if_neg (fun z=>e (h1.trans z))];exact⟨h1,h2,h3⟩
theorem KT.put{H:Hp}{kvs:List (List Key×V)}{xs:List (List Key×Addr×Value)}(r:KT H kvs xs)(k:List Key){b:Addr}{y:V}{u:Value}(hb:H b=some (.tup (k.map kV)))(ry:RelV y u):
  KT H (putK kvs k y) (storedH xs k b u):=by
 have e:(kvs.any fun kv=>decide (kv.1=k))=(atKey xs k).isSome:=by
  rw[zcm,(r.val k).isSome_eq,Option.isSome_map]
 unfold putK storedH
 rw[e]
 by_cases q:(atKey xs k).isSome=true
 ·rw[if_pos q,if_pos q];exact r.repl k ry
 ·rw[if_neg q,if_neg q];exact Paired.snoc r ⟨rfl,hb,ry⟩
theorem KT.keeps{H H':Hp}{kvs:List (List Key×V)}{xs:List (List Key×Addr×Value)}(r:KT H kvs xs)(ht:∀b ys,H b=some (.tup ys)->H' b=some (.tup ys)):KT H' kvs xs:=
 Paired.mapP r fun _ _ z=>⟨z.1,ht _ _ z.2.1,z.2.2⟩
section
variable{P:Program}{w:World}{H:Hp}{h:Heap}{a:Addr}
theorem zmI{u:HO}(ok:HOk P w H h)(e:Rd H a u):Zw P w H h a u:=e.ok ok
theorem zjM{kvs:List (Key×V)}(ok:HOk P w H h)(e:Rd H a (.dK kvs)):kvs.length<=tF/\(a==sysModules)=false/\∃vs,KV kvs vs/\h.DictOf (Zu P w) a vs:=
 show Zw P w H h a (.dK kvs) from zmI ok e
theorem znA{kvs:List (Key×V)}(ok:HOk P w H h)(e:H a=some (.dK kvs)):kvs.length<=tF/\(a==sysModules)=false/\∃vs,KV kvs vs/\h.DictOf (Zu P w) a vs:=zjM ok (.inl e)
theorem zia{ks:List Key}(ok:HOk P w H h)(e:H a=some (.tup (ks.map kV))):(tupleKind (Zu P w)).is h ks a:=by
 obtain⟨_,its,r,o,h1,h2,n,h3⟩:=(show Zw P w H h a (.tup (ks.map kV)) from ok a _ e)
 exact⟨o,its.toArray,n,h1,h2,h3,by simpa using zeQ r⟩
theorem zlu{kvs:List (List Key×V)}(ok:HOk P w H h)(e:Rd H a (.dT kvs)):kvs.length<=tF/\(a==sysModules)=false /\
  ∃xs,KT H kvs xs/\h.DictOfH (tupleKind (Zu P w)) a xs:=by
 obtain⟨z,y,xs,r,o,es,ep,h1,h2,h3,h4,h5⟩:=(show Zw P w H h a (.dT kvs) from zmI ok e)
 refine⟨z,y,xs,r,o,es,ep,h1,h2,h3,h4,fun x hx=>?_,h5⟩
 have all:∀{l:List (List Key×V)}{m:List (List Key×Addr×Value)},KT H l m->∀x∈m,(tupleKind (Zu P w)).is h x.1 x.2.1:=by
  intro l m q
  induction q with
  |nil=>intro x hx;exact nomatch hx
  | @cons p q ps qs hq t ih=>
   intro x hx
   rcases yS.mp hx with e|hx
   ·subst e
    exact zia ok (by rw[←hq.1];exact hq.2.1)
   ·exact ih x hx
 exact all r x hx
theorem znB{kvs:List (List Key×V)}(ok:HOk P w H h)(e:H a=some (.dT kvs)):kvs.length<=tF/\(a==sysModules)=false /\
  ∃xs,KT H kvs xs/\h.DictOfH (tupleKind (Zu P w)) a xs:=zlu ok (.inl e)
end
def DGet(H:Hp)(a:Addr)(y:V)(r:Option V):Prop:=
 (∃kvs k,Rd H a (.dK kvs)/\y=kV k/\r=valV kvs k)\/∃kvs k b,Rd H a (.dT kvs)/\y=.ref b/\H b=some (.tup (k.map kV))/\r=valV kvs k
def DPut(H:Hp)(a:Addr)(y v:V)(H':Hp):Prop:=
 (∃kvs k,H a=some (.dK kvs)/\y=kV k/\kvs.length<tF/\H'=upd H a (.dK (putK kvs k v))) \/
 ∃kvs k b,H a=some (.dT kvs)/\y=.ref b/\H b=some (.tup (k.map kV))/\kvs.length<tF/\H'=upd H a (.dT (putK kvs k v))
theorem DGet.k{H:Hp}{a:Addr}{kvs:List (Key×V)}{k:Key}(e:H a=some (.dK kvs)):DGet H a (kV k) (valV kvs k):=.inl ⟨kvs,k,.inl e,rfl,rfl⟩
theorem DPut.k{H:Hp}{a:Addr}{kvs:List (Key×V)}{k:Key}{v:V}(e:H a=some (.dK kvs))(hl:kvs.length<tF):DPut H a (kV k) v (upd H a (.dK (putK kvs k v))):=.inl ⟨kvs,k,e,rfl,hl,rfl⟩
section
variable{X:Cx}{pins:List (Addr×Obj)}{σ:St}{H:Hp}{s:Shared}{a:Addr}{y v:V}{u r:Value}{o:Option V}{A:Around}{E:Value->Shared->Prop}
theorem Inv.big(I:Inv X pins σ H s):sysModules<s.heap.objs.size:=by
 have h:tE<s.heap.objs.size:=(I.mod.glob.keeps I.bk).lt
 exact Nat.lt_trans (by decide) h
theorem zib{Q:Value->Shared->Prop}(hu:A.units+1<cLine)(I:Inv X pins σ H s)(g:DGet H a y (some v))(ry:RelV y u)(h:∀w' s',Inv X pins σ H s'->RelV v w'->Q w' s'):
  wpAny (model X.prog X.w) A (getItem (.ref a) u) Q E s:=by
 rcases g with⟨kvs,k,e,ey,l⟩|⟨kvs,k,b,e,ey,eb,l⟩
 ·subst ey
  obtain⟨z,hd,vs,rel,dd⟩:=zjM I.hok e
  obtain⟨w',hw,rw'⟩:=RelO.some_of (v:=v) (o:=valueAt vs k) (by rw[l];exact rel.val k)
  exact wpAny_getItem_of (zfF ry) dd.mapOf hw (h w' _ (I.tok _) rw')
 ·subst ey
  cases (show u=Value.ref b from ry)
  obtain⟨z,hd,xs,rel,dd⟩:=zlu I.hok e
  obtain⟨w',hw,rw'⟩:=RelO.some_of (v:=v) (o:=(atKey xs k).map (·.2)) (by rw[l];exact rel.val k)
  obtain⟨p,hp,hp2⟩:=yT.mp hw
  refine wpAny_getItem_heap (tupleKind_room_in1 hu) (zia I.hok eb) dd hp ?_
  rw[hp2]
  exact h w' _ (I.tok _) rw'
theorem zic{h':Heap}{t':Nat}{ob:HO}(I:Inv X pins σ H s)(mu:Mut (H a))(hs:Heap.SameBut a s.heap h')(he:∃q,h'.get? a=some q)(new:Zw X.prog X.w (upd H a ob) h' a ob):
  Inv X pins σ (upd H a ob) {s with heap:=h',toks:=t'}:=
 I.write (x:=a) (e:=a) mu (.inl rfl) (fun b q hb z=>(hs.2 b hb).trans z) he new
theorem zkF{P:Program}{w:World}{H':Hp}{h':Heap}{kvs:List (Key×V)}{vs:List (Key×Value)}(z:kvs.length<=tF)(hd:(a==sysModules)=false)(rel:KV kvs vs)(dd:h'.DictOf (Zu P w) a vs):
  Zw P w H' h' a (.dK kvs):=⟨z,hd,vs,rel,dd⟩
theorem zid{H':Hp}{Q:Unit->Shared->Prop}(hu:A.units+1<cLine)(I:Inv X pins σ H s)(g:DPut H a y v H')(ry:RelV y u)(rv:RelV v r)(h:∀s',Inv X pins σ H' s'->Q () s'):
  wpAny (model X.prog X.w) A (setItem (.ref a) u r) Q E s:=by
 rcases g with⟨kvs,k,e,ey,l,eH⟩|⟨kvs,k,b,e,ey,eb,l,eH⟩
 ·subst ey eH
  obtain⟨z,hd,vs,rel,dd⟩:=znA I.hok e
  have hz:vs.length<=tF:=by rw[←rel.length];exact z
  have hl:(putK kvs k v).length<=tF:=by have:=zaK kvs k v;lia
  refine wpAny_setItem_pairs (hsz:=hz) (zfF ry) dd fun h' dd' hs=>h _ ?_
  have he:∃q,h'.get? a=some q:=let ⟨q,_,_,hq,_⟩:=dd';⟨q,hq⟩
  exact zic I (by rw[e];exact True.intro) hs he (zkF hl hd (rel.put k rv) dd')
 ·subst ey eH
  cases (show u=Value.ref b from ry)
  obtain⟨z,hd,xs,rel,dd⟩:=znB I.hok e
  have hz:xs.length<=tF:=by rw[←Paired.length rel];exact z
  have hl:(putK kvs k v).length<=tF:=by have:=zaK kvs k v;lia
  refine wpAny_setItem_heap (hsz:=hz) (tupleKind_room_in1 hu) (zia I.hok eb) dd fun h' dd' hs=>h _ ?_
  obtain⟨q,es,ep,hq,h2,h3,h4,_,h5⟩:=dd'
  refine zic I (by rw[e];exact True.intro) hs ⟨q,hq⟩ ⟨hl,hd,_,(rel.put k eb rv).keeps fun c ys ec=>?_,q,es,ep,hq,h2,h3,h4,h5⟩
  rw[zu (zlg ec e (fun z=>nomatch z))]
  exact ec
end
section
variable{X:Cx}{pins:List (Addr×Obj)}{σ:St}{H:Hp}{s:Shared}{a:Addr}{kvs:List (Key×V)}{k:Key}{u:Value}{A:Around}{E:Value->Shared->Prop}
end
def NoSl(i:Expr):Prop:=∀ov iv,subscripted i false ov iv=operate [ov,iv] (getItem ov iv)
theorem zlv{prog:Program}{w:World}{A:Around}{E:Value->Shared->Prop}{s:Shared}{env:Env}{value slice:Expr}{pos:Pos}{T id:String}{Q:Value->Shared->Prop}
  (hl:typeLookup (.type T) "__getitem__"=pure (some (.builtin id))) (hs:NoSl slice)
  (h:wpAny (model prog w) A (eval value env) (fun o s₁=>wpAny (model prog w) A (eval slice env) (fun i s₂=>s₂.TypeIs o T/\wpAny (model prog w) A (getItem o i) Q E s₂) E s₁) E s):
  wpAny (model prog w) A (eval (.Subscript value slice pos) env) Q E s:=by
 refine Subscript_ (wpAny_mono h (fun o s₁ h₁=>wpAny_mono h₁ (fun i s₂ h₂=>?_) fun _ _ x=>x) fun _ _ x=>x)
 obtain⟨hT,h₂⟩:=h₂
 unfold subscriptTail
 refine uV ?_
 rw[getitemInPython_of_ne hT.not_modules]
 refine uV (wpAny_specialOf hT hl ?_)
 have fin:wpAny (model prog w) A (subscripted slice false o i) (fun r s₃=>wpAny (model prog w) A (letTemporaryGo value o r>>=fun _=>pure r) Q E s₃) E s₂:=by
  rw[hs o i]
  exact wpAny_operating (wpAny_mono h₂ (fun r s₃ h₃=>uV (wpAny_letTemporaryGo (uW h₃))) fun _ _ x=>x)
 first
  |exact uW (uV fin)
  |exact uV (uW (uV fin))
  |exact uV fin
theorem zfG{X:Cx}{pins:List (Addr×Obj)}{σ:St}{H:Hp}{s:Shared}{a:Addr}{y:V}{o:Option V}(I:Inv X pins σ H s)(g:DGet H a y o):s.TypeIs (.ref a) "dict":=by
 rcases g with⟨kvs,k,e,_,_⟩|⟨kvs,k,b,e,_,_,_⟩
 ·obtain⟨_,_,vs,_,dd⟩:=zjM I.hok e
  exact dd.typeIs
 ·obtain⟨_,_,xs,_,dd⟩:=zlu I.hok e
  exact dd.typeIs
def zmJ(td ty:TE):TE:=fun σ H Q=>td σ H fun x H1=>ty σ H1 fun y H2=>∃a v,x=.ref a/\DGet H2 a y (some v)/\Q v H2
def zmK(td ty tv:TE):TS:=fun D σ H=>tv σ H fun v H1=>td σ H1 fun x H2=>ty σ H2 fun y H3=>∃a H4,x=.ref a/\DPut H3 a y v H4/\D.nx σ H4
section
variable{X:Cx}{o i e value:Expr}{pos pos' tpos:Pos}{td ty tv:TE}
theorem zfH(hu:X.A.units+1<cLine)(ho:PE X o td)(hi:PE X i ty)(hs:NoSl i):PE X (.Subscript o i pos) (zmJ td ty):=by
 intro pins s σ H Q I h
 refine zlv PySem.F.slot_dict_getitem.lookup hs (thn (ho pins s σ H _ I h) fun u s1 ⟨x,H1,I1,rx,q1⟩=>thn (hi pins s1 σ H1 _ I1 q1) fun iv s2 ⟨y,H2,I2,ry,a,v,ex,g,q2⟩=>?_)
 subst ex
 obtain rfl:u=Value.ref a:=rx
 exact⟨zfG I2 g,zib hu I2 g ry fun w' s3 I3 rw'=>⟨v,H2,I3,rw',q2⟩⟩
theorem zfI(hu:X.A.units+1<cLine)(ho:PE X o td)(hi:PE X i ty)(hv:PE X value tv)(hs:swapsWith value (some (.Subscript o i pos')) pos.line X.env=pure false):
  PS X (.Assign [.Subscript o i pos'] value pos) (zmK td ty tv):=by
 intro pins s σ H D I h
 refine wpAny_Assign_Subscript (thn (hv pins s σ H _ I h) fun r s1 ⟨v,H1,I1,rv,q1⟩=>thn (ho pins s1 σ H1 _ I1 q1) fun u s2 ⟨x,H2,I2,rx,q2⟩=>thn (hi pins s2 σ H2 _ I2 q2) fun iv s3 ⟨y,H3,I3,ry,a,H4,ex,g,q3⟩=>?_) hs
 subst ex
 obtain rfl:u=Value.ref a:=rx
 exact zid hu I3 g ry rv fun s4 I4=>⟨σ,H4,I4,q3⟩
end
theorem zjN{P:Program}{w:World}{H:Hp}(h:Heap)(hb:sysModules<h.objs.size):Zw P w H (h.push {cls:=.type "dict",data:=.dict #[]}) h.objs.size (.dK []):=
 ⟨yN _,beq_eq_false_iff_ne.mpr (Ne.symm (yW hb)),[],.nil,Heap.DictOf.new h⟩
def zkG:TE:=fun _ H Q=>∀p,H p=none->Q (.ref p) (upd H p (.dK []))
section
variable{X:Cx}{pos:Pos}
theorem zdL:PE X (.Dict [] [] pos) zkG:=fun pins s σ H Q I h=>
 wpAny_Dict_empty ⟨.ref s.heap.objs.size,_,I.laid (a:=s.heap.objs.size) (o:=.dK []) (t':=s.toks) (fun _ _ q=>uX _ q) (yE _) (zjN s.heap I.big),rfl,h _ (I.hok.fresh (yE _))⟩
end
structure M2(X:Cx)(o:Expr)(m:Str)(apos:Pos)(e f:Expr)(cpos:Pos):Prop where
 base:attributeBase o m X.env (eval o X.env)=eval o X.env
 few:((backTo cpos (tI [e,f] X.env)).all (fun x=>!x.1)&&(backToKw cpos (keywordEach [] X.env)).all (fun x=>x.1.isSome)
  && decide (([e,f]:List Expr).length+([]:List Keyword).length+(if ([]:List Keyword).isEmpty then 0 else 1)<30))=true
 line:(apos.endLine==cpos.line)=true
 trees:backTo cpos (tI [e,f] X.env)=[(false,eval e X.env),(false,eval f X.env)]
section
variable{X:Cx}{pins:List (Addr×Obj)}{σ:St}{H:Hp}{s:Shared}{a:Addr}{y d:V}{u r:Value}{o:Option V}{A:Around}{E:Value->Shared->Prop}
end
section
variable{X:Cx}{o e f:Expr}{apos cpos:Pos}{td ty tx:TE}
end
section
variable{X:Cx}{pins:List (Addr×Obj)}{σ:St}{H:Hp}{s:Shared}{a:Addr}{kvs:List (Key×V)}{A:Around}{E:Value->Shared->Prop}
theorem zjO{Q:Value->Shared->Prop}(I:Inv X pins σ H s)(e:Rd H a (.dK kvs))(h:∀p s',H p=none->Inv X pins σ (upd H p (.dK kvs)) s'->Q (.ref p) s'):wpAny (model X.prog X.w) A (call (.type "dict") [.ref a]) Q E s:=by
 obtain⟨z,hd,vs,rel,dd⟩:=zjM I.hok e
 refine kt_call_dict hd dd (by rw[←rel.length];exact z) fun h' dd' hs=>?_
 refine h _ _ (I.hok.fresh (yE _)) (I.laid (a:=s.heap.objs.size) (o:=.dK kvs) (t':=s.toks) (fun b q hq=>?_) (yE _) (zkF z (beq_eq_false_iff_ne.mpr (Ne.symm (yW I.big))) rel dd'))
 exact (hs.2 b (yW (uY hq))).trans (uX _ hq)
end
section
variable{X:Cx}{pins:List (Addr×Obj)}{σ:St}{H:Hp}{s:Shared}{a:Addr}{y:V}{u:Value}{A:Around}{E:Value->Shared->Prop}
end
end L2
namespace HT
open PySem PyProof.Rows
section
open PySem.SeqAt
open PySem.AutoSeq1 (wpAny_loadPart')
open PySem.MeetsSeq PySem.MeetsSeq2 PySem.MeetsSeq3
end
section
variable{prog:Program}{w:World}{A:Around}{E:Value->Shared->Prop}{s:Shared}
theorem cat_tup{t b:Addr}{vs ws:List Value}{Q:Value->Shared->Prop}(ht:IsTup s.heap t vs.toArray)(hb:IsTup s.heap b ws.toArray)(hv:vs≠[])
  (h1:ws=[]->Q (.ref t) s) (h2:ws≠[]->Q (.ref s.heap.objs.size) {s with heap:=s.heap.push {cls:=.type "tuple",data:=.seq (vs++ws).toArray}})
  (hsz:vs.length+ws.length<=tF):wpAny (model prog w) A (binaryOp .Add (.ref t) (.ref b)) Q E s:=by
 obtain⟨⟨cls,dd,data,sl⟩,ho,hc,n,hd⟩:=id ht
 obtain⟨⟨cls2,dd2,data2,sl2⟩,ho2,hc2,n2,hd2⟩:=id hb
 simp only at hc hd hc2 hd2
 subst hc hd hc2 hd2
 have e:vs.toArray++ws.toArray=(vs++ws).toArray:=by simp
 by_cases hw:ws=[]
 ·exact concat_meets ⟨_,ho,rfl⟩ ⟨_,ho2,rfl⟩ noFill_tuple_add seq_tuple_add PySem.F.slot_tuple_add PySem.F.entry_tuple_add (PySem.F.args_tuple_add_2 _ _)
   (tuple_addW1 t b vs.toArray ws.toArray n n2 dd dd2 sl sl2 (by simpa using hv) (by simp[hw])) ⟨ho,ho2,h1 hw⟩
 ·refine concat_meets ⟨_,ho,rfl⟩ ⟨_,ho2,rfl⟩ noFill_tuple_add seq_tuple_add PySem.F.slot_tuple_add PySem.F.entry_tuple_add (PySem.F.args_tuple_add_2 _ _)
   (tuple_addW2 t b vs.toArray ws.toArray n n2 dd dd2 sl sl2 (by simpa using hv) (by simpa using hw) (by rw[yG,yG];exact hsz)) ⟨ho,ho2,?_⟩
  rw[e]
  exact h2 hw
noncomputable def sIx(n d:Nat):Option Int->Nat
 |none=>d
 |some v=>if v<0 then (v+(n:Int)).toNat else min v.toNat n
theorem sIx_nat(n d k:Nat):sIx n d (some (k:Int))=min k n:=by
 show (if (k:Int)<0 then ((k:Int)+(n:Int)).toNat else min (k:Int).toNat n)=min k n
 rw[if_neg (by lia),vR]
theorem zmL(n d:Nat)(hd:d<=n)(o:Option Int):sIx n d o<=n:=by
 cases o with
 |none=>exact hd
 |some v=>
  show (if v<0 then (v+(n:Int)).toNat else min v.toNat n)<=n
  by_cases hv:v<0
  ·rw[if_pos hv];lia
  ·rw[if_neg hv];exact Nat.min_le_right _ _
theorem zie(v:Int)(n d:Nat):(if v<0 then max (v+(n:Int)) 0 else min v (n:Int))=((sIx n d (some v):Nat):Int):=by
 show (if v<0 then max (v+(n:Int)) 0 else min v (n:Int))=(((if v<0 then (v+(n:Int)).toNat else min v.toNat n):Nat):Int)
 by_cases hv:v<0
 ·simp only[if_pos hv];lia
 ·simp only[if_neg hv];lia
theorem zhg(lo hi:Option Int)(n:Nat):Builtin.Slice.sliceAdjust lo hi 1 (n:Int)=(((sIx n 0 lo:Nat):Int),((sIx n n hi:Nat):Int)):=by
 have h1:¬((1:Int)<0):=by lia
 unfold Builtin.Slice.sliceAdjust
 simp only[h1,if_false]
 refine Prod.ext ?_ ?_
 ·cases lo with
  |none=>rfl
  |some v=>exact zie v n 0
 ·cases hi with
  |none=>rfl
  |some v=>exact zie v n n
theorem zhh(i j:Nat):Builtin.Slice.slicePlaces (i:Int) (j:Int) 1=j-i:=by
 unfold Builtin.Slice.slicePlaces
 have h1:(1:Int) > 0:=by lia
 simp only[h1,if_true,Int.ediv_one]
 split<;>lia
theorem zdt{v:Value}{o:Option Int}{Q:Option Int->Shared->Prop}(p:IsPart v o)(h:Q o s):wpAny (model prog w) A (Builtin.Slice.slicePartIndex v) Q E s:=by
 cases p with
 |none=>exact slicePart_none h
 |int i t=>exact slicePart_int h
theorem zce{sl:Addr}{vl vu:Value}{lo hi:Option Int}{n:Nat}{Q:Int×Int×Nat->Shared->Prop}(hs:s.heap.IsSliceOf sl vl vu .none)(pl:IsPart vl lo)(pu:IsPart vu hi)
  (h:Q (((sIx n 0 lo:Nat):Int),1,sIx n n hi-sIx n 0 lo) s):wpAny (model prog w) A (Builtin.Slice.sliceApplied (.ref sl) (pure (n:Int))) Q E s:=by
 obtain⟨os,hos,hcs,hds⟩:=id hs
 unfold Builtin.Slice.sliceApplied Builtin.Slice.sliceFields
 refine uV (uV (wpAny_field hos hds (x:=vl) rfl (uV (wpAny_field hos hds (x:=vu) rfl (uV (wpAny_field hos hds (x:=.none) rfl (uW ?_)))))))
 refine uV (slicePart_none ?_)
 show wpAny _ _ (if ((1:Int)==0)=true then _ else _) _ _ s
 rw[if_neg (by decide)]
 refine uV (zdt pl (uV (zdt pu (uV (uW ?_)))))
 show wpAny _ _ (match Builtin.Slice.sliceAdjust lo hi 1 (n:Int) with|(lo,hi)=>pure (lo,(1:Int),Builtin.Slice.slicePlaces lo hi 1)) _ _ s
 rw[zhg lo hi n]
 show wpAny _ _ (pure (((sIx n 0 lo:Nat):Int),(1:Int),Builtin.Slice.slicePlaces ((sIx n 0 lo:Nat):Int) ((sIx n n hi:Nat):Int) 1)) _ _ s
 rw[zhh]
 exact uW h
theorem zjP(xs:Array Value)(i k:Nat):((wK k).filterMap fun (m:Nat)=>xs[((i:Int)+(m:Int)*1).toNat]?).toArray=((xs.toList.drop i).take k).toArray:=by
 have e:(fun (m:Nat)=>xs[((i:Int)+(m:Int)*1).toNat]?)=fun m=>xs[i+m]?:=by
  funext m
  have:((i:Int)+(m:Int)*1).toNat=i+m:=by lia
  rw[this]
 rw[e]
 have:=pick_run xs i k
 rw[List.filterMap_map] at this
 have e2:((fun x=>xs[x]?)∘fun x=>i+x)=fun m=>xs[i+m]?:=rfl
 rw[e2] at this
 rw[this]
theorem getItem_tuple_cut{t sl:Addr}{items:Array Value}{vl vu:Value}{lo hi:Option Int}{Q:Value->Shared->Prop}(ht:IsTup s.heap t items)(hs:s.heap.IsSliceOf sl vl vu .none)(pl:IsPart vl lo)(pu:IsPart vu hi)
  (hw:¬(sIx items.size 0 lo=0/\sIx items.size items.size hi=items.size))
  (h:Q (.ref s.heap.objs.size) {s with heap:=s.heap.push {cls:=.type "tuple",data:=.seq ((items.toList.drop (sIx items.size 0 lo)).take (sIx items.size items.size hi-sIx items.size 0 lo)).toArray}})
  (hsz:items.size<=tF):wpAny (model prog w) A (getItem (.ref t) (.ref sl)) Q E s:=by
 have htake:sizeOk (.seq ((items.toList.drop (sIx items.size 0 lo)).take (sIx items.size items.size hi-sIx items.size 0 lo)).toArray):=by
  show ((items.toList.drop (sIx items.size 0 lo)).take (sIx items.size items.size hi-sIx items.size 0 lo)).toArray.size<=tF
  rw[yG,yP,xU,wT]
  lia
 have hj:sIx items.size items.size hi<=items.size:=zmL _ _ (yE _) hi
 obtain⟨os,hos,hcs,hds⟩:=id hs
 have hTs:s.TypeIs (.ref sl) "slice":=⟨os,hos,hcs⟩
 unfold getItem
 try with_reducible refine wpAny_holding ?_
 first|refine uV (uW ?_)|skip
 refine uV (wpAny_sequenceKey ht.typeIs (by decide) ?_)
 refine uV (wpAny_callSpecial?_slot (name:=uU "__getitem__") ht.typeIs PyProof.Rows.slot_tuple_getitem
  (wpAny_call_entry PyProof.Rows.slot_tuple_getitem ht.typeIs entry_tuple_getitem ?_ (args_tuple_getitem _ _)))
 show wpAny _ _ (Builtin.Tuple.tupleItemsOf (.ref t)>>=_) _ _ s
 refine uV (tupleItemsOf_ ht ?_)
 refine uV (wpAny_typeOf hTs ?_)
 rw[if_pos (by decide)]
 refine uV (zce hs pl pu ?_)
 have hno:¬((((sIx items.size 0 lo:Nat):Int)==0&&(1:Int)==1&&(sIx items.size items.size hi-sIx items.size 0 lo)==items.size)=true):=by
  intro q
  rw[xF,xF] at q
  have q1:((sIx items.size 0 lo:Nat):Int)=0:=eq_of_beq q.1.1
  have q2:sIx items.size items.size hi-sIx items.size 0 lo=items.size:=eq_of_beq q.2
  exact hw ⟨by lia,by lia⟩
 show wpAny _ _ (if (((sIx items.size 0 lo:Nat):Int)==0&&(1:Int)==1&&(sIx items.size items.size hi-sIx items.size 0 lo)==items.size)=true then _ else _) _ _ s
 rw[if_neg hno,zjP]
 first
  |exact uV (m:=Builtin.Tuple.tupleExact _) (tH (uW ⟨_,rfl,uW h⟩) htake)
  |exact uV (m:=Builtin.Tuple.tupleExact _) (tH (uV (uW (uW ⟨_,rfl,uW h⟩))) htake)
  |exact uV (uV (m:=Builtin.Tuple.tupleExact _) (tH (uW (uW ⟨_,rfl,uW h⟩)) htake))
  |exact uV (uV (m:=Builtin.Tuple.tupleExact _) (tH (uW ⟨_,rfl,uW h⟩) htake))
end
end HT
namespace L2
open PySem PySem.Spec PyProof.Rows
abbrev TO:=St->Hp->(Option Int->Hp->Prop)->Prop
def PO(X:Cx)(e:Option Expr)(t:TO):Prop:=
 ∀(pins:List (Addr×Obj))(s:Shared)(σ:St)(H:Hp)(Q:Option Int->Hp->Prop),Inv X pins σ H s->t σ H Q->
  wpAny (model X.prog X.w) X.A (evalPart e X.env) (fun u s'=>∃o H',Inv X pins σ H' s'/\IsPart u o/\Q o H') X.xe s
def zif:TO:=fun _ H Q=>Q none H
def zmM(t:TE):TO:=fun σ H Q=>t σ H fun x H1=>∃i,x=.int i/\Q (some i) H1
section
variable{X:Cx}{e:Expr}{te:TE}{lo hi:Option Expr}{tl th:TO}{pos p2:Pos}
theorem zaW:PO X none zif:=by
 intro pins s σ H Q I h
 rw[evalPart_none]
 exact uW ⟨none,H,I,.none,h⟩
theorem zaz(h:PE X e te):PO X (some e) (zmM te):=by
 intro pins s σ H Q I hw
 rw[evalPart_some]
 refine thn (h pins s σ H _ I hw) fun u s1 ⟨x,H1,I1,r1,q1⟩=>?_
 obtain⟨i,rfl,q⟩:=q1
 obtain⟨t,rfl⟩:=r1
 exact⟨some i,H1,I1,.int i t,q⟩
def SlR(X:Cx)(r:V->Option Int->Option Int->Hp->VK->Prop):Prop:=
 ∀(pins:List (Addr×Obj))(s:Shared)(σ:St)(H:Hp)(x:V)(v vl vu:Value)(lo hi:Option Int)(sl:Addr)(Q:VK),Inv X pins σ H s->RelV x v->s.heap.IsSliceOf sl vl vu .none->IsPart vl lo->IsPart vu hi->r x lo hi H Q->
  ∃T id,typeLookup (.type T) "__getitem__"=pure (some (.builtin id))/\s.TypeIs v T/\wpAny (model X.prog X.w) X.A (getItem v (.ref sl)) (EP X pins σ Q) X.xe s
def tSl(r:V->Option Int->Option Int->Hp->VK->Prop)(te:TE)(tl th:TO):TE:=fun σ H Q=>te σ H fun x H1=>tl σ H1 fun l H2=>th σ H2 fun u H3=>r x l u H3 Q
theorem zag{r:V->Option Int->Option Int->Hp->VK->Prop}(hr:SlR X r)(he:PE X e te)(hl:PO X lo tl)(hu:PO X hi th):PE X (.Subscript e (.Slice lo hi none p2) pos) (tSl r te tl th):=by
 intro pins s σ H Q I h
 refine Subscript_ (thn (he pins s σ H _ I h) fun v s1 ⟨x,H1,I1,r1,q1⟩=>?_)
 refine wpAny_Slice (thn (hl pins s1 σ H1 _ I1 q1) fun vl s2 ⟨l,H2,I2,pl,q2⟩=>thn (hu pins s2 σ H2 _ I2 q2) fun vu s3 ⟨u,H3,I3,pu,q3⟩=>?_)
 rw[evalPart_none]
 refine uW ?_
 have I4:Inv X pins σ H3 {s3 with heap:=s3.heap.push {cls:=.type "slice",data:=.fields #[vl,vu,.none]}}:=I3.kept (t':=s3.toks) fun b ob q=>uX _ q
 obtain⟨T,id,hT,ht,hg⟩:=hr pins {s3 with heap:=s3.heap.push {cls:=.type "slice",data:=.fields #[vl,vu,.none]}} σ H3 x v vl vu l u s3.heap.objs.size Q I4 r1 (Heap.IsSliceOf.new ..) pl pu q3
 show wpAny (model X.prog X.w) X.A (subscriptTail e (.Slice lo hi none p2) v (.ref s3.heap.objs.size)) (EP X pins σ Q) X.xe {s3 with heap:=s3.heap.push {cls:=.type "slice",data:=.fields #[vl,vu,.none]}}
 exact tail_any (ops:=[.ref s3.heap.objs.size,v]) ht hT hg (by with_unfolding_all rfl)
noncomputable def cutV(xs:List V)(lo hi:Option Int):List V:=(xs.drop (HT.sIx xs.length 0 lo)).take (HT.sIx xs.length xs.length hi-HT.sIx xs.length 0 lo)
theorem zcE(xs:List V)(lo hi:Option Int):(cutV xs lo hi).length<=xs.length:=by
 unfold cutV
 rw[yP,xU]
 lia
def rSlT(K:tP):V->Option Int->Option Int->Hp->VK->Prop:=fun x lo hi H Q=>∃a xs,x=.ref a/\SqT K H a xs /\
 ¬(HT.sIx xs.length 0 lo=0/\HT.sIx xs.length xs.length hi=xs.length)/\∀p,H p=none->Q (.ref p) (upd H p (.tup (cutV xs lo hi)))
theorem zig:SlR X (rSlT X.K):=by
 intro pins s σ H x v vl vu lo hi sl Q I rx hs pl pu h
 obtain⟨a,xs,rfl,hx,hw,q⟩:=h
 cases rx
 obtain⟨its,r,ht,hz⟩:=I.tuple hx
 have hlen:its.toArray.size=xs.length:=by rw[yG];exact r.length.symm
 refine⟨"tuple",_,PyProof.Rows.slot_tuple_getitem.lookup,ht.typeIs,?_⟩
 refine HT.getItem_tuple_cut ht hs pl pu (by rw[hlen];exact hw) ?_ (by rw[hlen];exact hz)
 rw[hlen]
 refine⟨.ref s.heap.objs.size,_,I.laid (t':=s.toks) (o:=.tup (cutV xs lo hi)) (fun b ob q=>uX _ q) (yE _) ?_,rfl,q _ (I.hok.fresh (yE _))⟩
 exact⟨yQ (zcE xs lo hi) hz,_,(r.drop (HT.sIx xs.length 0 lo)).take (HT.sIx xs.length xs.length hi-HT.sIx xs.length 0 lo),IsTup.new _ _⟩
def zmN(K:tP):R2:=fun x y H Q=>∃a b xs ys,x=.ref a/\y=.ref b/\SqT K H a xs/\SqT K H b ys/\xs≠[]/\xs.length+ys.length<=tF /\
 (ys=[]->Q (.ref a) H)/\(ys≠[]->∀p,H p=none->Q (.ref p) (upd H p (.tup (xs++ys))))
theorem Vals.nil_iff{xs:List V}{us:List Value}(r:Vals xs us):us=[] ↔ xs=[]:=by
 cases r with
 |nil=>simp
 |cons _ _=>simp
theorem zlw:OpR X (binaryOp .Add) (zmN X.K):=by
 intro pins s σ H x y v u Q I rx ry h
 obtain⟨a,b,xs,ys,rfl,rfl,ha,hb,hx,hz,q1,q2⟩:=h
 cases rx
 cases ry
 obtain⟨its,r1,p1,_⟩:=I.tuple ha
 obtain⟨its2,r2,p2,_⟩:=I.tuple hb
 refine HT.cat_tup p1 p2 (fun z=>hx (r1.nil_iff.mp z)) (fun z=>⟨.ref a,H,I,rfl,q1 (r2.nil_iff.mp z)⟩) (fun z=>?_) (by rw[←r1.length,←r2.length];exact hz)
 refine⟨.ref s.heap.objs.size,_,I.laid (t':=s.toks) (o:=.tup (xs++ys)) (fun b ob q=>uX _ q) (yE _) ?_,rfl,q2 (fun w=>z (r2.nil_iff.mpr w)) _ (I.hok.fresh (yE _))⟩
 exact⟨by rw[yD];exact hz,_,r1.append r2,IsTup.new _ _⟩
end
noncomputable def ixN(n:Nat)(i:Int):Option Nat:=if 0<=i then (if i<n then some i.toNat else none) else if -(n:Int)<=i then some (i+n).toNat else none
def atI{α:Type}(xs:List α)(i:Int):Option α:=(ixN xs.length i).bind fun j=>xs[j]?
theorem zih{n:Nat}{i:Int}{j:Nat}(h:ixN n i=some j):seqIndex? i n=some j/\j<n/\-(n:Int)<=i/\i<n:=by
 unfold ixN at h
 by_cases h0:0<=i
 ·rw[if_pos h0] at h
  by_cases h1:i<n
  ·rw[if_pos h1] at h
   have e:i.toNat=j:=Option.some.inj h
   exact⟨by rw[seqIndex_of h0 h1,e],by lia,by lia,h1⟩
  ·rw[if_neg h1] at h;cases h
 ·rw[if_neg h0] at h
  by_cases h1:-(n:Int)<=i
  ·rw[if_pos h1] at h
   have e:(i+n).toNat=j:=Option.some.inj h
   exact⟨by rw[seqIndex_neg (by lia) h1,e],by lia,h1,by lia⟩
  ·rw[if_neg h1] at h;cases h
theorem zfJ{α:Type}{xs:List α}{i:Int}{v:α}(h:atI xs i=some v):∃j,seqIndex? i xs.length=some j/\xs[j]?=some v/\j<xs.length/\-(xs.length:Int)<=i/\i<xs.length:=by
 unfold atI at h
 cases e:ixN xs.length i with
 |none=>rw[e] at h;cases h
 |some j=>
  rw[e] at h
  obtain⟨h1,h2,h3,h4⟩:=zih e
  exact⟨j,h1,h,h2,h3,h4⟩
theorem zt{α:Type}{xs:List α}{j:Nat}{v:α}(h:xs[j]?=some v):atI xs (j:Int)=some v:=by
 have hj:j<xs.length:=(yC.mp h).1
 have e:ixN xs.length (j:Int)=some j:=by
  unfold ixN
  rw[if_pos (by lia),if_pos (by lia)];simp
 unfold atI;rw[e];exact h
theorem zcn{α:Type}(xs:List α)(v:α):atI (xs++[v]) (-1)=some v:=by
 have hl:(xs++[v]).length=xs.length+1:=by simp
 have e:ixN (xs++[v]).length (-1)=some xs.length:=by
  unfold ixN
  rw[hl,if_neg (by decide),if_pos (by lia)]
  congr 1
  lia
 unfold atI
 rw[e]
 show (xs++[v])[xs.length]?=some v
 simp
def zii(b:Expr):Prop:=∀o i,subscripted b false o i=operate [o,i] (getItem o i)
def IxR(X:Cx)(r:R2):Prop:=
 ∀(value slice:Expr)(pins:List (Addr×Obj))(s:Shared)(σ:St)(H:Hp)(x y:V)(v u:Value)(Q:VK),Inv X pins σ H s->RelV x v->RelV y u->r x y H Q->
  subscripted slice false v u=operate [v,u] (getItem v u)->wpAny (model X.prog X.w) X.A (subscriptTail value slice v u) (EP X pins σ Q) X.xe s
def MtR(X:Cx)(id:String)(r:V->List V->Hp->VK->Prop):Prop:=
 ∀(pins:List (Addr×Obj))(s:Shared)(σ:St)(H:Hp)(x:V)(xs:List V)(v:Value)(us:List Value)(Q:VK),Inv X pins σ H s->RelV x v->Vals xs us->r x xs H Q->
  wpAny (model X.prog X.w) X.A (call (.builtin id) (v::us)) (EP X pins σ Q) X.xe s
section
variable{X:Cx}{a b:Expr}{ta tb:TE}{pos:Pos}
theorem zx{r:R2}(hr:IxR X r)(ha:PE X a ta)(hb:PE X b tb)(hs:zii b):PE X (.Subscript a b pos) (tOp r ta tb):=by
 intro pins s σ H Q I h
 exact Subscript_ (binT ha hb I h fun v u s2 x y H2 I2 rx ry q=>hr a b pins s2 σ H2 x y v u Q I2 rx ry q (hs _ _))
def rIxL(K:tP):R2:=fun x y H Q=>∃p xs i v,x=.ref p/\y=.int i/\SqL K H p xs/\atI xs i=some v/\Q v H
def rIxT(K:tP):R2:=fun x y H Q=>∃p xs i v,x=.ref p/\y=.int i/\SqT K H p xs/\atI xs i=some v/\Q v H
def rIxS:R2:=fun x y H Q=>∃z i c,x=.str z/\y=.int i/\z.length<=tF/\atI z.cps.toList i=some c/\Q (.str ⟨#[c]⟩) H
theorem zF:IxR X (rIxL X.K):=by
 intro value slice pins s σ H x y v u Q I rx ry h hs
 obtain⟨p,xs,i,z,rfl,rfl,hq,he,q⟩:=h
 cases rx
 obtain⟨t,rfl⟩:=ry
 obtain⟨its,r,pl,hz⟩:=I.list hq
 obtain⟨j,h1,h2,h3,h4,h5⟩:=zfJ he
 obtain⟨w,ew,rw'⟩:=r.get h2
 have hl:=r.length
 have hn:=zeH
 have fin:EP X pins σ Q w s:=⟨z,H,I,rw',q⟩
 by_cases h0:0<=i
 ·have hj:i.toNat=j:=by
   rw[seqIndex_of h0 h5] at h1
   exact Option.some.inj h1
  exact item_listR pl.isList h0 (by lia) (by rw[hj];simpa using ew) fin hs
 ·have hj:(i+(its.toArray.size:Int)).toNat=j:=by
   rw[seqIndex_neg (by lia) h4] at h1
   rw[yG,←hl]
   exact Option.some.inj h1
  exact subscriptTail_builtinR (x:=w) pl.isList.typeIs slot_list_getitem.lookup
   (wpAny_getItem_list_neg (Q:=fun r s'=>r=w/\EP X pins σ Q r s') pl.isList (by lia) (by rw[yG]<;>lia) (by lia) (by rw[hj];simpa using ew) ⟨rfl,fin⟩) hs
theorem zD:IxR X (rIxT X.K):=by
 intro value slice pins s σ H x y v u Q I rx ry h hs
 obtain⟨p,xs,i,z,rfl,rfl,hq,he,q⟩:=h
 cases rx
 obtain⟨t,rfl⟩:=ry
 obtain⟨its,r,pl,hz⟩:=I.tuple hq
 obtain⟨j,h1,h2,h3,h4,h5⟩:=zfJ he
 obtain⟨w,ew,rw'⟩:=r.get h2
 have hl:=r.length
 have hn:=zeH
 have fin:EP X pins σ Q w s:=⟨z,H,I,rw',q⟩
 exact subscriptTail_builtinR (x:=w) pl.typeIs slot_tuple_getitem.lookup
  (getItem_tuple (j:=j) (Q:=fun r s'=>r=w/\EP X pins σ Q r s') pl (by lia) (by lia) (by rw[yG,←hl];exact h1) (by simpa using ew) ⟨rfl,fin⟩) hs
theorem zmO:IxR X rIxS:=by
 intro value slice pins s σ H x y v u Q I rx ry h hs
 obtain⟨z,i,c,rfl,rfl,hz,he,q⟩:=h
 obtain⟨t,rfl⟩:=rx
 obtain⟨t',rfl⟩:=ry
 obtain⟨j,h1,h2,h3,h4,h5⟩:=zfJ he
 have hl:z.cps.toList.length=z.length:=by simp[Str.length]
 rw[hl] at h1 h4 h5
 have hn:=zeH
 exact tail_any (typeIs_str s z t) slot_str_getitem.lookup (getItem_str (c:=c) (by
  have e1:decide (i < -(2 ^ 63:Int))=false:=decide_eq_false (by lia)
  have e2:decide (i ≥ 2 ^ 63)=false:=decide_eq_false (by lia)
  rw[e1,e2,Bool.or_false]) (by rw[h1];simpa using h2) ⟨.str ⟨#[c]⟩,H,I.tok _,⟨_,rfl⟩,q⟩) hs
theorem zhi(its:List Value)(n j:Nat)(u:Value):Obj.mapSeq (·.setIfInBounds j u) {cls:=.type "list",data:=.seq its.toArray n}={cls:=.type "list",data:=.seq (its.set j u).toArray n}:=by
 simp[Obj.mapSeq]
theorem Inv.lst{pins:List (Addr×Obj)}{σ:St}{H:Hp}{s:Shared}{p:Addr}{xs:List V}(I:Inv X pins σ H s)(h:H p=some (.lst xs)):
  ∃(its:List Value)(n:Nat),Vals xs its/\s.heap.get? p=some {cls:=.type "list",data:=.seq its.toArray n}/\xs.length<=tF:=by
 obtain⟨z,its,n,r,e⟩:=I.hok p _ h
 exact⟨its,n,r,e,z⟩
theorem Inv.lstUpd{pins:List (Addr×Obj)}{σ:St}{H:Hp}{s:Shared}{p:Addr}{xs ys:List V}{its its':List Value}{n n':Nat}{f:Obj->Obj}(I:Inv X pins σ H s)(h:H p=some (.lst xs))
  (ho:s.heap.get? p=some {cls:=.type "list",data:=.seq its.toArray n}) (hf:f {cls:=.type "list",data:=.seq its.toArray n}={cls:=.type "list",data:=.seq its'.toArray n'}) (r:Vals ys its') (hz:ys.length<=tF) (t:Nat):
  Inv X pins σ (upd H p (.lst ys)) {s with heap:=s.heap.update p f,toks:=t}:=by
 have e:(s.heap.update p f).get? p=some {cls:=.type "list",data:=.seq its'.toArray n'}:=by
  rw[Heap.get?_update_self f ho (by rw[hf]<;>rfl),hf]
 refine I.write (x:=p) (e:=p) (by rw[h];trivial) (.inl rfl) (fun b u hb q=>(Heap.get?_update_other _ _ (Ne.symm hb)).trans q) ⟨_,e⟩ ?_
 exact⟨hz,its',n',r,e⟩
def znC:V->V->V->Hp->(Hp->Prop)->Prop:=fun o i v H Q=>∃p xs k j,o=.ref p/\i=.int k/\H p=some (.lst xs)/\ixN xs.length k=some j/\Q (upd H p (.lst (xs.set j v)))
theorem zby:PSet X znC:=by
 intro pins s σ H o i v ov iv u Q I ro ri rv h
 obtain⟨p,xs,k,j,rfl,rfl,hp,hj,q⟩:=h
 cases ro
 obtain⟨t,rfl⟩:=ri
 obtain⟨its,n,r,ho,hz⟩:=I.lst hp
 obtain⟨h1,h2,h3,h4⟩:=zih hj
 have hl:=r.length
 have hn:=zeH
 have I':Inv X pins σ (upd H p (.lst (xs.set j v))) {s with heap:=s.heap.update p (Obj.mapSeq (·.setIfInBounds j u))}:=
  I.lstUpd hp ho (zhi its n j u) (r.set rv j) (by rw[List.length_set];exact hz) s.toks
 by_cases h0:0<=k
 ·have hk:k.toNat=j:=by
   rw[seqIndex_of h0 h4] at h1
   exact Option.some.inj h1
  exact PySem.W.ki_setAt ho h0 (by lia) (by rw[yG,←hl];exact h4) (by rw[hk];exact⟨_,I',q⟩)
 ·have hk:(k+(its.toArray.size:Int)).toNat=j:=by
   rw[seqIndex_neg (by lia) h3] at h1
   rw[yG,←hl]
   exact Option.some.inj h1
  exact PySem.W.ki_setBack ho (by lia) (by rw[yG,←hl];exact h3) (by lia) (by rw[hk];exact⟨_,I',q⟩)
theorem zeR(lo hi:Option Int)(n:Nat):(sliceBounds lo hi none n).1=((HT.sIx n 0 lo:Nat):Int)/\(sliceBounds lo hi none n).2.1=((HT.sIx n n hi:Nat):Int)/\(sliceBounds lo hi none n).2.2=1:=by
 refine⟨?_,?_,rfl⟩
 ·cases lo with
  |none=>simp[sliceBounds,HT.sIx]
  |some i=>
   simp only[sliceBounds,HT.sIx,uR,show (1:Int) > 0 by decide,if_true]
   by_cases h:i<0
   ·simp only[h,if_true]<;>lia
   ·simp only[h,if_false]<;>lia
 ·cases hi with
  |none=>simp[sliceBounds,HT.sIx]
  |some i=>
   simp only[sliceBounds,HT.sIx,uR,show (1:Int) > 0 by decide,if_true]
   by_cases h:i<0
   ·simp only[h,if_true]<;>lia
   ·simp only[h,if_false]<;>lia
theorem zdM(its:List Value)(lo hi:Option Int):slicePick its.toArray lo hi none=((its.drop (HT.sIx its.length 0 lo)).take (HT.sIx its.length its.length hi-HT.sIx its.length 0 lo)).toArray:=by
 obtain⟨h1,h2,h3⟩:=zeR lo hi its.toArray.size
 unfold slicePick
 rw[h1,h2,h3]
 simp only[sliceRange_one,pick_run,yG]<;>rfl
def rSlL(K:tP):V->Option Int->Option Int->Hp->VK->Prop:=fun x lo hi H Q=>∃a xs,x=.ref a/\SqL K H a xs/\∀p,H p=none->Q (.ref p) (upd H p (.lst (cutV xs lo hi)))
theorem zdN:SlR X (rSlL X.K):=by
 intro pins s σ H x v vl vu lo hi sl Q I rx hs pl pu h
 obtain⟨a,xs,rfl,hx,q⟩:=h
 cases rx
 obtain⟨its,r,ht,hz⟩:=I.list hx
 have hlen:=r.length
 refine⟨"list",_,slot_list_getitem.lookup,ht.isList.typeIs,?_⟩
 refine wpAny_getItem_list_slice ht.isList hs pl pu .none (by simp) ?_ (by rw[yG]<;>lia)
 rw[zdM,←hlen]
 refine⟨.ref s.heap.objs.size,_,I.laid (t':=s.toks) (o:=.lst (cutV xs lo hi)) (fun b ob q=>uX _ q) (yE _) ?_,rfl,q _ (I.hok.fresh (yE _))⟩
 exact⟨yQ (zcE xs lo hi) hz,_,0,(r.drop (HT.sIx xs.length 0 lo)).take (HT.sIx xs.length xs.length hi-HT.sIx xs.length 0 lo),uZ _ rfl⟩
noncomputable def zeS:V->Bool
 |.non=>true
 |.bl _=>true
 |.int _=>true
 |.str _=>true
 |_=>false
noncomputable def eqV:V->V->Bool
 |.non,.non=>true
 |.bl a,.bl b=>a==b
 |.bl a,.int b=>(if a then 1 else 0)==b
 |.int a,.bl b=>a==(if b then 1 else 0)
 |.int a,.int b=>a==b
 |.str a,.str b=>a==b
 |_,_=>false
theorem zmP{A:Around}{s:Shared}{y x:V}{u v:Value}(ry:RelV y u)(rx:RelV x v)(fy:zeS y=true)(fx:zeS x=true):SeqAt.EqAt A s u v (eqV y x):=by
 cases y with
 |non=>
  cases ry
  cases x with
  |non=>cases rx;exact SeqAt.EqAt.same _
  |bl b=>cases rx;exact SeqAt.EqAt.none_bool b
  |int b=>obtain⟨t,rfl⟩:=rx;exact SeqAt.EqAt.none_int b t
  |str b=>obtain⟨t,rfl⟩:=rx;exact SeqAt.EqAt.none_str b t
  |_=>exact absurd (show false=true from fx) yI
 |bl a=>
  cases ry
  cases x with
  |non=>cases rx;exact SeqAt.EqAt.bool_none a
  |bl b=>cases rx;exact SeqAt.EqAt.bool_bool a b
  |int b=>obtain⟨t,rfl⟩:=rx;exact SeqAt.EqAt.bool_int a b t
  |str b=>obtain⟨t,rfl⟩:=rx;exact SeqAt.EqAt.bool_str a b t
  |_=>exact absurd (show false=true from fx) yI
 |int a=>
  obtain⟨t',rfl⟩:=ry
  cases x with
  |non=>cases rx;exact SeqAt.EqAt.int_none a t'
  |bl b=>cases rx;exact SeqAt.EqAt.int_bool a t' b
  |int b=>obtain⟨t,rfl⟩:=rx;exact SeqAt.EqAt.int_int a t' b t
  |str b=>obtain⟨t,rfl⟩:=rx;exact SeqAt.EqAt.int_str a t' b t
  |_=>exact absurd (show false=true from fx) yI
 |str a=>
  obtain⟨t',rfl⟩:=ry
  cases x with
  |non=>cases rx;exact SeqAt.EqAt.str_none a t'
  |bl b=>cases rx;exact SeqAt.EqAt.str_bool a t' b
  |int b=>obtain⟨t,rfl⟩:=rx;exact SeqAt.EqAt.str_int a t' b t
  |str b=>obtain⟨t,rfl⟩:=rx;exact SeqAt.EqAt.str_str a t' b t
  |_=>exact absurd (show false=true from fx) yI
 |_=>exact absurd (show false=true from fy) yI
def eqU(x:V)(u:Value):Bool:=match u with
 |.none=>eqV .non x
 |.bool b=>eqV (.bl b) x
 |.int i _=>eqV (.int i) x
 |.str z _=>eqV (.str z) x
 |_=>false
theorem zkH{x y:V}{u:Value}(r:RelV y u)(f:zeS y=true):eqU x u=eqV y x:=by
 cases y with
 |non=>cases r;rfl
 |bl b=>cases r;rfl
 |int i=>obtain⟨t,rfl⟩:=r;rfl
 |str z=>obtain⟨t,rfl⟩:=r;rfl
 |_=>exact absurd (show false=true from f) yI
theorem zfK{x:V}:∀{xs:List V}{us:List Value},Vals xs us->xs.all zeS=true->us.any (eqU x)=xs.any fun y=>eqV y x
 |_,_,.nil,_=>rfl
 |y::xs,u::us,.cons r t,f=>by
  rw[vU,xF] at f
  rw[vE,vE,zkH r f.1,zfK t f.2]
theorem zdO{A:Around}{s:Shared}{x:V}{v:Value}(rx:RelV x v)(fx:zeS x=true):∀{xs:List V}{us:List Value},Vals xs us->xs.all zeS=true->∀u∈us,SeqAt.EqAt A s u v (eqU x u)
 |_,_,.nil,_=>fun u hu=>by cases hu
 |y::xs,u::us,.cons r t,f=>fun u' hu=>by
  rw[vU,xF] at f
  rcases yS.mp hu with rfl|hu
  ·rw[zkH r f.1];exact zmP r rx f.1 fx
  ·exact zdO rx fx t f.2 u' hu
def inV(x:V)(xs:List V):Bool:=xs.any fun y=>eqV y x
def rIn(K:tP)(neg:Bool):R2:=fun x y H Q=>∃p xs,y=.ref p/\(SqL K H p xs\/SqT K H p xs)/\zeS x=true/\xs.all zeS=true/\Q (.bl (if neg then !inV x xs else inV x xs)) H
theorem zeT:OpR X (tK .In) (rIn X.K false):=by
 intro pins s σ H x y v u Q I rx ry h
 obtain⟨p,xs,rfl,hq,fx,fs,q⟩:=h
 cases ry
 rcases hq with hq|hq
 ·obtain⟨its,r,pl,hz⟩:=I.list hq
  refine SeqAt.in_listAt (eqU x) pl.isList (fun w hw=>zdO rx fx r fs w (by simpa using hw)) ⟨.bl _,H,I,rfl,?_⟩
  rw[show its.toArray.any (eqU x)=its.any (eqU x) by simp,zfK r fs]
  exact q
 ·obtain⟨its,r,pl,hz⟩:=I.tuple hq
  refine SeqAt.in_tupleAt (eqU x) pl (fun w hw=>zdO rx fx r fs w (by simpa using hw)) ⟨.bl _,H,I,rfl,?_⟩
  rw[show its.toArray.any (eqU x)=its.any (eqU x) by simp,zfK r fs]
  exact q
theorem Z9:zaV X (.type "list") (fun xs H Q=>∃p ys,xs=[.ref p]/\(SqL X.K H p ys\/SqT X.K H p ys)/\∀l,H l=none->Q (.ref l) (upd H l (.lst ys))):=by
 intro pins s σ H xs us Q I r h
 obtain⟨p,ys,rfl,hq,q⟩:=h
 obtain⟨u,rfl,rx⟩:=zcd r
 cases rx
 have fin:∀(its:List Value),Vals ys its->ys.length<=tF->∀(h':Heap)(c':Nat),(∀b o',s.heap.get? b=some o'->h'.get? b=some o')->
   h'.get? s.heap.objs.size=some {cls:=.type "list",dict:=none,data:=.seq its.toArray c',slots:=#[]}->EP X pins σ Q (.ref s.heap.objs.size) {s with heap:=h'}:=fun its r' hz h' c' kp e=>
  ⟨.ref s.heap.objs.size,_,I.laid (t':=s.toks) kp (yE _) (show Zw X.prog X.w _ h' _ (.lst ys) from⟨hz,its,c',r',e⟩),rfl,q _ (I.hok.fresh (yE _))⟩
 rcases hq with hq|hq
 ·obtain⟨its,r',pl,hz⟩:=I.list hq
  have hlen:=r'.length
  obtain⟨o,ho,hc,n,hd⟩:=pl.isList
  exact call_list_seq p (.inl rfl) ho hc hd (fun h' c' kp e=>fin its r' hz h' c' kp e) (by simp only[yG]<;>lia)
 ·obtain⟨its,r',pl,hz⟩:=I.tuple hq
  have hlen:=r'.length
  obtain⟨o,ho,hc,n,hd⟩:=pl
  exact call_list_seq p (.inr rfl) ho hc hd (fun h' c' kp e=>fin its r' hz h' c' kp e) (by simp only[yG]<;>lia)
theorem Zf:zaV X (.type "tuple") (fun xs H Q=>∃p ys,xs=[.ref p]/\((SqL X.K H p ys/\∀l,H l=none->Q (.ref l) (upd H l (.tup ys)))\/(SqT X.K H p ys/\Q (.ref p) H))):=by
 intro pins s σ H xs us Q I r h
 obtain⟨p,ys,rfl,h⟩:=h
 obtain⟨u,rfl,rx⟩:=zcd r
 cases rx
 rcases h with⟨hq,q⟩|⟨hq,q⟩
 ·obtain⟨its,r',pl,hz⟩:=I.list hq
  have hlen:=r'.length
  refine call_tuple_list pl.isList (fun h' kp=>?_) (by simp only[yG]<;>lia)
  have I1:Inv X pins σ H {s with heap:=h'}:=I.kept (t':=s.toks) kp
  have I2:Inv X pins σ (upd H h'.objs.size (.tup ys)) {s with heap:=h'.push {cls:=.type "tuple",data:=.seq its.toArray}}:=
   I1.laid (t':=s.toks) (fun b o e=>uX _ e) (yE _) (show Zw X.prog X.w _ _ _ (.tup ys) from⟨hz,its,r',IsTup.new _ _⟩)
  exact⟨.ref h'.objs.size,_,I2,rfl,q _ (I1.hok.fresh (yE _))⟩
 ·obtain⟨its,r',pl,hz⟩:=I.tuple hq
  exact call_tuple_same pl ⟨.ref p,H,I,rfl,q⟩
def tyV(K:tP)(T:String)(x:V)(H:Hp):Prop:=match x with
 |.str _=>T="str"
 |.int _=>T="int"
 |.ref p=>(T="list"/\∃xs,SqL K H p xs)\/(T="tuple"/\∃o,K.lookup p=some o/\o.cls=.type "tuple"/\o.dict=none) \/
   (T="dict"/\((∃kvs,H p=some (.dK kvs))\/∃kvs,H p=some (.dT kvs)))\/(T="set"/\∃S n,H p=some (.set S n))
 |_=>False
theorem zkI{pins:List (Addr×Obj)}{σ:St}{H:Hp}{s:Shared}{T:String}{x:V}{v:Value}(I:Inv X pins σ H s)(r:RelV x v)(ty:tyV X.K T x H):
  s.TypeIs v T/\∀a,v=.ref a->∃ob,s.heap.get? a=some ob/\ob.dict=none:=by
 cases x with
 |str z=>
  obtain⟨t,rfl⟩:=r
  cases (show T="str" from ty)
  exact⟨typeIs_str s z t,fun _ e=>nomatch e⟩
 |int i=>
  obtain⟨t,rfl⟩:=r
  cases (show T="int" from ty)
  exact⟨typeIs_int s i t,fun _ e=>nomatch e⟩
 |ref p=>
  cases r
  rcases ty with⟨rfl,xs,hq⟩|⟨rfl,o,hk,hc,hd⟩|⟨rfl,hk⟩|⟨rfl,S,n,hk⟩
  ·obtain⟨its,_,pl,_⟩:=I.list hq
   refine⟨pl.isList.typeIs,fun a e=>?_⟩
   cases e
   obtain⟨o,n,e,c,hd,_⟩:=pl
   exact⟨o,e,hd⟩
  ·refine⟨⟨o,I.kIn p o hk,hc⟩,fun a e=>?_⟩
   cases e
   exact⟨o,I.kIn _ o hk,hd⟩
  ·have z:∃o,s.heap.get? p=some o/\o.ExactDict:=by
    rcases hk with⟨kvs,hk⟩|⟨kvs,hk⟩
    ·obtain⟨_,_,_,_,o,_,_,e,ex,_⟩:=I.hok p _ hk
     exact⟨o,e,ex⟩
    ·obtain⟨_,_,_,_,o,_,_,e,ex,_⟩:=I.hok p _ hk
     exact⟨o,e,ex⟩
   obtain⟨o,e,ex⟩:=z
   refine⟨⟨o,e,ex.1⟩,fun a e2=>?_⟩
   cases e2
   exact⟨o,e,ex.2.1⟩
  ·obtain⟨o,_,_,_,e,ex,_⟩:=I.hok p _ hk
   refine⟨⟨o,e,ex.1⟩,fun a e2=>?_⟩
   cases e2
   exact⟨o,e,ex.2.1⟩
 |_=>exact False.elim ty
def tBM0(K:tP)(T:String)(r:V->List V->Hp->VK->Prop)(to:TE):TE:=fun σ H Q=>to σ H fun x H1=>tyV K T x H1/\r x [] H1 Q
def tBM(K:tP)(T:String)(r:V->List V->Hp->VK->Prop)(to:TE)(t:TA):TE:=fun σ H Q=>to σ H fun x H1=>tyV K T x H1/\t σ H1 fun xs H2=>r x xs H2 Q
variable{o e:Expr}{es:List Expr}{to:TE}{t:TA}{name:Str}{apos cpos:Pos}{T id:String}{r:V->List V->Hp->VK->Prop}
theorem zdu(pa:PlainAttrs T)(slot:Slot T name id)(hty:typeOf (.builtin id)=pure (.type "method_descriptor"))(hm:MtR X id r)(ho:PE X o to)
  (hbase:attributeBase o name X.env (eval o X.env)=eval o X.env:=by rfl) (hline:(apos.endLine==cpos.line)=true:=by rfl):PE X (.Call (.Attribute o name apos) [] [] cpos) (tBM0 X.K T r to):=by
 intro pins s σ H Q I h
 refine wpAny_Call_method0_late hbase hline (thn (ho pins s σ H _ I h) fun v s1 ⟨x,H1,I1,r1,ty,q1⟩=>?_)
 obtain⟨h1,h2⟩:=zkI I1 r1 ty
 exact⟨T,id,pa,slot,hty,h1,h2,Calls.callWith_builtin rfl (PySem.evalArgs_none (hm pins s1 σ H1 x [] v [] Q I1 r1 .nil q1))⟩
theorem zcf(pa:PlainAttrs T)(slot:Slot T name id)(hty:typeOf (.builtin id)=pure (.type "method_descriptor"))(hm:MtR X id r)(ho:PE X o to)(ha:PA X (e::es) t)
  (hbase:attributeBase o name X.env (eval o X.env)=eval o X.env:=by rfl)
  (hfew:((backTo cpos (tI (e::es) X.env)).all (fun x=>!x.1)&&(backToKw cpos (keywordEach [] X.env)).all (fun x=>x.1.isSome)
   && decide ((e::es).length+([]:List Keyword).length+(if ([]:List Keyword).isEmpty then 0 else 1)<30))=true:=by rfl)
  (hline:(apos.endLine==cpos.line)=true:=by rfl) (hs:tI (e::es) X.env=(false,eval e X.env)::tI es X.env:=by rfl) (hplain:(backTo cpos (tI es X.env)).any (·.1)=false:=by rfl):
  PE X (.Call (.Attribute o name apos) (e::es) [] cpos) (tBM X.K T r to t):=by
 intro pins s σ H Q I h
 refine wpAny_Call_method_late hbase hfew hline rfl (thn (ho pins s σ H _ I h) fun v s1 ⟨x,H1,I1,r1,ty,q1⟩=>?_)
 obtain⟨h1,h2⟩:=zkI I1 r1 ty
 refine⟨T,id,pa,slot,hty,h1,h2,?_⟩
 have hA:=ha cpos pins s1 σ H1 _ I1 q1
 rw[hs] at hA ⊢
 refine Calls.callWith_builtin (by show (false||(backTo cpos (tI es X.env)).any (·.1))=false;rw[hplain]<;>rfl) (Calls.evalArgs_plain ?_)
 exact thn hA fun us s2 ⟨vs,H2,I2,r2,q2⟩=>hm pins s2 σ H2 x vs v us Q I2 r1 r2 q2
end
def MtM(X:Cx)(id:String)(r:V->List V->Hp->VK->Prop):Prop:=
 ∀(pins:List (Addr×Obj))(s:Shared)(σ:St)(H:Hp)(x:V)(xs:List V)(v:Value)(us:List Value)(Q:VK),Inv X pins σ H s->RelV x v->Vals xs us->r x xs H Q->
  wpAny (model X.prog X.w) X.A (call (.builtin id) (v::us)) (EP X pins σ Q) X.xe s
theorem Vals.one:∀{x:V}{us:List Value},Vals [x] us->∃u,us=[u]/\RelV x u
 |_,_,.cons r .nil=>⟨_,rfl,r⟩
theorem Vals.zero:∀{us:List Value},Vals [] us->us=[]
 |_,.nil=>rfl
theorem Vals.dropLast{xs:List V}{us:List Value}(h:Vals xs us):Vals xs.dropLast us.dropLast:=by
 induction h with
 |nil=>exact .nil
 |cons r t ih=>
  cases t with
  |nil=>exact .nil
  |cons q t'=>exact .cons r ih
theorem zhj{α:Type}(l:List α):l.eraseIdx (l.length-1)=l.dropLast:=by
 induction l with
 |nil=>rfl
 |cons a r ih=>
  cases r with
  |nil=>rfl
  |cons b r=>
   have e:(a::b::r).length-1=((b::r).length-1)+1:=by
    have h1:(a::b::r).length=r.length+2:=rfl
    have h2:(b::r).length=r.length+1:=rfl
    lia
   rw[e,List.eraseIdx_cons_succ,ih]
   all_goals rfl
section
variable{X:Cx}{pins:List (Addr×Obj)}{σ:St}{H:Hp}{s:Shared}{l b:Addr}{xs ys zs:List V}
theorem Inv.lset{its its':List Value}{n:Nat}{f:Array Value->Array Value}{t':Nat}(I:Inv X pins σ H s)(hH:H l=some (.lst xs))
  (e:s.heap.get? l=some {cls:=.type "list",data:=.seq its.toArray n}) (hf:f its.toArray=its'.toArray) (hv:Vals ys its') (hz:ys.length<=tF):
  Inv X pins σ (upd H l (.lst ys)) {s with heap:=s.heap.update l (Obj.mapSeq f),toks:=t'}:=by
 have q:=PySem.IsL.update e f
 rw[hf] at q
 refine I.write (x:=l) (e:=l) (by rw[hH];exact trivial) (.inl rfl) (fun b' u hb hu=>(Heap.get?_update_other s.heap (Obj.mapSeq f) (Ne.symm hb)).trans hu) ⟨_,q⟩ ?_
 exact⟨hz,its',_,hv,q⟩
theorem Inv.lnew{its:List Value}{t':Nat}(I:Inv X pins σ H s)(hv:Vals ys its)(hz:ys.length<=tF):
  Inv X pins σ (upd H s.heap.objs.size (.lst ys)) {s with heap:=s.heap.push {cls:=.type "list",data:=.seq its.toArray},toks:=t'}:=
 I.laid (fun _ _ q=>uX _ q) (yE _) ⟨hz,its,0,hv,uZ _ rfl⟩
theorem Inv.fresh(I:Inv X pins σ H s):H s.heap.objs.size=none:=I.hok.fresh (yE _)
theorem Inv.lstM(I:Inv X pins σ H s)(hH:H l=some (.lst xs)):xs.length<=tF/\∃(its:List Value)(n:Nat),Vals xs its/\xs.length=its.length/\s.heap.get? l=some {cls:=.type "list",data:=.seq its.toArray n}:=by
 obtain⟨z,its,n,r,e⟩:=I.hok l _ hH
 exact⟨z,its,n,r,r.length,e⟩
theorem zjQ{n:Nat}(h:n<=tF):Builtin.List.listTooLong n=false:=by
 unfold Builtin.List.listTooLong
 exact decide_eq_false (by lia)
end
section
variable{X:Cx}
def zlx:V->List V->Hp->VK->Prop:=fun x vs H Q=>∃l xs y,x=.ref l/\vs=[y]/\H l=some (.lst xs)/\xs.length<tF/\Q .non (upd H l (.lst (xs++[y])))
theorem zaa:MtM X "list.append" zlx:=by
 intro pins s σ H x vs v us Q I rx rv h
 obtain⟨l,xs,y,rfl,rfl,hH,hz,q⟩:=h
 cases rx
 obtain⟨u,rfl,ru⟩:=rv.one
 obtain⟨z,its,n,r,hl,e⟩:=I.lstM hH
 refine call_meets tO ⟨_,e,rfl⟩ F.entry_list_append (F.args_list_append_2 _ _) (PySem.list_append l its.toArray n u (by rw[yG];lia)) ⟨e,?_⟩
 refine⟨.non,_,I.lset (its':=its++[u]) hH e (by simp) (r.append (.cons ru .nil)) ?_,rfl,q⟩
 rw[yD,wG]
 lia
def zly:V->List V->Hp->VK->Prop:=fun x vs H Q=>∃l b xs zs,x=.ref l/\vs=[.ref b]/\H l=some (.lst xs)/\H b=some (.lst zs)/\xs.length+zs.length<=tF/\Q .non (upd H l (.lst (xs++zs)))
theorem zij:MtM X "list.extend" zly:=by
 intro pins s σ H x vs v us Q I rx rv h
 obtain⟨l,b,xs,zs,rfl,rfl,hH,hB,hz,q⟩:=h
 cases rx
 obtain⟨u,rfl,ru⟩:=rv.one
 cases ru
 obtain⟨z,its,n,r,hl,e⟩:=I.lstM hH
 obtain⟨z2,its2,n2,r2,hl2,e2⟩:=I.lstM hB
 have hsz:its.toArray.size+its2.toArray.size<=tF:=by rw[yG,yG];lia
 have hlong:¬(!its.toArray.isEmpty&&Builtin.List.listTooLong (its.toArray.size+its2.toArray.size))=true:=by
  rw[zjQ hsz,Bool.and_false]
  exact yI
 refine call_meets F.slot_list_extend ⟨_,e,rfl⟩ F.entry_list_extend (F.args_list_extend_2 _ _)
  (AutoSeq1.list_extend_list_list_0 l its.toArray n b its2.toArray n2 hlong (by rw[yG];lia) (by lia)) ⟨e,e2,?_⟩
 refine⟨.non,_,I.lset (its':=its++its2) hH e (by simp) (r.append r2) ?_,rfl,q⟩
 rw[yD]
 lia
def rPop:V->List V->Hp->VK->Prop:=fun x vs H Q=>∃l xs y,x=.ref l/\vs=[]/\H l=some (.lst xs)/\xs[xs.length-1]?=some y/\Q y (upd H l (.lst xs.dropLast))
theorem zmQ:MtM X "list.pop" rPop:=by
 intro pins s σ H x vs v us Q I rx rv h
 obtain⟨l,xs,y,rfl,rfl,hH,hy,q⟩:=h
 cases rx
 have hus:=rv.zero
 subst hus
 obtain⟨z,its,n,r,hl,e⟩:=I.lstM hH
 obtain⟨u,hu,ru⟩:=r.get hy
 have hy':its.toArray[its.toArray.size-1]?=some u:=by
  show its.toArray[its.length-1]?=some u
  rw[←Array.getElem?_toList,←hl]
  exact hu
 refine call_meets F.slot_list_pop ⟨_,e,rfl⟩ F.entry_list_pop (F.args_list_pop_1 _) (MeetsSeq.list_pop_last l its.toArray n u hy' (by rw[yG];lia)) ⟨e,?_⟩
 refine⟨y,_,I.lset (its':=its.dropLast) hH e ?_ r.dropLast ?_,ru,q⟩
 ·show its.toArray.eraseIdxIfInBounds (its.toArray.size-1)=its.dropLast.toArray
  rw[yG,List.eraseIdxIfInBounds_toArray,zhj]
 ·rw[List.length_dropLast]
  lia
def zmR:V->List V->Hp->VK->Prop:=fun x vs H Q=>∃l xs,x=.ref l/\vs=[]/\H l=some (.lst xs)/\Q .non (upd H l (.lst []))
theorem zjR:MtM X "list.clear" zmR:=by
 intro pins s σ H x vs v us Q I rx rv h
 obtain⟨l,xs,rfl,rfl,hH,q⟩:=h
 cases rx
 have hus:=rv.zero
 subst hus
 obtain⟨z,its,n,r,hl,e⟩:=I.lstM hH
 refine call_meets F.slot_list_clear ⟨_,e,rfl⟩ F.entry_list_clear (F.args_list_clear_1 _) (AutoSeq1.list_clear_list_0 l its.toArray n (by rw[yG];lia)) ⟨e,?_⟩
 exact⟨.non,_,I.lset (its':=[]) (ys:=[]) hH e rfl .nil (yN _),rfl,q⟩
def rCat:R2:=fun x y H Q=>∃l b xs zs,x=.ref l/\y=.ref b/\H l=some (.lst xs)/\H b=some (.lst zs)/\xs.length+zs.length<=tF/\∀p,H p=none->Q (.ref p) (upd H p (.lst (xs++zs)))
theorem zkJ:OpR X (binaryOp .Add) rCat:=by
 intro pins s σ H x y v u Q I rx ry h
 obtain⟨l,b,xs,zs,rfl,rfl,hH,hB,hz,q⟩:=h
 cases rx
 cases ry
 obtain⟨z,its,n,r,hl,e⟩:=I.lstM hH
 obtain⟨z2,its2,n2,r2,hl2,e2⟩:=I.lstM hB
 refine PySem.P.add_list e e2 ?_ (by rw[yG,yG];lia)
 have ea:its.toArray++its2.toArray=(its++its2).toArray:=by simp
 rw[ea]
 exact⟨.ref _,_,I.lnew (t':=s.toks) (r.append r2) (by rw[yD];lia),rfl,q _ I.fresh⟩
end
section
variable{prog:Program}{w:World}{A:Around}{E:Value->Shared->Prop}{s:Shared}
set_option maxRecDepth 100000 in
end
section
variable{X:Cx}
end
end L2
namespace Att
open PySem PySem.W PySem.Calls PyProof.Rows
theorem zcF{P:Params}{h:Heap}:∀(ns:List Int)(vs:List Value),WellAll P h vs (ns.map WData.int)->IntsAre vs ns:=by
 intro ns
 induction ns with
 |nil=>
  intro vs w
  rw[uP] at w
  cases w
  exact .nil
 |cons n ns ih=>
  intro vs w
  rw[yX] at w
  cases w with
  |cons a b=>
   cases a
   exact .cons _ _ (ih _ b)
theorem zik{l:OpenLaw}{n:Nat}(hn:l.most=some n){P:Params}{h:Heap}{args:List WData}{vals:List Value}
  (hpre:l.row.toRowW.claim.pre args=true) (hwl:WellAll P h vals args):
  ∃a vs ns,vals=[Value.ref a]/\args=[WData.list (ns.map WData.int)]/\h.get? a=some {cls:=.type "list",data:=.seq vs.toArray}/\IntsAre vs ns/\ns.length<=n:=by
 have hsh:WShape.hasAll [] args [.list .int]=true:=(pre_splitW hpre).1
 have hc:l.pre.holds [] {args:=args}=true:=(pre_splitW hpre).2
 obtain⟨d,r,rfl,h1,h2⟩:=hasAllW_cons hsh
 obtain rfl:=hasAllW_nil h2
 obtain⟨xs,rfl,h3⟩:=hasW_list h1
 obtain⟨ns,rfl⟩:=items_int h3
 have hlen:ns.length<=n:=by
  unfold OpenLaw.pre at hc
  have h4:(WTm.not (.lt (.lit (.int (n:Int))) (.len (.arg 0)))).holds [] {args:=[.list (ns.map .int)]}=true:=by
   have h4:=(holds_andW hc).1
   rw[hn] at h4
   exact h4
  have h5:=condW_of h4 (w_not (w_lt w_lit (w_len_list (w_arg rfl))))
  rw[yB] at h5
  refine Nat.le_of_not_lt fun q=>?_
  have q':(n:Int)<((ns.length:Nat):Int):=by lia
  first
   |(rw[decide_eq_true q'] at h5;exact absurd h5 (by decide))
   |(simp at h5;lia)
 cases hwl with
 |cons w1 w2=>
  cases w2
  cases w1 with
  |list ho hall=>exact⟨_,_,ns,rfl,rfl,ho,zcF ns _ hall,hlen⟩
theorem zil(l:OpenLaw)(args:List WData):l.row.toRowW.claim.post args (.bool true) args=true:=
 postW_of (r:=l.row.toRowW) (X:=(true==true))
  (show WShape.has [] (.bool true) .bool=true by first|rfl|decide|simp[WShape.has,WShape.arms,WShape.armsAll])
  (show (WTm.eq .res (.lit (.bool true))).value [] {args:=args,res:=some (.bool true),after:=args}=some (.bool (true==true)) from w_eq_bool (w_res rfl) w_lit) rfl
theorem attach_call{l:OpenLaw}{n:Nat}{q:Program}{loose:List Str}{XP:(Str->Option Value)->Heap->Prop}{YP:World->Heap->Prop}{d:DefRec}
  (hn:l.most=some n) (hdf:d.params.defaults=[])
  (call:∀(w:World)(s₀ s₁:Shared)(mg mb:Str->Option Value)(fa:Addr)(o:Obj)(pm cd doc:Value)(a:Addr)(vs:List Value)(ns:List Int),
   Ground q loose [] XP w s₀ mg mb s₁.heap->YP w s₁.heap->
   s₁.heap.get? fa=some o->o.data=.func (docDef d.name d.params d.body d.scope pm cd doc)->s₁.heap.CodeRec cd d.name->mg d.name=some (.ref fa)->
   s₁.heap.get? a=some {cls:=.type "list",data:=.seq vs.toArray}->IntsAre vs ns->ns.length<=n->s₁.gens=#[]->
   codeAny (model l.prog w) callerA (.call (.ref fa) ⟨[.ref a],[]⟩) (fun r s'=>r=.ok (.ret (.bool true))/\OldK s₁.heap s'.heap/\s'.os=s₁.os/\AllBare s'.gens) s₁):
  WalkO q loose XP YP l.row.toRowW d [] (fun f vs=>PySem.call f vs):=by
 intro w s₀ s₁ mg mb G Y fa o pm cd doc dV kV ho hd hcd hD hmg hg args vals as hpre hlay hrd hwl hlo
 obtain rfl:dV=.none:=Dflts.none hD hdf
 obtain rfl:kV=.none:=Dflts.noKw hD
 obtain⟨a,vs,ns,rfl,rfl,hobj,hints,hlen⟩:=zik hn hpre hwl
 refine enter_call (codeAny_mono (call w s₀ s₁ mg mb fa o pm cd doc a vs ns G Y ho (fd_plain hd) hcd hmg hobj hints hlen hg) fun r s' hq=>?_)
 obtain⟨rfl,h2,h3,h4⟩:=hq
 exact⟨.inl ⟨.bool true,.bool true,[],rfl,fun _=>rfl,.bool true,zil l _,fun _=>⟨List.Pairwise.nil,fun _ hm=>(nomatch hm)⟩⟩,h2,h3,h4⟩
section
variable{prog:Program}{w:World}{A:Around}{E:Value->Shared->Prop}{s:Shared}{K:Frag}
noncomputable def ledger(h:Heap)(L d:Addr):List (Addr×Obj):=(wK h.objs.size).filterMap fun a=>if a=L\/a=d then none else (h.get? a).map fun o=>(a,o)
end
end Att
namespace L2
open PySem PySem.Spec PyProof.Rows
theorem zeU:∀{vs:List Value}{ns:List Int},IntsAre vs ns->Vals (ns.map V.int) vs
 |_,_,.nil=>.nil
 |_,_,.cons n t h=>.cons ⟨t,rfl⟩ (zeU h)
def Only(H:Hp):Prop:=∀b,H b=none\/∃o xs,H b=some (.frz o (.lst xs))
theorem zjS{P:Program}{w:World}{K:tP}{mg mb:Str->Option Value}{CX:CXT}{k:Nat}{fa a:Addr}{fd:tQ}{x:Str}{sp:Sp}{s₁:Shared}{vs:List Value}{ns:List Int}
  (KX:K.In s₁.heap) (hns:s₁.heap.Ns tE mg) (hb:s₁.heap.Ns builtinsNs mb) (hbb:∀x:Str,x≠"__name__"->mb x=tJ x) (hlim:s₁.heap.NoLimit) (hg:s₁.gens=#[])
  (ha:s₁.heap.get? a=some {cls:=.type "list",data:=.seq vs.toArray}) (hi:IntsAre vs ns) (hl:ns.length<=tF) (hr:Room k callerA)
  (F:∀base:Heap,K.In base->base.Ns tE mg->FnOk P w K mg base CX k fa fd [x] sp) (hbind:∀(s:Shared)(u:Value),BindsTo s fd ⟨[u],[]⟩ [(x,u)])
  (hsp:∀H:Hp,Only H->SqL K H a (ns.map V.int)->sp [.ref a] H (fun v _=>v=.bl true) fun _ _ _=>False)
  (hCX:∀H e s',CX [] H s₁ (fun _ _ _=>False) e s'->False):
  codeAny (model P w) callerA (.call (.ref fa) ⟨[.ref a],[]⟩) (fun r s'=>r=.ok (.ret (.bool true))/\OldK s₁.heap s'.heap/\s'.os=s₁.os/\AllBare s'.gens) s₁:=by
 have rv:=zeU hi
 have lenV:=hi.length
 have core:∀H:Hp,Only H->SqL K H a (ns.map V.int)->HOk P w H s₁.heap->(∀b,H b≠none->b=a)->(H a≠none->K.lookup a=none)->
   codeAny (model P w) callerA (.call (.ref fa) ⟨[.ref a],[]⟩) (fun r s'=>r=.ok (.ret (.bool true))/\OldK s₁.heap s'.heap/\s'.os=s₁.os/\AllBare s'.gens) s₁:=by
  intro H hO hS hok hA hK
  have base_of:∀{b:Addr}{o:Obj},s₁.heap.get? b=some o->H b=none->(hidT s₁.heap H).get? b=some o:=fun e n=>zjA e n
  have noA:∀{b:Addr}{o:Obj}{es:Array DictEntry}{ep:Nat},s₁.heap.get? b=some o->o.data=.dict es ep->H b=none:=fun {b o es ep} e d=>by
   cases q:H b with
   |none=>rfl
   |some u=>
    have e':b=a:=hA b (by rw[q];simp)
    subst e'
    rw[ha] at e;cases e
    have d':Data.seq vs.toArray _=Data.dict es ep:=d
    cases d'
  have nsK:∀{b:Addr}{m:Str->Option Value},s₁.heap.Ns b m->(hidT s₁.heap H).Ns b m:=fun {b m} ⟨o,es,ep,e,d,r⟩=>⟨o,es,ep,base_of e (noA e d),d,r⟩
  have hKb:K.In (hidT s₁.heap H):=fun b o e=>base_of (KX b o e) (by
   cases q:H b with
   |none=>rfl
   |some u=>
    have e':b=a:=hA b (by rw[q];simp)
    subst e'
    rw[hK (by rw[q];simp)] at e;cases e)
  have hM:Mod K mg (hidT s₁.heap H):=⟨hKb,nsK hns,⟨mb,nsK hb,hbb⟩,let ⟨mc,h1,h2⟩:=hlim;⟨mc,nsK h1,h2⟩⟩
  have e0:Env0 P w K mg (hidT s₁.heap H) callerA [] s₁ H:=⟨rfl,hM,fun b o e=>zlh e,Nat.le_of_eq (zhU _ _),trivial,fun b hb=>absurd (show b∈([]:List Addr) from hb) (by simp),hok,.of_eq hg⟩
  refine codeAny_mono ((F _ hKb (nsK hns)).run callerA [] s₁ H ⟨[.ref a],[]⟩ [.ref a] [.ref a] _ _ hr e0 (hbind s₁ (.ref a)) (.cons rfl .nil) (hsp H hO hS)) fun r s' h=>?_
  cases r with
  |error e=>exact (hCX H e s' h).elim
  |ok fl=>
   cases fl with
   |next=>exact False.elim h
   |brk=>exact False.elim h
   |cont=>exact False.elim h
   |ret u=>
    obtain⟨v,H',os,bare,un,hok',r',q⟩:=h
    have q':v=.bl true:=q
    subst q'
    obtain rfl:u=Value.bool true:=r'
    refine⟨rfl,OldK.of_keep fun b o e=>?_,os,bare⟩
    cases q:H b with
    |none=>exact un.keep b o e q (by intro z;exact absurd (show b∈([]:List Addr) from z) (by simp)) (by simp)
    |some u=>
     rcases hO b with z|⟨ob,xs,z⟩
     ·rw[q] at z;cases z
     ·have z2:=un.frzs b ob _ z
      obtain⟨e1,_⟩:=hok b _ z
      obtain⟨e2,_⟩:=hok' b _ z2
      rw[e] at e1;cases e1
      exact e2
 cases hk:K.lookup a with
 |some o=>
  have e:=KX a o hk
  rw[ha] at e
  cases e
  refine core (fun _=>none) (fun _=>.inl rfl) (.inr ⟨_,vs.toArray,_,hk,rfl,rfl,rfl,by rw[yG,lenV];exact hl,by simpa using rv⟩) (fun b u z=>by have z':(none:Option HO)=some u:=z;cases z') (fun b z=>absurd rfl z) fun z=>absurd rfl z
 |none=>
  refine core (fun b=>if b=a then some (.frz {cls:=.type "list",data:=.seq vs.toArray} (.lst (ns.map V.int))) else none) (fun b=>?_) (.inl (.inr ⟨{cls:=.type "list",data:=.seq vs.toArray},if_pos rfl⟩)) (fun b u z=>?_) (fun b z=>?_) fun _=>hk
  ·by_cases hb:b=a
   ·exact .inr ⟨_,_,if_pos hb⟩
   ·exact .inl (if_neg hb)
  ·by_cases hb:b=a
   ·have z':=(if_pos hb).symm.trans z
    cases z'
    subst hb
    exact⟨ha,by rw[yB];exact hl,vs,_,rv,ha⟩
   ·have z':=(if_neg hb).symm.trans z
    cases z'
  ·by_cases hb:b=a
   ·exact hb
   ·exact absurd (if_neg hb) z
abbrev KOf{K:tP}{h:Heap}(_:K.In h):tP:=K
theorem zlz{l:PySem.W.OpenLaw}{n k:Nat}{q:Program}{loose:List Str}{XP:(Str->Option Value)->Heap->Prop}{YP:World->Heap->Prop}{d:DefRec}{K:Params->tP}{CX:World->CXT}{sp:World->Sp}{x:Str}
  (hn:l.most=some n) (hn2:n<=tF) (hdf:d.params.defaults=[]) (hr:Room k callerA)
  (hY:∀(w:World)(h:Heap),YP w h->(K w.params).In h)
  (F:∀(w:World)(mg:Str->Option Value)(fa:Addr)(h:Heap),(K w.params).In h->h.Ns tE mg->mg d.name=some (.ref fa)->
   ∃fd:tQ,(∀(s:Shared)(u:Value),BindsTo s fd ⟨[u],[]⟩ [(x,u)]) /\
    ∀base:Heap,(K w.params).In base->base.Ns tE mg->FnOk l.prog w (K w.params) mg base (CX w) k fa fd [x] (sp w))
  (hsp:∀(w:World)(H:Hp)(a:Addr)(ns:List Int),ns.length<=n->Only H->SqL (K w.params) H a (ns.map V.int)->sp w [.ref a] H (fun v _=>v=.bl true) fun _ _ _=>False)
  (hCX:∀(w:World)(H:Hp)(s:Shared)(e:Value)(s':Shared),CX w [] H s (fun _ _ _=>False) e s'->False):
  PySem.W.WalkO q loose XP YP l.row.toRowW d [] (fun f vs=>PySem.call f vs):=by
 refine Att.attach_call hn hdf fun w s₀ s₁ mg mb fa o pm cd doc a vs ns G Y ho hd hcd hmg hobj hints hlen hg=>?_
 have KX:=hY w _ Y
 obtain⟨fd,hb,hF⟩:=F w mg fa _ KX G.T.g hmg
 exact zjS KX G.T.g G.T.b G.T.builtins G.T.nolimit hg hobj hints (yQ hlen hn2) hr hF hb (fun H hO hS=>hsp w H a ns hlen hO hS) fun H e s'=>hCX w H s₁ e s'
end L2
namespace L2
open PySem PySem.Spec PyProof.Rows
noncomputable def zaL(s:Stmt)(j:Nat):Stmt:=match s with
 |.ClassDef _ _ _ body _ _ _ _ _ _ _=>body.getD j (.Pass ⟨0,0,0,0⟩)
 |_=>.Pass ⟨0,0,0,0⟩
noncomputable def zU(s:Stmt):Arguments:=match s with
 |.FunctionDef _ a _ _ _ _ _ _ _ _=>a
 |_=>{posonlyargs:=[],args:=[],vararg:=none,kwonlyargs:=[],kw_defaults:=[],kwarg:=none,defaults:=[]}
noncomputable def zS(s:Stmt):List Stmt:=match s with
 |.FunctionDef _ _ b _ _ _ _ _ _ _=>b
 |_=>[]
noncomputable def zr(s:Stmt):Scope:=match s with
 |.FunctionDef _ _ _ _ _ _ sc _ _ _=>sc
 |_=>{kind:=.function,names:=[],isGenerator:=false,isCoroutine:=false}
abbrev CX0:CXT:=fun _ _ _ _ _ _=>False
abbrev E0:XK:=fun _ _ _=>False
theorem zfL{X:Cx}:Passes CX0 X E0:=fun _ _ _ _ _ _ _ h=>h.elim
structure Fun(K:tP)(x qual:Str)(st:Stmt)(f:Addr)(fd:tQ):Prop where
 ex:∃(oc:Value)(od:Option Addr)(kV doc pm:Value)(an:Option Addr)(cdv ct:Value)(osl:Array (Option Value)),
  fd=fnOf x qual (zU st) (zS st) (zr st) .none kV doc pm an cdv ct/\K.lookup f=some ⟨oc,od,.func fd,osl⟩/\codeIn K cdv qual=true
 kp:keepIn K (.ref f)=true
section
variable{P:Program}{w:World}{K:tP}{mg:Str->Option Value}{base:Heap}
theorem Fun.ok{x qual:Str}{st:Stmt}{f:Addr}{fd:tQ}{N ps:List Str}{k:Nat}{sp:Sp}(F:Fun K x qual st f fd)(S:FnScope N ps (zr st))(len:∀vs H Q E,sp vs H Q E->vs.length=ps.length)
  (hbody:∀(cdv:Value)(A:Around)(outer:List Env)(s:Shared)(H:Hp)(vs:List V)(Q:VK)(E:XK),Room k (A.deeper (envOfC qual (zr st) s.heap.objs.size f cdv))->sp vs H Q E->
   ∃t,PSs (cxOf CX0 P w K mg base N qual (zr st) f cdv A outer s H E).nox (zS st) t/\t {nx:=fun _ H'=>Q .non H',rt:=Q} (start N vs) H):FnOk P w K mg base CX0 (k+1) f fd ps sp:=by
 obtain⟨oc,od,kV,doc,pm,an,cdv,ct,osl,rfl,lk,hcd⟩:=F.ex
 refine zmH lk hcd S len fun A outer s H vs Q E hr hsp=>?_
 obtain⟨t,h,q⟩:=hbody cdv A outer s H vs Q E hr hsp
 exact⟨t,h.nox,q⟩
theorem Fun.binds{x qual:Str}{st:Stmt}{f:Addr}{fd:tQ}{ps:List Str}(F:Fun K x qual st f fd)
  (h:∀(kV doc pm:Value)(an:Option Addr)(cdv ct:Value)(us:List Value),us.length=ps.length->bindArgs (fnOf x qual (zU st) (zS st) (zr st) .none kV doc pm an cdv ct) ⟨us,[]⟩=pure (ps.zip us)):Binds K fd ps []:=by
 obtain⟨oc,od,kV,doc,pm,an,cdv,ct,osl,rfl,lk,hcd⟩:=F.ex
 exact .all (h kV doc pm an cdv ct)
theorem us_1{us:List Value}(h:us.length=1):∃x0,us=[x0]:=by
 match us,h with
 |[x0],_=>exact⟨x0,rfl⟩
theorem us_2{us:List Value}(h:us.length=2):∃x0 x1,us=[x0,x1]:=by
 match us,h with
 |[x0,x1],_=>exact⟨x0,x1,rfl⟩
theorem us_3{us:List Value}(h:us.length=3):∃x0 x1 x2,us=[x0,x1,x2]:=by
 match us,h with
 |[x0,x1,x2],_=>exact⟨x0,x1,x2,rfl⟩
theorem us_4{us:List Value}(h:us.length=4):∃x0 x1 x2 x3,us=[x0,x1,x2,x3]:=by
 match us,h with
 |[x0,x1,x2,x3],_=>exact⟨x0,x1,x2,x3,rfl⟩
theorem us_5{us:List Value}(h:us.length=5):∃x0 x1 x2 x3 x4,us=[x0,x1,x2,x3,x4]:=by
 match us,h with
 |[x0,x1,x2,x3,x4],_=>exact⟨x0,x1,x2,x3,x4,rfl⟩
theorem us_7{us:List Value}(h:us.length=7):∃x0 x1 x2 x3 x4 x5 x6,us=[x0,x1,x2,x3,x4,x5,x6]:=by
 match us,h with
 |[x0,x1,x2,x3,x4,x5,x6],_=>exact⟨x0,x1,x2,x3,x4,x5,x6,rfl⟩
theorem Fun.b1{x qual:Str}{st:Stmt}{f:Addr}{fd:tQ}{z0:Str}(F:Fun K x qual st f fd)(h:∀(kV doc pm:Value) (an:Option Addr) (cdv ct:Value) (x0:Value),bindArgs (fnOf x qual (zU st) (zS st) (zr st) .none kV doc pm an cdv ct) ⟨[x0],[]⟩=pure ([z0].zip [x0])):Binds K fd [z0] []:=F.binds fun a b c d e g us hl=>by obtain⟨x0,rfl⟩:=us_1 hl;exact h a b c d e g x0
theorem Fun.b2{x qual:Str}{st:Stmt}{f:Addr}{fd:tQ}{z0 z1:Str}(F:Fun K x qual st f fd)(h:∀(kV doc pm:Value) (an:Option Addr) (cdv ct:Value) (x0 x1:Value),bindArgs (fnOf x qual (zU st) (zS st) (zr st) .none kV doc pm an cdv ct) ⟨[x0,x1],[]⟩=pure ([z0,z1].zip [x0,x1])):Binds K fd [z0,z1] []:=F.binds fun a b c d e g us hl=>by obtain⟨x0,x1,rfl⟩:=us_2 hl;exact h a b c d e g x0 x1
theorem Fun.b3{x qual:Str}{st:Stmt}{f:Addr}{fd:tQ}{z0 z1 z2:Str}(F:Fun K x qual st f fd)(h:∀(kV doc pm:Value) (an:Option Addr) (cdv ct:Value) (x0 x1 x2:Value),bindArgs (fnOf x qual (zU st) (zS st) (zr st) .none kV doc pm an cdv ct) ⟨[x0,x1,x2],[]⟩=pure ([z0,z1,z2].zip [x0,x1,x2])):Binds K fd [z0,z1,z2] []:=F.binds fun a b c d e g us hl=>by obtain⟨x0,x1,x2,rfl⟩:=us_3 hl;exact h a b c d e g x0 x1 x2
theorem Fun.b4{x qual:Str}{st:Stmt}{f:Addr}{fd:tQ}{z0 z1 z2 z3:Str}(F:Fun K x qual st f fd)(h:∀(kV doc pm:Value) (an:Option Addr) (cdv ct:Value) (x0 x1 x2 x3:Value),bindArgs (fnOf x qual (zU st) (zS st) (zr st) .none kV doc pm an cdv ct) ⟨[x0,x1,x2,x3],[]⟩=pure ([z0,z1,z2,z3].zip [x0,x1,x2,x3])):Binds K fd [z0,z1,z2,z3] []:=F.binds fun a b c d e g us hl=>by obtain⟨x0,x1,x2,x3,rfl⟩:=us_4 hl;exact h a b c d e g x0 x1 x2 x3
theorem Fun.b5{x qual:Str}{st:Stmt}{f:Addr}{fd:tQ}{z0 z1 z2 z3 z4:Str}(F:Fun K x qual st f fd)(h:∀(kV doc pm:Value) (an:Option Addr) (cdv ct:Value) (x0 x1 x2 x3 x4:Value),bindArgs (fnOf x qual (zU st) (zS st) (zr st) .none kV doc pm an cdv ct) ⟨[x0,x1,x2,x3,x4],[]⟩=pure ([z0,z1,z2,z3,z4].zip [x0,x1,x2,x3,x4])):Binds K fd [z0,z1,z2,z3,z4] []:=F.binds fun a b c d e g us hl=>by obtain⟨x0,x1,x2,x3,x4,rfl⟩:=us_5 hl;exact h a b c d e g x0 x1 x2 x3 x4
theorem Fun.b7{x qual:Str}{st:Stmt}{f:Addr}{fd:tQ}{z0 z1 z2 z3 z4 z5 z6:Str}(F:Fun K x qual st f fd)(h:∀(kV doc pm:Value) (an:Option Addr) (cdv ct:Value) (x0 x1 x2 x3 x4 x5 x6:Value),bindArgs (fnOf x qual (zU st) (zS st) (zr st) .none kV doc pm an cdv ct) ⟨[x0,x1,x2,x3,x4,x5,x6],[]⟩=pure ([z0,z1,z2,z3,z4,z5,z6].zip [x0,x1,x2,x3,x4,x5,x6])):Binds K fd [z0,z1,z2,z3,z4,z5,z6] []:=F.binds fun a b c d e g us hl=>by obtain⟨x0,x1,x2,x3,x4,x5,x6,rfl⟩:=us_7 hl;exact h a b c d e g x0 x1 x2 x3 x4 x5 x6
theorem zbe{x qual:Str}{st:Stmt}{f:Addr}{oc:Value}{od an:Option Addr}{osl:Array (Option Value)}{kV doc pm cdv ct:Value}(l:K.lookup f=some ⟨oc,od,.func (fnOf x qual (zU st) (zS st) (zr st) .none kV doc pm an cdv ct),osl⟩)
  (c:codeIn K cdv qual=true) (k:keepIn K (.ref f)=true):Fun K x qual st f (fnOf x qual (zU st) (zS st) (zr st) .none kV doc pm an cdv ct):=⟨⟨oc,od,kV,doc,pm,an,cdv,ct,osl,rfl,l,c⟩,k⟩
end
theorem zmS{A:Around}{k:Nat}(hr:Room k A):A.units+1<cLine:=xS (Nat.add_le_add_left (by decide:1<=64) _) hr.units
theorem ZE{n:Nat}(h:n<=1000):n<tF:=xS h (by decide)
section
variable{X:Cx}
theorem pv(i:Nat){x:Str}{pos:Pos}(hN:X.N[i]?=some x:=by rfl)(hv:Vis X.env.scope x:=by first|exact Or.inl rfl|exact Or.inr (Or.inl rfl)|exact Or.inr (Or.inr rfl))(hd:(x==("__debug__":Str))=false:=by decide)
  (hcd:(x==("__classdict__":Str))=false:=by decide):PE X (.Name x pos) (tVar i):=zmA hN hv hd hcd
end
theorem iteF{A B:Prop}(h:B):if false=true then A else B:=by
 rw[if_neg yI]
 exact h
theorem iteT{A B:Prop}(h:A):if true=true then A else B:=by
 rw[if_pos rfl]
 exact h
theorem ite2{c A B:Prop}[Decidable c](h1:c->A)(h2:¬c->B):if c then A else B:=by
 by_cases h:c
 ·rw[if_pos h]
  exact h1 h
 ·rw[if_neg h]
  exact h2 h
def Same(H H':Hp):Prop:=∀b o,H b=some o->H' b=some o
theorem Sr(H:Hp):Same H H:=fun _ _ h=>h
theorem Same.trans{H H1 H2:Hp}(a:Same H H1)(b:Same H1 H2):Same H H2:=fun c o h=>b c o (a c o h)
theorem Same.free{H H':Hp}(e:Same H H'){l:Addr}(h:H' l=Option.none):H l=Option.none:=by
 cases q:H l with
 |none=>rfl
 |some o=>
  rw[e l o q] at h
  cases h
theorem Same.seq{K:tP}{H H':Hp}{a:Addr}{xs:List V}(e:Same H H')(h:SqL K H a xs):SqL K H' a xs:=by
 rcases h with (h|⟨o,h⟩)|h
 ·exact .inl (.inl (e _ _ h))
 ·exact .inl (.inr ⟨o,e _ _ h⟩)
 ·exact .inr h
section
variable{κ:Type}[DecidableEq κ]
end
theorem HOk.track{P:Program}{w:World}{H:Hp}{h:Heap}{a:Addr}{o:HO}(x:HOk P w H h)(hn:H a=none)(new:Zw P w (upd H a o) h a o):HOk P w (upd H a o) h:=fun b u e=>by
 by_cases hb:b=a
 ·subst hb;rw[zf] at e;cases e;exact new
 ·rw[zu hb] at e
  exact (x b u e).stay (fun c v _ q=>q) (fun c q=>by rw[zu (zm q hn)];exact q) fun c xs q=>by rw[zu (zm q hn)];exact q
theorem HOk.other{P:Program}{w:World}{H:Hp}{h h':Heap}{a:Addr}(x:HOk P w H h)(hn:H a=none)(hs:Heap.SameBut a h h'):HOk P w H h':=fun b u e=>
 (x b u e).stay (fun c v hc q=>(hs.2 c (by
  rintro rfl
  rcases hc with rfl|hc
  ·rw[hn] at e;cases e
  ·rw[hn] at hc;cases hc)).trans q) (fun _ q=>q) fun _ _ q=>q
section
variable{prog:Program}{w:World}{A:Around}{R:Result->Shared->Prop}{s:Shared}
theorem zcG{elt target iter:Expr}{ifs:List Expr}{scope:Scope}{pos:Pos}{it acc:Value}{env:Env}(I:Nat->Shared->Prop)
  (turn:∀n s,I n s->wpAny (model prog w) A (pyNext it) (fun r s₁=>match r with
   |none=>R (.ok .next) s₁
   |some v=>wpAny (model prog w) A (letOwnedTupleGo target it v) (fun _ s₀=>wpAny (model prog w) A (assign target env v) (fun _ s₂=>
     wpAny (model prog w) A (forIn ifs true fun c r=>if r=true then do let ok ←isTrue c env (eval c env);pure (ForInStep.yield ok) else pure (ForInStep.yield r)) (fun ok s₃=>
      if ok=true then wpAny (model prog w) A (eval elt env) (fun x s₄=>
       wpAny (model prog w) A (call (.builtin "list.append") [acc,x]) (fun _ s₅=>∃m,m<n/\I m s₅) (notedBy (model prog w) A env fun e s'=>R (.error e) s') s₄) (notedBy (model prog w) A env fun e s'=>R (.error e) s') s₃
      else ∃m,m<n/\I m s₃) (notedBy (model prog w) A env fun e s'=>R (.error e) s') s₂) (notedBy (model prog w) A env fun e s'=>R (.error e) s') s₀) (notedBy (model prog w) A env fun e s'=>R (.error e) s') s₁) (notedBy (model prog w) A env fun e s'=>R (.error e) s') s)
  (n:Nat) (h:I n s):codeAny (model prog w) A (.compLoop (.ListComp elt [⟨target,iter,ifs,0⟩] scope pos) 0 it acc env) R s:=by
 refine codeAny_loop rfl I (fun n s hI=>?_) n h
 show wpAny _ A ((compTurn (.ListComp elt [⟨target,iter,ifs,0⟩] scope pos) 0 it acc env).onRaise (fun x=>do noteFrame x env;theTreesLotGoes x)) _ _ s
 refine wpAny_noted ?_
 rw[compTurn_list]
 refine uV (wpAny_standAt (uV (wpAny_mono (turn n s hI) (fun r s₁ h₁=>?_) fun _ _ h'=>h')))
 cases r with
 |none=>exact uW h₁
 |some v=>
  refine uV (wpAny_mono h₁ (fun _ s₀ h₀=>?_) fun _ _ h'=>h')
  refine uV (wpAny_mono h₀ (fun _ s₂ h₂=>uV (wpAny_mono h₂ (fun ok s₃ h₃=>?_) fun _ _ h'=>h')) fun _ _ h'=>h')
  cases ok with
  |false=>exact uW ⟨rfl,h₃⟩
  |true=>
   exact uV (uV (wpAny_mono h₃ (fun x s₄ h₄=>uV (wpAny_mono h₄ (fun _ s₅ h₅=>uW (uW ⟨rfl,h₅⟩)) fun _ _ h'=>h')) fun _ _ h'=>h'))
end
noncomputable def zI(X:Cx)(scope:Scope)(cl:List (Str×Addr))(NY:List Str)(C:Addr)(s:Shared)(H:Hp)(fp:List Addr):Cx where
 prog:=X.prog
 w:=X.w
 K:=X.K
 mg:=X.mg
 base:=X.base
 A:=X.A
 N:=NY
 s₀:=s
 H₀:=H
 env:=compEnvC scope cl C X.env
 outer:=X.stack
 stack:=X.stack
 ex:=fp
 fn:=fun _=>false
 calm:=true
 pn:=[]
 xe:=notedBy (model X.prog X.w) X.A (compEnvC scope cl C X.env) fun e s'=>compPost (model X.prog X.w) X.A X.xe none (fun _ _=>False) .none C (.error e) s'
def ClOk:List (Str×Addr)->List (Str×Addr)->Prop
 |[],_=>True
 |p::r,cells=>cells.lookup p.1=some p.2/\ClOk r cells
theorem ClOk.mem:∀{cl cells:List (Str×Addr)},ClOk cl cells->∀{x:Str}{c:Addr},cl.lookup x=some c->cells.lookup x=some c
 |[],_,_,_,_,e=>by simp at e
 |(y,d)::r,cells,h,x,c,e=>by
  rw[vW] at e
  split at e
  ·rename_i q
   have q':x=y:=by simpa using q
   subst q'
   cases e
   exact h.1
  ·exact ClOk.mem h.2 e
def FrOk(X:Cx)(scope:Scope)(cl:List (Str×Addr)):List Nat->List Str->Prop
 |[],[]=>True
 |i::r,y::ys=>(X.N[i]?=some y/\scope.names.lookup y=some .free/\Vis X.env.scope y/\X.env.kindOf y≠some .local/\∃c,cl.lookup y=some c)/\FrOk X scope cl r ys
 |_,_=>False
def PIfs(X:Cx)(ifs:List Expr)(t:TT):Prop:=
 ∀(pins:List (Addr×Obj))(s:Shared)(σ:St)(H:Hp)(Q:Bool->Hp->Prop),Inv X pins σ H s->t σ H Q->
  wpAny (model X.prog X.w) X.A (forIn ifs true fun c r=>if r=true then do let ok ←isTrue c X.env (eval c X.env);pure (ForInStep.yield ok) else pure (ForInStep.yield r)) (TP X pins σ Q) X.xe s
theorem Zl{X:Cx}:PIfs X [] (fun _ H Q=>Q true H):=fun _ _ _ H _ I h=>wpAny_tests_nil ⟨H,I,h⟩
theorem zdP{X:Cx}{c:Expr}{t:TT}(h:PT X c t):PIfs X [c] t:=fun pins s σ H Q I q=>wpAny_tests_one (h pins s σ H Q I q)
noncomputable def frees(fr:List Nat)(σ:St):St:=fr.map fun k=>(σ[k]?).join
def zcH(fr:List Nat)(wi:TI)(tt:TT)(te:TE):TE:=fun σ H Q=>wi σ H fun J H1=>∃W:Nat->Nat->List V->Hp->Prop,(∃m,W 0 m [] H1)/\∀i m vs H,W i m vs H->vs.length<=tF /\
 ((J.stop i H/\∀D,H D=none->Q (.ref D) (upd H D (.lst vs))) \/
  (J.go i H/\∀v H',J.yld i H v H'->tt (some v::frees fr σ) H' fun b H2=>if b=true then te (some v::frees fr σ) H2 fun y H3=>∃m',m'<m/\W (i+1) m' (vs++[y]) H3 else ∃m',m'<m/\W (i+1) m' vs H2))
noncomputable def relF(env:Env)(p:Str×NameKind):Str×NameKind:=if (p.2==NameKind.free&&env.scope.kind==.function&&env.kindOf p.1==some .cell)=true then (p.1,NameKind.cell) else (p.1,p.2)
theorem zjT(env:Env)(p:Str×NameKind):(relF env p).1=p.1:=by unfold relF;split<;>rfl
theorem zbj{env:Env}:∀{names:List (Str×NameKind)}{x:Str},(names.map (relF env)).lookup x=(names.lookup x).map fun k=>(relF env (x,k)).2
 |[],_=>rfl
 |(n,k)::r,x=>by
  have ih:=@zbj env r x
  rw[yX]
  have e:relF env (n,k)=(n,(relF env (n,k)).2):=Prod.ext (zjT env (n,k)) rfl
  rw[e]
  cases hx:x==n with
  |true=>
   have q':x=n:=by simpa using hx
   subst q'
   simp only[vW,hx,wA]
  |false=>simp only[vW,hx];exact ih
theorem zap{env:Env}{names:List (Str×NameKind)}{x:Str}(h:names.lookup x=some .free):
  (names.map (relF env)).lookup x=some .cell\/(names.map (relF env)).lookup x=some .free:=by
 rw[zbj,h,wA]
 unfold relF
 split
 ·exact .inl rfl
 ·exact .inr rfl
theorem ZU{env:Env}{names:List (Str×NameKind)}{x:Str}(hn:∀y∈names,y.2≠.cell)(h:(names.map (relF env)).lookup x=some .cell\/(names.map (relF env)).lookup x=some .free):(x,NameKind.free)∈names:=by
 rw[zbj] at h
 cases q:names.lookup x with
 |none=>rw[q] at h;simp at h
 |some k=>
  rw[q] at h
  have hm:=PySem.mem_of_lookup q
  have hk:k=.free:=by
   unfold relF at h
   simp only[wA,Option.some.injEq] at h
   split at h
   ·rename_i c
    simp only[xF] at c
    simpa using c.1.1
   ·rcases h with h|h
    ·exact absurd h (hn _ hm)
    ·exact h
  rw[←hk]
  exact hm
theorem zcI{X:Cx}{scope:Scope}{cl:List (Str×Addr)}{σ:St}:∀{fr:List Nat}{ys:List Str},FrOk X scope cl fr ys->∀(j:Nat)(y:Str)(v:V),ys[j]?=some y->(frees fr σ)[j]?=some (some v)->
  ∃i:Nat,X.N[i]?=some y/\σ[i]?=some (some v)/\scope.names.lookup y=some .free/\Vis X.env.scope y/\X.env.kindOf y≠some .local/\∃c,cl.lookup y=some c
 |[],[],_,j,y,v,e,_=>by simp at e
 |[],_::_,h,_,_,_,_,_=>h.elim
 |_::_,[],h,_,_,_,_,_=>h.elim
 |i::r,z::ys,h,0,y,v,e1,e2=>by
  have e1':z=y:=by simpa using e1
  subst e1'
  have e2':(σ[i]?).join=some v:=by simpa [frees] using e2
  have:σ[i]?=some (some v):=by
   cases q:σ[i]? with
   |none=>rw[q] at e2';cases e2'
   |some o=>rw[q] at e2';cases o with
    |none=>cases e2'
    |some u=>cases e2';rfl
  exact⟨i,h.1.1,this,h.1.2.1,h.1.2.2.1,h.1.2.2.2.1,h.1.2.2.2.2⟩
 |i::r,z::ys,h,j+1,y,v,e1,e2=>zcI (fr:=r) (ys:=ys) h.2 j y v (by simpa using e1) (by simpa [frees] using e2)
theorem zcJ{X:Cx}{scope:Scope}{cl:List (Str×Addr)}{σ:St}:∀{fr:List Nat}{ys:List Str},FrOk X scope cl fr ys->(frees fr σ).length=ys.length
 |[],[],_=>rfl
 |[],_::_,h=>h.elim
 |_::_,[],h=>h.elim
 |i::r,z::ys,h=>by
  have:=zcJ (σ:=σ) (fr:=r) (ys:=ys) h.2
  simp only[frees,yX,yJ,yB] at *
  lia
theorem Zx{X:Cx}{elt iter:Expr}{x:Str}{px pos:Pos}{ifs:List Expr}{scope:Scope}{cl:List (Str×Addr)}(fr:List Nat)(ys:List Str){wi:TI}{tt:TT}{te:TE}
  (hc:X.calm=true) (hclos:closureFor scope X.env=pure cl) (hcell:∀y∈scope.names,y.2≠.cell) (hkind:scope.kind=.function) (hnames:∀y∈scope.names,y.2=.local->scope.names.lookup y.1=some .local)
  (hx:scope.names.lookup x=some .local) (hnd:(x::ys).Nodup) (hcl:ClOk cl X.env.cells) (hall:(scope.names.all fun y=>y.2 != .free||(cl.lookup y.1).isSome)=true) (hfr:FrOk X scope cl fr ys)
  (hi:PI X (.Name x px) iter wi)
  (hY:∀C s H fp,PIfs (zI X scope cl (x::ys) C s H fp) ifs tt/\PE (zI X scope cl (x::ys) C s H fp) elt te)
  (hs:∀v,foldedSetIterable iter X.env v=pure v:=by intro _;rfl):
  PE X (.ListComp elt [⟨.Name x px,iter,ifs,0⟩] scope pos) (zcH fr wi tt te):=by
 intro pins s σ H Q I h
 rw[eval_ListComp]
 refine wpAny_comprehension_free (use:=none) rfl hs hclos hkind hnames (wpAny_mono (hi pins s σ H _ I h) (fun v s1 h1=>wpAny_mono h1 (fun itv s2 h2=>?_) fun _ _ e=>e) fun _ _ e=>e)
 obtain⟨it,fp,tn,J,H2,rfl,I2,T,st2,f2,W,⟨m0,w0⟩,turn⟩:=h2
 refine tH (wpAny_newFunctionEnv hcell (by intro y hy;simp at hy) (fun h₁ hns₁ hsb₁=>?_) hkind)
 dsimp only at hns₁ hsb₁ ⊢
 generalize hP2:s2.heap.push {cls:=.type "list",dict:=none,data:=.seq ([]:List Value).toArray}=P2 at hns₁ hsb₁ ⊢
 have hC:P2.objs.size=s2.heap.objs.size+1:=by rw[←hP2,Heap.size_push]
 have hDC:s2.heap.objs.size≠P2.objs.size:=by rw[hC];exact yW (wN _)
 have hCle:s2.heap.objs.size<=P2.objs.size:=by rw[hC];exact vG _
 have below:∀b,b<s2.heap.objs.size->b≠P2.objs.size/\b≠s2.heap.objs.size:=fun b hb=>⟨by rw[hC];exact yW (wI hb),yW hb⟩
 have old:∀b o,s2.heap.get? b=some o->h₁.get? b=some o:=fun b o e=>hsb₁.extBut b o (below b (uY e)).1 (uX _ (hP2▸uX _ e))
 have hacc:h₁.get? s2.heap.objs.size=some {cls:=.type "list",data:=.seq ([]:List Value).toArray}:=hsb₁.extBut _ _ hDC (uX _ (hP2▸uZ _ rfl))
 have fpl:∀b∈fp,b<s2.heap.objs.size:=fun b hb=>by
  obtain⟨o,e,_⟩:=T.obj _ _ st2 b hb
  exact uY e
 have tlt:∀b o,H2 b=some o->b<s2.heap.objs.size:=fun b o e=>I2.hok.lt e
 generalize hCg:P2.objs.size=C at hns₁ hsb₁ hDC hCle below ⊢
 generalize hDg:s2.heap.objs.size=D at hDC below hacc fpl tlt ⊢
 have hDle:D<=C:=by rw[←hDg];exact hCle
 have cls:∀y c,cl.lookup y=some c->X.env.cells.lookup y=some c:=fun y c e=>hcl.mem e
 have clt:∀y c,cl.lookup y=some c->c<D:=fun y c e=>by
  obtain⟨v,q⟩:=I2.cell y c (cls y c e)
  rw[←hDg];exact q.lt
 have sub:∀b∈frs X.stack,b<D:=fun b hb=>by
  rcases yS.mp (I2.stkSub b hb) with e|hb
  ·rw[e,←hDg];exact I2.lt
  ·obtain⟨_,o,ho,_⟩:=I2.ok.funs.mem hb
   rw[←hDg];exact yO (uY ho) I2.sz
 obtain⟨YI,YE⟩:=hY C s2 H2 fp
 have Yok:(zI X scope cl (x::ys) C s2 H2 fp).Ok:=by
  refine⟨I2.ok.mod,hkind,I2.ok.glob,I2.ok.blt,hCle,?_,?_,?_,fun _=>I2.ok.hd hc,I2.ok.frames,.inl rfl,?_,I2.bs,yQ I2.ok.bsz I2.sz,?_,?_,I2.stack,I2.stkFree⟩
  ·exact fun y z c e1 e2=>I2.ok.inj y z c (cls y c e1) (cls z c e2)
  ·intro y hy
   have hm:=ZU (env:=X.env) (names:=scope.names) (x:=y) hcell hy
   have q:=xT.mp hall _ hm
   show ∃c,cl.lookup y=some c
   exact xW.mp (by simpa using q)
  ·intro y c hf _
   exact absurd hf (by show ¬false=true;decide)
  ·intro b hb
   refine⟨(below b (fpl b hb)).1,fun y c e z=>?_⟩
   exact (f2 b hb).2.2.2.2.1 y c (cls y c e) z
  ·intro b o e hb
   have hb:b∈fp:=hb
   rcases (f2 b hb).2.2.2.1 with z|z
   ·exact I2.ok.noex b o e z
   ·exact absurd (yO (uY e) (yQ I2.ok.bsz z)) (xB _)
  ·intro b hb hf
   have hb:b∈fp:=hb
   rcases yS.mp (I2.stkSub b hf) with e|hf
   ·exact (f2 b hb).2.1 e
   ·exact (f2 b hb).2.2.1 hf
 have hvis:Loc (zI X scope cl (x::ys) C s2 H2 fp).env.scope x:=.inl (lookup_relabel_local hx)
 have start:∀tk,Inv (zI X scope cl (x::ys) C s2 H2 fp) [] (none::frees fr σ) H2 {s2 with heap:=h₁,toks:=tk}:=fun tk=>by
  refine⟨Yok,rfl,I2.bare,Un.kept old,⟨_,hns₁,fun i y v e1 e2 e3=>?_⟩,fun y c e=>?_,?_,fun y c e=>?_,fun p hp=>absurd (show p∈([]:List (Addr×Obj)) from hp) (by simp),I2.hok.kept old,?_⟩
  ·cases i with
   |zero=>simp at e2
   |succ j=>
    obtain⟨i',n1,n2,n3,n4,n5,c,n6⟩:=zcI hfr j y v (by simpa [zI] using e1) (by simpa using e2)
    obtain⟨m,hn,hl⟩:=I2.loc
    obtain⟨u,r,l⟩:=hl i' y v n1 n2 n4
    refine⟨u,r,.inr ⟨zap n3,c,n6,?_⟩⟩
    rcases l with⟨k,_⟩|⟨k,c',e,z⟩
    ·exact absurd k n5
    ·rw[cls y c n6] at e
     cases e
     obtain⟨o,ho,hd⟩:=z
     exact⟨o,old _ _ ho,hd⟩
  ·obtain⟨v,o,ho,hd⟩:=I2.cell y c (cls y c e)
   exact⟨v,o,old _ _ ho,hd⟩
  ·show H2 C=none
   cases q:H2 C with
   |none=>rfl
   |some o=>exact absurd (tlt C o q) (Nat.not_lt.mpr hDle)
  ·exact I2.freeC y c (cls y c e)
  ·show (none::frees fr σ).length=(x::ys).length
   rw[yJ,yJ,zcJ hfr]
 have fpY:∀{pl:List (Addr×Obj)}{H':Hp},(∀b∈fp,H' b=none)->(∀p∈pl,p.1=D)->∀b∈fp,FpOk (zI X scope cl (x::ys) C s2 H2 fp) pl H' b:=fun {pl H'} hn hpl b hb=>by
  refine⟨hn b hb,(below b (fpl b hb)).1,Yok.exfs b hb,.inl hb,fun y c e z=>(f2 b hb).2.2.2.2.1 y c (cls y c e) z,fun p hp=>?_⟩
  have hp:p∈[]++pl:=hp
  rw[vJ] at hp
  rw[hpl p hp]
  exact (below b (fpl b hb)).2.symm
 have loop:∀s₃:Shared,(∃tk,s₃={s2 with heap:=h₁,toks:=tk})->
   codeAny (model X.prog X.w) X.A (.compLoop (.ListComp elt [⟨.Name x px,iter,ifs,0⟩] scope pos) 0 (.ref it) (.ref D) (compEnvC scope cl C X.env))
    (compPost (model X.prog X.w) X.A X.xe none (EP X pins σ Q) (.ref D) C) s₃:=by
  rintro s₃ ⟨tk,rfl⟩
  refine zcG
   (fun k s'=>∃i vs ws nn H',Inv (zI X scope cl (x::ys) C s2 H2 fp) [] (none::frees fr σ) H' s'/\tn i s'.heap/\(∀b∈fp,H' b=none)/\H' D=none /\
    s'.heap.get? D=some {cls:=.type "list",data:=.seq (ws:List Value).toArray nn}/\Vals vs ws/\W i k vs H') ?_ m0
   ⟨0,[],[],0,H2,start tk,T.keep _ _ _ st2 fun b _ o e=>old b o e,fun b hb=>(f2 b hb).1,?_,hacc,.nil,w0⟩
  ·rintro n s3 ⟨i,vs,ws,nn,H3,I3,st3,fr3,hD3,ho3,rv3,w3⟩
   have I3':Inv (zI X scope cl (x::ys) C s2 H2 fp) [(D,{cls:=.type "list",data:=.seq ws.toArray nn})] (none::frees fr σ) H3 s3:=I3.pins_of fun p hp=>by
    have e:p=(D,{cls:=.type "list",data:=.seq ws.toArray nn}):=by simpa using hp
    subst e
    refine⟨ho3,hD3,hDC,fun z=>absurd (sub D z) (xB _),fun v z=>?_⟩
    have z':Data.seq ws.toArray nn=Data.cell v:=z
    cases z'
   have fp3:=fpY (pl:=[(D,{cls:=.type "list",data:=.seq ws.toArray nn})]) fr3 (fun p hp=>by rw[yM.mp hp])
   obtain⟨hsz,alt⟩:=turn i n vs H3 w3
   rcases alt with⟨stop,fin⟩|⟨go,step⟩
   ·refine thn (T.done (zI X scope cl (x::ys) C s2 H2 fp) rfl rfl rfl rfl i _ s3 _ H3 _ I3' fp3 st3 stop) fun r s4 ⟨hr,I4⟩=>?_
    subst hr
    have pD:=I4.pin (D,{cls:=.type "list",data:=.seq ws.toArray nn}) (by show _∈[]++_;simp)
    obtain⟨m4,hn4,_⟩:=I4.loc
    refine⟨m4,hn4,fun h' hs'=>?_⟩
    have hC4:H3 C=none:=I4.free
    have hok':HOk X.prog X.w (upd H3 D (.lst vs)) h':=by
     refine HOk.track (I4.hok.other hC4 hs') hD3 ⟨hsz,ws,nn,rv3,(hs'.2 D hDC).trans pD.1⟩
    have b4:=I4.base
    have un:Un (frs X.stack) fp H2 (upd H3 D (.lst vs)) s2.heap h':=by
     have lt:∀b o,s2.heap.get? b=some o->b<D:=fun b o e=>by rw[←hDg];exact uY e
     refine⟨fun b o e n hb hx=>(hs'.2 b (below b (lt b o e)).1).trans (b4.keep b o e n hb hx),fun b o e n hb hx=>?_,fun b o e n hx=>?_,fun b o e hx=>?_,fun b zs e=>?_,fun b o u e=>?_,fun b ps e=>?_⟩
     ·obtain⟨sl,q⟩:=b4.slot b o e n hb hx
      exact⟨sl,(hs'.2 b (below b (lt b o e)).1).trans q⟩
     ·rw[zu (below b (lt b o e)).2];exact b4.free b o e n hx
     ·obtain⟨o',q⟩:=b4.there b o e hx
      exact⟨o',(hs'.2 b (below b (lt b o e)).1).trans q⟩
     ·rw[zu (below b (tlt b _ e)).2];exact b4.tups b zs e
     ·rw[zu (below b (tlt b _ e)).2];exact b4.frzs b o u e
     ·rw[zu (below b (tlt b _ e)).2];exact b4.tbls b ps e
    refine⟨.ref D,upd H3 D (.lst vs),?_,rfl,fin D hD3⟩
    exact I2.call' (s':={s4 with heap:=h'}) (ch:=fp) I4.os un hok' I4.bare fun b hb=>⟨(f2 b hb).2.2.2.1,(f2 b hb).2.1,(f2 b hb).2.2.2.2.1,(f2 b hb).2.2.2.2.2⟩
   ·refine thn (T.item (zI X scope cl (x::ys) C s2 H2 fp) rfl rfl rfl rfl i _ s3 _ H3 _ I3' fp3 st3 go) fun r s4 ⟨u,hr,h4⟩=>?_
    subst hr
    refine thn h4 fun _ s5 ⟨v,H5,I5,r5,y5,st5,fr5⟩=>?_
    have fp5:=fpY (pl:=[(D,{cls:=.type "list",data:=.seq ws.toArray nn})]) fr5 (fun p hp=>by rw[yM.mp hp])
    have I5':=I5.pinned fp5 (T.obj _ _ st5)
    refine thn (zR (X:=zI X scope cl (x::ys) C s2 H2 fp) (i:=0) (pos:=px) hnd rfl hvis (.inr (lookup_relabel_local hx)) _ s5 _ H5 v u (fun σ' H'=>σ'=some v::frees fr σ/\H'=H5) I5' r5 ⟨rfl,rfl⟩) fun _ s6 ⟨σ6,H6,I6,e6,e6'⟩=>?_
    subst e6 e6'
    refine thn (YI _ s6 _ _ _ I6 (step v H6 y5)) fun b s7 ⟨H7,I7,q7⟩=>?_
    have back:∀{H8:Hp}{s8:Shared},Inv (zI X scope cl (x::ys) C s2 H2 fp) ([(D,{cls:=.type "list",data:=.seq ws.toArray nn})]++zcx fp s5.heap) (some v::frees fr σ) H8 s8->
      s8.heap.get? D=some {cls:=.type "list",data:=.seq ws.toArray nn}/\H8 D=none/\(∀b∈fp,H8 b=none)/\(∀b∈fp,∀o,s5.heap.get? b=some o->s8.heap.get? b=some o):=fun {H8 s8} I8=>by
     have pD:=I8.pin (D,{cls:=.type "list",data:=.seq ws.toArray nn}) (by show _∈[]++_;simp)
     refine⟨pD.1,pD.2.1,fun b hb=>?_,fun b hb o e=>?_⟩
     ·obtain⟨o,e,d⟩:=T.obj _ _ st5 b hb
      exact (I8.pin (b,o) (yR _ (yR _ (ZM hb e)))).2.1
     ·exact (I8.pin (b,o) (yR _ (yR _ (ZM hb e)))).1
    have weak:∀{H8:Hp}{s8:Shared},Inv (zI X scope cl (x::ys) C s2 H2 fp) [] (some v::frees fr σ) H8 s8->Inv (zI X scope cl (x::ys) C s2 H2 fp) [] (none::frees fr σ) H8 s8:=fun {H8 s8} I8=>
     I8.weak rfl fun i v' e=>by
      cases i with
      |zero=>simp at e
      |succ j=>simpa using e
    have nopin:∀{H8:Hp}{s8:Shared}{pl:List (Addr×Obj)},Inv (zI X scope cl (x::ys) C s2 H2 fp) pl (some v::frees fr σ) H8 s8->Inv (zI X scope cl (x::ys) C s2 H2 fp) [] (some v::frees fr σ) H8 s8:=fun {H8 s8 pl} I8=>
     I8.pins_of fun p hp=>absurd hp (by simp)
    cases b with
    |false=>
     rw[if_neg yI] at q7 ⊢
     obtain⟨m',hm,w7⟩:=q7
     obtain⟨k1,k2,k3,k4⟩:=back I7
     exact⟨m',hm,i+1,vs,ws,nn,H7,weak (nopin I7),T.keep _ _ _ st5 k4,k3,k2,k1,rv3,w7⟩
    |true=>
     rw[if_pos rfl] at q7 ⊢
     refine thn (YE _ s7 _ _ _ I7 q7) fun u8 s8 ⟨y8,H8,I8,r8,m',hm,w8⟩=>?_
     obtain⟨k1,k2,k3,k4⟩:=back I8
     refine append_at (hsz:=by rw[yG,←rv3.length];exact hsz) k1 fun h9 hs9 ho9=>?_
     have I9:Inv (zI X scope cl (x::ys) C s2 H2 fp) [] (some v::frees fr σ) H8 {s8 with heap:=h9}:=
      (nopin I8).turned (t':=s8.toks) (it:=D) (fun b o hb e=>(hs9.2 b hb).trans e) k2 hDC (.inr (by rw[←hDg];exact yE _)) (fun y c e=>yW (clt y c e)) fun p hp=>absurd (show p∈([]:List (Addr×Obj)) from hp) (by simp)
     refine⟨m',hm,i+1,vs++[y8],ws++[u8],nn+1,H8,weak I9,?_,k3,k2,?_,rv3.append (.cons r8 .nil),w8⟩
     ·refine T.keep _ _ _ st5 fun b hb o e=>?_
      exact (hs9.2 b (below b (fpl b hb)).2).trans (k4 b hb o e)
     ·rw[ho9,vS]
  ·cases q:H2 D with
   |none=>rfl
   |some o=>exact absurd (tlt D o q) (xB _)
 exact codeAny_compStart_list (loop _ ⟨_,rfl⟩) (T.self _ 0 _ _ _ (T.keep _ _ _ st2 fun b _ o e=>old b o e) (loop _ ⟨_,rfl⟩))
def Have(P:Program)(w:World)(K:tP)(mg:Str->Option Value)(base:Heap)(x:Str)(k:Nat)(ps:List Str)(sp:Sp):Prop:=
 ∃(f:Addr)(fd:tQ),FnOk P w K mg base CX0 k f fd ps sp/\Binds K fd ps []/\keepIn K (.ref f)=true/\mg x=some (.ref f)
theorem Have.mono{P:Program}{w:World}{K:tP}{mg:Str->Option Value}{base:Heap}{x:Str}{j k:Nat}{ps:List Str}{sp:Sp}(h:Have P w K mg base x j ps sp)(e:j<=k):Have P w K mg base x k ps sp:=
 let ⟨f,fd,F,r⟩:=h;⟨f,fd,F.mono e,r⟩
theorem Have.up{P:Program}{w:World}{K:tP}{mg:Str->Option Value}{base:Heap}{j k:Nat}{ps:List Str}{sp:Sp}{x:Str}(h:Have P w K mg base x j ps sp)(e:uT j k=true):Have P w K mg base x k ps sp:=h.mono (xY e)
section
variable{X:Cx}{x:Str}{k:Nat}{ps:List Str}{sp:Sp}{e:Expr}{es:List Expr}{t:TA}{p pos:Pos}
theorem zy(G:Have X.prog X.w X.K X.mg X.base x k ps sp)(hr:Room k X.A)(hg:Gl X x)(ha:PA X (e::es) t)(hdb:(x==("__debug__":Str))=false:=by decide)
  (he:tI (e::es) X.env=(false,eval e X.env)::tI es X.env:=by rfl) (hpl:(backTo pos (tI es X.env)).any (·.1)=false:=by rfl):
  PE X (.Call (.Name x p) (e::es) [] pos) (zh7 sp [] E0 t):=by
 obtain⟨f,fd,F,b,kp,m⟩:=G
 exact zls F hr hg m kp b .nil zfL ha hdb he hpl
end
section
variable{X:Cx}
def znD(i j:Int):Prop:=0<j/\j.natAbs.log2<9000
theorem zjU:OpR X (binaryOp .FloorDiv) (rI znD fun i j=>.int (i / j)):=opI fun i j _ _ _ _ _ hc q=>by
 have h1:(0:Int)<j:=hc.1
 exact floordiv_int (by lia) (by rw[Int.fdiv_eq_ediv_of_nonneg i (by lia)];exact q) (.inl (PyProof.noPylong_of_log2 hc.2))
noncomputable def zbz:List String:=["NoneType","bool","int","str","list","tuple","dict"]
noncomputable def isi(A T:String):Option Bool:=if zbz.contains A&&zbz.contains T then some (A==T||(A=="bool"&&T=="int")) else none
theorem zim{A:String}(h:zbz.contains A=true):A="NoneType"\/A="bool"\/A="int"\/A="str"\/A="list"\/A="tuple"\/A="dict":=by
 have:A∈zbz:=by simpa using h
 simpa [zbz] using this
theorem zin{K:tP}{A T:String}{b:Bool}(h:isi A T=some b):PySem.W.kitOne K (.type A) (.type T)=some b:=by
 unfold isi at h
 split at h
 ·rename_i c
  rw[xF] at c
  cases h
  rcases zim c.1 with rfl|rfl|rfl|rfl|rfl|rfl|rfl<;>rcases zim c.2 with rfl|rfl|rfl|rfl|rfl|rfl|rfl<;>kernel_rfl
 ·cases h
theorem Zy:zaV X (.builtin "isinstance") (fun xs H Q=>∃v T A b,xs=[v,.ty T]/\TyOf X.K H v (.type A)/\isi A T=some b/\Q (.bl b) H):=by
 intro pins s σ H xs us Q I r h
 obtain⟨v,T,A,b,rfl,ty,e,q⟩:=h
 obtain⟨u,c,rfl,ru,rc⟩:=zhb r
 cases (show c=Value.type T from rc)
 exact zh6 I ru ty (zin e) fun tk=>⟨.bl b,H,I.tok tk,rfl,q⟩
theorem zfM{A:Around}{P:Program}{w:World}{xs:List Bool}{its:List Value}(r:Vals (xs.map V.bl) its):TruthOf P w A (fun i v=>its.toArray[i]?=some v) (fun i=>xs.getD i true):=by
 intro i v s Q E hv h
 have hv':its[i]?=some v:=by simpa using hv
 have hl:=r.length
 rw[yB] at hl
 have hi:i<xs.length:=by rw[hl];exact (yC.mp hv').1
 obtain⟨u,hu,ru⟩:=r.get (i:=i) (x:=V.bl xs[i]) (by rw[yF,yA hi];rfl)
 rw[hv'] at hu
 cases hu
 cases ru
 refine wpAny_truthy_bool ?_
 have e:xs.getD i true=xs[i]:=by rw[yU,yA hi];rfl
 have h:Q (xs.getD i true) s:=h
 rw[e] at h
 exact h
theorem zio(xs:List Bool):(wK xs.length).all (fun i=>xs.getD i true)=xs.all id:=by
 rw[xG,xT,xT]
 constructor
 ·intro h x hx
  obtain⟨i,hi,rfl⟩:=wL.mp hx
  have:=h i (uH.mpr hi)
  rw[yU,yA hi] at this
  exact this
 ·intro h i hi
  have hi:=uH.mp hi
  rw[yU,yA hi]
  exact h _ (xA hi)
theorem zbf(hc:X.calm=true):zaV X (.builtin "all") (fun xs H Q=>∃(p:Addr)(bs:List Bool),xs=[.ref p]/\SqL X.K H p (bs.map V.bl)/\Q (.bl (bs.all id)) H):=by
 intro pins s σ H xs us Q I r h
 obtain⟨p,bs,rfl,hq,q⟩:=h
 obtain⟨u,rfl,rx⟩:=zcd r
 cases rx
 obtain⟨its,r',pl,hz⟩:=I.list hq
 have hl:=pl.isList
 obtain⟨o,ho,_⟩:=id hl
 have hlt:=uY ho
 refine call_all_walk (wpAny_pyIter_list hl ?_)
 refine⟨_,_,_,_,_,_,fun i=>bs.getD i true,rfl,Walks.list (A:=X.A.in1) (I.ok.hd hc) s.heap.objs.size p (yW hlt) its.toArray,⟨⟨_,uZ _ rfl,rfl,rfl⟩,hl.push _⟩,zfM r',fun h' tk hk=>?_⟩
 have e:(wK its.toArray.size).all (fun i=>bs.getD i true)=bs.all id:=by
  have hl2:=r'.length
  rw[yB] at hl2
  rw[yG,←hl2]
  exact zio bs
 rw[e]
 refine⟨.bl (bs.all id),H,I.kept (h':=h') (t':=tk) fun b o e=>?_,rfl,q⟩
 exact hk b o (fun hm=>absurd (uY e) (by rw[yM.mp hm];exact xB _)) (uX _ e)
end
section
variable{prog:Program}{w:World}{A:Around}{R:Result->Shared->Prop}{I l:Addr}{vs:List Value}{ns:List Int}{d:Value}
end
noncomputable def Its(z:Str):It:=⟨fun i _=>i<z.cps.size,fun i H x H'=>H'=H/\∃c,z.cps[i]?=some c/\x=.str ⟨#[c]⟩,fun i _=>i=z.cps.size⟩
theorem zjV{P:Program}{w:World}{K:tP}{tg:Expr}{it:Addr}{T:String}{z:Str}{t:Tok}
  (W:∀A:Around,A.handled=none->Walks P w A it [it] [it] z.cps.size (SignAt z) (fun i h=>h.IsStrIter it T z t i))
  (hT:["enumerate","zip","dict_itemiterator","dict_reverseitemiterator","odict_iterator","itertools.zip_longest","itertools.pairwise"].contains T=false)
  (self:∀(A:Around)(i:Nat)(s:Shared)(Q:Value->Shared->Prop)(E:Value->Shared->Prop),s.heap.IsStrIter it T z t i->Q (.ref it) s->wpAny (model P w) A (pyIter (.ref it)) Q E s):
  Turn P w K tg (Its z) [it] it (fun i h=>h.IsStrIter it T z t i) where
 mem:=by simp
 obj:=fun i h st b hb=>by
  have e:b=it:=by simpa using hb
  subst e
  obtain⟨o,e,c,d⟩:=st
  exact⟨o,e,fun v z=>by rw[d] at z;cases z⟩
 keep:=fun i h h' st k=>by
  obtain⟨o,e,c⟩:=st
  exact⟨o,k it (by simp) o e,c⟩
 item:=by
  intro X hP hw hK hc i pins s σ H E I hf st hg
  subst hP hw hK
  obtain⟨f0,f1,f2,f3,f4,f5⟩:=hf it (by simp)
  refine (W X.A (I.ok.hd hc)).item i s _ _ hg st fun v h' tk hP st' kk=>?_
  obtain⟨c,u,hcu,rfl⟩:=hP
  have I1:Inv X pins σ H {s with heap:=h',toks:=tk}:=I.turned (fun b o hb e=>kk b o (by simpa using hb) e) f0 f1 f3 f4 f5
  obtain⟨o,e,cc,d⟩:=id st'
  exact⟨_,rfl,zjB (s:={s with heap:=h',toks:=tk}) e cc d hT ⟨.str ⟨#[c]⟩,H,I1,⟨u,rfl⟩,⟨rfl,c,hcu,rfl⟩,st',fun b hb=>(hf b hb).1⟩⟩
 done:=by
  intro X hP hw hK hc i pins s σ H E I hf st hg
  subst hP hw hK
  obtain⟨f0,f1,f2,f3,f4,f5⟩:=hf it (by simp)
  have hg:i=z.cps.size:=hg
  subst hg
  exact (W X.A (I.ok.hd hc)).done s _ _ st fun h' tk kk=>⟨rfl,I.turned (fun b o hb e=>kk b o (by simpa using hb) e) f0 f1 f3 f4 f5⟩
 self:=fun A i s Q E st h=>self A i s Q E st h
def iStr(te:TE):TI:=fun σ H R=>te σ H fun x H1=>∃z,x=.str z/\R (Its z) H1
theorem zmT{X:Cx}{tg e:Expr}{te:TE}(he:PE X e te):PI X tg e (iStr te):=by
 intro pins s σ H R I h
 refine thn (he pins s σ H _ I h) fun v s1 ⟨x,H1,I1,r1,q1⟩=>?_
 obtain⟨z,rfl,q⟩:=q1
 obtain⟨t,rfl⟩:=r1
 have fin:∀(T:String),(∀A:Around,A.handled=none->Walks X.prog X.w A s1.heap.objs.size [s1.heap.objs.size] [s1.heap.objs.size] z.cps.size (SignAt z) (fun i h=>h.IsStrIter s1.heap.objs.size T z t i))->
   ["enumerate","zip","dict_itemiterator","dict_reverseitemiterator","odict_iterator","itertools.zip_longest","itertools.pairwise"].contains T=false->
   (∀(A:Around)(i:Nat)(s:Shared)(Q:Value->Shared->Prop)(E:Value->Shared->Prop),s.heap.IsStrIter s1.heap.objs.size T z t i->Q (.ref s1.heap.objs.size) s->wpAny (model X.prog X.w) A (pyIter (.ref s1.heap.objs.size)) Q E s)->
   PIE X pins σ tg R (.ref s1.heap.objs.size) {s1 with heap:=s1.heap.push {cls:=.type T,data:=.fields #[.str z t,.int 0 0]}}:=fun T W hT self=>by
  refine⟨s1.heap.objs.size,[s1.heap.objs.size],_,_,H1,rfl,I1.kept (t':=s1.toks) fun b o e=>uX _ e,zjV W hT self,⟨_,uZ _ rfl,rfl,rfl⟩,fun b hb=>?_,q⟩
  have e:b=s1.heap.objs.size:=by simpa using hb
  subst e
  exact I1.fpOk (yE _) (I1.hok.fresh (yE _))
 cases ha:z.cps.all (· < 128)
 ·exact wpAny_pyIter_wide ha (fin "str_iterator" (fun A hA=>Walks.strWide hA _ z t) (by decide) fun A i s Q E st h=>wpAny_pyIter_striter_wide st h)
 ·exact wpAny_pyIter_ascii ha (fin "str_ascii_iterator" (fun A hA=>Walks.strAscii hA _ z t) (by decide) fun A i s Q E st h=>wpAny_pyIter_striter_ascii st h)
theorem zeV{X:Cx}:OpR X (tK .LtE) (fun x y H Q=>∃i j:Str,x=.str i/\y=.str j/\Q (.bl (!decide (j.cps.toList<i.cps.toList))) H):=by
 intro pins s σ H x y v u Q I rx ry h
 obtain⟨i,j,rfl,rfl,q⟩:=h
 obtain⟨t,rfl⟩:=rx
 obtain⟨t',rfl⟩:=ry
 exact PySem.P.le_str ⟨.bl _,H,I,rfl,q⟩
theorem zah{X:Cx}{x:Str}{i:Int}{pos:Pos}(hg:Gl X x)(hm:∃t,X.mg x=some (.int i t))(hd:(x==("__debug__":Str))=false:=by decide):PE X (.Name x pos) (tC (.int i)):=by
 obtain⟨t,hm⟩:=hm
 exact Zd hg hm ⟨t,rfl⟩ hd
theorem znE{X:Cx}{op:Operator}{r:R2}(h:OpR X (inplaceOp op) r):PIp X op r:=fun pins s σ H x y v u Q I rx ry q=>h pins s σ H x y v u Q I rx ry q
theorem zaM{X:Cx}{x:Str}{T:String}{pos:Pos}(hg:Gl X x)(hm:X.mg x=none)(hv:tJ x=some (.type T))(hn:x≠"__name__":=by decide)(hd:(x==("__debug__":Str))=false:=by decide):PE X (.Name x pos) (tC (.ty T)):=zlj hg hm hv rfl hn hd
theorem Sn{H:Hp}{p:Addr}{o:HO}(h:H p=none):Same H (upd H p o):=fun b u q=>by rw[zu (zm q h)];exact q
theorem Same.seqT{K:tP}{H H':Hp}{a:Addr}{xs:List V}(e:Same H H')(h:SqT K H a xs):SqT K H' a xs:=by
 rcases h with (h|⟨o,h⟩)|h
 ·exact .inl (.inl (e _ _ h))
 ·exact .inl (.inr ⟨o,e _ _ h⟩)
 ·exact .inr h
theorem Zg{α:Type}{xs:List α}{i:Nat}{x:α}(h:xs[i]?=some x):xs.take (i+1)=xs.take i++[x]:=by
 rw[List.take_add_one,h];rfl
theorem zlA{fr:List Nat}{j:Nat}{te:TE}{σ:St}{H:Hp}{Q:VK}{z:Str}(outs:List V)(hσ:σ[j]?=some (some (.str z)))(hl:outs.length=z.cps.size)(hz:z.cps.size<=tF)
  (step:∀(i c:Nat)(y:V)(H1:Hp)(R:VK),z.cps[i]?=some c->outs[i]?=some y->Same H H1->(∀H2,Same H1 H2->R y H2)->te (some (.str ⟨#[c]⟩)::frees fr σ) H1 R)
  (fin:∀(H1:Hp)(D:Addr),Same H H1->H1 D=none->Q (.ref D) (upd H1 D (.lst outs))):zcH fr (iStr (tVar j)) (fun _ H Q=>Q true H) te σ H Q:=by
 refine⟨_,hσ,z,rfl,fun i m us H1=>i<=z.cps.size/\m=z.cps.size-i/\us=outs.take i/\Same H H1,⟨_,yN _,rfl,by simp,Sr _⟩,fun i m us H1 hW=>?_⟩
 obtain⟨hi,hm,hu,sm⟩:=hW
 refine⟨by rw[hu,yP];lia,?_⟩
 by_cases hlt:i<z.cps.size
 ·refine .inr ⟨hlt,fun v H' hy=>?_⟩
  obtain⟨rfl,c,hc,rfl⟩:=hy
  have hy:outs[i]?=some outs[i]:=yA (by lia)
  refine iteT ?_
  refine step i c outs[i] H' _ hc hy sm fun H2 s2=>⟨z.cps.size-(i+1),by lia,by lia,rfl,?_,sm.trans s2⟩
  rw[hu,Zg hy]
 ·have e:i=z.cps.size:=by lia
  refine .inl ⟨e,fun D hD=>?_⟩
  have e2:us=outs:=by rw[hu,xJ (by lia)]
  rw[e2]
  exact fin H1 D sm hD
theorem zcK:isi "tuple" "tuple"=some true:=by decide +kernel
theorem zdv:isi "int" "tuple"=some false:=by decide +kernel
theorem zb6:isi "str" "tuple"=some false:=by decide +kernel
theorem zkK:isi "bool" "tuple"=some false:=by decide +kernel
theorem zkL:isi "NoneType" "tuple"=some false:=by decide +kernel
theorem zkM:isi "list" "tuple"=some false:=by decide +kernel
theorem zkN:isi "dict" "tuple"=some false:=by decide +kernel
theorem zdw:isi "tuple" "str"=some false:=by decide +kernel
theorem zeW:isi "int" "str"=some false:=by decide +kernel
theorem zb7:isi "str" "str"=some true:=by decide +kernel
theorem zkO:isi "bool" "str"=some false:=by decide +kernel
theorem zkP:isi "NoneType" "str"=some false:=by decide +kernel
theorem zkQ:isi "list" "str"=some false:=by decide +kernel
theorem zkR:isi "dict" "str"=some false:=by decide +kernel
theorem zmU:isi "tuple" "int"=some false:=by decide +kernel
theorem zmV:isi "int" "int"=some true:=by decide +kernel
theorem zmW:isi "str" "int"=some false:=by decide +kernel
theorem zmX:isi "bool" "int"=some true:=by decide +kernel
theorem zmY:isi "NoneType" "int"=some false:=by decide +kernel
theorem zmZ:isi "list" "int"=some false:=by decide +kernel
theorem zm0:isi "dict" "int"=some false:=by decide +kernel
theorem zm1:isi "int" "bool"=some false:=by decide +kernel
theorem zm2:isi "bool" "bool"=some true:=by decide +kernel
theorem zM:tJ (uU "tuple")=some (.type "tuple"):=by kernel_rfl
theorem zaq:tJ (uU "str")=some (.type "str"):=by kernel_rfl
theorem zcL:tJ (uU "int")=some (.type "int"):=by kernel_rfl
theorem zhk:tJ (uU "bool")=some (.type "bool"):=by kernel_rfl
theorem Zq:tJ (uU "isinstance")=some (.builtin "isinstance"):=by kernel_rfl
theorem ziq:tJ (uU "ord")=some (.builtin "ord"):=by kernel_rfl
theorem zir:tJ (uU "abs")=some (.builtin "abs"):=by kernel_rfl
theorem zeX:tJ (uU "all")=some (.builtin "all"):=by kernel_rfl
end L2
namespace D
open PySem L2
noncomputable def top(i:Nat):Stmt:=PySem.Challenge.pw_leastforge_k39_papers_of_a_task.main.body.getD i (.Pass ⟨0,0,0,0⟩)
abbrev zbk:Stmt:=top 6
abbrev zcM:Stmt:=top 7
abbrev zaX:Stmt:=top 8
abbrev zis:Stmt:=top 9
abbrev zbQ:Stmt:=top 10
abbrev zit:Stmt:=top 11
abbrev ziu:Stmt:=top 17
abbrev zfN:Stmt:=top 18
abbrev zdQ:Stmt:=top 19
abbrev zbl:Stmt:=top 20
abbrev zaY:Stmt:=top 21
abbrev zcN:Stmt:=top 22
abbrev zbR:Stmt:=top 23
abbrev zcO:Stmt:=top 24
abbrev zbS:Stmt:=top 25
abbrev zdR:Stmt:=top 26
abbrev zdS:Stmt:=top 27
abbrev zcP:Stmt:=top 28
abbrev zcQ:Stmt:=top 29
abbrev zbT:Stmt:=top 32
abbrev zbm:Stmt:=top 36
abbrev zar:Stmt:=top 37
abbrev zbU:Stmt:=top 38
abbrev Zn:Stmt:=zaL (top 41) 0
abbrev zal:Stmt:=zaL (top 41) 1
abbrev zcR:Stmt:=top 42
abbrev zbV:Stmt:=top 43
abbrev zcS:Stmt:=top 44
abbrev zcT:Stmt:=top 45
abbrev zdT:Stmt:=top 46
abbrev zdU:Stmt:=top 47
abbrev zdV:Stmt:=top 48
abbrev zfO:Stmt:=top 49
abbrev zaN:Stmt:=top 50
abbrev zcU:Stmt:=top 51
abbrev ziv:Stmt:=top 52
abbrev zcV:Stmt:=top 53
abbrev zcW:Stmt:=top 54
abbrev zdW:Stmt:=top 55
abbrev zaZ:Stmt:=top 57
abbrev zaO:Stmt:=top 58
abbrev zbn:Stmt:=top 59
abbrev ziw:Stmt:=top 60
abbrev zcX:Stmt:=top 62
abbrev zbo:Stmt:=top 63
abbrev zaA:Stmt:=top 64
abbrev Z2:Stmt:=top 66
abbrev ZI:Stmt:=top 67
abbrev zbW:Stmt:=top 69
abbrev Zj:Stmt:=zaL (top 70) 0
abbrev zT:Stmt:=zaL (top 70) 1
abbrev Z3:Stmt:=zaL (top 70) 2
abbrev Z4:Stmt:=zaL (top 70) 3
abbrev Zz:Stmt:=zaL (top 70) 4
abbrev zam:Stmt:=zaL (top 70) 5
abbrev zan:Stmt:=zaL (top 70) 6
abbrev zlB:Stmt:=top 72
abbrev sBox:Stmt:=top 73
abbrev zlC:Stmt:=top 74
abbrev zlD:Stmt:=top 75
abbrev zfP:Stmt:=top 76
abbrev zix:Stmt:=top 77
abbrev zdX:Stmt:=top 78
abbrev zfQ:Stmt:=top 79
abbrev zbX:Stmt:=top 80
abbrev zfR:Stmt:=top 81
abbrev zdY:Stmt:=top 82
abbrev za0:Stmt:=top 83
abbrev ziy:Stmt:=top 84
abbrev zbp:Stmt:=top 85
abbrev zbY:Stmt:=top 86
abbrev sLaw:Stmt:=top 87
end D
namespace L2
open PySem PySem.Spec PyProof.Rows
theorem seqI{t u:TS}{D:Ends}{σ:St}{H:Hp}(Pv:St->Hp->Prop)(h2:∀σ' H',Pv σ' H'->u D σ' H')(h1:∀ {N:St->Hp->Prop},(∀σ' H',Pv σ' H'->N σ' H')->t {D with nx:=N} σ H):tSeq t u D σ H:=h1 h2
theorem pos(n:Nat):(0:Int)<(((n+1:Nat):Int)):=by lia
theorem zlE{i j:Int}(h:i≠j):V.int i≠V.int j:=fun z=>h (by injection z)
end L2
namespace D
open PySem L2
def Zt(H:Hp)(b:Addr):Prop:=∃a f m:Int,H b=some (.lst [.int a,.int f,.int m])
structure Step(b:Addr)(H H':Hp):Prop where
 box:Zt H' b
 keep:∀c o,c≠b->H c=some o->H' c=some o
theorem Step.refl{b:Addr}{H:Hp}(h:Zt H b):Step b H H:=⟨h,fun _ _ _ e=>e⟩
theorem Step.trans{b:Addr}{H H1 H2:Hp}(x:Step b H H1)(y:Step b H1 H2):Step b H H2:=⟨y.box,fun c o hc e=>y.keep c o hc (x.keep c o hc e)⟩
theorem Step.new{b p:Addr}{H:Hp}{o:HO}(h:Zt H b)(hp:H p=none):Step b H (upd H p o):=by
 obtain⟨a,f,m,e⟩:=h
 exact⟨⟨a,f,m,by rw[zu (zm e hp)];exact e⟩,fun c u _ e=>by rw[zu (zm e hp)];exact e⟩
theorem Step.put{b:Addr}{H:Hp}(a f m:Int):Step b H (upd H b (.lst [.int a,.int f,.int m])):=⟨⟨a,f,m,zf⟩,fun c o hc e=>by rw[zu hc];exact e⟩
theorem Step.keepN{b:Addr}{H H':Hp}(x:Step b H H'){c:Addr}{o:HO}(hb:Zt H b)(e:H c=some o)(ho:∀a f m:Int,o≠.lst [.int a,.int f,.int m]):H' c=some o:=by
 obtain⟨a,f,m,e'⟩:=hb
 exact x.keep c o (zlg e e' (ho a f m)) e
def zkS(K:tP):Sp:=fun vs H Q _=>∃(a:Addr)(ns:List Int)(k:Int),vs=[.ref a,.int k]/\SqL K H a (ns.map V.int)/\0<=k/\∀i:Int,Q (.int i) H
def zlF(K:tP):Sp:=fun vs H Q _=>∃(a:Addr)(ns:List Int)(k:Int),vs=[.ref a,.int k]/\SqL K H a (ns.map V.int)/\0<=k/\∀(x f m:Int)(p:Addr),H p=none->Q (.ref p) (upd H p (.lst [.int x,.int f,.int m]))
def zcY:Sp:=fun vs H Q _=>∃(b:Addr)(n:Int),vs=[.ref b,.int n]/\Zt H b/\0<n/\n<10 ^ 61/\∀(r:Int)(H':Hp),0<=r->r<n->Step b H H'->Q (.int r) H'
def Signs(x:Str):Prop:=∀c∈x.cps.toList,32<=c/\c<=126/\c≠34/\c≠37
def zgx:Sp:=fun vs H Q _=>∃(b:Addr)(n:Int),vs=[.ref b,.int n]/\Zt H b/\0<=n/\n<10000/\∀(x:Str)(H':Hp),(x.length:Int)<=n->Signs x->Step b H H'->Q (.str x) H'
def zdZ:Sp:=fun vs H Q _=>∃b:Addr,vs=[.ref b]/\Zt H b/\∀(i:Int)(H':Hp),-(10 ^ 60)<i->i<10 ^ 60->Step b H H'->Q (.int i) H'
section
variable{P:Program}{w:World}{K:tP}{mg:Str->Option Value}{base:Heap}{f:Addr}{fd:tQ}{k n:Nat}{ARun ATask:Addr}
theorem zm3:FnScope ["_law_script","_law_k"] ["_law_script","_law_k"] (zr zlB):=mkSc rfl (by decide +kernel)
theorem zlG(F:Fun K "_law_cell" "_law_cell" zlB f fd)(m_len:mg "len"=none):FnOk P w K mg base CX0 (k+1) f fd ["_law_script","_law_k"] (zkS K):=by
 refine F.ok zm3 (by rintro _ _ _ _ ⟨_,_,_,rfl,_⟩;rfl) fun cdv A outer s H vs Q E hr h=>?_
 obtain⟨a,ns,j,rfl,hS,h0,q⟩:=h
 refine⟨_,(zj (zN (zH zha (pv 1) (zB zP rfl m_len tD (zc (pv 0) zi)) (nomark _)) (zq (zw (zx zF (pv 0) (pv 1) (fun _ _=>rfl)))) zC)
  (zq (zw (zK ZP (zK zcz zk (pv 1)) zk)))),?_⟩
 refine⟨_,rfl,_,rfl,_,_,rfl,.inl ⟨_,hS,rfl⟩,_,_,rfl,rfl,_,rfl,?_⟩
 refine ite2 (fun c=>?_) (fun c=>?_)
 ·have c':j<(((ns.map V.int).length:Nat):Int):=of_decide_eq_true c
  rw[yB] at c'
  have hj:j.toNat<ns.length:=by lia
  have ej:j=((j.toNat:Nat):Int):=by lia
  have at1:atI (ns.map V.int) ((j.toNat:Nat):Int)=some (.int ns[j.toNat]):=zt (by rw[yF,yA hj];rfl)
  rw[←ej] at at1
  exact⟨_,rfl,_,rfl,a,_,j,.int ns[j.toNat],rfl,rfl,hS,at1,q _⟩
 ·exact⟨_,rfl,_,_,rfl,rfl,.inl ⟨by decide,by decide⟩,_,_,rfl,rfl,q _⟩
theorem zjW:FnScope ["_law_script","_law_k","_law_cell_here","_law_number_here","_law_mixed"] ["_law_script","_law_k"] (zr sBox):=mkSc rfl (by decide +kernel)
theorem zm4(F:Fun K "_law_box" "_law_box" sBox f fd)(G_lcell:Have P w K mg base "_law_cell" k ["_law_script","_law_k"] (zkS K)):FnOk P w K mg base CX0 (k+1) f fd ["_law_script","_law_k"] (zlF K):=by
 refine F.ok zjW (by rintro _ _ _ _ ⟨_,_,_,rfl,_⟩;rfl) fun cdv A outer s H vs Q E hr h=>?_
 obtain⟨a,ns,j,rfl,hS,h0,q⟩:=h
 refine⟨_,(zj (zG (i:=2) zjW.nd rfl (Or.inl rfl) (zy G_lcell hr rfl (zc (pv 0) (zc (pv 1) zi))))
  (zj (zG (i:=3) zjW.nd rfl (Or.inl rfl) (zK zbd (zK zcz (zK ZP (zK zbd (pv 2) zk) zk) zk) zk))
  (zj (zG (i:=4) zjW.nd rfl (Or.inl rfl) (zK zbd (zK ZP (zK zcz (pv 3) (zK ZP (zK zbd (pv 3) zk) zk)) (zK zcz zk (pv 1))) zk))
  (zj (zN (zH Z0 (zK zbd (zy G_lcell hr rfl (zc (pv 0) (zc zk zi))) zk) zk (nomark _)) (zq (zw (Zb (zc (pv 2) (zc zk (zc (pv 4) zi)))))) zC)
  (zq (zw (Zb (zc (pv 4) (zc zk (zc zk zi)))))))))),?_⟩
 refine⟨_,rfl,_,rfl,a,ns,j,rfl,hS,h0,fun c=>?_⟩
 refine⟨_,rfl,_,_,rfl,rfl,pos _,_,_,rfl,rfl,_,_,rfl,rfl,.inr ⟨by decide,by decide⟩,_,_,rfl,rfl,pos _,?_⟩
 have b1:0<=(c % 2147483629+11)*69621 % 2147483629:=wV _ (by decide)
 have b2:(c % 2147483629+11)*69621 % 2147483629<2147483629:=wB _ (by decide)
 refine⟨_,rfl,_,rfl,_,_,rfl,rfl,pos _,_,_,rfl,rfl,_,_,rfl,rfl,.inl ⟨by lia,by lia⟩,_,rfl,_,_,rfl,rfl,.inl ⟨by decide,by decide⟩,_,_,rfl,rfl,_,_,rfl,rfl,pos _,?_⟩
 refine⟨_,rfl,a,ns,0,rfl,hS,Int.le_refl 0,fun c0=>?_⟩
 refine⟨_,_,rfl,rfl,pos _,rfl,_,rfl,?_⟩
 refine ite2 (fun e=>?_) (fun e=>?_)
 ·exact⟨_,rfl,_,rfl,zl3,fun p hp=>q _ _ _ p hp⟩
 ·exact⟨_,rfl,zl3,fun p hp=>q _ _ _ p hp⟩
theorem zgy:FnScope ["_law_box_here","_law_wide","_law_found_here"] ["_law_box_here","_law_wide"] (zr zlC):=mkSc rfl (by decide +kernel)
theorem zm5{n:Int}(h0:0<n)(h:n<10 ^ 61):n.natAbs.log2<9000:=by
 have h1:n.natAbs<2 ^ 210:=by
  have:(10:Int) ^ 61<=2 ^ 210:=by decide
  lia
 have:=(uS (by lia)).mpr h1
 lia
theorem zlH(F:Fun K "_law_take" "_law_take" zlC f fd):FnOk P w K mg base CX0 (k+1) f fd ["_law_box_here","_law_wide"] zcY:=by
 refine F.ok zgy (by rintro _ _ _ _ ⟨_,_,rfl,_⟩;rfl) fun cdv A outer s H vs Q E hr h=>?_
 obtain⟨b,n,rfl,⟨a0,f0,m,hb⟩,hn,hn2,q⟩:=h
 refine⟨_,(zj (zN (zcu (zH Z0 (zx zF (pv 0) zk (fun _ _=>rfl)) zk (nomark _)) (zbO (zH zeT (zx zF (pv 0) zk (fun _ _=>rfl)) (zE (zc zk (zc (zcy zbx zk) zi))) (by rfl)))).pt (zj (zaD (zx zF (pv 0) zk (fun _ _=>rfl)) (zcv (pv 0) zk zby))
  (zq (zaD zk (zcv (pv 0) zk zby)))) zC)
  (zj (zN (zH Z0 (zx zF (pv 0) zk (fun _ _=>rfl)) zk (nomark _)) (zj (zG (i:=2) zgy.nd rfl (Or.inl rfl) (zK zbd (zx zF (pv 0) zk (fun _ _=>rfl)) (pv 1)))
  (zj (zaD (zK zjU (zx zF (pv 0) zk (fun _ _=>rfl)) (pv 1)) (zcv (pv 0) zk zby))
  (zq (zw (pv 2))))) zC)
  (zj (zaD (zK zbd (zK ZP (zK zcz (zx zF (pv 0) zk (fun _ _=>rfl)) zk) zk) zk) (zcv (pv 0) zk zby))
  (zj (zG (i:=2) zgy.nd rfl (Or.inl rfl) (zK zbd (zK zcz (zx zF (pv 0) zk (fun _ _=>rfl)) (zK ZP (zK zbd (zx zF (pv 0) zk (fun _ _=>rfl)) zk) zk)) zk))
  (zj (zN (zH zdJ (pv 1) (zK zcA zk zk) (nomark _)) (zq (zG (i:=2) zgy.nd rfl (Or.inl rfl) (zK ZP (zK zcA (pv 2) zk) (pv 2)))) zC)
  (zq (zw (zK zbd (pv 2) (pv 1))))))))),?_⟩
 refine seqI (fun σ' H'=>σ'=[some (.ref b),some (.int n),none]/\Step b H H') (fun σ' H1 h1=>?_) (fun rest=>?_)
 ·obtain⟨rfl,st1⟩:=h1
  obtain⟨a,f,m,hb1⟩:=st1.box
  refine⟨_,rfl,b,_,1,.int f,rfl,rfl,Sl hb1,rfl,rfl,_,rfl,?_⟩
  refine ite2 (fun e=>?_) (fun e=>?_)
  ·refine⟨_,rfl,b,_,0,.int a,rfl,rfl,Sl hb1,rfl,_,rfl,_,_,rfl,rfl,hn,?_⟩
   refine⟨_,rfl,b,_,0,.int a,rfl,rfl,Sl hb1,rfl,_,rfl,_,_,rfl,rfl,⟨hn,zm5 hn hn2⟩,_,rfl,b,_,0,0,rfl,rfl,hb1,rfl,?_⟩
   exact⟨_,rfl,q _ _ (wV _ (by lia)) (wB _ hn) (st1.trans (Step.put _ _ _))⟩
  ·refine⟨_,rfl,b,_,0,.int a,rfl,rfl,Sl hb1,rfl,_,_,rfl,rfl,.inr ⟨by decide,by decide⟩,_,_,rfl,rfl,_,_,rfl,rfl,pos _,_,rfl,b,_,0,0,rfl,rfl,hb1,rfl,?_⟩
   refine⟨_,rfl,b,_,0,_,rfl,rfl,Sl zf,rfl,_,rfl,b,_,0,_,rfl,rfl,Sl zf,rfl,_,_,rfl,rfl,pos _,_,_,rfl,rfl,_,_,rfl,rfl,.inr ⟨?_,?_⟩,_,_,rfl,rfl,pos _,?_⟩
   ·have:=wV ((a*69621+104729) % 2147483587) (show (16807:Int)≠0 by decide)
    lia
   ·have:=wB ((a*69621+104729) % 2147483587) (show (0:Int)<16807 by decide)
    lia
   dsimp only[zX]
   refine seqI (t:=tIfS _ _ _) (fun σ' H'=>∃x:Int,σ'=[some (.ref b),some (.int n),some (.int x)]/\Step b H H') (fun σ' H1 h1=>?_) (fun rest=>?_)
   ·obtain⟨x,rfl,st2⟩:=h1
    exact⟨_,rfl,_,rfl,_,_,rfl,rfl,hn,q _ _ (wV _ (by lia)) (wB _ hn) st2⟩
   ·refine⟨_,rfl,_,_,rfl,rfl,⟨by decide,by decide,by decide⟩,_,_,rfl,rfl,_,rfl,?_⟩
    refine ite2 (fun e=>?_) (fun e=>?_)
    ·refine⟨_,rfl,_,_,rfl,rfl,⟨by decide,by decide,?_⟩,_,rfl,_,_,rfl,rfl,rest _ _ ⟨_,rfl,st1.trans (Step.put _ _ _)⟩⟩
     have l1:=wV ((a*69621+104729) % 2147483587*((a*69621+104729) % 2147483587 % 16807+1)) (show (2147483579:Int)≠0 by decide)
     have l2:=wB ((a*69621+104729) % 2147483587*((a*69621+104729) % 2147483587 % 16807+1)) (show (0:Int)<2147483579 by decide)
     lia
    ·exact rest _ _ ⟨_,rfl,st1.trans (Step.put _ _ _)⟩
 ·refine⟨_,rfl,b,_,1,.int f0,rfl,rfl,Sl hb,rfl,rfl,_,rfl,?_⟩
  refine ite2 (fun e=>?_) (fun e=>?_)
  ·refine⟨_,rfl,b,_,0,.int a0,rfl,rfl,Sl hb,rfl,_,rfl,zl2,fun t ht=>?_⟩
   have hb2:upd H t (.tup [.int 0,.int (-1)]) b=some (.lst [.int a0,.int f0,.int m]):=by rw[zu (zm hb ht)];exact hb
   refine⟨t,_,rfl,.inr (Sq zf),rfl,rfl,_,rfl,?_⟩
   refine ite2 (fun e=>?_) (fun e=>?_)
   ·refine⟨_,rfl,b,_,2,.int m,rfl,rfl,Sl hb2,rfl,_,rfl,b,_,0,0,rfl,rfl,hb2,rfl,?_⟩
    refine⟨_,rfl,b,_,1,1,rfl,rfl,zf,rfl,?_⟩
    exact rest _ _ ⟨rfl,((Step.new ⟨_,_,_,hb⟩ ht).trans (Step.put _ _ _)).trans (Step.put _ _ _)⟩
   ·exact rest _ _ ⟨rfl,Step.new ⟨_,_,_,hb⟩ ht⟩
  ·refine iteF ?_
   exact rest _ _ ⟨rfl,Step.refl ⟨_,_,_,hb⟩⟩
inductive W where
 |num (i:Int)
 |txt (x:Str)
 |lst (ws:List W)
mutual
noncomputable def W.size:W->Int
 |.num _=>1
 |.txt x=>1+(x.length:Int)
 |.lst ws=>1+sizes ws
noncomputable def sizes:List W->Int
 |[]=>0
 |w::r=>w.size+sizes r
end
mutual
noncomputable def W.depth:W->Nat
 |.num _=>0
 |.txt _=>0
 |.lst ws=>1+depths ws
noncomputable def depths:List W->Nat
 |[]=>0
 |w::r=>max w.depth (depths r)
end
mutual
def W.Ok:W->Prop
 |.num i=>-(10 ^ 60)<i/\i<10 ^ 60
 |.txt x=>x.length<=400/\Signs x
 |.lst ws=>ws.length<=60/\Oks ws
def Oks:List W->Prop
 |[]=>True
 |w::r=>w.Ok/\Oks r
end
theorem zhl(ws:List W)(w:W):sizes (ws++[w])=sizes ws+w.size:=by
 induction ws with
 |nil=>simp[sizes]
 |cons x r ih=>simp only[xO,sizes,ih];lia
theorem zfS(ws:List W)(w:W):depths (ws++[w])=max (depths ws) w.depth:=by
 induction ws with
 |nil=>simp[depths]
 |cons x r ih=>simp only[xO,depths,ih];lia
theorem zjX(ws:List W)(w:W):Oks (ws++[w]) ↔ Oks ws/\w.Ok:=by
 induction ws with
 |nil=>simp[Oks]
 |cons x r ih=>simp only[xO,Oks,ih,and_assoc]
theorem zcZ{ws:List W}(h:Oks ws):∀w∈ws,w.Ok:=by
 induction ws with
 |nil=>intro w hw;cases hw
 |cons x r ih=>
  intro w hw
  rcases yS.mp hw with rfl|hw
  ·exact h.1
  ·exact ih h.2 w hw
theorem Z5{ws:List W}:∀w∈ws,w.depth<=depths ws:=by
 induction ws with
 |nil=>intro w hw;cases hw
 |cons x r ih=>
  intro w hw
  simp only[depths]
  rcases yS.mp hw with rfl|hw
  ·lia
  ·have:=ih w hw
   lia
inductive RW(H:Hp):V->W->Prop where
 |num (i:Int):RW H (.int i) (.num i)
 |txt (x:Str):RW H (.str x) (.txt x)
 |lst {a:Addr}{vs:List V}{ws:List W}:H a=some (.tup vs)->vs.length=ws.length->(∀(i:Nat)(v:V)(w:W),vs[i]?=some v->ws[i]?=some w->RW H v w)->RW H (.ref a) (.lst ws)
structure RWs(H:Hp)(vs:List V)(ws:List W):Prop where
 len:vs.length=ws.length
 at':∀(i:Nat)(v:V)(w:W),vs[i]?=some v->ws[i]?=some w->RW H v w
def Tups(H H':Hp):Prop:=∀a vs,H a=some (.tup vs)->H' a=some (.tup vs)
theorem RW.mono{H H':Hp}(t:Tups H H'){v:V}{w:W}(h:RW H v w):RW H' v w:=by
 induction h with
 |num i=>exact .num i
 |txt x=>exact .txt x
 |lst e l _ ih=>exact .lst (t _ _ e) l ih
theorem RWs.mono{H H':Hp}(t:Tups H H'){vs:List V}{ws:List W}(h:RWs H vs ws):RWs H' vs ws:=⟨h.len,fun i v w a b=>(h.at' i v w a b).mono t⟩
theorem RWs.snoc{H:Hp}{vs:List V}{ws:List W}{v:V}{w:W}(h:RWs H vs ws)(x:RW H v w):RWs H (vs++[v]) (ws++[w]):=by
 refine⟨by rw[yD,yD,h.len];rfl,fun i v' w' a b=>?_⟩
 by_cases hi:i<vs.length
 ·rw[yL hi] at a
  rw[yL (h.len▸hi)] at b
  exact h.at' i v' w' a b
 ·rw[yK (by lia)] at a
  rw[yK (by have:=h.len;lia)] at b
  have hi0:i-vs.length=0:=by
   have:=(yC.mp a).1
   simp at this
   lia
  have hi1:i-ws.length=0:=by have:=h.len;lia
  rw[hi0] at a
  rw[hi1] at b
  have e1:v=v':=by simpa using a
  have e2:w=w':=by simpa using b
  rw[←e1,←e2]
  exact x
theorem Step.tups{b:Addr}{H H':Hp}(x:Step b H H')(hb:Zt H b):Tups H H':=fun a vs e=>x.keepN hb e (fun _ _ _ z=>nomatch z)
theorem zjY{H:Hp}{p:Addr}{o:HO}(h:H p=none):Tups H (upd H p o):=fun a vs e=>by rw[zu (zm e h)];exact e
theorem zbA{H:Hp}{p:Addr}{xs:List V}{o:HO}(h:H p=some (.lst xs)):Tups H (upd H p o):=fun a vs e=>by rw[zu (zlg e h (fun z=>nomatch z))];exact e
noncomputable def zbB:Str:=uU " !#$&'()*+,-./0123456789:;<=>?@ABCDEFGHIJKLMNOPQRSTUVWXYZ"
noncomputable def zbC:Str:=uU "[\\]^_`abcdefghijklmnopqrstuvwxyz{|}~"
theorem zaE:(zbB++zbC).length=93:=by decide +kernel
theorem ziz:∀c∈(zbB++zbC).cps.toList,32<=c/\c<=126/\c≠34/\c≠37:=by decide +kernel
theorem zd0(x:Str):x.cps.toList.length=x.length:=by simp[Str.length]
theorem zd1(x y:Str):(x++y).cps.toList=x.cps.toList++y.cps.toList:=by
 show (x.cps++y.cps).toList=_
 simp
theorem zc0(x y:Str):(x++y).length=x.length+y.length:=by
 rw[←zd0,zd1,yD,zd0,zd0]
mutual
theorem zjZ:∀w:W,1<=w.size
 |.num _=>by simp[W.size]
 |.txt x=>by simp only[W.size];lia
 |.lst ws=>by have:=sizes_nn ws;simp only[W.size];lia
theorem sizes_nn:∀ws:List W,0<=sizes ws
 |[]=>by simp[sizes]
 |w::r=>by have h1:=zjZ w;have h2:=sizes_nn r;simp only[sizes];lia
end
theorem zdx:FnScope ["_law_box_here","_law_most","_law_signs","_law_found_here","_law_k"] ["_law_box_here","_law_most"] (zr zlD):=mkSc rfl (by decide +kernel)
theorem small{n:Nat}(h:n<=1000000):n<=tF:=yQ h (by decide)
theorem zlI(F:Fun K "_law_text" "_law_text" zlD f fd)(G_ltake:Have P w K mg base "_law_take" k ["_law_box_here","_law_wide"] zcY)(m_len:mg "len"=none)(m_range:mg "range"=none):
  FnOk P w K mg base CX0 (k+1) f fd ["_law_box_here","_law_most"] zgx:=by
 refine F.ok zdx (by rintro _ _ _ _ ⟨_,_,rfl,_⟩;rfl) fun cdv A outer s H vs Q E hr h=>?_
 obtain⟨b,n,rfl,hb,hn,hn2,q⟩:=h
 refine⟨_,(zj (zG (i:=2) zdx.nd rfl (Or.inl rfl) zA)
  (zj (zG (i:=2) zdx.nd rfl (Or.inl rfl) (zK zbP (pv 2) zA))
  (zj (zG (i:=3) zdx.nd rfl (Or.inl rfl) zA)
  (zj (zat tL rfl (ZD rfl m_range (zc (zy G_ltake hr rfl (zc (pv 0) (zc (zK ZP (pv 1) zk) zi))) zi)) (zR (i:=4) zdx.nd rfl (Or.inl rfl)) (zq (zG (i:=3) zdx.nd rfl (Or.inl rfl) (zK zbP (pv 3) (zx zmO (pv 2) (zy G_ltake hr rfl (zc (pv 0) (zc (zB zP rfl m_len tD (zc (pv 2) zi)) zi))) (fun _ _=>rfl))))))
  (zq (zw (pv 3))))))),?_⟩
 refine⟨_,rfl,zbB,zbC,rfl,rfl,small (by decide +kernel),?_⟩
 refine⟨_,rfl,_,rfl,_,_,rfl,rfl,b,n+1,rfl,hb,by lia,by lia,fun r H1 h0 h1 st=>?_⟩
 refine⟨r,rfl,by lia,by lia,zaU (n:=r.toNat) (fun i σ' H'=>∃(x:Str)(o:Option V),σ'=[some (.ref b),some (.int n),some (.str (zbB++zbC)),some (.str x),o]/\x.length=i/\Signs x/\Step b H H')
  ⟨uU "",none,rfl,rfl,?_,st⟩ (fun i σ' H' hi h=>?_) (fun σ' H' h=>?_)⟩
 ·intro c hc
  have e0:(uU "").cps.toList=[]:=by decide +kernel
  rw[e0] at hc
  cases hc
 ·obtain⟨x,o,rfl,hx,sx,st1⟩:=h
  refine⟨_,rfl,_,rfl,_,rfl,_,rfl,_,_,rfl,⟨small (by rw[zaE];decide),rfl⟩,b,_,rfl,st1.box,by rw[zaE];decide,by rw[zaE];decide,fun r2 H2 r0 r1 st2=>?_⟩
  rw[zaE] at r1
  have hr2:r2.toNat<(zbB++zbC).cps.toList.length:=by rw[zd0,zaE];lia
  have er2:r2=((r2.toNat:Nat):Int):=by lia
  have a1:atI (zbB++zbC).cps.toList ((r2.toNat:Nat):Int)=some (zbB++zbC).cps.toList[r2.toNat]:=zt (yA hr2)
  rw[←er2] at a1
  refine⟨_,r2,_,rfl,rfl,small (by rw[zaE];decide),a1,x,_,rfl,rfl,small ?_,?_⟩
  ·have:(Str.mk #[(zbB++zbC).cps.toList[r2.toNat]]).length=1:=rfl
   rw[this]
   lia
  ·refine⟨_,_,rfl,?_,?_,st1.trans st2⟩
   ·rw[zc0,hx]
    rfl
   ·intro c hc
    rw[zd1] at hc
    rcases yZ.mp hc with hc|hc
    ·exact sx c hc
    ·have:c=(zbB++zbC).cps.toList[r2.toNat]:=by simpa using hc
     rw[this]
     exact ziz _ (xA _)
 ·obtain⟨x,o,rfl,hx,sx,st1⟩:=h
  exact⟨_,rfl,q x H' (by lia) sx st1⟩
theorem zgz:FnScope ["_law_box_here","_law_kind"] ["_law_box_here"] (zr zfP):=mkSc rfl (by decide +kernel)
theorem ziA(F:Fun K "_law_number" "_law_number" zfP f fd)(G_ltake:Have P w K mg base "_law_take" k ["_law_box_here","_law_wide"] zcY):
  FnOk P w K mg base CX0 (k+1) f fd ["_law_box_here"] zdZ:=by
 refine F.ok zgz (by rintro _ _ _ _ ⟨_,rfl,_⟩;rfl) fun cdv A outer s H vs Q E hr h=>?_
 obtain⟨b,rfl,hb,q⟩:=h
 refine⟨_,(zj (zG (i:=1) zgz.nd rfl (Or.inl rfl) (zy G_ltake hr rfl (zc (pv 0) (zc zk zi))))
  (zj (zN (zH Z0 (pv 1) zk (nomark _)) (zq (zw (zK ZP (zK zaf (zy G_ltake hr rfl (zc (pv 0) (zc (zK zaf (zK zcz zk (zK zcA zk zk)) zk) zi))) (zK zcA zk zk)) zk))) zC)
  (zj (zN (zH Z0 (pv 1) zk (nomark _)) (zq (zw (zx zF (Zb (zc (zK zaf (zK zcA zk zk) zk) (zc (zK zaf zk (zK zcA zk zk)) (zc zk (zc (zcy zbx zk) zi))))) (zy G_ltake hr rfl (zc (pv 0) (zc zk zi))) (fun _ _=>rfl)))) zC)
  (zq (zw (zK zaf (zy G_ltake hr rfl (zc (pv 0) (zc zk zi))) zk)))))),?_⟩
 refine⟨_,rfl,b,4,rfl,hb,by decide,by decide,fun r H1 h0 h1 st=>?_⟩
 refine⟨_,rfl,rfl,_,rfl,?_⟩
 refine ite2 (fun e=>?_) (fun e=>?_)
 ·refine⟨_,rfl,_,_,rfl,rfl,⟨by decide,by decide,by decide⟩,_,_,rfl,rfl,.inl ⟨by decide,by decide⟩,_,_,rfl,rfl,b,_,rfl,st.box,by decide,by decide,fun r2 H2 r0 r1 st2=>?_⟩
  refine⟨_,_,rfl,rfl,⟨by decide,by decide,by decide⟩,_,_,rfl,rfl,_,_,rfl,rfl,q _ _ ?_ ?_ (st.trans st2)⟩
  ·have:(10:Int) ^ (60:Int).toNat=10 ^ 60:=rfl
   lia
  ·have:(10:Int) ^ (60:Int).toNat=10 ^ 60:=rfl
   have r1:r2<2*10 ^ 60-1:=r1
   lia
 ·refine⟨_,rfl,rfl,_,rfl,?_⟩
  refine ite2 (fun e=>?_) (fun e=>?_)
  ·refine⟨_,_,rfl,rfl,⟨by decide,by decide,by decide⟩,_,_,rfl,rfl,_,_,rfl,rfl,⟨by decide,by decide,by decide⟩,_,_,rfl,rfl,_,rfl,zl4,fun p hp=>?_⟩
   have st1:=st.trans (Step.new (o:=.lst [.int (10 ^ 60-1),.int (1-10 ^ 60),.int 0,.int (-1)]) st.box hp)
   refine⟨_,rfl,b,4,rfl,st1.box,by decide,by decide,fun r2 H2 r0 r1 st2=>?_⟩
   have hp2:H2 p=some (.lst [.int (10 ^ 60-1),.int (1-10 ^ 60),.int 0,.int (-1)]):=by
    obtain⟨a',f',m',e'⟩:=st.box
    exact st2.keep p _ (zm e' hp).symm zf
   have hcases:r2=0\/r2=1\/r2=2\/r2=3:=by lia
   rcases hcases with rfl|rfl|rfl|rfl
   ·exact⟨p,_,0,_,rfl,rfl,Sl hp2,rfl,q _ _ (by decide) (by decide) (st1.trans st2)⟩
   ·exact⟨p,_,1,_,rfl,rfl,Sl hp2,rfl,q _ _ (by decide) (by decide) (st1.trans st2)⟩
   ·exact⟨p,_,2,_,rfl,rfl,Sl hp2,rfl,q _ _ (by decide) (by decide) (st1.trans st2)⟩
   ·exact⟨p,_,3,_,rfl,rfl,Sl hp2,rfl,q _ _ (by decide) (by decide) (st1.trans st2)⟩
  ·refine⟨_,rfl,b,12,rfl,st.box,by decide,by decide,fun r2 H2 r0 r1 st2=>?_⟩
   exact⟨_,_,rfl,rfl,q _ _ (by have:(3:Int)<10 ^ 60:=(by decide);lia) (by have:(12:Int)<10 ^ 60:=(by decide);lia) (st.trans st2)⟩
def zd2(n:Nat):Sp:=fun vs H Q _=>∃(b:Addr)(room deep:Int),vs=[.ref b,.int room,.int deep]/\Zt H b/\1<=room/\room<1000/\0<=deep/\deep<n /\
 ∀(v:V)(x:W)(H':Hp),RW H' v x->x.Ok->(x.depth:Int)<=deep->x.size<=16*room->Step b H H'->Q v H'
theorem za1:FnScope ["_law_box_here","_law_room","_law_deep","_law_kind","_law_wide","_law_left","_law_found_here","_law_k","_law_share"] ["_law_box_here","_law_room","_law_deep"] (zr zix):=mkSc rfl (by decide +kernel)
theorem zj0{n:Nat}(F:Fun K "_law_worth" "_law_worth" zix f fd)(G_ltake:Have P w K mg base "_law_take" k ["_law_box_here","_law_wide"] zcY)(G_ltext:Have P w K mg base "_law_text" k ["_law_box_here","_law_most"] zgx)
  (G_lnumber:Have P w K mg base "_law_number" k ["_law_box_here"] zdZ) (G_lworth:Have P w K mg base "_law_worth" k ["_law_box_here","_law_room","_law_deep"] (zd2 n))
  (m_min:mg "min"=none) (m_range:mg "range"=none) (m_tuple:mg "tuple"=none):FnOk P w K mg base CX0 (k+1) f fd ["_law_box_here","_law_room","_law_deep"] (zd2 (n+1)):=by
 refine F.ok za1 (by rintro _ _ _ _ ⟨_,_,_,rfl,_⟩;rfl) fun cdv A outer s H vs Q E hr h=>?_
 obtain⟨b,room,deep,rfl,hb,hr1,hr2,hd0,hd1,q⟩:=h
 refine⟨_,(zj (zG (i:=3) za1.nd rfl (Or.inl rfl) (zy G_ltake hr rfl (zc (pv 0) (zc zk zi))))
  (zj (zN (zcc (zH Z0 (pv 3) zk (nomark _)) (zbv (zcu (zH Z0 (pv 3) zk (nomark _)) (zbO (zH zha (pv 2) zk (nomark _)))).pt)).pt (zq (zw (zy G_lnumber hr rfl (zc (pv 0) zi)))) zC)
  (zj (zN (zH Z0 (pv 3) zk (nomark _)) (zq (zw (zy G_ltext hr rfl (zc (pv 0) (zc zk zi))))) zC)
  (zj (zG (i:=4) za1.nd rfl (Or.inl rfl) (zy G_ltake hr rfl (zc (pv 0) (zc (zB (zh3 rfl) rfl m_min PyProof.Rows.boot_min (zc (pv 1) (zc zk zi))) zi))))
  (zj (zG (i:=5) za1.nd rfl (Or.inl rfl) (zK zaf (pv 1) zk))
  (zj (zG (i:=6) za1.nd rfl (Or.inl rfl) (Zb zi))
  (zj (zat tL rfl (ZD rfl m_range (zc (pv 4) zi)) (zR (i:=7) za1.nd rfl (Or.inl rfl)) (zj (zG (i:=8) za1.nd rfl (Or.inl rfl) (zK ZP zk (zy G_ltake hr rfl (zc (pv 0) (zc (zK zaf (pv 5) (zK zaf (zK zaf (pv 4) zk) (pv 7))) zi)))))
  (zj (Ze (zcf tM tO tN zaa (pv 6) (zc (zy G_lworth hr rfl (zc (pv 0) (zc (pv 8) (zc (zK zaf (pv 2) zk) zi)))) zi)))
  (zq (zG (i:=5) za1.nd rfl (Or.inl rfl) (zK zaf (pv 5) (pv 8)))))))
  (zq (zw (zJ Zf rfl m_tuple zM (zc (pv 6) zi))))))))))),?_⟩
 refine⟨_,rfl,b,3,rfl,hb,by decide,by decide,fun kd H1 k0 k1 st=>?_⟩
 dsimp only[zX]
 refine seqI (t:=tIfS _ _ _) (fun σ' H'=>σ'=[some (.ref b),some (.int room),some (.int deep),some (.int kd),none,none,none,none,none]/\Step b H H'/\(kd=1\/(kd=2/\1<=deep))) (fun σ' H2 h2=>?_) (fun rest=>?_)
 ·obtain⟨rfl,st2,hk⟩:=h2
  refine⟨_,rfl,rfl,_,rfl,?_⟩
  refine ite2 (fun e=>?_) (fun e=>?_)
  ·refine⟨_,rfl,b,15,rfl,st2.box,by decide,by decide,fun x H3 hx sx st3=>?_⟩
   refine q _ _ _ (.txt x) ⟨by lia,sx⟩ (by show ((0:Nat):Int)<=deep;lia) ?_ (st2.trans st3)
   show 1+(x.length:Int)<=16*room
   lia
  ·have e':¬V.int kd=V.int 1:=of_decide_eq_false (xI.mpr e)
   have hk2:kd=2/\1<=deep:=by
    rcases hk with hk|hk
    ·exact absurd (by rw[hk]) e'
    ·exact hk
   refine⟨_,rfl,_,rfl,room,61,rfl,b,_,rfl,st2.box,?_,?_,fun wide H3 w0 w1 st3=>?_⟩
   ·split<;>lia
   ·split<;>lia
   have w2:wide<room/\wide<61:=by
    revert w1
    split<;>intro w1<;>lia
   refine⟨_,rfl,_,_,rfl,rfl,zl0,fun l hl=>?_⟩
   have st4:=(st2.trans st3).trans (Step.new (o:=.lst []) st3.box hl)
   have lb:l≠b:=by
    obtain⟨a',f',m',e'⟩:=st3.box
    exact (zm e' hl).symm
   have hlH:H l=none:=by
    cases e:H l with
    |none=>rfl
    |some o=>
     have:=(st2.trans st3).keep l o lb e
     rw[hl] at this
     cases this
   refine⟨_,rfl,wide,rfl,by lia,by lia,zaU (n:=wide.toNat) (fun i σ' H'=>∃(left:Int)(vs:List V)(ws:List W)(o1 o2:Option V),
     σ'=[some (.ref b),some (.int room),some (.int deep),some (.int kd),some (.int wide),some (.int left),some (.ref l),o1,o2]/\H' l=some (.lst vs)/\RWs H' vs ws/\ws.length=i/\Oks ws/\(depths ws:Int)<=deep-1 /\
     sizes ws<=16*(room-1-left)/\wide-i<=left/\Step b H H')
    ⟨room-1,[],[],none,none,rfl,zf,⟨rfl,fun i v w e=>by simp at e⟩,rfl,trivial,by show ((0:Nat):Int)<=deep-1;lia,by simp[sizes],by lia,st4⟩ (fun i σ' H' hi h=>?_) (fun σ' H' h=>?_)⟩
   ·obtain⟨left,vs,ws,o1,o2,rfl,hl',hrw,hlen,hok,hdp,hsz,hleft,st5⟩:=h
    have nn:=sizes_nn ws
    refine⟨_,rfl,_,rfl,_,rfl,_,_,rfl,rfl,_,rfl,_,_,rfl,rfl,_,_,rfl,rfl,b,_,rfl,st5.box,?_,?_,fun r H5 r0 r1 st6=>?_⟩
    ·lia
    ·have:(2000:Int)<10 ^ 61:=by decide
     lia
    have hl5:H5 l=some (.lst vs):=st6.keep l _ lb hl'
    refine⟨_,_,rfl,rfl,_,rfl,.inl ⟨rfl,_,Sl hl5⟩,_,rfl,_,rfl,_,rfl,_,_,rfl,rfl,b,_,_,rfl,st6.box,?_,?_,?_,?_,fun v x H6 rx okx dx sx st7=>?_⟩
    ·lia
    ·lia
    ·lia
    ·lia
    have hl6:H6 l=some (.lst vs):=st7.keep l _ lb hl5
    have hlv:vs.length<=61:=by have:=hrw.len;lia
    refine⟨l,vs,v,rfl,rfl,hl6,xS hlv (by decide),?_⟩
    refine⟨_,rfl,_,rfl,_,_,rfl,rfl,?_⟩
    have t6:Tups H' H6:=fun a us e=>(st7.tups st6.box) a us ((st6.tups st5.box) a us e)
    have t7:=zbA (o:=.lst (vs++[v])) hl6
    refine⟨_,vs++[v],ws++[x],_,_,rfl,zf,((hrw.mono t6).mono t7).snoc (rx.mono t7),?_,(zjX _ _).mpr ⟨hok,okx⟩,?_,?_,?_,?_⟩
    ·rw[yD,hlen];rfl
    ·rw[zfS];lia
    ·rw[zhl];lia
    ·lia
    ·refine⟨?_,fun c o hc e=>?_⟩
     ·obtain⟨a',f',m',e'⟩:=st7.box
      exact⟨a',f',m',by rw[zu lb.symm];exact e'⟩
     ·rw[zu (zm e hlH)]
      exact (st5.trans (st6.trans st7)).keep c o hc e
   ·obtain⟨left,vs,ws,o1,o2,rfl,hl',hrw,hlen,hok,hdp,hsz,hleft,st5⟩:=h
    refine⟨_,rfl,l,vs,rfl,.inl ⟨Sl hl',fun t ht=>?_⟩⟩
    have t6:=zjY (o:=.tup vs) ht
    refine q _ (.lst ws) _ (.lst zf hrw.len fun i v x a b=>(hrw.at' i v x a b).mono t6) ⟨by lia,hok⟩ ?_ ?_ (st5.trans (Step.new st5.box ht))
    ·show ((1+depths ws:Nat):Int)<=deep
     lia
    ·show 1+sizes ws<=16*room
     lia
 ·refine⟨_,rfl,rfl,_,rfl,?_⟩
  have fin:∀H2,Step b H H2->zdZ [.ref b] H2 Q E0:=fun H2 st2=>⟨b,rfl,st2.box,fun i H3 i0 i1 st3=>q _ (.num i) _ (.num i) ⟨i0,i1⟩ (by show ((0:Nat):Int)<=deep;lia) (by show (1:Int)<=16*room;lia) (st2.trans st3)⟩
  refine ite2 (fun e=>?_) (fun e=>?_)
  ·refine iteT ?_
   exact⟨_,rfl,fin H1 st⟩
  ·have e':¬V.int kd=V.int 0:=of_decide_eq_false (xI.mpr e)
   have kne:kd≠0:=fun z=>e' (by rw[z])
   refine⟨_,rfl,rfl,_,rfl,?_⟩
   refine ite2 (fun e2=>?_) (fun e2=>?_)
   ·have e2':V.int kd=V.int 2:=of_decide_eq_true e2
    have kd2:kd=2:=by injection e2'
    refine⟨_,rfl,_,_,rfl,rfl,_,rfl,?_⟩
    refine ite2 (fun e3=>?_) (fun e3=>?_)
    ·exact⟨_,rfl,fin H1 st⟩
    ·have e3':¬deep<1:=of_decide_eq_false (xI.mpr e3)
     exact rest _ _ ⟨rfl,st,.inr ⟨kd2,by lia⟩⟩
   ·have e2':¬V.int kd=V.int 2:=of_decide_eq_false (xI.mpr e2)
    have kne2:kd≠2:=fun z=>e2' (by rw[z])
    refine iteF ?_
    exact rest _ _ ⟨rfl,st,.inl (by lia)⟩
inductive T where
 |non
 |bl (b:Bool)
 |num (i:Int)
 |txt (x:Str)
 |tup (ts:List T)
 |lst
 |dic
mutual
noncomputable def T.size:T->Int
 |.txt x=>1+(x.length:Int)
 |.tup ts=>1+tsizes ts
 |_=>1
noncomputable def tsizes:List T->Int
 |[]=>0
 |t::r=>t.size+tsizes r
end
mutual
noncomputable def T.nodes:T->Nat
 |.tup ts=>1+tnodes ts
 |_=>1
noncomputable def tnodes:List T->Nat
 |[]=>0
 |t::r=>t.nodes+tnodes r
end
noncomputable def zcg(c:Nat):Bool:=decide (32<=c)&&(decide (c<=126)&&(decide (c≠34)&&decide (c≠37)))
def zbq(x:Str):Bool:=x.cps.toList.all zcg
def zdy(lv:Int):T->Bool
 |.num i=>decide (-(10 ^ 60)<i/\i<10 ^ 60)
 |.txt x=>decide (x.length<=400)&&zbq x
 |.tup ts=>decide (ts.length<=60)&&decide (0<lv)
 |_=>false
mutual
noncomputable def zc1:T->Int->Bool
 |.tup ts,lv=>decide (ts.length<=60)&&decide (0<lv)&&fitsA ts (lv-1)
 |.num i,_=>decide (-(10 ^ 60)<i/\i<10 ^ 60)
 |.txt x,_=>decide (x.length<=400)&&zbq x
 |.non,_=>false
 |.bl _,_=>false
 |.lst,_=>false
 |.dic,_=>false
noncomputable def fitsA:List T->Int->Bool
 |[],_=>true
 |t::r,lv=>zc1 t lv&&fitsA r lv
end
def zai(t:T):Bool:=zc1 t 12&&decide (t.size<=1000)
mutual
def T.Sm:T->Prop
 |.txt x=>x.length<=100000
 |.tup ts=>ts.length<=100000/\Sms ts
 |_=>True
def Sms:List T->Prop
 |[]=>True
 |t::r=>t.Sm/\Sms r
end
mutual
theorem zeY:∀t:T,1<=t.size
 |.non=>by simp[T.size]
 |.bl _=>by simp[T.size]
 |.num _=>by simp[T.size]
 |.lst=>by simp[T.size]
 |.dic=>by simp[T.size]
 |.txt x=>by simp only[T.size];lia
 |.tup ts=>by have:=tsizes_nn ts;simp only[T.size];lia
theorem tsizes_nn:∀ts:List T,0<=tsizes ts
 |[]=>by simp[tsizes]
 |t::r=>by have h1:=zeY t;have h2:=tsizes_nn r;simp only[tsizes];lia
end
theorem zlJ{ts:List T}(h:Sms ts):∀t∈ts,t.Sm:=by
 induction ts with
 |nil=>intro t ht;cases ht
 |cons x r ih=>
  intro t ht
  rcases yS.mp ht with rfl|ht
  ·exact h.1
  ·exact ih h.2 t ht
inductive RT(H:Hp):V->T->Prop where
 |non:RT H .non .non
 |bl (b:Bool):RT H (.bl b) (.bl b)
 |num (i:Int):RT H (.int i) (.num i)
 |txt (x:Str):RT H (.str x) (.txt x)
 |tup {a:Addr}{vs:List V}{ts:List T}:H a=some (.tup vs)->vs.length=ts.length->(∀(i:Nat)(v:V)(t:T),vs[i]?=some v->ts[i]?=some t->RT H v t)->RT H (.ref a) (.tup ts)
 |lst {a:Addr}{vs:List V}:H a=some (.lst vs)->RT H (.ref a) .lst
 |dic {a:Addr}{kvs:List (Key×V)}:H a=some (.dK kvs)->RT H (.ref a) .dic
theorem RT.mono{H H':Hp}(s:Same H H'){v:V}{t:T}(h:RT H v t):RT H' v t:=by
 induction h with
 |non=>exact .non
 |bl b=>exact .bl b
 |num i=>exact .num i
 |txt x=>exact .txt x
 |tup e l _ ih=>exact .tup (s _ _ e) l ih
 |lst e=>exact .lst (s _ _ e)
 |dic e=>exact .dic (s _ _ e)
noncomputable def zkT:T->Bool
 |.num _=>true
 |_=>false
def zc2:Sp:=fun vs H Q _=>∃(v:V)(t:T),vs=[v]/\RT H v t/\Q (.bl (zkT t)) H
def zgA:Sp:=fun vs H Q _=>∃c:Nat,vs=[.str ⟨#[c]⟩]/\Q (.bl (zcg c)) H
def zkU:Sp:=fun vs H Q _=>∃(v:V)(t:T)(lv:Int),vs=[v,.int lv]/\RT H v t/\t.Sm/\∀H',Same H H'->Q (.bl (zdy lv t)) H'
noncomputable def Z6:T->Int
 |.txt x=>1+(x.length:Int)
 |_=>1
def ziB:Sp:=fun vs H Q _=>∃(v:V)(t:T),vs=[v]/\RT H v t/\t.Sm/\Q (.int (Z6 t)) H
def zeZ:Sp:=fun vs H Q _=>∃(v:V)(t:T),vs=[v]/\RT H v t/\t.Sm/\∀H',Same H H'->Q (.bl (zai t)) H'
theorem zkV(a b:Nat):decide (([a]:List Nat)<[b])=decide (a<b):=by
 rw[xG,decide_eq_true_iff,decide_eq_true_iff]
 constructor
 ·intro h
  rcases uD.mp h with h|⟨_,h⟩
  ·exact h
  ·exact absurd h (List.not_lt_nil _)
 ·exact fun h=>uD.mpr (.inl h)
theorem zj1:FnScope ["thing"] ["thing"] (zr zbk):=mkSc rfl (by decide +kernel)
theorem zj2(F:Fun K "is_number" "is_number" zbk f fd)(m_isi:mg "isinstance"=none)(m_int:mg "int"=none)(m_bool:mg "bool"=none):FnOk P w K mg base CX0 (k+1) f fd ["thing"] zc2:=by
 refine F.ok zj1 (by rintro _ _ _ _ ⟨_,_,rfl,_⟩;rfl) fun cdv A outer s H vs Q E hr h=>?_
 obtain⟨v,t,rfl,rt,q⟩:=h
 refine⟨_,(zq (zw (zas (zB Zy rfl m_isi Zq (zc (pv 0) (zc (zaM rfl m_int zcL) zi))) (zaC (zmD (zB Zy rfl m_isi Zq (zc (pv 0) (zc (zaM rfl m_bool zhk) zi)))))))),?_⟩
 cases rt with
 |non=>exact⟨_,rfl,_,_,_,_,rfl,.non,zmY,_,rfl,iteF q⟩
 |bl b=>exact⟨_,rfl,_,_,_,_,rfl,.bl b,zmX,_,rfl,iteT ⟨_,rfl,_,_,_,_,rfl,.bl b,zm2,_,rfl,q⟩⟩
 |num i=>exact⟨_,rfl,_,_,_,_,rfl,.int i,zmV,_,rfl,iteT ⟨_,rfl,_,_,_,_,rfl,.int i,zm1,_,rfl,q⟩⟩
 |txt x=>exact⟨_,rfl,_,_,_,_,rfl,.str x,zmW,_,rfl,iteF q⟩
 |tup e _ _=>exact⟨_,rfl,_,_,_,_,rfl,.tup e,zmU,_,rfl,iteF q⟩
 |lst e=>exact⟨_,rfl,_,_,_,_,rfl,.lst e,zmZ,_,rfl,iteF q⟩
 |dic e=>exact⟨_,rfl,_,_,_,_,rfl,.dK e,zm0,_,rfl,iteF q⟩
theorem ziC:FnScope ["sign"] ["sign"] (zr zcM):=mkSc rfl (by decide +kernel)
theorem zhm(c d:Nat):(!decide (V.str ⟨#[c]⟩=V.str ⟨#[d]⟩))=decide (c≠d):=by
 rw[xG]
 simp
theorem ziD(F:Fun K "is_sign" "is_sign" zcM f fd)(m_ord:mg "ord"=none)(m_PERCENT:∃t,mg "PERCENT"=some (.int 37 t)):FnOk P w K mg base CX0 (k+1) f fd ["sign"] zgA:=by
 refine F.ok ziC (by rintro _ _ _ _ ⟨_,rfl,_⟩;rfl) fun cdv A outer s H vs Q E hr h=>?_
 obtain⟨c,rfl,q⟩:=h
 refine⟨_,(zq (zw (zas (zjF zeV zeV zA (pv 0) zA) (zas (Zh zjD (pv 0) zA (nomark _)) (zaC (Zh zjD (zB (zjH) rfl m_ord ziq (zc (pv 0) zi)) (zah rfl m_PERCENT) (nomark _))))))),?_⟩
 have e32:(uU " ").cps.toList=[32]:=by decide +kernel
 have e126:(uU "~").cps.toList=[126]:=by decide +kernel
 have e34:uU "\""=⟨#[34]⟩:=by decide +kernel
 have l1:(!decide ((Str.mk #[c]).cps.toList<(uU " ").cps.toList))=decide (32<=c):=by rw[e32];show (!decide (([c]:List Nat)<[32]))=_;rw[zkV,xG];simp
 have l2:(!decide ((uU "~").cps.toList<(Str.mk #[c]).cps.toList))=decide (c<=126):=by rw[e126];show (!decide (([126]:List Nat)<[c]))=_;rw[zkV,xG];simp
 have l3:(!decide (V.str ⟨#[c]⟩=V.str (uU "\"")))=decide (c≠34):=by rw[e34];exact zhm c 34
 have l4:(!decide (V.int ((((Str.mk #[c]).cps.getD 0 0:Nat)):Int)=V.int 37))=decide (c≠37):=by
  show (!decide (V.int (c:Int)=V.int 37))=decide (c≠37)
  rw[xG]
  simp
  lia
 refine⟨_,rfl,_,_,rfl,rfl,_,rfl,?_⟩
 have fin:∀b:Bool,zcg c=b->Q (.bl b) H:=fun b e=>by rw[←e];exact q
 refine ite2 (fun e=>?_) (fun e=>?_)
 ·have e1:decide (32<=c)=true:=by rw[←l1];exact e
  refine⟨_,_,rfl,rfl,_,rfl,?_⟩
  refine ite2 (fun e=>?_) (fun e=>?_)
  ·have e2:decide (c<=126)=true:=by rw[←l2];exact e
   refine⟨_,rfl,rfl,_,rfl,?_⟩
   refine ite2 (fun e=>?_) (fun e=>?_)
   ·have e3:decide (c≠34)=true:=by rw[←l3];exact e
    refine⟨_,rfl,_,rfl,rfl,rfl,fin _ ?_⟩
    rw[l4]
    unfold zcg
    rw[e1,e2,e3]
    rfl
   ·have e3:decide (c≠34)=false:=by rw[←l3];exact xI.mpr e
    refine fin _ ?_
    unfold zcg
    rw[e1,e2,e3]
    rfl
  ·have e2:decide (c<=126)=false:=by rw[←l2];exact xI.mpr e
   refine fin _ ?_
   unfold zcg
   rw[e1,e2]
   rfl
 ·have e1:decide (32<=c)=false:=by rw[←l1];exact xI.mpr e
  refine⟨_,rfl,iteF (fin _ ?_)⟩
  unfold zcg
  rw[e1]
  rfl
theorem zlK:FnScope ["thing","levels"] ["thing","levels"] (zr zaX):=mkSc rfl (by decide +kernel)
theorem all_map{α:Type}(p:α->Bool)(l:List α):(l.map p).all id=l.all p:=by rw[uQ];rfl
theorem zlL(F:Fun K "fits_alone" "fits_alone" zaX f fd)(G_is_number:Have P w K mg base "is_number" k ["thing"] zc2)(G_is_sign:Have P w K mg base "is_sign" k ["sign"] zgA)
  (m_isi:mg "isinstance"=none) (m_str:mg "str"=none) (m_tuple:mg "tuple"=none) (m_len:mg "len"=none) (m_all:mg "all"=none) (m_abs:mg "abs"=none) (m_MOST_SIGNS:∃t,mg "MOST_SIGNS"=some (.int 400 t)) (m_MOST_ITEMS:∃t,mg "MOST_ITEMS"=some (.int 60 t)):
  FnOk P w K mg base CX0 (k+1) f fd ["thing","levels"] zkU:=by
 refine F.ok zlK (by rintro _ _ _ _ ⟨_,_,_,rfl,_⟩;rfl) fun cdv A outer s H vs Q E hr h=>?_
 obtain⟨v,t,lv,rfl,rt,sm,q⟩:=h
 refine⟨_,(zj (zN (zZ (zy G_is_number hr rfl (zc (pv 0) zi))) (zq (zw (Zh zha (zB (zjG) rfl m_abs zir (zc (pv 0) zi)) (zK zcA zk zk) (nomark _)))) zC)
  (zj (zN (zZ (zB Zy rfl m_isi Zq (zc (pv 0) (zc (zaM rfl m_str zaq) zi)))) (zq (zw (zas (Zh zln (zB zP rfl m_len tD (zc (pv 0) zi)) (zah rfl m_MOST_SIGNS) (nomark _)) (zaC (zB (zbf rfl) rfl m_all zeX (zc (Zx [] [] rfl rfl (by decide +kernel) rfl (by decide +kernel) rfl (by decide +kernel) trivial rfl trivial (zmT (pv 0)) (fun C s H fp=>⟨Zl,(zy G_is_sign hr rfl (zc (pv 0) zi))⟩)) zi)))))) zC)
  (zq (zw (zas (zB Zy rfl m_isi Zq (zc (pv 0) (zc (zaM rfl m_tuple zM) zi))) (zas (Zh zln (zB zP rfl m_len tD (zc (pv 0) zi)) (zah rfl m_MOST_ITEMS) (nomark _)) (zaC (Zh zdJ (pv 1) zk (nomark _))))))))),?_⟩
 have q0:∀b:Bool,zdy lv t=b->Q (.bl b) H:=fun b e=>by rw[←e];exact q H (Sr H)
 refine⟨_,rfl,v,t,rfl,rt,_,rfl,?_⟩
 cases rt with
 |non=>exact iteF ⟨_,rfl,_,_,_,_,rfl,.non,zkP,_,rfl,iteF ⟨_,rfl,_,_,_,_,rfl,.non,zkL,_,rfl,iteF (q0 _ rfl)⟩⟩
 |bl b=>exact iteF ⟨_,rfl,_,_,_,_,rfl,.bl b,zkO,_,rfl,iteF ⟨_,rfl,_,_,_,_,rfl,.bl b,zkK,_,rfl,iteF (q0 _ rfl)⟩⟩
 |lst e=>exact iteF ⟨_,rfl,_,_,_,_,rfl,.lst e,zkQ,_,rfl,iteF ⟨_,rfl,_,_,_,_,rfl,.lst e,zkM,_,rfl,iteF (q0 _ rfl)⟩⟩
 |dic e=>exact iteF ⟨_,rfl,_,_,_,_,rfl,.dK e,zkR,_,rfl,iteF ⟨_,rfl,_,_,_,_,rfl,.dK e,zkN,_,rfl,iteF (q0 _ rfl)⟩⟩
 |num i=>
  refine iteT ⟨_,rfl,i,rfl,_,_,rfl,rfl,⟨by decide,by decide,by decide⟩,_,_,rfl,rfl,q0 _ ?_⟩
  show decide (-(10 ^ 60)<i/\i<10 ^ 60)=decide ((if i<0 then -i else i)<10 ^ (60:Int).toNat)
  have e:(10:Int) ^ (60:Int).toNat=10 ^ 60:=rfl
  rw[e,xG,decide_eq_true_iff,decide_eq_true_iff]
  constructor
  ·intro h
   split<;>lia
  ·split<;>intro h<;>lia
 |txt x=>
  refine iteF ⟨_,rfl,_,_,_,_,rfl,.str x,zb7,_,rfl,iteT ?_⟩
  have hx:x.length<=100000:=sm
  refine⟨_,rfl,_,_,rfl,⟨small (by lia),rfl⟩,_,_,rfl,rfl,_,rfl,?_⟩
  refine ite2 (fun e=>?_) (fun e=>?_)
  ·have e1:(x.length:Int)<=400:=of_decide_eq_true e
   dsimp only[tRet,tOp,tC,tCB,zcD,tNil]
   have hsz:x.cps.size=x.length:=rfl
   refine zlA (x.cps.toList.map fun c=>V.bl (zcg c)) (by rfl) (by rw[yB];simp) (by rw[hsz];exact small (by lia)) (fun i c y H1 R hc hy s1 hR=>?_) (fun H1 D s1 hD=>?_)
   ·have hc':x.cps.toList[i]?=some c:=by simpa using hc
    rw[yF,hc'] at hy
    cases hy
    exact⟨_,rfl,c,rfl,hR _ (Sr _)⟩
   ·refine⟨D,x.cps.toList.map zcg,rfl,Sl ?_,?_⟩
    ·rw[zf,vN];rfl
    ·have:=q _ (s1.trans (Sn (o:=.lst (x.cps.toList.map fun c=>V.bl (zcg c))) hD))
     rw[all_map]
     have e3:zdy lv (.txt x)=x.cps.toList.all zcg:=by
      show (decide (x.length<=400)&&zbq x)=_
      rw[decide_eq_true (by lia)]
      rfl
     rw[←e3]
     exact this
  ·have e1:¬(x.length:Int)<=400:=of_decide_eq_false (xI.mpr e)
   refine q0 _ ?_
   show (decide (x.length<=400)&&zbq x)=_
   rw[decide_eq_false (by lia)]
   rfl
 | @tup a vs ts e l _=>
  refine iteF ⟨_,rfl,_,_,_,_,rfl,.tup e,zdw,_,rfl,iteF ?_⟩
  refine⟨_,rfl,_,_,_,_,rfl,.tup e,zcK,_,rfl,iteT ?_⟩
  refine⟨_,rfl,_,_,rfl,.inr ⟨_,Sq e,rfl⟩,_,_,rfl,rfl,_,rfl,?_⟩
  refine ite2 (fun c=>?_) (fun c=>?_)
  ·have c1:(vs.length:Int)<=60:=of_decide_eq_true c
   refine⟨_,rfl,_,_,rfl,rfl,q0 _ ?_⟩
   show (decide (ts.length<=60)&&decide (0<lv))=_
   rw[decide_eq_true (by lia),vV]
  ·have c1:¬(vs.length:Int)<=60:=of_decide_eq_false (xI.mpr c)
   refine q0 _ ?_
   show (decide (ts.length<=60)&&decide (0<lv))=_
   rw[decide_eq_false (by lia),vP]
theorem zj3:FnScope ["worth"] ["worth"] (zr zis):=mkSc rfl (by decide +kernel)
theorem zj4(F:Fun K "size_alone" "size_alone" zis f fd)(m_isi:mg "isinstance"=none)(m_str:mg "str"=none)(m_len:mg "len"=none):FnOk P w K mg base CX0 (k+1) f fd ["worth"] ziB:=by
 refine F.ok zj3 (by rintro _ _ _ _ ⟨_,_,rfl,_⟩;rfl) fun cdv A outer s H vs Q E hr h=>?_
 obtain⟨v,t,rfl,rt,sm,q⟩:=h
 refine⟨_,zq (zw (ZO (zZ (zB Zy rfl m_isi Zq (zc (pv 0) (zc (zaM rfl m_str zaq) zi)))) (zK ZP zk (zB zP rfl m_len tD (zc (pv 0) zi))) zk)),?_⟩
 cases rt with
 |non=>exact⟨_,rfl,_,_,_,_,rfl,.non,zkP,_,rfl,iteF q⟩
 |bl b=>exact⟨_,rfl,_,_,_,_,rfl,.bl b,zkO,_,rfl,iteF q⟩
 |num i=>exact⟨_,rfl,_,_,_,_,rfl,.int i,zeW,_,rfl,iteF q⟩
 |lst e=>exact⟨_,rfl,_,_,_,_,rfl,.lst e,zkQ,_,rfl,iteF q⟩
 |dic e=>exact⟨_,rfl,_,_,_,_,rfl,.dK e,zkR,_,rfl,iteF q⟩
 |tup e _ _=>exact⟨_,rfl,_,_,_,_,rfl,.tup e,zdw,_,rfl,iteF q⟩
 |txt x=>
  have hx:x.length<=100000:=sm
  refine⟨_,rfl,_,_,_,_,rfl,.str x,zb7,_,rfl,iteT ?_⟩
  exact⟨_,rfl,_,_,rfl,⟨small (by lia),rfl⟩,_,_,rfl,rfl,q⟩
structure StR(H0 H:Hp)(vs:List V)(ps:List (T×Int)):Prop where
 len:vs.length=ps.length
 at':∀(i:Nat)(v:V)(p:T×Int),vs[i]?=some v->ps[i]?=some p->∃(a:Addr)(u:V),v=.ref a/\H a=some (.tup [u,.int p.2])/\RT H0 u p.1
theorem StR.mono{H0 H H':Hp}(s:Tups H H'){vs:List V}{ps:List (T×Int)}(h:StR H0 H vs ps):StR H0 H' vs ps:=
 ⟨h.len,fun i v p e1 e2=>let ⟨a,u,x,y,z⟩:=h.at' i v p e1 e2;⟨a,u,x,s _ _ y,z⟩⟩
theorem StR.nil{H0 H:Hp}:StR H0 H [] []:=⟨rfl,fun i v p e=>by simp at e⟩
theorem StR.app{H0 H:Hp}{vs us:List V}{ps qs:List (T×Int)}(h:StR H0 H vs ps)(g:StR H0 H us qs):StR H0 H (vs++us) (ps++qs):=by
 refine⟨by rw[yD,yD,h.len,g.len],fun i v p e1 e2=>?_⟩
 by_cases hi:i<vs.length
 ·rw[yL hi] at e1
  rw[yL (h.len▸hi)] at e2
  exact h.at' i v p e1 e2
 ·rw[yK (by lia)] at e1
  rw[yK (by have:=h.len;lia)] at e2
  rw[h.len] at e1
  exact g.at' _ v p e1 e2
theorem StR.one{H0 H:Hp}{a:Addr}{u:V}{p:T×Int}(e:H a=some (.tup [u,.int p.2]))(r:RT H0 u p.1):StR H0 H [.ref a] [p]:=by
 refine⟨rfl,fun i v' p' e1 e2=>?_⟩
 cases i with
 |zero=>
  have q1:V.ref a=v':=by simpa using e1
  have q2:p=p':=by simpa using e2
  subst q1 q2
  exact⟨a,u,rfl,e,r⟩
 |succ j=>simp at e1
theorem StR.front{H0 H:Hp}{vs:List V}{ps:List (T×Int)}{v:V}{p:T×Int}(h:StR H0 H (vs++[v]) (ps++[p])):StR H0 H vs ps/\∃(a:Addr)(u:V),v=.ref a/\H a=some (.tup [u,.int p.2])/\RT H0 u p.1:=by
 have l:=h.len
 rw[yD,yD] at l
 have l':vs.length=ps.length:=by simpa using l
 refine⟨⟨l',fun i v' p' e1 e2=>?_⟩,?_⟩
 ·have h1:=(yC.mp e1).1
  exact h.at' i v' p' (by rw[yL h1];exact e1) (by rw[yL (l'▸h1)];exact e2)
 ·exact h.at' vs.length v p (by rw[yK (yE _)];simp) (by rw[l',yK (yE _)];simp)
theorem zaF{H H':Hp}(s:Same H H'):Tups H H':=fun a vs e=>s a _ e
theorem ze0{H H1:Hp}{l:Addr}{o:HO}(s:Same H H1)(hl:H l=none):Same H (upd H1 l o):=fun c u e=>by rw[zu (zm e hl)];exact s c u e
noncomputable def szs:List (T×Int)->Int
 |[]=>0
 |p::r=>p.1.size+szs r
noncomputable def nds:List (T×Int)->Nat
 |[]=>0
 |p::r=>p.1.nodes+nds r
def fts:List (T×Int)->Bool
 |[]=>true
 |p::r=>zc1 p.1 p.2&&fts r
theorem ziE(a b:List (T×Int)):szs (a++b)=szs a+szs b:=by
 induction a with
 |nil=>simp[szs]
 |cons p r ih=>simp only[xO,szs,ih];lia
theorem ziF(a b:List (T×Int)):nds (a++b)=nds a+nds b:=by
 induction a with
 |nil=>simp[nds]
 |cons p r ih=>simp only[xO,nds,ih];lia
theorem ziG(a b:List (T×Int)):fts (a++b)=(fts a&&fts b):=by
 induction a with
 |nil=>simp[fts]
 |cons p r ih=>simp only[xO,fts,ih,uJ]
theorem zkW:∀ps:List (T×Int),0<=szs ps
 |[]=>by simp[szs]
 |p::r=>by have h1:=zeY p.1;have h2:=zkW r;simp only[szs];lia
theorem zlM(ts:List T)(lv:Int):szs (ts.map fun t=>(t,lv))=tsizes ts:=by
 induction ts with
 |nil=>rfl
 |cons t r ih=>simp only[yX,szs,tsizes,ih]
theorem zlN(ts:List T)(lv:Int):nds (ts.map fun t=>(t,lv))=tnodes ts:=by
 induction ts with
 |nil=>rfl
 |cons t r ih=>simp only[yX,nds,tnodes,ih]
theorem zlO(ts:List T)(lv:Int):fts (ts.map fun t=>(t,lv))=fitsA ts lv:=by
 induction ts with
 |nil=>rfl
 |cons t r ih=>simp only[yX,fts,fitsA,ih]
def valB(ps:List (T×Int))(whole:Int):Bool:=fts ps&&decide (whole+szs ps<=1000)
theorem zhn{t:T}{lv:Int}(h:zdy lv t=false):zc1 t lv=false:=by
 cases t with
 |tup ts=>
  have h:(decide (ts.length<=60)&&decide (0<lv))=false:=h
  simp only[zc1,h,vP]
 |num i=>exact h
 |txt x=>exact h
 |non=>rfl
 |bl b=>rfl
 |lst=>rfl
 |dic=>rfl
theorem zho{t:T}{lv:Int}(h:zdy lv t=true)(hn:∀ts,t≠.tup ts):zc1 t lv=true/\t.size=Z6 t:=by
 cases t with
 |tup ts=>exact absurd rfl (hn ts)
 |num i=>exact⟨h,rfl⟩
 |txt x=>exact⟨h,rfl⟩
 |non=>cases h
 |bl b=>cases h
 |lst=>cases h
 |dic=>cases h
theorem zhp(t:T):Z6 t<=t.size/\1<=Z6 t:=by
 cases t with
 |tup ts=>have:=tsizes_nn ts;simp only[Z6,T.size];lia
 |txt x=>simp only[Z6,T.size];lia
 |_=>simp[Z6,T.size]
theorem Z7:FnScope ["thing","waiting","whole","pair","item","levels"] ["thing"] (zr zbQ):=mkSc rfl (by decide +kernel)
theorem zhq(F:Fun K "is_worth" "is_worth" zbQ f fd)(G_fits_alone:Have P w K mg base "fits_alone" k ["thing","levels"] zkU)(G_size_alone:Have P w K mg base "size_alone" k ["worth"] ziB)
  (m_isi:mg "isinstance"=none) (m_tuple:mg "tuple"=none) (m_len:mg "len"=none) (m_MOST_DEPTH:∃t,mg "MOST_DEPTH"=some (.int 12 t)) (m_MOST_SIZE:∃t,mg "MOST_SIZE"=some (.int 1000 t)):
  FnOk P w K mg base CX0 (k+1) f fd ["thing"] zeZ:=by
 refine F.ok Z7 (by rintro _ _ _ _ ⟨_,_,rfl,_⟩;rfl) fun cdv A outer s H vs Q E hr h=>?_
 obtain⟨v,t,rfl,rt,sm,q⟩:=h
 refine⟨_,(zj (zG (i:=1) Z7.nd rfl (Or.inl rfl) (Zb (zc (zE (zc (pv 0) (zc (zah rfl m_MOST_DEPTH) zi))) zi)))
  (zj (zG (i:=2) Z7.nd rfl (Or.inl rfl) zk)
  (zj (zbw tL (zH zdJ (zB zP rfl m_len tD (zc (pv 1) zi)) zk (nomark _)) (zj (zG (i:=3) Z7.nd rfl (Or.inl rfl) (zdu tM PySem.F.slot_list_pop PySem.F.type_list_pop zmQ (pv 1)))
  (zj (zG (i:=4) Z7.nd rfl (Or.inl rfl) (zx zD (pv 3) zk (fun _ _=>rfl)))
  (zj (zG (i:=5) Z7.nd rfl (Or.inr rfl) (zx zD (pv 3) zk (fun _ _=>rfl)))
  (zj (zN (ZK (zZ (zy G_fits_alone hr rfl (zc (pv 4) (zc (pv 5) zi))))) (zq (zw zfC)) zC)
  (zj (zmF (i:=2) Z7.nd rfl (Or.inl rfl) (zy G_size_alone hr rfl (zc (pv 4) zi)) (znE zlm))
  (zj (zN (zH zdJ (pv 2) (zah rfl m_MOST_SIZE) (nomark _)) (zq (zw zfC)) zC)
  (zq (zN (zZ (zB Zy rfl m_isi Zq (zc (pv 4) (zc (zaM rfl m_tuple zM) zi)))) (zq (Ze (zcf tM PySem.F.slot_list_extend PySem.F.type_list_extend zij (pv 1) (zc (Zx [5] ["levels"] rfl rfl (by decide +kernel) rfl (by decide +kernel) rfl (by decide +kernel) ⟨rfl,trivial⟩ rfl ⟨⟨rfl,rfl,Or.inr (Or.inl rfl),(by show (some NameKind.cell:Option NameKind)≠some .local;decide),⟨_,rfl⟩⟩,trivial⟩ (zcw (pv 4)) (fun C s H fp=>⟨Zl,(zE (zc (pv 0) (zc (zK zaf (pv 1) zk) zi)))⟩)) zi)))) zC)))))))))
  (zq (zw zfC))))),?_⟩
 refine⟨_,rfl,zl2,fun a ha=>?_⟩
 refine⟨zl1,fun l hl=>?_⟩
 have s1:Same H (upd (upd H a (.tup [v,.int 12])) l (.lst [.ref a])):=(Sn ha).trans (Sn hl)
 have hlH:H l=none:=by
  cases e:H l with
  |none=>rfl
  |some o=>have:=Sn (o:=.tup [v,.int 12]) ha l o e;rw[hl] at this;cases this
 have ea:upd (upd H a (.tup [v,.int 12])) l (.lst [.ref a]) a=some (.tup [v,.int 12]):=by rw[zu (zm zf hl)];exact zf
 have st0:StR H (upd (upd H a (.tup [v,.int 12])) l (.lst [.ref a])) [.ref a] [(t,12)]:=StR.one (p:=(t,12)) ea rt
 refine⟨fun m σ' H'=>∃(vs:List V)(ps:List (T×Int))(whole:Int)(o3 o4 o5:Option V),σ'=[some v,some (.ref l),some (.int whole),o3,o4,o5]/\H' l=some (.lst vs)/\StR H H' vs ps/\m=nds ps/\0<=whole/\whole<=1000 /\
   (vs.length:Int)<=60*whole+1/\(∀p∈ps,p.1.Sm)/\valB ps whole=zai t/\Same H H',
  ⟨_,[.ref a],[(t,12)],0,none,none,none,rfl,zf,st0,rfl,Int.le_refl _,by decide,by simp,fun p hp=>by rw[yM.mp hp];exact sm,?_,s1⟩,fun m σ' H' hW=>?_⟩
 ·unfold valB zai
  simp only[fts,szs,wF]
  congr 2
  rw[eq_iff_iff]
  constructor<;>intro h<;>lia
 obtain⟨vs,ps,whole,o3,o4,o5,rfl,hlv,hst,hm,hw0,hw1,hvl,hsm,hval,sH⟩:=hW
 refine⟨_,rfl,_,_,rfl,.inl ⟨_,Sl hlv,rfl⟩,_,_,rfl,rfl,_,rfl,?_⟩
 refine ite2 (fun c=>?_) (fun c=>?_)
 ·have c1:(0:Int)<vs.length:=of_decide_eq_true c
  refine⟨_,fun _ _ h=>h,?_⟩
  rcases uE vs with rfl|⟨vs',vl,e⟩
  ·simp at c1
  rw[uF] at e
  subst e
  rcases uE ps with rfl|⟨ps',p,e⟩
  ·have:=hst.len;simp at this
  rw[uF] at e
  subst e
  obtain⟨hst',ap,u,rfl,hap,rtu⟩:=hst.front
  have ed:(vs'++[V.ref ap]).dropLast=vs':=List.dropLast_concat
  have smp:p.1.Sm:=hsm p (by simp)
  refine⟨_,rfl,.inl ⟨rfl,_,Sl hlv⟩,l,_,.ref ap,rfl,rfl,hlv,by simp,?_⟩
  rw[ed]
  have sH1:Same H (upd H' l (.lst vs')):=ze0 sH hlH
  have hap1:upd H' l (.lst vs') ap=some (.tup [u,.int p.2]):=zbA hlv _ _ hap
  refine⟨_,rfl,ap,_,0,u,rfl,rfl,Sq hap1,rfl,?_⟩
  refine⟨_,rfl,ap,_,1,.int p.2,rfl,rfl,Sq hap1,rfl,?_⟩
  refine⟨_,rfl,_,rfl,u,p.1,p.2,rfl,rtu.mono sH1,smp,fun H2 s2=>⟨_,rfl,?_⟩⟩
  have vb:valB (ps'++[p]) whole=((fts ps'&&zc1 p.1 p.2)&&decide (whole+(szs ps'+p.1.size)<=1000)):=by
   unfold valB
   rw[ziG,ziE]
   simp only[fts,szs,wF]
   congr 2
   rw[eq_iff_iff]
   constructor<;>intro h<;>lia
  have hsn:=zkW ps'
  have hal:=zhp p.1
  have sH2:=sH1.trans s2
  cases hal1:zdy p.2 p.1 with
  |false=>
   refine iteT ?_
   have:zai t=false:=by
    rw[←hval,vb,zhn hal1]
    simp
   have fin:=q _ sH2
   rw[this] at fin
   exact fin
  |true=>
   refine iteF ?_
   refine⟨_,rfl,_,rfl,u,p.1,rfl,rtu.mono sH2,smp,_,_,rfl,rfl,?_⟩
   refine⟨_,rfl,_,_,rfl,rfl,_,rfl,?_⟩
   refine ite2 (fun c2=>?_) (fun c2=>?_)
   ·have c3:(1000:Int)<whole+Z6 p.1:=of_decide_eq_true c2
    have:zai t=false:=by
     rw[←hval,vb,decide_eq_false (by lia)]
     simp
    have fin:=q _ sH2
    rw[this] at fin
    exact fin
   ·have c3:¬(1000:Int)<whole+Z6 p.1:=of_decide_eq_false (xI.mpr c2)
    have hl2:H2 l=some (.lst vs'):=s2 _ _ zf
    have hst2:StR H H2 vs' ps':=(hst'.mono (zbA hlv)).mono (zaF s2)
    have hvl':((vs'.length:Nat):Int)+1<=60*whole+1:=by
     rw[yD] at hvl
     have:([V.ref ap]:List V).length=1:=rfl
     lia
    have hnd:nds (ps'++[p])=nds ps'+p.1.nodes:=by rw[ziF];simp[nds]
    have hsm':∀p'∈ps',p'.1.Sm:=fun p' hp'=>hsm p' (vF _ hp')
    have leaf:∀(t':T),p.1=t'->(∀ts,t'≠.tup ts)->p.1.nodes=1->∃m',m'<m/\∃(vs:List V)(ps:List (T×Int))(whole':Int)(o3 o4 o5:Option V),[some v,some (.ref l),some (.int (whole+Z6 p.1)),some (.ref ap),some u,some (.int p.2)]=[some v,some (.ref l),some (.int whole'),o3,o4,o5]/\H2 l=some (.lst vs)/\StR H H2 vs ps/\m'=nds ps/\0<=whole'/\whole'<=1000 /\
      (vs.length:Int)<=60*whole'+1/\(∀p∈ps,p.1.Sm)/\valB ps whole'=zai t/\Same H H2:=fun t' e hn hnode=>by
     obtain⟨hf,hz⟩:=zho hal1 (by rw[e];exact hn)
     refine⟨nds ps',by lia,vs',ps',whole+Z6 p.1,_,_,_,rfl,hl2,hst2,rfl,by lia,by lia,by lia,hsm',?_,sH2⟩
     rw[←hval,vb,hf,hz]
     unfold valB
     rw[wF]
     congr 2
     rw[eq_iff_iff]
     constructor<;>intro h<;>lia
    obtain⟨tt,lv⟩:=p
    have rt2:RT H2 u tt:=rtu.mono sH2
    cases rt2 with
    |non=>exact⟨_,rfl,_,_,_,_,rfl,.non,zkL,_,rfl,iteF (leaf _ rfl (fun _ z=>nomatch z) rfl)⟩
    |bl b=>exact⟨_,rfl,_,_,_,_,rfl,.bl b,zkK,_,rfl,iteF (leaf _ rfl (fun _ z=>nomatch z) rfl)⟩
    |num i=>exact⟨_,rfl,_,_,_,_,rfl,.int i,zdv,_,rfl,iteF (leaf _ rfl (fun _ z=>nomatch z) rfl)⟩
    |txt x=>exact⟨_,rfl,_,_,_,_,rfl,.str x,zb6,_,rfl,iteF (leaf _ rfl (fun _ z=>nomatch z) rfl)⟩
    |lst e=>exact⟨_,rfl,_,_,_,_,rfl,.lst e,zkM,_,rfl,iteF (leaf _ rfl (fun _ z=>nomatch z) rfl)⟩
    |dic e=>exact⟨_,rfl,_,_,_,_,rfl,.dK e,zkN,_,rfl,iteF (leaf _ rfl (fun _ z=>nomatch z) rfl)⟩
    | @tup a2 us ts e2 l2 at2=>
     refine⟨_,rfl,_,_,_,_,rfl,.tup e2,zcK,_,rfl,iteT ?_⟩
     have ha60:ts.length<=60:=by
      have h:(decide (ts.length<=60)&&decide (0<lv))=true:=hal1
      rw[xF] at h
      exact of_decide_eq_true h.1
     have hlv0:0<lv:=by
      have h:(decide (ts.length<=60)&&decide (0<lv))=true:=hal1
      rw[xF] at h
      exact of_decide_eq_true h.2
     refine⟨_,rfl,.inl ⟨rfl,_,Sl hl2⟩,?_⟩
     have at0:∀(i:Nat)(x:V)(t':T),us[i]?=some x->ts[i]?=some t'->RT H x t':=by
      cases rtu with
      | @tup a3 us3 ts3 e3 l3 at3=>
       have:us3=us:=by
        have h1:=sH2 _ _ e3
        rw[e2] at h1
        cases h1
        rfl
       subst this
       exact at3
     dsimp only[zcD,tNil]
     refine⟨_,rfl,a2,rfl,⟨us,Sq e2⟩,fun i m2 xs H3=>i<=us.length/\m2=us.length-i/\StR H H3 xs ((ts.take i).map fun t'=>(t',lv-1))/\Same H2 H3,⟨_,yN _,rfl,by simpa using StR.nil,Sr _⟩,fun i m2 xs H3 hW=>?_⟩
     obtain⟨hi,hm2,hxs,s3⟩:=hW
     have hxl:xs.length<=60:=by
      have:=hxs.len
      rw[yB,yP] at this
      lia
     refine⟨small (by lia),?_⟩
     have e3:=s3 _ _ e2
     by_cases hlt:i<us.length
     ·refine .inr ⟨⟨us,us[i],Sq e3,yA hlt⟩,fun y H4 hy=>?_⟩
      obtain⟨rfl,hy⟩:=hy
      have hy:=hy us (Sq e3)
      have hti:ts[i]?=some ts[i]:=yA (by lia)
      refine iteT ?_
      refine⟨_,rfl,_,rfl,_,_,rfl,rfl,zl2,fun a5 ha5=>?_⟩
      have s5:=Sn (o:=.tup [y,.int (lv-1)]) ha5
      refine⟨us.length-(i+1),by lia,by lia,rfl,?_,s3.trans s5⟩
      rw[Zg hti,xN]
      exact (hxs.mono (zaF s5)).app (StR.one (p:=(ts[i],lv-1)) zf (at0 i y ts[i] hy hti))
     ·have ei:i=us.length:=by lia
      refine .inl ⟨⟨us,Sq e3,by lia⟩,fun D hD=>?_⟩
      have et:ts.take i=ts:=xJ (by lia)
      rw[et] at hxs
      have hl3:=s3 _ _ hl2
      have hl4:upd H3 D (.lst xs) l=some (.lst vs'):=by rw[zu (zm hl3 hD)];exact hl3
      refine⟨l,D,vs',xs,rfl,rfl,hl4,zf,?_,?_⟩
      ·have h60:vs'.length<=60001:=by lia
       exact small (by lia)
      ·have s4:=Sn (o:=.lst xs) hD
       have t5:=zbA (o:=.lst (vs'++xs)) hl4
       refine⟨nds ps'+tnodes ts,?_,vs'++xs,ps'++ts.map (fun t'=>(t',lv-1)),whole+1,_,_,_,rfl,zf,?_,?_,by lia,?_,?_,?_,?_,?_⟩
       ·have:(T.tup ts).nodes=1+tnodes ts:=rfl
        have h9:nds (ps'++[(T.tup ts,lv)])=nds ps'+(T.tup ts).nodes:=hnd
        lia
       ·exact ((((hst2.mono (zaF s3)).mono (zaF s4)).mono t5)).app ((hxs.mono (zaF s4)).mono t5)
       ·rw[ziF,zlN]
       ·have:Z6 (T.tup ts)=1:=rfl
        have c4:¬(1000:Int)<whole+Z6 (T.tup ts):=c3
        lia
       ·rw[yD]
        lia
       ·intro p' hp'
        rcases yZ.mp hp' with hp'|hp'
        ·exact hsm' p' hp'
        ·obtain⟨t',ht',rfl⟩:=xP.mp hp'
         exact zlJ (show Sms ts from (show ts.length<=100000/\Sms ts from smp).2) t' ht'
       ·rw[←hval,vb]
        unfold valB
        rw[ziG,zlO,ziE,zlM]
        have f1:zc1 (T.tup ts) lv=fitsA ts (lv-1):=by
         show (decide (ts.length<=60)&&decide (0<lv)&&fitsA ts (lv-1))=_
         rw[decide_eq_true ha60,decide_eq_true hlv0]
         rfl
        have f2:(T.tup ts).size=1+tsizes ts:=rfl
        show _=((fts ps'&&zc1 (T.tup ts) lv)&&decide (whole+(szs ps'+(T.tup ts).size)<=1000))
        rw[f1,f2]
        congr 2
        rw[eq_iff_iff]
        constructor<;>intro h<;>lia
       ·exact ze0 ((sH2.trans s3).trans s4) hlH
 ·have c1:¬(0:Int)<vs.length:=of_decide_eq_false (xI.mpr c)
  have hv0:vs=[]:=xL.mp (by lia)
  have hp0:ps=[]:=xL.mp (by rw[←hst.len,hv0];rfl)
  have:zai t=true:=by
   rw[←hval,hp0]
   unfold valB
   simp only[fts,szs,vV]
   exact decide_eq_true (by lia)
  have fin:=q _ sH
  rw[this] at fin
  exact fin
end
end D
namespace L2
open PySem PySem.Spec PyProof.Rows PySem.Builtin
section
variable{prog:Program}{w:World}{A:Around}{E:Value->Shared->Prop}{s:Shared}
end
theorem zj5{X:Cx}:OpR X (binaryOp .Add) (fun x y H Q=>∃(a b:Addr)(ys:List V),x=.ref a/\y=.ref b/\SqT X.K H a []/\SqT X.K H b ys/\Q (.ref b) H):=by
 intro pins s σ H x y v u Q I rx ry h
 obtain⟨a,b,ys,rfl,rfl,ha,hb,q⟩:=h
 cases rx
 cases ry
 obtain⟨its,r1,p1,_⟩:=I.tuple ha
 obtain⟨its2,r2,p2,_⟩:=I.tuple hb
 have e0:its=[]:=by cases r1;rfl
 subst e0
 obtain⟨⟨cls,dd,data,sl⟩,ho,hc,n,hd⟩:=id p1
 obtain⟨⟨cls2,dd2,data2,sl2⟩,ho2,hc2,n2,hd2⟩:=id p2
 simp only at hc hd hc2 hd2
 subst hc hd hc2 hd2
 exact concat_meets ⟨_,ho,rfl⟩ ⟨_,ho2,rfl⟩ noFill_tuple_add seq_tuple_add PySem.F.slot_tuple_add PySem.F.entry_tuple_add (PySem.F.args_tuple_add_2 _ _)
  (tuple_addW0 a b #[] its2.toArray n n2 dd dd2 sl sl2 rfl) ⟨ho,ho2,⟨.ref b,H,I,rfl,q⟩⟩
end L2
namespace L2
open PySem PySem.Spec PyProof.Rows
end L2
namespace D
open PySem L2
mutual
noncomputable def eqW:W->W->Bool
 |.num i,.num j=>i==j
 |.txt x,.txt y=>x==y
 |.lst ws,.lst zs=>eqWs ws zs
 |.num _,.txt _=>false
 |.num _,.lst _=>false
 |.txt _,.num _=>false
 |.txt _,.lst _=>false
 |.lst _,.num _=>false
 |.lst _,.txt _=>false
noncomputable def eqWs:List W->List W->Bool
 |[],[]=>true
 |w::r,z::s=>eqW w z&&eqWs r s
 |[],_::_=>false
 |_::_,[]=>false
end
mutual
theorem Zr:∀w:W,eqW w w=true
 |.num i=>by simp[eqW]
 |.txt x=>by simp[eqW]
 |.lst ws=>eqWs_refl ws
theorem eqWs_refl:∀ws:List W,eqWs ws ws=true
 |[]=>rfl
 |w::r=>by simp only[eqWs,Zr w,eqWs_refl r,Bool.and_self]
end
theorem zgB:∀ws zs:List W,eqWs ws zs=((wK (min ws.length zs.length)).all (fun j=>eqW (ws.getD j (.num 0)) (zs.getD j (.num 0)))&&ws.length==zs.length)
 |[],[]=>rfl
 |[],_::_=>rfl
 |_::_,[]=>rfl
 |w::r,z::s=>by
  rw[eqWs,zgB r s]
  have e:min (w::r).length (z::s).length=min r.length s.length+1:=by simp only[yJ];lia
  rw[e,List.range_succ_eq_map,vU,uQ]
  have e2:((w::r).length==(z::s).length)=(r.length==s.length):=by simp
  rw[e2,uJ]
  rfl
theorem RW.inj{H:Hp}{v:V}{x:W}(h:RW H v x):∀{y:W},RW H v y->x=y:=by
 induction h with
 |num i=>intro y g;cases g;rfl
 |txt z=>intro y g;cases g;rfl
 | @lst a vs ws e l _ ih=>
  intro y g
  cases g with
  | @lst _ vs2 zs e2 l2 at2=>
   rw[e] at e2
   cases e2
   congr 1
   refine List.ext_getElem (by lia) fun i h1 h2=>?_
   exact ih i vs[i] ws[i] (yA (by lia)) (yA h1) (at2 i vs[i] zs[i] (yA (by lia)) (yA h2))
end D
namespace L2
open PySem PySem.Spec PyProof.Rows
theorem zaG:tJ (uU "list")=some (.type "list"):=by kernel_rfl
end L2
namespace D
open PySem L2
mutual
def W.Th:W->Prop
 |.num _=>True
 |.txt x=>x.length<=100000/\Signs x
 |.lst ws=>ws.length<=1000/\Ths ws
def Ths:List W->Prop
 |[]=>True
 |w::r=>w.Th/\Ths r
end
mutual
theorem zd3:∀w:W,w.Ok->w.Th
 |.num _,_=>trivial
 |.txt _,h=>⟨yQ h.1 (by decide),h.2⟩
 |.lst ws,h=>⟨yQ h.1 (by decide),ths_of ws h.2⟩
theorem ths_of:∀ws:List W,Oks ws->Ths ws
 |[],_=>trivial
 |w::r,h=>⟨zd3 w h.1,ths_of r h.2⟩
end
theorem ziH{ws:List W}(h:Ths ws):∀w∈ws,w.Th:=by
 induction ws with
 |nil=>intro w hw;cases hw
 |cons x r ih=>
  intro w hw
  rcases yS.mp hw with rfl|hw
  ·exact h.1
  ·exact ih h.2 w hw
theorem zkX{ws:List W}(h:∀w∈ws,w.Th):Ths ws:=by
 induction ws with
 |nil=>trivial
 |cons x r ih=>exact⟨h x yY,ih fun w hw=>h w (yV _ hw)⟩
mutual
noncomputable def ze1:W->Bool
 |.num i=>decide (-(10 ^ 60)<i/\i<10 ^ 60)
 |.txt x=>decide (x.length<=400)
 |.lst ws=>decide (ws.length<=60)&&fitsWs ws
noncomputable def fitsWs:List W->Bool
 |[]=>true
 |w::r=>ze1 w&&fitsWs r
end
mutual
noncomputable def W.toT:W->T
 |.num i=>.num i
 |.txt x=>.txt x
 |.lst ws=>.tup (toTs ws)
noncomputable def toTs:List W->List T
 |[]=>[]
 |w::r=>w.toT::toTs r
end
theorem zd4:∀ws:List W,toTs ws=ws.map W.toT
 |[]=>rfl
 |w::r=>by simp only[toTs,yX,zd4 r]
theorem zd5(ws:List W):(toTs ws).length=ws.length:=by rw[zd4,yB]
mutual
theorem zgC:∀w:W,w.toT.size=w.size
 |.num _=>rfl
 |.txt _=>rfl
 |.lst ws=>by simp only[W.toT,T.size,W.size,sizes_toT ws]
theorem sizes_toT:∀ws:List W,tsizes (toTs ws)=sizes ws
 |[]=>rfl
 |w::r=>by simp only[toTs,tsizes,sizes,zgC w,sizes_toT r]
end
mutual
theorem zkY:∀w:W,w.Th->w.toT.Sm
 |.num _,_=>trivial
 |.txt _,h=>h.1
 |.lst ws,h=>⟨by rw[zd5];exact yQ h.1 (by decide),sms_toT ws h.2⟩
theorem sms_toT:∀ws:List W,Ths ws->Sms (toTs ws)
 |[],_=>trivial
 |w::r,h=>⟨zkY w h.1,sms_toT r h.2⟩
end
theorem zhr{x:Str}(h:Signs x):zbq x=true:=by
 unfold zbq
 rw[xT]
 intro c hc
 have:=h c hc
 simp[zcg,this]
mutual
theorem zgD:∀(w:W)(lv:Nat),w.Th->zc1 w.toT (lv:Int)=(ze1 w&&decide (w.depth<=lv))
 |.num i,lv,_=>by
  show decide (-(10 ^ 60)<i/\i<10 ^ 60)=(decide (-(10 ^ 60)<i/\i<10 ^ 60)&&decide (0<=lv))
  rw[decide_eq_true (yN lv),wF]
 |.txt x,lv,h=>by
  show (decide (x.length<=400)&&zbq x)=(decide (x.length<=400)&&decide (0<=lv))
  rw[zhr h.2,decide_eq_true (yN lv)]
 |.lst ws,lv,h=>by
  show (decide ((toTs ws).length<=60)&&decide (0<(lv:Int))&&fitsA (toTs ws) ((lv:Int)-1))=((decide (ws.length<=60)&&fitsWs ws)&&decide (1+depths ws<=lv))
  rw[zd5]
  cases lv with
  |zero=>
   rw[decide_eq_false (show ¬(0:Int)<((0:Nat):Int) by lia),decide_eq_false (show ¬1+depths ws<=0 by lia)]
   simp
  |succ n=>
   have e:((n+1:Nat):Int)-1=(n:Int):=by lia
   rw[decide_eq_true (show (0:Int)<((n+1:Nat):Int) by lia),e,fits_toTs ws n h.2,wF,←uJ]
   congr 2
   rw[eq_iff_iff]
   constructor<;>intro h<;>lia
theorem fits_toTs:∀(ws:List W)(lv:Nat),Ths ws->fitsA (toTs ws) (lv:Int)=(fitsWs ws&&decide (depths ws<=lv))
 |[],lv,_=>by
  show true=(true&&decide (0<=lv))
  rw[decide_eq_true (yN lv)]
  rfl
 |w::r,lv,h=>by
  show (zc1 w.toT lv&&fitsA (toTs r) lv)=((ze1 w&&fitsWs r)&&decide (max w.depth (depths r)<=lv))
  rw[zgD w lv h.1,fits_toTs r lv h.2]
  have e:decide (max w.depth (depths r)<=lv)=(decide (w.depth<=lv)&&decide (depths r<=lv)):=by
   rw[xG,xF,decide_eq_true_iff,decide_eq_true_iff,decide_eq_true_iff]
   lia
  rw[e]
  cases ze1 w<;>cases fitsWs r<;>cases decide (w.depth<=lv)<;>cases decide (depths r<=lv)<;>rfl
end
def zhs(x:W):Bool:=ze1 x&&(decide (x.size<=1000)&&decide ((x.depth:Int)<=12))
theorem zfT{x:W}(h:x.Th):zai x.toT=zhs x:=by
 unfold zai zhs
 have:=zgD x 12 h
 rw[show (12:Int)=((12:Nat):Int) from rfl,this,zgC]
 have e:decide ((x.depth:Int)<=((12:Nat):Int))=decide (x.depth<=12):=by
  rw[xG,decide_eq_true_iff,decide_eq_true_iff]
  lia
 rw[e]
 cases ze1 x<;>cases decide (x.depth<=12)<;>cases decide (x.size<=1000)<;>rfl
theorem RW.toRT{H:Hp}{v:V}{x:W}(h:RW H v x):RT H v x.toT:=by
 induction h with
 |num i=>exact .num i
 |txt x=>exact .txt x
 | @lst a vs ws e l _ ih=>
  refine .tup e (by rw[zd5];exact l) fun i v t hv ht=>?_
  rw[zd4,yF] at ht
  obtain⟨w,hw,rfl⟩:=yT.mp ht
  exact ih i v w hv hw
inductive RS(K:tP)(H:Hp):V->W->Prop where
 |num (i:Int):RS K H (.int i) (.num i)
 |txt (x:Str):RS K H (.str x) (.txt x)
 |lst {a:Addr}{vs:List V}{ws:List W}:SqT K H a vs->vs.length=ws.length->(∀(i:Nat)(v:V)(w:W),vs[i]?=some v->ws[i]?=some w->RS K H v w)->RS K H (.ref a) (.lst ws)
theorem RS.mono{K:tP}{H H':Hp}(t:Same H H'){v:V}{w:W}(h:RS K H v w):RS K H' v w:=by
 induction h with
 |num i=>exact .num i
 |txt x=>exact .txt x
 |lst e l _ ih=>exact .lst (t.seqT e) l ih
theorem RW.toRS{K:tP}{H:Hp}{v:V}{w:W}(h:RW H v w):RS K H v w:=by
 induction h with
 |num i=>exact .num i
 |txt x=>exact .txt x
 |lst e l _ ih=>exact .lst (Sq e) l ih
theorem zo{H H':Hp}(s:Same H H'):Tups H H':=fun a vs e=>s a _ e
theorem Step.ofSame{b:Addr}{H H':Hp}(hb:Zt H b)(s:Same H H'):Step b H H':=⟨by obtain⟨x,y,z,e⟩:=hb;exact⟨x,y,z,s _ _ e⟩,fun c o _ e=>s c o e⟩
noncomputable def zm6:W:=.lst [.txt "wrong",.txt "great",.txt ""]
def zab(x:W):W:=if zhs x=true then .lst [.txt "made",x] else zm6
def RM(K:tP)(H:Hp)(v:V)(w:W):Prop:=RS K H v w/\∀m x,w=.lst [m,x]->∃a u,v=.ref a/\SqT K H a [.str "made",u]/\RW H u x
def zaS(K:tP)(n:Nat):Sp:=fun vs H Q _=>∃(v:V)(x:W),vs=[v]/\RW H v x/\x.Th/\x.depth<n/\∀(u:V)(H':Hp),Same H H'->RM K H' u (zab x)->Q u H'
theorem RS.two{K:tP}{H:Hp}{a:Addr}{u1 u2:V}{w1 w2:W}(e:SqT K H a [u1,u2])(r1:RS K H u1 w1)(r2:RS K H u2 w2):RS K H (.ref a) (.lst [w1,w2]):=
 .lst e rfl fun i v w hv hw=>match i,hv,hw with
  |0,hv,hw=>by
   have a1:u1=v:=by simpa using hv
   have a2:w1=w:=by simpa using hw
   rw[←a1,←a2];exact r1
  |1,hv,hw=>by
   have a1:u2=v:=by simpa using hv
   have a2:w2=w:=by simpa using hw
   rw[←a1,←a2];exact r2
  |j+2,hv,hw=>by simp at hv
theorem RS.three{K:tP}{H:Hp}{a:Addr}{u1 u2 u3:V}{w1 w2 w3:W}(e:SqT K H a [u1,u2,u3])(r1:RS K H u1 w1)(r2:RS K H u2 w2)(r3:RS K H u3 w3):RS K H (.ref a) (.lst [w1,w2,w3]):=
 .lst e rfl fun i v w hv hw=>match i,hv,hw with
  |0,hv,hw=>by
   have a1:u1=v:=by simpa using hv
   have a2:w1=w:=by simpa using hw
   rw[←a1,←a2];exact r1
  |1,hv,hw=>by
   have a1:u2=v:=by simpa using hv
   have a2:w2=w:=by simpa using hw
   rw[←a1,←a2];exact r2
  |2,hv,hw=>by
   have a1:u3=v:=by simpa using hv
   have a2:w3=w:=by simpa using hw
   rw[←a1,←a2];exact r3
  |j+3,hv,hw=>by simp at hv
theorem RM.three{K:tP}{H:Hp}{a:Addr}{u1 u2 u3:V}{w1 w2 w3:W}(e:SqT K H a [u1,u2,u3])(r1:RS K H u1 w1)(r2:RS K H u2 w2)(r3:RS K H u3 w3):RM K H (.ref a) (.lst [w1,w2,w3]):=
 ⟨RS.three e r1 r2 r3,fun m x h=>by simp at h⟩
theorem RM.two{K:tP}{H:Hp}{a:Addr}{u2:V}{w2:W}(e:SqT K H a [.str "made",u2])(r1:RS K H (.str "made") (.txt "made"))(r2:RW H u2 w2):RM K H (.ref a) (.lst [.txt "made",w2]):=
 ⟨RS.two e r1 r2.toRS,fun m x h=>by
  have e2:w2=x:=by simpa using (show _/\w2=x by simpa using h).2
  subst e2
  exact⟨a,u2,rfl,e,r2⟩⟩
section
variable{P:Program}{w:World}{K:tP}{mg:Str->Option Value}{base:Heap}{f:Addr}{fd:tQ}{k n:Nat}{ARun ATask:Addr}
theorem zlP:FnScope ["thing"] ["thing"] (zr ziu):=mkSc rfl (by decide +kernel)
theorem zlQ{n:Nat}{g:Addr}(F:Fun K "made" "made" ziu f fd)(G_is_worth:Have P w K mg base "is_worth" k ["thing"] zeZ)
  (m_GREAT:mg "GREAT"=some (.ref g)) (hg:∀H:Hp,SqT K H g [.str "wrong",.str "great",.str ""]):FnOk P w K mg base CX0 (k+1) f fd ["thing"] (zaS K n):=by
 refine F.ok zlP (by rintro _ _ _ _ ⟨_,_,rfl,_⟩;rfl) fun cdv A outer s H vs Q E hr h=>?_
 obtain⟨v,x,rfl,rw,hth,hn,q⟩:=h
 refine⟨_,(zq (zw (ZO (zZ (zy G_is_worth hr rfl (zc (pv 0) zi))) (zE (zc zA (zc (pv 0) zi))) (Zd (v:=.ref g) rfl m_GREAT rfl)))),?_⟩
 refine⟨_,rfl,v,x.toT,rfl,rw.toRT,zkY x hth,fun H1 s1=>⟨_,rfl,?_⟩⟩
 rw[zfT hth]
 cases hgd:zhs x with
 |true=>
  refine iteT ⟨_,rfl,zl2,fun a ha=>?_⟩
  have s2:=Sn (o:=.tup [.str "made",v]) ha
  refine q _ _ (s1.trans s2) ?_
  unfold zab
  rw[if_pos hgd]
  exact RM.two (Sq zf) (.txt _) (rw.mono (zo (s1.trans s2)))
 |false=>
  refine iteF (q _ _ s1 ?_)
  unfold zab
  rw[if_neg (by rw[hgd];decide)]
  exact RM.three (hg H1) (.txt _) (.txt _) (.txt _)
end
end D
namespace L2
open PySem PySem.Spec PyProof.Rows
section
variable{prog:Program}{w:World}{A:Around}{E:Value->Shared->Prop}{s:Shared}
open HT in
end
end L2
namespace D
open PySem L2
theorem zht{H:Hp}{ws zs:List W}{its its2:List Value}{vs us:List V}(r1:Vals vs its)(r2:Vals us its2)(l1:vs.length=ws.length)(l2:us.length=zs.length):
  ((wK (min its.toArray.size its2.toArray.size)).all (fun j=>eqW (ws.getD j (.num 0)) (zs.getD j (.num 0)))&&its.toArray.size==its2.toArray.size)=eqW (.lst ws) (.lst zs):=by
 have e1:its.toArray.size=ws.length:=by rw[yG,←r1.length,l1]
 have e2:its2.toArray.size=zs.length:=by rw[yG,←r2.length,l2]
 rw[e1,e2]
 exact (zgB ws zs).symm
theorem zm7{X:Cx}{pins:List (Addr×Obj)}{σ:St}{H:Hp}{s:Shared}(I:Inv X pins σ H s):∀(n:Nat)(A:Around)(x y:W)(u v:V)(U V':Value),x.depth<n->RW H u x->RW H v y->RelV u U->RelV v V'->A.units+n+2<cLine->
  SeqAt.EqAt A s U V' (eqW x y):=by
 intro n
 induction n with
 |zero=>intro A x y u v U V' h;lia
 |succ n ih=>
  intro A x y u v U V' hd rx ry r1 r2 hu
  have hu0:A.units<cLine:=by lia
  cases rx with
  |num i=>
   obtain⟨t,rfl⟩:=r1
   cases ry with
   |num j=>obtain⟨t2,rfl⟩:=r2;exact SeqAt.EqAt.int_int i t j t2
   |txt z=>obtain⟨t2,rfl⟩:=r2;exact SeqAt.EqAt.int_str i t z t2
   |lst e _ _=>
    cases r2
    obtain⟨its,_,p,_⟩:=I.tuple (Sq e)
    exact SeqAt.EqAt.int_tuple i t p hu0
  |txt z=>
   obtain⟨t,rfl⟩:=r1
   cases ry with
   |num j=>obtain⟨t2,rfl⟩:=r2;exact SeqAt.EqAt.str_int z t j t2
   |txt z2=>obtain⟨t2,rfl⟩:=r2;exact SeqAt.EqAt.str_str z t z2 t2
   |lst e _ _=>
    cases r2
    obtain⟨its,_,p,_⟩:=I.tuple (Sq e)
    exact SeqAt.EqAt.str_tuple z t p hu0
  | @lst a vs ws e l at1=>
   cases r1
   obtain⟨its,rv,p,_⟩:=I.tuple (Sq e)
   cases ry with
   |num j=>obtain⟨t2,rfl⟩:=r2;exact SeqAt.EqAt.tuple_int j t2 p hu0
   |txt z2=>obtain⟨t2,rfl⟩:=r2;exact SeqAt.EqAt.tuple_str z2 t2 p hu0
   | @lst b us zs e2 l2 at2=>
    cases r2
    obtain⟨its2,rv2,p2,_⟩:=I.tuple (Sq e2)
    by_cases hab:a=b
    ·subst hab
     have:W.lst ws=W.lst zs:=RW.inj (.lst e l at1) (.lst e2 l2 at2)
     rw[this,Zr]
     exact SeqAt.EqAt.same _
    ·rw[←zht (H:=H) rv rv2 l l2]
     refine SeqAt.EqAt.of_refs hab (SeqAt.RcAt.tuples p p2 hu0 fun j h1 h2=>?_)
     have j1:j<its.length:=by simpa using h1
     have j2:j<its2.length:=by simpa using h2
     have k1:j<vs.length:=by rw[rv.length];exact j1
     have k2:j<us.length:=by rw[rv2.length];exact j2
     have m1:j<ws.length:=by lia
     have m2:j<zs.length:=by lia
     obtain⟨U1,hU1,rU1⟩:=rv.get (yA k1)
     obtain⟨U2,hU2,rU2⟩:=rv2.get (yA k2)
     have f1:its.toArray[j]=U1:=by have:=(yC.mp hU1).2;simpa using this
     have f2:its2.toArray[j]=U2:=by have:=(yC.mp hU2).2;simpa using this
     rw[f1,f2]
     have g1:ws.getD j (.num 0)=ws[j]:=by rw[yU,yA m1];rfl
     have g2:zs.getD j (.num 0)=zs[j]:=by rw[yU,yA m2];rfl
     rw[g1,g2]
     have hdj:=Z5 ws[j] (xA m1)
     have hd':1+depths ws<n+1:=hd
     have hu1:A.in1.units=A.units+1:=rfl
     exact ih A.in1 ws[j] zs[j] vs[j] us[j] U1 U2 (by lia) (at1 j _ _ (yA k1) (yA m1)) (at2 j _ _ (yA k2) (yA m2)) rU1 rU2 (by lia)
theorem zm8{X:Cx}(hu:X.A.units+64<cLine):OpR X (tK .Eq) (fun x y H Q=>∃wx wy:W,RW H x wx/\RW H y wy/\wx.depth<50/\Q (.bl (eqW wx wy)) H):=by
 intro pins s σ H x y v u Q I rx ry h
 obtain⟨wx,wy,hx,hy,hd,q⟩:=h
 have hu0:X.A.units<cLine:=by lia
 have fin:EP X pins σ Q (.bool (eqW wx wy)) s:=⟨.bl _,H,I,rfl,q⟩
 cases hx with
 |num i=>
  obtain⟨t,rfl⟩:=rx
  cases hy with
  |num j=>obtain⟨t2,rfl⟩:=ry;exact SeqAt.RcAt.int_int i t j t2 _ _ _ _ fin
  |txt z=>obtain⟨t2,rfl⟩:=ry;exact SeqAt.RcAt.int_str i t z t2 _ _ _ _ fin
  |lst e _ _=>
   cases ry
   obtain⟨its,_,p,_⟩:=I.tuple (Sq e)
   exact SeqAt.RcAt.int_tuple i t p hu0 _ _ _ _ fin
 |txt z=>
  obtain⟨t,rfl⟩:=rx
  cases hy with
  |num j=>obtain⟨t2,rfl⟩:=ry;exact SeqAt.RcAt.str_int z t j t2 _ _ _ _ fin
  |txt z2=>obtain⟨t2,rfl⟩:=ry;exact SeqAt.RcAt.str_str z t z2 t2 _ _ _ _ fin
  |lst e _ _=>
   cases ry
   obtain⟨its,_,p,_⟩:=I.tuple (Sq e)
   exact SeqAt.RcAt.str_tuple z t p hu0 _ _ _ _ fin
 | @lst a vs ws e l at1=>
  cases rx
  obtain⟨its,rv,p,_⟩:=I.tuple (Sq e)
  cases hy with
  |num j=>obtain⟨t2,rfl⟩:=ry;exact SeqAt.RcAt.tuple_int j t2 p hu0 _ _ _ _ fin
  |txt z2=>obtain⟨t2,rfl⟩:=ry;exact SeqAt.RcAt.tuple_str z2 t2 p hu0 _ _ _ _ fin
  | @lst b us zs e2 l2 at2=>
   cases ry
   obtain⟨its2,rv2,p2,_⟩:=I.tuple (Sq e2)
   rw[←zht (H:=H) rv rv2 l l2] at fin
   refine SeqAt.RcAt.tuples p p2 hu0 (fun j h1 h2=>?_) _ _ _ _ fin
   have j1:j<its.length:=by simpa using h1
   have j2:j<its2.length:=by simpa using h2
   have k1:j<vs.length:=by rw[rv.length];exact j1
   have k2:j<us.length:=by rw[rv2.length];exact j2
   have m1:j<ws.length:=by lia
   have m2:j<zs.length:=by lia
   obtain⟨U1,hU1,rU1⟩:=rv.get (yA k1)
   obtain⟨U2,hU2,rU2⟩:=rv2.get (yA k2)
   have f1:its.toArray[j]=U1:=by have:=(yC.mp hU1).2;simpa using this
   have f2:its2.toArray[j]=U2:=by have:=(yC.mp hU2).2;simpa using this
   rw[f1,f2]
   have g1:ws.getD j (.num 0)=ws[j]:=by rw[yU,yA m1];rfl
   have g2:zs.getD j (.num 0)=zs[j]:=by rw[yU,yA m2];rfl
   rw[g1,g2]
   have hdj:=Z5 ws[j] (xA m1)
   have hd':1+depths ws<50:=hd
   have hu1:X.A.in1.units=X.A.units+1:=rfl
   exact zm7 I 50 X.A.in1 ws[j] zs[j] vs[j] us[j] U1 U2 (by lia) (at1 j _ _ (yA k1) (yA m1)) (at2 j _ _ (yA k2) (yA m2)) rU1 rU2 (by lia)
end D
namespace L2
open PySem PySem.Spec PyProof.Rows
structure QSs(X:Cx)(st:List Stmt)(t:TS):Prop where
 un:PSs X st t
structure QIfs(X:Cx)(ifs:List Expr)(t:TT):Prop where
 un:PIfs X ifs t
structure QGs(X:Cx)(ts:List Expr)(t:TGs):Prop where
 un:PGs X ts t
structure QE(X:Cx)(e:Expr)(t:TE):Prop where
 un:PE X e t
structure QT(X:Cx)(e:Expr)(t:TT):Prop where
 un:PT X e t
structure QW(X:Cx)(e:Expr)(t:TT):Prop where
 un:PW X e t
structure QA(X:Cx)(es:List Expr)(t:TA):Prop where
 un:PA X es t
structure QS(X:Cx)(st:Stmt)(t:TS):Prop where
 un:PS X st t
structure QI(X:Cx)(tg iter:Expr)(wi:TI):Prop where
 un:PI X tg iter wi
structure QG(X:Cx)(tg:Expr)(t:TG):Prop where
 un:PG X tg t
structure QO(X:Cx)(e:Option Expr)(t:TO):Prop where
 un:PO X e t
structure QC(X:Cx)(op:CmpOp)(a b:Expr)(t:TE):Prop where
 un:PC X op a b t
theorem Fun.okQ{P:Program}{w:World}{K:tP}{mg:Str->Option Value}{base:Heap}{x qual:Str}{st:Stmt}{f:Addr}{fd:tQ}{N ps:List Str}{k:Nat}{sp:Sp}(F:Fun K x qual st f fd)(sc:FnScope N ps (zr st))(h1:∀(vs:List V) (H:Hp) (Q:VK) (E:XK),sp vs H Q E->vs.length=ps.length)
  (h2:∀(cdv:Value)(A:Around)(outer:List Env)(s:Shared)(H:Hp)(vs:List V)(Q:VK)(E:XK),Room k (A.deeper (PyProof.Rows.envOfC qual (zr st) s.heap.objs.size f cdv))->sp vs H Q E->
   ∃t:TS,QSs (cxOf CX0 P w K mg base N qual (zr st) f cdv A outer s H E).nox (zS st) t/\t {nx:=fun _ H'=>Q V.non H',rt:=Q} (L2.start N vs) H):FnOk P w K mg base CX0 (k+1) f fd ps sp:=
 F.ok sc h1 fun cdv A outer s H vs Q E hr h=>let ⟨t,a,b⟩:=h2 cdv A outer s H vs Q E hr h;⟨t,a.un,b⟩
end L2
namespace D
open PySem L2
theorem zC{X:Cx}:QSs X [] zll:=⟨L2.zC ⟩
theorem zj{X:Cx}{st:Stmt}{rest:List Stmt}{t u:TS}(h0:QS X st t)(h1:QSs X rest u):QSs X (st::rest) (tSeq t u):=⟨L2.zj h0.un h1.un⟩
theorem zq{X:Cx}{st:Stmt}{t:TS}(h0:QS X st t):QSs X [st] t:=⟨L2.zq h0.un⟩
theorem zw{X:Cx}{e:Expr}{te:TE}{pos:Pos}(h0:QE X e te):QS X (Stmt.Return (some e) pos) (tRet te):=⟨L2.zw h0.un⟩
theorem zN{X:Cx}{t u:TS}{pos:Pos}{c:Expr}{a b:List Stmt}{tc:TT}(h0:QT X c tc)(h1:QSs X a t)(h2:QSs X b u):QS X (Stmt.If c a b pos) (tIfS tc t u):=⟨L2.zN h0.un h1.un h2.un⟩
theorem zG{X:Cx}{pos:Pos}{i:Nat}{x:Str}{e:Expr}{te:TE}{pos':Pos}(h0:X.N.Nodup)(h1:X.N[i]?=some x)(h2:L2.Loc X.env.scope x)(h3:QE X e te)(h4:autoParam (swapsWith e (some (Expr.Name x pos')) pos.line X.env=pure false) L2.zG._auto_1)(h5:autoParam (X.fn x=true\/xX x X.env.scope.names=some NameKind.local) L2.zG._auto_2):QS X (Stmt.Assign [Expr.Name x pos'] e pos) (tAsg te (zX i)):=⟨L2.zG h0 h1 h2 h3.un h4 h5⟩
theorem zaD{X:Cx}{pos:Pos}{tg e:Expr}{te:TE}{g:TG}(h0:QE X e te)(h1:QG X tg g)(h2:autoParam (swapsWithSole [tg] e pos.line X.env=pure false) L2.zaD._auto_1)(h3:autoParam (swappedStores [tg] e X.env=pure none) L2.zaD._auto_2)(h4:autoParam (List.map (fun (x:Bool×(Value->Sem Unit))=>x.snd) (assignEach [tg] X.env)=[assign tg X.env]) L2.zaD._auto_3):QS X (Stmt.Assign [tg] e pos) (tAsg te g):=⟨L2.zaD h0.un h1.un h2 h3 h4⟩
theorem Ze{X:Cx}{e:Expr}{te:TE}{pos:Pos}(h0:QE X e te)(h1:autoParam (swapsWith e none pos.line X.env=pure false) L2.Ze._auto_1):QS X (Stmt.Expr e pos) (zmE te):=⟨L2.Ze h0.un h1⟩
theorem zat{X:Cx}{tg iter:Expr}{body:List Stmt}{wi:TI}{g:TG}{tb:TS}{pos:Pos}(h0:PassesOwn (model X.prog X.w) X.A X.env X.xe)(h1:X.calm=true)(h2:QI X tg iter wi)(h3:QG X tg g)(h4:QSs X body tb)(h5:autoParam (∀(x:Value),foldedSetIterable iter X.env x=pure x) L2.zat._auto_1):QS X (Stmt.For tg iter body [] pos) (tFor wi g tb):=⟨L2.zat h0 h1 h2.un h3.un h4.un h5⟩
theorem zbw{X:Cx}{pos:Pos}{c:Expr}{body:List Stmt}{tc:TT}{tb:TS}(h0:PassesOwn (model X.prog X.w) X.A X.env X.xe)(h1:QT X c tc)(h2:QSs X body tb):QS X (Stmt.While c body [] pos) (zkD tc tb):=⟨L2.zbw h0 h1.un h2.un⟩
theorem zk{X:Cx}{i:Int}{j:Nat}{pos:Pos}:QE X (Expr.Constant (Const.int i) j pos) (tC (V.int i)):=⟨L2.zk ⟩
theorem zA{X:Cx}{x:Str}{j:Nat}{pos:Pos}:QE X (Expr.Constant (Const.str x) j pos) (tC (V.str x)):=⟨L2.zA ⟩
theorem zfC{X:Cx}{b:Bool}{j:Nat}{pos:Pos}:QE X (Expr.Constant (Const.bool b) j pos) (tC (V.bl b)):=⟨L2.zfC ⟩
theorem zaB{X:Cx}{j:Nat}{pos:Pos}:QE X (Expr.Constant Const.none j pos) (tC V.non):=⟨L2.zaB ⟩
theorem pv{X:Cx}(i:Nat){x:Str}{pos:Pos}(h0:autoParam (X.N[i]?=some x) L2.pv._auto_1)(h1:autoParam (Vis X.env.scope x) L2.pv._auto_2)(h2:autoParam ((x==uU "__debug__")=false) L2.pv._auto_3)(h3:autoParam ((x==uU "__classdict__")=false) L2.pv._auto_4):QE X (Expr.Name x pos) (tVar i):=⟨L2.pv i h0 h1 h2 h3⟩
theorem Zd{X:Cx}{x:Str}{v:V}{u:Value}{pos:Pos}(h0:Gl X x)(h1:X.mg x=some u)(h2:RelV v u)(h3:autoParam ((x==uU "__debug__")=false) L2.Zd._auto_1):QE X (Expr.Name x pos) (tC v):=⟨L2.Zd h0 h1 h2 h3⟩
theorem zah{X:Cx}{x:Str}{i:Int}{pos:Pos}(h0:Gl X x)(h1:(∃(t:Tok),X.mg x=some (Value.int i t)))(h2:autoParam ((x==uU "__debug__")=false) L2.zah._auto_1):QE X (Expr.Name x pos) (tC (V.int i)):=⟨L2.zah h0 h1 h2⟩
theorem zaM{X:Cx}{x:Str}{T:String}{pos:Pos}(h0:Gl X x)(h1:X.mg x=none)(h2:tJ x=some (Value.type T))(h3:autoParam (x≠uU "__name__") L2.zaM._auto_1)(h4:autoParam ((x==uU "__debug__")=false) L2.zaM._auto_2):QE X (Expr.Name x pos) (tC (V.ty T)):=⟨L2.zaM h0 h1 h2 h3 h4⟩
theorem zK{X:Cx}{a b:Expr}{ta tb:TE}{pos:Pos}{op:Operator}{r:R2}(h0:OpR X (binaryOp op) r)(h1:QE X a ta)(h2:QE X b tb):QE X (a.BinOp op b pos) (tOp r ta tb):=⟨L2.zK h0 h1.un h2.un⟩
theorem zcy{X:Cx}{a:Expr}{ta:TE}{pos:Pos}{op:UnaryOp}{r:V->Hp->VK->Prop}(h0:UnR X (unaryOp op) r)(h1:QE X a ta):QE X (Expr.UnaryOp op a pos) (tUn r ta):=⟨L2.zcy h0 h1.un⟩
theorem Zh{X:Cx}{a b:Expr}{ta tb:TE}{pos:Pos}{op:CmpOp}{r:R2}(h0:OpR X (tK op) r)(h1:QE X a ta)(h2:QE X b tb)(h3:behindInMarks op b=false):QE X (a.Compare [op] [b] pos) (tOp r ta tb):=⟨L2.Zh h0 h1.un h2.un h3⟩
theorem zH{X:Cx}{a b:Expr}{ta tb:TE}{pos:Pos}{op:CmpOp}{r:R2}(h0:OpR X (tK op) r)(h1:QE X a ta)(h2:QE X b tb)(h3:behindInMarks op b=false):QT X (a.Compare [op] [b] pos) (zjE (tOp r ta tb)):=⟨L2.zH h0 h1.un h2.un h3⟩
theorem zeG{X:Cx}{a b:Expr}{pos:Pos}{op:CmpOp}{t:TE}(h0:QC X op a b t)(h1:autoParam (behindInMarks op b=false) L2.zeG._auto_1):QE X (a.Compare [op] [b] pos) t:=⟨L2.zeG h0.un h1⟩
theorem zao{X:Cx}{a b:Expr}{pos:Pos}{op:CmpOp}{t:TE}(h0:QC X op a b t)(h1:autoParam (behindInMarks op b=false) L2.zao._auto_1):QT X (a.Compare [op] [b] pos) (tB t):=⟨L2.zao h0.un h1⟩
theorem zcl{X:Cx}{a b c:Expr}{ta tb tc:TE}{pos:Pos}{op op':CmpOp}{r r':R2}(h0:OpR X (tK op) r)(h1:OpR X (tK op') r')(h2:QE X a ta)(h3:QE X b tb)(h4:QE X c tc)(h5:autoParam (lastMarks [op,op'] [b,c]=false) L2.zcl._auto_1):QT X (a.Compare [op,op'] [b,c] pos) (zjE (zh2 r r' ta tb tc)):=⟨L2.zcl h0 h1 h2.un h3.un h4.un h5⟩
theorem zas{X:Cx}{a b:Expr}{ta tb:TE}{pos:Pos}{rest:List Expr}(h0:QE X a ta)(h1:QE X (Expr.BoolOp BoolOp.And (b::rest) pos) tb):QE X (Expr.BoolOp BoolOp.And (a::b::rest) pos) (zmC ta tb):=⟨L2.zas h0.un h1.un⟩
theorem zlk{X:Cx}{a b:Expr}{ta tb:TE}{pos:Pos}{rest:List Expr}(h0:QE X a ta)(h1:QE X (Expr.BoolOp BoolOp.Or (b::rest) pos) tb):QE X (Expr.BoolOp BoolOp.Or (a::b::rest) pos) (tOrV ta tb):=⟨L2.zlk h0.un h1.un⟩
theorem zaC{X:Cx}{a:Expr}{pos:Pos}{op:BoolOp}{t:TE}(h0:QE X a t):QE X (Expr.BoolOp op [a] pos) t:=⟨L2.zaC h0.un⟩
theorem ZO{X:Cx}{a b:Expr}{ta tb:TE}{pos:Pos}{tA:TT}{c:Expr}(h0:QT X c tA)(h1:QE X a ta)(h2:QE X b tb):QE X (c.IfExp a b pos) (tIf tA ta tb):=⟨L2.ZO h0.un h1.un h2.un⟩
theorem zZ{X:Cx}{e:Expr}{t:TE}(h:QE X e t)(he:∀whole,isTrue e X.env whole=(do let v ←whole;standAt e.pos;holding [v] (truthy v)):=by intro _;rfl):QT X e (tB t):=⟨L2.zZ h.un he⟩
theorem ZK{X:Cx}{a:Expr}{pos:Pos}{tA:TT}(h0:QT X a tA):QT X (Expr.UnaryOp UnaryOp.Not a pos) (tNot tA):=⟨L2.ZK h0.un⟩
theorem zcu{X:Cx}{a b:Expr}{pos:Pos}{tA tB':TT}{rest:List Expr}(h0:QT X a tA)(h1:QW X (Expr.BoolOp BoolOp.And (b::rest) pos) tB'):QW X (Expr.BoolOp BoolOp.And (a::b::rest) pos) (tAnd tA tB'):=⟨L2.zcu h0.un h1.un⟩
theorem zbO{X:Cx}{a:Expr}{pos:Pos}{tA:TT}(h0:QT X a tA):QW X (Expr.BoolOp BoolOp.And [a] pos) tA:=⟨L2.zbO h0.un⟩
theorem zcc{X:Cx}{a b:Expr}{pos:Pos}{tA tB':TT}{rest:List Expr}(h0:QT X a tA)(h1:QW X (Expr.BoolOp BoolOp.Or (b::rest) pos) tB'):QW X (Expr.BoolOp BoolOp.Or (a::b::rest) pos) (tOr tA tB'):=⟨L2.zcc h0.un h1.un⟩
theorem zbv{X:Cx}{a:Expr}{pos:Pos}{tA:TT}(h0:QT X a tA):QW X (Expr.BoolOp BoolOp.Or [a] pos) tA:=⟨L2.zbv h0.un⟩
theorem PW.pt{X:Cx}{e:Expr}{t:TT}(h0:QW X e t):QT X e t:=⟨L2.PW.pt h0.un⟩
theorem zy{X:Cx}{x:Str}{k:Nat}{ps:List Str}{sp:Sp}{e:Expr}{es:List Expr}{t:TA}{p pos:Pos}(h0:Have X.prog X.w X.K X.mg X.base x k ps sp)(h1:Room k X.A)(h2:Gl X x)(h3:QA X (e::es) t)(h4:autoParam ((x==uU "__debug__")=false) L2.zy._auto_1)(h5:autoParam (tI (e::es) X.env=(false,eval e X.env)::tI es X.env) L2.zy._auto_2)(h6:autoParam (((backTo pos (tI es X.env)).any fun (x:Bool×Sem Value)=>x.fst)=false) L2.zy._auto_3):QE X ((Expr.Name x p).Call (e::es) [] pos) (zh7 sp [] E0 t):=⟨L2.zy h0 h1 h2 h3.un h4 h5 h6⟩
theorem zB{X:Cx}{x:Str}{p pos:Pos}{e:Expr}{es:List Expr}{t:TA}{id:String}{r:List V->Hp->VK->Prop}(h0:zaV X (Value.builtin id) r)(h1:Gl X x)(h2:X.mg x=none)(h3:tJ x=some (Value.builtin id))(h4:QA X (e::es) t)(h5:autoParam (x≠uU "__name__") L2.zB._auto_1)(h6:autoParam ((x==uU "__debug__")=false) L2.zB._auto_2)(h7:autoParam (tI (e::es) X.env=(false,eval e X.env)::tI es X.env) L2.zB._auto_3)(h8:autoParam (((backTo pos (tI es X.env)).any fun (x:Bool×Sem Value)=>x.fst)=false) L2.zB._auto_4):QE X ((Expr.Name x p).Call (e::es) [] pos) (tCB r t):=⟨L2.zB h0 h1 h2 h3 h4.un h5 h6 h7 h8⟩
theorem zJ{X:Cx}{x:Str}{p pos:Pos}{e:Expr}{es:List Expr}{t:TA}{T:String}{r:List V->Hp->VK->Prop}(h0:zaV X (Value.type T) r)(h1:Gl X x)(h2:X.mg x=none)(h3:tJ x=some (Value.type T))(h4:QA X (e::es) t)(h5:autoParam (x≠uU "__name__") L2.zJ._auto_1)(h6:autoParam ((x==uU "__debug__")=false) L2.zJ._auto_2)(h7:autoParam (tI (e::es) X.env=(false,eval e X.env)::tI es X.env) L2.zJ._auto_3)(h8:autoParam (((backTo pos (tI es X.env)).any fun (x:Bool×Sem Value)=>x.fst)=false) L2.zJ._auto_4):QE X ((Expr.Name x p).Call (e::es) [] pos) (tCB r t):=⟨L2.zJ h0 h1 h2 h3 h4.un h5 h6 h7 h8⟩
theorem zcf{X:Cx}{o e:Expr}{es:List Expr}{to:TE}{t:TA}{name:Str}{apos cpos:Pos}{T id:String}{r:V->List V->Hp->VK->Prop}(pa:PlainAttrs T)(slot:Slot T name id)(hty:typeOf (.builtin id)=pure (.type "method_descriptor"))(hm:MtR X id r)(ho:QE X o to)(ha:QA X (e::es) t)
  (hbase:attributeBase o name X.env (eval o X.env)=eval o X.env:=by rfl)
  (hfew:((backTo cpos (tI (e::es) X.env)).all (fun x=>!x.1)&&(backToKw cpos (keywordEach [] X.env)).all (fun x=>x.1.isSome)
   && decide ((e::es).length+([]:List Keyword).length+(if ([]:List Keyword).isEmpty then 0 else 1)<30))=true:=by rfl)
  (hline:(apos.endLine==cpos.line)=true:=by rfl) (hs:tI (e::es) X.env=(false,eval e X.env)::tI es X.env:=by rfl) (hplain:(backTo cpos (tI es X.env)).any (·.1)=false:=by rfl):
  QE X (.Call (.Attribute o name apos) (e::es) [] cpos) (tBM X.K T r to t):=⟨L2.zcf pa slot hty hm ho.un ha.un hbase hfew hline hs hplain⟩
theorem zdu{X:Cx}{o:Expr}{to:TE}{name:Str}{apos cpos:Pos}{T id:String}{r:V->List V->Hp->VK->Prop}(h0:PlainAttrs T)(h1:Slot T name id)(h2:typeOf (Value.builtin id)=pure (Value.type "method_descriptor"))(h3:MtR X id r)(h4:QE X o to)(h5:autoParam (attributeBase o name X.env (eval o X.env)=eval o X.env) L2.zdu._auto_1)(h6:autoParam ((apos.endLine==cpos.line)=true) L2.zdu._auto_2):QE X ((o.Attribute name apos).Call [] [] cpos) (tBM0 X.K T r to):=⟨L2.zdu h0 h1 h2 h3 h4.un h5 h6⟩
theorem zx{X:Cx}{a b:Expr}{ta tb:TE}{pos:Pos}{r:R2}(h0:IxR X r)(h1:QE X a ta)(h2:QE X b tb)(h3:zii b):QE X (a.Subscript b pos) (tOp r ta tb):=⟨L2.zx h0 h1.un h2.un h3⟩
theorem zag{X:Cx}{e:Expr}{te:TE}{lo hi:Option Expr}{tl th:TO}{pos p2:Pos}{r:V->Option Int->Option Int->Hp->VK->Prop}(h0:SlR X r)(h1:QE X e te)(h2:QO X lo tl)(h3:QO X hi th):QE X (e.Subscript (Expr.Slice lo hi none p2) pos) (tSl r te tl th):=⟨L2.zag h0 h1.un h2.un h3.un⟩
theorem zaW{X:Cx}:QO X none zif:=⟨L2.zaW ⟩
theorem zaz{X:Cx}{e:Expr}{te:TE}(h0:QE X e te):QO X (some e) (zmM te):=⟨L2.zaz h0.un⟩
theorem Zb{X:Cx}{es:List Expr}{t:TA}{pos:Pos}(h0:QA X es t):QE X (Expr.List es pos) (tLst t):=⟨L2.Zb h0.un⟩
theorem zE{X:Cx}{es:List Expr}{t:TA}{pos:Pos}{x1:Nat}(h0:QA X es t):QE X (Expr.Tuple es x1 pos) (tTup t):=⟨L2.zE h0.un⟩
theorem zi{X:Cx}:QA X [] tNil:=⟨L2.zi ⟩
theorem zc{X:Cx}{e:Expr}{es:List Expr}{te:TE}{t:TA}(h0:QE X e te)(h1:QA X es t)(h2:autoParam (tI (e::es) X.env=(false,eval e X.env)::tI es X.env) L2.zc._auto_1):QA X (e::es) (zcD te t):=⟨L2.zc h0.un h1.un h2⟩
theorem zdL{X:Cx}{pos:Pos}:QE X (Expr.Dict [] [] pos) zkG:=⟨L2.zdL ⟩
theorem zfH{X:Cx}{o i:Expr}{pos:Pos}{td ty:TE}(h0:X.A.units+1<cLine)(h1:QE X o td)(h2:QE X i ty)(h3:NoSl i):QE X (o.Subscript i pos) (zmJ td ty):=⟨L2.zfH h0 h1.un h2.un h3⟩
theorem zb5{X:Cx}{a:Expr}{ta:TE}{j:Nat}{pos':Pos}(h0:QE X a ta):QC X CmpOp.Is a (Expr.Constant Const.none j pos') (tIsN ta):=⟨L2.zb5 h0.un⟩
theorem zax{X:Cx}{a:Expr}{ta:TE}{j:Nat}{pos':Pos}(h0:QE X a ta):QC X CmpOp.IsNot a (Expr.Constant Const.none j pos') (zmB ta):=⟨L2.zax h0.un⟩
theorem zfI{X:Cx}{o i value:Expr}{pos pos':Pos}{td ty tv:TE}(h0:X.A.units+1<cLine)(h1:QE X o td)(h2:QE X i ty)(h3:QE X value tv)(h4:swapsWith value (some (o.Subscript i pos')) pos.line X.env=pure false):QS X (Stmt.Assign [o.Subscript i pos'] value pos) (zmK td ty tv):=⟨L2.zfI h0 h1.un h2.un h3.un h4⟩
theorem Zx{X:Cx}{elt iter:Expr}{x:Str}{px pos:Pos}{ifs:List Expr}{scope:Scope}{cl:List (Str×Addr)}(fr:List Nat)(ys:List Str){wi:TI}{tt:TT}{te:TE}(h0:X.calm=true)(h1:closureFor scope X.env=pure cl)(h2:(∀(y:Str×NameKind),y∈scope.names->y.snd≠NameKind.cell))(h3:scope.kind=ScopeKind.function)(h4:(∀(y:Str×NameKind),y∈scope.names->y.snd=NameKind.local->xX y.fst scope.names=some NameKind.local))(h5:xX x scope.names=some NameKind.local)(h6:(x::ys).Nodup)(h7:ClOk cl X.env.cells)(h8:(scope.names.all fun (y:Str×NameKind)=>y.snd != NameKind.free||(xX y.fst cl).isSome)=true)(h9:FrOk X scope cl fr ys)(h10:QI X (Expr.Name x px) iter wi)(h11:(∀(C:Addr) (s:Shared) (H:Hp) (fp:List Addr),QIfs (zI X scope cl (x::ys) C s H fp) ifs tt/\QE (zI X scope cl (x::ys) C s H fp) elt te))(h12:autoParam (∀(v:Value),foldedSetIterable iter X.env v=pure v) L2.Zx._auto_1):QE X (elt.ListComp [{target:=Expr.Name x px,iter:=iter,ifs:=ifs,is_async:=0}] scope pos) (zcH fr wi tt te):=⟨L2.Zx fr ys h0 h1 h2 h3 h4 h5 h6 h7 h8 h9 h10.un (fun C s H fp=>⟨(h11 C s H fp).1.un,(h11 C s H fp).2.un⟩) h12⟩
theorem Zl{X:Cx}:QIfs X [] fun (x:St)(H:Hp)(Q:Bool->Hp->Prop)=>Q true H:=⟨L2.Zl ⟩
theorem zdP{X:Cx}{c:Expr}{t:TT}(h0:QT X c t):QIfs X [c] t:=⟨L2.zdP h0.un⟩
theorem ZZ{X:Cx}{tg l:Expr}{tl:TE}(h0:QE X l tl):QI X tg l (zhW X.K tl):=⟨L2.ZZ h0.un⟩
theorem zcw{X:Cx}{tg l:Expr}{tl:TE}(h0:QE X l tl):QI X tg l (iTup X.K tl):=⟨L2.zcw h0.un⟩
theorem ZD{X:Cx}{tg a:Expr}{ta:TA}{p pos:Pos}(h0:Gl X (uU "range"))(h1:X.mg (uU "range")=none)(h2:QA X [a] ta)(h3:autoParam (tI [a] X.env=[(false,eval a X.env)]) L2.ZD._auto_1):QI X tg ((Expr.Name (uU "range") p).Call [a] [] pos) (zmG ta):=⟨L2.ZD h0 h1 h2.un h3⟩
theorem zR{X:Cx}{pos:Pos}{i:Nat}{x:Str}(h0:X.N.Nodup)(h1:X.N[i]?=some x)(h2:L2.Loc X.env.scope x)(h3:autoParam (X.fn x=true\/xX x X.env.scope.names=some NameKind.local) L2.zR._auto_1):QG X (Expr.Name x pos) (zX i):=⟨L2.zR h0 h1 h2 h3⟩
theorem zaR{X:Cx}{pos:Pos}{es:List Expr}{k:Nat}{t:TGs}{n:Nat}(h0:X.calm=true)(h1:QGs X es t)(h2:autoParam ((assignEach es X.env).length=n) L2.zaR._auto_1)(h3:autoParam (List.findIdx? (fun (x:Bool×(Value->Sem Unit))=>x.fst) (assignEach es X.env)=none) L2.zaR._auto_2):QG X (Expr.Tuple es k pos) (gTup X.K n t):=⟨L2.zaR h0 h1.un h2 h3⟩
theorem zay{X:Cx}:QGs X [] gNil:=⟨L2.zay ⟩
theorem zY{X:Cx}{e:Expr}{es:List Expr}{t:TG}{u:TGs}(h0:QG X e t)(h1:QGs X es u)(h2:autoParam (List.map (fun (x:Bool×(Value->Sem Unit))=>x.snd) (assignEach (e::es) X.env)=assign e X.env::List.map (fun (x:Bool×(Value->Sem Unit))=>x.snd) (assignEach es X.env)) L2.zY._auto_1):QGs X (e::es) (zg7 t u):=⟨L2.zY h0.un h1.un h2⟩
theorem zcv{X:Cx}{pos:Pos}{o i:Expr}{to ti:TE}{t:TSet}(ho:QE X o to)(hi:QE X i ti)(hs:PSet X t)
  (ha:∀v,assign (.Subscript o i pos) X.env v=(do
   let ov ←holding [v] (eval o X.env)
   let iv ←holding [v,ov] (eval i X.env)
   standAt pos
   holding [v,ov,iv] (setItem ov iv v)
   release [v,ov,iv] []):=by intro _;rfl):QG X (.Subscript o i pos) (gSub to ti t):=⟨L2.zcv ho.un hi.un hs ha⟩
theorem zL{X:Cx}{e:Expr}{f:Str}{pos:Pos}{ta:TE}(h0:QE X e ta)(h1:attributeBase e f X.env (eval e X.env)=eval e X.env):QE X (e.Attribute f pos) (tFld X.K ta f):=⟨L2.zL h0.un h1⟩
theorem ZY{X:Cx}{o value:Expr}{f:Str}{pos pos':Pos}{ta tv:TE}(h0:QE X o ta)(h1:QE X value tv)(h2:swapsWith value (some (o.Attribute f pos')) pos.line X.env=pure false):QS X (Stmt.Assign [o.Attribute f pos'] value pos) (sFld X.K ta tv f):=⟨L2.ZY h0.un h1.un h2⟩
end D
namespace L2
open PySem PySem.Spec PyProof.Rows
def MD(P:Program)(w:World)(K:tP)(g:Addr)(kvs:List (Key×V)):Prop:=
 ∃(o:Obj)(vs:List (Key×Value)),K.lookup g=some o/\PySem.Obj.IsDictOf (Zu P w) o vs/\KV kvs vs/\(g==sysModules)=false
theorem MD.dict{P:Program}{w:World}{K:tP}{g:Addr}{kvs:List (Key×V)}{h:Heap}(m:MD P w K g kvs)(x:K.In h):∃vs,KV kvs vs/\h.DictOf (Zu P w) g vs/\(g==sysModules)=false:=by
 obtain⟨o,vs,e,d,r,n⟩:=m
 exact⟨vs,r,Heap.dictOf_iff.mpr ⟨o,x _ _ e,d⟩,n⟩
theorem zgE{P:Program}{w:World}:∀l:List (Str×Tok×V×Value),Pairs (Zu P w) (l.map fun p=>(⟨hashStr w p.1,.str p.1 p.2.1,p.2.2.2⟩:DictEntry)) (l.map fun p=>((Sum.inr p.1:Key),p.2.2.2))
 |[]=>.nil
 |p::r=>.cons (zbi P w p.1 p.2.1) rfl (zgE r)
theorem zm9:∀l:List (Str×Tok×V×Value),(∀p∈l,RelV p.2.2.1 p.2.2.2)->KV (l.map fun p=>((Sum.inr p.1:Key),p.2.2.1)) (l.map fun p=>((Sum.inr p.1:Key),p.2.2.2))
 |[],_=>.nil
 |p::r,h=>.cons ⟨rfl,h p yY⟩ (zm9 r fun q hq=>h q (yV _ hq))
theorem ziI{P:Program}{w:World}{K:tP}{g:Addr}(l:List (Str×Tok×V×Value)){ep:Nat}(e:K.lookup g=some ⟨.type "dict",none,.dict (l.map fun p=>(⟨hashStr w p.1,.str p.1 p.2.1,p.2.2.2⟩:DictEntry)).toArray ep,#[]⟩)
  (n:(g==sysModules)=false) (hr:∀p∈l,RelV p.2.2.1 p.2.2.2) (nd:(l.map (·.1)).Nodup):MD P w K g (l.map fun p=>((Sum.inr p.1:Key),p.2.2.1)):=by
 refine⟨_,l.map fun p=>((Sum.inr p.1:Key),p.2.2.2),e,⟨_,_,⟨rfl,rfl,rfl⟩,rfl,?_,?_,?_⟩,zm9 l hr,n⟩
 ·intro x hx
  have hx':x∈l.map fun p=>(⟨hashStr w p.1,.str p.1 p.2.1,p.2.2.2⟩:DictEntry):=by simpa using hx
  obtain⟨p,_,rfl⟩:=xP.mp hx'
  exact⟨Sum.inr p.1,zbi P w p.1 p.2.1,rfl⟩
 ·rw[vL]
  exact zgE l
 ·rw[vN]
  have:(l.map ((fun x:Key×Value=>x.1)∘fun p=>((Sum.inr p.1:Key),p.2.2.2)))=(l.map (·.1)).map (Sum.inr:Str->Key):=by rw[vN];rfl
  rw[this]
  exact List.pairwise_map.mpr (List.Pairwise.imp (fun {a b} (h:a≠b) (e:(Sum.inr a:Key)=Sum.inr b)=>h (by simpa using e)) nd)
theorem zkZ{X:Cx}:OpR X (tK .In) (fun x y H Q=>∃(g:Addr)(kvs:List (Key×V))(k:Key),x=kV k/\y=.ref g/\MD X.prog X.w X.K g kvs/\Q (.bl (valV kvs k).isSome) H):=by
 intro pins s σ H x y v u Q I rx ry h
 obtain⟨g,kvs,k,rfl,rfl,m,q⟩:=h
 cases ry
 obtain⟨vs,rel,dd,hd⟩:=m.dict I.kIn
 refine wpAny_in_of (zfF rx) hd dd.mapOf ?_
 rw[←(rel.val k).isSome_eq]
 exact⟨.bl _,H,I.tok _,rfl,q⟩
theorem ziJ{X:Cx}:OpR X (tK .NotIn) (fun x y H Q=>∃(g:Addr)(kvs:List (Key×V))(k:Key),x=kV k/\y=.ref g/\MD X.prog X.w X.K g kvs/\Q (.bl (!(valV kvs k).isSome)) H):=by
 intro pins s σ H x y v u Q I rx ry h
 obtain⟨g,kvs,k,rfl,rfl,m,q⟩:=h
 cases ry
 obtain⟨vs,rel,dd,hd⟩:=m.dict I.kIn
 refine wpAny_notIn_of (zfF rx) hd dd.mapOf ?_
 rw[←(rel.val k).isSome_eq]
 exact⟨.bl _,H,I.tok _,rfl,q⟩
theorem ziK{X:Cx}:IxR X (fun x y H Q=>∃(g:Addr)(kvs:List (Key×V))(k:Key)(v:V),x=.ref g/\y=kV k/\MD X.prog X.w X.K g kvs/\valV kvs k=some v/\Q v H):=by
 intro value slice pins s σ H x y v u Q I rx ry h hs
 obtain⟨g,kvs,k,z,rfl,rfl,m,hv,q⟩:=h
 cases rx
 obtain⟨vs,rel,dd,hd⟩:=m.dict I.kIn
 obtain⟨w',hw,rw'⟩:=RelO.some_of (v:=z) (o:=valueAt vs k) (by rw[←hv];exact rel.val k)
 exact tail_any dd.typeIs PySem.F.slot_dict_getitem.lookup (wpAny_getItem_of (zfF ry) dd.mapOf hw ⟨z,H,I.tok _,rw',q⟩) hs
def Zo(P:Program)(w:World)(K:tP)(mg:Str->Option Value)(base:Heap)(f:Addr)(k:Nat)(ps:List Str)(sp:Sp):Prop:=∃fd:tQ,FnOk P w K mg base CX0 k f fd ps sp/\Binds K fd ps []/\keepIn K (.ref f)=true
theorem Zo.mono{P:Program}{w:World}{K:tP}{mg:Str->Option Value}{base:Heap}{f:Addr}{j k:Nat}{ps:List Str}{sp:Sp}(h:Zo P w K mg base f j ps sp)(e:j<=k):Zo P w K mg base f k ps sp:=
 let ⟨fd,F,r⟩:=h;⟨fd,F.mono e,r⟩
theorem Zo.up{P:Program}{w:World}{K:tP}{mg:Str->Option Value}{base:Heap}{j k:Nat}{ps:List Str}{sp:Sp}{f:Addr}(h:Zo P w K mg base f j ps sp)(e:uT j k=true):Zo P w K mg base f k ps sp:=h.mono (xY e)
def zk0(P:Program)(w:World)(K:tP)(mg:Str->Option Value)(base:Heap)(k:Nat)(tf:TE)(t:TA):TE:=fun σ H Q=>tf σ H fun x H1=>∃(f:Addr)(ps:List Str)(sp:Sp),x=.ref f/\Zo P w K mg base f k ps sp/\t σ H1 fun vs H2=>sp vs H2 Q E0
theorem zbD{X:Cx}{k:Nat}{fe e:Expr}{es:List Expr}{tf:TE}{t:TA}{pos:Pos}(hr:Room k X.A)(hf:PE X fe tf)(ha:PA X (e::es) t)
  (hev:eval (.Call fe (e::es) [] pos) X.env=(do callWith pos (←eval fe X.env) [] (backTo pos (tI (e::es) X.env)) (backToKw pos (keywordEach [] X.env))):=by rfl)
  (he:tI (e::es) X.env=(false,eval e X.env)::tI es X.env:=by rfl) (hpl:(backTo pos (tI es X.env)).any (·.1)=false:=by rfl):
  PE X (.Call fe (e::es) [] pos) (zk0 X.prog X.w X.K X.mg X.base k tf t):=by
 intro pins s σ H Q I h
 refine Call_ (thn (hf pins s σ H _ I h) fun fv s1 ⟨x,H1,I1,rx,f,ps,sp,ex,⟨fd,F,b,kp⟩,q1⟩=>?_) hev
 subst ex
 obtain rfl:fv=Value.ref f:=rx
 refine callWith_K (h₀:=X.base) I.ok.mod.kin kp (thn (ha pos pins s1 σ H1 _ I1 q1) fun us s2 ⟨vs,H2,I2,r,q⟩=>⟨I2.kIn,?_⟩) he hpl
 exact zgt F hr b .nil zfL I2 r (by rw[xK];exact q)
end L2
namespace D
open PySem L2
theorem zbD{X:Cx}{k:Nat}{fe e:Expr}{es:List Expr}{tf:TE}{t:TA}{pos:Pos}(hr:Room k X.A)(hf:QE X fe tf)(ha:QA X (e::es) t)
  (hev:eval (.Call fe (e::es) [] pos) X.env=(do callWith pos (←eval fe X.env) [] (backTo pos (tI (e::es) X.env)) (backToKw pos (keywordEach [] X.env))):=by rfl)
  (he:tI (e::es) X.env=(false,eval e X.env)::tI es X.env:=by rfl) (hpl:(backTo pos (tI es X.env)).any (·.1)=false:=by rfl):
  QE X (.Call fe (e::es) [] pos) (zk0 X.prog X.w X.K X.mg X.base k tf t):=⟨L2.zbD hr hf.un ha.un hev he hpl⟩
end D
namespace L2
open PySem PySem.Spec PyProof.Rows PySem.Builtin PySem.Builtin.Str
theorem zlR{X:Cx}:OpR X (binaryOp .Mult) (rI IntMulOk fun i j=>.int (i*j)):=opI fun _ _ _ _ _ _ _ hc q=>mul_int q hc
def zna(i j:Int):Prop:=j≠0/\j.natAbs.log2<9000
theorem ziL{X:Cx}:OpR X (binaryOp .FloorDiv) (rI zna fun i j=>.int (i.fdiv j)):=opI fun _ _ _ _ _ _ _ hc q=>floordiv_int hc.1 q (.inl (PyProof.noPylong_of_log2 hc.2))
def znF(K:tP):R2:=fun x y H Q=>(∃i j,x=.str i/\y=.str j/\i.length+j.length<=tF/\Q (.str (i++j)) H)\/zmN K x y H Q \/
 ∃(a b:Addr)(ys:List V),x=.ref a/\y=.ref b/\SqT K H a []/\SqT K H b ys/\Q (.ref b) H
theorem zlS{X:Cx}:OpR X (binaryOp .Add) (znF X.K):=OpR.or zbP (OpR.or zlw zj5)
theorem zlT{K:tP}{A T1 T2:String}{b1 b2:Bool}(h1:isi A T1=some b1)(h2:isi A T2=some b2):kitAny K (.type A) [.type T1,.type T2]=some (b1||b2):=by
 unfold kitAny
 rw[zin h1]
 cases b1 with
 |true=>rfl
 |false=>
  show kitAny K (.type A) [.type T2]=_
  unfold kitAny
  rw[zin h2]
  cases b2<;>rfl
theorem ziM{X:Cx}:zaV X (.builtin "isinstance") (fun xs H Q=>∃v A p T1 T2 b1 b2,xs=[v,.ref p]/\TyOf X.K H v (.type A)/\H p=some (.tup [.ty T1,.ty T2])/\isi A T1=some b1/\isi A T2=some b2/\Q (.bl (b1||b2)) H):=by
 intro pins s σ H xs us Q I r h
 obtain⟨v,A,p,T1,T2,b1,b2,rfl,ty,hp,e1,e2,q⟩:=h
 obtain⟨u,c,rfl,rx,rc⟩:=zhb r
 cases (show c=Value.ref p from rc)
 obtain⟨_,its,ri,⟨o,ho,hc,hd⟩⟩:=(show Zw X.prog X.w H s.heap p (.tup [.ty T1,.ty T2]) from I.hok p _ hp)
 obtain⟨n,hd⟩:=hd
 have eits:its=[.type T1,.type T2]:=by
  cases ri with
  |cons r1 r2=>
  cases r2 with
  |cons r3 r4=>
  cases r4
  cases (show _=Value.type T1 from r1)
  cases (show _=Value.type T2 from r3)
  rfl
 have htp:s.heap.get? p=some ⟨.type "tuple",o.dict,.seq its.toArray n,o.slots⟩:=by
  rw[ho]
  cases o
  simp only at hc hd
  rw[hc,hd]
 have ha:=zlT (K:=X.K) e1 e2
 rw[eits] at htp
 have fin:∀tk,EP X pins σ Q (.bool (b1||b2)) {s with toks:=tk}:=fun tk=>⟨.bl _,H,I.tok tk,rfl,q⟩
 cases ty with
 |non=>cases (show u=Value.none from rx);exact kia_tup PySem.W.kitx_none I.kIn True.intro htp ha (fun z=>nomatch z) fin
 |bl y=>cases (show u=Value.bool y from rx);exact kia_tup PySem.W.kitx_bool I.kIn True.intro htp ha (fun z=>nomatch z) fin
 |int i=>obtain⟨t,q⟩:=(show ∃t,u=Value.int i t from rx);cases q;exact kia_tup PySem.W.kitx_int I.kIn True.intro htp ha (fun z=>nomatch z) fin
 |str y=>obtain⟨t,q⟩:=(show ∃t,u=Value.str y t from rx);cases q;exact kia_tup PySem.W.kitx_str I.kIn True.intro htp ha (fun z=>nomatch z) fin
 |flt y=>obtain⟨t,q⟩:=(show ∃t,u=Value.float y t from rx);cases q;exact kia_tup PySem.W.kitx_float I.kIn True.intro htp ha (fun z=>nomatch z) fin
 | @lst a xs ea=>
  cases (show u=Value.ref a from rx)
  obtain⟨_,_,n,_,h1⟩:=(show Zw X.prog X.w H s.heap a (.lst xs) from I.hok a _ ea)
  exact kia_tup kitx_list I.kIn ⟨_,h1,rfl⟩ htp ha (fun z=>nomatch z) fin
 | @frz a ob xs ea=>
  cases (show u=Value.ref a from rx)
  obtain⟨_,_,_,n,_,h1⟩:=(show Zw X.prog X.w H s.heap a (.frz ob (.lst xs)) from I.hok a _ ea)
  exact kia_tup kitx_list I.kIn ⟨_,h1,rfl⟩ htp ha (fun z=>nomatch z) fin
 | @tup a xs ea=>
  cases (show u=Value.ref a from rx)
  obtain⟨_,_,_,p⟩:=(show Zw X.prog X.w H s.heap a (.tup xs) from I.hok a _ ea)
  obtain⟨o,h1,h2,_⟩:=p
  exact kia_tup PySem.W.kitx_tuple I.kIn ⟨o,h1,h2⟩ htp ha (fun z=>nomatch z) fin
 | @dK a kvs ea=>
  cases (show u=Value.ref a from rx)
  obtain⟨_,_,vs,_,p⟩:=(show Zw X.prog X.w H s.heap a (.dK kvs) from I.hok a _ ea)
  obtain⟨o,es,ep,h1,h2,_⟩:=p
  exact kia_tup kitx_dict I.kIn ⟨o,h1,h2.1⟩ htp ha (fun z=>nomatch z) fin
 | @dT a kvs ea=>
  cases (show u=Value.ref a from rx)
  obtain⟨_,_,xs,_,o,es,ep,h1,h2,_⟩:=(show Zw X.prog X.w H s.heap a (.dT kvs) from I.hok a _ ea)
  exact kia_tup kitx_dict I.kIn ⟨o,h1,h2.1⟩ htp ha (fun z=>nomatch z) fin
end L2
namespace L2
open PySem PySem.Spec PyProof.Rows
theorem zd6{X:Cx}{i:Nat}{y:Str}{py spos:Pos}{elt iter:Expr}{x:Str}{px pos:Pos}{ifs:List Expr}{scope:Scope}{cl:List (Str×Addr)}(fr:List Nat)(ys:List Str){wi:TI}{tt:TT}{te:TE}
  (hc:X.calm=true) (hclos:closureFor scope X.env=pure cl) (hcell:∀y∈scope.names,y.2≠.cell) (hkind:scope.kind=.function) (hnames:∀y∈scope.names,y.2=.local->scope.names.lookup y.1=some .local)
  (hx:scope.names.lookup x=some .local) (hnd:(x::ys).Nodup) (hcl:ClOk cl X.env.cells) (hall:(scope.names.all fun y=>y.2 != .free||(cl.lookup y.1).isSome)=true) (hfr:FrOk X scope cl fr ys)
  (hi:PI X (.Name x px) iter wi)
  (hY:∀C s H fp,PIfs (zI X scope cl (x::ys) C s H fp) ifs tt/\PE (zI X scope cl (x::ys) C s H fp) elt te)
  (hN:X.N.Nodup) (hiy:X.N[i]?=some y) (hy:Loc X.env.scope y) (hsw:swapsWith (.ListComp elt [⟨.Name x px,iter,ifs,0⟩] scope pos) (some (.Name y py)) spos.line X.env=pure true:=by rfl)
  (hf:X.fn y=true\/X.env.scope.names.lookup y=some .local:=by first|exact .inl rfl|exact .inr rfl|assumption)
  (hs:∀v,foldedSetIterable iter X.env v=pure v:=by intro _;rfl):
  PS X (.Assign [.Name y py] (.ListComp elt [⟨.Name x px,iter,ifs,0⟩] scope pos) spos) (tAsg (zcH fr wi tt te) (zX i)):=by
 intro pins s σ H Dn I h
 rw[exec_Assign_Name_used _ _ _ _ hsw]
 refine uV (wpAny_standAt (uV ?_))
 refine (show wpAny _ X.A (do let _ ←comprehension (.ListComp elt [⟨.Name x px,iter,ifs,0⟩] scope pos) scope X.env _ (newList []) false (eval iter X.env) (some (assign (.Name y py) X.env))) _ _ s from ?_)
 refine uV (wpAny_mono (wpAny_comprehension_free (use:=some (assign (.Name y py) X.env)) (Q:=fun _ s'=>SP X pins Dn .next s') rfl hs hclos hkind hnames (wpAny_mono (hi pins s σ H _ I h) (fun v s1 h1=>wpAny_mono h1 (fun itv s2 h2=>?_) fun _ _ e=>e) fun _ _ e=>e)) (fun _ s' hq=>uW (uW hq)) fun _ _ e=>e)
 obtain⟨it,fp,tn,J,H2,rfl,I2,T,st2,f2,W,⟨m0,w0⟩,turn⟩:=h2
 refine tH (wpAny_newFunctionEnv hcell (by intro y hy;simp at hy) (fun h₁ hns₁ hsb₁=>?_) hkind)
 dsimp only at hns₁ hsb₁ ⊢
 generalize hP2:s2.heap.push {cls:=.type "list",dict:=none,data:=.seq ([]:List Value).toArray}=P2 at hns₁ hsb₁ ⊢
 have hC:P2.objs.size=s2.heap.objs.size+1:=by rw[←hP2,Heap.size_push]
 have hDC:s2.heap.objs.size≠P2.objs.size:=by rw[hC];exact yW (wN _)
 have hCle:s2.heap.objs.size<=P2.objs.size:=by rw[hC];exact vG _
 have below:∀b,b<s2.heap.objs.size->b≠P2.objs.size/\b≠s2.heap.objs.size:=fun b hb=>⟨by rw[hC];exact yW (wI hb),yW hb⟩
 have old:∀b o,s2.heap.get? b=some o->h₁.get? b=some o:=fun b o e=>hsb₁.extBut b o (below b (uY e)).1 (uX _ (hP2▸uX _ e))
 have hacc:h₁.get? s2.heap.objs.size=some {cls:=.type "list",data:=.seq ([]:List Value).toArray}:=hsb₁.extBut _ _ hDC (uX _ (hP2▸uZ _ rfl))
 have fpl:∀b∈fp,b<s2.heap.objs.size:=fun b hb=>by
  obtain⟨o,e,_⟩:=T.obj _ _ st2 b hb
  exact uY e
 have tlt:∀b o,H2 b=some o->b<s2.heap.objs.size:=fun b o e=>I2.hok.lt e
 generalize hCg:P2.objs.size=C at hns₁ hsb₁ hDC hCle below ⊢
 generalize hDg:s2.heap.objs.size=D at hDC below hacc fpl tlt ⊢
 have hDle:D<=C:=by rw[←hDg];exact hCle
 have cls:∀y c,cl.lookup y=some c->X.env.cells.lookup y=some c:=fun y c e=>hcl.mem e
 have clt:∀y c,cl.lookup y=some c->c<D:=fun y c e=>by
  obtain⟨v,q⟩:=I2.cell y c (cls y c e)
  rw[←hDg];exact q.lt
 have sub:∀b∈frs X.stack,b<D:=fun b hb=>by
  rcases yS.mp (I2.stkSub b hb) with e|hb
  ·rw[e,←hDg];exact I2.lt
  ·obtain⟨_,o,ho,_⟩:=I2.ok.funs.mem hb
   rw[←hDg];exact yO (uY ho) I2.sz
 obtain⟨YI,YE⟩:=hY C s2 H2 fp
 have Yok:(zI X scope cl (x::ys) C s2 H2 fp).Ok:=by
  refine⟨I2.ok.mod,hkind,I2.ok.glob,I2.ok.blt,hCle,?_,?_,?_,fun _=>I2.ok.hd hc,I2.ok.frames,.inl rfl,?_,I2.bs,yQ I2.ok.bsz I2.sz,?_,?_,I2.stack,I2.stkFree⟩
  ·exact fun y z c e1 e2=>I2.ok.inj y z c (cls y c e1) (cls z c e2)
  ·intro y hy
   have hm:=ZU (env:=X.env) (names:=scope.names) (x:=y) hcell hy
   have q:=xT.mp hall _ hm
   show ∃c,cl.lookup y=some c
   exact xW.mp (by simpa using q)
  ·intro y c hf _
   exact absurd hf (by show ¬false=true;decide)
  ·intro b hb
   refine⟨(below b (fpl b hb)).1,fun y c e z=>?_⟩
   exact (f2 b hb).2.2.2.2.1 y c (cls y c e) z
  ·intro b o e hb
   have hb:b∈fp:=hb
   rcases (f2 b hb).2.2.2.1 with z|z
   ·exact I2.ok.noex b o e z
   ·exact absurd (yO (uY e) (yQ I2.ok.bsz z)) (xB _)
  ·intro b hb hf
   have hb:b∈fp:=hb
   rcases yS.mp (I2.stkSub b hf) with e|hf
   ·exact (f2 b hb).2.1 e
   ·exact (f2 b hb).2.2.1 hf
 have hvis:Loc (zI X scope cl (x::ys) C s2 H2 fp).env.scope x:=.inl (lookup_relabel_local hx)
 have start:∀tk,Inv (zI X scope cl (x::ys) C s2 H2 fp) [] (none::frees fr σ) H2 {s2 with heap:=h₁,toks:=tk}:=fun tk=>by
  refine⟨Yok,rfl,I2.bare,Un.kept old,⟨_,hns₁,fun i y v e1 e2 e3=>?_⟩,fun y c e=>?_,?_,fun y c e=>?_,fun p hp=>absurd (show p∈([]:List (Addr×Obj)) from hp) (by simp),I2.hok.kept old,?_⟩
  ·cases i with
   |zero=>simp at e2
   |succ j=>
    obtain⟨i',n1,n2,n3,n4,n5,c,n6⟩:=zcI hfr j y v (by simpa [zI] using e1) (by simpa using e2)
    obtain⟨m,hn,hl⟩:=I2.loc
    obtain⟨u,r,l⟩:=hl i' y v n1 n2 n4
    refine⟨u,r,.inr ⟨zap n3,c,n6,?_⟩⟩
    rcases l with⟨k,_⟩|⟨k,c',e,z⟩
    ·exact absurd k n5
    ·rw[cls y c n6] at e
     cases e
     obtain⟨o,ho,hd⟩:=z
     exact⟨o,old _ _ ho,hd⟩
  ·obtain⟨v,o,ho,hd⟩:=I2.cell y c (cls y c e)
   exact⟨v,o,old _ _ ho,hd⟩
  ·show H2 C=none
   cases q:H2 C with
   |none=>rfl
   |some o=>exact absurd (tlt C o q) (Nat.not_lt.mpr hDle)
  ·exact I2.freeC y c (cls y c e)
  ·show (none::frees fr σ).length=(x::ys).length
   rw[yJ,yJ,zcJ hfr]
 have fpY:∀{pl:List (Addr×Obj)}{H':Hp},(∀b∈fp,H' b=none)->(∀p∈pl,p.1=D)->∀b∈fp,FpOk (zI X scope cl (x::ys) C s2 H2 fp) pl H' b:=fun {pl H'} hn hpl b hb=>by
  refine⟨hn b hb,(below b (fpl b hb)).1,Yok.exfs b hb,.inl hb,fun y c e z=>(f2 b hb).2.2.2.2.1 y c (cls y c e) z,fun p hp=>?_⟩
  have hp:p∈[]++pl:=hp
  rw[vJ] at hp
  rw[hpl p hp]
  exact (below b (fpl b hb)).2.symm
 have loop:∀s₃:Shared,(∃tk,s₃={s2 with heap:=h₁,toks:=tk})->
   codeAny (model X.prog X.w) X.A (.compLoop (.ListComp elt [⟨.Name x px,iter,ifs,0⟩] scope pos) 0 (.ref it) (.ref D) (compEnvC scope cl C X.env))
    (compPost (model X.prog X.w) X.A X.xe (some (assign (.Name y py) X.env)) (fun _ s'=>SP X pins Dn .next s') (.ref D) C) s₃:=by
  rintro s₃ ⟨tk,rfl⟩
  refine zcG
   (fun k s'=>∃i vs ws nn H',Inv (zI X scope cl (x::ys) C s2 H2 fp) [] (none::frees fr σ) H' s'/\tn i s'.heap/\(∀b∈fp,H' b=none)/\H' D=none /\
    s'.heap.get? D=some {cls:=.type "list",data:=.seq (ws:List Value).toArray nn}/\Vals vs ws/\W i k vs H') ?_ m0
   ⟨0,[],[],0,H2,start tk,T.keep _ _ _ st2 fun b _ o e=>old b o e,fun b hb=>(f2 b hb).1,?_,hacc,.nil,w0⟩
  ·rintro n s3 ⟨i,vs,ws,nn,H3,I3,st3,fr3,hD3,ho3,rv3,w3⟩
   have I3':Inv (zI X scope cl (x::ys) C s2 H2 fp) [(D,{cls:=.type "list",data:=.seq ws.toArray nn})] (none::frees fr σ) H3 s3:=I3.pins_of fun p hp=>by
    have e:p=(D,{cls:=.type "list",data:=.seq ws.toArray nn}):=by simpa using hp
    subst e
    refine⟨ho3,hD3,hDC,fun z=>absurd (sub D z) (xB _),fun v z=>?_⟩
    have z':Data.seq ws.toArray nn=Data.cell v:=z
    cases z'
   have fp3:=fpY (pl:=[(D,{cls:=.type "list",data:=.seq ws.toArray nn})]) fr3 (fun p hp=>by rw[yM.mp hp])
   obtain⟨hsz,alt⟩:=turn i n vs H3 w3
   rcases alt with⟨stop,fin⟩|⟨go,step⟩
   ·refine thn (T.done (zI X scope cl (x::ys) C s2 H2 fp) rfl rfl rfl rfl i _ s3 _ H3 _ I3' fp3 st3 stop) fun r s4 ⟨hr,I4⟩=>?_
    subst hr
    have pD:=I4.pin (D,{cls:=.type "list",data:=.seq ws.toArray nn}) (by show _∈[]++_;simp)
    obtain⟨m4,hn4,_⟩:=I4.loc
    have hC4:H3 C=none:=I4.free
    have hok4:HOk X.prog X.w (upd H3 D (.lst vs)) s4.heap:=HOk.track I4.hok hD3 ⟨hsz,ws,nn,rv3,pD.1⟩
    have b4:=I4.base
    have un4:Un (frs X.stack) fp H2 (upd H3 D (.lst vs)) s2.heap s4.heap:=by
     have lt:∀b o,s2.heap.get? b=some o->b<D:=fun b o e=>by rw[←hDg];exact uY e
     refine⟨b4.keep,b4.slot,fun b o e n hx=>?_,b4.there,fun b zs e=>?_,fun b o u e=>?_,fun b ps e=>?_⟩
     ·rw[zu (below b (lt b o e)).2];exact b4.free b o e n hx
     ·rw[zu (below b (tlt b _ e)).2];exact b4.tups b zs e
     ·rw[zu (below b (tlt b _ e)).2];exact b4.frzs b o u e
     ·rw[zu (below b (tlt b _ e)).2];exact b4.tbls b ps e
    have I5:Inv X pins σ (upd H3 D (.lst vs)) s4:=I2.call' (ch:=fp) I4.os un4 hok4 I4.bare fun b hb=>⟨(f2 b hb).2.2.2.1,(f2 b hb).2.1,(f2 b hb).2.2.2.2.1,(f2 b hb).2.2.2.2.2⟩
    have fC:FpOk X pins (upd H3 D (.lst vs)) C:=I2.fpOk (by rw[hDg];exact hDle) (by rw[zu hDC.symm];exact hC4)
    refine (show wpAny _ X.A (assign (.Name y py) X.env (.ref D)) _ _ s4 from wpAny_assign_Name (zeF I5 hN hiy hy (v:=.ref D) rfl (fun s5 I6 ⟨a,hsa,ha⟩=>?_) hf))
    have aC:C≠a:=by
     rcases ha with ha|ha
     ·rw[ha];exact fC.2.1
     ·exact (fC.2.2.2.2.1 _ _ ha).symm
    refine⟨m4,hn4.sameBut hsa aC,fun h' hs'=>⟨_,upd H3 D (.lst vs),I6.turned (t':=s5.toks) (it:=C) (fun b o hb e=>(hs'.2 b hb).trans e) fC.1 fC.2.1 fC.2.2.2.1 fC.2.2.2.2.1 fC.2.2.2.2.2,fin D hD3⟩⟩
   ·refine thn (T.item (zI X scope cl (x::ys) C s2 H2 fp) rfl rfl rfl rfl i _ s3 _ H3 _ I3' fp3 st3 go) fun r s4 ⟨u,hr,h4⟩=>?_
    subst hr
    refine thn h4 fun _ s5 ⟨v,H5,I5,r5,y5,st5,fr5⟩=>?_
    have fp5:=fpY (pl:=[(D,{cls:=.type "list",data:=.seq ws.toArray nn})]) fr5 (fun p hp=>by rw[yM.mp hp])
    have I5':=I5.pinned fp5 (T.obj _ _ st5)
    refine thn (zR (X:=zI X scope cl (x::ys) C s2 H2 fp) (i:=0) (pos:=px) hnd rfl hvis (.inr (lookup_relabel_local hx)) _ s5 _ H5 v u (fun σ' H'=>σ'=some v::frees fr σ/\H'=H5) I5' r5 ⟨rfl,rfl⟩) fun _ s6 ⟨σ6,H6,I6,e6,e6'⟩=>?_
    subst e6 e6'
    refine thn (YI _ s6 _ _ _ I6 (step v H6 y5)) fun b s7 ⟨H7,I7,q7⟩=>?_
    have back:∀{H8:Hp}{s8:Shared},Inv (zI X scope cl (x::ys) C s2 H2 fp) ([(D,{cls:=.type "list",data:=.seq ws.toArray nn})]++zcx fp s5.heap) (some v::frees fr σ) H8 s8->
      s8.heap.get? D=some {cls:=.type "list",data:=.seq ws.toArray nn}/\H8 D=none/\(∀b∈fp,H8 b=none)/\(∀b∈fp,∀o,s5.heap.get? b=some o->s8.heap.get? b=some o):=fun {H8 s8} I8=>by
     have pD:=I8.pin (D,{cls:=.type "list",data:=.seq ws.toArray nn}) (by show _∈[]++_;simp)
     refine⟨pD.1,pD.2.1,fun b hb=>?_,fun b hb o e=>?_⟩
     ·obtain⟨o,e,d⟩:=T.obj _ _ st5 b hb
      exact (I8.pin (b,o) (yR _ (yR _ (ZM hb e)))).2.1
     ·exact (I8.pin (b,o) (yR _ (yR _ (ZM hb e)))).1
    have weak:∀{H8:Hp}{s8:Shared},Inv (zI X scope cl (x::ys) C s2 H2 fp) [] (some v::frees fr σ) H8 s8->Inv (zI X scope cl (x::ys) C s2 H2 fp) [] (none::frees fr σ) H8 s8:=fun {H8 s8} I8=>
     I8.weak rfl fun i v' e=>by
      cases i with
      |zero=>simp at e
      |succ j=>simpa using e
    have nopin:∀{H8:Hp}{s8:Shared}{pl:List (Addr×Obj)},Inv (zI X scope cl (x::ys) C s2 H2 fp) pl (some v::frees fr σ) H8 s8->Inv (zI X scope cl (x::ys) C s2 H2 fp) [] (some v::frees fr σ) H8 s8:=fun {H8 s8 pl} I8=>
     I8.pins_of fun p hp=>absurd hp (by simp)
    cases b with
    |false=>
     rw[if_neg yI] at q7 ⊢
     obtain⟨m',hm,w7⟩:=q7
     obtain⟨k1,k2,k3,k4⟩:=back I7
     exact⟨m',hm,i+1,vs,ws,nn,H7,weak (nopin I7),T.keep _ _ _ st5 k4,k3,k2,k1,rv3,w7⟩
    |true=>
     rw[if_pos rfl] at q7 ⊢
     refine thn (YE _ s7 _ _ _ I7 q7) fun u8 s8 ⟨y8,H8,I8,r8,m',hm,w8⟩=>?_
     obtain⟨k1,k2,k3,k4⟩:=back I8
     refine append_at (hsz:=by rw[yG,←rv3.length];exact hsz) k1 fun h9 hs9 ho9=>?_
     have I9:Inv (zI X scope cl (x::ys) C s2 H2 fp) [] (some v::frees fr σ) H8 {s8 with heap:=h9}:=
      (nopin I8).turned (t':=s8.toks) (it:=D) (fun b o hb e=>(hs9.2 b hb).trans e) k2 hDC (.inr (by rw[←hDg];exact yE _)) (fun y c e=>yW (clt y c e)) fun p hp=>absurd (show p∈([]:List (Addr×Obj)) from hp) (by simp)
     refine⟨m',hm,i+1,vs++[y8],ws++[u8],nn+1,H8,weak I9,?_,k3,k2,?_,rv3.append (.cons r8 .nil),w8⟩
     ·refine T.keep _ _ _ st5 fun b hb o e=>?_
      exact (hs9.2 b (below b (fpl b hb)).2).trans (k4 b hb o e)
     ·rw[ho9,vS]
  ·cases q:H2 D with
   |none=>rfl
   |some o=>exact absurd (tlt D o q) (xB _)
 exact codeAny_compStart_list (loop _ ⟨_,rfl⟩) (T.self _ 0 _ _ _ (T.keep _ _ _ st2 fun b _ o e=>old b o e) (loop _ ⟨_,rfl⟩))
end L2
namespace D
open PySem L2
theorem zd6{X:Cx}{i:Nat}{y:Str}{py spos:Pos}{elt iter:Expr}{x:Str}{px pos:Pos}{ifs:List Expr}{scope:Scope}{cl:List (Str×Addr)}(fr:List Nat)(ys:List Str){wi:TI}{tt:TT}{te:TE}
  (hc:X.calm=true) (hclos:closureFor scope X.env=pure cl) (hcell:∀y∈scope.names,y.2≠.cell) (hkind:scope.kind=.function) (hnames:∀y∈scope.names,y.2=.local->scope.names.lookup y.1=some .local)
  (hx:scope.names.lookup x=some .local) (hnd:(x::ys).Nodup) (hcl:ClOk cl X.env.cells) (hall:(scope.names.all fun y=>y.2 != .free||(cl.lookup y.1).isSome)=true) (hfr:FrOk X scope cl fr ys)
  (hi:QI X (.Name x px) iter wi)
  (hY:∀C s H fp,QIfs (zI X scope cl (x::ys) C s H fp) ifs tt/\QE (zI X scope cl (x::ys) C s H fp) elt te)
  (hN:X.N.Nodup) (hiy:X.N[i]?=some y) (hy:L2.Loc X.env.scope y) (hsw:swapsWith (.ListComp elt [⟨.Name x px,iter,ifs,0⟩] scope pos) (some (.Name y py)) spos.line X.env=pure true:=by rfl)
  (hf:X.fn y=true\/X.env.scope.names.lookup y=some .local:=by first|exact .inl rfl|exact .inr rfl|assumption)
  (hs:∀v,foldedSetIterable iter X.env v=pure v:=by intro _;rfl):
  QS X (.Assign [.Name y py] (.ListComp elt [⟨.Name x px,iter,ifs,0⟩] scope pos) spos) (tAsg (zcH fr wi tt te) (zX i)):=
 ⟨L2.zd6 fr ys hc hclos hcell hkind hnames hx hnd hcl hall hfr hi.un (fun C s H fp=>⟨(hY C s H fp).1.un,(hY C s H fp).2.un⟩) hN hiy hy hsw hf hs⟩
end D
namespace L2
open PySem PySem.Spec PyProof.Rows
theorem ze2{X:Cx}:zaV X (.type "dict") (fun xs H Q=>∃(a:Addr)(kvs:List (Key×V)),xs=[.ref a]/\H a=some (.dK kvs)/\∀p,H p=none->Q (.ref p) (upd H p (.dK kvs))):=by
 intro pins s σ H xs us Q I r h
 obtain⟨a,kvs,rfl,e,q⟩:=h
 obtain⟨u,rfl,rx⟩:=zcd r
 cases rx
 exact zjO I (.inl e) fun p s' hp I'=>⟨.ref p,_,I',rfl,q p hp⟩
def zk1(P:Program)(w:World)(K:tP)(td ty tx:TE):TE:=fun σ H Q=>td σ H fun x H1=>∃(g:Addr)(kvs:List (Key×V)),x=.ref g/\MD P w K g kvs/\ty σ H1 fun y H2=>tx σ H2 fun z H3=>∃k:Key,y=kV k/\Q ((valV kvs k).getD z) H3
theorem zd7{X:Cx}{o e f:Expr}{apos cpos:Pos}{td ty tx:TE}(ho:PE X o td)(he:PE X e ty)(hf:PE X f tx)(m:M2 X o "get" apos e f cpos):PE X (.Call (.Attribute o "get" apos) [e,f] [] cpos) (zk1 X.prog X.w X.K td ty tx):=by
 intro pins s σ H Q I h
 refine wpAny_Call_method m.base m.few m.line PySem.F.plainAttrs_dict PySem.F.slot_dict_get PySem.F.type_dict_get (thn (ho pins s σ H _ I h) fun u s1 ⟨x,H1,I1,rx,a,kvs,ex,d,q1⟩=>?_)
 subst ex
 obtain rfl:u=Value.ref a:=rx
 obtain⟨vs1,rel1,dd1,hd1⟩:=d.dict I1.kIn
 refine⟨dd1.typeIs,fun b q=>?_,?_⟩
 ·cases q
  obtain⟨ob,_,_,h1,h2,_⟩:=dd1
  exact⟨ob,h1,h2.2.1⟩
 rw[m.trees]
 refine Calls.callWith_builtin rfl (Calls.evalArgs_plain (Calls.spliced_cons (thn (he pins s1 σ H1 _ I1 q1) fun iv s2 ⟨y,H2,I2,ry,q2⟩=>
  Calls.spliced_cons (thn (hf pins s2 σ H2 _ I2 q2) fun fv s3 ⟨z,H3,I3,rz,k,ey,q3⟩=>Calls.spliced_nil ?_))))
 subst ey
 obtain⟨vs,rel,dd,hd⟩:=d.dict I3.kIn
 refine call_meetsIn PySem.F.slot_dict_get dd.typeIs PySem.F.entry_dict_get (PySem.F.args_dict_get_3 _ _ _) (meets_dict_get_default (Zu X.prog X.w) a (zfF ry) hd fv) ⟨_,dd.mapOf,?_⟩
 exact⟨_,H3,I3.tok _,(rel.val k).getD rz,q3⟩
end L2
namespace D
open PySem L2
theorem zd7{X:Cx}{o e f:Expr}{apos cpos:Pos}{td ty tx:TE}(ho:QE X o td)(he:QE X e ty)(hf:QE X f tx)(m:M2 X o "get" apos e f cpos):QE X (.Call (.Attribute o "get" apos) [e,f] [] cpos) (zk1 X.prog X.w X.K td ty tx):=⟨L2.zd7 ho.un he.un hf.un m⟩
end D
namespace L2
open PySem PySem.Spec PyProof.Rows
def zaj(P:Program)(w:World)(K:tP)(mg:Str->Option Value)(base:Heap)(C:Addr)(m:Str)(k:Nat)(ps:List Str)(sp:Sp):Prop:=
 ∃(f:Addr)(fd:tQ),FnOk P w K mg base CX0 k f fd ps sp/\Binds K fd ps []/\Meth K C m f/\Cls K C
def zbZ(P:Program)(w:World)(K:tP)(mg:Str->Option Value)(base:Heap)(C:Addr)(x:Str)(k:Nat)(ps:List Str)(sp:Sp):Prop:=
 ∃(f:Addr)(fd:tQ)(j:Nat),k=j+1/\FnOk P w K mg base CX0 j f fd ps sp/\Binds K fd ps []/\Mk K C f/\mg x=some (.ref C)
theorem zaj.mono{P:Program}{w:World}{K:tP}{mg:Str->Option Value}{base:Heap}{C:Addr}{m:Str}{j k:Nat}{ps:List Str}{sp:Sp}(h:zaj P w K mg base C m j ps sp)(e:j<=k):zaj P w K mg base C m k ps sp:=
 let ⟨f,fd,F,r⟩:=h;⟨f,fd,F.mono e,r⟩
theorem zaj.up{P:Program}{w:World}{K:tP}{mg:Str->Option Value}{base:Heap}{j k:Nat}{ps:List Str}{sp:Sp}{C:Addr}{m:Str}(h:zaj P w K mg base C m j ps sp)(e:uT j k=true):zaj P w K mg base C m k ps sp:=h.mono (xY e)
theorem zbZ.mono{P:Program}{w:World}{K:tP}{mg:Str->Option Value}{base:Heap}{C:Addr}{m:Str}{j k:Nat}{ps:List Str}{sp:Sp}(h:zbZ P w K mg base C m j ps sp)(e:j<=k):zbZ P w K mg base C m k ps sp:=by
 obtain⟨f,fd,i,rfl,F,r⟩:=h
 exact⟨f,fd,k-1,by lia,F.mono (by lia),r⟩
theorem zbZ.up{P:Program}{w:World}{K:tP}{mg:Str->Option Value}{base:Heap}{j k:Nat}{ps:List Str}{sp:Sp}{C:Addr}{m:Str}(h:zbZ P w K mg base C m j ps sp)(e:uT j k=true):zbZ P w K mg base C m k ps sp:=h.mono (xY e)
section
variable{X:Cx}{C:Addr}{x m:Str}{k:Nat}{ps:List Str}{sp:Sp}{e o:Expr}{es:List Expr}{ta:TE}{t:TA}{p pos apos:Pos}
theorem pe_m(G:zaj X.prog X.w X.K X.mg X.base C m k ps sp)(hr:Room k X.A)(ho:PE X o ta)(ha:PA X (e::es) t){pl:Sem Bool}
  (hst:tI (e::es) X.env=(false,eval e X.env)::tI es X.env:=by rfl) (hpl:(backTo pos (tI es X.env)).any (·.1)=false:=by rfl)
  (ht:eval (.Call (.Attribute o m apos) (e::es) [] pos) X.env=(do
   let ov ←eval o X.env
   standAt apos.atName
   let (f,first) ←holding [ov] (getMethod ov m pl)
   callWith pos f first (backTo pos (tI (e::es) X.env)) (backToKw pos (keywordEach [] X.env))):=by rfl):
  PE X (.Call (.Attribute o m apos) (e::es) [] pos) (zeK C m sp [] E0 ta t):=by
 obtain⟨f,fd,F,b,mm,c⟩:=G
 exact zh8 ho c mm F hr b .nil zfL ha hst hpl ht
theorem zhu(G:zaj X.prog X.w X.K X.mg X.base C m k ps sp)(hr:Room k X.A)(ho:PE X o ta){pl:Sem Bool}
  (ht:eval (.Call (.Attribute o m apos) [] [] pos) X.env=(do
   let ov ←eval o X.env
   standAt apos.atName
   let (f,first) ←holding [ov] (getMethod ov m pl)
   callWith pos f first (backTo pos (tI [] X.env)) (backToKw pos (keywordEach [] X.env))):=by rfl):
  PE X (.Call (.Attribute o m apos) [] [] pos) (zeK C m sp [] E0 ta tNil):=by
 obtain⟨f,fd,F,b,mm,c⟩:=G
 exact zgu ho c mm F hr b .nil zfL ht
theorem ze3(G:zbZ X.prog X.w X.K X.mg X.base C x k ps sp)(hr:Room k X.A)(hg:Gl X x)(ha:PA X (e::es) t)(hdb:(x==("__debug__":Str))=false:=by decide)
  (he:tI (e::es) X.env=(false,eval e X.env)::tI es X.env:=by rfl) (hpl:(backTo pos (tI es X.env)).any (·.1)=false:=by rfl):
  PE X (.Call (.Name x p) (e::es) [] pos) (zlr C sp [] E0 t):=by
 obtain⟨f,fd,j,rfl,F,b,mk,mg⟩:=G
 exact zlt mk F hr hg mg b .nil zfL ha hdb he hpl
end
end L2
namespace D
open PySem L2
section
variable{X:Cx}{C:Addr}{x m:Str}{k:Nat}{ps:List Str}{sp:Sp}{e o:Expr}{es:List Expr}{ta:TE}{t:TA}{p pos apos:Pos}
theorem pe_m(G:zaj X.prog X.w X.K X.mg X.base C m k ps sp)(hr:Room k X.A)(ho:QE X o ta)(ha:QA X (e::es) t){pl:Sem Bool}
  (hst:tI (e::es) X.env=(false,eval e X.env)::tI es X.env:=by rfl) (hpl:(backTo pos (tI es X.env)).any (·.1)=false:=by rfl)
  (ht:eval (.Call (.Attribute o m apos) (e::es) [] pos) X.env=(do
   let ov ←eval o X.env
   standAt apos.atName
   let (f,first) ←holding [ov] (getMethod ov m pl)
   callWith pos f first (backTo pos (tI (e::es) X.env)) (backToKw pos (keywordEach [] X.env))):=by rfl):
  QE X (.Call (.Attribute o m apos) (e::es) [] pos) (zeK C m sp [] E0 ta t):=⟨L2.pe_m G hr ho.un ha.un hst hpl ht⟩
theorem zhu(G:zaj X.prog X.w X.K X.mg X.base C m k ps sp)(hr:Room k X.A)(ho:QE X o ta){pl:Sem Bool}
  (ht:eval (.Call (.Attribute o m apos) [] [] pos) X.env=(do
   let ov ←eval o X.env
   standAt apos.atName
   let (f,first) ←holding [ov] (getMethod ov m pl)
   callWith pos f first (backTo pos (tI [] X.env)) (backToKw pos (keywordEach [] X.env))):=by rfl):
  QE X (.Call (.Attribute o m apos) [] [] pos) (zeK C m sp [] E0 ta tNil):=⟨L2.zhu G hr ho.un ht⟩
theorem ze3(G:zbZ X.prog X.w X.K X.mg X.base C x k ps sp)(hr:Room k X.A)(hg:Gl X x)(ha:QA X (e::es) t)(hdb:(x==("__debug__":Str))=false:=by decide)
  (he:tI (e::es) X.env=(false,eval e X.env)::tI es X.env:=by rfl) (hpl:(backTo pos (tI es X.env)).any (·.1)=false:=by rfl):
  QE X (.Call (.Name x p) (e::es) [] pos) (zlr C sp [] E0 t):=⟨L2.ze3 G hr hg ha.un hdb he hpl⟩
end
end D
namespace L2
open PySem PySem.Spec PyProof.Rows
theorem Inv.turnedL{X:Cx}{pins:List (Addr×Obj)}{σ:St}{H:Hp}{s:Shared}{h':Heap}{t':Nat}{fp:List Addr}(I:Inv X pins σ H s)(k:∀b o,b ∉ fp->s.heap.get? b=some o->h'.get? b=some o)(hf:∀b∈fp,FpOk X pins H b):
  Inv X pins σ H {s with heap:=h',toks:=t'}:=by
 have nit:∀b u,H b=some u->b ∉ fp:=fun b u e z=>by
  have:=(hf b z).1
  rw[e] at this
  cases this
 refine I.step (g':=s.gens) (d':=s.drawn) (ch:=fp) (fun b hb=>?_) (fun b o _ _ hc e _=>k b o hc e) (fun b o _ _ hc e _=>⟨o.slots,k b o hc e⟩) (fun _ _ _ _ n=>n)
  (fun b o hc e=>⟨o,k b o hc e⟩) (fun _ _ e=>e) (fun _ _ _ e=>e) (fun b ps e=>⟨#[],by rw[e];simp⟩) (fun m hm=>?_) (fun b u e=>?_) I.bare
 ·obtain⟨f0,f1,f2,f3,f4,f5⟩:=hf b hb
  exact⟨f3,f1,f4,f5⟩
 ·obtain⟨o,es,ep,ho,r⟩:=hm
  exact⟨o,es,ep,k _ o (fun z=>(hf _ z).2.1 rfl) ho,r⟩
 ·refine (I.hok b u e).stay (fun c v hc q=>k c v ?_ q) (fun _ q=>q) fun _ _ q=>q
  rcases hc with z|z
  ·rw[z];exact nit b u e
  ·exact nit c _ z
theorem zgF{h:Heap}{o u:Obj}{b:Addr}(e:(h.push o).get? b=some u)(hb:b<h.objs.size):h.get? b=some u:=by
 rcases Heap.get?_push_cases e with⟨r,_⟩|r
 ·rw[r] at hb
  exact absurd hb (xB _)
 ·exact r
def Ite(K:tP)(a:Addr):It:=
 ⟨fun i H=>∃xs x,SqL K H a xs/\xs[i]?=some x,fun i H x H'=>∃t y,H t=none/\x=.ref t/\(∀xs,SqL K H a xs->xs[i]?=some y)/\H'=upd H t (.tup [.int i,y]),fun i H=>∃xs,SqL K H a xs/\xs.length<=i⟩
theorem ziN{P:Program}{w:World}{K:tP}{elts:List Expr}{k:Nat}{pos:Pos}(a e it:Addr)(hei:e≠it):Turn P w K (.Tuple elts k pos) (Ite K a) [e,it] e (fun i h=>(∃old,IsEnum h e it i old)/\h.IsListIter it a i) where
 mem:=by simp
 obj:=fun i h st b hb=>by
  obtain⟨⟨old,he⟩,hit⟩:=st
  have hc:b=e\/b=it:=by simpa using hb
  rcases hc with rfl|rfl
  ·exact⟨_,he,fun v z=>by
    have z':Data.fields _=Data.cell v:=z
    cases z'⟩
  ·obtain⟨o,eo,c,d⟩:=hit
   exact⟨o,eo,fun v z=>by rw[d] at z;cases z⟩
 keep:=fun i h h' st kk=>by
  obtain⟨⟨old,he⟩,hit⟩:=st
  exact⟨⟨old,kk e (by simp) _ he⟩,hit.at fun o x=>kk it (by simp) o x⟩
 item:=by
  intro X hP hw hK hc i pins s σ H E I hf st hg
  subst hP hw hK
  obtain⟨⟨old,he⟩,hit⟩:=st
  obtain⟨xs,x,hq,hx⟩:=hg
  obtain⟨its,rv,p,hz⟩:=I.list hq
  obtain⟨u,hu,ru⟩:=rv.get hx
  have hfr:H s.heap.objs.size=none:=I.hok.fresh (yE _)
  have helt:e<s.heap.objs.size:=uY he
  have hilt:it<s.heap.objs.size:=by obtain⟨_,z,_⟩:=hit;exact uY z
  refine wpAny_pyNext_enum_item he hit p.isList (x:=u) (by simpa using hu) hei fun h' ho hit' hT hsz hk=>⟨_,rfl,wpAny_letOwnedTupleGo_enum ho fun h2 he2 hs2=>?_⟩
  have I1:Inv X pins σ (upd H s.heap.objs.size (.tup [.int i,x])) {s with heap:=s.heap.push {cls:=.type "tuple",data:=.seq #[.int i s.toks,u]},toks:=s.toks}:=
   I.laid (t':=s.toks) (fun b u e=>uX _ e) (yE _) ⟨zl2,[.int i s.toks,u],.cons ⟨_,rfl⟩ (.cons ru .nil),⟨_,uZ _ rfl,rfl,_,rfl⟩⟩
  have nn:∀b∈[e,it],upd H s.heap.objs.size (.tup [.int i,x]) b=none:=fun b hb=>by
   rw[zu (fun z=>by
    have hc:b=e\/b=it:=by simpa using hb
    rcases hc with r|r
    ·rw[←r,z] at helt;exact xB _ helt
    ·rw[←r,z] at hilt;exact xB _ hilt)]
   exact (hf b hb).1
  have I2:Inv X pins σ (upd H s.heap.objs.size (.tup [.int i,x])) {s with heap:=h2,toks:=s.toks+1}:=by
   refine Inv.turnedL (s:={s with heap:=s.heap.push {cls:=.type "tuple",data:=.seq #[.int i s.toks,u]},toks:=s.toks}) (h':=h2) (t':=s.toks+1) (fp:=[e,it]) I1 (fun b o hb eb=>?_) (fun b hb=>?_)
   ·have hbe:b≠e:=fun z=>hb (by simp[z])
    have hbi:b≠it:=fun z=>hb (by simp[z])
    refine (hs2.2 b hbe).trans ?_
    by_cases hbs:b=s.heap.objs.size
    ·subst hbs
     have e1:(s.heap.push {cls:=.type "tuple",data:=.seq #[.int i s.toks,u]}).get? s.heap.objs.size=some {cls:=.type "tuple",data:=.seq #[.int i s.toks,u]}:=uZ _ rfl
     have eb:(s.heap.push {cls:=.type "tuple",data:=.seq #[.int i s.toks,u]}).get? s.heap.objs.size=some o:=eb
     rw[e1] at eb
     cases eb
     exact hT
    ·refine hk b o hbe hbi ?_
     have eb:(s.heap.push {cls:=.type "tuple",data:=.seq #[.int i s.toks,u]}).get? b=some o:=eb
     have hlt:=uY eb
     rw[Heap.size_push] at hlt
     exact zgF eb (Nat.lt_of_le_of_ne (Nat.le_of_lt_succ hlt) hbs)
   ·obtain⟨f0,f1,f2,f3,f4,f5⟩:=hf b hb
    exact⟨nn b hb,f1,f2,f3,f4,f5⟩
  refine⟨.ref s.heap.objs.size,_,I2,rfl,⟨s.heap.objs.size,x,hfr,rfl,fun ys hy=>by rw[I.list_inj hy hq];exact hx,rfl⟩,⟨⟨_,by simpa using he2⟩,hit'.at fun o y=>(hs2.2 it hei.symm).trans y⟩,nn⟩
 done:=by
  intro X hP hw hK hc i pins s σ H E I hf st hg
  subst hP hw hK
  obtain⟨⟨old,he⟩,hit⟩:=st
  obtain⟨xs,hq,hx⟩:=hg
  obtain⟨its,rv,p,hz⟩:=I.list hq
  have hl:=rv.length
  refine wpAny_pyNext_enum_end (I.ok.hd hc) he hit p.isList (by simp;lia) fun h' eb=>⟨rfl,?_⟩
  exact I.turnedL (t':=s.toks) (fp:=[e,it]) (fun b o hb e'=>eb b o (fun z=>hb (by simp[z])) e') hf
 self:=fun _ _ _ _ _ st h=>by
  obtain⟨⟨old,he⟩,_⟩:=st
  exact wpAny_pyIter_enum he h
theorem ze4:tJ (uU "enumerate")=some (.type "enumerate"):=by kernel_rfl
def znb(K:tP)(ta:TA):TI:=fun σ H R=>ta σ H fun vs H1=>∃(a:Addr)(xs:List V),vs=[.ref a]/\SqL K H1 a xs/\R (Ite K a) H1
theorem zfU{X:Cx}{elts:List Expr}{k:Nat}{ps:Pos}{a:Expr}{ta:TA}{p pos:Pos}(hg:Gl X "enumerate")(hm:X.mg "enumerate"=none)(ha:PA X [a] ta)(hs:tI [a] X.env=[(false,eval a X.env)]:=by rfl):
  PI X (.Tuple elts k ps) (.Call (.Name "enumerate" p) [a] [] pos) (znb X.K ta):=by
 intro pins s σ H R I h
 refine Call_ (zbu I hg hm ze4 (PyProof.Rows.callWith_type1 (thn (ha pos pins s σ H _ I h) fun us s1 ⟨vs,H1,I1,r1,q1⟩=>?_) hs rfl))
 obtain⟨b,xs,e,hq,q⟩:=q1
 subst e
 obtain⟨u,rfl,rx⟩:=zcd r1
 cases rx
 obtain⟨its,rv,pl,hz⟩:=I1.list hq
 refine call_enumerate_list pl.isList fun h' he hi hsz hk=>?_
 have hne:s1.heap.objs.size+1≠s1.heap.objs.size:=Nat.succ_ne_self _
 refine wpAny_pyIter_enum he ?_
 have I2:Inv X pins σ H1 {s1 with heap:=h',toks:=s1.toks}:=I1.kept (t':=s1.toks) hk
 refine⟨s1.heap.objs.size+1,[s1.heap.objs.size+1,s1.heap.objs.size],_,_,H1,rfl,I2,ziN b _ _ hne,⟨⟨_,he⟩,hi⟩,fun c hc=>?_,q⟩
 have hcs:c=s1.heap.objs.size+1\/c=s1.heap.objs.size:=by simpa using hc
 have hle:s1.heap.objs.size<=c:=by
  rcases hcs with r|r
  ·rw[r];exact vG _
  ·rw[r];exact yE _
 exact I1.fpOk hle (I1.hok.fresh hle)
theorem zd8{K:tP}{a:Addr}{xs:List V}{g:TG}{tb:TS}{D:Ends}{σ:St}{H:Hp}(Pv:Nat->St->Hp->Prop)(h0:Pv 0 σ H)(hl:∀i σ H,i<=xs.length->Pv i σ H->SqL K H a xs)
  (hs:∀i x t σ H,xs[i]?=some x->H t=none->Pv i σ H->g (.ref t) σ (upd H t (.tup [.int i,x])) fun σ2 H2=>tb {D with nx:=Pv (i+1),ct:=Pv (i+1),bk:=D.nx} σ2 H2) (hd:∀σ H,Pv xs.length σ H->D.nx σ H):
  ∃W:Nat->Nat->St->Hp->Prop,(∃m,W 0 m σ H)/\∀i m σ H,W i m σ H->
   ((Ite K a).stop i H/\D.nx σ H)\/((Ite K a).go i H/\∃N:St->Hp->Prop,(∀σ' H',N σ' H'->∃m',m'<m/\W (i+1) m' σ' H')/\∀x H',(Ite K a).yld i H x H'->g x σ H' fun σ2 H2=>tb {D with nx:=N,ct:=N,bk:=D.nx} σ2 H2):=by
 refine⟨fun i m σ H=>m=xs.length-i/\i<=xs.length/\Pv i σ H,⟨xs.length,by simp,yN _,h0⟩,?_⟩
 rintro i m σ H ⟨rfl,hi,p⟩
 have q:=hl i σ H hi p
 by_cases hlt:i<xs.length
 ·refine .inr ⟨⟨xs,xs[i],q,by simp[hlt]⟩,Pv (i+1),fun σ' H' p'=>⟨xs.length-(i+1),by lia,rfl,hlt,p'⟩,fun x H' y=>?_⟩
  obtain⟨t,y,ht,rfl,hy,rfl⟩:=y
  exact hs i y t σ H (hy xs q) ht p
 ·have e:i=xs.length:=by lia
  subst e
  exact .inl ⟨⟨xs,q,yE _⟩,hd σ H p⟩
end L2
namespace D
open PySem L2
theorem zfU{X:Cx}{elts:List Expr}{k:Nat}{ps:Pos}{a:Expr}{ta:TA}{p pos:Pos}(hg:Gl X "enumerate")(hm:X.mg "enumerate"=none)(ha:QA X [a] ta)(hs:tI [a] X.env=[(false,eval a X.env)]:=by rfl):
  QI X (.Tuple elts k ps) (.Call (.Name "enumerate" p) [a] [] pos) (znb X.K ta):=⟨L2.zfU hg hm ha.un hs⟩
end D
namespace D
open PySem L2 PySem.Spec PyProof.Rows
theorem ziO{xs:List V}{its:List Value}(r:Vals xs its){j:Nat}{x:V}(h:xs[j]?=some x)(hj:j<its.toArray.size):RelV x its.toArray[j]:=by
 obtain⟨u,hu,ru⟩:=r.get h
 have e:its.toArray[j]=u:=by
  have:=(yC.mp hu).2
  simpa using this
 rw[e]
 exact ru
end D
namespace L2
open PySem PySem.Spec PyProof.Rows
def ziP(n:Nat)(wi:TI)(g:TG)(tt:TT)(te:TE):TE:=fun σ H Q=>wi σ H fun J H1=>∃W:Nat->Nat->List V->Hp->Prop,(∃m,W 0 m [] H1)/\∀i m vs H,W i m vs H->vs.length<=tF /\
 ((J.stop i H/\∀D,H D=none->Q (.ref D) (upd H D (.lst vs))) \/
  (J.go i H/\∀v H',J.yld i H v H'->g v (xR n none) H' fun σ2 H2=>tt σ2 H2 fun b H3=>if b=true then te σ2 H3 fun y H4=>∃m',m'<m/\W (i+1) m' (vs++[y]) H4 else ∃m',m'<m/\W (i+1) m' vs H3))
theorem zbE{X:Cx}{elt iter tg:Expr}{pos:Pos}{ifs:List Expr}{scope:Scope}{cl:List (Str×Addr)}(NY:List Str){wi:TI}{g:TG}{tt:TT}{te:TE}
  (hc:X.calm=true) (hclos:closureFor scope X.env=pure cl) (hcell:∀y∈scope.names,y.2≠.cell) (hkind:scope.kind=.function) (hnames:∀y∈scope.names,y.2=.local->scope.names.lookup y.1=some .local)
  (hcl:ClOk cl X.env.cells) (hall:(scope.names.all fun y=>y.2 != .free||(cl.lookup y.1).isSome)=true)
  (hi:PI X tg iter wi) (hg:∀C s H fp,PG (zI X scope cl NY C s H fp) tg g)
  (hY:∀C s H fp,PIfs (zI X scope cl NY C s H fp) ifs tt/\PE (zI X scope cl NY C s H fp) elt te)
  (hs:∀v,foldedSetIterable iter X.env v=pure v:=by intro _;rfl):
  PE X (.ListComp elt [⟨tg,iter,ifs,0⟩] scope pos) (ziP NY.length wi g tt te):=by
 intro pins s σ H Q I h
 rw[eval_ListComp]
 refine wpAny_comprehension_free (use:=none) rfl hs hclos hkind hnames (wpAny_mono (hi pins s σ H _ I h) (fun v s1 h1=>wpAny_mono h1 (fun itv s2 h2=>?_) fun _ _ e=>e) fun _ _ e=>e)
 obtain⟨it,fp,tn,J,H2,rfl,I2,T,st2,f2,W,⟨m0,w0⟩,turn⟩:=h2
 refine tH (wpAny_newFunctionEnv hcell (by intro y hy;simp at hy) (fun h₁ hns₁ hsb₁=>?_) hkind)
 dsimp only at hns₁ hsb₁ ⊢
 generalize hP2:s2.heap.push {cls:=.type "list",dict:=none,data:=.seq ([]:List Value).toArray}=P2 at hns₁ hsb₁ ⊢
 have hC:P2.objs.size=s2.heap.objs.size+1:=by rw[←hP2,Heap.size_push]
 have hDC:s2.heap.objs.size≠P2.objs.size:=by rw[hC];exact yW (wN _)
 have hCle:s2.heap.objs.size<=P2.objs.size:=by rw[hC];exact vG _
 have below:∀b,b<s2.heap.objs.size->b≠P2.objs.size/\b≠s2.heap.objs.size:=fun b hb=>⟨by rw[hC];exact yW (wI hb),yW hb⟩
 have old:∀b o,s2.heap.get? b=some o->h₁.get? b=some o:=fun b o e=>hsb₁.extBut b o (below b (uY e)).1 (uX _ (hP2▸uX _ e))
 have hacc:h₁.get? s2.heap.objs.size=some {cls:=.type "list",data:=.seq ([]:List Value).toArray}:=hsb₁.extBut _ _ hDC (uX _ (hP2▸uZ _ rfl))
 have fpl:∀b∈fp,b<s2.heap.objs.size:=fun b hb=>by
  obtain⟨o,e,_⟩:=T.obj _ _ st2 b hb
  exact uY e
 have tlt:∀b o,H2 b=some o->b<s2.heap.objs.size:=fun b o e=>I2.hok.lt e
 generalize hCg:P2.objs.size=C at hns₁ hsb₁ hDC hCle below ⊢
 generalize hDg:s2.heap.objs.size=D at hDC below hacc fpl tlt ⊢
 have hDle:D<=C:=by rw[←hDg];exact hCle
 have cls:∀y c,cl.lookup y=some c->X.env.cells.lookup y=some c:=fun y c e=>hcl.mem e
 have clt:∀y c,cl.lookup y=some c->c<D:=fun y c e=>by
  obtain⟨v,q⟩:=I2.cell y c (cls y c e)
  rw[←hDg];exact q.lt
 have sub:∀b∈frs X.stack,b<D:=fun b hb=>by
  rcases yS.mp (I2.stkSub b hb) with e|hb
  ·rw[e,←hDg];exact I2.lt
  ·obtain⟨_,o,ho,_⟩:=I2.ok.funs.mem hb
   rw[←hDg];exact yO (uY ho) I2.sz
 obtain⟨YI,YE⟩:=hY C s2 H2 fp
 have YG:=hg C s2 H2 fp
 have Yok:(zI X scope cl NY C s2 H2 fp).Ok:=by
  refine⟨I2.ok.mod,hkind,I2.ok.glob,I2.ok.blt,hCle,?_,?_,?_,fun _=>I2.ok.hd hc,I2.ok.frames,.inl rfl,?_,I2.bs,yQ I2.ok.bsz I2.sz,?_,?_,I2.stack,I2.stkFree⟩
  ·exact fun y z c e1 e2=>I2.ok.inj y z c (cls y c e1) (cls z c e2)
  ·intro y hy
   have hm:=ZU (env:=X.env) (names:=scope.names) (x:=y) hcell hy
   have q:=xT.mp hall _ hm
   show ∃c,cl.lookup y=some c
   exact xW.mp (by simpa using q)
  ·intro y c hf _
   exact absurd hf (by show ¬false=true;decide)
  ·intro b hb
   refine⟨(below b (fpl b hb)).1,fun y c e z=>?_⟩
   exact (f2 b hb).2.2.2.2.1 y c (cls y c e) z
  ·intro b o e hb
   have hb:b∈fp:=hb
   rcases (f2 b hb).2.2.2.1 with z|z
   ·exact I2.ok.noex b o e z
   ·exact absurd (yO (uY e) (yQ I2.ok.bsz z)) (xB _)
  ·intro b hb hf
   have hb:b∈fp:=hb
   rcases yS.mp (I2.stkSub b hf) with e|hf
   ·exact (f2 b hb).2.1 e
   ·exact (f2 b hb).2.2.1 hf
 have start:∀tk,Inv (zI X scope cl NY C s2 H2 fp) [] (xR NY.length none) H2 {s2 with heap:=h₁,toks:=tk}:=fun tk=>by
  refine⟨Yok,rfl,I2.bare,Un.kept old,⟨_,hns₁,fun i y v e1 e2 e3=>?_⟩,fun y c e=>?_,?_,fun y c e=>?_,fun p hp=>absurd (show p∈([]:List (Addr×Obj)) from hp) (by simp),I2.hok.kept old,?_⟩
  ·rw[wY] at e2
   split at e2<;>simp at e2
  ·obtain⟨v,o,ho,hd⟩:=I2.cell y c (cls y c e)
   exact⟨v,o,old _ _ ho,hd⟩
  ·show H2 C=none
   cases q:H2 C with
   |none=>rfl
   |some o=>exact absurd (tlt C o q) (Nat.not_lt.mpr hDle)
  ·exact I2.freeC y c (cls y c e)
  ·show (xR NY.length (none:Option V)).length=NY.length
   rw[vA]
 have fpY:∀{pl:List (Addr×Obj)}{H':Hp},(∀b∈fp,H' b=none)->(∀p∈pl,p.1=D)->∀b∈fp,FpOk (zI X scope cl NY C s2 H2 fp) pl H' b:=fun {pl H'} hn hpl b hb=>by
  refine⟨hn b hb,(below b (fpl b hb)).1,Yok.exfs b hb,.inl hb,fun y c e z=>(f2 b hb).2.2.2.2.1 y c (cls y c e) z,fun p hp=>?_⟩
  have hp:p∈[]++pl:=hp
  rw[vJ] at hp
  rw[hpl p hp]
  exact (below b (fpl b hb)).2.symm
 have loop:∀s₃:Shared,(∃tk,s₃={s2 with heap:=h₁,toks:=tk})->
   codeAny (model X.prog X.w) X.A (.compLoop (.ListComp elt [⟨tg,iter,ifs,0⟩] scope pos) 0 (.ref it) (.ref D) (compEnvC scope cl C X.env))
    (compPost (model X.prog X.w) X.A X.xe none (EP X pins σ Q) (.ref D) C) s₃:=by
  rintro s₃ ⟨tk,rfl⟩
  refine zcG
   (fun k s'=>∃i vs ws nn H',Inv (zI X scope cl NY C s2 H2 fp) [] (xR NY.length none) H' s'/\tn i s'.heap/\(∀b∈fp,H' b=none)/\H' D=none /\
    s'.heap.get? D=some {cls:=.type "list",data:=.seq (ws:List Value).toArray nn}/\Vals vs ws/\W i k vs H') ?_ m0
   ⟨0,[],[],0,H2,start tk,T.keep _ _ _ st2 fun b _ o e=>old b o e,fun b hb=>(f2 b hb).1,?_,hacc,.nil,w0⟩
  ·rintro n s3 ⟨i,vs,ws,nn,H3,I3,st3,fr3,hD3,ho3,rv3,w3⟩
   have I3':Inv (zI X scope cl NY C s2 H2 fp) [(D,{cls:=.type "list",data:=.seq ws.toArray nn})] (xR NY.length none) H3 s3:=I3.pins_of fun p hp=>by
    have e:p=(D,{cls:=.type "list",data:=.seq ws.toArray nn}):=by simpa using hp
    subst e
    refine⟨ho3,hD3,hDC,fun z=>absurd (sub D z) (xB _),fun v z=>?_⟩
    have z':Data.seq ws.toArray nn=Data.cell v:=z
    cases z'
   have fp3:=fpY (pl:=[(D,{cls:=.type "list",data:=.seq ws.toArray nn})]) fr3 (fun p hp=>by rw[yM.mp hp])
   obtain⟨hsz,alt⟩:=turn i n vs H3 w3
   rcases alt with⟨stop,fin⟩|⟨go,step⟩
   ·refine thn (T.done (zI X scope cl NY C s2 H2 fp) rfl rfl rfl rfl i _ s3 _ H3 _ I3' fp3 st3 stop) fun r s4 ⟨hr,I4⟩=>?_
    subst hr
    have pD:=I4.pin (D,{cls:=.type "list",data:=.seq ws.toArray nn}) (by show _∈[]++_;simp)
    obtain⟨m4,hn4,_⟩:=I4.loc
    refine⟨m4,hn4,fun h' hs'=>?_⟩
    have hC4:H3 C=none:=I4.free
    have hok':HOk X.prog X.w (upd H3 D (.lst vs)) h':=by
     refine HOk.track (I4.hok.other hC4 hs') hD3 ⟨hsz,ws,nn,rv3,(hs'.2 D hDC).trans pD.1⟩
    have b4:=I4.base
    have un:Un (frs X.stack) fp H2 (upd H3 D (.lst vs)) s2.heap h':=by
     have lt:∀b o,s2.heap.get? b=some o->b<D:=fun b o e=>by rw[←hDg];exact uY e
     refine⟨fun b o e n hb hx=>(hs'.2 b (below b (lt b o e)).1).trans (b4.keep b o e n hb hx),fun b o e n hb hx=>?_,fun b o e n hx=>?_,fun b o e hx=>?_,fun b zs e=>?_,fun b o u e=>?_,fun b ps e=>?_⟩
     ·obtain⟨sl,q⟩:=b4.slot b o e n hb hx
      exact⟨sl,(hs'.2 b (below b (lt b o e)).1).trans q⟩
     ·rw[zu (below b (lt b o e)).2];exact b4.free b o e n hx
     ·obtain⟨o',q⟩:=b4.there b o e hx
      exact⟨o',(hs'.2 b (below b (lt b o e)).1).trans q⟩
     ·rw[zu (below b (tlt b _ e)).2];exact b4.tups b zs e
     ·rw[zu (below b (tlt b _ e)).2];exact b4.frzs b o u e
     ·rw[zu (below b (tlt b _ e)).2];exact b4.tbls b ps e
    refine⟨.ref D,upd H3 D (.lst vs),?_,rfl,fin D hD3⟩
    exact I2.call' (s':={s4 with heap:=h'}) (ch:=fp) I4.os un hok' I4.bare fun b hb=>⟨(f2 b hb).2.2.2.1,(f2 b hb).2.1,(f2 b hb).2.2.2.2.1,(f2 b hb).2.2.2.2.2⟩
   ·refine thn (T.item (zI X scope cl NY C s2 H2 fp) rfl rfl rfl rfl i _ s3 _ H3 _ I3' fp3 st3 go) fun r s4 ⟨u,hr,h4⟩=>?_
    subst hr
    refine thn h4 fun _ s5 ⟨v,H5,I5,r5,y5,st5,fr5⟩=>?_
    have fp5:=fpY (pl:=[(D,{cls:=.type "list",data:=.seq ws.toArray nn})]) fr5 (fun p hp=>by rw[yM.mp hp])
    have I5':=I5.pinned fp5 (T.obj _ _ st5)
    refine thn (YG _ s5 _ H5 v u _ I5' r5 (step v H5 y5)) fun _ s6 ⟨σ6,H6,I6,q6⟩=>?_
    refine thn (YI _ s6 _ _ _ I6 q6) fun b s7 ⟨H7,I7,q7⟩=>?_
    have back:∀{H8:Hp}{s8:Shared},Inv (zI X scope cl NY C s2 H2 fp) ([(D,{cls:=.type "list",data:=.seq ws.toArray nn})]++zcx fp s5.heap) σ6 H8 s8->
      s8.heap.get? D=some {cls:=.type "list",data:=.seq ws.toArray nn}/\H8 D=none/\(∀b∈fp,H8 b=none)/\(∀b∈fp,∀o,s5.heap.get? b=some o->s8.heap.get? b=some o):=fun {H8 s8} I8=>by
     have pD:=I8.pin (D,{cls:=.type "list",data:=.seq ws.toArray nn}) (by show _∈[]++_;simp)
     refine⟨pD.1,pD.2.1,fun b hb=>?_,fun b hb o e=>?_⟩
     ·obtain⟨o,e,d⟩:=T.obj _ _ st5 b hb
      exact (I8.pin (b,o) (yR _ (yR _ (ZM hb e)))).2.1
     ·exact (I8.pin (b,o) (yR _ (yR _ (ZM hb e)))).1
    have weak:∀{H8:Hp}{s8:Shared},Inv (zI X scope cl NY C s2 H2 fp) [] σ6 H8 s8->Inv (zI X scope cl NY C s2 H2 fp) [] (xR NY.length none) H8 s8:=fun {H8 s8} I8=>
     I8.weak (by rw[vA];exact I8.len.symm) fun i v' e=>by
      rw[wY] at e
      split at e<;>simp at e
    have nopin:∀{H8:Hp}{s8:Shared}{pl:List (Addr×Obj)},Inv (zI X scope cl NY C s2 H2 fp) pl σ6 H8 s8->Inv (zI X scope cl NY C s2 H2 fp) [] σ6 H8 s8:=fun {H8 s8 pl} I8=>
     I8.pins_of fun p hp=>absurd hp (by simp)
    cases b with
    |false=>
     rw[if_neg yI] at q7 ⊢
     obtain⟨m',hm,w7⟩:=q7
     obtain⟨k1,k2,k3,k4⟩:=back I7
     exact⟨m',hm,i+1,vs,ws,nn,H7,weak (nopin I7),T.keep _ _ _ st5 k4,k3,k2,k1,rv3,w7⟩
    |true=>
     rw[if_pos rfl] at q7 ⊢
     refine thn (YE _ s7 _ _ _ I7 q7) fun u8 s8 ⟨y8,H8,I8,r8,m',hm,w8⟩=>?_
     obtain⟨k1,k2,k3,k4⟩:=back I8
     refine append_at (hsz:=by rw[yG,←rv3.length];exact hsz) k1 fun h9 hs9 ho9=>?_
     have I9:Inv (zI X scope cl NY C s2 H2 fp) [] σ6 H8 {s8 with heap:=h9}:=
      (nopin I8).turned (t':=s8.toks) (it:=D) (fun b o hb e=>(hs9.2 b hb).trans e) k2 hDC (.inr (by rw[←hDg];exact yE _)) (fun y c e=>yW (clt y c e)) fun p hp=>absurd (show p∈([]:List (Addr×Obj)) from hp) (by simp)
     refine⟨m',hm,i+1,vs++[y8],ws++[u8],nn+1,H8,weak I9,?_,k3,k2,?_,rv3.append (.cons r8 .nil),w8⟩
     ·refine T.keep _ _ _ st5 fun b hb o e=>?_
      exact (hs9.2 b (below b (fpl b hb)).2).trans (k4 b hb o e)
     ·rw[ho9,vS]
  ·cases q:H2 D with
   |none=>rfl
   |some o=>exact absurd (tlt D o q) (xB _)
 exact codeAny_compStart_list (loop _ ⟨_,rfl⟩) (T.self _ 0 _ _ _ (T.keep _ _ _ st2 fun b _ o e=>old b o e) (loop _ ⟨_,rfl⟩))
end L2
namespace D
open PySem L2
theorem zbE{X:Cx}{elt iter tg:Expr}{pos:Pos}{ifs:List Expr}{scope:Scope}{cl:List (Str×Addr)}(NY:List Str){wi:TI}{g:TG}{tt:TT}{te:TE}
  (hc:X.calm=true) (hclos:closureFor scope X.env=pure cl) (hcell:∀y∈scope.names,y.2≠.cell) (hkind:scope.kind=.function) (hnames:∀y∈scope.names,y.2=.local->scope.names.lookup y.1=some .local)
  (hcl:ClOk cl X.env.cells) (hall:(scope.names.all fun y=>y.2 != .free||(cl.lookup y.1).isSome)=true)
  (hi:QI X tg iter wi) (hg:∀C s H fp,QG (zI X scope cl NY C s H fp) tg g)
  (hY:∀C s H fp,QIfs (zI X scope cl NY C s H fp) ifs tt/\QE (zI X scope cl NY C s H fp) elt te)
  (hs:∀v,foldedSetIterable iter X.env v=pure v:=by intro _;rfl):
  QE X (.ListComp elt [⟨tg,iter,ifs,0⟩] scope pos) (ziP NY.length wi g tt te):=⟨L2.zbE NY hc hclos hcell hkind hnames hcl hall hi.un (fun C s H fp=>(hg C s H fp).un) (fun C s H fp=>⟨(hY C s H fp).1.un,(hY C s H fp).2.un⟩) hs⟩
end D
namespace L2
open PySem PySem.Spec PyProof.Rows
section
variable{prog:Program}{w:World}{A:Around}{E:Value->Shared->Prop}{s:Shared}
end
section
variable{prog:Program}{w:World}{A:Around}{E:Value->Shared->Prop}{s:Shared}
end
theorem zgG:tJ (uU "zip")=some (.type "zip"):=by kernel_rfl
end L2
namespace D
open PySem L2
end D
namespace L2
open PySem PySem.Spec PyProof.Rows
section
variable{prog:Program}{w:World}{A:Around}{E:Value->Shared->Prop}{s:Shared}
abbrev ZN(h:Heap)(z TI TO:Addr)(f0:Value)(f1:Bool):Prop:=
 h.get? z=some {cls:=.type "zip",dict:=none,data:=.fields #[f0,.bool f1,.bool false,.ref TI,.ref TO],slots:=#[]}
structure ZL(h:Heap)(z TI TO i1 i2 l1 l2:Addr)(k:Nat)(xs ys:Array Value):Prop where
 zip:IsZip h z TI TO .none\/∃(T:Addr)(o:Obj)(f:Bool),ZN h z TI TO (rawInt T) f/\h.get? T=some o/\T≠z/\T≠TO/\T≠i1/\T≠i2
 ti:IsPair h TI (.ref i1) (.ref i2)
 to:∃a b,IsPair h TO a b
 it1:h.IsListIter i1 l1 k
 it2:h.IsListIter i2 l2 k
 ls1:h.IsList l1 xs
 ls2:h.IsList l2 ys
theorem alive{a:Addr}{o:Obj}{Q:Option Obj->Shared->Prop}(ho:s.heap.get? a=some o)(h:Q (some o) s):wpAny (model prog w) A (loadIfAlive a) Q E s:=by
 have h':Q (s.heap.get? a) s:=by rw[ho];exact h
 exact fun _ _ _=>h'
theorem zco{z TI TO T:Addr}{o:Obj}{f:Bool}{Q:Bool->Shared->Prop}(hz:ZN s.heap z TI TO (rawInt T) f)(hT:s.heap.get? T=some o)
  (q:∀h1,ZN h1 z TI TO (rawInt T) true->Heap.SameBut z s.heap h1->Q false {s with heap:=h1}):wpAny (model prog w) A (Builtin.SmallTypes.ownedTupleIsFree (.ref z)) Q E s:=by
 unfold Builtin.SmallTypes.ownedTupleIsFree
 refine uV (wpAny_field hz rfl (x:=rawInt T) rfl ?_)
 show wpAny _ _ (loadIfAlive ((T:Int).toNat)>>=_) _ _ _
 rw[vR]
 refine uV (alive hT ?_)
 simp only[Option.isNone_some,xC,if_false]
 refine uV (wpAny_field hz rfl (x:=.bool f) rfl ?_)
 cases f with
 |true=>
  rw[if_neg (show ¬((Value.bool true != Value.bool true)=true) from yI)]
  exact uW (q s.heap hz (Heap.SameBut.refl _ _))
 |false=>
  rw[if_pos (show (Value.bool false != Value.bool true)=true from rfl)]
  refine uV (wpAny_setField_rec hz (by simp) fun h1 z1 s1=>?_)
  exact uW (q h1 z1 s1)
theorem zlU{z TI TO i1 i2 l1 l2:Addr}{k:Nat}{xs ys:Array Value}{x y:Value}{Q:Option Value->Shared->Prop}(D:ZipApart z TI TO i1 i2 l1 l2)(Z:ZL s.heap z TI TO i1 i2 l1 l2 k xs ys)(e1:xs[k]?=some x)(e2:ys[k]?=some y)
  (q:∀h',ZL h' z TI TO i1 i2 l1 l2 (k+1) xs ys->IsPair h' s.heap.objs.size x y->(∀c o,c≠z->c≠TO->c≠i1->c≠i2->s.heap.get? c=some o->h'.get? c=some o)->Q (some (.ref s.heap.objs.size)) {s with heap:=h'}):
  wpAny (model prog w) A (pyNext (.ref z)) Q E s:=by
 obtain⟨zz,hI,⟨a,b,hO⟩,j1,j2,L1,L2⟩:=Z
 have lt:∀ {c o},s.heap.get? c=some o->s.heap.objs.size≠c:=fun e=>xE (uY e)
 have n1:s.heap.objs.size≠i1:=by obtain⟨_,e,_⟩:=j1;exact lt e
 have n2:s.heap.objs.size≠i2:=by obtain⟨_,e,_⟩:=j2;exact lt e
 rcases zz with hz|⟨T,o,f,hz,hT,nz,nO,ni1,ni2⟩
 ·refine wpAny_pyNext_zip_item D hz hI hO j1 j2 L1 L2 e1 e2 fun h' a1 a2 a3 a4 a5 a6 a7=>q h' ⟨.inr ⟨_,_,false,a1,a5,lt hz,lt hO,n1,n2⟩,a7 _ _ D.TIz D.TITO D.TIi1 D.TIi2 hI,⟨_,_,a2⟩,a3,a4,L1.at fun o e=>a7 _ o D.l1z D.l1TO D.l1i1 D.l1i2 e,L2.at fun o e=>a7 _ o D.l2z D.l2TO D.l2i1 D.l2i2 e⟩ a5 a7
 ·have ty:s.TypeIs (.ref z) "zip":=⟨_,hz,rfl⟩
  unfold pyNext
  refine uV (wpAny_attempt (wpAny_callSpecial?_slot (name:=uU "__next__") ty F.slot_zip_next (wpAny_call_entry F.slot_zip_next ty F.entry_zip_next ?_ (F.args_zip_next_1 _))))
  show wpAny _ _ (field (.ref z) 2>>=_) _ _ _;refine uV (wpAny_field hz rfl (x:=.bool false) rfl ?_)
  show wpAny _ _ (field (.ref z) 3>>=_) _ _ _;refine uV (wpAny_field hz rfl (x:=.ref TI) rfl ?_)
  refine uV (wpAny_seqItems hI rfl ?_)
  show wpAny _ _ (Builtin.SmallTypes.ownedTupleIsFree (.ref z)>>=_) _ _ _
  refine uV (zco hz hT fun h1 z1 s1=>?_)
  simp only[xC,if_false]
  refine uV ?_
  simp only[wW,wE,wM]
  refine uV (uV (wpAny_holding ?_));show wpAny _ _ (Builtin.SmallTypes.nextOf (.ref i1)>>=_) _ _ _
  refine uV (wpAny_nextOf_list_item (j1.extBut s1.extBut D.i1z) (L1.extBut s1.extBut D.l1z) e1 fun h2 j12 s2=>uW ?_)
  refine uW ?_
  refine uV (uV (wpAny_holding ?_));show wpAny _ _ (Builtin.SmallTypes.nextOf (.ref i2)>>=_) _ _ _
  refine uV (wpAny_nextOf_list_item ((j2.extBut s1.extBut D.i2z).extBut s2.extBut D.i12.symm) ((L2.extBut s1.extBut D.l2z).extBut s2.extBut D.l2i1) e2 fun h3 j23 s3=>uW ?_)
  refine uW (uW ?_)
  show wpAny _ _ (newTuple [x,y]>>=_) _ _ _
  refine uV (wpAny_newTuple ?_)
  have size:h3.objs.size=s.heap.objs.size:=by rw[s3.1,s2.1,s1.1]
  have ke:∀c o,c≠z->c≠i1->c≠i2->s.heap.get? c=some o->(h3.push {cls:=.type "tuple",data:=.seq #[x,y]}).get? c=some o:=fun c o n1 n2 n3 e=>uX _ (s3.extBut _ _ n3 (s2.extBut _ _ n2 (s1.extBut _ _ n1 e)))
  have zz:ZN (h3.push {cls:=.type "tuple",data:=.seq #[x,y]}) z TI TO (rawInt T) true:=uX _ (s3.extBut _ _ D.i2z.symm (s2.extBut _ _ D.i1z.symm z1))
  refine uW ⟨_,rfl,uW ?_⟩
  show Q (some (.ref h3.objs.size)) _
  have tp:IsPair (h3.push {cls:=.type "tuple",data:=.seq #[x,y]}) h3.objs.size x y:=uZ _ rfl
  rw[size] at tp ⊢
  refine q _ ⟨.inr ⟨T,o,true,zz,ke T o nz ni1 ni2 hT,nz,nO,ni1,ni2⟩,ke _ _ D.TIz D.TIi1 D.TIi2 hI,⟨_,_,ke _ _ D.TOz D.TOi1 D.TOi2 hO⟩,?_,?_,L1.at fun o e=>ke _ o D.l1z D.l1i1 D.l1i2 e,L2.at fun o e=>ke _ o D.l2z D.l2i1 D.l2i2 e⟩ tp fun c o n1 _ n3 n4 e=>ke c o n1 n3 n4 e
  ·exact (j12.extBut s3.extBut D.i12).at fun o e=>uX _ e
  ·exact j23.at fun o e=>uX _ e
theorem znc{z TI TO i1 i2 l1 l2:Addr}{k:Nat}{xs ys:Array Value}{Q:Option Value->Shared->Prop}(hh:A.handled=none)(D:ZipApart z TI TO i1 i2 l1 l2)(Z:ZL s.heap z TI TO i1 i2 l1 l2 k xs ys)(he:xs[k]?=none\/ys[k]?=none)
  (q:∀h',(∀c o,c≠z->c≠TO->c≠i1->c≠i2->s.heap.get? c=some o->h'.get? c=some o)->Q none {s with heap:=h'}):wpAny (model prog w) A (pyNext (.ref z)) Q E s:=by
 obtain⟨zz,hI,⟨a,b,hO⟩,j1,j2,L1,L2⟩:=Z
 rcases zz with hz|⟨T,o,f,hz,hT,nz,nO,ni1,ni2⟩
 ·exact wpAny_pyNext_zip_end hh D hz hI hO j1 j2 L1 L2 he q
 ·have ty:s.TypeIs (.ref z) "zip":=⟨_,hz,rfl⟩
  unfold pyNext
  refine uV (wpAny_attempt (wpAny_callSpecial?_slot (name:=uU "__next__") ty F.slot_zip_next (wpAny_call_entry F.slot_zip_next ty F.entry_zip_next ?_ (F.args_zip_next_1 _))))
  show wpAny _ _ (field (.ref z) 2>>=_) _ _ _;refine uV (wpAny_field hz rfl (x:=.bool false) rfl ?_)
  show wpAny _ _ (field (.ref z) 3>>=_) _ _ _;refine uV (wpAny_field hz rfl (x:=.ref TI) rfl ?_)
  refine uV (wpAny_seqItems hI rfl ?_)
  show wpAny _ _ (Builtin.SmallTypes.ownedTupleIsFree (.ref z)>>=_) _ _ _
  refine uV (zco hz hT fun h1 z1 s1=>?_)
  simp only[xC,if_false]
  refine uV ?_
  simp only[wW,wE,wM]
  refine uV (uV (wpAny_holding ?_));show wpAny _ _ (Builtin.SmallTypes.nextOf (.ref i1)>>=_) _ _ _
  cases hx:xs[k]? with
  |none=>
   refine uV (wpAny_nextOf_list_end hh (j1.extBut s1.extBut D.i1z) (L1.extBut s1.extBut D.l1z) hx fun h2 e s2 ee=>?_)
   obtain⟨oe,ge,ce⟩:=ee
   refine uV (wpAny_isInstance (T:="StopIteration") (b:=true) ⟨oe,ge,ce⟩ isSubtype_stop ?_)
   exact uW (q _ fun c o n1 _ n3 _ e=>s2 _ _ n3 (s1.extBut _ _ n1 e))
  |some x=>
   have hy:ys[k]?=none:=by rcases he with h|h;rw[hx] at h;cases h;exact h
   refine uV (wpAny_nextOf_list_item (j1.extBut s1.extBut D.i1z) (L1.extBut s1.extBut D.l1z) hx fun h2 j12 s2=>uW ?_)
   refine uW ?_
   refine uV (uV (wpAny_holding ?_));show wpAny _ _ (Builtin.SmallTypes.nextOf (.ref i2)>>=_) _ _ _
   refine uV (wpAny_nextOf_list_end hh ((j2.extBut s1.extBut D.i2z).extBut s2.extBut D.i12.symm) ((L2.extBut s1.extBut D.l2z).extBut s2.extBut D.l2i1) hy fun h3 e s3 ee=>?_)
   obtain⟨oe,ge,ce⟩:=ee
   refine uV (wpAny_isInstance (T:="StopIteration") (b:=true) ⟨oe,ge,ce⟩ isSubtype_stop ?_)
   exact uW (q _ fun c o n1 _ n3 n4 e=>s3 _ _ n4 (s2.extBut _ _ n3 (s1.extBut _ _ n1 e)))
end
def Prs(H:Hp)(xs ys:List V)(ts:List Addr):Prop:=∀(j:Nat)(t:Addr)(x y:V),ts[j]?=some t->xs[j]?=some x->ys[j]?=some y->H t=some (.tup [x,y])
abbrev ziQ(h:Heap)(S:Addr)(acc:Array Value)(c:Nat):Prop:=h.get? S=some {cls:=.type "list",dict:=none,data:=.seq acc c,slots:=#[]}
section
variable{X:Cx}{pins:List (Addr×Obj)}{σ:St}{A:Around}{R:Result->Shared->Prop}{z TI TO i1 i2 l1 l2 S:Addr}{xs ys:List V}{as bs:List Value}
theorem zlV(hh:A.handled=none)(D:ZipApart z TI TO i1 i2 l1 l2)(va:Vals xs as)(vb:Vals ys bs)(hS:S ∉ [z,TI,TO,i1,i2])(s1:S≠l1)(s2:S≠l2)(res:Value)(hn:xs.length<=tF):
  ∀(k i:Nat)(s:Shared)(H:Hp)(ts:List Addr)(acc:Array Value)(c:Nat),min xs.length ys.length-i=k->i<=min xs.length ys.length->Inv X pins σ H s->(∀b∈[S,z,TI,TO,i1,i2],FpOk X pins H b)->
   ZL s.heap z TI TO i1 i2 l1 l2 i as.toArray bs.toArray->ziQ s.heap S acc c->acc.toList=ts.map Value.ref->ts.length=i->Prs H xs ys ts->
   (∀(s':Shared)(H':Hp)(ts':List Addr)(acc':Array Value)(c':Nat),Inv X pins σ H' s'->(∀b o,H b=some o->H' b=some o)->ziQ s'.heap S acc' c'->acc'.toList=ts'.map Value.ref->ts'.length=min xs.length ys.length->Prs H' xs ys ts'->R (.ok (.ret res)) s')->
   codeAny (model X.prog X.w) A (.builtin "list.extend.loop" ⟨[.ref S,.ref z,res],[]⟩) R s:=by
 intro k
 have la:=va.length
 have lb:=vb.length
 induction k with
 |zero=>
  intro i s H ts acc c hk hi I hf Z LS ha hl hp q
  refine codeAny_builtin PySem.F.entry_extend_loop ?_
  rw[Around.under_plainId PySem.F.plain_extend_loop _]
  show wpAny _ A.in1 (pyNext (.ref z)>>=_) _ _ s
  refine uV (znc hh D Z ?_ fun h' kp=>?_)
  ·rcases Nat.le_total xs.length ys.length with h|h
   ·exact .inl (by simp;lia)
   ·exact .inr (by simp;lia)
  have nS:S≠z/\S≠TO/\S≠i1/\S≠i2:=by simp at hS;exact⟨hS.1,hS.2.2.1,hS.2.2.2.1,hS.2.2.2.2⟩
  refine uW (q _ H ts acc c (I.turnedL (t':=s.toks) (fp:=[S,z,TI,TO,i1,i2]) (fun b o hb e=>kp b o (fun t=>hb (by simp[t])) (fun t=>hb (by simp[t])) (fun t=>hb (by simp[t])) (fun t=>hb (by simp[t])) e) hf) (fun b o e=>e) (kp S _ nS.1 nS.2.1 nS.2.2.1 nS.2.2.2 LS) ha (by lia) hp)
 |succ k ih=>
  intro i s H ts acc c hk hi I hf Z LS ha hl hp q
  refine codeAny_builtin PySem.F.entry_extend_loop ?_
  rw[Around.under_plainId PySem.F.plain_extend_loop _]
  show wpAny _ A.in1 (pyNext (.ref z)>>=_) _ _ s
  have ix:i<xs.length:=by lia
  have iy:i<ys.length:=by lia
  obtain⟨u,eu,ru⟩:=va.get (yA ix)
  obtain⟨v,ev,rv⟩:=vb.get (yA iy)
  have old:∀b∈[S,z,TI,TO,i1,i2],b<s.heap.objs.size:=fun b hb=>by
   obtain⟨hz,hI,⟨x,y,hO⟩,⟨o1,g1,_⟩,⟨o2,g2,_⟩,_,_⟩:=id Z
   have hc:b=S\/b=z\/b=TI\/b=TO\/b=i1\/b=i2:=by simpa using hb
   rcases hc with rfl|rfl|rfl|rfl|rfl|rfl
   ·exact uY LS
   ·rcases hz with hz|⟨_,_,_,hz,_⟩<;>exact uY hz
   ·exact uY hI
   ·exact uY hO
   ·exact uY g1
   ·exact uY g2
  have nS:S≠z/\S≠TI/\S≠TO/\S≠i1/\S≠i2:=by simp at hS;exact⟨hS.1,hS.2.1,hS.2.2.1,hS.2.2.2.1,hS.2.2.2.2⟩
  refine uV (zlU D Z (x:=u) (y:=v) (by simpa using eu) (by simpa using ev) fun h1 Z1 T1 k1=>?_)
  have LS1:ziQ h1 S acc c:=k1 S _ nS.1 nS.2.2.1 nS.2.2.2.1 nS.2.2.2.2 LS
  have sz:acc.size=i:=by rw[←wT,ha,yB];exact hl
  show wpAny _ A.in1 (updateSeq S (·.push (.ref s.heap.objs.size))>>=_) _ _ _
  refine uV ?_
  have I1:Inv X pins σ (upd H s.heap.objs.size (.tup [xs[i],ys[i]])) {s with heap:=s.heap.push {cls:=.type "tuple",data:=.seq #[u,v]},toks:=s.toks}:=
   I.laid (t':=s.toks) (fun b u e=>uX _ e) (yE _) ⟨zl2,[u,v],.cons ru (.cons rv .nil),⟨_,uZ _ rfl,rfl,_,rfl⟩⟩
  have hf1:∀b∈[S,z,TI,TO,i1,i2],FpOk X pins (upd H s.heap.objs.size (.tup [xs[i],ys[i]])) b:=fun b hb=>by
   obtain⟨f0,f1⟩:=hf b hb
   exact⟨by rw[zu (yW (old b hb))];exact f0,f1⟩
  refine wpAny_updateSeq LS1 rfl (uW ⟨plainId_quiet PySem.F.plain_extend_loop _,?_⟩) (by rw[sz];lia) (by show (acc.push (.ref s.heap.objs.size)).size<=tF+1;rw[Array.size_push,sz];lia)
  have oth:∀b o,b≠S->h1.get? b=some o->(h1.update S (Obj.mapSeq (·.push (.ref s.heap.objs.size)))).get? b=some o:=fun b o hb e=>(Heap.get?_update_other _ _ (Ne.symm hb)).trans e
  refine ih (i+1) _ (upd H s.heap.objs.size (.tup [xs[i],ys[i]])) (ts++[s.heap.objs.size]) (acc.push (.ref s.heap.objs.size)) _ (by lia) (by lia) ?_ hf1 ?_ (Heap.get?_update_self _ LS1 rfl) (by simp[ha]) (by simp[hl]) ?_ fun s' H' ts' acc' c' I' sm LS' ha' hl' hp'=>q s' H' ts' acc' c' I' (fun b o e=>sm b o ?_) LS' ha' hl' hp'
  ·refine Inv.turnedL (s:={s with heap:=s.heap.push {cls:=.type "tuple",data:=.seq #[u,v]},toks:=s.toks}) (t':=s.toks) (fp:=[S,z,TI,TO,i1,i2]) I1 (fun b o hb e=>?_) hf1
   refine oth b o (fun t=>hb (by simp[t])) ?_
   by_cases hcs:b=s.heap.objs.size
   ·subst hcs
    have f1:(s.heap.push {cls:=.type "tuple",data:=.seq #[u,v]}).get? s.heap.objs.size=some {cls:=.type "tuple",data:=.seq #[u,v]}:=uZ _ rfl
    have e:(s.heap.push {cls:=.type "tuple",data:=.seq #[u,v]}).get? s.heap.objs.size=some o:=e
    rw[f1] at e
    cases e
    exact T1
   ·refine k1 b o (fun t=>hb (by simp[t])) (fun t=>hb (by simp[t])) (fun t=>hb (by simp[t])) (fun t=>hb (by simp[t])) ?_
    have e:(s.heap.push {cls:=.type "tuple",data:=.seq #[u,v]}).get? b=some o:=e
    have hlt:=uY e
    rw[Heap.size_push] at hlt
    exact zgF e (Nat.lt_of_le_of_ne (Nat.le_of_lt_succ hlt) hcs)
  ·obtain⟨hz,hI,⟨x,y,hO⟩,j1,j2,L1,L2⟩:=Z1
   have tS:s.heap.objs.size≠S:=xE (old S (by simp))
   refine⟨?_,oth _ _ nS.2.1.symm hI,⟨x,y,oth _ _ nS.2.2.1.symm hO⟩,j1.at fun o e=>oth _ o nS.2.2.2.1.symm e,j2.at fun o e=>oth _ o nS.2.2.2.2.symm e,L1.at fun o e=>oth _ o s1.symm e,L2.at fun o e=>oth _ o s2.symm e⟩
   rcases hz with hz|⟨T,o,f,hz,hT,r⟩
   ·exact .inl (oth _ _ nS.1.symm hz)
   ·by_cases hTS:T=S
    ·subst hTS
     exact .inr ⟨T,_,f,oth _ _ nS.1.symm hz,Heap.get?_update_self _ LS1 rfl,r⟩
    ·exact .inr ⟨T,o,f,oth _ _ nS.1.symm hz,oth _ _ hTS hT,r⟩
  ·intro j t x y ej ex ey
   by_cases hj:j<ts.length
   ·rw[yL hj] at ej
    have:=hp j t x y ej ex ey
    rw[zu (fun z=>by rw[z,I.fresh] at this;cases this)]
    exact this
   ·have hji:j=i:=by
     have:=(yC.mp ej).1
     simp only[yD,yJ,vI] at this
     lia
    subst hji
    rw[←hl,yK (yE _),vO] at ej
    cases ej
    rw[yA ix] at ex
    rw[yA iy] at ey
    cases ex
    cases ey
    exact zf
  ·rw[zu (fun z=>by rw[z,I.fresh] at e;cases e)]
   exact e
end
abbrev nl(h:Heap):Heap:=h.push {cls:=.type "list",data:=.seq ([]:List Value).toArray}
theorem zhv:typeLookup (.type "zip") "__len__"=pure none:=by rw[typeLookup_type,builtinLookup_eq_fast];kernel_rfl
theorem zfV:typeLookup (.type "zip") "__length_hint__"=pure none:=by rw[typeLookup_type,builtinLookup_eq_fast];kernel_rfl
section
variable{X:Cx}{pins:List (Addr×Obj)}{σ:St}{A:Around}{E:Value->Shared->Prop}{s:Shared}{H:Hp}{z TI TO i1 i2 l1 l2:Addr}{xs ys:List V}{as bs:List Value}
theorem ZL.ty{s:Shared}{k:Nat}{xs ys:Array Value}(Z:ZL s.heap z TI TO i1 i2 l1 l2 k xs ys):s.TypeIs (.ref z) "zip":=by
 rcases Z.zip with h|⟨_,_,_,h,_⟩<;>exact⟨_,h,rfl⟩
theorem ZL.old{h:Heap}{k:Nat}{xs ys:Array Value}(Z:ZL h z TI TO i1 i2 l1 l2 k xs ys):∀b∈[z,TI,TO,i1,i2,l1,l2],b<h.objs.size:=fun b hb=>by
 obtain⟨hz,hI,⟨x,y,hO⟩,⟨o1,g1,_⟩,⟨o2,g2,_⟩,⟨o3,g3,_⟩,⟨o4,g4,_⟩⟩:=Z
 have hc:b=z\/b=TI\/b=TO\/b=i1\/b=i2\/b=l1\/b=l2:=by simpa using hb
 rcases hc with rfl|rfl|rfl|rfl|rfl|rfl|rfl
 ·rcases hz with hz|⟨_,_,_,hz,_⟩<;>exact uY hz
 ·exact uY hI
 ·exact uY hO
 ·exact uY g1
 ·exact uY g2
 ·exact uY ‹_›
 ·exact uY ‹_›
theorem ZL.keep{h h':Heap}{k:Nat}{xs ys:Array Value}(Z:ZL h z TI TO i1 i2 l1 l2 k xs ys)(e:∀b o,h.get? b=some o->h'.get? b=some o):ZL h' z TI TO i1 i2 l1 l2 k xs ys:=by
 obtain⟨hz,hI,⟨x,y,hO⟩,j1,j2,L1,L2⟩:=Z
 refine⟨?_,e _ _ hI,⟨x,y,e _ _ hO⟩,j1.at fun o q=>e _ o q,j2.at fun o q=>e _ o q,L1.at fun o q=>e _ o q,L2.at fun o q=>e _ o q⟩
 rcases hz with hz|⟨T,o,f,hz,hT,r⟩
 ·exact .inl (e _ _ hz)
 ·exact .inr ⟨T,o,f,e _ _ hz,e _ _ hT,r⟩
def ZQ(X:Cx)(pins:List (Addr×Obj))(σ:St)(H:Hp)(xs ys:List V)(H':Hp)(ts:List Addr)(s':Shared):Prop:=
 Inv X pins σ H' s'/\(∀b o,H b=some o->H' b=some o)/\ts.length=min xs.length ys.length/\Prs H' xs ys ts
theorem zfW{Q:List Value->Shared->Prop}(hh:A.handled=none)(D:ZipApart z TI TO i1 i2 l1 l2)(va:Vals xs as)(vb:Vals ys bs)(hn:xs.length<=tF)(I:Inv X pins σ H s)(hf:∀b∈[z,TI,TO,i1,i2],FpOk X pins H b)
  (Z:ZL s.heap z TI TO i1 i2 l1 l2 0 as.toArray bs.toArray) (q:∀(H':Hp)(ts:List Addr)(s':Shared),ZQ X pins σ H xs ys H' ts s'->Q (ts.map Value.ref) s'):wpAny (model X.prog X.w) A (collect (.ref z)) Q E s:=by
 have old:=Z.old
 have hSI:s.heap.objs.size≠z:=xE (old z (by simp))
 unfold collect
 refine uV (wpAny_runValue (codeAny_builtin PySem.F.entry_proto_collect ?_))
 rw[Around.under_plainId PySem.F.plain_proto_collect _]
 show wpAny _ A.in1 (newList []>>=fun l=>again (.builtin "list.__iadd__" ⟨[l,.ref z],[]⟩)) _ _ s
 refine uV (tH ?_)
 refine uW ⟨plainId_quiet PySem.F.plain_list_iadd _,codeAny_builtin PySem.F.entry_list_iadd ?_⟩
 rw[Around.under_plainId PySem.F.plain_list_iadd _]
 have Z1:ZL (nl s.heap) z TI TO i1 i2 l1 l2 0 as.toArray bs.toArray:=Z.keep fun b o e=>uX _ e
 have ty:Shared.TypeIs {s with heap:=nl s.heap} (.ref z) "zip":=ZL.ty (s:={s with heap:=nl s.heap}) Z1
 show wpAny _ A.in1 (Builtin.List.listExtendWith (.ref s.heap.objs.size) (.ref z) (.ref s.heap.objs.size)) _ _ _
 unfold Builtin.List.listExtendWith
 refine uV (wpAny_typeOf ty ?_)
 have d1:Builtin.List.listSameRef (.ref s.heap.objs.size) (.ref z)=false:=by simp[Builtin.List.listSameRef,hSI]
 have d2:(Value.type "zip"==Value.type "list")=false:=by decide
 have d3:(Value.type "zip"==Value.type "tuple")=false:=by decide
 simp only[d1,d2,d3,Bool.or_false,xC,if_false]
 have self:∀{Q':Value->Shared->Prop}{E':Value->Shared->Prop}{A':Around},Q' (.ref z) {s with heap:=nl s.heap}->wpAny (model X.prog X.w) A' (pyIter (.ref z)) Q' E' {s with heap:=nl s.heap}:=fun h=>by
  refine wpAny_pyIter_slot ty F.slot_zip_iter (wpAny_call_entry F.slot_zip_iter ty F.entry_zip_iter ?_ (F.args_zip_iter_1 _))
  show wpAny _ _ (ret (.ref z)) _ _ _
  exact uW ⟨_,rfl,"zip",_,ty,F.slot_zip_next.lookup,h⟩
 refine uV (self ?_)
 refine uV (wpAny_holding ?_)
 unfold Builtin.List.listLengthHint
 refine uV (wpAny_specialOf ty zhv ?_)
 show wpAny _ A.in1 (specialOf (Value.ref z) (uU "__length_hint__")>>=_) _ _ _
 refine uV (wpAny_specialOf ty zfV ?_)
 refine uW ?_
 show wpAny _ A.in1 (rule "list.extend.makes-room">>=fun _=>Builtin.List.listTouch (.ref s.heap.objs.size)>>=fun _=>
  again (.builtin "list.extend.loop" ⟨[.ref s.heap.objs.size,.ref z,.ref s.heap.objs.size],[]⟩)) _ _ _
 refine uV (wpAny_rule ?_)
 have g1:(nl s.heap).get? s.heap.objs.size=some {cls:=.type "list",data:=.seq ([]:List Value).toArray}:=uZ _ rfl
 refine uV ?_
 show wpAny _ A.in1 (updateSeq s.heap.objs.size (·.push .none)>>=fun _=>updateSeq s.heap.objs.size (·.pop)) _ _ _
 refine uV (wpAny_updateSeq g1 rfl ?_)
 have g2:=Heap.get?_update_self (Obj.mapSeq (·.push Value.none)) g1 rfl
 refine wpAny_updateSeq g2 rfl ?_
 have g3:=Heap.get?_update_self (Obj.mapSeq (·.pop)) g2 rfl
 have kp:∀b o,s.heap.get? b=some o->
   (((nl s.heap).update s.heap.objs.size (Obj.mapSeq (·.push Value.none))).update s.heap.objs.size (Obj.mapSeq (·.pop))).get? b=some o:=
  fun b o e=>(Heap.get?_update_other _ _ (xE (uY e))).trans ((Heap.get?_update_other _ _ (xE (uY e))).trans (uX _ e))
 refine uW ⟨plainId_quiet PySem.F.plain_extend_loop _,zlV (X:=X) (pins:=pins) (σ:=σ) (xs:=xs) (ys:=ys) hh D va vb (S:=s.heap.objs.size) (fun hm=>?_) (xE (old l1 (by simp))) (xE (old l2 (by simp))) _ hn _ 0 _ H [] _ _ rfl (yN _) (I.kept (t':=s.toks) kp) (fun b hb=>?_) (Z.keep kp) g3 rfl rfl (fun j t x y e=>by simp at e) fun s' H' ts' acc' c' I' sm LS' ha' hl' hp'=>?_⟩
 ·have:=old s.heap.objs.size (by simp at hm ⊢;rcases hm with h|h|h|h|h<;>simp[h])
  exact absurd this (xB _)
 ·rcases yS.mp hb with rfl|hb
  ·exact I.fpOk (yE _) I.fresh
  ·exact hf b hb
 show wpAny _ A (load s.heap.objs.size>>=_) _ _ s'
 refine uV (wpAny_load LS' ?_)
 refine uW ?_
 show Q acc'.toList s'
 rw[ha']
 exact q H' ts' s' ⟨I',sm,hl',hp'⟩
end
section
variable{X:Cx}{pins:List (Addr×Obj)}{σ:St}{A:Around}{E:Value->Shared->Prop}{s:Shared}{H:Hp}{z TI TO i1 i2 l1 l2:Addr}{xs ys:List V}{as bs:List Value}
theorem ze5:∀ts:List Addr,Vals (ts.map V.ref) (ts.map Value.ref)
 |[]=>.nil
 |_::ts=>.cons rfl (ze5 ts)
def ZT2(X:Cx)(pins:List (Addr×Obj))(σ:St)(H:Hp)(xs ys:List V)(v:Value)(s':Shared):Prop:=
 ∃(H2:Hp)(ts:List Addr)(t:Addr),v=.ref t/\Inv X pins σ H2 s'/\Same H H2/\H t=none/\ts.length=min xs.length ys.length/\Prs H2 xs ys ts/\H2 t=some (.tup (ts.map V.ref))
theorem zdk{Q₁:Value->Shared->Prop}(hh:A.handled=none)(D:ZipApart z TI TO i1 i2 l1 l2)(va:Vals xs as)(vb:Vals ys bs)(hn:xs.length<=tF)(I:Inv X pins σ H s)(hf:∀b∈[z,TI,TO,i1,i2],FpOk X pins H b)
  (Z:ZL s.heap z TI TO i1 i2 l1 l2 0 as.toArray bs.toArray) (q:∀v s',s'.TypeIs v "tuple"->ZT2 X pins σ H xs ys v s'->Q₁ v s'):
  codeAny (model X.prog X.w) A (.call (.builtin "tuple.__new__") ⟨[.type "tuple",.ref z],[]⟩) (wants Q₁ E) s:=by
 refine codeAny_of_tree ?_
 show wpAny _ A.in1 (do checkBuiltinCall "tuple.__new__" ⟨[.type "tuple",.ref z],[]⟩;again (.builtin "tuple.__new__" ⟨[.type "tuple",.ref z],[]⟩)) _ _ s
 refine uV (wpAny_of_eq (F.newCall_tuple_1 _) (uW ⟨plainId_quiet F.plain_tuple_new _,codeAny_builtin F.entry_tuple_new ?_⟩))
 rw[Around.under_plainId F.plain_tuple_new _]
 have hsub:=sub_tuple_self
 have hinit:=init_tuple_lookup
 have hmh:=madeHere_tuple
 have hTI:=Z.ty
 have hcol:∀{Q:List Value->Shared->Prop}{E:Value->Shared->Prop},(∀(H':Hp)(ts:List Addr)(s':Shared),ZQ X pins σ H xs ys H' ts s'->Q (ts.map Value.ref) s')->wpAny (model X.prog X.w) A.in1 (collect (.ref z)) Q E s:=fun {Q E} q=>zfW (A:=A.in1) (by simpa using hh) D va vb hn I hf Z q
 wp_walk using wpAny_typeOf hTI,hcol
 intro H1 ts s1 h
 obtain⟨I1,sm,hl,hp⟩:=h
 show wpAny _ _ (Builtin.Tuple.tupleExact (ts.map Value.ref).toArray>>=fun v=>ret v) _ _ _
 unfold Builtin.Tuple.tupleExact
 have hle:ts.length<=tF:=by rw[hl];exact yQ (Nat.min_le_left ..) hn
 refine uV (tH ?_ (by show (ts.map Value.ref).toArray.size<=tF;simpa using hle))
 refine uW ?_
 have I2:Inv X pins σ (upd H1 s1.heap.objs.size (.tup (ts.map V.ref))) {s1 with heap:=s1.heap.push {cls:=.type "tuple",data:=.seq (ts.map Value.ref).toArray},toks:=s1.toks}:=
  I1.laid (t':=s1.toks) (fun b u e=>uX _ e) (yE _) ⟨by simpa using hle,_,ze5 ts,⟨_,uZ _ rfl,rfl,_,rfl⟩⟩
 have fr:=I1.fresh
 have up:Same H1 (upd H1 s1.heap.objs.size (.tup (ts.map V.ref))):=fun b o e=>by rw[zu (fun z=>by rw[z,fr] at e;cases e)];exact e
 exact q _ _ ⟨_,uZ _ rfl,rfl⟩ ⟨_,ts,_,rfl,I2,Same.trans sm up,Same.free sm fr,hl,fun j t x y e1 e2 e3=>up _ _ (hp j t x y e1 e2 e3),zf⟩
theorem zdl{Q:Value->Shared->Prop}(hh:A.handled=none)(D:ZipApart z TI TO i1 i2 l1 l2)(va:Vals xs as)(vb:Vals ys bs)(hn:xs.length<=tF)(I:Inv X pins σ H s)(hf:∀b∈[z,TI,TO,i1,i2],FpOk X pins H b)
  (Z:ZL s.heap z TI TO i1 i2 l1 l2 0 as.toArray bs.toArray) (q:∀v s',ZT2 X pins σ H xs ys v s'->Q v s'):wpAny (model X.prog X.w) A (call (.type "tuple") [.ref z]) Q E s:=by
 refine callType_codes (Q₁:=fun obj s₁=>s₁.TypeIs obj "tuple"/\Q obj s₁) F.called_tuple (F.typeCall_tuple_1 _) F.entry_object_init
  (zdk (by simpa using hh) D va vb hn I hf Z fun v s' ty h=>⟨ty,q v s' h⟩) fun obj s₁ h₁=>?_
 exact⟨h₁.1,F.args_object_init_2 obj _,object_init_meets F.called_tuple.init.lookup F.called_tuple.made (by decide) X.prog X.w A.in1 _ s₁ ⟨h₁.1,rfl,h₁.2⟩⟩
end
def tTZ(K:tP)(ta:TA):TE:=fun σ H Q=>ta σ H fun vs H1=>∃(a b:Addr)(xs ys:List V),vs=[.ref a,.ref b]/\SqL K H1 a xs/\SqL K H1 b ys /\
 ∀(ts:List Addr)(t:Addr)(H2:Hp),Same H1 H2->H1 t=none->ts.length=min xs.length ys.length->Prs H2 xs ys ts->H2 t=some (.tup (ts.map V.ref))->Q (.ref t) H2
theorem zd9{X:Cx}{a b:Expr}{ta:TA}{p p2 pos pos2:Pos}(hc:X.calm=true)(hg:Gl X "zip")(hm:X.mg "zip"=none)(hgt:Gl X "tuple")(hmt:X.mg "tuple"=none)(ha:PA X [a,b] ta)(hs:tI [a,b] X.env=(false,eval a X.env)::tI [b] X.env:=by rfl)
  (hpl:(backTo pos2 (tI [b] X.env)).any (·.1)=false:=by rfl) (hs2:tI [.Call (.Name "zip" p2) [a,b] [] pos2] X.env=(false,eval (.Call (.Name "zip" p2) [a,b] [] pos2) X.env)::tI [] X.env:=by rfl) (hpl2:(backTo pos (tI [] X.env)).any (·.1)=false:=by rfl):
  PE X (.Call (.Name "tuple" p) [.Call (.Name "zip" p2) [a,b] [] pos2] [] pos) (tTZ X.K ta):=by
 intro pins s σ H Q I h
 refine wpAny_Call_Name_kw (zbu I hgt hmt zM (PyProof.Rows.callWith_type1 ?_ hs2 hpl2))
 rw[hs2]
 show wpAny _ _ (spliced ((false,eval (.Call (.Name "zip" p2) [a,b] [] pos2) X.env)::backTo pos (tI [] X.env))) _ _ s
 refine Calls.spliced_cons ?_
 refine wpAny_Call_Name_kw (zbu I hg hm zgG (PyProof.Rows.callWith_type1 (thn (ha pos2 pins s σ H _ I h) fun us s1 ⟨vs,H1,I1,r1,q1⟩=>?_) hs hpl))
 obtain⟨c,d,xs,ys,e,q2,q3,q⟩:=q1
 subst e
 obtain⟨u,u',rfl,rx,ry⟩:=zhb r1
 cases rx
 cases ry
 obtain⟨as,r2,p1,hz1⟩:=I1.list q2
 obtain⟨bs,r3,p2,hz2⟩:=I1.list q3
 obtain⟨oc,_,gc,_⟩:=id p1
 obtain⟨od,_,gd,_⟩:=id p2
 refine call_zip_2 p1.isList p2.isList fun h' z1 z2 z3 z4 z5 z6 hk=>?_
 have I2:Inv X pins σ H1 {s1 with heap:=h',toks:=s1.toks}:=I1.kept (t':=s1.toks) hk
 refine Calls.spliced_nil ?_
 have fp:∀b∈[s1.heap.objs.size+4,s1.heap.objs.size+2,s1.heap.objs.size+3,s1.heap.objs.size,s1.heap.objs.size+1],FpOk X pins H1 b:=fun e he=>by
  have hle:s1.heap.objs.size<=e:=by
   have hc:e=s1.heap.objs.size+4\/e=s1.heap.objs.size+2\/e=s1.heap.objs.size+3\/e=s1.heap.objs.size\/e=s1.heap.objs.size+1:=by simpa using he
   rcases hc with r|r|r|r|r<;>rw[r]<;>first|exact yE _|exact wO _ _
  exact I1.fpOk hle (I1.hok.fresh hle)
 refine zdl (X:=X) (pins:=pins) (σ:=σ) (H:=H1) (I.ok.hd hc) (zipApart_new (uY gc) (uY gd)) r2 r3 hz1 I2 fp ⟨.inl z1,z2,⟨_,_,z3⟩,z4,z5,p1.isList.at fun o e=>hk _ o e,p2.isList.at fun o e=>hk _ o e⟩ fun v s' hz=>?_
 obtain⟨H2,ts,t,rfl,I3,sm,fr,hl,hp,et⟩:=hz
 exact⟨.ref t,H2,I3,rfl,q ts t H2 sm fr hl hp et⟩
end L2
namespace D
open PySem L2
theorem zd9{X:Cx}{a b:Expr}{ta:TA}{p p2 pos pos2:Pos}(hc:X.calm=true)(hg:Gl X "zip")(hm:X.mg "zip"=none)(hgt:Gl X "tuple")(hmt:X.mg "tuple"=none)(ha:QA X [a,b] ta)(hs:tI [a,b] X.env=(false,eval a X.env)::tI [b] X.env:=by rfl)
  (hpl:(backTo pos2 (tI [b] X.env)).any (·.1)=false:=by rfl) (hs2:tI [.Call (.Name "zip" p2) [a,b] [] pos2] X.env=(false,eval (.Call (.Name "zip" p2) [a,b] [] pos2) X.env)::tI [] X.env:=by rfl) (hpl2:(backTo pos (tI [] X.env)).any (·.1)=false:=by rfl):
  QE X (.Call (.Name "tuple" p) [.Call (.Name "zip" p2) [a,b] [] pos2] [] pos) (tTZ X.K ta):=⟨L2.zd9 hc hg hm hgt hmt ha.un hs hpl hs2 hpl2⟩
mutual
def TB(B:Nat):PyData->Prop
 |.none=>True
 |.bool _=>True
 |.int i=>i.natAbs<B
 |.str x=>x.length<=2000/\∀c∈x.cps.toList,c<200
 |.tuple xs=>TBs B xs
 |.list _=>False
 |.dict _=>False
def TBs(B:Nat):List PyData->Prop
 |[]=>True
 |x::xs=>TB B x/\TBs B xs
end
noncomputable def big:Nat:=10 ^ 121
abbrev TOk:=TB big
abbrev TOks:=TBs big
mutual
noncomputable def cnt:PyData->Nat
 |.tuple xs=>cnts xs+1
 |.none=>1
 |.bool _=>1
 |.int _=>1
 |.str _=>1
 |.list _=>1
 |.dict _=>1
noncomputable def cnts:List PyData->Nat
 |[]=>0
 |x::xs=>cnt x+cnts xs
end
mutual
theorem ze6:∀d:PyData,TOk d->d.shown.length+10<=20020*cnt d
 |.none,_=>by decide +kernel
 |.bool true,_=>by decide +kernel
 |.bool false,_=>by decide +kernel
 |.int i,h=>by
  have h:i.natAbs<10 ^ 121:=h
  have e:(PyData.int i).shown.length=(toString i).length:=by
   simp only[PyData.shown];exact ofString_length _
  rw[e]
  have:=int_text_length_le10 (k:=121) (by decide) h
  simp only[cnt];lia
 |.str x,h=>by
  have h:x.length<=2000/\∀c∈x.cps.toList,c<200:=h
  have:=StrLaws.reprText_len x (fun c hc=>yO (h.2 c hc) (by decide))
  simp only[PyData.shown,cnt];lia
 |.tuple xs,h=>by
  have ih:=piled_len xs h
  have e:(tupleText (PyData.shownAll xs)).length<=piled (PyData.shownAll xs)+3:=by
   unfold tupleText
   rw[strLen_append,strLen_append]
   have e1:((("(":String):Str)).length=1:=rfl
   have e3:(((if (PyData.shownAll xs).length==1 then ",)" else ")":String):Str)).length<=2:=by split<;>decide
   have e2:(Str.join ", " (PyData.shownAll xs)).length<=piled (PyData.shownAll xs):=by
    cases q:PyData.shownAll xs with
    |nil=>decide +kernel
    |cons a b=>have:=join_length_add (a::b) (by simp);lia
   lia
  simp only[PyData.shown,cnt];lia
 |.list _,h=>h.elim
 |.dict _,h=>h.elim
theorem piled_len:∀ds:List PyData,TOks ds->piled (PyData.shownAll ds)<=20020*cnts ds
 |[],_=>by decide
 |x::xs,h=>by
  have a:=ze6 x h.1
  have b:=piled_len xs h.2
  simp only[PyData.shownAll,piled_cons,cnts];lia
end
theorem zhw{n k:Nat}(hk:0<k)(h:n<2 ^ k):n.log2<k:=by
 by_cases z:n=0
 ·subst z;exact hk
 ·exact (uS z).mpr h
mutual
theorem zc3:∀d:PyData,TOk d->d.showable=true/\d.hasDict=false
 |.none,_=>⟨rfl,rfl⟩
 |.bool _,_=>⟨rfl,rfl⟩
 |.int i,h=>⟨by simp only[PyData.showable,decide_eq_true_eq];exact zhw (by decide) (yO (show i.natAbs<10 ^ 121 from h) (by decide +kernel)),rfl⟩
 |.str _,_=>⟨rfl,rfl⟩
 |.tuple xs,h=>by simp only[PyData.showable,PyData.hasDict];exact showables_of xs h
 |.list _,h=>h.elim
 |.dict _,h=>h.elim
theorem showables_of:∀ds:List PyData,TOks ds->PyData.showableAll ds=true/\PyData.hasDictAll ds=false
 |[],_=>⟨rfl,rfl⟩
 |x::xs,h=>by
  obtain⟨a,b⟩:=zc3 x h.1
  obtain⟨c,d⟩:=showables_of xs h.2
  simp only[PyData.showableAll,PyData.hasDictAll,a,b,c,d]
  exact⟨rfl,rfl⟩
end
theorem zc4{h:Heap}:∀{us:List Value}{ds:List PyData},us.length=ds.length->(∀(i:Nat)(u:Value)(d:PyData),us[i]?=some u->ds[i]?=some d->∃as,Reads h u d as)->∃as,ReadsAll h us ds as
 |[],[],_,_=>⟨_,.nil⟩
 |u::us,d::ds,l,g=>by
  obtain⟨a,r⟩:=g 0 u d rfl rfl
  obtain⟨b,rs⟩:=zc4 (us:=us) (ds:=ds) (by simpa using l) fun i u d e1 e2=>g (i+1) u d e1 e2
  exact⟨_,.cons r rs⟩
theorem ze7:tJ (uU "repr")=some (.builtin "repr"):=by kernel_rfl
end D
namespace L2
open PySem
theorem Room.u80{k:Nat}{A:Around}(r:Room k A):A.units+80<cLine:=by have:=r.un;lia
end L2
namespace D
open PySem L2
theorem RS.inj{X:Cx}{pins:List (Addr×Obj)}{σ:St}{H:Hp}{s:Shared}(I:Inv X pins σ H s){u:V}{x:W}(h:RS X.K H u x):∀{y:W},RS X.K H u y->x=y:=by
 induction h with
 |num i=>intro y h;cases h;rfl
 |txt z=>intro y h;cases h;rfl
 | @lst a vs ws e l at1 ih=>
  intro y h
  cases h with
  | @lst _ us zs e2 l2 at2=>
   have hv:vs=us:=I.tuple_inj e e2
   subst hv
   congr 1
   refine List.ext_getElem (by lia) fun i h1 h2=>?_
   have hv:vs[i]?=some vs[i]:=yA (by lia)
   exact ih i _ _ hv (yA h1) (at2 i _ _ hv (yA h2))
theorem zk2{X:Cx}{pins:List (Addr×Obj)}{σ:St}{H:Hp}{s:Shared}(I:Inv X pins σ H s):∀(n:Nat)(A:Around)(x y:W)(u v:V)(U V':Value),x.depth<n->RS X.K H u x->RS X.K H v y->RelV u U->RelV v V'->A.units+n+2<cLine->SeqAt.EqAt A s U V' (eqW x y):=by
 intro n
 induction n with
 |zero=>intro A x y u v U V' h;lia
 |succ n ih=>
  intro A x y u v U V' hd rx ry r1 r2 hu
  have hu0:A.units<cLine:=by lia
  cases rx with
  |num i=>
   obtain⟨t,rfl⟩:=r1
   cases ry with
   |num j=>obtain⟨t2,rfl⟩:=r2;exact SeqAt.EqAt.int_int i t j t2
   |txt z=>obtain⟨t2,rfl⟩:=r2;exact SeqAt.EqAt.int_str i t z t2
   |lst e _ _=>
    cases r2
    obtain⟨its,_,p,_⟩:=I.tuple e
    exact SeqAt.EqAt.int_tuple i t p hu0
  |txt z=>
   obtain⟨t,rfl⟩:=r1
   cases ry with
   |num j=>obtain⟨t2,rfl⟩:=r2;exact SeqAt.EqAt.str_int z t j t2
   |txt z2=>obtain⟨t2,rfl⟩:=r2;exact SeqAt.EqAt.str_str z t z2 t2
   |lst e _ _=>
    cases r2
    obtain⟨its,_,p,_⟩:=I.tuple e
    exact SeqAt.EqAt.str_tuple z t p hu0
  | @lst a vs ws e l at1=>
   cases r1
   obtain⟨its,rv,p,_⟩:=I.tuple e
   cases ry with
   |num j=>obtain⟨t2,rfl⟩:=r2;exact SeqAt.EqAt.tuple_int j t2 p hu0
   |txt z2=>obtain⟨t2,rfl⟩:=r2;exact SeqAt.EqAt.tuple_str z2 t2 p hu0
   | @lst b us zs e2 l2 at2=>
    cases r2
    obtain⟨its2,rv2,p2,_⟩:=I.tuple e2
    by_cases hab:a=b
    ·subst hab
     have:W.lst ws=W.lst zs:=RS.inj I (.lst e l at1) (.lst e2 l2 at2)
     rw[this,Zr]
     exact SeqAt.EqAt.same _
    ·rw[←zht (H:=H) rv rv2 l l2]
     refine SeqAt.EqAt.of_refs hab (SeqAt.RcAt.tuples p p2 hu0 fun j h1 h2=>?_)
     have j1:j<its.length:=by simpa using h1
     have j2:j<its2.length:=by simpa using h2
     have k1:j<vs.length:=by rw[rv.length];exact j1
     have k2:j<us.length:=by rw[rv2.length];exact j2
     have m1:j<ws.length:=by lia
     have m2:j<zs.length:=by lia
     obtain⟨U1,hU1,rU1⟩:=rv.get (yA k1)
     obtain⟨U2,hU2,rU2⟩:=rv2.get (yA k2)
     have f1:its.toArray[j]=U1:=by have:=(yC.mp hU1).2;simpa using this
     have f2:its2.toArray[j]=U2:=by have:=(yC.mp hU2).2;simpa using this
     rw[f1,f2]
     have g1:ws.getD j (.num 0)=ws[j]:=by rw[yU,yA m1];rfl
     have g2:zs.getD j (.num 0)=zs[j]:=by rw[yU,yA m2];rfl
     rw[g1,g2]
     have hdj:=Z5 ws[j] (xA m1)
     have hd':1+depths ws<n+1:=hd
     have hu1:A.in1.units=A.units+1:=rfl
     exact ih A.in1 ws[j] zs[j] vs[j] us[j] U1 U2 (by lia) (at1 j _ _ (yA k1) (yA m1)) (at2 j _ _ (yA k2) (yA m2)) rU1 rU2 (by lia)
mutual
theorem zb0:∀w z:W,eqW w z=true ↔ w=z
 |.num i,.num j=>by simp[eqW]
 |.txt x,.txt y=>by simp[eqW]
 |.lst ws,.lst zs=>by
  rw[eqW,eqWs_iff' ws zs]
  constructor
  ·intro h;rw[h]
  ·intro h;cases h;rfl
 |.num _,.txt _=>by simp[eqW]
 |.num _,.lst _=>by simp[eqW]
 |.txt _,.num _=>by simp[eqW]
 |.txt _,.lst _=>by simp[eqW]
 |.lst _,.num _=>by simp[eqW]
 |.lst _,.txt _=>by simp[eqW]
theorem eqWs_iff':∀ws zs:List W,eqWs ws zs=true ↔ ws=zs
 |[],[]=>by simp[eqWs]
 |w::r,z::s=>by
  rw[eqWs,xF,zb0 w z,eqWs_iff' r s]
  constructor
  ·rintro⟨rfl,rfl⟩;rfl
  ·intro h;cases h;exact⟨rfl,rfl⟩
 |[],_::_=>by simp[eqWs]
 |_::_,[]=>by simp[eqWs]
end
theorem zgH{w z:W}(h:w≠z):eqW w z=false:=by
 cases e:eqW w z with
 |false=>rfl
 |true=>exact absurd ((zb0 w z).mp e) h
structure RSs(K:tP)(H:Hp)(vs:List V)(ws:List W):Prop where
 len:vs.length=ws.length
 at':∀(i:Nat)(v:V)(w:W),vs[i]?=some v->ws[i]?=some w->RS K H v w
theorem RWs.rss{K:tP}{H:Hp}{vs:List V}{ws:List W}(h:RWs H vs ws):RSs K H vs ws:=⟨h.len,fun i v w a b=>(h.at' i v w a b).toRS⟩
theorem RS.parts{K:tP}{H:Hp}{v:V}{ws:List W}(h:RS K H v (.lst ws)):∃a vs,v=.ref a/\SqT K H a vs/\RSs K H vs ws:=by
 cases h with
 | @lst a vs _ e l at1=>exact⟨a,vs,rfl,e,l,at1⟩
theorem zcp{X:Cx}{pins:List (Addr×Obj)}{σ:St}{H:Hp}{s:Shared}(I:Inv X pins σ H s)(hu:X.A.units+64<cLine){us vs:List V}{ws zs:List W}{its its2:List Value}(v1:Vals us its)(v2:Vals vs its2)(r1:RSs X.K H us ws)(r2:RSs X.K H vs zs)(hd:depths ws<50)(j:Nat)(h1:j<its.toArray.size)(h2:j<its2.toArray.size):
  SeqAt.EqAt X.A.in1 s its.toArray[j] its2.toArray[j] (eqW (ws.getD j (.num 0)) (zs.getD j (.num 0))):=by
 have l1:=v1.length
 have l2:=v2.length
 have m1:=r1.len
 have m2:=r2.len
 have j1:j<us.length:=by rw[l1];simpa using h1
 have j2:j<vs.length:=by rw[l2];simpa using h2
 have e1:us[j]?=some us[j]:=yA j1
 have e2:vs[j]?=some vs[j]:=yA j2
 have k1:j<ws.length:=by lia
 have k2:j<zs.length:=by lia
 have e3:ws[j]?=some ws[j]:=yA k1
 have e4:zs[j]?=some zs[j]:=yA k2
 have g1:ws.getD j (.num 0)=ws[j]:=by rw[yU,e3];rfl
 have g2:zs.getD j (.num 0)=zs[j]:=by rw[yU,e4];rfl
 rw[g1,g2]
 have hdj:=Z5 ws[j] (xA k1)
 have hu1:X.A.in1.units=X.A.units+1:=rfl
 exact zk2 I 50 X.A.in1 ws[j] zs[j] us[j] vs[j] _ _ (by lia) (r1.at' j _ _ e1 e3) (r2.at' j _ _ e2 e4) (ziO v1 e1 h1) (ziO v2 e2 h2) (by lia)
def rTT(K:tP)(g:Bool->Bool):V->V->Hp->VK->Prop:=fun x y H Q=>∃(ws zs:List W),RS K H x (.lst ws)/\RS K H y (.lst zs)/\depths ws<50/\Q (.bl (g (eqW (.lst ws) (.lst zs)))) H
def rLL(K:tP)(g:Bool->Bool):V->V->Hp->VK->Prop:=fun x y H Q=>∃(a b:Addr)(us vs:List V)(ws zs:List W),x=.ref a/\y=.ref b/\SqL K H a us/\SqL K H b vs/\RSs K H us ws/\RSs K H vs zs/\depths ws<50/\Q (.bl (g (eqW (.lst ws) (.lst zs)))) H
theorem zb1{X:Cx}(hu:X.A.units+64<cLine):OpR X (tK .Eq) (rTT X.K fun b=>b):=by
 intro pins s σ H x y v u Q I rx ry h
 obtain⟨ws,zs,hx,hy,hd,q⟩:=h
 obtain⟨a,us,rfl,ha,r1⟩:=hx.parts
 obtain⟨b,vs,rfl,hb,r2⟩:=hy.parts
 cases rx
 cases ry
 obtain⟨its,v1,p1,_⟩:=I.tuple ha
 obtain⟨its2,v2,p2,_⟩:=I.tuple hb
 have key:=SeqAt.RcAt.tuples p1 p2 (by lia) (zcp I hu v1 v2 r1 r2 hd)
 rw[zht (H:=H) v1 v2 r1.len r2.len] at key
 exact key X.prog X.w _ _ ⟨.bl _,H,I,rfl,q⟩
theorem zea{X:Cx}(hu:X.A.units+64<cLine):OpR X (tK .NotEq) (rTT X.K fun b=>!b):=by
 intro pins s σ H x y v u Q I rx ry h
 obtain⟨ws,zs,hx,hy,hd,q⟩:=h
 obtain⟨a,us,rfl,ha,r1⟩:=hx.parts
 obtain⟨b,vs,rfl,hb,r2⟩:=hy.parts
 cases rx
 cases ry
 obtain⟨its,v1,p1,_⟩:=I.tuple ha
 obtain⟨its2,v2,p2,_⟩:=I.tuple hb
 have key:=SeqAt.RcNeAt.tuples p1 p2 (by lia) (zcp I hu v1 v2 r1 r2 hd)
 rw[zht (H:=H) v1 v2 r1.len r2.len] at key
 exact key X.prog X.w _ _ ⟨.bl _,H,I,rfl,q⟩
theorem ziR{ws zs:List W}(h:ws.length≠zs.length):eqW (.lst ws) (.lst zs)=false:=zgH fun z=>h (by injection z with z;rw[z])
theorem zk3{ws zs:List W}{its its2:List Value}{us vs:List V}(v1:Vals us its)(v2:Vals vs its2)(l1:us.length=ws.length)(l2:vs.length=zs.length)(e:ws.length=zs.length):
  ((wK its.toArray.size).all fun j=>eqW (ws.getD j (.num 0)) (zs.getD j (.num 0)))=eqW (.lst ws) (.lst zs):=by
 rw[←zht (H:=fun _=>none) v1 v2 l1 l2]
 have e1:its.toArray.size=ws.length:=by rw[yG,←v1.length,l1]
 have e2:its2.toArray.size=zs.length:=by rw[yG,←v2.length,l2]
 rw[e1,e2,e,Nat.min_self]
 simp
theorem ziS{X:Cx}(hu:X.A.units+64<cLine):OpR X (tK .Eq) (rLL X.K fun b=>b):=by
 intro pins s σ H x y v u Q I rx ry h
 obtain⟨a,b,us,vs,ws,zs,rfl,rfl,ha,hb,r1,r2,hd,q⟩:=h
 cases rx
 cases ry
 obtain⟨its,v1,p1,_⟩:=I.list ha
 obtain⟨its2,v2,p2,_⟩:=I.list hb
 have e1:its.toArray.size=ws.length:=by rw[yG,←v1.length,r1.len]
 have e2:its2.toArray.size=zs.length:=by rw[yG,←v2.length,r2.len]
 by_cases e:ws.length=zs.length
 ·have key:=SeqAt.RcAt.lists p1.isList p2.isList (by rw[e1,e2,e]) (by lia) (zcp I hu v1 v2 r1 r2 hd)
  rw[zk3 v1 v2 r1.len r2.len e] at key
  exact key X.prog X.w _ _ ⟨.bl _,H,I,rfl,q⟩
 ·have key:=SeqAt.RcAt.lists_lengths (A:=X.A) p1.isList p2.isList (by rw[e1,e2];simp[e]) (by lia)
  rw[ziR e] at q
  exact key X.prog X.w _ _ ⟨.bl _,H,I,rfl,q⟩
theorem ziT{X:Cx}(hu:X.A.units+64<cLine):OpR X (tK .NotEq) (rLL X.K fun b=>!b):=by
 intro pins s σ H x y v u Q I rx ry h
 obtain⟨a,b,us,vs,ws,zs,rfl,rfl,ha,hb,r1,r2,hd,q⟩:=h
 cases rx
 cases ry
 obtain⟨its,v1,p1,_⟩:=I.list ha
 obtain⟨its2,v2,p2,_⟩:=I.list hb
 have e1:its.toArray.size=ws.length:=by rw[yG,←v1.length,r1.len]
 have e2:its2.toArray.size=zs.length:=by rw[yG,←v2.length,r2.len]
 by_cases e:ws.length=zs.length
 ·have key:=SeqAt.RcNeAt.lists p1.isList p2.isList (by rw[e1,e2,e]) (by lia) (zcp I hu v1 v2 r1 r2 hd)
  rw[zk3 v1 v2 r1.len r2.len e] at key
  exact key X.prog X.w _ _ ⟨.bl _,H,I,rfl,q⟩
 ·have key:=SeqAt.RcNeAt.lists_lengths (A:=X.A) p1.isList p2.isList (by rw[e1,e2];simp[e]) (by lia)
  rw[ziR e] at q
  exact key X.prog X.w _ _ ⟨.bl _,H,I,rfl,q⟩
theorem zlW{X:Cx}(hu:X.A.units+64<cLine):OpR X (tK .In) (fun x y H Q=>∃(p:Addr)(us:List V)(ws:List W)(z:W),y=.ref p/\SqL X.K H p us/\RSs X.K H us ws/\depths ws<50/\RS X.K H x z/\z∈ws/\Q (.bl true) H):=by
 intro pins s σ H x y v u Q I rx ry h
 obtain⟨p,us,ws,z,rfl,hq,r1,hd,hz,hm,q⟩:=h
 cases ry
 obtain⟨its,r,pl,_⟩:=I.list hq
 have hlen:=r.length
 have hl:=r1.len
 classical
 have item:∀(j:Nat)(U:Value),its[j]?=some U->∃t w,us[j]?=some t/\ws[j]?=some w/\RelV t U/\RS X.K H t w/\w.depth<50:=fun j U hU=>by
  have hj:=(yC.mp hU).1
  have h1:us[j]?=some us[j]:=yA (by lia)
  have h2:ws[j]?=some ws[j]:=yA (by lia)
  obtain⟨U1,hU1,rU1⟩:=r.get h1
  rw[hU1] at hU
  cases hU
  have hdj:=Z5 ws[j] (xA (show j<ws.length by lia))
  exact⟨_,_,h1,h2,rU1,r1.at' j _ _ h1 h2,by lia⟩
 let g:Value->Bool:=fun U=>decide (∃t w,RelV t U/\RS X.K H t w/\eqW w z=true)
 have hg:∀(t:V)(U:Value)(w:W),RelV t U->RS X.K H t w->g U=eqW w z:=fun t U w hr hw=>by
  show decide (∃t w,RelV t U/\RS X.K H t w/\eqW w z=true)=eqW w z
  cases he:eqW w z with
  |true=>exact decide_eq_true ⟨t,w,hr,hw,he⟩
  |false=>
   refine decide_eq_false fun ⟨t',w',hr',hw',he'⟩=>?_
   have:w=w':=by
    cases hw with
    |num i=>
     obtain⟨k1,rfl⟩:=hr
     cases hw' with
     |num j=>obtain⟨k2,e⟩:=hr';cases e;rfl
     |txt y=>obtain⟨k2,e⟩:=hr';cases e
     |lst e1 e2 e3=>cases hr'
    |txt i=>
     obtain⟨k1,rfl⟩:=hr
     cases hw' with
     |num j=>obtain⟨k2,e⟩:=hr';cases e
     |txt y=>obtain⟨k2,e⟩:=hr';cases e;rfl
     |lst e1 e2 e3=>cases hr'
    | @lst a vs ws e l at1=>
     cases hr
     cases hw' with
     |num j=>obtain⟨k2,e⟩:=hr';cases e
     |txt y=>obtain⟨k2,e⟩:=hr';cases e
     |lst e1 e2 e3=>cases hr';exact RS.inj I (.lst e l at1) (.lst e1 e2 e3)
   rw[this,he'] at he
   cases he
 refine SeqAt.in_listAt g pl.isList (fun U hU=>?_) ⟨.bl _,H,I,rfl,?_⟩
 ·obtain⟨j,hj⟩:=List.mem_iff_getElem?.mp (show U∈its by simpa using hU)
  obtain⟨t,w,h1,h2,hr,h3,h4⟩:=item j U hj
  rw[hg t U w hr h3]
  have hu1:X.A.in1.units=X.A.units+1:=rfl
  exact zk2 I 50 _ w z t x _ _ h4 h3 hz hr rx (by lia)
 ·have:its.toArray.any g=true:=by
   rw[show its.toArray.any g=its.any g by simp]
   obtain⟨i,hi',rfl⟩:=wL.mp hm
   have h0:its[i]?=some its[i]:=yA (by lia)
   obtain⟨t,w,h1,h2,h3,h4,h5⟩:=item i _ h0
   rw[yA hi'] at h2
   cases h2
   refine List.any_eq_true.mpr ⟨its[i],yH h0,?_⟩
   rw[hg t _ _ h3 h4,Zr]
  rw[this]
  exact q
end D
namespace L2
open PySem PySem.Spec PyProof.Rows
section
variable{prog:Program}{w:World}{A:Around}{E:Value->Shared->Prop}{s:Shared}
structure ZS(h:Heap)(z TI TO i1 i2 l1 l2:Addr)(k:Nat):Prop where
 zip:∃(f0:Value)(f:Bool),ZN h z TI TO f0 f/\((f0=.none)\/∃T:Addr,f0=rawInt T)
 ti:IsPair h TI (.ref i1) (.ref i2)
 to:∃a b,IsPair h TO a b
 it1:h.IsListIter i1 l1 k
 it2:h.IsListIter i2 l2 k
theorem dead{a:Addr}{Q:Option Obj->Shared->Prop}(ho:s.heap.get? a=none)(h:Q none s):wpAny (model prog w) A (loadIfAlive a) Q E s:=by
 have h':Q (s.heap.get? a) s:=by rw[ho];exact h
 exact fun _ _ _=>h'
theorem ze8{z TI TO T:Addr}{f:Bool}{Q:Bool->Shared->Prop}(hz:ZN s.heap z TI TO (rawInt T) f)(hT:s.heap.get? T=none)(q:Q true s):wpAny (model prog w) A (Builtin.SmallTypes.ownedTupleIsFree (.ref z)) Q E s:=by
 unfold Builtin.SmallTypes.ownedTupleIsFree
 refine uV (wpAny_field hz rfl (x:=rawInt T) rfl ?_)
 show wpAny _ _ (loadIfAlive ((T:Int).toNat)>>=_) _ _ _
 rw[vR]
 refine uV (dead hT ?_)
 simp only[Option.isNone_none,if_true]
 exact uW q
theorem ze9{z TI TO:Addr}{f:Bool}{Q:Bool->Shared->Prop}(hz:ZN s.heap z TI TO .none f)(q:Q true s):wpAny (model prog w) A (Builtin.SmallTypes.ownedTupleIsFree (.ref z)) Q E s:=by
 unfold Builtin.SmallTypes.ownedTupleIsFree
 exact uV (wpAny_field hz rfl (x:=.none) rfl (uW q))
theorem ziU{f0:Value}{f:Bool}{z TI TO i1 i2 l1 l2:Addr}{k:Nat}{xs ys:Array Value}{x y a b:Value}{Q:Value->Shared->Prop}(D:ZipApart z TI TO i1 i2 l1 l2)(hz:ZN s.heap z TI TO f0 f)
  (hfr:∀{Q:Bool->Shared->Prop}{E:Value->Shared->Prop},Q true s->wpAny (model prog w) A (Builtin.SmallTypes.ownedTupleIsFree (.ref z)) Q E s)
  (hI:IsPair s.heap TI (.ref i1) (.ref i2)) (hO:IsPair s.heap TO a b) (j1:s.heap.IsListIter i1 l1 k) (j2:s.heap.IsListIter i2 l2 k) (L1:s.heap.IsList l1 xs) (L2:s.heap.IsList l2 ys) (e1:xs[k]?=some x) (e2:ys[k]?=some y)
  (q:∀h',ZS h' z TI TO i1 i2 l1 l2 (k+1)->IsPair h' s.heap.objs.size x y->h'.objs.size=s.heap.objs.size+1->(∀c o,c≠z->c≠TO->c≠i1->c≠i2->s.heap.get? c=some o->h'.get? c=some o)->Q (.ref s.heap.objs.size) {s with heap:=h'}):
  wpAny (model prog w) A (Builtin.«zip.__next__» ⟨[.ref z],[]⟩) (fun fin s'=>∃v,fin=.done (.ret v)/\Q v s') E s:=by
 show wpAny _ _ (field (.ref z) 2>>=_) _ _ _;refine uV (wpAny_field hz rfl (x:=.bool false) rfl ?_)
 show wpAny _ _ (field (.ref z) 3>>=_) _ _ _;refine uV (wpAny_field hz rfl (x:=.ref TI) rfl ?_)
 refine uV (wpAny_seqItems hI rfl ?_);show wpAny _ _ (Builtin.SmallTypes.ownedTupleIsFree (.ref z)>>=_) _ _ _
 refine uV (hfr ?_);simp only[if_true];refine uV (wpAny_rule ?_)
 refine uV (wpAny_field hz rfl (x:=.ref TO) rfl ?_);refine uV (wpAny_setField_rec hz (by simp) fun ha za sa=>?_)
 have za':ZN ha z TI TO .ellipsis f:=za
 refine uV ?_;simp only[List.zipIdx_cons,List.zipIdx_nil,wE,wM]
 refine uV (uV (wpAny_onRaise ?_));show wpAny _ _ (Builtin.SmallTypes.nextOf (.ref i1)>>=_) _ _ _
 refine uV (wpAny_nextOf_list_item (j1.extBut sa.extBut D.i1z) (L1.extBut sa.extBut D.l1z) e1 fun hb jb sb=>uW ?_)
 have ob:IsPair hb TO a b:=sb.extBut _ _ D.TOi1 (sa.extBut _ _ D.TOz hO)
 refine uV (wpAny_seqItems ob rfl ?_);refine uV (wpAny_updateSeq_pair ob fun hc oc sc=>?_)
 have oc':IsPair hc TO x b:=oc
 refine uV (wpAny_letGo (uW ?_));refine uV (uV (wpAny_onRaise ?_));show wpAny _ _ (Builtin.SmallTypes.nextOf (.ref i2)>>=_) _ _ _
 refine uV (wpAny_nextOf_list_item (((j2.extBut sa.extBut D.i2z).extBut sb.extBut D.i12.symm).extBut sc.extBut D.TOi2.symm) (((L2.extBut sa.extBut D.l2z).extBut sb.extBut D.l2i1).extBut sc.extBut D.l2TO) e2 fun hd jd sd=>uW ?_)
 have od:IsPair hd TO x b:=sd.extBut _ _ D.TOi2 oc'
 refine uV (wpAny_seqItems od rfl ?_);refine uV (wpAny_updateSeq_pair od fun he oe se=>?_)
 have oe':IsPair he TO x y:=oe
 refine uV (wpAny_letGo (uW (uW ?_)));refine uV (wpAny_seqItems oe' rfl ?_);refine uV (wpAny_newTuple ?_)
 have sz:he.objs.size=s.heap.objs.size:=by rw[se.1,sd.1,sc.1,sb.1,sa.1]
 have ze:ZN he z TI TO .ellipsis f:=se.extBut _ _ D.TOz.symm (sd.extBut _ _ D.i2z.symm (sc.extBut _ _ D.TOz.symm (sb.extBut _ _ D.i1z.symm za')))
 have ke:∀c o,c≠z->c≠TO->c≠i1->c≠i2->s.heap.get? c=some o->he.get? c=some o:=fun c o c1 c2 c3 c4 e=>se.extBut _ _ c2 (sd.extBut _ _ c4 (sc.extBut _ _ c2 (sb.extBut _ _ c3 (sa.extBut _ _ c1 e))))
 have je1:he.IsListIter i1 l1 (k+1):=((jb.extBut sc.extBut D.TOi1.symm).extBut sd.extBut D.i12).extBut se.extBut D.TOi1.symm
 have je2:he.IsListIter i2 l2 (k+1):=jd.extBut se.extBut D.TOi2.symm
 have zl:z<he.objs.size:=uY ze
 show wpAny _ _ (Builtin.SmallTypes.ownedTupleHandOut (.ref z) (.ref he.objs.size)>>=_) _ _ _
 refine uV ?_;unfold Builtin.SmallTypes.ownedTupleHandOut
 have zp:ZN (he.push {cls:=.type "tuple",data:=.seq #[x,y]}) z TI TO .ellipsis f:=uX _ ze
 refine uV (wpAny_setField_rec zp (by simp) fun hg zg sg=>?_)
 have zg':ZN hg z TI TO (rawInt he.objs.size) f:=zg
 refine wpAny_setField_rec zg' (by simp) fun hh zh sh=>?_
 have zh':ZN hh z TI TO (rawInt he.objs.size) false:=zh
 have up:∀c o,c≠z->he.get? c=some o->hh.get? c=some o:=fun c o c1 e=>sh.extBut _ _ c1 (sg.extBut _ _ c1 (uX _ e))
 have tp:IsPair hh he.objs.size x y:=sh.extBut _ _ (xE zl) (sg.extBut _ _ (xE zl) (uZ _ rfl))
 have zs:hh.objs.size=he.objs.size+1:=by rw[sh.1,sg.1,Heap.size_push]
 refine uW ⟨_,rfl,?_⟩;show Q (.ref he.objs.size) _
 rw[sz] at tp zs ⊢
 exact q hh ⟨⟨_,_,zh',.inr ⟨_,rfl⟩⟩,up _ _ D.TIz (ke _ _ D.TIz D.TITO D.TIi1 D.TIi2 hI),⟨_,_,up _ _ D.TOz oe'⟩,je1.at fun o e=>up _ o D.i1z e,je2.at fun o e=>up _ o D.i2z e⟩ tp zs fun c o c1 c2 c3 c4 e=>up c o c1 (ke c o c1 c2 c3 c4 e)
theorem zlX{f:Bool}{z TI TO i1 i2 l1 l2 T:Addr}{ot:Obj}{k:Nat}{xs ys:Array Value}{x y a b:Value}{Q:Value->Shared->Prop}(D:ZipApart z TI TO i1 i2 l1 l2)(hz:ZN s.heap z TI TO (rawInt T) f)(hT:s.heap.get? T=some ot)
  (hI:IsPair s.heap TI (.ref i1) (.ref i2)) (hO:IsPair s.heap TO a b) (j1:s.heap.IsListIter i1 l1 k) (j2:s.heap.IsListIter i2 l2 k) (L1:s.heap.IsList l1 xs) (L2:s.heap.IsList l2 ys) (e1:xs[k]?=some x) (e2:ys[k]?=some y)
  (q:∀h',ZS h' z TI TO i1 i2 l1 l2 (k+1)->IsPair h' s.heap.objs.size x y->h'.objs.size=s.heap.objs.size+1->(∀c o,c≠z->c≠TO->c≠i1->c≠i2->s.heap.get? c=some o->h'.get? c=some o)->Q (.ref s.heap.objs.size) {s with heap:=h'}):
  wpAny (model prog w) A (Builtin.«zip.__next__» ⟨[.ref z],[]⟩) (fun fin s'=>∃v,fin=.done (.ret v)/\Q v s') E s:=by
 show wpAny _ _ (field (.ref z) 2>>=_) _ _ _;refine uV (wpAny_field hz rfl (x:=.bool false) rfl ?_)
 show wpAny _ _ (field (.ref z) 3>>=_) _ _ _;refine uV (wpAny_field hz rfl (x:=.ref TI) rfl ?_)
 refine uV (wpAny_seqItems hI rfl ?_);show wpAny _ _ (Builtin.SmallTypes.ownedTupleIsFree (.ref z)>>=_) _ _ _
 refine uV (zco hz hT fun h1 z1 s1=>?_);simp only[xC,if_false];refine uV ?_
 simp only[wW,wE,wM]
 refine uV (uV (wpAny_holding ?_));show wpAny _ _ (Builtin.SmallTypes.nextOf (.ref i1)>>=_) _ _ _
 refine uV (wpAny_nextOf_list_item (j1.extBut s1.extBut D.i1z) (L1.extBut s1.extBut D.l1z) e1 fun h2 j12 s2=>uW ?_);refine uW ?_
 refine uV (uV (wpAny_holding ?_));show wpAny _ _ (Builtin.SmallTypes.nextOf (.ref i2)>>=_) _ _ _
 refine uV (wpAny_nextOf_list_item ((j2.extBut s1.extBut D.i2z).extBut s2.extBut D.i12.symm) ((L2.extBut s1.extBut D.l2z).extBut s2.extBut D.l2i1) e2 fun h3 j23 s3=>uW ?_)
 refine uW (uW ?_);show wpAny _ _ (newTuple [x,y]>>=_) _ _ _;refine uV (wpAny_newTuple ?_)
 have size:h3.objs.size=s.heap.objs.size:=by rw[s3.1,s2.1,s1.1]
 have ke:∀c o,c≠z->c≠i1->c≠i2->s.heap.get? c=some o->(h3.push {cls:=.type "tuple",data:=.seq #[x,y]}).get? c=some o:=fun c o n1 n2 n3 e=>uX _ (s3.extBut _ _ n3 (s2.extBut _ _ n2 (s1.extBut _ _ n1 e)))
 have zz:ZN (h3.push {cls:=.type "tuple",data:=.seq #[x,y]}) z TI TO (rawInt T) true:=uX _ (s3.extBut _ _ D.i2z.symm (s2.extBut _ _ D.i1z.symm z1))
 refine uW ⟨_,rfl,?_⟩;show Q (.ref h3.objs.size) _
 have tp:IsPair (h3.push {cls:=.type "tuple",data:=.seq #[x,y]}) h3.objs.size x y:=uZ _ rfl
 rw[size] at tp ⊢
 refine q _ ⟨⟨_,_,zz,.inr ⟨_,rfl⟩⟩,ke _ _ D.TIz D.TIi1 D.TIi2 hI,⟨_,_,ke _ _ D.TOz D.TOi1 D.TOi2 hO⟩,?_,?_⟩ tp (by rw[Heap.size_push,size]) fun c o n1 _ n3 n4 e=>ke c o n1 n3 n4 e
 ·exact (j12.extBut s3.extBut D.i12).at fun o e=>uX _ e
 ·exact j23.at fun o e=>uX _ e
theorem ZS.ty{s:Shared}{z TI TO i1 i2 l1 l2:Addr}{k:Nat}(Z:ZS s.heap z TI TO i1 i2 l1 l2 k):s.TypeIs (.ref z) "zip":=by
 obtain⟨_,_,h,_⟩:=Z.zip
 exact⟨_,h,rfl⟩
theorem zlY{z TI TO i1 i2 l1 l2:Addr}{k:Nat}{xs ys:Array Value}{x y:Value}{Q:Value->Shared->Prop}(D:ZipApart z TI TO i1 i2 l1 l2)(Z:ZS s.heap z TI TO i1 i2 l1 l2 k)(L1:s.heap.IsList l1 xs)(L2:s.heap.IsList l2 ys)(e1:xs[k]?=some x)(e2:ys[k]?=some y)
  (q:∀h',ZS h' z TI TO i1 i2 l1 l2 (k+1)->IsPair h' s.heap.objs.size x y->h'.objs.size=s.heap.objs.size+1->(∀c o,c≠z->c≠TO->c≠i1->c≠i2->s.heap.get? c=some o->h'.get? c=some o)->Q (.ref s.heap.objs.size) {s with heap:=h'}):
  wpAny (model prog w) A (Builtin.SmallTypes.nextOf (.ref z)) Q E s:=by
 have ty:=Z.ty
 obtain⟨⟨f0,f,hz,hf⟩,hI,⟨a,b,hO⟩,j1,j2⟩:=Z
 unfold Builtin.SmallTypes.nextOf
 refine uV (wpAny_callSpecial?_slot (name:=uU "__next__") ty F.slot_zip_next (wpAny_call_entry F.slot_zip_next ty F.entry_zip_next ?_ (F.args_zip_next_1 _)))
 rcases hf with rfl|⟨T,rfl⟩
 ·exact ziU D hz (fun q=>ze9 hz q) hI hO j1 j2 L1 L2 e1 e2 fun h' a1 a2 a3 a4=>uW (q h' a1 a2 a3 a4)
 ·cases hT:s.heap.get? T with
  |none=>exact ziU D hz (fun q=>ze8 hz hT q) hI hO j1 j2 L1 L2 e1 e2 fun h' a1 a2 a3 a4=>uW (q h' a1 a2 a3 a4)
  |some ot=>exact zlX D hz hT hI hO j1 j2 L1 L2 e1 e2 fun h' a1 a2 a3 a4=>uW (q h' a1 a2 a3 a4)
theorem zk4{f0:Value}{f:Bool}{z TI TO i1 i2 l1 l2:Addr}{k:Nat}{xs ys:Array Value}{a b:Value}{Q:Fin->Shared->Prop}(hh:A.handled=none)(D:ZipApart z TI TO i1 i2 l1 l2)(hz:ZN s.heap z TI TO f0 f)
  (hfr:∀{Q:Bool->Shared->Prop}{E:Value->Shared->Prop},Q true s->wpAny (model prog w) A (Builtin.SmallTypes.ownedTupleIsFree (.ref z)) Q E s)
  (hI:IsPair s.heap TI (.ref i1) (.ref i2)) (hO:IsPair s.heap TO a b) (j1:s.heap.IsListIter i1 l1 k) (j2:s.heap.IsListIter i2 l2 k) (L1:s.heap.IsList l1 xs) (L2:s.heap.IsList l2 ys) (he:xs[k]?=none\/ys[k]?=none)
  (q:∀h' e,(∀c o,c≠z->c≠TO->c≠i1->c≠i2->s.heap.get? c=some o->h'.get? c=some o)->(∃o,h'.get? e=some o/\o.cls=.type "StopIteration")->E (.ref e) {s with heap:=h'}):
  wpAny (model prog w) A (Builtin.«zip.__next__» ⟨[.ref z],[]⟩) Q E s:=by
 show wpAny _ _ (field (.ref z) 2>>=_) _ _ _;refine uV (wpAny_field hz rfl (x:=.bool false) rfl ?_)
 show wpAny _ _ (field (.ref z) 3>>=_) _ _ _;refine uV (wpAny_field hz rfl (x:=.ref TI) rfl ?_)
 refine uV (wpAny_seqItems hI rfl ?_);show wpAny _ _ (Builtin.SmallTypes.ownedTupleIsFree (.ref z)>>=_) _ _ _
 refine uV (hfr ?_);simp only[if_true];refine uV (wpAny_rule ?_)
 refine uV (wpAny_field hz rfl (x:=.ref TO) rfl ?_);refine uV (wpAny_setField_rec hz (by simp) fun ha za sa=>?_)
 have za':ZN ha z TI TO .ellipsis f:=za
 refine uV ?_;simp only[List.zipIdx_cons,List.zipIdx_nil,wE,wM]
 refine uV (uV (wpAny_onRaise ?_));show wpAny _ _ (Builtin.SmallTypes.nextOf (.ref i1)>>=_) _ _ _
 cases hx:xs[k]? with
 |none=>
  refine uV (wpAny_nextOf_list_end hh (j1.extBut sa.extBut D.i1z) (L1.extBut sa.extBut D.l1z) hx fun hb e sb ee=>?_)
  obtain⟨oe,ge,ce⟩:=ee
  have zb:ZN hb z TI TO .ellipsis f:=sb _ _ D.i1z.symm za'
  have ne:e≠z:=fun x=>by subst x;rw[zb] at ge;cases ge;simp at ce
  exact wpAny_setField_rec zb (by simp) fun hc _ sc=>q hc e (fun c o c1 _ c3 _ x=>sc.extBut _ _ c1 (sb _ _ c3 (sa.extBut _ _ c1 x))) ⟨oe,sc.extBut _ _ ne ge,ce⟩
 |some x=>
  have hy:ys[k]?=none:=by rcases he with h|h;rw[hx] at h;cases h;exact h
  refine uV (wpAny_nextOf_list_item (j1.extBut sa.extBut D.i1z) (L1.extBut sa.extBut D.l1z) hx fun hb jb sb=>uW ?_)
  have ob:IsPair hb TO a b:=sb.extBut _ _ D.TOi1 (sa.extBut _ _ D.TOz hO)
  refine uV (wpAny_seqItems ob rfl ?_);refine uV (wpAny_updateSeq_pair ob fun hc oc sc=>?_)
  refine uV (wpAny_letGo (uW ?_));refine uV (uV (wpAny_onRaise ?_));show wpAny _ _ (Builtin.SmallTypes.nextOf (.ref i2)>>=_) _ _ _
  refine uV (wpAny_nextOf_list_end hh (((j2.extBut sa.extBut D.i2z).extBut sb.extBut D.i12.symm).extBut sc.extBut D.TOi2.symm) (((L2.extBut sa.extBut D.l2z).extBut sb.extBut D.l2i1).extBut sc.extBut D.l2TO) hy fun hd e sd ee=>?_)
  obtain⟨oe,ge,ce⟩:=ee
  have zd:ZN hd z TI TO .ellipsis f:=sd _ _ D.i2z.symm (sc.extBut _ _ D.TOz.symm (sb.extBut _ _ D.i1z.symm za'))
  have ne:e≠z:=fun x=>by subst x;rw[zd] at ge;cases ge;simp at ce
  exact wpAny_setField_rec zd (by simp) fun hg _ sg=>q hg e (fun c o c1 c2 c3 c4 x=>sg.extBut _ _ c1 (sd _ _ c4 (sc.extBut _ _ c2 (sb.extBut _ _ c3 (sa.extBut _ _ c1 x))))) ⟨oe,sg.extBut _ _ ne ge,ce⟩
theorem znd{f:Bool}{z TI TO i1 i2 l1 l2 T:Addr}{ot:Obj}{k:Nat}{xs ys:Array Value}{a b:Value}{Q:Fin->Shared->Prop}(hh:A.handled=none)(D:ZipApart z TI TO i1 i2 l1 l2)(hz:ZN s.heap z TI TO (rawInt T) f)(hT:s.heap.get? T=some ot)
  (hI:IsPair s.heap TI (.ref i1) (.ref i2)) (hO:IsPair s.heap TO a b) (j1:s.heap.IsListIter i1 l1 k) (j2:s.heap.IsListIter i2 l2 k) (L1:s.heap.IsList l1 xs) (L2:s.heap.IsList l2 ys) (he:xs[k]?=none\/ys[k]?=none)
  (q:∀h' e,(∀c o,c≠z->c≠TO->c≠i1->c≠i2->s.heap.get? c=some o->h'.get? c=some o)->(∃o,h'.get? e=some o/\o.cls=.type "StopIteration")->E (.ref e) {s with heap:=h'}):
  wpAny (model prog w) A (Builtin.«zip.__next__» ⟨[.ref z],[]⟩) Q E s:=by
 show wpAny _ _ (field (.ref z) 2>>=_) _ _ _;refine uV (wpAny_field hz rfl (x:=.bool false) rfl ?_)
 show wpAny _ _ (field (.ref z) 3>>=_) _ _ _;refine uV (wpAny_field hz rfl (x:=.ref TI) rfl ?_)
 refine uV (wpAny_seqItems hI rfl ?_);show wpAny _ _ (Builtin.SmallTypes.ownedTupleIsFree (.ref z)>>=_) _ _ _
 refine uV (zco hz hT fun h1 z1 s1=>?_);simp only[xC,if_false];refine uV ?_
 simp only[wW,wE,wM]
 refine uV (uV (wpAny_holding ?_));show wpAny _ _ (Builtin.SmallTypes.nextOf (.ref i1)>>=_) _ _ _
 cases hx:xs[k]? with
 |none=>exact uV (wpAny_nextOf_list_end hh (j1.extBut s1.extBut D.i1z) (L1.extBut s1.extBut D.l1z) hx fun h2 e s2 ee=>q h2 e (fun c o n1 _ n3 _ e=>s2 _ _ n3 (s1.extBut _ _ n1 e)) ee)
 |some x=>
  have hy:ys[k]?=none:=by rcases he with h|h;rw[hx] at h;cases h;exact h
  refine uV (wpAny_nextOf_list_item (j1.extBut s1.extBut D.i1z) (L1.extBut s1.extBut D.l1z) hx fun h2 j12 s2=>uW ?_);refine uW ?_
  refine uV (uV (wpAny_holding ?_));show wpAny _ _ (Builtin.SmallTypes.nextOf (.ref i2)>>=_) _ _ _
  exact uV (wpAny_nextOf_list_end hh ((j2.extBut s1.extBut D.i2z).extBut s2.extBut D.i12.symm) ((L2.extBut s1.extBut D.l2z).extBut s2.extBut D.l2i1) hy fun h3 e s3 ee=>q h3 e (fun c o n1 _ n3 n4 e=>s3 _ _ n4 (s2.extBut _ _ n3 (s1.extBut _ _ n1 e))) ee)
theorem zne{z TI TO i1 i2 l1 l2:Addr}{k:Nat}{xs ys:Array Value}{Q:Value->Shared->Prop}(hh:A.handled=none)(D:ZipApart z TI TO i1 i2 l1 l2)(Z:ZS s.heap z TI TO i1 i2 l1 l2 k)(L1:s.heap.IsList l1 xs)(L2:s.heap.IsList l2 ys)(he:xs[k]?=none\/ys[k]?=none)
  (q:∀h' e,(∀c o,c≠z->c≠TO->c≠i1->c≠i2->s.heap.get? c=some o->h'.get? c=some o)->(∃o,h'.get? e=some o/\o.cls=.type "StopIteration")->E (.ref e) {s with heap:=h'}):
  wpAny (model prog w) A (Builtin.SmallTypes.nextOf (.ref z)) Q E s:=by
 have ty:=Z.ty
 obtain⟨⟨f0,f,hz,hf⟩,hI,⟨a,b,hO⟩,j1,j2⟩:=Z
 unfold Builtin.SmallTypes.nextOf
 refine uV (wpAny_callSpecial?_slot (name:=uU "__next__") ty F.slot_zip_next (wpAny_call_entry F.slot_zip_next ty F.entry_zip_next ?_ (F.args_zip_next_1 _)))
 rcases hf with rfl|⟨T,rfl⟩
 ·exact zk4 hh D hz (fun q=>ze9 hz q) hI hO j1 j2 L1 L2 he q
 ·cases hT:s.heap.get? T with
  |none=>exact zk4 hh D hz (fun q=>ze8 hz hT q) hI hO j1 j2 L1 L2 he q
  |some ot=>exact znd hh D hz hT hI hO j1 j2 L1 L2 he q
end
theorem zdm(z TI TO:Addr)(f0:Value):Meets (Builtin.«enumerate.__new__» ⟨[.type "enumerate",.ref z],[]⟩) (fun _ R s=>IsZip s.heap z TI TO f0 /\
   R (.ok (.ret (.ref s.heap.objs.size))) {s with heap:=s.heap.push {cls:=.type "enumerate",data:=.fields #[.none,.bool false,.ref z,rawInt 0,.none,.none]}}):=
 .of_wp fun prog w A R s h=>by
  obtain⟨hp,g,d,tk,os⟩:=s;obtain⟨hl,h⟩:=h
  have hsub:=sub_enumerate
  wp_walk using AutoSeq1.wpAny_loadPart' hl
  refine wpAny_stack_any fun st=>uW ?_
  split
  ·rename_i c _ _ _ _ _
   cases (c==Value.type "enumerate")
   ·wp_walk using AutoSeq1.wpAny_loadPart' hl,wpAny_pyIter_zip hl
    exact⟨_,rfl,h⟩
   ·wp_walk using AutoSeq1.wpAny_loadPart' hl,wpAny_pyIter_zip hl
    exact⟨_,rfl,h⟩
  ·wp_walk using AutoSeq1.wpAny_loadPart' hl,wpAny_pyIter_zip hl
   exact⟨_,rfl,h⟩
section
variable{prog:Program}{w:World}{A:Around}{E:Value->Shared->Prop}{s:Shared}
theorem zeb{z TI TO:Addr}{f0:Value}{Q:Value->Shared->Prop}(hz:IsZip s.heap z TI TO f0)
  (h:∀h',IsEnum h' s.heap.objs.size z 0 .none->h'.objs.size=s.heap.objs.size+1->(∀b o,s.heap.get? b=some o->h'.get? b=some o)->Q (.ref s.heap.objs.size) {s with heap:=h'}):
  wpAny (model prog w) A (call (.type "enumerate") [.ref z]) Q E s:=by
 refine callType_new F.called_enumerate (by decide) (F.typeCall_enumerate_1 _) (F.newCall_enumerate_1 _) (fun obj=>F.args_object_init_2 obj _) F.entry_enumerate_new (zdm z TI TO f0) ⟨hz,?_⟩
 show _/\_
 have he:IsEnum (s.heap.push {cls:=.type "enumerate",data:=.fields #[.none,.bool false,.ref z,rawInt 0,.none,.none]}) s.heap.objs.size z 0 .none:=uZ _ rfl
 exact⟨⟨_,he,rfl⟩,h _ he (Heap.size_push ..) fun b o x=>uX _ x⟩
theorem zj6{e z TI TO i1 i2 l1 l2:Addr}{i:Nat}{xs ys:Array Value}{x y old:Value}{Q:Value->Shared->Prop}(D:ZipApart z TI TO i1 i2 l1 l2)(ne:∀c∈[z,TI,TO,i1,i2,l1,l2],e≠c)(he:IsEnum s.heap e z i old)(Z:ZS s.heap z TI TO i1 i2 l1 l2 i)
  (L1:s.heap.IsList l1 xs) (L2:s.heap.IsList l2 ys) (e1:xs[i]?=some x) (e2:ys[i]?=some y)
  (q:∀h' tk,IsEnumOut h' e z ((i:Int)+1) (.ref s.heap.objs.size) (s.heap.objs.size+1)->ZS h' z TI TO i1 i2 l1 l2 (i+1)->IsPair h' s.heap.objs.size x y->
   h'.get? (s.heap.objs.size+1)=some {cls:=.type "tuple",data:=.seq #[.int i tk,.ref s.heap.objs.size]}->
   (∀c o,c≠e->c≠z->c≠TO->c≠i1->c≠i2->s.heap.get? c=some o->h'.get? c=some o)->Q (.ref (s.heap.objs.size+1)) {s with heap:=h',toks:=tk+1}):
  wpAny (model prog w) A (Builtin.«enumerate.__next__» ⟨[.ref e],[]⟩) (fun fin s'=>∃v,fin=.done (.ret v)/\Q v s') E s:=by
 obtain⟨hp,g,d,tk,os⟩:=s
 have nz:e≠z:=ne z (by simp)
 have nTI:e≠TI:=ne TI (by simp)
 have nTO:e≠TO:=ne TO (by simp)
 have n1:e≠i1:=ne i1 (by simp)
 have n2:e≠i2:=ne i2 (by simp)
 have elt:e<hp.objs.size:=uY he
 have zkeep:∀{h h':Heap}{k:Nat},(∀c o,c≠e->h.get? c=some o->h'.get? c=some o)->ZS h z TI TO i1 i2 l1 l2 k->ZS h' z TI TO i1 i2 l1 l2 k:=fun kk Z=>by
  obtain⟨⟨f0,f,a1,a2⟩,b,⟨c,c',d⟩,j1,j2⟩:=Z
  exact⟨⟨f0,f,kk _ _ nz.symm a1,a2⟩,kk _ _ nTI.symm b,⟨c,c',kk _ _ nTO.symm d⟩,j1.at fun o q=>kk _ o n1.symm q,j2.at fun o q=>kk _ o n2.symm q⟩
 show wpAny _ _ (field (.ref e) 2>>=_) _ _ _;refine uV (wpAny_field he rfl (x:=.ref z) rfl ?_)
 refine uV (zlY D Z L1 L2 e1 e2 fun ha Za Ta sa ka=>?_)
 have Ta:IsPair ha hp.objs.size x y:=Ta
 have sa:ha.objs.size=hp.objs.size+1:=sa
 have ka:∀c o,c≠z->c≠TO->c≠i1->c≠i2->hp.get? c=some o->ha.get? c=some o:=ka
 have ea:IsEnum ha e z i old:=ka _ _ nz nTO n1 n2 he
 show wpAny _ _ (field (.ref e) 3>>=_) _ _ ⟨ha,g,d,tk,os⟩;refine uV (wpAny_field ea rfl (x:=rawInt i) rfl ?_)
 show wpAny _ _ (field (.ref e) 4>>=_) _ _ ⟨ha,g,d,tk,os⟩;refine uV (wpAny_field ea rfl (x:=.none) rfl ?_)
 show wpAny _ _ (mkInt i>>=_) _ _ ⟨ha,g,d,tk,os⟩;refine uV (wpAny_mkInt ?_)
 show wpAny _ _ (setField (.ref e) 3 (rawInt ((i:Int)+1))>>=_) _ _ ⟨ha,g,d,tk+1,os⟩;refine uV (wpAny_setField_rec ea (by simp) fun hb eb sb=>?_)
 have sb:Heap.SameBut e ha hb:=sb
 have eb:IsEnum hb e z ((i:Int)+1) old:=eb
 show wpAny _ _ (setField (.ref e) 4 .none>>=_) _ _ ⟨hb,g,d,tk+1,os⟩;refine uV (wpAny_setField_rec eb (by simp) fun hc ec sc=>?_)
 have sc:Heap.SameBut e hb hc:=sc
 have ec:IsEnum hc e z ((i:Int)+1) old:=ec
 show wpAny _ _ (newTuple [.int i tk,.ref hp.objs.size]>>=_) _ _ ⟨hc,g,d,tk+1,os⟩;refine uV (wpAny_newTuple ?_)
 have szc:hc.objs.size=hp.objs.size+1:=by rw[sc.1,sb.1,sa]
 have ed:IsEnum (hc.push {cls:=.type "tuple",data:=.seq #[.int i tk,.ref hp.objs.size]}) e z ((i:Int)+1) old:=uX _ ec
 have td:(hc.push {cls:=.type "tuple",data:=.seq #[.int i tk,.ref hp.objs.size]}).get? (hp.objs.size+1)=some {cls:=.type "tuple",data:=.seq #[.int i tk,.ref hp.objs.size]}:=by rw[←szc];exact uZ _ rfl
 have kd:∀c o,c≠e->ha.get? c=some o->(hc.push {cls:=.type "tuple",data:=.seq #[.int i tk,.ref hp.objs.size]}).get? c=some o:=fun c o n x=>uX _ (sc.extBut _ _ n (sb.extBut _ _ n x))
 generalize hc.push {cls:=.type "tuple",data:=.seq #[.int i tk,.ref hp.objs.size]}=hd at ed td kd
 show wpAny _ _ (Builtin.SmallTypes.ownedTupleIsFree (.ref e)>>=_) _ _ ⟨hd,g,d,tk+1,os⟩
 rw[szc]
 refine uV ?_;unfold Builtin.SmallTypes.ownedTupleIsFree
 refine uV (wpAny_field ed rfl (x:=.none) rfl (uW ?_));simp only[if_true];refine uV (wpAny_rule ?_)
 refine uV (wpAny_field ed rfl (x:=old) rfl ?_);refine uV (wpAny_setField_rec ed (by simp) fun hE eE sE=>?_)
 have sE:Heap.SameBut e hd hE:=sE
 have eE:IsEnum hE e z ((i:Int)+1) (.ref hp.objs.size):=eE
 show wpAny _ _ (Builtin.SmallTypes.ownedTupleHandOut (.ref e) (.ref (hp.objs.size+1))>>=_) _ _ ⟨hE,g,d,tk+1,os⟩
 refine uV ?_;unfold Builtin.SmallTypes.ownedTupleHandOut
 refine uV (wpAny_setField_rec eE (by simp) fun hF eF sF=>?_)
 have sF:Heap.SameBut e hE hF:=sF
 have eF:IsEnumOut hF e z ((i:Int)+1) (.ref hp.objs.size) (hp.objs.size+1):=eF
 refine wpAny_setField_rec eF (by simp) fun hG eG sG=>?_
 have sG:Heap.SameBut e hF hG:=sG
 have eG:IsEnumOut hG e z ((i:Int)+1) (.ref hp.objs.size) (hp.objs.size+1):=eG
 have up:∀c o,c≠e->hd.get? c=some o->hG.get? c=some o:=fun c o n x=>sG.extBut _ _ n (sF.extBut _ _ n (sE.extBut _ _ n x))
 refine uV (wpAny_letGo (uW ⟨_,rfl,q hG tk eG (zkeep (fun c o n x=>up c o n (kd c o n x)) Za) (up _ _ (xE elt) (kd _ _ (xE elt) Ta)) (up _ _ (xE (wI elt)) td) fun c o c0 c1 c2 c3 c4 x=>up c o c0 (kd c o c0 (ka c o c1 c2 c3 c4 x))⟩))
theorem zj7{e z TI TO i1 i2 l1 l2:Addr}{i:Nat}{xs ys:Array Value}{x y old:Value}{Q:Option Value->Shared->Prop}(D:ZipApart z TI TO i1 i2 l1 l2)(ne:∀c∈[z,TI,TO,i1,i2,l1,l2],e≠c)(he:IsEnum s.heap e z i old)(Z:ZS s.heap z TI TO i1 i2 l1 l2 i)
  (L1:s.heap.IsList l1 xs) (L2:s.heap.IsList l2 ys) (e1:xs[i]?=some x) (e2:ys[i]?=some y)
  (q:∀h' tk,IsEnumOut h' e z ((i:Int)+1) (.ref s.heap.objs.size) (s.heap.objs.size+1)->ZS h' z TI TO i1 i2 l1 l2 (i+1)->IsPair h' s.heap.objs.size x y->
   h'.get? (s.heap.objs.size+1)=some {cls:=.type "tuple",data:=.seq #[.int i tk,.ref s.heap.objs.size]}->
   (∀c o,c≠e->c≠z->c≠TO->c≠i1->c≠i2->s.heap.get? c=some o->h'.get? c=some o)->Q (some (.ref (s.heap.objs.size+1))) {s with heap:=h',toks:=tk+1}):
  wpAny (model prog w) A (pyNext (.ref e)) Q E s:=by
 have hT:s.TypeIs (.ref e) "enumerate":=⟨_,he,rfl⟩
 unfold pyNext
 exact uV (wpAny_attempt (wpAny_callSpecial?_slot (name:=uU "__next__") hT F.slot_enumerate_next (wpAny_call_entry F.slot_enumerate_next hT F.entry_enumerate_next (zj6 D ne he Z L1 L2 e1 e2 fun h' tk a b c d k=>uW (q h' tk a b c d k)) (F.args_enumerate_next_1 _))))
theorem zlZ{e z TI TO i1 i2 l1 l2:Addr}{i:Nat}{xs ys:Array Value}{old:Value}{Q:Option Value->Shared->Prop}(hh:A.handled=none)(D:ZipApart z TI TO i1 i2 l1 l2)(he:IsEnum s.heap e z i old)(Z:ZS s.heap z TI TO i1 i2 l1 l2 i)
  (L1:s.heap.IsList l1 xs) (L2:s.heap.IsList l2 ys) (hn:xs[i]?=none\/ys[i]?=none)
  (q:∀h',(∀c o,c≠z->c≠TO->c≠i1->c≠i2->s.heap.get? c=some o->h'.get? c=some o)->Q none {s with heap:=h'}):wpAny (model prog w) A (pyNext (.ref e)) Q E s:=by
 have hT:s.TypeIs (.ref e) "enumerate":=⟨_,he,rfl⟩
 unfold pyNext
 refine uV (wpAny_attempt (wpAny_callSpecial?_slot (name:=uU "__next__") hT F.slot_enumerate_next (wpAny_call_entry F.slot_enumerate_next hT F.entry_enumerate_next ?_ (F.args_enumerate_next_1 _))))
 show wpAny _ _ (field (.ref e) 2>>=_) _ _ _;refine uV (wpAny_field he rfl (x:=.ref z) rfl ?_)
 refine uV (zne (by simpa using hh) D Z L1 L2 hn fun h' x k ex=>?_)
 obtain⟨o,ho,hc⟩:=ex
 exact uV (wpAny_isInstance (T:="StopIteration") (b:=true) ⟨o,ho,hc⟩ isSubtype_stop (uW (q _ k)))
end
def Itez(K:tP)(a b:Addr):It:=
 ⟨fun i H=>∃xs ys x y,SqL K H a xs/\SqL K H b ys/\xs[i]?=some x/\ys[i]?=some y,
  fun i H v H'=>∃(t u:Addr)(x y:V),H t=none/\H u=none/\t≠u/\v=.ref u/\(∀xs,SqL K H a xs->xs[i]?=some x)/\(∀ys,SqL K H b ys->ys[i]?=some y)/\H'=upd (upd H t (.tup [x,y])) u (.tup [.int i,.ref t]),
  fun i H=>∃xs ys,SqL K H a xs/\SqL K H b ys/\(xs.length<=i\/ys.length<=i)⟩
theorem zj8{P:Program}{w:World}{K:tP}{elts:List Expr}{kk:Nat}{pos:Pos}(a b e z TI TO i1 i2:Addr)(D:ZipApart z TI TO i1 i2 a b)(ne:∀c∈[z,TI,TO,i1,i2,a,b],e≠c):
  Turn P w K (.Tuple elts kk pos) (Itez K a b) [e,z,TI,TO,i1,i2] e (fun i h=>(∃old,IsEnum h e z i old)/\ZS h z TI TO i1 i2 a b i) where
 mem:=by simp
 obj:=fun i h st c hc=>by
  obtain⟨⟨old,he⟩,⟨f0,f,hz,_⟩,hI,⟨x,y,hO⟩,⟨o1,g1,_,d1⟩,⟨o2,g2,_,d2⟩⟩:=st
  have hc:c=e\/c=z\/c=TI\/c=TO\/c=i1\/c=i2:=by simpa using hc
  rcases hc with rfl|rfl|rfl|rfl|rfl|rfl
  ·exact⟨_,he,fun v z=>nomatch (show Data.fields _=Data.cell v from z)⟩
  ·exact⟨_,hz,fun v z=>nomatch (show Data.fields _=Data.cell v from z)⟩
  ·exact⟨_,hI,fun v z=>nomatch (show Data.seq _ _=Data.cell v from z)⟩
  ·exact⟨_,hO,fun v z=>nomatch (show Data.seq _ _=Data.cell v from z)⟩
  ·exact⟨_,g1,fun v z=>by rw[d1] at z;cases z⟩
  ·exact⟨_,g2,fun v z=>by rw[d2] at z;cases z⟩
 keep:=fun i h h' st kk=>by
  obtain⟨⟨old,he⟩,⟨f0,f,hz,hf⟩,hI,⟨x,y,hO⟩,j1,j2⟩:=st
  exact⟨⟨old,kk e (by simp) _ he⟩,⟨f0,f,kk z (by simp) _ hz,hf⟩,kk TI (by simp) _ hI,⟨x,y,kk TO (by simp) _ hO⟩,j1.at fun o q=>kk i1 (by simp) o q,j2.at fun o q=>kk i2 (by simp) o q⟩
 item:=by
  intro X hP hw hK hc i pins s σ H E I hf st hg
  subst hP hw hK
  obtain⟨⟨old,he⟩,Z⟩:=st
  obtain⟨xs,ys,x,y,hq1,hq2,hx,hy⟩:=hg
  obtain⟨as,ra,pa,_⟩:=I.list hq1
  obtain⟨bs,rb,pb,_⟩:=I.list hq2
  obtain⟨u,hu,ru⟩:=ra.get hx
  obtain⟨v,hv,rv⟩:=rb.get hy
  have nz:e≠z:=ne z (by simp)
  have nTI:e≠TI:=ne TI (by simp)
  have nTO:e≠TO:=ne TO (by simp)
  have n1:e≠i1:=ne i1 (by simp)
  have n2:e≠i2:=ne i2 (by simp)
  have old':∀c∈[e,z,TI,TO,i1,i2],c<s.heap.objs.size:=fun c hc=>by
   obtain⟨⟨f0,f,hz,_⟩,hI,⟨x,y,hO⟩,⟨o1,g1,_⟩,⟨o2,g2,_⟩⟩:=Z
   have hc:c=e\/c=z\/c=TI\/c=TO\/c=i1\/c=i2:=by simpa using hc
   rcases hc with rfl|rfl|rfl|rfl|rfl|rfl
   ·exact uY he
   ·exact uY hz
   ·exact uY hI
   ·exact uY hO
   ·exact uY g1
   ·exact uY g2
  have fr0:H s.heap.objs.size=none:=I.hok.fresh (yE _)
  have fr1:H (s.heap.objs.size+1)=none:=I.hok.fresh (vG _)
  refine zj7 D ne he Z pa.isList pb.isList (by simpa using hu) (by simpa using hv) fun h' tk ho Z' hp hT hk=>⟨_,rfl,wpAny_letOwnedTupleGo_enum ho fun h2 he2 hs2=>?_⟩
  have I1:Inv X pins σ (upd H s.heap.objs.size (.tup [x,y])) {s with heap:=s.heap.push {cls:=.type "tuple",data:=.seq #[u,v]},toks:=tk}:=
   I.laid (t':=tk) (fun b u e=>uX _ e) (yE _) ⟨zl2,[u,v],.cons ru (.cons rv .nil),⟨_,uZ _ rfl,rfl,_,rfl⟩⟩
  have I2:=I1.laid (t':=tk) (h':=(s.heap.push {cls:=.type "tuple",data:=.seq #[u,v]}).push {cls:=.type "tuple",data:=.seq #[.int i tk,.ref s.heap.objs.size]}) (o:=.tup [.int i,.ref s.heap.objs.size]) (a:=(s.heap.push {cls:=.type "tuple",data:=.seq #[u,v]}).objs.size) (fun b u e=>uX _ e) (yE _) ⟨zl2,[.int i tk,.ref s.heap.objs.size],.cons ⟨_,rfl⟩ (.cons rfl .nil),⟨_,uZ _ rfl,rfl,_,rfl⟩⟩
  have esz:(s.heap.push {cls:=.type "tuple",data:=.seq #[u,v]}).objs.size=s.heap.objs.size+1:=Heap.size_push ..
  rw[esz] at I2
  have nn:∀c∈[e,z,TI,TO,i1,i2],upd (upd H s.heap.objs.size (.tup [x,y])) (s.heap.objs.size+1) (.tup [.int i,.ref s.heap.objs.size]) c=none:=fun c hc=>by
   have:=old' c hc
   rw[zu (yW (wI this)),zu (yW this)]
   exact (hf c hc).1
  have I3:Inv X pins σ (upd (upd H s.heap.objs.size (.tup [x,y])) (s.heap.objs.size+1) (.tup [.int i,.ref s.heap.objs.size])) {s with heap:=h2,toks:=tk+1}:=by
   refine Inv.turnedL (s:={s with heap:=(s.heap.push {cls:=.type "tuple",data:=.seq #[u,v]}).push {cls:=.type "tuple",data:=.seq #[.int i tk,.ref s.heap.objs.size]},toks:=tk}) (h':=h2) (t':=tk+1) (fp:=[e,z,TI,TO,i1,i2]) I2 (fun c o hc ec=>?_) (fun c hc=>?_)
   ·have hce:c≠e:=fun z=>hc (by simp[z])
    refine (hs2.2 c hce).trans ?_
    have ec:((s.heap.push {cls:=.type "tuple",data:=.seq #[u,v]}).push {cls:=.type "tuple",data:=.seq #[.int i tk,.ref s.heap.objs.size]}).get? c=some o:=ec
    rcases Heap.get?_push_cases ec with⟨r,ro⟩|r
    ·rw[r,esz,ro]
     exact hT
    ·rcases Heap.get?_push_cases r with⟨r,ro⟩|r
     ·rw[r,ro]
      exact hp
     ·exact hk c o hce (fun z=>hc (by simp[z])) (fun z=>hc (by simp[z])) (fun z=>hc (by simp[z])) (fun z=>hc (by simp[z])) r
   ·obtain⟨f0,f1,f2,f3,f4,f5⟩:=hf c hc
    exact⟨nn c hc,f1,f2,f3,f4,f5⟩
  refine⟨.ref (s.heap.objs.size+1),_,I3,rfl,⟨s.heap.objs.size,s.heap.objs.size+1,x,y,fr0,fr1,(Nat.succ_ne_self _).symm,rfl,fun zs hz=>by rw[I.list_inj hz hq1];exact hx,fun zs hz=>by rw[I.list_inj hz hq2];exact hy,rfl⟩,⟨⟨_,by simpa using he2⟩,?_⟩,nn⟩
  obtain⟨⟨f0,f,a1,a2⟩,b,⟨c,c',d⟩,j1,j2⟩:=Z'
  have kk:∀c o,c≠e->h'.get? c=some o->h2.get? c=some o:=fun c o n q=>(hs2.2 c n).trans q
  exact⟨⟨f0,f,kk _ _ nz.symm a1,a2⟩,kk _ _ nTI.symm b,⟨c,c',kk _ _ nTO.symm d⟩,j1.at fun o q=>kk _ o n1.symm q,j2.at fun o q=>kk _ o n2.symm q⟩
 done:=by
  intro X hP hw hK hc i pins s σ H E I hf st hg
  subst hP hw hK
  obtain⟨⟨old,he⟩,Z⟩:=st
  obtain⟨xs,ys,hq1,hq2,hx⟩:=hg
  obtain⟨as,ra,pa,_⟩:=I.list hq1
  obtain⟨bs,rb,pb,_⟩:=I.list hq2
  have l1:=ra.length
  have l2:=rb.length
  refine zlZ (I.ok.hd hc) D he Z pa.isList pb.isList ?_ fun h' k=>⟨rfl,?_⟩
  ·rcases hx with h|h
   ·exact .inl (by simp;lia)
   ·exact .inr (by simp;lia)
  ·exact I.turnedL (t':=s.toks) (fp:=[e,z,TI,TO,i1,i2]) (fun c o hc ec=>k c o (fun z=>hc (by simp[z])) (fun z=>hc (by simp[z])) (fun z=>hc (by simp[z])) (fun z=>hc (by simp[z])) ec) hf
 self:=fun _ _ _ _ _ st h=>by
  obtain⟨⟨old,he⟩,_⟩:=st
  exact wpAny_pyIter_enum he h
def iEnZ(K:tP)(ta:TA):TI:=fun σ H R=>ta σ H fun vs H1=>∃(a b:Addr)(xs ys:List V),vs=[.ref a,.ref b]/\SqL K H1 a xs/\SqL K H1 b ys/\R (Itez K a b) H1
theorem ziV{X:Cx}{elts:List Expr}{k:Nat}{ps:Pos}{a b:Expr}{ta:TA}{p p2 pos pos2:Pos}(hg:Gl X "zip")(hm:X.mg "zip"=none)(hgt:Gl X "enumerate")(hmt:X.mg "enumerate"=none)(ha:PA X [a,b] ta)(hs:tI [a,b] X.env=(false,eval a X.env)::tI [b] X.env:=by rfl)
  (hpl:(backTo pos2 (tI [b] X.env)).any (·.1)=false:=by rfl) (hs2:tI [.Call (.Name "zip" p2) [a,b] [] pos2] X.env=(false,eval (.Call (.Name "zip" p2) [a,b] [] pos2) X.env)::tI [] X.env:=by rfl) (hpl2:(backTo pos (tI [] X.env)).any (·.1)=false:=by rfl):
  PI X (.Tuple elts k ps) (.Call (.Name "enumerate" p) [.Call (.Name "zip" p2) [a,b] [] pos2] [] pos) (iEnZ X.K ta):=by
 intro pins s σ H R I h
 refine wpAny_Call_Name_kw (zbu I hgt hmt ze4 (PyProof.Rows.callWith_type1 ?_ hs2 hpl2))
 rw[hs2]
 show wpAny _ _ (spliced ((false,eval (.Call (.Name "zip" p2) [a,b] [] pos2) X.env)::backTo pos (tI [] X.env))) _ _ s
 refine Calls.spliced_cons ?_
 refine wpAny_Call_Name_kw (zbu I hg hm zgG (PyProof.Rows.callWith_type1 (thn (ha pos2 pins s σ H _ I h) fun us s1 ⟨vs,H1,I1,r1,q1⟩=>?_) hs hpl))
 obtain⟨c,d,xs,ys,e,q2,q3,q⟩:=q1
 subst e
 obtain⟨u,u',rfl,rx,ry⟩:=zhb r1
 cases rx
 cases ry
 obtain⟨as,r2,p1,hz1⟩:=I1.list q2
 obtain⟨bs,r3,p2,hz2⟩:=I1.list q3
 obtain⟨oc,_,gc,_⟩:=id p1
 obtain⟨od,_,gd,_⟩:=id p2
 have lc:=uY gc
 have ld:=uY gd
 refine call_zip_2 p1.isList p2.isList fun h' z1 z2 z3 z4 z5 z6 hk=>?_
 refine Calls.spliced_nil ?_
 refine zeb (s:={s1 with heap:=h'}) z1 fun h2 he hsz hk2=>?_
 have he:IsEnum h2 h'.objs.size (s1.heap.objs.size+4) 0 .none:=he
 have hk2:∀b o,h'.get? b=some o->h2.get? b=some o:=hk2
 have I2:Inv X pins σ H1 {s1 with heap:=h2,toks:=s1.toks}:=I1.kept (t':=s1.toks) fun b o e=>hk2 b o (hk b o e)
 refine wpAny_pyIter_enum he ?_
 have fp:∀c∈[h'.objs.size,s1.heap.objs.size+4,s1.heap.objs.size+2,s1.heap.objs.size+3,s1.heap.objs.size,s1.heap.objs.size+1],FpOk X pins H1 c:=fun e he=>by
  have hle:s1.heap.objs.size<=e:=by
   have hc:e=h'.objs.size\/e=s1.heap.objs.size+4\/e=s1.heap.objs.size+2\/e=s1.heap.objs.size+3\/e=s1.heap.objs.size\/e=s1.heap.objs.size+1:=by simpa using he
   rcases hc with r|r|r|r|r|r<;>rw[r]<;>first|exact yE _|exact wO _ _|(rw[z6];exact wO _ _)
  exact I1.fpOk hle (I1.hok.fresh hle)
 refine⟨h'.objs.size,[h'.objs.size,s1.heap.objs.size+4,s1.heap.objs.size+2,s1.heap.objs.size+3,s1.heap.objs.size,s1.heap.objs.size+1],_,_,H1,rfl,I2,zj8 c d _ _ _ _ _ _ (zipApart_new lc ld) (fun x hx=>?_),⟨⟨_,he⟩,⟨_,_,hk2 _ _ z1,.inl rfl⟩,hk2 _ _ z2,⟨_,_,hk2 _ _ z3⟩,z4.at fun o q=>hk2 _ o q,z5.at fun o q=>hk2 _ o q⟩,fp,q⟩
 have hc:x=s1.heap.objs.size+4\/x=s1.heap.objs.size+2\/x=s1.heap.objs.size+3\/x=s1.heap.objs.size\/x=s1.heap.objs.size+1\/x=c\/x=d:=by simpa using hx
 rw[z6]
 rcases hc with r|r|r|r|r|r|r<;>rw[r]
 ·exact xE (wU (by decide) _)
 ·exact xE (wU (by decide) _)
 ·exact xE (wU (by decide) _)
 ·exact xE (Nat.lt_add_of_pos_right (by decide))
 ·exact xE (wU (by decide) _)
 ·exact xE (yO lc (wO _ _))
 ·exact xE (yO ld (wO _ _))
theorem zl6{K:tP}{a b:Addr}{xs ys:List V}{g:TG}{tb:TS}{D:Ends}{σ:St}{H:Hp}(Pv:Nat->St->Hp->Prop)(h0:Pv 0 σ H)(hl:∀i σ H,i<=min xs.length ys.length->Pv i σ H->SqL K H a xs/\SqL K H b ys)
  (hs:∀i x y t u σ H,xs[i]?=some x->ys[i]?=some y->H t=none->H u=none->t≠u->Pv i σ H->g (.ref u) σ (upd (upd H t (.tup [x,y])) u (.tup [.int i,.ref t])) fun σ2 H2=>tb {D with nx:=Pv (i+1),ct:=Pv (i+1),bk:=D.nx} σ2 H2) (hd:∀σ H,Pv (min xs.length ys.length) σ H->D.nx σ H):
  ∃W:Nat->Nat->St->Hp->Prop,(∃m,W 0 m σ H)/\∀i m σ H,W i m σ H->
   ((Itez K a b).stop i H/\D.nx σ H)\/((Itez K a b).go i H/\∃N:St->Hp->Prop,(∀σ' H',N σ' H'->∃m',m'<m/\W (i+1) m' σ' H')/\∀x H',(Itez K a b).yld i H x H'->g x σ H' fun σ2 H2=>tb {D with nx:=N,ct:=N,bk:=D.nx} σ2 H2):=by
 refine⟨fun i m σ H=>m=min xs.length ys.length-i/\i<=min xs.length ys.length/\Pv i σ H,⟨min xs.length ys.length,(Nat.sub_zero _).symm,yN _,h0⟩,?_⟩
 rintro i m σ H ⟨rfl,hi,p⟩
 obtain⟨q1,q2⟩:=hl i σ H hi p
 by_cases hlt:i<min xs.length ys.length
 ·have h1:i<xs.length:=by lia
  have h2:i<ys.length:=by lia
  refine .inr ⟨⟨xs,ys,xs[i],ys[i],q1,q2,by simp[h1],by simp[h2]⟩,Pv (i+1),fun σ' H' p'=>⟨min xs.length ys.length-(i+1),by lia,rfl,hlt,p'⟩,fun x H' y=>?_⟩
  obtain⟨t,u,x,y,ht,hu,ntu,rfl,hx,hy,rfl⟩:=y
  exact hs i x y t u σ H (hx xs q1) (hy ys q2) ht hu ntu p
 ·have e:i=min xs.length ys.length:=by lia
  subst e
  exact .inl ⟨⟨xs,ys,q1,q2,by lia⟩,hd σ H p⟩
end L2
namespace D
open PySem L2
theorem ziV{X:Cx}{elts:List Expr}{k:Nat}{ps:Pos}{a b:Expr}{ta:TA}{p p2 pos pos2:Pos}(hg:Gl X "zip")(hm:X.mg "zip"=none)(hgt:Gl X "enumerate")(hmt:X.mg "enumerate"=none)(ha:QA X [a,b] ta)(hs:tI [a,b] X.env=(false,eval a X.env)::tI [b] X.env:=by rfl)
  (hpl:(backTo pos2 (tI [b] X.env)).any (·.1)=false:=by rfl) (hs2:tI [.Call (.Name "zip" p2) [a,b] [] pos2] X.env=(false,eval (.Call (.Name "zip" p2) [a,b] [] pos2) X.env)::tI [] X.env:=by rfl) (hpl2:(backTo pos (tI [] X.env)).any (·.1)=false:=by rfl):
  QI X (.Tuple elts k ps) (.Call (.Name "enumerate" p) [.Call (.Name "zip" p2) [a,b] [] pos2] [] pos) (iEnZ X.K ta):=⟨L2.ziV hg hm hgt hmt ha.un hs hpl hs2 hpl2⟩
end D
namespace L2
open PySem PySem.Spec PyProof.Rows
structure FunD(K:tP)(x qual:Str)(st:Stmt)(dV:Value)(f:Addr)(fd:tQ):Prop where
 ex:∃(oc:Value)(od:Option Addr)(kV doc pm:Value)(an:Option Addr)(cdv ct:Value)(osl:Array (Option Value)),
  fd=fnOf x qual (zU st) (zS st) (zr st) dV kV doc pm an cdv ct/\K.lookup f=some ⟨oc,od,.func fd,osl⟩/\codeIn K cdv qual=true
section
variable{P:Program}{w:World}{K:tP}{mg:Str->Option Value}{base:Heap}
theorem FunD.okQ{x qual:Str}{st:Stmt}{dV:Value}{f:Addr}{fd:tQ}{N ps:List Str}{k:Nat}{sp:Sp}(F:FunD K x qual st dV f fd)(sc:FnScope N ps (zr st))(h1:∀(vs:List V) (H:Hp) (Q:VK) (E:XK),sp vs H Q E->vs.length=ps.length)
  (h2:∀(cdv:Value)(A:Around)(outer:List Env)(s:Shared)(H:Hp)(vs:List V)(Q:VK)(E:XK),Room k (A.deeper (PyProof.Rows.envOfC qual (zr st) s.heap.objs.size f cdv))->sp vs H Q E->
   ∃t:TS,QSs (cxOf CX0 P w K mg base N qual (zr st) f cdv A outer s H E).nox (zS st) t/\t {nx:=fun _ H'=>Q V.non H',rt:=Q} (L2.start N vs) H):FnOk P w K mg base CX0 (k+1) f fd ps sp:=by
 obtain⟨oc,od,kV,doc,pm,an,cdv,ct,osl,rfl,lk,hcd⟩:=F.ex
 refine zmH lk hcd sc h1 fun A outer s H vs Q E hr hsp=>?_
 obtain⟨t,h,q⟩:=h2 cdv A outer s H vs Q E hr hsp
 exact⟨t,h.un.nox,q⟩
theorem FunD.binds{x qual:Str}{st:Stmt}{T f:Addr}{fd:tQ}{ps:List Str}{ds:List Value}{o:Obj}{items:Array Value}{n:Nat}(F:FunD K x qual st (.ref T) f fd)(ho:K.lookup T=some o)(hs:o.data=.seq items n)
  (h:∀(kV doc pm:Value)(an:Option Addr)(cdv ct:Value)(us:List Value),(us++ds).length=ps.length->∃k:Option (Array Value)->Sem (List (Str×Value)),bindArgs (fnOf x qual (zU st) (zS st) (zr st) (.ref T) kV doc pm an cdv ct) ⟨us,[]⟩=seqItems? (fnOf x qual (zU st) (zS st) (zr st) (.ref T) kV doc pm an cdv ct).defaults>>=k/\k (some items)=pure (ps.zip (us++ds))):Binds K fd ps ds:=by
 obtain⟨oc,od,kV,doc,pm,an,cdv,ct,osl,rfl,lk,hcd⟩:=F.ex
 intro s us KX hl
 obtain⟨k,e1,e2⟩:=h kV doc pm an cdv ct us hl
 exact PySem.W.binds_K KX rfl ho hs e1 e2
theorem zl8{x qual:Str}{st:Stmt}{dV:Value}{f:Addr}{oc:Value}{od an:Option Addr}{osl:Array (Option Value)}{kV doc pm cdv ct:Value}(l:K.lookup f=some ⟨oc,od,.func (fnOf x qual (zU st) (zS st) (zr st) dV kV doc pm an cdv ct),osl⟩)
  (c:codeIn K cdv qual=true):FunD K x qual st dV f (fnOf x qual (zU st) (zS st) (zr st) dV kV doc pm an cdv ct):=⟨⟨oc,od,kV,doc,pm,an,cdv,ct,osl,rfl,l,c⟩⟩
end
def za2(P:Program)(w:World)(K:tP)(mg:Str->Option Value)(base:Heap)(C:Addr)(m:Str)(k:Nat)(ps:List Str)(sp:Sp):Prop:=
 ∃(f:Addr)(fd:tQ),FnOk P w K mg base CX0 k f fd ps sp/\Binds K fd ps []/\Binds K fd ps [.none]/\Meth K C m f/\Cls K C
theorem za2.mono{P:Program}{w:World}{K:tP}{mg:Str->Option Value}{base:Heap}{C:Addr}{m:Str}{j k:Nat}{ps:List Str}{sp:Sp}(h:za2 P w K mg base C m j ps sp)(e:j<=k):za2 P w K mg base C m k ps sp:=
 let ⟨f,fd,F,r⟩:=h;⟨f,fd,F.mono e,r⟩
theorem za2.up{P:Program}{w:World}{K:tP}{mg:Str->Option Value}{base:Heap}{j k:Nat}{ps:List Str}{sp:Sp}{C:Addr}{m:Str}(h:za2 P w K mg base C m j ps sp)(e:uT j k=true):za2 P w K mg base C m k ps sp:=h.mono (xY e)
end L2
namespace D
open PySem L2
section
variable{X:Cx}{C:Addr}{x m:Str}{k:Nat}{ps:List Str}{sp:Sp}{e o:Expr}{es:List Expr}{ta:TE}{t:TA}{p pos apos:Pos}
theorem znf(G:za2 X.prog X.w X.K X.mg X.base C m k ps sp)(hr:Room k X.A)(ho:QE X o ta)(ha:QA X (e::es) t){pl:Sem Bool}
  (hst:tI (e::es) X.env=(false,eval e X.env)::tI es X.env:=by rfl) (hpl:(backTo pos (tI es X.env)).any (·.1)=false:=by rfl)
  (ht:eval (.Call (.Attribute o m apos) (e::es) [] pos) X.env=(do
   let ov ←eval o X.env
   standAt apos.atName
   let (f,first) ←holding [ov] (getMethod ov m pl)
   callWith pos f first (backTo pos (tI (e::es) X.env)) (backToKw pos (keywordEach [] X.env))):=by rfl):
  QE X (.Call (.Attribute o m apos) (e::es) [] pos) (zeK C m sp [] E0 ta t):=by
 obtain⟨f,fd,F,b,_,mm,c⟩:=G
 exact⟨L2.zh8 ho.un c mm F hr b .nil zfL ha.un hst hpl ht⟩
theorem zk5(G:za2 X.prog X.w X.K X.mg X.base C m k ps sp)(hr:Room k X.A)(ho:QE X o ta){pl:Sem Bool}
  (ht:eval (.Call (.Attribute o m apos) [] [] pos) X.env=(do
   let ov ←eval o X.env
   standAt apos.atName
   let (f,first) ←holding [ov] (getMethod ov m pl)
   callWith pos f first (backTo pos (tI [] X.env)) (backToKw pos (keywordEach [] X.env))):=by rfl):
  QE X (.Call (.Attribute o m apos) [] [] pos) (zeK C m sp [.non] E0 ta tNil):=by
 obtain⟨f,fd,F,_,b,mm,c⟩:=G
 exact⟨L2.zgu ho.un c mm F hr b (.cons rfl .nil) zfL ht⟩
end
def zl9:V->List V->Hp->VK->Prop:=fun x vs H Q=>∃(l:Addr)(xs:List V)(y:V),x=.ref l/\vs=[.int 0,y]/\H l=some (.lst xs)/\xs.length<1000/\Q .non (upd H l (.lst (y::xs)))
theorem ziW{X:Cx}:MtM X "list.insert" zl9:=by
 intro pins s σ H x vs v us Q I rx rv h
 obtain⟨l,xs,y,rfl,rfl,hH,hz,q⟩:=h
 cases rx
 obtain⟨u0,u,rfl,⟨t,rfl⟩,ru⟩:=zhb rv
 obtain⟨z,its,n,r,hl,e⟩:=I.lstM hH
 refine call_meets F.slot_list_insert ⟨_,e,rfl⟩ F.entry_list_insert (F.args_list_insert_3 _ _ _) (AutoListH.list_insert_list_int_val_1 l its.toArray n 0 t u (by decide) (by rw[yG];exact yQ (wZ (by lia)) (show 1000<=tF by decide))) ⟨e,?_⟩
 refine⟨.non,_,I.lset (its':=u::its) hH e (by simp) (.cons ru r) ?_,rfl,q⟩
 exact yQ (by rw[yJ];lia) (show 1000<=tF by decide)
mutual
noncomputable def W.toD:W->PyData
 |.num i=>.int i
 |.txt x=>.str x
 |.lst ws=>.tuple (toDs ws)
noncomputable def toDs:List W->List PyData
 |[]=>[]
 |w::r=>w.toD::toDs r
end
theorem zec:∀ws:List W,toDs ws=ws.map W.toD
 |[]=>rfl
 |w::r=>by simp only[toDs,yX,zec r]
theorem RS.reads{X:Cx}{pins:List (Addr×Obj)}{σ:St}{H:Hp}{s:Shared}(I:Inv X pins σ H s){v:V}{w:W}(h:RS X.K H v w):∀{u:Value},RelV v u->∃as,Reads s.heap u w.toD as:=by
 induction h with
 |num i=>intro u r;obtain⟨t,rfl⟩:=r;exact⟨_,.int i t⟩
 |txt x=>intro u r;obtain⟨t,rfl⟩:=r;exact⟨_,.str x t⟩
 | @lst a vs ws e l _ ih=>
  intro u r
  cases r
  obtain⟨its,rv,p,_⟩:=I.tuple e
  obtain⟨o,g1,g2,n,g3⟩:=p
  have hl:=rv.length
  obtain⟨as,ra⟩:=zc4 (h:=s.heap) (us:=its.toArray.toList) (ds:=toDs ws) (by rw[vL,zec,yB,←hl,l]) fun i u d e1 e2=>by
   rw[vL] at e1
   rw[zec,yF] at e2
   obtain⟨w,hw,rfl⟩:=yT.mp e2
   have hi:i<its.length:=(yC.mp e1).1
   have hv:i<vs.length:=by lia
   obtain⟨U,hU,rU⟩:=rv.get (yA hv)
   rw[e1] at hU
   cases hU
   exact ih i _ _ (yA hv) hw rU
  exact⟨_,.tuple g1 g2 g3 ra⟩
theorem zdz{X:Cx}(hg:X.A.guards=some [])(hu:X.A.units+80<cLine):zaV X (.builtin "repr") (fun xs H Q=>∃(v:V)(w:W),xs=[v]/\RS X.K H v w/\TOk w.toD/\w.toD.depth<70/\cnt w.toD<=800/\Q (.str w.toD.shown) H):=by
 intro pins s σ H xs us Q I r h
 obtain⟨v,w,rfl,rs,ok,dp,ct,q⟩:=h
 obtain⟨u,rfl,rx⟩:=zcd r
 have hz:w.toD.shown.length<=tF:=by
  have:=ze6 w.toD ok
  rw[sizeLine_eq]
  lia
 obtain⟨sh,nd⟩:=zc3 w.toD ok
 cases rs with
 |num i=>
  obtain⟨t,rfl⟩:=rx
  exact P.repr_of_int (by simpa [W.toD,PyData.showable] using sh) ⟨.str _,H,I.tok _,⟨s.toks,by simp only[W.toD,PyData.shown]⟩,q⟩
 |txt x=>
  obtain⟨t,rfl⟩:=rx
  exact P.repr_of_str ⟨.str _,H,I.tok _,⟨s.toks,by simp only[W.toD,PyData.shown]⟩,q⟩ (by simpa only [W.toD,PyData.shown] using hz)
 | @lst a vs ws e l at1=>
  cases rx
  obtain⟨as,rd⟩:=RS.reads I (.lst e l at1) (u:=.ref a) rfl
  exact repr_of_reads' rd sh (PyData.noDict_hsm nd) hg (by lia) (fun _ _ e=>e) (fun h' u tk hk=>⟨.str _,H,I.kept (h':=h') (t':=tk) hk,⟨_,rfl⟩,q⟩) hz
inductive Wd where
 |add|sub|mul|div|less|same|join|list|item|count|figs
noncomputable def zdn:W:=.lst [.txt "wrong",.txt "kind",.txt ""]
noncomputable def zfX:W:=.lst [.txt "wrong",.txt "nought",.txt ""]
noncomputable def zk6:W:=.lst [.txt "wrong",.txt "place",.txt ""]
noncomputable def zgI(b:Bool):W:=.lst [.txt "made",.num (if b then 1 else 0)]
def two(f:Int->Int->W):List W->W
 |[.num a,.num b]=>f a b
 |_=>zdn
def recW:Wd->List W->W
 |.add,ws=>two (fun a b=>zab (.num (a+b))) ws
 |.sub,ws=>two (fun a b=>zab (.num (a-b))) ws
 |.mul,ws=>two (fun a b=>zab (.num (a*b))) ws
 |.div,ws=>two (fun a b=>if b=0 then zfX else zab (.num (a.fdiv b))) ws
 |.less,ws=>two (fun a b=>zgI (decide (a<b))) ws
 |.figs,[.num a]=>zab (.txt (uU (toString a)))
 |.figs,_=>zdn
 |.same,[x,y]=>zgI (eqW x y)
 |.same,_=>zdn
 |.join,[.txt x,.txt y]=>zab (.txt (x++y))
 |.join,[.lst xs,.lst ys]=>zab (.lst (xs++ys))
 |.join,_=>zdn
 |.list,ws=>zab (.lst ws)
 |.item,[.lst xs,.num i]=>if 0<=i/\i<(xs.length:Int) then zab (xs.getD i.toNat (.num 0)) else zk6
 |.item,_=>zdn
 |.count,[.txt x]=>zab (.num x.length)
 |.count,[.lst xs]=>zab (.num xs.length)
 |.count,_=>zdn
def zk7:Sp:=fun vs H Q _=>∃(u v:V)(x y:W),vs=[u,v]/\RW H u x/\RW H v y/\x.depth<50/\Q (.bl (eqW x y)) H
def zfY(K:tP):Sp:=fun vs H Q _=>∃b:Bool,vs=[.bl b]/\∀(u:V)(H':Hp),Same H H'->RM K H' u (zgI b)->Q u H'
def Zs(K:tP)(pre:List W->Prop)(r:List W->W):Sp:=fun vs H Q _=>∃(l:Addr)(us:List V)(ws:List W),vs=[.ref l]/\H l=some (.lst us)/\RWs H us ws/\Oks ws/\depths ws<=12/\ws.length<=8/\pre ws /\
 ∀(u:V)(H':Hp),Same H H'->RM K H' u (r ws)->Q u H'
theorem rws1{H:Hp}{us:List V}{x:W}(h:RWs H us [x]):∃u,us=[u]/\RW H u x:=by
 match us,h.len with
 |[u],_=>exact⟨u,rfl,h.at' 0 u x rfl rfl⟩
theorem rws2{H:Hp}{us:List V}{x y:W}(h:RWs H us [x,y]):∃u v,us=[u,v]/\RW H u x/\RW H v y:=by
 match us,h.len with
 |[u,v],_=>exact⟨u,v,rfl,h.at' 0 u x rfl rfl,h.at' 1 v y rfl rfl⟩
theorem rwn2{H:Hp}{us:List V}{a b:Int}(h:RWs H us [.num a,.num b]):us=[.int a,.int b]:=by
 obtain⟨u,v,rfl,r1,r2⟩:=rws2 h
 cases r1
 cases r2
 rfl
theorem zma{ws:List W}(h:ws.length=2):∃x y,ws=[x,y]:=by
 match ws,h with
 |[x,y],_=>exact⟨x,y,rfl⟩
theorem zng{ws:List W}(h:ws.length=1):∃x,ws=[x]:=by
 match ws,h with
 |[x],_=>exact⟨x,rfl⟩
theorem ok60{a:Int}(h:(W.num a).Ok):a.natAbs.log2<1920:=by
 have h1:-(10 ^ 60)<a:=h.1
 have h2:a<10 ^ 60:=h.2
 by_cases h0:a.natAbs=0
 ·rw[h0];decide
 ·have:=(uS h0).mpr (show a.natAbs<2 ^ 200 by
   have:(10:Int) ^ 60<2 ^ 200:=by decide
   lia)
  lia
theorem ziX{a:Int}(h:a.natAbs.log2<1920):Builtin.Int.intBits a<=1920:=by
 unfold Builtin.Int.intBits
 split<;>lia
theorem znG{a b:Int}(h1:a.natAbs.log2<1920)(h2:b.natAbs.log2<1920):IntMulOk a b:=by
 unfold IntMulOk
 have:=ziX h1
 have:=ziX h2
 have e:Builtin.Int.intTooBig (Builtin.Int.intBits a+Builtin.Int.intBits b)=false:=by
  unfold Builtin.Int.intTooBig
  have hb:10000<=bitsLine:=by decide
  exact decide_eq_false (by lia)
 rw[e]
 simp
theorem zfa(a:Int):Signs (uU (toString a)):=fun c hc=>by
 by_cases h:c=45\/(48<=c/\c<=57)
 ·lia
 ·exact absurd hc (PyProof.Rows.int_text_free' c (by lia) a)
section
variable{P:Program}{w:World}{K:tP}{mg:Str->Option Value}{base:Heap}{f:Addr}{fd:tQ}{k n:Nat}{ARun ATask:Addr}
theorem zmb:FnScope ["one","other"] ["one","other"] (zr zit):=mkSc rfl (by decide +kernel)
theorem zmc(F:Fun K "same" "same" zit f fd):FnOk P w K mg base CX0 (k+1) f fd ["one","other"] (zk7):=by
 refine F.okQ zmb (by rintro _ _ _ _ ⟨_,_,_,_,rfl,_⟩;rfl) fun cdv A outer s H vs Q E hr h=>?_
 obtain⟨u,v,x,y,rfl,rx,ry,hd,q⟩:=h
 refine⟨_,(zq (zw (Zh (zm8 hr.units) (pv 0) (pv 1) (nomark _)))),?_⟩
 exact⟨_,rfl,_,rfl,x,y,rx,ry,hd,q⟩
theorem zj9:FnScope ["is_so"] ["is_so"] (zr zfN):=mkSc rfl (by decide +kernel)
theorem zka(F:Fun K "truth" "truth" zfN f fd):FnOk P w K mg base CX0 (k+1) f fd ["is_so"] (zfY K):=by
 refine F.okQ zj9 (by rintro _ _ _ _ ⟨_,rfl,_⟩;rfl) fun cdv A outer s H vs Q E hr h=>?_
 obtain⟨b,rfl,q⟩:=h
 refine⟨_,(zq (zw (zE (zc zA (zc (ZO (zZ (pv 0)) zk zk) zi))))),?_⟩
 refine⟨_,rfl,_,rfl,?_⟩
 cases b with
 |true=>exact iteT ⟨zl2,fun a ha=>q _ _ (Sn ha) (RM.two (Sq zf) (.txt _) (.num _))⟩
 |false=>exact iteF ⟨zl2,fun a ha=>q _ _ (Sn ha) (RM.two (Sq zf) (.txt _) (.num _))⟩
theorem ziY:FnScope ["worths"] ["worths"] (zr zdQ):=mkSc rfl (by decide +kernel)
theorem ziZ(F:Fun K "summed" "summed" zdQ f fd)(G_made:Have P w K mg base "made" k ["thing"] (zaS K 24)):FnOk P w K mg base CX0 (k+1) f fd ["worths"] (Zs K (fun ws=>∃a b,ws=[.num a,.num b]) (recW .add)):=by
 refine F.okQ ziY (by rintro _ _ _ _ ⟨_,_,_,rfl,_⟩;rfl) fun cdv A outer s H vs Q E hr h=>?_
 obtain⟨l,us,ws,rfl,hl,hw,ok,hd,hn,⟨a,b,rfl⟩,q⟩:=h
 have e:=rwn2 hw
 subst e
 refine⟨_,(zq (zw (zy G_made hr rfl (zc (zK ZP (zx zF (pv 0) zk (fun _ _=>rfl)) (zx zF (pv 0) zk (fun _ _=>rfl))) zi)))),?_⟩
 refine⟨_,rfl,l,_,0,_,rfl,rfl,Sl hl,rfl,_,rfl,l,_,1,_,rfl,rfl,Sl hl,rfl,_,_,rfl,rfl,?_⟩
 exact⟨_,.num (a+b),rfl,.num _,trivial,(by show 0<24;decide),q⟩
theorem zfb:FnScope ["worths"] ["worths"] (zr zbl):=mkSc rfl (by decide +kernel)
theorem zfc(F:Fun K "differing" "differing" zbl f fd)(G_made:Have P w K mg base "made" k ["thing"] (zaS K 24)):FnOk P w K mg base CX0 (k+1) f fd ["worths"] (Zs K (fun ws=>∃a b,ws=[.num a,.num b]) (recW .sub)):=by
 refine F.okQ zfb (by rintro _ _ _ _ ⟨_,_,_,rfl,_⟩;rfl) fun cdv A outer s H vs Q E hr h=>?_
 obtain⟨l,us,ws,rfl,hl,hw,ok,hd,hn,⟨a,b,rfl⟩,q⟩:=h
 have e:=rwn2 hw
 subst e
 refine⟨_,(zq (zw (zy G_made hr rfl (zc (zK zaf (zx zF (pv 0) zk (fun _ _=>rfl)) (zx zF (pv 0) zk (fun _ _=>rfl))) zi)))),?_⟩
 refine⟨_,rfl,l,_,0,_,rfl,rfl,Sl hl,rfl,_,rfl,l,_,1,_,rfl,rfl,Sl hl,rfl,_,_,rfl,rfl,?_⟩
 exact⟨_,.num (a-b),rfl,.num _,trivial,(by show 0<24;decide),q⟩
theorem zed:FnScope ["worths"] ["worths"] (zr zaY):=mkSc rfl (by decide +kernel)
theorem zee(F:Fun K "multiplied" "multiplied" zaY f fd)(G_made:Have P w K mg base "made" k ["thing"] (zaS K 24)):FnOk P w K mg base CX0 (k+1) f fd ["worths"] (Zs K (fun ws=>∃a b,ws=[.num a,.num b]) (recW .mul)):=by
 refine F.okQ zed (by rintro _ _ _ _ ⟨_,_,_,rfl,_⟩;rfl) fun cdv A outer s H vs Q E hr h=>?_
 obtain⟨l,us,ws,rfl,hl,hw,ok,hd,hn,⟨a,b,rfl⟩,q⟩:=h
 have e:=rwn2 hw
 subst e
 refine⟨_,(zq (zw (zy G_made hr rfl (zc (zK zlR (zx zF (pv 0) zk (fun _ _=>rfl)) (zx zF (pv 0) zk (fun _ _=>rfl))) zi)))),?_⟩
 refine⟨_,rfl,l,_,0,_,rfl,rfl,Sl hl,rfl,_,rfl,l,_,1,_,rfl,rfl,Sl hl,rfl,_,_,rfl,rfl,znG (ok60 ok.1) (ok60 ok.2.1),?_⟩
 exact⟨_,.num (a*b),rfl,.num _,trivial,(by show 0<24;decide),q⟩
theorem zhx:FnScope ["worths"] ["worths"] (zr zcN):=mkSc rfl (by decide +kernel)
theorem zhy(F:Fun K "divided" "divided" zcN f fd)(G_made:Have P w K mg base "made" k ["thing"] (zaS K 24)){g_NOUGHT:Addr}(m_NOUGHT:mg "NOUGHT"=some (.ref g_NOUGHT))(t_NOUGHT:∀H:Hp,SqT K H g_NOUGHT [.str "wrong",.str "nought",.str ""]):FnOk P w K mg base CX0 (k+1) f fd ["worths"] (Zs K (fun ws=>∃a b,ws=[.num a,.num b]) (recW .div)):=by
 refine F.okQ zhx (by rintro _ _ _ _ ⟨_,_,_,rfl,_⟩;rfl) fun cdv A outer s H vs Q E hr h=>?_
 obtain⟨l,us,ws,rfl,hl,hw,ok,hd,hn,⟨a,b,rfl⟩,q⟩:=h
 have e:=rwn2 hw
 subst e
 refine⟨_,(zj (zN (zH Z0 (zx zF (pv 0) zk (fun _ _=>rfl)) zk (nomark _)) (zq (zw (Zd (v:=.ref g_NOUGHT) rfl m_NOUGHT rfl))) zC) (zq (zw (zy G_made hr rfl (zc (zK ziL (zx zF (pv 0) zk (fun _ _=>rfl)) (zx zF (pv 0) zk (fun _ _=>rfl))) zi))))),?_⟩
 refine⟨_,rfl,l,_,1,_,rfl,rfl,Sl hl,rfl,rfl,_,rfl,?_⟩
 have er:recW .div [.num a,.num b]=if b=0 then zfX else zab (.num (a.fdiv b)):=rfl
 rw[er] at q
 refine ite2 (fun e=>?_) (fun e=>?_)
 ·have hb:b=0:=by simpa using of_decide_eq_true e
  rw[if_pos hb] at q
  exact q _ _ (Sr _) (RM.three (t_NOUGHT H) (.txt _) (.txt _) (.txt _))
 ·have hb:b≠0:=fun z=>e (by rw[z];rfl)
  rw[if_neg hb] at q
  refine⟨_,rfl,l,_,0,_,rfl,rfl,Sl hl,rfl,_,rfl,l,_,1,_,rfl,rfl,Sl hl,rfl,_,_,rfl,rfl,⟨hb,?_⟩,?_⟩
  ·have:=ok60 ok.2.1;lia
  ·exact⟨_,.num (a.fdiv b),rfl,.num _,trivial,(by show 0<24;decide),q⟩
theorem zfZ:FnScope ["worths"] ["worths"] (zr zbR):=mkSc rfl (by decide +kernel)
theorem zf0(F:Fun K "lessened" "lessened" zbR f fd)(G_truth:Have P w K mg base "truth" k ["is_so"] (zfY K)):FnOk P w K mg base CX0 (k+1) f fd ["worths"] (Zs K (fun ws=>∃a b,ws=[.num a,.num b]) (recW .less)):=by
 refine F.okQ zfZ (by rintro _ _ _ _ ⟨_,_,_,rfl,_⟩;rfl) fun cdv A outer s H vs Q E hr h=>?_
 obtain⟨l,us,ws,rfl,hl,hw,ok,hd,hn,⟨a,b,rfl⟩,q⟩:=h
 have e:=rwn2 hw
 subst e
 refine⟨_,(zq (zw (zy G_truth hr rfl (zc (Zh zha (zx zF (pv 0) zk (fun _ _=>rfl)) (zx zF (pv 0) zk (fun _ _=>rfl)) (nomark _)) zi)))),?_⟩
 refine⟨_,rfl,l,_,0,_,rfl,rfl,Sl hl,rfl,_,rfl,l,_,1,_,rfl,rfl,Sl hl,rfl,_,_,rfl,rfl,?_⟩
 exact⟨_,rfl,q⟩
theorem zhz:FnScope ["worths"] ["worths"] (zr zcO):=mkSc rfl (by decide +kernel)
theorem zhA(F:Fun K "figured" "figured" zcO f fd)(G_made:Have P w K mg base "made" k ["thing"] (zaS K 24))(m_str:mg "str"=none):FnOk P w K mg base CX0 (k+1) f fd ["worths"] (Zs K (fun ws=>∃a,ws=[.num a]) (recW .figs)):=by
 refine F.okQ zhz (by rintro _ _ _ _ ⟨_,_,_,rfl,_⟩;rfl) fun cdv A outer s H vs Q E hr h=>?_
 obtain⟨l,us,ws,rfl,hl,hw,ok,hd,hn,⟨a,rfl⟩,q⟩:=h
 obtain⟨u,rfl,ru⟩:=rws1 hw
 cases ru
 refine⟨_,(zq (zw (zy G_made hr rfl (zc (zJ zeJ rfl m_str zaq (zc (zx zF (pv 0) zk (fun _ _=>rfl)) zi)) zi)))),?_⟩
 refine⟨_,rfl,l,_,0,_,rfl,rfl,Sl hl,rfl,a,rfl,ok60 ok.1,?_⟩
 refine⟨_,.txt (uU (toString a)),rfl,.txt _,⟨?_,zfa a⟩,(by show 0<24;decide),q⟩
 have:=PyProof.Rows.int_text_len_1921 (ok60 ok.1)
 lia
theorem zf1:FnScope ["worths"] ["worths"] (zr zbS):=mkSc rfl (by decide +kernel)
theorem zf2(F:Fun K "compared" "compared" zbS f fd)(G_truth:Have P w K mg base "truth" k ["is_so"] (zfY K))(G_same:Have P w K mg base "same" k ["one","other"] (zk7)):FnOk P w K mg base CX0 (k+1) f fd ["worths"] (Zs K (fun ws=>ws.length=2) (recW .same)):=by
 refine F.okQ zf1 (by rintro _ _ _ _ ⟨_,_,_,rfl,_⟩;rfl) fun cdv A outer s H vs Q E hr h=>?_
 obtain⟨l,us,ws,rfl,hl,hw,ok,hd,hn,h2,q⟩:=h
 obtain⟨x,y,rfl⟩:=zma h2
 obtain⟨u,v,rfl,ru,rv⟩:=rws2 hw
 have hd2:max x.depth (max y.depth 0)<=12:=hd
 refine⟨_,(zq (zw (zy G_truth hr rfl (zc (zy G_same hr rfl (zc (zx zF (pv 0) zk (fun _ _=>rfl)) (zc (zx zF (pv 0) zk (fun _ _=>rfl)) zi))) zi)))),?_⟩
 refine⟨_,rfl,l,_,0,_,rfl,rfl,Sl hl,rfl,_,rfl,l,_,1,_,rfl,rfl,Sl hl,rfl,u,v,x,y,rfl,ru,rv,by lia,?_⟩
 exact⟨_,rfl,q⟩
theorem zi0:FnScope ["worths"] ["worths"] (zr zdS):=mkSc rfl (by decide +kernel)
theorem zi1(F:Fun K "listed" "listed" zdS f fd)(G_made:Have P w K mg base "made" k ["thing"] (zaS K 24))(m_tuple:mg "tuple"=none):FnOk P w K mg base CX0 (k+1) f fd ["worths"] (Zs K (fun _=>True) (recW .list)):=by
 refine F.okQ zi0 (by rintro _ _ _ _ ⟨_,_,_,rfl,_⟩;rfl) fun cdv A outer s H vs Q E hr h=>?_
 obtain⟨l,us,ws,rfl,hl,hw,ok,hd,hn,_,q⟩:=h
 refine⟨_,(zq (zw (zy G_made hr rfl (zc (zJ Zf rfl m_tuple zM (zc (pv 0) zi)) zi)))),?_⟩
 refine⟨_,rfl,l,us,rfl,.inl ⟨Sl hl,fun t ht=>?_⟩⟩
 have s1:=Sn (o:=.tup us) ht
 refine⟨_,.lst ws,rfl,.lst zf hw.len fun i v w a b=>(hw.at' i v w a b).mono (zo s1),⟨by lia,ths_of ws ok⟩,?_,fun u H' s2 r=>q u H' (s1.trans s2) r⟩
 show 1+depths ws<24
 lia
theorem zhB:FnScope ["worths"] ["worths"] (zr zcQ):=mkSc rfl (by decide +kernel)
theorem zhC(F:Fun K "counted" "counted" zcQ f fd)(G_made:Have P w K mg base "made" k ["thing"] (zaS K 24))(m_isi:mg "isinstance"=none)(m_len:mg "len"=none)(m_str:mg "str"=none)(m_tuple:mg "tuple"=none){g_KIND:Addr}(m_KIND:mg "KIND"=some (.ref g_KIND))(t_KIND:∀H:Hp,SqT K H g_KIND [.str "wrong",.str "kind",.str ""]):FnOk P w K mg base CX0 (k+1) f fd ["worths"] (Zs K (fun ws=>ws.length=1) (recW .count)):=by
 refine F.okQ zhB (by rintro _ _ _ _ ⟨_,_,_,rfl,_⟩;rfl) fun cdv A outer s H vs Q E hr h=>?_
 obtain⟨l,us,ws,rfl,hl,hw,ok,hd,hn,h1,q⟩:=h
 obtain⟨x,rfl⟩:=zng h1
 obtain⟨u,rfl,ru⟩:=rws1 hw
 refine⟨_,(zq (zw (ZO (zZ (zB ziM rfl m_isi Zq (zc (zx zF (pv 0) zk (fun _ _=>rfl)) (zc (zE (zc (zaM rfl m_str zaq) (zc (zaM rfl m_tuple zM) zi))) zi)))) (zy G_made hr rfl (zc (zB zP rfl m_len tD (zc (zx zF (pv 0) zk (fun _ _=>rfl)) zi)) zi)) (Zd (v:=.ref g_KIND) rfl m_KIND rfl)))),?_⟩
 refine⟨_,rfl,l,_,0,_,rfl,rfl,Sl hl,rfl,zl2,fun p hp=>?_⟩
 have s1:=Sn (o:=.tup [.ty "str",.ty "tuple"]) hp
 cases ru with
 |num i=>
  refine⟨_,_,p,_,_,_,_,rfl,.int i,zf,zeW,zdv,_,rfl,iteF (q _ _ s1 ?_)⟩
  exact RM.three (t_KIND _) (.txt _) (.txt _) (.txt _)
 |txt z=>
  refine⟨_,_,p,_,_,_,_,rfl,.str z,zf,zb7,zb6,_,rfl,iteT ?_⟩
  have hz:z.length<=400:=ok.1.1
  refine⟨_,rfl,l,_,0,_,rfl,rfl,Sl (s1 _ _ hl),rfl,_,_,rfl,⟨small (by lia),rfl⟩,?_⟩
  exact⟨_,.num z.length,rfl,.num _,trivial,(by show 0<24;decide),fun u H' s2 r=>q u H' (s1.trans s2) r⟩
 | @lst a vs ws e ll at'=>
  refine⟨_,_,p,_,_,_,_,rfl,.tup (s1 _ _ e),zf,zdw,zcK,_,rfl,iteT ?_⟩
  refine⟨_,rfl,l,_,0,_,rfl,rfl,Sl (s1 _ _ hl),rfl,_,_,rfl,.inr ⟨_,Sq (s1 _ _ e),rfl⟩,?_⟩
  rw[ll]
  exact⟨_,.num ws.length,rfl,.num _,trivial,(by show 0<24;decide),fun u H' s2 r=>q u H' (s1.trans s2) r⟩
end
end D
namespace L2
open PySem
theorem zmd{K:tP}{fr:List Nat}{j:Nat}{te:TE}{σ:St}{H:Hp}{Q:VK}{a:Addr}{vs:List V}(outs:List V)(hσ:σ[j]?=some (some (.ref a)))(hS:SqL K H a vs)(hl:outs.length=vs.length)(hz:vs.length<=tF)
  (step:∀(i:Nat)(v y:V)(H1:Hp)(R:VK),vs[i]?=some v->outs[i]?=some y->Same H H1->(∀H2,Same H1 H2->R y H2)->te (some v::frees fr σ) H1 R)
  (fin:∀(H1:Hp)(D:Addr),Same H H1->H1 D=none->Q (.ref D) (upd H1 D (.lst outs))):zcH fr (zhW K (tVar j)) (fun _ H Q=>Q true H) te σ H Q:=by
 refine⟨_,hσ,a,rfl,⟨vs,hS⟩,fun i m us H1=>i<=vs.length/\m=vs.length-i/\us=outs.take i/\Same H H1,⟨_,yN _,rfl,by simp,Sr _⟩,fun i m us H1 hW=>?_⟩
 obtain⟨hi,hm,hu,sm⟩:=hW
 refine⟨by rw[hu,yP];lia,?_⟩
 by_cases hlt:i<vs.length
 ·refine .inr ⟨⟨vs,vs[i],sm.seq hS,yA hlt⟩,fun v H' hy=>?_⟩
  obtain⟨rfl,hv⟩:=hy
  have hv:=hv vs (sm.seq hS)
  have hy:outs[i]?=some outs[i]:=yA (by lia)
  refine iteT ?_
  refine step i v outs[i] H' _ hv hy sm fun H2 s2=>⟨vs.length-(i+1),by lia,by lia,rfl,?_,sm.trans s2⟩
  rw[hu,Zg hy]
 ·have e:i=vs.length:=by lia
  refine .inl ⟨⟨vs,sm.seq hS,by lia⟩,fun D hD=>?_⟩
  have e2:us=outs:=by rw[hu,xJ (by lia)]
  rw[e2]
  exact fin H1 D sm hD
end L2
namespace D
open PySem L2
noncomputable def wdS:Wd->Str
 |.add=>"+"|.sub=>"-"|.mul=>"*"|.div=>"/"|.less=>"less"|.same=>"same"|.join=>"join"|.list=>"list"|.item=>"item"|.count=>"count"|.figs=>"figures"
def arity:Wd->Nat->Prop
 |.list,_=>True
 |.count,n=>n=1
 |.figs,n=>n=1
 |_,n=>n=2
def zi2(K:tP):Sp:=fun vs H Q _=>∃(d:Wd)(l:Addr)(us:List V)(ws:List W),vs=[.str (wdS d),.ref l]/\H l=some (.lst us)/\RWs H us ws/\Oks ws/\depths ws<=12/\ws.length<=8/\arity d ws.length /\
 ∀(u:V)(H':Hp),Same H H'->RM K H' u (recW d ws)->Q u H'
noncomputable def kvsN(f1 f2 f3 f4 f5 f6:Addr):List (Key×V):=[(.inr "+",.ref f1),(.inr "-",.ref f2),(.inr "*",.ref f3),(.inr "/",.ref f4),(.inr "less",.ref f5),(.inr "figures",.ref f6)]
noncomputable def kvsO(f7 f8 f9 f10 f11:Addr):List (Key×V):=[(.inr "same",.ref f7),(.inr "join",.ref f8),(.inr "list",.ref f9),(.inr "item",.ref f10),(.inr "count",.ref f11)]
noncomputable def ZA:W->Bool
 |.num _=>true
 |_=>false
theorem zfd(x:W):zkT x.toT=ZA x:=by cases x<;>rfl
theorem zbF(f:Int->Int->W):∀{ws:List W},ws.all ZA=false->two f ws=zdn
 |[],_=>rfl
 |[_],h=>by
  rename_i x
  cases x<;>rfl
 |[x,y],h=>by
  cases x with
  |num a=>
   cases y with
   |num b=>simp[ZA] at h
   |txt z=>rfl
   |lst z=>rfl
  |txt z=>rfl
  |lst z=>rfl
 |x::y::z::r,h=>by cases x<;>cases y<;>rfl
theorem zi3:∀{ws:List W},ws.all ZA=true->ws.length=2->∃a b,ws=[.num a,.num b]
 |[x,y],h,_=>by
  cases x with
  |num a=>
   cases y with
   |num b=>exact⟨a,b,rfl⟩
   |txt z=>simp[ZA] at h
   |lst z=>simp[ZA] at h
  |txt z=>simp[ZA] at h
  |lst z=>simp[ZA] at h
theorem znH:∀{ws:List W},ws.all ZA=true->ws.length=1->∃a,ws=[.num a]
 |[x],h,_=>by
  cases x with
  |num a=>exact⟨a,rfl⟩
  |txt z=>simp[ZA] at h
  |lst z=>simp[ZA] at h
section
variable{P:Program}{w:World}{K:tP}{mg:Str->Option Value}{base:Heap}{f:Addr}{fd:tQ}{k n:Nat}{ARun ATask:Addr}
theorem za3:FnScope ["worths","one","other","are_texts","are_lists"] ["worths"] (zr zdR):=mkSc rfl (by decide +kernel)
theorem zi4(F:Fun K "joined" "joined" zdR f fd)(G_made:Have P w K mg base "made" k ["thing"] (zaS K 24))(m_isi:mg "isinstance"=none)(m_str:mg "str"=none)(m_tuple:mg "tuple"=none){g_KIND:Addr}(m_KIND:mg "KIND"=some (.ref g_KIND))(t_KIND:∀H:Hp,SqT K H g_KIND [.str "wrong",.str "kind",.str ""]):FnOk P w K mg base CX0 (k+1) f fd ["worths"] (Zs K (fun ws=>ws.length=2) (recW .join)):=by
 refine F.okQ za3 (by rintro _ _ _ _ ⟨_,_,_,rfl,_⟩;rfl) fun cdv A outer s H vs Q E hr h=>?_
 obtain⟨l,us,ws,rfl,hl,hw,ok,hd,hn,h2,q⟩:=h
 obtain⟨x,y,rfl⟩:=zma h2
 obtain⟨u,v,rfl,ru,rv⟩:=rws2 hw
 have hd2:max x.depth (max y.depth 0)<=12:=hd
 refine⟨_,(zj (zG (i:=1) za3.nd rfl (Or.inl rfl) (zx zF (pv 0) zk (fun _ _=>rfl)))
  (zj (zG (i:=2) za3.nd rfl (Or.inl rfl) (zx zF (pv 0) zk (fun _ _=>rfl)))
  (zj (zG (i:=3) za3.nd rfl (Or.inl rfl) (zas (zB Zy rfl m_isi Zq (zc (pv 1) (zc (zaM rfl m_str zaq) zi))) (zaC (zB Zy rfl m_isi Zq (zc (pv 2) (zc (zaM rfl m_str zaq) zi))))))
  (zj (zG (i:=4) za3.nd rfl (Or.inl rfl) (zas (zB Zy rfl m_isi Zq (zc (pv 1) (zc (zaM rfl m_tuple zM) zi))) (zaC (zB Zy rfl m_isi Zq (zc (pv 2) (zc (zaM rfl m_tuple zM) zi))))))
  (zq (zw (ZO (PW.pt (zcc (zZ (pv 3)) (zbv (zZ (pv 4))))) (zy G_made hr rfl (zc (zK zlS (pv 1) (pv 2)) zi)) (Zd (v:=.ref g_KIND) rfl m_KIND rfl)))))))),?_⟩
 refine⟨_,rfl,l,_,0,_,rfl,rfl,Sl hl,rfl,_,rfl,l,_,1,_,rfl,rfl,Sl hl,rfl,?_⟩
 have kd:recW .join [x,y]=zdn->Q (.ref g_KIND) H:=fun e=>q _ _ (Sr _) (by rw[e];exact RM.three (t_KIND _) (.txt _) (.txt _) (.txt _))
 cases ru with
 |num i=>
  refine⟨_,rfl,_,_,_,_,rfl,.int i,zeW,_,rfl,iteF ⟨_,rfl,_,_,_,_,rfl,.int i,zdv,_,rfl,iteF ?_⟩⟩
  exact⟨_,rfl,_,rfl,iteF ⟨_,rfl,_,rfl,iteF (kd (by cases y<;>rfl))⟩⟩
 |txt z=>
  have no:∀(b:Bool),_:=fun (b:Bool)=>(b:Bool)
  cases rv with
  |num j=>
   refine⟨_,rfl,_,_,_,_,rfl,.str z,zb7,_,rfl,iteT ⟨_,rfl,_,_,_,_,rfl,.int j,zeW,_,rfl,_,_,_,_,rfl,.str z,zb6,_,rfl,iteF ?_⟩⟩
   exact⟨_,rfl,_,rfl,iteF ⟨_,rfl,_,rfl,iteF (kd rfl)⟩⟩
  |txt z2=>
   refine⟨_,rfl,_,_,_,_,rfl,.str z,zb7,_,rfl,iteT ⟨_,rfl,_,_,_,_,rfl,.str z2,zb7,_,rfl,_,_,_,_,rfl,.str z,zb6,_,rfl,iteF ?_⟩⟩
   have h1:z.length<=400:=ok.1.1
   have h3:z2.length<=400:=ok.2.1.1
   refine⟨_,rfl,_,rfl,iteT (iteT ⟨_,rfl,_,rfl,.inl ⟨z,z2,rfl,rfl,small (by lia),?_⟩⟩)⟩
   refine⟨_,.txt (z++z2),rfl,.txt _,⟨by rw[zc0];lia,fun c hc=>?_⟩,(by show 0<24;decide),q⟩
   rw[zd1] at hc
   rcases yZ.mp hc with hc|hc
   ·exact ok.1.2 c hc
   ·exact ok.2.1.2 c hc
  | @lst a vs ws e ll at'=>
   refine⟨_,rfl,_,_,_,_,rfl,.str z,zb7,_,rfl,iteT ⟨_,rfl,_,_,_,_,rfl,.tup e,zdw,_,rfl,_,_,_,_,rfl,.str z,zb6,_,rfl,iteF ?_⟩⟩
   exact⟨_,rfl,_,rfl,iteF ⟨_,rfl,_,rfl,iteF (kd rfl)⟩⟩
 | @lst a vs xs e ll at'=>
  refine⟨_,rfl,_,_,_,_,rfl,.tup e,zdw,_,rfl,iteF ⟨_,rfl,_,_,_,_,rfl,.tup e,zcK,_,rfl,iteT ?_⟩⟩
  cases rv with
  |num j=>
   refine⟨_,rfl,_,_,_,_,rfl,.int j,zdv,?_⟩
   exact⟨_,rfl,_,rfl,iteF ⟨_,rfl,_,rfl,iteF (kd rfl)⟩⟩
  |txt z2=>
   refine⟨_,rfl,_,_,_,_,rfl,.str z2,zb6,?_⟩
   exact⟨_,rfl,_,rfl,iteF ⟨_,rfl,_,rfl,iteF (kd rfl)⟩⟩
  | @lst b us2 ys e2 ll2 at2=>
   refine⟨_,rfl,_,_,_,_,rfl,.tup e2,zcK,?_⟩
   refine⟨_,rfl,_,rfl,iteF ⟨_,rfl,_,rfl,iteT ?_⟩⟩
   have l1:xs.length<=60:=ok.1.1
   have l2:ys.length<=60:=ok.2.1.1
   have hth:(W.lst (xs++ys)).Th:=⟨by rw[yD];lia,zkX fun z hz=>by
    rcases yZ.mp hz with hz|hz
    ·exact zd3 z (zcZ ok.1.2 z hz)
    ·exact zd3 z (zcZ ok.2.1.2 z hz)⟩
   have hdp:(W.lst (xs++ys)).depth<24:=by
    have e1:(W.lst xs).depth=1+depths xs:=rfl
    have e3:(W.lst ys).depth=1+depths ys:=rfl
    have e4:∀(a b:List W),depths (a++b)=max (depths a) (depths b):=fun a b=>by
     induction a with
     |nil=>simp[depths]
     |cons x r ih=>simp only[xO,depths,ih];lia
    show 1+depths (xs++ys)<24
    rw[e4]
    lia
   by_cases hx:vs=[]
   ·have ex:xs=[]:=xL.mp (by rw[←ll,hx];rfl)
    subst ex
    subst hx
    refine⟨_,rfl,_,rfl,.inr (.inr ⟨a,b,us2,rfl,rfl,Sq e,Sq e2,?_⟩)⟩
    exact⟨_,.lst ([]++ys),rfl,.lst e2 ll2 at2,hth,hdp,q⟩
   ·refine⟨_,rfl,_,rfl,.inr (.inl ⟨a,b,vs,us2,rfl,rfl,Sq e,Sq e2,hx,small (by lia),fun hy=>?_,fun hy p hp=>?_⟩)⟩
    ·have ey:ys=[]:=xL.mp (by rw[←ll2,hy];rfl)
     subst ey
     exact⟨_,.lst (xs++[]),rfl,by rw[xK];exact .lst e ll at',hth,hdp,q⟩
    ·have s1:=Sn (o:=.tup (vs++us2)) hp
     refine⟨_,.lst (xs++ys),rfl,.lst zf (by rw[yD,yD,ll,ll2]) fun i v w a1 a2=>?_,hth,hdp,fun u H' s2 r=>q u H' (s1.trans s2) r⟩
     by_cases hi:i<vs.length
     ·rw[yL hi] at a1
      rw[yL (by lia)] at a2
      exact (at' i v w a1 a2).mono (zo s1)
     ·rw[yK (by lia)] at a1
      rw[yK (by lia),←ll] at a2
      exact (at2 _ v w a1 a2).mono (zo s1)
theorem zb2:FnScope ["worths","items","place"] ["worths"] (zr zcP):=mkSc rfl (by decide +kernel)
theorem zhD(F:Fun K "item_at" "item_at" zcP f fd)(G_made:Have P w K mg base "made" k ["thing"] (zaS K 24))(G_is_number:Have P w K mg base "is_number" k ["thing"] (zc2))(m_isi:mg "isinstance"=none)(m_len:mg "len"=none)(m_tuple:mg "tuple"=none){g_KIND:Addr}(m_KIND:mg "KIND"=some (.ref g_KIND))(t_KIND:∀H:Hp,SqT K H g_KIND [.str "wrong",.str "kind",.str ""]){g_PLACE:Addr}(m_PLACE:mg "PLACE"=some (.ref g_PLACE))(t_PLACE:∀H:Hp,SqT K H g_PLACE [.str "wrong",.str "place",.str ""]):FnOk P w K mg base CX0 (k+1) f fd ["worths"] (Zs K (fun ws=>ws.length=2) (recW .item)):=by
 refine F.okQ zb2 (by rintro _ _ _ _ ⟨_,_,_,rfl,_⟩;rfl) fun cdv A outer s H vs Q E hr h=>?_
 obtain⟨l,us,ws,rfl,hl,hw,ok,hd,hn,h2,q⟩:=h
 obtain⟨x,y,rfl⟩:=zma h2
 obtain⟨u,v,rfl,ru,rv⟩:=rws2 hw
 have hd2:max x.depth (max y.depth 0)<=12:=hd
 refine⟨_,(zj (zG (i:=1) zb2.nd rfl (Or.inl rfl) (zx zF (pv 0) zk (fun _ _=>rfl)))
  (zj (zG (i:=2) zb2.nd rfl (Or.inl rfl) (zx zF (pv 0) zk (fun _ _=>rfl)))
  (zj (zN (PW.pt (zcc (ZK (zZ (zB Zy rfl m_isi Zq (zc (pv 1) (zc (zaM rfl m_tuple zM) zi))))) (zbv (ZK (zZ (zy G_is_number hr rfl (zc (pv 2) zi))))))) (zq (zw (Zd (v:=.ref g_KIND) rfl m_KIND rfl))) zC)
  (zq (zw (ZO (zcl zln zha zk (pv 2) (zB zP rfl m_len tD (zc (pv 1) zi))) (zy G_made hr rfl (zc (zx zD (pv 1) (pv 2) (fun _ _=>rfl)) zi)) (Zd (v:=.ref g_PLACE) rfl m_PLACE rfl))))))),?_⟩
 refine⟨_,rfl,l,_,0,_,rfl,rfl,Sl hl,rfl,_,rfl,l,_,1,_,rfl,rfl,Sl hl,rfl,?_⟩
 have kd:recW .item [x,y]=zdn->Q (.ref g_KIND) H:=fun e=>q _ _ (Sr _) (by rw[e];exact RM.three (t_KIND _) (.txt _) (.txt _) (.txt _))
 cases ru with
 |num i=>exact⟨_,rfl,_,_,_,_,rfl,.int i,zdv,_,rfl,iteT (iteT (kd rfl))⟩
 |txt z=>exact⟨_,rfl,_,_,_,_,rfl,.str z,zb6,_,rfl,iteT (iteT (kd rfl))⟩
 | @lst a vs xs e ll at'=>
  refine⟨_,rfl,_,_,_,_,rfl,.tup e,zcK,_,rfl,iteF ⟨_,rfl,v,y.toT,rfl,rv.toRT,_,rfl,?_⟩⟩
  cases rv with
  |txt z=>exact iteT (kd rfl)
  |lst e2 ll2 at2=>exact iteT (kd rfl)
  |num i=>
   refine iteF ?_
   have er:recW .item [.lst xs,.num i]=if 0<=i/\i<(xs.length:Int) then zab (xs.getD i.toNat (.num 0)) else zk6:=rfl
   rw[er] at q
   have pl:¬(0<=i/\i<(xs.length:Int))->Q (.ref g_PLACE) H:=fun hc=>by
    rw[if_neg hc] at q
    exact q _ _ (Sr _) (RM.three (t_PLACE _) (.txt _) (.txt _) (.txt _))
   refine⟨_,rfl,_,_,rfl,rfl,_,rfl,?_⟩
   refine ite2 (fun c1=>?_) (fun c1=>?_)
   ·have c1':0<=i:=of_decide_eq_true c1
    refine⟨_,rfl,_,_,rfl,.inr ⟨_,Sq e,rfl⟩,_,_,rfl,rfl,_,rfl,?_⟩
    refine ite2 (fun c2=>?_) (fun c2=>pl fun hc=>c2 (decide_eq_true (by rw[ll];exact hc.2)))
    have c2':i<(vs.length:Int):=of_decide_eq_true c2
    have hi:i.toNat<xs.length:=by lia
    have hv:vs[i.toNat]?=some vs[i.toNat]:=yA (by lia)
    have hx:xs[i.toNat]?=some xs[i.toNat]:=yA hi
    rw[if_pos ⟨c1',by lia⟩,yU,hx] at q
    have hat:atI vs i=some vs[i.toNat]:=by
     have:=zt hv
     rw[show ((i.toNat:Nat):Int)=i by lia] at this
     exact this
    have hm:=yH hx
    have hdm:=Z5 xs[i.toNat] hm
    have e1:(W.lst xs).depth=1+depths xs:=rfl
    refine⟨_,rfl,_,rfl,a,vs,i,_,rfl,rfl,Sq e,hat,?_⟩
    exact⟨_,xs[i.toNat],rfl,at' _ _ _ hv hx,zd3 _ (zcZ ok.1.2 _ hm),by lia,q⟩
   ·exact⟨_,rfl,iteF (pl fun hc=>c1 (decide_eq_true hc.1))⟩
theorem zf3:FnScope ["word","worths"] ["word","worths"] (zr zbT):=mkSc rfl (by decide +kernel)
theorem zf4(F:Fun K "reckoned" "reckoned" zbT f fd)(G_is_number:Have P w K mg base "is_number" k ["thing"] (zc2))(m_all:mg "all"=none){g_KIND:Addr}(m_KIND:mg "KIND"=some (.ref g_KIND))(t_KIND:∀H:Hp,SqT K H g_KIND [.str "wrong",.str "kind",.str ""]){g_NUMBER_DEEDS g_OTHER_DEEDS f1 f2 f3 f4 f5 f6 f7 f8 f9 f10 f11:Addr}(m_NUMBER_DEEDS:mg "NUMBER_DEEDS"=some (.ref g_NUMBER_DEEDS))(d_NUM:MD P w K g_NUMBER_DEEDS (kvsN f1 f2 f3 f4 f5 f6))(m_OTHER_DEEDS:mg "OTHER_DEEDS"=some (.ref g_OTHER_DEEDS))(d_OTH:MD P w K g_OTHER_DEEDS (kvsO f7 f8 f9 f10 f11))(c1:Zo P w K mg base f1 k ["worths"] (Zs K (fun ws=>∃a b,ws=[.num a,.num b]) (recW .add)))(c2:Zo P w K mg base f2 k ["worths"] (Zs K (fun ws=>∃a b,ws=[.num a,.num b]) (recW .sub)))(c3:Zo P w K mg base f3 k ["worths"] (Zs K (fun ws=>∃a b,ws=[.num a,.num b]) (recW .mul)))(c4:Zo P w K mg base f4 k ["worths"] (Zs K (fun ws=>∃a b,ws=[.num a,.num b]) (recW .div)))(c5:Zo P w K mg base f5 k ["worths"] (Zs K (fun ws=>∃a b,ws=[.num a,.num b]) (recW .less)))(c6:Zo P w K mg base f6 k ["worths"] (Zs K (fun ws=>∃a,ws=[.num a]) (recW .figs)))(c7:Zo P w K mg base f7 k ["worths"] (Zs K (fun ws=>ws.length=2) (recW .same)))(c8:Zo P w K mg base f8 k ["worths"] (Zs K (fun ws=>ws.length=2) (recW .join)))(c9:Zo P w K mg base f9 k ["worths"] (Zs K (fun _=>True) (recW .list)))(c10:Zo P w K mg base f10 k ["worths"] (Zs K (fun ws=>ws.length=2) (recW .item)))(c11:Zo P w K mg base f11 k ["worths"] (Zs K (fun ws=>ws.length=1) (recW .count))):FnOk P w K mg base CX0 (k+1) f fd ["word","worths"] (zi2 K):=by
 refine F.okQ zf3 (by rintro _ _ _ _ ⟨_,_,_,_,rfl,_⟩;rfl) fun cdv A outer s H vs Q E hr h=>?_
 obtain⟨d,l,us,ws,rfl,hl,hw,ok,hd,hn,ha,q⟩:=h
 refine⟨_,(zj (zN (zH ziJ (pv 0) (Zd (v:=.ref g_NUMBER_DEEDS) rfl m_NUMBER_DEEDS rfl) (by rfl)) (zq (zw (zbD hr (zx ziK (Zd (v:=.ref g_OTHER_DEEDS) rfl m_OTHER_DEEDS rfl) (pv 0) (fun _ _=>rfl)) (zc (pv 1) zi)))) zC)
  (zj (zN (ZK (zZ (zB (zbf rfl) rfl m_all zeX (zc (Zx [] [] rfl rfl (by decide +kernel) rfl (by decide +kernel) rfl (by decide +kernel) trivial rfl trivial (ZZ (pv 1)) (fun C s H fp=>⟨Zl,(zy G_is_number hr rfl (zc (pv 0) zi))⟩)) zi)))) (zq (zw (Zd (v:=.ref g_KIND) rfl m_KIND rfl))) zC)
  (zq (zw (zbD hr (zx ziK (Zd (v:=.ref g_NUMBER_DEEDS) rfl m_NUMBER_DEEDS rfl) (pv 0) (fun _ _=>rfl)) (zc (pv 1) zi)))))),?_⟩
 refine⟨_,rfl,g_NUMBER_DEEDS,_,.inr (wdS d),rfl,rfl,d_NUM,_,rfl,?_⟩
 have facts:(∃(f0:Addr)(pre:List W->Prop),valV (kvsN f1 f2 f3 f4 f5 f6) (.inr (wdS d))=some (.ref f0)/\Zo P w K mg base f0 k ["worths"] (Zs K pre (recW d))/\(ws.all ZA=true->pre ws)/\(ws.all ZA=false->recW d ws=zdn)) \/
   (valV (kvsN f1 f2 f3 f4 f5 f6) (.inr (wdS d))=none/\∃(f0:Addr)(pre:List W->Prop),valV (kvsO f7 f8 f9 f10 f11) (.inr (wdS d))=some (.ref f0)/\Zo P w K mg base f0 k ["worths"] (Zs K pre (recW d))/\pre ws):=by
  cases d with
  |add=>exact .inl ⟨f1,_,rfl,c1,fun h=>zi3 h ha,zbF _⟩
  |sub=>exact .inl ⟨f2,_,rfl,c2,fun h=>zi3 h ha,zbF _⟩
  |mul=>exact .inl ⟨f3,_,rfl,c3,fun h=>zi3 h ha,zbF _⟩
  |div=>exact .inl ⟨f4,_,rfl,c4,fun h=>zi3 h ha,zbF _⟩
  |less=>exact .inl ⟨f5,_,rfl,c5,fun h=>zi3 h ha,zbF _⟩
  |figs=>exact .inl ⟨f6,_,rfl,c6,fun h=>znH h ha,fun h=>by
    obtain⟨x,rfl⟩:=zng ha
    cases x with
    |num a=>simp[ZA] at h
    |txt z=>rfl
    |lst z=>rfl⟩
  |same=>exact .inr ⟨rfl,f7,_,rfl,c7,ha⟩
  |join=>exact .inr ⟨rfl,f8,_,rfl,c8,ha⟩
  |list=>exact .inr ⟨rfl,f9,_,rfl,c9,trivial⟩
  |item=>exact .inr ⟨rfl,f10,_,rfl,c10,ha⟩
  |count=>exact .inr ⟨rfl,f11,_,rfl,c11,ha⟩
 rcases facts with⟨f0,pre,hv,hf,h1,h2⟩|⟨hv,f0,pre,hv2,hf,h1⟩
 ·rw[hv]
  refine iteF ?_
  dsimp only[zll,tRet,tOp,tC,tCB,zcD,tNil,tB,tNot,tIfS,tSeq]
  refine zmd (ws.map fun x=>V.bl (ZA x)) (by rfl) (Sl hl) (by rw[yB,hw.len]) (small (by have:=hw.len;lia)) (fun i v y H1 R hv' hy s1 hR=>?_) (fun H1 D s1 hD=>?_)
  ·rw[yF] at hy
   obtain⟨x,hx,rfl⟩:=yT.mp hy
   refine⟨_,rfl,v,x.toT,rfl,((hw.at' i v x hv' hx).mono (zo s1)).toRT,?_⟩
   rw[zfd]
   exact hR _ (Sr _)
  ·have s2:=s1.trans (Sn (o:=.lst (ws.map fun x=>V.bl (ZA x))) hD)
   refine⟨D,ws.map ZA,rfl,Sl ?_,_,rfl,?_⟩
   ·rw[zf,vN];rfl
   have e3:(ws.map ZA).all id=ws.all ZA:=by rw[uQ];rfl
   rw[e3]
   cases hall:ws.all ZA with
   |false=>
    refine iteT (q _ _ s2 ?_)
    rw[h2 hall]
    exact RM.three (t_KIND _) (.txt _) (.txt _) (.txt _)
   |true=>
    refine iteF ⟨_,rfl,g_NUMBER_DEEDS,_,.inr (wdS d),.ref f0,rfl,rfl,d_NUM,hv,f0,_,_,rfl,hf,_,rfl,?_⟩
    exact⟨l,us,ws,rfl,s2 _ _ hl,hw.mono (zo s2),ok,hd,hn,h1 hall,fun u H' s3 r=>q u H' (s2.trans s3) r⟩
 ·rw[hv]
  refine iteT ⟨_,rfl,g_OTHER_DEEDS,_,.inr (wdS d),.ref f0,rfl,rfl,d_OTH,hv2,f0,_,_,rfl,hf,_,rfl,?_⟩
  exact⟨l,us,ws,rfl,hl,hw,ok,hd,hn,h1,q⟩
noncomputable def znh:W->Bool
 |.txt _=>true
 |_=>false
noncomputable def zni:W->Bool
 |.lst _=>true
 |_=>false
noncomputable def tnW:W->String
 |.num _=>"int"
 |.txt _=>"str"
 |.lst _=>"tuple"
theorem isiT(x:W):isi (tnW x) "tuple"=some (zni x):=match x with|.num _=>zdv|.txt _=>zb6|.lst _=>zcK
theorem isiS(x:W):isi (tnW x) "str"=some (znh x):=match x with|.num _=>zeW|.txt _=>zb7|.lst _=>zdw
theorem zhE:tJ (uU "dict")=some (.type "dict"):=by kernel_rfl
inductive Res where
 |made (x:W)
 |wrong (ws:List W)
 |stop
inductive R where
 |mk (res:Res) (subs:List R)
noncomputable def R.res:R->Res
 |.mk r _=>r
noncomputable def Res.isMade:Res->Bool
 |.made _=>true
 |.wrong _=>false
 |.stop=>false
noncomputable def Res.toW:Res->W
 |.made x=>.lst [.txt "made",x]
 |.wrong ws=>.lst (.txt "wrong"::ws)
 |.stop=>.lst []
mutual
noncomputable def R.toW:R->W
 |.mk r subs=>.lst [r.toW,.lst (toWs subs)]
noncomputable def toWs:List R->List W
 |[]=>[]
 |r::l=>r.toW::toWs l
end
theorem zgJ:∀l:List R,(toWs l).length=l.length
 |[]=>rfl
 |_::l=>by simp only[toWs,yJ,zgJ l]
theorem zi5:∀(l:List R)(i:Nat),(toWs l)[i]?=(l[i]?).map R.toW
 |[],_=>by simp[toWs]
 |r::l,0=>by simp[toWs]
 |r::l,i+1=>by simp only[toWs,xH];exact zi5 l i
def RRes(K:tP)(H:Hp)(v:V):Res->Prop
 |.made x=>∃a u,v=.ref a/\SqT K H a [.str "made",u]/\RW H u x
 |.wrong ws=>RS K H v (.lst (.txt "wrong"::ws))
 |.stop=>v=.non
theorem RRes.mono{K:tP}{H H':Hp}(t:Same H H'){v:V}:∀{r:Res},RRes K H v r->RRes K H' v r
 |.made _,⟨a,u,e1,e2,e3⟩=>⟨a,u,e1,t.seqT e2,e3.mono (zo t)⟩
 |.wrong _,h=>RS.mono t h
 |.stop,h=>h
theorem RRes.rs{K:tP}{H:Hp}{v:V}:∀{r:Res},r≠.stop->RRes K H v r->RS K H v r.toW
 |.made _,_,⟨a,u,e1,e2,e3⟩=>by rw[e1];exact RS.two e2 (.txt _) e3.toRS
 |.wrong _,_,h=>h
 |.stop,n,_=>absurd rfl n
theorem RRes.word{K:tP}{H:Hp}{v:V}:∀{r:Res},r≠.stop->RRes K H v r->∃a us,v=.ref a/\SqT K H a (.str (if r.isMade then "made" else "wrong")::us)
 |.stop,n,_=>absurd rfl n
 |.made _,_,⟨a,u,e1,e2,e3⟩=>⟨a,[u],e1,e2⟩
 |.wrong ws,_,h=>by
  have h:RS K H v (.lst (.txt "wrong"::ws)):=h
  cases h with
  | @lst a vs _ e l at'=>
   match vs,l with
   |u::us,_=>
    have:=at' 0 u _ rfl rfl
    cases this
    exact⟨a,us,rfl,e⟩
inductive RR(K:tP)(H:Hp):V->R->Prop where
 |mk {a b:Addr}{rv:V}{vs:List V}{res:Res}{rs:List R}:H a=some (.tup [rv,.ref b])->RRes K H rv res->H b=some (.tup vs)->vs.length=rs.length->(∀(i:Nat)(v:V)(r:R),vs[i]?=some v->rs[i]?=some r->RR K H v r)->RR K H (.ref a) (.mk res rs)
theorem RR.mono{K:tP}{H H':Hp}(t:Same H H'){v:V}{r:R}(h:RR K H v r):RR K H' v r:=by
 induction h with
 |mk e1 e2 e3 l _ ih=>exact .mk (t _ _ e1) (e2.mono t) (t _ _ e3) l ih
structure RRs(K:tP)(H:Hp)(vs:List V)(rs:List R):Prop where
 len:vs.length=rs.length
 at':∀(i:Nat)(v:V)(r:R),vs[i]?=some v->rs[i]?=some r->RR K H v r
theorem RRs.mono{K:tP}{H H':Hp}(t:Same H H'){vs:List V}{rs:List R}(h:RRs K H vs rs):RRs K H' vs rs:=⟨h.len,fun i v r a b=>(h.at' i v r a b).mono t⟩
theorem RRs.nil{K:tP}{H:Hp}:RRs K H [] []:=⟨rfl,fun i v r e=>by simp at e⟩
theorem RRs.snoc{K:tP}{H:Hp}{vs:List V}{rs:List R}{v:V}{r:R}(h:RRs K H vs rs)(x:RR K H v r):RRs K H (vs++[v]) (rs++[r]):=by
 refine⟨by rw[yD,yD,h.len];rfl,fun i v' r' a b=>?_⟩
 by_cases hi:i<vs.length
 ·rw[yL hi] at a
  rw[yL (by rw[←h.len];exact hi)] at b
  exact h.at' i v' r' a b
 ·rw[yK (by lia)] at a
  rw[yK (by rw[←h.len];lia),←h.len] at b
  have e0:i-vs.length=0:=by
   have:=(yC.mp a).1
   simp at this
   lia
  rw[e0] at a b
  cases a
  cases b
  exact x
theorem RRs.one{K:tP}{H:Hp}{v:V}{r:R}(x:RR K H v r):RRs K H [v] [r]:=RRs.nil.snoc x
theorem RRs.two{K:tP}{H:Hp}{v v2:V}{r r2:R}(x:RR K H v r)(y:RR K H v2 r2):RRs K H [v,v2] [r,r2]:=(RRs.one x).snoc y
theorem RRs.rr{K:tP}{H:Hp}{a b:Addr}{rv:V}{vs:List V}{res:Res}{rs:List R}(h:RRs K H vs rs)(e1:H a=some (.tup [rv,.ref b]))(e2:RRes K H rv res)(e3:H b=some (.tup vs)):RR K H (.ref a) (.mk res rs):=.mk e1 e2 e3 h.len h.at'
theorem RR.res{K:tP}{H:Hp}{v:V}{r:R}(h:RR K H v r):∃a b rv,v=.ref a/\H a=some (.tup [rv,.ref b])/\RRes K H rv r.res:=by
 cases h with
 | @mk a b rv vs res rs e1 e2 e3 l at'=>exact⟨a,b,rv,rfl,e1,e2⟩
noncomputable def kvsB:List (Key×V):=[(.inr "let",.int 1),(.inr "each",.int 1),(.inr "over",.int 2)]
noncomputable def kvsP:List (Key×V):=[(.inr "let",.int 2),(.inr "if",.int 3),(.inr "+",.int 2),(.inr "-",.int 2),(.inr "*",.int 2),(.inr "/",.int 2),(.inr "same",.int 2),(.inr "less",.int 2),(.inr "join",.int 2),(.inr "item",.int 2),(.inr "count",.int 1),(.inr "figures",.int 1),(.inr "each",.int 2),(.inr "over",.int 3),(.inr "look",.int 1),(.inr "else",.int 2),(.inr "cry",.int 1)]
def zdA:Sp:=fun vs H Q _=>∃d:Wd,vs=[.str (wdS d)]/\Q (.bl true) H
def zgK:Sp:=fun vs H Q _=>∃d:Wd,vs=[.str (wdS d)]/\Q (.int 0) H
def zfe:Sp:=fun vs H Q _=>∃(a:Addr)(d:Wd)(us:List V),vs=[.ref a]/\H a=some (.tup (.str (wdS d)::us))/\us.length<=100/\∀(l:Addr)(H':Hp),Same H H'->H' l=some (.lst us)->H l=none->Q (.ref l) H'
def Z8(K:tP):Sp:=fun vs H Q _=>∃(v:V)(r:R),vs=[v]/\RR K H v r/\Q (.bl r.res.isMade) H
def ZV(K:tP):Sp:=fun vs H Q _=>∃(v:V)(r:R)(x:W),vs=[v]/\RR K H v r/\r.res=.made x/\∀u,RW H u x->Q u H
def zak(K:tP):Sp:=fun vs H Q _=>∃(l:Addr)(us:List V)(rs:List R)(r:R),vs=[.ref l]/\H l=some (.lst us)/\RRs K H us rs/\rs.getLast?=some r/\∀(v:V)(H':Hp),Same H H'->RR K H' v (.mk r.res rs)->Q v H'
def zi6:Sp:=fun vs H Q _=>∃(bd:Addr)(z:Str)(u:V)(kvs:List (Key×V)),vs=[.ref bd,.str z,u]/\H bd=some (.dK kvs)/\kvs.length<=1000/\∀(p:Addr)(H':Hp),Same H H'->H' p=some (.dK (putK kvs (.inr z) u))->Q (.ref p) H'
theorem za4{us:List V}{v:V}(e:us[us.length-1]?=some v)(h:0<us.length):atI us (-1)=some v:=by
 have h1:=Zg e
 rw[show us.length-1+1=us.length by lia,wP] at h1
 rw[h1]
 exact zcn _ _
theorem zff:FnScope ["word"] ["word"] (zr zbm):=mkSc rfl (by decide +kernel)
theorem zfg(F:Fun K "has_parts" "has_parts" zbm f fd){g_PARTS:Addr}(m_PARTS:mg "PARTS"=some (.ref g_PARTS))(d_PARTS:MD P w K g_PARTS kvsP):FnOk P w K mg base CX0 (k+1) f fd ["word"] (zdA):=by
 refine F.okQ zff (by rintro _ _ _ _ ⟨_,rfl,_⟩;rfl) fun cdv A outer s H vs Q E hr h=>?_
 obtain⟨d,rfl,q⟩:=h
 refine⟨_,(zq (zw (zlk (Zh Z0 (pv 0) zA (nomark _)) (zaC (Zh zkZ (pv 0) (Zd (v:=.ref g_PARTS) rfl m_PARTS rfl) (by rfl)))))),?_⟩
 refine⟨_,rfl,rfl,_,rfl,?_⟩
 refine ite2 (fun e=>?_) (fun e=>?_)
 ·exact q
 refine⟨_,rfl,g_PARTS,kvsP,.inr (wdS d),rfl,rfl,d_PARTS,?_⟩
 have hs:(valV kvsP (.inr (wdS d))).isSome=true:=by
  cases d
  case list=>exact absurd rfl e
  all_goals rfl
 rw[hs]
 exact q
theorem zch:FnScope ["word"] ["word"] (zr zar):=mkSc rfl (by decide +kernel)
theorem zci(F:Fun K "binding_count" "binding_count" zar f fd){g_BINDING:Addr}(m_BINDING:mg "BINDING"=some (.ref g_BINDING))(d_BINDING:MD P w K g_BINDING kvsB):FnOk P w K mg base CX0 (k+1) f fd ["word"] (zgK):=by
 refine F.okQ zch (by rintro _ _ _ _ ⟨_,rfl,_⟩;rfl) fun cdv A outer s H vs Q E hr h=>?_
 obtain⟨d,rfl,q⟩:=h
 refine⟨_,(zq (zw (zd7 (Zd (v:=.ref g_BINDING) rfl m_BINDING rfl) (pv 0) zk ⟨rfl,rfl,rfl,rfl⟩))),?_⟩
 refine⟨g_BINDING,kvsB,rfl,d_BINDING,_,rfl,.inr (wdS d),rfl,?_⟩
 have hs:valV kvsB (.inr (wdS d))=none:=by cases d<;>rfl
 rw[hs]
 exact q
theorem zc5:FnScope ["expression","word"] ["expression"] (zr zbU):=mkSc rfl (by decide +kernel)
theorem zf5(F:Fun K "parts_of" "parts_of" zbU f fd)(G_binding_count:Have P w K mg base "binding_count" k ["word"] (zgK))(G_has_parts:Have P w K mg base "has_parts" k ["word"] (zdA))(m_list:mg "list"=none):FnOk P w K mg base CX0 (k+1) f fd ["expression"] (zfe):=by
 refine F.okQ zc5 (by rintro _ _ _ _ ⟨_,_,_,rfl,_⟩;rfl) fun cdv A outer s H vs Q E hr h=>?_
 obtain⟨a,d,us,rfl,ha,hl,q⟩:=h
 refine⟨_,(zj (zG (i:=1) zc5.nd rfl (Or.inl rfl) (zx zD (pv 0) zk (fun _ _=>rfl)))
  (zj (zN (ZK (zZ (zy G_has_parts hr rfl (zc (pv 1) zi)))) (zq (zw (Zb zi))) zC)
  (zq (zw (zJ Z9 rfl m_list zaG (zc (zag zig (pv 0) (zaz (zK ZP zk (zy G_binding_count hr rfl (zc (pv 1) zi)))) zaW) zi)))))),?_⟩
 refine⟨_,rfl,a,_,0,_,rfl,rfl,Sq ha,zt (j:=0) rfl,?_⟩
 refine⟨_,rfl,d,rfl,_,rfl,iteF ?_⟩
 refine⟨_,rfl,_,rfl,d,rfl,_,_,rfl,rfl,_,rfl,a,_,rfl,Sq ha,?_,fun p hp=>?_⟩
 ·intro h
  have h1:HT.sIx (V.str (wdS d)::us).length 0 (some ((1:Nat):Int))=0:=h.1
  rw[HT.sIx_nat,yJ] at h1
  lia
 have e:cutV (V.str (wdS d)::us) (some (1+0)) none=us:=by
  show ((V.str (wdS d)::us).drop (HT.sIx (V.str (wdS d)::us).length 0 (some ((1:Nat):Int)))).take ((V.str (wdS d)::us).length-HT.sIx (V.str (wdS d)::us).length 0 (some ((1:Nat):Int)))=us
  rw[HT.sIx_nat,yJ,show min 1 (us.length+1)=1 by lia]
  simp
 have s1:=Sn (o:=.tup (cutV (V.str (wdS d)::us) (some (1+0)) none)) hp
 refine⟨p,us,rfl,.inr (Sq (by rw[zf];exact congrArg _ (congrArg _ e))),fun l hl=>q l _ (s1.trans (Sn hl)) zf (s1.free hl)⟩
theorem zhF:FnScope ["record"] ["record"] (zr zcR):=mkSc rfl (by decide +kernel)
theorem zhG(F:Fun K "is_made" "is_made" zcR f fd):FnOk P w K mg base CX0 (k+1) f fd ["record"] (Z8 K):=by
 refine F.okQ zhF (by rintro _ _ _ _ ⟨_,_,rfl,_⟩;rfl) fun cdv A outer s H vs Q E hr h=>?_
 obtain⟨v,r,rfl,rr,q⟩:=h
 refine⟨_,(zq (zw (zas (zeG (zax (zx zD (pv 0) zk (fun _ _=>rfl)))) (zaC (Zh Z0 (zx zD (zx zD (pv 0) zk (fun _ _=>rfl)) zk (fun _ _=>rfl)) zA (nomark _)))))),?_⟩
 obtain⟨a,b,rv,rfl,ea,rres⟩:=rr.res
 by_cases hst:r.res=.stop
 ·rw[hst] at rres q
  obtain rfl:rv=.non:=rres
  exact⟨_,rfl,a,_,0,_,rfl,rfl,Sq ea,rfl,_,rfl,iteF q⟩
 obtain⟨c,us,rfl,ec⟩:=rres.word hst
 refine⟨_,rfl,a,_,0,_,rfl,rfl,Sq ea,rfl,?_⟩
 refine⟨_,rfl,iteT ⟨_,rfl,a,_,0,_,rfl,rfl,Sq ea,rfl,c,_,0,_,rfl,rfl,ec,zt (j:=0) rfl,rfl,?_⟩⟩
 cases hm:r.res.isMade with
 |true=>rw[hm] at q;exact q
 |false=>rw[hm] at q;exact q
theorem zf6:FnScope ["record"] ["record"] (zr zbV):=mkSc rfl (by decide +kernel)
theorem zf7(F:Fun K "worth_of" "worth_of" zbV f fd):FnOk P w K mg base CX0 (k+1) f fd ["record"] (ZV K):=by
 refine F.okQ zf6 (by rintro _ _ _ _ ⟨_,_,_,rfl,_⟩;rfl) fun cdv A outer s H vs Q E hr h=>?_
 obtain⟨v,r,x,rfl,rr,e,q⟩:=h
 refine⟨_,(zq (zw (zx zD (zx zD (pv 0) zk (fun _ _=>rfl)) zk (fun _ _=>rfl)))),?_⟩
 obtain⟨a,b,rv,rfl,ea,rres⟩:=rr.res
 rw[e] at rres
 obtain⟨c,u,rfl,ec,ru⟩:=rres
 exact⟨_,rfl,a,_,0,_,rfl,rfl,Sq ea,rfl,c,_,1,_,rfl,rfl,ec,rfl,q u ru⟩
theorem zhH:FnScope ["records"] ["records"] (zr zcS):=mkSc rfl (by decide +kernel)
theorem zhI(F:Fun K "as_last" "as_last" zcS f fd)(m_tuple:mg "tuple"=none):FnOk P w K mg base CX0 (k+1) f fd ["records"] (zak K):=by
 refine F.okQ zhH (by rintro _ _ _ _ ⟨_,_,_,_,rfl,_⟩;rfl) fun cdv A outer s H vs Q E hr h=>?_
 obtain⟨l,us,rs,r,rfl,hl,hrs,hr',q⟩:=h
 refine⟨_,(zq (zw (zE (zc (zx zD (zx zF (pv 0) (zcy zbx zk) (fun _ _=>rfl)) zk (fun _ _=>rfl)) (zc (zJ Zf rfl m_tuple zM (zc (pv 0) zi)) zi))))),?_⟩
 have hne:rs≠[]:=fun z=>by rw[z] at hr';cases hr'
 have hn:0<rs.length:=vM.mpr hne
 have hl':=hrs.len
 have e1:us[us.length-1]?=some us[us.length-1]:=yA (by lia)
 have e2:rs[us.length-1]?=some r:=by rw[hl',←List.getLast?_eq_getElem?];exact hr'
 have rr:=hrs.at' _ _ _ e1 e2
 obtain⟨a,b,rv,ev,ea,rres⟩:=rr.res
 refine⟨_,rfl,_,rfl,l,us,-1,us[us.length-1],rfl,rfl,Sl hl,za4 e1 (by lia),a,_,0,_,ev,rfl,Sq ea,rfl,_,rfl,l,us,rfl,.inl ⟨Sl hl,fun t ht=>⟨zl2,fun a2 ha2=>?_⟩⟩⟩
 have s1:=Sn (o:=.tup us) ht
 have s2:=Sn (o:=.tup [rv,.ref t]) ha2
 have s3:=s1.trans s2
 exact q _ _ s3 ((hrs.mono s3).rr zf (rres.mono s3) (s2 _ _ zf))
theorem zdB:FnScope ["bound","name","worth","inner"] ["bound","name","worth"] (zr zcT):=mkSc rfl (by decide +kernel)
theorem zhJ(F:Fun K "binding" "binding" zcT f fd)(m_dict:mg "dict"=none):FnOk P w K mg base CX0 (k+1) f fd ["bound","name","worth"] (zi6):=by
 refine F.okQ zdB (by rintro _ _ _ _ ⟨_,_,_,_,rfl,_⟩;rfl) fun cdv A outer s H vs Q E hr h=>?_
 obtain⟨bd,z,u,kvs,rfl,hb,hk,q⟩:=h
 refine⟨_,(zj (zG (i:=3) zdB.nd rfl (Or.inl rfl) (zJ ze2 rfl m_dict zhE (zc (pv 0) zi)))
  (zj (zfI (zmS hr) (pv 3) (pv 1) (pv 2) rfl)
  (zq (zw (pv 3))))),?_⟩
 refine⟨_,rfl,bd,kvs,rfl,hb,fun p hp=>?_⟩
 refine⟨_,rfl,_,rfl,_,rfl,p,_,rfl,DPut.k (k:=.inr z) zf (xS hk (by decide)),_,rfl,q _ _ (fun c o e=>?_) zf⟩
 rw[zu (zm e hp),zu (zm e hp)]
 exact e
abbrev Env:=Str->Option W
abbrev Ns:=List Str
noncomputable def put(e:Env)(s:Str)(x:W):Env:=fun t=>if t=s then some x else e t
inductive Ex where
 |lit (x:W)
 |var (s:Str)
 |letE (s:Str) (a b:Ex)
 |ifE (a b c:Ex)
 |elseE (a b:Ex)
 |cryE (a:Ex)
 |lookE (a:Ex)
 |reck (d:Wd) (es:List Ex)
 |eachE (s:Str) (a b:Ex)
mutual
noncomputable def Ex.toW:Ex->W
 |.lit x=>.lst [.txt "lit",x]
 |.var s=>.lst [.txt "var",.txt s]
 |.letE s a b=>.lst [.txt "let",.txt s,a.toW,b.toW]
 |.ifE a b c=>.lst [.txt "if",a.toW,b.toW,c.toW]
 |.elseE a b=>.lst [.txt "else",a.toW,b.toW]
 |.cryE a=>.lst [.txt "cry",a.toW]
 |.lookE a=>.lst [.txt "look",a.toW]
 |.reck d es=>.lst (.txt (wdS d)::exWs es)
 |.eachE s a b=>.lst [.txt "each",.txt s,a.toW,b.toW]
noncomputable def exWs:List Ex->List W
 |[]=>[]
 |e::es=>e.toW::exWs es
end
mutual
noncomputable def Ex.high:Ex->Nat
 |.lit _=>1
 |.var _=>1
 |.letE _ a b=>1+max a.high b.high
 |.ifE a b c=>1+max a.high (max b.high c.high)
 |.elseE a b=>1+max a.high b.high
 |.cryE a=>1+a.high
 |.lookE a=>1+a.high
 |.reck _ es=>1+highs es
 |.eachE _ a b=>1+max a.high b.high
noncomputable def highs:List Ex->Nat
 |[]=>0
 |e::es=>max e.high (highs es)
end
noncomputable def zbb:W->Res
 |.lst [_,x]=>.made x
 |.lst (_::ws)=>.wrong ws
 |_=>.wrong []
noncomputable def R.worth:R->W
 |.mk (.made x) _=>x
 |.mk _ _=>.num 0
noncomputable def zQ(f:W->Ns->R×Ns):List W->Ns->List R×Ns
 |[],ns=>([],ns)
 |w::ws,ns=>if (f w ns).1.res.isMade then ((f w ns).1::(zQ f ws (f w ns).2).1,(zQ f ws (f w ns).2).2) else ([(f w ns).1],(f w ns).2)
def zb8(f:W->Ns->R×Ns)(p:W->Ns->Prop):List W->Ns->Prop
 |[],_=>True
 |w::ws,ns=>p w ns/\((f w ns).1.res.isMade=true->zb8 f p ws (f w ns).2)
noncomputable def zaT(l:List R)(r:R):R:=(l.getLast?).getD r
noncomputable def Zp(l:List R):Bool:=l.all fun r=>r.res.isMade
noncomputable def found(fs:List Res)(n:Nat):Res:=(fs[n]?).getD .stop
section
variable(fs:List Res)
mutual
noncomputable def ev:Ex->Env->Ns->R×Ns
 |.lit x,_,ns=>(.mk (.made x) [],ns)
 |.var s,e,ns=>(.mk (.made ((e s).getD (.num 0))) [],ns)
 |.letE s a b,e,ns=>match (ev a e ns).1.res with
  |.made x=>(.mk (ev b (put e s x) (ev a e ns).2).1.res [(ev a e ns).1,(ev b (put e s x) (ev a e ns).2).1],(ev b (put e s x) (ev a e ns).2).2)
  |r=>(.mk r [(ev a e ns).1],(ev a e ns).2)
 |.ifE a b c,e,ns=>match (ev a e ns).1.res with
  |.made (.num i)=>if i=0 then (.mk (ev c e (ev a e ns).2).1.res [(ev a e ns).1,(ev c e (ev a e ns).2).1],(ev c e (ev a e ns).2).2) else (.mk (ev b e (ev a e ns).2).1.res [(ev a e ns).1,(ev b e (ev a e ns).2).1],(ev b e (ev a e ns).2).2)
  |.made _=>(.mk (.wrong [.txt "kind",.txt ""]) [(ev a e ns).1],(ev a e ns).2)
  |r=>(.mk r [(ev a e ns).1],(ev a e ns).2)
 |.elseE a b,e,ns=>match (ev a e ns).1.res with
  |.wrong _=>(.mk (ev b e (ev a e ns).2).1.res [(ev a e ns).1,(ev b e (ev a e ns).2).1],(ev b e (ev a e ns).2).2)
  |r=>(.mk r [(ev a e ns).1],(ev a e ns).2)
 |.cryE a,e,ns=>match (ev a e ns).1.res with
  |.made x=>(.mk (.wrong [.txt "cried",x]) [(ev a e ns).1],(ev a e ns).2)
  |r=>(.mk r [(ev a e ns).1],(ev a e ns).2)
 |.lookE a,e,ns=>match (ev a e ns).1.res with
  |.made (.txt s)=>(.mk (found fs (ev a e ns).2.length) [(ev a e ns).1],(ev a e ns).2++[s])
  |.made _=>(.mk (.wrong [.txt "kind",.txt ""]) [(ev a e ns).1],(ev a e ns).2)
  |r=>(.mk r [(ev a e ns).1],(ev a e ns).2)
 |.reck d es,e,ns=>if Zp (evs es e ns).1 then (.mk (zbb (recW d ((evs es e ns).1.map R.worth))) (evs es e ns).1,(evs es e ns).2) else (.mk (zaT (evs es e ns).1 (.mk (.made (.num 0)) [])).res (evs es e ns).1,(evs es e ns).2)
 |.eachE s a b,e,ns=>match (ev a e ns).1.res with
  |.made (.lst ws)=>if ws.length > 10 then (.mk (.wrong [.txt "great",.txt ""]) [(ev a e ns).1],(ev a e ns).2) else
    if Zp (zQ (fun w m=>ev b (put e s w) m) ws (ev a e ns).2).1 then (.mk (zbb (zab (.lst ((zQ (fun w m=>ev b (put e s w) m) ws (ev a e ns).2).1.map R.worth)))) ((ev a e ns).1::(zQ (fun w m=>ev b (put e s w) m) ws (ev a e ns).2).1),(zQ (fun w m=>ev b (put e s w) m) ws (ev a e ns).2).2)
    else (.mk (zaT (zQ (fun w m=>ev b (put e s w) m) ws (ev a e ns).2).1 (ev a e ns).1).res ((ev a e ns).1::(zQ (fun w m=>ev b (put e s w) m) ws (ev a e ns).2).1),(zQ (fun w m=>ev b (put e s w) m) ws (ev a e ns).2).2)
  |.made _=>(.mk (.wrong [.txt "kind",.txt ""]) [(ev a e ns).1],(ev a e ns).2)
  |r=>(.mk r [(ev a e ns).1],(ev a e ns).2)
noncomputable def evs:List Ex->Env->Ns->List R×Ns
 |[],_,ns=>([],ns)
 |x::xs,e,ns=>if (ev x e ns).1.res.isMade then ((ev x e ns).1::(evs xs e (ev x e ns).2).1,(evs xs e (ev x e ns).2).2) else ([(ev x e ns).1],(ev x e ns).2)
end
mutual
def Fine:Ex->Env->Ns->Prop
 |.lit _,_,_=>True
 |.var s,e,_=>∃x,e s=some x
 |.letE s a b,e,ns=>Fine a e ns/\∀x,(ev fs a e ns).1.res=.made x->Fine b (put e s x) (ev fs a e ns).2
 |.ifE a b c,e,ns=>Fine a e ns/\∀i,(ev fs a e ns).1.res=.made (.num i)->(i≠0->Fine b e (ev fs a e ns).2)/\(i=0->Fine c e (ev fs a e ns).2)
 |.elseE a b,e,ns=>Fine a e ns/\∀w,(ev fs a e ns).1.res=.wrong w->Fine b e (ev fs a e ns).2
 |.cryE a,e,ns=>Fine a e ns
 |.lookE a,e,ns=>Fine a e ns/\(ev fs a e ns).2.length<=1000
 |.reck d es,e,ns=>es.length<=100/\Fines es e ns/\(Zp (evs fs es e ns).1=true->Oks ((evs fs es e ns).1.map R.worth)/\depths ((evs fs es e ns).1.map R.worth)<=12/\(evs fs es e ns).1.length<=8/\arity d (evs fs es e ns).1.length)
 |.eachE s a b,e,ns=>Fine a e ns/\∀ws,(ev fs a e ns).1.res=.made (.lst ws)->zb8 (fun w m=>ev fs b (put e s w) m) (fun w m=>Fine b (put e s w) m) ws (ev fs a e ns).2/\Ths ((zQ (fun w m=>ev fs b (put e s w) m) ws (ev fs a e ns).2).1.map R.worth)/\depths ((zQ (fun w m=>ev fs b (put e s w) m) ws (ev fs a e ns).2).1.map R.worth)<=12
def Fines:List Ex->Env->Ns->Prop
 |[],_,_=>True
 |x::xs,e,ns=>Fine x e ns/\((ev fs x e ns).1.res.isMade=true->Fines xs e (ev fs x e ns).2)
end
end
def EnvR(H:Hp)(kvs:List (Key×V))(e:Env):Prop:=∀s x,e s=some x->∃v,valV kvs (.inr s)=some v/\RW H v x
theorem EnvR.mono{H H':Hp}{kvs:List (Key×V)}{e:Env}(h:EnvR H kvs e)(s:Same H H'):EnvR H' kvs e:=fun z x hx=>let ⟨v,h1,h2⟩:=h z x hx;⟨v,h1,h2.mono (zo s)⟩
theorem EnvR.put{H:Hp}{kvs:List (Key×V)}{e:Env}(h:EnvR H kvs e){s:Str}{u:V}{x:W}(r:RW H u x):EnvR H (putK kvs (.inr s) u) (put e s x):=fun z y hy=>by
 unfold D.put at hy
 rw[zjL]
 by_cases hz:z=s
 ·rw[if_pos hz] at hy
  cases hy
  exact⟨u,by rw[if_pos (by rw[hz])],r⟩
 ·rw[if_neg hz] at hy
  obtain⟨v,h1,h2⟩:=h z y hy
  exact⟨v,by rw[if_neg (fun q=>hz (by simpa using q))];exact h1,h2⟩
theorem RW.tup{H:Hp}{u:V}{ws:List W}(h:RW H u (.lst ws)):∃a vs,u=.ref a/\H a=some (.tup vs)/\RWs H vs ws:=by
 cases h with
 | @lst a vs _ e l at'=>exact⟨a,vs,rfl,e,l,at'⟩
theorem RWs.cons{H:Hp}{vs:List V}{x:W}{ws:List W}(h:RWs H vs (x::ws)):∃u us,vs=u::us/\RW H u x/\RWs H us ws:=by
 match vs,h.len with
 |u::us,hl=>exact⟨u,us,rfl,h.at' 0 u x rfl rfl,by simpa using hl,fun i v w a b=>h.at' (i+1) v w a b⟩
theorem RWs.nil'{H:Hp}{vs:List V}(h:RWs H vs []):vs=[]:=xL.mp h.len
theorem RW.str{H:Hp}{u:V}{s:Str}(h:RW H u (.txt s)):u=.str s:=by cases h;rfl
def Kb(p:Addr)(H H':Hp):Prop:=∀c o,c≠p->H c=some o->H' c=some o
theorem Kb.put{p:Addr}{H:Hp}{o:HO}:Kb p H (upd H p o):=fun c u hc e=>by rw[zu hc];exact e
theorem Kb.seqT{K:tP}{p:Addr}{H H':Hp}{ts:List V}(e:Kb p H H')(hp:H p=some (.lst ts)){a:Addr}{xs:List V}(h:SqT K H a xs):SqT K H' a xs:=by
 rcases h with (h|⟨o,h⟩)|h
 ·exact .inl (.inl (e _ _ (fun z=>by rw[z,hp] at h;cases h) h))
 ·exact .inl (.inr ⟨o,e _ _ (fun z=>by rw[z,hp] at h;cases h) h⟩)
 ·exact .inr h
theorem Kb.rs{K:tP}{p:Addr}{H H':Hp}{ts:List V}(e:Kb p H H')(hp:H p=some (.lst ts)){v:V}{w:W}(h:RS K H v w):RS K H' v w:=by
 induction h with
 |num i=>exact .num i
 |txt x=>exact .txt x
 |lst e1 l _ ih=>exact .lst (e.seqT hp e1) l ih
theorem Kb.tups{p:Addr}{H H':Hp}{ts:List V}(e:Kb p H H')(hp:H p=some (.lst ts)):Tups H H':=fun a vs h=>e _ _ (fun z=>by rw[z,hp] at h;cases h) h
theorem Kb.res{K:tP}{p:Addr}{H H':Hp}{ts:List V}(e:Kb p H H')(hp:H p=some (.lst ts)){v:V}:∀{r:Res},RRes K H v r->RRes K H' v r
 |.made _,⟨a,u,e1,e2,e3⟩=>⟨a,u,e1,e.seqT hp e2,e3.mono (e.tups hp)⟩
 |.wrong _,h=>Kb.rs e hp h
 |.stop,h=>h
theorem Kb.rr{K:tP}{p:Addr}{H H':Hp}{ts:List V}(e:Kb p H H')(hp:H p=some (.lst ts)){v:V}{r:R}(h:RR K H v r):RR K H' v r:=by
 induction h with
 |mk e1 e2 e3 l _ ih=>exact .mk (e.tups hp _ _ e1) (e.res hp e2) (e.tups hp _ _ e3) l ih
theorem Kb.rrs{K:tP}{p:Addr}{H H':Hp}{ts:List V}(e:Kb p H H')(hp:H p=some (.lst ts)){vs:List V}{rs:List R}(h:RRs K H vs rs):RRs K H' vs rs:=⟨h.len,fun i v r a b=>e.rr hp (h.at' i v r a b)⟩
def fR(l1 l2:Addr):List (Str×V):=putF "names" (.ref l2) (putF "founds" (.ref l1) [])
theorem zbG(l1 l2:Addr):(fR l1 l2).lookup ("names":Str)=some (.ref l2):=by
 unfold fR
 rw[ZH,if_pos rfl]
theorem zfh(l1 l2:Addr):(fR l1 l2).lookup ("founds":Str)=some (.ref l1):=by
 unfold fR
 rw[ZH,if_neg (by decide +kernel),ZH,if_pos rfl]
theorem zme(l1 l2:Addr):(fR l1 l2).lookup ("look":Str)=none:=by
 unfold fR
 rw[ZH,if_neg (by decide +kernel),ZH,if_neg (by decide +kernel)]
 rfl
structure G(l:Addr)(H H':Hp):Prop where
 k:Kb l H H'
 l:∃xs,H l=some (.lst xs)
structure Rn(K:tP)(AR:Addr)(fs:List Res)(rp l1 l:Addr)(H:Hp)(ns:Ns):Prop where
 ins:∃dx,H rp=some (.ins AR dx (fR l1 l))
 fo:∃us,H l1=some (.lst us)/\us.length=fs.length/\∀(i:Nat)(u:V)(r:Res),us[i]?=some u->fs[i]?=some r->RRes K H u r
 na:H l=some (.lst (ns.map V.str))
 ne:l1≠l
 few:fs.length<=1000
section
variable{K:tP}{AR rp l1 l:Addr}{fs:List Res}{H H1 H2:Hp}{ns:Ns}
theorem G.trans(a:G l H H1)(b:G l H1 H2):G l H H2:=⟨fun c o hc e=>b.k c o hc (a.k c o hc e),a.l⟩
theorem G.same(a:G l H H1)(b:Same H1 H2):G l H H2:=⟨fun c o hc e=>b c o (a.k c o hc e),a.l⟩
theorem Rn.g(r:Rn K AR fs rp l1 l H ns)(s:Same H H1):G l H H1:=⟨fun c o _ e=>s c o e,_,r.na⟩
theorem Rn.same(r:Rn K AR fs rp l1 l H ns)(s:Same H H1):Rn K AR fs rp l1 l H1 ns:=by
 obtain⟨dx,e1⟩:=r.ins
 obtain⟨us,e2,e3,e4⟩:=r.fo
 exact⟨⟨dx,s _ _ e1⟩,⟨us,s _ _ e2,e3,fun i u r a b=>(e4 i u r a b).mono s⟩,s _ _ r.na,r.ne,r.few⟩
theorem G.ts(g:G l H H1):Tups H H1:=let ⟨_,e⟩:=g.l;g.k.tups e
theorem G.t(g:G l H H1){a:Addr}{vs:List V}(e:H a=some (.tup vs)):H1 a=some (.tup vs):=g.ts a vs e
theorem G.d(g:G l H H1){a:Addr}{kvs:List (Key×V)}(e:H a=some (.dK kvs)):H1 a=some (.dK kvs):=by
 obtain⟨_,e'⟩:=g.l
 exact g.k _ _ (fun z=>by rw[z,e'] at e;cases e) e
theorem G.rr(g:G l H H1){v:V}{r:R}(h:RR K H v r):RR K H1 v r:=let ⟨_,e⟩:=g.l;g.k.rr e h
theorem G.rrs(g:G l H H1){vs:List V}{rs:List R}(h:RRs K H vs rs):RRs K H1 vs rs:=let ⟨_,e⟩:=g.l;g.k.rrs e h
theorem G.sq(g:G l H H1){a:Addr}{xs:List V}(h:SqT K H a xs):SqT K H1 a xs:=let ⟨_,e⟩:=g.l;g.k.seqT e h
theorem G.env(g:G l H H1){kvs:List (Key×V)}{e:Env}(h:EnvR H kvs e):EnvR H1 kvs e:=fun z x hx=>let ⟨v,h1,h2⟩:=h z x hx;⟨v,h1,h2.mono g.ts⟩
end
def spG(K:tP)(AR:Addr)(n:Nat)(pre:Ex->Prop):Sp:=fun vs H Q _=>∃(fs:List Res)(rp l1 l:Addr)(u:V)(bd:Addr)(kvs:List (Key×V))(e:Env)(x:Ex)(ns:Ns),vs=[.ref rp,u,.ref bd]/\Rn K AR fs rp l1 l H ns/\RW H u x.toW/\H bd=some (.dK kvs)/\kvs.length+2*n<=1000/\EnvR H kvs e/\x.high<=n/\Fine fs x e ns/\pre x /\
 ∀(v:V)(H':Hp),G l H H'->Rn K AR fs rp l1 l H' (ev fs x e ns).2->RR K H' v (ev fs x e ns).1->Q v H'
def zi7(K:tP)(AR:Addr):Sp:=fun vs H Q _=>∃(fs:List Res)(rp l1 l:Addr)(z:Str)(ns:Ns),vs=[.ref rp,.str z]/\Rn K AR fs rp l1 l H ns/\ns.length<=1000/\∀(v:V)(H':Hp),G l H H'->Rn K AR fs rp l1 l H' (ns++[z])->RRes K H' v (found fs ns.length)->Q v H'
section
variable{fs:List Res}{s t z:Str}{a b c:Ex}{e:Env}{ns:Ns}{x:W}{w:List W}{i:Int}
theorem zef(h:(ev fs a e ns).1.res=.made x):ev fs (.letE s a b) e ns=(.mk (ev fs b (put e s x) (ev fs a e ns).2).1.res [(ev fs a e ns).1,(ev fs b (put e s x) (ev fs a e ns).2).1],(ev fs b (put e s x) (ev fs a e ns).2).2):=by rw[ev,h]
theorem zeg(h:(ev fs a e ns).1.res.isMade=false):ev fs (.letE s a b) e ns=(.mk (ev fs a e ns).1.res [(ev fs a e ns).1],(ev fs a e ns).2):=by
 rw[ev]
 cases hr:(ev fs a e ns).1.res with
 |made x=>rw[hr] at h;cases h
 |wrong ws=>rfl
 |stop=>rfl
theorem zi8(h:(ev fs a e ns).1.res.isMade=false):ev fs (.ifE a b c) e ns=(.mk (ev fs a e ns).1.res [(ev fs a e ns).1],(ev fs a e ns).2):=by
 rw[ev]
 cases hr:(ev fs a e ns).1.res with
 |made x=>rw[hr] at h;cases h
 |wrong ws=>rfl
 |stop=>rfl
theorem zgL(h:(ev fs a e ns).1.res=.made (.num 0)):ev fs (.ifE a b c) e ns=(.mk (ev fs c e (ev fs a e ns).2).1.res [(ev fs a e ns).1,(ev fs c e (ev fs a e ns).2).1],(ev fs c e (ev fs a e ns).2).2):=by rw[ev,h];rfl
theorem zgM(h:(ev fs a e ns).1.res=.made (.num i))(hi:i≠0):ev fs (.ifE a b c) e ns=(.mk (ev fs b e (ev fs a e ns).2).1.res [(ev fs a e ns).1,(ev fs b e (ev fs a e ns).2).1],(ev fs b e (ev fs a e ns).2).2):=by
 rw[ev,h]
 exact if_neg hi
theorem zfi(h:(ev fs a e ns).1.res=.made x)(hx:ZA x=false):ev fs (.ifE a b c) e ns=(.mk (.wrong [.txt "kind",.txt ""]) [(ev fs a e ns).1],(ev fs a e ns).2):=by
 rw[ev,h]
 cases x with
 |num i=>cases hx
 |txt _=>rfl
 |lst _=>rfl
theorem zcq(h:(ev fs a e ns).1.res=.wrong w):ev fs (.elseE a b) e ns=(.mk (ev fs b e (ev fs a e ns).2).1.res [(ev fs a e ns).1,(ev fs b e (ev fs a e ns).2).1],(ev fs b e (ev fs a e ns).2).2):=by rw[ev,h]
theorem zau(h:∀w,(ev fs a e ns).1.res≠.wrong w):ev fs (.elseE a b) e ns=(.mk (ev fs a e ns).1.res [(ev fs a e ns).1],(ev fs a e ns).2):=by
 rw[ev]
 cases hr:(ev fs a e ns).1.res with
 |made x=>rfl
 |wrong ws=>exact absurd hr (h ws)
 |stop=>rfl
theorem zeh(h:(ev fs a e ns).1.res=.made x):ev fs (.cryE a) e ns=(.mk (.wrong [.txt "cried",x]) [(ev fs a e ns).1],(ev fs a e ns).2):=by rw[ev,h]
theorem zf8(h:(ev fs a e ns).1.res.isMade=false):ev fs (.cryE a) e ns=(.mk (ev fs a e ns).1.res [(ev fs a e ns).1],(ev fs a e ns).2):=by
 rw[ev]
 cases hr:(ev fs a e ns).1.res with
 |made x=>rw[hr] at h;cases h
 |wrong ws=>rfl
 |stop=>rfl
theorem zcr(h:(ev fs a e ns).1.res=.made (.txt z)):ev fs (.lookE a) e ns=(.mk (found fs (ev fs a e ns).2.length) [(ev fs a e ns).1],(ev fs a e ns).2++[z]):=by rw[ev,h]
theorem zei(h:(ev fs a e ns).1.res.isMade=false):ev fs (.lookE a) e ns=(.mk (ev fs a e ns).1.res [(ev fs a e ns).1],(ev fs a e ns).2):=by
 rw[ev]
 cases hr:(ev fs a e ns).1.res with
 |made x=>rw[hr] at h;cases h
 |wrong ws=>rfl
 |stop=>rfl
theorem zbH(h:(ev fs a e ns).1.res=.made x)(hx:∀z,x≠.txt z):ev fs (.lookE a) e ns=(.mk (.wrong [.txt "kind",.txt ""]) [(ev fs a e ns).1],(ev fs a e ns).2):=by
 rw[ev,h]
 cases x with
 |num i=>rfl
 |txt z=>exact absurd rfl (hx z)
 |lst _=>rfl
end
theorem zi9:FnScope ["run","expression","bound"] ["run","expression","bound"] (zr zdT):=mkSc rfl (by decide +kernel)
theorem zja(F:Fun K "go_lit" "go_lit" zdT f fd):FnOk P w K mg base CX0 (k+1) f fd ["run","expression","bound"] (spG K ARun (n+1) (fun x=>∃y,x=.lit y)):=by
 refine F.okQ zi9 (by rintro _ _ _ _ ⟨_,_,_,_,_,_,_,_,_,_,rfl,_⟩;rfl) fun cdv A outer s H vs Q E hr h=>?_
 obtain⟨fs,rp,l1,l,u,bd,kvs,e,x,ns,rfl,rn,ru,hb,hk,he,hh,hf,⟨y,rfl⟩,q⟩:=h
 obtain⟨a,vs,rfl,ea,hw⟩:=ru.tup
 obtain⟨u0,us,rfl,r0,hw⟩:=hw.cons
 obtain⟨u1,us,rfl,r1,hw⟩:=hw.cons
 cases hw.nil'
 refine⟨_,(zq (zw (zE (zc (zE (zc zA (zc (zx zD (pv 1) zk (fun _ _=>rfl)) zi))) (zc (zE zi) zi))))),?_⟩
 refine⟨_,rfl,a,_,1,_,rfl,rfl,Sq ea,rfl,zl2,fun p hp=>⟨zl0,fun p2 hp2=>⟨zl2,fun p3 hp3=>?_⟩⟩⟩
 have s1:=Sn (o:=.tup [.str "made",u1]) hp
 have s2:=Sn (o:=.tup []) hp2
 have s3:=Sn (o:=.tup [.ref p,.ref p2]) hp3
 have s13:=(s1.trans s2).trans s3
 exact q _ _ (rn.g s13) (rn.same s13) (RRs.nil.rr zf ⟨p,u1,rfl,Sq ((s2.trans s3) _ _ zf),r1.mono (zo s13)⟩ (s3 _ _ zf))
theorem zjb:FnScope ["run","expression","bound"] ["run","expression","bound"] (zr zdU):=mkSc rfl (by decide +kernel)
theorem zjc(F:Fun K "go_var" "go_var" zdU f fd):FnOk P w K mg base CX0 (k+1) f fd ["run","expression","bound"] (spG K ARun (n+1) (fun x=>∃s,x=.var s)):=by
 refine F.okQ zjb (by rintro _ _ _ _ ⟨_,_,_,_,_,_,_,_,_,_,rfl,_⟩;rfl) fun cdv A outer s H vs Q E hr h=>?_
 obtain⟨fs,rp,l1,l,u,bd,kvs,e,x,ns,rfl,rn,ru,hb,hk,he,hh,hf,⟨z,rfl⟩,q⟩:=h
 obtain⟨x0,hf⟩:∃x,e z=some x:=by simpa only [Fine] using hf
 obtain⟨a,vs,rfl,ea,hw⟩:=ru.tup
 obtain⟨u0,us,rfl,r0,hw⟩:=hw.cons
 obtain⟨u1,us,rfl,r1,hw⟩:=hw.cons
 cases hw.nil'
 cases r1.str
 obtain⟨v,hv,rv⟩:=he z x0 hf
 refine⟨_,(zq (zw (zE (zc (zE (zc zA (zc (zfH (zmS hr) (pv 2) (zx zD (pv 1) zk (fun _ _=>rfl)) (fun _ _=>rfl)) zi))) (zc (zE zi) zi))))),?_⟩
 refine⟨_,rfl,_,rfl,a,_,1,_,rfl,rfl,Sq ea,rfl,bd,v,rfl,by rw[←hv];exact DGet.k (k:=.inr z) hb,zl2,fun p hp=>⟨zl0,fun p2 hp2=>⟨zl2,fun p3 hp3=>?_⟩⟩⟩
 have s1:=Sn (o:=.tup [.str "made",v]) hp
 have s2:=Sn (o:=.tup []) hp2
 have s3:=Sn (o:=.tup [.ref p,.ref p2]) hp3
 have s13:=(s1.trans s2).trans s3
 have hev:ev fs (.var z) e ns=(.mk (.made x0) [],ns):=by rw[ev,hf];rfl
 rw[hev] at q
 exact q _ _ (rn.g s13) (rn.same s13) (RRs.nil.rr zf ⟨p,v,rfl,Sq ((s2.trans s3) _ _ zf),rv.mono (zo s13)⟩ (s3 _ _ zf))
theorem zc6:FnScope ["run","expression","bound","first","inner"] ["run","expression","bound"] (zr zdV):=mkSc rfl (by decide +kernel)
theorem zjd(F:Fun K "go_let" "go_let" zdV f fd)(G_as_last:Have P w K mg base "as_last" k ["records"] (zak K))(G_record_of:Have P w K mg base "record_of" k ["run","expression","bound"] (spG K ARun n (fun _=>True)))(G_binding:Have P w K mg base "binding" k ["bound","name","worth"] (zi6))(G_worth_of:Have P w K mg base "worth_of" k ["record"] (ZV K))(G_is_made:Have P w K mg base "is_made" k ["record"] (Z8 K)):FnOk P w K mg base CX0 (k+1) f fd ["run","expression","bound"] (spG K ARun (n+1) (fun x=>∃s a b,x=.letE s a b)):=by
 refine F.okQ zc6 (by rintro _ _ _ _ ⟨_,_,_,_,_,_,_,_,_,_,rfl,_⟩;rfl) fun cdv A outer s H vs Q E hr h=>?_
 obtain⟨fs,rp,l1,l,u,bd,kvs,e,x,ns,rfl,rn,ru,hb,hk,he,hh,hf,⟨z,A1,B1,rfl⟩,q⟩:=h
 rw[Ex.toW] at ru
 rw[Ex.high] at hh
 rw[Fine] at hf
 obtain⟨a,vs,rfl,ea,hw⟩:=ru.tup
 obtain⟨u0,us,rfl,r0,hw⟩:=hw.cons
 obtain⟨u1,us,rfl,r1,hw⟩:=hw.cons
 obtain⟨u2,us,rfl,r2,hw⟩:=hw.cons
 obtain⟨u3,us,rfl,r3,hw⟩:=hw.cons
 cases hw.nil'
 cases r1.str
 refine⟨_,(zj (zG (i:=3) zc6.nd rfl (Or.inl rfl) (zy G_record_of hr rfl (zc (pv 0) (zc (zx zD (pv 1) zk (fun _ _=>rfl)) (zc (pv 2) zi)))))
  (zj (zN (ZK (zZ (zy G_is_made hr rfl (zc (pv 3) zi)))) (zq (zw (zy G_as_last hr rfl (zc (Zb (zc (pv 3) zi)) zi)))) zC)
  (zj (zG (i:=4) zc6.nd rfl (Or.inl rfl) (zy G_binding hr rfl (zc (pv 2) (zc (zx zD (pv 1) zk (fun _ _=>rfl)) (zc (zy G_worth_of hr rfl (zc (pv 3) zi)) zi)))))
  (zq (zw (zy G_as_last hr rfl (zc (Zb (zc (pv 3) (zc (zy G_record_of hr rfl (zc (pv 0) (zc (zx zD (pv 1) zk (fun _ _=>rfl)) (zc (pv 4) zi)))) zi))) zi))))))),?_⟩
 refine⟨_,rfl,_,rfl,a,_,2,_,rfl,rfl,Sq ea,rfl,_,rfl,fs,rp,l1,l,u2,bd,kvs,e,A1,ns,rfl,rn,r2,hb,by lia,he,by lia,hf.1,trivial,fun v1 H1 g1 rn1 rr1=>?_⟩
 refine⟨_,rfl,v1,(ev fs A1 e ns).1,rfl,rr1,_,rfl,?_⟩
 cases hm:(ev fs A1 e ns).1.res.isMade with
 |false=>
  refine iteT ⟨_,rfl,zl1,fun p hp=>?_⟩
  have s2:=Sn (o:=.lst [v1]) hp
  rw[zeg hm] at q
  exact⟨p,[v1],[(ev fs A1 e ns).1],(ev fs A1 e ns).1,rfl,zf,RRs.one (rr1.mono s2),rfl,fun v H' s3 rr=>q v H' (g1.same (s2.trans s3)) (rn1.same (s2.trans s3)) rr⟩
 |true=>
  obtain⟨x,hres⟩:∃x,(ev fs A1 e ns).1.res=.made x:=by
   cases hr:(ev fs A1 e ns).1.res with
   |made x=>exact⟨x,rfl⟩
   |wrong _=>rw[hr] at hm;cases hm
   |stop=>rw[hr] at hm;cases hm
  rw[zef hres] at q
  refine iteF ⟨_,rfl,_,rfl,a,_,1,_,rfl,rfl,Sq (g1.t ea),rfl,_,rfl,v1,(ev fs A1 e ns).1,x,rfl,rr1,hres,fun ux rx=>?_⟩
  refine⟨bd,z,ux,kvs,rfl,g1.d hb,by lia,fun p H2 s2 hp=>?_⟩
  have g12:=g1.same s2
  have hl:=zaK kvs (.inr z) ux
  refine⟨_,rfl,_,rfl,_,rfl,a,_,3,_,rfl,rfl,Sq (g12.t ea),rfl,_,rfl,fs,rp,l1,l,u3,p,_,put e z x,B1,_,rfl,rn1.same s2,r3.mono g12.ts,hp,by lia,((g12.env he).put (rx.mono (zo s2))),by lia,hf.2 x hres,trivial,fun v2 H3 g3 rn3 rr2=>⟨zl2,fun p4 hp4=>?_⟩⟩
  have s4:=Sn (o:=.lst [v1,v2]) hp4
  exact⟨p4,[v1,v2],[(ev fs A1 e ns).1,_],_,rfl,zf,RRs.two ((g3.rr (rr1.mono s2)).mono s4) (rr2.mono s4),rfl,fun v H' s5 rr=>q v H' ((g12.trans g3).same (s4.trans s5)) (rn3.same (s4.trans s5)) rr⟩
theorem ZW{r:Res}(h:r.isMade=true):∃x,r=.made x:=by
 cases r with
 |made x=>exact⟨x,rfl⟩
 |wrong _=>cases h
 |stop=>cases h
theorem RW.tyW{K:tP}{H:Hp}{v:V}{x:W}(h:RW H v x):TyOf K H v (.type (tnW x)):=by
 cases h with
 |num i=>exact .int i
 |txt z=>exact .str z
 |lst e _ _=>exact .tup e
theorem zfj:FnScope ["run","expression","bound","first"] ["run","expression","bound"] (zr zdW):=mkSc rfl (by decide +kernel)
theorem zje(F:Fun K "go_cry" "go_cry" zdW f fd)(G_worth_of:Have P w K mg base "worth_of" k ["record"] (ZV K))(G_is_made:Have P w K mg base "is_made" k ["record"] (Z8 K))(G_as_last:Have P w K mg base "as_last" k ["records"] (zak K))(G_record_of:Have P w K mg base "record_of" k ["run","expression","bound"] (spG K ARun n (fun _=>True))):FnOk P w K mg base CX0 (k+1) f fd ["run","expression","bound"] (spG K ARun (n+1) (fun x=>∃a,x=.cryE a)):=by
 refine F.okQ zfj (by rintro _ _ _ _ ⟨_,_,_,_,_,_,_,_,_,_,rfl,_⟩;rfl) fun cdv A outer s H vs Q E hr h=>?_
 obtain⟨fs,rp,l1,l,u,bd,kvs,e,x,ns,rfl,rn,ru,hb,hk,he,hh,hf,⟨A1,rfl⟩,q⟩:=h
 rw[Ex.toW] at ru
 rw[Ex.high] at hh
 rw[Fine] at hf
 obtain⟨a,vs,rfl,ea,hw⟩:=ru.tup
 obtain⟨u0,us,rfl,r0,hw⟩:=hw.cons
 obtain⟨u1,us,rfl,r1,hw⟩:=hw.cons
 cases hw.nil'
 refine⟨_,(zj (zG (i:=3) zfj.nd rfl (Or.inl rfl) (zy G_record_of hr rfl (zc (pv 0) (zc (zx zD (pv 1) zk (fun _ _=>rfl)) (zc (pv 2) zi)))))
  (zj (zN (ZK (zZ (zy G_is_made hr rfl (zc (pv 3) zi)))) (zq (zw (zy G_as_last hr rfl (zc (Zb (zc (pv 3) zi)) zi)))) zC)
  (zq (zw (zE (zc (zE (zc zA (zc zA (zc (zy G_worth_of hr rfl (zc (pv 3) zi)) zi)))) (zc (zE (zc (pv 3) zi)) zi))))))),?_⟩
 refine⟨_,rfl,_,rfl,a,_,1,_,rfl,rfl,Sq ea,rfl,_,rfl,fs,rp,l1,l,u1,bd,kvs,e,A1,ns,rfl,rn,r1,hb,by lia,he,by lia,hf,trivial,fun v1 H1 g1 rn1 rr1=>?_⟩
 refine⟨_,rfl,v1,(ev fs A1 e ns).1,rfl,rr1,_,rfl,?_⟩
 cases hm:(ev fs A1 e ns).1.res.isMade with
 |false=>
  refine iteT ⟨_,rfl,zl1,fun p hp=>?_⟩
  have s2:=Sn (o:=.lst [v1]) hp
  rw[zf8 hm] at q
  exact⟨p,[v1],[(ev fs A1 e ns).1],(ev fs A1 e ns).1,rfl,zf,RRs.one (rr1.mono s2),rfl,fun v H' s3 rr=>q v H' (g1.same (s2.trans s3)) (rn1.same (s2.trans s3)) rr⟩
 |true=>
  obtain⟨x,hres⟩:=ZW hm
  rw[zeh hres] at q
  refine iteF ⟨_,rfl,v1,(ev fs A1 e ns).1,x,rfl,rr1,hres,fun ux rx=>⟨zl3,fun p hp=>⟨_,rfl,zl1,fun p2 hp2=>⟨zl2,fun p3 hp3=>?_⟩⟩⟩⟩
  have s2:=Sn (o:=.tup [.str "wrong",.str "cried",ux]) hp
  have s3:=Sn (o:=.tup [v1]) hp2
  have s4:=Sn (o:=.tup [.ref p,.ref p2]) hp3
  have s24:=(s2.trans s3).trans s4
  refine q _ _ (g1.same s24) (rn1.same s24) ?_
  exact (RRs.one (rr1.mono s24)).rr zf (show RS K _ _ _ from RS.three (Sq ((s3.trans s4) _ _ zf)) (.txt _) (.txt _) (rx.mono (zo s24)).toRS) (s4 _ _ zf)
theorem zdC:FnScope ["run","expression","bound","first"] ["run","expression","bound"] (zr zcW):=mkSc rfl (by decide +kernel)
theorem zhK(F:Fun K "go_else" "go_else" zcW f fd)(G_as_last:Have P w K mg base "as_last" k ["records"] (zak K))(G_record_of:Have P w K mg base "record_of" k ["run","expression","bound"] (spG K ARun n (fun _=>True)))(G_is_made:Have P w K mg base "is_made" k ["record"] (Z8 K)):FnOk P w K mg base CX0 (k+1) f fd ["run","expression","bound"] (spG K ARun (n+1) (fun x=>∃a b,x=.elseE a b)):=by
 refine F.okQ zdC (by rintro _ _ _ _ ⟨_,_,_,_,_,_,_,_,_,_,rfl,_⟩;rfl) fun cdv A outer s H vs Q E hr h=>?_
 obtain⟨fs,rp,l1,l,u,bd,kvs,e,x,ns,rfl,rn,ru,hb,hk,he,hh,hf,⟨A1,B1,rfl⟩,q⟩:=h
 rw[Ex.toW] at ru
 rw[Ex.high] at hh
 rw[Fine] at hf
 obtain⟨a,vs,rfl,ea,hw⟩:=ru.tup
 obtain⟨u0,us,rfl,r0,hw⟩:=hw.cons
 obtain⟨u1,us,rfl,r1,hw⟩:=hw.cons
 obtain⟨u2,us,rfl,r2,hw⟩:=hw.cons
 cases hw.nil'
 refine⟨_,(zj (zG (i:=3) zdC.nd rfl (Or.inl rfl) (zy G_record_of hr rfl (zc (pv 0) (zc (zx zD (pv 1) zk (fun _ _=>rfl)) (zc (pv 2) zi)))))
  (zj (zN (PW.pt (zcc (zao (zb5 (zx zD (pv 3) zk (fun _ _=>rfl)))) (zbv (zZ (zy G_is_made hr rfl (zc (pv 3) zi)))))) (zq (zw (zy G_as_last hr rfl (zc (Zb (zc (pv 3) zi)) zi)))) zC)
  (zq (zw (zy G_as_last hr rfl (zc (Zb (zc (pv 3) (zc (zy G_record_of hr rfl (zc (pv 0) (zc (zx zD (pv 1) zk (fun _ _=>rfl)) (zc (pv 2) zi)))) zi))) zi)))))),?_⟩
 refine⟨_,rfl,_,rfl,a,_,1,_,rfl,rfl,Sq ea,rfl,_,rfl,fs,rp,l1,l,u1,bd,kvs,e,A1,ns,rfl,rn,r1,hb,by lia,he,by lia,hf.1,trivial,fun v1 H1 g1 rn1 rr1=>?_⟩
 obtain⟨a1,b1,rv1,ev1,ea1,rres1⟩:=rr1.res
 subst ev1
 cases hres:(ev fs A1 e ns).1.res with
 |stop=>
  rw[hres] at rres1
  obtain rfl:rv1=.non:=rres1
  refine⟨_,rfl,a1,_,0,_,rfl,rfl,Sq ea1,rfl,_,rfl,iteT ?_⟩
  refine⟨_,rfl,zl1,fun p hp=>?_⟩
  have s2:=Sn (o:=.lst [.ref a1]) hp
  rw[zau (fun w z=>by rw[hres] at z;cases z)] at q
  exact⟨p,[.ref a1],[(ev fs A1 e ns).1],(ev fs A1 e ns).1,rfl,zf,RRs.one (rr1.mono s2),rfl,fun v H' s3 rr=>q v H' (g1.same (s2.trans s3)) (rn1.same (s2.trans s3)) rr⟩
 |made x=>
  obtain⟨c1,us1,rfl,ec1⟩:=rres1.word (by rw[hres];exact fun z=>nomatch z)
  refine⟨_,rfl,a1,_,0,_,rfl,rfl,Sq ea1,rfl,_,rfl,iteF ⟨_,rfl,_,(ev fs A1 e ns).1,rfl,rr1,_,rfl,?_⟩⟩
  rw[hres]
  refine iteT ⟨_,rfl,zl1,fun p hp=>?_⟩
  have s2:=Sn (o:=.lst [.ref a1]) hp
  rw[zau (fun w z=>by rw[hres] at z;cases z)] at q
  exact⟨p,[.ref a1],[(ev fs A1 e ns).1],(ev fs A1 e ns).1,rfl,zf,RRs.one (rr1.mono s2),rfl,fun v H' s3 rr=>q v H' (g1.same (s2.trans s3)) (rn1.same (s2.trans s3)) rr⟩
 |wrong ws=>
  obtain⟨c1,us1,rfl,ec1⟩:=rres1.word (by rw[hres];exact fun z=>nomatch z)
  refine⟨_,rfl,a1,_,0,_,rfl,rfl,Sq ea1,rfl,_,rfl,iteF ⟨_,rfl,_,(ev fs A1 e ns).1,rfl,rr1,_,rfl,?_⟩⟩
  rw[hres]
  rw[zcq hres] at q
  refine iteF ⟨_,rfl,_,rfl,_,rfl,a,_,2,_,rfl,rfl,Sq (g1.t ea),rfl,_,rfl,fs,rp,l1,l,u2,bd,kvs,e,B1,_,rfl,rn1,r2.mono g1.ts,g1.d hb,by lia,g1.env he,by lia,hf.2 ws hres,trivial,fun v2 H3 g3 rn3 rr2=>⟨zl2,fun p hp=>?_⟩⟩
  have s4:=Sn (o:=.lst [.ref a1,v2]) hp
  exact⟨p,[.ref a1,v2],[(ev fs A1 e ns).1,_],_,rfl,zf,RRs.two ((g3.rr rr1).mono s4) (rr2.mono s4),rfl,fun v H' s5 rr=>q v H' ((g1.trans g3).same (s4.trans s5)) (rn3.same (s4.trans s5)) rr⟩
theorem zej:FnScope ["run","expression","bound","first","branch"] ["run","expression","bound"] (zr zfO):=mkSc rfl (by decide +kernel)
theorem zkb(F:Fun K "go_if" "go_if" zfO f fd)(G_as_last:Have P w K mg base "as_last" k ["records"] (zak K))(G_record_of:Have P w K mg base "record_of" k ["run","expression","bound"] (spG K ARun n (fun _=>True)))(G_worth_of:Have P w K mg base "worth_of" k ["record"] (ZV K))(G_is_number:Have P w K mg base "is_number" k ["thing"] (zc2))(G_is_made:Have P w K mg base "is_made" k ["record"] (Z8 K)){g_KIND:Addr}(m_KIND:mg "KIND"=some (.ref g_KIND))(t_KIND:∀H:Hp,SqT K H g_KIND [.str "wrong",.str "kind",.str ""]):FnOk P w K mg base CX0 (k+1) f fd ["run","expression","bound"] (spG K ARun (n+1) (fun x=>∃a b c,x=.ifE a b c)):=by
 refine F.okQ zej (by rintro _ _ _ _ ⟨_,_,_,_,_,_,_,_,_,_,rfl,_⟩;rfl) fun cdv A outer s H vs Q E hr h=>?_
 obtain⟨fs,rp,l1,l,u,bd,kvs,e,x,ns,rfl,rn,ru,hb,hk,he,hh,hf,⟨A1,B1,C1,rfl⟩,q⟩:=h
 rw[Ex.toW] at ru
 rw[Ex.high] at hh
 rw[Fine] at hf
 obtain⟨a,vs,rfl,ea,hw⟩:=ru.tup
 obtain⟨u0,us,rfl,r0,hw⟩:=hw.cons
 obtain⟨u1,us,rfl,r1,hw⟩:=hw.cons
 obtain⟨u2,us,rfl,r2,hw⟩:=hw.cons
 obtain⟨u3,us,rfl,r3,hw⟩:=hw.cons
 cases hw.nil'
 refine⟨_,(zj (zG (i:=3) zej.nd rfl (Or.inl rfl) (zy G_record_of hr rfl (zc (pv 0) (zc (zx zD (pv 1) zk (fun _ _=>rfl)) (zc (pv 2) zi)))))
  (zj (zN (ZK (zZ (zy G_is_made hr rfl (zc (pv 3) zi)))) (zq (zw (zy G_as_last hr rfl (zc (Zb (zc (pv 3) zi)) zi)))) zC)
  (zj (zN (ZK (zZ (zy G_is_number hr rfl (zc (zy G_worth_of hr rfl (zc (pv 3) zi)) zi)))) (zq (zw (zE (zc (Zd (v:=.ref g_KIND) rfl m_KIND rfl) (zc (zE (zc (pv 3) zi)) zi))))) zC)
  (zj (zG (i:=4) zej.nd rfl (Or.inl rfl) (ZO (zH zjD (zy G_worth_of hr rfl (zc (pv 3) zi)) zk (nomark _)) (zx zD (pv 1) zk (fun _ _=>rfl)) (zx zD (pv 1) zk (fun _ _=>rfl))))
  (zq (zw (zy G_as_last hr rfl (zc (Zb (zc (pv 3) (zc (zy G_record_of hr rfl (zc (pv 0) (zc (pv 4) (zc (pv 2) zi)))) zi))) zi)))))))),?_⟩
 refine⟨_,rfl,_,rfl,a,_,1,_,rfl,rfl,Sq ea,rfl,_,rfl,fs,rp,l1,l,u1,bd,kvs,e,A1,ns,rfl,rn,r1,hb,by lia,he,by lia,hf.1,trivial,fun v1 H1 g1 rn1 rr1=>?_⟩
 refine⟨_,rfl,v1,(ev fs A1 e ns).1,rfl,rr1,_,rfl,?_⟩
 cases hm:(ev fs A1 e ns).1.res.isMade with
 |false=>
  refine iteT ⟨_,rfl,zl1,fun p hp=>?_⟩
  have s2:=Sn (o:=.lst [v1]) hp
  rw[zi8 hm] at q
  exact⟨p,[v1],[(ev fs A1 e ns).1],(ev fs A1 e ns).1,rfl,zf,RRs.one (rr1.mono s2),rfl,fun v H' s3 rr=>q v H' (g1.same (s2.trans s3)) (rn1.same (s2.trans s3)) rr⟩
 |true=>
  obtain⟨x,hres⟩:=ZW hm
  refine iteF ⟨_,rfl,v1,(ev fs A1 e ns).1,x,rfl,rr1,hres,fun ux rx=>⟨ux,x.toT,rfl,rx.toRT,_,rfl,?_⟩⟩
  rw[zfd]
  cases hn:ZA x with
  |false=>
   refine iteT ⟨_,rfl,zl1,fun p2 hp2=>⟨zl2,fun p3 hp3=>?_⟩⟩
   have s3:=Sn (o:=.tup [v1]) hp2
   have s4:=Sn (o:=.tup [.ref g_KIND,.ref p2]) hp3
   have s24:=s3.trans s4
   rw[zfi hres hn] at q
   exact q _ _ (g1.same s24) (rn1.same s24) ((RRs.one (rr1.mono s24)).rr zf (show RS K _ _ _ from RS.three (t_KIND _) (.txt _) (.txt _) (.txt _)) (s4 _ _ zf))
  |true=>
   cases x with
   |txt _=>cases hn
   |lst _=>cases hn
   |num i=>
    have hfi:=hf.2 i hres
    refine iteF ⟨_,rfl,v1,(ev fs A1 e ns).1,.num i,rfl,rr1,hres,fun ux2 rx2=>?_⟩
    cases rx2
    refine⟨rfl,_,rfl,?_⟩
    refine ite2 (fun c=>?_) (fun c=>?_)
    ·have hi:i≠0:=fun z=>by rw[z] at c;cases c
     rw[zgM hres hi] at q
     refine⟨_,rfl,a,_,2,_,rfl,rfl,Sq (g1.t ea),rfl,?_⟩
     refine⟨_,rfl,_,rfl,_,rfl,_,rfl,fs,rp,l1,l,u2,bd,kvs,e,B1,_,rfl,rn1,r2.mono g1.ts,g1.d hb,by lia,g1.env he,by lia,hfi.1 hi,trivial,fun v2 H3 g3 rn3 rr2=>⟨zl2,fun p hp=>?_⟩⟩
     have s4:=Sn (o:=.lst [v1,v2]) hp
     exact⟨p,[v1,v2],[(ev fs A1 e ns).1,_],_,rfl,zf,RRs.two ((g3.rr rr1).mono s4) (rr2.mono s4),rfl,fun v H' s5 rr=>q v H' ((g1.trans g3).same (s4.trans s5)) (rn3.same (s4.trans s5)) rr⟩
    ·have hi:i=0:=by
      apply Classical.byContradiction
      intro z
      exact c (by rw[decide_eq_false (by simpa using z)];rfl)
     subst hi
     rw[zgL hres] at q
     refine⟨_,rfl,a,_,3,_,rfl,rfl,Sq (g1.t ea),rfl,?_⟩
     refine⟨_,rfl,_,rfl,_,rfl,_,rfl,fs,rp,l1,l,u3,bd,kvs,e,C1,_,rfl,rn1,r3.mono g1.ts,g1.d hb,by lia,g1.env he,by lia,hfi.2 rfl,trivial,fun v2 H3 g3 rn3 rr2=>⟨zl2,fun p hp=>?_⟩⟩
     have s4:=Sn (o:=.lst [v1,v2]) hp
     exact⟨p,[v1,v2],[(ev fs A1 e ns).1,_],_,rfl,zf,RRs.two ((g3.rr rr1).mono s4) (rr2.mono s4),rfl,fun v H' s5 rr=>q v H' ((g1.trans g3).same (s4.trans s5)) (rn3.same (s4.trans s5)) rr⟩
theorem zf9:FnScope ["self","name"] ["self","name"] (zr zal):=mkSc rfl (by decide +kernel)
theorem zga(F:Fun K "look" "Run.look" zal f fd)(m_len:mg "len"=none)(clR:Cls K ARun)(nF:zO K ARun "founds")(nN:zO K ARun "names"):FnOk P w K mg base CX0 (k+1) f fd ["self","name"] (zi7 K ARun):=by
 refine F.okQ zf9 (by rintro _ _ _ _ ⟨_,_,_,_,_,_,rfl,_⟩;rfl) fun cdv A outer s H vs Q E hr h=>?_
 obtain⟨fs,rp,l1,l,z,ns,rfl,rn,hns,q⟩:=h
 obtain⟨dx,hins⟩:=rn.ins
 obtain⟨us,e1,hlen,hres⟩:=rn.fo
 have na:=rn.na
 refine⟨_,(zj (Ze (zcf tM tO tN zaa (zL (pv 0) rfl) (zc (pv 1) zi)))
  (zj (zN (zH zdJ (zB zP rfl m_len tD (zc (zL (pv 0) rfl) zi)) (zB zP rfl m_len tD (zc (zL (pv 0) rfl) zi)) (nomark _)) (zq (zw zaB)) zC)
  (zq (zw (zx zF (zL (pv 0) rfl) (zK zaf (zB zP rfl m_len tD (zc (zL (pv 0) rfl) zi)) zk) (fun _ _=>rfl)))))),?_⟩
 refine⟨_,rfl,rp,ARun,dx,_,_,rfl,hins,clR,nN,zbG _ _,.inl ⟨rfl,_,Sl na⟩,_,rfl,l,_,.str z,rfl,rfl,na,ZE (by rw[yB];lia),?_⟩
 have kb:Kb l H (upd H l (.lst (ns.map V.str++[.str z]))):=Kb.put
 have na1:upd H l (.lst (ns.map V.str++[.str z])) l=some (.lst (ns.map V.str++[.str z])):=zf
 have hins1:=kb _ _ (fun c=>by rw[c,na] at hins;cases hins) hins
 have e11:=kb _ _ rn.ne e1
 have hres1:∀(i:Nat)(u:V)(r:Res),us[i]?=some u->fs[i]?=some r->RRes K (upd H l (.lst (ns.map V.str++[.str z]))) u r:=fun i u r a b=>kb.res na (hres i u r a b)
 have g:G l H (upd H l (.lst (ns.map V.str++[.str z]))):=⟨kb,_,na⟩
 generalize upd H l (.lst (ns.map V.str++[.str z]))=H1 at na1 hins1 e11 hres1 g
 have rn1:Rn K ARun fs rp l1 l H1 (ns++[z]):=⟨⟨dx,hins1⟩,⟨us,e11,hlen,hres1⟩,by rw[na1,xN];rfl,rn.ne,rn.few⟩
 have hnl:(ns.map V.str++[V.str z]).length=ns.length+1:=by simp
 refine⟨_,rfl,rp,ARun,dx,_,_,rfl,hins1,clR,nN,zbG _ _,_,_,rfl,.inl ⟨_,Sl na1,rfl⟩,_,rfl,rp,ARun,dx,_,_,rfl,hins1,clR,nF,zfh _ _,_,_,rfl,.inl ⟨_,Sl e11,rfl⟩,_,_,rfl,rfl,_,rfl,?_⟩
 by_cases hgt:fs.length<ns.length+1
 ·rw[show decide (((us.length:Nat):Int)<(((ns.map V.str++[V.str z]).length:Nat):Int))=true from decide_eq_true (by rw[hnl];lia)]
  refine iteT (q _ _ g rn1 ?_)
  unfold found
  rw[vB (by lia)]
  rfl
 ·rw[show decide (((us.length:Nat):Int)<(((ns.map V.str++[V.str z]).length:Nat):Int))=false from decide_eq_false (by rw[hnl];lia)]
  have hi:ns.length<us.length:=by lia
  have hi2:ns.length<fs.length:=by lia
  refine iteF ⟨_,rfl,rp,ARun,dx,_,_,rfl,hins1,clR,nF,zfh _ _,_,rfl,rp,ARun,dx,_,_,rfl,hins1,clR,nN,zbG _ _,_,_,rfl,.inl ⟨_,Sl na1,rfl⟩,_,_,rfl,rfl,l1,us,_,us[ns.length],rfl,rfl,Sl e11,?_,q _ _ g rn1 ?_⟩
  ·rw[hnl,show (((ns.length+1:Nat):Int)-1)=(ns.length:Int) by lia]
   exact zt (yA hi)
  ·unfold found
   rw[yA hi2]
   exact hres1 ns.length _ _ (yA hi) (yA hi2)
theorem zdD:FnScope ["run","expression","bound","first"] ["run","expression","bound"] (zr zcV):=mkSc rfl (by decide +kernel)
theorem zhL(F:Fun K "go_look" "go_look" zcV f fd)(G_Run_look:zaj P w K mg base ARun "look" k ["self","name"] (zi7 K ARun))(G_worth_of:Have P w K mg base "worth_of" k ["record"] (ZV K))(G_is_made:Have P w K mg base "is_made" k ["record"] (Z8 K))(G_as_last:Have P w K mg base "as_last" k ["records"] (zak K))(G_record_of:Have P w K mg base "record_of" k ["run","expression","bound"] (spG K ARun n (fun _=>True)))(m_isi:mg "isinstance"=none)(m_str:mg "str"=none){g_KIND:Addr}(m_KIND:mg "KIND"=some (.ref g_KIND))(t_KIND:∀H:Hp,SqT K H g_KIND [.str "wrong",.str "kind",.str ""]):FnOk P w K mg base CX0 (k+1) f fd ["run","expression","bound"] (spG K ARun (n+1) (fun x=>∃a,x=.lookE a)):=by
 refine F.okQ zdD (by rintro _ _ _ _ ⟨_,_,_,_,_,_,_,_,_,_,rfl,_⟩;rfl) fun cdv A outer s H vs Q E hr h=>?_
 obtain⟨fs,rp,l1,l,u,bd,kvs,e,x,ns,rfl,rn,ru,hb,hk,he,hh,hf,⟨A1,rfl⟩,q⟩:=h
 rw[Ex.toW] at ru
 rw[Ex.high] at hh
 rw[Fine] at hf
 obtain⟨a,vs,rfl,ea,hw⟩:=ru.tup
 obtain⟨u0,us,rfl,r0,hw⟩:=hw.cons
 obtain⟨u1,us,rfl,r1,hw⟩:=hw.cons
 cases hw.nil'
 refine⟨_,(zj (zG (i:=3) zdD.nd rfl (Or.inl rfl) (zy G_record_of hr rfl (zc (pv 0) (zc (zx zD (pv 1) zk (fun _ _=>rfl)) (zc (pv 2) zi)))))
  (zj (zN (ZK (zZ (zy G_is_made hr rfl (zc (pv 3) zi)))) (zq (zw (zy G_as_last hr rfl (zc (Zb (zc (pv 3) zi)) zi)))) zC)
  (zj (zN (ZK (zZ (zB Zy rfl m_isi Zq (zc (zy G_worth_of hr rfl (zc (pv 3) zi)) (zc (zaM rfl m_str zaq) zi))))) (zq (zw (zE (zc (Zd (v:=.ref g_KIND) rfl m_KIND rfl) (zc (zE (zc (pv 3) zi)) zi))))) zC)
  (zq (zw (zE (zc (pe_m G_Run_look hr (pv 0) (zc (zy G_worth_of hr rfl (zc (pv 3) zi)) zi)) (zc (zE (zc (pv 3) zi)) zi)))))))),?_⟩
 refine⟨_,rfl,_,rfl,a,_,1,_,rfl,rfl,Sq ea,rfl,_,rfl,fs,rp,l1,l,u1,bd,kvs,e,A1,ns,rfl,rn,r1,hb,by lia,he,by lia,hf.1,trivial,fun v1 H1 g1 rn1 rr1=>?_⟩
 refine⟨_,rfl,v1,(ev fs A1 e ns).1,rfl,rr1,_,rfl,?_⟩
 cases hm:(ev fs A1 e ns).1.res.isMade with
 |false=>
  refine iteT ⟨_,rfl,zl1,fun p hp=>?_⟩
  have s2:=Sn (o:=.lst [v1]) hp
  rw[zei hm] at q
  exact⟨p,[v1],[(ev fs A1 e ns).1],(ev fs A1 e ns).1,rfl,zf,RRs.one (rr1.mono s2),rfl,fun v H' s3 rr=>q v H' (g1.same (s2.trans s3)) (rn1.same (s2.trans s3)) rr⟩
 |true=>
  obtain⟨x,hres⟩:=ZW hm
  have kindC:(∀z,x≠.txt z)->∀(p2 p3:Addr)(hp2:H1 p2=none)(hp3:upd H1 p2 (.tup [v1]) p3=none),Q (.ref p3) (upd (upd H1 p2 (.tup [v1])) p3 (.tup [.ref g_KIND,.ref p2])):=fun hx p2 p3 hp2 hp3=>by
   have s3:=Sn (o:=.tup [v1]) hp2
   have s4:=Sn (o:=.tup [.ref g_KIND,.ref p2]) hp3
   have s24:=s3.trans s4
   rw[zbH hres hx] at q
   exact q _ _ (g1.same s24) (rn1.same s24) ((RRs.one (rr1.mono s24)).rr zf (show RS K _ _ _ from RS.three (t_KIND _) (.txt _) (.txt _) (.txt _)) (s4 _ _ zf))
  refine iteF ⟨_,rfl,v1,(ev fs A1 e ns).1,x,rfl,rr1,hres,fun ux rx=>⟨_,_,_,_,rfl,rx.tyW,isiS _,_,rfl,?_⟩⟩
  cases x with
  |num i=>exact iteT ⟨_,rfl,zl1,fun p2 hp2=>⟨zl2,fun p3 hp3=>kindC (fun z c=>nomatch c) p2 p3 hp2 hp3⟩⟩
  |lst ws=>exact iteT ⟨_,rfl,zl1,fun p2 hp2=>⟨zl2,fun p3 hp3=>kindC (fun z c=>nomatch c) p2 p3 hp2 hp3⟩⟩
  |txt z=>
   rw[zcr hres] at q
   obtain⟨dx,hins⟩:=rn1.ins
   refine iteF ⟨_,rfl,rp,dx,_,rfl,hins,zme _ _,_,rfl,v1,(ev fs A1 e ns).1,.txt z,rfl,rr1,hres,fun ux2 rx2=>?_⟩
   obtain rfl:=rx2.str
   refine⟨fs,rp,l1,l,z,_,rfl,rn1,hf.2,fun v2 H2 g2 rn2 rres=>⟨_,rfl,zl1,fun p2 hp2=>⟨zl2,fun p3 hp3=>?_⟩⟩⟩
   have s3:=Sn (o:=.tup [v1]) hp2
   have s4:=Sn (o:=.tup [v2,.ref p2]) hp3
   have s24:=s3.trans s4
   exact q _ _ ((g1.trans g2).same s24) (rn2.same s24) ((RRs.one ((g2.rr rr1).mono s24)).rr zf (rres.mono s24) (s4 _ _ zf))
end
end D
namespace L2
open PySem
def iSeq(K:tP)(tl:TE):TI:=fun σ H R=>zhW K tl σ H R\/iTup K tl σ H R
theorem zc7{X:Cx}{tg l:Expr}{tl:TE}(hl:PE X l tl):PI X tg l (iSeq X.K tl):=fun pins s σ H R I h=>h.elim (fun h=>ZZ hl pins s σ H R I h) (fun h=>zcw hl pins s σ H R I h)
theorem za5{K:tP}{fr:List Nat}{te:TE}{σ:St}{H:Hp}{F:Addr->Hp->List V->Prop}{a:Addr}{vs:List V}(Pv:Nat->List V->Hp->Prop)(hS:SqL K H a vs)(hz:vs.length<=tF)(h0:Pv 0 [] H)(hlen:∀i us H1,Pv i us H1->us.length=i)
  (step:∀(i:Nat)(v:V)(us:List V)(H1:Hp)(R:VK),vs[i]?=some v->Pv i us H1->Same H H1->(∀y H2,Same H1 H2->Pv (i+1) (us++[y]) H2->R y H2)->te (some v::frees fr σ) H1 R)
  (fin:∀(us:List V)(H1:Hp)(D:Addr),Pv vs.length us H1->Same H H1->H1 D=none->F D H1 us):
  ∃W:Nat->Nat->List V->Hp->Prop,(∃m,W 0 m [] H)/\∀i m vs H,W i m vs H->vs.length<=tF /\
   (((Itl K a).stop i H/\∀D,H D=none->F D H vs) \/
    ((Itl K a).go i H/\∀v H',(Itl K a).yld i H v H'->if true=true then te (some v::frees fr σ) H' fun y H3=>∃m',m'<m/\W (i+1) m' (vs++[y]) H3 else ∃m',m'<m/\W (i+1) m' vs H')):=by
 refine⟨fun i m us H1=>i<=vs.length/\m=vs.length-i/\Pv i us H1/\Same H H1,⟨_,yN _,rfl,h0,Sr _⟩,fun i m us H1 hW=>?_⟩
 obtain⟨hi,hm,hu,sm⟩:=hW
 refine⟨by rw[hlen _ _ _ hu];lia,?_⟩
 by_cases hlt:i<vs.length
 ·refine .inr ⟨⟨vs,vs[i],sm.seq hS,yA hlt⟩,fun v H' hy=>?_⟩
  obtain⟨rfl,hv⟩:=hy
  have hv:=hv vs (sm.seq hS)
  refine iteT ?_
  exact step i v us H' _ hv hu sm fun y H2 s2 p2=>⟨vs.length-(i+1),by lia,by lia,rfl,p2,sm.trans s2⟩
 ·have e:i=vs.length:=by lia
  subst e
  exact .inl ⟨⟨vs,sm.seq hS,by lia⟩,fun D hD=>fin us H1 D hu sm hD⟩
end L2
namespace D
open PySem L2
theorem zc7{X:Cx}{tg l:Expr}{tl:TE}(hl:QE X l tl):QI X tg l (iSeq X.K tl):=⟨L2.zc7 hl.un⟩
theorem zgb:∀(l:List Ex)(i:Nat),(exWs l)[i]?=(l[i]?).map Ex.toW
 |[],_=>by simp[exWs]
 |r::l,0=>by simp[exWs]
 |r::l,i+1=>by simp only[exWs,xH];exact zgb l i
theorem zek:∀l:List Ex,(exWs l).length=l.length
 |[]=>by simp[exWs]
 |_::l=>by simp only[exWs,yJ,zek l]
theorem zc8{x:Ex}:∀{es:List Ex},x∈es->x.high<=highs es
 |y::ys,h=>by
  rw[highs]
  rcases yS.mp h with rfl|h
  ·lia
  ·have:=zc8 h;lia
theorem Zm(x:W):(∃y,zab x=.lst [.txt "made",y])\/∃p q,zab x=.lst [.txt "wrong",p,q]:=by
 unfold zab
 split
 ·exact .inl ⟨_,rfl⟩
 ·exact .inr ⟨_,_,rfl⟩
theorem zbI{f:Int->Int->W}(hf:∀a b,(∃y,f a b=.lst [.txt "made",y])\/∃p q,f a b=.lst [.txt "wrong",p,q])(ws:List W):(∃y,two f ws=.lst [.txt "made",y])\/∃p q,two f ws=.lst [.txt "wrong",p,q]:=by
 unfold two
 split
 ·rename_i a b
  exact hf a b
 ·exact .inr ⟨.txt "kind",.txt "",rfl⟩
theorem zkc(d:Wd)(ws:List W):(∃y,recW d ws=.lst [.txt "made",y])\/∃p q,recW d ws=.lst [.txt "wrong",p,q]:=by
 unfold recW
 split
 ·exact zbI (fun _ _=>Zm _) _
 ·exact zbI (fun _ _=>Zm _) _
 ·exact zbI (fun _ _=>Zm _) _
 ·refine zbI (fun _ _=>?_) _
  split
  ·exact .inr ⟨.txt "nought",.txt "",rfl⟩
  ·exact Zm _
 ·exact zbI (fun _ _=>.inl ⟨_,rfl⟩) _
 ·exact Zm _
 ·exact .inr ⟨.txt "kind",.txt "",rfl⟩
 ·exact .inl ⟨_,rfl⟩
 ·exact .inr ⟨.txt "kind",.txt "",rfl⟩
 ·exact Zm _
 ·exact Zm _
 ·exact .inr ⟨.txt "kind",.txt "",rfl⟩
 ·exact Zm _
 ·split
  ·exact Zm _
  ·exact .inr ⟨.txt "place",.txt "",rfl⟩
 ·exact .inr ⟨.txt "kind",.txt "",rfl⟩
 ·exact Zm _
 ·exact Zm _
 ·exact .inr ⟨.txt "kind",.txt "",rfl⟩
theorem RM.res{K:tP}{H:Hp}{v:V}{w:W}(h:RM K H v w)(f:(∃y,w=.lst [.txt "made",y])\/∃p q,w=.lst [.txt "wrong",p,q]):RRes K H v (zbb w):=by
 rcases f with⟨y,rfl⟩|⟨p,q,rfl⟩
 ·exact h.2 _ _ rfl
 ·exact h.1
theorem zaH:∀{r:R},r.res.isMade=true->r.res=.made r.worth
 |.mk (.made x) _,_=>rfl
 |.mk (.wrong _) _,h=>by cases h
 |.mk .stop _,h=>by cases h
theorem RRs.last{K:tP}{H:Hp}{vs:List V}{rs:List R}(h:RRs K H vs rs){r:R}(hr:rs.getLast?=some r):∃v,vs[vs.length-1]?=some v/\0<vs.length/\RR K H v r:=by
 have hne:rs≠[]:=fun z=>by rw[z] at hr;cases hr
 have hn:0<rs.length:=vM.mpr hne
 have hl:=h.len
 have e1:vs[vs.length-1]?=some vs[vs.length-1]:=yA (by lia)
 exact⟨_,e1,by lia,h.at' _ _ _ e1 (by rw[hl,←List.getLast?_eq_getElem?];exact hr)⟩
theorem zgN{l:List R}{r x:R}(h:l.getLast?=some r):zaT l x=r:=by unfold zaT;rw[h];rfl
theorem Kb.seqL{K:tP}{p a:Addr}{H H':Hp}{xs:List V}(e:Kb p H H')(ne:a≠p)(h:SqL K H a xs):SqL K H' a xs:=by
 rcases h with (h|⟨o,h⟩)|h
 ·exact .inl (.inl (e _ _ ne h))
 ·exact .inl (.inr ⟨o,e _ _ ne h⟩)
 ·exact .inr h
theorem Rn.keep{K:tP}{AR rp l1 l p:Addr}{fs:List Res}{H H':Hp}{ns:Ns}{xs:List V}(r:Rn K AR fs rp l1 l H ns)(kb:Kb p H H')(ep:H p=some (.lst xs))(n1:l1≠p)(n2:l≠p):Rn K AR fs rp l1 l H' ns:=by
 obtain⟨dx,e1⟩:=r.ins
 obtain⟨us,e2,e3,e4⟩:=r.fo
 exact⟨⟨dx,kb _ _ (fun z=>by rw[z,ep] at e1;cases e1) e1⟩,⟨us,kb _ _ n1 e2,e3,fun i u r a b=>kb.res ep (e4 i u r a b)⟩,kb _ _ n2 r.na,r.ne,r.few⟩
theorem Rn.fresh{K:tP}{AR rp l1 l p:Addr}{fs:List Res}{H:Hp}{ns:Ns}(r:Rn K AR fs rp l1 l H ns)(hp:H p=none):l1≠p/\l≠p:=by
 obtain⟨us,e2,_⟩:=r.fo
 exact⟨zm e2 hp,zm r.na hp⟩
section
variable{fs:List Res}{e:Env}
theorem za6(x:Ex)(xs:List Ex)(ns:Ns):evs fs (x::xs) e ns=if (ev fs x e ns).1.res.isMade then ((ev fs x e ns).1::(evs fs xs e (ev fs x e ns).2).1,(evs fs xs e (ev fs x e ns).2).2) else ([(ev fs x e ns).1],(ev fs x e ns).2):=by rw[evs]
theorem zel:∀{es:List Ex}{ns:Ns}{r:R},(evs fs es e ns).1.getLast?=some r->r.res.isMade=Zp (evs fs es e ns).1
 |[],ns,r,h=>by rw[evs] at h;cases h
 |x::xs,ns,r,h=>by
  rw[evs] at h ⊢
  cases hx:(ev fs x e ns).1.res.isMade with
  |false=>
   rw[hx,if_neg (by decide)] at h
   rw[if_neg (by decide)]
   cases h
   simp[Zp,hx]
  |true=>
   rw[hx,if_pos rfl] at h
   rw[if_pos rfl]
   unfold Zp
   rw[vU,hx,vV]
   cases hxs:(evs fs xs e (ev fs x e ns).2).1 with
   |nil=>
    have h:((ev fs x e ns).1::(evs fs xs e (ev fs x e ns).2).1).getLast?=some r:=h
    rw[hxs] at h
    cases h
    simpa using hx
   |cons y ys=>
    have h:((ev fs x e ns).1::(evs fs xs e (ev fs x e ns).2).1).getLast?=some r:=h
    rw[hxs,vX,←hxs] at h
    have:=zel h
    rw[hxs] at this
    exact this
theorem zjf:∀{es:List Ex}{ns:Ns},(evs fs es e ns).1.length<=es.length
 |[],ns=>by rw[evs];exact yE _
 |x::xs,ns=>by
  rw[evs]
  split
  ·have:=zjf (es:=xs) (ns:=(ev fs x e ns).2)
   simp only[yJ]
   lia
  ·simp
end
def zfk(K:tP)(AR:Addr)(n:Nat):Sp:=fun vs H Q _=>∃(fs:List Res)(rp l1 l la bd:Addr)(us:List V)(kvs:List (Key×V))(e:Env)(es:List Ex)(ns:Ns),vs=[.ref rp,.ref la,.ref bd]/\Rn K AR fs rp l1 l H ns/\((SqL K H la us/\la≠l)\/SqT K H la us)/\RWs H us (exWs es)/\H bd=some (.dK kvs)/\kvs.length+2*n<=1000/\EnvR H kvs e/\highs es<=n/\Fines fs es e ns/\es.length<=100 /\
 ∀(p:Addr)(vs':List V)(H':Hp),H p=none->G l H H'->Rn K AR fs rp l1 l H' (evs fs es e ns).2->H' p=some (.lst vs')->RRs K H' vs' (evs fs es e ns).1->Q (.ref p) H'
section
variable{P:Program}{w:World}{K:tP}{mg:Str->Option Value}{base:Heap}{f:Addr}{fd:tQ}{k n:Nat}{ARun ATask:Addr}
theorem zaP:FnScope ["run","expressions","bound","records","expression"] ["run","expressions","bound"] (zr zaZ):=mkSc rfl (by decide +kernel)
theorem zem(F:Fun K "go_through" "go_through" zaZ f fd)(G_is_made:Have P w K mg base "is_made" k ["record"] (Z8 K))(G_record_of:Have P w K mg base "record_of" k ["run","expression","bound"] (spG K ARun n (fun _=>True))):FnOk P w K mg base CX0 (k+1) f fd ["run","expressions","bound"] (zfk K ARun n):=by
 refine F.okQ zaP (by rintro _ _ _ _ ⟨_,_,_,_,_,_,_,_,_,_,_,rfl,_⟩;rfl) fun cdv A outer s H vs Q E hr h=>?_
 obtain⟨fs,rp,l1,l,la,bd,us,kvs,e,es,ns,rfl,rn,hl,hw,hb,hk,he,hh,hf,hn,q⟩:=h
 have hul:=hw.len
 rw[zek] at hul
 refine⟨_,(zj (zG (i:=3) zaP.nd rfl (Or.inl rfl) (Zb zi))
  (zj (zat tL rfl (zc7 (pv 1)) (zR (i:=4) zaP.nd rfl (Or.inl rfl)) (zj (Ze (zcf tM tO tN zaa (pv 3) (zc (zy G_record_of hr rfl (zc (pv 0) (zc (pv 4) (zc (pv 2) zi)))) zi)))
  (zq (zN (ZK (zZ (zy G_is_made hr rfl (zc (zx zF (pv 3) (zcy zbx zk) (fun _ _=>rfl)) zi)))) (zq (zw (pv 3))) zC))))
  (zq (zw (pv 3))))),?_⟩
 refine⟨zl0,fun p hp=>?_⟩
 have sP:Same H (upd H p (.lst [])):=Sn hp
 obtain⟨n1,n2⟩:=rn.fresh hp
 rcases hl with⟨hl,hla⟩|hl
 ·refine .inl ⟨_,rfl,la,rfl,⟨us,sP.seq hl⟩,zdI (xs:=us) (fun i σ' H'=>∃(o:Option V)(vs':List V)(dn:List R)(nsi:Ns),σ'=[some (.ref rp),some (.ref la),some (.ref bd),some (.ref p),o]/\G l H H'/\Rn K ARun fs rp l1 l H' nsi/\H' p=some (.lst vs')/\RRs K H' vs' dn/\evs fs es e ns=(dn++(evs fs (es.drop i) e nsi).1,(evs fs (es.drop i) e nsi).2)/\Fines fs (es.drop i) e nsi/\dn.length=i)
   ⟨none,[],[],ns,rfl,rn.g sP,rn.same sP,zf,RRs.nil,rfl,hf,rfl⟩ (fun i σ' H' _ h=>?_) (fun i x σ' H' hx h=>?_) (fun σ' H' h=>?_)⟩
  ·obtain⟨o,vs',dn,nsi,_,g,_⟩:=h
   exact g.k.seqL hla hl
  ·obtain⟨o,vs',dn,nsi,rfl,g,rni,ep,rrs,hwk,hfi,hdl⟩:=h
   have hi:i<us.length:=(yC.mp hx).1
   have hie:i<es.length:=by lia
   have hy:es[i]?=some es[i]:=yA hie
   have hw':RW H x (es[i]).toW:=hw.at' i x _ hx (by rw[zgb,hy];rfl)
   have hhy:=zc8 (yH hy)
   have hvl:=rrs.len
   rw[xD hie,za6] at hwk
   rw[xD hie,Fines] at hfi
   refine⟨_,rfl,.inl ⟨rfl,_,Sl ep⟩,_,rfl,_,rfl,_,rfl,fs,rp,l1,l,x,bd,kvs,e,es[i],nsi,rfl,rni,hw'.mono g.ts,g.d hb,hk,g.env he,by lia,hfi.1,trivial,fun v H2 g2 rn2 rr=>?_⟩
   have ep2:=g2.k p _ n2.symm ep
   refine⟨p,vs',v,rfl,rfl,ep2,ZE (by lia),?_⟩
   have kb:Kb p H2 (upd H2 p (.lst (vs'++[v]))):=Kb.put
   have rr3:=kb.rr ep2 rr
   have rrs3:=(kb.rrs ep2 (g2.rrs rrs)).snoc rr3
   have g3:G l H (upd H2 p (.lst (vs'++[v]))):=⟨fun c o hc ec=>by rw[zu (zm ec hp)];exact g2.k _ _ hc (g.k _ _ hc ec),g.l⟩
   have rn3:=rn2.keep kb ep2 n1 n2
   have ep3:upd H2 p (.lst (vs'++[v])) p=some (.lst (vs'++[v])):=zf
   generalize upd H2 p (.lst (vs'++[v]))=H3 at rr3 rrs3 g3 rn3 ep3
   refine⟨_,rfl,_,rfl,p,vs'++[v],-1,v,rfl,rfl,Sl ep3,zcn _ _,v,(ev fs es[i] e nsi).1,rfl,rr3,_,rfl,?_⟩
   cases hmd:(ev fs es[i] e nsi).1.res.isMade with
   |false=>
    rw[hmd,if_neg (by decide)] at hwk
    rw[hwk] at q
    exact iteT ⟨_,rfl,q p _ _ hp g3 rn3 ep3 rrs3⟩
   |true=>
    rw[hmd,if_pos rfl] at hwk
    exact iteF ⟨_,vs'++[v],dn++[(ev fs es[i] e nsi).1],_,rfl,g3,rn3,ep3,rrs3,by rw[hwk,xQ];rfl,hfi.2 hmd,by simp[hdl]⟩
  ·obtain⟨o,vs',dn,nsi,rfl,g,rni,ep,rrs,hwk,hfi,hdl⟩:=h
   rw[hul,vY,evs,xK] at hwk
   rw[hwk] at q
   exact⟨_,rfl,q p vs' _ hp g rni ep rrs⟩
 ·refine .inr ⟨_,rfl,la,rfl,⟨us,sP.seqT hl⟩,zhY (xs:=us) (fun i σ' H'=>∃(o:Option V)(vs':List V)(dn:List R)(nsi:Ns),σ'=[some (.ref rp),some (.ref la),some (.ref bd),some (.ref p),o]/\G l H H'/\Rn K ARun fs rp l1 l H' nsi/\H' p=some (.lst vs')/\RRs K H' vs' dn/\evs fs es e ns=(dn++(evs fs (es.drop i) e nsi).1,(evs fs (es.drop i) e nsi).2)/\Fines fs (es.drop i) e nsi/\dn.length=i)
   ⟨none,[],[],ns,rfl,rn.g sP,rn.same sP,zf,RRs.nil,rfl,hf,rfl⟩ (fun i σ' H' _ h=>?_) (fun i x σ' H' hx h=>?_) (fun σ' H' h=>?_)⟩
  ·obtain⟨o,vs',dn,nsi,_,g,_⟩:=h
   exact g.sq hl
  ·obtain⟨o,vs',dn,nsi,rfl,g,rni,ep,rrs,hwk,hfi,hdl⟩:=h
   have hi:i<us.length:=(yC.mp hx).1
   have hie:i<es.length:=by lia
   have hy:es[i]?=some es[i]:=yA hie
   have hw':RW H x (es[i]).toW:=hw.at' i x _ hx (by rw[zgb,hy];rfl)
   have hhy:=zc8 (yH hy)
   have hvl:=rrs.len
   rw[xD hie,za6] at hwk
   rw[xD hie,Fines] at hfi
   refine⟨_,rfl,.inl ⟨rfl,_,Sl ep⟩,_,rfl,_,rfl,_,rfl,fs,rp,l1,l,x,bd,kvs,e,es[i],nsi,rfl,rni,hw'.mono g.ts,g.d hb,hk,g.env he,by lia,hfi.1,trivial,fun v H2 g2 rn2 rr=>?_⟩
   have ep2:=g2.k p _ n2.symm ep
   refine⟨p,vs',v,rfl,rfl,ep2,ZE (by lia),?_⟩
   have kb:Kb p H2 (upd H2 p (.lst (vs'++[v]))):=Kb.put
   have rr3:=kb.rr ep2 rr
   have rrs3:=(kb.rrs ep2 (g2.rrs rrs)).snoc rr3
   have g3:G l H (upd H2 p (.lst (vs'++[v]))):=⟨fun c o hc ec=>by rw[zu (zm ec hp)];exact g2.k _ _ hc (g.k _ _ hc ec),g.l⟩
   have rn3:=rn2.keep kb ep2 n1 n2
   have ep3:upd H2 p (.lst (vs'++[v])) p=some (.lst (vs'++[v])):=zf
   generalize upd H2 p (.lst (vs'++[v]))=H3 at rr3 rrs3 g3 rn3 ep3
   refine⟨_,rfl,_,rfl,p,vs'++[v],-1,v,rfl,rfl,Sl ep3,zcn _ _,v,(ev fs es[i] e nsi).1,rfl,rr3,_,rfl,?_⟩
   cases hmd:(ev fs es[i] e nsi).1.res.isMade with
   |false=>
    rw[hmd,if_neg (by decide)] at hwk
    rw[hwk] at q
    exact iteT ⟨_,rfl,q p _ _ hp g3 rn3 ep3 rrs3⟩
   |true=>
    rw[hmd,if_pos rfl] at hwk
    exact iteF ⟨_,vs'++[v],dn++[(ev fs es[i] e nsi).1],_,rfl,g3,rn3,ep3,rrs3,by rw[hwk,xQ];rfl,hfi.2 hmd,by simp[hdl]⟩
  ·obtain⟨o,vs',dn,nsi,rfl,g,rni,ep,rrs,hwk,hfi,hdl⟩:=h
   rw[hul,vY,evs,xK] at hwk
   rw[hwk] at q
   exact⟨_,rfl,q p vs' _ hp g rni ep rrs⟩
theorem zbg:FnScope ["run","expression","bound","records"] ["run","expression","bound"] (zr zaO):=mkSc rfl (by decide +kernel)
theorem zdo(F:Fun K "go_reckoned" "go_reckoned" zaO f fd)(G_reckoned:Have P w K mg base "reckoned" k ["word","worths"] (zi2 K))(G_worth_of:Have P w K mg base "worth_of" k ["record"] (ZV K))(G_is_made:Have P w K mg base "is_made" k ["record"] (Z8 K))(G_as_last:Have P w K mg base "as_last" k ["records"] (zak K))(G_go_through:Have P w K mg base "go_through" k ["run","expressions","bound"] (zfk K ARun n))(G_parts_of:Have P w K mg base "parts_of" k ["expression"] (zfe))(m_len:mg "len"=none)(m_tuple:mg "tuple"=none):FnOk P w K mg base CX0 (k+1) f fd ["run","expression","bound"] (spG K ARun (n+1) (fun x=>∃d es,x=.reck d es)):=by
 refine F.okQ zbg (by rintro _ _ _ _ ⟨_,_,_,_,_,_,_,_,_,_,rfl,_⟩;rfl) fun cdv A outer s H vs Q E hr h=>?_
 obtain⟨fs,rp,l1,l,u,bd,kvs,e,x,ns,rfl,rn,ru,hb,hk,he,hh,hf,⟨d,es,rfl⟩,q⟩:=h
 rw[Ex.toW] at ru
 rw[Ex.high] at hh
 rw[Fine] at hf
 obtain⟨hlen,hfs,hok⟩:=hf
 obtain⟨a,vs,rfl,ea,hw0⟩:=ru.tup
 obtain⟨u0,us,rfl,r0,hw⟩:=hw0.cons
 obtain rfl:=r0.str
 have hul:=hw.len
 rw[zek] at hul
 refine⟨_,(zj (zG (i:=3) zbg.nd rfl (Or.inl rfl) (zy G_go_through hr rfl (zc (pv 0) (zc (zy G_parts_of hr rfl (zc (pv 1) zi)) (zc (pv 2) zi)))))
  (zj (zN (PW.pt (zcu (zH zdJ (zB zP rfl m_len tD (zc (pv 3) zi)) zk (nomark _)) (zbO (ZK (zZ (zy G_is_made hr rfl (zc (zx zF (pv 3) (zcy zbx zk) (fun _ _=>rfl)) zi))))))) (zq (zw (zy G_as_last hr rfl (zc (pv 3) zi)))) zC)
  (zq (zw (zE (zc (zy G_reckoned hr rfl (zc (zx zD (pv 1) zk (fun _ _=>rfl)) (zc (Zx [] [] rfl rfl (by decide +kernel) rfl (by decide +kernel) rfl (by decide +kernel) trivial rfl trivial (ZZ (pv 3)) (fun C s H fp=>⟨Zl,(zy G_worth_of hr rfl (zc (pv 0) zi))⟩)) zi))) (zc (zJ Zf rfl m_tuple zM (zc (pv 3) zi)) zi))))))),?_⟩
 refine⟨_,rfl,_,rfl,a,d,us,rfl,ea,by lia,fun la H1 s1 el hla=>⟨_,rfl,fs,rp,l1,l,la,bd,us,kvs,e,es,ns,rfl,rn.same s1,.inl ⟨Sl el,fun z=>zm rn.na hla z.symm⟩,hw.mono (zo s1),s1 _ _ hb,by lia,he.mono s1,by lia,hfs,hlen,fun p vs' H2 hp g2 rn2 ep rrs=>?_⟩⟩
 have g12:=(rn.g s1).trans g2
 have hvl:=rrs.len
 have hev:=zjf (fs:=fs) (e:=e) (es:=es) (ns:=ns)
 refine⟨_,rfl,_,_,rfl,.inl ⟨_,Sl ep,rfl⟩,_,_,rfl,rfl,_,rfl,?_⟩
 have good:Zp (evs fs es e ns).1=true->tTup (zcD (zh7 (zi2 K) [] E0 (zcD (tOp (rIxT K) (tVar 1) (tC (.int 0))) (zcD (zcH [] (zhW K (tVar 3)) (fun _ H Q=>Q true H) (zh7 (ZV K) [] E0 (zcD (tVar 0) tNil))) tNil))) (zcD (tCB (fun xs H Q=>∃p ys,xs=[.ref p]/\((SqL K H p ys/\∀l,H l=none->Q (.ref l) (upd H l (.tup ys)))\/(SqT K H p ys/\Q (.ref p) H))) (zcD (tVar 3) tNil)) tNil))
   [some (.ref rp),some (.ref a),some (.ref bd),some (.ref p)] H2 Q:=fun hall=>by
  obtain⟨ok,dep,l8,ar⟩:=hok hall
  refine⟨_,rfl,a,_,0,_,rfl,rfl,Sq (g12.t ea),zt (j:=0) rfl,_,rfl,p,rfl,⟨_,Sl ep⟩,?_⟩
  refine za5 (K:=K) (vs:=vs') (fun i us H3=>us.length=i/\∀(j:Nat)(y:V)(r:R),us[j]?=some y->(evs fs es e ns).1[j]?=some r->RW H3 y r.worth) (Sl ep) (wZ (ZE (by lia))) ⟨rfl,fun j y r h=>by simp at h⟩ (fun _ _ _ h=>h.1)
   (fun i v us H3 R hv hP sm r=>?_) (fun us H3 D hP sm hD=>?_)
  ·have hi:=(yC.mp hv).1
   have hi':i<(evs fs es e ns).1.length:=by lia
   have er:(evs fs es e ns).1[i]?=some (evs fs es e ns).1[i]:=yA hi'
   have hm:((evs fs es e ns).1[i]).res.isMade=true:=xT.mp hall _ (xA hi')
   refine⟨_,rfl,v,(evs fs es e ns).1[i],_,rfl,(rrs.at' i v _ hv er).mono sm,zaH hm,fun y ry=>?_⟩
   refine r y H3 (Sr _) ⟨by simp[hP.1],fun j z rj hz hrj=>?_⟩
   by_cases hj:j<us.length
   ·rw[yL hj] at hz
    exact hP.2 j z rj hz hrj
   ·have hlt:=(yC.mp hz).1
    have ej:j=us.length:=by simp at hlt;lia
    subst ej
    obtain rfl:y=z:=by simpa using hz
    rw[hP.1,er] at hrj
    cases hrj
    exact ry
  ·have s3:=sm.trans (Sn (o:=.lst us) hD)
   have hP1:us.length=vs'.length:=hP.1
   refine⟨d,D,us,(evs fs es e ns).1.map R.worth,rfl,zf,⟨by rw[yB];lia,fun j y z hy hz=>?_⟩,ok,dep,by rw[yB];exact l8,by rw[yB];exact ar,fun uu H4 s4 rm=>?_⟩
   ·rw[yF] at hz
    obtain⟨r,hr,rfl⟩:=yT.mp hz
    exact (hP.2 j y r hy hr).mono (zo (Sn (o:=.lst us) hD))
   ·have s34:=s3.trans s4
    refine⟨_,rfl,p,vs',rfl,.inl ⟨Sl (s34 _ _ ep),fun t ht=>⟨zl2,fun a2 ha2=>?_⟩⟩⟩
    have s5:=Sn (o:=.tup vs') ht
    have s6:=Sn (o:=.tup [uu,.ref t]) ha2
    have s56:=s5.trans s6
    have hE:ev fs (.reck d es) e ns=(.mk (zbb (recW d ((evs fs es e ns).1.map R.worth))) (evs fs es e ns).1,(evs fs es e ns).2):=by rw[ev,if_pos hall]
    rw[hE] at q
    exact q _ _ ((g12.same s34).same s56) ((rn2.same s34).same s56) ((rrs.mono (s34.trans s56)).rr zf ((rm.res (zkc _ _)).mono s56) (s6 _ _ zf))
 cases hrs:(evs fs es e ns).1.getLast? with
 |none=>
  have hnil:(evs fs es e ns).1=[]:=List.getLast?_eq_none_iff.mp hrs
  have hv0:vs'.length=0:=by rw[hvl,hnil];rfl
  rw[show decide ((0:Int)<((vs'.length:Nat):Int))=false from decide_eq_false (by lia)]
  exact iteF (iteF (good (by rw[hnil];rfl)))
 |some r=>
  obtain⟨v,ev1,hpos,rr⟩:=rrs.last hrs
  rw[show decide ((0:Int)<((vs'.length:Nat):Int))=true from decide_eq_true (by lia)]
  refine iteT ⟨_,rfl,_,rfl,p,vs',-1,v,rfl,rfl,Sl ep,za4 ev1 hpos,v,r,rfl,rr,_,rfl,?_⟩
  cases hm:r.res.isMade with
  |true=>
   refine iteF (good ?_)
   rw[←zel hrs]
   exact hm
  |false=>
   have hE:ev fs (.reck d es) e ns=(.mk r.res (evs fs es e ns).1,(evs fs es e ns).2):=by rw[ev,if_neg (by rw[←zel hrs,hm];decide),zgN hrs]
   rw[hE] at q
   exact iteT ⟨_,rfl,p,vs',(evs fs es e ns).1,r,rfl,ep,rrs,hrs,fun v' H3 s3 rr3=>q _ _ (g12.same s3) (rn2.same s3) rr3⟩
noncomputable def zkd:Res:=.wrong [.txt "kind",.txt ""]
noncomputable def zjg:Res:=.wrong [.txt "great",.txt ""]
def endR(rs:List R)(r r0:R):Option R:=if r.res.isMade then (match r0.worth with
  |.lst ws=>if ws.length > 10 then some (.mk zjg rs) else none
  |_=>some (.mk zkd rs)) else some (.mk r.res rs)
def endV(K:tP)(H:Hp)(v:V):Option R->Prop
 |some r=>RR K H v r
 |none=>v=.non
def zjh(K:tP):Sp:=fun vs H Q _=>∃(l:Addr)(us:List V)(rs:List R)(r r0:R),vs=[.ref l]/\H l=some (.lst us)/\RRs K H us rs/\rs.getLast?=some r/\rs[0]?=some r0/\(r.res.isMade=true->r0.res.isMade=true) /\
 ∀(v:V)(H':Hp),Same H H'->endV K H' v (endR rs r r0)->Q v H'
theorem zbh:FnScope ["records","walked"] ["records"] (zr zaN):=mkSc rfl (by decide +kernel)
theorem zdp(F:Fun K "ended_ahead" "ended_ahead" zaN f fd)(G_worth_of:Have P w K mg base "worth_of" k ["record"] (ZV K))(G_is_made:Have P w K mg base "is_made" k ["record"] (Z8 K))(G_as_last:Have P w K mg base "as_last" k ["records"] (zak K))(m_isi:mg "isinstance"=none)(m_len:mg "len"=none)(m_tuple:mg "tuple"=none){g_KIND:Addr}(m_KIND:mg "KIND"=some (.ref g_KIND))(t_KIND:∀H:Hp,SqT K H g_KIND [.str "wrong",.str "kind",.str ""])(m_MOST_WALKED:∃t,mg "MOST_WALKED"=some (.int 10 t)){g_GREAT:Addr}(m_GREAT:mg "GREAT"=some (.ref g_GREAT))(t_GREAT:∀H:Hp,SqT K H g_GREAT [.str "wrong",.str "great",.str ""]):FnOk P w K mg base CX0 (k+1) f fd ["records"] (zjh K):=by
 refine F.okQ zbh (by rintro _ _ _ _ ⟨_,_,_,_,_,rfl,_⟩;rfl) fun cdv A outer s H vs Q E hr h=>?_
 obtain⟨l,us,rs,r,r0,rfl,el,rrs,hlast,h0,hmm,q⟩:=h
 refine⟨_,(zj (zN (ZK (zZ (zy G_is_made hr rfl (zc (zx zF (pv 0) (zcy zbx zk) (fun _ _=>rfl)) zi)))) (zq (zw (zy G_as_last hr rfl (zc (pv 0) zi)))) zC)
  (zj (zG (i:=1) zbh.nd rfl (Or.inl rfl) (zy G_worth_of hr rfl (zc (zx zF (pv 0) zk (fun _ _=>rfl)) zi)))
  (zj (zN (ZK (zZ (zB Zy rfl m_isi Zq (zc (pv 1) (zc (zaM rfl m_tuple zM) zi))))) (zq (zw (zE (zc (Zd (v:=.ref g_KIND) rfl m_KIND rfl) (zc (zJ Zf rfl m_tuple zM (zc (pv 0) zi)) zi))))) zC)
  (zq (zw (ZO (zH zdJ (zB zP rfl m_len tD (zc (pv 1) zi)) (zah rfl m_MOST_WALKED) (nomark _)) (zE (zc (Zd (v:=.ref g_GREAT) rfl m_GREAT rfl) (zc (zJ Zf rfl m_tuple zM (zc (pv 0) zi)) zi))) zaB)))))),?_⟩
 obtain⟨v,e1,hpos,rr⟩:=rrs.last hlast
 have e0:us[0]?=some us[0]:=yA hpos
 have rr0:=rrs.at' 0 _ _ e0 h0
 refine⟨_,rfl,_,rfl,l,us,-1,v,rfl,rfl,Sl el,za4 e1 hpos,v,r,rfl,rr,_,rfl,?_⟩
 cases hm:r.res.isMade with
 |false=>
  refine iteT ⟨_,rfl,l,us,rs,r,rfl,el,rrs,hlast,fun v' H' s' rr'=>q v' H' s' ?_⟩
  unfold endR
  rw[hm,if_neg (by decide)]
  exact rr'
 |true=>
  refine iteF ⟨_,rfl,l,us,0,us[0],rfl,rfl,Sl el,zt (j:=0) e0,us[0],r0,r0.worth,rfl,rr0,zaH (hmm hm),fun y ry=>?_⟩
  have fin:∀(res:Res)(rv:V)(t a:Addr)(H':Hp),Same H H'->H' a=some (.tup [rv,.ref t])->H' t=some (.tup us)->RRes K H' rv res->RR K H' (.ref a) (.mk res rs):=fun res rv t a H' s' ea et rres=>(rrs.mono s').rr ea rres et
  refine⟨_,rfl,_,_,_,_,rfl,ry.tyW,isiT _,_,rfl,?_⟩
  have eR:endR rs r r0=(match r0.worth with
    |.lst ws=>if ws.length > 10 then some (.mk zjg rs) else none
    |_=>some (.mk zkd rs)):=by unfold endR;rw[hm,if_pos rfl]
  rw[eR] at q
  cases hx:r0.worth with
  |num i=>
   rw[hx] at q
   refine iteT ⟨_,rfl,l,us,rfl,.inl ⟨Sl el,fun t ht=>⟨zl2,fun a ha=>?_⟩⟩⟩
   have s2:=(Sn (o:=.tup us) ht).trans (Sn (o:=.tup [.ref g_KIND,.ref t]) ha)
   exact q _ _ s2 (fin zkd _ t a _ s2 zf (Sn ha _ _ zf) (show RS K _ _ _ from RS.three (t_KIND _) (.txt _) (.txt _) (.txt _)))
  |txt z=>
   rw[hx] at q
   refine iteT ⟨_,rfl,l,us,rfl,.inl ⟨Sl el,fun t ht=>⟨zl2,fun a ha=>?_⟩⟩⟩
   have s2:=(Sn (o:=.tup us) ht).trans (Sn (o:=.tup [.ref g_KIND,.ref t]) ha)
   exact q _ _ s2 (fin zkd _ t a _ s2 zf (Sn ha _ _ zf) (show RS K _ _ _ from RS.three (t_KIND _) (.txt _) (.txt _) (.txt _)))
  |lst ws=>
   rw[hx] at q ry
   obtain⟨b,ys,rfl,eb,hw⟩:=ry.tup
   have hwl:=hw.len
   refine iteF ⟨_,rfl,_,_,rfl,.inr ⟨_,Sq eb,rfl⟩,_,_,rfl,rfl,_,rfl,?_⟩
   by_cases hgt:ws.length > 10
   ·rw[show decide ((10:Int)<((ys.length:Nat):Int))=true from decide_eq_true (by lia)]
    refine iteT ⟨_,rfl,l,us,rfl,.inl ⟨Sl el,fun t ht=>⟨zl2,fun a ha=>?_⟩⟩⟩
    have s2:=(Sn (o:=.tup us) ht).trans (Sn (o:=.tup [.ref g_GREAT,.ref t]) ha)
    dsimp only at q
    rw[if_pos hgt] at q
    exact q _ _ s2 (fin zjg _ t a _ s2 zf (Sn ha _ _ zf) (show RS K _ _ _ from RS.three (t_GREAT _) (.txt _) (.txt _) (.txt _)))
   ·rw[show decide ((10:Int)<((ys.length:Nat):Int))=false from decide_eq_false (by lia)]
    refine iteF ?_
    dsimp only at q
    rw[if_neg hgt] at q
    exact q _ _ (Sr _) rfl
theorem zji(vs:List V)(h:1<=vs.length):cutV vs (some 1) none=vs.drop 1:=by
 show (vs.drop (HT.sIx vs.length 0 (some ((1:Nat):Int)))).take (vs.length-HT.sIx vs.length 0 (some ((1:Nat):Int)))=_
 rw[HT.sIx_nat,Nat.min_eq_left h,xJ (by rw[xU];lia)]
theorem RRs.tail{K:tP}{H:Hp}{vs:List V}{r:R}{rs:List R}(h:RRs K H vs (r::rs)):∃v us,vs=v::us/\RR K H v r/\RRs K H us rs:=by
 match vs,h.len with
 |v::us,l=>exact⟨v,us,rfl,h.at' 0 _ _ rfl rfl,by simpa using l,fun i w x a b=>h.at' (i+1) w x a b⟩
section
variable{fs:List Res}{e:Env}{ns:Ns}
theorem zgc(a:Ex):evs fs [a] e ns=([(ev fs a e ns).1],(ev fs a e ns).2):=by
 rw[evs]
 split
 ·rw[evs]
 ·rfl
theorem za9(g:W->Ns->R×Ns){w:W}{ws:List W}{ns:Ns}:zQ g (w::ws) ns=if (g w ns).1.res.isMade then ((g w ns).1::(zQ g ws (g w ns).2).1,(zQ g ws (g w ns).2).2) else ([(g w ns).1],(g w ns).2):=by rw[zQ]
theorem zfl{r:R}{x:W}(h:r.res=.made x):r.worth=x:=by
 have:=zaH (r:=r) (by rw[h];rfl)
 rw[h] at this
 exact (Res.made.inj this).symm
theorem znj{s:Str}{a b:Ex}{r:R}(h:endR [(ev fs a e ns).1] (ev fs a e ns).1 (ev fs a e ns).1=some r):ev fs (.eachE s a b) e ns=(r,(ev fs a e ns).2):=by
 unfold endR at h
 rw[ev]
 cases hr:(ev fs a e ns).1.res with
 |wrong ws=>
  rw[hr,show (Res.wrong ws).isMade=false from rfl,if_neg (by decide)] at h
  exact congrArg (·,(ev fs a e ns).2) (Option.some.inj h)
 |stop=>
  rw[hr,show Res.stop.isMade=false from rfl,if_neg (by decide)] at h
  exact congrArg (·,(ev fs a e ns).2) (Option.some.inj h)
 |made x=>
  have hw:=zfl hr
  rw[hr,show (Res.made x).isMade=true from rfl,if_pos rfl,hw] at h
  cases x with
  |num i=>exact congrArg (·,(ev fs a e ns).2) (Option.some.inj h)
  |txt z=>exact congrArg (·,(ev fs a e ns).2) (Option.some.inj h)
  |lst ws=>
   dsimp only at h ⊢
   by_cases hg:ws.length > 10
   ·rw[if_pos hg] at h ⊢
    exact congrArg (·,(ev fs a e ns).2) (Option.some.inj h)
   ·rw[if_neg hg] at h
    cases h
theorem zjj{s:Str}{a b:Ex}{ws:List W}(h:(ev fs a e ns).1.res=.made (.lst ws))(hl:ws.length<=10):ev fs (.eachE s a b) e ns=if Zp (zQ (fun w m=>ev fs b (put e s w) m) ws (ev fs a e ns).2).1 then (.mk (zbb (zab (.lst ((zQ (fun w m=>ev fs b (put e s w) m) ws (ev fs a e ns).2).1.map R.worth)))) ((ev fs a e ns).1::(zQ (fun w m=>ev fs b (put e s w) m) ws (ev fs a e ns).2).1),(zQ (fun w m=>ev fs b (put e s w) m) ws (ev fs a e ns).2).2)
    else (.mk (zaT (zQ (fun w m=>ev fs b (put e s w) m) ws (ev fs a e ns).2).1 (ev fs a e ns).1).res ((ev fs a e ns).1::(zQ (fun w m=>ev fs b (put e s w) m) ws (ev fs a e ns).2).1),(zQ (fun w m=>ev fs b (put e s w) m) ws (ev fs a e ns).2).2):=by
 rw[ev,h]
 dsimp only
 rw[if_neg (by lia)]
end
theorem zke{rs:List R}{r r0:R}(h:endR rs r r0=none):r.res.isMade=true/\∃ws,r0.worth=.lst ws/\ws.length<=10:=by
 unfold endR at h
 cases hm:r.res.isMade with
 |false=>rw[hm,if_neg (by decide)] at h;cases h
 |true=>
  rw[hm,if_pos rfl] at h
  refine⟨rfl,?_⟩
  cases hx:r0.worth with
  |num i=>rw[hx] at h;cases h
  |txt z=>rw[hx] at h;cases h
  |lst ws=>
   rw[hx] at h
   dsimp only at h
   by_cases hg:ws.length > 10
   ·rw[if_pos hg] at h;cases h
   ·exact⟨ws,rfl,by lia⟩
theorem RR.ne_non{K:tP}{H:Hp}{v:V}{r:R}(h:RR K H v r):(!decide (v=V.non))=true:=by
 obtain⟨a,b,rv,rfl,_⟩:=h.res
 rfl
theorem zjk{K:tP}{H:Hp}{us:List V}{rs:List R}(h:us.length=rs.length)(g:∀(j:Nat) (y:V) (r:R),us[j]?=some y->rs[j]?=some r->RW H y r.worth):RWs H us (rs.map R.worth):=
 ⟨by rw[yB];exact h,fun j y z hy hz=>by
  rw[yF] at hz
  obtain⟨r,hr,rfl⟩:=yT.mp hz
  exact g j y r hy hr⟩
theorem zaI:FnScope ["run","expression","bound","records","ended","walked","item"] ["run","expression","bound"] (zr zcU):=mkSc rfl (by decide +kernel)
theorem zhM(F:Fun K "go_each" "go_each" zcU f fd)(G_made:Have P w K mg base "made" k ["thing"] (zaS K 24))(G_worth_of:Have P w K mg base "worth_of" k ["record"] (ZV K))(G_is_made:Have P w K mg base "is_made" k ["record"] (Z8 K))(G_as_last:Have P w K mg base "as_last" k ["records"] (zak K))(G_record_of:Have P w K mg base "record_of" k ["run","expression","bound"] (spG K ARun n (fun _=>True)))(G_binding:Have P w K mg base "binding" k ["bound","name","worth"] (zi6))(G_ended_ahead:Have P w K mg base "ended_ahead" k ["records"] (zjh K))(G_go_through:Have P w K mg base "go_through" k ["run","expressions","bound"] (zfk K ARun n))(m_tuple:mg "tuple"=none):FnOk P w K mg base CX0 (k+1) f fd ["run","expression","bound"] (spG K ARun (n+1) (fun x=>∃s a b,x=.eachE s a b)):=by
 refine F.okQ zaI (by rintro _ _ _ _ ⟨_,_,_,_,_,_,_,_,_,_,rfl,_⟩;rfl) fun cdv A outer s H vs Q E hr h=>?_
 obtain⟨fs,rp,l1,l,u,bd,kvs,e,x,ns,rfl,rn,ru,hb,hk,he,hh,hf,⟨z,A1,B1,rfl⟩,q⟩:=h
 rw[Ex.toW] at ru
 rw[Ex.high] at hh
 rw[Fine] at hf
 obtain⟨a,vs,rfl,ea,hw0⟩:=ru.tup
 obtain⟨u0,us,rfl,r0,hw1⟩:=hw0.cons
 obtain⟨u1,us,rfl,r1,hw2⟩:=hw1.cons
 obtain⟨u2,us,rfl,r2,hw3⟩:=hw2.cons
 obtain⟨u3,us,rfl,r3,hw4⟩:=hw3.cons
 obtain rfl:=hw4.nil'
 obtain rfl:=r1.str
 refine⟨_,(zj (zG (i:=3) zaI.nd rfl (Or.inl rfl) (zy G_go_through hr rfl (zc (pv 0) (zc (zag zig (pv 1) (zaz zk) (zaz zk)) (zc (pv 2) zi)))))
  (zj (zG (i:=4) zaI.nd rfl (Or.inl rfl) (zy G_ended_ahead hr rfl (zc (pv 3) zi)))
  (zj (zN (zao (zax (pv 4))) (zq (zw (pv 4))) zC)
  (zj (zG (i:=5) zaI.nd rfl (Or.inl rfl) (zy G_worth_of hr rfl (zc (zx zF (pv 3) zk (fun _ _=>rfl)) zi)))
  (zj (zat tL rfl (zcw (pv 5)) (zR (i:=6) zaI.nd rfl (Or.inl rfl)) (zj (Ze (zcf tM tO tN zaa (pv 3) (zc (zy G_record_of hr rfl (zc (pv 0) (zc (zx zD (pv 1) zk (fun _ _=>rfl)) (zc (zy G_binding hr rfl (zc (pv 2) (zc (zx zD (pv 1) zk (fun _ _=>rfl)) (zc (pv 6) zi)))) zi)))) zi)))
  (zq (zN (ZK (zZ (zy G_is_made hr rfl (zc (zx zF (pv 3) (zcy zbx zk) (fun _ _=>rfl)) zi)))) (zq (zw (zy G_as_last hr rfl (zc (pv 3) zi)))) zC))))
  (zq (zw (zE (zc (zy G_made hr rfl (zc (zJ Zf rfl m_tuple zM (zc (Zx [] [] rfl rfl (by decide +kernel) rfl (by decide +kernel) rfl (by decide +kernel) trivial rfl trivial (ZZ (zag zdN (pv 3) (zaz zk) zaW)) (fun C s H fp=>⟨Zl,(zy G_worth_of hr rfl (zc (pv 0) zi))⟩)) zi)) zi)) (zc (zJ Zf rfl m_tuple zM (zc (pv 3) zi)) zi)))))))))),?_⟩
 refine⟨_,rfl,_,rfl,_,rfl,_,rfl,a,_,rfl,Sq ea,(fun z=>absurd (show (2:Nat)=0 from z.1) (by decide)),fun p hp=>?_⟩
 have s1:=Sn (o:=.tup (cutV [u0,.str z,u2,u3] (some 2) (some 3))) hp
 have ep1:upd H p (.tup (cutV [u0,.str z,u2,u3] (some 2) (some 3))) p=some (.tup [u2]):=zf
 generalize upd H p (.tup (cutV [u0,.str z,u2,u3] (some 2) (some 3)))=H1 at s1 ep1
 refine⟨_,rfl,fs,rp,l1,l,p,bd,[u2],kvs,e,[A1],ns,rfl,rn.same s1,.inr (Sq ep1),⟨rfl,fun i v w hv hw=>?_⟩,s1 _ _ hb,by lia,he.mono s1,?_,?_,(by show 1<=100;decide),fun p2 vs' H2 hp2 g2 rn2 ep rrs=>?_⟩
 ·match i,hv,hw with
  |0,hv,hw=>
   obtain rfl:u2=v:=by simpa using hv
   obtain rfl:A1.toW=w:=by simpa [exWs] using hw
   exact r2.mono (zo s1)
  |j+1,hv,hw=>simp at hv
 ·simp only[highs]
  lia
 ·simp only[Fines]
  exact⟨hf.1,fun _=>trivial⟩
 rw[zgc] at rrs rn2
 have hp20:H p2=none:=s1.free hp2
 obtain⟨np1,np2⟩:=rn.fresh hp20
 have g12:=(rn.g s1).trans g2
 refine⟨_,rfl,p2,vs',[(ev fs A1 e ns).1],(ev fs A1 e ns).1,(ev fs A1 e ns).1,rfl,ep,rrs,rfl,rfl,id,fun v H3 s3 hend=>?_⟩
 have g13:=g12.same s3
 have rn3:=rn2.same s3
 cases hE:endR [(ev fs A1 e ns).1] (ev fs A1 e ns).1 (ev fs A1 e ns).1 with
 |some r=>
  rw[hE] at hend
  have hend:RR K H3 v r:=hend
  refine⟨_,rfl,_,rfl,?_⟩
  rw[hend.ne_non]
  rw[znj hE] at q
  exact iteT ⟨_,rfl,q v H3 g13 rn3 hend⟩
 |none=>
  rw[hE] at hend
  obtain rfl:v=.non:=hend
  obtain⟨hm,ws,hws,hl10⟩:=zke hE
  have hres:(ev fs A1 e ns).1.res=.made (.lst ws):=by rw[zaH hm,hws]
  obtain⟨hfb,hth,hdp⟩:=hf.2 ws hres
  rw[zjj hres hl10] at q
  refine⟨_,rfl,_,rfl,iteF ?_⟩
  have ep3:=s3 _ _ ep
  have rrs3:=rrs.mono s3
  obtain⟨v0,us0,rfl,rr0,rn0⟩:=rrs3.tail
  refine⟨_,rfl,p2,_,0,v0,rfl,rfl,Sl ep3,zt (j:=0) rfl,v0,(ev fs A1 e ns).1,.lst ws,rfl,rr0,hres,fun y ry=>?_⟩
  obtain⟨t,ys,rfl,et,hy⟩:=ry.tup
  have hyl:=hy.len
  refine⟨_,rfl,t,rfl,⟨_,Sq et⟩,zhY (xs:=ys) (fun i σ' H'=>∃(o6:Option V)(vs2:List V)(dn:List R)(nsi:Ns),σ'=[some (.ref rp),some (.ref a),some (.ref bd),some (.ref p2),some .non,some (.ref t),o6]/\G l H H'/\Rn K ARun fs rp l1 l H' nsi/\SqT K H' t ys/\RWs H' ys ws/\H' p2=some (.lst vs2)/\RRs K H' vs2 ((ev fs A1 e ns).1::dn)/\(∀r∈dn,r.res.isMade=true) /\
    zQ (fun w m=>ev fs B1 (put e z w) m) ws (ev fs A1 e ns).2=(dn++(zQ (fun w m=>ev fs B1 (put e z w) m) (ws.drop i) nsi).1,(zQ (fun w m=>ev fs B1 (put e z w) m) (ws.drop i) nsi).2)/\zb8 (fun w m=>ev fs B1 (put e z w) m) (fun w m=>Fine fs B1 (put e z w) m) (ws.drop i) nsi/\dn.length=i)
   ⟨none,_,[],_,rfl,g13,rn3,Sq et,hy,ep3,rrs3,fun r h=>by simp at h,rfl,hfb,rfl⟩ (fun i σ' H' _ h=>?_) (fun i x σ' H' hx h=>?_) (fun σ' H' h=>?_)⟩
  ·obtain⟨_,_,_,_,_,_,_,sq,_⟩:=h
   exact sq
  ·obtain⟨o6,vs2,dn,nsi,rfl,g,rni,sq,hyw,ep4,rr4,hdn,hwk,hal,hdl⟩:=h
   have hi:i<ys.length:=(yC.mp hx).1
   have hiw:i<ws.length:=by lia
   have hwi:ws[i]?=some ws[i]:=yA hiw
   have rx:=hyw.at' i x _ hx hwi
   have hrl:=rr4.len
   rw[yJ] at hrl
   rw[xD hiw,za9] at hwk
   rw[xD hiw,zb8] at hal
   refine⟨_,rfl,.inl ⟨rfl,_,Sl ep4⟩,_,rfl,_,rfl,a,_,3,_,rfl,rfl,Sq (g.t ea),rfl,_,rfl,_,rfl,a,_,1,_,rfl,rfl,Sq (g.t ea),rfl,_,rfl,bd,z,x,kvs,rfl,g.d hb,by lia,fun pb H5 s5 hpb=>?_⟩
   have hlp:=zaK kvs (.inr z) x
   have g5:=g.same s5
   refine⟨fs,rp,l1,l,u3,pb,_,put e z ws[i],B1,nsi,rfl,rni.same s5,r3.mono g5.ts,hpb,by lia,(g5.env he).put (rx.mono (zo s5)),by lia,hal.1,trivial,fun v6 H6 g6 rn6 rr6=>?_⟩
   have g56:=(rni.g s5).trans g6
   have ep6:=g6.k p2 _ np2.symm (s5 _ _ ep4)
   refine⟨p2,vs2,v6,rfl,rfl,ep6,ZE (by lia),?_⟩
   have kb:Kb p2 H6 (upd H6 p2 (.lst (vs2++[v6]))):=Kb.put
   have rr7:=kb.rr ep6 rr6
   have rrs7:=(kb.rrs ep6 (g56.rrs rr4)).snoc rr7
   have g7:G l H (upd H6 p2 (.lst (vs2++[v6]))):=⟨fun c o hc ec=>by rw[zu (zm ec hp20)];exact g56.k _ _ hc (g.k _ _ hc ec),g.l⟩
   have rn7:=rn6.keep kb ep6 np1 np2
   have sq7:SqT K (upd H6 p2 (.lst (vs2++[v6]))) t ys:=kb.seqT ep6 (g56.sq sq)
   have hyw7:RWs (upd H6 p2 (.lst (vs2++[v6]))) ys ws:=⟨hyw.len,fun j v w a b=>((hyw.at' j v w a b).mono g56.ts).mono (kb.tups ep6)⟩
   have ep7:upd H6 p2 (.lst (vs2++[v6])) p2=some (.lst (vs2++[v6])):=zf
   generalize upd H6 p2 (.lst (vs2++[v6]))=H7 at rr7 rrs7 g7 rn7 sq7 hyw7 ep7
   refine⟨_,rfl,_,rfl,p2,vs2++[v6],-1,v6,rfl,rfl,Sl ep7,zcn _ _,v6,(ev fs B1 (put e z ws[i]) nsi).1,rfl,rr7,_,rfl,?_⟩
   cases hmd:(ev fs B1 (put e z ws[i]) nsi).1.res.isMade with
   |false=>
    rw[hmd,if_neg (by decide)] at hwk
    rw[hwk,if_neg (by simp[Zp,hmd]),show zaT (dn++[(ev fs B1 (put e z ws[i]) nsi).1]) (ev fs A1 e ns).1=(ev fs B1 (put e z ws[i]) nsi).1 from zgN (by simp)] at q
    exact iteT ⟨_,rfl,p2,vs2++[v6],(ev fs A1 e ns).1::dn++[(ev fs B1 (put e z ws[i]) nsi).1],(ev fs B1 (put e z ws[i]) nsi).1,rfl,ep7,rrs7,List.getLast?_concat,fun v8 H8 s8 rr8=>q _ _ (g7.same s8) (rn7.same s8) rr8⟩
   |true=>
    rw[hmd,if_pos rfl] at hwk
    refine iteF ⟨_,vs2++[v6],dn++[(ev fs B1 (put e z ws[i]) nsi).1],_,rfl,g7,rn7,sq7,hyw7,ep7,rrs7,fun r hr=>?_,by rw[hwk,xQ];rfl,hal.2 hmd,by simp[hdl]⟩
    rcases yZ.mp hr with hr|hr
    ·exact hdn r hr
    ·rw[yM.mp hr];exact hmd
  ·obtain⟨o6,vs2,dn,nsi,rfl,g,rni,sq,hyw,ep4,rr4,hdn,hwk,hal,hdl⟩:=h
   rw[hyl,vY,zQ,xK] at hwk
   have hrl:=rr4.len
   rw[yJ] at hrl
   have hall:Zp dn=true:=xT.mpr hdn
   rw[hwk] at hth hdp
   have hdp:depths (dn.map R.worth)<=12:=hdp
   rw[hwk,if_pos hall] at q
   obtain⟨v9,us9,rfl,rr9,rrn⟩:=rr4.tail
   refine⟨_,rfl,_,rfl,p2,_,rfl,Sl ep4,fun p5 hp5=>?_⟩
   have s5:=Sn (o:=.lst (cutV (v9::us9) (some 1) none)) hp5
   have ep5:upd H' p5 (.lst (cutV (v9::us9) (some 1) none)) p5=some (.lst us9):=by rw[zf,zji _ (by simp)];rfl
   generalize upd H' p5 (.lst (cutV (v9::us9) (some 1) none))=H5 at s5 ep5
   have rr5:=rrn.mono s5
   have hl9:=rrn.len
   refine⟨p5,rfl,⟨_,Sl ep5⟩,?_⟩
   refine za5 (K:=K) (vs:=us9) (fun i us H6=>us.length=i/\∀(j:Nat)(y:V)(r:R),us[j]?=some y->dn[j]?=some r->RW H6 y r.worth) (Sl ep5) (wZ (ZE (by lia))) ⟨rfl,fun j y r h=>by simp at h⟩ (fun _ _ _ h=>h.1)
    (fun i v us H6 R hv hP sm6 r=>?_) (fun us H6 D hP sm6 hD=>?_)
   ·have hi:=(yC.mp hv).1
    have hi':i<dn.length:=by lia
    have er:dn[i]?=some dn[i]:=yA hi'
    refine⟨_,rfl,v,dn[i],_,rfl,(rr5.at' i v _ hv er).mono sm6,zaH (hdn _ (xA hi')),fun y ry=>?_⟩
    refine r y H6 (Sr _) ⟨by simp[hP.1],fun j zz rj hz hrj=>?_⟩
    by_cases hj:j<us.length
    ·rw[yL hj] at hz
     exact hP.2 j zz rj hz hrj
    ·have hlt:=(yC.mp hz).1
     have ej:j=us.length:=by simp at hlt;lia
     subst ej
     obtain rfl:y=zz:=by simpa using hz
     rw[hP.1,er] at hrj
     cases hrj
     exact ry
   ·have s7:=Sn (o:=.lst us) hD
    have hP1:us.length=us9.length:=hP.1
    refine⟨D,us,rfl,.inl ⟨Sl zf,fun t3 ht3=>?_⟩⟩
    have s8:=Sn (o:=.tup us) ht3
    have s78:=s7.trans s8
    have rws:RWs (upd (upd H6 D (.lst us)) t3 (.tup us)) us (dn.map R.worth):=zjk (K:=K) (by lia) fun j y r a b=>(hP.2 j y r a b).mono (zo s78)
    refine⟨.ref t3,.lst (dn.map R.worth),rfl,.lst zf rws.len rws.at',⟨?_,hth⟩,?_,fun uu H9 s9 rm=>?_⟩
    ·rw[yB]
     lia
    ·simp only[W.depth]
     lia
    ·have s69:=(sm6.trans s78).trans s9
     have s49:=s5.trans s69
     refine⟨_,rfl,p2,_,rfl,.inl ⟨Sl (s49 _ _ ep4),fun t5 ht5=>⟨zl2,fun a5 ha5=>?_⟩⟩⟩
     have s10:=(Sn (o:=.tup (v9::us9)) ht5).trans (Sn (o:=.tup [uu,.ref t5]) ha5)
     exact q _ _ ((g.same s49).same s10) ((rni.same s49).same s10) ((rr4.mono (s49.trans s10)).rr zf ((rm.res (Zm _)).mono s10) (Sn ha5 _ _ zf))
noncomputable def kvsG(f1 f2 f3 f4 f5 f6 f7 f8 f9:Addr):List (Key×V):=[(.inr "lit",.ref f1),(.inr "var",.ref f2),(.inr "let",.ref f3),(.inr "if",.ref f4),(.inr "each",.ref f5),(.inr "over",.ref f6),(.inr "look",.ref f7),(.inr "else",.ref f8),(.inr "cry",.ref f9)]
noncomputable def e0:Env:=fun _=>none
def zjl(K:tP)(AR:Addr):Sp:=fun vs H Q _=>∃(p dx fl:Addr)(us:List V),vs=[.ref p,.ref fl]/\H p=some (.ins AR dx [])/\SqL K H fl us/\∀l1 l2:Addr,H l1=none->H l2=none->l1≠l2->∀H':Hp,H' p=some (.ins AR dx (fR l1 l2))->H' l1=some (.lst us)->H' l2=some (.lst [])->(∀c o,c≠p->H c=some o->H' c=some o)->Q .non H'
def zk8(K:tP):Sp:=fun vs H Q _=>∃(u:V)(fl:Addr)(us:List V)(fs:List Res)(x:Ex),vs=[u,.ref fl]/\RW H u x.toW/\SqL K H fl us/\us.length=fs.length/\fs.length<=1000/\(∀(i:Nat)(v:V)(r:Res),us[i]?=some v->fs[i]?=some r->RRes K H v r)/\x.high<=30/\Fine fs x e0 [] /\
 ((ev fs x e0 []).1.res=.stop->∀(a l:Addr)(H':Hp),Same H H'->H l=none->H' a=some (.tup [.str "look",.ref l])->H' l=some (.lst ((ev fs x e0 []).2.map V.str))->Q (.ref a) H') /\
 ((ev fs x e0 []).1.res≠.stop->∀(a l:Addr)(rv:V)(H':Hp),Same H H'->H l=none->H' a=some (.tup [.str "ended",.ref l,rv])->H' l=some (.lst ((ev fs x e0 []).2.map V.str))->RR K H' rv (ev fs x e0 []).1->Q (.ref a) H')
theorem RRes.ne_non{K:tP}{H:Hp}{v:V}{r:Res}(n:r≠.stop)(h:RRes K H v r):decide (v=V.non)=false:=by
 obtain⟨a,us,rfl,_⟩:=h.word n
 rfl
theorem zfm:FnScope ["run","expression","bound"] ["run","expression","bound"] (zr zbn):=mkSc rfl (by decide +kernel)
theorem zfn(F:Fun K "record_of" "record_of" zbn f fd)(G_go_reckoned:Have P w K mg base "go_reckoned" k ["run","expression","bound"] (spG K ARun (n+1) (fun x=>∃d es,x=.reck d es))){g_GOING f1 f2 f3 f4 f5 f6 f7 f8 f9:Addr}(m_GOING:mg "GOING"=some (.ref g_GOING))(d_GOING:MD P w K g_GOING (kvsG f1 f2 f3 f4 f5 f6 f7 f8 f9))(c1:Zo P w K mg base f1 k ["run","expression","bound"] (spG K ARun (n+1) (fun x=>∃y,x=.lit y)))(c2:Zo P w K mg base f2 k ["run","expression","bound"] (spG K ARun (n+1) (fun x=>∃s,x=.var s)))(c3:Zo P w K mg base f3 k ["run","expression","bound"] (spG K ARun (n+1) (fun x=>∃s a b,x=.letE s a b)))(c4:Zo P w K mg base f4 k ["run","expression","bound"] (spG K ARun (n+1) (fun x=>∃a b c,x=.ifE a b c)))(c5:Zo P w K mg base f5 k ["run","expression","bound"] (spG K ARun (n+1) (fun x=>∃s a b,x=.eachE s a b)))(c7:Zo P w K mg base f7 k ["run","expression","bound"] (spG K ARun (n+1) (fun x=>∃a,x=.lookE a)))(c8:Zo P w K mg base f8 k ["run","expression","bound"] (spG K ARun (n+1) (fun x=>∃a b,x=.elseE a b)))(c9:Zo P w K mg base f9 k ["run","expression","bound"] (spG K ARun (n+1) (fun x=>∃a,x=.cryE a))):FnOk P w K mg base CX0 (k+1) f fd ["run","expression","bound"] (spG K ARun (n+1) (fun _=>True)):=by
 refine F.okQ zfm (by rintro _ _ _ _ ⟨_,_,_,_,_,_,_,_,_,_,rfl,_⟩;rfl) fun cdv A outer s H vs Q E hr h=>?_
 obtain⟨fs,rp,l1,l,u,bd,kvs,e,x,ns,rfl,rn,ru,hb,hk,he,hh,hf,_,q⟩:=h
 refine⟨_,(zj (zN (zH zkZ (zx zD (pv 1) zk (fun _ _=>rfl)) (Zd (v:=.ref g_GOING) rfl m_GOING rfl) (by rfl)) (zq (zw (zbD hr (zx ziK (Zd (v:=.ref g_GOING) rfl m_GOING rfl) (zx zD (pv 1) zk (fun _ _=>rfl)) (fun _ _=>rfl)) (zc (pv 0) (zc (pv 1) (zc (pv 2) zi)))))) zC)
  (zq (zw (zy G_go_reckoned hr rfl (zc (pv 0) (zc (pv 1) (zc (pv 2) zi))))))),?_⟩
 have go:∀(s:Str)(ws:List W),x.toW=.lst (.txt s::ws)->∃(a:Addr)(us:List V),u=.ref a/\H a=some (.tup (.str s::us)):=fun s ws hx=>by
  rw[hx] at ru
  obtain⟨a,vs,rfl,ea,hw0⟩:=ru.tup
  obtain⟨u0,us,rfl,r0,_⟩:=hw0.cons
  obtain rfl:=r0.str
  exact⟨a,us,rfl,ea⟩
 cases x with
 |lit y=>
  obtain⟨a,us,rfl,ea⟩:=go "lit" _ (by rw[Ex.toW])
  refine⟨_,rfl,a,_,0,_,rfl,rfl,Sq ea,zt (j:=0) rfl,g_GOING,_,.inr "lit",rfl,rfl,d_GOING,_,rfl,iteT ?_⟩
  refine⟨_,rfl,a,_,0,_,rfl,rfl,Sq ea,zt (j:=0) rfl,g_GOING,_,.inr "lit",.ref f1,rfl,rfl,d_GOING,rfl,f1,_,_,rfl,c1,_,rfl,_,rfl,_,rfl,?_⟩
  exact⟨fs,rp,l1,l,_,bd,kvs,e,_,ns,rfl,rn,ru,hb,hk,he,hh,hf,⟨_,rfl⟩,q⟩
 |var z=>
  obtain⟨a,us,rfl,ea⟩:=go "var" _ (by rw[Ex.toW])
  refine⟨_,rfl,a,_,0,_,rfl,rfl,Sq ea,zt (j:=0) rfl,g_GOING,_,.inr "var",rfl,rfl,d_GOING,_,rfl,iteT ?_⟩
  refine⟨_,rfl,a,_,0,_,rfl,rfl,Sq ea,zt (j:=0) rfl,g_GOING,_,.inr "var",.ref f2,rfl,rfl,d_GOING,rfl,f2,_,_,rfl,c2,_,rfl,_,rfl,_,rfl,?_⟩
  exact⟨fs,rp,l1,l,_,bd,kvs,e,_,ns,rfl,rn,ru,hb,hk,he,hh,hf,⟨_,rfl⟩,q⟩
 |letE z a1 b1=>
  obtain⟨a,us,rfl,ea⟩:=go "let" _ (by rw[Ex.toW])
  refine⟨_,rfl,a,_,0,_,rfl,rfl,Sq ea,zt (j:=0) rfl,g_GOING,_,.inr "let",rfl,rfl,d_GOING,_,rfl,iteT ?_⟩
  refine⟨_,rfl,a,_,0,_,rfl,rfl,Sq ea,zt (j:=0) rfl,g_GOING,_,.inr "let",.ref f3,rfl,rfl,d_GOING,rfl,f3,_,_,rfl,c3,_,rfl,_,rfl,_,rfl,?_⟩
  exact⟨fs,rp,l1,l,_,bd,kvs,e,_,ns,rfl,rn,ru,hb,hk,he,hh,hf,⟨_,_,_,rfl⟩,q⟩
 |ifE a1 b1 c1'=>
  obtain⟨a,us,rfl,ea⟩:=go "if" _ (by rw[Ex.toW])
  refine⟨_,rfl,a,_,0,_,rfl,rfl,Sq ea,zt (j:=0) rfl,g_GOING,_,.inr "if",rfl,rfl,d_GOING,_,rfl,iteT ?_⟩
  refine⟨_,rfl,a,_,0,_,rfl,rfl,Sq ea,zt (j:=0) rfl,g_GOING,_,.inr "if",.ref f4,rfl,rfl,d_GOING,rfl,f4,_,_,rfl,c4,_,rfl,_,rfl,_,rfl,?_⟩
  exact⟨fs,rp,l1,l,_,bd,kvs,e,_,ns,rfl,rn,ru,hb,hk,he,hh,hf,⟨_,_,_,rfl⟩,q⟩
 |eachE z a1 b1=>
  obtain⟨a,us,rfl,ea⟩:=go "each" _ (by rw[Ex.toW])
  refine⟨_,rfl,a,_,0,_,rfl,rfl,Sq ea,zt (j:=0) rfl,g_GOING,_,.inr "each",rfl,rfl,d_GOING,_,rfl,iteT ?_⟩
  refine⟨_,rfl,a,_,0,_,rfl,rfl,Sq ea,zt (j:=0) rfl,g_GOING,_,.inr "each",.ref f5,rfl,rfl,d_GOING,rfl,f5,_,_,rfl,c5,_,rfl,_,rfl,_,rfl,?_⟩
  exact⟨fs,rp,l1,l,_,bd,kvs,e,_,ns,rfl,rn,ru,hb,hk,he,hh,hf,⟨_,_,_,rfl⟩,q⟩
 |elseE a1 b1=>
  obtain⟨a,us,rfl,ea⟩:=go "else" _ (by rw[Ex.toW])
  refine⟨_,rfl,a,_,0,_,rfl,rfl,Sq ea,zt (j:=0) rfl,g_GOING,_,.inr "else",rfl,rfl,d_GOING,_,rfl,iteT ?_⟩
  refine⟨_,rfl,a,_,0,_,rfl,rfl,Sq ea,zt (j:=0) rfl,g_GOING,_,.inr "else",.ref f8,rfl,rfl,d_GOING,rfl,f8,_,_,rfl,c8,_,rfl,_,rfl,_,rfl,?_⟩
  exact⟨fs,rp,l1,l,_,bd,kvs,e,_,ns,rfl,rn,ru,hb,hk,he,hh,hf,⟨_,_,rfl⟩,q⟩
 |cryE a1=>
  obtain⟨a,us,rfl,ea⟩:=go "cry" _ (by rw[Ex.toW])
  refine⟨_,rfl,a,_,0,_,rfl,rfl,Sq ea,zt (j:=0) rfl,g_GOING,_,.inr "cry",rfl,rfl,d_GOING,_,rfl,iteT ?_⟩
  refine⟨_,rfl,a,_,0,_,rfl,rfl,Sq ea,zt (j:=0) rfl,g_GOING,_,.inr "cry",.ref f9,rfl,rfl,d_GOING,rfl,f9,_,_,rfl,c9,_,rfl,_,rfl,_,rfl,?_⟩
  exact⟨fs,rp,l1,l,_,bd,kvs,e,_,ns,rfl,rn,ru,hb,hk,he,hh,hf,⟨_,rfl⟩,q⟩
 |lookE a1=>
  obtain⟨a,us,rfl,ea⟩:=go "look" _ (by rw[Ex.toW])
  refine⟨_,rfl,a,_,0,_,rfl,rfl,Sq ea,zt (j:=0) rfl,g_GOING,_,.inr "look",rfl,rfl,d_GOING,_,rfl,iteT ?_⟩
  refine⟨_,rfl,a,_,0,_,rfl,rfl,Sq ea,zt (j:=0) rfl,g_GOING,_,.inr "look",.ref f7,rfl,rfl,d_GOING,rfl,f7,_,_,rfl,c7,_,rfl,_,rfl,_,rfl,?_⟩
  exact⟨fs,rp,l1,l,_,bd,kvs,e,_,ns,rfl,rn,ru,hb,hk,he,hh,hf,⟨_,rfl⟩,q⟩
 |reck d es=>
  obtain⟨a,us,rfl,ea⟩:=go (wdS d) _ (by rw[Ex.toW])
  refine⟨_,rfl,a,_,0,_,rfl,rfl,Sq ea,zt (j:=0) rfl,g_GOING,_,.inr (wdS d),rfl,rfl,d_GOING,_,rfl,?_⟩
  rw[show valV (kvsG f1 f2 f3 f4 f5 f6 f7 f8 f9) (.inr (wdS d))=none by cases d<;>rfl]
  exact iteF ⟨_,rfl,_,rfl,_,rfl,fs,rp,l1,l,_,bd,kvs,e,_,ns,rfl,rn,ru,hb,hk,he,hh,hf,⟨_,_,rfl⟩,q⟩
theorem zc9:FnScope ["self","founds"] ["self","founds"] (zr Zn):=mkSc rfl (by decide +kernel)
theorem zda(F:Fun K "__init__" "Run.__init__" Zn f fd)(m_list:mg "list"=none)(clR:Cls K ARun)(nF:zO K ARun "founds")(nN:zO K ARun "names"):FnOk P w K mg base CX0 (k+1) f fd ["self","founds"] (zjl K ARun):=by
 refine F.okQ zc9 (by rintro _ _ _ _ ⟨_,_,_,_,rfl,_⟩;rfl) fun cdv A outer s H vs Q E hr h=>?_
 obtain⟨p,dx,fl,us,rfl,hp,hfl,q⟩:=h
 refine⟨_,(zj (ZY (pv 0) (zJ Z9 rfl m_list zaG (zc (pv 1) zi)) rfl)
  (zq (ZY (pv 0) (Zb zi) rfl))),?_⟩
 refine⟨_,rfl,fl,us,rfl,.inl hfl,fun l1 hl1=>?_⟩
 have n1:p≠l1:=zm hp hl1
 refine⟨_,rfl,p,ARun,dx,[],rfl,(by rw[zu n1];exact hp),clR,nF,(by show 0<1000;decide),zl0,fun l2 hl2=>?_⟩
 have n2:p≠l2:=by
  intro z
  rw[←z,zf] at hl2
  cases hl2
 have n12:l1≠l2:=by
  intro z
  rw[←z,zu n1.symm,zf] at hl2
  cases hl2
 have hl20:H l2=none:=by
  rw[zu n2.symm,zu n12.symm] at hl2
  exact hl2
 refine⟨_,rfl,p,ARun,dx,_,rfl,(by rw[zu n2,zf]),clR,nN,(by show 1<1000;decide),?_⟩
 refine q l1 l2 hl1 hl20 n12 _ zf (by rw[zu n1.symm,zu n12,zu n1.symm,zf]) (by rw[zu n2.symm,zf]) fun c o hc e=>?_
 rw[zu hc,zu (zm e hl20),zu hc,zu (zm e hl1)]
 exact e
theorem zgd:FnScope ["rule","founds","run","record"] ["rule","founds"] (zr ziw):=mkSc rfl (by decide +kernel)
theorem zmf(F:Fun K "gone" "gone" ziw f fd)(G_record_of:Have P w K mg base "record_of" k ["run","expression","bound"] (spG K ARun 30 (fun _=>True)))(G_Run___init__:zbZ P w K mg base ARun "Run" k ["self","founds"] (zjl K ARun))(m_list:mg "list"=none)(clR:Cls K ARun)(nN:zO K ARun "names"):FnOk P w K mg base CX0 (k+1) f fd ["rule","founds"] (zk8 K):=by
 refine F.okQ zgd (by rintro _ _ _ _ ⟨_,_,_,_,_,rfl,_⟩;rfl) fun cdv A outer s H vs Q E hr h=>?_
 obtain⟨u,fl,us,fs,x,rfl,ru,hfl,hlen,few,hres,hh,hf,q1,q2⟩:=h
 refine⟨_,(zj (zG (i:=2) zgd.nd rfl (Or.inl rfl) (ze3 G_Run___init__ hr rfl (zc (pv 1) zi)))
  (zj (zG (i:=3) zgd.nd rfl (Or.inl rfl) (zy G_record_of hr rfl (zc (pv 2) (zc (pv 0) (zc zdL zi)))))
  (zj (zN (zao (zb5 (zx zD (pv 3) zk (fun _ _=>rfl)))) (zq (zw (zE (zc zA (zc (zJ Z9 rfl m_list zaG (zc (zL (pv 2) rfl) zi)) zi))))) zC)
  (zq (zw (zE (zc zA (zc (zJ Z9 rfl m_list zaG (zc (zL (pv 2) rfl) zi)) (zc (pv 3) zi))))))))),?_⟩
 refine⟨_,rfl,fun p dx np ndx nxp=>?_⟩
 have s1:Same H (upd (upd H dx (.own p)) p (.ins ARun dx [])):=fun c o e=>by
  rw[zu (zm e np),zu (zm e ndx)]
  exact e
 refine⟨p,dx,fl,us,rfl,zf,s1.seq hfl,fun l1 l2 hl1 hl2 n12 H2 hp2 el1 el2 kp=>⟨rfl,?_⟩⟩
 have s2:Same H H2:=fun c o e=>kp c o (zm e np) (s1 c o e)
 have rn2:Rn K ARun fs p l1 l2 H2 []:=⟨⟨dx,hp2⟩,⟨us,el1,hlen,fun i v r a b=>(hres i v r a b).mono s2⟩,el2,n12,few⟩
 have hl20:H l2=none:=s1.free hl2
 refine⟨_,rfl,_,rfl,fun d hd=>?_⟩
 have s3:=Sn (o:=.dK []) hd
 have s23:=s2.trans s3
 refine⟨fs,p,l1,l2,u,d,[],e0,x,[],rfl,rn2.same s3,ru.mono (zo s23),zf,by decide,(fun s x hx=>by cases hx),hh,hf,trivial,fun rv H4 g4 rn4 rr=>?_⟩
 have s4:Same H H4:=fun c o e=>g4.k c o (zm e hl20) (s23 c o e)
 obtain⟨dx4,hp4⟩:=rn4.ins
 have na:=rn4.na
 obtain⟨a,b,rv0,rfl,ea,rres⟩:=rr.res
 refine⟨_,rfl,a,_,0,_,rfl,rfl,Sq ea,rfl,_,rfl,?_⟩
 by_cases hst:(ev fs x e0 []).1.res=.stop
 ·rw[hst] at rres
  obtain rfl:rv0=.non:=rres
  refine iteT ⟨_,rfl,p,ARun,dx4,_,_,rfl,hp4,clR,nN,zbG _ _,l2,_,rfl,.inl (Sl na),fun l3 hl3=>?_⟩
  have s5:=Sn (o:=.lst ((ev fs x e0 []).2.map V.str)) hl3
  refine⟨zl2,fun a6 ha6=>?_⟩
  have s6:=Sn (o:=.tup [.str "look",.ref l3]) ha6
  exact q1 hst a6 l3 _ ((s4.trans s5).trans s6) (s4.free hl3) zf (s6 _ _ zf)
 ·rw[rres.ne_non hst]
  refine iteF ⟨_,rfl,p,ARun,dx4,_,_,rfl,hp4,clR,nN,zbG _ _,l2,_,rfl,.inl (Sl na),fun l3 hl3=>?_⟩
  have s5:=Sn (o:=.lst ((ev fs x e0 []).2.map V.str)) hl3
  refine⟨_,rfl,zl3,fun a6 ha6=>?_⟩
  have s6:=Sn (o:=.tup [.str "ended",.ref l3,.ref a]) ha6
  exact q2 hst a6 l3 _ _ ((s4.trans s5).trans s6) (s4.free hl3) zf (s6 _ _ zf) (rr.mono (s5.trans s6))
structure Cs{α:Type}(st:α->Prop)(C:List Res->Ns->α×Ns)(fs:List Res)(ns:Ns):Prop where
 ge:ns <+: (C fs ns).2
 s1:st (C fs ns).1->(C fs ns).2.length=fs.length+1
 s0:¬st (C fs ns).1->(C fs ns).2.length<=fs.length
 c1:∀j,ns.length<=j->j<fs.length->(C fs ns).2.length<=j->C (fs.take j) ns=C fs ns
 c2:∀j,ns.length<=j->j<fs.length->j<(C fs ns).2.length->st (C (fs.take j) ns).1/\(C (fs.take j) ns).2=(C fs ns).2.take (j+1)
section
variable{α β:Type}{sa:α->Prop}{sb:β->Prop}{fs:List Res}{ns:Ns}
theorem Cs.pure{a:α}(h:¬sa a)(hn:ns.length<=fs.length):Cs sa (fun _ ns=>(a,ns)) fs ns:=
 ⟨wQ _,fun z=>absurd z h,fun _=>hn,fun _ _ _ _=>rfl,fun j h1 _ h3=>absurd h3 (by show ¬j<ns.length;lia)⟩
theorem zkf{a b:Ns}(h:a <+: b){j:Nat}(hj:j<=a.length):b.take j=a.take j:=by
 obtain⟨t,rfl⟩:=h
 exact List.take_append_of_le_length hj
theorem Cs.bind{A:List Res->Ns->α×Ns}{B:List Res->Ns->β×Ns}{D:List Res->Ns->β×Ns}(hA:Cs sa A fs ns)
  (hs:∀gs,sa (A gs ns).1->sb (D gs ns).1/\(D gs ns).2=(A gs ns).2)
  (hg:∀gs,(A gs ns)=(A fs ns)->¬sa (A fs ns).1->D gs ns=B gs (A fs ns).2)
  (hB:¬sa (A fs ns).1->Cs sb B fs (A fs ns).2):Cs sb D fs ns:=by
 by_cases h:sa (A fs ns).1
 ·obtain⟨d1,d2⟩:=hs fs h
  have l1:=hA.s1 h
  refine⟨by rw[d2];exact hA.ge,fun _=>by rw[d2];exact l1,fun z=>absurd d1 z,fun j _ h2 h3=>?_,fun j h1 h2 h3=>?_⟩
  ·rw[d2] at h3;lia
  ·obtain⟨i1,i2⟩:=hA.c2 j h1 h2 (by lia)
   obtain⟨e1,e2⟩:=hs (fs.take j) i1
   exact⟨e1,by rw[e2,i2,d2]⟩
 ·have hb:=hB h
  have e:=hg fs rfl h
  refine⟨by rw[e];exact hA.ge.trans hb.ge,fun z=>by rw[e] at z ⊢;exact hb.s1 z,fun z=>by rw[e] at z ⊢;exact hb.s0 z,fun j h1 h2 h3=>?_,fun j h1 h2 h3=>?_⟩
  ·rw[e] at h3 ⊢
   have hle:(A fs ns).2.length<=j:=yQ hb.ge.length_le h3
   have eA:=hA.c1 j h1 h2 hle
   rw[hg (fs.take j) eA h]
   exact hb.c1 j hle h2 h3
  ·rw[e] at h3 ⊢
   by_cases hle:(A fs ns).2.length<=j
   ·have eA:=hA.c1 j h1 h2 hle
    rw[hg (fs.take j) eA h]
    exact hb.c2 j hle h2 h3
   ·obtain⟨i1,i2⟩:=hA.c2 j h1 h2 (by lia)
    obtain⟨e1,e2⟩:=hs (fs.take j) i1
    refine⟨e1,?_⟩
    rw[e2,i2,zkf hb.ge (by lia)]
theorem Cs.map{A:List Res->Ns->α×Ns}{D:List Res->Ns->β×Ns}(hA:Cs sa A fs ns)(hd:∀gs,∃b,D gs ns=(b,(A gs ns).2)/\(sb b ↔ sa (A gs ns).1))(he:∀gs,A gs ns=A fs ns->D gs ns=D fs ns):Cs sb D fs ns:=by
 obtain⟨b,eb,ib⟩:=hd fs
 refine⟨by rw[eb];exact hA.ge,fun z=>by rw[eb] at z ⊢;exact hA.s1 (ib.mp z),fun z=>by rw[eb] at z ⊢;exact hA.s0 (fun y=>z (ib.mpr y)),fun j h1 h2 h3=>?_,fun j h1 h2 h3=>?_⟩
 ·rw[eb] at h3
  exact he _ (hA.c1 j h1 h2 h3)
 ·rw[eb] at h3
  obtain⟨i1,i2⟩:=hA.c2 j h1 h2 h3
  obtain⟨b',eb',ib'⟩:=hd (fs.take j)
  rw[eb',eb]
  exact⟨ib'.mpr i1,i2⟩
end
def stR(r:R):Prop:=r.res=.stop
noncomputable def r00:R:=.mk (.made (.num 0)) []
def stL(l:List R):Prop:=(zaT l r00).res=.stop
theorem zge(x:R)(l:List R)(d:R):zaT (x::l) d=zaT l x:=by
 unfold zaT
 cases l with
 |nil=>rfl
 |cons y ys=>
  rw[vX]
  cases hq:(y::ys).getLast? with
  |none=>simp at hq
  |some r=>rfl
theorem zbJ{x:R}{l:List R}(h:x.res≠.stop):stL (x::l) ↔ stL l:=by
 unfold stL
 rw[zge]
 unfold zaT
 cases l with
 |nil=>exact⟨fun z=>absurd z h,fun z=>nomatch z⟩
 |cons y ys=>
  cases hq:(y::ys).getLast? with
  |none=>simp at hq
  |some r=>exact Iff.rfl
theorem zjm{x:R}:stL [x] ↔ x.res=.stop:=Iff.rfl
theorem znk{l:List R}{d:R}(h:d.res≠.stop):(zaT l d).res=.stop ↔ stL l:=by
 unfold stL zaT
 cases hq:l.getLast? with
 |none=>exact⟨fun z=>absurd z h,fun z=>nomatch z⟩
 |some r=>exact Iff.rfl
theorem zav{l:List R}(h:Zp l=true):¬stL l:=by
 unfold stL zaT
 cases hq:l.getLast? with
 |none=>exact fun z=>nomatch z
 |some r=>
  have:=(xT.mp h) r (uK hq)
  intro z
  have z:r.res=.stop:=z
  rw[z] at this
  cases this
theorem zgO(w:W):zbb w≠.stop:=by
 unfold zbb
 split<;>exact fun z=>nomatch z
section
variable{fs:List Res}(ok:∀r∈fs,r≠Res.stop)
theorem zkg{n:Nat}(ok:∀r∈fs,r≠Res.stop)(h:n<fs.length):found fs n≠.stop:=by
 unfold found
 rw[yA h]
 exact ok _ (xA h)
theorem zdE{n:Nat}(h:fs.length<=n):found fs n=.stop:=by
 unfold found
 rw[vB h]
 rfl
theorem zkh{n j:Nat}(h:n<j):found (fs.take j) n=found fs n:=by
 unfold found
 rw[vT h]
theorem zmg(ok:∀r∈fs,r≠Res.stop){ns:Ns}(hn:ns.length<=fs.length)(s:Str)(g:Res->R)(hg:∀r,(g r).res=r):Cs stR (fun fs ns=>(g (found fs ns.length),ns++[s])) fs ns:=by
 have hl:(ns++[s]).length=ns.length+1:=by rw[yD];rfl
 refine⟨List.prefix_append _ _,fun z=>?_,fun z=>?_,fun j h1 h2 h3=>?_,fun j h1 h2 h3=>?_⟩
 ·have z:found fs ns.length=.stop:=(hg _).symm.trans z
  by_cases h:ns.length<fs.length
  ·exact absurd z (zkg ok h)
  ·show (ns++[s]).length=_
   lia
 ·show (ns++[s]).length<=_
  by_cases h:ns.length<fs.length
  ·lia
  ·exact absurd ((hg _).trans (zdE (by lia))) z
 ·have h3:(ns++[s]).length<=j:=h3
  show (g (found (fs.take j) ns.length),ns++[s])=_
  rw[zkh (by lia)]
 ·have h3:j<(ns++[s]).length:=h3
  have:j=ns.length:=by lia
  subst this
  refine⟨(hg _).trans (zdE (by rw[yP];lia)),?_⟩
  show ns++[s]=(ns++[s]).take (ns.length+1)
  rw[←hl,wP]
end
noncomputable def Res.isStop:Res->Bool
 |.stop=>true
 |_=>false
theorem zmh{r:Res}(h:r≠.stop):r.isStop=false:=by
 cases r with
 |stop=>exact absurd rfl h
 |made _=>rfl
 |wrong _=>rfl
section
variable{fs:List Res}
theorem zW(r:Res):r=.stop\/(∃x,r=.made x)\/∃w,r=.wrong w:=by
 cases r with
 |made x=>exact .inr (.inl ⟨x,rfl⟩)
 |wrong w=>exact .inr (.inr ⟨w,rfl⟩)
 |stop=>exact .inl rfl
theorem Cs.then{e:Env}{a:Ex}{ns:Ns}{B:R->List Res->Ns->R×Ns}{D:List Res->Ns->R×Ns}(hA:Cs stR (fun fs ns=>ev fs a e ns) fs ns)(hD:∀gs,D gs ns=if (ev gs a e ns).1.res.isStop then (.mk .stop [(ev gs a e ns).1],(ev gs a e ns).2) else B (ev gs a e ns).1 gs (ev gs a e ns).2)
  (hB:(ev fs a e ns).1.res≠.stop->Cs stR (B (ev fs a e ns).1) fs (ev fs a e ns).2):Cs stR D fs ns:=by
 refine Cs.bind (B:=B (ev fs a e ns).1) hA (fun gs h=>?_) (fun gs e1 h=>?_) hB
 ·have h:(ev gs a e ns).1.res=.stop:=h
  rw[hD gs,if_pos (by rw[h];rfl)]
  exact⟨rfl,rfl⟩
 ·have h:¬(ev fs a e ns).1.res=.stop:=h
  have e1:ev gs a e ns=ev fs a e ns:=e1
  rw[hD gs,e1,if_neg (by rw[zmh h];decide)]
theorem ZB{r:R}{ns:Ns}(h:r.res≠.stop)(hn:ns.length<=fs.length):Cs stR (fun _ ns=>(r,ns)) fs ns:=Cs.pure h hn
theorem zen{e:Env}{b:Ex}{ns:Ns}(hB:Cs stR (fun fs ns=>ev fs b e ns) fs ns)(p:R->List R):Cs stR (fun fs ns=>(.mk (ev fs b e ns).1.res (p (ev fs b e ns).1),(ev fs b e ns).2)) fs ns:=
 Cs.map hB (fun gs=>⟨_,rfl,Iff.rfl⟩) fun gs h=>by
  have h:ev gs b e ns=ev fs b e ns:=h
  show (R.mk (ev gs b e ns).1.res (p (ev gs b e ns).1),(ev gs b e ns).2)=_
  rw[h]
end
section
variable{fs:List Res}
theorem zk9{e:Env}:∀{es:List Ex}{ns:Ns},(∀x∈es,∀ns:Ns,ns.length<=fs.length->Cs stR (fun fs ns=>ev fs x e ns) fs ns)->ns.length<=fs.length->Cs stL (fun fs ns=>evs fs es e ns) fs ns
 |[],ns,_,hn=>by
  have:(fun (fs:List Res)(ns:Ns)=>evs fs [] e ns)=fun _ ns=>([],ns):=by funext fs ns;rw[evs]
  rw[this]
  exact Cs.pure (fun z=>nomatch z) hn
 |x::xs,ns,h,hn=>by
  have hA:=h x yY ns hn
  refine Cs.bind (B:=fun gs m=>if (ev fs x e ns).1.res.isMade then ((ev fs x e ns).1::(evs gs xs e m).1,(evs gs xs e m).2) else ([(ev fs x e ns).1],m)) hA (fun gs z=>?_) (fun gs e1 z=>?_) (fun z=>?_)
  ·have z:(ev gs x e ns).1.res=.stop:=z
   show stL (evs gs (x::xs) e ns).1/\(evs gs (x::xs) e ns).2=_
   rw[za6,if_neg (by rw[z];decide)]
   exact⟨z,rfl⟩
  ·have e1:ev gs x e ns=ev fs x e ns:=e1
   show evs gs (x::xs) e ns=_
   rw[za6,e1]
  ·have z:(ev fs x e ns).1.res≠.stop:=z
   have hle:=hA.s0 z
   cases hm:(ev fs x e ns).1.res.isMade with
   |true=>
    have ih:=zk9 (es:=xs) (ns:=(ev fs x e ns).2) (fun y hy=>h y (yV _ hy)) hle
    refine Cs.map ih (fun gs=>⟨(ev fs x e ns).1::(evs gs xs e (ev fs x e ns).2).1,rfl,zbJ z⟩) fun gs h=>?_
    have h:evs gs xs e (ev fs x e ns).2=evs fs xs e (ev fs x e ns).2:=h
    show (_::(evs gs xs e (ev fs x e ns).2).1,(evs gs xs e (ev fs x e ns).2).2)=(_::(evs fs xs e (ev fs x e ns).2).1,(evs fs xs e (ev fs x e ns).2).2)
    rw[h]
   |false=>exact Cs.pure z hle
theorem zgP{F:List Res->W->Ns->R×Ns}:∀{ws:List W}{ns:Ns},(∀w∈ws,∀ns:Ns,ns.length<=fs.length->Cs stR (fun fs ns=>F fs w ns) fs ns)->ns.length<=fs.length->Cs stL (fun fs ns=>zQ (F fs) ws ns) fs ns
 |[],ns,_,hn=>by
  have:(fun (fs:List Res)(ns:Ns)=>zQ (F fs) [] ns)=fun _ ns=>([],ns):=by funext fs ns;rw[zQ]
  rw[this]
  exact Cs.pure (fun z=>nomatch z) hn
 |x::xs,ns,h,hn=>by
  have hA:=h x yY ns hn
  refine Cs.bind (B:=fun gs m=>if (F fs x ns).1.res.isMade then ((F fs x ns).1::(zQ (F gs) xs m).1,(zQ (F gs) xs m).2) else ([(F fs x ns).1],m)) hA (fun gs z=>?_) (fun gs e1 z=>?_) (fun z=>?_)
  ·have z:(F gs x ns).1.res=.stop:=z
   show stL (zQ (F gs) (x::xs) ns).1/\(zQ (F gs) (x::xs) ns).2=_
   rw[za9,if_neg (by rw[z];decide)]
   exact⟨z,rfl⟩
  ·have e1:F gs x ns=F fs x ns:=e1
   show zQ (F gs) (x::xs) ns=_
   rw[za9,e1]
  ·have z:(F fs x ns).1.res≠.stop:=z
   have hle:=hA.s0 z
   cases hm:(F fs x ns).1.res.isMade with
   |true=>
    have ih:=zgP (ws:=xs) (ns:=(F fs x ns).2) (fun y hy=>h y (yV _ hy)) hle
    refine Cs.map ih (fun gs=>⟨(F fs x ns).1::(zQ (F gs) xs (F fs x ns).2).1,rfl,zbJ z⟩) fun gs h=>?_
    have h:zQ (F gs) xs (F fs x ns).2=zQ (F fs) xs (F fs x ns).2:=h
    show (_::(zQ (F gs) xs (F fs x ns).2).1,(zQ (F gs) xs (F fs x ns).2).2)=(_::(zQ (F fs) xs (F fs x ns).2).1,(zQ (F fs) xs (F fs x ns).2).2)
    rw[h]
   |false=>exact Cs.pure z hle
mutual
theorem csE(ok:∀r∈fs,r≠Res.stop):∀(x:Ex)(e:Env)(ns:Ns),ns.length<=fs.length->Cs stR (fun fs ns=>ev fs x e ns) fs ns
 |.lit x,e,ns,hn=>by
  have:(fun (fs:List Res)(ns:Ns)=>ev fs (.lit x) e ns)=fun _ ns=>(.mk (.made x) [],ns):=by funext fs ns;rw[ev]
  rw[this]
  exact ZB (fun z=>nomatch z) hn
 |.var s,e,ns,hn=>by
  have:(fun (fs:List Res)(ns:Ns)=>ev fs (.var s) e ns)=fun _ ns=>(.mk (.made ((e s).getD (.num 0))) [],ns):=by funext fs ns;rw[ev]
  rw[this]
  exact ZB (fun z=>nomatch z) hn
 |.letE s a b,e,ns,hn=>by
  have hA:=csE ok a e ns hn
  refine hA.then (B:=fun r gs m=>match r.res with|.made x=>(.mk (ev gs b (put e s x) m).1.res [r,(ev gs b (put e s x) m).1],(ev gs b (put e s x) m).2)|q=>(.mk q [r],m)) (fun gs=>?_) (fun z=>?_)
  ·show ev gs (.letE s a b) e ns=_
   rw[ev]
   rcases zW (ev gs a e ns).1.res with h|⟨x,h⟩|⟨w,h⟩<;>rw[h]<;>rfl
  ·have hle:=hA.s0 z
   rcases zW (ev fs a e ns).1.res with h|⟨x,h⟩|⟨w,h⟩
   ·exact absurd h z
   ·rw[h]
    exact zen (csE ok b (put e s x) _ hle) (fun q=>[(ev fs a e ns).1,q])
   ·rw[h]
    exact ZB (fun z=>nomatch z) hle
 |.ifE a b c,e,ns,hn=>by
  have hA:=csE ok a e ns hn
  refine hA.then (B:=fun r gs m=>match r.res with
   |.made (.num i)=>if i=0 then (.mk (ev gs c e m).1.res [r,(ev gs c e m).1],(ev gs c e m).2) else (.mk (ev gs b e m).1.res [r,(ev gs b e m).1],(ev gs b e m).2)
   |.made _=>(.mk (.wrong [.txt "kind",.txt ""]) [r],m)
   |q=>(.mk q [r],m)) (fun gs=>?_) (fun z=>?_)
  ·show ev gs (.ifE a b c) e ns=_
   rw[ev]
   rcases zW (ev gs a e ns).1.res with h|⟨x,h⟩|⟨w,h⟩
   ·rw[h];rfl
   ·rw[h];cases x<;>rfl
   ·rw[h];rfl
  ·have hle:=hA.s0 z
   rcases zW (ev fs a e ns).1.res with h|⟨x,h⟩|⟨w,h⟩
   ·exact absurd h z
   ·rw[h]
    cases x with
    |num i=>
     by_cases hi:i=0
     ·simp only[hi,if_true]
      exact zen (csE ok c e _ hle) (fun q=>[(ev fs a e ns).1,q])
     ·simp only[hi,if_false]
      exact zen (csE ok b e _ hle) (fun q=>[(ev fs a e ns).1,q])
    |txt s=>exact ZB (fun z=>nomatch z) hle
    |lst ws=>exact ZB (fun z=>nomatch z) hle
   ·rw[h]
    exact ZB (fun z=>nomatch z) hle
 |.elseE a b,e,ns,hn=>by
  have hA:=csE ok a e ns hn
  refine hA.then (B:=fun r gs m=>match r.res with|.wrong _=>(.mk (ev gs b e m).1.res [r,(ev gs b e m).1],(ev gs b e m).2)|q=>(.mk q [r],m)) (fun gs=>?_) (fun z=>?_)
  ·show ev gs (.elseE a b) e ns=_
   rw[ev]
   rcases zW (ev gs a e ns).1.res with h|⟨x,h⟩|⟨w,h⟩<;>rw[h]<;>rfl
  ·have hle:=hA.s0 z
   rcases zW (ev fs a e ns).1.res with h|⟨x,h⟩|⟨w,h⟩
   ·exact absurd h z
   ·rw[h]
    exact ZB (fun z=>nomatch z) hle
   ·rw[h]
    exact zen (csE ok b e _ hle) (fun q=>[(ev fs a e ns).1,q])
 |.cryE a,e,ns,hn=>by
  have hA:=csE ok a e ns hn
  refine hA.then (B:=fun r gs m=>match r.res with|.made x=>(.mk (.wrong [.txt "cried",x]) [r],m)|q=>(.mk q [r],m)) (fun gs=>?_) (fun z=>?_)
  ·show ev gs (.cryE a) e ns=_
   rw[ev]
   rcases zW (ev gs a e ns).1.res with h|⟨x,h⟩|⟨w,h⟩<;>rw[h]<;>rfl
  ·have hle:=hA.s0 z
   rcases zW (ev fs a e ns).1.res with h|⟨x,h⟩|⟨w,h⟩
   ·exact absurd h z
   ·rw[h]
    exact ZB (fun z=>nomatch z) hle
   ·rw[h]
    exact ZB (fun z=>nomatch z) hle
 |.lookE a,e,ns,hn=>by
  have hA:=csE ok a e ns hn
  refine hA.then (B:=fun r gs m=>match r.res with
   |.made (.txt s)=>(.mk (found gs m.length) [r],m++[s])
   |.made _=>(.mk (.wrong [.txt "kind",.txt ""]) [r],m)
   |q=>(.mk q [r],m)) (fun gs=>?_) (fun z=>?_)
  ·show ev gs (.lookE a) e ns=_
   rw[ev]
   rcases zW (ev gs a e ns).1.res with h|⟨x,h⟩|⟨w,h⟩
   ·rw[h];rfl
   ·rw[h];cases x<;>rfl
   ·rw[h];rfl
  ·have hle:=hA.s0 z
   rcases zW (ev fs a e ns).1.res with h|⟨x,h⟩|⟨w,h⟩
   ·exact absurd h z
   ·rw[h]
    cases x with
    |num i=>exact ZB (fun z=>nomatch z) hle
    |lst ws=>exact ZB (fun z=>nomatch z) hle
    |txt s=>exact zmg ok hle s (fun q=>.mk q [(ev fs a e ns).1]) (fun _=>rfl)
   ·rw[h]
    exact ZB (fun z=>nomatch z) hle
 |.reck d es,e,ns,hn=>by
  have hL:=csL ok es e ns hn
  refine Cs.map hL (fun gs=>?_) (fun gs h=>?_)
  ·by_cases hall:Zp (evs gs es e ns).1=true
   ·refine⟨.mk (zbb (recW d ((evs gs es e ns).1.map R.worth))) (evs gs es e ns).1,?_,fun z=>absurd z (zgO _),fun z=>absurd z (zav hall)⟩
    show ev gs (.reck d es) e ns=_
    rw[ev,if_pos hall]
   ·refine⟨.mk (zaT (evs gs es e ns).1 (.mk (.made (.num 0)) [])).res (evs gs es e ns).1,?_,Iff.rfl⟩
    show ev gs (.reck d es) e ns=_
    rw[ev,if_neg hall]
  ·have h:evs gs es e ns=evs fs es e ns:=h
   show ev gs (.reck d es) e ns=ev fs (.reck d es) e ns
   rw[ev,ev,h]
 |.eachE s a b,e,ns,hn=>by
  have hA:=csE ok a e ns hn
  refine hA.then (B:=fun r gs m=>match r.res with
   |.made (.lst ws)=>if ws.length > 10 then (.mk (.wrong [.txt "great",.txt ""]) [r],m) else
     if Zp (zQ (fun w m=>ev gs b (put e s w) m) ws m).1 then (.mk (zbb (zab (.lst ((zQ (fun w m=>ev gs b (put e s w) m) ws m).1.map R.worth)))) (r::(zQ (fun w m=>ev gs b (put e s w) m) ws m).1),(zQ (fun w m=>ev gs b (put e s w) m) ws m).2)
     else (.mk (zaT (zQ (fun w m=>ev gs b (put e s w) m) ws m).1 r).res (r::(zQ (fun w m=>ev gs b (put e s w) m) ws m).1),(zQ (fun w m=>ev gs b (put e s w) m) ws m).2)
   |.made _=>(.mk (.wrong [.txt "kind",.txt ""]) [r],m)
   |q=>(.mk q [r],m)) (fun gs=>?_) (fun z=>?_)
  ·show ev gs (.eachE s a b) e ns=_
   rw[ev]
   rcases zW (ev gs a e ns).1.res with h|⟨x,h⟩|⟨w,h⟩
   ·rw[h];rfl
   ·rw[h];cases x<;>rfl
   ·rw[h];rfl
  ·have hle:=hA.s0 z
   have z':(ev fs a e ns).1.res≠.stop:=z
   rcases zW (ev fs a e ns).1.res with h|⟨x,h⟩|⟨w,h⟩
   ·exact absurd h z
   ·rw[h]
    cases x with
    |num i=>exact ZB (fun z=>nomatch z) hle
    |txt s=>exact ZB (fun z=>nomatch z) hle
    |lst ws=>
     by_cases hl:ws.length > 10
     ·simp only[hl,if_true]
      exact ZB (fun z=>nomatch z) hle
     ·simp only[hl,if_false]
      have hW:=zgP (fs:=fs) (F:=fun gs w m=>ev gs b (put e s w) m) (ws:=ws) (fun w _ m hm=>csE ok b (put e s w) m hm) hle
      refine Cs.map hW (fun gs=>?_) (fun gs h=>?_)
      ·by_cases hall:Zp (zQ (fun w m=>ev gs b (put e s w) m) ws (ev fs a e ns).2).1=true
       ·rw[if_pos hall]
        exact⟨_,rfl,fun z=>absurd z (zgO _),fun z=>absurd z (zav hall)⟩
       ·rw[if_neg hall]
        exact⟨_,rfl,znk z'⟩
      ·have h:zQ (fun w m=>ev gs b (put e s w) m) ws (ev fs a e ns).2=zQ (fun w m=>ev fs b (put e s w) m) ws (ev fs a e ns).2:=h
       rw[h]
   ·rw[h]
    exact ZB (fun z=>nomatch z) hle
theorem csL(ok:∀r∈fs,r≠Res.stop):∀(es:List Ex)(e:Env)(ns:Ns),ns.length<=fs.length->Cs stL (fun fs ns=>evs fs es e ns) fs ns
 |[],e,ns,hn=>zk9 (fun x hx=>nomatch hx) hn
 |x::xs,e,ns,hn=>by
  have hA:=csE ok x e ns hn
  refine Cs.bind (B:=fun gs m=>if (ev fs x e ns).1.res.isMade then ((ev fs x e ns).1::(evs gs xs e m).1,(evs gs xs e m).2) else ([(ev fs x e ns).1],m)) hA (fun gs z=>?_) (fun gs e1 z=>?_) (fun z=>?_)
  ·have z:(ev gs x e ns).1.res=.stop:=z
   show stL (evs gs (x::xs) e ns).1/\(evs gs (x::xs) e ns).2=_
   rw[za6,if_neg (by rw[z];decide)]
   exact⟨z,rfl⟩
  ·have e1:ev gs x e ns=ev fs x e ns:=e1
   show evs gs (x::xs) e ns=_
   rw[za6,e1]
  ·have z:(ev fs x e ns).1.res≠.stop:=z
   have hle:=hA.s0 z
   cases hm:(ev fs x e ns).1.res.isMade with
   |true=>
    have ih:=csL ok xs e (ev fs x e ns).2 hle
    refine Cs.map ih (fun gs=>⟨(ev fs x e ns).1::(evs gs xs e (ev fs x e ns).2).1,rfl,zbJ z⟩) fun gs h=>?_
    have h:evs gs xs e (ev fs x e ns).2=evs fs xs e (ev fs x e ns).2:=h
    show (_::(evs gs xs e (ev fs x e ns).2).1,(evs gs xs e (ev fs x e ns).2).2)=(_::(evs fs xs e (ev fs x e ns).2).1,(evs fs xs e (ev fs x e ns).2).2)
    rw[h]
   |false=>exact Cs.pure z hle
end
end
mutual
theorem znl:∀w:W,w.Th->ze1 w=true->w.Ok
 |.num i,_,h=>(of_decide_eq_true h:-(10 ^ 60)<i/\i<10 ^ 60)
 |.txt z,t,h=>⟨of_decide_eq_true h,t.2⟩
 |.lst ws,t,h=>by
  have t2:Ths ws:=t.2
  simp only[ze1,xF,decide_eq_true_eq] at h
  exact⟨h.1,oks_th ws t2 h.2⟩
theorem oks_th:∀ws:List W,Ths ws->fitsWs ws=true->Oks ws
 |[],_,_=>trivial
 |w::r,t,h=>by
  simp only[fitsWs,xF] at h
  exact⟨znl w t.1 h.1,oks_th r t.2 h.2⟩
end
structure Gd(x:W):Prop where
 ok:x.Ok
 dp:x.depth<=12
theorem Gd.th{x:W}(h:Gd x):x.Th:=zd3 x h.ok
theorem gd0:Gd (.num 0):=⟨⟨by decide,by decide⟩,yN _⟩
theorem gd1:Gd (.num 1):=⟨⟨by decide,by decide⟩,yN _⟩
theorem Gd.item{ws:List W}(h:Gd (.lst ws)){w:W}(hw:w∈ws):Gd w:=by
 have h2:Oks ws:=h.ok.2
 have h3:1+depths ws<=12:=h.dp
 have:=Z5 w hw
 exact⟨zcZ h2 w hw,by lia⟩
def ROk:Res->Prop
 |.made y=>Gd y
 |.wrong ws=>∃c y,ws=[.txt c,y]/\(W.txt c).Th/\y.Th/\y.depth<=12
 |.stop=>True
theorem zae{s:Str}(h1:s.length<=400)(h2:∀c∈s.cps.toList,32<=c/\c<=126/\c≠34/\c≠37):(W.txt s).Ok:=⟨h1,h2⟩
theorem zdF{s:Str}(h1:s.length<=400)(h2:∀c∈s.cps.toList,32<=c/\c<=126/\c≠34/\c≠37):(W.txt s).Th:=zd3 _ (zae h1 h2)
theorem zki:(W.txt "").Th:=zdF (by decide +kernel) (by decide +kernel)
theorem zkj{c:Str}(h:(W.txt c).Th):ROk (.wrong [.txt c,.txt ""]):=⟨c,_,rfl,h,zki,yN _⟩
theorem ZF:ROk (.wrong [.txt "kind",.txt ""]):=zkj (zdF (by decide +kernel) (by decide +kernel))
theorem zjn:ROk (.wrong [.txt "place",.txt ""]):=zkj (zdF (by decide +kernel) (by decide +kernel))
theorem zfo:ROk (.wrong [.txt "great",.txt ""]):=zkj (zdF (by decide +kernel) (by decide +kernel))
theorem zhN:ROk (.wrong [.txt "nought",.txt ""]):=zkj (zdF (by decide +kernel) (by decide +kernel))
theorem zkk:(W.txt "cried").Th:=zdF (by decide +kernel) (by decide +kernel)
theorem ROk.dp:∀{r:Res},ROk r->r.toW.depth<=13
 |.made y,h=>by
  have:=Gd.dp h
  simp only[Res.toW,W.depth,depths]
  lia
 |.wrong ws,⟨c,y,e,t,t2,d⟩=>by
  rw[e]
  simp only[Res.toW,W.depth,depths]
  lia
 |.stop,_=>by simp only[Res.toW,W.depth,depths];lia
theorem ZG{z:W}(t:z.Th):ROk (zbb (zab z)):=by
 unfold zab
 split
 ·rename_i g
  unfold zhs at g
  simp only[xF,decide_eq_true_eq] at g
  exact⟨znl z t g.1,by lia⟩
 ·exact zfo
theorem zmi{xs ys:List W}(h1:Ths xs)(h2:Ths ys):Ths (xs++ys):=zkX fun w hw=>by
 rcases yZ.mp hw with h|h
 ·exact ziH h1 w h
 ·exact ziH h2 w h
theorem zdb{f:Int->Int->W}(hf:∀a b,ROk (zbb (f a b)))(ws:List W):ROk (zbb (two f ws)):=by
 unfold two
 split
 ·exact hf _ _
 ·exact ZF
theorem zfp(b:Bool):ROk (zbb (zgI b)):=by
 cases b
 ·exact gd0
 ·exact gd1
theorem zmj{d:Wd}{xs:List W}(ok:Oks xs)(l8:xs.length<=8):ROk (zbb (recW d xs)):=by
 have tx:=ths_of xs ok
 unfold recW
 split
 ·exact zdb (fun a b=>ZG (z:=.num (a+b)) trivial) _
 ·exact zdb (fun a b=>ZG (z:=.num (a-b)) trivial) _
 ·exact zdb (fun a b=>ZG (z:=.num (a*b)) trivial) _
 ·refine zdb (fun a b=>?_) _
  show ROk (zbb (if b=0 then zfX else zab (.num (a.fdiv b))))
  split
  ·exact zhN
  ·exact ZG (z:=.num (a.fdiv b)) trivial
 ·exact zdb (fun a b=>zfp _) _
 ·rename_i a
  refine ZG ⟨?_,zfa a⟩
  have:=PyProof.Rows.int_text_len_1921 (ok60 ok.1)
  lia
 ·exact ZF
 ·exact zfp _
 ·exact ZF
 ·rename_i x y
  have o1:x.length<=400/\Signs x:=ok.1
  have o2:y.length<=400/\Signs y:=ok.2.1
  refine ZG ⟨?_,fun c hc=>?_⟩
  ·rw[PySem.Str.length_append]
   lia
  ·rw[zd1] at hc
   rcases yZ.mp hc with h|h
   ·exact o1.2 c h
   ·exact o2.2 c h
 ·rename_i xs ys
  have o1:xs.length<=60/\Oks xs:=ok.1
  have o2:ys.length<=60/\Oks ys:=ok.2.1
  refine ZG ⟨?_,zmi (ths_of _ o1.2) (ths_of _ o2.2)⟩
  rw[yD]
  lia
 ·exact ZF
 ·exact ZG ⟨by lia,tx⟩
 ·rename_i xs i
  have o1:xs.length<=60/\Oks xs:=ok.1
  split
  ·rename_i hi
   have hlt:i.toNat<xs.length:=by lia
   have:xs.getD i.toNat (.num 0)=xs[i.toNat]:=by rw[yU,yA hlt];rfl
   rw[this]
   exact ZG (zd3 _ (zcZ o1.2 _ (xA hlt)))
  ·exact zjn
 ·exact ZF
 ·refine ZG ?_
  trivial
 ·refine ZG ?_
  trivial
 ·exact ZF
theorem zkl:∀{r:R},ROk r.res->Gd r.worth
 |.mk (.made _) _,h=>h
 |.mk (.wrong _) _,_=>gd0
 |.mk .stop _,_=>gd0
theorem zdc{rs:List R}(h:∀r∈rs,ROk r.res):Oks (rs.map R.worth)/\depths (rs.map R.worth)<=12:=by
 induction rs with
 |nil=>exact⟨trivial,yN _⟩
 |cons r rs ih=>
  have g:=zkl (h r yY)
  obtain⟨i1,i2⟩:=ih fun x hx=>h x (yV _ hx)
  refine⟨⟨g.ok,i1⟩,?_⟩
  have:=g.dp
  simp only[yX,depths]
  lia
theorem zfq{l:List R}{r:R}{P:R->Prop}(h:∀x∈l,P x)(hr:P r):P (zaT l r):=by
 unfold zaT
 cases hl:l.getLast? with
 |none=>exact hr
 |some x=>exact h x (uK hl)
mutual
def Wf:Ex->List Str->Prop
 |.lit x,_=>Gd x
 |.var s,sc=>s∈sc
 |.letE s a b,sc=>Wf a sc/\Wf b (sc++[s])
 |.ifE a b c,sc=>Wf a sc/\Wf b sc/\Wf c sc
 |.elseE a b,sc=>Wf a sc/\Wf b sc
 |.cryE a,sc=>Wf a sc
 |.lookE a,sc=>Wf a sc
 |.reck d es,sc=>es.length<=8/\arity d es.length/\Wfs es sc
 |.eachE s a b,sc=>Wf a sc/\Wf b (sc++[s])
def Wfs:List Ex->List Str->Prop
 |[],_=>True
 |x::xs,sc=>Wf x sc/\Wfs xs sc
end
def EG(sc:List Str)(e:Env):Prop:=∀s∈sc,∃y,e s=some y/\Gd y
theorem EG.put{sc:List Str}{e:Env}(h:EG sc e){s:Str}{y:W}(g:Gd y):EG (sc++[s]) (D.put e s y):=fun t ht=>by
 unfold D.put
 by_cases hts:t=s
 ·rw[if_pos hts];exact⟨y,rfl,g⟩
 ·rw[if_neg hts]
  rcases yZ.mp ht with ht|ht
  ·exact h t ht
  ·exact absurd (yM.mp ht) hts
section
variable{fs:List Res}
theorem zdG{F:W->Ns->R×Ns}{p:W->Ns->Prop}:∀{ws:List W}{ns:Ns},(∀w∈ws,∀ns:Ns,ns.length<=fs.length->p w ns/\ROk (F w ns).1.res/\((F w ns).1.res≠.stop->(F w ns).2.length<=fs.length))->ns.length<=fs.length->zb8 F p ws ns/\∀r∈(zQ F ws ns).1,ROk r.res
 |[],ns,_,_=>by rw[zb8,zQ];exact⟨trivial,fun r h=>nomatch h⟩
 |w::ws,ns,h,hn=>by
  obtain⟨h1,h2,h3⟩:=h w yY ns hn
  rw[zb8,za9]
  by_cases hm:(F w ns).1.res.isMade=true
  ·have:=zdG (ws:=ws) (ns:=(F w ns).2) (fun x hx=>h x (yV _ hx)) (h3 (fun z=>by rw[z] at hm;cases hm))
   rw[if_pos hm]
   refine⟨⟨h1,fun _=>this.1⟩,fun r hr=>?_⟩
   rcases yS.mp hr with rfl|hr
   ·exact h2
   ·exact this.2 r hr
  ·rw[if_neg hm]
   exact⟨⟨h1,fun z=>absurd z hm⟩,fun r hr=>by rw[yM.mp hr];exact h2⟩
theorem zgQ{f:W->Ns->R×Ns}:∀{ws:List W}{ns:Ns},(zQ f ws ns).1.length<=ws.length
 |[],ns=>by rw[zQ];exact yE _
 |w::ws,ns=>by
  rw[za9]
  split
  ·have:=zgQ (f:=f) (ws:=ws) (ns:=(f w ns).2)
   simp only[yJ]
   lia
  ·simp only[yJ,vI]
   lia
theorem zjo(okF:∀r∈fs,ROk r)(n:Nat):ROk (found fs n):=by
 unfold found
 cases h:fs[n]? with
 |none=>trivial
 |some r=>exact okF r (yH h)
theorem zgR{e:Env}:∀{es:List Ex}{ns:Ns},Zp (evs fs es e ns).1=true->(evs fs es e ns).1.length=es.length
 |[],ns,_=>by rw[evs];rfl
 |x::xs,ns,h=>by
  rw[za6] at h ⊢
  split
  ·rename_i hm
   rw[if_pos hm] at h
   have h:((ev fs x e ns).1.res.isMade&&Zp (evs fs xs e (ev fs x e ns).2).1)=true:=h
   rw[xF] at h
   show ((ev fs x e ns).1::(evs fs xs e (ev fs x e ns).2).1).length=_
   rw[yJ,yJ,zgR h.2]
  ·rename_i hm
   rw[if_neg hm] at h
   have h:((ev fs x e ns).1.res.isMade&&true)=true:=h
   rw[wF] at h
   exact absurd h hm
mutual
theorem zac(nst:∀r∈fs,r≠Res.stop)(okF:∀r∈fs,ROk r)(hl:fs.length<=900):∀(x:Ex)(sc:List Str)(e:Env)(ns:Ns),Wf x sc->EG sc e->ns.length<=fs.length->Fine fs x e ns/\ROk (ev fs x e ns).1.res
 |.lit x,sc,e,ns,hw,_,_=>by rw[Wf] at hw;rw[Fine,ev];exact⟨trivial,hw⟩
 |.var s,sc,e,ns,hw,he,_=>by
  rw[Wf] at hw
  obtain⟨y,hy,g⟩:=he s hw
  rw[Fine,ev,hy]
  exact⟨⟨y,rfl⟩,g⟩
 |.letE s a b,sc,e,ns,hw,he,hn=>by
  rw[Wf] at hw
  obtain⟨f1,r1⟩:=zac nst okF hl a sc e ns hw.1 he hn
  have cs:=csE nst a e ns hn
  have go:∀x,(ev fs a e ns).1.res=.made x->Fine fs b (put e s x) (ev fs a e ns).2/\ROk (ev fs b (put e s x) (ev fs a e ns).2).1.res:=fun x hx=>by
   rw[hx] at r1
   exact zac nst okF hl b (sc++[s]) (put e s x) _ hw.2 (he.put r1) (cs.s0 (fun z=>by have z:(ev fs a e ns).1.res=.stop:=z;rw[hx] at z;cases z))
  rw[Fine]
  refine⟨⟨f1,fun x hx=>(go x hx).1⟩,?_⟩
  by_cases hm:(ev fs a e ns).1.res.isMade=true
  ·obtain⟨x,hx⟩:=ZW hm
   rw[zef hx]
   exact (go x hx).2
  ·rw[zeg (by simpa using hm)]
   exact r1
 |.ifE a b c,sc,e,ns,hw,he,hn=>by
  rw[Wf] at hw
  obtain⟨f1,r1⟩:=zac nst okF hl a sc e ns hw.1 he hn
  have cs:=csE nst a e ns hn
  have len:∀x,(ev fs a e ns).1.res=.made x->(ev fs a e ns).2.length<=fs.length:=fun x hx=>cs.s0 (fun z=>by have z:(ev fs a e ns).1.res=.stop:=z;rw[hx] at z;cases z)
  rw[Fine]
  refine⟨⟨f1,fun i hi=>⟨fun _=>(zac nst okF hl b sc e _ hw.2.1 he (len _ hi)).1,fun _=>(zac nst okF hl c sc e _ hw.2.2 he (len _ hi)).1⟩⟩,?_⟩
  by_cases hm:(ev fs a e ns).1.res.isMade=true
  ·obtain⟨x,hx⟩:=ZW hm
   cases x with
   |num i=>
    by_cases hi:i=0
    ·subst hi
     rw[zgL hx]
     exact (zac nst okF hl c sc e _ hw.2.2 he (len _ hx)).2
    ·rw[zgM hx hi]
     exact (zac nst okF hl b sc e _ hw.2.1 he (len _ hx)).2
   |txt z=>rw[zfi hx rfl];exact ZF
   |lst z=>rw[zfi hx rfl];exact ZF
  ·rw[zi8 (by simpa using hm)]
   exact r1
 |.elseE a b,sc,e,ns,hw,he,hn=>by
  rw[Wf] at hw
  obtain⟨f1,r1⟩:=zac nst okF hl a sc e ns hw.1 he hn
  have cs:=csE nst a e ns hn
  have go:∀w,(ev fs a e ns).1.res=.wrong w->Fine fs b e (ev fs a e ns).2/\ROk (ev fs b e (ev fs a e ns).2).1.res:=fun w hx=>
   zac nst okF hl b sc e _ hw.2 he (cs.s0 (fun z=>by have z:(ev fs a e ns).1.res=.stop:=z;rw[hx] at z;cases z))
  rw[Fine]
  refine⟨⟨f1,fun w hx=>(go w hx).1⟩,?_⟩
  rcases zW (ev fs a e ns).1.res with h|⟨x,h⟩|⟨w,h⟩
  ·rw[zau (fun w z=>by rw[h] at z;cases z)];exact r1
  ·rw[zau (fun w z=>by rw[h] at z;cases z)];exact r1
  ·rw[zcq h];exact (go w h).2
 |.cryE a,sc,e,ns,hw,he,hn=>by
  rw[Wf] at hw
  obtain⟨f1,r1⟩:=zac nst okF hl a sc e ns hw he hn
  rw[Fine]
  refine⟨f1,?_⟩
  by_cases hm:(ev fs a e ns).1.res.isMade=true
  ·obtain⟨x,hx⟩:=ZW hm
   rw[zeh hx]
   rw[hx] at r1
   exact⟨"cried",x,rfl,zkk,Gd.th r1,Gd.dp r1⟩
  ·rw[zf8 (by simpa using hm)]
   exact r1
 |.lookE a,sc,e,ns,hw,he,hn=>by
  rw[Wf] at hw
  obtain⟨f1,r1⟩:=zac nst okF hl a sc e ns hw he hn
  have cs:=csE nst a e ns hn
  rw[Fine]
  refine⟨⟨f1,?_⟩,?_⟩
  ·by_cases h:(ev fs a e ns).1.res=.stop
   ·have:(ev fs a e ns).2.length=fs.length+1:=cs.s1 h
    lia
   ·have:(ev fs a e ns).2.length<=fs.length:=cs.s0 h
    lia
  by_cases hm:(ev fs a e ns).1.res.isMade=true
  ·obtain⟨x,hx⟩:=ZW hm
   cases x with
   |num i=>rw[zbH hx (fun z h=>nomatch h)];exact ZF
   |lst i=>rw[zbH hx (fun z h=>nomatch h)];exact ZF
   |txt z=>rw[zcr hx];exact zjo okF _
  ·rw[zei (by simpa using hm)]
   exact r1
 |.reck d es,sc,e,ns,hw,he,hn=>by
  rw[Wf] at hw
  obtain⟨f1,r1⟩:=fineL nst okF hl es sc e ns hw.2.2 he hn
  have hle:=zjf (fs:=fs) (e:=e) (es:=es) (ns:=ns)
  obtain⟨o1,o2⟩:=zdc r1
  have h8:=hw.1
  rw[Fine]
  refine⟨⟨by lia,f1,fun hall=>⟨o1,o2,by lia,by rw[zgR hall];exact hw.2.1⟩⟩,?_⟩
  rw[ev]
  split
  ·exact zmj o1 (by rw[yB];lia)
  ·exact zfq (P:=fun r=>ROk r.res) r1 gd0
 |.eachE s a b,sc,e,ns,hw,he,hn=>by
  rw[Wf] at hw
  obtain⟨f1,r1⟩:=zac nst okF hl a sc e ns hw.1 he hn
  have cs:=csE nst a e ns hn
  have go:∀ws,(ev fs a e ns).1.res=.made (.lst ws)->zb8 (fun w m=>ev fs b (put e s w) m) (fun w m=>Fine fs b (put e s w) m) ws (ev fs a e ns).2/\∀r∈(zQ (fun w m=>ev fs b (put e s w) m) ws (ev fs a e ns).2).1,ROk r.res:=fun ws hx=>by
   rw[hx] at r1
   have g:Gd (.lst ws):=r1
   refine zdG (fs:=fs) (fun w hw' m hm=>?_) (cs.s0 (fun z=>by have z:(ev fs a e ns).1.res=.stop:=z;rw[hx] at z;cases z))
   obtain⟨i1,i2⟩:=zac nst okF hl b (sc++[s]) (put e s w) m hw.2 (he.put (g.item hw')) hm
   exact⟨i1,i2,(csE nst b (put e s w) m hm).s0⟩
  rw[Fine]
  refine⟨⟨f1,fun ws hx=>?_⟩,?_⟩
  ·obtain⟨g1,g2⟩:=go ws hx
   obtain⟨o1,o2⟩:=zdc g2
   exact⟨g1,ths_of _ o1,o2⟩
  by_cases hm:(ev fs a e ns).1.res.isMade=true
  ·obtain⟨x,hx⟩:=ZW hm
   cases x with
   |num i=>rw[ev,hx];exact ZF
   |txt i=>rw[ev,hx];exact ZF
   |lst ws=>
    obtain⟨g1,g2⟩:=go ws hx
    obtain⟨o1,o2⟩:=zdc g2
    by_cases hlen:ws.length<=10
    ·rw[zjj hx hlen]
     split
     ·refine ZG ⟨?_,ths_of _ o1⟩
      have:(zQ (fun w m=>ev fs b (put e s w) m) ws (ev fs a e ns).2).1.length<=ws.length:=zgQ
      rw[yB]
      lia
     ·exact zfq (P:=fun r=>ROk r.res) g2 r1
    ·rw[ev,hx]
     show ROk (if ws.length > 10 then _ else _:R×Ns).1.res
     rw[if_pos (by lia)]
     exact zfo
  ·rcases zW (ev fs a e ns).1.res with h|⟨x,h⟩|⟨w,h⟩
   ·rw[ev,h];trivial
   ·rw[h] at hm;exact absurd rfl hm
   ·rw[h] at r1
    rw[ev,h];exact r1
theorem fineL(nst:∀r∈fs,r≠Res.stop)(okF:∀r∈fs,ROk r)(hl:fs.length<=900):∀(es:List Ex)(sc:List Str)(e:Env)(ns:Ns),Wfs es sc->EG sc e->ns.length<=fs.length->Fines fs es e ns/\∀r∈(evs fs es e ns).1,ROk r.res
 |[],sc,e,ns,_,_,_=>by rw[Fines,evs];exact⟨trivial,fun r h=>nomatch h⟩
 |x::xs,sc,e,ns,hw,he,hn=>by
  rw[Wfs] at hw
  obtain⟨f1,r1⟩:=zac nst okF hl x sc e ns hw.1 he hn
  have cs:=csE nst x e ns hn
  rw[Fines,za6]
  by_cases hm:(ev fs x e ns).1.res.isMade=true
  ·obtain⟨i1,i2⟩:=fineL nst okF hl xs sc e _ hw.2 he (cs.s0 (fun z=>by have z:(ev fs x e ns).1.res=.stop:=z;rw[z] at hm;cases hm))
   rw[if_pos hm]
   refine⟨⟨f1,fun _=>i1⟩,fun r hr=>?_⟩
   rcases yS.mp hr with rfl|hr
   ·exact r1
   ·exact i2 r hr
  ·rw[if_neg hm]
   exact⟨⟨f1,fun z=>absurd z hm⟩,fun r hr=>by rw[yM.mp hr];exact r1⟩
end
end
inductive GR:Nat->R->Prop where
 |mk {n:Nat}{res:Res}{ss:List R}:ROk res->res≠.stop->(∀r∈ss,GR n r)->GR (n+1) (.mk res ss)
theorem GR.up{n m:Nat}{r:R}(h:GR n r)(l:n<=m):GR m r:=by
 induction h generalizing m with
 | @mk n res ss a b _ ih=>
  obtain⟨k,rfl⟩:∃k,m=k+1:=⟨m-1,by lia⟩
  exact .mk a b fun r hr=>ih r hr (by lia)
theorem gr1{n:Nat}{a:R}{res:Res}(ok:ROk res)(ns:res≠.stop)(ga:GR n a):GR (n+1) (.mk res [a]):=.mk ok ns fun r hr=>by rw[yM.mp hr];exact ga
theorem gr2{n:Nat}{a b:R}{res:Res}(ok:ROk res)(ns:res≠.stop)(ga:GR n a)(gb:GR n b):GR (n+1) (.mk res [a,b]):=.mk ok ns fun r hr=>by
 rcases yS.mp hr with rfl|hr
 ·exact ga
 ·rw[yM.mp hr];exact gb
theorem ZJ{r:Res}{x:W}(h:r=.made x):r≠.stop:=fun z=>by rw[h] at z;cases z
theorem zeo{r:Res}{x:List W}(h:r=.wrong x):r≠.stop:=fun z=>by rw[h] at z;cases z
section
variable{fs:List Res}
theorem zgS{F:W->Ns->R×Ns}{n:Nat}:∀{ws:List W}{ns:Ns},(∀w∈ws,∀ns:Ns,ns.length<=fs.length->(F w ns).1.res≠.stop->GR n (F w ns).1/\(F w ns).2.length<=fs.length)->ns.length<=fs.length->¬stL (zQ F ws ns).1->∀r∈(zQ F ws ns).1,GR n r
 |[],ns,_,_,_,r,hr=>by rw[zQ] at hr;cases hr
 |w::ws,ns,h,hn,hs,r,hr=>by
  rw[za9] at hs hr
  by_cases hm:(F w ns).1.res.isMade=true
  ·rw[if_pos hm] at hs hr
   obtain⟨x,hx⟩:=ZW hm
   obtain⟨g1,g2⟩:=h w yY ns hn (ZJ hx)
   rcases yS.mp hr with rfl|hr
   ·exact g1
   ·exact zgS (fun x hx=>h x (yV _ hx)) g2 (fun z=>hs ((zbJ (ZJ hx)).mpr z)) r hr
  ·rw[if_neg hm] at hs hr
   rw[yM.mp hr]
   exact (h w yY ns hn (fun z=>hs (zjm.mpr z))).1
mutual
theorem grE(nst:∀r∈fs,r≠Res.stop)(okF:∀r∈fs,ROk r)(hl:fs.length<=900):∀(x:Ex)(sc:List Str)(e:Env)(ns:Ns),Wf x sc->EG sc e->ns.length<=fs.length->(ev fs x e ns).1.res≠.stop->GR x.high (ev fs x e ns).1
 |.lit x,sc,e,ns,hw,he,hn,hs=>by
  have ok:=(zac nst okF hl _ sc e ns hw he hn).2
  rw[ev] at ok hs ⊢
  rw[Ex.high]
  exact .mk ok hs fun r hr=>nomatch hr
 |.var s,sc,e,ns,hw,he,hn,hs=>by
  have ok:=(zac nst okF hl _ sc e ns hw he hn).2
  rw[ev] at ok hs ⊢
  rw[Ex.high]
  exact .mk ok hs fun r hr=>nomatch hr
 |.letE s a b,sc,e,ns,hw,he,hn,hs=>by
  have ok:=(zac nst okF hl _ sc e ns hw he hn).2
  rw[Wf] at hw
  have r1:=(zac nst okF hl a sc e ns hw.1 he hn).2
  have cs:=csE nst a e ns hn
  rw[Ex.high,wR]
  by_cases hm:(ev fs a e ns).1.res.isMade=true
  ·obtain⟨x,hx⟩:=ZW hm
   rw[hx] at r1
   rw[zef hx] at ok hs ⊢
   exact gr2 ok hs ((grE nst okF hl a sc e ns hw.1 he hn (ZJ hx)).up (by lia)) ((grE nst okF hl b (sc++[s]) (put e s x) _ hw.2 (he.put r1) (cs.s0 (ZJ hx)) hs).up (by lia))
  ·rw[zeg (by simpa using hm)] at ok hs ⊢
   exact gr1 ok hs ((grE nst okF hl a sc e ns hw.1 he hn hs).up (by lia))
 |.ifE a b c,sc,e,ns,hw,he,hn,hs=>by
  have ok:=(zac nst okF hl _ sc e ns hw he hn).2
  rw[Wf] at hw
  have cs:=csE nst a e ns hn
  rw[Ex.high,wR]
  by_cases hm:(ev fs a e ns).1.res.isMade=true
  ·obtain⟨x,hx⟩:=ZW hm
   have ga:=(grE nst okF hl a sc e ns hw.1 he hn (ZJ hx)).up (m:=max a.high (max b.high c.high)) (by lia)
   cases x with
   |num i=>
    by_cases hi:i=0
    ·subst hi
     rw[zgL hx] at ok hs ⊢
     exact gr2 ok hs ga ((grE nst okF hl c sc e _ hw.2.2 he (cs.s0 (ZJ hx)) hs).up (by lia))
    ·rw[zgM hx hi] at ok hs ⊢
     exact gr2 ok hs ga ((grE nst okF hl b sc e _ hw.2.1 he (cs.s0 (ZJ hx)) hs).up (by lia))
   |txt z=>rw[zfi hx rfl] at ok hs ⊢;exact gr1 ok hs ga
   |lst z=>rw[zfi hx rfl] at ok hs ⊢;exact gr1 ok hs ga
  ·rw[zi8 (by simpa using hm)] at ok hs ⊢
   exact gr1 ok hs ((grE nst okF hl a sc e ns hw.1 he hn hs).up (by lia))
 |.elseE a b,sc,e,ns,hw,he,hn,hs=>by
  have ok:=(zac nst okF hl _ sc e ns hw he hn).2
  rw[Wf] at hw
  have cs:=csE nst a e ns hn
  rw[Ex.high,wR]
  rcases zW (ev fs a e ns).1.res with h|⟨x,h⟩|⟨w,h⟩
  ·rw[zau (fun w z=>by rw[h] at z;cases z)] at hs
   exact absurd h hs
  ·rw[zau (fun w z=>by rw[h] at z;cases z)] at ok hs ⊢
   exact gr1 ok hs ((grE nst okF hl a sc e ns hw.1 he hn hs).up (by lia))
  ·rw[zcq h] at ok hs ⊢
   exact gr2 ok hs ((grE nst okF hl a sc e ns hw.1 he hn (zeo h)).up (by lia)) ((grE nst okF hl b sc e _ hw.2 he (cs.s0 (zeo h)) hs).up (by lia))
 |.cryE a,sc,e,ns,hw,he,hn,hs=>by
  have ok:=(zac nst okF hl _ sc e ns hw he hn).2
  rw[Wf] at hw
  rw[Ex.high,wR]
  by_cases hm:(ev fs a e ns).1.res.isMade=true
  ·obtain⟨x,hx⟩:=ZW hm
   rw[zeh hx] at ok hs ⊢
   exact gr1 ok hs (grE nst okF hl a sc e ns hw he hn (ZJ hx))
  ·rw[zf8 (by simpa using hm)] at ok hs ⊢
   exact gr1 ok hs (grE nst okF hl a sc e ns hw he hn hs)
 |.lookE a,sc,e,ns,hw,he,hn,hs=>by
  have ok:=(zac nst okF hl _ sc e ns hw he hn).2
  rw[Wf] at hw
  rw[Ex.high,wR]
  by_cases hm:(ev fs a e ns).1.res.isMade=true
  ·obtain⟨x,hx⟩:=ZW hm
   have ga:=grE nst okF hl a sc e ns hw he hn (ZJ hx)
   cases x with
   |num i=>rw[zbH hx (fun z h=>nomatch h)] at ok hs ⊢;exact gr1 ok hs ga
   |lst i=>rw[zbH hx (fun z h=>nomatch h)] at ok hs ⊢;exact gr1 ok hs ga
   |txt z=>rw[zcr hx] at ok hs ⊢;exact gr1 ok hs ga
  ·rw[zei (by simpa using hm)] at ok hs ⊢
   exact gr1 ok hs (grE nst okF hl a sc e ns hw he hn hs)
 |.reck d es,sc,e,ns,hw,he,hn,hs=>by
  have ok:=(zac nst okF hl _ sc e ns hw he hn).2
  rw[Wf] at hw
  rw[Ex.high,wR]
  rw[ev] at ok hs ⊢
  by_cases hall:Zp (evs fs es e ns).1=true
  ·rw[if_pos hall] at ok hs ⊢
   exact .mk ok hs (grL nst okF hl es sc e ns hw.2.2 he hn (zav hall))
  ·rw[if_neg hall] at ok hs ⊢
   exact .mk ok hs (grL nst okF hl es sc e ns hw.2.2 he hn hs)
 |.eachE s a b,sc,e,ns,hw,he,hn,hs=>by
  have ok:=(zac nst okF hl _ sc e ns hw he hn).2
  rw[Wf] at hw
  have r1:=(zac nst okF hl a sc e ns hw.1 he hn).2
  have cs:=csE nst a e ns hn
  rw[Ex.high,wR]
  rcases zW (ev fs a e ns).1.res with h|⟨x,hx⟩|⟨w,h⟩
  ·rw[ev,h] at hs;exact absurd rfl hs
  ·have ga:=(grE nst okF hl a sc e ns hw.1 he hn (ZJ hx)).up (m:=max a.high b.high) (by lia)
   cases x with
   |num i=>rw[ev,hx] at ok hs ⊢;exact gr1 ok hs ga
   |txt i=>rw[ev,hx] at ok hs ⊢;exact gr1 ok hs ga
   |lst ws=>
    rw[hx] at r1
    have g:Gd (.lst ws):=r1
    by_cases hlen:ws.length<=10
    ·have go:=zgS (fs:=fs) (F:=fun w m=>ev fs b (put e s w) m) (n:=max a.high b.high) (ws:=ws) (ns:=(ev fs a e ns).2) (fun w hw' m hm hm2=>⟨(grE nst okF hl b (sc++[s]) (put e s w) m hw.2 (he.put (g.item hw')) hm hm2).up (by lia),(csE nst b (put e s w) m hm).s0 hm2⟩) (cs.s0 (ZJ hx))
     rw[zjj hx hlen] at ok hs ⊢
     by_cases hall:Zp (zQ (fun w m=>ev fs b (put e s w) m) ws (ev fs a e ns).2).1=true
     ·rw[if_pos hall] at ok hs ⊢
      exact .mk ok hs fun r hr=>by
       rcases yS.mp hr with rfl|hr
       ·exact ga
       ·exact go (zav hall) r hr
     ·rw[if_neg hall] at ok hs ⊢
      exact .mk ok hs fun r hr=>by
       rcases yS.mp hr with rfl|hr
       ·exact ga
       ·exact go (fun z=>hs ((znk (ZJ hx)).mpr z)) r hr
    ·have hc:ev fs (.eachE s a b) e ns=(.mk (.wrong [.txt "great",.txt ""]) [(ev fs a e ns).1],(ev fs a e ns).2):=by
      rw[ev,hx]
      exact if_pos (by lia)
     rw[hc] at ok hs ⊢
     exact gr1 ok hs ga
  ·rw[ev,h] at ok hs ⊢
   exact gr1 ok hs ((grE nst okF hl a sc e ns hw.1 he hn (zeo h)).up (by lia))
theorem grL(nst:∀r∈fs,r≠Res.stop)(okF:∀r∈fs,ROk r)(hl:fs.length<=900):∀(es:List Ex)(sc:List Str)(e:Env)(ns:Ns),Wfs es sc->EG sc e->ns.length<=fs.length->¬stL (evs fs es e ns).1->∀r∈(evs fs es e ns).1,GR (highs es) r
 |[],sc,e,ns,hw,he,hn,hs,r,hr=>by rw[evs] at hr;cases hr
 |x::xs,sc,e,ns,hw,he,hn,hs,r,hr=>by
  rw[Wfs] at hw
  rw[za6] at hs hr
  rw[highs]
  by_cases hm:(ev fs x e ns).1.res.isMade=true
  ·rw[if_pos hm] at hs hr
   obtain⟨y,hx⟩:=ZW hm
   rcases yS.mp hr with rfl|hr
   ·exact (grE nst okF hl x sc e ns hw.1 he hn (ZJ hx)).up (by lia)
   ·exact (grL nst okF hl xs sc e _ hw.2 he ((csE nst x e ns hn).s0 (ZJ hx)) (fun z=>hs ((zbJ (ZJ hx)).mpr z)) r hr).up (by lia)
  ·rw[if_neg hm] at hs hr
   rw[yM.mp hr]
   exact (grE nst okF hl x sc e ns hw.1 he hn (fun z=>hs (zjm.mpr z))).up (by lia)
end
end
theorem znm{ss:List R}{n:Nat}(h:∀r∈ss,r.toW.depth<=n):depths (toWs ss)<=n:=by
 induction ss with
 |nil=>rw[toWs,depths];lia
 |cons r l ih=>
  rw[toWs,depths]
  have h1:=h r yY
  have h2:=ih fun x hx=>h x (yV _ hx)
  lia
theorem GR.dp{n:Nat}{r:R}(h:GR n r):r.toW.depth<=2*n+14:=by
 induction h with
 | @mk n res ss a b _ ih=>
  have h1:=ROk.dp a
  have h2:=znm ih
  rw[R.toW]
  simp only[W.depth,depths]
  lia
theorem GR.rs{K:tP}{H:Hp}{n:Nat}{r:R}(g:GR n r):∀{v:V},RR K H v r->RS K H v r.toW:=by
 induction g with
 | @mk n res ss a b _ ih=>
  intro v h
  cases h with
  | @mk a1 b1 rv vs _ _ e1 e2 e3 l at'=>
   rw[R.toW]
   refine RS.two (Sq e1) (e2.rs b) (.lst (Sq e3) (by rw[zgJ];exact l) fun i v w hv hw=>?_)
   rw[zi5] at hw
   obtain⟨r,hr,rfl⟩:=yT.mp hw
   exact ih r (yH hr) (at' i v r hv hr)
inductive Pl where
 |leaf (r:Res)
 |look (t:Str) (l r:Pl)
def is1(r:Res):Bool:=eqW r.toW (.lst [.txt "made",.num 1])
def Pl.go:Pl->List Res->Ns×Option Res
 |.leaf r,_=>([],some r)
 |.look t _ _,[]=>([t],none)
 |.look t l r,f::fs=>(t::(if is1 f then l.go fs else r.go fs).1,(if is1 f then l.go fs else r.go fs).2)
noncomputable def Pl.deep:Pl->Nat
 |.leaf _=>0
 |.look _ l r=>1+max l.deep r.deep
theorem zkm(x:W):is1 (.made x)=eqW x (.num 1):=by
 simp only[is1,Res.toW,eqW,eqWs,wF]
 rw[show ((uU "made":Str)=="made")=true by decide +kernel,vV]
theorem zjp(ws:List W):is1 (.wrong ws)=false:=by
 cases ws with
 |nil=>rfl
 |cons w r=>
  simp only[is1,Res.toW,eqW,eqWs]
  rw[show ((uU "wrong":Str)=="made")=false by decide +kernel,vP]
theorem zdd(t:Str)(l r:Pl)(f:Res)(fs:List Res):(Pl.look t l r).go (f::fs)=(t::((if is1 f then l else r).go fs).1,((if is1 f then l else r).go fs).2):=by
 rw[Pl.go]
 cases is1 f<;>rfl
theorem zb3:∀(P:Pl)(fs:List Res),(P.go fs).2=none->(P.go fs).1.length=fs.length+1
 |.leaf r,fs,h=>by rw[Pl.go] at h;cases h
 |.look t l r,[],h=>by rw[Pl.go];rfl
 |.look t l r,f::fs,h=>by
  rw[Pl.go] at h ⊢
  cases hf:is1 f with
  |true=>
   simp only[hf,if_true] at h ⊢
   rw[yJ,zb3 l fs h,yJ]
  |false=>
   simp only[hf,xC,if_false] at h ⊢
   rw[yJ,zb3 r fs h,yJ]
theorem zbr:∀(P:Pl)(fs:List Res)(o:Res),(P.go fs).2=some o->(P.go fs).1.length<=fs.length
 |.leaf r,fs,o,h=>by rw[Pl.go];exact yN _
 |.look t l r,[],o,h=>by rw[Pl.go] at h;cases h
 |.look t l r,f::fs,o,h=>by
  rw[Pl.go] at h ⊢
  cases hf:is1 f with
  |true=>
   simp only[hf,if_true] at h ⊢
   exact Nat.succ_le_succ (zbr l fs o h)
  |false=>
   simp only[hf,xC,if_false] at h ⊢
   exact Nat.succ_le_succ (zbr r fs o h)
theorem zep:∀(P:Pl)(fs gs:List Res)(o:Res),(P.go fs).2=some o->P.go (fs++gs)=P.go fs
 |.leaf r,fs,gs,o,h=>by rw[Pl.go,Pl.go]
 |.look t l r,[],gs,o,h=>by rw[Pl.go] at h;cases h
 |.look t l r,f::fs,gs,o,h=>by
  rw[xO,Pl.go,Pl.go]
  rw[Pl.go] at h
  cases hf:is1 f with
  |true=>
   simp only[hf,if_true] at h ⊢
   rw[zep l fs gs o h]
  |false=>
   simp only[hf,xC,if_false] at h ⊢
   rw[zep r fs gs o h]
theorem zgT:∀(P:Pl)(fs gs:List Res),(P.go fs).1 <+: (P.go (fs++gs)).1
 |.leaf r,fs,gs=>by rw[Pl.go,Pl.go];exact wQ _
 |.look t l r,[],[]=>wQ _
 |.look t l r,[],g::gs=>by rw[vJ,Pl.go,Pl.go];exact⟨_,rfl⟩
 |.look t l r,f::fs,gs=>by
  rw[xO,Pl.go,Pl.go]
  cases hf:is1 f with
  |true=>simp only[if_true];exact (wH).mpr ⟨rfl,zgT l fs gs⟩
  |false=>simp only[xC,if_false];exact (wH).mpr ⟨rfl,zgT r fs gs⟩
theorem zeq:∀(P:Pl)(fs:List Res),(P.go fs).2=none->fs.length<P.deep
 |.leaf r,fs,h=>by rw[Pl.go] at h;cases h
 |.look t l r,[],h=>by rw[Pl.deep,vI];lia
 |.look t l r,f::fs,h=>by
  rw[Pl.go] at h
  rw[Pl.deep,yJ]
  cases hf:is1 f with
  |true=>
   simp only[hf,if_true] at h
   have:=zeq l fs h
   lia
  |false=>
   simp only[hf,xC,if_false] at h
   have:=zeq r fs h
   lia
def Cm(P:Pl)(fs:List Res):Prop:=(∃o,(P.go fs).2=some o)/\(P.go fs).1.length=fs.length
theorem zad{α:Type}(o:Option α):o=none\/∃x,o=some x:=by cases o;exact .inl rfl;exact .inr ⟨_,rfl⟩
def Al(P:Pl)(fs:List Res):Prop:=(P.go fs).2=none\/Cm P fs
theorem zgU(P:Pl):Al P []:=by
 rcases zad (P.go []).2 with h|⟨o,h⟩
 ·exact .inl h
 ·have:=zbr P [] o h
  exact .inr ⟨⟨o,h⟩,Nat.le_zero.mp this⟩
theorem zgf{P:Pl}{fs:List Res}(h:(P.go fs).2=none)(f:Res):Al P (fs++[f]):=by
 rcases zad (P.go (fs++[f])).2 with h2|⟨o,h2⟩
 ·exact .inl h2
 ·have h3:=zbr P _ o h2
  have h4:=(zgT P fs [f]).length_le
  rw[zb3 P fs h] at h4
  rw[yD,wG] at h3
  refine .inr ⟨⟨o,h2⟩,?_⟩
  rw[yD,wG]
  lia
theorem zjq{P:Pl}{fs gs:List Res}{o:Res}(hg:Cm P gs)(hp:fs <+: gs)(h:(P.go fs).2=some o):fs=gs:=by
 obtain⟨t,rfl⟩:=hp
 have e:=zep P fs t o h
 have h1:=hg.2
 rw[e] at h1
 have h2:=zbr P fs o h
 rw[yD] at h1
 have:t=[]:=xL.mp (by lia)
 rw[this,xK]
theorem zgg{P:Pl}{fs gs:List Res}(hg:Cm P gs)(hp:fs <+: gs)(h:(P.go fs).2=none):fs.length<gs.length/\∃z,(P.go gs).1[fs.length]?=some z/\(P.go fs).1.getLast?=some z:=by
 obtain⟨t,rfl⟩:=hp
 have hl:=zb3 P fs h
 have hpre:=zgT P fs t
 have h1:=hg.2
 have h4:=hpre.length_le
 rw[yD] at h1
 rw[yD]
 obtain⟨u,hu⟩:=hpre
 have hk:fs.length<(P.go fs).1.length:=by lia
 refine⟨by lia,(P.go fs).1[fs.length],?_,?_⟩
 ·rw[←hu,yL hk]
  exact yA hk
 ·rw[List.getLast?_eq_getElem?,hl,vQ]
  exact yA hk
inductive Pn where
 |made (n:Int)
 |cried (n:Int)
 |look (t:Str) (l r:Pn)
noncomputable def Pn.toW:Pn->W
 |.made n=>.lst [.txt "made",.num n]
 |.cried n=>.lst [.txt "cried",.num n]
 |.look t l r=>.lst [.txt "look",.txt t,l.toW,r.toW]
noncomputable def Pn.pl:Pn->Pl
 |.made n=>.leaf (.made (.num n))
 |.cried n=>.leaf (.wrong [.txt "cried",.num n])
 |.look t l r=>.look t l.pl r.pl
noncomputable def Pn.ex:Pn->Ex
 |.made n=>.lit (.num n)
 |.cried n=>.cryE (.lit (.num n))
 |.look t l r=>.letE "a" (.elseE (.lookE (.lit (.txt t))) (.lit (.num 0))) (.ifE (.reck .same [.var "a",.lit (.num 1)]) l.ex r.ex)
noncomputable def Pn.looks:Pn->Nat
 |.made _=>0
 |.cried _=>0
 |.look _ l r=>1+l.looks+r.looks
def Pn.Ok:Pn->Prop
 |.made n=>0<=n/\n<1000
 |.cried n=>0<=n/\n<1000
 |.look t l r=>(t.length<=9/\Signs t)/\l.Ok/\r.Ok
theorem zer:∀p:Pn,p.pl.deep<=p.looks
 |.made _=>yE _
 |.cried _=>yE _
 |.look _ l r=>by
  have h1:=zer l
  have h2:=zer r
  simp only[Pn.pl,Pl.deep,Pn.looks]
  lia
theorem zgh:∀p:Pn,p.ex.high<=2*p.looks+2
 |.made _=>by simp only[Pn.ex,Ex.high];lia
 |.cried _=>by simp only[Pn.ex,Ex.high];lia
 |.look t l r=>by
  have h1:=zgh l
  have h2:=zgh r
  simp only[Pn.ex,Ex.high,highs,Pn.looks]
  lia
theorem zgV:∀p:Pn,p.ex.toW.depth<=2*p.looks+2
 |.made _=>by simp only[Pn.ex,Ex.toW,W.depth,depths];lia
 |.cried _=>by simp only[Pn.ex,Ex.toW,W.depth,depths];lia
 |.look t l r=>by
  have h1:=zgV l
  have h2:=zgV r
  simp only[Pn.ex,Ex.toW,exWs,W.depth,depths,Pn.looks]
  lia
theorem zgW{n:Int}(h:0<=n/\n<1000):Gd (.num n):=⟨⟨by lia,by lia⟩,yN _⟩
theorem zmk:∀(p:Pn)(sc:List Str),p.Ok->Wf p.ex sc
 |.made n,sc,h=>by simp only[Pn.ex,Wf];exact zgW h
 |.cried n,sc,h=>by simp only[Pn.ex,Wf];exact zgW h
 |.look t l r,sc,h=>by
  simp only[Pn.ex,Wf,Wfs]
  refine⟨⟨⟨⟨?_,h.1.2⟩,yN _⟩,zgW (by lia)⟩,⟨by decide,rfl,by simp,zgW (by lia),trivial⟩,zmk l _ h.2.1,zmk r _ h.2.2⟩
  exact yQ h.1.1 (by decide)
theorem zhO(fs:List Res)(ns:Ns):fs.drop ns.length=[]/\found fs ns.length=.stop\/∃f gs,fs.drop ns.length=f::gs/\found fs ns.length=f/\fs.drop (ns.length+1)=gs:=by
 by_cases h:ns.length<fs.length
 ·refine .inr ⟨fs[ns.length],fs.drop (ns.length+1),(xD h),?_,rfl⟩
  unfold found
  rw[yA h]
  rfl
 ·refine .inl ⟨wC (by lia),?_⟩
  unfold found
  rw[vB (by lia)]
  rfl
theorem zml(fs:List Res)(nst:∀r∈fs,r≠Res.stop):∀(p:Pn)(e:Env)(ns:Ns),(ev fs p.ex e ns).2=ns++(p.pl.go (fs.drop ns.length)).1/\(ev fs p.ex e ns).1.res=((p.pl.go (fs.drop ns.length)).2).getD .stop
 |.made n,e,ns=>by
  rw[Pn.ex,Pn.pl,ev,Pl.go]
  exact⟨(xK _).symm,rfl⟩
 |.cried n,e,ns=>by
  rw[Pn.ex,Pn.pl,zeh (x:=.num n) (by rw[ev];rfl),ev,Pl.go]
  exact⟨(xK _).symm,rfl⟩
 |.look t l r,e,ns=>by
  have e1:ev fs (.lookE (.lit (.txt t))) e ns=(.mk (found fs ns.length) [.mk (.made (.txt t)) []],ns++[t]):=by
   rw[zcr (z:=t) (by rw[ev];rfl),ev]
  have hlen:(ns++[t]).length=ns.length+1:=by simp
  rw[Pn.pl,Pn.ex]
  rcases zhO fs ns with⟨h1,h2⟩|⟨f,gs,h1,h2,h3⟩
  ·rw[h1,Pl.go]
   have e2:ev fs (.elseE (.lookE (.lit (.txt t))) (.lit (.num 0))) e ns=(.mk .stop [.mk .stop [.mk (.made (.txt t)) []]],ns++[t]):=by
    rw[zau (by rw[e1,h2];intro w h;cases h),e1,h2]
    rfl
   rw[zeg (by rw[e2];rfl),e2]
   exact⟨rfl,rfl⟩
  ·rw[h1,zdd]
   have hf:f≠.stop:=nst f (by rw[←vC ns.length fs,h1];simp)
   obtain⟨x,rr,e2,hx⟩:∃(x:W)(rr:R),ev fs (.elseE (.lookE (.lit (.txt t))) (.lit (.num 0))) e ns=(rr,ns++[t])/\rr.res=.made x/\eqW x (.num 1)=is1 f:=by
    cases f with
    |stop=>exact absurd rfl hf
    |made x=>
     refine⟨x,.mk (.made x) [.mk (.made x) [.mk (.made (.txt t)) []]],?_,rfl,(zkm x).symm⟩
     rw[zau (by rw[e1,h2];intro w h;cases h),e1,h2]
     rfl
    |wrong ws=>
     refine⟨.num 0,.mk (.made (.num 0)) [.mk (.wrong ws) [.mk (.made (.txt t)) []],.mk (.made (.num 0)) []],?_,rfl,?_⟩
     ·rw[zcq (w:=ws) (by rw[e1,h2];rfl),e1,h2,ev]
      rfl
     ·rw[zjp];rfl
   obtain⟨hx,hq⟩:=hx
   have hx':(ev fs (.elseE (.lookE (.lit (.txt t))) (.lit (.num 0))) e ns).1.res=.made x:=by rw[e2];exact hx
   rw[zef hx',e2]
   dsimp only
   have e3:ev fs (.reck .same [.var "a",.lit (.num 1)]) (put e "a" x) (ns++[t])=(.mk (.made (.num (if eqW x (.num 1) then 1 else 0))) [.mk (.made x) [],.mk (.made (.num 1)) []],ns++[t]):=by
    have e4:evs fs [.var "a",.lit (.num 1)] (put e "a" x) (ns++[t])=([.mk (.made x) [],.mk (.made (.num 1)) []],ns++[t]):=by
     rw[za6,ev,zgc,ev]
     have:put e "a" x "a"=some x:=by unfold put;rw[if_pos rfl]
     rw[this]
     rfl
    rw[ev,e4]
    rfl
   cases hb:is1 f with
   |true=>
    rw[hq,hb] at e3
    have h4:=zml fs nst l (put e "a" x) (ns++[t])
    rw[zgM (i:=1) (by rw[e3];rfl) (by decide),e3]
    rw[hlen,h3] at h4
    simp only[if_true]
    exact⟨by rw[h4.1,xQ];rfl,h4.2⟩
   |false=>
    rw[hq,hb] at e3
    have h4:=zml fs nst r (put e "a" x) (ns++[t])
    rw[zgL (by rw[e3];rfl),e3]
    rw[hlen,h3] at h4
    simp only[xC,if_false]
    exact⟨by rw[h4.1,xQ];rfl,h4.2⟩
structure RuP(P:Pl)(x:Ex):Prop where
 wf:Wf x []
 hi:x.high<=12
 ev:∀fs:List Res,(∀r∈fs,r≠Res.stop)->(ev fs x e0 []).2=(P.go fs).1/\(ev fs x e0 []).1.res=((P.go fs).2).getD .stop
 dp:x.toW.depth<=13
 de:P.deep<=5
 ns:∀(fs:List Res)(o:Res),(P.go fs).2=some o->o≠.stop
 tok:TOk x.toW.toD
 tdp:x.toW.toD.depth<70
 tct:cnt x.toW.toD<=800
noncomputable def exJ:Ex:=.reck .join [.lit (.txt "x"),.lit (.txt "y")]
theorem zhP{x:W}(h:zhs x=true):zab x=.lst [.txt "made",x]:=if_pos h
theorem znn(fs:List Res):ev fs exJ e0 []=(.mk (.made (.txt "xy")) [.mk (.made (.txt "x")) [],.mk (.made (.txt "y")) []],[]):=by
 have e4:evs fs [.lit (.txt "x"),.lit (.txt "y")] e0 []=([.mk (.made (.txt "x")) [],.mk (.made (.txt "y")) []],[]):=by
  rw[za6,ev,zgc,ev]
  rfl
 rw[exJ,ev,e4]
 have:recW .join [.txt "x",.txt "y"]=.lst [.txt "made",.txt "xy"]:=zhP (x:=.txt "xy") (by decide +kernel)
 show (if true=true then (R.mk (zbb (recW .join [.txt "x",.txt "y"])) _,_) else _)=_
 rw[if_pos rfl,this]
 rfl
theorem Zi{s:Str}(h:s.length<=2000/\∀c∈s.cps.toList,c<200):TOk (.str s):=h
theorem zes{n:Int}(h:0<=n/\n<1000):TOk (.int n):=by
 show n.natAbs<big
 have:(1000:Nat)<big:=by decide +kernel
 lia
theorem zjr:∀p:Pn,p.Ok->TOk p.ex.toW.toD
 |.made n,h=>⟨Zi (by decide +kernel),zes h,trivial⟩
 |.cried n,h=>⟨Zi (by decide +kernel),⟨Zi (by decide +kernel),zes h,trivial⟩,trivial⟩
 |.look t l r,h=>by
  have h1:=zjr l h.2.1
  have h2:=zjr r h.2.2
  have ht:TOk (.str t):=⟨yQ h.1.1 (by decide),fun c hc=>by have:=h.1.2 c hc;lia⟩
  exact⟨Zi (by decide +kernel),Zi (by decide +kernel),⟨Zi (by decide +kernel),⟨Zi (by decide +kernel),⟨Zi (by decide +kernel),ht,trivial⟩,trivial⟩,⟨Zi (by decide +kernel),zes (by lia),trivial⟩,trivial⟩,⟨Zi (by decide +kernel),⟨Zi (by decide +kernel),⟨Zi (by decide +kernel),Zi (by decide +kernel),trivial⟩,⟨Zi (by decide +kernel),zes (by lia),trivial⟩,trivial⟩,h1,h2,trivial⟩,trivial⟩
theorem zjs:∀p:Pn,cnt p.ex.toW.toD<=28*p.looks+5
 |.made n=>by simp only[Pn.ex,Ex.toW,W.toD,toDs,cnt,cnts];lia
 |.cried n=>by simp only[Pn.ex,Ex.toW,W.toD,toDs,cnt,cnts];lia
 |.look t l r=>by
  have h1:=zjs l
  have h2:=zjs r
  simp only[Pn.ex,Ex.toW,exWs,W.toD,toDs,cnt,cnts,Pn.looks]
  lia
mutual
theorem zet:∀w:W,w.toD.depth<=w.depth
 |.num _=>yE _
 |.txt _=>yE _
 |.lst ws=>by
  have:=toDs_dep ws
  simp only[W.toD,PyData.depth,W.depth]
  lia
theorem toDs_dep:∀ws:List W,PyData.depthAll (toDs ws)<=depths ws
 |[]=>yE _
 |w::r=>by
  have h1:=zet w
  have h2:=toDs_dep r
  simp only[toDs,PyData.depthAll,depths]
  lia
end
theorem zmm:∀(p:Pn)(fs:List Res)(o:Res),(p.pl.go fs).2=some o->o≠.stop
 |.made n,fs,o,h=>by rw[Pn.pl,Pl.go] at h;cases h;exact fun z=>nomatch z
 |.cried n,fs,o,h=>by rw[Pn.pl,Pl.go] at h;cases h;exact fun z=>nomatch z
 |.look t l r,[],o,h=>by rw[Pn.pl,Pl.go] at h;cases h
 |.look t l r,f::fs,o,h=>by
  rw[Pn.pl,zdd] at h
  cases hf:is1 f with
  |true=>rw[hf] at h;exact zmm l fs o h
  |false=>rw[hf] at h;exact zmm r fs o h
theorem zla{p:Pn}(h:p.Ok)(l:p.looks<=5):RuP p.pl p.ex where
 wf:=zmk p [] h
 hi:=by have:=zgh p;lia
 ev:=fun fs nst=>by
  have:=zml fs nst p e0 []
  simpa using this
 dp:=by have:=zgV p;lia
 de:=by have:=zer p;lia
 ns:=zmm p
 tok:=zjr p h
 tdp:=by have:=zet p.ex.toW;have:=zgV p;lia
 tct:=by have:=zjs p;lia
theorem znI:RuP (.leaf (.made (.txt "xy"))) exJ where
 wf:=⟨by decide,rfl,⟨zae (by decide +kernel) (by decide +kernel),yN _⟩,⟨zae (by decide +kernel) (by decide +kernel),yN _⟩,trivial⟩
 hi:=by decide
 ev:=fun fs _=>by rw[znn,Pl.go];exact⟨rfl,rfl⟩
 dp:=by decide
 de:=yN _
 ns:=fun fs o h=>by rw[Pl.go] at h;cases h;exact fun z=>nomatch z
 tok:=⟨Zi (by decide +kernel),⟨Zi (by decide +kernel),Zi (by decide +kernel),trivial⟩,⟨Zi (by decide +kernel),Zi (by decide +kernel),trivial⟩,trivial⟩
 tdp:=by have:=zet exJ.toW;have:exJ.toW.depth<=13:=(by decide);lia
 tct:=by decide
theorem zno:∀p:Pn,exJ.toW≠p.ex.toW
 |.made n=>fun z=>by simp only[exJ,Pn.ex,Ex.toW] at z;injection z with z;injection z with z;injection z with z;revert z;decide +kernel
 |.cried n=>fun z=>by simp only[exJ,Pn.ex,Ex.toW] at z;injection z with z;injection z with z;injection z with z;revert z;decide +kernel
 |.look t l r=>fun z=>by simp only[exJ,Pn.ex,Ex.toW] at z;injection z with z;injection z with z;injection z with z;revert z;decide +kernel
end
end D
namespace L2
open PySem
theorem zgX{fr:List Nat}{te:TE}{σ:St}{H:Hp}{F:Addr->Hp->List V->Prop}{n:Int}(Pv:Nat->List V->Hp->Prop)(h0:Pv 0 [] H)(hlen:∀i us H1,Pv i us H1->us.length=i)(hn:n.toNat<=1000000)
  (step:∀(i:Nat)(us:List V)(H1:Hp)(R:VK),i<n.toNat->Pv i us H1->(∀y H2,Pv (i+1) (us++[y]) H2->R y H2)->te (some (.int (0+(i:Int)))::frees fr σ) H1 R)
  (fin:∀(us:List V)(H1:Hp)(D:Addr),Pv n.toNat us H1->H1 D=none->F D H1 us):
  ∃W:Nat->Nat->List V->Hp->Prop,(∃m,W 0 m [] H)/\∀i m us H,W i m us H->us.length<=tF /\
   (((Itr 0 n.toNat).stop i H/\∀D,H D=none->F D H us) \/
    ((Itr 0 n.toNat).go i H/\∀v H',(Itr 0 n.toNat).yld i H v H'->if true=true then te (some v::frees fr σ) H' fun y H3=>∃m',m'<m/\W (i+1) m' (us++[y]) H3 else ∃m',m'<m/\W (i+1) m' us H')):=by
 refine⟨fun i m us H1=>i<=n.toNat/\m=n.toNat-i/\Pv i us H1,⟨_,yN _,rfl,h0⟩,fun i m us H1 hW=>?_⟩
 obtain⟨hi,hm,hu⟩:=hW
 have hz:(1000000:Nat)<=tF:=by decide
 refine⟨by rw[hlen _ _ _ hu];lia,?_⟩
 by_cases hlt:i<n.toNat
 ·refine .inr ⟨hlt,fun v H' hy=>?_⟩
  obtain⟨rfl,rfl⟩:=hy
  refine iteT ?_
  exact step i us H' _ hlt hu fun y H2 p2=>⟨n.toNat-(i+1),by lia,by lia,rfl,p2⟩
 ·have e:i=n.toNat:=by lia
  subst e
  exact .inl ⟨yE _,fun D hD=>fin us H1 D hu hD⟩
theorem zkn{K:tP}{fr:List Nat}{te:TE}{σ:St}{H:Hp}{F:Addr->Hp->List V->Prop}{a:Addr}{vs:List V}(outs:List V)(hS:SqT K H a vs)(hl:outs.length=vs.length)(hz:vs.length<=tF)
  (step:∀(i:Nat)(v y:V)(H1:Hp)(R:VK),vs[i]?=some v->outs[i]?=some y->Same H H1->(∀H2,Same H1 H2->R y H2)->te (some v::frees fr σ) H1 R)
  (fin:∀(H1:Hp)(D:Addr),Same H H1->H1 D=none->F D H1 outs):
  ∃W:Nat->Nat->List V->Hp->Prop,(∃m,W 0 m [] H)/\∀i m vs H,W i m vs H->vs.length<=tF /\
   (((Itt K a).stop i H/\∀D,H D=none->F D H vs) \/
    ((Itt K a).go i H/\∀v H',(Itt K a).yld i H v H'->if true=true then te (some v::frees fr σ) H' fun y H3=>∃m',m'<m/\W (i+1) m' (vs++[y]) H3 else ∃m',m'<m/\W (i+1) m' vs H')):=by
 refine⟨fun i m us H1=>i<=vs.length/\m=vs.length-i/\us=outs.take i/\Same H H1,⟨_,yN _,rfl,by simp,Sr _⟩,fun i m us H1 hW=>?_⟩
 obtain⟨hi,hm,hu,sm⟩:=hW
 refine⟨by rw[hu,yP];lia,?_⟩
 by_cases hlt:i<vs.length
 ·refine .inr ⟨⟨vs,vs[i],sm.seqT hS,yA hlt⟩,fun v H' hy=>?_⟩
  obtain⟨rfl,hv⟩:=hy
  have hv:=hv vs (sm.seqT hS)
  have hy:outs[i]?=some outs[i]:=yA (by lia)
  refine iteT ?_
  refine step i v outs[i] H' _ hv hy sm fun H2 s2=>⟨vs.length-(i+1),by lia,by lia,rfl,?_,sm.trans s2⟩
  rw[hu,Zg hy]
 ·have e:i=vs.length:=by lia
  refine .inl ⟨⟨vs,sm.seqT hS,by lia⟩,fun D hD=>?_⟩
  have e2:us=outs:=by rw[hu,xJ (by lia)]
  rw[e2]
  exact fin H1 D sm hD
end L2
namespace D
open PySem L2
theorem RW.pair{H:Hp}{a:Addr}{u1 u2:V}{w1 w2:W}(e:H a=some (.tup [u1,u2]))(r1:RW H u1 w1)(r2:RW H u2 w2):RW H (.ref a) (.lst [w1,w2]):=
 .lst e rfl fun i v w hv hw=>match i,hv,hw with
  |0,hv,hw=>by
   have a1:u1=v:=by simpa using hv
   have a2:w1=w:=by simpa using hw
   rw[←a1,←a2];exact r1
  |1,hv,hw=>by
   have a1:u2=v:=by simpa using hv
   have a2:w2=w:=by simpa using hw
   rw[←a1,←a2];exact r2
  |j+2,hv,hw=>by simp at hv
theorem RW.three{H:Hp}{p:Addr}{u v t:V}{x y z:W}(e:H p=some (.tup [u,v,t]))(h1:RW H u x)(h2:RW H v y)(h3:RW H t z):RW H (.ref p) (.lst [x,y,z]):=.lst e rfl fun i a b ha hb=>match i,ha,hb with
 |0,ha,hb=>by
  obtain rfl:u=a:=by simpa using ha
  obtain rfl:x=b:=by simpa using hb
  exact h1
 |1,ha,hb=>by
  obtain rfl:v=a:=by simpa using ha
  obtain rfl:y=b:=by simpa using hb
  exact h2
 |2,ha,hb=>by
  obtain rfl:t=a:=by simpa using ha
  obtain rfl:z=b:=by simpa using hb
  exact h3
 |j+3,ha,hb=>by simp at ha
theorem zko{names:List Str}{n:Int}(n0:0<=n)(n1:n<names.length):∃z∈names,atI (names.map V.str) n=some (.str z):=by
 have hi:n.toNat<names.length:=by lia
 refine⟨names[n.toNat],xA hi,?_⟩
 have:=zt (xs:=names.map V.str) (j:=n.toNat) (v:=.str names[n.toNat]) (by rw[yF,yA hi];rfl)
 rw[show ((n.toNat:Nat):Int)=n by lia] at this
 exact this
theorem Zt.ne{H:Hp}{b p:Addr}(h:Zt H b)(hp:H p=none):p≠b:=fun z=>by
 obtain⟨x,y,w,e⟩:=h
 rw[z,e] at hp
 cases hp
theorem RW.four{H:Hp}{p:Addr}{u v t s:V}{x y z w:W}(e:H p=some (.tup [u,v,t,s]))(h1:RW H u x)(h2:RW H v y)(h3:RW H t z)(h4:RW H s w):RW H (.ref p) (.lst [x,y,z,w]):=.lst e rfl fun i a b ha hb=>match i,ha,hb with
 |0,ha,hb=>by cases ha;cases hb;exact h1
 |1,ha,hb=>by cases ha;cases hb;exact h2
 |2,ha,hb=>by cases ha;cases hb;exact h3
 |3,ha,hb=>by cases ha;cases hb;exact h4
 |j+4,ha,hb=>by simp at ha
theorem RWs.nil0{H:Hp}{us:List V}(h:RWs H us []):us=[]:=xL.mp h.len
structure Fd(r:Res):Prop where
 ok:ROk r
 ns:r≠.stop
 tok:TOk r.toW.toD
 ct:cnt r.toW.toD<=100
mutual
theorem zgY:∀w:W,w.Ok->TOk w.toD
 |.num i,h=>by
  have h:-(10 ^ 60)<i/\i<10 ^ 60:=h
  show i.natAbs<big
  have:(10:Nat) ^ 60<big:=by decide +kernel
  have h2:((10:Int) ^ 60)=((10 ^ 60:Nat):Int):=by decide +kernel
  lia
 |.txt x,h=>⟨yQ h.1 (by decide),fun c hc=>by have:=h.2 c hc;lia⟩
 |.lst ws,h=>oks_toks ws h.2
theorem oks_toks:∀ws:List W,Oks ws->TOks (toDs ws)
 |[],_=>trivial
 |w::r,h=>⟨zgY w h.1,oks_toks r h.2⟩
end
mutual
theorem zeu:∀w:W,(cnt w.toD:Int)<=w.size
 |.num i=>by simp only[W.toD,cnt,W.size];lia
 |.txt x=>by simp only[W.toD,cnt,W.size];lia
 |.lst ws=>by
  have:=cnts_sizes ws
  simp only[W.toD,cnt,W.size]
  lia
theorem cnts_sizes:∀ws:List W,(cnts (toDs ws):Int)<=sizes ws
 |[]=>by simp only[toDs,cnts,sizes];lia
 |w::r=>by
  have h1:=zeu w
  have h2:=cnts_sizes r
  simp only[toDs,cnts,sizes]
  lia
end
theorem zgi{x:W}(h:x.Ok)(d:(x.depth:Int)<=2)(s:x.size<=80):Fd (.made x):=by
 have:=zeu x
 refine⟨⟨h,by lia⟩,(fun z=>nomatch z),⟨Zi (by decide +kernel),zgY x h,trivial⟩,?_⟩
 simp only[Res.toW,W.toD,toDs,cnt,cnts]
 lia
theorem zaw{c:Str}{x:W}(oc:(W.txt c).Ok)(h:x.Ok)(d:(x.depth:Int)<=2)(s:x.size<=80):Fd (.wrong [.txt c,x]):=by
 have:=zeu x
 refine⟨⟨c,x,rfl,zd3 _ oc,zd3 _ h,by lia⟩,(fun z=>nomatch z),⟨Zi (by decide +kernel),zgY _ oc,zgY x h,trivial⟩,?_⟩
 simp only[Res.toW,W.toD,toDs,cnt,cnts]
 lia
def zmn:Sp:=fun vs H Q _=>∃b:Addr,vs=[.ref b]/\Zt H b/\∀(v:V)(r:Res)(H':Hp),RW H' v r.toW->Fd r->Step b H H'->Q v H'
def zgZ(n:Nat):Sp:=fun vs H Q _=>∃(b sp tx:Addr)(s:Nat)(ts:List Str),vs=[.ref b,.ref sp,.ref tx]/\Zt H b/\H sp=some (.lst [.int s])/\sp≠b/\H tx=some (.lst (ts.map V.str))/\tx≠b/\s<n/\s<=5/\ts≠[]/\ts.length<=10/\(∀t∈ts,t.length<=9/\Signs t) /\
 ∀(u:V)(p:Pn)(s':Nat)(H':Hp),RW H' u p.toW->p.Ok->p.looks+s'<=s->H' sp=some (.lst [.int s'])->Zt H' b->(∀c o,c≠b->c≠sp->H c=some o->H' c=some o)->Q u H'
def zcs(n:Nat):Sp:=fun vs H Q _=>∃(u:V)(p:Pn),vs=[u]/\RW H u p.toW/\p.looks<n/\∀(v:V)(H':Hp),Same H H'->RW H' v p.ex.toW->Q v H'
section
variable{P:Program}{w:World}{K:tP}{mg:Str->Option Value}{base:Heap}{f:Addr}{fd:tQ}{k n:Nat}{ARun ATask:Addr}
theorem zde:FnScope ["_law_box_here","_law_kind","_law_word"] ["_law_box_here"] (zr zdX):=mkSc rfl (by decide +kernel)
theorem zjt(F:Fun K "_law_found" "_law_found" zdX f fd)(G_ltext:Have P w K mg base "_law_text" k ["_law_box_here","_law_most"] (zgx))(G_lworth:Have P w K mg base "_law_worth" k ["_law_box_here","_law_room","_law_deep"] (zd2 13))(G_ltake:Have P w K mg base "_law_take" k ["_law_box_here","_law_wide"] (zcY))(m_int:mg "int"=none):FnOk P w K mg base CX0 (k+1) f fd ["_law_box_here"] (zmn):=by
 refine F.okQ zde (by rintro _ _ _ _ ⟨_,rfl,_⟩;rfl) fun cdv A outer s H vs Q E hr h=>?_
 obtain⟨b,rfl,hb,q⟩:=h
 refine⟨_,(zj (zG (i:=1) zde.nd rfl (Or.inl rfl) (zy G_ltake hr rfl (zc (pv 0) (zc zk zi))))
  (zj (zN (zH Z0 (pv 1) zk (nomark _)) (zq (zw (zE (zc zA (zc (zy G_lworth hr rfl (zc (pv 0) (zc zk (zc zk zi)))) zi))))) zC)
  (zj (zN (zH zha (pv 1) zk (nomark _)) (zq (zw (zE (zc zA (zc (zy G_ltake hr rfl (zc (pv 0) (zc zk zi))) zi))))) zC)
  (zj (zG (i:=2) zde.nd rfl (Or.inl rfl) (zx zF (Zb (zc zA (zc zA (zc zA (zc zA (zc zA (zc zA (zc zA zi)))))))) (zy G_ltake hr rfl (zc (pv 0) (zc zk zi))) (fun _ _=>rfl)))
  (zj (zN (zH Z0 (pv 2) zA (nomark _)) (zq (zw (zE (zc zA (zc (pv 2) (zc (zy G_lworth hr rfl (zc (pv 0) (zc zk (zc zk zi)))) zi)))))) zC)
  (zq (zw (zE (zc zA (zc (pv 2) (zc (zx zF (Zb (zc (zy G_ltext hr rfl (zc (pv 0) (zc zk zi))) (zc zA zi))) (zJ zeI rfl m_int zcL (zc (Zh zeT (pv 2) (zE (zc zA (zc zA (zc zA (zc zA zi))))) (by rfl)) zi)) (fun _ _=>rfl)) zi))))))))))),?_⟩
 refine⟨_,rfl,b,4,rfl,hb,by decide,by decide,fun kd H1 k0 k1 st1=>?_⟩
 have md:∀(p:Addr)(t:V)(y:W)(H2:Hp)(hp:H2 p=none),Step b H H2->RW H2 t y->Fd (.made y)->Q (.ref p) (upd H2 p (.tup [.str "made",t])):=fun p t y H2 hp st rt oy=>by
  have s3:=Sn (o:=.tup [.str "made",t]) hp
  exact q _ (.made y) _ (RW.pair zf (.txt _) (rt.mono (zo s3))) oy (st.trans (Step.ofSame st.box s3))
 have wr:∀(p:Addr)(c:Str)(t:V)(y:W)(H2:Hp)(hp:H2 p=none),Step b H H2->RW H2 t y->Fd (.wrong [.txt c,y])->Q (.ref p) (upd H2 p (.tup [.str "wrong",.str c,t])):=fun p c t y H2 hp st rt oy=>by
  have s3:=Sn (o:=.tup [.str "wrong",.str c,t]) hp
  exact q _ (.wrong [.txt c,y]) _ (RW.three zf (.txt _) (.txt _) (rt.mono (zo s3))) oy (st.trans (Step.ofSame st.box s3))
 refine⟨_,rfl,rfl,_,rfl,ite2 (fun _=>?_) (fun _=>?_)⟩
 ·exact⟨_,rfl,b,5,2,rfl,st1.box,by decide,by decide,by decide,by decide,fun v x H2 rx okx dx sx st2=>⟨zl2,fun p hp=>md p v x H2 hp (st1.trans st2) rx (zgi okx dx (by lia))⟩⟩
 refine⟨_,rfl,_,_,rfl,rfl,_,rfl,ite2 (fun _=>?_) (fun _=>?_)⟩
 ·exact⟨_,rfl,b,3,rfl,st1.box,by decide,by decide,fun m H2 m0 m1 st2=>⟨zl2,fun p hp=>md p _ (.num m) H2 hp (st1.trans st2) (.num m) (zgi ⟨by lia,by lia⟩ (by show ((0:Nat):Int)<=2;decide) (by show (1:Int)<=80;decide))⟩⟩
 refine⟨zl7,fun l hl=>?_⟩
 have st2:=st1.trans (Step.new (o:=.lst [.str "kind",.str "great",.str "nought",.str "place",.str "none",.str "shut",.str "cried"]) st1.box hl)
 have el:upd H1 l (.lst [.str "kind",.str "great",.str "nought",.str "place",.str "none",.str "shut",.str "cried"]) l=some (.lst [.str "kind",.str "great",.str "nought",.str "place",.str "none",.str "shut",.str "cried"]):=zf
 have nlb:l≠b:=Zt.ne st1.box hl
 generalize upd H1 l (.lst [.str "kind",.str "great",.str "nought",.str "place",.str "none",.str "shut",.str "cried"])=H2 at st2 el
 refine⟨_,rfl,b,7,rfl,st2.box,by decide,by decide,fun m H3 m0 m1 st3=>?_⟩
 have el3:=st3.keep l _ nlb el
 have st:=st2.trans st3
 have ed:∀s:Str,s.length<=400->Signs s->(W.txt s).Ok:=fun s a b=>⟨a,b⟩
 have e0:(W.txt "").Ok:=zae (by decide +kernel) (by decide +kernel)
 have hm:m=0\/m=1\/m=2\/m=3\/m=4\/m=5\/m=6:=by lia
 rcases hm with rfl|rfl|rfl|rfl|rfl|rfl|rfl
 ·refine⟨l,_,0,.str "kind",rfl,rfl,Sl el3,zt (j:=0) rfl,?_⟩
  dsimp only[zX]
  refine⟨_,rfl,rfl,_,rfl,iteF ?_⟩
  refine⟨_,rfl,_,rfl,b,9,rfl,st.box,by decide,by decide,fun x H4 hx sx st4=>⟨zl2,fun l2 hl2=>⟨_,rfl,zl4,fun t ht=>⟨t,_,rfl,.inr (Sq zf),rfl,rfl,.inr ⟨_,rfl,l2,[.str x,.str ""],1,.str "",rfl,rfl,Sl ?_,zt (j:=1) rfl,zl3,fun p hp=>?_⟩⟩⟩⟩⟩
  ·rw[zu (zm zf ht)];exact zf
  ·have sa:=Sn (o:=.lst [.str x,.str ""]) hl2
   have sb:=Sn (o:=.tup [.str "kind",.str "great",.str "nought",.str "place"]) ht
   have st5:=st.trans st4
   exact wr p "kind" _ (.txt "") _ hp (st5.trans (Step.ofSame st5.box (sa.trans sb))) (.txt _) (zaw (zae (by decide +kernel) (by decide +kernel)) e0 (by show ((0:Nat):Int)<=2;decide) (by decide +kernel))
 ·refine⟨l,_,1,.str "great",rfl,rfl,Sl el3,zt (j:=1) rfl,?_⟩
  dsimp only[zX]
  refine⟨_,rfl,rfl,_,rfl,iteF ?_⟩
  refine⟨_,rfl,_,rfl,b,9,rfl,st.box,by decide,by decide,fun x H4 hx sx st4=>⟨zl2,fun l2 hl2=>⟨_,rfl,zl4,fun t ht=>⟨t,_,rfl,.inr (Sq zf),rfl,rfl,.inr ⟨_,rfl,l2,[.str x,.str ""],1,.str "",rfl,rfl,Sl ?_,zt (j:=1) rfl,zl3,fun p hp=>?_⟩⟩⟩⟩⟩
  ·rw[zu (zm zf ht)];exact zf
  ·have sa:=Sn (o:=.lst [.str x,.str ""]) hl2
   have sb:=Sn (o:=.tup [.str "kind",.str "great",.str "nought",.str "place"]) ht
   have st5:=st.trans st4
   exact wr p "great" _ (.txt "") _ hp (st5.trans (Step.ofSame st5.box (sa.trans sb))) (.txt _) (zaw (zae (by decide +kernel) (by decide +kernel)) e0 (by show ((0:Nat):Int)<=2;decide) (by decide +kernel))
 ·refine⟨l,_,2,.str "nought",rfl,rfl,Sl el3,zt (j:=2) rfl,?_⟩
  dsimp only[zX]
  refine⟨_,rfl,rfl,_,rfl,iteF ?_⟩
  refine⟨_,rfl,_,rfl,b,9,rfl,st.box,by decide,by decide,fun x H4 hx sx st4=>⟨zl2,fun l2 hl2=>⟨_,rfl,zl4,fun t ht=>⟨t,_,rfl,.inr (Sq zf),rfl,rfl,.inr ⟨_,rfl,l2,[.str x,.str ""],1,.str "",rfl,rfl,Sl ?_,zt (j:=1) rfl,zl3,fun p hp=>?_⟩⟩⟩⟩⟩
  ·rw[zu (zm zf ht)];exact zf
  ·have sa:=Sn (o:=.lst [.str x,.str ""]) hl2
   have sb:=Sn (o:=.tup [.str "kind",.str "great",.str "nought",.str "place"]) ht
   have st5:=st.trans st4
   exact wr p "nought" _ (.txt "") _ hp (st5.trans (Step.ofSame st5.box (sa.trans sb))) (.txt _) (zaw (zae (by decide +kernel) (by decide +kernel)) e0 (by show ((0:Nat):Int)<=2;decide) (by decide +kernel))
 ·refine⟨l,_,3,.str "place",rfl,rfl,Sl el3,zt (j:=3) rfl,?_⟩
  dsimp only[zX]
  refine⟨_,rfl,rfl,_,rfl,iteF ?_⟩
  refine⟨_,rfl,_,rfl,b,9,rfl,st.box,by decide,by decide,fun x H4 hx sx st4=>⟨zl2,fun l2 hl2=>⟨_,rfl,zl4,fun t ht=>⟨t,_,rfl,.inr (Sq zf),rfl,rfl,.inr ⟨_,rfl,l2,[.str x,.str ""],1,.str "",rfl,rfl,Sl ?_,zt (j:=1) rfl,zl3,fun p hp=>?_⟩⟩⟩⟩⟩
  ·rw[zu (zm zf ht)];exact zf
  ·have sa:=Sn (o:=.lst [.str x,.str ""]) hl2
   have sb:=Sn (o:=.tup [.str "kind",.str "great",.str "nought",.str "place"]) ht
   have st5:=st.trans st4
   exact wr p "place" _ (.txt "") _ hp (st5.trans (Step.ofSame st5.box (sa.trans sb))) (.txt _) (zaw (zae (by decide +kernel) (by decide +kernel)) e0 (by show ((0:Nat):Int)<=2;decide) (by decide +kernel))
 ·refine⟨l,_,4,.str "none",rfl,rfl,Sl el3,zt (j:=4) rfl,?_⟩
  dsimp only[zX]
  refine⟨_,rfl,rfl,_,rfl,iteF ?_⟩
  refine⟨_,rfl,_,rfl,b,9,rfl,st.box,by decide,by decide,fun x H4 hx sx st4=>⟨zl2,fun l2 hl2=>⟨_,rfl,zl4,fun t ht=>⟨t,_,rfl,.inr (Sq zf),rfl,rfl,.inr ⟨_,rfl,l2,[.str x,.str ""],0,.str x,rfl,rfl,Sl ?_,zt (j:=0) rfl,zl3,fun p hp=>?_⟩⟩⟩⟩⟩
  ·rw[zu (zm zf ht)];exact zf
  ·have sa:=Sn (o:=.lst [.str x,.str ""]) hl2
   have sb:=Sn (o:=.tup [.str "kind",.str "great",.str "nought",.str "place"]) ht
   have st5:=st.trans st4
   exact wr p "none" _ (.txt x) _ hp (st5.trans (Step.ofSame st5.box (sa.trans sb))) (.txt _) (zaw (zae (by decide +kernel) (by decide +kernel)) (ed x (by lia) sx) (by show ((0:Nat):Int)<=2;decide) (by show (1:Int)+(x.length:Int)<=80;lia))
 ·refine⟨l,_,5,.str "shut",rfl,rfl,Sl el3,zt (j:=5) rfl,?_⟩
  dsimp only[zX]
  refine⟨_,rfl,rfl,_,rfl,iteF ?_⟩
  refine⟨_,rfl,_,rfl,b,9,rfl,st.box,by decide,by decide,fun x H4 hx sx st4=>⟨zl2,fun l2 hl2=>⟨_,rfl,zl4,fun t ht=>⟨t,_,rfl,.inr (Sq zf),rfl,rfl,.inr ⟨_,rfl,l2,[.str x,.str ""],0,.str x,rfl,rfl,Sl ?_,zt (j:=0) rfl,zl3,fun p hp=>?_⟩⟩⟩⟩⟩
  ·rw[zu (zm zf ht)];exact zf
  ·have sa:=Sn (o:=.lst [.str x,.str ""]) hl2
   have sb:=Sn (o:=.tup [.str "kind",.str "great",.str "nought",.str "place"]) ht
   have st5:=st.trans st4
   exact wr p "shut" _ (.txt x) _ hp (st5.trans (Step.ofSame st5.box (sa.trans sb))) (.txt _) (zaw (zae (by decide +kernel) (by decide +kernel)) (ed x (by lia) sx) (by show ((0:Nat):Int)<=2;decide) (by show (1:Int)+(x.length:Int)<=80;lia))
 ·refine⟨l,_,6,.str "cried",rfl,rfl,Sl el3,zt (j:=6) rfl,?_⟩
  dsimp only[zX]
  refine⟨_,rfl,rfl,_,rfl,iteT ?_⟩
  exact⟨_,rfl,_,rfl,b,5,2,rfl,st.box,by decide,by decide,by decide,by decide,fun v x H4 rx okx dx sx st4=>⟨zl3,fun p hp=>wr p "cried" v x H4 hp (st.trans st4) rx (zaw (zae (by decide +kernel) (by decide +kernel)) okx dx (by lia))⟩⟩
theorem zev:FnScope ["_law_box_here","_law_spare","_law_texts","_law_text_here","_law_left"] ["_law_box_here","_law_spare","_law_texts"] (zr zfQ):=mkSc rfl (by decide +kernel)
theorem zkp{n:Nat}(F:Fun K "_law_plan" "_law_plan" zfQ f fd)(G_lplan:Have P w K mg base "_law_plan" k ["_law_box_here","_law_spare","_law_texts"] (zgZ n))(G_ltake:Have P w K mg base "_law_take" k ["_law_box_here","_law_wide"] (zcY))(m_len:mg "len"=none):FnOk P w K mg base CX0 (k+1) f fd ["_law_box_here","_law_spare","_law_texts"] (zgZ (n+1)):=by
 refine F.okQ zev (by rintro _ _ _ _ ⟨_,_,_,_,_,rfl,_⟩;rfl) fun cdv A outer s H vs Q E hr h=>?_
 obtain⟨b,sp,tx,s,ts,rfl,hb,hsp,nsb,htx,ntb,hn,h5,hne,ht10,hts,q⟩:=h
 refine⟨_,(zj (zN (PW.pt (zcc (zH Z0 (zx zF (pv 1) zk (fun _ _=>rfl)) zk (nomark _)) (zbv (zH Z0 (zy G_ltake hr rfl (zc (pv 0) (zc zk zi))) zk (nomark _))))) (zq (zw (zE (zc (zx zF (Zb (zc zA (zc zA zi))) (zy G_ltake hr rfl (zc (pv 0) (zc zk zi))) (fun _ _=>rfl)) (zc (zy G_ltake hr rfl (zc (pv 0) (zc zk zi))) zi))))) zC)
  (zj (zaD (zK zaf (zx zF (pv 1) zk (fun _ _=>rfl)) zk) (zcv (pv 1) zk zby))
  (zj (zG (i:=3) zev.nd rfl (Or.inl rfl) (zx zF (pv 2) (zy G_ltake hr rfl (zc (pv 0) (zc (zB zP rfl m_len tD (zc (pv 2) zi)) zi))) (fun _ _=>rfl)))
  (zj (zG (i:=4) zev.nd rfl (Or.inl rfl) (zy G_lplan hr rfl (zc (pv 0) (zc (pv 1) (zc (pv 2) zi)))))
  (zq (zw (zE (zc zA (zc (pv 3) (zc (pv 4) (zc (zy G_lplan hr rfl (zc (pv 0) (zc (pv 1) (zc (pv 2) zi)))) zi))))))))))),?_⟩
 have lf:∀(p:Addr)(P:Pn)(m:Int)(H4:Hp),Step b H H4->H4 p=none->∀{o:HO},(∀H':Hp,H' p=some o->RW H' (.ref p) P.toW)->P.Ok->P.looks=0->Q (.ref p) (upd H4 p o):=fun p P m H4 st hp o rw' ok lk=>by
  have s5:=Sn (o:=o) hp
  have st5:=st.trans (Step.ofSame st.box s5)
  exact q _ P s _ (rw' _ zf) ok (by lia) (st5.keep sp _ nsb hsp) st5.box (fun c o hc _ e=>st5.keep c o hc e)
 refine⟨_,rfl,sp,_,0,_,rfl,rfl,Sl hsp,rfl,rfl,_,rfl,ite2 (fun _=>iteT ?_) (fun hs0=>?_)⟩
 ·refine⟨zl2,fun l hl=>?_⟩
  have el:upd H l (.lst [.str "made",.str "cried"]) l=some (.lst [.str "made",.str "cried"]):=zf
  have st2:=(Step.refl hb).trans (Step.new (o:=.lst [.str "made",.str "cried"]) (Step.refl hb).box hl)
  have nlb:l≠b:=Zt.ne (Step.refl hb).box hl
  generalize upd H l (.lst [.str "made",.str "cried"])=H2 at st2 el
  refine⟨_,rfl,b,2,rfl,st2.box,by decide,by decide,fun m H3 m0 m1 st3=>?_⟩
  have el3:=st3.keep l _ nlb el
  have hm:m=0\/m=1:=by lia
  rcases hm with rfl|rfl
  ·exact⟨l,[.str "made",.str "cried"],0,.str "made",rfl,rfl,Sl el3,zt (j:=0) rfl,_,rfl,b,1000,rfl,st3.box,by decide,by decide,fun m H4 m0 m1 st4=>⟨zl2,fun p hp=>lf p (.made m) m H4 ((st2.trans st3).trans st4) hp (fun H e=>RW.pair e (.txt _) (.num m)) ⟨m0,m1⟩ rfl⟩⟩
  ·exact⟨l,[.str "made",.str "cried"],1,.str "cried",rfl,rfl,Sl el3,zt (j:=1) rfl,_,rfl,b,1000,rfl,st3.box,by decide,by decide,fun m H4 m0 m1 st4=>⟨zl2,fun p hp=>lf p (.cried m) m H4 ((st2.trans st3).trans st4) hp (fun H e=>RW.pair e (.txt _) (.num m)) ⟨m0,m1⟩ rfl⟩⟩
 have hs1:0<s:=Nat.pos_of_ne_zero fun z=>hs0 (by rw[z];rfl)
 refine⟨_,rfl,b,4,rfl,hb,by decide,by decide,fun m4 H1 _ _ st1=>⟨rfl,_,rfl,ite2 (fun _=>?_) (fun _=>?_)⟩⟩
 ·refine⟨zl2,fun l hl=>?_⟩
  have el:upd H1 l (.lst [.str "made",.str "cried"]) l=some (.lst [.str "made",.str "cried"]):=zf
  have st2:=st1.trans (Step.new (o:=.lst [.str "made",.str "cried"]) st1.box hl)
  have nlb:l≠b:=Zt.ne st1.box hl
  generalize upd H1 l (.lst [.str "made",.str "cried"])=H2 at st2 el
  refine⟨_,rfl,b,2,rfl,st2.box,by decide,by decide,fun m H3 m0 m1 st3=>?_⟩
  have el3:=st3.keep l _ nlb el
  have hm:m=0\/m=1:=by lia
  rcases hm with rfl|rfl
  ·exact⟨l,[.str "made",.str "cried"],0,.str "made",rfl,rfl,Sl el3,zt (j:=0) rfl,_,rfl,b,1000,rfl,st3.box,by decide,by decide,fun m H4 m0 m1 st4=>⟨zl2,fun p hp=>lf p (.made m) m H4 ((st2.trans st3).trans st4) hp (fun H e=>RW.pair e (.txt _) (.num m)) ⟨m0,m1⟩ rfl⟩⟩
  ·exact⟨l,[.str "made",.str "cried"],1,.str "cried",rfl,rfl,Sl el3,zt (j:=1) rfl,_,rfl,b,1000,rfl,st3.box,by decide,by decide,fun m H4 m0 m1 st4=>⟨zl2,fun p hp=>lf p (.cried m) m H4 ((st2.trans st3).trans st4) hp (fun H e=>RW.pair e (.txt _) (.num m)) ⟨m0,m1⟩ rfl⟩⟩
 have hsp1:=st1.keep sp _ nsb hsp
 obtain⟨s0,rfl⟩:∃s0,s=s0+1:=⟨s-1,by lia⟩
 refine⟨_,rfl,sp,_,0,_,rfl,rfl,Sl hsp1,rfl,_,_,rfl,rfl,_,rfl,sp,_,0,0,rfl,rfl,hsp1,rfl,?_⟩
 have e2:upd H1 sp (.lst ([V.int ((s0+1:Nat):Int)].set 0 (.int (((s0+1:Nat):Int)-1))))=upd H1 sp (.lst [.int (s0:Int)]):=by
  rw[show (((s0+1:Nat):Int)-1)=(s0:Int) by lia]
  rfl
 rw[e2]
 have hb2:Zt (upd H1 sp (.lst [.int (s0:Int)])) b:=by
  obtain⟨x,y,z,e⟩:=st1.box
  exact⟨x,y,z,by rw[zu nsb.symm];exact e⟩
 have hsp2:upd H1 sp (.lst [.int (s0:Int)]) sp=some (.lst [.int (s0:Int)]):=zf
 have nst:tx≠sp:=fun z=>by
  rw[z,hsp] at htx
  have:ts.map V.str=[.int ((s0+1:Nat):Int)]:=by injection htx with h;injection h with h;exact h.symm
  cases ts with
  |nil=>cases this
  |cons t r=>simp at this
 have htx2:upd H1 sp (.lst [.int (s0:Int)]) tx=some (.lst (ts.map V.str)):=by rw[zu nst];exact st1.keep tx _ ntb htx
 have kp2:∀c o,c≠b->c≠sp->H c=some o->upd H1 sp (.lst [.int (s0:Int)]) c=some o:=fun c o c1 c2 e=>by rw[zu c2];exact st1.keep c o c1 e
 generalize upd H1 sp (.lst [.int (s0:Int)])=H2 at hb2 hsp2 htx2 kp2
 have hpos:0<ts.length:=vM.mpr hne
 refine⟨_,rfl,_,rfl,_,rfl,_,_,rfl,.inl ⟨_,Sl htx2,rfl⟩,b,_,rfl,hb2,by rw[yB];lia,by rw[yB];lia,fun m H3 m0 m1 st3=>?_⟩
 rw[yB] at m1
 obtain⟨z,hzm,hat⟩:=zko m0 m1
 refine⟨tx,_,m,_,rfl,rfl,Sl (st3.keep tx _ ntb htx2),hat,?_⟩
 dsimp only[zX]
 have kp3:∀c o,c≠b->c≠sp->H c=some o->H3 c=some o:=fun c o c1 c2 e=>st3.keep c o c1 (kp2 c o c1 c2 e)
 refine⟨_,rfl,_,rfl,_,rfl,b,sp,tx,s0,ts,rfl,st3.box,st3.keep sp _ nsb hsp2,nsb,st3.keep tx _ ntb htx2,ntb,by lia,by lia,hne,ht10,hts,fun u1 p1 s1 H4 ru1 ok1 lk1 hs4 hb4 kp4=>?_⟩
 have htx4:=kp4 tx _ ntb nst (st3.keep tx _ ntb htx2)
 refine⟨_,rfl,_,rfl,_,rfl,_,rfl,_,rfl,b,sp,tx,s1,ts,rfl,hb4,hs4,nsb,htx4,ntb,by lia,by lia,hne,ht10,hts,fun u2 p2 s2 H5 ru2 ok2 lk2 hs5 hb5 kp5=>⟨zl4,fun a ha=>?_⟩⟩
 have s6:=Sn (o:=.tup [.str "look",.str z,u1,u2]) ha
 have t45:Tups H4 H5:=fun c vs e=>kp5 c _ (fun z=>by obtain⟨x,y,w,e'⟩:=hb4;rw[z,e'] at e;cases e) (fun z=>by rw[z,hs4] at e;cases e) e
 obtain⟨x,y,w',eb⟩:=hb5
 exact q _ (.look z p1 p2) s2 _ (RW.four zf (.txt _) (.txt _) ((ru1.mono t45).mono (zo s6)) (ru2.mono (zo s6))) ⟨hts z hzm,ok1,ok2⟩ (by show 1+p1.looks+p2.looks+s2<=s0+1;lia) (s6 _ _ hs5) ⟨x,y,w',s6 _ _ eb⟩ (fun c o c1 c2 e=>s6 _ _ (kp5 c o c1 c2 (kp4 c o c1 c2 (kp3 c o c1 c2 e))))
theorem zbs:FnScope ["_law_plan_here","_law_look","_law_choice"] ["_law_plan_here"] (zr zbX):=mkSc rfl (by decide +kernel)
theorem zgj{n:Nat}(F:Fun K "_law_rule_of" "_law_rule_of" zbX f fd)(G_lrule_of:Have P w K mg base "_law_rule_of" k ["_law_plan_here"] (zcs n)):FnOk P w K mg base CX0 (k+1) f fd ["_law_plan_here"] (zcs (n+1)):=by
 refine F.okQ zbs (by rintro _ _ _ _ ⟨_,_,rfl,_⟩;rfl) fun cdv A outer s H vs Q E hr h=>?_
 obtain⟨u,p,rfl,ru,hn,q⟩:=h
 refine⟨_,(zj (zN (zH Z0 (zx zD (pv 0) zk (fun _ _=>rfl)) zA (nomark _)) (zq (zw (zE (zc zA (zc (zx zD (pv 0) zk (fun _ _=>rfl)) zi))))) zC)
  (zj (zN (zH Z0 (zx zD (pv 0) zk (fun _ _=>rfl)) zA (nomark _)) (zq (zw (zE (zc zA (zc (zE (zc zA (zc (zx zD (pv 0) zk (fun _ _=>rfl)) zi))) zi))))) zC)
  (zj (zG (i:=1) zbs.nd rfl (Or.inl rfl) (zE (zc zA (zc (zE (zc zA (zc (zE (zc zA (zc (zx zD (pv 0) zk (fun _ _=>rfl)) zi))) zi))) (zc (zE (zc zA (zc zk zi))) zi)))))
  (zj (zG (i:=2) zbs.nd rfl (Or.inl rfl) (zE (zc zA (zc (zE (zc zA (zc (zE (zc zA (zc zA zi))) (zc (zE (zc zA (zc zk zi))) zi)))) (zc (zy G_lrule_of hr rfl (zc (zx zD (pv 0) zk (fun _ _=>rfl)) zi)) (zc (zy G_lrule_of hr rfl (zc (zx zD (pv 0) zk (fun _ _=>rfl)) zi)) zi))))))
  (zq (zw (zE (zc zA (zc zA (zc (pv 1) (zc (pv 2) zi))))))))))),?_⟩
 cases p with
 |made m=>
  rw[Pn.toW] at ru
  obtain⟨a,us,rfl,ea,hw⟩:=ru.tup
  obtain⟨u0,us,rfl,r0,hw⟩:=hw.cons
  obtain⟨u1,us,rfl,r1,hw⟩:=hw.cons
  obtain rfl:=RWs.nil0 hw
  obtain rfl:=r0.str
  refine⟨_,rfl,a,_,0,_,rfl,rfl,Sq ea,zt (j:=0) rfl,rfl,_,rfl,iteT ?_⟩
  refine⟨_,rfl,a,_,1,_,rfl,rfl,Sq ea,zt (j:=1) rfl,zl2,fun p hp=>?_⟩
  have s1:=Sn (o:=.tup [.str "lit",u1]) hp
  exact q _ _ s1 (RW.pair zf (.txt _) (r1.mono (zo s1)))
 |cried m=>
  rw[Pn.toW] at ru
  obtain⟨a,us,rfl,ea,hw⟩:=ru.tup
  obtain⟨u0,us,rfl,r0,hw⟩:=hw.cons
  obtain⟨u1,us,rfl,r1,hw⟩:=hw.cons
  obtain rfl:=RWs.nil0 hw
  obtain rfl:=r0.str
  refine⟨_,rfl,a,_,0,_,rfl,rfl,Sq ea,zt (j:=0) rfl,rfl,_,rfl,iteF ?_⟩
  refine⟨_,rfl,a,_,0,_,rfl,rfl,Sq ea,zt (j:=0) rfl,rfl,_,rfl,iteT ?_⟩
  refine⟨_,rfl,a,_,1,_,rfl,rfl,Sq ea,zt (j:=1) rfl,zl2,fun p hp=>⟨zl2,fun p2 hp2=>?_⟩⟩
  have s1:=Sn (o:=.tup [.str "lit",u1]) hp
  have s2:=Sn (o:=.tup [.str "cry",.ref p]) hp2
  exact q _ _ (s1.trans s2) (RW.pair zf (.txt _) (RW.pair (s2 _ _ zf) (.txt _) ((r1.mono (zo s1)).mono (zo s2))))
 |look t l r=>
  rw[Pn.toW] at ru
  obtain⟨a,us,rfl,ea,hw⟩:=ru.tup
  obtain⟨u0,us,rfl,r0,hw⟩:=hw.cons
  obtain⟨u1,us,rfl,r1,hw⟩:=hw.cons
  obtain⟨u2,us,rfl,r2,hw⟩:=hw.cons
  obtain⟨u3,us,rfl,r3,hw⟩:=hw.cons
  obtain rfl:=RWs.nil0 hw
  obtain rfl:=r0.str
  obtain rfl:=r1.str
  have hlk:1+l.looks+r.looks<n+1:=hn
  refine⟨_,rfl,a,_,0,_,rfl,rfl,Sq ea,zt (j:=0) rfl,rfl,_,rfl,iteF ?_⟩
  refine⟨_,rfl,a,_,0,_,rfl,rfl,Sq ea,zt (j:=0) rfl,rfl,_,rfl,iteF ?_⟩
  refine⟨_,rfl,a,_,1,_,rfl,rfl,Sq ea,zt (j:=1) rfl,zl2,fun p1 hp1=>⟨zl2,fun p2 hp2=>⟨zl2,fun p3 hp3=>⟨zl3,fun p4 hp4=>?_⟩⟩⟩⟩
  have s1:=Sn (o:=.tup [.str "lit",.str t]) hp1
  have s2:=Sn (o:=.tup [.str "look",.ref p1]) hp2
  have s3:=Sn (o:=.tup [.str "lit",.int 0]) hp3
  have s4:=Sn (o:=.tup [.str "else",.ref p2,.ref p3]) hp4
  have w4:=RW.three (p:=p4) zf (.txt "else") (RW.pair ((s3.trans s4) _ _ zf) (.txt "look") (RW.pair (((s2.trans s3).trans s4) _ _ zf) (.txt "lit") (.txt t))) (RW.pair (s4 _ _ zf) (.txt "lit") (.num 0))
  have sA:=((s1.trans s2).trans s3).trans s4
  generalize upd (upd (upd (upd H p1 _) p2 _) p3 _) p4 _=HA at sA w4
  dsimp only[zX]
  refine⟨zl2,fun p5 hp5=>⟨zl2,fun p6 hp6=>⟨zl3,fun p7 hp7=>?_⟩⟩⟩
  have s5:=Sn (o:=.tup [.str "var",.str "a"]) hp5
  have s6:=Sn (o:=.tup [.str "lit",.int 1]) hp6
  have s7:=Sn (o:=.tup [.str "same",.ref p5,.ref p6]) hp7
  have w7:=RW.three (p:=p7) zf (.txt "same") (RW.pair ((s6.trans s7) _ _ zf) (.txt "var") (.txt "a")) (RW.pair (s7 _ _ zf) (.txt "lit") (.num 1))
  have sB:=(s5.trans s6).trans s7
  generalize upd (upd (upd HA p5 _) p6 _) p7 _=HB at sB w7
  have sAB:=sA.trans sB
  refine⟨_,rfl,a,_,2,_,rfl,rfl,Sq (sAB _ _ ea),zt (j:=2) rfl,u2,l,rfl,r2.mono (zo sAB),by lia,fun v2 H2 g2 w2=>?_⟩
  refine⟨_,rfl,a,_,3,_,rfl,rfl,Sq (g2 _ _ (sAB _ _ ea)),zt (j:=3) rfl,u3,r,rfl,(r3.mono (zo sAB)).mono (zo g2),by lia,fun v3 H3 g3 w3=>⟨zl4,fun p8 hp8=>?_⟩⟩
  have s8:=Sn (o:=.tup [.str "if",.ref p7,v2,v3]) hp8
  have w8:=RW.four (p:=p8) zf (.txt "if") (((w7.mono (zo g2)).mono (zo g3)).mono (zo s8)) ((w2.mono (zo g3)).mono (zo s8)) (w3.mono (zo s8))
  dsimp only[zX]
  refine⟨_,rfl,_,rfl,zl4,fun p9 hp9=>?_⟩
  have s9:=Sn (o:=.tup [.str "let",.str "a",.ref p4,.ref p8]) hp9
  have sC:=(((sB.trans g2).trans g3).trans s8).trans s9
  exact q _ _ (sA.trans sC) (RW.four zf (.txt _) (.txt _) (w4.mono (zo sC)) (w8.mono (zo s9)))
theorem zmo{K:tP}{H:Hp}{v:V}:∀{r:Res},r≠.stop->RW H v r.toW->RRes K H v r
 |.made x,_,h=>by
  obtain⟨p,vs,rfl,e,hw⟩:=h.tup
  obtain⟨q,us,rfl,rq,hw⟩:=hw.cons
  obtain⟨r,us,rfl,rr,hw⟩:=hw.cons
  obtain rfl:=RWs.nil0 hw
  obtain rfl:=rq.str
  exact⟨p,r,rfl,Sq e,rr⟩
 |.wrong ws,_,h=>RW.toRS h
 |.stop,n,_=>absurd rfl n
theorem eg0:EG [] e0:=fun s hs=>nomatch hs
structure Fo(H:Hp)(us:List V)(fs:List Res):Prop where
 rs:RWs H us (fs.map Res.toW)
 fd:∀r∈fs,Fd r
 few:fs.length<=5
theorem Fo.len{H:Hp}{us:List V}{fs:List Res}(h:Fo H us fs):us.length=fs.length:=by rw[h.rs.len,yB]
theorem Fo.mono{H H':Hp}{us:List V}{fs:List Res}(h:Fo H us fs)(t:Tups H H'):Fo H' us fs:=⟨h.rs.mono t,h.fd,h.few⟩
theorem Fo.ns{H:Hp}{us:List V}{fs:List Res}(h:Fo H us fs):∀r∈fs,r≠Res.stop:=fun r hr=>(h.fd r hr).ns
theorem Fo.ok{H:Hp}{us:List V}{fs:List Res}(h:Fo H us fs):∀r∈fs,ROk r:=fun r hr=>(h.fd r hr).ok
theorem Fo.at{H:Hp}{us:List V}{fs:List Res}(h:Fo H us fs){i:Nat}{v:V}{r:Res}(hv:us[i]?=some v)(hr:fs[i]?=some r):RW H v r.toW:=h.rs.at' i v _ hv (by rw[yF,hr];rfl)
theorem Fo.res{K:tP}{H:Hp}{us:List V}{fs:List Res}(h:Fo H us fs):∀(i:Nat)(v:V)(r:Res),us[i]?=some v->fs[i]?=some r->RRes K H v r:=fun i v r hv hr=>zmo (h.ns r (yH hr)) (h.at hv hr)
theorem Fo.fine{H:Hp}{us:List V}{fs:List Res}(h:Fo H us fs){x:Ex}(hw:Wf x []):Fine fs x e0 []:=(zac h.ns h.ok (by have:=h.few;lia) x [] e0 [] hw eg0 (yN _)).1
theorem Fo.nil{H:Hp}:Fo H [] []:=⟨⟨rfl,fun i v w e=>by simp at e⟩,fun r h=>(nomatch h),yN _⟩
theorem Fd.lst{r:Res}(h:Fd r):∃ws,r.toW=.lst ws/\depths ws<=12:=by
 have:=h.ok.dp
 cases r with
 |stop=>exact absurd rfl h.ns
 |made x=>exact⟨_,rfl,by simp only[Res.toW,W.depth] at this;lia⟩
 |wrong ws=>exact⟨_,rfl,by simp only[Res.toW,W.depth] at this;lia⟩
def zju(K:tP):Sp:=fun vs H Q _=>∃(u:V)(fl:Addr)(us:List V)(fs:List Res)(p:Pn),vs=[u,.ref fl]/\RW H u p.toW/\p.Ok/\SqL K H fl us/\Fo H us fs /\
 ∀(a ln:Addr)(o:V)(H':Hp),Same H H'->H ln=none->H' a=some (.tup [.ref ln,o])->H' ln=some (.lst ((p.pl.go fs).1.map V.str))->((p.pl.go fs).2=none->o=.non)->(∀r,(p.pl.go fs).2=some r->RW H' o r.toW/\Fd r)->Q (.ref a) H'
theorem zew:FnScope ["_law_plan_here","_law_founds","_law_names"] ["_law_plan_here","_law_founds"] (zr zfR):=mkSc rfl (by decide +kernel)
theorem zkq(F:Fun K "_law_gone" "_law_gone" zfR f fd)(m_int:mg "int"=none)(m_len:mg "len"=none):FnOk P w K mg base CX0 (k+1) f fd ["_law_plan_here","_law_founds"] (zju K):=by
 refine F.okQ zew (by rintro _ _ _ _ ⟨_,_,_,_,_,rfl,_⟩;rfl) fun cdv A outer s H vs Q E hr h=>?_
 obtain⟨u,fl,us,fs,p,rfl,ru,okp,hfl,fo,q⟩:=h
 refine⟨_,(zj (zG (i:=2) zew.nd rfl (Or.inl rfl) (Zb zi))
  (zj (zbw tL (zH Z0 (zx zD (pv 0) zk (fun _ _=>rfl)) zA (nomark _)) (zj (Ze (zcf tM tO tN zaa (pv 2) (zc (zx zD (pv 0) zk (fun _ _=>rfl)) zi)))
  (zj (zN (zH zdJ (zB zP rfl m_len tD (zc (pv 2) zi)) (zB zP rfl m_len tD (zc (pv 1) zi)) (nomark _)) (zq (zw (zE (zc (pv 2) (zc zaB zi))))) zC)
  (zq (zG (i:=0) zew.nd rfl (Or.inl rfl) (zx zD (pv 0) (zK ZP zk (zJ zeI rfl m_int zcL (zc (Zh (zea hr.units) (zx zF (pv 1) (zK zaf (zB zP rfl m_len tD (zc (pv 2) zi)) zk) (fun _ _=>rfl)) (zE (zc zA (zc zk zi))) (nomark _)) zi))) (fun _ _=>rfl)))))))
  (zj (zN (zH Z0 (zx zD (pv 0) zk (fun _ _=>rfl)) zA (nomark _)) (zq (zw (zE (zc (pv 2) (zc (zE (zc zA (zc (zx zD (pv 0) zk (fun _ _=>rfl)) zi))) zi))))) zC)
  (zq (zw (zE (zc (pv 2) (zc (zE (zc zA (zc zA (zc (zx zD (pv 0) zk (fun _ _=>rfl)) zi)))) zi)))))))),?_⟩
 refine⟨zl0,fun ln hln=>?_⟩
 dsimp only[zX]
 have s1:=Sn (o:=.lst []) hln
 have eln:upd H ln (.lst []) ln=some (.lst []):=zf
 generalize upd H ln (.lst [])=H1 at s1 eln
 refine⟨fun m σ' H'=>∃(v:V)(p':Pn)(ns:Ns),m=p'.looks/\σ'=[some v,some (.ref fl),some (.ref ln)]/\Same H H'/\H' ln=some (.lst (ns.map V.str))/\RW H' v p'.toW/\p'.Ok/\ns.length<=fs.length/\(p.pl.go fs)=(ns++(p'.pl.go (fs.drop ns.length)).1,(p'.pl.go (fs.drop ns.length)).2),⟨p.looks,u,p,[],rfl,rfl,s1,eln,ru.mono (zo s1),okp,yN _,rfl⟩,?_⟩
 rintro m σ' H' ⟨v,p',ns,rfl,rfl,sm,en,rv,okv,hnl,hgo⟩
 have few:=fo.few
 cases p' with
 |made j=>
  rw[Pn.toW] at rv
  obtain⟨a,us',rfl,ea,hw⟩:=rv.tup
  obtain⟨u0,us',rfl,r0,hw⟩:=hw.cons
  obtain⟨u1,us',rfl,r1,hw⟩:=hw.cons
  obtain rfl:=RWs.nil0 hw
  obtain rfl:=r0.str
  rw[Pn.pl,Pl.go,xK] at hgo
  refine⟨_,rfl,a,_,0,_,rfl,rfl,Sq ea,zt (j:=0) rfl,rfl,_,rfl,iteF ?_⟩
  refine⟨_,rfl,a,_,0,_,rfl,rfl,Sq ea,zt (j:=0) rfl,rfl,_,rfl,iteT ?_⟩
  refine⟨_,rfl,_,rfl,a,_,1,_,rfl,rfl,Sq ea,zt (j:=1) rfl,zl2,fun p1 hp1=>⟨zl2,fun p2 hp2=>?_⟩⟩
  have s2:=Sn (o:=.tup [.str "made",u1]) hp1
  have s3:=Sn (o:=.tup [.ref ln,.ref p1]) hp2
  refine q p2 ln _ _ (sm.trans (s2.trans s3)) hln zf ?_ (fun z=>?_) (fun r hr=>?_)
  ·rw[hgo];exact (s2.trans s3) _ _ en
  ·rw[hgo] at z;cases z
  ·rw[hgo] at hr
   cases hr
   exact⟨RW.pair (s3 _ _ zf) (.txt _) (r1.mono (zo (s2.trans s3))),zgi ⟨by have:=okv.1;lia,by have:=okv.2;lia⟩ (by show ((0:Nat):Int)<=2;decide) (by show (1:Int)<=80;decide)⟩
 |cried j=>
  rw[Pn.toW] at rv
  obtain⟨a,us',rfl,ea,hw⟩:=rv.tup
  obtain⟨u0,us',rfl,r0,hw⟩:=hw.cons
  obtain⟨u1,us',rfl,r1,hw⟩:=hw.cons
  obtain rfl:=RWs.nil0 hw
  obtain rfl:=r0.str
  rw[Pn.pl,Pl.go,xK] at hgo
  refine⟨_,rfl,a,_,0,_,rfl,rfl,Sq ea,zt (j:=0) rfl,rfl,_,rfl,iteF ?_⟩
  refine⟨_,rfl,a,_,0,_,rfl,rfl,Sq ea,zt (j:=0) rfl,rfl,_,rfl,iteF ?_⟩
  refine⟨_,rfl,_,rfl,a,_,1,_,rfl,rfl,Sq ea,zt (j:=1) rfl,zl3,fun p1 hp1=>⟨zl2,fun p2 hp2=>?_⟩⟩
  have s2:=Sn (o:=.tup [.str "wrong",.str "cried",u1]) hp1
  have s3:=Sn (o:=.tup [.ref ln,.ref p1]) hp2
  refine q p2 ln _ _ (sm.trans (s2.trans s3)) hln zf ?_ (fun z=>?_) (fun r hr=>?_)
  ·rw[hgo];exact (s2.trans s3) _ _ en
  ·rw[hgo] at z;cases z
  ·rw[hgo] at hr
   cases hr
   exact⟨RW.three (s3 _ _ zf) (.txt _) (.txt _) (r1.mono (zo (s2.trans s3))),zaw (zae (by decide +kernel) (by decide +kernel)) ⟨by have:=okv.1;lia,by have:=okv.2;lia⟩ (by show ((0:Nat):Int)<=2;decide) (by show (1:Int)<=80;decide)⟩
 |look t l r=>
  have rv0:=rv
  rw[Pn.toW] at rv
  obtain⟨a,us',rfl,ea,hw⟩:=rv.tup
  obtain⟨u0,us',rfl,r0,hw⟩:=hw.cons
  obtain⟨u1,us',rfl,r1,hw⟩:=hw.cons
  obtain⟨u2,us',rfl,r2,hw⟩:=hw.cons
  obtain⟨u3,us',rfl,r3,hw⟩:=hw.cons
  obtain rfl:=RWs.nil0 hw
  obtain rfl:=r0.str
  obtain rfl:=r1.str
  refine⟨_,rfl,a,_,0,_,rfl,rfl,Sq ea,zt (j:=0) rfl,rfl,_,rfl,iteT ?_⟩
  refine⟨fun σ' H'=>∃(v:V)(p':Pn)(ns:Ns),p'.looks<(Pn.look t l r).looks/\σ'=[some v,some (.ref fl),some (.ref ln)]/\Same H H'/\H' ln=some (.lst (ns.map V.str))/\RW H' v p'.toW/\p'.Ok/\ns.length<=fs.length/\(p.pl.go fs)=(ns++(p'.pl.go (fs.drop ns.length)).1,(p'.pl.go (fs.drop ns.length)).2),fun σ2 H2 h2=>?_,?_⟩
  ·obtain⟨v,p',ns,hl,h⟩:=h2
   exact⟨p'.looks,hl,v,p',ns,rfl,h⟩
  refine⟨_,rfl,.inl ⟨rfl,_,Sl en⟩,_,rfl,a,_,1,_,rfl,rfl,Sq ea,zt (j:=1) rfl,ln,_,_,rfl,rfl,en,ZE (by rw[yB];lia),?_⟩
  have e2:(ns.map V.str)++[V.str t]=(ns++[t]).map V.str:=by simp
  rw[e2]
  have sm2:Same H (upd H' ln (.lst ((ns++[t]).map V.str))):=fun c o e=>by rw[zu (zm e hln)];exact sm c o e
  have t2:Tups H' (upd H' ln (.lst ((ns++[t]).map V.str))):=zbA en
  have en2:upd H' ln (.lst ((ns++[t]).map V.str)) ln=some (.lst ((ns++[t]).map V.str)):=zf
  have ea2:=t2 _ _ ea
  generalize upd H' ln (.lst ((ns++[t]).map V.str))=H2 at sm2 t2 en2 ea2
  have hfl2:=sm2.seq hfl
  have hul:=fo.len
  have lenE:((ns++[t]).map V.str).length=ns.length+1:=by simp
  refine⟨_,rfl,_,_,rfl,.inl ⟨_,Sl en2,rfl⟩,_,rfl,_,_,rfl,.inl ⟨_,hfl2,rfl⟩,_,_,rfl,rfl,_,rfl,ite2 (fun hc=>?_) (fun hc=>?_)⟩
  ·have hc:((us.length:Nat):Int)<((((ns++[t]).map V.str).length:Nat):Int):=of_decide_eq_true hc
   rw[lenE] at hc
   have e0:fs.drop ns.length=[]:=wC (by lia)
   rw[e0,Pn.pl,Pl.go] at hgo
   refine⟨_,rfl,zl2,fun p2 hp2=>?_⟩
   have s3:=Sn (o:=.tup [.ref ln,.non]) hp2
   refine q p2 ln _ _ (sm2.trans s3) hln zf ?_ (fun _=>rfl) (fun r hr=>?_)
   ·rw[hgo];exact s3 _ _ en2
   ·rw[hgo] at hr;cases hr
  ·have hc:¬((us.length:Nat):Int)<((((ns++[t]).map V.str).length:Nat):Int):=fun z=>hc (decide_eq_true z)
   rw[lenE] at hc
   have hlt:ns.length<fs.length:=by lia
   have hd:=xD hlt
   have hu:us[ns.length]?=some us[ns.length]:=yA (by lia)
   have hf:fs[ns.length]?=some fs[ns.length]:=yA hlt
   have fdh:=fo.fd _ (xA hlt)
   have rwh:=(fo.mono (zo sm2)).at hu hf
   obtain⟨ws,ews,dws⟩:=fdh.lst
   have hat:atI us (((((ns++[t]).map V.str).length:Nat):Int)-1)=some us[ns.length]:=by
    rw[lenE,show (((ns.length+1:Nat):Int)-1)=((ns.length:Nat):Int) by lia]
    exact zt hu
   refine⟨_,rfl,_,rfl,_,rfl,_,_,rfl,.inl ⟨_,Sl en2,rfl⟩,_,_,rfl,rfl,fl,_,_,_,rfl,rfl,hfl2,hat,zl2,fun p1 hp1=>?_⟩
   have s3:=Sn (o:=.tup [.str "made",.int 1]) hp1
   have w1:RW (upd H2 p1 (.tup [.str "made",.int 1])) (.ref p1) (.lst [.txt "made",.num 1]):=RW.pair zf (.txt _) (.num 1)
   have fin:∀(j:Int)(v:V)(p':Pn),(j=2/\v=u2/\p'=l\/j=3/\v=u3/\p'=r)->p'.pl=(if is1 fs[ns.length] then l.pl else r.pl)->atI [V.str "look",.str t,u2,u3] j=some v/\∃(v':V)(p'':Pn)(ns':Ns),p''.looks<(Pn.look t l r).looks/\[some v,some (.ref fl),some (.ref ln)]=[some v',some (.ref fl),some (.ref ln)]/\Same H (upd H2 p1 (.tup [.str "made",.int 1]))/\upd H2 p1 (.tup [.str "made",.int 1]) ln=some (.lst (ns'.map V.str))/\RW (upd H2 p1 (.tup [.str "made",.int 1])) v' p''.toW/\p''.Ok/\ns'.length<=fs.length/\(p.pl.go fs)=(ns'++(p''.pl.go (fs.drop ns'.length)).1,(p''.pl.go (fs.drop ns'.length)).2):=fun j v p' hj hpl=>by
    have hg:(p.pl.go fs)=((ns++[t])++(p'.pl.go (fs.drop (ns++[t]).length)).1,(p'.pl.go (fs.drop (ns++[t]).length)).2):=by
     rw[hgo,hd,Pn.pl,zdd,←hpl,yD,wG,xQ]
     rfl
    have t3:Tups H' (upd H2 p1 (.tup [.str "made",.int 1])):=fun c vs e=>s3 _ _ (t2 c vs e)
    rcases hj with⟨rfl,rfl,rfl⟩|⟨rfl,rfl,rfl⟩
    ·exact⟨zt (j:=2) rfl,_,_,ns++[t],by simp only[Pn.looks];lia,rfl,sm2.trans s3,s3 _ _ en2,r2.mono t3,okv.2.1,by simp;lia,hg⟩
    ·exact⟨zt (j:=3) rfl,_,_,ns++[t],by simp only[Pn.looks];lia,rfl,sm2.trans s3,s3 _ _ en2,r3.mono t3,okv.2.2,by simp;lia,hg⟩
   have ei:eqW (.lst ws) (.lst [.txt "made",.num 1])=is1 fs[ns.length]:=by unfold is1;rw[ews]
   refine⟨ws,[.txt "made",.num 1],?_,w1.toRS,by lia,?_⟩
   ·rw[←ews];exact (rwh.mono (zo s3)).toRS
   rw[ei]
   cases hb:is1 fs[ns.length] with
   |true=>
    obtain⟨f1,f2⟩:=fin 2 u2 l (.inl ⟨rfl,rfl,rfl⟩) (by rw[hb];rfl)
    exact .inr ⟨_,rfl,_,_,rfl,rfl,a,_,_,_,rfl,rfl,Sq (s3 _ _ ea2),f1,f2⟩
   |false=>
    obtain⟨f1,f2⟩:=fin 3 u3 r (.inr ⟨rfl,rfl,rfl⟩) (by rw[hb];rfl)
    exact .inr ⟨_,rfl,_,_,rfl,rfl,a,_,_,_,rfl,rfl,Sq (s3 _ _ ea2),f1,f2⟩
structure Pp(H:Hp)(a:Addr)(u:V)(ns us:List V)(rv:V):Prop where
 ex:∃(t:Addr)(ts:List Addr),H a=some (.tup [u,.ref t,rv])/\H t=some (.tup (ts.map V.ref))/\ts.length=ns.length/\Prs H ns us ts
 len:ns.length=us.length
 few:ns.length<=1000
theorem Pp.tups{H H':Hp}{a:Addr}{u rv:V}{ns us:List V}(h:Pp H a u ns us rv)(s:Tups H H'):Pp H' a u ns us rv:=by
 obtain⟨⟨t,ts,e1,e2,e3,e4⟩,l,f⟩:=h
 exact⟨⟨t,ts,s _ _ e1,s _ _ e2,e3,fun j t x y a b c=>s _ _ (e4 j t x y a b c)⟩,l,f⟩
theorem Pp.mono{H H':Hp}{a:Addr}{u rv:V}{ns us:List V}(h:Pp H a u ns us rv)(s:Same H H'):Pp H' a u ns us rv:=h.tups (zo s)
def zba:Sp:=fun vs H Q _=>∃(a:Addr)(u rv:V)(ns us:List V),vs=[.ref a]/\Pp H a u ns us rv/\∀(p:Addr)(H':Hp),Same H H'->H p=none->H' p=some (.lst us)->Q (.ref p) H'
def zlb(K:tP):Sp:=fun vs H Q _=>∃(u rv:V)(fl e l:Addr)(ns us:List V),vs=[u,.ref fl,.ref e]/\SqL K H fl us/\H e=some (.tup [.str "ended",.ref l,rv])/\H l=some (.lst ns)/\ns.length=us.length/\ns.length<=1000/\∀(a:Addr)(H':Hp),Same H H'->Pp H' a u ns us rv->Q (.ref a) H'
structure Rep(ws:List W):Prop where
 tok:TOk (W.lst ws).toD
 tdp:(W.lst ws).toD.depth<70
 tct:cnt (W.lst ws).toD<=800
 dp:depths ws<50
def zjv(K:tP):Sp:=fun vs H Q _=>∃(u v:V)(ws zs:List W),vs=[u,v]/\RS K H u (.lst ws)/\RS K H v (.lst zs)/\Rep ws/\Q (.bl (eqW (.lst ws) (.lst zs))) H
theorem Fd.rep{r:Res}(h:Fd r):∃ws,r.toW=.lst ws/\Rep ws:=by
 obtain⟨ws,e,d⟩:=h.lst
 have h1:=h.tok
 have h2:=h.ct
 have h3:=zet r.toW
 have h4:=h.ok.dp
 rw[e] at h1 h2 h3 h4
 exact⟨ws,e,h1,by lia,by lia,by lia⟩
theorem znp:∀x:Ex,∃ws,x.toW=.lst ws
 |.lit _=>⟨_,by rw[Ex.toW]⟩
 |.var _=>⟨_,by rw[Ex.toW]⟩
 |.letE _ _ _=>⟨_,by rw[Ex.toW]⟩
 |.ifE _ _ _=>⟨_,by rw[Ex.toW]⟩
 |.elseE _ _=>⟨_,by rw[Ex.toW]⟩
 |.cryE _=>⟨_,by rw[Ex.toW]⟩
 |.lookE _=>⟨_,by rw[Ex.toW]⟩
 |.reck _ _=>⟨_,by rw[Ex.toW]⟩
 |.eachE _ _ _=>⟨_,by rw[Ex.toW]⟩
theorem RuP.rep{P:Pl}{x:Ex}(h:RuP P x):∃ws,x.toW=.lst ws/\Rep ws:=by
 obtain⟨ws,e⟩:=znp x
 have h1:=h.tok
 have h2:=h.tct
 have h3:=h.tdp
 have h4:=h.dp
 rw[e] at h1 h2 h3 h4
 have h5:1+depths ws<=13:=h4
 exact⟨ws,e,h1,h3,h2,by lia⟩
theorem zbK{a b:Res}(ha:a≠.stop)(hb:b≠.stop)(h:a.toW=b.toW):a=b:=by
 cases a with
 |stop=>exact absurd rfl ha
 |made x=>
  cases b with
  |stop=>exact absurd rfl hb
  |made y=>injection h with h;injection h with _ h;injection h with h;rw[h]
  |wrong ys=>injection h with h;injection h with h;injection h with h;exact absurd h (by decide +kernel)
 |wrong xs=>
  cases b with
  |stop=>exact absurd rfl hb
  |made y=>injection h with h;injection h with h;injection h with h;exact absurd h (by decide +kernel)
  |wrong ys=>injection h with h;injection h with _ h;rw[h]
def Fst(fs gs:List Res)(j:Nat):Prop:=j<fs.length/\j<gs.length/\(∀i,i<j->fs[i]?=gs[i]?)/\fs[j]?≠gs[j]?
def zjw(K:tP):Sp:=fun vs H Q _=>∃(a fl:Addr)(u rv:V)(ns us vs':List V)(fs gs:List Res)(j:Nat),vs=[.ref a,.ref fl]/\Pp H a u ns us rv/\Fo H us fs/\SqL K H fl vs'/\Fo H vs' gs/\Fst fs gs j/\∀H',Same H H'->Q (.int j) H'
def zfr:Sp:=fun vs H Q _=>∃(a:Addr)(j:Nat)(u rv v:V)(ns us:List V),vs=[.ref a,.int j]/\Pp H a u ns us rv/\us[j]?=some v/\Q v H
def zjx:Sp:=fun vs H Q _=>∃(l:Addr)(ps:List Addr)(c:Nat),vs=[.ref l,.int c]/\H l=some (.lst (ps.map V.ref))/\ps.length<=1000/\(∀p∈ps,∃u ns us rv,Pp H p u ns us rv) /\
 ((ps=[]/\∀(a:Addr)(H':Hp),Same H H'->H' a=some (.tup [.str "none"])->Q (.ref a) H') \/
  (∃p r u ns us rv,ps=p::r/\Pp H p u ns us rv/\ns.length=c/\∀(a:Addr)(H':Hp),Same H H'->H' a=some (.tup [.str "whole",.int 0])->Q (.ref a) H') \/
  (∃p r u ns us rv z,ps=p::r/\Pp H p u ns us rv/\ns[c]?=some z/\(∀p∈ps,∀u ns us rv,Pp H p u ns us rv->ns.length≠c)/\∀(a:Addr)(H':Hp),Same H H'->H' a=some (.tup [.str "look",z])->Q (.ref a) H'))
theorem zhQ:FnScope ["one","other"] ["one","other"] (zr zcX):=mkSc rfl (by decide +kernel)
theorem zhR(F:Fun K "just_so" "just_so" zcX f fd)(m_repr:mg "repr"=none):FnOk P w K mg base CX0 (k+1) f fd ["one","other"] (zjv K):=by
 refine F.okQ zhQ (by rintro _ _ _ _ ⟨_,_,_,_,rfl,_⟩;rfl) fun cdv A outer s H vs Q E hr h=>?_
 obtain⟨u,v,ws,zs,rfl,ru,rv,rp,q⟩:=h
 refine⟨_,(zq (zw (zas (Zh (zb1 hr.units) (pv 0) (pv 1) (nomark _)) (zaC (Zh Z0 (zB (zdz hr.gd hr.u80) rfl m_repr ze7 (zc (pv 0) zi)) (zB (zdz hr.gd hr.u80) rfl m_repr ze7 (zc (pv 1) zi)) (nomark _)))))),?_⟩
 refine⟨_,rfl,_,rfl,ws,zs,ru,rv,rp.dp,?_⟩
 cases hb:eqW (.lst ws) (.lst zs) with
 |false=>
  rw[hb] at q
  exact⟨false,rfl,iteF q⟩
 |true=>
  rw[hb] at q
  have e:=(zb0 _ _).mp hb
  rw[←e] at rv
  refine⟨true,rfl,iteT ⟨_,rfl,u,.lst ws,rfl,ru,rp.tok,rp.tdp,rp.tct,_,rfl,v,.lst ws,rfl,rv,rp.tok,rp.tdp,rp.tct,rfl,?_⟩⟩
  rw[decide_eq_true (rfl:V.str (W.lst ws).toD.shown=V.str (W.lst ws).toD.shown)]
  exact q
theorem zfs:FnScope ["paper"] ["paper"] (zr zbo):=mkSc rfl (by decide +kernel)
theorem zft(F:Fun K "founds_of" "founds_of" zbo f fd):FnOk P w K mg base CX0 (k+1) f fd ["paper"] (zba):=by
 refine F.okQ zfs (by rintro _ _ _ _ ⟨_,_,_,_,_,rfl,_⟩;rfl) fun cdv A outer s H vs Q E hr h=>?_
 obtain⟨a,u,rv,ns,us,rfl,pp,q⟩:=h
 obtain⟨⟨t,ts,e1,e2,e3,e4⟩,l,few⟩:=pp
 refine⟨_,(zq (zw (Zx [] [] rfl rfl (by decide +kernel) rfl (by decide +kernel) rfl (by decide +kernel) trivial rfl trivial (zcw (zx zD (pv 0) zk (fun _ _=>rfl))) (fun C s H fp=>⟨Zl,(zx (show IxR _ (rIxT K) from zD) (pv 0) zk (fun _ _=>rfl))⟩)))),?_⟩
 refine⟨_,rfl,a,_,1,_,rfl,rfl,Sq e1,zt (j:=1) rfl,t,rfl,⟨_,Sq e2⟩,?_⟩
 refine zkn us (Sq e2) (by rw[yB];lia) (by rw[yB];exact yQ (show ts.length<=1000 by lia) (by decide)) (fun i v y H1 R hv hy sm r=>?_) (fun H1 D sm hD=>?_)
 ·rw[yF] at hv
  obtain⟨b,hb,rfl⟩:=yT.mp hv
  have hi:i<ns.length:=by have:=(yC.mp hb).1;lia
  exact⟨_,rfl,b,_,1,_,rfl,rfl,Sq (sm _ _ (e4 i b _ y hb (yA hi) hy)),zt (j:=1) rfl,r _ (Sr _)⟩
 ·exact q D _ (sm.trans (Sn hD)) (sm.free hD) zf
theorem zdf:FnScope ["rule","founds","ended"] ["rule","founds","ended"] (zr zaA):=mkSc rfl (by decide +kernel)
theorem zdg(F:Fun K "paper_of_run" "paper_of_run" zaA f fd)(m_tuple:mg "tuple"=none)(m_zip:mg "zip"=none):FnOk P w K mg base CX0 (k+1) f fd ["rule","founds","ended"] (zlb K):=by
 refine F.okQ zdf (by rintro _ _ _ _ ⟨_,_,_,_,_,_,_,rfl,_⟩;rfl) fun cdv A outer s H vs Q E hr h=>?_
 obtain⟨u,rv,fl,e,l,ns,us,rfl,hf,he,hl,hlen,few,q⟩:=h
 refine⟨_,(zq (zw (zE (zc (pv 0) (zc (zd9 rfl rfl m_zip rfl m_tuple (zc (zx zD (pv 2) zk (fun _ _=>rfl)) (zc (pv 1) zi))) (zc (zx zD (pv 2) zk (fun _ _=>rfl)) zi)))))),?_⟩
 refine⟨_,rfl,_,rfl,e,_,1,_,rfl,rfl,Sq he,zt (j:=1) rfl,_,rfl,l,fl,ns,us,rfl,Sl hl,hf,fun ts t H2 sm ht hlt hp et=>?_⟩
 refine⟨_,rfl,e,_,2,_,rfl,rfl,Sq (sm _ _ he),zt (j:=2) rfl,zl3,fun a ha=>?_⟩
 have s2:=Sn (o:=.tup [u,.ref t,rv]) ha
 exact q a _ (sm.trans s2) ⟨⟨t,ts,zf,s2 _ _ et,by lia,fun j t x y a b c=>s2 _ _ (hp j t x y a b c)⟩,hlen,few⟩
theorem zgk:FnScope ["paper","place"] ["paper","place"] (zr zbW):=mkSc rfl (by decide +kernel)
theorem zgl(F:Fun K "found_at" "found_at" zbW f fd):FnOk P w K mg base CX0 (k+1) f fd ["paper","place"] (zfr):=by
 refine F.okQ zgk (by rintro _ _ _ _ ⟨_,_,_,_,_,_,_,rfl,_⟩;rfl) fun cdv A outer s H vs Q E hr h=>?_
 obtain⟨a,j,u,rv,v,ns,us,rfl,pp,hv,q⟩:=h
 obtain⟨⟨t,ts,e1,e2,e3,e4⟩,l,few⟩:=pp
 have hj:=(yC.mp hv).1
 have ht:ts[j]?=some ts[j]:=yA (by lia)
 have hn:ns[j]?=some ns[j]:=yA (by lia)
 refine⟨_,(zq (zw (zx zD (zx zD (zx zD (pv 0) zk (fun _ _=>rfl)) (pv 1) (fun _ _=>rfl)) zk (fun _ _=>rfl)))),?_⟩
 exact⟨_,rfl,a,_,1,_,rfl,rfl,Sq e1,zt (j:=1) rfl,_,rfl,t,_,j,.ref ts[j],rfl,rfl,Sq e2,zt (by rw[yF,ht];rfl),ts[j],_,1,_,rfl,rfl,Sq (e4 j _ _ _ ht hn hv),zt (j:=1) rfl,q⟩
theorem ZX:FnScope ["paper","founds","place","pair"] ["paper","founds"] (zr Z2):=mkSc rfl (by decide +kernel)
theorem zbL(F:Fun K "first_otherwise" "first_otherwise" Z2 f fd)(G_founds_of:Have P w K mg base "founds_of" k ["paper"] (zba))(G_just_so:Have P w K mg base "just_so" k ["one","other"] (zjv K))(m_enumerate:mg "enumerate"=none)(m_zip:mg "zip"=none):FnOk P w K mg base CX0 (k+1) f fd ["paper","founds"] (zjw K):=by
 refine F.okQ ZX (by rintro _ _ _ _ ⟨_,_,_,_,_,_,_,_,_,_,rfl,_⟩;rfl) fun cdv A outer s H vs Q E hr h=>?_
 obtain⟨a,fl,u,rv,ns,us,vs',fs,gs,j,rfl,pp,fo,hfl,fo2,hj,q⟩:=h
 refine⟨_,(zj (zat tL rfl (ziV rfl m_zip rfl m_enumerate (zc (zy G_founds_of hr rfl (zc (pv 0) zi)) (zc (pv 1) zi))) (zaR rfl (zY (zR (i:=2) ZX.nd rfl (Or.inl rfl)) (zY (zR (i:=3) ZX.nd rfl (Or.inl rfl)) zay))) (zq (zN (ZK (zZ (zy G_just_so hr rfl (zc (zx zD (pv 3) zk (fun _ _=>rfl)) (zc (zx zD (pv 3) zk (fun _ _=>rfl)) zi))))) (zq (zw (pv 2))) zC)))
  (zq (zw zaB))),?_⟩
 refine⟨_,rfl,a,u,rv,ns,us,rfl,pp,fun l H1 s1 hl el=>?_⟩
 refine⟨_,rfl,l,fl,us,vs',rfl,Sl el,s1.seq hfl,?_⟩
 have l1:=fo.len
 have l2:=fo2.len
 obtain⟨j1,j2,hpre,hne⟩:=hj
 refine zl6 (K:=K) (xs:=us) (ys:=vs') (fun i σ' H'=>i<=j/\∃o2 o3,σ'=[some (.ref a),some (.ref fl),o2,o3]/\Same H1 H') ⟨yN _,none,none,rfl,Sr _⟩ (fun i σ' H' _ h=>?_) (fun i x y t b σ' H' hx hy ht hb ntb h=>?_) (fun σ' H' h=>?_)
 ·obtain⟨_,_,_,_,sm⟩:=h
  exact⟨Sl (sm _ _ el),sm.seq (s1.seq hfl)⟩
 ·obtain⟨hij,o2,o3,rfl,sm⟩:=h
  have s2:=Sn (o:=.tup [x,y]) ht
  have s3:Same (upd H' t (.tup [x,y])) (upd (upd H' t (.tup [x,y])) b (.tup [.int i,.ref t])):=Sn (by rw[zu ntb.symm];exact hb)
  have et:upd (upd H' t (.tup [x,y])) b (.tup [.int i,.ref t]) t=some (.tup [x,y]):=s3 _ _ zf
  have eb:upd (upd H' t (.tup [x,y])) b (.tup [.int i,.ref t]) b=some (.tup [.int i,.ref t]):=zf
  have sA:=sm.trans (s2.trans s3)
  have sH:=s1.trans sA
  generalize upd (upd H' t (.tup [x,y])) b (.tup [.int i,.ref t])=H2 at s3 et eb sA sH
  have hi1:=(yC.mp hx).1
  have hi2:=(yC.mp hy).1
  have f1:fs[i]?=some fs[i]:=yA (by lia)
  have g1:gs[i]?=some gs[i]:=yA (by lia)
  have d1:=fo.fd _ (yH f1)
  have d2:=fo2.fd _ (yH g1)
  obtain⟨ws,ew,rp⟩:=d1.rep
  obtain⟨zs,ez,_⟩:=d2.rep
  have r1:=(fo.mono (zo sH)).at hx f1
  have r2:=(fo2.mono (zo sH)).at hy g1
  rw[ew] at r1
  rw[ez] at r2
  refine⟨b,_,rfl,Sq eb,rfl,_,_,rfl,_,_,rfl,rfl,?_⟩
  refine⟨_,rfl,t,_,0,_,rfl,rfl,Sq et,zt (j:=0) rfl,_,rfl,t,_,1,_,rfl,rfl,Sq et,zt (j:=1) rfl,x,y,ws,zs,rfl,r1.toRS,r2.toRS,rp,?_⟩
  rw[←ew,←ez]
  by_cases hlt:i<j
  ·have e:fs[i]=gs[i]:=by have:=hpre i hlt;rw[f1,g1] at this;exact Option.some.inj this
   rw[e,Zr]
   exact⟨true,rfl,iteF ⟨by lia,_,_,rfl,sA⟩⟩
  ·obtain rfl:i=j:=by lia
   rw[zgH fun z=>hne (by rw[f1,g1,zbK d1.ns d2.ns z])]
   exact⟨false,rfl,iteT ⟨_,rfl,q _ sH⟩⟩
 ·obtain⟨hij,_⟩:=h
  lia
theorem ZC:FnScope ["papers","count","number","paper"] ["papers","count"] (zr ZI):=mkSc rfl (by decide +kernel)
theorem zbc(F:Fun K "matched_beginning" "matched_beginning" ZI f fd)(m_enumerate:mg "enumerate"=none)(m_len:mg "len"=none):FnOk P w K mg base CX0 (k+1) f fd ["papers","count"] (zjx):=by
 refine F.okQ ZC (by rintro _ _ _ _ ⟨_,_,_,rfl,_⟩;rfl) fun cdv A outer s H vs Q E hr h=>?_
 obtain⟨l,ps,c,rfl,hl,few,hall,h3⟩:=h
 refine⟨_,(zj (zat tL rfl (zfU rfl m_enumerate (zc (pv 0) zi)) (zaR rfl (zY (zR (i:=2) ZC.nd rfl (Or.inl rfl)) (zY (zR (i:=3) ZC.nd rfl (Or.inl rfl)) zay))) (zq (zN (zH Z0 (zB zP rfl m_len tD (zc (zx zD (pv 3) zk (fun _ _=>rfl)) zi)) (pv 1) (nomark _)) (zq (zw (zE (zc zA (zc (pv 2) zi))))) zC)))
  (zq (zw (ZO (zH zdJ (zB zP rfl m_len tD (zc (pv 0) zi)) zk (nomark _)) (zE (zc zA (zc (zx zD (zx zD (zx zD (zx zF (pv 0) zk (fun _ _=>rfl)) zk (fun _ _=>rfl)) (pv 1) (fun _ _=>rfl)) zk (fun _ _=>rfl)) zi))) (zE (zc zA zi)))))),?_⟩
 refine⟨_,rfl,l,_,rfl,Sl hl,?_⟩
 rcases h3 with⟨rfl,q⟩|⟨p,r,u,ns,us,rv,rfl,pp,hc,q⟩|⟨p,r,u,ns,us,rv,z,rfl,pp,hz,hno,q⟩
 ·refine zd8 (K:=K) (xs:=([]:List Addr).map V.ref) (fun i σ' H'=>σ'=[some (.ref l),some (.int c),none,none]/\H'=H) ⟨rfl,rfl⟩ (fun i σ' H' _ h=>by rw[h.2];exact Sl hl) (fun i x t σ' H' hx=>by simp at hx) (fun σ' H' h=>?_)
  obtain⟨rfl,rfl⟩:=h
  refine⟨_,rfl,_,_,rfl,.inl ⟨_,Sl hl,rfl⟩,_,_,rfl,rfl,_,rfl,iteF ⟨zl1,fun a ha=>?_⟩⟩
  exact q a _ (Sn ha) zf
 ·refine zd8 (K:=K) (xs:=(p::r).map V.ref) (fun i σ' H'=>i=0/\σ'=[some (.ref l),some (.int c),none,none]/\H'=H) ⟨rfl,rfl,rfl⟩ (fun i σ' H' _ h=>by rw[h.2.2];exact Sl hl) (fun i x t σ' H' hx ht h=>?_) (fun σ' H' h=>?_)
  ·obtain⟨rfl,rfl,rfl⟩:=h
   cases hx
   have s1:=Sn (o:=.tup [.int ((0:Nat):Int),.ref p]) ht
   obtain⟨⟨t',ts,e1,e2,e3,e4⟩,l',few'⟩:=pp
   refine⟨t,_,rfl,Sq zf,rfl,_,_,rfl,_,_,rfl,rfl,?_⟩
   refine⟨_,rfl,p,_,1,_,rfl,rfl,Sq (s1 _ _ e1),zt (j:=1) rfl,_,_,rfl,.inr ⟨_,Sq (s1 _ _ e2),rfl⟩,_,rfl,rfl,_,rfl,?_⟩
   rw[decide_eq_true (show V.int (((ts.map V.ref).length:Nat):Int)=V.int ((c:Nat):Int) by rw[yB,e3,hc])]
   refine iteT ⟨_,rfl,zl2,fun a ha=>?_⟩
   exact q a _ (s1.trans (Sn ha)) zf
  ·obtain⟨h0,_⟩:=h
   simp at h0
 ·refine zd8 (K:=K) (xs:=(p::r).map V.ref) (fun i σ' H'=>∃o2 o3,σ'=[some (.ref l),some (.int c),o2,o3]/\Same H H') ⟨none,none,rfl,Sr _⟩ (fun i σ' H' _ h=>by obtain⟨_,_,_,sm⟩:=h;exact Sl (sm _ _ hl)) (fun i x t σ' H' hx ht h=>?_) (fun σ' H' h=>?_)
  ·obtain⟨o2,o3,rfl,sm⟩:=h
   rw[yF] at hx
   obtain⟨p',hp',rfl⟩:=yT.mp hx
   have s1:=Sn (o:=.tup [.int (i:Int),.ref p']) ht
   obtain⟨u',ns',us',rv',pp'⟩:=hall p' (yH hp')
   have hnc:=hno p' (yH hp') u' ns' us' rv' pp'
   have sA:=sm.trans s1
   obtain⟨⟨t',ts,e1,e2,e3,e4⟩,l',few'⟩:=pp'
   refine⟨t,_,rfl,Sq zf,rfl,_,_,rfl,_,_,rfl,rfl,?_⟩
   refine⟨_,rfl,p',_,1,_,rfl,rfl,Sq (sA _ _ e1),zt (j:=1) rfl,_,_,rfl,.inr ⟨_,Sq (sA _ _ e2),rfl⟩,_,rfl,rfl,_,rfl,?_⟩
   rw[decide_eq_false (show V.int (((ts.map V.ref).length:Nat):Int)≠V.int ((c:Nat):Int) from zlE (by rw[yB,e3];lia))]
   exact iteF ⟨_,_,rfl,sA⟩
  ·obtain⟨o2,o3,rfl,sm⟩:=h
   obtain⟨⟨t',ts,e1,e2,e3,e4⟩,l',few'⟩:=pp
   have hcl:=(yC.mp hz).1
   have ht:ts[c]?=some ts[c]:=yA (by lia)
   have hu:us[c]?=some us[c]:=yA (by lia)
   refine⟨_,rfl,_,_,rfl,.inl ⟨_,Sl (sm _ _ hl),rfl⟩,_,_,rfl,rfl,_,rfl,?_⟩
   rw[decide_eq_true (show (0:Int)<(((((p::r).map V.ref).length:Nat)):Int) by simp)]
   refine iteT ⟨_,rfl,l,_,0,_,rfl,rfl,Sl (sm _ _ hl),zt (j:=0) rfl,p,_,1,_,rfl,rfl,Sq (sm _ _ e1),zt (j:=1) rfl,_,rfl,t',_,c,.ref ts[c],rfl,rfl,Sq (sm _ _ e2),zt (by rw[yF,ht];rfl),ts[c],_,0,_,rfl,rfl,Sq (sm _ _ (e4 c _ _ _ ht hz hu)),zt (j:=0) rfl,zl2,fun a ha=>?_⟩
   exact q a _ (sm.trans (Sn ha)) zf
end
end D
namespace L2
open PySem PySem.Spec PyProof.Rows
theorem zkr{α:Type}{K:tP}{fr:List Nat}{tt:TT}{σ:St}{H:Hp}{F:Addr->Hp->List V->Prop}{a:Addr}{l:List (V×α)}(pr:α->Bool)(hS:SqL K H a (l.map (·.1)))(hz:l.length<=tF)
  (step:∀(z:V×α)(H1:Hp)(R:Bool->Hp->Prop),z∈l->Same H H1->(∀H2,Same H1 H2->R (pr z.2) H2)->tt (some z.1::frees fr σ) H1 R)
  (fin:∀(H1:Hp)(D:Addr),Same H H1->H1 D=none->F D H1 ((l.filter fun z=>pr z.2).map (·.1))):
  ∃W:Nat->Nat->List V->Hp->Prop,(∃m,W 0 m [] H)/\∀i m vs H,W i m vs H->vs.length<=tF /\
   (((Itl K a).stop i H/\∀D,H D=none->F D H vs) \/
    ((Itl K a).go i H/\∀v H',(Itl K a).yld i H v H'->tt (some v::frees fr σ) H' fun b H2=>if b=true then tVar 0 (some v::frees fr σ) H2 fun y H3=>∃m',m'<m/\W (i+1) m' (vs++[y]) H3 else ∃m',m'<m/\W (i+1) m' vs H2)):=by
 refine⟨fun i m us H1=>i<=l.length/\m=l.length-i/\us=(((l.take i).filter fun z=>pr z.2).map (·.1))/\Same H H1,⟨_,yN _,rfl,rfl,Sr _⟩,fun i m us H1 hW=>?_⟩
 obtain⟨hi,hm,rfl,sm⟩:=hW
 refine⟨?_,?_⟩
 ·rw[yB]
  refine yQ (vD _ _) ?_
  rw[yP]
  lia
 by_cases hlt:i<l.length
 ·have hl:l[i]?=some l[i]:=yA hlt
  have hv:(l.map (·.1))[i]?=some l[i].1:=by rw[yF,hl];rfl
  refine .inr ⟨⟨_,_,sm.seq hS,hv⟩,fun v H' hy=>?_⟩
  obtain⟨rfl,hy⟩:=hy
  have hy:=hy _ (sm.seq hS)
  rw[hv] at hy
  cases hy
  refine step l[i] H' _ (xA hlt) sm fun H2 s2=>?_
  cases hp:pr l[i].2 with
  |true=>
   refine iteT ⟨_,rfl,l.length-(i+1),by lia,by lia,rfl,?_,sm.trans s2⟩
   rw[Zg hl,xM,xN,xV,if_pos hp]
   rfl
  |false=>
   refine iteF ⟨l.length-(i+1),by lia,by lia,rfl,?_,sm.trans s2⟩
   rw[Zg hl,xM,xN,xV,if_neg (by rw[hp];exact yI)]
   simp
 ·have e:i=l.length:=by lia
  subst e
  refine .inl ⟨⟨_,sm.seq hS,by rw[yB];exact yE _⟩,fun D hD=>?_⟩
  rw[wP]
  exact fin H1 D sm hD
end L2
namespace D
open PySem L2
def isT:HO->Prop
 |.tup _=>True
 |.frz _ (.tup _)=>True
 |_=>False
def Tq(H H':Hp):Prop:=∀c o,isT o->H c=some o->H' c=some o
theorem Tq.trans{H H' H'':Hp}(a:Tq H H')(b:Tq H' H''):Tq H H'':=fun c o t h=>b c o t (a c o t h)
theorem Tq.refl{H:Hp}:Tq H H:=fun _ _ _ e=>e
theorem zV{H H':Hp}(s:Same H H'):Tq H H':=fun c o _ h=>s c o h
theorem zfu{H:Hp}{d:Addr}{o u:HO}(e:H d=some o)(no:¬isT o):Tq H (upd H d u):=fun c o' t h=>by
 rw[zu fun z=>no (by rw[z,e] at h;cases h;exact t)]
 exact h
theorem Tq.tups{H H':Hp}(t:Tq H H'):Tups H H':=fun a vs e=>t a _ trivial e
theorem zex{b:Addr}{H H':Hp}(hb:Zt H b)(st:Step b H H'):Tq H H':=fun c o t h=>st.keep c o (fun z=>by
 obtain⟨x,y,w,e⟩:=hb
 rw[z,e] at h
 cases h
 exact t) h
theorem SqT.tq{K:tP}{H H':Hp}(t:Tq H H'){a:Addr}{xs:List V}(h:SqT K H a xs):SqT K H' a xs:=by
 rcases h with (h|⟨o,h⟩)|h
 ·exact .inl (.inl (t _ _ trivial h))
 ·exact .inl (.inr ⟨o,t _ _ trivial h⟩)
 ·exact .inr h
theorem RS.tq{K:tP}{H H':Hp}(t:Tq H H'){v:V}{w:W}(h:RS K H v w):RS K H' v w:=by
 induction h with
 |num i=>exact .num i
 |txt x=>exact .txt x
 |lst e l _ ih=>exact .lst (SqT.tq t e) l ih
theorem RRes.tq{K:tP}{H H':Hp}(t:Tq H H'){v:V}:∀{r:Res},RRes K H v r->RRes K H' v r
 |.made _,⟨a,u,e1,e2,e3⟩=>⟨a,u,e1,SqT.tq t e2,e3.mono t.tups⟩
 |.wrong _,h=>RS.tq t h
 |.stop,h=>h
theorem RR.tq{K:tP}{H H':Hp}(t:Tq H H'){v:V}{r:R}(h:RR K H v r):RR K H' v r:=by
 induction h with
 |mk e1 e2 e3 l _ ih=>exact .mk (t _ _ trivial e1) (e2.tq t) (t _ _ trivial e3) l ih
structure Ppr(K:tP)(H:Hp)(p:Addr)(u:V)(P:Pl)(x:Ex)(us:List V)(fs:List Res)(rv:V):Prop where
 ru:RW H u x.toW
 rp:RuP P x
 cm:Cm P fs
 fo:Fo H us fs
 pp:Pp H p u ((P.go fs).1.map V.str) us rv
 rr:RR K H rv (ev fs x e0 []).1
theorem Ppr.tq{K:tP}{H H':Hp}(t:Tq H H'){p:Addr}{u rv:V}{P:Pl}{x:Ex}{us:List V}{fs:List Res}(h:Ppr K H p u P x us fs rv):Ppr K H' p u P x us fs rv:=
 ⟨h.ru.mono t.tups,h.rp,h.cm,h.fo.mono t.tups,h.pp.tups t.tups,h.rr.tq t⟩
structure Kp where
 a:Addr
 P:Pl
 x:Ex
 fs:List Res
def zaJ(K:tP)(H:Hp)(kv:V):Option Kp->Prop
 |none=>kv=.non
 |some k=>kv=.ref k.a/\∃u us rv,Ppr K H k.a u k.P k.x us k.fs rv
theorem zaJ.tq{K:tP}{H H':Hp}(t:Tq H H'){kv:V}:∀{o:Option Kp},zaJ K H kv o->zaJ K H' kv o
 |none,h=>h
 |some _,⟨e,u,us,rv,h⟩=>⟨e,u,us,rv,h.tq t⟩
def hasB(x:Ex):Option Kp->Bool
 |none=>false
 |some k=>eqW k.x.toW x.toW
structure En where
 hw:W
 pp:Addr
 fs:List Res
def zks(K:tP)(H:Hp)(P:Pl)(x:Ex)(z:V×En):Prop:=∃(ea:Addr)(h u:V)(us:List V)(rv:V),z.1=.ref ea/\H ea=some (.tup [h,.ref z.2.pp])/\RW H h z.2.hw/\Ppr K H z.2.pp u P x us z.2.fs rv
theorem zks.tq{K:tP}{H H':Hp}(t:Tq H H'){P:Pl}{x:Ex}{z:V×En}(h:zks K H P x z):zks K H' P x z:=by
 obtain⟨ea,h,u,us,rv,e1,e2,e3,e4⟩:=h
 exact⟨ea,h,u,us,rv,e1,t _ _ trivial e2,e3.mono t.tups,e4.tq t⟩
abbrev Ens:=List (V×En)
def Ends(K:tP)(H:Hp)(P:Pl)(x:Ex)(l:Ens):Prop:=∀z∈l,zks K H P x z
theorem Ends.tq{K:tP}{H H':Hp}(t:Tq H H'){P:Pl}{x:Ex}{l:Ens}(h:Ends K H P x l):Ends K H' P x l:=fun z hz=>(h z hz).tq t
def nxt(k:Nat)(f:Res)(e:En):Bool:=match e.fs[k]? with
 |some g=>eqW g.toW f.toW
 |none=>false
noncomputable def fT(nm nd fo pa ho ru ke en:V):List (Str×V):=[("name",nm),("needs",nd),("founds",fo),("paper",pa),("how",ho),("rule",ru),("kept",ke),("ends",en)]
theorem zey(nm nd fo pa ho ru ke en v:V):putF "needs" v (fT nm nd fo pa ho ru ke en)=fT nm v fo pa ho ru ke en:=by with_unfolding_all rfl
theorem zkt(nm nd fo pa ho ru ke en v:V):putF "paper" v (fT nm nd fo pa ho ru ke en)=fT nm nd fo v ho ru ke en:=by with_unfolding_all rfl
theorem zlc(nm nd fo pa ho ru ke en v:V):putF "how" v (fT nm nd fo pa ho ru ke en)=fT nm nd fo pa v ru ke en:=by with_unfolding_all rfl
theorem zmp(nm nd fo pa ho ru ke en v:V):putF "ends" v (fT nm nd fo pa ho ru ke en)=fT nm nd fo pa ho ru ke v:=by with_unfolding_all rfl
structure Tk(AT:Addr)(H:Hp)(p lf le:Addr)(nm nd pa ho u kv:V)(us es:List V):Prop where
 ins:∃dx,H p=some (.ins AT dx (fT nm nd (.ref lf) pa ho u kv (.ref le)))
 fo:H lf=some (.lst us)
 en:H le=some (.lst es)
 ne:lf≠le
theorem Tk.npf{AT:Addr}{H:Hp}{p lf le:Addr}{nm nd pa ho u kv:V}{us es:List V}(h:Tk AT H p lf le nm nd pa ho u kv us es):p≠lf:=fun z=>by
 obtain⟨dx,e⟩:=h.ins
 rw[z,h.fo] at e
 cases e
theorem Tk.npe{AT:Addr}{H:Hp}{p lf le:Addr}{nm nd pa ho u kv:V}{us es:List V}(h:Tk AT H p lf le nm nd pa ho u kv us es):p≠le:=fun z=>by
 obtain⟨dx,e⟩:=h.ins
 rw[z,h.en] at e
 cases e
theorem Tk.keep{AT:Addr}{H H':Hp}{p lf le:Addr}{nm nd pa ho u kv:V}{us es:List V}(h:Tk AT H p lf le nm nd pa ho u kv us es)(s:∀c o,c=p\/c=lf\/c=le->H c=some o->H' c=some o):Tk AT H' p lf le nm nd pa ho u kv us es:=
 ⟨let ⟨dx,e⟩:=h.ins;⟨dx,s _ _ (.inl rfl) e⟩,s _ _ (.inr (.inl rfl)) h.fo,s _ _ (.inr (.inr rfl)) h.en,h.ne⟩
theorem Tk.same{AT:Addr}{H H':Hp}{p lf le:Addr}{nm nd pa ho u kv:V}{us es:List V}(h:Tk AT H p lf le nm nd pa ho u kv us es)(s:Same H H'):Tk AT H' p lf le nm nd pa ho u kv us es:=h.keep fun c o _ e=>s c o e
theorem Tk.put{AT:Addr}{H:Hp}{p lf le:Addr}{nm nd pa ho u kv nd' pa' ho':V}{us es:List V}{dx:Addr}{fs:List (Str×V)}(h:Tk AT H p lf le nm nd pa ho u kv us es)(e:fs=fT nm nd' (.ref lf) pa' ho' u kv (.ref le)):Tk AT (upd H p (.ins AT dx fs)) p lf le nm nd' pa' ho' u kv us es:=
 ⟨⟨dx,by rw[zf,e]⟩,by rw[zu h.npf.symm];exact h.fo,by rw[zu h.npe.symm];exact h.en,h.ne⟩
theorem Tk.tq{AT:Addr}{H:Hp}{p lf le:Addr}{nm nd pa ho u kv:V}{us es:List V}{o:HO}(h:Tk AT H p lf le nm nd pa ho u kv us es):Tq H (upd H p o):=by
 obtain⟨dx,e⟩:=h.ins
 exact zfu e (fun z=>z)
def zct(AT:Addr):Sp:=fun vs H Q _=>∃(p lf le:Addr)(nm nd pa ho u kv h pw:V)(us es:List V),vs=[.ref p,h,pw]/\Tk AT H p lf le nm nd pa ho u kv us es/\∀H',Tk AT H' p lf le nm nd pw h u kv us es->(∀c o,c≠p->H c=some o->H' c=some o)->Q .non H'
def zku(K:tP)(AT:Addr):Sp:=fun vs H Q _=>∃(p lf le:Addr)(nm nd pa ho u kv:V)(us es:List V)(P:Pl)(x:Ex)(kp:Option Kp),vs=[.ref p]/\Tk AT H p lf le nm nd pa ho u kv us es/\RW H u x.toW/\RuP P x/\zaJ K H kv kp/\Q (.bl (hasB x kp)) H
def zez(K:tP)(AT:Addr):Sp:=fun vs H Q _=>∃(p lf le:Addr)(nm nd pa ho u kv v:V)(us:List V)(P:Pl)(x:Ex)(fs:List Res)(f:Res)(l:Ens),vs=[.ref p,v]/\Tk AT H p lf le nm nd pa ho u kv us (l.map (·.1))/\Fo H us fs/\Ends K H P x l/\l.length<=100/\(∀z∈l,fs.length<z.2.fs.length)/\RW H v f.toW/\Fd f /\
 ∀(le':Addr)(H':Hp),H le'=none->Tk AT H' p lf le' nm .non pa ho u kv (us++[v]) ((l.filter fun z=>nxt fs.length f z.2).map (·.1))->(∀c o,c≠p->c≠lf->H c=some o->H' c=some o)->Q .non H'
def zfv(x:Ex)(fs:List Res)(y:W):Option Kp->Prop
 |none=>y=.lst [.txt "new"]
 |some k=>(eqW k.x.toW x.toW=false/\y=.lst [.txt "rule"])\/(eqW k.x.toW x.toW=true/\∃(j:Nat)(z:Str)(g f:Res),Fst k.fs fs j/\(k.P.go k.fs).1[j]?=some z/\k.fs[j]?=some g/\fs[j]?=some f/\y=.lst [.txt "look",.num j,.txt z,g.toW,f.toW])
def zmq(K:tP)(AT:Addr):Sp:=fun vs H Q _=>∃(p lf le:Addr)(nm nd pa ho u kv:V)(us es:List V)(P:Pl)(x:Ex)(fs:List Res)(kp:Option Kp),vs=[.ref p]/\Tk AT H p lf le nm nd pa ho u kv us es/\RW H u x.toW/\RuP P x/\Fo H us fs/\zaJ K H kv kp/\(∀k,kp=some k->eqW k.x.toW x.toW=true->∃j,Fst k.fs fs j) /\
 ∀(v:V)(y:W)(H':Hp),Same H H'->RW H' v y->y.depth<=20->zfv x fs y kp->Q v H'
section
variable{P:Program}{w:World}{K:tP}{mg:Str->Option Value}{base:Heap}{f:Addr}{fd:tQ}{k n:Nat}{ARun ATask:Addr}
theorem zdq:FnScope ["self","how","paper"] ["self","how","paper"] (zr Zz):=mkSc rfl (by decide +kernel)
theorem zdr(F:Fun K "finish" "Task.finish" Zz f fd)(clT:Cls K ATask)(nH:zO K ATask "how")(nP:zO K ATask "paper"):FnOk P w K mg base CX0 (k+1) f fd ["self","how","paper"] (zct ATask):=by
 refine F.okQ zdq (by rintro _ _ _ _ ⟨_,_,_,_,_,_,_,_,_,_,_,_,_,rfl,_⟩;rfl) fun cdv A outer s H vs Q E hr h=>?_
 obtain⟨p,lf,le,nm,nd,pa,ho,u,kv,h,pw,us,es,rfl,tk,q⟩:=h
 refine⟨_,(zj (ZY (pv 0) (pv 1) rfl)
  (zq (ZY (pv 0) (pv 2) rfl))),?_⟩
 obtain⟨dx,ei⟩:=tk.ins
 refine⟨_,rfl,_,rfl,p,ATask,dx,_,rfl,ei,clT,nH,(by show 8<1000;decide),?_⟩
 have t1:=tk.put (dx:=dx) (zlc nm nd (.ref lf) pa ho u kv (.ref le) h)
 refine⟨_,rfl,_,rfl,p,ATask,dx,_,rfl,zf,clT,nP,(by show 8<1000;decide),?_⟩
 have t2:=t1.put (dx:=dx) ((congrArg (putF "paper" pw) (zlc nm nd (.ref lf) pa ho u kv (.ref le) h)).trans (zkt nm nd (.ref lf) pa h u kv (.ref le) pw))
 exact q _ t2 (fun c o hc e=>by rw[zu hc,zu hc];exact e)
theorem za7:FnScope ["self"] ["self"] (zr zT):=mkSc rfl (by decide +kernel)
theorem za8(F:Fun K "has_kept_rule" "Task.has_kept_rule" zT f fd)(G_just_so:Have P w K mg base "just_so" k ["one","other"] (zjv K))(clT:Cls K ATask)(nK:zO K ATask "kept")(nR:zO K ATask "rule"):FnOk P w K mg base CX0 (k+1) f fd ["self"] (zku K ATask):=by
 refine F.okQ za7 (by rintro _ _ _ _ ⟨_,_,_,_,_,_,_,_,_,_,_,_,_,_,rfl,_⟩;rfl) fun cdv A outer s H vs Q E hr h=>?_
 obtain⟨p,lf,le,nm,nd,pa,ho,u,kv,us,es,P,x,kp,rfl,tk,ru,rp,hk,q⟩:=h
 refine⟨_,(zq (zw (zas (zeG (zax (zL (pv 0) rfl))) (zaC (zy G_just_so hr rfl (zc (zx zD (zL (pv 0) rfl) zk (fun _ _=>rfl)) (zc (zL (pv 0) rfl) zi))))))),?_⟩
 obtain⟨dx,ei⟩:=tk.ins
 refine⟨_,rfl,p,ATask,dx,_,kv,rfl,ei,clT,nK,rfl,?_⟩
 cases kp with
 |none=>
  obtain rfl:kv=.non:=hk
  exact⟨false,rfl,iteF q⟩
 |some k=>
  obtain⟨rfl,u',us',rv',ppr⟩:=hk
  obtain⟨⟨t',ts,e1,e2,e3,e4⟩,l',few'⟩:=ppr.pp
  obtain⟨ws,ew,rep⟩:=ppr.rp.rep
  obtain⟨zs,ez,_⟩:=rp.rep
  have r1:=ppr.ru
  rw[ew] at r1
  rw[ez] at ru
  refine⟨true,rfl,iteT ⟨_,rfl,p,ATask,dx,_,.ref k.a,rfl,ei,clT,nK,rfl,k.a,_,0,_,rfl,rfl,Sq e1,zt (j:=0) rfl,_,rfl,p,ATask,dx,_,u,rfl,ei,clT,nR,rfl,u',u,ws,zs,rfl,r1.toRS,ru.toRS,rep,?_⟩⟩
  rw[←ew,←ez]
  exact q
theorem zb9:FnScope ["self","found","place"] ["self","found"] (zr Z4):=mkSc rfl (by decide +kernel)
theorem zfw(F:Fun K "take" "Task.take" Z4 f fd)(G_found_at:Have P w K mg base "found_at" k ["paper","place"] (zfr))(m_len:mg "len"=none)(clT:Cls K ATask)(nF:zO K ATask "founds")(nE:zO K ATask "ends")(nN:zO K ATask "needs"):FnOk P w K mg base CX0 (k+1) f fd ["self","found"] (zez K ATask):=by
 refine F.okQ zb9 (by rintro _ _ _ _ ⟨_,_,_,_,_,_,_,_,_,_,_,_,_,_,_,_,rfl,_⟩;rfl) fun cdv A outer s H vs Q E hr h=>?_
 obtain⟨p,lf,le,nm,nd,pa,ho,u,kv,v,us,P,x,fs,f,l,rfl,tk,fo,en,few,hlt,rf,fdf,q⟩:=h
 refine⟨_,(zj (zG (i:=2) zb9.nd rfl (Or.inr rfl) (zB zP rfl m_len tD (zc (zL (pv 0) rfl) zi)))
  (zj (ZY (pv 0) (Zx [1,2] ["found","place"] rfl rfl (by decide +kernel) rfl (by decide +kernel) rfl (by decide +kernel) ⟨rfl,rfl,trivial⟩ rfl ⟨⟨rfl,rfl,Or.inr (Or.inl rfl),(by show (some NameKind.cell:Option NameKind)≠some .local;decide),⟨_,rfl⟩⟩,⟨rfl,rfl,Or.inr (Or.inl rfl),(by show (some NameKind.cell:Option NameKind)≠some .local;decide),⟨_,rfl⟩⟩,trivial⟩ (ZZ (zL (pv 0) rfl)) (fun C s H fp=>⟨(zdP (zH (show OpR _ (tK .Eq) (rTT K fun b=>b) from zb1 hr.units) (zy G_found_at hr rfl (zc (zx (show IxR _ (rIxT K) from zD) (pv 0) zk (fun _ _=>rfl)) (zc (pv 2) zi))) (pv 1) (nomark _))),(pv 0)⟩)) rfl)
  (zj (Ze (zcf tM tO tN zaa (zL (pv 0) rfl) (zc (pv 1) zi)))
  (zq (ZY (pv 0) zaB rfl))))),?_⟩
 obtain⟨dx,ei⟩:=tk.ins
 refine⟨_,rfl,p,ATask,dx,_,.ref lf,rfl,ei,clT,nF,rfl,_,_,rfl,.inl ⟨_,Sl tk.fo,rfl⟩,?_⟩
 dsimp only[zX]
 refine⟨_,rfl,p,ATask,dx,_,.ref le,rfl,ei,clT,nE,rfl,le,rfl,⟨_,Sl tk.en⟩,?_⟩
 refine zkr (K:=K) (l:=l) (nxt fs.length f) (Sl tk.en) (yQ few (by decide)) (fun z H1 R hz sm r=>?_) (fun H1 D sm hD=>?_)
 ·obtain⟨z1,e⟩:=z
  obtain⟨ea,h,u',us',rv',rfl,e2,e3,ppr⟩:=en _ hz
  have hl:=hlt _ hz
  have hl:fs.length<e.fs.length:=hl
  have hul:=ppr.fo.len
  have hul:us'.length=e.fs.length:=hul
  have hv:us'[fs.length]?=some us'[fs.length]:=yA (by lia)
  have hg:e.fs[fs.length]?=some e.fs[fs.length]:=yA hl
  have r1:=ppr.fo.at hv hg
  have d1:=ppr.fo.fd _ (yH hg)
  obtain⟨ws,ew,rep⟩:=d1.rep
  obtain⟨zs,ez,_⟩:=fdf.rep
  have hn:nxt fs.length f e=eqW (.lst ws) (.lst zs):=by unfold nxt;rw[hg,←ew,←ez]
  rw[ew] at r1
  rw[ez] at rf
  refine⟨_,rfl,ea,_,1,_,rfl,rfl,Sq (sm _ _ e2),zt (j:=1) rfl,_,rfl,e.pp,fs.length,u',rv',us'[fs.length],_,us',?_,ppr.pp.mono sm,hv,_,rfl,ws,zs,(r1.mono (zo sm)).toRS,(rf.mono (zo sm)).toRS,rep.dp,_,rfl,?_⟩
  ·rw[fo.len];rfl
  ·rw[←hn]
   exact r _ (Sr _)
 ·have s1:=sm.trans (Sn (o:=.lst ((l.filter fun z=>nxt fs.length f z.2).map (·.1))) hD)
  have tk1:=tk.same s1
  have eD:upd H1 D (.lst ((l.filter fun z=>nxt fs.length f z.2).map (·.1))) D=some (.lst ((l.filter fun z=>nxt fs.length f z.2).map (·.1))):=zf
  have hD0:=sm.free hD
  generalize upd H1 D (.lst ((l.filter fun z=>nxt fs.length f z.2).map (·.1)))=H2 at s1 tk1 eD
  obtain⟨dx2,ei2⟩:=tk1.ins
  have npD:p≠D:=zm ei hD0
  have nlD:lf≠D:=zm tk.fo hD0
  refine⟨_,rfl,p,ATask,dx2,_,rfl,ei2,clT,nE,(by show 8<1000;decide),?_⟩
  have tk2:Tk ATask (upd H2 p (.ins ATask dx2 (putF "ends" (.ref D) (fT nm nd (.ref lf) pa ho u kv (.ref le))))) p lf D nm nd pa ho u kv us ((l.filter fun z=>nxt fs.length f z.2).map (·.1)):=
   ⟨⟨dx2,by rw[zf,zmp]⟩,by rw[zu tk.npf.symm];exact tk1.fo,by rw[zu npD.symm];exact eD,nlD⟩
  have k2:∀c o,c≠p->H c=some o->upd H2 p (.ins ATask dx2 (putF "ends" (.ref D) (fT nm nd (.ref lf) pa ho u kv (.ref le)))) c=some o:=fun c o hc e=>by rw[zu hc];exact s1 _ _ e
  generalize upd H2 p (.ins ATask dx2 (putF "ends" (.ref D) (fT nm nd (.ref lf) pa ho u kv (.ref le))))=H3 at tk2 k2
  obtain⟨dx3,ei3⟩:=tk2.ins
  have hfl:=fo.len
  have hff:=fo.few
  refine⟨_,rfl,p,ATask,dx3,_,.ref lf,rfl,ei3,clT,nF,rfl,.inl ⟨rfl,_,Sl tk2.fo⟩,_,rfl,lf,_,_,rfl,rfl,tk2.fo,ZE (by lia),?_⟩
  have tk3:Tk ATask (upd H3 lf (.lst (us++[v]))) p lf D nm nd pa ho u kv (us++[v]) ((l.filter fun z=>nxt fs.length f z.2).map (·.1)):=
   ⟨⟨dx3,by rw[zu tk.npf];exact ei3⟩,zf,by rw[zu nlD.symm];exact tk2.en,nlD⟩
  have k3:∀c o,c≠p->c≠lf->H c=some o->upd H3 lf (.lst (us++[v])) c=some o:=fun c o hc hl e=>by rw[zu hl];exact k2 _ _ hc e
  generalize upd H3 lf (.lst (us++[v]))=H4 at tk3 k3
  obtain⟨dx4,ei4⟩:=tk3.ins
  refine⟨_,rfl,p,ATask,dx4,_,rfl,ei4,clT,nN,(by show 8<1000;decide),?_⟩
  exact q D _ hD0 (tk3.put (zey nm nd (.ref lf) pa ho u kv (.ref D) .non)) (fun c o hc hl e=>by rw[zu hc];exact k3 _ _ hc hl e)
theorem zbt:FnScope ["self","place","look"] ["self"] (zr zan):=mkSc rfl (by decide +kernel)
theorem zgm(F:Fun K "why" "Task.why" zan f fd)(G_first_otherwise:Have P w K mg base "first_otherwise" k ["paper","founds"] (zjw K))(G_Task_has_kept_rule:zaj P w K mg base ATask "has_kept_rule" k ["self"] (zku K ATask))(clT:Cls K ATask)(nK:zO K ATask "kept")(nF:zO K ATask "founds"):FnOk P w K mg base CX0 (k+1) f fd ["self"] (zmq K ATask):=by
 refine F.okQ zbt (by rintro _ _ _ _ ⟨_,_,_,_,_,_,_,_,_,_,_,_,_,_,_,rfl,_⟩;rfl) fun cdv A outer s H vs Q E hr h=>?_
 obtain⟨p,lf,le,nm,nd,pa,ho,u,kv,us,es,P,x,fs,kp,rfl,tk,ru,rp,fo,hk,hfst,q⟩:=h
 refine⟨_,(zj (zN (zao (zb5 (zL (pv 0) rfl))) (zq (zw (zE (zc zA zi)))) zC)
  (zj (zN (ZK (zZ (zhu G_Task_has_kept_rule hr (pv 0)))) (zq (zw (zE (zc zA zi)))) zC)
  (zj (zG (i:=1) zbt.nd rfl (Or.inl rfl) (zy G_first_otherwise hr rfl (zc (zL (pv 0) rfl) (zc (zL (pv 0) rfl) zi))))
  (zj (zG (i:=2) zbt.nd rfl (Or.inl rfl) (zx zD (zx zD (zL (pv 0) rfl) zk (fun _ _=>rfl)) (pv 1) (fun _ _=>rfl)))
  (zq (zw (zE (zc zA (zc (pv 1) (zc (zx zD (pv 2) zk (fun _ _=>rfl)) (zc (zx zD (pv 2) zk (fun _ _=>rfl)) (zc (zx zF (zL (pv 0) rfl) (pv 1) (fun _ _=>rfl)) zi)))))))))))),?_⟩
 obtain⟨dx,ei⟩:=tk.ins
 refine⟨_,rfl,p,ATask,dx,_,kv,rfl,ei,clT,nK,rfl,?_⟩
 cases kp with
 |none=>
  obtain rfl:kv=.non:=hk
  refine⟨_,rfl,iteT ⟨zl1,fun a ha=>?_⟩⟩
  exact q _ (.lst [.txt "new"]) _ (Sn ha) (RW.lst zf rfl fun i v w hv hw=>match i,hv,hw with|0,hv,hw=>by cases hv;cases hw;exact .txt _|_+1,hv,_=>by simp at hv) (by decide) rfl
 |some k=>
  have hk0:=hk
  obtain⟨rfl,u',us',rv',ppr⟩:=hk
  refine⟨_,rfl,iteF ⟨_,rfl,p,dx,_,rfl,ei,rfl,p,lf,le,nm,nd,pa,ho,u,_,us,es,P,x,some k,rfl,tk,ru,rp,hk0,?_⟩⟩
  show ∃c,V.bl (eqW k.x.toW x.toW)=V.bl c/\_
  cases hb:eqW k.x.toW x.toW with
  |false=>
   refine⟨false,rfl,iteT ⟨zl1,fun a ha=>?_⟩⟩
   exact q _ (.lst [.txt "rule"]) _ (Sn ha) (RW.lst zf rfl fun i v w hv hw=>match i,hv,hw with|0,hv,hw=>by cases hv;cases hw;exact .txt _|_+1,hv,_=>by simp at hv) (by decide) (.inl ⟨hb,rfl⟩)
  |true=>
   obtain⟨j,hj⟩:=hfst k rfl hb
   refine⟨true,rfl,iteF ⟨_,rfl,p,ATask,dx,_,.ref k.a,rfl,ei,clT,nK,rfl,_,rfl,p,ATask,dx,_,.ref lf,rfl,ei,clT,nF,rfl,k.a,lf,u',rv',_,us',us,k.fs,fs,j,rfl,ppr.pp,ppr.fo,Sl tk.fo,fo,hj,fun H1 s1=>?_⟩⟩
   dsimp only[zX]
   obtain⟨⟨t',ts,e1,e2,e3,e4⟩,l',few'⟩:=ppr.pp
   obtain⟨j1,j2,_,_⟩:=id hj
   rw[yB] at e3 l'
   have hul:=ppr.fo.len
   have hfl:=fo.len
   have ht:ts[j]?=some ts[j]:=yA (by lia)
   have hn:(k.P.go k.fs).1[j]?=some (k.P.go k.fs).1[j]:=yA (by lia)
   have hu:us'[j]?=some us'[j]:=yA (by lia)
   have hg:k.fs[j]?=some k.fs[j]:=yA j1
   have hf:fs[j]?=some fs[j]:=yA j2
   have hus:us[j]?=some us[j]:=yA (by lia)
   have et:=e4 j _ _ _ ht (show ((k.P.go k.fs).1.map V.str)[j]?=some (.str (k.P.go k.fs).1[j]) by rw[yF,hn];rfl) hu
   have ei1:=s1 _ _ ei
   refine⟨_,rfl,p,ATask,dx,_,.ref k.a,rfl,ei1,clT,nK,rfl,k.a,_,1,_,rfl,rfl,Sq (s1 _ _ e1),zt (j:=1) rfl,_,rfl,t',_,j,.ref ts[j],rfl,rfl,Sq (s1 _ _ e2),zt (by rw[yF,ht];rfl),?_⟩
   dsimp only[zX]
   refine⟨_,rfl,_,rfl,ts[j],_,0,_,rfl,rfl,Sq (s1 _ _ et),zt (j:=0) rfl,_,rfl,ts[j],_,1,_,rfl,rfl,Sq (s1 _ _ et),zt (j:=1) rfl,_,rfl,p,ATask,dx,_,.ref lf,rfl,ei1,clT,nF,rfl,_,rfl,lf,_,j,_,rfl,rfl,Sl (s1 _ _ tk.fo),zt hus,zl5,fun a ha=>?_⟩
   have s2:=Sn (o:=.tup [.str "look",.int j,.str (k.P.go k.fs).1[j],us'[j],us[j]]) ha
   have s12:=s1.trans s2
   have w1:=(ppr.fo.mono (zo s12)).at hu hg
   have w2:=(fo.mono (zo s12)).at hus hf
   have d1:=(ppr.fo.fd _ (yH hg)).ok.dp
   have d2:=(fo.fd _ (yH hf)).ok.dp
   refine q _ (.lst [.txt "look",.num j,.txt (k.P.go k.fs).1[j],k.fs[j].toW,fs[j].toW]) _ s12 (RW.lst zf rfl fun i v w hv hw=>match i,hv,hw with
    |0,hv,hw=>by cases hv;cases hw;exact .txt _
    |1,hv,hw=>by cases hv;cases hw;exact .num _
    |2,hv,hw=>by cases hv;cases hw;exact .txt _
    |3,hv,hw=>by cases hv;cases hw;exact w1
    |4,hv,hw=>by cases hv;cases hw;exact w2
    |_+5,hv,_=>by simp at hv) (by simp only[W.depth,depths];lia) (.inr ⟨hb,j,_,_,_,hj,hn,hg,hf,rfl⟩)
def zmr(K:tP)(H':Hp)(P:Pl)(x:Ex)(u:V)(us:List V)(fs:List Res)(kp:Option Kp)(nd pa ho:V):Prop:=
 ((P.go fs).2=none/\∃z,(P.go fs).1.getLast?=some z/\nd=.str z/\pa=.non/\ho=.non) \/
 ((∃o,(P.go fs).2=some o)/\nd=.non/\∃(pp:Addr)(rv:V)(y:W),pa=.ref pp/\Ppr K H' pp u P x us fs rv/\RW H' ho (.lst [.txt "done",y])/\y.depth<=20/\zfv x fs y kp)
def zeA(K:tP)(AT:Addr):Sp:=fun vs H Q _=>∃(p lf le:Addr)(nm u kv:V)(us es:List V)(P:Pl)(x:Ex)(fs:List Res)(kp:Option Kp),vs=[.ref p]/\Tk AT H p lf le nm .non .non .non u kv us es/\RW H u x.toW/\RuP P x/\Fo H us fs/\Al P fs/\zaJ K H kv kp/\((∃o,(P.go fs).2=some o)->∀k,kp=some k->eqW k.x.toW x.toW=true->∃j,Fst k.fs fs j) /\
 ∀(nd pa ho:V)(H':Hp),Tk AT H' p lf le nm nd pa ho u kv us es->zmr K H' P x u us fs kp nd pa ho->(∀c o,c≠p->H c=some o->H' c=some o)->Q .non H'
structure Rw where
 who:Str
 pp:Addr
 fs:List Res
abbrev Rows:=List (V×Rw)
def zgn(K:tP)(H:Hp)(P:Pl)(x:Ex)(z:V×Rw):Prop:=∃(ra:Addr)(u:V)(us:List V)(rv:V),z.1=.ref ra/\H ra=some (.tup [.str z.2.who,.ref z.2.pp])/\Ppr K H z.2.pp u P x us z.2.fs rv
theorem zgn.tq{K:tP}{H H':Hp}(t:Tq H H'){P:Pl}{x:Ex}{z:V×Rw}(h:zgn K H P x z):zgn K H' P x z:=by
 obtain⟨ra,u,us,rv,e1,e2,e4⟩:=h
 exact⟨ra,u,us,rv,e1,t _ _ trivial e2,e4.tq t⟩
noncomputable def enL(k:Kp):En:=⟨.lst [.txt "left"],k.a,k.fs⟩
noncomputable def enT(r:Rw):En:=⟨.lst [.txt "taken",.txt r.who],r.pp,r.fs⟩
def zbM(x:Ex):Option Kp->List En
 |none=>[]
 |some k=>if eqW k.x.toW x.toW then [enL k] else []
def E0(x:Ex)(kp:Option Kp)(rows:Rows):List En:=zbM x kp++rows.map fun z=>enT z.2
def zkv(K:tP)(AT:Addr):Sp:=fun vs H Q _=>∃(p dx rl:Addr)(nm u kv:V)(P:Pl)(x:Ex)(kp:Option Kp)(rows:Rows),vs=[.ref p,nm,u,kv,.ref rl]/\H p=some (.ins AT dx [])/\H rl=some (.lst (rows.map (·.1)))/\rows.length<=50/\(∀z∈rows,zgn K H P x z)/\RW H u x.toW/\RuP P x/\zaJ K H kv kp/\(∀k,kp=some k->eqW k.x.toW x.toW=true->k.x=x/\k.P=P) /\
 ∀(lf le:Addr)(l:Ens)(H':Hp),H lf=none->H le=none->Tk AT H' p lf le nm .non .non .non u kv [] (l.map (·.1))->Ends K H' P x l->l.map (·.2)=E0 x kp rows->(∀c o,c≠p->H c=some o->H' c=some o)->Q .non H'
def Ist(AT:Addr)(H:Hp)(p dx:Addr)(fs:List (Str×V))(G:Hp):Prop:=G p=some (.ins AT dx fs)/\∀c o,c≠p->H c=some o->G c=some o
theorem Ist.put{AT:Addr}{H:Hp}{p dx:Addr}{fs fs':List (Str×V)}{G:Hp}(h:Ist AT H p dx fs G):Ist AT H p dx fs' (upd G p (.ins AT dx fs')):=⟨zf,fun c o hc e=>by rw[zu hc];exact h.2 c o hc e⟩
theorem Ist.new{AT:Addr}{H:Hp}{p dx a:Addr}{fs:List (Str×V)}{G:Hp}{o':HO}(h:Ist AT H p dx fs G)(ha:G a=none):Ist AT H p dx fs (upd G a o'):=⟨by rw[zu (zm h.1 ha)];exact h.1,fun c o hc e=>by rw[zu (zm (h.2 c o hc e) ha)];exact h.2 c o hc e⟩
theorem Ist.free{AT:Addr}{H:Hp}{p dx a:Addr}{fs:List (Str×V)}{G:Hp}(h:Ist AT H p dx fs G)(n:a≠p)(ha:G a=none):H a=none:=by
 cases hh:H a with
 |none=>rfl
 |some o=>rw[h.2 a o n hh] at ha;cases ha
theorem Ist.tq{AT:Addr}{H:Hp}{p dx dx':Addr}{fs fs':List (Str×V)}{G:Hp}(h:Ist AT H p dx fs G)(hp:H p=some (.ins AT dx' fs')):Tq H G:=fun c o t e=>h.2 c o (fun z=>by rw[z,hp] at e;cases e;exact t) e
theorem znq(nm u kv lf le:V):putF "ends" le (putF "kept" kv (putF "rule" u (putF "how" .non (putF "paper" .non (putF "founds" lf (putF "needs" .non (putF "name" nm [])))))))=fT nm .non lf .non .non u kv le:=by with_unfolding_all rfl
theorem zdh:FnScope ["self","went"] ["self"] (zr zam):=mkSc rfl (by decide +kernel)
theorem zgo(F:Fun K "run" "Task.run" zam f fd)(G_Task_finish:zaj P w K mg base ATask "finish" k ["self","how","paper"] (zct ATask))(G_paper_of_run:Have P w K mg base "paper_of_run" k ["rule","founds","ended"] (zlb K))(G_Task_why:zaj P w K mg base ATask "why" k ["self"] (zmq K ATask))(G_gone:Have P w K mg base "gone" k ["rule","founds"] (zk8 K))(clT:Cls K ATask)(nR:zO K ATask "rule")(nF:zO K ATask "founds")(nN:zO K ATask "needs"):FnOk P w K mg base CX0 (k+1) f fd ["self"] (zeA K ATask):=by
 refine F.okQ zdh (by rintro _ _ _ _ ⟨_,_,_,_,_,_,_,_,_,_,_,_,rfl,_⟩;rfl) fun cdv A outer s H vs Q E hr h=>?_
 obtain⟨p,lf,le,nm,u,kv,us,es,P,x,fs,kp,rfl,tk,ru,rp,fo,al,hk,hfst,q⟩:=h
 refine⟨_,(zj (zG (i:=1) zdh.nd rfl (Or.inl rfl) (zy G_gone hr rfl (zc (zL (pv 0) rfl) (zc (zL (pv 0) rfl) zi))))
  (zq (zN (zH Z0 (zx zD (pv 1) zk (fun _ _=>rfl)) zA (nomark _)) (zq (ZY (pv 0) (zx zF (zx zD (pv 1) zk (fun _ _=>rfl)) (zcy zbx zk) (fun _ _=>rfl)) rfl)) (zq (Ze (pe_m G_Task_finish hr (pv 0) (zc (zE (zc zA (zc (zhu G_Task_why hr (pv 0)) zi))) (zc (zy G_paper_of_run hr rfl (zc (zL (pv 0) rfl) (zc (zL (pv 0) rfl) (zc (pv 1) zi)))) zi)))))))),?_⟩
 obtain⟨dx,ei⟩:=tk.ins
 have few:=fo.few
 obtain⟨ev2,ev1⟩:=rp.ev fs fo.ns
 refine⟨_,rfl,p,ATask,dx,_,u,rfl,ei,clT,nR,rfl,_,rfl,p,ATask,dx,_,.ref lf,rfl,ei,clT,nF,rfl,?_⟩
 refine⟨u,lf,us,fs,x,rfl,ru,Sl tk.fo,fo.len,by lia,fo.res,by have:=rp.hi;lia,fo.fine rp.wf,fun hst a l H1 s1 hl ea el=>?_,fun hst a l rv H1 s1 hl ea el rr=>?_⟩
 ·dsimp only[zX]
  have hno:(P.go fs).2=none:=by
   rcases zad (P.go fs).2 with h|⟨o,h⟩
   ·exact h
   ·rw[h] at ev1
    exact absurd (ev1.symm.trans hst) (rp.ns fs o h)
  rw[ev2] at el
  have hlen:=zb3 P fs hno
  have hlt:fs.length<(P.go fs).1.length:=by lia
  have hz:(P.go fs).1.getLast?=some (P.go fs).1[fs.length]:=by
   rw[List.getLast?_eq_getElem?,hlen,vQ]
   exact yA hlt
  have hat:atI ((P.go fs).1.map V.str) (-1)=some (.str (P.go fs).1[fs.length]):=za4 (by rw[yB,hlen,vQ,yF,yA hlt];rfl) (by rw[yB];lia)
  have tk1:=tk.same s1
  obtain⟨dx1,ei1⟩:=tk1.ins
  refine⟨_,rfl,a,_,0,_,rfl,rfl,Sq ea,zt (j:=0) rfl,rfl,_,rfl,iteT ?_⟩
  refine⟨_,rfl,a,_,1,_,rfl,rfl,Sq ea,zt (j:=1) rfl,_,rfl,l,_,-1,_,rfl,rfl,Sl el,hat,_,rfl,p,ATask,dx1,_,rfl,ei1,clT,nN,(by show 8<1000;decide),?_⟩
  exact q _ _ _ _ (tk1.put (zey nm .non (.ref lf) .non .non u kv (.ref le) _)) (.inl ⟨hno,_,hz,rfl,rfl,rfl⟩) (fun c o hc e=>by rw[zu hc];exact s1 _ _ e)
 ·dsimp only[zX]
  obtain⟨o,ho⟩:∃o,(P.go fs).2=some o:=by
   rcases zad (P.go fs).2 with h|h
   ·rw[h] at ev1
    exact absurd ev1 hst
   ·exact h
  have cm:Cm P fs:=by
   rcases al with h|h
   ·rw[h] at ho;cases ho
   ·exact h
  rw[ev2] at el
  have tk1:=tk.same s1
  obtain⟨dx1,ei1⟩:=tk1.ins
  refine⟨_,rfl,a,_,0,_,rfl,rfl,Sq ea,zt (j:=0) rfl,rfl,_,rfl,iteF ?_⟩
  refine⟨_,rfl,p,dx1,_,rfl,ei1,rfl,?_⟩
  refine⟨_,rfl,p,dx1,_,rfl,ei1,rfl,p,lf,le,nm,_,_,_,u,kv,us,es,P,x,fs,kp,rfl,tk1,ru.mono (zo s1),rp,fo.mono (zo s1),hk.tq (zV s1),hfst ⟨o,ho⟩,fun v y H2 s2 rwy dy why=>⟨zl2,fun b hb=>?_⟩⟩
  have s3:=Sn (o:=.tup [.str "done",v]) hb
  have w3:RW (upd H2 b (.tup [.str "done",v])) (.ref b) (.lst [.txt "done",y]):=RW.pair zf (.txt _) (rwy.mono (zo s3))
  have sA:=(s1.trans s2).trans s3
  have sB:=s2.trans s3
  generalize upd H2 b (.tup [.str "done",v])=H3 at s3 w3 sA sB
  have tk3:=tk1.same sB
  obtain⟨dx3,ei3⟩:=tk3.ins
  refine⟨_,rfl,p,ATask,dx3,_,u,rfl,ei3,clT,nR,rfl,_,rfl,p,ATask,dx3,_,.ref lf,rfl,ei3,clT,nF,rfl,_,rfl,u,rv,lf,a,l,_,us,rfl,Sl tk3.fo,sB _ _ ea,sB _ _ el,by rw[yB,cm.2];exact fo.len.symm,by rw[yB,cm.2];lia,fun pp H4 s4 hpp=>?_⟩
  have tk4:=tk3.same s4
  refine⟨p,lf,le,nm,_,_,_,u,kv,_,_,us,es,rfl,tk4,fun H5 tk5 k5=>?_⟩
  have t5:Tq H4 H5:=fun c o t e=>k5 c o (fun z=>by obtain⟨dx,e'⟩:=tk4.ins;rw[z,e'] at e;cases e;exact t) e
  have t35:Tq H3 H5:=(zV s4).trans t5
  have ppr:Ppr K H5 pp u P x us fs rv:=⟨ru.mono ((zV (sA.trans s4)).trans t5).tups,rp,cm,fo.mono ((zV (sA.trans s4)).trans t5).tups,hpp.tups t5.tups,(rr.mono (sB.trans s4)).tq t5⟩
  exact q _ _ _ _ tk5 (.inr ⟨⟨o,ho⟩,rfl,pp,rv,y,rfl,ppr,w3.mono t35.tups,dy,why⟩) (fun c o hc e=>k5 c o hc ((sA.trans s4) _ _ e))
theorem zcj:FnScope ["self","name","rule","kept","rows"] ["self","name","rule","kept","rows"] (zr Zj):=mkSc rfl (by decide +kernel)
theorem zck(F:Fun K "__init__" "Task.__init__" Zj f fd)(G_Task_has_kept_rule:zaj P w K mg base ATask "has_kept_rule" k ["self"] (zku K ATask))(clT:Cls K ATask)(nNm:zO K ATask "name")(nN:zO K ATask "needs")(nF:zO K ATask "founds")(nP:zO K ATask "paper")(nH:zO K ATask "how")(nR:zO K ATask "rule")(nK:zO K ATask "kept")(nE:zO K ATask "ends"):FnOk P w K mg base CX0 (k+1) f fd ["self","name","rule","kept","rows"] (zkv K ATask):=by
 refine F.okQ zcj (by rintro _ _ _ _ ⟨_,_,_,_,_,_,_,_,_,_,rfl,_⟩;rfl) fun cdv A outer s H vs Q E hr h=>?_
 obtain⟨p,dx,rl,nm,u,kv,P,x,kp,rows,rfl,hp,hrl,hrn,hro,ru,rp,hk,hko,q⟩:=h
 refine⟨_,(zj (ZY (pv 0) (pv 1) rfl)
  (zj (ZY (pv 0) zaB rfl)
  (zj (ZY (pv 0) (Zb zi) rfl)
  (zj (ZY (pv 0) zaB rfl)
  (zj (ZY (pv 0) zaB rfl)
  (zj (ZY (pv 0) (pv 2) rfl)
  (zj (ZY (pv 0) (pv 3) rfl)
  (zj (ZY (pv 0) (Zx [] [] rfl rfl (by decide +kernel) rfl (by decide +kernel) rfl (by decide +kernel) trivial rfl trivial (ZZ (pv 4)) (fun C s H fp=>⟨Zl,(zE (zc (zE (zc zA (zc (zx (show IxR _ (rIxT K) from zD) (pv 0) zk (fun _ _=>rfl)) zi))) (zc (zx (show IxR _ (rIxT K) from zD) (pv 0) zk (fun _ _=>rfl)) zi)))⟩)) rfl)
  (zq (zN (zZ (zhu G_Task_has_kept_rule hr (pv 0))) (zq (Ze (zcf tM PySem.F.slot_list_insert PySem.F.type_list_insert ziW (zL (pv 0) rfl) (zc zk (zc (zE (zc (zE (zc zA zi)) (zc (pv 3) zi))) zi))))) zC)))))))))),?_⟩
 refine⟨_,rfl,_,rfl,p,ATask,dx,_,rfl,hp,clT,nNm,(by show 0<1000;decide),?_⟩
 have i1:=Ist.put (fs':=putF "name" nm []) ⟨hp,fun c o _ e=>e⟩
 generalize upd H p (.ins ATask dx (putF "name" nm []))=H1 at i1
 refine⟨_,rfl,p,ATask,dx,_,rfl,i1.1,clT,nN,(by show 1<1000;decide),?_⟩
 have i2:=i1.put (fs':=putF "needs" .non (putF "name" nm []))
 generalize upd H1 p (.ins ATask dx (putF "needs" .non (putF "name" nm [])))=H2 at i2
 refine⟨zl0,fun lf hlf=>?_⟩
 have elf:upd H2 lf (.lst []) lf=some (.lst []):=zf
 have npl:p≠lf:=zm i2.1 hlf
 have hlf0:=i2.free npl.symm hlf
 have i3:=i2.new (o':=.lst []) hlf
 generalize upd H2 lf (.lst [])=H3 at elf i3
 refine⟨_,rfl,p,ATask,dx,_,rfl,i3.1,clT,nF,(by show 2<1000;decide),?_⟩
 have i4:=i3.put (fs':=putF "founds" (.ref lf) (putF "needs" .non (putF "name" nm [])))
 have e4:upd H3 p (.ins ATask dx (putF "founds" (.ref lf) (putF "needs" .non (putF "name" nm [])))) lf=some (.lst []):=by rw[zu npl.symm];exact elf
 generalize upd H3 p (.ins ATask dx (putF "founds" (.ref lf) (putF "needs" .non (putF "name" nm []))))=H4 at i4 e4
 refine⟨_,rfl,p,ATask,dx,_,rfl,i4.1,clT,nP,(by show 3<1000;decide),?_⟩
 have i5:=i4.put (fs':=putF "paper" .non (putF "founds" (.ref lf) (putF "needs" .non (putF "name" nm []))))
 have e5:upd H4 p (.ins ATask dx (putF "paper" .non (putF "founds" (.ref lf) (putF "needs" .non (putF "name" nm []))))) lf=some (.lst []):=by rw[zu npl.symm];exact e4
 generalize upd H4 p (.ins ATask dx (putF "paper" .non (putF "founds" (.ref lf) (putF "needs" .non (putF "name" nm [])))))=H5 at i5 e5
 refine⟨_,rfl,p,ATask,dx,_,rfl,i5.1,clT,nH,(by show 4<1000;decide),?_⟩
 have i6:=i5.put (fs':=putF "how" .non (putF "paper" .non (putF "founds" (.ref lf) (putF "needs" .non (putF "name" nm [])))))
 have e6:upd H5 p (.ins ATask dx (putF "how" .non (putF "paper" .non (putF "founds" (.ref lf) (putF "needs" .non (putF "name" nm [])))))) lf=some (.lst []):=by rw[zu npl.symm];exact e5
 generalize upd H5 p (.ins ATask dx (putF "how" .non (putF "paper" .non (putF "founds" (.ref lf) (putF "needs" .non (putF "name" nm []))))))=H6 at i6 e6
 refine⟨_,rfl,_,rfl,p,ATask,dx,_,rfl,i6.1,clT,nR,(by show 5<1000;decide),?_⟩
 have i7:=i6.put (fs':=putF "rule" u (putF "how" .non (putF "paper" .non (putF "founds" (.ref lf) (putF "needs" .non (putF "name" nm []))))))
 have e7:upd H6 p (.ins ATask dx (putF "rule" u (putF "how" .non (putF "paper" .non (putF "founds" (.ref lf) (putF "needs" .non (putF "name" nm []))))))) lf=some (.lst []):=by rw[zu npl.symm];exact e6
 generalize upd H6 p (.ins ATask dx (putF "rule" u (putF "how" .non (putF "paper" .non (putF "founds" (.ref lf) (putF "needs" .non (putF "name" nm [])))))))=H7 at i7 e7
 refine⟨_,rfl,_,rfl,p,ATask,dx,_,rfl,i7.1,clT,nK,(by show 6<1000;decide),?_⟩
 have i8:=i7.put (fs':=putF "kept" kv (putF "rule" u (putF "how" .non (putF "paper" .non (putF "founds" (.ref lf) (putF "needs" .non (putF "name" nm [])))))))
 have e8:upd H7 p (.ins ATask dx (putF "kept" kv (putF "rule" u (putF "how" .non (putF "paper" .non (putF "founds" (.ref lf) (putF "needs" .non (putF "name" nm [])))))))) lf=some (.lst []):=by rw[zu npl.symm];exact e7
 generalize upd H7 p (.ins ATask dx (putF "kept" kv (putF "rule" u (putF "how" .non (putF "paper" .non (putF "founds" (.ref lf) (putF "needs" .non (putF "name" nm []))))))))=H8 at i8 e8
 have npr:p≠rl:=fun z=>by rw[z,hrl] at hp;cases hp
 have hrl8:=i8.2 _ _ npr.symm hrl
 have t8:Tq H H8:=i8.tq hp
 refine⟨_,rfl,rl,rfl,⟨_,Sl hrl8⟩,?_⟩
 refine za5 (K:=K) (vs:=rows.map (·.1)) (fun i us G=>us.length=i/\∀(j:Nat)(y:V)(z:V×Rw),us[j]?=some y->rows[j]?=some z->∃(ea:Addr)(h:V),y=.ref ea/\G ea=some (.tup [h,.ref z.2.pp])/\RW G h (enT z.2).hw) (Sl hrl8) (by rw[yB];exact yQ hrn (by decide)) ⟨rfl,fun j y z h=>by simp at h⟩ (fun _ _ _ h=>h.1) (fun i v us G R hv hP sm r=>?_) (fun us G D hP sm hD=>?_)
 ·rw[yF] at hv
  obtain⟨z,hz,rfl⟩:=yT.mp hv
  obtain⟨ra,u',us',rv',ez,era,ppr⟩:=hro z (yH hz)
  have era':=sm _ _ (t8 _ (.tup _) trivial era)
  refine⟨_,rfl,ra,_,0,_,ez,rfl,Sq era',zt (j:=0) rfl,zl2,fun a ha=>?_⟩
  have s1:=Sn (o:=.tup [.str "taken",.str z.2.who]) ha
  refine⟨_,rfl,ra,_,1,_,ez,rfl,Sq (s1 _ _ era'),zt (j:=1) rfl,zl2,fun b hb=>?_⟩
  have s2:=Sn (o:=.tup [.ref a,.ref z.2.pp]) hb
  refine r _ _ (s1.trans s2) ⟨by rw[yD,hP.1];rfl,fun j y z' hy hz'=>?_⟩
  by_cases hj:j<us.length
  ·rw[yL hj] at hy
   obtain⟨ea,h,e1,e2,e3⟩:=hP.2 j y z' hy hz'
   exact⟨ea,h,e1,(s1.trans s2) _ _ e2,e3.mono (zo (s1.trans s2))⟩
  ·rw[yK (by lia)] at hy
   have e0:j-us.length=0:=by
    have:=(yC.mp hy).1
    simp at this
    lia
   rw[e0] at hy
   cases hy
   obtain rfl:j=i:=by have:=hP.1;lia
   rw[hz] at hz'
   cases hz'
   exact⟨b,.ref a,rfl,zf,RW.pair (s2 _ _ zf) (.txt _) (.txt _)⟩
 ·rw[yB] at hP
  have eD:upd G D (.lst us) D=some (.lst us):=zf
  have sD:=sm.trans (Sn (o:=.lst us) hD)
  have hPD:∀(j:Nat)(y:V)(z:V×Rw),us[j]?=some y->rows[j]?=some z->∃(ea:Addr)(h:V),y=.ref ea/\upd G D (.lst us) ea=some (.tup [h,.ref z.2.pp])/\RW (upd G D (.lst us)) h (enT z.2).hw:=fun j y z hy hz=>by
   obtain⟨ea,h,e1,e2,e3⟩:=hP.2 j y z hy hz
   have s2:=Sn (o:=.lst us) hD
   exact⟨ea,h,e1,s2 _ _ e2,e3.mono (zo s2)⟩
  have hlen:=hP.1
  have nlD:lf≠D:=zm (sm _ _ e8) hD
  have npD:p≠D:=zm (sm _ _ i8.1) hD
  have hD0:H D=none:=i8.free npD.symm (sm.free hD)
  generalize upd G D (.lst us)=G2 at eD sD hPD
  refine⟨_,rfl,p,ATask,dx,_,rfl,sD _ _ i8.1,clT,nE,(by show 7<1000;decide),?_⟩
  have tk:Tk ATask (upd G2 p (.ins ATask dx (putF "ends" (.ref D) (putF "kept" kv (putF "rule" u (putF "how" .non (putF "paper" .non (putF "founds" (.ref lf) (putF "needs" .non (putF "name" nm []))))))))))
    p lf D nm .non .non .non u kv [] us:=
   ⟨⟨dx,by rw[zf];exact congrArg (fun z=>some (HO.ins ATask dx z)) (znq nm u kv (.ref lf) (.ref D))⟩,by rw[zu npl.symm];exact sD _ _ e8,by rw[zu npD.symm];exact eD,nlD⟩
  have t9:Tq G2 (upd G2 p (.ins ATask dx (putF "ends" (.ref D) (putF "kept" kv (putF "rule" u (putF "how" .non (putF "paper" .non (putF "founds" (.ref lf) (putF "needs" .non (putF "name" nm [])))))))))):=zfu (sD _ _ i8.1) (fun z=>z)
  have k9:∀c o,c≠p->H c=some o->upd G2 p (.ins ATask dx (putF "ends" (.ref D) (putF "kept" kv (putF "rule" u (putF "how" .non (putF "paper" .non (putF "founds" (.ref lf) (putF "needs" .non (putF "name" nm []))))))))) c=some o:=fun c o hc e=>by rw[zu hc];exact sD _ _ (i8.2 c o hc e)
  generalize upd G2 p (.ins ATask dx (putF "ends" (.ref D) (putF "kept" kv (putF "rule" u (putF "how" .non (putF "paper" .non (putF "founds" (.ref lf) (putF "needs" .non (putF "name" nm [])))))))))=G3 at tk t9 k9
  have t3:Tq H G3:=t8.trans ((zV sD).trans t9)
  obtain⟨l0,hl1,hl2,hl3⟩:∃l0:Ens,l0.map (·.1)=us/\l0.map (·.2)=rows.map (fun z=>enT z.2)/\Ends K G3 P x l0:=by
   refine⟨us.zip (rows.map fun z=>enT z.2),by rw[List.map_fst_zip];rw[yB];lia,by rw[List.map_snd_zip];rw[yB];lia,fun z hz=>?_⟩
   obtain⟨i,hi,hz'⟩:=wL.mp hz
   have hiu:i<us.length:=by rw[List.length_zip] at hi;lia
   have hir:i<rows.length:=by lia
   rw[List.getElem_zip] at hz'
   obtain⟨ea,h,e1,e2,e3⟩:=hPD i _ _ (yA hiu) (yA hir)
   obtain⟨ra,u',us',rv',ez,era,ppr⟩:=hro rows[i] (xA hir)
   rw[←hz',List.getElem_map]
   exact⟨ea,h,u',us',rv',e1,t9 _ _ trivial e2,e3.mono t9.tups,ppr.tq t3⟩
  obtain⟨dx3,ei3⟩:=tk.ins
  refine⟨_,rfl,p,dx3,_,rfl,ei3,rfl,p,lf,D,nm,_,_,_,u,kv,_,us,P,x,kp,rfl,tk,ru.mono t3.tups,rp,hk.tq t3,?_⟩
  cases hb:hasB x kp with
  |false=>
   refine⟨false,rfl,iteF ?_⟩
   refine q lf D l0 _ hlf0 hD0 (by rw[hl1];exact tk) hl3 ?_ k9
   rw[hl2]
   unfold E0
   cases kp with
   |none=>rfl
   |some k=>
    have hb:eqW k.x.toW x.toW=false:=hb
    rw[zbM,hb]
    rfl
  |true=>
   cases kp with
   |none=>cases hb
   |some k=>
    have hb:eqW k.x.toW x.toW=true:=hb
    obtain⟨rfl,u',us',rv',ppr⟩:=hk
    obtain⟨hkx,hkP⟩:=hko k rfl hb
    refine⟨true,rfl,iteT ⟨_,rfl,p,ATask,dx3,_,.ref D,rfl,ei3,clT,nE,rfl,.inl ⟨rfl,_,Sl tk.en⟩,zl1,fun a1 h1=>⟨_,rfl,zl2,fun a2 h2=>?_⟩⟩⟩
    have s1:=Sn (o:=.tup [.str "left"]) h1
    have s2:=Sn (o:=.tup [.ref a1,.ref k.a]) h2
    have s12:=s1.trans s2
    have e1:=s2 _ _ (show upd G3 a1 (.tup [.str "left"]) a1=some (.tup [.str "left"]) from zf)
    have e2:upd (upd G3 a1 (.tup [.str "left"])) a2 (.tup [.ref a1,.ref k.a]) a2=some (.tup [.ref a1,.ref k.a]):=zf
    have tk2:=tk.same s12
    generalize upd (upd G3 a1 (.tup [.str "left"])) a2 (.tup [.ref a1,.ref k.a])=G4 at s12 e1 e2 tk2
    refine⟨D,us,.ref a2,rfl,rfl,tk2.en,by lia,?_⟩
    have t4:Tq G4 (upd G4 D (.lst (.ref a2::us))):=zfu tk2.en (fun z=>z)
    have tk3:Tk ATask (upd G4 D (.lst (.ref a2::us))) p lf D nm .non .non .non u (.ref k.a) [] (.ref a2::us):=
     ⟨⟨dx3,by rw[zu npD];exact s12 _ _ ei3⟩,by rw[zu nlD];exact tk2.fo,zf,nlD⟩
    have t5:Tq G3 (upd G4 D (.lst (.ref a2::us))):=(zV s12).trans t4
    refine q lf D ((.ref a2,enL k)::l0) _ hlf0 hD0 (by rw[yX,hl1];exact tk3) (fun z hz=>?_) ?_ (fun c o hc e=>by rw[zu (zm e hD0)];exact s12 _ _ (k9 c o hc e))
    ·rcases yS.mp hz with rfl|hz
     ·have pk:=(ppr.tq t3).tq t5
      rw[hkx,hkP] at pk
      refine⟨a2,.ref a1,u',us',rv',rfl,t4 _ _ trivial e2,?_,pk⟩
      exact RW.lst (t4 _ _ trivial e1) rfl fun i v w hv hw=>match i,hv,hw with|0,hv,hw=>by cases hv;cases hw;exact .txt _|_+1,hv,_=>by simp at hv
     ·exact (hl3 z hz).tq t5
    ·rw[yX,hl2]
     unfold E0
     rw[zbM,hb]
     rfl
def zbN(K:tP)(H':Hp)(P:Pl)(x:Ex)(u:V)(us:List V)(fs:List Res)(kp:Option Kp)(l:Ens)(nd pa ho:V):Prop:=
 ((P.go fs).2=none/\∃z,(P.go fs).1.getLast?=some z/\nd=.str z/\pa=.non/\ho=.non) \/
 ((∃o,(P.go fs).2=some o)/\nd=.non/\∃(pp:Addr)(hw:W),pa=.ref pp/\RW H' ho hw/\hw.depth<=22/\((∃z r,l=z::r/\pp=z.2.pp/\hw=z.2.hw)\/(l=[]/\(∃rv,Ppr K H' pp u P x us fs rv)/\∃y,hw=.lst [.txt "done",y]/\zfv x fs y kp)))
def zg0(K:tP)(AT:Addr):Sp:=fun vs H Q _=>∃(p lf le:Addr)(nm u kv nd v:V)(us:List V)(P:Pl)(x:Ex)(fs fs':List Res)(kp:Option Kp)(l l':Ens),vs=[.ref p,v]/\Tk AT H p lf le nm nd .non .non u kv us (l.map (·.1))/\RW H u x.toW/\RuP P x/\Fo H us fs/\zaJ K H kv kp/\Ends K H P x l/\l.length<=100/\(∀z∈l,fs <+: z.2.fs/\z.2.hw.depth<=20) /\
 ((nd=.non/\fs'=fs/\l'=l/\Al P fs)\/∃z f,nd=.str z/\RW H v f.toW/\Fd f/\fs.length<5/\(P.go fs).2=none/\fs'=fs++[f]/\l'=l.filter fun z=>nxt fs.length f z.2) /\
 ((∃o,(P.go fs').2=some o)->l'=[]->∀k,kp=some k->eqW k.x.toW x.toW=true->∃j,Fst k.fs fs' j) /\
 ∀(le':Addr)(us':List V)(nd' pa' ho':V)(H':Hp),Tk AT H' p lf le' nm nd' pa' ho' u kv us' (l'.map (·.1))->(H le'=none\/le'=le)->Fo H' us' fs'->zbN K H' P x u us' fs' kp l' nd' pa' ho'->Tq H H'->(∀c o,c≠p->c≠lf->H c=some o->H' c=some o)->Q .non H'
theorem Pp.len_inj{H:Hp}{a:Addr}{u u' rv rv':V}{ns ns' us us':List V}(h:Pp H a u ns us rv)(h':Pp H a u' ns' us' rv'):ns.length=ns'.length:=by
 obtain⟨⟨t,ts,e1,e2,e3,_⟩,_,_⟩:=h
 obtain⟨⟨t',ts',e1',e2',e3',_⟩,_,_⟩:=h'
 rw[e1] at e1'
 cases e1'
 rw[e2] at e2'
 have:ts.map V.ref=ts'.map V.ref:=by injection e2' with h;injection h
 have:=congrArg List.length this
 rw[yB,yB] at this
 lia
theorem zg1{fs gs:List Res}{f:Res}(h:fs <+: gs)(e:gs[fs.length]?=some f):fs++[f] <+: gs:=by
 obtain⟨t,rfl⟩:=h
 rw[yK (yE _),vO] at e
 cases t with
 |nil=>cases e
 |cons g t=>cases e;exact⟨t,by simp⟩
theorem Fo.snoc{H:Hp}{us:List V}{fs:List Res}{v:V}{f:Res}(h:Fo H us fs)(r:RW H v f.toW)(d:Fd f)(l:fs.length<5):Fo H (us++[v]) (fs++[f]):=
 ⟨by rw[xN];exact h.rs.snoc r,fun x hx=>by rcases yZ.mp hx with hx|hx;exact h.fd x hx;rw[yM.mp hx];exact d,by rw[yD];show fs.length+1<=5;lia⟩
theorem zca:FnScope ["self","found","answer"] ["self","found"] (zr Z3):=mkSc rfl (by decide +kernel)
theorem zfx{dV:Value}(F:FunD K "step" "Task.step" Z3 dV f fd)(G_Task_finish:zaj P w K mg base ATask "finish" k ["self","how","paper"] (zct ATask))(G_Task_run:zaj P w K mg base ATask "run" k ["self"] (zeA K ATask))(G_matched_beginning:Have P w K mg base "matched_beginning" k ["papers","count"] (zjx))(G_Task_take:zaj P w K mg base ATask "take" k ["self","found"] (zez K ATask))(m_len:mg "len"=none)(clT:Cls K ATask)(nN:zO K ATask "needs")(nF:zO K ATask "founds")(nE:zO K ATask "ends"):FnOk P w K mg base CX0 (k+1) f fd ["self","found"] (zg0 K ATask):=by
 refine F.okQ zca (by rintro _ _ _ _ ⟨_,_,_,_,_,_,_,_,_,_,_,_,_,_,_,_,rfl,_⟩;rfl) fun cdv A outer s H vs Q E hr h=>?_
 obtain⟨p,lf,le,nm,u,kv,nd,v,us,P,x,fs,fs',kp,l,l',rfl,tk,ru,rp,fo,hk,en,few,hpre,hcase,hfst,q⟩:=h
 refine⟨_,(zj (zN (zao (zax (zL (pv 0) rfl))) (zq (Ze (pe_m G_Task_take hr (pv 0) (zc (pv 1) zi)))) zC)
  (zj (zG (i:=2) zca.nd rfl (Or.inl rfl) (zy G_matched_beginning hr rfl (zc (Zx [] [] rfl rfl (by decide +kernel) rfl (by decide +kernel) rfl (by decide +kernel) trivial rfl trivial (ZZ (zL (pv 0) rfl)) (fun C s H fp=>⟨Zl,(zx (show IxR _ (rIxT K) from zD) (pv 0) zk (fun _ _=>rfl))⟩)) (zc (zB zP rfl m_len tD (zc (zL (pv 0) rfl) zi)) zi))))
  (zq (zN (zH Z0 (zx zD (pv 2) zk (fun _ _=>rfl)) zA (nomark _)) (zq (Ze (pe_m G_Task_finish hr (pv 0) (zc (zx zD (zx zF (zL (pv 0) rfl) (zx zD (pv 2) zk (fun _ _=>rfl)) (fun _ _=>rfl)) zk (fun _ _=>rfl)) (zc (zx zD (zx zF (zL (pv 0) rfl) (zx zD (pv 2) zk (fun _ _=>rfl)) (fun _ _=>rfl)) zk (fun _ _=>rfl)) zi))))) (zq (zN (zH Z0 (zx zD (pv 2) zk (fun _ _=>rfl)) zA (nomark _)) (zq (ZY (pv 0) (zx zD (pv 2) zk (fun _ _=>rfl)) rfl)) (zq (Ze (zhu G_Task_run hr (pv 0)))))))))),?_⟩
 have hal:Al P fs':=by
  rcases hcase with⟨_,rfl,_,h⟩|⟨z,g,_,_,_,_,h,rfl,_⟩
  ·exact h
  ·exact zgf h g
 have en':∀{G:Hp},Tq H G->Ends K G P x l':=fun t z hz=>by
  rcases hcase with⟨_,_,rfl,_⟩|⟨_,_,_,_,_,_,_,_,rfl⟩
  ·exact (en z hz).tq t
  ·exact (en z (xZ.mp hz).1).tq t
 have hpre':∀z∈l',fs' <+: z.2.fs/\z.2.hw.depth<=20:=fun z hz=>by
  rcases hcase with⟨_,rfl,rfl,_⟩|⟨_,g,_,_,dg,_,_,rfl,rfl⟩
  ·exact hpre z hz
  ·obtain⟨hz,hn⟩:=xZ.mp hz
   refine⟨zg1 (hpre z hz).1 ?_,(hpre z hz).2⟩
   obtain⟨_,_,_,_,_,_,_,_,ppr⟩:=en z hz
   have hn:nxt fs.length g z.2=true:=hn
   unfold nxt at hn
   cases hg:z.2.fs[fs.length]? with
   |none=>rw[hg] at hn;cases hn
   |some g'=>
    rw[hg] at hn
    rw[zbK (ppr.fo.fd _ (yH hg)).ns dg.ns ((zb0 _ _).mp hn)]
 have few':l'.length<=100:=by
  rcases hcase with⟨_,_,rfl,_⟩|⟨_,_,_,_,_,_,_,_,rfl⟩
  ·exact few
  ·exact yQ (vD _ _) few
 refine seqI (fun σ' G=>σ'=[some (.ref p),some v,none]/\∃(le1:Addr)(us1:List V),Tk ATask G p lf le1 nm .non .non .non u kv us1 (l'.map (·.1))/\(H le1=none\/le1=le)/\Fo G us1 fs'/\Tq H G/\∀c o,c≠p->c≠lf->H c=some o->G c=some o) (fun σ' G h=>?_) (fun nx=>?_)
 ·obtain⟨rfl,le1,us1,tk1,hle1,fo1,t1,k1⟩:=h
  obtain⟨dx1,ei1⟩:=tk1.ins
  have en1:=en' t1
  refine⟨_,rfl,p,ATask,dx1,_,.ref le1,rfl,ei1,clT,nE,rfl,le1,rfl,⟨_,Sl tk1.en⟩,?_⟩
  refine za5 (K:=K) (vs:=l'.map (·.1)) (fun i us G'=>us=(l'.map fun z=>V.ref z.2.pp).take i/\i<=l'.length) (Sl tk1.en) (by rw[yB];exact yQ few' (by decide)) ⟨rfl,yN _⟩ (fun i us _ h=>by rw[h.1,yP,yB];lia) (fun i vv us G' R hv hP sm r=>?_) (fun us G' D hP sm hD=>?_)
  ·rw[yF] at hv
   obtain⟨z,hz,rfl⟩:=yT.mp hv
   obtain⟨ea,h,u',us',rv',e1,e2,e3,ppr⟩:=en1 z (yH hz)
   refine⟨_,rfl,ea,_,1,_,e1,rfl,Sq (sm _ _ e2),zt (j:=1) rfl,r _ _ (Sr _) ⟨?_,?_⟩⟩
   ·rw[hP.1,Zg (show (l'.map fun z=>V.ref z.2.pp)[i]?=some (.ref z.2.pp) by rw[yF,hz];rfl)]
   ·exact (yC.mp hz).1
  ·obtain⟨rfl,_⟩:=hP
   have eq0:(l'.map fun z=>V.ref z.2.pp).take (l'.map (·.1)).length=(l'.map (·.2.pp)).map V.ref:=by
    rw[yB,xJ (by rw[yB];exact yE _),vN]
    rfl
   rw[eq0]
   have eD:upd G' D (.lst ((l'.map (·.2.pp)).map V.ref)) D=some (.lst ((l'.map (·.2.pp)).map V.ref)):=zf
   have s1:=sm.trans (Sn (o:=.lst ((l'.map (·.2.pp)).map V.ref)) hD)
   generalize upd G' D (.lst ((l'.map (·.2.pp)).map V.ref))=G2 at eD s1
   have tk2:=tk1.same s1
   obtain⟨dx2,ei2⟩:=tk2.ins
   have t2:=t1.trans (zV s1)
   have en2:=en' t2
   have fo2:=fo1.mono (zo s1)
   have hlen:=fo2.len
   have alls:∀pp∈l'.map (·.2.pp),∃u ns us rv,Pp G2 pp u ns us rv:=fun pp hp=>by
    obtain⟨z,hz,rfl⟩:=xP.mp hp
    obtain⟨_,_,u',us',rv',_,_,_,ppr⟩:=en2 z hz
    exact⟨_,_,_,_,ppr.pp⟩
   have kA:∀{G3:Hp},Same G2 G3->∀c o,c≠p->c≠lf->H c=some o->G3 c=some o:=fun s c o c1 c2 e=>s _ _ (s1 _ _ (k1 c o c1 c2 e))
   refine⟨_,rfl,p,ATask,dx2,_,.ref lf,rfl,ei2,clT,nF,rfl,_,_,rfl,.inl ⟨_,Sl tk2.fo,rfl⟩,D,l'.map (·.2.pp),fs'.length,by rw[hlen];rfl,eD,by rw[yB];lia,alls,?_⟩
   have run:∀(a:Addr)(G3:Hp),Same G2 G3->G3 a=some (.tup [.str "none"])->l'=[]->zeA K ATask [.ref p] G3 (fun _ G4=>Q .non G4) E:=fun a G3 s3 ea hl=>by
    have tk3:=tk2.same s3
    have t3:=t2.trans (zV s3)
    refine⟨p,lf,le1,nm,u,kv,us1,_,P,x,fs',kp,rfl,tk3,ru.mono t3.tups,rp,fo2.mono (zo s3),hal,hk.tq t3,fun ho=>hfst ho hl,fun nd pa ho G4 tk4 post k4=>?_⟩
    have t4:Tq G3 G4:=fun c o t e=>k4 c o (fun z=>by obtain⟨dx,e'⟩:=tk3.ins;rw[z,e'] at e;cases e;exact t) e
    refine q le1 us1 nd pa ho G4 tk4 hle1 ((fo2.mono (zo s3)).mono t4.tups) ?_ (t3.trans t4) (fun c o c1 c2 e=>k4 c o c1 (kA s3 c o c1 c2 e))
    rcases post with⟨h1,h2⟩|⟨h1,h2,pp,rv,y,h3,h4,h5,h6,h7⟩
    ·exact .inl ⟨h1,h2⟩
    ·exact .inr ⟨h1,h2,pp,_,h3,h5,by simp only[W.depth,depths];lia,.inr ⟨hl,⟨rv,h4⟩,y,rfl,h7⟩⟩
   cases hl:l' with
   |nil=>
    refine .inl ⟨rfl,fun a G3 s3 ea=>?_⟩
    dsimp only[zX]
    obtain⟨dx3,ei3⟩:=(tk2.same s3).ins
    refine⟨_,rfl,a,_,0,_,rfl,rfl,Sq ea,zt (j:=0) rfl,rfl,_,rfl,iteF ?_⟩
    refine⟨_,rfl,a,_,0,_,rfl,rfl,Sq ea,zt (j:=0) rfl,rfl,_,rfl,iteF ?_⟩
    exact⟨_,rfl,p,dx3,_,rfl,ei3,rfl,run a G3 s3 ea hl⟩
   |cons z r=>
    have hz:z∈l':=by rw[hl];exact yY
    obtain⟨ea0,h0,u',us',rv',e1,e2,e3,ppr⟩:=en2 z hz
    rcases zad (P.go fs').2 with hgo|⟨o,hgo⟩
    ·obtain⟨c1,zn,c2,c3⟩:=zgg ppr.cm (hpre' z hz).1 hgo
     refine .inr (.inr ⟨z.2.pp,r.map (·.2.pp),u',_,us',rv',.str zn,rfl,ppr.pp,by rw[yF,c2];rfl,fun pp hp u2 ns2 us2 rv2 hpp=>?_,fun a G3 s3 ea=>?_⟩)
     ·obtain⟨z',hz',rfl⟩:=xP.mp hp
      have hz'':z'∈l':=by rw[hl];exact hz'
      obtain⟨_,_,u3,us3,rv3,_,_,_,ppr3⟩:=en2 z' hz''
      obtain⟨d1,_⟩:=zgg ppr3.cm (hpre' z' hz'').1 hgo
      have:=hpp.len_inj ppr3.pp
      rw[yB,ppr3.cm.2] at this
      lia
     ·dsimp only[zX]
      have tk3:=tk2.same s3
      obtain⟨dx3,ei3⟩:=tk3.ins
      refine⟨_,rfl,a,_,0,_,rfl,rfl,Sq ea,zt (j:=0) rfl,rfl,_,rfl,iteF ?_⟩
      refine⟨_,rfl,a,_,0,_,rfl,rfl,Sq ea,zt (j:=0) rfl,rfl,_,rfl,iteT ?_⟩
      refine⟨_,rfl,a,_,1,_,rfl,rfl,Sq ea,zt (j:=1) rfl,_,rfl,p,ATask,dx3,_,rfl,ei3,clT,nN,(by show 8<1000;decide),?_⟩
      have t4:=tk3.tq (o:=.ins ATask dx3 (putF "needs" (.str zn) (fT nm .non (.ref lf) .non .non u kv (.ref le1))))
      exact q le1 us1 _ _ _ _ (tk3.put (zey nm .non (.ref lf) .non .non u kv (.ref le1) _)) hle1 ((fo2.mono (zo s3)).mono t4.tups) (.inl ⟨hgo,zn,c3,rfl,rfl,rfl⟩) ((t2.trans (zV s3)).trans t4) (fun c o c1 c2 e=>by rw[zu c1];exact kA s3 c o c1 c2 e)
    ·have efs:fs'=z.2.fs:=zjq ppr.cm (hpre' z hz).1 hgo
     refine .inr (.inl ⟨z.2.pp,r.map (·.2.pp),u',_,us',rv',rfl,ppr.pp,by rw[yB,ppr.cm.2,efs],fun a G3 s3 ea=>?_⟩)
     dsimp only[zX]
     have tk3:=tk2.same s3
     have tk3':=tk3
     rw[hl] at tk3'
     obtain⟨dx3,ei3⟩:=tk3.ins
     have ez:=s3 _ _ e2
     have at0:atI ((z::r).map (·.1)) 0=some (.ref ea0):=zt (j:=0) (by rw[yX,e1];rfl)
     refine⟨_,rfl,a,_,0,_,rfl,rfl,Sq ea,zt (j:=0) rfl,rfl,_,rfl,iteT ?_⟩
     refine⟨_,rfl,p,dx3,_,rfl,ei3,rfl,?_⟩
     refine⟨_,rfl,p,ATask,dx3,_,.ref le1,rfl,ei3,clT,nE,rfl,_,rfl,a,_,1,_,rfl,rfl,Sq ea,zt (j:=1) rfl,le1,_,0,_,rfl,rfl,Sl tk3'.en,at0,ea0,_,0,_,rfl,rfl,Sq ez,zt (j:=0) rfl,?_⟩
     refine⟨_,rfl,p,ATask,dx3,_,.ref le1,rfl,ei3,clT,nE,rfl,_,rfl,a,_,1,_,rfl,rfl,Sq ea,zt (j:=1) rfl,le1,_,0,_,rfl,rfl,Sl tk3'.en,at0,ea0,_,1,_,rfl,rfl,Sq ez,zt (j:=1) rfl,?_⟩
     refine⟨p,lf,le1,nm,_,_,_,u,kv,_,_,us1,_,rfl,tk3,fun G4 tk4 k4=>?_⟩
     have t4:Tq G3 G4:=fun c o t e=>k4 c o (fun z=>by rw[z,ei3] at e;cases e;exact t) e
     refine q le1 us1 _ _ _ G4 tk4 hle1 ((fo2.mono (zo s3)).mono t4.tups) (.inr ⟨⟨o,hgo⟩,rfl,z.2.pp,z.2.hw,rfl,(e3.mono (zo s3)).mono t4.tups,?_,.inl ⟨z,r,hl,rfl,rfl⟩⟩) ((t2.trans (zV s3)).trans t4) (fun c o c1 c2 e=>k4 c o c1 (kA s3 c o c1 c2 e))
     exact yQ (hpre' z hz).2 (by decide)
 ·obtain⟨dx,ei⟩:=tk.ins
  refine⟨_,rfl,p,ATask,dx,_,nd,rfl,ei,clT,nN,rfl,?_⟩
  rcases hcase with⟨rfl,rfl,rfl,_⟩|⟨z,g,rfl,rg,dg,l5,hgo,rfl,rfl⟩
  ·refine⟨_,rfl,iteF ?_⟩
   exact nx _ _ ⟨rfl,le,us,tk,.inr rfl,fo,Tq.refl,fun c o _ _ e=>e⟩
  ·refine⟨_,rfl,iteT ⟨_,rfl,p,dx,_,rfl,ei,rfl,_,rfl,?_⟩⟩
   refine⟨p,lf,le,nm,_,_,_,u,kv,v,us,P,x,fs,g,l,rfl,tk,fo,en,few,fun z' hz'=>?_,rg,dg,fun le' G hle' tk' k'=>?_⟩
   ·obtain⟨_,_,_,_,_,_,_,_,ppr⟩:=en z' hz'
    exact (zgg ppr.cm (hpre z' hz').1 hgo).1
   ·have t':Tq H G:=fun c o t e=>k' c o (fun z=>by rw[z,ei] at e;cases e;exact t) (fun z=>by rw[z,tk.fo] at e;cases e;exact t) e
    exact nx _ _ ⟨rfl,le',us++[v],tk',.inl hle',(fo.mono t'.tups).snoc (rg.mono t'.tups) dg l5,t',k'⟩
end
end D
namespace L2
open PySem PySem.Spec PyProof.Rows
theorem zkw{K:tP}{g:TG}{te:TE}{n:Nat}{H:Hp}{F:Addr->Hp->List V->Prop}{a:Addr}{vs:List V}(Pv:Nat->List V->Hp->Prop)(hz:vs.length<=tF)(h0:Pv 0 [] H)(hlen:∀i us H1,Pv i us H1->us.length=i)(hS:∀i us H1,Pv i us H1->SqT K H1 a vs)
  (step:∀(i:Nat)(v:V)(us:List V)(H1:Hp)(R:VK)(R':Hp->Prop),vs[i]?=some v->Pv i us H1->(∀y H2,Pv (i+1) (us++[y]) H2->R y H2)->g v (xR n none) H1 fun σ2 H2=>if true=true then te σ2 H2 R else R' H2)
  (fin:∀(us:List V)(H1:Hp)(D:Addr),Pv vs.length us H1->H1 D=none->F D H1 us):
  ∃W:Nat->Nat->List V->Hp->Prop,(∃m,W 0 m [] H)/\∀i m us H,W i m us H->us.length<=tF /\
   (((Itt K a).stop i H/\∀D,H D=none->F D H us) \/
    ((Itt K a).go i H/\∀v H',(Itt K a).yld i H v H'->g v (xR n none) H' fun σ2 H2=>if true=true then te σ2 H2 fun y H4=>∃m',m'<m/\W (i+1) m' (us++[y]) H4 else ∃m',m'<m/\W (i+1) m' us H2)):=by
 refine⟨fun i m us H1=>i<=vs.length/\m=vs.length-i/\Pv i us H1,⟨_,yN _,rfl,h0⟩,fun i m us H1 hW=>?_⟩
 obtain⟨hi,hm,hu⟩:=hW
 have sq:=hS _ _ _ hu
 refine⟨by rw[hlen _ _ _ hu];lia,?_⟩
 by_cases hlt:i<vs.length
 ·refine .inr ⟨⟨vs,vs[i],sq,yA hlt⟩,fun v H' hy=>?_⟩
  obtain⟨e,hy⟩:=hy
  subst e
  exact step i v us _ _ _ (hy vs sq) hu fun y H2 p2=>⟨vs.length-(i+1),by lia,by lia,rfl,p2⟩
 ·have e:i=vs.length:=by lia
  subst e
  exact .inl ⟨⟨vs,sq,yE _⟩,fun D hD=>fin us H1 D hu hD⟩
theorem zjy{K:tP}{g:TG}{te:TE}{n:Nat}{H:Hp}{F:Addr->Hp->List V->Prop}{a:Addr}{vs:List V}(Pv:Nat->List V->Hp->Prop)(hz:vs.length<=tF)(h0:Pv 0 [] H)(hlen:∀i us H1,Pv i us H1->us.length=i)(hS:∀i us H1,Pv i us H1->SqL K H1 a vs)
  (step:∀(i:Nat)(v:V)(us:List V)(H1:Hp)(R:VK)(R':Hp->Prop),vs[i]?=some v->Pv i us H1->(∀y H2,Pv (i+1) (us++[y]) H2->R y H2)->g v (xR n none) H1 fun σ2 H2=>if true=true then te σ2 H2 R else R' H2)
  (fin:∀(us:List V)(H1:Hp)(D:Addr),Pv vs.length us H1->H1 D=none->F D H1 us):
  ∃W:Nat->Nat->List V->Hp->Prop,(∃m,W 0 m [] H)/\∀i m us H,W i m us H->us.length<=tF /\
   (((Itl K a).stop i H/\∀D,H D=none->F D H us) \/
    ((Itl K a).go i H/\∀v H',(Itl K a).yld i H v H'->g v (xR n none) H' fun σ2 H2=>if true=true then te σ2 H2 fun y H4=>∃m',m'<m/\W (i+1) m' (us++[y]) H4 else ∃m',m'<m/\W (i+1) m' us H2)):=by
 refine⟨fun i m us H1=>i<=vs.length/\m=vs.length-i/\Pv i us H1,⟨_,yN _,rfl,h0⟩,fun i m us H1 hW=>?_⟩
 obtain⟨hi,hm,hu⟩:=hW
 have sq:=hS _ _ _ hu
 refine⟨by rw[hlen _ _ _ hu];lia,?_⟩
 by_cases hlt:i<vs.length
 ·refine .inr ⟨⟨vs,vs[i],sq,yA hlt⟩,fun v H' hy=>?_⟩
  obtain⟨e,hy⟩:=hy
  subst e
  exact step i v us _ _ _ (hy vs sq) hu fun y H2 p2=>⟨vs.length-(i+1),by lia,by lia,rfl,p2⟩
 ·have e:i=vs.length:=by lia
  subst e
  exact .inl ⟨⟨vs,sq,yE _⟩,fun D hD=>fin us H1 D hu hD⟩
end L2
namespace D
open PySem L2
theorem zgp:∀(P:Pl)(fs:List Res)(o:Res),(P.go fs).2=some o->P.go (fs.take (P.go fs).1.length)=P.go fs
 |.leaf r,fs,o,h=>by rw[Pl.go,Pl.go]
 |.look t l r,[],o,h=>by rw[Pl.go] at h;cases h
 |.look t l r,f::fs,o,h=>by
  rw[zdd] at h ⊢
  rw[yJ,List.take_succ_cons,zdd]
  cases hf:is1 f with
  |true=>rw[hf] at h;simp only[if_true];rw[zgp l fs o h]
  |false=>rw[hf] at h;simp only[xC,if_false];rw[zgp r fs o h]
theorem zms{P:Pl}{fs:List Res}(h:P.deep<=fs.length):∃n,n<=fs.length/\Cm P (fs.take n)/\∀i,i<n->(P.go (fs.take i)).2=none:=by
 rcases zad (P.go fs).2 with hn|⟨o,ho⟩
 ·have:=zeq P fs hn
  lia
 ·have hl:=zbr P fs o ho
  have e:=zgp P fs o ho
  refine⟨(P.go fs).1.length,hl,⟨⟨o,by rw[e];exact ho⟩,by rw[e,yP];lia⟩,fun i hi=>?_⟩
  rcases zad (P.go (fs.take i)).2 with h0|⟨o',h0⟩
  ·exact h0
  ·have e2:=zep P (fs.take i) (fs.drop i) o' h0
   rw[vC] at e2
   have:=zbr P _ o' h0
   rw[←e2,yP] at this
   lia
theorem Fo.take{H:Hp}{us:List V}{fs:List Res}(h:Fo H us fs)(n:Nat):Fo H (us.take n) (fs.take n):=by
 refine⟨⟨?_,fun i v w hv hw=>?_⟩,fun r hr=>h.fd r (uL hr),by rw[yP];have:=h.few;lia⟩
 ·rw[yB,yP,yP,h.len]
 ·rw[wX] at hv
  rw[yF,wX] at hw
  split at hv
  ·rename_i hi
   rw[if_pos hi] at hw
   exact h.rs.at' i v w hv (by rw[yF];exact hw)
  ·cases hv
def zg2(K:tP):Sp:=fun vs H Q _=>∃(u v:V)(fl:Addr)(us:List V)(P:Pl)(x:Ex)(fs:List Res),vs=[u,v,.ref fl]/\RW H u x.toW/\RuP P x/\H fl=some (.lst us)/\Fo H us fs/\P.deep<=fs.length /\
 ∀(pp:Addr)(us':List V)(fs':List Res)(rv:V)(H':Hp),Same H H'->Ppr K H' pp u P x us' fs' rv->Q (.ref pp) H'
section
variable{P:Program}{w:World}{K:tP}{mg:Str->Option Value}{base:Heap}{f:Addr}{fd:tQ}{k n:Nat}{ARun ATask:Addr}
theorem zeB:FnScope ["_law_paper_here"] ["_law_paper_here"] (zr za0):=mkSc rfl (by decide +kernel)
theorem zeC(F:Fun K "_law_founds_of" "_law_founds_of" za0 f fd):FnOk P w K mg base CX0 (k+1) f fd ["_law_paper_here"] (zba):=by
 refine F.okQ zeB (by rintro _ _ _ _ ⟨_,_,_,_,_,rfl,_⟩;rfl) fun cdv A outer s H vs Q E hr h=>?_
 obtain⟨a,u,rv,ns,us,rfl,pp,q⟩:=h
 obtain⟨⟨t,ts,e1,e2,e3,e4⟩,l,few⟩:=pp
 refine⟨_,(zq (zw (zbE ["_law_name","_law_found_here"] rfl rfl (by decide +kernel) rfl (by decide +kernel) trivial rfl (zcw (zx zD (pv 0) zk (fun _ _=>rfl))) (fun C s H fp=>(show QG _ _ (gTup K 2 (zg7 (zX 0) (zg7 (zX 1) gNil))) from zaR rfl (zY (zR (i:=0) (show (["_law_name","_law_found_here"]:List Str).Nodup from by decide +kernel) rfl (Or.inl rfl) (Or.inr rfl)) (zY (zR (i:=1) (show (["_law_name","_law_found_here"]:List Str).Nodup from by decide +kernel) rfl (Or.inl rfl) (Or.inr rfl)) zay)))) (fun C s H fp=>⟨Zl,(pv 1)⟩)))),?_⟩
 refine⟨_,rfl,a,_,1,_,rfl,rfl,Sq e1,zt (j:=1) rfl,t,rfl,⟨_,Sq e2⟩,?_⟩
 refine zkw (K:=K) (vs:=ts.map V.ref) (fun i ys G=>ys=us.take i/\i<=us.length/\Same H G) (by rw[yB];exact yQ (show ts.length<=1000 by lia) (by decide)) ⟨rfl,yN _,Sr _⟩ (fun i ys _ h=>by rw[h.1,yP];lia) (fun i ys _ h=>Sq (h.2.2 _ _ e2)) (fun i v ys G R R' hv hP r=>?_) (fun ys G D hP hD=>?_)
 ·rw[yF] at hv
  obtain⟨b,hb,rfl⟩:=yT.mp hv
  have hi:i<ts.length:=(yC.mp hb).1
  have h1:ns[i]?=some ns[i]:=yA (by lia)
  have h2:us[i]?=some us[i]:=yA (by lia)
  obtain⟨rfl,_,sm⟩:=hP
  refine⟨b,_,rfl,Sq (sm _ _ (e4 i b _ _ hb h1 h2)),rfl,_,_,rfl,_,_,rfl,rfl,iteT ⟨_,rfl,r _ _ ⟨?_,by lia,sm⟩⟩⟩
  rw[Zg h2]
 ·obtain⟨rfl,_,sm⟩:=hP
  rw[yB,e3,l,wP]
  exact q D _ (sm.trans (Sn hD)) (sm.free hD) zf
theorem zdi:FnScope ["_law_rule","_law_plan_here","_law_founds","_law_task","_law_found_here"] ["_law_rule","_law_plan_here","_law_founds"] (zr zdY):=mkSc rfl (by decide +kernel)
theorem zjz(F:Fun K "_law_paper" "_law_paper" zdY f fd)(G_Task_step:za2 P w K mg base ATask "step" k ["self","found"] (zg0 K ATask))(G_Task___init__:zbZ P w K mg base ATask "Task" k ["self","name","rule","kept","rows"] (zkv K ATask))(clT:Cls K ATask)(nP:zO K ATask "paper"):FnOk P w K mg base CX0 (k+1) f fd ["_law_rule","_law_plan_here","_law_founds"] (zg2 K):=by
 refine F.okQ zdi (by rintro _ _ _ _ ⟨_,_,_,_,_,_,_,rfl,_⟩;rfl) fun cdv A outer s H vs Q E hr h=>?_
 obtain⟨u,v,fl,us,P,x,fs,rfl,ru,rp,hfl,fo,hde,q⟩:=h
 refine⟨_,(zj (zG (i:=3) zdi.nd rfl (Or.inl rfl) (ze3 G_Task___init__ hr rfl (zc zA (zc (pv 0) (zc zaB (zc (Zb zi) zi))))))
  (zj (Ze (zk5 G_Task_step hr (pv 3)))
  (zj (zat tL rfl (ZZ (pv 2)) (zR (i:=4) zdi.nd rfl (Or.inl rfl)) (zq (zN (zao (zb5 (zL (pv 3) rfl))) (zq (Ze (znf G_Task_step hr (pv 3) (zc (pv 4) zi)))) zC)))
  (zq (zw (zL (pv 3) rfl)))))),?_⟩
 obtain⟨n,hn,cm,hno⟩:=zms hde
 refine⟨_,rfl,zl0,fun rl hrl=>?_⟩
 have s0:=Sn (o:=.lst []) hrl
 have erl:upd H rl (.lst []) rl=some (.lst []):=zf
 generalize upd H rl (.lst [])=H0 at s0 erl
 refine fun p dx hp hdx nxp=>?_
 have s1:Same H0 (upd (upd H0 dx (.own p)) p (.ins ATask dx [])):=fun c o e=>by
  rw[zu (zm e hp),zu (zm e hdx)]
  exact e
 have ep:upd (upd H0 dx (.own p)) p (.ins ATask dx []) p=some (.ins ATask dx []):=zf
 have s01:=s0.trans s1
 generalize upd (upd H0 dx (.own p)) p (.ins ATask dx [])=H1 at s1 ep s01
 refine⟨p,dx,rl,_,u,.non,P,x,none,[],rfl,ep,s1 _ _ erl,by show 0<=50;decide,(fun z hz=>nomatch hz),ru.mono (zo s01),rp,rfl,(fun k hk=>nomatch hk),fun lf le l H2 hlf hle tk en hE k2=>⟨rfl,?_⟩⟩
 obtain rfl:l=[]:=List.map_eq_nil_iff.mp hE
 have hp0:H p=none:=s0.free hp
 have hlf0:H lf=none:=s01.free hlf
 have s2:Same H H2:=fun c o e=>k2 c o (zm e hp0) (s01 _ _ e)
 dsimp only[zX]
 obtain⟨dx2,ei2⟩:=tk.ins
 refine⟨_,rfl,p,dx2,_,rfl,ei2,rfl,?_⟩
 refine⟨p,lf,le,_,u,.non,.non,.non,[],P,x,[],[],none,[],[],rfl,tk,ru.mono (zo s2),rp,Fo.nil,rfl,en,by show 0<=100;decide,(fun z hz=>nomatch hz),.inl ⟨rfl,rfl,rfl,zgU P⟩,(fun _ _ k hk=>nomatch hk),fun le3 us3 nd3 pa3 ho3 H3 tk3 _ fo3 post3 t3 k3=>?_⟩
 have s3:Same H H3:=fun c o e=>k3 c o (zm e hp0) (zm e hlf0) (s2 _ _ e)
 refine⟨_,rfl,fl,rfl,⟨_,Sl (s3 _ _ hfl)⟩,?_⟩
 have hul:=fo.len
 refine zdI (K:=K) (xs:=us) (fun i σ' G=>∃(o4:Option V)(le:Addr)(us':List V)(nd pa ho:V),σ'=[some u,some v,some (.ref fl),some (.ref p),o4]/\Same H G/\Tk ATask G p lf le (.str "z.z") nd pa ho u .non us' []/\Fo G us' (fs.take (min i n))/\zbN K G P x u us' (fs.take (min i n)) none [] nd pa ho) ⟨none,le3,us3,nd3,pa3,ho3,rfl,s3,tk3,by rw[Nat.zero_min];exact fo3,by rw[Nat.zero_min];exact post3⟩ (fun i σ' G _ h=>?_) (fun i vv σ' G hv h=>?_) (fun σ' G h=>?_)
 ·obtain⟨_,_,_,_,_,_,_,s,_⟩:=h
  exact Sl (s _ _ hfl)
 ·obtain⟨o4,le,us',nd,pa,ho,rfl,sG,tkG,foG,post⟩:=h
  obtain⟨dxG,eiG⟩:=tkG.ins
  refine⟨_,rfl,p,ATask,dxG,_,pa,rfl,eiG,clT,nP,rfl,?_⟩
  by_cases hin:i<n
  ·have hmin:min i n=i:=by lia
   rw[hmin] at foG post
   have hgo:=hno i hin
   have hif:i<fs.length:=by lia
   have hf:fs[i]?=some fs[i]:=yA hif
   rcases post with⟨_,zz,hz1,rfl,rfl,rfl⟩|⟨⟨o,ho⟩,_⟩
   ·refine⟨_,rfl,iteT ⟨_,rfl,p,dxG,_,rfl,eiG,rfl,_,rfl,?_⟩⟩
    have hmin2:min (i+1) n=i+1:=by lia
    have h5:=fo.few
    refine⟨p,lf,le,_,u,.non,_,vv,us',P,x,fs.take i,fs.take i++[fs[i]],none,[],[],rfl,tkG,ru.mono (zo sG),rp,foG,rfl,(fun z hz=>nomatch hz),by show 0<=100;decide,(fun z hz=>nomatch hz),.inr ⟨zz,fs[i],rfl,(fo.mono (zo sG)).at hv hf,fo.fd _ (yH hf),by rw[yP];lia,hgo,rfl,rfl⟩,(fun _ _ k hk=>nomatch hk),fun le4 us4 nd4 pa4 ho4 H4 tk4 _ fo4 post4 t4 k4=>?_⟩
    have s4:Same H H4:=fun c o e=>k4 c o (zm e hp0) (zm e hlf0) (sG _ _ e)
    refine⟨_,le4,us4,nd4,pa4,ho4,rfl,s4,tk4,?_,?_⟩
    ·rw[hmin2,Zg hf];exact fo4
    ·rw[hmin2,Zg hf];exact post4
   ·rw[hgo] at ho;cases ho
  ·have hmin:min i n=n:=by lia
   have hmin2:min (i+1) n=n:=by lia
   rw[hmin] at foG post
   have post0:=post
   rcases post with⟨h0,_⟩|⟨_,_,pp,hw,rfl,_⟩
   ·obtain⟨⟨o,ho⟩,_⟩:=cm
    rw[h0] at ho;cases ho
   ·refine⟨_,rfl,iteF ?_⟩
    exact⟨_,le,us',nd,_,ho,rfl,sG,tkG,by rw[hmin2];exact foG,by rw[hmin2];exact post0⟩
 ·obtain⟨o4,le,us',nd,pa,ho,rfl,sG,tkG,foG,post⟩:=h
  have hmin:min us.length n=n:=by lia
  rw[hmin] at foG post
  obtain⟨dxG,eiG⟩:=tkG.ins
  rcases post with⟨h0,_⟩|⟨_,_,pp,hw,rfl,_,_,⟨_,_,hh,_⟩|⟨_,⟨rv,ppr⟩,_⟩⟩
  ·obtain⟨⟨o,ho⟩,_⟩:=cm
   rw[h0] at ho;cases ho
  ·cases hh
  ·exact⟨_,rfl,p,ATask,dxG,_,.ref pp,rfl,eiG,clT,nP,rfl,q pp us' _ rv G sG ppr⟩
theorem zdj{ws:List W}{n:Nat}(h:∀w∈ws,w.depth<=n):depths ws<=n:=by
 induction ws with
 |nil=>rw[depths];lia
 |cons w r ih=>
  rw[depths]
  have:=h w (by simp)
  have:=ih fun u hu=>h u (yV _ hu)
  lia
theorem RW.one{H:Hp}{a:Addr}{v:V}{x:W}(e:H a=some (.tup [v]))(r:RW H v x):RW H (.ref a) (.lst [x]):=.lst e rfl fun i u w hv hw=>match i,hv,hw with|0,hv,hw=>by cases hv;cases hw;exact r|_+1,hv,_=>by simp at hv
noncomputable def preB(fs gs:List Res):Bool:=@decide (fs <+: gs) (Classical.propDecidable _)
theorem zcb{fs gs:List Res}:preB fs gs=true ↔ fs <+: gs:=by unfold preB;exact @decide_eq_true_iff _ (Classical.propDecidable _)
theorem zg3{fs gs:List Res}:preB fs gs=false ↔ ¬fs <+: gs:=by
 rw[←zcb]
 cases preB fs gs<;>simp
theorem zg4:∀{fs gs:List Res},(∀r∈fs,r≠Res.stop)->(∀r∈gs,r≠Res.stop)->fs.map Res.toW=gs.map Res.toW->fs=gs
 |[],[],_,_,_=>rfl
 |[],_::_,_,_,h=>by simp at h
 |_::_,[],_,_,h=>by simp at h
 |f::fs,g::gs,h1,h2,h=>by
  rw[yX,yX] at h
  injection h with h3 h4
  rw[zbK (h1 f yY) (h2 g yY) h3,zg4 (fun r hr=>h1 r (yV _ hr)) (fun r hr=>h2 r (yV _ hr)) h4]
theorem zg5{P:Pl}{fs gs:List Res}(h1:Cm P fs)(h2:Cm P gs)(n1:∀r∈fs,r≠Res.stop)(n2:∀r∈gs,r≠Res.stop):preB fs gs=eqW (.lst (gs.map Res.toW)) (.lst (fs.map Res.toW)):=by
 obtain⟨⟨o,ho⟩,_⟩:=h1
 cases hb:eqW (.lst (gs.map Res.toW)) (.lst (fs.map Res.toW)) with
 |true=>
  have e:=(zb0 _ _).mp hb
  injection e with e
  rw[zg4 n2 n1 e]
  exact zcb.mpr (wQ _)
 |false=>
  refine zg3.mpr fun z=>?_
  rw[zjq h2 z ho,Zr] at hb
  cases hb
theorem zld:∀(fs gs:List Res),¬fs <+: gs->¬gs <+: fs->∃j,Fst fs gs j
 |[],gs,h,_=>absurd (uC) h
 |_::_,[],_,h=>absurd (uC) h
 |f::fs,g::gs,h1,h2=>by
  by_cases e:f=g
  ·subst e
   obtain⟨j,a,b,c,d⟩:=zld fs gs (fun z=>h1 ((wH).mpr ⟨rfl,z⟩)) (fun z=>h2 ((wH).mpr ⟨rfl,z⟩))
   refine⟨j+1,by rw[yJ];lia,by rw[yJ];lia,fun i hi=>?_,by rw[xH,xH];exact d⟩
   cases i with
   |zero=>rfl
   |succ i=>rw[xH,xH];exact c i (by lia)
  ·exact⟨0,by simp,by simp,fun i hi=>absurd hi (Nat.not_lt_zero _),fun z=>e (by simpa using z)⟩
theorem zle{P:Pl}{fs gs:List Res}(h1:Cm P fs)(h2:Cm P gs)(n:preB fs gs=false):∃j,Fst gs fs j:=by
 have n1:=zg3.mp n
 refine zld gs fs (fun z=>n1 ?_) n1
 obtain⟨⟨o,ho⟩,_⟩:=h2
 rw[zjq h1 z ho]
 exact wQ _
theorem zkx{fs gs:List Res}{i j:Nat}(h1:Fst fs gs i)(h2:Fst fs gs j):i=j:=by
 obtain⟨_,_,a1,b1⟩:=h1
 obtain⟨_,_,a2,b2⟩:=h2
 rcases Nat.lt_trichotomy i j with h|h|h
 ·exact absurd (a2 i h) b1
 ·exact h
 ·exact absurd (a1 j h) b2
theorem zky{x:Ex}{fs:List Res}{y z:W}:∀{kp:Option Kp},zfv x fs y kp->zfv x fs z kp->y=z
 |none,h1,h2=>by rw[show y=_ from h1,show z=_ from h2]
 |some k,h1,h2=>by
  rcases h1 with⟨a,rfl⟩|⟨a,j,n,g,f,h1,h2',h3,h4,rfl⟩
  ·rcases h2 with⟨b,rfl⟩|⟨b,_⟩
   ·rfl
   ·rw[a] at b;cases b
  ·rcases h2 with⟨b,_⟩|⟨b,j',n',g',f',i1,i2,i3,i4,rfl⟩
   ·rw[a] at b;cases b
   ·obtain rfl:=zkx h1 i1
    rw[h2'] at i2
    rw[h3] at i3
    rw[h4] at i4
    cases i2
    cases i3
    cases i4
    rfl
def znr(x:Ex)(kp:Option Kp)(es:List En)(fs:List Res)(hw:W):Prop:=(∃e r,es.filter (fun e=>preB fs e.fs)=e::r/\hw=e.hw)\/(es.filter (fun e=>preB fs e.fs)=[]/\∃y,hw=.lst [.txt "done",y]/\zfv x fs y kp)
def zns(K:tP):Sp:=fun vs H Q _=>∃(u kv:V)(rl fl:Addr)(us:List V)(P:Pl)(x:Ex)(fs:List Res)(kp:Option Kp)(rows:Rows),vs=[u,kv,.ref rl,.ref fl]/\RW H u x.toW/\RuP P x/\zaJ K H kv kp/\(∀k,kp=some k->eqW k.x.toW x.toW=true->k.x=x/\k.P=P)/\H rl=some (.lst (rows.map (·.1)))/\rows.length<=50/\(∀z∈rows,zgn K H P x z)/\H fl=some (.lst us)/\Fo H us fs/\Cm P fs /\
 ∀(v:V)(hw:W)(H':Hp),Same H H'->RW H' v hw->znr x kp (E0 x kp rows) fs hw->Q v H'
theorem zb4:FnScope ["_law_rule","_law_kept","_law_rows","_law_founds","_law_who","_law_paper_here","_law_k","_law_name","_law_was"] ["_law_rule","_law_kept","_law_rows","_law_founds"] (zr ziy):=mkSc rfl (by decide +kernel)
theorem zmt(F:Fun K "_law_how" "_law_how" ziy f fd)(G_lfounds_of:Have P w K mg base "_law_founds_of" k ["_law_paper_here"] (zba))(m_len:mg "len"=none)(m_range:mg "range"=none):FnOk P w K mg base CX0 (k+1) f fd ["_law_rule","_law_kept","_law_rows","_law_founds"] (zns K):=by
 refine F.okQ zb4 (by rintro _ _ _ _ ⟨_,_,_,_,_,_,_,_,_,_,rfl,_⟩;rfl) fun cdv A outer s H vs Q E hr h=>?_
 obtain⟨u,kv,rl,fl,us,P,x,fs,kp,rows,rfl,ru,rp,hk,hko,hrl,hrn,hro,hfl,fo,cm,q⟩:=h
 refine⟨_,(zj (zN (PW.pt (zcu (zao (zax (pv 1))) (zcu (zH (zb1 hr.units) (zx zD (pv 1) zk (fun _ _=>rfl)) (pv 0) (nomark _)) (zbO (zH (ziS hr.units) (zy G_lfounds_of hr rfl (zc (pv 1) zi)) (pv 3) (nomark _)))))) (zq (zw (zE (zc zA zi)))) zC)
  (zj (zat tL rfl (ZZ (pv 2)) (zaR rfl (zY (zR (i:=4) zb4.nd rfl (Or.inl rfl)) (zY (zR (i:=5) zb4.nd rfl (Or.inl rfl)) zay))) (zq (zN (zH (ziS hr.units) (zy G_lfounds_of hr rfl (zc (pv 5) zi)) (pv 3) (nomark _)) (zq (zw (zE (zc zA (zc (pv 4) zi))))) zC)))
  (zj (zN (zao (zb5 (pv 1))) (zq (zw (zE (zc zA (zc (zE (zc zA zi)) zi))))) zC)
  (zj (zN (zH (zea hr.units) (zx zD (pv 1) zk (fun _ _=>rfl)) (pv 0) (nomark _)) (zq (zw (zE (zc zA (zc (zE (zc zA zi)) zi))))) zC)
  (zj (zat tL rfl (ZD rfl m_range (zc (zB zP rfl m_len tD (zc (pv 3) zi)) zi)) (zR (i:=6) zb4.nd rfl (Or.inl rfl)) (zj (zaD (zx zD (zx zD (pv 1) zk (fun _ _=>rfl)) (pv 6) (fun _ _=>rfl)) (zaR rfl (zY (zR (i:=7) zb4.nd rfl (Or.inl rfl)) (zY (zR (i:=8) zb4.nd rfl (Or.inl rfl)) zay))))
  (zq (zN (zH (zea hr.units) (pv 8) (zx zF (pv 3) (pv 6) (fun _ _=>rfl)) (nomark _)) (zq (zw (zE (zc zA (zc (zE (zc zA (zc (pv 6) (zc (pv 7) (zc (pv 8) (zc (zx zF (pv 3) (pv 6) (fun _ _=>rfl)) zi)))))) zi))))) zC))))
  (zq (zw (zE (zc zA zi))))))))),?_⟩
 obtain⟨zs,ez,rz⟩:=rp.rep
 have hfs:∀{H1:Hp},Same H H1->RSs K H1 us (fs.map Res.toW):=fun s=>(fo.rs.mono (zo s)).rss
 have dmap:∀{gs:List Res},(∀r∈gs,Fd r)->depths (gs.map Res.toW)<50:=fun {gs} h=>xS (zdj fun w hw=>by
  obtain⟨r,hr,rfl⟩:=xP.mp hw
  exact (h r hr).ok.dp) (by decide)
 have hlf:∀(v:V)(e:En)(rest:List En)(H1:Hp),Same H H1->RW H1 v e.hw->(E0 x kp rows).filter (fun e=>preB fs e.fs)=e::rest->Q v H1:=fun v e rest H1 s r h=>q v e.hw H1 s r (.inl ⟨e,rest,h,rfl⟩)
 refine seqI (fun σ' G=>σ'=[some u,some kv,some (.ref rl),some (.ref fl),none,none,none,none,none]/\Same H G/\(zbM x kp).filter (fun e=>preB fs e.fs)=[]) (fun σ' G h=>?_) (fun nx=>?_)
 ·obtain⟨rfl,sG,hlft⟩:=h
  refine seqI (fun σ' G=>∃o4 o5,σ'=[some u,some kv,some (.ref rl),some (.ref fl),o4,o5,none,none,none]/\Same H G/\(E0 x kp rows).filter (fun e=>preB fs e.fs)=[]) (fun σ' G h=>?_) (fun nx=>?_)
  ·obtain⟨o4,o5,rfl,sG,hE⟩:=h
   have dn:∀(v:V)(y:W)(G1:Hp),Same H G1->RW G1 v y->zfv x fs y kp->∀a,G1 a=none->Q (.ref a) (upd G1 a (.tup [.str "done",v])):=fun v y G1 s r hy a ha=>by
    have s2:=Sn (o:=.tup [.str "done",v]) ha
    exact q _ _ _ (s.trans s2) (RW.pair zf (.txt "done") (r.mono (zo s2))) (.inr ⟨hE,y,rfl,hy⟩)
   cases kp with
   |none=>
    obtain rfl:kv=.non:=hk
    refine⟨_,rfl,_,rfl,iteT ⟨zl1,fun a ha=>⟨zl2,fun b hb=>?_⟩⟩⟩
    have s1:=Sn (o:=.tup [.str "new"]) ha
    exact dn _ (.lst [.txt "new"]) _ (sG.trans s1) (RW.one zf (.txt _)) rfl b hb
   |some k=>
    obtain⟨rfl,u',us',rv',ppr⟩:=hk
    obtain⟨⟨t',ts,e1,e2,e3,e4⟩,l',few'⟩:=ppr.pp
    obtain⟨ws,ew,rep⟩:=ppr.rp.rep
    have r1:=ppr.ru
    have r2:=ru
    rw[ew] at r1
    rw[ez] at r2
    refine⟨_,rfl,_,rfl,iteF ?_⟩
    refine⟨_,rfl,k.a,_,0,_,rfl,rfl,Sq (sG _ _ e1),zt (j:=0) rfl,_,rfl,ws,zs,(r1.mono (zo sG)).toRS,(r2.mono (zo sG)).toRS,rep.dp,_,rfl,?_⟩
    rw[←ew,←ez]
    cases hb:eqW k.x.toW x.toW with
    |false=>
     refine iteT ⟨zl1,fun a ha=>⟨zl2,fun b hb'=>?_⟩⟩
     have s1:=Sn (o:=.tup [.str "rule"]) ha
     exact dn _ (.lst [.txt "rule"]) _ (sG.trans s1) (RW.one zf (.txt _)) (.inl ⟨hb,rfl⟩) b hb'
    |true=>
     refine iteF ?_
     obtain⟨hkx,hkP⟩:=hko k rfl hb
     have cmk:=ppr.cm
     rw[hkP] at cmk
     have hnp:preB fs k.fs=false:=by
      unfold E0 at hE
      rw[zbM,hb,xM] at hE
      have:=(List.append_eq_nil_iff.mp hE).1
      cases hp:preB fs k.fs with
      |false=>rfl
      |true=>
       rw[if_pos rfl,xV,if_pos (show preB fs (enL k).fs=true from hp)] at this
       cases this
     obtain⟨j,hj⟩:=zle cm cmk hnp
     obtain⟨j1,j2,hpr,hne⟩:=id hj
     rw[yB] at e3 l'
     have hul:=ppr.fo.len
     have hfl':=fo.len
     refine⟨_,rfl,_,_,rfl,.inl ⟨_,Sl (sG _ _ hfl),rfl⟩,us.length,rfl,?_⟩
     have few2:=fo.few
     refine⟨by lia,by lia,zaU (fun i σ' G'=>i<=j/\∃o6 o7 o8,σ'=[some u,some (.ref k.a),some (.ref rl),some (.ref fl),o4,o5,o6,o7,o8]/\Same H G') ⟨yN _,none,none,none,rfl,sG⟩ (fun i σ' G' hi h=>?_) (fun σ' G' h=>?_)⟩
     ·obtain⟨hij,o6,o7,o8,rfl,sg⟩:=h
      have ht:ts[i]?=some ts[i]:=yA (by lia)
      have hn:(k.P.go k.fs).1[i]?=some (k.P.go k.fs).1[i]:=yA (by lia)
      have hu:us'[i]?=some us'[i]:=yA (by lia)
      have hg:k.fs[i]?=some k.fs[i]:=yA (by lia)
      have hf:fs[i]?=some fs[i]:=yA (by lia)
      have hus:us[i]?=some us[i]:=yA (by lia)
      have et:=e4 i _ _ _ ht (show ((k.P.go k.fs).1.map V.str)[i]?=some (.str (k.P.go k.fs).1[i]) by rw[yF,hn];rfl) hu
      have d1:=ppr.fo.fd _ (yH hg)
      have d2:=fo.fd _ (yH hf)
      obtain⟨wa,ea,ra⟩:=d1.rep
      obtain⟨wb,eb,rb⟩:=d2.rep
      have w1:=(ppr.fo.mono (zo sg)).at hu hg
      have w2:=(fo.mono (zo sg)).at hus hf
      have w1':=w1
      have w2':=w2
      rw[ea] at w1'
      rw[eb] at w2'
      refine⟨_,rfl,k.a,_,1,_,rfl,rfl,Sq (sg _ _ e1),zt (j:=1) rfl,_,rfl,t',_,(i:Int),.ref ts[i],rfl,by rw[uA],Sq (sg _ _ e2),zt (by rw[yF,ht];rfl),ts[i],_,rfl,Sq (sg _ _ et),rfl,_,_,rfl,_,_,rfl,rfl,?_⟩
      refine⟨_,rfl,_,rfl,_,rfl,fl,_,(i:Int),_,rfl,by rw[uA],Sl (sg _ _ hfl),zt hus,wa,wb,w1'.toRS,w2'.toRS,ra.dp,_,rfl,?_⟩
      rw[←ea,←eb]
      by_cases hlt:i<j
      ·have e:k.fs[i]=fs[i]:=by have:=hpr i hlt;rw[hg,hf] at this;exact Option.some.inj this
       rw[e,Zr]
       exact iteF ⟨by lia,_,_,_,rfl,sg⟩
      ·obtain rfl:i=j:=by lia
       rw[zgH fun z=>hne (by rw[hg,hf,zbK d1.ns d2.ns z])]
       refine iteT ⟨_,rfl,_,rfl,_,rfl,_,rfl,_,rfl,fl,_,(i:Int),_,rfl,by rw[uA],Sl (sg _ _ hfl),zt hus,zl5,fun a ha=>⟨zl2,fun b hb'=>?_⟩⟩
       have s2:=Sn (o:=.tup [.str "look",.int (0+(i:Int)),.str (k.P.go k.fs).1[i],us'[i],us[i]]) ha
       refine dn _ (.lst [.txt "look",.num i,.txt (k.P.go k.fs).1[i],k.fs[i].toW,fs[i].toW]) _ (sg.trans s2) (RW.lst zf rfl fun i' v' w' hv hw=>match i',hv,hw with
        |0,hv,hw=>by cases hv;cases hw;exact .txt _
        |1,hv,hw=>by cases hv;cases hw;rw[uA];exact .num _
        |2,hv,hw=>by cases hv;cases hw;exact .txt _
        |3,hv,hw=>by cases hv;cases hw;exact w1.mono (zo s2)
        |4,hv,hw=>by cases hv;cases hw;exact w2.mono (zo s2)
        |_+5,hv,_=>by simp at hv) (.inr ⟨hb,i,_,_,_,hj,hn,hg,hf,rfl⟩) b hb'
     ·obtain⟨hij,_⟩:=h
      lia
  ·refine⟨_,rfl,rl,rfl,⟨_,Sl (sG _ _ hrl)⟩,?_⟩
   refine zdI (K:=K) (xs:=rows.map (·.1)) (fun i σ' G=>∃o4 o5,σ'=[some u,some kv,some (.ref rl),some (.ref fl),o4,o5,none,none,none]/\Same H G/\((rows.take i).map fun z=>enT z.2).filter (fun e=>preB fs e.fs)=[]) ⟨none,none,rfl,sG,rfl⟩ (fun i σ' G _ h=>by obtain⟨_,_,_,s,_⟩:=h;exact Sl (s _ _ hrl)) (fun i vv σ' G hv h=>?_) (fun σ' G h=>?_)
   ·obtain⟨o4,o5,rfl,sg,hno⟩:=h
    rw[yF] at hv
    obtain⟨z,hz,rfl⟩:=yT.mp hv
    obtain⟨ra,u',us',rv',ezz,era,ppr⟩:=hro z (yH hz)
    rw[ezz]
    refine⟨ra,_,rfl,Sq (sg _ _ era),rfl,_,_,rfl,_,_,rfl,rfl,?_⟩
    refine⟨_,rfl,z.2.pp,u',rv',_,us',rfl,ppr.pp.mono sg,fun pl G1 s1 hpl epl=>?_⟩
    have s2:=sg.trans s1
    refine⟨_,rfl,pl,fl,us',us,z.2.fs.map Res.toW,fs.map Res.toW,rfl,rfl,Sl epl,Sl (s2 _ _ hfl),(ppr.fo.rs.mono (zo s2)).rss,hfs s2,dmap ppr.fo.fd,_,rfl,?_⟩
    have hps:=zg5 cm ppr.cm fo.ns ppr.fo.ns
    show if (eqW (.lst (z.2.fs.map Res.toW)) (.lst (fs.map Res.toW)))=true then _ else _
    rw[←hps]
    have hsplit:rows.map (fun z=>enT z.2)=(rows.take i).map (fun z=>enT z.2)++enT z.2::(rows.drop (i+1)).map (fun z=>enT z.2):=by
     have hi:=(yC.mp hz).1
     have hz':=(yC.mp hz).2
     conv=>lhs;rw[←vC i rows,xN,xD hi,hz',yX]
    cases hb:preB fs z.2.fs with
    |true=>
     refine iteT ⟨_,rfl,zl2,fun a ha=>?_⟩
     have s3:=Sn (o:=.tup [.str "taken",.str z.2.who]) ha
     refine hlf _ (enT z.2) (((rows.drop (i+1)).map (fun z=>enT z.2)).filter (fun e=>preB fs e.fs)) _ (s2.trans s3) (RW.pair zf (.txt _) (.txt _)) ?_
     unfold E0
     rw[xM,hlft,hsplit,xM,hno,xV,if_pos (show preB fs (enT z.2).fs=true from hb)]
     rfl
    |false=>
     refine iteF ⟨_,_,rfl,s2,?_⟩
     rw[Zg hz,xN,xM,hno,yX,xV,if_neg (show ¬preB fs (enT z.2).fs=true by rw[show preB fs (enT z.2).fs=false from hb];exact yI)]
     rfl
   ·obtain⟨o4,o5,rfl,sg,hno⟩:=h
    refine nx _ _ ⟨o4,o5,rfl,sg,?_⟩
    rw[yB,wP] at hno
    unfold E0
    rw[xM,hlft,hno]
    rfl
 ·cases kp with
  |none=>
   obtain rfl:kv=.non:=hk
   exact⟨_,rfl,_,rfl,iteF (iteF (nx _ _ ⟨rfl,Sr _,rfl⟩))⟩
  |some k=>
   obtain⟨rfl,u',us',rv',ppr⟩:=hk
   obtain⟨⟨t',ts,e1,e2,e3,e4⟩,l',few'⟩:=ppr.pp
   obtain⟨ws,ew,rep⟩:=ppr.rp.rep
   have r1:=ppr.ru
   have r2:=ru
   rw[ew] at r1
   rw[ez] at r2
   refine⟨_,rfl,_,rfl,iteT ⟨_,rfl,k.a,_,0,_,rfl,rfl,Sq e1,zt (j:=0) rfl,_,rfl,ws,zs,r1.toRS,r2.toRS,rep.dp,_,rfl,?_⟩⟩
   show if (eqW (.lst ws) (.lst zs))=true then _ else _
   rw[←ew,←ez]
   cases hb:eqW k.x.toW x.toW with
   |false=>
    refine iteF (iteF (nx _ _ ⟨rfl,Sr _,?_⟩))
    rw[zbM,hb]
    rfl
   |true=>
    obtain⟨hkx,hkP⟩:=hko k rfl hb
    have cmk:=ppr.cm
    rw[hkP] at cmk
    refine iteT ⟨_,rfl,k.a,u',rv',_,us',rfl,ppr.pp,fun pl G1 s1 hpl epl=>?_⟩
    refine⟨_,rfl,pl,fl,us',us,k.fs.map Res.toW,fs.map Res.toW,rfl,rfl,Sl epl,Sl (s1 _ _ hfl),(ppr.fo.rs.mono (zo s1)).rss,hfs s1,dmap ppr.fo.fd,_,rfl,?_⟩
    show if (eqW (.lst (k.fs.map Res.toW)) (.lst (fs.map Res.toW)))=true then _ else _
    rw[←zg5 cm cmk fo.ns ppr.fo.ns]
    cases hp:preB fs k.fs with
    |true=>
     refine iteT ⟨zl1,fun a ha=>?_⟩
     have s3:=Sn (o:=.tup [.str "left"]) ha
     refine hlf _ (enL k) ((rows.map (fun z=>enT z.2)).filter (fun e=>preB fs e.fs)) _ (s1.trans s3) (RW.one zf (.txt _)) ?_
     unfold E0
     rw[zbM,hb,if_pos rfl,xM,xV,if_pos (show preB fs (enL k).fs=true from hp)]
     rfl
    |false=>
     refine iteF (nx _ _ ⟨rfl,s1,?_⟩)
     rw[zbM,hb,if_pos rfl,xV,if_neg (show ¬preB fs (enL k).fs=true by rw[show preB fs (enL k).fs=false from hp];exact yI)]
     rfl
noncomputable def lkW(n:Str)(r:Res):W:=.lst [.txt n,r.toW]
def lksW(P:Pl)(fs:List Res):W:=.lst (List.zipWith lkW (P.go fs).1 fs)
def ppW(P:Pl)(x:Ex)(fs:List Res):W:=.lst [x.toW,lksW P fs,(ev fs x e0 []).1.toW]
theorem zeD{P:Pl}{H:Hp}{t:Addr}{ts:List Addr}{us:List V}{fs:List Res}(e:H t=some (.tup (ts.map V.ref)))(p:Prs H ((P.go fs).1.map V.str) us ts)(fo:Fo H us fs)(cm:Cm P fs)(l:ts.length=fs.length):RW H (.ref t) (lksW P fs):=by
 have h1:=cm.2
 have h2:=fo.len
 refine .lst e (by rw[yB,uM];lia) fun i v w hv hw=>?_
 rw[yF] at hv
 obtain⟨c,hc,rfl⟩:=yT.mp hv
 have hi:i<ts.length:=(yC.mp hc).1
 have g1:(P.go fs).1[i]?=some (P.go fs).1[i]:=yA (by lia)
 have g2:fs[i]?=some fs[i]:=yA (by lia)
 have g3:us[i]?=some us[i]:=yA (by lia)
 rw[List.getElem?_zipWith,g1,g2] at hw
 obtain rfl:lkW _ _=w:=by simpa using hw
 exact RW.pair (p i c _ _ hc (by rw[yF,g1];rfl) g3) (.txt _) (fo.at g3 g2)
theorem zlf{P:Pl}{fs:List Res}(h:∀r∈fs,Fd r):(lksW P fs).depth<=15:=by
 have:depths (List.zipWith lkW (P.go fs).1 fs)<=14:=zdj fun w hw=>by
  obtain⟨i,hi,rfl⟩:=wL.mp hw
  rw[List.getElem_zipWith]
  have hif:i<fs.length:=by rw[uM] at hi;lia
  have:=(h _ (xA hif)).ok.dp
  simp only[lkW,W.depth,depths]
  lia
 simp only[lksW,W.depth]
 lia
theorem Ppr.nst{K:tP}{H:Hp}{p:Addr}{u rv:V}{P:Pl}{x:Ex}{us:List V}{fs:List Res}(h:Ppr K H p u P x us fs rv):(ev fs x e0 []).1.res≠.stop:=by
 obtain⟨⟨o,ho⟩,_⟩:=h.cm
 rw[(h.rp.ev fs h.fo.ns).2,ho]
 exact h.rp.ns fs o ho
theorem Ppr.gr{K:tP}{H:Hp}{p:Addr}{u rv:V}{P:Pl}{x:Ex}{us:List V}{fs:List Res}(h:Ppr K H p u P x us fs rv):GR x.high (ev fs x e0 []).1:=grE h.fo.ns h.fo.ok (by have:=h.fo.few;lia) x [] e0 [] h.rp.wf eg0 (yN _) h.nst
theorem Ppr.rs{K:tP}{H:Hp}{p:Addr}{u rv:V}{P:Pl}{x:Ex}{us:List V}{fs:List Res}(h:Ppr K H p u P x us fs rv):RS K H (.ref p) (ppW P x fs):=by
 obtain⟨⟨t,ts,e1,e2,e3,e4⟩,l,few⟩:=h.pp
 rw[yB,h.cm.2] at e3
 exact RS.three (Sq e1) h.ru.toRS (zeD e2 e4 h.fo h.cm e3).toRS (h.gr.rs h.rr)
theorem Ppr.dp{K:tP}{H:Hp}{p:Addr}{u rv:V}{P:Pl}{x:Ex}{us:List V}{fs:List Res}(h:Ppr K H p u P x us fs rv):(ppW P x fs).depth<=45:=by
 have h1:=h.gr.dp
 have h2:=h.rp.dp
 have h3:=zlf (P:=P) h.fo.fd
 have h4:=h.rp.hi
 simp only[ppW,W.depth,depths]
 lia
def znt(K:tP)(AT:Addr):Sp:=fun vs H Q _=>∃(p lf le rl nl fl pp:Addr)(nm nd ho u kv ov:V)(us es:List V)(us2:List V)(P:Pl)(x:Ex)(fs:List Res)(kp:Option Kp)(rows:Rows)(r:Res)(hw:W),vs=[.ref p,u,kv,.ref rl,.ref nl,.ref fl,ov]/\Tk AT H p lf le nm nd (.ref pp) ho u kv us es/\RW H u x.toW/\RuP P x/\zaJ K H kv kp/\H rl=some (.lst (rows.map (·.1)))/\rows.length<=50/\(∀z∈rows,zgn K H P x z) /\
 H nl=some (.lst ((P.go fs).1.map V.str))/\H fl=some (.lst us2)/\Fo H us2 fs/\Cm P fs/\(P.go fs).2=some r/\RW H ov r.toW/\Fd r/\RW H ho hw /\
 ((∃e∈E0 x kp rows,pp=e.pp/\hw=e.hw)\/(∃us' rv y,Ppr K H pp u P x us' fs rv/\hw=.lst [.txt "done",y]))/\∀H',Same H H'->Q (.bl true) H'
abbrev Sts:=List (Addr×List V×List Res)
def StOk(H:Hp)(z:Addr×List V×List Res):Prop:=H z.1=some (.lst z.2.1)/\Fo H z.2.1 z.2.2/\z.2.2.length=5
theorem StOk.mono{H H':Hp}{z:Addr×List V×List Res}(h:StOk H z)(s:Same H H'):StOk H' z:=⟨s _ _ h.1,h.2.1.mono (zo s),h.2.2⟩
def zfy(K:tP):Sp:=fun vs H Q _=>∃(a:Addr)(ns:List Int)(at' tot:Nat),vs=[.ref a,.int at',.int tot]/\SqL K H a (ns.map V.int)/\tot<=10 /\
 ∀(sl:Addr)(st:Sts)(H':Hp),Same H H'->H sl=none->H' sl=some (.lst (st.map fun z=>V.ref z.1))->st.length=tot->(∀z∈st,StOk H' z/\z.1≠sl)->Q (.ref sl) H'
theorem zfz:FnScope ["_law_task","_law_rule","_law_kept","_law_rows","_law_names","_law_founds","_law_outcome"] ["_law_task","_law_rule","_law_kept","_law_rows","_law_names","_law_founds","_law_outcome"] (zr zbp):=mkSc rfl (by decide +kernel)
theorem zfA(F:Fun K "_law_paper_is" "_law_paper_is" zbp f fd)(m_tuple:mg "tuple"=none)(m_zip:mg "zip"=none)(clT:Cls K ATask)(nP:zO K ATask "paper")(nH:zO K ATask "how"):FnOk P w K mg base CX0 (k+1) f fd ["_law_task","_law_rule","_law_kept","_law_rows","_law_names","_law_founds","_law_outcome"] (znt K ATask):=by
 refine F.okQ zfz (by rintro _ _ _ _ ⟨_,_,_,_,_,_,_,_,_,_,_,_,_,_,_,_,_,_,_,_,_,_,_,rfl,_⟩;rfl) fun cdv A outer s H vs Q E hr h=>?_
 obtain⟨p,lf,le,rl,nl,fl,pp,nm,nd,ho,u,kv,ov,us,es,us2,P,x,fs,kp,rows,r,hw,rfl,tk,ru,rp,hk,hrl,hrn,hro,hnl,hfl,fo,cm,hgo,rov,fdr,rho,hcase,q⟩:=h
 refine⟨_,(zj (zN (zH Z0 (zx zD (zL (pv 0) rfl) zk (fun _ _=>rfl)) zA (nomark _)) (zq (zw (Zh (zb1 hr.units) (zL (pv 0) rfl) (pv 2) (nomark _)))) zC)
  (zj (zN (zH Z0 (zx zD (zL (pv 0) rfl) zk (fun _ _=>rfl)) zA (nomark _)) (zq (zw (Zh (zlW hr.units) (zL (pv 0) rfl) (zbE ["_law_who","_law_paper_here"] rfl rfl (by decide +kernel) rfl (by decide +kernel) trivial rfl (ZZ (pv 3)) (fun C s H fp=>(show QG _ _ (gTup K 2 (zg7 (zX 0) (zg7 (zX 1) gNil))) from zaR rfl (zY (zR (i:=0) (show (["_law_who","_law_paper_here"]:List Str).Nodup from by decide +kernel) rfl (Or.inl rfl) (Or.inr rfl)) (zY (zR (i:=1) (show (["_law_who","_law_paper_here"]:List Str).Nodup from by decide +kernel) rfl (Or.inl rfl) (Or.inr rfl)) zay)))) (fun C s H fp=>⟨Zl,(pv 1)⟩)) (by rfl)))) zC)
  (zq (zw (zas (Zh (zb1 hr.units) (zag zig (zL (pv 0) rfl) zaW (zaz zk)) (zE (zc (pv 1) (zc (zd9 rfl rfl m_zip rfl m_tuple (zc (pv 4) (zc (pv 5) zi))) zi))) (nomark _)) (zaC (Zh (zb1 hr.units) (zx zD (zx zD (zL (pv 0) rfl) zk (fun _ _=>rfl)) zk (fun _ _=>rfl)) (pv 6) (nomark _)))))))),?_⟩
 obtain⟨dx,ei⟩:=tk.ins
 rcases hcase with⟨e,he,rfl,rfl⟩|⟨us',rv,y,ppr,rfl⟩
 ·unfold E0 at he
  rcases yZ.mp he with he|he
  ·cases kp with
   |none=>cases he
   |some k=>
    rw[zbM] at he
    cases hb:eqW k.x.toW x.toW with
    |false=>rw[hb] at he;cases he
    |true=>
     rw[hb,if_pos rfl] at he
     obtain rfl:=yM.mp he
     obtain⟨rfl,u',us',rv',ppr⟩:=hk
     have rho:RW H ho (.lst [.txt "left"]):=rho
     obtain⟨a,us0,rfl,ea,hw0⟩:=rho.tup
     obtain⟨u0,us0,rfl,r0,hw0⟩:=hw0.cons
     obtain rfl:=r0.str
     refine⟨_,rfl,p,ATask,dx,_,.ref a,rfl,ei,clT,nH,rfl,a,_,0,_,rfl,rfl,Sq ea,zt (j:=0) rfl,rfl,_,rfl,iteT ?_⟩
     refine⟨_,rfl,p,ATask,dx,_,.ref k.a,rfl,ei,clT,nP,rfl,_,rfl,_,_,ppr.rs,ppr.rs,?_,?_⟩
     ·have:=ppr.dp
      simp only[ppW,W.depth] at this
      lia
     ·rw[Zr]
      exact q _ (Sr _)
  ·obtain⟨z,hz,rfl⟩:=xP.mp he
   obtain⟨ra,u',us',rv',ez,era,ppr⟩:=hro z hz
   have rho:RW H ho (.lst [.txt "taken",.txt z.2.who]):=rho
   obtain⟨a,us0,rfl,ea,hw0⟩:=rho.tup
   obtain⟨u0,us0,rfl,r0,hw0⟩:=hw0.cons
   obtain rfl:=r0.str
   refine⟨_,rfl,p,ATask,dx,_,.ref a,rfl,ei,clT,nH,rfl,a,_,0,_,rfl,rfl,Sq ea,zt (j:=0) rfl,rfl,_,rfl,iteF ?_⟩
   refine⟨_,rfl,p,ATask,dx,_,.ref a,rfl,ei,clT,nH,rfl,a,_,0,_,rfl,rfl,Sq ea,zt (j:=0) rfl,rfl,_,rfl,iteT ?_⟩
   refine⟨_,rfl,p,ATask,dx,_,.ref (enT z.2).pp,rfl,ei,clT,nP,rfl,_,rfl,rl,rfl,⟨_,Sl hrl⟩,?_⟩
   refine zjy (K:=K) (vs:=rows.map (·.1)) (fun i ys G=>ys=(rows.map fun z=>V.ref z.2.pp).take i/\i<=rows.length/\Same H G) (by rw[yB];exact yQ hrn (by decide)) ⟨rfl,yN _,Sr _⟩ (fun i ys _ h=>by rw[h.1,yP,yB];lia) (fun i ys _ h=>Sl (h.2.2 _ _ hrl)) (fun i v ys G R R' hv hP r=>?_) (fun ys G D hP hD=>?_)
   ·rw[yF] at hv
    obtain⟨z',hz',rfl⟩:=yT.mp hv
    obtain⟨ra',u2,us2',rv2,ez',era',ppr'⟩:=hro z' (yH hz')
    obtain⟨rfl,_,sm⟩:=hP
    rw[ez']
    refine⟨ra',_,rfl,Sq (sm _ _ era'),rfl,_,_,rfl,_,_,rfl,rfl,iteT ⟨_,rfl,r _ _ ⟨?_,?_,sm⟩⟩⟩
    ·rw[Zg (show (rows.map fun z=>V.ref z.2.pp)[i]?=some (.ref z'.2.pp) by rw[yF,hz'];rfl)]
    ·exact (yC.mp hz').1
   ·obtain⟨rfl,_,sm⟩:=hP
    have s2:=sm.trans (Sn (o:=.lst ((rows.map fun z=>V.ref z.2.pp).take (rows.map (·.1)).length)) hD)
    refine⟨D,rows.map fun z=>V.ref z.2.pp,rows.map fun z=>ppW P x z.2.fs,ppW P x z.2.fs,rfl,Sl ?_,⟨by rw[yB,yB],fun i v w hv hw=>?_⟩,?_,(ppr.rs).mono s2,xP.mpr ⟨z,hz,rfl⟩,q _ s2⟩
    ·rw[zf,yB,xJ (by rw[yB];exact yE _)]
    ·rw[yF] at hv hw
     obtain⟨z1,h1,rfl⟩:=yT.mp hv
     rw[h1] at hw
     cases hw
     obtain⟨_,_,_,_,_,_,pp1⟩:=hro z1 (yH h1)
     exact pp1.rs.mono s2
    ·refine xS (zdj (n:=45) fun w hw=>?_) (by decide)
     obtain⟨z1,h1,rfl⟩:=xP.mp hw
     obtain⟨_,_,_,_,_,_,pp1⟩:=hro z1 h1
     exact pp1.dp
 ·obtain⟨a,us0,rfl,ea,hw0⟩:=rho.tup
  obtain⟨u0,us0,rfl,r0,hw0⟩:=hw0.cons
  obtain rfl:=r0.str
  have pp0:=ppr.pp
  obtain⟨⟨t,ts,e1,e2,e3,e4⟩,l,few⟩:=pp0
  rw[yB,cm.2] at e3
  obtain⟨ra,rb,rv0,rfl,era,rres⟩:=ppr.rr.res
  refine⟨_,rfl,p,ATask,dx,_,.ref a,rfl,ei,clT,nH,rfl,a,_,0,_,rfl,rfl,Sq ea,zt (j:=0) rfl,rfl,_,rfl,iteF ?_⟩
  refine⟨_,rfl,p,ATask,dx,_,.ref a,rfl,ei,clT,nH,rfl,a,_,0,_,rfl,rfl,Sq ea,zt (j:=0) rfl,rfl,_,rfl,iteF ?_⟩
  refine⟨_,rfl,p,ATask,dx,_,.ref pp,rfl,ei,clT,nP,rfl,_,rfl,pp,[u,.ref t,.ref ra],rfl,Sq e1,(fun z=>absurd (show (2:Nat)=3 from z.2) (by decide)),fun c hc=>?_⟩
  have ec:cutV [u,.ref t,.ref ra] none (some 2)=[u,.ref t]:=rfl
  rw[ec]
  have s1:=Sn (o:=.tup [u,.ref t]) hc
  have e1c:upd H c (.tup [u,.ref t]) c=some (.tup [u,.ref t]):=zf
  generalize upd H c (.tup [u,.ref t])=H1 at s1 e1c
  refine⟨_,rfl,_,rfl,_,rfl,nl,fl,_,us2,rfl,Sl (s1 _ _ hnl),Sl (s1 _ _ hfl),fun ts2 t2 H2 s2 ht2 hl2 pr2 et2=>⟨zl2,fun d hd=>?_⟩⟩
  have s3:=Sn (o:=.tup [u,.ref t2]) hd
  have e3d:upd H2 d (.tup [u,.ref t2]) d=some (.tup [u,.ref t2]):=zf
  have s23:=s2.trans s3
  have sA:=s1.trans s23
  have pr3:Prs (upd H2 d (.tup [u,.ref t2])) ((P.go fs).1.map V.str) us2 ts2:=fun j t x y a b c=>s3 _ _ (pr2 j t x y a b c)
  have et3:=s3 _ _ et2
  generalize upd H2 d (.tup [u,.ref t2])=H3 at s3 e3d s23 sA pr3 et3
  have foA:=fo.mono (zo sA)
  have hlen2:ts2.length=fs.length:=by rw[hl2,yB,cm.2,fo.len,Nat.min_self]
  have w1:=zeD (P:=P) (sA _ _ e2) (fun j t x y a b c=>sA _ _ (e4 j t x y a b c)) (ppr.fo.mono (zo sA)) cm e3
  have w2:=zeD et3 pr3 foA cm hlen2
  have wu:=ru.mono (zo sA)
  refine⟨[x.toW,lksW P fs],[x.toW,lksW P fs],(RW.pair (s23 _ _ e1c) wu w1).toRS,(RW.pair e3d wu w2).toRS,?_,?_⟩
  ·have h1:=rp.dp
   have h2:=zlf (P:=P) fo.fd
   simp only[depths]
   lia
  rw[Zr]
  refine⟨true,rfl,iteT ⟨_,rfl,p,ATask,dx,_,.ref pp,rfl,sA _ _ ei,clT,nP,rfl,pp,_,2,_,rfl,rfl,Sq (sA _ _ e1),zt (j:=2) rfl,ra,_,0,_,rfl,rfl,Sq (sA _ _ era),zt (j:=0) rfl,_,rfl,?_⟩⟩
  have hres:(ev fs x e0 []).1.res=r:=by rw[(rp.ev fs fo.ns).2,hgo];rfl
  obtain⟨ws,ew,rep⟩:=fdr.rep
  have q1:=(RRes.rs ppr.nst rres).mono sA
  rw[hres,ew] at q1
  rw[ew] at rov
  refine⟨ws,ws,q1,(rov.mono (zo sA)).toRS,rep.dp,?_⟩
  rw[Zr]
  exact q _ sA
theorem zaQ:FnScope ["_law_script","_law_at","_law_total","_law_streams_here","_law_k","_law_box_here"] ["_law_script","_law_at","_law_total"] (zr zbY):=mkSc rfl (by decide +kernel)
theorem zgq(F:Fun K "_law_streams" "_law_streams" zbY f fd)(G_lfound:Have P w K mg base "_law_found" k ["_law_box_here"] (zmn))(G_lbox:Have P w K mg base "_law_box" k ["_law_script","_law_k"] (zlF K))(m_range:mg "range"=none):FnOk P w K mg base CX0 (k+1) f fd ["_law_script","_law_at","_law_total"] (zfy K):=by
 refine F.okQ zaQ (by rintro _ _ _ _ ⟨_,_,_,_,rfl,_⟩;rfl) fun cdv A outer s H vs Q E hr h=>?_
 obtain⟨a,ns,at',tot,rfl,hS,ht,q⟩:=h
 refine⟨_,(zj (zG (i:=3) zaQ.nd rfl (Or.inl rfl) (Zb zi))
  (zj (zat tL rfl (ZD rfl m_range (zc (pv 2) zi)) (zR (i:=4) zaQ.nd rfl (Or.inl rfl)) (zj (zG (i:=5) zaQ.nd rfl (Or.inr rfl) (zy G_lbox hr rfl (zc (pv 0) (zc (zK ZP (pv 1) (pv 4)) zi))))
  (zq (Ze (zcf tM tO tN zaa (pv 3) (zc (Zx [5] ["_law_box_here"] rfl rfl (by decide +kernel) rfl (by decide +kernel) rfl (by decide +kernel) ⟨rfl,trivial⟩ rfl ⟨⟨rfl,rfl,Or.inr (Or.inl rfl),(by show (some NameKind.cell:Option NameKind)≠some .local;decide),⟨_,rfl⟩⟩,trivial⟩ (ZD rfl m_range (zc zk zi)) (fun C s H fp=>⟨Zl,(zy G_lfound hr rfl (zc (pv 1) zi))⟩)) zi))))))
  (zq (zw (pv 3))))),?_⟩
 refine⟨zl0,fun sl hsl=>?_⟩
 dsimp only[zX]
 have s0:=Sn (o:=.lst []) hsl
 have e0:upd H sl (.lst []) sl=some (.lst []):=zf
 generalize upd H sl (.lst [])=H0 at s0 e0
 refine⟨_,rfl,tot,rfl,by lia,by lia,?_⟩
 refine zaU (fun i σ' G=>∃(o4 o5:Option V)(st:Sts),σ'=[some (.ref a),some (.int at'),some (.int tot),some (.ref sl),o4,o5]/\Same H G/\G sl=some (.lst (st.map fun z=>V.ref z.1))/\st.length=i/\∀z∈st,StOk G z/\z.1≠sl) ⟨none,none,[],rfl,s0,e0,rfl,fun z hz=>nomatch hz⟩ (fun i σ' G hi h=>?_) (fun σ' G h=>?_)
 ·obtain⟨o4,o5,st,rfl,sG,esl,hlen,hall⟩:=h
  refine⟨_,rfl,_,rfl,_,rfl,_,_,rfl,rfl,a,ns,_,rfl,sG.seq hS,by lia,fun bx bf bm b hb=>?_⟩
  dsimp only[zX]
  have s1:=Sn (o:=.lst [.int bx,.int bf,.int bm]) hb
  have box1:Zt (upd G b (.lst [.int bx,.int bf,.int bm])) b:=⟨_,_,_,zf⟩
  generalize upd G b (.lst [.int bx,.int bf,.int bm])=G1 at s1 box1
  have esl1:=s1 _ _ esl
  have nslb:sl≠b:=zm esl hb
  refine⟨_,rfl,.inl ⟨rfl,_,Sl esl1⟩,5,rfl,by decide,by decide,?_⟩
  refine zgX (n:=5) (fun i us G2=>∃fs:List Res,us.length=i/\fs.length=i/\i<=5/\Fo G2 us fs/\Step b G1 G2) ⟨[],rfl,rfl,by decide,Fo.nil,Step.refl box1⟩ (fun i us G2 h=>by obtain⟨_,h,_⟩:=h;exact h) (by decide) (fun i us G2 R hi h r=>?_) (fun us G2 D h hD=>?_)
  ·obtain⟨fs,h1,h2,h3,fo,st1⟩:=h
   have hi5:i<5:=hi
   refine⟨_,rfl,b,rfl,st1.box,fun v rr G3 rw' fdr st2=>r v G3 ⟨fs++[rr],by rw[yD,h1];rfl,by rw[yD,h2];rfl,by lia,(fo.mono (st2.tups st1.box)).snoc rw' fdr (by lia),st1.trans st2⟩⟩
  ·obtain⟨fs,h1,h2,h3,fo,st1⟩:=h
   have s2:=Sn (o:=.lst us) hD
   have esl2:=st1.keep sl _ nslb esl1
   have nslD:sl≠D:=zm esl2 hD
   have hlen10:st.length<10:=by lia
   refine⟨sl,_,_,rfl,rfl,s2 _ _ esl2,ZE (by rw[yB];lia),?_⟩
   have hb0:H b=none:=sG.free hb
   have hD0:∀{c:Addr}{o:HO},G c=some o->c≠D:=fun {c o} e z=>by
    have hcb:c≠b:=zm e hb
    rw[z] at e hcb
    rw[st1.keep D _ hcb (s1 _ _ e)] at hD
    cases hD
   have kp:∀c o,c≠sl->G c=some o->upd (upd G2 D (.lst us)) sl (.lst ((st.map fun z=>V.ref z.1)++[.ref D])) c=some o:=fun c o hc e=>by
    rw[zu hc,zu (hD0 e)]
    exact st1.keep c o (zm e hb) (s1 _ _ e)
   have tq:Tups G (upd (upd G2 D (.lst us)) sl (.lst ((st.map fun z=>V.ref z.1)++[.ref D]))):=fun c vs e=>kp c _ (fun z=>by rw[z,esl] at e;cases e) e
   have tq2:Tups G2 (upd (upd G2 D (.lst us)) sl (.lst ((st.map fun z=>V.ref z.1)++[.ref D]))):=fun c vs e=>by
    rw[zu (fun z=>by rw[z,esl2] at e;cases e),zu (zm e hD)]
    exact e
   refine⟨_,_,st++[(D,us,fs)],rfl,fun c o e=>kp c o (zm e hsl) (sG _ _ e),by rw[zf,xN];rfl,by rw[yD,hlen];rfl,fun z hz=>?_⟩
   rcases yZ.mp hz with hz|hz
   ·obtain⟨⟨a1,a2,a3⟩,a4⟩:=hall z hz
    exact⟨⟨kp _ _ a4 a1,a2.mono tq,a3⟩,a4⟩
   ·rw[yM.mp hz]
    exact⟨⟨by rw[zu nslD.symm,zf],fo.mono tq2,h2⟩,nslD.symm⟩
 ·obtain⟨o4,o5,st,rfl,sG,esl,hlen,hall⟩:=h
  exact⟨_,rfl,q sl st G sG hsl esl (by rw[hlen];rfl) hall⟩
def zkz(K:tP):Sp:=fun vs H Q _=>∃(a:Addr)(ns:List Int),vs=[.ref a]/\SqL K H a (ns.map V.int)/\ns.length<=63/\∀H',Q (.bl true) H'
abbrev Pps:=List (Addr×List Res)
def PpOk(K:tP)(H:Hp)(u:V)(P:Pl)(x:Ex)(z:Addr×List Res):Prop:=∃us rv,Ppr K H z.1 u P x us z.2 rv
theorem PpOk.tq{K:tP}{H H':Hp}(t:Tq H H'){u:V}{P:Pl}{x:Ex}{z:Addr×List Res}(h:PpOk K H u P x z):PpOk K H' u P x z:=let ⟨us,rv,h⟩:=h;⟨us,rv,h.tq t⟩
structure La(K:tP)(H:Hp)(pv u:V)(sl pl:Addr)(p:Pn)(st:Sts)(ps:Pps):Prop where
 rp:RW H pv p.toW
 ok:p.Ok
 lk:p.looks<=5
 ru:RW H u p.ex.toW
 es:H sl=some (.lst (st.map fun z=>V.ref z.1))
 sn:st.length=6
 so:∀z∈st,StOk H z
 ep:H pl=some (.lst (ps.map fun z=>V.ref z.1))
 pn:ps.length=6
 po:∀z∈ps,PpOk K H u p.pl p.ex z
theorem La.same{K:tP}{H H':Hp}{pv u:V}{sl pl:Addr}{p:Pn}{st:Sts}{ps:Pps}(h:La K H pv u sl pl p st ps)(s:Same H H'):La K H' pv u sl pl p st ps:=
 ⟨h.rp.mono (zo s),h.ok,h.lk,h.ru.mono (zo s),s _ _ h.es,h.sn,fun z hz=>(h.so z hz).mono s,s _ _ h.ep,h.pn,fun z hz=>(h.po z hz).tq (zV s)⟩
theorem La.but{K:tP}{H H':Hp}{pv u:V}{sl pl:Addr}{p:Pn}{st:Sts}{ps:Pps}(h:La K H pv u sl pl p st ps){b:Addr}(n1:sl≠b)(n2:pl≠b)(n3:∀z∈st,z.1≠b)(t:Tq H H')(k:∀c o,c≠b->H c=some o->H' c=some o):La K H' pv u sl pl p st ps:=
 ⟨h.rp.mono t.tups,h.ok,h.lk,h.ru.mono t.tups,k _ _ n1 h.es,h.sn,fun z hz=>⟨k _ _ (n3 z hz) (h.so z hz).1,(h.so z hz).2.1.mono t.tups,(h.so z hz).2.2⟩,k _ _ n2 h.ep,h.pn,fun z hz=>(h.po z hz).tq t⟩
theorem znu{us:List V}{k:Nat}(h:k<=us.length):cutV us none (some (k:Int))=us.take k:=by
 unfold cutV
 rw[HT.sIx_nat,show HT.sIx us.length 0 none=0 from rfl,List.drop_zero,show min k us.length-0=k by lia]
theorem zmu{us:List V}{k:Nat}:cutV us (some (k:Int)) none=us.drop k:=by
 unfold cutV
 rw[HT.sIx_nat,show HT.sIx us.length us.length none=us.length from rfl]
 by_cases h:k<=us.length
 ·rw[show min k us.length=k by lia,xJ (by rw[xU];exact yE _)]
 ·rw[show min k us.length=us.length by lia,wC (yE _),wC (by lia),List.take_nil]
theorem Fo.swap{H:Hp}{us:List V}{fs:List Res}{v:V}{f:Res}{k:Nat}(h:Fo H us fs)(l:fs.length=5)(hk:k<5)(r:RW H v f.toW)(d:Fd f):Fo H ((us.take k++[v])++us.drop (k+1)) ((fs.take k++[f])++fs.drop (k+1)):=by
 have hl:=h.len
 refine⟨⟨by simp[hl,yP,xU],fun i v' w' hv hw=>?_⟩,fun x hx=>?_,?_⟩
 ·have hk1:(us.take k).length=k:=by rw[yP];lia
  have hk2:((fs.take k).map Res.toW).length=k:=by rw[yB,yP];lia
  rw[xN,xN,xQ] at hw
  rw[xQ] at hv
  rcases Nat.lt_trichotomy i k with hi|hi|hi
  ·rw[yL (by lia),wX,if_pos hi] at hv
   rw[yL (by lia),yF,wX,if_pos hi] at hw
   exact h.rs.at' i v' w' hv (by rw[yF];exact hw)
  ·subst hi
   rw[yK (by lia),hk1,vO] at hv
   rw[yK (by lia),hk2,vO] at hw
   cases hv
   cases hw
   exact r
  ·obtain⟨j,rfl⟩:∃j,i=k+1+j:=⟨i-(k+1),by lia⟩
   rw[yK (by lia),hk1,show k+1+j-k=j+1 by lia,uG,xH,uO] at hv
   rw[yK (by lia),hk2,show k+1+j-k=j+1 by lia,yX,uP,uG,xH,yF,uO] at hw
   exact h.rs.at' (k+1+j) v' w' hv (by rw[yF];exact hw)
 ·rcases yZ.mp hx with hx|hx
  ·rcases yZ.mp hx with hx|hx
   ·exact h.fd x (uL hx)
   ·rw[yM.mp hx];exact d
  ·exact h.fd x (List.mem_of_mem_drop hx)
 ·simp[yP,xU]
  lia
structure Lb(K:tP)(H:Hp)(pv u kv:V)(sl pl rl:Addr)(p:Pn)(st:Sts)(ps:Pps)(kp:Option Kp)(rows:Rows):Prop where
 la:La K H pv u sl pl p st ps
 hk:zaJ K H kv kp
 hr:H rl=some (.lst (rows.map (·.1)))
 rn:rows.length<=50
 ro:∀z∈rows,zgn K H p.pl p.ex z
theorem Lb.same{K:tP}{H H':Hp}{pv u kv:V}{sl pl rl:Addr}{p:Pn}{st:Sts}{ps:Pps}{kp:Option Kp}{rows:Rows}(h:Lb K H pv u kv sl pl rl p st ps kp rows)(s:Same H H'):Lb K H' pv u kv sl pl rl p st ps kp rows:=
 ⟨h.la.same s,h.hk.tq (zV s),s _ _ h.hr,h.rn,fun z hz=>(h.ro z hz).tq (zV s)⟩
theorem Lb.step{K:tP}{H H':Hp}{pv u kv:V}{sl pl rl b:Addr}{p:Pn}{st:Sts}{ps:Pps}{kp:Option Kp}{rows:Rows}(h:Lb K H pv u kv sl pl rl p st ps kp rows)(hb:Zt H b)(s:Step b H H')(n1:sl≠b)(n2:pl≠b)(n3:∀z∈st,z.1≠b)(n4:rl≠b):Lb K H' pv u kv sl pl rl p st ps kp rows:=
 have t:=zex hb s
 ⟨h.la.but n1 n2 n3 t s.keep,h.hk.tq t,s.keep _ _ n4 h.hr,h.rn,fun z hz=>(h.ro z hz).tq t⟩
theorem znv{x:Ex}{kp:Option Kp}{rows:Rows}{e:En}(h:e∈E0 x kp rows):e.hw.depth<=20:=by
 unfold E0 at h
 rcases yZ.mp h with h|h
 ·cases kp with
  |none=>cases h
  |some k=>
   rw[zbM] at h
   split at h
   ·rw[yM.mp h]
    show (W.lst [.txt "left"]).depth<=20
    decide
   ·cases h
 ·obtain⟨z,_,rfl⟩:=xP.mp h
  show (W.lst [.txt "taken",.txt z.2.who]).depth<=20
  simp only[W.depth,depths]
  lia
theorem zbN.tq{K:tP}{H H':Hp}(t:Tq H H'){P:Pl}{x:Ex}{u:V}{us:List V}{fs:List Res}{kp:Option Kp}{l:Ens}{nd pa ho:V}(h:zbN K H P x u us fs kp l nd pa ho):zbN K H' P x u us fs kp l nd pa ho:=by
 rcases h with h|⟨h1,h2,pp,hw,h3,h4,h5,h6⟩
 ·exact .inl h
 ·refine .inr ⟨h1,h2,pp,hw,h3,h4.mono t.tups,h5,?_⟩
  rcases h6 with h6|⟨h6,⟨rv,h7⟩,h8⟩
  ·exact .inl h6
  ·exact .inr ⟨h6,⟨rv,h7.tq t⟩,h8⟩
def Lft(x:Ex)(kp:Option Kp)(rows:Rows)(fs:List Res)(l:Ens):Prop:=l.map (·.2)=(E0 x kp rows).filter fun e=>preB fs e.fs
theorem zmv{x:Ex}{kp:Option Kp}{rows:Rows}{l:Ens}(h:l.map (·.2)=E0 x kp rows):Lft x kp rows [] l:=by
 unfold Lft
 rw[h,List.filter_eq_self.mpr fun e _=>zcb.mpr uC]
theorem Lft.mem{x:Ex}{kp:Option Kp}{rows:Rows}{fs:List Res}{l:Ens}(h:Lft x kp rows fs l){z:V×En}(hz:z∈l):z.2∈E0 x kp rows/\fs <+: z.2.fs:=by
 have:z.2∈l.map (·.2):=xP.mpr ⟨z,hz,rfl⟩
 rw[h] at this
 obtain⟨h1,h2⟩:=xZ.mp this
 exact⟨h1,zcb.mp h2⟩
theorem zgr{fs gs:List Res}{f:Res}(h:fs++[f] <+: gs):fs <+: gs/\gs[fs.length]?=some f:=by
 obtain⟨t,rfl⟩:=h
 exact⟨⟨f::t,by simp⟩,by rw[xQ,yK (yE _),vO];rfl⟩
theorem Lft.step{K:tP}{H:Hp}{P:Pl}{x x':Ex}{kp:Option Kp}{rows:Rows}{fs:List Res}{l:Ens}(h:Lft x kp rows fs l)(en:Ends K H P x' l){f:Res}(fd:Fd f):Lft x kp rows (fs++[f]) (l.filter fun z=>nxt fs.length f z.2):=by
 unfold Lft at h ⊢
 have e1:(l.filter fun z=>nxt fs.length f z.2).map (·.2)=(l.map (·.2)).filter (nxt fs.length f):=by
  rw[List.filter_map]
  rfl
 have e2:(l.map (·.2)).filter (nxt fs.length f)=(l.map (·.2)).filter fun e=>preB (fs++[f]) e.fs:=by
  refine List.filter_congr fun e he=>?_
  obtain⟨z,hz,rfl⟩:=xP.mp he
  obtain⟨_,_,_,_,_,_,_,_,ppr⟩:=en z hz
  have hp:fs <+: z.2.fs:=by
   rw[h] at he
   exact zcb.mp (xZ.mp he).2
  unfold nxt
  cases hg:z.2.fs[fs.length]? with
  |none=>
   refine (zg3.mpr fun z'=>?_).symm
   rw[(zgr z').2] at hg
   cases hg
  |some g=>
   cases hb:eqW g.toW f.toW with
   |true=>
    show eqW g.toW f.toW=_
    rw[hb]
    refine (zcb.mpr (zg1 hp ?_)).symm
    rw[hg,zbK (ppr.fo.fd _ (yH hg)).ns fd.ns ((zb0 _ _).mp hb)]
   |false=>
    show eqW g.toW f.toW=_
    rw[hb]
    refine (zg3.mpr fun z'=>?_).symm
    rw[(zgr z').2] at hg
    cases hg
    rw[Zr] at hb
    cases hb
 rw[e1,e2,h,List.filter_filter]
 refine List.filter_congr fun e _=>?_
 cases hb:preB (fs++[f]) e.fs with
 |false=>rfl
 |true=>rw[zcb.mpr (zgr (zcb.mp hb)).1];rfl
theorem znw{x:Ex}{kp:Option Kp}{rows:Rows}{e:En}(h:e∈E0 x kp rows):∃ws,e.hw=.lst ws:=by
 unfold E0 at h
 rcases yZ.mp h with h|h
 ·cases kp with
  |none=>cases h
  |some k=>
   rw[zbM] at h
   split at h
   ·rw[yM.mp h];exact⟨_,rfl⟩
   ·cases h
 ·obtain⟨z,_,rfl⟩:=xP.mp h
  exact⟨_,rfl⟩
theorem zkA{K:tP}{H:Hp}{P:Pl}{x:Ex}{u:V}{us:List V}{fs:List Res}{kp:Option Kp}{rows:Rows}{l:Ens}{pp:Addr}{hw hw2:W}(hl:Lft x kp rows fs l)(h:(∃z r,l=z::r/\pp=z.2.pp/\hw=z.2.hw)\/(l=[]/\(∃rv,Ppr K H pp u P x us fs rv)/\∃y,hw=.lst [.txt "done",y]/\zfv x fs y kp))(h2:znr x kp (E0 x kp rows) fs hw2):hw=hw2/\∃ws,hw=.lst ws:=by
 unfold Lft at hl
 rcases h with⟨z,r,rfl,rfl,rfl⟩|⟨rfl,_,y,rfl,hy⟩
 ·have hm:=(Lft.mem hl (yY:z∈z::r)).1
  rcases h2 with⟨e,r',he,rfl⟩|⟨he,_⟩
  ·rw[←hl] at he
   injection he with he _
   have he:z.2=e:=he
   exact⟨by rw[he],znw hm⟩
  ·rw[←hl] at he
   cases he
 ·rcases h2 with⟨e,r',he,rfl⟩|⟨_,y',rfl,hy'⟩
  ·rw[←hl] at he
   cases he
  ·rw[zky hy hy']
   exact⟨rfl,_,rfl⟩
theorem Zv:FnScope ["_law_script","_law_box_here","_law_texts","_law_plan_here","_law_rule","_law_streams_here","_law_papers","_law_kept","_law_rows","_law_k","_law_founds","_law_given","_law_task","_law_so_far","_law_names","_law_outcome","_law_due"] ["_law_script"] (zr sLaw):=mkSc rfl (by decide +kernel)
theorem znx(F:Fun K "law" "law" sLaw f fd)(G_lpaper_is:Have P w K mg base "_law_paper_is" k ["_law_task","_law_rule","_law_kept","_law_rows","_law_names","_law_founds","_law_outcome"] (znt K ATask))(G_lhow:Have P w K mg base "_law_how" k ["_law_rule","_law_kept","_law_rows","_law_founds"] (zns K))(G_lgone:Have P w K mg base "_law_gone" k ["_law_plan_here","_law_founds"] (zju K))(G_Task_step:za2 P w K mg base ATask "step" k ["self","found"] (zg0 K ATask))(G_Task___init__:zbZ P w K mg base ATask "Task" k ["self","name","rule","kept","rows"] (zkv K ATask))(G_ltake:Have P w K mg base "_law_take" k ["_law_box_here","_law_wide"] (zcY))(G_lfound:Have P w K mg base "_law_found" k ["_law_box_here"] (zmn))(G_ltext:Have P w K mg base "_law_text" k ["_law_box_here","_law_most"] (zgx))(G_lpaper:Have P w K mg base "_law_paper" k ["_law_rule","_law_plan_here","_law_founds"] (zg2 K))(G_lbox:Have P w K mg base "_law_box" k ["_law_script","_law_k"] (zlF K))(G_lstreams:Have P w K mg base "_law_streams" k ["_law_script","_law_at","_law_total"] (zfy K))(G_lrule_of:Have P w K mg base "_law_rule_of" k ["_law_plan_here"] (zcs 7))(G_lplan:Have P w K mg base "_law_plan" k ["_law_box_here","_law_spare","_law_texts"] (zgZ 6))(m_len:mg "len"=none)(m_list:mg "list"=none)(m_range:mg "range"=none)(clT:Cls K ATask)(nN:zO K ATask "needs")(nF:zO K ATask "founds")(nH:zO K ATask "how")(nP:zO K ATask "paper"):FnOk P w K mg base CX0 (k+1) f fd ["_law_script"] (zkz K):=by
 refine F.okQ Zv (by rintro _ _ _ _ ⟨_,_,rfl,_⟩;rfl) fun cdv A outer s H vs Q E hr h=>?_
 obtain⟨a,ns,rfl,hS,_,q⟩:=h
 refine⟨_,(zj (zG (i:=1) Zv.nd rfl (Or.inr rfl) (zy G_lbox hr rfl (zc (pv 0) (zc zk zi))))
  (zj (zd6 (i:=2) [1] ["_law_box_here"] rfl rfl (by decide +kernel) rfl (by decide +kernel) rfl (by decide +kernel) ⟨rfl,trivial⟩ rfl ⟨⟨rfl,rfl,Or.inr (Or.inl rfl),(by show (some NameKind.cell:Option NameKind)≠some .local;decide),⟨_,rfl⟩⟩,trivial⟩ (ZD rfl m_range (zc (zK ZP zk (zy G_ltake hr rfl (zc (pv 1) (zc zk zi)))) zi)) (fun C s H fp=>⟨Zl,(zy G_ltext hr rfl (zc (pv 1) (zc zk zi)))⟩) Zv.nd rfl (Or.inl rfl))
  (zj (zG (i:=3) Zv.nd rfl (Or.inr rfl) (zy G_lplan hr rfl (zc (pv 1) (zc (Zb (zc (zy G_ltake hr rfl (zc (pv 1) (zc zk zi))) zi)) (zc (pv 2) zi)))))
  (zj (zG (i:=4) Zv.nd rfl (Or.inr rfl) (zy G_lrule_of hr rfl (zc (pv 3) zi)))
  (zj (zG (i:=5) Zv.nd rfl (Or.inl rfl) (zy G_lstreams hr rfl (zc (pv 0) (zc zk (zc zk zi)))))
  (zj (zd6 (i:=6) [4,3] ["_law_rule","_law_plan_here"] rfl rfl (by decide +kernel) rfl (by decide +kernel) rfl (by decide +kernel) ⟨rfl,rfl,trivial⟩ rfl ⟨⟨rfl,rfl,Or.inr (Or.inl rfl),(by show (some NameKind.cell:Option NameKind)≠some .local;decide),⟨_,rfl⟩⟩,⟨rfl,rfl,Or.inr (Or.inl rfl),(by show (some NameKind.cell:Option NameKind)≠some .local;decide),⟨_,rfl⟩⟩,trivial⟩ (ZZ (pv 5)) (fun C s H fp=>⟨Zl,(zy G_lpaper hr rfl (zc (pv 1) (zc (pv 2) (zc (pv 0) zi))))⟩) Zv.nd rfl (Or.inl rfl))
  (zj (zG (i:=1) Zv.nd rfl (Or.inr rfl) (zy G_lbox hr rfl (zc (pv 0) (zc zk zi))))
  (zj (zG (i:=7) Zv.nd rfl (Or.inl rfl) (zx zF (Zb (zc zaB (zc (zx zF (pv 6) zk (fun _ _=>rfl)) (zc (zx zF (pv 6) zk (fun _ _=>rfl)) (zc (zy G_lpaper hr rfl (zc (zE (zc zA (zc (zE (zc zA (zc zA zi))) (zc (zE (zc zA (zc zA zi))) zi)))) (zc zaB (zc (Zb zi) zi)))) zi))))) (zy G_ltake hr rfl (zc (pv 1) (zc zk zi))) (fun _ _=>rfl)))
  (zj (zG (i:=8) Zv.nd rfl (Or.inl rfl) (Zb zi))
  (zj (zat tL rfl (ZD rfl m_range (zc (zy G_ltake hr rfl (zc (pv 1) (zc zk zi))) zi)) (zR (i:=9) Zv.nd rfl (Or.inl rfl)) (zq (Ze (zcf tM tO tN zaa (pv 8) (zc (zE (zc (zy G_ltext hr rfl (zc (pv 1) (zc zk zi))) (zc (zx zF (pv 6) (zK ZP zk (zy G_ltake hr rfl (zc (pv 1) (zc zk zi)))) (fun _ _=>rfl)) zi))) zi)))))
  (zj (zG (i:=10) Zv.nd rfl (Or.inl rfl) (zx zF (pv 5) (zy G_ltake hr rfl (zc (pv 1) (zc zk zi))) (fun _ _=>rfl)))
  (zj (zN (zH Z0 (zy G_ltake hr rfl (zc (pv 1) (zc zk zi))) zk (nomark _)) (zj (zG (i:=9) Zv.nd rfl (Or.inl rfl) (zy G_ltake hr rfl (zc (pv 1) (zc zk zi))))
  (zq (zG (i:=10) Zv.nd rfl (Or.inl rfl) (zK zkJ (zK zkJ (zag zdN (pv 10) zaW (zaz (pv 9))) (Zb (zc (zy G_lfound hr rfl (zc (pv 1) zi)) zi))) (zag zdN (pv 10) (zaz (zK ZP (pv 9) zk)) zaW))))) zC)
  (zj (zG (i:=11) Zv.nd rfl (Or.inl rfl) (zJ Z9 rfl m_list zaG (zc (pv 8) zi)))
  (zj (zG (i:=12) Zv.nd rfl (Or.inl rfl) (ze3 G_Task___init__ hr rfl (zc zA (zc (pv 4) (zc (pv 7) (zc (pv 11) zi))))))
  (zj (Ze (zdu tM PySem.F.slot_list_clear PySem.F.type_list_clear zjR (pv 11)))
  (zj (Ze (zk5 G_Task_step hr (pv 12)))
  (zj (zG (i:=13) Zv.nd rfl (Or.inl rfl) (Zb zi))
  (zj (zaD (zy G_lgone hr rfl (zc (pv 3) (zc (pv 13) zi))) (zaR rfl (zY (zR (i:=14) Zv.nd rfl (Or.inl rfl)) (zY (zR (i:=15) Zv.nd rfl (Or.inl rfl)) zay))))
  (zj (zbw tL (zao (zb5 (pv 15))) (zj (zN (PW.pt (zcc (zH zjD (zL (pv 12) rfl) (zx zF (pv 14) (zcy zbx zk) (fun _ _=>rfl)) (nomark _)) (zcc (zH (ziT hr.units) (zL (pv 12) rfl) (pv 13) (nomark _)) (zcc (zao (zax (zL (pv 12) rfl))) (zbv (zao (zax (zL (pv 12) rfl)))))))) (zq (zw zfC)) zC)
  (zj (Ze (znf G_Task_step hr (pv 12) (zc (zx zF (pv 10) (zB zP rfl m_len tD (zc (pv 13) zi)) (fun _ _=>rfl)) zi)))
  (zj (zG (i:=13) Zv.nd rfl (Or.inl rfl) (zag zdN (pv 10) zaW (zaz (zK ZP (zB zP rfl m_len tD (zc (pv 13) zi)) zk))))
  (zq (zaD (zy G_lgone hr rfl (zc (pv 3) (zc (pv 13) zi))) (zaR rfl (zY (zR (i:=14) Zv.nd rfl (Or.inl rfl)) (zY (zR (i:=15) Zv.nd rfl (Or.inl rfl)) zay)))))))))
  (zj (zG (i:=16) Zv.nd rfl (Or.inl rfl) (zy G_lhow hr rfl (zc (pv 4) (zc (pv 7) (zc (pv 8) (zc (pv 13) zi))))))
  (zj (zN (PW.pt (zcc (zao (zax (zL (pv 12) rfl))) (zcc (zH (zea hr.units) (zL (pv 12) rfl) (pv 16) (nomark _)) (zbv (zH (ziT hr.units) (zL (pv 12) rfl) (pv 13) (nomark _)))))) (zq (zw zfC)) zC)
  (zq (zw (zy G_lpaper_is hr rfl (zc (pv 12) (zc (pv 4) (zc (pv 7) (zc (pv 8) (zc (pv 14) (zc (pv 13) (zc (pv 15) zi))))))))))))))))))))))))))))))),?_⟩
 refine⟨_,rfl,a,ns,1,rfl,hS,by decide,fun bx bf bm b hb=>?_⟩
 dsimp only[zX]
 have s1:=Sn (o:=.lst [.int bx,.int bf,.int bm]) hb
 have box1:Zt (upd H b (.lst [.int bx,.int bf,.int bm])) b:=⟨_,_,_,zf⟩
 generalize upd H b (.lst [.int bx,.int bf,.int bm])=H1 at s1 box1
 refine⟨_,rfl,b,5,rfl,box1,by decide,by decide,fun m H2 m0 m1 st2=>⟨_,_,rfl,rfl,_,rfl,by lia,by lia,?_⟩⟩
 refine zgX (n:=1+m) (fun i us G=>∃ts:List Str,us=ts.map V.str/\ts.length=i/\(∀t∈ts,t.length<=9/\Signs t)/\Step b H1 G) ⟨[],rfl,rfl,(fun t ht=>nomatch ht),st2⟩ (fun i us G h=>by obtain⟨ts,rfl,h,_⟩:=h;rw[yB];exact h) (by lia) (fun i us G R hi h r=>?_) (fun us G D h hD=>?_)
 ·obtain⟨ts,rfl,hl,hts,stG⟩:=h
  refine⟨_,rfl,b,9,rfl,stG.box,by decide,by decide,fun x G2 hx sx stG2=>r _ _ ⟨ts++[x],by simp,by rw[yD,hl];rfl,fun t ht=>?_,stG.trans stG2⟩⟩
  rcases yZ.mp ht with ht|ht
  ·exact hts t ht
  ·rw[yM.mp ht]
   exact⟨by lia,sx⟩
 obtain⟨ts,rfl,htl,hts,stG⟩:=h
 dsimp only[zX]
 have nDb:D≠b:=Zt.ne stG.box hD
 have eD:upd G D (.lst (ts.map V.str)) D=some (.lst (ts.map V.str)):=zf
 have st3:=stG.trans (Step.ofSame stG.box (Sn (o:=.lst (ts.map V.str)) hD))
 have kp3:∀c o,c≠b->H1 c=some o->upd G D (.lst (ts.map V.str)) c=some o:=st3.keep
 generalize upd G D (.lst (ts.map V.str))=H3 at eD st3 kp3
 refine⟨_,rfl,_,rfl,b,6,rfl,st3.box,by decide,by decide,fun sp0 H4 sp1 sp2 st4=>⟨zl1,fun sp hsp=>?_⟩⟩
 have nspb:sp≠b:=Zt.ne st4.box hsp
 have s5:=Sn (o:=.lst [.int sp0]) hsp
 have esp:upd H4 sp (.lst [.int sp0]) sp=some (.lst [.int sp0]):=zf
 have st5:=(st3.trans st4).trans (Step.ofSame st4.box s5)
 have eD5:=s5 _ _ (st4.keep D _ nDb eD)
 generalize upd H4 sp (.lst [.int sp0])=H5 at s5 esp st5 eD5
 have esp':H5 sp=some (.lst [.int ((sp0.toNat:Nat):Int)]):=by rw[esp,show ((sp0.toNat:Nat):Int)=sp0 by lia]
 refine⟨_,rfl,b,sp,D,sp0.toNat,ts,rfl,st5.box,esp',nspb,eD5,nDb,by lia,by lia,?_,by lia,hts,fun pv p s' H6 rpv okp lkp _ hb6 kp6=>?_⟩
 ·intro z
  rw[z] at htl
  have:(1+m).toNat=0:=htl.symm
  lia
 have hspH:H sp=none:=by
  cases hh:H sp with
  |none=>rfl
  |some o=>
   have:=(st3.trans st4).keep sp o nspb (s1 _ _ hh)
   rw[this] at hsp
   cases hsp
 have s6:Same H H6:=fun c o e=>kp6 c o (zm e hb) (zm e hspH) (st5.keep c o (zm e hb) (s1 _ _ e))
 dsimp only[zX]
 refine⟨_,rfl,pv,p,rfl,rpv,by lia,fun u H7 s7 ru=>?_⟩
 dsimp only[zX]
 have s67:=s6.trans s7
 refine⟨_,rfl,a,ns,3,6,rfl,s67.seq hS,by decide,fun sl st H8 s8 hsl esl hst hso=>?_⟩
 dsimp only[zX]
 have s68:=s67.trans s8
 have s78:=s7.trans s8
 have lk5:p.looks<=5:=by lia
 have rup:=zla okp lk5
 refine⟨_,rfl,sl,rfl,⟨_,Sl esl⟩,?_⟩
 refine za5 (K:=K) (vs:=st.map fun z=>V.ref z.1) (fun i us G=>∃ps:Pps,us=(ps.map fun z=>V.ref z.1)/\ps.length=i/\∀z∈ps,PpOk K G u p.pl p.ex z) (Sl esl) (by rw[yB,hst];decide) ⟨[],rfl,rfl,fun z hz=>nomatch hz⟩ (fun i us G h=>by obtain⟨ps,rfl,h,_⟩:=h;rw[yB];exact h) (fun i vv us G R hv h sm r=>?_) (fun us G D2 h sm hD2=>?_)
 ·obtain⟨ps,rfl,hl,hps⟩:=h
  rw[yF] at hv
  obtain⟨z,hz,rfl⟩:=yT.mp hv
  obtain⟨⟨ez,foz,l5⟩,_⟩:=hso z (yH hz)
  have de:=zer p
  refine⟨_,rfl,_,rfl,_,rfl,u,pv,z.1,z.2.1,p.pl,p.ex,z.2.2,rfl,ru.mono (zo (s8.trans sm)),rup,sm _ _ ez,foz.mono (zo sm),by lia,fun pp us' fs' rv G2 s2 ppr=>r _ _ s2 ⟨ps++[(pp,fs')],by simp,by rw[yD,hl];rfl,fun z' hz'=>?_⟩⟩
  rcases yZ.mp hz' with hz'|hz'
  ·exact (hps z' hz').tq (zV s2)
  ·rw[yM.mp hz']
   exact⟨us',rv,ppr⟩
 obtain⟨ps,rfl,hpl,hps⟩:=h
 rw[yB,hst] at hpl
 dsimp only[zX]
 have sD2:=Sn (o:=.lst (ps.map fun z=>V.ref z.1)) hD2
 have eD2:upd G D2 (.lst (ps.map fun z=>V.ref z.1)) D2=some (.lst (ps.map fun z=>V.ref z.1)):=zf
 have sA:=(s68.trans sm).trans sD2
 have sB:=(s8.trans sm).trans sD2
 have la:La K (upd G D2 (.lst (ps.map fun z=>V.ref z.1))) pv u sl D2 p st ps:=
  ⟨(rpv.mono (zo s7)).mono (zo sB),okp,lk5,ru.mono (zo sB),sD2 _ _ (sm _ _ esl),hst,fun z hz=>((hso z hz).1.mono sm).mono sD2,eD2,hpl,fun z hz=>(hps z hz).tq (zV sD2)⟩
 generalize upd G D2 (.lst (ps.map fun z=>V.ref z.1))=H9 at sA la
 refine⟨_,rfl,a,ns,2,rfl,sA.seq hS,by decide,fun cx cf cm b2 hb2=>?_⟩
 dsimp only[zX]
 have s10:=Sn (o:=.lst [.int cx,.int cf,.int cm]) hb2
 have box2:Zt (upd H9 b2 (.lst [.int cx,.int cf,.int cm])) b2:=⟨_,_,_,zf⟩
 have la10:=la.same s10
 have nsb:sl≠b2:=zm la.es hb2
 have npb:D2≠b2:=zm la.ep hb2
 have nzb:∀z∈st,z.1≠b2:=fun z hz=>zm (la.so z hz).1 hb2
 generalize upd H9 b2 (.lst [.int cx,.int cf,.int cm])=H10 at s10 box2 la10
 obtain⟨z0,hz0⟩:∃z0,ps[0]?=some z0:=⟨ps[0]'(by rw[hpl];decide),yA _⟩
 have at0:atI (ps.map fun z=>V.ref z.1) 0=some (.ref z0.1):=zt (j:=0) (by rw[yF,hz0];rfl)
 refine seqI (fun σ' G=>∃(kv:V)(kp:Option Kp),σ'=[some (.ref a),some (.ref b2),some (.ref D),some pv,some u,some (.ref sl),some (.ref D2),some kv,none,none,none,none,none,none,none,none,none]/\La K G pv u sl D2 p st ps/\Zt G b2/\zaJ K G kv kp/\Same H G/\∀k,kp=some k->eqW k.x.toW p.ex.toW=true->k.x=p.ex/\k.P=p.pl) (fun σ' G h=>?_) (fun nx=>?_)
 ·obtain⟨kv,kp,rfl,laG,boxG,hkG,sHG,hko⟩:=h
  refine⟨zl0,fun rl hrl=>?_⟩
  dsimp only[zX]
  have s1r:=Sn (o:=.lst []) hrl
  have erl:upd G rl (.lst []) rl=some (.lst []):=zf
  have nrb:rl≠b2:=Zt.ne boxG hrl
  have nsr:sl≠rl:=zm laG.es hrl
  have npr:D2≠rl:=zm laG.ep hrl
  have nzr:∀z∈st,z.1≠rl:=fun z hz=>zm (laG.so z hz).1 hrl
  have hrlH:H rl=none:=sHG.free hrl
  have hb20:H b2=none:=sA.free hb2
  have lb0:Lb K (upd G rl (.lst [])) pv u kv sl D2 rl p st ps kp []:=⟨laG.same s1r,hkG.tq (zV s1r),erl,by show 0<=50;decide,fun z hz=>nomatch hz⟩
  have box1r:Zt (upd G rl (.lst [])) b2:=by obtain⟨x,y,z,e⟩:=boxG;exact⟨x,y,z,s1r _ _ e⟩
  have sH1:=sHG.trans s1r
  generalize upd G rl (.lst [])=G1 at s1r erl lb0 box1r sH1
  refine seqI (fun σ' G=>∃(o9:Option V)(rows:Rows),σ'=[some (.ref a),some (.ref b2),some (.ref D),some pv,some u,some (.ref sl),some (.ref D2),some kv,some (.ref rl),o9,none,none,none,none,none,none,none]/\Lb K G pv u kv sl D2 rl p st ps kp rows/\Zt G b2/\Same H G) (fun σ' G h=>?_) (fun nx=>?_)
  ·obtain⟨o9,rows,rfl,lb,boxG,sHG⟩:=h
   have hsn:=lb.la.sn
   refine⟨_,rfl,_,rfl,b2,6,rfl,boxG,by decide,by decide,fun m G2 m0 m1 st2=>?_⟩
   have lb2:=lb.step boxG st2 nsb npb nzb nrb
   have sH2:Same H G2:=fun c o e=>st2.keep c o (zm e hb20) (sHG _ _ e)
   obtain⟨z,hz⟩:∃z,st[m.toNat]?=some z:=⟨st[m.toNat]'(by rw[hsn];lia),yA _⟩
   have hat:atI (st.map fun z=>V.ref z.1) m=some (.ref z.1):=by
    have:=zt (xs:=st.map fun z=>V.ref z.1) (j:=m.toNat) (v:=.ref z.1) (by rw[yF,hz];rfl)
    rw[show ((m.toNat:Nat):Int)=m by lia] at this
    exact this
   have nzb2:=nzb z (yH hz)
   obtain⟨ez,foz,l5⟩:=lb2.la.so z (yH hz)
   refine⟨sl,_,m,_,rfl,rfl,Sl lb2.la.es,hat,?_⟩
   dsimp only[zX]
   refine seqI (fun σ' G=>∃(o9:Option V)(fl:Addr)(us:List V)(fs:List Res),σ'=[some (.ref a),some (.ref b2),some (.ref D),some pv,some u,some (.ref sl),some (.ref D2),some kv,some (.ref rl),o9,some (.ref fl),none,none,none,none,none,none]/\Lb K G pv u kv sl D2 rl p st ps kp rows/\Same H G/\G fl=some (.lst us)/\Fo G us fs/\fs.length=5) (fun σ' G h=>?_) (fun nx=>?_)
   ·obtain⟨o9,fl,us,fs,rfl,lb,sHG,hfl,fo,l5⟩:=h
    refine⟨_,rfl,rl,_,rfl,.inl (Sl lb.hr),fun gl hgl=>?_⟩
    dsimp only[zX]
    have w1:=Sn (o:=.lst (rows.map (·.1))) hgl
    have egl:upd G gl (.lst (rows.map (·.1))) gl=some (.lst (rows.map (·.1))):=zf
    have rup:=zla lb.la.ok lb.la.lk
    generalize upd G gl (.lst (rows.map (·.1)))=G1 at w1 egl
    refine⟨_,rfl,_,rfl,_,rfl,fun tp dx htp hdx ndx=>?_⟩
    have w2:Same G1 (upd (upd G1 dx (.own tp)) tp (.ins ATask dx [])):=fun c o e=>by
     rw[zu (zm e htp),zu (zm e hdx)]
     exact e
    have etp:upd (upd G1 dx (.own tp)) tp (.ins ATask dx []) tp=some (.ins ATask dx []):=zf
    have w12:=w1.trans w2
    generalize upd (upd G1 dx (.own tp)) tp (.ins ATask dx [])=G2 at w2 etp w12
    have lb2:=lb.same w12
    refine⟨tp,dx,gl,_,u,kv,p.pl,p.ex,kp,rows,rfl,etp,w2 _ _ egl,lb.rn,lb2.ro,lb2.la.ru,rup,lb2.hk,hko,fun lf le l G3 hlf hle tk en hE k3=>⟨rfl,?_⟩⟩
    have htpG:G tp=none:=w1.free htp
    have hlfG:G lf=none:=w12.free hlf
    have hleG:G le=none:=w12.free hle
    have ngt:gl≠tp:=zm egl htp
    have egl3:=k3 gl _ ngt (w2 _ _ egl)
    have ngf:gl≠lf:=zm (w2 _ _ egl) hlf
    have nge:gl≠le:=zm (w2 _ _ egl) hle
    have s3:Same G G3:=fun c o e=>k3 c o (zm e htpG) (w12 _ _ e)
    dsimp only[zX]
    refine⟨_,rfl,.inl ⟨rfl,_,Sl egl3⟩,gl,_,rfl,rfl,egl3,?_⟩
    have t4:Tq G3 (upd G3 gl (.lst [])):=zfu egl3 (fun z=>z)
    have tk4:Tk ATask (upd G3 gl (.lst [])) tp lf le (.str "a.b") .non .non .non u kv [] (l.map (·.1)):=tk.keep fun c o hc e=>by
     rw[zu (fun z=>by rw[z] at hc;rcases hc with h|h|h;exact ngt h;exact ngf h;exact nge h)]
     exact e
    have s4:Same G (upd G3 gl (.lst [])):=fun c o e=>by rw[zu (zm e hgl)];exact s3 _ _ e
    have en4:=en.tq t4
    generalize upd G3 gl (.lst [])=G4 at t4 tk4 s4 en4
    have lb4:=lb.same s4
    have lft0:Lft p.ex kp rows [] l:=zmv hE
    have ln100:l.length<=100:=by
     have:=congrArg List.length hE
     rw[yB] at this
     unfold E0 at this
     rw[yD,yB] at this
     have hl1:(zbM p.ex kp).length<=1:=by
      cases kp with
      |none=>exact yN _
      |some k=>
       rw[zbM]
       split
       ·exact yE _
       ·exact yN _
     have:=lb.rn
     lia
    have hfst:∀(fs':List Res)(l':Ens),Lft p.ex kp rows fs' l'->Cm p.pl fs'->l'=[]->∀k,kp=some k->eqW k.x.toW p.ex.toW=true->∃j,Fst k.fs fs' j:=fun fs' l' hl cm' hnil k hk he=>by
     obtain⟨h1,h2⟩:=hko k hk he
     subst hk
     obtain⟨_,_,_,_,ppr⟩:=lb.hk
     have cmk:=ppr.cm
     rw[h2] at cmk
     refine zle cm' cmk ?_
     unfold Lft at hl
     rw[hnil] at hl
     unfold E0 at hl
     rw[zbM,he,if_pos rfl,xM] at hl
     cases hp:preB fs' k.fs with
     |false=>rfl
     |true=>
      rw[xV,if_pos (show preB fs' (enL k).fs=true from hp)] at hl
      cases hl
    have cmOf:∀{fs':List Res},Al p.pl fs'->(∃o,(p.pl.go fs').2=some o)->Cm p.pl fs':=fun {fs'} ha ⟨o,ho⟩=>by
     rcases ha with h|h
     ·rw[h] at ho;cases ho
     ·exact h
    obtain⟨dx4,ei4⟩:=tk4.ins
    refine⟨_,rfl,tp,dx4,_,rfl,ei4,rfl,?_⟩
    refine⟨tp,lf,le,_,u,kv,.non,.non,[],p.pl,p.ex,[],[],kp,l,l,rfl,tk4,lb4.la.ru,rup,Fo.nil,lb4.hk,en4,ln100,fun z hz=>⟨(lft0.mem hz).2,znv (lft0.mem hz).1⟩,.inl ⟨rfl,rfl,rfl,zgU _⟩,fun ho hn k hk he=>hfst [] l lft0 (cmOf (zgU _) ho) hn k hk he,fun le5 us5 nd5 pa5 ho5 G5 tk5 hle5 fo5 post5 t5 k5=>?_⟩
    have s5:Same G G5:=fun c o e=>k5 c o (zm e htpG) (zm e hlfG) (s4 _ _ e)
    have en5:=en4.tq t5
    refine⟨zl0,fun sf hsf=>?_⟩
    dsimp only[zX]
    have w6:=Sn (o:=.lst []) hsf
    have esf:upd G5 sf (.lst []) sf=some (.lst []):=zf
    have tk6:=tk5.same w6
    have s6:=s5.trans w6
    have en6:=en5.tq (zV w6)
    have fo6:=fo5.mono (zo w6)
    have post6:=zbN.tq (zV w6) post5
    have nsl:sf≠lf:=(zm tk5.fo hsf).symm
    generalize upd G5 sf (.lst [])=G6 at w6 esf tk6 s6 en6 fo6 post6
    have lb6:=lb.same s6
    refine⟨_,rfl,_,rfl,pv,sf,[],[],p,rfl,lb6.la.rp,lb6.la.ok,Sl esf,Fo.nil,fun ta ln ov G7 s7 hln eta eln hov1 hov2=>?_⟩
    refine⟨ta,_,rfl,Sq eta,rfl,_,_,rfl,_,_,rfl,rfl,?_⟩
    have hful:=fo.len
    dsimp only
    refine seqI (fun σ' Gx=>∃(i:Nat)(le:Addr)(us':List V)(l:Ens)(nd pa ho:V)(sf:Addr)(us2:List V)(ln:Addr)(ov:V),i<=5/\σ'=[some (.ref a),some (.ref b2),some (.ref D),some pv,some u,some (.ref sl),some (.ref D2),some kv,some (.ref rl),o9,some (.ref fl),some (.ref gl),some (.ref tp),some (.ref sf),some (.ref ln),some ov,none]/\Same G Gx/\Tk ATask Gx tp lf le (.str "a.b") nd pa ho u kv us' (l.map (·.1))/\Ends K Gx p.pl p.ex l/\l.length<=100/\Lft p.ex kp rows (fs.take i) l/\Fo Gx us' (fs.take i)/\zbN K Gx p.pl p.ex u us' (fs.take i) kp l nd pa ho/\Gx sf=some (.lst us2)/\Fo Gx us2 (fs.take i)/\Gx ln=some (.lst ((p.pl.go (fs.take i)).1.map V.str))/\(∃r,(p.pl.go (fs.take i)).2=some r/\RW Gx ov r.toW/\Fd r)/\Al p.pl (fs.take i)) (fun σ' Gx h=>?_) (fun nx=>?_)
    ·obtain⟨i,le,us',l,nd,pa,ho,sf,us2,ln,ov,hi,rfl,sx,tkx,enx,lnx,lfx,fox,posx,esx,fo2x,elx,⟨r,hgo,rov,fdr⟩,alx⟩:=h
     have lbx:=lb.same sx
     have cmx:=cmOf alx ⟨r,hgo⟩
     refine⟨_,rfl,_,rfl,_,rfl,_,rfl,u,kv,rl,sf,us2,p.pl,p.ex,fs.take i,kp,rows,rfl,lbx.la.ru,rup,lbx.hk,hko,lbx.hr,lbx.rn,lbx.ro,esx,fo2x,cmx,fun dv hw2 Gy sy rdv how2=>?_⟩
     dsimp only[zX]
     rcases posx with⟨hn,_⟩|⟨_,rfl,pp,hw,rfl,rho,dho,hcs⟩
     ·rw[hn] at hgo;cases hgo
     obtain⟨ehw,ws,ews⟩:=zkA lfx hcs how2
     subst ehw
     have tky:=tkx.same sy
     obtain⟨dxy,eiy⟩:=tky.ins
     have rhoy:=rho.mono (zo sy)
     have rhoy0:=rhoy
     rw[ews] at rhoy rdv
     have dws:depths ws<50:=by rw[ews] at dho;simp only[W.depth] at dho;lia
     have dfs:depths ((fs.take i).map Res.toW)<50:=xS (zdj (n:=13) fun w hw=>by obtain⟨r,hr,rfl⟩:=xP.mp hw;exact (fox.fd r hr).ok.dp) (by decide)
     refine⟨_,rfl,tp,ATask,dxy,_,.non,rfl,eiy,clT,nN,rfl,_,rfl,iteF ?_⟩
     refine⟨_,rfl,tp,ATask,dxy,_,ho,rfl,eiy,clT,nH,rfl,_,rfl,ws,ws,rhoy.toRS,rdv.toRS,dws,_,rfl,?_⟩
     rw[Zr]
     refine iteF ⟨_,rfl,tp,ATask,dxy,_,.ref lf,rfl,eiy,clT,nF,rfl,_,rfl,lf,sf,us',us2,(fs.take i).map Res.toW,(fs.take i).map Res.toW,rfl,rfl,Sl tky.fo,Sl (sy _ _ esx),(fox.rs.mono (zo sy)).rss,(fo2x.rs.mono (zo sy)).rss,dfs,_,rfl,?_⟩
     rw[Zr]
     have lby:=lbx.same sy
     refine iteF ⟨_,rfl,_,rfl,_,rfl,_,rfl,_,rfl,_,rfl,_,rfl,tp,lf,le,rl,ln,sf,pp,_,_,ho,u,kv,ov,us',_,us2,p.pl,p.ex,fs.take i,kp,rows,r,hw,rfl,tky,lby.la.ru,rup,lby.hk,lby.hr,lby.rn,lby.ro,sy _ _ elx,sy _ _ esx,fo2x.mono (zo sy),cmx,hgo,rov.mono (zo sy),fdr,rhoy0,?_,fun H' _=>q H'⟩
     rcases hcs with⟨z,r',hz,e1,e2⟩|⟨_,⟨rv,h7⟩,y,e2,_⟩
     ·exact .inl ⟨z.2,(lfx.mem (by rw[hz];exact yY)).1,e1,e2⟩
     ·exact .inr ⟨us',rv,y,h7.tq (zV sy),e2⟩
    ·refine⟨fun m σ' Gx=>∃(i:Nat)(le:Addr)(us':List V)(l:Ens)(nd pa ho:V)(sf:Addr)(us2:List V)(ln:Addr)(ov:V),m=5-i/\i<=5/\σ'=[some (.ref a),some (.ref b2),some (.ref D),some pv,some u,some (.ref sl),some (.ref D2),some kv,some (.ref rl),o9,some (.ref fl),some (.ref gl),some (.ref tp),some (.ref sf),some (.ref ln),some ov,none]/\Same G Gx/\Tk ATask Gx tp lf le (.str "a.b") nd pa ho u kv us' (l.map (·.1))/\Ends K Gx p.pl p.ex l/\l.length<=100/\Lft p.ex kp rows (fs.take i) l/\Fo Gx us' (fs.take i)/\zbN K Gx p.pl p.ex u us' (fs.take i) kp l nd pa ho/\Gx sf=some (.lst us2)/\Fo Gx us2 (fs.take i)/\Gx ln=some (.lst ((p.pl.go (fs.take i)).1.map V.str))/\((p.pl.go (fs.take i)).2=none->ov=.non)/\(∀r,(p.pl.go (fs.take i)).2=some r->RW Gx ov r.toW/\Fd r)/\Al p.pl (fs.take i)/\sf≠lf,⟨5,0,le5,us5,l,nd5,pa5,ho5,sf,[],ln,ov,rfl,by decide,rfl,s6.trans s7,tk6.same s7,en6.tq (zV s7),ln100,lft0,fo6.mono (zo s7),post6.tq (zV s7),s7 _ _ esf,Fo.nil,eln,hov1,hov2,zgU _,nsl⟩,?_⟩
     rintro m σ' Gx ⟨i,le,us',l,nd,pa,ho,sf,us2,ln,ov,rfl,hi,rfl,sx,tkx,enx,lnx,lfx,fox,posx,esx,fo2x,elx,ov1,ov2,alx,nsl⟩
     refine⟨_,rfl,_,rfl,?_⟩
     rcases zad (p.pl.go (fs.take i)).2 with hn|⟨r,hr⟩
     ·obtain rfl:=ov1 hn
      refine iteT ?_
      have hdeep:=zeq p.pl _ hn
      have hdp:=rup.de
      have hi5:i<5:=by rw[yP] at hdeep;lia
      have hlt:(fs.take i).length=i:=by rw[yP];lia
      rcases posx with⟨_,zn,hzn,rfl,rfl,rfl⟩|⟨⟨o,ho⟩,_⟩
      case inr=>rw[hn] at ho;cases ho
      obtain⟨dxx,eix⟩:=tkx.ins
      have hnl:=zb3 p.pl _ hn
      have hat:atI ((p.pl.go (fs.take i)).1.map V.str) (-1)=some (.str zn):=za4 (by rw[yB,yF,←List.getLast?_eq_getElem?,hzn];rfl) (by rw[yB];lia)
      have dfs:depths ((fs.take i).map Res.toW)<50:=xS (zdj (n:=13) fun w hw=>by obtain⟨r,hr,rfl⟩:=xP.mp hw;exact (fox.fd r hr).ok.dp) (by decide)
      refine⟨fun σ' Gx=>∃(m':Nat),m'<5-i/\∃(i:Nat)(le:Addr)(us':List V)(l:Ens)(nd pa ho:V)(sf:Addr)(us2:List V)(ln:Addr)(ov:V),m'=5-i/\i<=5/\σ'=[some (.ref a),some (.ref b2),some (.ref D),some pv,some u,some (.ref sl),some (.ref D2),some kv,some (.ref rl),o9,some (.ref fl),some (.ref gl),some (.ref tp),some (.ref sf),some (.ref ln),some ov,none]/\Same G Gx/\Tk ATask Gx tp lf le (.str "a.b") nd pa ho u kv us' (l.map (·.1))/\Ends K Gx p.pl p.ex l/\l.length<=100/\Lft p.ex kp rows (fs.take i) l/\Fo Gx us' (fs.take i)/\zbN K Gx p.pl p.ex u us' (fs.take i) kp l nd pa ho/\Gx sf=some (.lst us2)/\Fo Gx us2 (fs.take i)/\Gx ln=some (.lst ((p.pl.go (fs.take i)).1.map V.str))/\((p.pl.go (fs.take i)).2=none->ov=.non)/\(∀r,(p.pl.go (fs.take i)).2=some r->RW Gx ov r.toW/\Fd r)/\Al p.pl (fs.take i)/\sf≠lf,fun σ2 G2 h2=>h2,?_⟩
      refine⟨_,rfl,tp,ATask,dxx,_,.str zn,rfl,eix,clT,nN,rfl,_,rfl,_,rfl,ln,_,-1,_,rfl,rfl,Sl elx,hat,rfl,_,rfl,?_⟩
      rw[show (!decide (V.str zn=V.str zn))=false by rw[decide_eq_true rfl];rfl]
      refine iteF ⟨_,rfl,tp,ATask,dxx,_,.ref lf,rfl,eix,clT,nF,rfl,_,rfl,lf,sf,us',us2,(fs.take i).map Res.toW,(fs.take i).map Res.toW,rfl,rfl,Sl tkx.fo,Sl esx,fox.rs.rss,fo2x.rs.rss,dfs,_,rfl,?_⟩
      rw[Zr]
      refine iteF ⟨_,rfl,tp,ATask,dxx,_,.non,rfl,eix,clT,nH,rfl,_,rfl,iteF ⟨_,rfl,tp,ATask,dxx,_,.non,rfl,eix,clT,nP,rfl,_,rfl,iteF ?_⟩⟩
      have hif:i<fs.length:=by lia
      have hf:fs[i]?=some fs[i]:=yA hif
      have hv:us[i]?=some us[i]:=yA (by lia)
      have hu2:=fo2x.len
      have lbx:=lb.same sx
      have hat2:atI us ((us2.length:Nat):Int)=some us[i]:=by rw[hu2,hlt];exact zt hv
      have lf1:Lft p.ex kp rows (fs.take i++[fs[i]]) (l.filter fun z=>nxt (fs.take i).length fs[i] z.2):=lfx.step enx (fo.fd _ (yH hf))
      refine⟨_,rfl,tp,dxx,_,rfl,eix,rfl,_,rfl,_,rfl,_,_,rfl,.inl ⟨_,Sl esx,rfl⟩,fl,us,_,_,rfl,rfl,Sl (sx _ _ hfl),hat2,?_⟩
      refine⟨tp,lf,le,_,u,kv,_,us[i],us',p.pl,p.ex,fs.take i,fs.take i++[fs[i]],kp,l,_,rfl,tkx,lbx.la.ru,rup,fox,lbx.hk,enx,lnx,fun z hz=>⟨(lfx.mem hz).2,znv (lfx.mem hz).1⟩,.inr ⟨zn,fs[i],rfl,(fo.mono (zo sx)).at hv hf,fo.fd _ (yH hf),by lia,hn,rfl,rfl⟩,fun ho hnil k hk he=>hfst _ _ lf1 (cmOf (zgf hn _) ho) hnil k hk he,fun le8 us8 nd8 pa8 ho8 G8 tk8 hle8 fo8 post8 t8 k8=>?_⟩
      have s8:Same G G8:=fun c o e=>k8 c o (zm e htpG) (zm e hlfG) (sx _ _ e)
      have nst:sf≠tp:=fun z=>by rw[z,eix] at esx;cases esx
      have en8:Ends K G8 p.pl p.ex (l.filter fun z=>nxt (fs.take i).length fs[i] z.2):=fun z hz=>(enx z (xZ.mp hz).1).tq t8
      have ln8:(l.filter fun z=>nxt (fs.take i).length fs[i] z.2).length<=100:=yQ (vD _ _) lnx
      have es8:=k8 sf _ nst nsl esx
      have lb8:=lb.same s8
      refine⟨_,rfl,_,rfl,_,_,rfl,.inl ⟨_,Sl es8,rfl⟩,_,_,rfl,rfl,_,rfl,fl,us,rfl,Sl (s8 _ _ hfl),fun sq hsq=>?_⟩
      dsimp only[zX]
      have ecut:cutV us none (some (((us2.length:Nat):Int)+1))=us.take (i+1):=by
       rw[hu2,hlt]
       exact znu (k:=i+1) (by lia)
      rw[ecut]
      have w9:=Sn (o:=.lst (us.take (i+1))) hsq
      have esq:upd G8 sq (.lst (us.take (i+1))) sq=some (.lst (us.take (i+1))):=zf
      have nsq:sq≠lf:=(zm tk8.fo hsq).symm
      have s9:=s8.trans w9
      have tk9:=tk8.same w9
      have en9:=en8.tq (zV w9)
      have fo9:=fo8.mono (zo w9)
      have post9:=post8.tq (zV w9)
      generalize upd G8 sq (.lst (us.take (i+1)))=G9 at w9 esq s9 tk9 en9 fo9 post9
      have fot:=(fo.mono (zo s9)).take (i+1)
      have lb9:=lb.same s9
      refine⟨_,rfl,_,rfl,pv,sq,us.take (i+1),fs.take (i+1),p,rfl,lb9.la.rp,lb9.la.ok,Sl esq,fot,fun ta2 ln2 ov3 Gz sz hln2 eta2 eln2 ov31 ov32=>?_⟩
      refine⟨ta2,_,rfl,Sq eta2,rfl,_,_,rfl,_,_,rfl,rfl,?_⟩
      have etk:fs.take (i+1)=fs.take i++[fs[i]]:=Zg hf
      refine⟨5-(i+1),by lia,i+1,le8,us8,_,nd8,pa8,ho8,sq,us.take (i+1),ln2,ov3,rfl,by lia,rfl,s9.trans sz,tk9.same sz,en9.tq (zV sz),ln8,?_,?_,?_,sz _ _ esq,fot.mono (zo sz),eln2,ov31,ov32,?_,nsq⟩
      ·rw[etk];exact lf1
      ·rw[etk];exact fo9.mono (zo sz)
      ·rw[etk];exact post9.tq (zV sz)
      ·rw[etk];exact zgf hn _
     ·obtain⟨rov,fdr⟩:=ov2 r hr
      obtain⟨ws,ews,_⟩:=fdr.lst
      have hnon:decide (ov=V.non)=false:=by
       rw[ews] at rov
       obtain⟨_,_,rfl,_,_⟩:=rov.tup
       rfl
      rw[hnon]
      exact iteF (nx _ _ ⟨i,le,us',l,nd,pa,ho,sf,us2,ln,ov,hi,rfl,sx,tkx,enx,lnx,lfx,fox,posx,esx,fo2x,elx,⟨r,hr,rov,fdr⟩,alx⟩)
   ·refine⟨_,rfl,b2,3,rfl,st2.box,by decide,by decide,fun m3 G3 m30 m31 st3=>⟨rfl,_,rfl,ite2 (fun _=>?_) (fun _=>?_)⟩⟩
    ·have lb3:=lb2.step st2.box st3 nsb npb nzb nrb
     refine⟨_,rfl,b2,5,rfl,st3.box,by decide,by decide,fun k5 G4 k50 k51 st4=>?_⟩
     dsimp only[zX]
     have lb4:=lb3.step st3.box st4 nsb npb nzb nrb
     obtain⟨ez4,fo4,_⟩:=lb4.la.so z (yH hz)
     obtain⟨kn,rfl⟩:∃kn:Nat,k5=(kn:Int):=⟨k5.toNat,by lia⟩
     have hln:=fo4.len
     refine⟨_,rfl,_,rfl,_,rfl,z.1,z.2.1,rfl,Sl ez4,fun q1 hq1=>?_⟩
     rw[znu (by lia)]
     have w1:=Sn (o:=.lst (z.2.1.take kn)) hq1
     have eq1:upd G4 q1 (.lst (z.2.1.take kn)) q1=some (.lst (z.2.1.take kn)):=zf
     have nq1:q1≠b2:=Zt.ne st4.box hq1
     have box5:Zt (upd G4 q1 (.lst (z.2.1.take kn))) b2:=by obtain⟨x,y,z,e⟩:=st4.box;exact⟨x,y,z,w1 _ _ e⟩
     have lb5:=lb4.same w1
     have ez5:=w1 _ _ ez4
     have sH5:Same H (upd G4 q1 (.lst (z.2.1.take kn))):=fun c o e=>w1 _ _ (st4.keep c o (zm e hb20) (st3.keep c o (zm e hb20) (sH2 _ _ e)))
     have fo5:=fo4.mono (zo w1)
     generalize upd G4 q1 (.lst (z.2.1.take kn))=G5 at w1 eq1 box5 lb5 ez5 sH5 fo5
     refine⟨_,rfl,b2,rfl,box5,fun v5 r5 G6 rw5 fd5 st6=>⟨zl1,fun q2 hq2=>?_⟩⟩
     have w2:=Sn (o:=.lst [v5]) hq2
     have lb6:=(lb5.step box5 st6 nsb npb nzb nrb).same w2
     have eq1':=w2 _ _ (st6.keep q1 _ nq1 eq1)
     have eq2:upd G6 q2 (.lst [v5]) q2=some (.lst [v5]):=zf
     have ez6:=w2 _ _ (st6.keep _ _ nzb2 ez5)
     have fo6:=(fo5.mono (zex box5 st6).tups).mono (zo w2)
     have rw6:=rw5.mono (zo w2)
     have sH6:Same H (upd G6 q2 (.lst [v5])):=fun c o e=>w2 _ _ (st6.keep c o (zm e hb20) (sH5 _ _ e))
     generalize upd G6 q2 (.lst [v5])=G7 at w2 lb6 eq1' eq2 ez6 fo6 rw6 sH6
     refine⟨q1,q2,_,_,rfl,rfl,eq1',eq2,small (by rw[yP];show min kn z.2.1.length+1<=1000000;lia),fun q3 hq3=>?_⟩
     have w3:=Sn (o:=.lst (z.2.1.take kn++[v5])) hq3
     have eq3:upd G7 q3 (.lst (z.2.1.take kn++[v5])) q3=some (.lst (z.2.1.take kn++[v5])):=zf
     have lb7:=lb6.same w3
     have ez7:=w3 _ _ ez6
     have fo7:=fo6.mono (zo w3)
     have rw7:=rw6.mono (zo w3)
     have sH7:=sH6.trans w3
     generalize upd G7 q3 (.lst (z.2.1.take kn++[v5]))=G8 at w3 eq3 lb7 ez7 fo7 rw7 sH7
     refine⟨_,rfl,_,rfl,_,_,rfl,rfl,_,rfl,z.1,z.2.1,rfl,Sl ez7,fun q4 hq4=>?_⟩
     have ecut:cutV z.2.1 (some ((kn:Int)+1)) none=z.2.1.drop (kn+1):=zmu (k:=kn+1)
     rw[ecut]
     have w4:=Sn (o:=.lst (z.2.1.drop (kn+1))) hq4
     have eq4:upd G8 q4 (.lst (z.2.1.drop (kn+1))) q4=some (.lst (z.2.1.drop (kn+1))):=zf
     refine⟨q3,q4,_,_,rfl,rfl,w4 _ _ eq3,eq4,small (by rw[yD,yP,xU];show min kn z.2.1.length+1+(z.2.1.length-(kn+1))<=1000000;lia),fun q5 hq5=>?_⟩
     have w5:=Sn (o:=.lst ((z.2.1.take kn++[v5])++z.2.1.drop (kn+1))) hq5
     have w45:=w4.trans w5
     exact nx _ _ ⟨_,q5,_,(z.2.2.take kn++[r5])++z.2.2.drop (kn+1),rfl,lb7.same w45,sH7.trans w45,zf,(fo7.swap l5 (by lia) rw7 fd5).mono (zo w45),by simp[yP,xU];lia⟩
    ·exact nx _ _ ⟨_,z.1,_,_,rfl,lb2.step st2.box st3 nsb npb nzb nrb,fun c o e=>st3.keep c o (zm e hb20) (sH2 _ _ e),st3.keep _ _ nzb2 ez,foz.mono (zex st2.box st3).tups,l5⟩
  ·refine⟨_,rfl,b2,6,rfl,box1r,by decide,by decide,fun m6 G2 m60 m61 st2=>⟨m6,rfl,by lia,by lia,?_⟩⟩
   refine zaU (fun i σ' G=>∃(o9:Option V)(rows:Rows),σ'=[some (.ref a),some (.ref b2),some (.ref D),some pv,some u,some (.ref sl),some (.ref D2),some kv,some (.ref rl),o9,none,none,none,none,none,none,none]/\rows.length=i/\Lb K G pv u kv sl D2 rl p st ps kp rows/\Zt G b2/\Same H G) ⟨none,[],rfl,rfl,lb0.step box1r st2 nsb npb nzb nrb,st2.box,fun c o e=>st2.keep c o (zm e hb20) (sH1 _ _ e)⟩ (fun i σ' G hi h=>?_) (fun σ' G h=>?_)
   ·obtain⟨o9,rows,rfl,hlen,lb,boxG,sHG⟩:=h
    refine⟨_,rfl,.inl ⟨rfl,_,Sl lb.hr⟩,?_⟩
    refine⟨_,rfl,b2,5,rfl,boxG,by decide,by decide,fun x G3 hx sx st3=>?_⟩
    have lb3:=lb.step boxG st3 nsb npb nzb nrb
    refine⟨_,rfl,_,rfl,b2,4,rfl,st3.box,by decide,by decide,fun m G4 m0 m1 st4=>?_⟩
    have lb4:=lb3.step st3.box st4 nsb npb nzb nrb
    have sH4:Same H G4:=fun c o e=>st4.keep c o (zm e hb20) (st3.keep c o (zm e hb20) (sHG _ _ e))
    have hpn:=lb4.la.pn
    obtain⟨z,hz⟩:∃z,ps[(1+m).toNat]?=some z:=⟨ps[(1+m).toNat]'(by rw[hpn];lia),yA _⟩
    have hat:atI (ps.map fun z=>V.ref z.1) (1+m)=some (.ref z.1):=by
     have:=zt (xs:=ps.map fun z=>V.ref z.1) (j:=(1+m).toNat) (v:=.ref z.1) (by rw[yF,hz];rfl)
     rw[show (((1+m).toNat:Nat):Int)=1+m by lia] at this
     exact this
    refine⟨_,_,rfl,rfl,D2,_,1+m,_,rfl,rfl,Sl lb4.la.ep,hat,zl2,fun ra hra=>?_⟩
    have w1:=Sn (o:=.tup [.str x,.ref z.1]) hra
    have era:upd G4 ra (.tup [.str x,.ref z.1]) ra=some (.tup [.str x,.ref z.1]):=zf
    have lb5:=lb4.same w1
    have box5:Zt (upd G4 ra (.tup [.str x,.ref z.1])) b2:=by obtain⟨x,y,z,e⟩:=st4.box;exact⟨x,y,z,w1 _ _ e⟩
    have sH5:=sH4.trans w1
    generalize upd G4 ra (.tup [.str x,.ref z.1])=G5 at w1 era lb5 box5 sH5
    refine⟨rl,_,_,rfl,rfl,lb5.hr,ZE (by rw[yB];lia),?_⟩
    have tU:Tq G5 (upd G5 rl (.lst ((rows.map (·.1))++[.ref ra]))):=zfu lb5.hr (fun z=>z)
    have kU:∀c o,c≠rl->G5 c=some o->upd G5 rl (.lst ((rows.map (·.1))++[.ref ra])) c=some o:=fun c o hc e=>by rw[zu hc];exact e
    obtain⟨usz,rvz,pprz⟩:=lb5.la.po z (yH hz)
    refine⟨_,rows++[(.ref ra,⟨x,z.1,z.2⟩)],rfl,by rw[yD,hlen];rfl,⟨lb5.la.but nsr npr nzr tU kU,lb5.hk.tq tU,by rw[zf,xN];rfl,by rw[yD,hlen];show i+1<=50;lia,fun z' hz'=>?_⟩,?_,fun c o e=>kU c o (zm e hrlH) (sH5 _ _ e)⟩
    ·rcases yZ.mp hz' with hz'|hz'
     ·exact (lb5.ro z' hz').tq tU
     ·rw[yM.mp hz']
      exact⟨ra,u,usz,rvz,rfl,tU _ _ trivial era,pprz.tq tU⟩
    ·obtain⟨x,y,z,e⟩:=box5
     exact⟨x,y,z,kU _ _ nrb.symm e⟩
   ·obtain⟨o9,rows,rfl,hlen,lb,boxG,sHG⟩:=h
    exact nx _ _ ⟨o9,rows,rfl,lb,boxG,sHG⟩
 ·refine⟨_,rfl,D2,_,0,_,rfl,rfl,Sl la10.ep,at0,_,rfl,D2,_,0,_,rfl,rfl,Sl la10.ep,at0,zl2,fun p1 hp1=>⟨zl2,fun p2 hp2=>⟨zl3,fun p3 hp3=>⟨zl0,fun p4 hp4=>?_⟩⟩⟩⟩
  have t1:=Sn (o:=.tup [.str "lit",.str "x"]) hp1
  have t2:=Sn (o:=.tup [.str "lit",.str "y"]) hp2
  have t3:=Sn (o:=.tup [.str "join",.ref p1,.ref p2]) hp3
  have t4:=Sn (o:=.lst []) hp4
  have wJ:RW (upd (upd (upd (upd H10 p1 (.tup [.str "lit",.str "x"])) p2 (.tup [.str "lit",.str "y"])) p3 (.tup [.str "join",.ref p1,.ref p2])) p4 (.lst [])) (.ref p3) exJ.toW:=RW.three (t4 _ _ zf) (.txt _) (RW.pair (((t2.trans t3).trans t4) _ _ zf) (.txt _) (.txt _)) (RW.pair ((t3.trans t4) _ _ zf) (.txt _) (.txt _))
  have tA:=((t1.trans t2).trans t3).trans t4
  have e4:upd (upd (upd (upd H10 p1 (.tup [.str "lit",.str "x"])) p2 (.tup [.str "lit",.str "y"])) p3 (.tup [.str "join",.ref p1,.ref p2])) p4 (.lst []) p4=some (.lst []):=zf
  generalize upd (upd (upd (upd H10 p1 (.tup [.str "lit",.str "x"])) p2 (.tup [.str "lit",.str "y"])) p3 (.tup [.str "join",.ref p1,.ref p2])) p4 (.lst [])=H11 at wJ tA e4
  refine⟨.ref p3,.non,p4,[],_,exJ,[],rfl,wJ,znI,e4,Fo.nil,yN _,fun pj usj fsj rvj H12 s12 pprj=>⟨zl4,fun kl hkl=>?_⟩⟩
  have s13:=Sn (o:=.lst [.non,.ref z0.1,.ref z0.1,.ref pj]) hkl
  have ekl:upd H12 kl (.lst [.non,.ref z0.1,.ref z0.1,.ref pj]) kl=some (.lst [.non,.ref z0.1,.ref z0.1,.ref pj]):=zf
  have sC:=(tA.trans s12).trans s13
  have pj13:=pprj.tq (zV s13)
  have box13:Zt (upd H12 kl (.lst [.non,.ref z0.1,.ref z0.1,.ref pj])) b2:=by obtain⟨x,y,z,e⟩:=box2;exact⟨x,y,z,sC _ _ e⟩
  have nkb:kl≠b2:=Zt.ne (by obtain⟨x,y,z,e⟩:=box2;exact⟨x,y,z,(tA.trans s12) _ _ e⟩) hkl
  generalize upd H12 kl (.lst [.non,.ref z0.1,.ref z0.1,.ref pj])=H13 at s13 ekl sC pj13 box13
  refine⟨_,rfl,b2,4,rfl,box13,by decide,by decide,fun m4 G m40 m41 stG=>?_⟩
  have ekG:=stG.keep kl _ nkb ekl
  have tG:Tq H13 G:=zex box13 stG
  have laG:=(la10.same sC).but nsb npb nzb tG stG.keep
  have hb20:H b2=none:=sA.free hb2
  have sHG:Same H G:=fun c o e=>stG.keep c o (zm e hb20) (sC _ _ (s10 _ _ (sA _ _ e)))
  have hm:m4=0\/m4=1\/m4=2\/m4=3:=by lia
  have k0:zaJ K G (.ref z0.1) (some ⟨z0.1,p.pl,p.ex,z0.2⟩):=⟨rfl,u,laG.po z0 (yH hz0)⟩
  rcases hm with rfl|rfl|rfl|rfl
  ·exact⟨kl,_,0,_,rfl,rfl,Sl ekG,zt (j:=0) rfl,nx _ _ ⟨.non,none,rfl,laG,stG.box,rfl,sHG,fun k hk=>nomatch hk⟩⟩
  ·exact⟨kl,_,1,_,rfl,rfl,Sl ekG,zt (j:=1) rfl,nx _ _ ⟨_,_,rfl,laG,stG.box,k0,sHG,fun k hk _=>by cases hk;exact⟨rfl,rfl⟩⟩⟩
  ·exact⟨kl,_,2,_,rfl,rfl,Sl ekG,zt (j:=2) rfl,nx _ _ ⟨_,_,rfl,laG,stG.box,k0,sHG,fun k hk _=>by cases hk;exact⟨rfl,rfl⟩⟩⟩
  ·refine⟨kl,_,3,_,rfl,rfl,Sl ekG,zt (j:=3) rfl,nx _ _ ⟨_,some ⟨pj,_,exJ,fsj⟩,rfl,laG,stG.box,⟨rfl,_,usj,rvj,pj13.tq tG⟩,sHG,fun k hk he=>?_⟩⟩
   cases hk
   rw[zgH (zno p)] at he
   cases he
end
end D
namespace PySem.W.Fast
def tw11275394520282544774:=Nat
def tw14552236785779200808:=Nat
def tw13317577393437283051:=Nat
def tw4900581321624805776:=Nat
def tw3026591500058797675:=Nat
def tw4869334293437395652:=Nat
def tw5460288069243260757:=Nat
def tw967544200290192958:=Nat
def tw7101527269228625547:=Nat
def tw11504756227279897255:=Nat
def tw9985048210129911606:=Nat
def tw12802242924354522068:=Nat
def tw7491519188276117026:=Nat
def tw9685484993746342960:=Nat
def tw18044265241292656217:=Nat
def tw4025049168190815415:=Nat
def tw15212716663571102644:=Nat
def tw11082667124396706515:=Nat
def tw8233382048809357104:=Nat
def tw9783292491749032985:=Nat
def tw4908660945227853021:=Nat
def tw1020474658740257614:=Nat
def tw16396294220378032276:=Nat
def tw7881074876096005035:=Nat
def tw8125884102102298524:=Nat
def tw6130436408126153018:=Nat
def tw10381963424163894016:=Nat
def tw9234011040746472811:=Nat
def tw14152081658478427017:=Nat
def tw9815407948500593449:=Nat
def tw3477236372348829921:=Nat
def tw10056014532777370683:=Nat
def tw9719085161319259046:=Nat
def tw10859876464193674176:=Nat
def tw16551875268824907285:=Nat
def tw3157331787589350929:=Nat
def tw3940984157187073873:=Nat
def tw5165516546053120784:=Nat
def tw10755547989331810645:=Nat
def tw16167694374469656565:=Nat
def tw6832766124180131701:=Nat
def tw11602219760739204703:=Nat
def tw9066740957687131300:=Nat
def tw1138580171498880521:=Nat
def tw2437079100655211955:=Nat
def tw4982746043273992043:=Nat
def tw6750766352396654320:=Nat
def tw15170350527886417661:=Nat
def tw12891013620814014163:=Nat
def tw9949193508590163647:=Nat
def tw17508865196189123403:=Nat
def tw3725423537941364007:=Nat
def tw10860019511696579405:=Nat
def tw17888526990796343324:=Nat
def tw7423994245063514960:=Nat
def tw7322682035390797883:=Nat
def tw11186635420718773351:=Nat
def tw14647086690964131535:=Nat
def tw6857786414240619669:=Nat
def tw17290185845524661846:=Nat
def tw7231122199360557141:=Nat
def tw13363649369970464100:=Nat
def tw13044392857120770088:=Nat
def tw11954457743843299485:=Nat
def tw10589601376762027630:=Nat
def tw6294618529309884925:=Nat
def tw10199026265948031714:=Nat
def tw15554375451673909126:=Nat
def tw7613511544826816778:=Nat
def tw11081719334896751008:=Nat
def tw13379884170291989984:=Nat
def tw13734173068866674239:=Nat
def tw12640631487019780401:=Nat
def tw2256801065657367266:=Nat
def tw5825385575879048184:=Nat
def tw3034037410452619354:=Nat
def tw13494516928571001783:=Nat
def tw12776476560413510847:=Nat
def tw17281397402778039987:=Nat
def tw6375915682650680660:=Nat
def tw17340213768011622174:=Nat
def tw16300817158980916921:=Nat
def tw12517485686919666723:=Nat
def tw16662726724576500384:=Nat
def tw9245131192592389964:=Nat
def tw4565386334966155488:=Nat
def tw4434225570569282221:=Nat
def tw13024912189957778553:=Nat
def tw1212731679005749373:=Nat
def tw590028006069476426:=Nat
def tw3908011767739185804:=Nat
def tw5439664506440143218:=Nat
def tw3485513221572299892:=Nat
def tw17849362029835790935:=Nat
def tw13390765143171498266:=Nat
def tw5116547668079861471:=Nat
def tw13321084981265302019:=Nat
def tw2406537344592566751:=Nat
def tw5669238349781391735:=Nat
def tw5854969686410281800:=Nat
def tw1469979286144589604:=Nat
def tw314927256452581029:=Nat
def tw10358795255074968288:=Nat
def tw1850835969512970100:=Nat
def tw1540570600989280520:=Nat
def tw7485842485553973264:=Nat
def tw2630883174263415785:=Nat
def tw13784639078789366680:=Nat
def tw4353619867923580973:=Nat
def tw84458182012221921:=Nat
def tw3837760893468653647:=Nat
def tw251780068680162784:=Nat
def tw14214643144159998595:=Nat
def tw11902826966287978101:=Nat
def tw17049317084224749199:=Nat
def tw13134510644928289649:=Nat
def tw15563123311817310433:=Nat
def tw4403524637636939495:=Nat
def tw15829419930343559653:=Nat
def tw18108192083174935758:=Nat
def tw1130675821578036566:=Nat
def tw3929453902973949033:=Nat
def tw983646185973058584:=Nat
def tw18439103327723336199:=Nat
def tw6031735971793407054:=Nat
def tw11524831744482770568:=Nat
def tw4604688562464762446:=Nat
def tw8432902812859775116:=Nat
def tw9219360484520187141:=Nat
def tw6539370825591204534:=Nat
def tw10129632721055883322:=Nat
def tw9314260799905925361:=Nat
def tw16453214185603295567:=Nat
def tw970628557012530150:=Nat
def tw4170990645803166863:=Nat
def tw12304740618566143342:=Nat
def tw9128204689617841360:=Nat
def tw10797939640661719600:=Nat
def tw13237536487550479638:=Nat
def tw16429658212717731361:=Nat
def tw30200505634331888:=Nat
def tw3599456757715780486:=Nat
def tw10311145591238273944:=Nat
def tw848845485495338341:=Nat
def tw4570253102271863521:=Nat
def tw10513715586783948215:=Nat
def tw7993243823792797257:=Nat
def tw9305153968513170730:=Nat
def tw8235000932216025824:=Nat
def tw217737505202710180:=Nat
def tw7064748911725786178:=Nat
def tw262908328991766431:=Nat
def tw6138922666113692982:=Nat
def tw9913835170482479108:=Nat
def tw18444834953237638845:=Nat
def tw15965743867425333334:=Nat
def tw10824289550125405513:=Nat
def tw3492259442149269692:=Nat
def tw6621477091218653273:=Nat
def tw7202409516064447056:=Nat
def tw11786468181909667657:=Nat
def tw13780845442685217678:=Nat
def tw9954432315445679428:=Nat
def tw8588819057781826996:=Nat
def tw2634085410630260289:=Nat
def tw11766098262894789703:=Nat
def tw1328415131190907838:=Nat
def tw4558493005358071261:=Nat
def tw1583749593824091930:=Nat
def tw13806698116079180735:=Nat
def tw3208134472826401425:=Nat
def tw5019095318634318722:=Nat
def tw17328187196954166299:=Nat
def tw7940396969340315459:=Nat
def tw2418837940150500202:=Nat
def tw10340498710435240168:=Nat
def tw7770715931910196781:=Nat
def tw4867169949323958786:=Nat
def tw14422994586132152192:=Nat
def tw10114478219294266745:=Nat
def tw1166244244884997793:=Nat
def tw14760216035948208426:=Nat
def tw15412288964944564644:=Nat
def tw2856376030939275265:=Nat
def tw17174397915810360233:=Nat
def tw11597541142627519434:=Nat
def tw9073143166860394872:=Nat
def tw8632632221982900765:=Nat
def tw11534241909782400031:=Nat
def tw18369149037927613963:=Nat
def tw15459585566249280490:=Nat
def tw5676199733948530251:=Nat
def tw8496659751451267384:=Nat
def tw1060310273834905276:=Nat
def tw2492728032456220387:=Nat
def tw13977906941202204241:=Nat
def tw18277025191786185918:=Nat
def tw14833646563418455754:=Nat
def tw8561647961108333945:=Nat
def tw8335317871187387542:=Nat
def tw2225486780787007894:=Nat
def tw14442952411205668493:=Nat
def tw1229757054588435690:=Nat
def tw3305147406292347086:=Nat
def tw856338949724139334:=Nat
def tw2515316082219702848:=Nat
def tw14369236936746689129:=Nat
def tw17294807511136048354:=Nat
def tw17835220411795391024:=Nat
def tw16544466330978816668:=Nat
def tw5268792627938253188:=Nat
def tw14619809560011057674:=Nat
def tw7520874758801125444:=Nat
def tw7022045845212416662:=Nat
def tw7626147292942938857:=Nat
def tw3672285816298796849:=Nat
def tw14228630134667803222:=Nat
def tw11571618281009021446:=Nat
def tw12744795039743676970:=Nat
def tw6817565339004970074:=Nat
def tw13925956535188405172:=Nat
def tw1855933463220130678:=Nat
def tw5869835046775002714:=Nat
def tw17415290203747818782:=Nat
def tw11706917958148507599:=Nat
def tw2138306158718857153:=Nat
def tw3009606591672214605:=Nat
def tw12887316441883655448:=Nat
def tw13082393066941126315:=Nat
def tw6287156972965557313:=Nat
def tw15009669170312840113:=Nat
def tw12971617499940968212:=Nat
def tw7295121850649494478:=Nat
def tw13119217357528380852:=Nat
def tw4819526387033084017:=Nat
def tw3273287391852600342:=Nat
def tw6420321756614889337:=Nat
def tw12551509918147933952:=Nat
def tw13623431733874752839:=Nat
def tw13225293153298092318:=Nat
def tw2871112725999410864:=Nat
def tw4218854796727061031:=Nat
def tw7078572974844179831:=Nat
def tw10388412090309457558:=Nat
def tw10934994685030551250:=Nat
def tw4440747025052059532:=Nat
def tw9940476061221769348:=Nat
def tw14891752992766439765:=Nat
def tw9183948692864583098:=Nat
def tw6796062598343923081:=Nat
def tw3136452288077491630:=Nat
def tw13261449429881151908:=Nat
def tw14156149315898270990:=Nat
def tw3901607346065736341:=Nat
def tw11466392635073918271:=Nat
def tw8039393731214362113:=Nat
def tw8061786581820463484:=Nat
def tw9330556096353465722:=Nat
def tw18046206541846285800:=Nat
def tw14713987098530370819:=Nat
end PySem.W.Fast
namespace D
open PySem L2
theorem zeE{P:Program}{w:World}{K:tP}{mg:Str->Option Value}{base:Heap}{f:Addr}{fd:tQ}{ps:List Str}{sp:Sp}(no:∀vs H Q E,¬sp vs H Q E)(k:Nat):FnOk P w K mg base CX0 k f fd ps sp:=
 ⟨fun vs H Q E h=>absurd h (no vs H Q E),fun A outer s H args us vs Q E _ _ _ _ h=>absurd h (no vs H Q E)⟩
theorem zkB(x:Ex):1<=x.high:=by cases x<;>simp only[Ex.high]<;>lia
abbrev nI(K:tP)(s:Str)(f:Addr):Prop:=nsIn K tE s=some (some (.ref f))
abbrev lI(K:tP)(f:Addr)(s:Str)(t:Stmt)(oc:Value)(od:Option Addr)(kV dc pm:Value)(an:Option Addr)(cd ct:Value)(sl:Array (Option Value)):Prop:=K.lookup f=some ⟨oc,od,.func (fnOf s s (zU t) (zS t) (zr t) .none kV dc pm an cd ct),sl⟩
abbrev cI(K:tP)(c:Value)(s:Str):Prop:=codeIn K c s=true
abbrev kI(K:tP)(f:Addr):Prop:=keepIn K (.ref f)=true
theorem hv(P:Program)(w:World){K:tP}{mg:Str->Option Value}(base:Heap)(k:Nat){ps:List Str}{sp:Sp}{f:Addr}{fd:tQ}{x:Str}(F:FnOk P w K mg base CX0 (k+1) f fd ps sp)(b:Binds K fd ps [])(c:keepIn K (.ref f)=true)(m:mg x=some (.ref f)):Have P w K mg base x (k+1) ps sp:=⟨_,_,F,b,c,m⟩
theorem hvF(P:Program)(w:World){K:tP}{mg:Str->Option Value}(base:Heap)(k:Nat){ps:List Str}{sp:Sp}{f:Addr}{fd:tQ}(F:FnOk P w K mg base CX0 (k+1) f fd ps sp)(b:Binds K fd ps [])(c:keepIn K (.ref f)=true):Zo P w K mg base f (k+1) ps sp:=⟨_,F,b,c⟩
abbrev gI(K:tP)(f:Addr)(s:Str)(t:Stmt):Prop:=∃fd,Fun K s s t f fd
theorem zny{l:PySem.W.OpenLaw}{w:World}{K:tP}{h:Heap}{mg:Str->Option Value}{fa f0 f1 f2 f3 f4 f5 f6 f7 f8 f9 f10 f11 f12 f13 f14 f15 f16 f17 f18 f19 f20 f21 f22 f23 f24 f25 f26 f27 f28 f29 f30 f31 f32 f33 f34 f35 f36 f37 f38 f39 f40 f41 f42 f43 f44 f45 f46 f47 f48 f49 f50 f51 f52 f53 f54 f55 f56 f57 f58 f59 f60 f61 f62 f63 f64 f65 f66 f67 f68 f69 f70 f71:Addr}(X:K.In h)(G:h.Ns tE mg)(hfa:mg "law"=some (.ref fa))
  {od23 an23 od24 an24 od49 an49 od50 an50 od51 an51 od52 an52 od53 an53 od54 an54 od55 an55 od71 an71:Option Addr}{sl23 sl24 sl49 sl50 sl51 sl52 sl53 sl54 sl55 sl71:Array (Option Value)}{oc23 kV23 dc23 pm23 cd23 ct23 oc24 kV24 dc24 pm24 cd24 ct24 oc49 kV49 dc49 pm49 cd49 ct49 oc50 kV50 dc50 pm50 cd50 ct50 oc51 kV51 dc51 pm51 cd51 ct51 oc52 kV52 dc52 pm52 cd52 ct52 oc53 kV53 dc53 pm53 cd53 ct53 oc54 kV54 dc54 pm54 cd54 ct54 oc55 kV55 dc55 pm55 cd55 ct55 oc71 kV71 dc71 pm71 cd71 ct71:Value}
  {ARun:Addr} (aC_Run:nsIn K tE "Run"=some (some (.ref ARun))) (pg_Run:plainGet K ARun Str.empty=true) (hd_Run:hasDictIn K ARun=true) (po_Run:plainOver K ARun=true) (sa_Run:findIn K (.ref ARun) "__setattr__"=some (some (.builtin "object.__setattr__"))) (mk_Run:makesIn K ARun=true) (kc_Run:keepIn K (.ref ARun)=true) (nf_Run_founds:findIn K (.ref ARun) "founds"=some none) (nf_Run_names:findIn K (.ref ARun) "names"=some none)
  {ATask:Addr} (aC_Task:nsIn K tE "Task"=some (some (.ref ATask))) (pg_Task:plainGet K ATask Str.empty=true) (hd_Task:hasDictIn K ATask=true) (po_Task:plainOver K ATask=true) (sa_Task:findIn K (.ref ATask) "__setattr__"=some (some (.builtin "object.__setattr__"))) (mk_Task:makesIn K ATask=true) (kc_Task:keepIn K (.ref ATask)=true) (nf_Task_name:findIn K (.ref ATask) "name"=some none) (nf_Task_needs:findIn K (.ref ATask) "needs"=some none) (nf_Task_founds:findIn K (.ref ATask) "founds"=some none) (nf_Task_paper:findIn K (.ref ATask) "paper"=some none) (nf_Task_how:findIn K (.ref ATask) "how"=some none) (nf_Task_rule:findIn K (.ref ATask) "rule"=some none) (nf_Task_kept:findIn K (.ref ATask) "kept"=some none) (nf_Task_ends:findIn K (.ref ATask) "ends"=some none)
  (a0:nI K "is_number" f0) (l0:gI K f0 "is_number" zbk)
  (a1:nI K "is_sign" f1) (l1:gI K f1 "is_sign" zcM)
  (a2:nI K "fits_alone" f2) (l2:gI K f2 "fits_alone" zaX)
  (a3:nI K "size_alone" f3) (l3:gI K f3 "size_alone" zis)
  (a4:nI K "is_worth" f4) (l4:gI K f4 "is_worth" zbQ)
  (a5:nI K "same" f5) (l5:gI K f5 "same" zit)
  (a6:nI K "made" f6) (l6:gI K f6 "made" ziu)
  (a7:nI K "truth" f7) (l7:gI K f7 "truth" zfN)
  (a8:nI K "summed" f8) (l8:gI K f8 "summed" zdQ)
  (a9:nI K "differing" f9) (l9:gI K f9 "differing" zbl)
  (a10:nI K "multiplied" f10) (l10:gI K f10 "multiplied" zaY)
  (a11:nI K "divided" f11) (l11:gI K f11 "divided" zcN)
  (a12:nI K "lessened" f12) (l12:gI K f12 "lessened" zbR)
  (a13:nI K "figured" f13) (l13:gI K f13 "figured" zcO)
  (a14:nI K "compared" f14) (l14:gI K f14 "compared" zbS)
  (a15:nI K "joined" f15) (l15:gI K f15 "joined" zdR)
  (a16:nI K "listed" f16) (l16:gI K f16 "listed" zdS)
  (a17:nI K "item_at" f17) (l17:gI K f17 "item_at" zcP)
  (a18:nI K "counted" f18) (l18:gI K f18 "counted" zcQ)
  (a19:nI K "reckoned" f19) (l19:gI K f19 "reckoned" zbT)
  (a20:nI K "has_parts" f20) (l20:gI K f20 "has_parts" zbm)
  (a21:nI K "binding_count" f21) (l21:gI K f21 "binding_count" zar)
  (a22:nI K "parts_of" f22) (l22:gI K f22 "parts_of" zbU)
  (a23:findIn K (.ref ARun) "__init__"=some (some (.ref f23))) (q23:isFn K (.ref f23)=true) (l23:K.lookup f23=some ⟨oc23,od23,.func (fnOf "__init__" "Run.__init__" (zU Zn) (zS Zn) (zr Zn) .none kV23 dc23 pm23 an23 cd23 ct23),sl23⟩) (c23:codeIn K cd23 "Run.__init__"=true) (k23:keepIn K (.ref f23)=true)
  (a24:findIn K (.ref ARun) "look"=some (some (.ref f24))) (q24:isFn K (.ref f24)=true) (l24:K.lookup f24=some ⟨oc24,od24,.func (fnOf "look" "Run.look" (zU zal) (zS zal) (zr zal) .none kV24 dc24 pm24 an24 cd24 ct24),sl24⟩) (c24:codeIn K cd24 "Run.look"=true) (k24:keepIn K (.ref f24)=true)
  (a25:nI K "is_made" f25) (l25:gI K f25 "is_made" zcR)
  (a26:nI K "worth_of" f26) (l26:gI K f26 "worth_of" zbV)
  (a27:nI K "as_last" f27) (l27:gI K f27 "as_last" zcS)
  (a28:nI K "binding" f28) (l28:gI K f28 "binding" zcT)
  (a29:nI K "go_lit" f29) (l29:gI K f29 "go_lit" zdT)
  (a30:nI K "go_var" f30) (l30:gI K f30 "go_var" zdU)
  (a31:nI K "go_let" f31) (l31:gI K f31 "go_let" zdV)
  (a32:nI K "go_if" f32) (l32:gI K f32 "go_if" zfO)
  (a33:nI K "ended_ahead" f33) (l33:gI K f33 "ended_ahead" zaN)
  (a34:nI K "go_each" f34) (l34:gI K f34 "go_each" zcU)
  (a35:nI K "go_over" f35) (l35:gI K f35 "go_over" ziv)
  (a36:nI K "go_look" f36) (l36:gI K f36 "go_look" zcV)
  (a37:nI K "go_else" f37) (l37:gI K f37 "go_else" zcW)
  (a38:nI K "go_cry" f38) (l38:gI K f38 "go_cry" zdW)
  (a39:nI K "go_through" f39) (l39:gI K f39 "go_through" zaZ)
  (a40:nI K "go_reckoned" f40) (l40:gI K f40 "go_reckoned" zaO)
  (a41:nI K "record_of" f41) (l41:gI K f41 "record_of" zbn)
  (a42:nI K "gone" f42) (l42:gI K f42 "gone" ziw)
  (a43:nI K "just_so" f43) (l43:gI K f43 "just_so" zcX)
  (a44:nI K "founds_of" f44) (l44:gI K f44 "founds_of" zbo)
  (a45:nI K "paper_of_run" f45) (l45:gI K f45 "paper_of_run" zaA)
  (a46:nI K "first_otherwise" f46) (l46:gI K f46 "first_otherwise" Z2)
  (a47:nI K "matched_beginning" f47) (l47:gI K f47 "matched_beginning" ZI)
  (a48:nI K "found_at" f48) (l48:gI K f48 "found_at" zbW)
  (a49:findIn K (.ref ATask) "__init__"=some (some (.ref f49))) (q49:isFn K (.ref f49)=true) (l49:K.lookup f49=some ⟨oc49,od49,.func (fnOf "__init__" "Task.__init__" (zU Zj) (zS Zj) (zr Zj) .none kV49 dc49 pm49 an49 cd49 ct49),sl49⟩) (c49:codeIn K cd49 "Task.__init__"=true) (k49:keepIn K (.ref f49)=true)
  (a50:findIn K (.ref ATask) "has_kept_rule"=some (some (.ref f50))) (q50:isFn K (.ref f50)=true) (l50:K.lookup f50=some ⟨oc50,od50,.func (fnOf "has_kept_rule" "Task.has_kept_rule" (zU zT) (zS zT) (zr zT) .none kV50 dc50 pm50 an50 cd50 ct50),sl50⟩) (c50:codeIn K cd50 "Task.has_kept_rule"=true) (k50:keepIn K (.ref f50)=true)
  {T51:Addr}{td51:Option Addr}{tn51:Nat}{ts51:Array (Option Value)}
  (a51:findIn K (.ref ATask) "step"=some (some (.ref f51))) (q51:isFn K (.ref f51)=true) (l51:K.lookup f51=some ⟨oc51,od51,.func (fnOf "step" "Task.step" (zU Z3) (zS Z3) (zr Z3) (.ref T51) kV51 dc51 pm51 an51 cd51 ct51),sl51⟩) (c51:codeIn K cd51 "Task.step"=true) (k51:keepIn K (.ref f51)=true) (dl51:K.lookup T51=some ⟨.type "tuple",td51,.seq #[.none] tn51,ts51⟩)
  (a52:findIn K (.ref ATask) "take"=some (some (.ref f52))) (q52:isFn K (.ref f52)=true) (l52:K.lookup f52=some ⟨oc52,od52,.func (fnOf "take" "Task.take" (zU Z4) (zS Z4) (zr Z4) .none kV52 dc52 pm52 an52 cd52 ct52),sl52⟩) (c52:codeIn K cd52 "Task.take"=true) (k52:keepIn K (.ref f52)=true)
  (a53:findIn K (.ref ATask) "finish"=some (some (.ref f53))) (q53:isFn K (.ref f53)=true) (l53:K.lookup f53=some ⟨oc53,od53,.func (fnOf "finish" "Task.finish" (zU Zz) (zS Zz) (zr Zz) .none kV53 dc53 pm53 an53 cd53 ct53),sl53⟩) (c53:codeIn K cd53 "Task.finish"=true) (k53:keepIn K (.ref f53)=true)
  (a54:findIn K (.ref ATask) "run"=some (some (.ref f54))) (q54:isFn K (.ref f54)=true) (l54:K.lookup f54=some ⟨oc54,od54,.func (fnOf "run" "Task.run" (zU zam) (zS zam) (zr zam) .none kV54 dc54 pm54 an54 cd54 ct54),sl54⟩) (c54:codeIn K cd54 "Task.run"=true) (k54:keepIn K (.ref f54)=true)
  (a55:findIn K (.ref ATask) "why"=some (some (.ref f55))) (q55:isFn K (.ref f55)=true) (l55:K.lookup f55=some ⟨oc55,od55,.func (fnOf "why" "Task.why" (zU zan) (zS zan) (zr zan) .none kV55 dc55 pm55 an55 cd55 ct55),sl55⟩) (c55:codeIn K cd55 "Task.why"=true) (k55:keepIn K (.ref f55)=true)
  (a56:nI K "_law_cell" f56) (l56:gI K f56 "_law_cell" zlB)
  (a57:nI K "_law_box" f57) (l57:gI K f57 "_law_box" sBox)
  (a58:nI K "_law_take" f58) (l58:gI K f58 "_law_take" zlC)
  (a59:nI K "_law_text" f59) (l59:gI K f59 "_law_text" zlD)
  (a60:nI K "_law_number" f60) (l60:gI K f60 "_law_number" zfP)
  (a61:nI K "_law_worth" f61) (l61:gI K f61 "_law_worth" zix)
  (a62:nI K "_law_found" f62) (l62:gI K f62 "_law_found" zdX)
  (a63:nI K "_law_plan" f63) (l63:gI K f63 "_law_plan" zfQ)
  (a64:nI K "_law_rule_of" f64) (l64:gI K f64 "_law_rule_of" zbX)
  (a65:nI K "_law_gone" f65) (l65:gI K f65 "_law_gone" zfR)
  (a66:nI K "_law_paper" f66) (l66:gI K f66 "_law_paper" zdY)
  (a67:nI K "_law_founds_of" f67) (l67:gI K f67 "_law_founds_of" za0)
  (a68:nI K "_law_how" f68) (l68:gI K f68 "_law_how" ziy)
  (a69:nI K "_law_paper_is" f69) (l69:gI K f69 "_law_paper_is" zbp)
  (a70:nI K "_law_streams" f70) (l70:gI K f70 "_law_streams" zbY)
  (a71:nI K "law" f71) (l71:lI K f71 "law" sLaw oc71 od71 kV71 dc71 pm71 an71 cd71 ct71 sl71) (c71:cI K cd71 "law") (k71:kI K f71)
  (z0:nsIn K tE "isinstance"=some none)
  (z1:nsIn K tE "int"=some none)
  (z2:nsIn K tE "bool"=some none)
  (z3:nsIn K tE "ord"=some none)
  (z4:nsIn K tE "str"=some none)
  (z5:nsIn K tE "tuple"=some none)
  (z6:nsIn K tE "len"=some none)
  (z7:nsIn K tE "all"=some none)
  (z8:nsIn K tE "abs"=some none)
  (z9:nsIn K tE "list"=some none)
  (z10:nsIn K tE "dict"=some none)
  (z11:nsIn K tE "repr"=some none)
  (z12:nsIn K tE "zip"=some none)
  (z13:nsIn K tE "enumerate"=some none)
  (z14:nsIn K tE "range"=some none)
  (z15:nsIn K tE "min"=some none)
  {t0:Tok} (i0:nsIn K tE "PERCENT"=some (some (.int 37 t0)))
  {t1:Tok} (i1:nsIn K tE "MOST_SIGNS"=some (some (.int 400 t1)))
  {t2:Tok} (i2:nsIn K tE "MOST_ITEMS"=some (some (.int 60 t2)))
  {t3:Tok} (i3:nsIn K tE "MOST_DEPTH"=some (some (.int 12 t3)))
  {t4:Tok} (i4:nsIn K tE "MOST_SIZE"=some (some (.int 1000 t4)))
  {t5:Tok} (i5:nsIn K tE "MOST_WALKED"=some (some (.int 10 t5)))
  {g0:Addr}{gd0:Option Addr}{gn0:Nat}{gs0:Array (Option Value)}{u0_0 u0_1 u0_2:Tok} (y0:nsIn K tE "GREAT"=some (some (.ref g0))) (x0:K.lookup g0=some ⟨.type "tuple",gd0,.seq #[.str "wrong" u0_0,.str "great" u0_1,.str "" u0_2] gn0,gs0⟩)
  {g1:Addr}{gd1:Option Addr}{gn1:Nat}{gs1:Array (Option Value)}{u1_0 u1_1 u1_2:Tok} (y1:nsIn K tE "NOUGHT"=some (some (.ref g1))) (x1:K.lookup g1=some ⟨.type "tuple",gd1,.seq #[.str "wrong" u1_0,.str "nought" u1_1,.str "" u1_2] gn1,gs1⟩)
  {g2:Addr}{gd2:Option Addr}{gn2:Nat}{gs2:Array (Option Value)}{u2_0 u2_1 u2_2:Tok} (y2:nsIn K tE "KIND"=some (some (.ref g2))) (x2:K.lookup g2=some ⟨.type "tuple",gd2,.seq #[.str "wrong" u2_0,.str "kind" u2_1,.str "" u2_2] gn2,gs2⟩)
  {g3:Addr}{gd3:Option Addr}{gn3:Nat}{gs3:Array (Option Value)}{u3_0 u3_1 u3_2:Tok} (y3:nsIn K tE "PLACE"=some (some (.ref g3))) (x3:K.lookup g3=some ⟨.type "tuple",gd3,.seq #[.str "wrong" u3_0,.str "place" u3_1,.str "" u3_2] gn3,gs3⟩)
  {dg0:Addr}{dn0:Nat}{du0_0 du0_1 du0_2 du0_3 du0_4 du0_5:Tok} (dy0:nsIn K tE "NUMBER_DEEDS"=some (some (.ref dg0))) (dx0:K.lookup dg0=some ⟨.type "dict",none,.dict #[⟨hashStr w "+",.str "+" du0_0,.ref f8⟩,⟨hashStr w "-",.str "-" du0_1,.ref f9⟩,⟨hashStr w "*",.str "*" du0_2,.ref f10⟩,⟨hashStr w "/",.str "/" du0_3,.ref f11⟩,⟨hashStr w "less",.str "less" du0_4,.ref f12⟩,⟨hashStr w "figures",.str "figures" du0_5,.ref f13⟩] dn0,#[]⟩) (dz0:(dg0==sysModules)=false)
  {dg1:Addr}{dn1:Nat}{du1_0 du1_1 du1_2 du1_3 du1_4:Tok} (dy1:nsIn K tE "OTHER_DEEDS"=some (some (.ref dg1))) (dx1:K.lookup dg1=some ⟨.type "dict",none,.dict #[⟨hashStr w "same",.str "same" du1_0,.ref f14⟩,⟨hashStr w "join",.str "join" du1_1,.ref f15⟩,⟨hashStr w "list",.str "list" du1_2,.ref f16⟩,⟨hashStr w "item",.str "item" du1_3,.ref f17⟩,⟨hashStr w "count",.str "count" du1_4,.ref f18⟩] dn1,#[]⟩) (dz1:(dg1==sysModules)=false)
  {dg2:Addr}{dn2:Nat}{du2_0 dv2_0 du2_1 dv2_1 du2_2 dv2_2:Tok} (dy2:nsIn K tE "BINDING"=some (some (.ref dg2))) (dx2:K.lookup dg2=some ⟨.type "dict",none,.dict #[⟨hashStr w "let",.str "let" du2_0,.int 1 dv2_0⟩,⟨hashStr w "each",.str "each" du2_1,.int 1 dv2_1⟩,⟨hashStr w "over",.str "over" du2_2,.int 2 dv2_2⟩] dn2,#[]⟩) (dz2:(dg2==sysModules)=false)
  {dg3:Addr}{dn3:Nat}{du3_0 dv3_0 du3_1 dv3_1 du3_2 dv3_2 du3_3 dv3_3 du3_4 dv3_4 du3_5 dv3_5 du3_6 dv3_6 du3_7 dv3_7 du3_8 dv3_8 du3_9 dv3_9 du3_10 dv3_10 du3_11 dv3_11 du3_12 dv3_12 du3_13 dv3_13 du3_14 dv3_14 du3_15 dv3_15 du3_16 dv3_16:Tok} (dy3:nsIn K tE "PARTS"=some (some (.ref dg3))) (dx3:K.lookup dg3=some ⟨.type "dict",none,.dict #[⟨hashStr w "let",.str "let" du3_0,.int 2 dv3_0⟩,⟨hashStr w "if",.str "if" du3_1,.int 3 dv3_1⟩,⟨hashStr w "+",.str "+" du3_2,.int 2 dv3_2⟩,⟨hashStr w "-",.str "-" du3_3,.int 2 dv3_3⟩,⟨hashStr w "*",.str "*" du3_4,.int 2 dv3_4⟩,⟨hashStr w "/",.str "/" du3_5,.int 2 dv3_5⟩,⟨hashStr w "same",.str "same" du3_6,.int 2 dv3_6⟩,⟨hashStr w "less",.str "less" du3_7,.int 2 dv3_7⟩,⟨hashStr w "join",.str "join" du3_8,.int 2 dv3_8⟩,⟨hashStr w "item",.str "item" du3_9,.int 2 dv3_9⟩,⟨hashStr w "count",.str "count" du3_10,.int 1 dv3_10⟩,⟨hashStr w "figures",.str "figures" du3_11,.int 1 dv3_11⟩,⟨hashStr w "each",.str "each" du3_12,.int 2 dv3_12⟩,⟨hashStr w "over",.str "over" du3_13,.int 3 dv3_13⟩,⟨hashStr w "look",.str "look" du3_14,.int 1 dv3_14⟩,⟨hashStr w "else",.str "else" du3_15,.int 2 dv3_15⟩,⟨hashStr w "cry",.str "cry" du3_16,.int 1 dv3_16⟩] dn3,#[]⟩) (dz3:(dg3==sysModules)=false)
  {dg4:Addr}{dn4:Nat}{du4_0 du4_1 du4_2 du4_3 du4_4 du4_5 du4_6 du4_7 du4_8:Tok} (dy4:nsIn K tE "GOING"=some (some (.ref dg4))) (dx4:K.lookup dg4=some ⟨.type "dict",none,.dict #[⟨hashStr w "lit",.str "lit" du4_0,.ref f29⟩,⟨hashStr w "var",.str "var" du4_1,.ref f30⟩,⟨hashStr w "let",.str "let" du4_2,.ref f31⟩,⟨hashStr w "if",.str "if" du4_3,.ref f32⟩,⟨hashStr w "each",.str "each" du4_4,.ref f34⟩,⟨hashStr w "over",.str "over" du4_5,.ref f35⟩,⟨hashStr w "look",.str "look" du4_6,.ref f36⟩,⟨hashStr w "else",.str "else" du4_7,.ref f37⟩,⟨hashStr w "cry",.str "cry" du4_8,.ref f38⟩] dn4,#[]⟩) (dz4:(dg4==sysModules)=false)
  : ∃fd:tQ,(∀(s:Shared)(v:Value),BindsTo s fd ⟨[v],[]⟩ [("_law_script",v)])/\∀base:Heap,K.In base->base.Ns tE mg->FnOk l.prog w K mg base CX0 200 fa fd ["_law_script"] (zkz K):=by
 have e:=hfa.symm.trans (mg_of X G a71)
 cases e
 obtain⟨_,F0⟩:=l0
 obtain⟨_,F1⟩:=l1
 obtain⟨_,F2⟩:=l2
 obtain⟨_,F3⟩:=l3
 obtain⟨_,F4⟩:=l4
 obtain⟨_,F5⟩:=l5
 obtain⟨_,F6⟩:=l6
 have b6:=F6.binds (ps:=["thing"]) fun _ _ _ _ _ _ us hl=>by obtain⟨_,rfl⟩:=us_1 hl;rfl
 have n6:=mg_of X G a6
 obtain⟨_,F7⟩:=l7
 obtain⟨_,F8⟩:=l8
 obtain⟨_,F9⟩:=l9
 obtain⟨_,F10⟩:=l10
 obtain⟨_,F11⟩:=l11
 obtain⟨_,F12⟩:=l12
 obtain⟨_,F13⟩:=l13
 obtain⟨_,F14⟩:=l14
 obtain⟨_,F15⟩:=l15
 obtain⟨_,F16⟩:=l16
 obtain⟨_,F17⟩:=l17
 obtain⟨_,F18⟩:=l18
 obtain⟨_,F19⟩:=l19
 obtain⟨_,F20⟩:=l20
 obtain⟨_,F21⟩:=l21
 obtain⟨_,F22⟩:=l22
 have F23:=zbe (st:=Zn) l23 c23 k23
 have b23:=F23.binds (ps:=["self","founds"]) fun _ _ _ _ _ _ us hl=>by obtain⟨_,_,rfl⟩:=us_2 hl;rfl
 have F24:=zbe (st:=zal) l24 c24 k24
 have b24:=F24.binds (ps:=["self","name"]) fun _ _ _ _ _ _ us hl=>by obtain⟨_,_,rfl⟩:=us_2 hl;rfl
 obtain⟨_,F25⟩:=l25
 obtain⟨_,F26⟩:=l26
 obtain⟨_,F27⟩:=l27
 obtain⟨_,F28⟩:=l28
 obtain⟨_,F29⟩:=l29
 have b29:=F29.binds (ps:=["run","expression","bound"]) fun _ _ _ _ _ _ us hl=>by obtain⟨_,_,_,rfl⟩:=us_3 hl;rfl
 have n29:=mg_of X G a29
 obtain⟨_,F30⟩:=l30
 have b30:=F30.binds (ps:=["run","expression","bound"]) fun _ _ _ _ _ _ us hl=>by obtain⟨_,_,_,rfl⟩:=us_3 hl;rfl
 have n30:=mg_of X G a30
 obtain⟨_,F31⟩:=l31
 have b31:=F31.binds (ps:=["run","expression","bound"]) fun _ _ _ _ _ _ us hl=>by obtain⟨_,_,_,rfl⟩:=us_3 hl;rfl
 have n31:=mg_of X G a31
 obtain⟨_,F32⟩:=l32
 have b32:=F32.binds (ps:=["run","expression","bound"]) fun _ _ _ _ _ _ us hl=>by obtain⟨_,_,_,rfl⟩:=us_3 hl;rfl
 have n32:=mg_of X G a32
 obtain⟨_,F33⟩:=l33
 obtain⟨_,F34⟩:=l34
 have b34:=F34.binds (ps:=["run","expression","bound"]) fun _ _ _ _ _ _ us hl=>by obtain⟨_,_,_,rfl⟩:=us_3 hl;rfl
 have n34:=mg_of X G a34
 obtain⟨_,F35⟩:=l35
 have b35:=F35.binds (ps:=["run","expression","bound"]) fun _ _ _ _ _ _ us hl=>by obtain⟨_,_,_,rfl⟩:=us_3 hl;rfl
 have n35:=mg_of X G a35
 obtain⟨_,F36⟩:=l36
 have b36:=F36.binds (ps:=["run","expression","bound"]) fun _ _ _ _ _ _ us hl=>by obtain⟨_,_,_,rfl⟩:=us_3 hl;rfl
 have n36:=mg_of X G a36
 obtain⟨_,F37⟩:=l37
 have b37:=F37.binds (ps:=["run","expression","bound"]) fun _ _ _ _ _ _ us hl=>by obtain⟨_,_,_,rfl⟩:=us_3 hl;rfl
 have n37:=mg_of X G a37
 obtain⟨_,F38⟩:=l38
 have b38:=F38.binds (ps:=["run","expression","bound"]) fun _ _ _ _ _ _ us hl=>by obtain⟨_,_,_,rfl⟩:=us_3 hl;rfl
 have n38:=mg_of X G a38
 obtain⟨_,F39⟩:=l39
 have b39:=F39.binds (ps:=["run","expressions","bound"]) fun _ _ _ _ _ _ us hl=>by obtain⟨_,_,_,rfl⟩:=us_3 hl;rfl
 have n39:=mg_of X G a39
 obtain⟨_,F40⟩:=l40
 have b40:=F40.binds (ps:=["run","expression","bound"]) fun _ _ _ _ _ _ us hl=>by obtain⟨_,_,_,rfl⟩:=us_3 hl;rfl
 have n40:=mg_of X G a40
 obtain⟨_,F41⟩:=l41
 have b41:=F41.binds (ps:=["run","expression","bound"]) fun _ _ _ _ _ _ us hl=>by obtain⟨_,_,_,rfl⟩:=us_3 hl;rfl
 have n41:=mg_of X G a41
 obtain⟨_,F42⟩:=l42
 obtain⟨_,F43⟩:=l43
 obtain⟨_,F44⟩:=l44
 obtain⟨_,F45⟩:=l45
 obtain⟨_,F46⟩:=l46
 obtain⟨_,F47⟩:=l47
 obtain⟨_,F48⟩:=l48
 have F49:=zbe (st:=Zj) l49 c49 k49
 have b49:=F49.binds (ps:=["self","name","rule","kept","rows"]) fun _ _ _ _ _ _ us hl=>by obtain⟨_,_,_,_,_,rfl⟩:=us_5 hl;rfl
 have F50:=zbe (st:=zT) l50 c50 k50
 have b50:=F50.binds (ps:=["self"]) fun _ _ _ _ _ _ us hl=>by obtain⟨_,rfl⟩:=us_1 hl;rfl
 have F51:=zl8 (st:=Z3) l51 c51
 have b51:=F51.binds (ps:=["self","found"]) (ds:=[]) dl51 rfl fun _ _ _ _ _ _ us hl=>by rw[xK] at hl ⊢;obtain⟨_,_,rfl⟩:=us_2 hl;exact⟨_,rfl,rfl⟩
 have bd51:=F51.binds (ps:=["self","found"]) (ds:=[.none]) dl51 rfl fun _ _ _ _ _ _ us hl=>by rw[yD] at hl;obtain⟨_,rfl⟩:=us_1 (Nat.succ.inj hl);exact⟨_,rfl,rfl⟩
 have F52:=zbe (st:=Z4) l52 c52 k52
 have b52:=F52.binds (ps:=["self","found"]) fun _ _ _ _ _ _ us hl=>by obtain⟨_,_,rfl⟩:=us_2 hl;rfl
 have F53:=zbe (st:=Zz) l53 c53 k53
 have b53:=F53.binds (ps:=["self","how","paper"]) fun _ _ _ _ _ _ us hl=>by obtain⟨_,_,_,rfl⟩:=us_3 hl;rfl
 have F54:=zbe (st:=zam) l54 c54 k54
 have b54:=F54.binds (ps:=["self"]) fun _ _ _ _ _ _ us hl=>by obtain⟨_,rfl⟩:=us_1 hl;rfl
 have F55:=zbe (st:=zan) l55 c55 k55
 have b55:=F55.binds (ps:=["self"]) fun _ _ _ _ _ _ us hl=>by obtain⟨_,rfl⟩:=us_1 hl;rfl
 obtain⟨_,F56⟩:=l56
 obtain⟨_,F57⟩:=l57
 obtain⟨_,F58⟩:=l58
 obtain⟨_,F59⟩:=l59
 obtain⟨_,F60⟩:=l60
 obtain⟨_,F61⟩:=l61
 have b61:=F61.binds (ps:=["_law_box_here","_law_room","_law_deep"]) fun _ _ _ _ _ _ us hl=>by obtain⟨_,_,_,rfl⟩:=us_3 hl;rfl
 have n61:=mg_of X G a61
 obtain⟨_,F62⟩:=l62
 obtain⟨_,F63⟩:=l63
 have b63:=F63.binds (ps:=["_law_box_here","_law_spare","_law_texts"]) fun _ _ _ _ _ _ us hl=>by obtain⟨_,_,_,rfl⟩:=us_3 hl;rfl
 have n63:=mg_of X G a63
 obtain⟨_,F64⟩:=l64
 have b64:=F64.binds (ps:=["_law_plan_here"]) fun _ _ _ _ _ _ us hl=>by obtain⟨_,rfl⟩:=us_1 hl;rfl
 have n64:=mg_of X G a64
 obtain⟨_,F65⟩:=l65
 obtain⟨_,F66⟩:=l66
 obtain⟨_,F67⟩:=l67
 obtain⟨_,F68⟩:=l68
 obtain⟨_,F69⟩:=l69
 obtain⟨_,F70⟩:=l70
 have F71:=zbe (st:=sLaw) l71 c71 k71
 have cl_Run:Cls K ARun:=⟨pg_Run,hd_Run,po_Run,sa_Run⟩
 have cl_Task:Cls K ATask:=⟨pg_Task,hd_Task,po_Task,sa_Task⟩
 have m_isinstance:=mg_none_of X G z0
 have m_int:=mg_none_of X G z1
 have m_bool:=mg_none_of X G z2
 have m_ord:=mg_none_of X G z3
 have m_str:=mg_none_of X G z4
 have m_tuple:=mg_none_of X G z5
 have m_len:=mg_none_of X G z6
 have m_all:=mg_none_of X G z7
 have m_abs:=mg_none_of X G z8
 have m_list:=mg_none_of X G z9
 have m_dict:=mg_none_of X G z10
 have m_repr:=mg_none_of X G z11
 have m_zip:=mg_none_of X G z12
 have m_enumerate:=mg_none_of X G z13
 have m_range:=mg_none_of X G z14
 have m_min:=mg_none_of X G z15
 have m_PERCENT:∃t,mg "PERCENT"=some (.int 37 t):=⟨t0,mg_of X G i0⟩
 have m_MOST_SIGNS:∃t,mg "MOST_SIGNS"=some (.int 400 t):=⟨t1,mg_of X G i1⟩
 have m_MOST_ITEMS:∃t,mg "MOST_ITEMS"=some (.int 60 t):=⟨t2,mg_of X G i2⟩
 have m_MOST_DEPTH:∃t,mg "MOST_DEPTH"=some (.int 12 t):=⟨t3,mg_of X G i3⟩
 have m_MOST_SIZE:∃t,mg "MOST_SIZE"=some (.int 1000 t):=⟨t4,mg_of X G i4⟩
 have m_MOST_WALKED:∃t,mg "MOST_WALKED"=some (.int 10 t):=⟨t5,mg_of X G i5⟩
 have m_GREAT:=mg_of X G y0
 have t_GREAT:∀H:Hp,SqT K H g0 [.str "wrong",.str "great",.str ""]:=fun H=>.inr ⟨_,_,_,x0,rfl,rfl,zl3,(.cons ⟨_,rfl⟩ (.cons ⟨_,rfl⟩ (.cons ⟨_,rfl⟩ .nil)))⟩
 have m_NOUGHT:=mg_of X G y1
 have t_NOUGHT:∀H:Hp,SqT K H g1 [.str "wrong",.str "nought",.str ""]:=fun H=>.inr ⟨_,_,_,x1,rfl,rfl,zl3,(.cons ⟨_,rfl⟩ (.cons ⟨_,rfl⟩ (.cons ⟨_,rfl⟩ .nil)))⟩
 have m_KIND:=mg_of X G y2
 have t_KIND:∀H:Hp,SqT K H g2 [.str "wrong",.str "kind",.str ""]:=fun H=>.inr ⟨_,_,_,x2,rfl,rfl,zl3,(.cons ⟨_,rfl⟩ (.cons ⟨_,rfl⟩ (.cons ⟨_,rfl⟩ .nil)))⟩
 have m_PLACE:=mg_of X G y3
 have t_PLACE:∀H:Hp,SqT K H g3 [.str "wrong",.str "place",.str ""]:=fun H=>.inr ⟨_,_,_,x3,rfl,rfl,zl3,(.cons ⟨_,rfl⟩ (.cons ⟨_,rfl⟩ (.cons ⟨_,rfl⟩ .nil)))⟩
 have m_NUMBER_DEEDS:=mg_of X G dy0
 have d_NUMBER_DEEDS:MD l.prog w K dg0 (kvsN f8 f9 f10 f11 f12 f13):=ziI [("+",du0_0,.ref f8,.ref f8),("-",du0_1,.ref f9,.ref f9),("*",du0_2,.ref f10,.ref f10),("/",du0_3,.ref f11,.ref f11),("less",du0_4,.ref f12,.ref f12),("figures",du0_5,.ref f13,.ref f13)] dx0 dz0 (fun p hp=>by simp only[yS,wS,or_false] at hp;rcases hp with rfl|rfl|rfl|rfl|rfl|rfl<;>first|exact rfl|exact⟨_,rfl⟩) (by show (["+","-","*","/","less","figures"]:List Str).Nodup;decide +kernel)
 have m_OTHER_DEEDS:=mg_of X G dy1
 have d_OTHER_DEEDS:MD l.prog w K dg1 (kvsO f14 f15 f16 f17 f18):=ziI [("same",du1_0,.ref f14,.ref f14),("join",du1_1,.ref f15,.ref f15),("list",du1_2,.ref f16,.ref f16),("item",du1_3,.ref f17,.ref f17),("count",du1_4,.ref f18,.ref f18)] dx1 dz1 (fun p hp=>by simp only[yS,wS,or_false] at hp;rcases hp with rfl|rfl|rfl|rfl|rfl<;>first|exact rfl|exact⟨_,rfl⟩) (by show (["same","join","list","item","count"]:List Str).Nodup;decide +kernel)
 have m_BINDING:=mg_of X G dy2
 have d_BINDING:MD l.prog w K dg2 (kvsB ):=ziI [("let",du2_0,.int 1,.int 1 dv2_0),("each",du2_1,.int 1,.int 1 dv2_1),("over",du2_2,.int 2,.int 2 dv2_2)] dx2 dz2 (fun p hp=>by simp only[yS,wS,or_false] at hp;rcases hp with rfl|rfl|rfl<;>first|exact rfl|exact⟨_,rfl⟩) (by show (["let","each","over"]:List Str).Nodup;decide +kernel)
 have m_PARTS:=mg_of X G dy3
 have d_PARTS:MD l.prog w K dg3 (kvsP ):=ziI [("let",du3_0,.int 2,.int 2 dv3_0),("if",du3_1,.int 3,.int 3 dv3_1),("+",du3_2,.int 2,.int 2 dv3_2),("-",du3_3,.int 2,.int 2 dv3_3),("*",du3_4,.int 2,.int 2 dv3_4),("/",du3_5,.int 2,.int 2 dv3_5),("same",du3_6,.int 2,.int 2 dv3_6),("less",du3_7,.int 2,.int 2 dv3_7),("join",du3_8,.int 2,.int 2 dv3_8),("item",du3_9,.int 2,.int 2 dv3_9),("count",du3_10,.int 1,.int 1 dv3_10),("figures",du3_11,.int 1,.int 1 dv3_11),("each",du3_12,.int 2,.int 2 dv3_12),("over",du3_13,.int 3,.int 3 dv3_13),("look",du3_14,.int 1,.int 1 dv3_14),("else",du3_15,.int 2,.int 2 dv3_15),("cry",du3_16,.int 1,.int 1 dv3_16)] dx3 dz3 (fun p hp=>by simp only[yS,wS,or_false] at hp;rcases hp with rfl|rfl|rfl|rfl|rfl|rfl|rfl|rfl|rfl|rfl|rfl|rfl|rfl|rfl|rfl|rfl|rfl<;>first|exact rfl|exact⟨_,rfl⟩) (by show (["let","if","+","-","*","/","same","less","join","item","count","figures","each","over","look","else","cry"]:List Str).Nodup;decide +kernel)
 have m_GOING:=mg_of X G dy4
 have d_GOING:MD l.prog w K dg4 (kvsG f29 f30 f31 f32 f34 f35 f36 f37 f38):=ziI [("lit",du4_0,.ref f29,.ref f29),("var",du4_1,.ref f30,.ref f30),("let",du4_2,.ref f31,.ref f31),("if",du4_3,.ref f32,.ref f32),("each",du4_4,.ref f34,.ref f34),("over",du4_5,.ref f35,.ref f35),("look",du4_6,.ref f36,.ref f36),("else",du4_7,.ref f37,.ref f37),("cry",du4_8,.ref f38,.ref f38)] dx4 dz4 (fun p hp=>by simp only[yS,wS,or_false] at hp;rcases hp with rfl|rfl|rfl|rfl|rfl|rfl|rfl|rfl|rfl<;>first|exact rfl|exact⟨_,rfl⟩) (by show (["lit","var","let","if","each","over","look","else","cry"]:List Str).Nodup;decide +kernel)
 refine⟨fnOf "law" "law" (zU sLaw) (zS sLaw) (zr sLaw) .none kV71 dc71 pm71 an71 cd71 ct71,fun s v=>.of_eq rfl,fun base _ _=>?_⟩
 have h_is_number:=hv l.prog w base 0 (zj2 F0 m_isinstance m_int m_bool) (F0.b1 (by intros;rfl)) F0.2 (mg_of X G a0)
 have h_is_sign:=hv l.prog w base 0 (ziD F1 m_ord m_PERCENT) (F1.b1 (by intros;rfl)) F1.2 (mg_of X G a1)
 have h_size_alone:=hv l.prog w base 0 (zj4 F3 m_isinstance m_str m_len) (F3.b1 (by intros;rfl)) F3.2 (mg_of X G a3)
 have h_same:=hv l.prog w base 0 (zmc F5 ) (F5.b2 (by intros;rfl)) F5.2 (mg_of X G a5)
 have h_truth:=hv l.prog w base 0 (zka F7 ) (F7.b1 (by intros;rfl)) F7.2 (mg_of X G a7)
 have h_has_parts:=hv l.prog w base 0 (zfg F20 m_PARTS d_PARTS) (F20.b1 (by intros;rfl)) F20.2 (mg_of X G a20)
 have h_binding_count:=hv l.prog w base 0 (zci F21 m_BINDING d_BINDING) (F21.b1 (by intros;rfl)) F21.2 (mg_of X G a21)
 have h_Run_look:zaj l.prog w K mg base ARun "look" 1 ["self","name"] (zi7 K ARun):=⟨_,_,(zga F24 m_len cl_Run nf_Run_founds nf_Run_names:FnOk l.prog w K mg base CX0 (0+1) _ _ _ _),b24,⟨a24,q24,k24⟩,cl_Run⟩
 have h_is_made:=hv l.prog w base 0 (zhG F25 ) (F25.b1 (by intros;rfl)) F25.2 (mg_of X G a25)
 have h_worth_of:=hv l.prog w base 0 (zf7 F26 ) (F26.b1 (by intros;rfl)) F26.2 (mg_of X G a26)
 have h_as_last:=hv l.prog w base 0 (zhI F27 m_tuple) (F27.b1 (by intros;rfl)) F27.2 (mg_of X G a27)
 have h_binding:=hv l.prog w base 0 (zhJ F28 m_dict) (F28.b3 (by intros;rfl)) F28.2 (mg_of X G a28)
 have h_just_so:=hv l.prog w base 0 (zhR F43 m_repr) (F43.b2 (by intros;rfl)) F43.2 (mg_of X G a43)
 have h_founds_of:=hv l.prog w base 0 (zft F44 ) (F44.b1 (by intros;rfl)) F44.2 (mg_of X G a44)
 have h_paper_of_run:=hv l.prog w base 0 (zdg F45 m_tuple m_zip) (F45.b3 (by intros;rfl)) F45.2 (mg_of X G a45)
 have h_matched_beginning:=hv l.prog w base 0 (zbc F47 m_enumerate m_len) (F47.b2 (by intros;rfl)) F47.2 (mg_of X G a47)
 have h_found_at:=hv l.prog w base 0 (zgl F48 ) (F48.b2 (by intros;rfl)) F48.2 (mg_of X G a48)
 have h_Task_finish:zaj l.prog w K mg base ATask "finish" 1 ["self","how","paper"] (zct ATask):=⟨_,_,(zdr F53 cl_Task nf_Task_how nf_Task_paper:FnOk l.prog w K mg base CX0 (0+1) _ _ _ _),b53,⟨a53,q53,k53⟩,cl_Task⟩
 have h_lcell:=hv l.prog w base 0 (zlG F56 m_len) (F56.b2 (by intros;rfl)) F56.2 (mg_of X G a56)
 have h_ltake:=hv l.prog w base 0 (zlH F58 ) (F58.b2 (by intros;rfl)) F58.2 (mg_of X G a58)
 have h_lrule_of:∀n:Nat,Have l.prog w K mg base "_law_rule_of" (n+1) ["_law_plan_here"] (zcs n):=fun n=>by
  induction n with
  |zero=>exact⟨_,_,zeE (fun vs H Q E h=>by obtain⟨u,p,_,_,h0,_⟩:=h;lia) _,b64,F64.2,n64⟩
  |succ n ih=>exact⟨_,_,zgj F64 ih,b64,F64.2,n64⟩
 have h_lgone:=hv l.prog w base 0 (zkq F65 m_int m_len) (F65.b2 (by intros;rfl)) F65.2 (mg_of X G a65)
 have h_lfounds_of:=hv l.prog w base 0 (zeC F67 ) (F67.b1 (by intros;rfl)) F67.2 (mg_of X G a67)
 have h_lpaper_is:=hv l.prog w base 0 (zfA F69 m_tuple m_zip cl_Task nf_Task_paper nf_Task_how) (F69.b7 (by intros;rfl)) F69.2 (mg_of X G a69)
 have h_fits_alone:=hv l.prog w base 1 (zlL F2 (h_is_number.up rfl) (h_is_sign.up rfl) m_isinstance m_str m_tuple m_len m_all m_abs m_MOST_SIGNS m_MOST_ITEMS) (F2.b2 (by intros;rfl)) F2.2 (mg_of X G a2)
 have hf_lessened:=hvF l.prog w base 1 (zf0 F12 (h_truth.up rfl)) (F12.b1 (by intros;rfl)) F12.2
 have hf_compared:=hvF l.prog w base 1 (zf2 F14 (h_truth.up rfl) (h_same.up rfl)) (F14.b1 (by intros;rfl)) F14.2
 have h_parts_of:=hv l.prog w base 1 (zf5 F22 (h_binding_count.up rfl) (h_has_parts.up rfl) m_list) (F22.b1 (by intros;rfl)) F22.2 (mg_of X G a22)
 have h_Run___init__:zbZ l.prog w K mg base ARun "Run" 2 ["self","founds"] (zjl K ARun):=⟨_,_,1,rfl,(zda F23 m_list cl_Run nf_Run_founds nf_Run_names:FnOk l.prog w K mg base CX0 (0+1) _ _ _ _),b23,⟨mk_Run,a23,q23,kc_Run⟩,mg_of X G aC_Run⟩
 have h_ended_ahead:=hv l.prog w base 1 (zdp F33 (h_worth_of.up rfl) (h_is_made.up rfl) (h_as_last.up rfl) m_isinstance m_len m_tuple m_KIND t_KIND m_MOST_WALKED m_GREAT t_GREAT) (F33.b1 (by intros;rfl)) F33.2 (mg_of X G a33)
 have h_first_otherwise:=hv l.prog w base 1 (zbL F46 (h_founds_of.up rfl) (h_just_so.up rfl) m_enumerate m_zip) (F46.b2 (by intros;rfl)) F46.2 (mg_of X G a46)
 have h_Task_has_kept_rule:zaj l.prog w K mg base ATask "has_kept_rule" 2 ["self"] (zku K ATask):=⟨_,_,(za8 F50 (h_just_so.up rfl) cl_Task nf_Task_kept nf_Task_rule:FnOk l.prog w K mg base CX0 (1+1) _ _ _ _),b50,⟨a50,q50,k50⟩,cl_Task⟩
 have h_Task_take:zaj l.prog w K mg base ATask "take" 2 ["self","found"] (zez K ATask):=⟨_,_,(zfw F52 (h_found_at.up rfl) m_len cl_Task nf_Task_founds nf_Task_ends nf_Task_needs:FnOk l.prog w K mg base CX0 (1+1) _ _ _ _),b52,⟨a52,q52,k52⟩,cl_Task⟩
 have h_lbox:=hv l.prog w base 1 (zm4 F57 (h_lcell.up rfl)) (F57.b2 (by intros;rfl)) F57.2 (mg_of X G a57)
 have h_ltext:=hv l.prog w base 1 (zlI F59 (h_ltake.up rfl) m_len m_range) (F59.b2 (by intros;rfl)) F59.2 (mg_of X G a59)
 have h_lnumber:=hv l.prog w base 1 (ziA F60 (h_ltake.up rfl)) (F60.b1 (by intros;rfl)) F60.2 (mg_of X G a60)
 have h_lplan:∀n:Nat,Have l.prog w K mg base "_law_plan" (n+2) ["_law_box_here","_law_spare","_law_texts"] (zgZ n):=fun n=>by
  induction n with
  |zero=>exact⟨_,_,zeE (fun vs H Q E h=>by obtain⟨b,sp,tx,s,ts,_,_,_,_,_,_,h0,_⟩:=h;lia) _,b63,F63.2,n63⟩
  |succ n ih=>exact⟨_,_,zkp F63 ih (h_ltake.mono (by lia)) m_len,b63,F63.2,n63⟩
 have h_lhow:=hv l.prog w base 1 (zmt F68 (h_lfounds_of.up rfl) m_len m_range) (F68.b4 (by intros;rfl)) F68.2 (mg_of X G a68)
 have h_is_worth:=hv l.prog w base 2 (zhq F4 (h_fits_alone.up rfl) (h_size_alone.up rfl) m_isinstance m_tuple m_len m_MOST_DEPTH m_MOST_SIZE) (F4.b1 (by intros;rfl)) F4.2 (mg_of X G a4)
 have h_Task_why:zaj l.prog w K mg base ATask "why" 3 ["self"] (zmq K ATask):=⟨_,_,(zgm F55 (h_first_otherwise.up rfl) (h_Task_has_kept_rule.up rfl) cl_Task nf_Task_kept nf_Task_founds:FnOk l.prog w K mg base CX0 (2+1) _ _ _ _),b55,⟨a55,q55,k55⟩,cl_Task⟩
 have h_lworth:∀n:Nat,Have l.prog w K mg base "_law_worth" (n+3) ["_law_box_here","_law_room","_law_deep"] (zd2 n):=fun n=>by
  induction n with
  |zero=>exact⟨_,_,zeE (fun vs H Q E h=>by obtain⟨b,room,deep,_,_,_,_,h0,h1,_⟩:=h;lia) _,b61,F61.2,n61⟩
  |succ n ih=>exact⟨_,_,zj0 F61 (h_ltake.mono (by lia)) (h_ltext.mono (by lia)) (h_lnumber.mono (by lia)) ih m_min m_range m_tuple,b61,F61.2,n61⟩
 have h_made:Have l.prog w K mg base "made" 4 ["thing"] (zaS K 24):=⟨_,_,(zlQ F6 (h_is_worth.up rfl) m_GREAT t_GREAT:FnOk l.prog w K mg base CX0 (3+1) _ _ _ _),b6,F6.2,n6⟩
 have h_Task___init__:zbZ l.prog w K mg base ATask "Task" 4 ["self","name","rule","kept","rows"] (zkv K ATask):=⟨_,_,3,rfl,(zck F49 (h_Task_has_kept_rule.up rfl) cl_Task nf_Task_name nf_Task_needs nf_Task_founds nf_Task_paper nf_Task_how nf_Task_rule nf_Task_kept nf_Task_ends:FnOk l.prog w K mg base CX0 (2+1) _ _ _ _),b49,⟨mk_Task,a49,q49,kc_Task⟩,mg_of X G aC_Task⟩
 have hf_summed:=hvF l.prog w base 4 (ziZ F8 (h_made.up rfl)) (F8.b1 (by intros;rfl)) F8.2
 have hf_differing:=hvF l.prog w base 4 (zfc F9 (h_made.up rfl)) (F9.b1 (by intros;rfl)) F9.2
 have hf_multiplied:=hvF l.prog w base 4 (zee F10 (h_made.up rfl)) (F10.b1 (by intros;rfl)) F10.2
 have hf_divided:=hvF l.prog w base 4 (zhy F11 (h_made.up rfl) m_NOUGHT t_NOUGHT) (F11.b1 (by intros;rfl)) F11.2
 have hf_figured:=hvF l.prog w base 4 (zhA F13 (h_made.up rfl) m_str) (F13.b1 (by intros;rfl)) F13.2
 have hf_joined:=hvF l.prog w base 4 (zi4 F15 (h_made.up rfl) m_isinstance m_str m_tuple m_KIND t_KIND) (F15.b1 (by intros;rfl)) F15.2
 have hf_listed:=hvF l.prog w base 4 (zi1 F16 (h_made.up rfl) m_tuple) (F16.b1 (by intros;rfl)) F16.2
 have hf_item_at:=hvF l.prog w base 4 (zhD F17 (h_made.up rfl) (h_is_number.up rfl) m_isinstance m_len m_tuple m_KIND t_KIND m_PLACE t_PLACE) (F17.b1 (by intros;rfl)) F17.2
 have hf_counted:=hvF l.prog w base 4 (zhC F18 (h_made.up rfl) m_isinstance m_len m_str m_tuple m_KIND t_KIND) (F18.b1 (by intros;rfl)) F18.2
 have h_reckoned:=hv l.prog w base 5 (zf4 F19 (h_is_number.up rfl) m_all m_KIND t_KIND m_NUMBER_DEEDS d_NUMBER_DEEDS m_OTHER_DEEDS d_OTHER_DEEDS (hf_summed.up rfl) (hf_differing.up rfl) (hf_multiplied.up rfl) (hf_divided.up rfl) (hf_lessened.up rfl) (hf_figured.up rfl) (hf_compared.up rfl) (hf_joined.up rfl) (hf_listed.up rfl) (hf_item_at.up rfl) (hf_counted.up rfl)) (F19.b2 (by intros;rfl)) F19.2 (mg_of X G a19)
 have h_lfound:=hv l.prog w base 16 (zjt F62 (h_ltext.up rfl) ((h_lworth 13).up rfl) (h_ltake.up rfl) m_int) (F62.b1 (by intros;rfl)) F62.2 (mg_of X G a62)
 have h_lstreams:=hv l.prog w base 17 (zgq F70 (h_lfound.up rfl) (h_lbox.up rfl) m_range) (F70.b3 (by intros;rfl)) F70.2 (mg_of X G a70)
 have h_record_of:∀n:Nat,Have l.prog w K mg base "record_of" (3*n+7) ["run","expression","bound"] (spG K ARun n (fun _=>True)):=fun n=>by
  induction n with
  |zero=>exact⟨_,_,zeE (fun vs H Q E h=>by obtain⟨_,_,_,_,_,_,_,_,x,_,_,_,_,_,_,_,hh,_⟩:=h;exact absurd hh (by have:=zkB x;lia)) _,b41,F41.2,n41⟩
  |succ n ih=>
   have h_go_through:Have l.prog w K mg base "go_through" (3*n+7+0+1) ["run","expressions","bound"] (zfk K ARun n):=⟨_,_,(zem F39 (h_is_made.mono (by lia)) (ih.mono (by lia)):FnOk l.prog w K mg base CX0 (3*n+7+0+1) _ _ _ (zfk K ARun n)),b39,F39.2,n39⟩
   have hf_go_lit:Zo l.prog w K mg base f29 (3*n+7+0+1) ["run","expression","bound"] (spG K ARun (n+1) (fun x=>∃y,x=.lit y)):=⟨_,(zja F29:FnOk l.prog w K mg base CX0 (3*n+7+0+1) _ _ _ (spG K ARun (n+1) (fun x=>∃y,x=.lit y))),b29,F29.2⟩
   have hf_go_var:Zo l.prog w K mg base f30 (3*n+7+0+1) ["run","expression","bound"] (spG K ARun (n+1) (fun x=>∃s,x=.var s)):=⟨_,(zjc F30:FnOk l.prog w K mg base CX0 (3*n+7+0+1) _ _ _ (spG K ARun (n+1) (fun x=>∃s,x=.var s))),b30,F30.2⟩
   have hf_go_let:Zo l.prog w K mg base f31 (3*n+7+0+1) ["run","expression","bound"] (spG K ARun (n+1) (fun x=>∃s a b,x=.letE s a b)):=⟨_,(zjd F31 (h_as_last.mono (by lia)) (ih.mono (by lia)) (h_binding.mono (by lia)) (h_worth_of.mono (by lia)) (h_is_made.mono (by lia)):FnOk l.prog w K mg base CX0 (3*n+7+0+1) _ _ _ (spG K ARun (n+1) (fun x=>∃s a b,x=.letE s a b))),b31,F31.2⟩
   have hf_go_if:Zo l.prog w K mg base f32 (3*n+7+0+1) ["run","expression","bound"] (spG K ARun (n+1) (fun x=>∃a b c,x=.ifE a b c)):=⟨_,(zkb F32 (h_as_last.mono (by lia)) (ih.mono (by lia)) (h_worth_of.mono (by lia)) (h_is_number.mono (by lia)) (h_is_made.mono (by lia)) m_KIND t_KIND:FnOk l.prog w K mg base CX0 (3*n+7+0+1) _ _ _ (spG K ARun (n+1) (fun x=>∃a b c,x=.ifE a b c))),b32,F32.2⟩
   have hf_go_each:Zo l.prog w K mg base f34 (3*n+7+1+1) ["run","expression","bound"] (spG K ARun (n+1) (fun x=>∃s a b,x=.eachE s a b)):=⟨_,(zhM F34 (h_made.mono (by lia)) (h_worth_of.mono (by lia)) (h_is_made.mono (by lia)) (h_as_last.mono (by lia)) (ih.mono (by lia)) (h_binding.mono (by lia)) (h_ended_ahead.mono (by lia)) (h_go_through.mono (by lia)) m_tuple:FnOk l.prog w K mg base CX0 (3*n+7+1+1) _ _ _ (spG K ARun (n+1) (fun x=>∃s a b,x=.eachE s a b))),b34,F34.2⟩
   have hf_go_look:Zo l.prog w K mg base f36 (3*n+7+0+1) ["run","expression","bound"] (spG K ARun (n+1) (fun x=>∃a,x=.lookE a)):=⟨_,(zhL F36 (h_Run_look.mono (by lia)) (h_worth_of.mono (by lia)) (h_is_made.mono (by lia)) (h_as_last.mono (by lia)) (ih.mono (by lia)) m_isinstance m_str m_KIND t_KIND:FnOk l.prog w K mg base CX0 (3*n+7+0+1) _ _ _ (spG K ARun (n+1) (fun x=>∃a,x=.lookE a))),b36,F36.2⟩
   have hf_go_else:Zo l.prog w K mg base f37 (3*n+7+0+1) ["run","expression","bound"] (spG K ARun (n+1) (fun x=>∃a b,x=.elseE a b)):=⟨_,(zhK F37 (h_as_last.mono (by lia)) (ih.mono (by lia)) (h_is_made.mono (by lia)):FnOk l.prog w K mg base CX0 (3*n+7+0+1) _ _ _ (spG K ARun (n+1) (fun x=>∃a b,x=.elseE a b))),b37,F37.2⟩
   have hf_go_cry:Zo l.prog w K mg base f38 (3*n+7+0+1) ["run","expression","bound"] (spG K ARun (n+1) (fun x=>∃a,x=.cryE a)):=⟨_,(zje F38 (h_worth_of.mono (by lia)) (h_is_made.mono (by lia)) (h_as_last.mono (by lia)) (ih.mono (by lia)):FnOk l.prog w K mg base CX0 (3*n+7+0+1) _ _ _ (spG K ARun (n+1) (fun x=>∃a,x=.cryE a))),b38,F38.2⟩
   have h_go_reckoned:Have l.prog w K mg base "go_reckoned" (3*n+7+1+1) ["run","expression","bound"] (spG K ARun (n+1) (fun x=>∃d es,x=.reck d es)):=⟨_,_,(zdo F40 (h_reckoned.mono (by lia)) (h_worth_of.mono (by lia)) (h_is_made.mono (by lia)) (h_as_last.mono (by lia)) (h_go_through.mono (by lia)) (h_parts_of.mono (by lia)) m_len m_tuple:FnOk l.prog w K mg base CX0 (3*n+7+1+1) _ _ _ (spG K ARun (n+1) (fun x=>∃d es,x=.reck d es))),b40,F40.2,n40⟩
   have hm:Have l.prog w K mg base "record_of" (3*n+7+2+1) ["run","expression","bound"] (spG K ARun (n+1) (fun _=>True)):=⟨_,_,(zfn F41 (h_go_reckoned.mono (by lia))  m_GOING d_GOING (hf_go_lit.mono (by lia)) (hf_go_var.mono (by lia)) (hf_go_let.mono (by lia)) (hf_go_if.mono (by lia)) (hf_go_each.mono (by lia)) (hf_go_look.mono (by lia)) (hf_go_else.mono (by lia)) (hf_go_cry.mono (by lia)):FnOk l.prog w K mg base CX0 (3*n+7+2+1) _ _ _ (spG K ARun (n+1) (fun _=>True))),b41,F41.2,n41⟩
   exact hm.mono (by lia)
 have h_gone:=hv l.prog w base 97 (zmf F42 ((h_record_of 30).up rfl) (h_Run___init__.up rfl) m_list cl_Run nf_Run_names) (F42.b2 (by intros;rfl)) F42.2 (mg_of X G a42)
 have h_Task_run:zaj l.prog w K mg base ATask "run" 99 ["self"] (zeA K ATask):=⟨_,_,(zgo F54 (h_Task_finish.up rfl) (h_paper_of_run.up rfl) (h_Task_why.up rfl) (h_gone.up rfl) cl_Task nf_Task_rule nf_Task_founds nf_Task_needs:FnOk l.prog w K mg base CX0 (98+1) _ _ _ _),b54,⟨a54,q54,k54⟩,cl_Task⟩
 have h_Task_step:za2 l.prog w K mg base ATask "step" 100 ["self","found"] (zg0 K ATask):=⟨_,_,(zfx F51 (h_Task_finish.mono (by lia)) (h_Task_run.mono (by lia)) (h_matched_beginning.mono (by lia)) (h_Task_take.mono (by lia)) m_len cl_Task nf_Task_needs nf_Task_founds nf_Task_ends:FnOk l.prog w K mg base CX0 (99+1) _ _ _ _),b51,bd51,⟨a51,q51,k51⟩,cl_Task⟩
 have h_lpaper:=hv l.prog w base 100 (zjz F66 (h_Task_step.up rfl) (h_Task___init__.up rfl) cl_Task nf_Task_paper) (F66.b3 (by intros;rfl)) F66.2 (mg_of X G a66)
 exact (znx F71 (h_lpaper_is.up rfl) (h_lhow.up rfl) (h_lgone.up rfl) (h_Task_step.up rfl) (h_Task___init__.up rfl) (h_ltake.up rfl) (h_lfound.up rfl) (h_ltext.up rfl) (h_lpaper.up rfl) (h_lbox.up rfl) (h_lstreams.up rfl) ((h_lrule_of 7).up rfl) ((h_lplan 6).up rfl) m_len m_list m_range cl_Task nf_Task_needs nf_Task_founds nf_Task_how nf_Task_paper:FnOk l.prog w K mg base CX0 (199+1) _ _ _ _)
theorem zkC{l:PySem.W.OpenLaw}{q:Program}{loose:List Str}{XP:(Str->Option Value)->Heap->Prop}{YP:World->Heap->Prop}{d:DefRec}{K:Params->tP}(hn:l.most=some 63)(hdf:d.params.defaults=[])
  (hY:∀(w:World)(h:Heap),YP w h->(K w.params).In h)
  (F:∀(w:World)(mg:Str->Option Value)(fa:Addr)(h:Heap),(K w.params).In h->h.Ns tE mg->mg d.name=some (.ref fa)->
   ∃fd:tQ,(∀(s:Shared)(u:Value),BindsTo s fd ⟨[u],[]⟩ [("_law_script",u)])/\∀base:Heap,(K w.params).In base->base.Ns tE mg->FnOk l.prog w (K w.params) mg base CX0 200 fa fd ["_law_script"] (zkz (K w.params))):
  PySem.W.WalkO q loose XP YP l.row.toRowW d [] (fun f vs=>PySem.call f vs):=
 L2.zlz (n:=63) (k:=200) (x:="_law_script") (CX:=fun _=>CX0) (sp:=fun w=>zkz (K w.params)) hn (by decide) hdf ⟨rfl,by decide,by decide,rfl⟩ hY F (fun _ _ a ns hl _ hS=>⟨a,ns,rfl,hS,hl,fun _=>rfl⟩) fun _ _ _ _ _ z=>z
end D
end
open PySem PySem.W PyProof.Rows
set_option maxRecDepth 100000 in
set_option maxHeartbeats 0 in
theorem PySem.Challenge.cw_leastforge_k39_papers_of_a_task_holds : PySem.Challenge.rw_leastforge_k39_papers_of_a_task.Holds := by
 w_on; o_law; k_head; (case hw=>w_witness2)
 k_fill
 refine D.zkC (l:=PySem.Challenge.rw_leastforge_k39_papers_of_a_task) rfl rfl (fun w h Y=>PySem.W.kIn_of Y) ?F
 case F=>
  intro w mg fa h KX G hmg
  apply D.zny KX G hmg
  all_goals try (first | (refine' ⟨_,L2.zbe ?_ ?_ ?_⟩ <;> try first | k_is | rfl) | ((try unfold D.nI); (try unfold D.lI); (try unfold D.cI); (try unfold D.kI); first | k_is | rfl))
