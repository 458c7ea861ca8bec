import PyProof.Rows.All
import Wide.All
import OpenK.AllK
import Wide.FinOn
import Lean
import PyProof.EqAt
import PyProof.EqKinds
import PyProof.TupleCall
import PyProof.EnumMake
import PyProof.WalksEnum
import PyProof.NeKinds
import PySem.Challenge.RW_leastforge_k58_shelves_written_and_read
open PySem.W (instObj methodObj lookIn plainGet hasDictIn findIn plainGet_of isFn plainOver takerIn makesIn emptyDict keepIn kia_one callWith_K fnOf codeIn nsIn mg_of mg_none_of)
set_option Elab.async false
set_option linter.all false
set_option maxRecDepth 100000
set_option maxHeartbeats 4000000
theorem L2.zl0:0<=PySem.sizeLine:=by decide
theorem L2.zl1:1<=PySem.sizeLine:=by decide
theorem L2.zl2:2<=PySem.sizeLine:=by decide
theorem L2.zl3:3<=PySem.sizeLine:=by decide
theorem L2.zl4:4<=PySem.sizeLine:=by decide
theorem L2.zl7:7<=PySem.sizeLine:=by decide
theorem L2.zl8:8<=PySem.sizeLine:=by decide
theorem L2.zl12:12<=PySem.sizeLine:=by decide
open List renaming length_map->yA, getElem?_eq_getElem->yB, length_append->yC, replicate->yD, getElem?_eq_some_iff->yE, length_cons->yF, mem_cons->yG, mem_singleton->yH, size_toArray->yI, map_cons->yJ, map_append->yK, getElem?_append_right->yL, mem_cons_of_mem->yM, getElem?_map->yN, getElem?_append_left->yP, length_eq_zero_iff->yR, mem_append->yU, mem_cons_self->yV, getElem_mem->yW, mem_map->yX, length_take->yY, mem_of_getElem?->xB, cons_append->xC, take_of_length_le->xD, append_nil->xH, append_assoc->xI, length_replicate->xK, replicate_succ->xL, mem_append_right->xM, map_map->xN, take_length->xO, eq_of_mem_replicate->xP, length_singleton->xQ, nil_append->xS, not_mem_nil->xT, getElem?_cons_succ->xW, all_eq_true->xY, flatten_cons->xZ, lookup->wA, eq_nil_or_concat->wD, concat_eq_append->wE, getElem?_eq_none->wF, sum_cons->wH, range->wK, take_append_drop->wM, foldl_cons->wN, map_nil->wQ, filterMap_append->wW, getElem?_nil->wX, mem_range->wY, mem_append_left->wZ, getD_eq_getElem?_getD->vA, length_drop->vD, map_replicate->vG, getElem?_replicate->vH, dropLast_concat->vL, nodup_cons->vN, find?_cons->vO, filterMap_cons->vP, getElem_of_mem->vQ, drop_succ_cons->vR, all_map->vS, lookup_cons->vV, getElem?_set_self->vX, of_mem_zip->uA, cons_lt_cons_iff->uC, singleton_append->uD, getElem?_set_ne->uE, length_eraseIdx->uG, nodup_nil->uH, set->uI, drop_zero->uJ, map_congr_left->uK, length_pos_iff->uL, flatMap_append->uM, map_eq_nil_iff->uN, any_cons->uO, mem_filterMap->uP, foldl->uQ, Perm->uU
open Nat renaming le_refl->yO, le_trans->yQ, zero_le->yS, ne_of_lt->xA, lt_of_lt_of_le->xE, lt_of_le_of_lt->xG, le_succ_of_le->xU, lt_irrefl->xX, lt_succ_of_le->wJ, le_of_lt->wO, le_add_right->wP, lt_succ_self->vC, not_lt_zero->vF, le_of_ble_eq_true->vJ, le_succ->vK, lt_succ_of_lt->vT, toDigits_of_lt_base->vW, toDigits->vZ
open Bool renaming false_ne_true->yT, and_eq_true->yZ, eq_iff_iff->xF, eq_false_iff->xJ, false_eq_true->wG, false_and->wI, and_false->wL, true_and->wT, and_true->wU, or_eq_false_iff->vM, and_assoc->uF
open Array renaming length_toList->xR, getElem?_eq_getElem->wC, getElem?_toList->wV, getElem?_eq_none->vY, toList->uR, toList_push->uS
open Option renaming map_eq_some_iff->xV, isSome_iff_exists->vU, map_some->uB, getD_none->uT
open Int renaming emod_lt_of_pos->wS, le_refl->vB, emod_nonneg->vE, toNat_natCast->vI
open PySem.Str renaming ofString->uV
open PySem renaming wpAny_bind->uW, wpAny_pure->uX, boot_len->tF, mainGlobals->tG, sizeLine->tH, wpAny_newObj_type->tI, starEach->tJ, bootBuiltins->tK, compareOp->tM, FuncData->tV
open PySem.Heap renaming get?_push_of_some->uY, lt_size->uZ, get?_push_size->tD
open PySem.PassesOwn renaming never->tN
open PySem.F renaming plainAttrs_list->tO, type_list_append->tP, slot_list_append->tQ, plainAttrs_str->tT, type_str_join->tW, slot_str_join->tX
open PySem.W renaming Frag->tU
noncomputable section
namespace L2
open PySem PySem.Spec PyProof.Rows
abbrev Key:=Sum Int Str
noncomputable def zis:Key->Value->Bool
 |.inl k,v=>Value.isInt k v
 |.inr x,v=>Value.isStrOf x v
noncomputable def keyH(w:World):Key->Int
 |.inl k=>hashInt k
 |.inr x=>hashStr w x
theorem Zy:∀{k:Key}{v:Value},zis k v=true->(∃i t,k=Sum.inl i/\v=Value.int i t)\/(∃x t,k=Sum.inr x/\v=Value.str x t)
 |.inl i,v,h=>by
  obtain⟨t,e⟩:=Value.isInt_shape (k:=i) (v:=v) h
  exact .inl ⟨i,t,rfl,e⟩
 |.inr x,v,h=>by
  obtain⟨t,e⟩:=Value.isStrOf_shape (x:=x) (v:=v) h
  exact .inr ⟨x,t,rfl,e⟩
theorem zjg(i:Int)(t:Tok):zis (.inl i) (.int i t)=true:=by simp[zis,Value.isInt]
theorem zjh(x:Str)(t:Tok):zis (.inr x) (.str x t)=true:=by simp[zis,Value.isStrOf]
theorem znI(a b:Int):decide ((Sum.inl a:Key)=Sum.inl b)=(a==b):=by
 by_cases e:a=b
 ·subst e;simp
 ·have h:¬(Sum.inl a:Key)=Sum.inl b:=fun q=>e (Sum.inl.inj q)
  rw[decide_eq_false h]
  exact (beq_eq_false_iff_ne.mpr e).symm
theorem znJ(a b:Str):decide ((Sum.inr a:Key)=Sum.inr b)=decide (a=b):=by
 by_cases e:a=b
 ·subst e;simp
 ·have h:¬(Sum.inr a:Key)=Sum.inr b:=fun q=>e (Sum.inr.inj q)
  rw[decide_eq_false h,decide_eq_false e]
theorem znK(a:Int)(b:Str):decide ((Sum.inl a:Key)=Sum.inr b)=false:=decide_eq_false (fun q=>nomatch q)
theorem znL(a:Str)(b:Int):decide ((Sum.inr a:Key)=Sum.inl b)=false:=decide_eq_false (fun q=>nomatch q)
def Zl(prog:Program)(w:World):PySem.KeyKind prog w Key where
 is:=zis
 hash:=keyH w
 inj:=fun v a b ha hb=>by
  rcases Zy ha with⟨i,t,rfl,rfl⟩|⟨x,t,rfl,rfl⟩
  ·rcases Zy hb with⟨j,u,rfl,e⟩|⟨y,u,rfl,e⟩
   ·injection e with e1 _;rw[e1]
   ·exact nomatch e
  ·rcases Zy hb with⟨j,u,rfl,e⟩|⟨y,u,rfl,e⟩
   ·exact nomatch e
   ·injection e with e1 _;rw[e1]
 byValue:=fun k v h=>by
  rcases Zy h with⟨i,t,rfl,rfl⟩|⟨x,t,rfl,rfl⟩<;>rfl
 pyHash:=fun hv h=>by
  rcases Zy hv with⟨i,t,rfl,rfl⟩|⟨x,t,rfl,rfl⟩
  ·exact wpAny_pyHash_int h
  ·exact wpAny_pyHash_str h
 eqBool:=fun hu hv h=>by
  rcases Zy hu with⟨i,t,rfl,rfl⟩|⟨x,t,rfl,rfl⟩
  ·rcases Zy hv with⟨j,u,rfl,rfl⟩|⟨y,u,rfl,rfl⟩
   ·rw[znI] at h;exact wpAny_eqBool_int h
   ·rw[znK] at h;exact SeqAt.EqAt.int_str i t y u _ _ _ _ h
  ·rcases Zy hv with⟨j,u,rfl,rfl⟩|⟨y,u,rfl,rfl⟩
   ·rw[znL] at h;exact SeqAt.EqAt.str_int x t j u _ _ _ _ h
   ·rw[znJ] at h;exact wpAny_eqBool_str h
 «strs»:=fun k x t v h=>by
  rcases Zy h with⟨i,u,rfl,e⟩|⟨y,u,rfl,e⟩
  ·exact nomatch e
  ·injection e with e1 _
   subst e1
   cases v<;>rfl
theorem zg4(prog:Program)(w:World)(i:Int)(t:Tok):(Zl prog w).is (.inl i) (.int i t)=true:=zjg i t
theorem ZS(prog:Program)(w:World)(x:Str)(t:Tok):(Zl prog w).is (.inr x) (.str x t)=true:=zjh x t
inductive V where
 |non|bl (b:Bool)|int (i:Int)|str (x:Str)|byt (b:Array UInt8)|flt (b:UInt64)|ref (a:Addr)|ty (n:String)
 deriving DecidableEq
def RelV:V->Value->Prop
 |.non,u=>u=Value.none
 |.bl b,u=>u=Value.bool b
 |.int i,u=>∃t,u=Value.int i t
 |.str x,u=>∃t,u=Value.str x t
 |.byt b,u=>∃t,u=Value.bytes b t
 |.flt b,u=>∃t,u=Value.float b t
 |.ref a,u=>u=Value.ref a
 |.ty n,u=>u=Value.type n
abbrev Vals:List V->List Value->Prop:=Paired RelV
theorem Vals.length{xs:List V}{us:List Value}(r:Vals xs us):xs.length=us.length:=Paired.length r
theorem Vals.get:∀{xs:List V}{us:List Value}{i:Nat}{x:V},Vals xs us->xs[i]?=some x->∃u,us[i]?=some u/\RelV x u
 |_,_,_,_,.nil,e=>by simp at e
 |_,_,0,_,.cons r _,e=>by simp at e;subst e;exact⟨_,rfl,r⟩
 |_,_,i+1,x,.cons _ t,e=>by
  obtain⟨u,h1,h2⟩:=Vals.get (i:=i) (x:=x) t (by simpa using e)
  exact⟨u,by simpa using h1,h2⟩
theorem Vals.set{x:V}{u:Value}(r:RelV x u):∀{xs:List V}{us:List Value}(i:Nat),Vals xs us->Vals (xs.set i x) (us.set i u)
 |_,_,_,.nil=>.nil
 |_,_,0,.cons _ t=>.cons r t
 |_,_,i+1,.cons q t=>.cons q (Vals.set r i t)
theorem Vals.append:∀{xs ys:List V}{us ws:List Value},Vals xs us->Vals ys ws->Vals (xs++ys) (us++ws)
 |_,_,_,_,.nil,s=>s
 |_,_,_,_,.cons r t,s=>.cons r (Vals.append t s)
theorem Vals.take:∀{xs:List V}{us:List Value}(n:Nat),Vals xs us->Vals (xs.take n) (us.take n)
 |_,_,0,_=>.nil
 |_,_,_+1,.nil=>.nil
 |_,_,n+1,.cons r t=>.cons r (Vals.take n t)
theorem Vals.drop:∀{xs:List V}{us:List Value}(n:Nat),Vals xs us->Vals (xs.drop n) (us.drop n)
 |_,_,0,r=>r
 |_,_,_+1,.nil=>.nil
 |_,_,n+1,.cons _ t=>Vals.drop n t
def RelO:Option V->Option Value->Prop
 |some v,some u=>RelV v u
 |none,none=>True
 |_,_=>False
def KV{κ:Type}:List (κ×V)->List (κ×Value)->Prop:=Paired fun (p:κ×V)(q:κ×Value)=>p.1=q.1/\RelV p.2 q.2
noncomputable def kV:Key->V
 |.inl i=>.int i
 |.inr x=>.str x
inductive HO where
 |lst (xs:List V)
 |tup (xs:List V)
 |dK (kvs:List (Key×V))|dT (kvs:List (List Key×V))
 |set (S:Int->Bool) (n:Nat)
 |ins (C dx:Addr) (fs:List (Str×V))
 |own (x:Addr)
 |xd (fs:List (Str×V))
 |met (f x:Addr)
 |rng (lo hi:Int)
 |frz (o:Obj) (u:HO)
 |tbl (ps:Array Value)
 |ext (φ:Heap->Prop)
abbrev Hp:=Addr->Option HO
noncomputable def upd(H:Hp)(a:Addr)(o:HO):Hp:=fun b=>if b=a then some o else H b
theorem zc{H:Hp}{a:Addr}{o:HO}:upd H a o a=some o:=by unfold upd;rw[if_pos rfl]
theorem zA{H:Hp}{a b:Addr}{o:HO}(h:b≠a):upd H a o b=H b:=by unfold upd;rw[if_neg h]
theorem zmC{H:Hp}{a:Addr}{o u:HO}:upd (upd H a o) a u=upd H a u:=by
 funext b;unfold upd;split<;>rfl
theorem znM{H:Hp}{a b:Addr}{o u:HO}(h:H a=some o)(h':H b=some u)(d:o≠u):a≠b:=by
 intro e;subst e;rw[h] at h';exact d (Option.some.inj h')
theorem zn{H:Hp}{a b:Addr}{o:HO}(h:H a=some o)(h':H b=none):a≠b:=by
 intro e;subst e;rw[h] at h';cases h'
section
variable(P:Program)(w:World)
def zal(H:Hp)(h:Heap)(a:Addr):HO->Prop
 |.lst xs=>xs.length<=tH/\∃(its:List Value)(n:Nat),Vals xs its/\h.get? a=some {cls:=.type "list",data:=.seq its.toArray n}
 |.tup xs=>xs.length<=tH/\∃its:List Value,Vals xs its/\IsTup h a its.toArray
 |.dK kvs=>kvs.length<=tH/\(a==sysModules)=false/\∃vs,KV kvs vs/\h.DictOf (Zl P w) a vs
 |.dT kvs=>kvs.length<=tH/\(a==sysModules)=false/\∃xs:List (List Key×Addr×Value),
   Paired (fun (p:List Key×V)(q:List Key×Addr×Value)=>p.1=q.1/\H q.2.1=some (.tup (p.1.map kV))/\RelV p.2 q.2.2) kvs xs /\
   ∃o es ep,h.get? a=some o/\o.ExactDict/\o.data=.dict es ep/\es.toList=xs.map (entryOfKey (tupleKind (Zl P w)))/\(xs.map (·.1)).Nodup
 |.set S n=>h.SetOf (intKind P w) a S n
 |.ins C dx fs=>H dx=some (.own a)/\fs.length<=1000/\dx≠a/\h.get? a=some (instObj C dx) /\
   ∃mA,h.Ns1 dx mA/\(∀f,RelO (fs.lookup f) (mA f))/\PySem.Within mA (fs.map (·.1))
 |.own _=>∃o,h.get? a=some o
 |.xd fs=>∃mA,h.Ns1 a mA/\∀f,RelO (fs.lookup f) (mA f)
 |.rng lo hi=>∃t u v,h.get? a=some {cls:=.type "range",data:=.fields #[.int lo t,.int hi u,.int 1 v]}
 |.frz o u=>h.get? a=some o/\zal H h a u
 |.tbl ps=>h.get? a=some {cls:=.none,data:=.fields ps}
 |.met f x=>h.get? a=some (methodObj (.ref f) (.ref x))
 |.ext φ=>φ h/\(∃o,h.get? a=some o)/\∀h1 h2:Heap,φ h1->(∀o,h1.get? a=some o->h2.get? a=some o)->φ h2
def HOk(H:Hp)(h:Heap):Prop:=∀a o,H a=some o->zal P w H h a o
end
section
variable{P:Program}{w:World}{H H':Hp}{h h':Heap}{a:Addr}{o:HO}
theorem zal.lt(x:zal P w H h a o):a<h.objs.size:=by
 cases o with
 |lst xs=>obtain⟨_,_,_,_,e⟩:=x;exact uZ e
 |tup xs=>obtain⟨_,_,_,p⟩:=x;exact p.lt
 |dK kvs=>obtain⟨_,_,_,_,o,_,_,e,_⟩:=x;exact uZ e
 |dT kvs=>obtain⟨_,_,_,_,o,_,_,e,_⟩:=x;exact uZ e
 |set S n=>obtain⟨o,_,_,_,e,_⟩:=x;exact uZ e
 |ins C dx fs=>obtain⟨_,_,_,e,_⟩:=x;exact uZ e
 |own y=>obtain⟨_,e⟩:=x;exact uZ e
 |xd fs=>obtain⟨_,⟨_,_,_,e,_⟩,_⟩:=x;exact uZ e
 |rng lo hi=>obtain⟨_,_,_,e⟩:=x;exact uZ e
 |frz ob u=>obtain⟨e,_⟩:=x;exact uZ e
 |tbl ps=>exact uZ (show h.get? a=some _ from x)
 |met f y=>exact uZ (show h.get? a=some _ from x)
 |ext φ=>obtain⟨_,⟨_,e⟩,_⟩:=x;exact uZ e
theorem Paired.mapP{α β:Type}{F G:α->β->Prop}:∀{l₁:List α}{l₂:List β},Paired F l₁ l₂->(∀a b,F a b->G a b)->Paired G l₁ l₂
 |_,_,.nil,_=>.nil
 |_,_,.cons r t,f=>.cons (f _ _ r) (Paired.mapP t f)
theorem zal.stay(x:zal P w H h a o)(k:∀b u,(b=a\/H b=some (.own a))->h.get? b=some u->h'.get? b=some u)
  (ho:∀b,H b=some (.own a)->H' b=some (.own a)) (ht:∀b xs,H b=some (.tup xs)->H' b=some (.tup xs)):zal P w H' h' a o:=by
 induction o with
 |lst xs=>obtain⟨z,its,n,r,e⟩:=x;exact⟨z,its,n,r,k _ _ (.inl rfl) e⟩
 |tup xs=>obtain⟨z,its,r,ob,e,c⟩:=x;exact⟨z,its,r,ob,k _ _ (.inl rfl) e,c⟩
 |dK kvs=>obtain⟨z,y,vs,r,ob,es,ep,e,c⟩:=x;exact⟨z,y,vs,r,ob,es,ep,k _ _ (.inl rfl) e,c⟩
 |dT kvs=>
  obtain⟨z,y,xs,r,ob,es,ep,e,c⟩:=x
  exact⟨z,y,xs,Paired.mapP r fun p q z=>⟨z.1,ht _ _ z.2.1,z.2.2⟩,ob,es,ep,k _ _ (.inl rfl) e,c⟩
 |set S n=>obtain⟨ob,es,ep,t,e,c⟩:=x;exact⟨ob,es,ep,t,k _ _ (.inl rfl) e,c⟩
 |ins C dx fs=>
  obtain⟨d,z,ne,e,mA,⟨od,es,ep,e2,c⟩,r⟩:=x
  exact⟨ho _ d,z,ne,k _ _ (.inl rfl) e,mA,⟨od,es,ep,k _ _ (.inr d) e2,c⟩,r⟩
 |own y=>obtain⟨ob,e⟩:=x;exact⟨ob,k _ _ (.inl rfl) e⟩
 |xd fs=>obtain⟨mA,⟨od,es,ep,e,c⟩,r⟩:=x;exact⟨mA,⟨od,es,ep,k _ _ (.inl rfl) e,c⟩,r⟩
 |rng lo hi=>obtain⟨t,u,v,e⟩:=x;exact⟨t,u,v,k _ _ (.inl rfl) e⟩
 |frz ob u ih=>obtain⟨e,q⟩:=x;exact⟨k _ _ (.inl rfl) e,ih q⟩
 |tbl ps=>
  have e:h.get? a=some {cls:=.none,data:=.fields ps}:=x
  show h'.get? a=some {cls:=.none,data:=.fields ps}
  exact k a _ (.inl rfl) e
 |met f y=>
  have e:h.get? a=some (methodObj (.ref f) (.ref y)):=x
  show h'.get? a=some (methodObj (.ref f) (.ref y))
  exact k a _ (.inl rfl) e
 |ext φ=>obtain⟨p,⟨o,e⟩,st⟩:=x;exact⟨st _ _ p fun o q=>k _ _ (.inl rfl) q,⟨o,k _ _ (.inl rfl) e⟩,st⟩
theorem HOk.lt(x:HOk P w H h)(e:H a=some o):a<h.objs.size:=(x a o e).lt
theorem HOk.fresh(x:HOk P w H h)(e:h.objs.size<=a):H a=none:=by
 cases q:H a with
 |none=>rfl
 |some u=>exact absurd (xE (x.lt q) e) (xX _)
theorem HOk.kept(x:HOk P w H h)(k:∀b u,h.get? b=some u->h'.get? b=some u):HOk P w H h':=fun a o e=>
 (x a o e).stay (fun b u _ q=>k b u q) (fun _ q=>q) fun _ _ q=>q
theorem HOk.laid(x:HOk P w H h)(k:∀b u,h.get? b=some u->h'.get? b=some u)(hp:h.objs.size<=a)(new:zal P w (upd H a o) h' a o):HOk P w (upd H a o) h':=fun b u e=>by
 have hn:=x.fresh hp
 by_cases hb:b=a
 ·subst hb;rw[zc] at e;cases e;exact new
 ·rw[zA hb] at e
  exact (x b u e).stay (fun c v _ q=>k c v q) (fun c q=>by rw[zA (zn q hn)];exact q) fun c xs q=>by rw[zA (zn q hn)];exact q
end
def Rd(H:Hp)(a:Addr)(u:HO):Prop:=H a=some u\/∃o,H a=some (.frz o u)
theorem Rd.ok{P:Program}{w:World}{H:Hp}{h:Heap}{a:Addr}{u:HO}(r:Rd H a u)(x:HOk P w H h):zal P w H h a u:=by
 rcases r with r|⟨o,r⟩
 ·exact x a u r
 ·obtain⟨_,q⟩:=x a _ r
  exact q
def Mut:Option HO->Prop
 |some (.lst _)=>True
 |some (.dK _)=>True
 |some (.dT _)=>True
 |some (.set _ _)=>True
 |some (.ins _ _ _)=>True
 |some (.ext _)=>True
 |_=>False
section
variable{P:Program}{w:World}{H:Hp}{h h':Heap}{x e:Addr}{o':HO}
theorem HOk.write(ok:HOk P w H h)(mu:Mut (H x))(he:e=x\/H e=some (.own x))(k:∀b u,b≠e->h.get? b=some u->h'.get? b=some u)(heo:∃u,h'.get? e=some u)
  (new:zal P w (upd H x o') h' x o'):HOk P w (upd H x o') h':=fun b u q=>by
 have nown:∀c y,H c=some (.own y)->c≠x:=fun c y r z=>by subst z;rw[r] at mu;exact mu
 have ntup:∀c xs,H c=some (.tup xs)->c≠x:=fun c xs r z=>by subst z;rw[r] at mu;exact mu
 by_cases hb:b=x
 ·subst hb;rw[zc] at q;cases q;exact new
 ·rw[zA hb] at q
  by_cases hbe:b=e
  ·have q':H b=some (.own x):=by
    rcases he with z|z
    ·exact absurd (hbe.trans z) hb
    ·rw[hbe];exact z
   rw[q] at q';cases q'
   obtain⟨v,hv⟩:=heo
   exact⟨v,by rw[hbe];exact hv⟩
  ·refine (ok b u q).stay (fun c v hc r=>k c v ?_ r) (fun c r=>by rw[zA (nown c b r)];exact r) fun c xs r=>by rw[zA (ntup c xs r)];exact r
   rcases hc with rfl|hc
   ·exact hbe
   ·rintro rfl
    rcases he with z|z
    ·exact nown c b hc z
    ·rw[hc] at z;cases z;exact hb rfl
end
structure Un(fs ex:List Addr)(H H':Hp)(h h':Heap):Prop where
 keep:∀b o,h.get? b=some o->H b=none->b ∉ fs->b ∉ ex->h'.get? b=some o
 slot:∀b o,h.get? b=some o->H b=none->b∈fs->b ∉ ex->∃sl,h'.get? b=some {o with slots:=sl}
 free:∀b o,h.get? b=some o->H b=none->b ∉ ex->H' b=none
 there:∀b o,h.get? b=some o->b ∉ ex->∃o',h'.get? b=some o'
 tups:∀b xs,H b=some (.tup xs)->H' b=some (.tup xs)
 frzs:∀b o u,H b=some (.frz o u)->H' b=some (.frz o u)
 tbls:∀b ps,H b=some (.tbl ps)->∃more,H' b=some (.tbl (ps++more))
section
variable{fs fs' ex ex':List Addr}{H H1 H2:Hp}{h h1 h2 h':Heap}{a x e:Addr}{o:HO}
theorem Un.any(u:Un fs ex H H1 h h1){b:Addr}{ob:Obj}(q:h.get? b=some ob)(n:H b=none)(hx:b ∉ ex):∃sl,h1.get? b=some {ob with slots:=sl}:=by
 by_cases hb:b∈fs
 ·exact u.slot b ob q n hb hx
 ·exact⟨ob.slots,u.keep b ob q n hb hx⟩
theorem Un.kept(k:∀b u,h.get? b=some u->h'.get? b=some u):Un fs ex H H h h':=
 ⟨fun b ob q _ _ _=>k b ob q,fun b ob q _ _ _=>⟨ob.slots,k b ob q⟩,fun _ _ _ n _=>n,fun b ob q _=>⟨ob,k b ob q⟩,fun _ _ q=>q,fun _ _ _ q=>q,fun _ ps q=>⟨#[],by rw[q];simp⟩⟩
theorem Un.refl:Un fs ex H H h h:=Un.kept fun _ _ q=>q
theorem Un.laid(k:∀b u,h.get? b=some u->h'.get? b=some u)(hp:h.objs.size<=a)(hn:H a=none):Un fs ex H (upd H a o) h h' where
 keep:=fun b u q _ _ _=>k b u q
 slot:=fun b u q _ _ _=>⟨u.slots,k b u q⟩
 free:=fun b u q n _=>by rw[zA (xA (xE (uZ q) hp))];exact n
 there:=fun b u q _=>⟨u,k b u q⟩
 tups:=fun b xs q=>by rw[zA (zn q hn)];exact q
 frzs:=fun b u xs q=>by rw[zA (zn q hn)];exact q
 tbls:=fun b ps q=>⟨#[],by rw[zA (zn q hn),q];simp⟩
theorem Un.write(mu:Mut (H x))(he:e=x\/H e=some (.own x))(k:∀b u,b≠e->h.get? b=some u->h'.get? b=some u)(heo:∃u,h'.get? e=some u):Un fs ex H (upd H x o) h h':=by
 have hx:∀b,H b=none->b≠x:=fun b n z=>by subst z;rw[n] at mu;exact mu
 have hb:∀b,H b=none->b≠e:=fun b n z=>by
  subst z
  rcases he with r|r
  ·exact hx b n r
  ·rw[n] at r;cases r
 have hm:∀b u,H b=some u->¬Mut (some u)->b≠x:=fun b u q nm z=>by subst z;rw[q] at mu;exact nm mu
 refine⟨fun b u q n _ _=>k b u (hb b n) q,fun b u q n _ _=>⟨u.slots,k b u (hb b n) q⟩,fun b u q n _=>by rw[zA (hx b n)];exact n,fun b u q _=>?_,
  fun b xs q=>by rw[zA (hm b _ q fun z=>z)];exact q,fun b u xs q=>by rw[zA (hm b _ q fun z=>z)];exact q,fun b ps q=>⟨#[],by rw[zA (hm b _ q fun z=>z),q];simp⟩⟩
 by_cases hbe:b=e
 ·subst hbe;exact heo
 ·exact⟨u,k b u hbe q⟩
end
noncomputable def trk(h:Heap)(H:Hp):List Addr:=(wK h.objs.size).filter fun a=>(H a).isSome
def hidT(h:Heap)(H:Hp):Heap:=PySem.W.hideAll h (trk h H)
theorem zji(h:Heap)(H:Hp):(hidT h H).objs.size=h.objs.size:=PySem.W.hideAll_size _ _
theorem zkZ{h:Heap}{H:Hp}{b:Addr}{o:Obj}(e:h.get? b=some o)(n:H b=none):(hidT h H).get? b=some o:=
 PySem.W.hideAll_get _ e fun hm=>by
  have q:(H b).isSome=true:=(List.mem_filter.mp hm).2
  rw[n] at q;simp at q
theorem zmD{h:Heap}{H:Hp}{b:Addr}{o:Obj}(e:(hidT h H).get? b=some o):h.get? b=some o/\H b=none:=by
 have e':h.get? b=some o:=PySem.W.of_hideAll (trk h H) e
 refine⟨e',?_⟩
 cases q:H b with
 |none=>rfl
 |some x=>
  have hm:b∈trk h H:=List.mem_filter.mpr ⟨wY.mpr (uZ e'),by simp[q]⟩
  have z:(hidT h H).get? b=none:=PySem.W.hideAll_none (trk h H) hm
  rw[z] at e;cases e
noncomputable def zmE(g h:Heap)(L:Addr):List (Addr×Obj):=(wK h.objs.size).filterMap fun a=>if a=L\/(g.get? a).isSome=true then none else (h.get? a).map fun o=>(a,o)
def rest(g h:Heap)(L d:Addr):List (Addr×Obj):=(zmE g h L).filter fun p=>decide (p.1≠d)
structure Mod(K:tU)(mg:Str->Option Value)(base:Heap):Prop where
 kin:K.In base
 glob:base.Ns tG mg
 blt:∃mb,base.Ns builtinsNs mb/\∀x:Str,x≠"__name__"->mb x=tK x
 nolimit:base.NoLimit
structure Cx where
 prog:Program
 w:World
 K:tU
 mg:Str->Option Value
 base:Heap
 A:Around
 N:List Str
 s₀:Shared
 H₀:Hp
 env:Env
 outer:List Env
 stack:List Env
 ex:List Addr
 fn:Str->Bool
 calm:Bool
 pn:List (Addr×Obj)
 xe:Value->Shared->Prop
noncomputable def frs(l:List Env):List Addr:=l.filterMap (·.frame)
abbrev Cx.fs(X:Cx):List Addr:=frs X.outer
def Vis(sc:Scope)(x:Str):Prop:=sc.names.lookup x=some .local\/sc.names.lookup x=some .cell\/sc.names.lookup x=some .free
def Loc(sc:Scope)(x:Str):Prop:=sc.names.lookup x=some .local\/sc.names.lookup x=some .cell
def Look(env:Env)(h:Heap)(m:Str->Option Value)(x:Str)(u:Value):Prop:=
 (env.kindOf x=some .local/\m x=some u)\/((env.kindOf x=some .cell\/env.kindOf x=some .free)/\∃c,env.cells.lookup x=some c/\h.IsCell c (some u))
structure Cx.Ok(X:Cx):Prop where
 mod:Mod X.K X.mg X.base
 kind:X.env.scope.kind=.function
 glob:X.env.globals=tG
 blt:X.env.builtins=builtinsNs
 above:X.s₀.heap.objs.size<=X.env.locals
 inj:∀x y c,X.env.cells.lookup x=some c->X.env.cells.lookup y=some c->x=y
 has:∀x,(X.env.kindOf x=some .cell\/X.env.kindOf x=some .free)->∃c,X.env.cells.lookup x=some c
 cab:∀x c,X.fn x=true->X.env.cells.lookup x=some c->X.s₀.heap.objs.size<=c
 hd:X.calm=true->X.A.handled=none
 frames:X.A.frames=some X.stack
 stk:X.stack=X.outer\/(X.stack=X.env::X.outer/\X.env.frame=some X.env.locals)
 exf:∀b∈X.ex,b≠X.env.locals/\∀x c,X.env.cells.lookup x=some c->c≠b
 bs:∀b o,X.base.get? b=some o->X.s₀.heap.get? b=some o/\X.H₀ b=none
 bsz:X.base.objs.size<=X.s₀.heap.objs.size
 noex:∀b o,X.base.get? b=some o->b ∉ X.ex
 exfs:∀b∈X.ex,b ∉ X.fs
 funs:X.s₀.heap.FunFrames X.base X.outer
 frf:∀b∈X.fs,X.H₀ b=none
structure Inv(X:Cx)(zp:List (Addr×Obj))(σ:List (Option V))(H:Hp)(s:Shared):Prop where
 ok:X.Ok
 os:s.os=X.s₀.os
 bare:AllBare s.gens
 base:Un X.fs X.ex X.H₀ H X.s₀.heap s.heap
 loc:∃m,s.heap.Ns X.env.locals m/\∀(i:Nat)(x:Str)(v:V),X.N[i]?=some x->σ[i]?=some (some v)->Vis X.env.scope x->∃u,RelV v u/\Look X.env s.heap m x u
 cell:∀x c,X.env.cells.lookup x=some c->∃v,s.heap.IsCell c v
 free:H X.env.locals=none
 freeC:∀x c,X.env.cells.lookup x=some c->H c=none
 pin:∀p∈X.pn++zp,s.heap.get? p.1=some p.2/\H p.1=none/\p.1≠X.env.locals/\p.1 ∉ X.fs/\∀v,p.2.data≠.cell v
 hok:HOk X.prog X.w H s.heap
 len:σ.length=X.N.length
section
variable{X:Cx}{zp:List (Addr×Obj)}{σ:List (Option V)}{H H':Hp}{s:Shared}{h':Heap}
theorem Cx.Ok.nofr(ok:X.Ok){b:Addr}{o:Obj}(e:X.base.get? b=some o):b ∉ X.fs:=fun hb=>by
 have:=(ok.funs.mem hb).1
 rw[e] at this;cases this
theorem Inv.bs(I:Inv X zp σ H s):∀b o,X.base.get? b=some o->s.heap.get? b=some o/\H b=none:=fun b o e=>
 ⟨I.base.keep b o (I.ok.bs b o e).1 (I.ok.bs b o e).2 (I.ok.nofr e) (I.ok.noex b o e),I.base.free b o (I.ok.bs b o e).1 (I.ok.bs b o e).2 (I.ok.noex b o e)⟩
theorem Inv.bk(I:Inv X zp σ H s):∀b o,X.base.get? b=some o->s.heap.get? b=some o:=fun b o e=>(I.bs b o e).1
theorem Inv.mod(I:Inv X zp σ H s):Mod X.K X.mg X.base:=I.ok.mod
theorem Inv.kIn(I:Inv X zp σ H s):X.K.In s.heap:=I.ok.mod.kin.keeps I.bk
theorem Inv.lt(I:Inv X zp σ H s):X.env.locals<s.heap.objs.size:=let ⟨_,hn,_⟩:=I.loc;hn.lt
theorem Inv.sz(I:Inv X zp σ H s):X.s₀.heap.objs.size<=s.heap.objs.size:=yQ I.ok.above (wO I.lt)
theorem Inv.nofs(I:Inv X zp σ H s){a:Addr}(h:s.heap.objs.size<=a):a ∉ X.fs:=fun hb=>by
 obtain⟨_,o,ho,_⟩:=I.ok.funs.mem hb
 exact absurd (xE (uZ ho) (yQ I.sz h)) (xX _)
theorem Inv.cne(I:Inv X zp σ H s):∀x c,X.env.cells.lookup x=some c->c≠X.env.locals:=fun x c e z=>by
 obtain⟨v,o,ho,hd⟩:=I.cell x c e
 obtain⟨m,⟨o',es,ep,ho',hd',_⟩,_⟩:=I.loc
 rw[z,ho'] at ho;cases ho;rw[hd'] at hd;cases hd
theorem Inv.funs(I:Inv X zp σ H s):s.heap.FunFrames X.base X.outer:=by
 have all:∀(l:List Env),(∀b∈frs l,b∈X.fs)->X.s₀.heap.FunFrames X.base l->s.heap.FunFrames X.base l:=by
  intro l
  induction l with
  |nil=>intro _ _;trivial
  |cons env r ih=>
   intro hs hl
   obtain⟨hk,⟨L,o,hf,hn,ho,hd⟩,hr⟩:=hl
   have hL:L∈X.fs:=hs L (by unfold frs;rw[vP,hf];exact yV)
   obtain⟨sl,e⟩:=I.base.slot L o ho (I.ok.frf L hL) hL fun z=>I.ok.exfs L z hL
   exact⟨hk,⟨L,_,hf,hn,e,hd⟩,ih (fun b hb=>hs b (by unfold frs;rw[vP,hf];exact yM _ hb)) hr⟩
 exact all X.outer (fun _ hb=>hb) I.ok.funs
theorem Inv.stack(I:Inv X zp σ H s):s.heap.FunFrames X.base X.stack:=by
 rcases I.ok.stk with e|⟨e,hf⟩
 ·rw[e];exact I.funs
 ·rw[e]
  obtain⟨m,hn,_⟩:=I.loc
  refine .cons (by rw[I.ok.kind];decide) hf hn ?_ I.funs
  exact Heap.get?_none_of_le (yQ I.ok.bsz I.ok.above)
theorem Inv.stkSub(I:Inv X zp σ H s):∀b∈frs X.stack,b∈X.env.locals::X.fs:=fun b hb=>by
 rcases I.ok.stk with e|⟨e,hf⟩
 ·rw[e] at hb;exact yM _ hb
 ·rw[e] at hb
  unfold frs at hb
  rw[vP,hf] at hb
  exact hb
theorem Inv.stkFree(I:Inv X zp σ H s):∀b∈frs X.stack,H b=none:=fun b hb=>by
 rcases yG.mp (I.stkSub b hb) with e|hb
 ·rw[e];exact I.free
 ·obtain⟨_,o,ho,_⟩:=I.ok.funs.mem hb
  exact I.base.free b o ho (I.ok.frf b hb) fun z=>I.ok.exfs b z hb
theorem Inv.step{g':Array GenState}{t':Nat}{d':Drawn}{ch:List Addr}(I:Inv X zp σ H s)
  (hch:∀b∈ch,(b∈X.ex\/X.s₀.heap.objs.size<=b)/\b≠X.env.locals/\(∀x c,X.env.cells.lookup x=some c->c≠b)/\∀p∈X.pn++zp,p.1≠b)
  (keep:∀b o,b≠X.env.locals->b ∉ X.fs->b ∉ ch->s.heap.get? b=some o->H b=none->h'.get? b=some o)
  (slot:∀b o,b≠X.env.locals->b∈X.fs->b ∉ ch->s.heap.get? b=some o->H b=none->∃sl,h'.get? b=some {o with slots:=sl}) (free:∀b o,b ∉ ch->s.heap.get? b=some o->H b=none->H' b=none)
  (there:∀b o,b ∉ ch->s.heap.get? b=some o->∃o',h'.get? b=some o')
  (tups:∀b xs,H b=some (.tup xs)->H' b=some (.tup xs)) (frzs:∀b o u,H b=some (.frz o u)->H' b=some (.frz o u)) (tbls:∀b ps,H b=some (.tbl ps)->∃more,H' b=some (.tbl (ps++more)))
  (ns:∀m,s.heap.Ns X.env.locals m->h'.Ns X.env.locals m) (hok:HOk X.prog X.w H' h') (hg:AllBare g'):
  Inv X zp σ H' {s with heap:=h',gens:=g',drawn:=d',toks:=t'}:=by
 have neL:∀b o,X.s₀.heap.get? b=some o->b≠X.env.locals:=fun b o e=>xA (xE (uZ e) I.ok.above)
 have neC:∀b o,X.s₀.heap.get? b=some o->b ∉ X.ex->b ∉ ch:=fun b o e hx hb=>by
  rcases (hch b hb).1 with z|z
  ·exact hx z
  ·exact absurd (xE (uZ e) z) (xX _)
 have cellK:∀x c,X.env.cells.lookup x=some c->∀v,s.heap.IsCell c v->h'.IsCell c v:=fun x c e v ⟨o,ho,hd⟩=>by
  have nch:c ∉ ch:=fun z=>(hch c z).2.2.1 x c e rfl
  by_cases hc:c∈X.fs
  ·obtain⟨sl,q⟩:=slot c o (I.cne x c e) hc nch ho (I.freeC x c e)
   exact⟨_,q,hd⟩
  ·exact⟨o,keep c o (I.cne x c e) hc nch ho (I.freeC x c e),hd⟩
 refine⟨I.ok,I.os,hg,⟨fun b o e n hb hx=>?_,fun b o e n hb hx=>?_,fun b o e n hx=>?_,fun b o e hx=>?_,fun b xs e=>tups b xs (I.base.tups b xs e),fun b o xs e=>frzs b o xs (I.base.frzs b o xs e),fun b ps e=>?_⟩,?_,fun x c e=>?_,?_,fun x c e=>?_,fun p hp=>?_,hok,I.len⟩
 ·exact keep b o (neL b o e) hb (neC b o e hx) (I.base.keep b o e n hb hx) (I.base.free b o e n hx)
 ·obtain⟨sl,e1⟩:=I.base.slot b o e n hb hx
  obtain⟨sl',e2⟩:=slot b _ (neL b o e) hb (neC b o e hx) e1 (I.base.free b o e n hx)
  exact⟨sl',e2⟩
 ·obtain⟨o',e1⟩:=I.base.there b o e hx
  exact free b o' (neC b o e hx) e1 (I.base.free b o e n hx)
 ·obtain⟨o',e1⟩:=I.base.there b o e hx
  exact there b o' (neC b o e hx) e1
 ·obtain⟨m1,e1⟩:=I.base.tbls b ps e
  obtain⟨m2,e2⟩:=tbls b _ e1
  exact⟨m1++m2,by rw[e2,Array.append_assoc]⟩
 ·obtain⟨m,hn,hl⟩:=I.loc
  refine⟨m,ns m hn,fun i x v e1 e2 e3=>?_⟩
  obtain⟨u,r,l⟩:=hl i x v e1 e2 e3
  refine⟨u,r,?_⟩
  rcases l with l|⟨k,c,e,z⟩
  ·exact .inl l
  ·exact .inr ⟨k,c,e,cellK x c e _ z⟩
 ·obtain⟨v,z⟩:=I.cell x c e
  exact⟨v,cellK x c e v z⟩
 ·obtain⟨m,⟨o,_,_,ho,_⟩,_⟩:=I.loc
  exact free _ o (fun z=>(hch _ z).2.1 rfl) ho I.free
 ·obtain⟨v,o,ho,hd⟩:=I.cell x c e
  exact free c o (fun z=>(hch c z).2.2.1 x c e rfl) ho (I.freeC x c e)
 ·obtain⟨e,n,ne,nf,d⟩:=I.pin p hp
  have nch:p.1 ∉ ch:=fun z=>(hch p.1 z).2.2.2 p hp rfl
  exact⟨keep p.1 p.2 ne nf nch e n,free p.1 p.2 nch e n,ne,nf,d⟩
theorem Inv.un{t':Nat}(I:Inv X zp σ H s)(u:Un X.fs [] H H' s.heap h')(hok:HOk X.prog X.w H' h'):Inv X zp σ H' {s with heap:=h',toks:=t'}:=by
 obtain⟨m,⟨o,es,ep,ho,r⟩,_⟩:=id I.loc
 obtain⟨sl,hL⟩:=u.any ho I.free (by simp)
 exact I.step (g':=s.gens) (d':=s.drawn) (ch:=[]) (fun _ z=>nomatch z) (fun b o _ hb _ e n=>u.keep b o e n hb (by simp)) (fun b o _ hb _ e n=>u.slot b o e n hb (by simp)) (fun b o _ e n=>u.free b o e n (by simp)) (fun b o _ e=>u.there b o e (by simp)) u.tups u.frzs u.tbls (fun m' hm=>by
  obtain⟨o',es',ep',ho',r'⟩:=hm
  rw[ho] at ho';cases ho'
  exact⟨_,es',ep',hL,r'⟩) hok I.bare
theorem Inv.call{g':Array GenState}{t':Nat}{d':Drawn}{ch:List Addr}(I:Inv X zp σ H s)(u:Un (frs X.stack) ch H H' s.heap h')(hok:HOk X.prog X.w H' h')(hg:AllBare g')
  (hch:∀b∈ch,(b∈X.ex\/X.s₀.heap.objs.size<=b)/\b≠X.env.locals/\(∀x c,X.env.cells.lookup x=some c->c≠b)/\∀p∈X.pn++zp,p.1≠b):
  Inv X zp σ H' {s with heap:=h',gens:=g',drawn:=d',toks:=t'}:=by
 obtain⟨m,⟨o,es,ep,ho,r⟩,_⟩:=id I.loc
 obtain⟨sl,hL⟩:=u.any ho I.free fun z=>(hch _ z).2.1 rfl
 exact I.step (ch:=ch) hch (fun b o hL hb hc e n=>u.keep b o e n (fun z=>(yG.mp (I.stkSub b z)).elim hL hb) hc) (fun b o _ _ hc e n=>u.any e n hc) (fun b o hc e n=>u.free b o e n hc) (fun b o hc e=>u.there b o e hc) u.tups u.frzs u.tbls (fun m' hm=>by
  obtain⟨o',es',ep',ho',r'⟩:=hm
  rw[ho] at ho';cases ho'
  exact⟨_,es',ep',hL,r'⟩) hok hg
theorem Inv.turned{t':Nat}{it:Addr}(I:Inv X zp σ H s)(k:∀b o,b≠it->s.heap.get? b=some o->h'.get? b=some o)(hn:H it=none)(hL:it≠X.env.locals)
  (h1:it∈X.ex\/X.s₀.heap.objs.size<=it) (h2:∀x c,X.env.cells.lookup x=some c->c≠it) (h3:∀p∈X.pn++zp,p.1≠it):Inv X zp σ H {s with heap:=h',toks:=t'}:=by
 have nit:∀b u,H b=some u->b≠it:=fun b u e z=>by rw[z,hn] at e;cases e
 refine I.step (g':=s.gens) (d':=s.drawn) (ch:=[it]) (fun b hb=>?_) (fun b o _ _ hc e _=>k b o (fun z=>hc (by simp[z])) e) (fun b o _ _ hc e _=>⟨o.slots,k b o (fun z=>hc (by simp[z])) e⟩) (fun _ _ _ _ n=>n)
  (fun b o hc e=>⟨o,k b o (fun z=>hc (by simp[z])) e⟩) (fun _ _ e=>e) (fun _ _ _ e=>e) (fun b ps e=>⟨#[],by rw[e];simp⟩) (fun m hm=>?_) (fun b u e=>?_) I.bare
 ·have e:b=it:=by simpa using hb
  subst e
  exact⟨h1,hL,h2,h3⟩
 ·obtain⟨o,es,ep,ho,r⟩:=hm
  exact⟨o,es,ep,k _ o (Ne.symm hL) ho,r⟩
 ·refine (I.hok b u e).stay (fun c v hc q=>k c v ?_ q) (fun _ q=>q) fun _ _ q=>q
  rcases hc with z|z
  ·rw[z];exact nit b u e
  ·exact nit c _ z
theorem Inv.tok(I:Inv X zp σ H s)(t:Nat):Inv X zp σ H {s with toks:=t}:=I.un (h':=s.heap) (t':=t) Un.refl I.hok
theorem Inv.kept{t':Nat}(I:Inv X zp σ H s)(k:∀b u,s.heap.get? b=some u->h'.get? b=some u):Inv X zp σ H {s with heap:=h',toks:=t'}:=I.un (Un.kept k) (I.hok.kept k)
theorem Inv.laid{a:Addr}{o:HO}{t':Nat}(I:Inv X zp σ H s)(k:∀b u,s.heap.get? b=some u->h'.get? b=some u)(hp:s.heap.objs.size<=a)(new:zal X.prog X.w (upd H a o) h' a o):
  Inv X zp σ (upd H a o) {s with heap:=h',toks:=t'}:=I.un (Un.laid k hp (I.hok.fresh hp)) (I.hok.laid k hp new)
theorem Inv.write{x e:Addr}{o:HO}{t':Nat}(I:Inv X zp σ H s)(mu:Mut (H x))(he:e=x\/H e=some (.own x))(k:∀b u,b≠e->s.heap.get? b=some u->h'.get? b=some u)(heo:∃u,h'.get? e=some u)
  (new:zal X.prog X.w (upd H x o) h' x o):Inv X zp σ (upd H x o) {s with heap:=h',toks:=t'}:=I.un (Un.write mu he k heo) (I.hok.write mu he k heo new)
theorem Inv.weak{σ':List (Option V)}(I:Inv X zp σ H s)(hl:σ'.length=σ.length)(w:∀(i:Nat) v,σ'[i]?=some (some v)->σ[i]?=some (some v)):Inv X zp σ' H s:=
 ⟨I.ok,I.os,I.bare,I.base,let ⟨m,hn,hl'⟩:=I.loc;⟨m,hn,fun i x v e1 e2 e3=>hl' i x v e1 (w i v e2) e3⟩,I.cell,I.free,I.freeC,I.pin,I.hok,hl.trans I.len⟩
theorem Inv.pins_of{pins':List (Addr×Obj)}(I:Inv X zp σ H s)(h:∀p∈pins',s.heap.get? p.1=some p.2/\H p.1=none/\p.1≠X.env.locals/\p.1 ∉ X.fs/\∀v,p.2.data≠.cell v):Inv X pins' σ H s:=
 ⟨I.ok,I.os,I.bare,I.base,I.loc,I.cell,I.free,I.freeC,fun p hp=>(yU.mp hp).elim (fun z=>I.pin p (wZ _ z)) (h p),I.hok,I.len⟩
theorem zhJ{N:List Str}(hN:N.Nodup){i j:Nat}{x:Str}(a:N[i]?=some x)(b:N[j]?=some x):i=j:=by
 obtain⟨h1,e1⟩:=yE.mp a
 obtain⟨h2,e2⟩:=yE.mp b
 exact (List.getElem_inj hN).mp (e1.trans e2.symm)
theorem zgc{M:Model}{A:Around}{E:Value->Shared->Prop}{i:Nat}{x:Str}{v:V}{u:Value}{Q:Unit->Shared->Prop}(I:Inv X zp σ H s)(hN:X.N.Nodup)(hi:X.N[i]?=some x)(hx:Loc X.env.scope x)(r:RelV v u)
  (h:∀s',Inv X zp (σ.set i (some v)) H s'->(∃a,Heap.SameBut a s.heap s'.heap/\(a=X.env.locals\/X.env.cells.lookup x=some a))->Q () s') (hf:X.fn x=true\/X.env.scope.names.lookup x=some .local:=by first|exact .inl rfl|exact .inr rfl|assumption):wpAny M A (storeName X.env x u) Q E s:=by
 obtain⟨m,hn,hl⟩:=id I.loc
 have hcls:(X.env.scope.kind==.class||(X.env.scope.kind==.module&&X.env.locals != X.env.globals))=false:=by rw[I.ok.kind];rfl
 have hiσ:i<σ.length:=by rw[I.len];exact (yE.mp hi).1
 have cne:=I.cne
 have tracked:∀{a:Addr}{h':Heap},(∃o,s.heap.get? a=some o/\H a=none)->Heap.SameBut a s.heap h'->HOk X.prog X.w H h':=fun {a h'} ha hs b ob e=>by
  obtain⟨_,_,hfree⟩:=ha
  refine (I.hok b ob e).stay (fun c w' hc q=>(hs.2 c ?_).trans q) (fun _ q=>q) fun _ _ q=>q
  rintro rfl
  rcases hc with rfl|hc
  ·rw[hfree] at e;cases e
  ·rw[hfree] at hc;cases hc
 rcases hx with hk|hk
 ·refine wpAny_storeName_local hk hn (fun h' hn' hs=>?_) hcls
  obtain⟨oL,_,_,hoL,_⟩:=id hn
  refine h _ ⟨I.ok,I.os,I.bare,⟨fun b o e n hb hx=>?_,fun b o e n hb hx=>?_,I.base.free,fun b o e hx=>?_,I.base.tups,I.base.frzs,I.base.tbls⟩,⟨_,hn',fun j y v' e1 e2 e3=>?_⟩,fun y c e=>?_,I.free,I.freeC,fun p hp=>?_,tracked ⟨oL,hoL,I.free⟩ hs,by simpa using I.len⟩ ⟨_,hs,.inl rfl⟩
  ·exact (hs.2 b (xA (xE (uZ e) I.ok.above))).trans (I.base.keep b o e n hb hx)
  ·obtain⟨sl,e1⟩:=I.base.slot b o e n hb hx
   exact⟨sl,(hs.2 b (xA (xE (uZ e) I.ok.above))).trans e1⟩
  ·obtain⟨o',e1⟩:=I.base.there b o e hx
   exact⟨o',(hs.2 b (xA (xE (uZ e) I.ok.above))).trans e1⟩
  ·by_cases hj:j=i
   ·subst hj
    rw[hi] at e1;cases e1
    rw[vX hiσ] at e2
    cases e2
    exact⟨u,r,.inl ⟨hk,by simp⟩⟩
   ·rw[uE (Ne.symm hj)] at e2
    obtain⟨u',r',q⟩:=hl j y v' e1 e2 e3
    refine⟨u',r',?_⟩
    rcases q with⟨k,e⟩|⟨k,c,e,z⟩
    ·refine .inl ⟨k,?_⟩
     have:y≠x:=fun e=>hj (zhJ hN e1 (e▸hi))
     simp[this,e]
    ·exact .inr ⟨k,c,e,z.sameBut hs (cne y c e)⟩
  ·obtain⟨w',z⟩:=I.cell y c e
   exact⟨w',z.sameBut hs (cne y c e)⟩
  ·obtain⟨e,n,ne,nf,d⟩:=I.pin p hp
   exact⟨(hs.2 p.1 ne).trans e,n,ne,nf,d⟩
 ·have hfn:X.fn x=true:=by
   rcases hf with z|z
   ·exact z
   ·rw[z] at hk;cases hk
  obtain⟨c,hc⟩:=I.ok.has x (.inl hk)
  obtain⟨w',z⟩:=I.cell x c hc
  refine wpAny_storeName_cell I.ok.kind hk hc z (fun h' hc' hs=>?_)
  obtain⟨oc,hoc,hocd⟩:=id z
  refine h {s with heap:=h'} ⟨I.ok,I.os,I.bare,⟨fun b o e n hb hx=>?_,fun b o e n hb hx=>?_,I.base.free,fun b o e hx=>?_,I.base.tups,I.base.frzs,I.base.tbls⟩,⟨m,hn.sameBut hs (Ne.symm (cne x c hc)),fun j y v' e1 e2 e3=>?_⟩,fun y c' e=>?_,I.free,I.freeC,fun p hp=>?_,tracked ⟨oc,hoc,I.freeC x c hc⟩ hs,by simpa using I.len⟩ ⟨c,hs,.inr hc⟩
  ·exact (hs.2 b (xA (xE (uZ e) (I.ok.cab x c hfn hc)))).trans (I.base.keep b o e n hb hx)
  ·obtain⟨sl,e1⟩:=I.base.slot b o e n hb hx
   exact⟨sl,(hs.2 b (xA (xE (uZ e) (I.ok.cab x c hfn hc)))).trans e1⟩
  ·obtain⟨o',e1⟩:=I.base.there b o e hx
   exact⟨o',(hs.2 b (xA (xE (uZ e) (I.ok.cab x c hfn hc)))).trans e1⟩
  ·by_cases hj:j=i
   ·subst hj
    rw[hi] at e1;cases e1
    rw[vX hiσ] at e2
    cases e2
    exact⟨u,r,.inr ⟨.inl hk,c,hc,hc'⟩⟩
   ·rw[uE (Ne.symm hj)] at e2
    obtain⟨u',r',q⟩:=hl j y v' e1 e2 e3
    refine⟨u',r',?_⟩
    rcases q with q|⟨k,c',e,z'⟩
    ·exact .inl q
    ·refine .inr ⟨k,c',e,z'.sameBut hs ?_⟩
     rintro rfl
     exact hj (zhJ hN e1 (I.ok.inj _ _ _ e hc▸hi))
  ·by_cases hcc:c'=c
   ·subst hcc;exact⟨_,hc'⟩
   ·obtain⟨w2,z2⟩:=I.cell y c' e
    exact⟨w2,z2.sameBut hs hcc⟩
  ·obtain⟨e,n,ne,nf,d⟩:=I.pin p hp
   refine⟨(hs.2 p.1 ?_).trans e,n,ne,nf,d⟩
   intro q
   rw[q,hoc] at e
   have q':oc=p.2:=Option.some.inj e
   exact d w' (by rw[←q'];exact hocd)
theorem zfm{M:Model}{A:Around}{E:Value->Shared->Prop}{i:Nat}{x:Str}{v:V}{u:Value}{Q:Unit->Shared->Prop}(I:Inv X zp σ H s)(hN:X.N.Nodup)(hi:X.N[i]?=some x)(hx:Loc X.env.scope x)(r:RelV v u)
  (h:∀s',Inv X zp (σ.set i (some v)) H s'->Q () s') (hf:X.fn x=true\/X.env.scope.names.lookup x=some .local:=by first|exact .inl rfl|exact .inr rfl|assumption):wpAny M A (storeName X.env x u) Q E s:=
 zgc I hN hi hx r (fun s' I' _=>h s' I') hf
theorem Inv.call'{s':Shared}{ch:List Addr}(I:Inv X zp σ H s)(ho:s'.os=s.os)(u:Un (frs X.stack) ch H H' s.heap s'.heap)(hok:HOk X.prog X.w H' s'.heap)(hg:AllBare s'.gens)
  (hch:∀b∈ch,(b∈X.ex\/X.s₀.heap.objs.size<=b)/\b≠X.env.locals/\(∀x c,X.env.cells.lookup x=some c->c≠b)/\∀p∈X.pn++zp,p.1≠b):Inv X zp σ H' s':=by
 obtain⟨h',g',d',t',o'⟩:=s'
 have e:o'=s.os:=ho
 subst e
 exact I.call (g':=g') (t':=t') (d':=d') u hok hg hch
end
abbrev XK:=Value->Option Addr->Hp->Prop
abbrev St:=List (Option V)
abbrev VK:=V->Hp->Prop
abbrev TE:=St->Hp->VK->Prop
abbrev TT:=St->Hp->(Bool->Hp->Prop)->Prop
abbrev TA:=St->Hp->(List V->Hp->Prop)->Prop
structure Ends where
 nx:St->Hp->Prop
 rt:VK
 bk:St->Hp->Prop:=fun _ _=>False
 ct:St->Hp->Prop:=fun _ _=>False
abbrev TS:=Ends->St->Hp->Prop
inductive EP(X:Cx)(zp:List (Addr×Obj))(σ:St)(Q:VK)(u:Value)(s':Shared):Prop
 |mk (v H':_) (_:Inv X zp σ H' s') (_:RelV v u) (_:Q v H')
inductive TP(X:Cx)(zp:List (Addr×Obj))(σ:St)(Q:Bool->Hp->Prop)(b:Bool)(s':Shared):Prop
 |mk (H':_) (_:Inv X zp σ H' s') (_:Q b H')
inductive AP(X:Cx)(zp:List (Addr×Obj))(σ:St)(Q:List V->Hp->Prop)(us:List Value)(s':Shared):Prop
 |mk (vs H':_) (_:Inv X zp σ H' s') (_:Vals vs us) (_:Q vs H')
def SP(X:Cx)(zp:List (Addr×Obj))(D:Ends)(f:Flow)(s':Shared):Prop:=
 match f with
 |.next=>∃σ' H',Inv X zp σ' H' s'/\D.nx σ' H'
 |.brk=>∃σ' H',Inv X zp σ' H' s'/\D.bk σ' H'
 |.cont=>∃σ' H',Inv X zp σ' H' s'/\D.ct σ' H'
 |.ret u=>∃v σ' H',Inv X zp σ' H' s'/\RelV v u/\D.rt v H'
def PE(X:Cx)(e:Expr)(t:TE):Prop:=
 ∀(zp:List (Addr×Obj))(s:Shared)(σ:St)(H:Hp)(Q:VK),Inv X zp σ H s->t σ H Q->wpAny (model X.prog X.w) X.A (eval e X.env) (EP X zp σ Q) X.xe s
def PT(X:Cx)(e:Expr)(t:TT):Prop:=
 ∀(zp:List (Addr×Obj))(s:Shared)(σ:St)(H:Hp)(Q:Bool->Hp->Prop),Inv X zp σ H s->t σ H Q->wpAny (model X.prog X.w) X.A (isTrue e X.env (eval e X.env)) (TP X zp σ Q) X.xe s
def PW(X:Cx)(e:Expr)(t:TT):Prop:=
 ∀(whole:Sem Value)(zp:List (Addr×Obj))(s:Shared)(σ:St)(H:Hp)(Q:Bool->Hp->Prop),Inv X zp σ H s->t σ H Q->wpAny (model X.prog X.w) X.A (isTrue e X.env whole) (TP X zp σ Q) X.xe s
theorem PW.pt{X:Cx}{e:Expr}{t:TT}(h:PW X e t):PT X e t:=h _
def PA(X:Cx)(es:List Expr)(t:TA):Prop:=
 ∀(pos:Pos)(zp:List (Addr×Obj))(s:Shared)(σ:St)(H:Hp)(Q:List V->Hp->Prop),Inv X zp σ H s->t σ H Q->wpAny (model X.prog X.w) X.A (spliced (backTo pos (tJ es X.env))) (AP X zp σ Q) X.xe s
def PS(X:Cx)(st:Stmt)(t:TS):Prop:=
 ∀(zp:List (Addr×Obj))(s:Shared)(σ:St)(H:Hp)(D:Ends),Inv X zp σ H s->t D σ H->wpAny (model X.prog X.w) X.A (exec st X.env) (SP X zp D) X.xe s
def PSs(X:Cx)(st:List Stmt)(t:TS):Prop:=
 ∀(zp:List (Addr×Obj))(s:Shared)(σ:St)(H:Hp)(D:Ends),Inv X zp σ H s->t D σ H->wpAny (model X.prog X.w) X.A (execs st X.env) (SP X zp D) X.xe s
theorem thn{α:Type}{t:Sem α}{Q Q':α->Shared->Prop}{M:Model}{A:Around}{E:Value->Shared->Prop}{s:Shared}(h:wpAny M A t Q E s)(hQ:∀a s,Q a s->Q' a s):wpAny M A t Q' E s:=wpAny_mono h hQ fun _ _ x=>x
section
variable{X:Cx}
inductive tVar(i:Nat)(σ:St)(H:Hp)(Q:VK):Prop
 |mk (v:_) (_:σ[i]?=some (some v)) (_:Q v H)
def tC(v:V):TE:=fun _ H Q=>Q v H
theorem znN{i:Nat}{x:Str}{pos:Pos}(hN:X.N[i]?=some x)(hv:Vis X.env.scope x)(hd:(x==("__debug__":Str))=false:=by decide)(hcd:(x==("__classdict__":Str))=false:=by decide):PE X (.Name x pos) (tVar i):=by
 intro zp s σ H Q I h
 obtain⟨v,e,h⟩:=h
 obtain⟨m,hn,hl⟩:=I.loc
 obtain⟨u,r,l⟩:=hl i x v hN e hv
 have fin:EP X zp σ Q u s:=⟨v,H,I,r,h⟩
 rcases l with⟨hk,hm⟩|⟨hk,c,hc,hcell⟩
 ·exact wpAny_Name (wpAny_loadName_local I.ok.kind hk hn hm fin) hd
 ·rcases hk with hk|hk
  ·exact wpAny_Name (wpAny_loadName_cell I.ok.kind hk hc hcell fin) hd
  ·exact wpAny_Name (wpAny_loadName_free I.ok.kind hk hc hcell fin hcd) hd
theorem ze {i j pos}:PE X (.Constant (.int i) j pos) (tC (.int i)):=fun _ _ _ H _ I h=>wpAny_Constant_int ⟨.int i,H,I.tok _,⟨_,rfl⟩,h⟩
theorem Z5 {b j pos}:PE X (.Constant (.bool b) j pos) (tC (.bl b)):=fun _ _ _ H _ I h=>Constant_bool ⟨.bl b,H,I,rfl,h⟩
theorem zgd {j pos}:PE X (.Constant .none j pos) (tC .non):=fun _ _ _ H _ I h=>Constant_none ⟨.non,H,I,rfl,h⟩
theorem zg {x j pos}:PE X (.Constant (.str x) j pos) (tC (.str x)):=fun _ _ _ H _ I h=>Calls.Constant_str ⟨.str x,H,I.tok _,⟨_,rfl⟩,h⟩
def Gl(X:Cx)(x:Str):Prop:=X.env.kindOf x=some .globalImplicit
theorem zfn{E:Value->Shared->Prop}{zp:List (Addr×Obj)}{s:Shared}{σ:St}{H:Hp}{x:Str}{u:Value}{pos:Pos}{Q:Value->Shared->Prop}(I:Inv X zp σ H s)(hg:Gl X x)(hm:X.mg x=some u)(h:Q u s)
  (hd:(x==("__debug__":Str))=false:=by decide):wpAny (model X.prog X.w) X.A (eval (.Name x pos) X.env) Q E s:=
 Calls.Name_function_global I.ok.kind hg (Calls.loadGlobal_global (by rw[I.ok.glob];exact I.mod.glob.keeps I.bk) hm h) hd
theorem zeZ{E:Value->Shared->Prop}{zp:List (Addr×Obj)}{s:Shared}{σ:St}{H:Hp}{x:Str}{u:Value}{pos:Pos}{Q:Value->Shared->Prop}(I:Inv X zp σ H s)(hg:Gl X x)(hm:X.mg x=none)(hv:tK x=some u)(h:Q u s)
  (hn:x≠"__name__":=by decide) (hd:(x==("__debug__":Str))=false:=by decide):wpAny (model X.prog X.w) X.A (eval (.Name x pos) X.env) Q E s:=by
 obtain⟨mb,h1,h2⟩:=I.mod.blt
 exact Calls.Name_function_global I.ok.kind hg (Calls.loadGlobal_builtin (by rw[I.ok.glob];exact I.mod.glob.keeps I.bk) hm (by rw[I.ok.blt];exact h1.keeps I.bk) ((h2 x hn).trans hv) h) hd
theorem zam{x:Str}{v:V}{u:Value}{pos:Pos}(hg:Gl X x)(hm:X.mg x=some u)(r:RelV v u)(hd:(x==("__debug__":Str))=false:=by decide):PE X (.Name x pos) (tC v):=
 fun _ _ _ H _ I h=>zfn I hg hm ⟨v,H,I,r,h⟩ hd
theorem zmF{x:Str}{v:V}{u:Value}{pos:Pos}(hg:Gl X x)(hm:X.mg x=none)(hv:tK x=some u)(r:RelV v u)(hn:x≠"__name__":=by decide)(hd:(x==("__debug__":Str))=false:=by decide):PE X (.Name x pos) (tC v):=
 fun _ _ _ H _ I h=>zeZ I hg hm hv ⟨v,H,I,r,h⟩ hn hd
variable{a b:Expr}{ta tb:TE}{pos:Pos}
inductive i_tB(Q:Bool->Hp->Prop)(x:V)(H1:Hp):Prop
 |mk (c:_) (_:x=.bl c) (_:Q c H1)
def tB(t:TE):TT:=fun σ H Q=>t σ H fun x H1=>i_tB Q x H1
theorem zX{e:Expr}{t:TE}(h:PE X e t)(he:∀whole,isTrue e X.env whole=(do let v ←whole;standAt e.pos;holding [v] (truthy v)):=by intro _;rfl):PT X e (tB t):=by
 intro zp s σ H Q I hw
 refine isTrue_plain (thn (h zp s σ H _ I hw) fun v s1 ⟨x,H1,I1,r1,q1⟩=>?_) (he _)
 obtain⟨d,rfl,q⟩:=q1
 cases r1
 exact wpAny_truthy_bool ⟨H1,I1,q⟩
variable{tA tB':TT}{rest:List Expr}
def tAnd(t u:TT):TT:=fun σ H Q=>t σ H fun c H1=>if c=true then u σ H1 Q else Q false H1
def tOr(t u:TT):TT:=fun σ H Q=>t σ H fun c H1=>if c=true then Q true H1 else u σ H1 Q
def tNot(t:TT):TT:=fun σ H Q=>t σ H fun c H1=>Q (!c) H1
theorem zay(ha:PT X a tA):PW X (.BoolOp .And [a] pos) tA:=by
 intro wh zp s σ H Q I h
 refine isTrue_and (thn (ha zp s σ H Q I h) fun c s1 e=>?_)
 cases c with
 |true=>exact isTrue_and_nil e
 |false=>exact e
theorem ZF(ha:PT X a tA):PW X (.BoolOp .Or [a] pos) tA:=by
 intro wh zp s σ H Q I h
 refine isTrue_or (thn (ha zp s σ H Q I h) fun c s1 e=>?_)
 cases c with
 |false=>exact isTrue_or_nil e
 |true=>exact e
theorem zbr(ha:PT X a tA)(hb:PW X (.BoolOp .And (b::rest) pos) tB'):PW X (.BoolOp .And (a::b::rest) pos) (tAnd tA tB'):=by
 intro wh zp s σ H Q I h
 refine isTrue_and (thn (ha zp s σ H _ I h) fun c s1 ⟨H1,I1,q1⟩=>?_)
 cases c with
 |true=>exact hb wh zp s1 σ H1 Q I1 q1
 |false=>exact⟨H1,I1,q1⟩
theorem Z6(ha:PT X a tA)(hb:PW X (.BoolOp .Or (b::rest) pos) tB'):PW X (.BoolOp .Or (a::b::rest) pos) (tOr tA tB'):=by
 intro wh zp s σ H Q I h
 refine isTrue_or (thn (ha zp s σ H _ I h) fun c s1 ⟨H1,I1,q1⟩=>?_)
 cases c with
 |true=>exact⟨H1,I1,q1⟩
 |false=>exact hb wh zp s1 σ H1 Q I1 q1
theorem ZA(ha:PT X a tA):PT X (.UnaryOp .Not a pos) (tNot tA):=by
 intro zp s σ H Q I h
 exact isTrue_not (thn (ha zp s σ H (fun c H1=>Q (!c) H1) I h) fun c s1 ⟨H1,I1,q1⟩=>⟨H1,I1,q1⟩)
inductive i_tAndV(tb:TE)(σ:St)(Q:VK)(x:V)(H1:Hp):Prop
 |mk (c:_) (_:x=.bl c) (_:if c=true then tb σ H1 Q else Q (.bl false) H1)
def znO(ta tb:TE):TE:=fun σ H Q=>ta σ H fun x H1=>i_tAndV tb σ Q x H1
inductive i_tOrV(tb:TE)(σ:St)(Q:VK)(x:V)(H1:Hp):Prop
 |mk (c:_) (_:x=.bl c) (_:if c=true then Q (.bl true) H1 else tb σ H1 Q)
def tOrV(ta tb:TE):TE:=fun σ H Q=>ta σ H fun x H1=>i_tOrV tb σ Q x H1
inductive i_tNotV(Q:VK)(x:V)(H1:Hp):Prop
 |mk (c:_) (_:x=.bl c) (_:Q (.bl (!c)) H1)
def znP(ta:TE):TE:=fun σ H Q=>ta σ H fun x H1=>i_tNotV Q x H1
theorem ZG {op}{t:TE} (h:PE X a t):PE X (.BoolOp op [a] pos) t:=fun zp s σ H Q I hw=>BoolOp_one (h zp s σ H Q I hw)
theorem Zt(ha:PE X a ta)(hb:PE X (.BoolOp .And (b::rest) pos) tb):PE X (.BoolOp .And (a::b::rest) pos) (znO ta tb):=by
 intro zp s σ H Q I h
 refine BoolOp_and (thn (ha zp s σ H _ I h) fun v s1 ⟨x,H1,I1,r1,q1⟩=>?_)
 obtain⟨c,rfl,q1⟩:=q1
 cases r1
 refine wpAny_truthy_bool ?_
 cases c with
 |true=>exact hb zp s1 σ H1 Q I1 q1
 |false=>exact⟨.bl false,H1,I1,rfl,q1⟩
theorem zk0(ha:PE X a ta)(hb:PE X (.BoolOp .Or (b::rest) pos) tb):PE X (.BoolOp .Or (a::b::rest) pos) (tOrV ta tb):=by
 intro zp s σ H Q I h
 refine BoolOp_or (thn (ha zp s σ H _ I h) fun v s1 ⟨x,H1,I1,r1,q1⟩=>?_)
 obtain⟨c,rfl,q1⟩:=q1
 cases r1
 refine wpAny_truthy_bool ?_
 cases c with
 |false=>exact hb zp s1 σ H1 Q I1 q1
 |true=>exact⟨.bl true,H1,I1,rfl,q1⟩
theorem zhK(ha:PE X a ta):PE X (.UnaryOp .Not a pos) (znP ta):=by
 intro zp s σ H Q I h
 refine UnaryOp_ (thn (ha zp s σ H _ I h) fun v s1 ⟨x,H1,I1,r1,q1⟩=>?_)
 obtain⟨c,rfl,q1⟩:=q1
 cases r1
 exact not_of (wpAny_truthy_bool ⟨.bl (!c),H1,I1,rfl,q1⟩)
def tIf(t:TT)(ta tb:TE):TE:=fun σ H Q=>t σ H fun c H1=>if c=true then ta σ H1 Q else tb σ H1 Q
theorem zaJ{c:Expr}(hc:PT X c tA)(ha:PE X a ta)(hb:PE X b tb):PE X (.IfExp c a b pos) (tIf tA ta tb):=by
 intro zp s σ H Q I h
 refine wpAny_IfExp (thn (hc zp s σ H _ I h) fun d s1 ⟨H1,I1,q1⟩=>?_)
 cases d with
 |true=>exact ha zp s1 σ H1 Q I1 q1
 |false=>exact hb zp s1 σ H1 Q I1 q1
end
def SqL(K:tU)(H:Hp)(a:Addr)(xs:List V):Prop:=
 Rd H a (.lst xs) \/
  ∃(o:Obj)(its:Array Value)(n:Nat),K.lookup a=some o/\o.cls=.type "list"/\o.dict=none/\o.data=.seq its n/\its.size<=tH/\Vals xs its.toList
def SqT(K:tU)(H:Hp)(a:Addr)(xs:List V):Prop:=
 Rd H a (.tup xs) \/
  ∃(o:Obj)(its:Array Value)(n:Nat),K.lookup a=some o/\o.cls=.type "tuple"/\o.data=.seq its n/\its.size<=tH/\Vals xs its.toList
noncomputable def absV:Value->Option V
 |.none=>some .non
 |.bool b=>some (.bl b)
 |.int i _=>some (.int i)
 |.str x _=>some (.str x)
 |.bytes b _=>some (.byt b)
 |.float b _=>some (.flt b)
 |.ref a=>some (.ref a)
 |.type n=>some (.ty n)
 |_=>none
theorem RelV.abs{x:V}{u:Value}(r:RelV x u):absV u=some x:=by
 cases x with
 |non=>cases r;rfl
 |bl _=>cases r;rfl
 |int _=>obtain⟨t,rfl⟩:=r;rfl
 |str _=>obtain⟨t,rfl⟩:=r;rfl
 |byt _=>obtain⟨t,rfl⟩:=r;rfl
 |flt _=>obtain⟨t,rfl⟩:=r;rfl
 |ref _=>cases r;rfl
 |ty _=>cases r;rfl
theorem RelV.inj{x y:V}{u:Value}(r:RelV x u)(q:RelV y u):x=y:=Option.some.inj (r.abs.symm.trans q.abs)
theorem Vals.inj:∀{xs ys:List V}{us:List Value},Vals xs us->Vals ys us->xs=ys
 |_,_,_,.nil,.nil=>rfl
 |_,_,_,.cons r t,.cons r' t'=>by rw[r.inj r',Vals.inj t t']
section
variable{X:Cx}{zp:List (Addr×Obj)}{σ:St}{H:Hp}{s:Shared}{a:Addr}{xs ys:List V}
theorem Sl{K:tU}(h:H a=some (.lst xs)):SqL K H a xs:=.inl (.inl h)
theorem Sq{K:tU}(h:H a=some (.tup xs)):SqT K H a xs:=.inl (.inl h)
theorem Inv.list(I:Inv X zp σ H s)(h:SqL X.K H a xs):∃its:List Value,Vals xs its/\PlainL s.heap a its.toArray/\xs.length<=tH:=by
 rcases h with h|⟨o,its,n,hk,hc,hd,hs,hz,r⟩
 ·obtain⟨z,its,n,r,e⟩:=h.ok I.hok
  exact⟨its,r,⟨_,n,e,rfl,rfl,rfl⟩,z⟩
 ·refine⟨its.toList,r,⟨o,n,I.kIn a o hk,hc,hd,by simpa using hs⟩,?_⟩
  have e:=r.length
  simp only[xR] at e
  lia
theorem Inv.tuple(I:Inv X zp σ H s)(h:SqT X.K H a xs):∃its:List Value,Vals xs its/\IsTup s.heap a its.toArray/\xs.length<=tH:=by
 rcases h with h|⟨o,its,n,hk,hc,hs,hz,r⟩
 ·obtain⟨z,its,r,p⟩:=h.ok I.hok
  exact⟨its,r,p,z⟩
 ·refine⟨its.toList,r,⟨o,I.kIn a o hk,hc,n,by simpa using hs⟩,?_⟩
  have e:=r.length
  simp only[xR] at e
  lia
theorem Inv.list_inj(I:Inv X zp σ H s)(h:SqL X.K H a xs)(h':SqL X.K H a ys):xs=ys:=by
 obtain⟨its,r,⟨o,n,e,_,_,d⟩,_⟩:=I.list h
 obtain⟨its',r',⟨o',n',e',_,_,d'⟩,_⟩:=I.list h'
 rw[e] at e';cases e'
 rw[d] at d'
 injection d' with d1 _
 have:its=its':=by simpa using congrArg uR d1
 subst this
 exact r.inj r'
theorem Inv.tuple_inj(I:Inv X zp σ H s)(h:SqT X.K H a xs)(h':SqT X.K H a ys):xs=ys:=by
 obtain⟨its,r,⟨o,e,_,n,d⟩,_⟩:=I.tuple h
 obtain⟨its',r',⟨o',e',_,n',d'⟩,_⟩:=I.tuple h'
 rw[e] at e';cases e'
 rw[d] at d'
 injection d' with d1 _
 have:its=its':=by simpa using congrArg uR d1
 subst this
 exact r.inj r'
end
abbrev Cx.wish(X:Cx)(E:Value->Shared->Prop):Cx:={X with xe:=E}
abbrev Cx.nox(X:Cx):Cx:=X.wish fun _ _=>False
theorem Cx.Ok.wish{X:Cx}(ok:X.Ok)(E:Value->Shared->Prop):(X.wish E).Ok:=
 ⟨ok.mod,ok.kind,ok.glob,ok.blt,ok.above,ok.inj,ok.has,ok.cab,ok.hd,ok.frames,ok.stk,ok.exf,ok.bs,ok.bsz,ok.noex,ok.exfs,ok.funs,ok.frf⟩
theorem Cx.Ok.unwish{X:Cx}{E:Value->Shared->Prop}(ok:(X.wish E).Ok):X.Ok:=
 ⟨ok.mod,ok.kind,ok.glob,ok.blt,ok.above,ok.inj,ok.has,ok.cab,ok.hd,ok.frames,ok.stk,ok.exf,ok.bs,ok.bsz,ok.noex,ok.exfs,ok.funs,ok.frf⟩
section
variable{X:Cx}{zp:List (Addr×Obj)}{σ:St}{H:Hp}{s:Shared}{E:Value->Shared->Prop}
theorem Inv.wish(I:Inv X zp σ H s)(E:Value->Shared->Prop):Inv (X.wish E) zp σ H s:=⟨I.ok.wish E,I.os,I.bare,I.base,I.loc,I.cell,I.free,I.freeC,I.pin,I.hok,I.len⟩
theorem Inv.unwish(I:Inv (X.wish E) zp σ H s):Inv X zp σ H s:=⟨I.ok.unwish,I.os,I.bare,I.base,I.loc,I.cell,I.free,I.freeC,I.pin,I.hok,I.len⟩
theorem SP.unwish{D:Ends}{f:Flow}{s':Shared}(h:SP (X.wish E) zp D f s'):SP X zp D f s':=by
 cases f with
 |next=>obtain⟨σ',H',I,q⟩:=h;exact⟨σ',H',I.unwish,q⟩
 |brk=>obtain⟨σ',H',I,q⟩:=h;exact⟨σ',H',I.unwish,q⟩
 |cont=>obtain⟨σ',H',I,q⟩:=h;exact⟨σ',H',I.unwish,q⟩
 |ret u=>obtain⟨v,σ',H',I,r,q⟩:=h;exact⟨v,σ',H',I.unwish,r,q⟩
theorem PSs.nox{st:List Stmt}{t:TS}(h:PSs X.nox st t):PSs X st t:=fun zp s σ H D I hw=>
 wpAny_mono (h zp s σ H D (I.wish _) hw) (fun _ _ q=>q.unwish) fun _ _ z=>False.elim z
end
section
variable{X:Cx}{st:Stmt}{rest:List Stmt}{t u:TS}{e:Expr}{te:TE}{pos:Pos}
def zit:TS:=fun D σ H=>D.nx σ H
def tSeq(t u:TS):TS:=fun D σ H=>t {D with nx:=u D} σ H
theorem zq:PSs X [] zit:=fun _ _ σ H _ I h=>wpAny_execs_nil ⟨σ,H,I,h⟩
theorem zd(h1:PS X st t)(h2:PSs X rest u):PSs X (st::rest) (tSeq t u):=by
 intro zp s σ H D I h
 refine wpAny_execs_cons (thn (h1 zp s σ H {D with nx:=u D} I h) fun f s1 q=>?_)
 cases f with
 |next=>
  obtain⟨σ',H',I',q⟩:=q
  exact h2 zp s1 σ' H' D I' q
 |ret v=>exact q
 |brk=>exact q
 |cont=>exact q
theorem zf(h1:PS X st t):PSs X [st] t:=by
 intro zp s σ H D I h
 refine wpAny_execs_cons (thn (h1 zp s σ H D I h) fun f s1 q=>?_)
 cases f with
 |next=>exact wpAny_execs_nil q
 |ret v=>exact q
 |brk=>exact q
 |cont=>exact q
theorem Inv.quiet{zp:List (Addr×Obj)}{σ:St}{H:Hp}{s:Shared}(I:Inv X zp σ H s):interactive X.env=false:=by simp[interactive,I.ok.kind]
def znQ(te:TE):TS:=fun D σ H=>te σ H fun _ H1=>D.nx σ H1
theorem Zm(he:PE X e te)(hs:swapsWith e none pos.line X.env=pure false:=by rfl):PS X (.Expr e pos) (znQ te):=by
 intro zp s σ H D I h
 exact wpAny_Expr_any (thn (he zp s σ H _ I h) fun v s1 ⟨x,H1,I1,r1,q1⟩=>⟨σ,H1,I1,q1⟩) I.quiet hs
def tRet(te:TE):TS:=fun D σ H=>te σ H D.rt
theorem zl(he:PE X e te):PS X (.Return (some e) pos) (tRet te):=by
 intro zp s σ H D I h
 exact wpAny_Return_some (thn (he zp s σ H _ I h) fun v s1 ⟨x,H1,I1,r1,q1⟩=>⟨x,σ,H1,I1,r1,q1⟩)
def tIfS(c:TT)(t u:TS):TS:=fun D σ H=>c σ H fun b H1=>if b=true then t D σ H1 else u D σ H1
theorem zE{c:Expr}{a b:List Stmt}{tc:TT}(hc:PT X c tc)(ha:PSs X a t)(hb:PSs X b u):PS X (.If c a b pos) (tIfS tc t u):=by
 intro zp s σ H D I h
 refine wpAny_If (thn (hc zp s σ H _ I h) fun d s1 ⟨H1,I1,q1⟩=>?_)
 cases d with
 |true=>exact ha zp s1 σ H1 D I1 q1
 |false=>exact hb zp s1 σ H1 D I1 q1
def zme:TS:=fun _ _ _=>False
theorem zU{sts:List Stmt}:PSs X sts zme:=fun _ _ _ _ _ _ h=>h.elim
end
abbrev TG:=V->St->Hp->(St->Hp->Prop)->Prop
abbrev TGs:=List V->St->Hp->(St->Hp->Prop)->Prop
def PG(X:Cx)(target:Expr)(t:TG):Prop:=
 ∀(zp:List (Addr×Obj))(s:Shared)(σ:St)(H:Hp)(v:V)(u:Value)(Q:St->Hp->Prop),Inv X zp σ H s->RelV v u->t v σ H Q->
  wpAny (model X.prog X.w) X.A (assign target X.env u) (fun _ s'=>∃σ' H',Inv X zp σ' H' s'/\Q σ' H') X.xe s
def PGs(X:Cx)(ts:List Expr)(t:TGs):Prop:=
 ∀(zp:List (Addr×Obj))(s:Shared)(σ:St)(H:Hp)(vs:List V)(us:List Value)(Q:St->Hp->Prop),Inv X zp σ H s->Vals vs us->t vs σ H Q->
  wpAny (model X.prog X.w) X.A (assignInOrder ((assignEach ts X.env).map (·.2)) us) (fun _ s'=>∃σ' H',Inv X zp σ' H' s'/\Q σ' H') X.xe s
abbrev TSet:=V->V->V->Hp->(Hp->Prop)->Prop
def PSet(X:Cx)(t:TSet):Prop:=
 ∀(zp:List (Addr×Obj))(s:Shared)(σ:St)(H:Hp)(o i v:V)(ov iv u:Value)(Q:Hp->Prop),Inv X zp σ H s->RelV o ov->RelV i iv->RelV v u->t o i v H Q->
  wpAny (model X.prog X.w) X.A (setItem ov iv u) (fun _ s'=>∃H',Inv X zp σ H' s'/\Q H') X.xe s
abbrev TIp:=V->V->Hp->VK->Prop
def PIp(X:Cx)(op:Operator)(t:TIp):Prop:=
 ∀(zp:List (Addr×Obj))(s:Shared)(σ:St)(H:Hp)(x y:V)(v u:Value)(Q:VK),Inv X zp σ H s->RelV x v->RelV y u->t x y H Q->
  wpAny (model X.prog X.w) X.A (inplaceOp op v u) (EP X zp σ Q) X.xe s
section
variable{X:Cx}{pos:Pos}
def zW(i:Nat):TG:=fun v σ H Q=>Q (σ.set i (some v)) H
theorem Zb{i:Nat}{x:Str}(hN:X.N.Nodup)(hi:X.N[i]?=some x)(hx:Loc X.env.scope x)(hf:X.fn x=true\/X.env.scope.names.lookup x=some .local:=by first|exact .inl rfl|exact .inr rfl|assumption):PG X (.Name x pos) (zW i):=by
 intro zp s σ H v u Q I r h
 exact wpAny_assign_Name (zfm I hN hi hx r (fun s' I'=>⟨_,H,I',h⟩) hf)
inductive gNil(vs:List V)(σ:St)(H:Hp)(Q:St->Hp->Prop):Prop
 |mk (_:vs=[]) (_:Q σ H)
inductive gCons(t:TG)(u:TGs)(vs:List V)(σ:St)(H:Hp)(Q:St->Hp->Prop):Prop
 |mk (v r:_) (_:vs=v::r) (_:t v σ H fun σ' H'=>u r σ' H' Q)
theorem zaP:PGs X [] gNil:=by
 intro zp s σ H vs us Q I r h
 obtain⟨e,h⟩:=h
 subst e
 cases r
 exact assignInOrder_nil ⟨σ,H,I,h⟩
theorem Zc{e:Expr}{es:List Expr}{t:TG}{u:TGs}(h1:PG X e t)(h2:PGs X es u)
  (hs:(assignEach (e::es) X.env).map (·.2)=assign e X.env::(assignEach es X.env).map (·.2):=by rfl):PGs X (e::es) (gCons t u):=by
 intro zp s σ H vs us Q I r h
 obtain⟨v,vr,e1,h⟩:=h
 subst e1
 cases r with
 |cons r rr=>
  rw[hs]
  refine assignInOrder_cons (thn (h1 zp s σ H _ _ _ I r h) fun _ s1 ⟨σ1,H1,I1,q1⟩=>?_)
  exact h2 zp s1 σ1 H1 _ _ Q I1 rr q1
inductive gTup(K:tU)(n:Nat)(t:TGs)(v:V)(σ:St)(H:Hp)(Q:St->Hp->Prop):Prop
 |mk (a xs:_) (_:v=.ref a) (_:SqT K H a xs) (_:xs.length=n) (_:t xs σ H Q)
theorem zbl{es:List Expr}{k:Nat}{t:TGs}{n:Nat}(hc:X.calm=true)(h:PGs X es t)
  (hn:(assignEach es X.env).length=n:=by rfl) (hst:(assignEach es X.env).findIdx? (·.1)=none:=by rfl):PG X (.Tuple es k pos) (gTup X.K n t):=by
 intro zp s σ H v u Q I r hw
 obtain⟨a,xs,e1,hq,hl,hw⟩:=hw
 subst e1
 cases r
 obtain⟨its,rv,ht,hz⟩:=I.tuple hq
 refine assign_Tuple_tuple (I.ok.hd hc) ht (by simp[hn,←hl,rv.length]) hst fun h' hx=>?_
 have I1:Inv X zp σ H {s with heap:=h'}:=I.kept (t':=s.toks) fun b o e=>hx b o (xA (uZ e)) e
 exact h zp _ σ H xs _ Q I1 (by simpa using rv) hw
def gSub(to ti:TE)(t:TSet):TG:=fun v σ H Q=>to σ H fun o H1=>ti σ H1 fun i H2=>t o i v H2 fun H3=>Q σ H3
theorem zhL{o i:Expr}{to ti:TE}{t:TSet}(ho:PE X o to)(hi:PE X i ti)(hs:PSet X t)
  (ha:∀v,assign (.Subscript o i pos) X.env v=(do
   let ov ←holding [v] (eval o X.env)
   let iv ←holding [v,ov] (eval i X.env)
   standAt pos
   holding [v,ov,iv] (setItem ov iv v)
   release [v,ov,iv] []):=by intro _;rfl):PG X (.Subscript o i pos) (gSub to ti t):=by
 intro zp s σ H v u Q I r h
 rw[ha]
 refine uW (wpAny_holding (thn (ho zp s σ H _ I h) fun ov s1 ⟨x,H1,I1,r1,q1⟩=>?_))
 refine uW (wpAny_holding (thn (hi zp s1 σ H1 _ I1 q1) fun iv s2 ⟨y,H2,I2,r2,q2⟩=>?_))
 refine uW (wpAny_standAt (uW (wpAny_holding (thn (hs zp s2 σ H2 x y v ov iv u _ I2 r1 r2 r q2) fun _ s3 ⟨H3,I3,q3⟩=>?_))))
 exact wpAny_release ⟨σ,H3,I3,q3⟩
def tAsg(te:TE)(g:TG):TS:=fun D σ H=>te σ H fun x H1=>g x σ H1 D.nx
theorem zbm{tg e:Expr}{te:TE}{g:TG}(he:PE X e te)(hg:PG X tg g)(hs:swapsWithSole [tg] e pos.line X.env=pure false:=by rfl)(hw:swappedStores [tg] e X.env=pure none:=by rfl)
  (h1:(assignEach [tg] X.env).map (·.2)=[assign tg X.env]:=by rfl):PS X (.Assign [tg] e pos) (tAsg te g):=by
 intro zp s σ H D I h
 refine wpAny_Assign_stores (thn (he zp s σ H _ I h) fun v s1 ⟨x,H1,I1,r1,q1⟩=>?_) hs hw
 rw[h1]
 exact thn (hg zp s1 σ H1 x v _ I1 r1 q1) fun _ s2 q=>q
theorem zm{i:Nat}{x:Str}{e:Expr}{te:TE}{pos':Pos}(hN:X.N.Nodup)(hi:X.N[i]?=some x)(hx:Loc X.env.scope x)(he:PE X e te)(hs:swapsWith e (some (.Name x pos')) pos.line X.env=pure false:=by rfl)(hf:X.fn x=true\/X.env.scope.names.lookup x=some .local:=by first|exact .inl rfl|exact .inr rfl|assumption):
  PS X (.Assign [.Name x pos'] e pos) (tAsg te (zW i)):=by
 intro zp s σ H D I h
 refine wpAny_Assign_Name (thn (he zp s σ H _ I h) fun v s1 ⟨y,H1,I1,r1,q1⟩=>?_) hs
 exact zfm I1 hN hi hx r1 (fun s2 I2=>⟨_,H1,I2,q1⟩) hf
inductive tAug(i:Nat)(te:TE)(ti:TIp)(D:Ends)(σ:St)(H:Hp):Prop
 |mk (x:_) (_:σ[i]?=some (some x)) (_:te σ H fun y H1=>ti x y H1 fun z H2=>D.nx (σ.set i (some z)) H2)
theorem zdg{i:Nat}{x:Str}{e:Expr}{te:TE}{op:Operator}{ti:TIp}{pos':Pos}(hN:X.N.Nodup)(hi:X.N[i]?=some x)(hx:Loc X.env.scope x)(he:PE X e te)(ho:PIp X op ti)(hf:X.fn x=true\/X.env.scope.names.lookup x=some .local:=by first|exact .inl rfl|exact .inr rfl|assumption):
  PS X (.AugAssign (.Name x pos') op e pos) (tAug i te ti):=by
 intro zp s σ H D I h
 obtain⟨v,e1,h⟩:=h
 obtain⟨m,hn,hl⟩:=I.loc
 have vis:Vis X.env.scope x:=by rcases hx with k|k;exact .inl k;exact .inr (.inl k)
 obtain⟨u,r,l⟩:=hl i x v hi e1 vis
 refine wpAny_AugAssign_Name ?_
 have go:wpAny (model X.prog X.w) X.A (eval e X.env) (fun w s₂=>wpAny (model X.prog X.w) X.A (inplaceOp op u w) (fun r s₃=>wpAny (model X.prog X.w) X.A (storeName X.env x r) (fun _=>SP X zp D .next) X.xe s₃) X.xe s₂) X.xe s:=by
  refine thn (he zp s σ H _ I h) fun w s1 ⟨y,H1,I1,r1,q1⟩=>?_
  refine thn (ho zp s1 σ H1 v y u w _ I1 r r1 q1) fun z s2 ⟨zv,H2,I2,r2,q2⟩=>?_
  exact zfm I2 hN hi hx r2 (fun s3 I3=>⟨_,H2,I3,q2⟩) hf
 rcases l with⟨hk,hm⟩|⟨hk,c,hc,hcell⟩
 ·exact wpAny_loadName_local I.ok.kind hk hn hm go
 ·rcases hk with hk|hk
  ·exact wpAny_loadName_cell I.ok.kind hk hc hcell go
  ·rcases hx with k|k
   ·have:X.env.scope.names.lookup x=some .free:=hk
    rw[k] at this;cases this
   ·have:X.env.scope.names.lookup x=some .free:=hk
    rw[k] at this;cases this
end
section
variable{X:Cx}{pos:Pos}
def zmf(c:TT)(tb:TS):TS:=fun D σ H=>∃W:Nat->St->Hp->Prop,(∃m,W m σ H)/\∀m σ H,W m σ H->
 c σ H fun b H1=>if b=true then ∃N:St->Hp->Prop,(∀σ' H',N σ' H'->∃m',m'<m/\W m' σ' H')/\tb {D with nx:=N,ct:=N,bk:=D.nx} σ H1 else D.nx σ H1
theorem zaK{c:Expr}{body:List Stmt}{tc:TT}{tb:TS}(hp:PassesOwn (model X.prog X.w) X.A X.env X.xe)(hc:PT X c tc)(hb:PSs X body tb):PS X (.While c body [] pos) (zmf tc tb):=by
 intro zp s σ H D I h
 obtain⟨W,⟨m0,w0⟩,turn⟩:=h
 refine wpAny_While (codeAny_whileLoop (fun n s'=>∃σ' H',Inv X zp σ' H' s'/\W n σ' H') ?_ m0 ⟨σ,H,I,w0⟩)
 rintro n s1 ⟨σ1,H1,I1,w1⟩
 refine wpAny_passesOwn hp (thn (hc zp s1 σ1 H1 _ I1 (turn n σ1 H1 w1)) fun b s2 ⟨H2,I2,q2⟩=>?_)
 cases b with
 |true=>
  obtain⟨N,hN,q2⟩:=q2
  rw[if_pos rfl]
  refine wpAny_passesOwn hp (thn (hb zp s2 σ1 H2 _ I2 q2) fun f s3 q3=>?_)
  cases f with
  |next=>
   obtain⟨σ3,H3,I3,n3⟩:=q3
   obtain⟨m',hm,w3⟩:=hN σ3 H3 n3
   exact⟨m',hm,σ3,H3,I3,w3⟩
  |cont=>
   obtain⟨σ3,H3,I3,n3⟩:=q3
   obtain⟨m',hm,w3⟩:=hN σ3 H3 n3
   exact⟨m',hm,σ3,H3,I3,w3⟩
  |brk=>exact q3
  |ret v=>exact q3
 |false=>
  rw[if_neg yT]
  exact wpAny_execs_nil ⟨σ1,H2,I2,q2⟩
end
structure It where
 go:Nat->Hp->Prop
 yld:Nat->Hp->V->Hp->Prop
 stop:Nat->Hp->Prop
def FpOk(X:Cx)(zp:List (Addr×Obj))(H:Hp)(b:Addr):Prop:=
 H b=none/\b≠X.env.locals/\b ∉ X.fs/\(b∈X.ex\/X.s₀.heap.objs.size<=b)/\(∀x c,X.env.cells.lookup x=some c->c≠b)/\∀p∈X.pn++zp,p.1≠b
theorem Inv.fpOk{X:Cx}{zp:List (Addr×Obj)}{σ:St}{H H':Hp}{s:Shared}{b:Addr}(I:Inv X zp σ H s)(hb:s.heap.objs.size<=b)(hn:H' b=none):FpOk X zp H' b:=by
 refine⟨hn,Nat.ne_of_gt (xE I.lt hb),I.nofs hb,.inr (yQ I.sz hb),fun x c e z=>?_,fun p hp z=>?_⟩
 ·obtain⟨v,q⟩:=I.cell x c e
  exact absurd (xE q.lt (by rw[z];exact hb)) (xX _)
 ·exact absurd (xE (uZ (I.pin p hp).1) (by rw[z];exact hb)) (xX _)
structure Turn(P:Program)(w:World)(K:tU)(tg:Expr)(J:It)(fp:List Addr)(it:Addr)(tn:Nat->Heap->Prop):Prop where
 mem:it∈fp
 obj:∀i h,tn i h->∀b∈fp,∃o,h.get? b=some o/\∀v,o.data≠.cell v
 keep:∀i h h',tn i h->(∀b∈fp,∀o,h.get? b=some o->h'.get? b=some o)->tn i h'
 item:∀(X:Cx),X.prog=P->X.w=w->X.K=K->X.calm=true->∀(i:Nat)(zp:List (Addr×Obj))(s:Shared)(σ:St)(H:Hp)(E:Value->Shared->Prop),Inv X zp σ H s->(∀b∈fp,FpOk X zp H b)->tn i s.heap->J.go i H->
  wpAny (model P w) X.A (pyNext (.ref it)) (fun r s1=>∃u,r=some u /\
   wpAny (model P w) X.A (letOwnedTupleGo tg (.ref it) u) (fun _ s2=>∃x H',Inv X zp σ H' s2/\RelV x u/\J.yld i H x H'/\tn (i+1) s2.heap/\∀b∈fp,H' b=none) E s1) E s
 done:∀(X:Cx),X.prog=P->X.w=w->X.K=K->X.calm=true->∀(i:Nat)(zp:List (Addr×Obj))(s:Shared)(σ:St)(H:Hp)(E:Value->Shared->Prop),Inv X zp σ H s->(∀b∈fp,FpOk X zp H b)->tn i s.heap->J.stop i H->
  wpAny (model P w) X.A (pyNext (.ref it)) (fun r s1=>r=none/\Inv X zp σ H s1) E s
 self:∀(A:Around)(i:Nat)(s:Shared)(Q:Value->Shared->Prop)(E:Value->Shared->Prop),tn i s.heap->Q (.ref it) s->wpAny (model P w) A (pyIter (.ref it)) Q E s
abbrev TI:=St->Hp->(It->Hp->Prop)->Prop
inductive PIE(X:Cx)(zp:List (Addr×Obj))(σ:St)(tg:Expr)(R:It->Hp->Prop)(itv:Value)(s2:Shared):Prop
 |mk (it:Addr) (fp:List Addr) (tn:Nat->Heap->Prop) (J:It) (H':Hp) (_:itv=.ref it) (_:Inv X zp σ H' s2) (_:Turn X.prog X.w X.K tg J fp it tn) (_:tn 0 s2.heap) (_:(∀b∈fp,FpOk X zp H' b)) (_:R J H')
def PI(X:Cx)(tg iter:Expr)(wi:TI):Prop:=
 ∀(zp:List (Addr×Obj))(s:Shared)(σ:St)(H:Hp)(R:It->Hp->Prop),Inv X zp σ H s->wi σ H R->
  wpAny (model X.prog X.w) X.A (eval iter X.env) (fun v s1=>wpAny (model X.prog X.w) X.A (pyIter v) (PIE X zp σ tg R) X.xe s1) X.xe s
theorem zk1{M:Model}{A:Around}{E:Value->Shared->Prop}{s:Shared}{tg:Expr}{it:Addr}{u:Value}{o:Obj}{n:String}{vs:Array Value}{Q:Unit->Shared->Prop}(ho:s.heap.get? it=some o)(hc:o.cls=.type n)(hd:o.data=.fields vs)
  (hn:["enumerate","zip","dict_itemiterator","dict_reverseitemiterator","odict_iterator","itertools.zip_longest","itertools.pairwise"].contains n=false) (hQ:Q () s):wpAny M A (letOwnedTupleGo tg (.ref it) u) Q E s:=by
 unfold letOwnedTupleGo
 cases tg<;>first
  |exact uX hQ
  |(
    cases u<;>first
    |exact uX hQ
    |(
      refine uW (wpAny_load ho ?_)
      rw[hc,hd]
      show wpAny M A (if (["enumerate","zip","dict_itemiterator","dict_reverseitemiterator","odict_iterator","itertools.zip_longest","itertools.pairwise"].contains n&&vs[0]? == some (rawInt _))=true then _ else _) Q E s
      rw[if_neg (by intro h;rw[hn,wI] at h;cases h)]
      exact uX hQ))
noncomputable def Itl(K:tU)(a:Addr):It:=
 ⟨fun i H=>∃xs x,SqL K H a xs/\xs[i]?=some x,fun i H x H'=>H'=H/\∀xs,SqL K H a xs->xs[i]?=some x,fun i H=>∃xs,SqL K H a xs/\xs.length<=i⟩
noncomputable def Itt(K:tU)(a:Addr):It:=
 ⟨fun i H=>∃xs x,SqT K H a xs/\xs[i]?=some x,fun i H x H'=>H'=H/\∀xs,SqT K H a xs->xs[i]?=some x,fun i H=>∃xs,SqT K H a xs/\xs.length<=i⟩
noncomputable def Itr(lo:Int)(n:Nat):It:=⟨fun i _=>i<n,fun i H x H'=>H'=H/\x=.int (lo+i),fun i _=>n<=i⟩
theorem zjj{P:Program}{w:World}{K:tU}{tg:Expr}(a it:Addr):Turn P w K tg (Itl K a) [it] it (fun i h=>h.IsListIter it a i) where
 mem:=by simp
 obj:=fun i h st b hb=>by
  have e:b=it:=by simpa using hb
  subst e
  obtain⟨o,e,c,d⟩:=st
  exact⟨o,e,fun v z=>by rw[d] at z;cases z⟩
 keep:=fun i h h' st k=>st.at fun o e=>k it (by simp) o e
 item:=by
  intro X hP hw hK hc i zp s σ H E I hf st hg
  subst hP hw hK
  obtain⟨xs,x,hq,hx⟩:=hg
  obtain⟨its,rv,p,hz⟩:=I.list hq
  obtain⟨u,hu,ru⟩:=rv.get hx
  obtain⟨f0,f1,f2,f3,f4,f5⟩:=hf it (by simp)
  refine wpAny_pyNext_list_item st p.isList (x:=u) (by simpa using hu) fun h' st' sb=>?_
  have I1:Inv X zp σ H {s with heap:=h'}:=I.turned (t':=s.toks) (fun b o hb e=>(sb.2 b hb).trans e) f0 f1 f3 f4 f5
  obtain⟨o,e,c,d⟩:=id st'
  exact⟨u,rfl,zk1 (s:={s with heap:=h'}) e c d (by decide) ⟨x,H,I1,ru,⟨rfl,fun ys hy=>by rw[I.list_inj hy hq];exact hx⟩,st',fun b hb=>(hf b hb).1⟩⟩
 done:=by
  intro X hP hw hK hc i zp s σ H E I hf st hg
  subst hP hw hK
  obtain⟨xs,hq,hx⟩:=hg
  obtain⟨its,rv,p,hz⟩:=I.list hq
  obtain⟨f0,f1,f2,f3,f4,f5⟩:=hf it (by simp)
  have hl:=rv.length
  exact wpAny_pyNext_list_end (I.ok.hd hc) st p.isList (by simp;lia) fun h' eb=>⟨rfl,I.turned (t':=s.toks) (fun b o hb e=>eb b o hb e) f0 f1 f3 f4 f5⟩
 self:=fun _ _ _ _ _ st h=>wpAny_pyIter_listiter st h
theorem ziu{P:Program}{w:World}{K:tU}{tg:Expr}(a it:Addr):Turn P w K tg (Itt K a) [it] it (fun i h=>h.IsTupleIter it a i) where
 mem:=by simp
 obj:=fun i h st b hb=>by
  have e:b=it:=by simpa using hb
  subst e
  obtain⟨o,e,c,d⟩:=st
  exact⟨o,e,fun v z=>by rw[d] at z;cases z⟩
 keep:=fun i h h' st k=>st.at fun o e=>k it (by simp) o e
 item:=by
  intro X hP hw hK hc i zp s σ H E I hf st hg
  subst hP hw hK
  obtain⟨xs,x,hq,hx⟩:=hg
  obtain⟨its,rv,p,hz⟩:=I.tuple hq
  obtain⟨u,hu,ru⟩:=rv.get hx
  obtain⟨f0,f1,f2,f3,f4,f5⟩:=hf it (by simp)
  refine wpAny_pyNext_tuple_item st (show s.heap.IsTuple a its.toArray from p) (x:=u) (by simpa using hu) fun h' st' sb=>?_
  have I1:Inv X zp σ H {s with heap:=h'}:=I.turned (t':=s.toks) (fun b o hb e=>(sb.2 b hb).trans e) f0 f1 f3 f4 f5
  obtain⟨o,e,c,d⟩:=id st'
  exact⟨u,rfl,zk1 (s:={s with heap:=h'}) e c d (by decide) ⟨x,H,I1,ru,⟨rfl,fun ys hy=>by rw[I.tuple_inj hy hq];exact hx⟩,st',fun b hb=>(hf b hb).1⟩⟩
 done:=by
  intro X hP hw hK hc i zp s σ H E I hf st hg
  subst hP hw hK
  obtain⟨xs,hq,hx⟩:=hg
  obtain⟨its,rv,p,hz⟩:=I.tuple hq
  obtain⟨f0,f1,f2,f3,f4,f5⟩:=hf it (by simp)
  have hl:=rv.length
  exact wpAny_pyNext_tuple_end (I.ok.hd hc) st (show s.heap.IsTuple a its.toArray from p) (by simp;lia) fun h' eb=>⟨rfl,I.turned (t':=s.toks) (fun b o hb e=>eb b o hb e) f0 f1 f3 f4 f5⟩
 self:=fun _ _ _ _ _ st h=>wpAny_pyIter_tupleiter st h
theorem ziv{P:Program}{w:World}{K:tU}{tg:Expr}(it:Addr)(lo:Int)(n:Nat):Turn P w K tg (Itr lo n) [it] it (fun i h=>IsRangeIter h it (lo+(i:Nat)*1) ((n:Int)-(i:Nat)) 1) where
 mem:=by simp
 obj:=fun i h st b hb=>by
  have e:b=it:=by simpa using hb
  subst e
  exact⟨_,st,fun v z=>by
   have z':Data.fields _=Data.cell v:=z
   cases z'⟩
 keep:=fun i h h' st k=>k it (by simp) _ st
 item:=by
  intro X hP hw hK hc i zp s σ H E I hf st hg
  subst hP hw hK
  obtain⟨f0,f1,f2,f3,f4,f5⟩:=hf it (by simp)
  have W:=Walks.range (prog:=X.prog) (w:=X.w) (I.ok.hd hc) it lo 1 n
  refine W.item i s _ _ hg st fun v h' tk hv st' kk=>?_
  obtain⟨t,rfl⟩:=hv
  have I1:Inv X zp σ H {s with heap:=h',toks:=tk}:=I.turned (fun b o hb e=>kk b o (by simpa using hb) e) f0 f1 f3 f4 f5
  refine⟨_,rfl,zk1 (s:={s with heap:=h',toks:=tk}) (n:="range_iterator") st' rfl rfl (by decide) ⟨.int (lo+i),H,I1,⟨t,?_⟩,⟨rfl,rfl⟩,st',fun b hb=>(hf b hb).1⟩⟩
  rw[Int.mul_one]
 done:=by
  intro X hP hw hK hc i zp s σ H E I hf st hg
  subst hP hw hK
  obtain⟨f0,f1,f2,f3,f4,f5⟩:=hf it (by simp)
  exact wpAny_pyNext_range_end (I.ok.hd hc) st (by have:n<=i:=hg;lia) fun h' eb=>⟨rfl,I.turned (t':=s.toks) (fun b o hb e=>eb b o hb e) f0 f1 f3 f4 f5⟩
 self:=fun _ _ _ _ _ st h=>wpAny_pyIter_rangeiter st h
section
variable{X:Cx}{tg:Expr}
inductive i_iList(K:tU)(R:It->Hp->Prop)(x:V)(H1:Hp):Prop
 |mk (a:_) (_:x=.ref a) (_:(∃xs,SqL K H1 a xs)) (_:R (Itl K a) H1)
def znR(K:tU)(tl:TE):TI:=fun σ H R=>tl σ H fun x H1=>i_iList K R x H1
inductive i_iTup(K:tU)(R:It->Hp->Prop)(x:V)(H1:Hp):Prop
 |mk (a:_) (_:x=.ref a) (_:(∃xs,SqT K H1 a xs)) (_:R (Itt K a) H1)
def iTup(K:tU)(tl:TE):TI:=fun σ H R=>tl σ H fun x H1=>i_iTup K R x H1
theorem ZX{l:Expr}{tl:TE}(hl:PE X l tl):PI X tg l (znR X.K tl):=by
 intro zp s σ H R I h
 refine thn (hl zp s σ H _ I h) fun v s1 ⟨x,H1,I1,r1,q1⟩=>?_
 obtain⟨a,e,⟨xs,hq⟩,q⟩:=q1
 subst e
 cases r1
 obtain⟨its,rv,p,hz⟩:=I1.list hq
 refine wpAny_pyIter_list p.isList ?_
 refine⟨s1.heap.objs.size,[s1.heap.objs.size],_,_,H1,rfl,I1.kept (t':=s1.toks) fun b o e=>uY _ e,zjj a _,⟨_,tD _ rfl,rfl,rfl⟩,fun b hb=>?_,q⟩
 have e:b=s1.heap.objs.size:=by simpa using hb
 subst e
 exact I1.fpOk (yO _) (I1.hok.fresh (yO _))
theorem zaq{l:Expr}{tl:TE}(hl:PE X l tl):PI X tg l (iTup X.K tl):=by
 intro zp s σ H R I h
 refine thn (hl zp s σ H _ I h) fun v s1 ⟨x,H1,I1,r1,q1⟩=>?_
 obtain⟨a,e,⟨xs,hq⟩,q⟩:=q1
 subst e
 cases r1
 obtain⟨its,rv,p,hz⟩:=I1.tuple hq
 refine wpAny_pyIter_tuple (show s1.heap.IsTuple a its.toArray from p) ?_
 refine⟨s1.heap.objs.size,[s1.heap.objs.size],_,_,H1,rfl,I1.kept (t':=s1.toks) fun b o e=>uY _ e,ziu a _,⟨_,tD _ rfl,rfl,rfl⟩,fun b hb=>?_,q⟩
 have e:b=s1.heap.objs.size:=by simpa using hb
 subst e
 exact I1.fpOk (yO _) (I1.hok.fresh (yO _))
theorem zhM{zp:List (Addr×Obj)}{σ:St}{H:Hp}{s:Shared}{R:It->Hp->Prop}{E:Value->Shared->Prop}{lo hi:Int}{t u v:Tok}{tk:Nat}(I:Inv X zp σ H s)(h1:-(2 ^ 62)<=lo)(h2:lo<2 ^ 62)(h3:-(2 ^ 62)<=hi)(h4:hi<2 ^ 62)
  (q:R (Itr lo (hi-lo).toNat) H):wpAny (model X.prog X.w) X.A (pyIter (.ref s.heap.objs.size)) (PIE X zp σ tg R) E {s with heap:=s.heap.push {cls:=.type "range",data:=.fields #[.int lo t,.int hi u,.int 1 v]},toks:=tk}:=by
 refine wpAny_pyIter_range (IsRange.new ..) (small_one h1 h2 h3 h4) ?_
 have I1:Inv X zp σ H {s with heap:=s.heap.push {cls:=.type "range",data:=.fields #[.int lo t,.int hi u,.int 1 v]},toks:=tk}:=I.kept fun b o e=>uY _ e
 refine⟨(s.heap.push {cls:=.type "range",data:=.fields #[.int lo t,.int hi u,.int 1 v]}).objs.size,[(s.heap.push {cls:=.type "range",data:=.fields #[.int lo t,.int hi u,.int 1 v]}).objs.size],_,_,H,rfl,
  I1.kept (t':=tk) fun b o e=>uY _ e,ziv _ lo (hi-lo).toNat,?_,fun b hb=>?_,q⟩
 ·have e1:lo+((0:Nat):Int)*1=lo:=by simp
  have e2:(((hi-lo).toNat:Nat):Int)-((0:Nat):Int)=Builtin.Range.rangeSize lo hi 1:=by rw[rangeSize_one];split<;>lia
  show IsRangeIter _ _ (lo+((0:Nat):Int)*1) ((((hi-lo).toNat:Nat):Int)-((0:Nat):Int)) 1
  rw[e1,e2]
  exact tD _ rfl
 ·have e:b=(s.heap.push {cls:=.type "range",data:=.fields #[.int lo t,.int hi u,.int 1 v]}).objs.size:=by simpa using hb
  subst e
  exact I1.fpOk (yO _) (I1.hok.fresh (yO _))
inductive i_iRng1(R:It->Hp->Prop)(vs:List V)(H1:Hp):Prop
 |mk (j:Int) (_:vs=[.int j]) (_:-(2 ^ 62)<=j) (_:j<2 ^ 62) (_:R (Itr 0 j.toNat) H1)
def znS(ta:TA):TI:=fun σ H R=>ta σ H fun vs H1=>i_iRng1 R vs H1
inductive i_iRng2(R:It->Hp->Prop)(vs:List V)(H1:Hp):Prop
 |mk (i j:Int) (_:vs=[.int i,.int j]) (_:(-(2 ^ 62)<=i/\i<2 ^ 62/\-(2 ^ 62)<=j/\j<2 ^ 62)) (_:R (Itr i (j-i).toNat) H1)
def znT(ta:TA):TI:=fun σ H R=>ta σ H fun vs H1=>i_iRng2 R vs H1
theorem zah{a:Expr}{ta:TA}{p pos:Pos}(hg:Gl X "range")(hm:X.mg "range"=none)(ha:PA X [a] ta)(hs:tJ [a] X.env=[(false,eval a X.env)]:=by rfl):PI X tg (.Call (.Name "range" p) [a] [] pos) (znS ta):=by
 intro zp s σ H R I h
 refine Call_ (zeZ I hg hm boot_range (PyProof.Rows.callWith_type1 (thn (ha pos zp s σ H _ I h) fun us s1 ⟨vs,H1,I1,r1,q1⟩=>?_) hs rfl))
 obtain⟨j,e,q1,q2,q⟩:=q1
 subst e
 cases r1 with
 |cons r rr=>
  cases rr
  obtain⟨t,rfl⟩:=r
  exact call_range_1 (zhM I1 (by lia) (by lia) q1 q2 (by simpa using q))
theorem zbs{a b:Expr}{ta:TA}{p pos:Pos}(hg:Gl X "range")(hm:X.mg "range"=none)(ha:PA X [a,b] ta)(hs:tJ [a,b] X.env=[(false,eval a X.env),(false,eval b X.env)]:=by rfl)(hs2:tJ [b] X.env=[(false,eval b X.env)]:=by rfl):
  PI X tg (.Call (.Name "range" p) [a,b] [] pos) (znT ta):=by
 intro zp s σ H R I h
 refine Call_ (zeZ I hg hm boot_range (PyProof.Rows.callWith_type1 (thn (ha pos zp s σ H _ I h) fun us s1 ⟨vs,H1,I1,r1,q1⟩=>?_) (by rw[hs,hs2]) (by rw[hs2];rfl)))
 obtain⟨i,j,e,⟨q1,q2,q3,q4⟩,q⟩:=q1
 subst e
 cases r1 with
 |cons r rr=>
  cases rr with
  |cons r' rr=>
   cases rr
   obtain⟨t,rfl⟩:=r
   obtain⟨t',rfl⟩:=r'
   exact call_range_2 (zhM I1 q1 q2 q3 q4 q)
def tFor(wi:TI)(g:TG)(tb:TS):TS:=fun D σ H=>wi σ H fun J H1=>∃W:Nat->Nat->St->Hp->Prop,(∃m,W 0 m σ H1)/\∀i m σ H,W i m σ H->
 (J.stop i H/\D.nx σ H)\/(J.go i H/\∃N:St->Hp->Prop,(∀σ' H',N σ' H'->∃m',m'<m/\W (i+1) m' σ' H')/\∀x H',J.yld i H x H'->g x σ H' fun σ2 H2=>tb {D with nx:=N,ct:=N,bk:=D.nx} σ2 H2)
noncomputable def zge(fp:List Addr)(h:Heap):List (Addr×Obj):=fp.filterMap fun b=>(h.get? b).map fun o=>(b,o)
theorem zbO{fp:List Addr}{h:Heap}{b:Addr}{o:Obj}(hb:b∈fp)(e:h.get? b=some o):(b,o)∈zge fp h:=uP.mpr ⟨b,hb,by rw[e];rfl⟩
theorem zjk{fp:List Addr}{h:Heap}{p:Addr×Obj}(hp:p∈zge fp h):p.1∈fp/\h.get? p.1=some p.2:=by
 obtain⟨b,hb,e⟩:=uP.mp hp
 cases q:h.get? b with
 |none=>rw[q] at e;cases e
 |some o=>
  rw[q] at e
  have e':(b,o)=p:=Option.some.inj e
  subst e'
  exact⟨hb,q⟩
theorem Inv.pinned{zp:List (Addr×Obj)}{σ:St}{H:Hp}{s:Shared}{fp:List Addr}(I:Inv X zp σ H s)(hf:∀b∈fp,FpOk X zp H b)(ho:∀b∈fp,∃o,s.heap.get? b=some o/\∀v,o.data≠.cell v):Inv X (zp++zge fp s.heap) σ H s:=
 I.pins_of fun p hp=>(yU.mp hp).elim (fun z=>I.pin p (xM _ z)) fun z=>by
  obtain⟨hb,e⟩:=zjk z
  obtain⟨f0,f1,f2,_⟩:=hf p.1 hb
  obtain⟨o,e',d⟩:=ho p.1 hb
  rw[e] at e';cases e'
  exact⟨e,f0,f1,f2,d⟩
theorem Inv.unpinned{zp pl:List (Addr×Obj)}{σ:St}{H:Hp}{s:Shared}(I:Inv X (zp++pl) σ H s):Inv X zp σ H s:=I.pins_of fun p hp=>I.pin p (xM _ (wZ _ hp))
theorem zaL{iter:Expr}{body:List Stmt}{wi:TI}{g:TG}{tb:TS}{pos:Pos}(hp:PassesOwn (model X.prog X.w) X.A X.env X.xe)(hc:X.calm=true)(hi:PI X tg iter wi)(hg:PG X tg g)(hb:PSs X body tb)
  (hs:∀x,foldedSetIterable iter X.env x=pure x:=by intro _;rfl):PS X (.For tg iter body [] pos) (tFor wi g tb):=by
 intro zp s σ H D I h
 refine wpAny_For (thn (hi zp s σ H _ I h) fun v s1 h1=>thn h1 fun itv s2 h2=>?_) hs
 obtain⟨it,fp,tn,J,H2,e,I2,T,st2,f2,W,⟨m0,w0⟩,turn⟩:=h2
 subst e
 have stat:∀{H':Hp},(∀b∈fp,H' b=none)->∀b∈fp,FpOk X zp H' b:=fun hn b hb=>⟨hn b hb,(f2 b hb).2⟩
 refine codeAny_forLoop_any (fun n s'=>∃i σ' H',Inv X zp σ' H' s'/\tn i s'.heap/\(∀b∈fp,H' b=none)/\W i n σ' H') ?_ m0 ⟨0,σ,H2,I2,st2,fun b hb=>(f2 b hb).1,w0⟩
 rintro n s3 ⟨i,σ3,H3,I3,st3,fr3,w3⟩
 rcases turn i n σ3 H3 w3 with⟨stop,qn⟩|⟨go,N,hN,step⟩
 ·refine wpAny_passesOwn hp (thn (T.done X rfl rfl rfl hc i zp s3 σ3 H3 X.xe I3 (stat fr3) st3 stop) fun r s4 ⟨hr,I4⟩=>?_)
  subst hr
  exact wpAny_execs_nil ⟨σ3,H3,I4,qn⟩
 ·refine wpAny_passesOwn hp (thn (T.item X rfl rfl rfl hc i zp s3 σ3 H3 X.xe I3 (stat fr3) st3 go) fun r s4 ⟨u,hr,h4⟩=>?_)
  subst hr
  refine wpAny_passesOwn hp (thn h4 fun _ s5 ⟨x,H5,I5,r5,y5,st5,fr5⟩=>?_)
  have I5':=I5.pinned (stat fr5) (T.obj _ _ st5)
  refine wpAny_passesOwn hp (thn (hg _ s5 σ3 H5 x u _ I5' r5 (step x H5 y5)) fun _ s6 ⟨σ6,H6,I6,q6⟩=>?_)
  refine wpAny_passesOwn hp (thn (hb _ s6 σ6 H6 _ I6 q6) fun f s7 q7=>?_)
  have again:∀{σ7:St}{H7:Hp},Inv X (zp++zge fp s5.heap) σ7 H7 s7->N σ7 H7->∃m,m<n/\∃i σ' H',Inv X zp σ' H' s7/\tn i s7.heap/\(∀b∈fp,H' b=none)/\W i m σ' H':=fun {σ7 H7} I7 n7=>by
   obtain⟨m',hm,w7⟩:=hN σ7 H7 n7
   refine⟨m',hm,i+1,σ7,H7,I7.unpinned,T.keep _ _ _ st5 fun b hb o e=>(I7.pin (b,o) (xM _ (xM _ (zbO hb e)))).1,fun b hb=>?_,w7⟩
   obtain⟨o,e,d⟩:=T.obj _ _ st5 b hb
   exact (I7.pin (b,o) (xM _ (xM _ (zbO hb e)))).2.1
  cases f with
  |next=>obtain⟨σ7,H7,I7,n7⟩:=q7;exact again I7 n7
  |cont=>obtain⟨σ7,H7,I7,n7⟩:=q7;exact again I7 n7
  |brk=>obtain⟨σ7,H7,I7,q7⟩:=q7;exact⟨σ7,H7,I7.unpinned,q7⟩
  |ret v=>obtain⟨x7,σ7,H7,I7,r7,q7⟩:=q7;exact⟨x7,σ7,H7,I7.unpinned,r7,q7⟩
end
theorem zdG{K:tU}{a:Addr}{xs:List V}{g:TG}{tb:TS}{D:Ends}{σ:St}{H:Hp}(Pv:Nat->St->Hp->Prop)(h0:Pv 0 σ H)(hl:∀i σ H,i<=xs.length->Pv i σ H->SqL K H a xs)
  (hs:∀i x σ H,xs[i]?=some x->Pv i σ H->g x σ H fun σ2 H2=>tb {D with nx:=Pv (i+1),ct:=Pv (i+1),bk:=D.nx} σ2 H2) (hd:∀σ H,Pv xs.length σ H->D.nx σ H):
  ∃W:Nat->Nat->St->Hp->Prop,(∃m,W 0 m σ H)/\∀i m σ H,W i m σ H->
   ((Itl K a).stop i H/\D.nx σ H)\/((Itl K a).go i H/\∃N:St->Hp->Prop,(∀σ' H',N σ' H'->∃m',m'<m/\W (i+1) m' σ' H')/\∀x H',(Itl K a).yld i H x H'->g x σ H' fun σ2 H2=>tb {D with nx:=N,ct:=N,bk:=D.nx} σ2 H2):=by
 refine⟨fun i m σ H=>m=xs.length-i/\i<=xs.length/\Pv i σ H,⟨xs.length,by simp,yS _,h0⟩,?_⟩
 rintro i m σ H ⟨rfl,hi,p⟩
 have q:=hl i σ H hi p
 by_cases hlt:i<xs.length
 ·refine .inr ⟨⟨xs,xs[i],q,by simp[hlt]⟩,Pv (i+1),fun σ' H' p'=>⟨xs.length-(i+1),by lia,rfl,hlt,p'⟩,fun x H' y=>?_⟩
  obtain⟨e,y⟩:=y
  subst e
  exact hs i x σ _ (y xs q) p
 ·have e:i=xs.length:=by lia
  subst e
  exact .inl ⟨⟨xs,q,yO _⟩,hd σ H p⟩
theorem zdR{lo:Int}{n:Nat}{g:TG}{tb:TS}{D:Ends}{σ:St}{H:Hp}(Pv:Nat->St->Hp->Prop)(h0:Pv 0 σ H)
  (hs:∀i σ H,i<n->Pv i σ H->g (.int (lo+i)) σ H fun σ2 H2=>tb {D with nx:=Pv (i+1),ct:=Pv (i+1),bk:=D.nx} σ2 H2) (hd:∀σ H,Pv n σ H->D.nx σ H):
  ∃W:Nat->Nat->St->Hp->Prop,(∃m,W 0 m σ H)/\∀i m σ H,W i m σ H->
   ((Itr lo n).stop i H/\D.nx σ H)\/((Itr lo n).go i H/\∃N:St->Hp->Prop,(∀σ' H',N σ' H'->∃m',m'<m/\W (i+1) m' σ' H')/\∀x H',(Itr lo n).yld i H x H'->g x σ H' fun σ2 H2=>tb {D with nx:=N,ct:=N,bk:=D.nx} σ2 H2):=by
 refine⟨fun i m σ H=>m=n-i/\i<=n/\Pv i σ H,⟨n,by simp,yS _,h0⟩,?_⟩
 rintro i m σ H ⟨rfl,hi,p⟩
 by_cases hlt:i<n
 ·refine .inr ⟨hlt,Pv (i+1),fun σ' H' p'=>⟨n-(i+1),by lia,rfl,hlt,p'⟩,fun x H' y=>?_⟩
  obtain⟨e,y⟩:=y
  subst e y
  exact hs i σ _ hlt p
 ·have e:i=n:=by lia
  subst e
  exact .inl ⟨yO _,hd σ H p⟩
abbrev R2:=V->V->Hp->VK->Prop
def OpR(X:Cx)(f:Value->Value->Sem Value)(r:R2):Prop:=
 ∀(zp:List (Addr×Obj))(s:Shared)(σ:St)(H:Hp)(x y:V)(v u:Value)(Q:VK),Inv X zp σ H s->RelV x v->RelV y u->r x y H Q->
  wpAny (model X.prog X.w) X.A (f v u) (EP X zp σ Q) X.xe s
def UnR(X:Cx)(f:Value->Sem Value)(r:V->Hp->VK->Prop):Prop:=
 ∀(zp:List (Addr×Obj))(s:Shared)(σ:St)(H:Hp)(x:V)(v:Value)(Q:VK),Inv X zp σ H s->RelV x v->r x H Q->
  wpAny (model X.prog X.w) X.A (f v) (EP X zp σ Q) X.xe s
def zaQ(X:Cx)(f:Value)(r:List V->Hp->VK->Prop):Prop:=
 ∀(zp:List (Addr×Obj))(s:Shared)(σ:St)(H:Hp)(xs:List V)(us:List Value)(Q:VK),Inv X zp σ H s->Vals xs us->r xs H Q->
  wpAny (model X.prog X.w) X.A (call f us) (EP X zp σ Q) X.xe s
def tOp(r:R2)(ta tb:TE):TE:=fun σ H Q=>ta σ H fun x H1=>tb σ H1 fun y H2=>r x y H2 Q
def tUn(r:V->Hp->VK->Prop)(ta:TE):TE:=fun σ H Q=>ta σ H fun x H1=>r x H1 Q
inductive rI(C:Int->Int->Prop)(g:Int->Int->V)(x y:V)(H:Hp)(Q:VK):Prop
 |mk (i j:_) (_:x=.int i) (_:y=.int j) (_:C i j) (_:Q (g i j) H)
inductive rI0(g:Int->Int->V)(x y:V)(H:Hp)(Q:VK):Prop
 |mk (i j:_) (_:x=.int i) (_:y=.int j) (_:Q (g i j) H)
inductive rU(g:Int->V)(x:V)(H:Hp)(Q:VK):Prop
 |mk (i:_) (_:x=.int i) (_:Q (g i) H)
section
variable{X:Cx}{a b c:Expr}{ta tb tc:TE}{pos:Pos}
theorem binT(ha:PE X a ta)(hb:PE X b tb){zp:List (Addr×Obj)}{s:Shared}{σ:St}{H:Hp}{R:V->V->Hp->Prop}(I:Inv X zp σ H s)
  (h:ta σ H fun x H1=>tb σ H1 fun y H2=>R x y H2) {Q:Value->Shared->Prop}{f:Value->Value->Sem Value}
  (hf:∀v u s2 x y H2,Inv X zp σ H2 s2->RelV x v->RelV y u->R x y H2->wpAny (model X.prog X.w) X.A (f v u) Q X.xe s2):
  wpAny (model X.prog X.w) X.A (eval a X.env) (fun v s₁=>wpAny (model X.prog X.w) X.A (eval b X.env) (fun u s₂=>wpAny (model X.prog X.w) X.A (f v u) Q X.xe s₂) X.xe s₁) X.xe s:=by
 refine thn (ha zp s σ H _ I h) fun v s1 ⟨x,H1,I1,r1,q1⟩=>?_
 refine thn (hb zp s1 σ H1 _ I1 q1) fun u s2 ⟨y,H2,I2,r2,q2⟩=>?_
 exact hf v u s2 x y H2 I2 r1 r2 q2
theorem zu{op:Operator}{r:R2}(ho:OpR X (binaryOp op) r)(ha:PE X a ta)(hb:PE X b tb):PE X (.BinOp a op b pos) (tOp r ta tb):=by
 intro zp s σ H Q I h
 exact wpAny_BinOp (binT ha hb I h fun v u s2 x y H2 I2 rx ry q=>ho zp s2 σ H2 x y v u Q I2 rx ry q)
theorem zeJ{op:UnaryOp}{r:V->Hp->VK->Prop}(ho:UnR X (unaryOp op) r)(ha:PE X a ta):PE X (.UnaryOp op a pos) (tUn r ta):=by
 intro zp s σ H Q I h
 exact UnaryOp_ (thn (ha zp s σ H _ I h) fun v s1 ⟨x,H1,I1,r1,q1⟩=>ho zp s1 σ H1 x v Q I1 r1 q1)
theorem opI{f:Value->Value->Sem Value}{C:Int->Int->Prop}{g:Int->Int->Int}
  (rule:∀(i j:Int)(t u:Tok)(s:Shared)(Q:Value->Shared->Prop)(E:Value->Shared->Prop),C i j->Q (.int (g i j) s.toks) {s with toks:=s.toks+1}->wpAny (model X.prog X.w) X.A (f (.int i t) (.int j u)) Q E s):
  OpR X f (rI C fun i j=>.int (g i j)):=by
 intro zp s σ H x y v u Q I rx ry h
 obtain⟨i,j,rfl,rfl,hc,q⟩:=h
 obtain⟨t,rfl⟩:=rx
 obtain⟨t',rfl⟩:=ry
 exact rule i j t t' s _ _ hc ⟨.int (g i j),H,I.tok _,⟨_,rfl⟩,q⟩
theorem opI0{f:Value->Value->Sem Value}{g:Int->Int->Int}
  (rule:∀(i j:Int)(t u:Tok)(s:Shared)(Q:Value->Shared->Prop)(E:Value->Shared->Prop),Q (.int (g i j) s.toks) {s with toks:=s.toks+1}->wpAny (model X.prog X.w) X.A (f (.int i t) (.int j u)) Q E s):
  OpR X f (rI0 fun i j=>.int (g i j)):=by
 intro zp s σ H x y v u Q I rx ry h
 obtain⟨i,j,rfl,rfl,q⟩:=h
 obtain⟨t,rfl⟩:=rx
 obtain⟨t',rfl⟩:=ry
 exact rule i j t t' s _ _ ⟨.int (g i j),H,I.tok _,⟨_,rfl⟩,q⟩
theorem opB0{f:Value->Value->Sem Value}{g:Int->Int->Bool}
  (rule:∀(i j:Int)(t u:Tok)(s:Shared)(Q:Value->Shared->Prop)(E:Value->Shared->Prop),Q (.bool (g i j)) s->wpAny (model X.prog X.w) X.A (f (.int i t) (.int j u)) Q E s):
  OpR X f (rI0 fun i j=>.bl (g i j)):=by
 intro zp s σ H x y v u Q I rx ry h
 obtain⟨i,j,rfl,rfl,q⟩:=h
 obtain⟨t,rfl⟩:=rx
 obtain⟨t',rfl⟩:=ry
 exact rule i j t t' s _ _ ⟨.bl (g i j),H,I,rfl,q⟩
def CPow(i j:Int):Prop:=0<=j/\j<=1000000/\i.natAbs<2 ^ 64
def CMul(i j:Int):Prop:=(-(2 ^ 64)<i/\i<2 ^ 64)\/(-(2 ^ 64)<j/\j<2 ^ 64)
theorem CMul.ok{i j:Int}(h:CMul i j):IntMulOk i j:=by
 rcases h with⟨h1,h2⟩|⟨h1,h2⟩
 ·exact .of_left (intBits_le_64 h1 h2)
 ·exact .of_right (intBits_le_64 h1 h2)
theorem Zj:OpR X (binaryOp .Add) (rI0 fun i j=>.int (i+j)):=opI0 fun _ _ _ _ _ _ _ q=>add_int q
theorem Zu:OpR X (binaryOp .Sub) (rI0 fun i j=>.int (i-j)):=opI0 fun _ _ _ _ _ _ _ q=>sub_int q
theorem zdS:OpR X (binaryOp .Mult) (rI CMul fun i j=>.int (i*j)):=opI fun _ _ _ _ _ _ _ hc q=>mul_int q hc.ok
theorem zb0:OpR X (binaryOp .Mod) (rI (fun _ j=>0<j) fun i j=>.int (i % j)):=opI fun i j _ _ _ _ _ hc q=>by
 have h1:(0:Int)<j:=hc
 exact mod_int' (by lia) (by rw[Int.fmod_eq_emod_of_nonneg i (by lia)];exact q)
theorem zcr:OpR X (binaryOp .Pow) (rI CPow fun i j=>.int (i ^ j.toNat)):=opI fun _ _ _ _ _ _ _ hc q=>pow_int_small hc.1 hc.2.1 hc.2.2 q
theorem zdT:OpR X (inplaceOp .Add) (rI0 fun i j=>.int (i+j)):=opI0 fun _ _ _ _ _ _ _ q=>iadd_int q
theorem unI{f:Value->Sem Value}{g:Int->Int}
  (rule:∀(i:Int)(t:Tok)(s:Shared)(Q:Value->Shared->Prop)(E:Value->Shared->Prop),Q (.int (g i) s.toks) {s with toks:=s.toks+1}->wpAny (model X.prog X.w) X.A (f (.int i t)) Q E s):
  UnR X f (rU fun i=>.int (g i)):=by
 intro zp s σ H x v Q I rx h
 obtain⟨i,rfl,q⟩:=h
 obtain⟨t,rfl⟩:=rx
 exact rule i t s _ _ ⟨.int (g i),H,I.tok _,⟨_,rfl⟩,q⟩
theorem zdh:UnR X (unaryOp .USub) (rU fun i=>.int (-i)):=unI fun _ _ _ _ _ q=>neg_int q
end
noncomputable def scal:V->V->Bool
 |.non,.non=>true|.non,.int _=>true|.int _,.non=>true|.non,.bl _=>true|.bl _,.non=>true|.non,.str _=>true|.str _,.non=>true
 |.int _,.int _=>true|.bl _,.bl _=>true|.str _,.str _=>true|.byt _,.byt _=>true
 |.int _,.str _=>true|.str _,.int _=>true|.bl _,.str _=>true|.str _,.bl _=>true
 |_,_=>false
inductive rEq(x y:V)(H:Hp)(Q:VK):Prop
 |mk (_:scal x y=true) (_:Q (.bl (decide (x=y))) H)
inductive rNe(x y:V)(H:Hp)(Q:VK):Prop
 |mk (_:scal x y=true) (_:Q (.bl (!decide (x=y))) H)
theorem zjl{i j:Int}:decide (V.int i=V.int j)=(i==j):=by
 rw[xF]
 simp
theorem zmg{i j:Bool}:decide (V.bl i=V.bl j)=(i==j):=by
 rw[xF]
 simp
theorem zfo{i j:Str}:decide (V.str i=V.str j)=(i==j):=by
 rw[xF]
 simp
theorem zjm{i j:Array UInt8}:decide (V.byt i=V.byt j)=(i.toList==j.toList):=by
 rw[xF]
 cases i
 cases j
 simp
section
variable{X:Cx}{a b c:Expr}{ta tb tc:TE}{pos:Pos}
theorem Zf{zp:List (Addr×Obj)}{σ:St}{H:Hp}{s:Shared}{Q:VK}{k k':Bool}(I:Inv X zp σ H s)(q:Q (.bl k) H)(e:k=k'):EP X zp σ Q (.bool k') s:=by
 subst e
 exact⟨.bl k,H,I,rfl,q⟩
theorem zY:OpR X (tM .Eq) rEq:=by
 intro zp s σ H x y v u Q I rx ry h
 obtain⟨hs,q⟩:=h
 cases x with
 |non=>
  cases rx
  cases y with
  |non=>cases ry;exact PySem.EqNone.eq_none_none (Zf I q (by simp))
  |bl j=>cases ry;exact PySem.EqNone.eq_none_bool (Zf I q (by simp))
  |int j=>obtain⟨t',rfl⟩:=ry;exact PySem.EqNone.eq_none_int (Zf I q (by simp))
  |str j=>obtain⟨t',rfl⟩:=ry;exact PySem.EqNone.eq_none_str (Zf I q (by simp))
  |_=>exact absurd (show false=true from hs) yT
 |bl i=>
  cases rx
  cases y with
  |non=>cases ry;exact PySem.EqNone.eq_bool_none (Zf I q (by simp))
  |bl j=>cases ry;exact eq_bool (Zf I q zmg)
  |str j=>obtain⟨t',rfl⟩:=ry;exact PySem.EqMixed.eq_bool_str (Zf I q (by simp))
  |_=>exact absurd (show false=true from hs) yT
 |int i=>
  obtain⟨t,rfl⟩:=rx
  cases y with
  |non=>cases ry;exact PySem.EqNone.eq_int_none (Zf I q (by simp))
  |int j=>obtain⟨t',rfl⟩:=ry;exact eq_int (Zf I q zjl)
  |str j=>obtain⟨t',rfl⟩:=ry;exact PySem.EqMixed.eq_int_str (Zf I q (by simp))
  |_=>exact absurd (show false=true from hs) yT
 |str i=>
  obtain⟨t,rfl⟩:=rx
  cases y with
  |non=>cases ry;exact PySem.EqNone.eq_str_none (Zf I q (by simp))
  |bl j=>cases ry;exact PySem.EqMixed.eq_str_bool (Zf I q (by simp))
  |int j=>obtain⟨t',rfl⟩:=ry;exact PySem.EqMixed.eq_str_int (Zf I q (by simp))
  |str j=>obtain⟨t',rfl⟩:=ry;exact eq_str (Zf I q zfo)
  |_=>exact absurd (show false=true from hs) yT
 |byt i=>
  obtain⟨t,rfl⟩:=rx
  cases y with
  |byt j=>obtain⟨t',rfl⟩:=ry;exact PySem.W.eq_bytes (Zf I q zjm)
  |_=>exact absurd (show false=true from hs) yT
 |_=>cases y<;>exact absurd (show false=true from hs) yT
theorem zaz:OpR X (tM .NotEq) rNe:=by
 intro zp s σ H x y v u Q I rx ry h
 obtain⟨hs,q⟩:=h
 cases x with
 |non=>
  cases rx
  cases y with
  |non=>cases ry;exact PySem.EqNone.ne_none_none (Zf I q (by simp))
  |bl j=>cases ry;exact PySem.EqNone.ne_none_bool (Zf I q (by simp))
  |int j=>obtain⟨t',rfl⟩:=ry;exact PySem.EqNone.ne_none_int (Zf I q (by simp))
  |str j=>obtain⟨t',rfl⟩:=ry;exact PySem.EqNone.ne_none_str (Zf I q (by simp))
  |_=>exact absurd (show false=true from hs) yT
 |bl i=>
  cases rx
  cases y with
  |non=>cases ry;exact PySem.EqNone.ne_bool_none (Zf I q (by simp))
  |bl j=>cases ry;exact ne_bool (Zf I q (congrArg not zmg))
  |str j=>obtain⟨t',rfl⟩:=ry;exact PySem.EqMixed.ne_bool_str (Zf I q (by simp))
  |_=>exact absurd (show false=true from hs) yT
 |int i=>
  obtain⟨t,rfl⟩:=rx
  cases y with
  |non=>cases ry;exact PySem.EqNone.ne_int_none (Zf I q (by simp))
  |int j=>obtain⟨t',rfl⟩:=ry;exact ne_int (Zf I q (congrArg not zjl))
  |str j=>obtain⟨t',rfl⟩:=ry;exact PySem.EqMixed.ne_int_str (Zf I q (by simp))
  |_=>exact absurd (show false=true from hs) yT
 |str i=>
  obtain⟨t,rfl⟩:=rx
  cases y with
  |non=>cases ry;exact PySem.EqNone.ne_str_none (Zf I q (by simp))
  |bl j=>cases ry;exact PySem.EqMixed.ne_str_bool (Zf I q (by simp))
  |int j=>obtain⟨t',rfl⟩:=ry;exact PySem.EqMixed.ne_str_int (Zf I q (by simp))
  |str j=>obtain⟨t',rfl⟩:=ry;exact ne_str (Zf I q (congrArg not zfo))
  |_=>exact absurd (show false=true from hs) yT
 |byt i=>
  obtain⟨t,rfl⟩:=rx
  cases y with
  |byt j=>obtain⟨t',rfl⟩:=ry;exact PySem.W.ne_bytes (Zf I q (congrArg not zjm))
  |_=>exact absurd (show false=true from hs) yT
 |_=>cases y<;>exact absurd (show false=true from hs) yT
theorem zgf:OpR X (tM .Lt) (rI0 fun i j=>.bl (decide (i<j))):=opB0 fun _ _ _ _ _ _ _ q=>lt_int q
theorem ziw:OpR X (tM .LtE) (rI0 fun i j=>.bl (decide (i<=j))):=opB0 fun _ _ _ _ _ _ _ q=>le_int q
theorem zcs:OpR X (tM .Gt) (rI0 fun i j=>.bl (decide (j<i))):=opB0 fun _ _ _ _ _ _ _ q=>gt_int q
theorem zoM:OpR X (tM .GtE) (rI0 fun i j=>.bl (decide (j<=i))):=opB0 fun _ _ _ _ _ _ _ q=>ge_int q
theorem zct:OpR X (tM .In) (fun x y H Q=>∃i j,x=.str i/\y=.str j/\Q (.bl (!(Builtin.Str.occurrences j i 0 j.length 1).isEmpty)) H):=by
 intro zp s σ H x y v u Q I rx ry h
 obtain⟨i,j,rfl,rfl,q⟩:=h
 obtain⟨t,rfl⟩:=rx
 obtain⟨t',rfl⟩:=ry
 exact in_str (Zf I q rfl)
theorem zdi:OpR X (tM .NotIn) (fun x y H Q=>∃i j,x=.str i/\y=.str j/\Q (.bl (!(!(Builtin.Str.occurrences j i 0 j.length 1).isEmpty))) H):=by
 intro zp s σ H x y v u Q I rx ry h
 obtain⟨i,j,rfl,rfl,q⟩:=h
 obtain⟨t,rfl⟩:=rx
 obtain⟨t',rfl⟩:=ry
 exact notIn_str (Zf I q rfl)
theorem OpR.or{f:Value->Value->Sem Value}{r r':R2}(h:OpR X f r)(h':OpR X f r'):OpR X f (fun x y H Q=>r x y H Q\/r' x y H Q):=by
 intro zp s σ H x y v u Q I rx ry q
 rcases q with q|q
 ·exact h zp s σ H x y v u Q I rx ry q
 ·exact h' zp s σ H x y v u Q I rx ry q
theorem nomark(b:Expr){op:CmpOp}(h:op≠.In:=by decide)(h2:op≠.NotIn:=by decide):behindInMarks op b=false:=by
 have e1:(op==CmpOp.In)=false:=by cases op<;>first|rfl|exact absurd rfl h
 have e2:(op==CmpOp.NotIn)=false:=by cases op<;>first|rfl|exact absurd rfl h2
 cases b<;>simp[behindInMarks,e1,e2]
theorem zJ{op:CmpOp}{r:R2}(ho:OpR X (tM op) r)(ha:PE X a ta)(hb:PE X b tb)(hm:behindInMarks op b=false):PE X (.Compare a [op] [b] pos) (tOp r ta tb):=by
 intro zp s σ H Q I h
 exact wpAny_Compare1 (binT ha hb I h fun v u s2 x y H2 I2 rx ry q=>ho zp s2 σ H2 x y v u Q I2 rx ry q) hm
inductive i_tTest(Q:Bool->Hp->Prop)(x:V)(H':Hp):Prop
 |mk (k:_) (_:x=.bl k) (_:Q k H')
def zk2(t:TE):TT:=fun σ H Q=>t σ H fun x H'=>i_tTest Q x H'
theorem zk{op:CmpOp}{r:R2}(ho:OpR X (tM op) r)(ha:PE X a ta)(hb:PE X b tb)(hm:behindInMarks op b=false):PT X (.Compare a [op] [b] pos) (zk2 (tOp r ta tb)):=by
 intro zp s σ H Q I h
 refine wpAny_isTrue_Compare1 (thn (ha zp s σ H _ I h) fun v s1 ⟨x,H1,I1,r1,q1⟩=>thn (hb zp s1 σ H1 _ I1 q1) fun u s2 ⟨y,H2,I2,r2,q2⟩=>
  thn (ho zp s2 σ H2 x y v u _ I2 r1 r2 q2) fun c s3 ⟨z,H3,I3,r3,k,e,q3⟩=>?_) hm
 subst e
 cases r3
 exact wpAny_truthy_bool ⟨H3,I3,q3⟩
inductive i_tChain(r':R2)(tc:TE)(σ:St)(Q:VK)(y z:V)(H3:Hp):Prop
 |mk (k:_) (_:z=.bl k) (_:(if k=true then tc σ H3 fun w' H4=>r' y w' H4 Q else Q (.bl false) H3))
def zjn(r r':R2)(ta tb tc:TE):TE:=fun σ H Q=>ta σ H fun x H1=>tb σ H1 fun y H2=>r x y H2 fun z H3=>i_tChain r' tc σ Q y z H3
theorem zk3{op op':CmpOp}{r r':R2}(ho:OpR X (tM op) r)(ho':OpR X (tM op') r')(ha:PE X a ta)(hb:PE X b tb)(hc:PE X c tc)
  (hm:lastMarks [op,op'] [b,c]=false:=by with_unfolding_all rfl):PE X (.Compare a [op,op'] [b,c] pos) (zjn r r' ta tb tc):=by
 intro zp s σ H Q I h
 refine Compare_chain (thn (ha zp s σ H _ I h) fun v s1 ⟨x,H1,I1,r1,q1⟩=>chain_link (thn (hb zp s1 σ H1 _ I1 q1) fun u s2 ⟨y,H2,I2,r2,q2⟩=>
  thn (ho zp s2 σ H2 x y v u _ I2 r1 r2 q2) fun d s3 ⟨z,H3,I3,r3,k,e,q3⟩=>?_)) hm
 subst e
 cases r3
 refine wpAny_truthy_bool ?_
 cases k with
 |false=>exact ite_ff ⟨.bl false,H3,I3,rfl,q3⟩
 |true=>exact ite_tt (chain_last (thn (hc zp s3 σ H3 _ I3 q3) fun w' s4 ⟨z',H4,I4,r4,q4⟩=>ho' zp s4 σ H4 y z' u w' Q I4 r2 r4 q4))
theorem zdH{op op':CmpOp}{r r':R2}(ho:OpR X (tM op) r)(ho':OpR X (tM op') r')(ha:PE X a ta)(hb:PE X b tb)(hc:PE X c tc)
  (hm:lastMarks [op,op'] [b,c]=false:=by with_unfolding_all rfl):PT X (.Compare a [op,op'] [b,c] pos) (zk2 (zjn r r' ta tb tc)):=by
 intro zp s σ H Q I h
 refine isTrue_chain (thn (ha zp s σ H _ I h) fun v s1 ⟨x,H1,I1,r1,q1⟩=>test_link (thn (hb zp s1 σ H1 _ I1 q1) fun u s2 ⟨y,H2,I2,r2,q2⟩=>
  thn (ho zp s2 σ H2 x y v u _ I2 r1 r2 q2) fun d s3 ⟨z,H3,I3,r3,k,e,q3⟩=>?_)) hm
 subst e
 cases r3
 refine wpAny_truthy_bool ?_
 cases k with
 |false=>
  obtain⟨k',e',q'⟩:=q3
  cases e'
  exact ite_ff ⟨H3,I3,q'⟩
 |true=>
  refine ite_tt (test_last (thn (hc zp s3 σ H3 _ I3 q3) fun w' s4 ⟨z',H4,I4,r4,q4⟩=>thn (ho' zp s4 σ H4 y z' u w' _ I4 r2 r4 q4) fun d' s5 ⟨z2,H5,I5,r5,k2,e2,q5⟩=>?_))
  subst e2
  cases r5
  exact wpAny_truthy_bool ⟨H5,I5,q5⟩
theorem zgg:(tH:Nat)<2 ^ 63:=by rw[sizeLine_eq];decide
theorem zx:OpR X (binaryOp .Add) (fun x y H Q=>∃i j,x=.str i/\y=.str j/\i.length+j.length<=tH/\Q (.str (i++j)) H):=by
 intro zp s σ H x y v u Q I rx ry h
 obtain⟨i,j,rfl,rfl,hz,q⟩:=h
 obtain⟨t,rfl⟩:=rx
 obtain⟨t',rfl⟩:=ry
 exact add_str (fun t' tk=>⟨.str (i++j),H,I.tok _,⟨_,rfl⟩,q⟩) hz
theorem zb5{x:V}{us:List Value}(r:Vals [x] us):∃u,us=[u]/\RelV x u:=by
 cases r with
 |cons r1 r2=>cases r2;exact⟨_,rfl,r1⟩
theorem zk4{x y:V}{us:List Value}(r:Vals [x,y] us):∃u w',us=[u,w']/\RelV x u/\RelV y w':=by
 cases r with
 |cons r1 r2=>
  cases r2 with
  |cons r3 r4=>cases r4;exact⟨_,_,rfl,r1,r3⟩
theorem zk5:zaQ X (.builtin "abs") (fun xs H Q=>∃i,xs=[.int i]/\Q (.int (if i<0 then -i else i)) H):=by
 intro zp s σ H xs us Q I r h
 obtain⟨i,rfl,q⟩:=h
 obtain⟨u,rfl,t,rfl⟩:=zb5 r
 exact call_abs_int fun u tk=>⟨.int (if i<0 then -i else i),H,I.tok _,⟨_,rfl⟩,q⟩
theorem zjo(hc:X.calm=true):zaQ X (.builtin "max") (fun xs H Q=>∃i j,xs=[.int i,.int j]/\Q (.int (if j > i then j else i)) H):=by
 intro zp s σ H xs us Q I r h
 obtain⟨i,j,rfl,q⟩:=h
 obtain⟨u,w',rfl,⟨t,rfl⟩,⟨t',rfl⟩⟩:=zk4 r
 refine max_two_ints (I.ok.hd hc) fun h' tk k=>⟨_,H,I.kept k,?_,q⟩
 by_cases hj:j > i
 ·rw[if_pos hj,if_pos hj];exact⟨_,rfl⟩
 ·rw[if_neg hj,if_neg hj];exact⟨_,rfl⟩
theorem zgh(hc:X.calm=true):zaQ X (.builtin "min") (fun xs H Q=>∃i j,xs=[.int i,.int j]/\Q (.int (if j<i then j else i)) H):=by
 intro zp s σ H xs us Q I r h
 obtain⟨i,j,rfl,q⟩:=h
 obtain⟨u,w',rfl,⟨t,rfl⟩,⟨t',rfl⟩⟩:=zk4 r
 refine min_two_ints (I.ok.hd hc) fun h' tk k=>⟨_,H,I.kept k,?_,q⟩
 by_cases hj:j<i
 ·rw[if_pos hj,if_pos hj];exact⟨_,rfl⟩
 ·rw[if_neg hj,if_neg hj];exact⟨_,rfl⟩
theorem zaA:zaQ X (.type "int") (fun xs H Q=>(∃i,xs=[.int i]/\Q (.int i) H)\/∃k,xs=[.bl k]/\Q (.int (if k then 1 else 0)) H):=by
 intro zp s σ H xs us Q I r h
 rcases h with⟨i,rfl,q⟩|⟨k,rfl,q⟩
 ·obtain⟨u,rfl,t,rfl⟩:=zb5 r
  exact call_int_int ⟨.int i,H,I,⟨_,rfl⟩,q⟩
 ·obtain⟨u,rfl,r1⟩:=zb5 r
  cases r1
  exact call_int_bool ⟨.int (if k then 1 else 0),H,I.tok _,⟨_,rfl⟩,q⟩
theorem zgi:zaQ X (.type "str") (fun xs H Q=>∃i,xs=[.int i]/\i.natAbs.log2<1920/\Q (.str (toString i)) H):=by
 intro zp s σ H xs us Q I r h
 obtain⟨i,rfl,hz,q⟩:=h
 obtain⟨u,rfl,t,rfl⟩:=zb5 r
 exact PySem.P.str_of_int hz ⟨.str _,H,I.tok _,⟨_,rfl⟩,q⟩
theorem zk6:zaQ X (.builtin "ord") (fun xs H Q=>∃x,xs=[.str x]/\x.length=1/\Q (.int (x.cps.getD 0 0:Nat)) H):=by
 intro zp s σ H xs us Q I r h
 obtain⟨x,rfl,hz,q⟩:=h
 obtain⟨u,rfl,t,rfl⟩:=zb5 r
 exact ord_of_one hz ⟨.int _,H,I.tok _,⟨_,rfl⟩,q⟩
def LenV(K:tU)(x:V)(H:Hp)(n:Nat):Prop:=
 match x with
 |.str y=>y.length<=tH/\n=y.length
 |.byt y=>y.size<=tH/\n=y.size
 |.ref p=>(∃xs,SqL K H p xs/\n=xs.length)\/∃xs,SqT K H p xs/\n=xs.length
 |_=>False
theorem zB:zaQ X (.builtin "len") (fun xs H Q=>∃x n,xs=[x]/\LenV X.K x H n/\Q (.int n) H):=by
 intro zp s σ H xs us Q I r h
 obtain⟨x,n,rfl,e,q⟩:=h
 obtain⟨u,rfl,rx⟩:=zb5 r
 have hl:=zgg
 have hs:tH=16777216:=sizeLine_eq
 cases x with
 |str y=>
  obtain⟨t,rfl⟩:=rx
  obtain⟨hy,e'⟩:y.length<=tH/\n=y.length:=e
  subst e'
  exact len_str (by lia) ⟨.int _,H,I.tok _,⟨_,rfl⟩,q⟩
 |byt y=>
  obtain⟨t,rfl⟩:=rx
  obtain⟨hy,e'⟩:y.size<=tH/\n=y.size:=e
  subst e'
  exact PySem.W.len_bytes (by lia) ⟨.int _,H,I.tok _,⟨_,rfl⟩,q⟩
 |ref p=>
  cases rx
  have e':(∃xs,SqL X.K H p xs/\n=xs.length)\/∃xs,SqT X.K H p xs/\n=xs.length:=e
  rcases e' with⟨xs,hx,e'⟩|⟨xs,hx,e'⟩
  ·subst e'
   obtain⟨its,r',pl,hz⟩:=I.list hx
   have hlen:=r'.length
   exact Calls.call_len_list pl.isList (by simp only[yI];lia) ⟨.int xs.length,H,I.tok _,⟨_,by simp only[yI];rw[hlen]⟩,q⟩
  ·subst e'
   obtain⟨its,r',pl,hz⟩:=I.tuple hx
   have hlen:=r'.length
   exact len_tuple pl (by simp only[yI];lia) ⟨.int xs.length,H,I.tok _,⟨_,by simp only[yI];rw[hlen]⟩,q⟩
 |_=>exact (show False from e).elim
end
structure ObjM(h:Heap)(x dx C:Addr)(mA:Str->Option Value):Prop where
 obj:h.get? x=some (instObj C dx)
 ns:h.Ns1 dx mA
 ne:dx≠x
theorem zjp{h:Heap}{dx:Addr}{mA:Str->Option Value}(n:h.Ns1 dx mA):∃od,h.get? dx=some od/\∀name,lookIn name od=some (mA name):=by
 obtain⟨o,es,ep,ho,hd,hk,_,hm⟩:=n
 refine⟨o,ho,fun name=>?_⟩
 have e:=hm name
 unfold nsFind findBy at e
 rw[←Array.find?_toList] at e
 unfold lookIn
 rw[hd]
 dsimp only
 split
 ·rename_i y q
  rw[q] at e
  exact congrArg some e
 ·rename_i q
  rw[q] at e
  have a:es.toList.any (·.refKey)=false:=by
   rw[List.any_eq_false]
   intro y hy
   obtain⟨z,t,hkey⟩:=hk y (Array.mem_toList_iff.mp hy)
   simp[DictEntry.refKey,hkey]
  have a':¬es.toList.any (·.refKey)=true:=by rw[a];exact yT
  rw[if_neg a']
  exact congrArg some e
theorem ObjM.look{h:Heap}{x dx C:Addr}{mA:Str->Option Value}(I:ObjM h x dx C mA):∃od,PySem.W.InstAt h x (instObj C dx) C (some od)/\∀name,lookIn name od=some (mA name):=
 let ⟨od,ho,hl⟩:=zjp I.ns
 ⟨od,⟨I.obj,rfl,rfl,ho⟩,hl⟩
section
variable{prog:Program}{w:World}{A:Around}{E:Value->Shared->Prop}{s:Shared}{K:tU}{x dx C f:Addr}{mA:Str->Option Value}{name:Str}{v:Value}
theorem zmG{expr:Bool}{Q:Value->Shared->Prop}(X:K.In s.heap)(I:ObjM s.heap x dx C mA)(hg:plainGet K C name=true)(hh:hasDictIn K C=true)
  (ha:findIn K (.ref C) name=some none) (hv:mA name=some v) (hv':PySem.W.handedIn v=true) (h:Q v {s with toks:=s.toks+1}):
  wpAny (model prog w) A (getAttr (.ref x) name expr) Q E s:=by
 obtain⟨od,J,hl⟩:=I.look
 exact PySem.W.get_value X J (plainGet_of hg).1 (PySem.W.findObj_own hh ha rfl (by rw[hl,hv])) hv' h
theorem zk7{pl:Sem Bool}{Q:Value×List Value->Shared->Prop}(X:K.In s.heap)(I:ObjM s.heap x dx C mA)(hg:plainGet K C name=true)
  (hf:findIn K (.ref C) name=some (some (.ref f))) (ht:isFn K (.ref f)=true) (hv:mA name=none) (h:Q (.ref f,[.ref x]) s):
  wpAny (model prog w) A (getMethod (.ref x) name pl) Q E s:=by
 obtain⟨od,J,hl⟩:=I.look
 exact PySem.W.method_fn X J (plainGet_of hg).1 (plainGet_of hg).2 hf (beq_iff_eq.mp ht) (by show (lookIn name od).map (·.isSome)=some false;rw[hl,hv];rfl) h
theorem zmH{ns:List Str}{Q:Unit->Shared->Prop}(X:K.In s.heap)(I:ObjM s.heap x dx C mA)
  (hs:findIn K (.ref C) "__setattr__"=some (some (.builtin "object.__setattr__"))) (hp:plainOver K C=true) (ht:takerIn K C name=some none) (hh:hasDictIn K C=true)
  (hw:PySem.Within mA ns) (hsz:ns.length<=tH)
  (h:∀h',ObjM h' x dx C (fun y=>if y=name then some v else mA y)->Heap.SameBut dx s.heap h'->Q () {s with heap:=h',toks:=s.toks+2}):
  wpAny (model prog w) A (setAttr (.ref x) name v) Q E s:=by
 obtain⟨od,J,hl⟩:=I.look
 refine PySem.W.set_plain X J hs (PySem.W.osa_open (s:={s with toks:=s.toks+1}) (r:=none) X J hp ht fun b=>?_)
 obtain⟨cd,hc,hd'⟩:=PySem.W.any_some hh
 have hx:s.heap.get? x=some ⟨.ref C,some dx,.plain,#[]⟩:=I.obj
 refine uW (uX (uW (uW (wpAny_loadPart hx (uW (PySem.W.Looks.here (s:={s with toks:=s.toks+1}) (PySem.W.looks_clsIn X hc) ?_))))))
 rw[hd']
 refine uX (a:=some dx) (uW (uX (uW ?_)))
 refine wpAny_nsSet1 (s:={s with toks:=s.toks+1}) I.ns fun h' hn2 hs2=>?_
 obtain⟨oD,esD,epD,hoD,hdD,hcD⟩:=hn2.count (PySem.Within.cons name v hw)
 refine uW (wpAny_lookBehind hoD (by rw[hdD];exact pastItsLine_dict (yQ hcD (by rw[yF];lia))) ?_)
 exact uX (h _ ⟨(hs2.2 _ (Ne.symm I.ne)).trans I.obj,hn2,I.ne⟩ hs2)
theorem zk8{R:Result->Shared->Prop}{vs:List Value}{kw:List (Str×Value)}(X:K.In s.heap)(hm:makesIn K C=true)
  (hi:findIn K (.ref C) "__init__"=some (some (.ref f))) (hf:PySem.W.typeIn K (.ref f)=some (.type "function"))
  (h:codeAny (model prog w) (A.under (.builtin "type.__call__" ⟨.ref C::vs,kw⟩)) (.call (.ref f) ⟨.ref (s.heap.objs.size+1)::vs,kw⟩) (PySem.W.InitBack (s.heap.objs.size+1) R)
   {s with heap:=(s.heap.push emptyDict).push (instObj C s.heap.objs.size)}):
  codeAny (model prog w) A (.call (.ref C) ⟨vs,kw⟩) R s:=by
 obtain⟨hh,g,d,t,os⟩:=s
 exact PySem.W.make_core (PySem.W.makes_of X hm) (PySem.W.looks_findIn X hi) (fun self=>PySem.W.bind_fn X self hf) (.inl rfl) h
end
noncomputable def putF(f:Str)(v:V):List (Str×V)->List (Str×V)
 |[]=>[(f,v)]
 |(g,x)::r=>if g=f then (g,v)::r else (g,x)::putF f v r
theorem Z7(f g:Str)(v:V):∀fs:List (Str×V),(putF f v fs).lookup g=if g=f then some v else fs.lookup g
 |[]=>by
  show wA g [(f,v)]=_
  by_cases h:g=f
  ·have hb:(g==f)=true:=beq_iff_eq.mpr h
   simp only[wA,hb,if_pos h]
  ·have hb:(g==f)=false:=beq_eq_false_iff_ne.mpr h
   simp only[wA,hb,if_neg h]
 |(k,x)::r=>by
  have ih:=Z7 f g v r
  rw[show putF f v ((k,x)::r)=(if k=f then (k,v)::r else (k,x)::putF f v r) from rfl]
  by_cases hk:k=f
  ·rw[if_pos hk]
   by_cases h:g=k
   ·have hb:(g==k)=true:=beq_iff_eq.mpr h
    simp only[wA,hb,if_pos (h.trans hk)]
   ·have hb:(g==k)=false:=beq_eq_false_iff_ne.mpr h
    simp only[wA,hb,if_neg (fun e:g=f=>h (e.trans hk.symm))]
  ·rw[if_neg hk]
   by_cases h:g=k
   ·have hb:(g==k)=true:=beq_iff_eq.mpr h
    simp only[wA,hb,if_neg (fun e:g=f=>hk (h.symm.trans e))]
   ·have hb:(g==k)=false:=beq_eq_false_iff_ne.mpr h
    simp only[wA,hb]
    exact ih
theorem zdU(f:Str)(v:V):∀fs:List (Str×V),f∈(putF f v fs).map (·.1)/\∀g,g∈fs.map (·.1)->g∈(putF f v fs).map (·.1)
 |[]=>⟨by simp[putF],fun g h=>by simp at h⟩
 |(k,x)::r=>by
  obtain⟨i1,i2⟩:=zdU f v r
  rw[show putF f v ((k,x)::r)=(if k=f then (k,v)::r else (k,x)::putF f v r) from rfl]
  by_cases hk:k=f
  ·rw[if_pos hk]
   subst hk
   exact⟨by simp,fun g h=>by simpa using h⟩
  ·rw[if_neg hk]
   refine⟨?_,fun g h=>?_⟩
   ·rw[yJ]
    exact yM _ i1
   ·rw[yJ] at h ⊢
    rcases yG.mp h with e|e
    ·exact yG.mpr (.inl e)
    ·exact yM _ (i2 g e)
theorem zdV(f:Str)(v:V):∀fs:List (Str×V),(putF f v fs).length<=fs.length+1
 |[]=>by simp[putF]
 |(k,x)::r=>by
  have ih:=zdV f v r
  rw[show putF f v ((k,x)::r)=(if k=f then (k,v)::r else (k,x)::putF f v r) from rfl]
  by_cases hk:k=f
  ·rw[if_pos hk,yF,yF];lia
  ·rw[if_neg hk,yF,yF];lia
theorem RelO.some_of{v:V}{o:Option Value}(r:RelO (some v) o):∃u,o=some u/\RelV v u:=by
 cases o with
 |none=>exact (show False from r).elim
 |some u=>exact⟨u,rfl,r⟩
theorem RelO.none_of{o:Option Value}(r:RelO none o):o=none:=by
 cases o with
 |none=>rfl
 |some u=>exact (show False from r).elim
theorem zjq{v:V}{u:Value}(r:RelV v u):PySem.W.handedIn u=true:=by
 cases v with
 |non=>cases (show u=Value.none from r);rfl
 |bl b=>cases (show u=Value.bool b from r);rfl
 |int i=>obtain⟨t,e⟩:=(show ∃t,u=Value.int i t from r);cases e;rfl
 |str x=>obtain⟨t,e⟩:=(show ∃t,u=Value.str x t from r);cases e;rfl
 |byt b=>obtain⟨t,e⟩:=(show ∃t,u=Value.bytes b t from r);cases e;rfl
 |flt b=>obtain⟨t,e⟩:=(show ∃t,u=Value.float b t from r);cases e;rfl
 |ref a=>cases (show u=Value.ref a from r);rfl
 |ty n=>cases (show u=Value.type n from r);rfl
section
variable{P:Program}{w:World}{H H':Hp}{h h':Heap}{a C dx:Addr}{fs fs':List (Str×V)}
theorem zfp(hok:HOk P w H h)(e:H a=some (.ins C dx fs)):∃mA,ObjM h a dx C mA/\(∀f,RelO (fs.lookup f) (mA f))/\PySem.Within mA (fs.map (·.1))/\fs.length<=1000/\H dx=some (.own a):=by
 obtain⟨d,z,ne,ob,mA,n,r,q⟩:=(show zal P w H h a (.ins C dx fs) from hok a _ e)
 exact⟨mA,⟨ob,n,ne⟩,r,q,z,d⟩
end
structure Cls(K:tU)(C:Addr):Prop where
 pg:plainGet K C Str.empty=true
 hd:hasDictIn K C=true
 po:plainOver K C=true
 sa:findIn K (.ref C) "__setattr__"=some (some (.builtin "object.__setattr__"))
theorem Cls.get{K:tU}{C:Addr}(c:Cls K C)(f:Str):plainGet K C f=true:=c.pg
def zcu(K:tU)(C:Addr)(f:Str):Prop:=findIn K (.ref C) f=some none
theorem zcu.taker{K:tU}{C:Addr}{f:Str}(n:zcu K C f):takerIn K C f=some none:=by
 unfold takerIn
 rw[show findIn K (.ref C) f=some none from n]
 rfl
structure Meth(K:tU)(C:Addr)(m:Str)(f:Addr):Prop where
 at_:findIn K (.ref C) m=some (some (.ref f))
 fn:isFn K (.ref f)=true
 kp:keepIn K (.ref f)=true
section
variable{X:Cx}{zp:List (Addr×Obj)}{σ:St}{H:Hp}{s:Shared}{a C dx:Addr}{fs:List (Str×V)}{f:Str}{v:V}{A:Around}{E:Value->Shared->Prop}
theorem zix{b:Bool}{Q:Value->Shared->Prop}(I:Inv X zp σ H s)(e:H a=some (.ins C dx fs))(c:Cls X.K C)(n:zcu X.K C f)(l:fs.lookup f=some v)
  (h:∀u s',Inv X zp σ H s'->RelV v u->Q u s'):wpAny (model X.prog X.w) A (getAttr (.ref a) f b) Q E s:=by
 obtain⟨mA,O,r,_,_,_⟩:=zfp I.hok e
 obtain⟨u,hu,ru⟩:=RelO.some_of (v:=v) (o:=mA f) (by rw[←l];exact r f)
 exact zmG I.kIn O (c.get f) c.hd n hu (zjq ru) (h u _ (I.tok _) ru)
theorem ze0{m:Str}{g:Addr}{pl:Sem Bool}{Q:Value×List Value->Shared->Prop}(I:Inv X zp σ H s)(e:H a=some (.ins C dx fs))(c:Cls X.K C)(k:Meth X.K C m g)(l:fs.lookup m=none)
  (h:Q (.ref g,[.ref a]) s):wpAny (model X.prog X.w) A (getMethod (.ref a) m pl) Q E s:=by
 obtain⟨mA,O,r,_,_,_⟩:=zfp I.hok e
 have hn:mA m=none:=RelO.none_of (by rw[←l];exact r m)
 exact zk7 I.kIn O (c.get m) k.at_ k.fn hn h
theorem ziy{y:V}{u:Value}{Q:Unit->Shared->Prop}(I:Inv X zp σ H s)(e:H a=some (.ins C dx fs))(c:Cls X.K C)(n:zcu X.K C f)(hl:fs.length<1000)(ry:RelV y u)
  (h:∀s',Inv X zp σ (upd H a (.ins C dx (putF f y fs))) s'->Q () s'):wpAny (model X.prog X.w) A (setAttr (.ref a) f u) Q E s:=by
 obtain⟨mA,O,r,wi,_,ho⟩:=zfp I.hok e
 have hz:(fs.map (·.1)).length<=tH:=by rw[yA,sizeLine_eq];lia
 refine zmH I.kIn O c.sa c.po n.taker c.hd wi hz fun h' O' sb=>h _ ?_
 have hd:∃o,h'.get? dx=some o:=let ⟨o,_,_,e',_⟩:=O'.ns;⟨o,e'⟩
 refine I.write (x:=a) (e:=dx) (by rw[e];exact True.intro) (.inr ho) (fun b q hb z=>(sb.2 b hb).trans z) hd ?_
 refine⟨by rw[zA O.ne];exact ho,?_,O.ne,O'.obj,_,O'.ns,fun g=>?_,fun g hg=>?_⟩
 ·have:=zdV f y fs;lia
 ·show RelO ((putF f y fs).lookup g) (if g=f then some u else mA g)
  rw[Z7]
  by_cases q:g=f
  ·rw[if_pos q,if_pos q];exact ry
  ·rw[if_neg q,if_neg q];exact r g
 ·by_cases q:g=f
  ·rw[q];exact (zdU f y fs).1
  ·refine (zdU f y fs).2 g (wi g fun z=>hg ?_)
   show (if g=f then some u else mA g)=none
   rw[if_neg q];exact z
theorem Inv.made(I:Inv X zp σ H s):Inv X zp σ (upd (upd H s.heap.objs.size (.own (s.heap.objs.size+1))) (s.heap.objs.size+1) (.ins C s.heap.objs.size []))
  {s with heap:=(s.heap.push emptyDict).push (instObj C s.heap.objs.size)}:=by
 have e1:(s.heap.push emptyDict).get? s.heap.objs.size=some emptyDict:=tD s.heap rfl
 have e2:((s.heap.push emptyDict).push (instObj C s.heap.objs.size)).get? (s.heap.objs.size+1)=some (instObj C s.heap.objs.size):=by
  have:=tD (s.heap.push emptyDict) (o:=instObj C s.heap.objs.size) rfl
  rwa [Heap.size_push] at this
 have e3:(s.heap.push emptyDict).Ns s.heap.objs.size (fun _=>none):=⟨emptyDict,#[],_,e1,rfl,(fun e he=>absurd he (by simp)),fun _=>rfl⟩
 have I1:=I.laid (a:=s.heap.objs.size) (o:=.own (s.heap.objs.size+1)) (h':=s.heap.push emptyDict) (t':=s.toks) (fun b u q=>uY _ q) (yO _) ⟨_,e1⟩
 refine I1.laid (a:=s.heap.objs.size+1) (o:=.ins C s.heap.objs.size []) (t':=s.toks) (fun b u q=>uY _ q) (Nat.le_of_eq (Heap.size_push _ _)) ?_
 have ne:s.heap.objs.size≠s.heap.objs.size+1:=xA (vC _)
 refine⟨by rw[zA ne,zc],yS _,ne,e2,fun _=>none,(Heap.Ns1.of_empty e3).at fun o q=>uY _ q,fun _=>True.intro,fun y hy=>absurd rfl hy⟩
theorem zmI{prog:Program}{w:World}{env:Env}{e:Expr}{f:Str}{pos:Pos}{s:Shared}{Q:Value->Shared->Prop}(hb:attributeBase e f env (eval e env)=eval e env)
  (h:wpAny (model prog w) A (eval e env) (fun o s₁=>wpAny (model prog w) A (getAttr o f true) Q E s₁) E s):wpAny (model prog w) A (eval (.Attribute e f pos) env) Q E s:=
 Attribute_any_ h (by rw[arm_eval_Attribute,hb])
end
inductive i_tFld(K:tU)(f:Str)(Q:VK)(x:V)(H1:Hp):Prop
 |mk (a C dx fs v:_) (_:x=.ref a) (_:H1 a=some (.ins C dx fs)) (_:Cls K C) (_:zcu K C f) (_:fs.lookup f=some v) (_:Q v H1)
def tFld(K:tU)(ta:TE)(f:Str):TE:=fun σ H Q=>ta σ H fun x H1=>i_tFld K f Q x H1
inductive i_sFld(K:tU)(f:Str)(D:Ends)(σ:St)(y x:V)(H2:Hp):Prop
 |mk (a C dx fs:_) (_:x=.ref a) (_:H2 a=some (.ins C dx fs)) (_:Cls K C) (_:zcu K C f) (_:fs.length<1000) (_:D.nx σ (upd H2 a (.ins C dx (putF f y fs))))
def sFld(K:tU)(ta tv:TE)(f:Str):TS:=fun D σ H=>tv σ H fun y H1=>ta σ H1 fun x H2=>i_sFld K f D σ y x H2
section
variable{X:Cx}{o e value:Expr}{f:Str}{pos pos' tpos:Pos}{ta tv:TE}
theorem zgj(he:PE X e ta)(hb:attributeBase e f X.env (eval e X.env)=eval e X.env):PE X (.Attribute e f pos) (tFld X.K ta f):=by
 intro zp s σ H Q I h
 refine zmI hb (thn (he zp s σ H _ I h) fun u s1 ⟨x,H1,I1,rx,a,C,dx,fs,v,ex,ea,c,n,l,q⟩=>?_)
 subst ex
 obtain rfl:u=Value.ref a:=rx
 exact zix I1 ea c n l fun u' s2 I2 ru=>⟨v,H1,I2,ru,q⟩
theorem zgk(ha:PE X o ta)(hv:PE X value tv)(hs:swapsWith value (some (.Attribute o f pos')) pos.line X.env=pure false):PS X (.Assign [.Attribute o f pos'] value pos) (sFld X.K ta tv f):=by
 intro zp s σ H D I h
 refine plainObj_wpAny_Assign_Attribute (thn (hv zp s σ H _ I h) fun u s1 ⟨y,H1,I1,ry,q⟩=>thn (ha zp s1 σ H1 _ I1 q) fun ov s2 ⟨x,H2,I2,rx,a,C,dx,fs,ex,ea,c,n,l,q2⟩=>?_) hs
 subst ex
 obtain rfl:ov=Value.ref a:=rx
 exact ziy I2 ea c n l ry fun s3 I3=>⟨σ,_,I3,q2⟩
end
section
variable{X:Cx}{zp:List (Addr×Obj)}{σ:St}{H:Hp}{s:Shared}{A:Around}{E:Value->Shared->Prop}{Q:Value->Shared->Prop}{c:Value}{b:Bool}
inductive TyOf(K:tU)(H:Hp):V->Value->Prop where
 |non:TyOf K H .non (.type "NoneType")
 |bl (x:Bool):TyOf K H (.bl x) (.type "bool")
 |int (i:Int):TyOf K H (.int i) (.type "int")
 |str (x:Str):TyOf K H (.str x) (.type "str")
 |flt (x:UInt64):TyOf K H (.flt x) (.type "float")
 |lst {a:Addr}{xs:List V} (e:H a=some (.lst xs)):TyOf K H (.ref a) (.type "list")
 |frz {a:Addr}{o:Obj}{xs:List V} (e:H a=some (.frz o (.lst xs))):TyOf K H (.ref a) (.type "list")
 |tup {a:Addr}{xs:List V} (e:H a=some (.tup xs)):TyOf K H (.ref a) (.type "tuple")
 |dK {a:Addr}{kvs:List (Key×V)} (e:H a=some (.dK kvs)):TyOf K H (.ref a) (.type "dict")
 |dT {a:Addr}{kvs:List (List Key×V)} (e:H a=some (.dT kvs)):TyOf K H (.ref a) (.type "dict")
 |ins {a C dx:Addr}{fs:List (Str×V)} (e:H a=some (.ins C dx fs)) (cl:Cls K C) (ha:findIn K (.ref C) "__class__"=some (some (.builtin "object.__class__")))
   (hn:PySem.W.specialIn K (.builtin "object.__class__") "__get__"=some (some (.builtin "getset_descriptor.__get__"))) (htk:PySem.W.takesIn K (.builtin "object.__class__")=some true)
   (hm:PySem.W.mroIn K C (.type "object")=some true):TyOf K H (.ref a) (.ref C)
theorem zjr{x:V}{u t:Value}(I:Inv X zp σ H s)(rx:RelV x u)(ty:TyOf X.K H x t)(e:PySem.W.kitOne X.K t c=some b)(h:∀tk,Q (.bool b) {s with toks:=tk}):
  wpAny (model X.prog X.w) A (call (.builtin "isinstance") [u,c]) Q E s:=by
 cases ty with
 |non=>cases (show u=Value.none from rx);exact kia_one PySem.W.kitx_none I.kIn True.intro e (fun z=>nomatch z) h
 |bl y=>cases (show u=Value.bool y from rx);exact kia_one PySem.W.kitx_bool I.kIn True.intro e (fun z=>nomatch z) h
 |int i=>obtain⟨t,q⟩:=(show ∃t,u=Value.int i t from rx);cases q;exact kia_one PySem.W.kitx_int I.kIn True.intro e (fun z=>nomatch z) h
 |str y=>obtain⟨t,q⟩:=(show ∃t,u=Value.str y t from rx);cases q;exact kia_one PySem.W.kitx_str I.kIn True.intro e (fun z=>nomatch z) h
 |flt y=>obtain⟨t,q⟩:=(show ∃t,u=Value.float y t from rx);cases q;exact kia_one PySem.W.kitx_float I.kIn True.intro e (fun z=>nomatch z) h
 | @lst a xs ea=>
  cases (show u=Value.ref a from rx)
  obtain⟨_,_,n,_,h1⟩:=(show zal X.prog X.w H s.heap a (.lst xs) from I.hok a _ ea)
  exact kia_one PySem.W.kitx_list I.kIn ⟨_,h1,rfl⟩ e (fun z=>nomatch z) h
 | @frz a ob xs ea=>
  cases (show u=Value.ref a from rx)
  obtain⟨_,_,_,n,_,h1⟩:=(show zal X.prog X.w H s.heap a (.frz ob (.lst xs)) from I.hok a _ ea)
  exact kia_one PySem.W.kitx_list I.kIn ⟨_,h1,rfl⟩ e (fun z=>nomatch z) h
 | @tup a xs ea=>
  cases (show u=Value.ref a from rx)
  obtain⟨_,_,_,p⟩:=(show zal X.prog X.w H s.heap a (.tup xs) from I.hok a _ ea)
  obtain⟨o,h1,h2,_⟩:=p
  exact kia_one PySem.W.kitx_tuple I.kIn ⟨o,h1,h2⟩ e (fun z=>nomatch z) h
 | @dK a kvs ea=>
  cases (show u=Value.ref a from rx)
  obtain⟨_,_,vs,_,p⟩:=(show zal X.prog X.w H s.heap a (.dK kvs) from I.hok a _ ea)
  obtain⟨o,es,ep,h1,h2,_⟩:=p
  exact kia_one PySem.W.kitx_dict I.kIn ⟨o,h1,h2.1⟩ e (fun z=>nomatch z) h
 | @dT a kvs ea=>
  cases (show u=Value.ref a from rx)
  obtain⟨_,_,xs,_,o,es,ep,h1,h2,_⟩:=(show zal X.prog X.w H s.heap a (.dT kvs) from I.hok a _ ea)
  exact kia_one PySem.W.kitx_dict I.kIn ⟨o,h1,h2.1⟩ e (fun z=>nomatch z) h
 | @ins a C dx fs ea cl ha hn htk hm=>
  cases (show u=Value.ref a from rx)
  obtain⟨mA,O,_⟩:=zfp I.hok ea
  obtain⟨od,J,_⟩:=O.look
  exact kia_one (PySem.W.kitx_own (cl.get _) cl.hd ha hn htk hm) I.kIn J e (fun z=>nomatch z) h
end
structure Room(k:Nat)(A:Around):Prop where
 hd:A.handled=none
 dp:A.depth+3*k+5<recursionLimit
 un:A.units+16*k+200<cLine
theorem Room.mono{j k:Nat}{A:Around}(r:Room k A)(h:j<=k):Room j A:=⟨r.hd,by have:=r.dp;lia,by have:=r.un;lia⟩
theorem Room.deeper{k:Nat}{A:Around}(r:Room (k+1) A)(env:Env):Room k (A.deeper env):=
 ⟨r.hd,by have:=r.dp;show A.depth+1+3*k+5<_;lia,by have:=r.un;show A.units+3+16*k+200<_;lia⟩
theorem ziz{A:Around}{C:Addr}{us:List Value}{kw:List (Str×Value)}:(A.under (.builtin "type.__call__" ⟨.ref C::us,kw⟩)).depth=A.depth+1:=by
 first|rfl|simp[Around.under,Code.weight,Code.isCreation,Code.isGuard,Code.isCaller,Code.frames,Code.isFrame,guardIds]
theorem ziA{A:Around}{C:Addr}{us:List Value}{kw:List (Str×Value)}:(A.under (.builtin "type.__call__" ⟨.ref C::us,kw⟩)).units=A.units+1:=by
 first|rfl|simp[Around.under,Code.cUnits,Code.frames,Code.isFrame]
theorem Room.make{k:Nat}{A:Around}(r:Room (k+1) A)(C:Addr)(us:List Value)(kw:List (Str×Value)):Room k (A.under (.builtin "type.__call__" ⟨.ref C::us,kw⟩)):=
 ⟨r.hd,by have:=r.dp;rw[ziz];lia,by have:=r.un;rw[ziA];lia⟩
theorem Room.depth{k:Nat}{A:Around}(r:Room k A):A.depth<recursionLimit:=by have:=r.dp;lia
theorem Room.units{k:Nat}{A:Around}(r:Room k A):A.units+64<cLine:=by have:=r.un;lia
theorem Room.units0{k:Nat}{A:Around}(r:Room k A):A.units<cLine:=by have:=r.un;lia
def tNil:TA:=fun _ H Q=>Q [] H
def ZY(ta:TE)(tr:TA):TA:=fun σ H Q=>ta σ H fun x H1=>tr σ H1 fun xs H2=>Q (x::xs) H2
section
variable{X:Cx}{e:Expr}{es:List Expr}{te:TE}{t:TA}{pos:Pos}
theorem zb:PA X [] tNil:=fun _ _ _ _ H Q I h=>Calls.spliced_nil ⟨[],H,I,.nil,h⟩
theorem za(ha:PE X e te)(hr:PA X es t)(hs:tJ (e::es) X.env=(false,eval e X.env)::tJ es X.env:=by rfl):PA X (e::es) (ZY te t):=by
 intro pos zp s σ H Q I h
 rw[hs]
 show wpAny _ _ (spliced ((false,eval e X.env)::backTo pos (tJ es X.env))) _ _ s
 refine Calls.spliced_cons (thn (ha zp s σ H _ I h) fun u s1 ⟨x,H1,I1,r1,q1⟩=>?_)
 exact thn (hr pos zp s1 σ H1 _ I1 q1) fun us s2 ⟨xs,H2,I2,r2,q2⟩=>⟨x::xs,H2,I2,.cons r1 r2,q2⟩
def tTup(t:TA):TE:=fun σ H Q=>t σ H fun xs H1=>xs.length<=tH/\∀p,H1 p=none->Q (.ref p) (upd H1 p (.tup xs))
def tLst(t:TA):TE:=fun σ H Q=>t σ H fun xs H1=>xs.length<=tH/\∀p,H1 p=none->Q (.ref p) (upd H1 p (.lst xs))
theorem zy {x1} (h:PA X es t):PE X (.Tuple es x1 pos) (tTup t):=by
 intro zp s σ H Q I hq
 refine wpAny_Tuple_spliced (thn (h pos zp s σ H _ I hq) fun us s1 ⟨xs,H1,I1,r,z,q⟩=>⟨by rw[←r.length];exact z,?_⟩)
 have hf:H1 s1.heap.objs.size=none:=I1.hok.fresh (yO _)
 refine⟨.ref s1.heap.objs.size,upd H1 s1.heap.objs.size (.tup xs),I1.laid (t':=s1.toks) (fun b u e=>uY _ e) (yO _) ?_,rfl,q _ hf⟩
 exact⟨z,us,r,⟨_,tD _ rfl,rfl,_,rfl⟩⟩
theorem zF(h:PA X es t):PE X (.List es pos) (tLst t):=by
 intro zp s σ H Q I hq
 refine wpAny_List_spliced (thn (h pos zp s σ H _ I hq) fun us s1 ⟨xs,H1,I1,r,z,q⟩=>⟨by rw[←r.length];exact z,?_⟩)
 have hf:H1 s1.heap.objs.size=none:=I1.hok.fresh (yO _)
 refine⟨.ref s1.heap.objs.size,upd H1 s1.heap.objs.size (.lst xs),I1.laid (t':=s1.toks) (fun b u e=>uY _ e) (yO _) ?_,rfl,q _ hf⟩
 exact⟨z,us,0,r,tD _ rfl⟩
end
abbrev Sp:=List V->Hp->VK->XK->Prop
abbrev CXT:=List Env->Hp->Shared->XK->Value->Shared->Prop
structure Env0(P:Program)(w:World)(K:tU)(mg:Str->Option Value)(base:Heap)(A:Around)(outer:List Env)(s:Shared)(H:Hp):Prop where
 frames:A.frames=some outer
 mod:Mod K mg base
 bs:∀b o,base.get? b=some o->s.heap.get? b=some o/\H b=none
 bsz:base.objs.size<=s.heap.objs.size
 funs:s.heap.FunFrames base outer
 frf:∀b∈frs outer,H b=none
 hok:HOk P w H s.heap
 bare:AllBare s.gens
def CE(outer:List Env)(P:Program)(w:World)(H:Hp)(s:Shared)(Q:VK)(u:Value)(s':Shared):Prop:=
 ∃v H',s'.os=s.os/\AllBare s'.gens/\Un (frs outer) [] H H' s.heap s'.heap/\HOk P w H' s'.heap/\RelV v u/\Q v H'
def CR(CX:CXT)(outer:List Env)(P:Program)(w:World)(H:Hp)(s:Shared)(Q:VK)(E:XK)(r:Result)(s':Shared):Prop:=
 match r with
 |.ok (.ret u)=>CE outer P w H s Q u s'
 |.ok _=>False
 |.error e=>CX outer H s E e s'
structure FnOk(P:Program)(w:World)(K:tU)(mg:Str->Option Value)(base:Heap)(CX:CXT)(k:Nat)(f:Addr)(fd:tV)(ps:List Str)(sp:Sp):Prop where
 len:∀vs H Q E,sp vs H Q E->vs.length=ps.length
 run:∀(A:Around)(outer:List Env)(s:Shared)(H:Hp)(args:Args)(us:List Value)(vs:List V)(Q:VK)(E:XK),Room k A->Env0 P w K mg base A outer s H->BindsTo s fd args (ps.zip us)->Vals vs us->sp vs H Q E->
  codeAny (model P w) A (.call (.ref f) args) (CR CX outer P w H s Q E) s
theorem FnOk.mono{P:Program}{w:World}{K:tU}{mg:Str->Option Value}{base:Heap}{CX:CXT}{j k:Nat}{f:Addr}{fd:tV}{ps:List Str}{sp:Sp}(F:FnOk P w K mg base CX j f fd ps sp)(h:j<=k):
  FnOk P w K mg base CX k f fd ps sp:=⟨F.len,fun A outer s H args us vs Q E hr=>F.run A outer s H args us vs Q E (hr.mono h)⟩
theorem Env0.make{P:Program}{w:World}{K:tU}{mg:Str->Option Value}{base:Heap}{A:Around}{outer:List Env}{s:Shared}{H:Hp}(e:Env0 P w K mg base A outer s H)(C:Addr)(us:List Value)(kw:List (Str×Value)):
  Env0 P w K mg base (A.under (.builtin "type.__call__" ⟨.ref C::us,kw⟩)) outer s H:=⟨by first|exact e.frames|(simpa [Around.under,Code.envs,Code.isFrame,pushEnvs] using e.frames),e.mod,e.bs,e.bsz,e.funs,e.frf,e.hok,e.bare⟩
section
variable{X:Cx}{zp:List (Addr×Obj)}{σ:St}{H:Hp}{s s':Shared}
theorem Inv.env0(I:Inv X zp σ H s):Env0 X.prog X.w X.K X.mg X.base X.A X.stack s H:=
 ⟨I.ok.frames,I.ok.mod,I.bs,yQ I.ok.bsz I.sz,I.stack,I.stkFree,I.hok,I.bare⟩
theorem Inv.after{Q:VK}{u:Value}(I:Inv X zp σ H s)(h:CE X.stack X.prog X.w H s Q u s'):EP X zp σ Q u s':=by
 obtain⟨v,H',os,bare,un,hok,r,q⟩:=h
 obtain⟨hh,g,d,t,os'⟩:=s'
 obtain rfl:os'=s.os:=os
 exact⟨v,H',I.call (h':=hh) (g':=g) (d':=d) (t':=t) (ch:=[]) un hok bare (fun b z=>absurd z (by simp)),r,q⟩
end
def zjs(sp:Sp)(dvs:List V)(E:XK)(t:TA):TE:=fun σ H Q=>t σ H fun vs H1=>sp (vs++dvs) H1 Q E
inductive i_tMeth(C:Addr)(m:Str)(sp:Sp)(dvs:List V)(E:XK)(t:TA)(σ:St)(Q:VK)(x:V)(H1:Hp):Prop
 |mk (a dx fs:_) (_:x=.ref a) (_:H1 a=some (.ins C dx fs)) (_:fs.lookup m=none) (_:t σ H1 fun vs H2=>sp (x::(vs++dvs)) H2 Q E)
def ziB(C:Addr)(m:Str)(sp:Sp)(dvs:List V)(E:XK)(ta:TE)(t:TA):TE:=fun σ H Q=>ta σ H fun x H1=>i_tMeth C m sp dvs E t σ Q x H1
def zg5(C:Addr)(sp:Sp)(dvs:List V)(E:XK)(t:TA):TE:=fun σ H Q=>t σ H fun vs H1=>∀x dx,H1 x=none->H1 dx=none->dx≠x->
 sp (.ref x::(vs++dvs)) (upd (upd H1 dx (.own x)) x (.ins C dx [])) (fun v H2=>v=.non/\Q (.ref x) H2) E
def Binds(K:tU)(fd:tV)(ps:List Str)(ds:List Value):Prop:=
 ∀(s:Shared)(us:List Value),K.In s.heap->(us++ds).length=ps.length->BindsTo s fd ⟨us,[]⟩ (ps.zip (us++ds))
theorem Binds.all{K:tU}{fd:tV}{ps:List Str}(h:∀us:List Value,us.length=ps.length->bindArgs fd ⟨us,[]⟩=pure (ps.zip us)):Binds K fd ps []:=fun s us _ hl=>by
 rw[xH] at hl ⊢
 exact .of_eq (h us hl)
def Passes(CX:CXT)(X:Cx)(E:XK):Prop:=∀(zp:List (Addr×Obj))(σ:St)(H:Hp)(s:Shared)(e:Value)(s':Shared),Inv X zp σ H s->CX X.stack H s E e s'->X.xe e s'
section
variable{X:Cx}{CX:CXT}{k:Nat}{f C:Addr}{fd:tV}{ps:List Str}{sp:Sp}{dvs:List V}{ds:List Value}{E:XK}{x m:Str}{p pos apos:Pos}{e o:Expr}{es:List Expr}{ta:TE}{t:TA}
theorem zjt{zp:List (Addr×Obj)}{σ:St}{H:Hp}{s:Shared}{Q:VK}{us:List Value}{vs:List V}(F:FnOk X.prog X.w X.K X.mg X.base CX k f fd ps sp)(hr:Room k X.A)(hb:Binds X.K fd ps ds)(hd:Vals dvs ds)(hx:Passes CX X E)
  (I:Inv X zp σ H s) (r:Vals vs us) (h:sp (vs++dvs) H Q E):wpAny (model X.prog X.w) X.A (call (.ref f) us) (EP X zp σ Q) X.xe s:=by
 have r2:Vals (vs++dvs) (us++ds):=r.append hd
 have hl:(us++ds).length=ps.length:=by rw[←r2.length];exact F.len _ _ _ _ h
 refine wpAny_call (codeAny_mono (F.run X.A X.stack s H ⟨us,[]⟩ (us++ds) (vs++dvs) Q E hr I.env0 (hb s us I.kIn hl) r2 h) fun r s' hq=>?_)
 cases r with
 |error e=>exact hx zp σ H s e s' I hq
 |ok fl=>
  cases fl with
  |ret u=>exact I.after hq
  |next=>exact False.elim hq
  |brk=>exact False.elim hq
  |cont=>exact False.elim hq
theorem zmJ(F:FnOk X.prog X.w X.K X.mg X.base CX k f fd ps sp)(hr:Room k X.A)(hg:Gl X x)(hm:X.mg x=some (.ref f))(hk:keepIn X.K (.ref f)=true)(hb:Binds X.K fd ps ds)(hd:Vals dvs ds)(hx:Passes CX X E)
  (ha:PA X (e::es) t) (hdb:(x==("__debug__":Str))=false:=by decide) (he:tJ (e::es) X.env=(false,eval e X.env)::tJ es X.env:=by rfl) (hpl:(backTo pos (tJ es X.env)).any (·.1)=false:=by rfl):
  PE X (.Call (.Name x p) (e::es) [] pos) (zjs sp dvs E t):=by
 intro zp s σ H Q I h
 refine wpAny_Call_Name_kw (zfn I hg hm ?_ hdb)
 refine callWith_K (h₀:=X.base) I.ok.mod.kin hk (thn (ha pos zp s σ H _ I h) fun us s1 ⟨vs,H1,I1,r,q⟩=>⟨I1.kIn,?_⟩) he hpl
 exact zjt F hr hb hd hx I1 r q
theorem zmK{pl:Sem Bool}(he:PE X o ta)(c:Cls X.K C)(hm:Meth X.K C m f)(F:FnOk X.prog X.w X.K X.mg X.base CX k f fd ps sp)(hr:Room k X.A)(hb:Binds X.K fd ps ds)(hd:Vals dvs ds)(hx:Passes CX X E)(ha:PA X (e::es) t)
  (hst:tJ (e::es) X.env=(false,eval e X.env)::tJ es X.env:=by rfl) (hpl:(backTo pos (tJ es X.env)).any (·.1)=false:=by rfl)
  (ht:eval (.Call (.Attribute o m apos) (e::es) [] pos) X.env=(do
   let ov ←eval o X.env
   standAt apos.atName
   let (f,first) ←holding [ov] (getMethod ov m pl)
   callWith pos f first (backTo pos (tJ (e::es) X.env)) (backToKw pos (keywordEach [] X.env))):=by rfl):
  PE X (.Call (.Attribute o m apos) (e::es) [] pos) (ziB C m sp dvs E ta t):=by
 intro zp s σ H Q I h
 refine PySem.W.methodCall_KW (pl:=pl) (thn (he zp s σ H _ I h) fun u s1 ⟨x,H1,I1,rx,a,dx,fs,ex,ea,l,q⟩=>?_) ht
 subst ex
 obtain rfl:u=Value.ref a:=rx
 refine ze0 I1 ea c hm l ?_
 refine callWith_K (first:=[.ref a]) (h₀:=X.base) I.ok.mod.kin hm.kp (thn (ha pos zp s1 σ H1 _ I1 q) fun us s2 ⟨vs,H2,I2,r,q2⟩=>⟨I2.kIn,?_⟩) hst hpl
 exact zjt (us:=.ref a::us) (vs:=.ref a::vs) F hr hb hd hx I2 (.cons rfl r) q2
theorem zk9{pl:Sem Bool}(he:PE X o ta)(c:Cls X.K C)(hm:Meth X.K C m f)(F:FnOk X.prog X.w X.K X.mg X.base CX k f fd ps sp)(hr:Room k X.A)(hb:Binds X.K fd ps ds)(hd:Vals dvs ds)(hx:Passes CX X E)
  (ht:eval (.Call (.Attribute o m apos) [] [] pos) X.env=(do
   let ov ←eval o X.env
   standAt apos.atName
   let (f,first) ←holding [ov] (getMethod ov m pl)
   callWith pos f first (backTo pos (tJ [] X.env)) (backToKw pos (keywordEach [] X.env))):=by rfl):
  PE X (.Call (.Attribute o m apos) [] [] pos) (ziB C m sp dvs E ta tNil):=by
 intro zp s σ H Q I h
 refine PySem.W.methodCall_KW (pl:=pl) (thn (he zp s σ H _ I h) fun u s1 ⟨x,H1,I1,rx,a,dx,fs,ex,ea,l,q⟩=>?_) ht
 subst ex
 obtain rfl:u=Value.ref a:=rx
 refine ze0 I1 ea c hm l ?_
 exact PySem.W.callWith_K0 (first:=[.ref a]) I1.kIn hm.kp (zjt (us:=[.ref a]) (vs:=[.ref a]) F hr hb hd hx I1 (.cons rfl .nil) q)
structure Mk(K:tU)(C f:Addr):Prop where
 makes:makesIn K C=true
 init:findIn K (.ref C) "__init__"=some (some (.ref f))
 fn:isFn K (.ref f)=true
 kp:keepIn K (.ref C)=true
theorem zhN{zp:List (Addr×Obj)}{σ:St}{H:Hp}{s:Shared}{Q:VK}{us:List Value}{vs:List V}(M:Mk X.K C f)(F:FnOk X.prog X.w X.K X.mg X.base CX k f fd ps sp)(hr:Room (k+1) X.A)(hb:Binds X.K fd ps ds)(hd:Vals dvs ds)
  (hx:Passes CX X E) (I:Inv X zp σ H s) (r:Vals vs us)
  (h:∀x dx,H x=none->H dx=none->dx≠x->sp (.ref x::(vs++dvs)) (upd (upd H dx (.own x)) x (.ins C dx [])) (fun v H2=>v=.non/\Q (.ref x) H2) E):
  wpAny (model X.prog X.w) X.A (call (.ref C) us) (EP X zp σ Q) X.xe s:=by
 have hq:=h (s.heap.objs.size+1) s.heap.objs.size (I.hok.fresh (vK _)) (I.hok.fresh (yO _)) (xA (vC _))
 have I2:=Inv.made (C:=C) I
 have r2:Vals (V.ref (s.heap.objs.size+1)::(vs++dvs)) (Value.ref (s.heap.objs.size+1)::(us++ds)):=.cons rfl (r.append hd)
 have hl:(Value.ref (s.heap.objs.size+1)::us++ds).length=ps.length:=by
  have e:=r2.length
  rw[F.len _ _ _ _ hq] at e
  exact e.symm
 refine wpAny_call (zk8 (f:=f) I.kIn M.makes M.init (beq_iff_eq.mp M.fn) (codeAny_mono (F.run _ X.stack _ _ ⟨Value.ref (s.heap.objs.size+1)::us,[]⟩ (Value.ref (s.heap.objs.size+1)::(us++ds)) _ _ E (hr.make C us [])
  (I2.env0.make C us []) (hb _ (Value.ref (s.heap.objs.size+1)::us) I2.kIn hl) r2 hq) fun r s' hq'=>?_))
 cases r with
 |error e=>exact hx zp σ _ _ e s' I2 hq'
 |ok fl=>
  cases fl with
  |ret u=>
   obtain⟨v,H',I3,rv,ev,q3⟩:=I2.after hq'
   subst ev
   exact⟨rv,⟨V.ref (s.heap.objs.size+1),H',I3,rfl,q3⟩⟩
  |next=>exact False.elim hq'
  |brk=>exact False.elim hq'
  |cont=>exact False.elim hq'
theorem zmL(M:Mk X.K C f)(F:FnOk X.prog X.w X.K X.mg X.base CX k f fd ps sp)(hr:Room (k+1) X.A)(hg:Gl X x)(hm:X.mg x=some (.ref C))(hb:Binds X.K fd ps ds)(hd:Vals dvs ds)(hx:Passes CX X E)
  (ha:PA X (e::es) t) (hdb:(x==("__debug__":Str))=false:=by decide) (he:tJ (e::es) X.env=(false,eval e X.env)::tJ es X.env:=by rfl) (hpl:(backTo pos (tJ es X.env)).any (·.1)=false:=by rfl):
  PE X (.Call (.Name x p) (e::es) [] pos) (zg5 C sp dvs E t):=by
 intro zp s σ H Q I h
 refine wpAny_Call_Name_kw (zfn I hg hm ?_ hdb)
 refine callWith_K (h₀:=X.base) I.ok.mod.kin M.kp (thn (ha pos zp s σ H _ I h) fun us s1 ⟨vs,H1,I1,r,q⟩=>⟨I1.kIn,?_⟩) he hpl
 exact zhN M F hr hb hd hx I1 r q
theorem zla(M:Mk X.K C f)(F:FnOk X.prog X.w X.K X.mg X.base CX k f fd ps sp)(hr:Room (k+1) X.A)(hg:Gl X x)(hm:X.mg x=some (.ref C))(hb:Binds X.K fd ps ds)(hd:Vals dvs ds)(hx:Passes CX X E)
  (hdb:(x==("__debug__":Str))=false:=by decide):PE X (.Call (.Name x p) [] [] pos) (zg5 C sp dvs E tNil):=by
 intro zp s σ H Q I h
 refine wpAny_Call_Name_kw (zfn I hg hm ?_ hdb)
 exact PySem.W.callWith_K0 I.kIn M.kp (zhN (us:=[]) M F hr hb hd hx I .nil h)
end
section
variable{X:Cx}{CX:CXT}{k:Nat}{f C:Addr}{fd:tV}{ps ks:List Str}{sp:Sp}{E:XK}{x m:Str}{p pos apos kpos:Pos}{e o:Expr}{es:List Expr}{kws:List Keyword}{te ta:TE}{t tk:TA}{nm:Option Str}
variable{g:List Value->List Value->List Value}{gV:List V->List V->List V}
end
structure FnScope(N P:List Str)(sc:Scope):Prop where
 kind:sc.kind=.function
 co:sc.isCoroutine=false
 gen:sc.isGenerator=false
 nd:N.Nodup
 pre:N.take P.length=P
 par:∀x∈P,sc.names.lookup x=some .local\/sc.names.lookup x=some .cell
 nofree:∀y∈sc.names,y.2≠.free
theorem mkSc{N P:List Str}{sc:Scope}(a:sc.kind=.function)(h:((sc.isCoroutine=false/\sc.isGenerator=false)/\N.Nodup/\N.take P.length=P)/\(∀x∈P,sc.names.lookup x=some .local\/sc.names.lookup x=some .cell)/\∀y∈sc.names,y.2≠.free):FnScope N P sc:=⟨a,h.1.1.1,h.1.1.2,h.1.2.1,h.1.2.2,h.2.1,h.2.2⟩
theorem zgl{kindOf:Str->Option NameKind}{x:Str}:∀{binds:List (Str×Value)}{m:Str->Option Value},(∀v,(x,v) ∉ binds)->bindL kindOf binds m x=m x
 |[],_,_=>rfl
 |(n,v)::r,m,h=>by
  unfold bindL
  rw[zgl fun w hw=>h w (yM _ hw)]
  split
  ·have:x≠n:=by rintro rfl;exact h v yV
   simp[this]
  ·rfl
theorem zgm{kindOf:Str->Option NameKind}{x:Str}:∀{binds:List (Str×Value)}{m:Str->Option Value},(∀v,(x,v) ∉ binds)->bindC kindOf binds m x=m x
 |[],_,_=>rfl
 |(n,v)::r,m,h=>by
  unfold bindC
  rw[zgm fun w hw=>h w (yM _ hw)]
  split
  ·rfl
  ·have:x≠n:=by rintro rfl;exact h v yV
   simp[this]
theorem zgn{kindOf:Str->Option NameKind}{x:Str}{v:Value}:∀{P:List Str}{vs:List Value}{i:Nat}{m:Str->Option Value},P.Nodup->P[i]?=some x->vs[i]?=some v->kindOf x=some .local->
  bindL kindOf (P.zip vs) m x=some v
 |[],_,_,_,_,h,_,_=>by simp at h
 |_::_,[],_,_,_,_,h,_=>by simp at h
 |p::P,w::vs,0,m,nd,h1,h2,hk=>by
  simp at h1 h2;subst h1;subst h2
  show bindL kindOf ((p,w)::P.zip vs) m p=_
  unfold bindL
  rw[zgl fun v hv=>(vN.mp nd).1 (uA hv).1,if_pos hk]
  simp
 |p::P,w::vs,i+1,m,nd,h1,h2,hk=>by
  show bindL kindOf ((p,w)::P.zip vs) m x=_
  unfold bindL
  exact zgn (i:=i) (vN.mp nd).2 (by simpa using h1) (by simpa using h2) hk
theorem zgo{kindOf:Str->Option NameKind}{x:Str}{v:Value}:∀{P:List Str}{vs:List Value}{i:Nat}{m:Str->Option Value},P.Nodup->P[i]?=some x->vs[i]?=some v->kindOf x≠some .local->
  bindC kindOf (P.zip vs) m x=some v
 |[],_,_,_,_,h,_,_=>by simp at h
 |_::_,[],_,_,_,_,h,_=>by simp at h
 |p::P,w::vs,0,m,nd,h1,h2,hk=>by
  simp at h1 h2;subst h1;subst h2
  show bindC kindOf ((p,w)::P.zip vs) m p=_
  unfold bindC
  rw[zgm fun v hv=>(vN.mp nd).1 (uA hv).1,if_neg hk]
  simp
 |p::P,w::vs,i+1,m,nd,h1,h2,hk=>by
  show bindC kindOf ((p,w)::P.zip vs) m x=_
  unfold bindC
  exact zgo (i:=i) (vN.mp nd).2 (by simpa using h1) (by simpa using h2) hk
noncomputable def start(N:List Str)(vs:List V):St:=vs.map some++yD (N.length-vs.length) none
noncomputable def cxOf(CX:CXT)(P:Program)(w:World)(K:tU)(mg:Str->Option Value)(base:Heap)(N:List Str)(qual:Str)(scope:Scope)(f:Addr)(cd:Value)(A:Around)(outer:List Env)(s:Shared)(H:Hp)(E:XK):Cx where
 prog:=P
 w:=w
 K:=K
 mg:=mg
 base:=base
 A:=A.deeper (envOfC qual scope s.heap.objs.size f cd)
 N:=N
 s₀:=s
 H₀:=H
 env:=envOfC qual scope s.heap.objs.size f cd
 outer:=outer
 stack:=envOfC qual scope s.heap.objs.size f cd::outer
 ex:=[]
 calm:=true
 fn:=fun _=>true
 pn:=[]
 xe:=fun e s'=>wpAny (model P w) (A.deeper (envOfC qual scope s.heap.objs.size f cd)) (leaving (envOfC qual scope s.heap.objs.size f cd) e) (fun _ s''=>CX outer H s E e s'') (fun e' s''=>CX outer H s E e' s'') s'
theorem zhO{sc:Scope}{n:Nat}{x:Str}(h:sc.names.lookup x=some .cell):∃c,(cellsFrom n sc.names []).lookup x=some c:=by
 have q:=PySem.W.cellsFrom_some sc.names n [] (.inl h)
 exact vU.mp q
theorem zju{CX:CXT}{P:Program}{w:World}{K:tU}{mg:Str->Option Value}{base:Heap}{N ps:List Str}{qual:Str}{scope:Scope}{f:Addr}{cd:Value}{A:Around}{outer:List Env}{s s1:Shared}{H:Hp}{E:XK}{us:List Value}{vs:List V}
  (S:FnScope N ps scope) (hd:A.handled=none) (e0:Env0 P w K mg base A outer s H) (hl:vs.length=ps.length) (r:Vals vs us)
  (x:InCallC s s.heap.objs.size (bindL (envOfC qual scope s.heap.objs.size f cd).kindOf (ps.zip us) fun _=>none) (cellsFrom (s.heap.objs.size+1) scope.names []) (bindC (envOfC qual scope s.heap.objs.size f cd).kindOf (ps.zip us) fun _=>none) s1):
  Inv (cxOf CX P w K mg base N qual scope f cd A outer s H E) [] (start N vs) H s1:=by
 have hpl:ps.length<=N.length:=by have:=congrArg List.length S.pre;rw[yY] at this;lia
 obtain⟨h1,tk,rfl,hk⟩:=x.done
 have noA:∀b:Addr,b ∉ (cxOf CX P w K mg base N qual scope f cd A outer s H E).ex:=fun b z=>absurd (show b∈([]:List Addr) from z) (by simp)
 refine⟨⟨e0.mod,S.kind,rfl,rfl,yO _,fun y z c h1 h2=>?_,fun y hy=>?_,fun y c _ h=>?_,fun _=>hd,Around.frames_deeper e0.frames,.inr ⟨rfl,rfl⟩,fun b z=>absurd z (noA b),e0.bs,e0.bsz,fun b _ _=>noA b,fun b z=>absurd z (noA b),e0.funs,e0.frf⟩,
  rfl,e0.bare,Un.kept hk,⟨_,x.toInCall.ns,fun i y v h1 h2 h3=>?_⟩,fun y c h=>⟨_,x.cell y c h⟩,e0.hok.fresh (yO _),fun y c h=>?_,fun p hp=>absurd (show p∈([]:List (Addr×Obj)) from hp) (by simp),e0.hok.kept hk,?_⟩
 ·exact name_of_addr x.apart (PySem.mem_of_lookup h1) (PySem.mem_of_lookup h2)
 ·have hy:scope.names.lookup y=some .cell\/scope.names.lookup y=some .free:=hy
  rcases hy with hy|hy
  ·exact zhO hy
  ·exact absurd rfl (S.nofree _ (PySem.mem_of_lookup hy))
 ·exact wO (x.above y c (PySem.mem_of_lookup h))
 ·have hi:i<vs.length:=by
   unfold start at h2
   by_cases hi:i<vs.length
   ·exact hi
   ·rw[yL (by simpa using hi)] at h2
    rw[vH] at h2
    split at h2<;>cases h2
  have ha:vs[i]?=some v:=by
   unfold start at h2
   rw[yP (by simpa using hi),yN] at h2
   cases e:vs[i]? with
   |none=>rw[e] at h2;cases h2
   |some a=>rw[e] at h2;cases h2;rfl
  obtain⟨u,hu,rv⟩:=r.get ha
  have hp:ps[i]?=some y:=by
   rw[←S.pre,List.getElem?_take_of_lt (by lia)];exact h1
  have ndP:ps.Nodup:=by rw[←S.pre];exact S.nd.sublist (List.take_sublist _ _)
  refine⟨u,rv,?_⟩
  rcases S.par y (xB hp) with k|k
  ·exact .inl ⟨k,zgn ndP hp hu k⟩
  ·obtain⟨c,e⟩:=zhO (n:=s.heap.objs.size+1) k
   refine .inr ⟨.inl k,c,e,?_⟩
   have q:=x.cell y c e
   rw[zgo ndP hp hu (by show scope.names.lookup y≠_;rw[k];decide)] at q
   exact q
 ·exact e0.hok.fresh (wO (x.above y c (PySem.mem_of_lookup h)))
 ·unfold start
  show _=N.length
  rw[yC,yA,xK]
  lia
theorem zoN{CX:CXT}{P:Program}{w:World}{K:tU}{mg:Str->Option Value}{base:Heap}{k:Nat}{f:Addr}{name qual:Str}{params:Arguments}{body:List Stmt}{scope:Scope}{dV kV doc pm cdv ct oc:Value}{an od:Option Addr}
  {osl:Array (Option Value)}{N ps:List Str}{sp:Sp} (lk:K.lookup f=some ⟨oc,od,.func (fnOf name qual params body scope dV kV doc pm an cdv ct),osl⟩) (hcd:codeIn K cdv qual=true) (S:FnScope N ps scope)
  (len:∀vs H Q E,sp vs H Q E->vs.length=ps.length)
  (hbody:∀(A:Around)(outer:List Env)(s:Shared)(H:Hp)(vs:List V)(Q:VK)(E:XK),Room k (A.deeper (envOfC qual scope s.heap.objs.size f cdv))->sp vs H Q E->
   ∃t,PSs (cxOf CX P w K mg base N qual scope f cdv A outer s H E) body t/\t {nx:=fun _ H'=>Q .non H',rt:=Q} (start N vs) H):
  FnOk P w K mg base CX (k+1) f (fnOf name qual params body scope dV kV doc pm an cdv ct) ps sp:=by
 refine⟨len,fun A outer s H args us vs Q E hr e0 hb r hsp=>?_⟩
 have hl:=len _ _ _ _ hsp
 have KX:K.In s.heap:=e0.mod.kin.keeps fun b o e=>(e0.bs b o e).1
 have lim:s.heap.NoLimit:=e0.mod.nolimit.keeps fun b o e=>(e0.bs b o e).1
 have hkind:∀y∈ps.zip us,scope.names.lookup y.1=some .local\/(scope.names.lookup y.1=some .cell/\((cellsFrom (s.heap.objs.size+1) scope.names []).lookup y.1).isSome=true):=fun ⟨n,v⟩ hy=>by
  rcases S.par n (uA hy).1 with q|q
  ·exact .inl q
  ·exact .inr ⟨q,PySem.W.cellsFrom_some _ _ _ (.inl q)⟩
 refine codeAny_call_function hr.depth (KX _ _ lk) rfl S.co S.gen rfl (PySem.W.codeRec_of KX hcd) (hb _ _ _ _ ?_)
 refine wpAny_newFunctionEnv_cells S.kind hkind fun env he s1 x=>?_
 subst he
 refine⟨lim.keeps x.toInCall.keep,codeAny_func ?_⟩
 obtain⟨t,ht,hq⟩:=hbody A outer s H vs Q E (hr.deeper _) hsp
 have I:Inv (cxOf CX P w K mg base N qual scope f cdv A outer s H E) [] (start N vs) H s1:=zju S hr.hd e0 hl r x
 refine wpAny_mono (ht [] s1 (start N vs) H _ I hq) (fun fl s' hs=>?_) fun e s' hs=>hs
 have fin:∀{σ':St}{H':Hp}{v:V}{u:Value},Inv (cxOf CX P w K mg base N qual scope f cdv A outer s H E) [] σ' H' s'->RelV v u->Q v H'->CE outer P w H s Q u s':=
  fun {σ' H' v u} J rv q=>⟨v,H',J.os,J.bare,J.base,J.hok,rv,q⟩
 cases fl with
 |ret u=>
  obtain⟨v,σ',H',J,rv,q⟩:=hs
  exact fin J rv q
 |next=>
  obtain⟨σ',H',J,q⟩:=hs
  exact fin (v:=V.non) (u:=Value.none) J rfl q
 |brk=>
  obtain⟨_,_,_,q⟩:=hs
  exact False.elim q
 |cont=>
  obtain⟨_,_,_,q⟩:=hs
  exact False.elim q
section
variable{X:Cx}{x:Str}{p pos:Pos}{e:Expr}{es:List Expr}{t:TA}{id T:String}{r:List V->Hp->VK->Prop}
def tCB(r:List V->Hp->VK->Prop)(t:TA):TE:=fun σ H Q=>t σ H fun vs H1=>r vs H1 Q
theorem zj(hc:zaQ X (.builtin id) r)(hg:Gl X x)(hm:X.mg x=none)(hv:tK x=some (.builtin id))(ha:PA X (e::es) t)(hn:x≠"__name__":=by decide)(hdb:(x==("__debug__":Str))=false:=by decide)
  (he:tJ (e::es) X.env=(false,eval e X.env)::tJ es X.env:=by rfl) (hpl:(backTo pos (tJ es X.env)).any (·.1)=false:=by rfl):PE X (.Call (.Name x p) (e::es) [] pos) (tCB r t):=by
 intro zp s σ H Q I h
 refine wpAny_Call_Name_kw (zeZ I hg hm hv ?_ hn hdb)
 exact PyProof.Rows.callWith_builtin1 (thn (ha pos zp s σ H _ I h) fun us s1 ⟨vs,H1,I1,r1,q1⟩=>hc zp s1 σ H1 vs us Q I1 r1 q1) he hpl
theorem zD(hc:zaQ X (.type T) r)(hg:Gl X x)(hm:X.mg x=none)(hv:tK x=some (.type T))(ha:PA X (e::es) t)(hn:x≠"__name__":=by decide)(hdb:(x==("__debug__":Str))=false:=by decide)
  (he:tJ (e::es) X.env=(false,eval e X.env)::tJ es X.env:=by rfl) (hpl:(backTo pos (tJ es X.env)).any (·.1)=false:=by rfl):PE X (.Call (.Name x p) (e::es) [] pos) (tCB r t):=by
 intro zp s σ H Q I h
 refine wpAny_Call_Name_kw (zeZ I hg hm hv ?_ hn hdb)
 exact PyProof.Rows.callWith_type1 (thn (ha pos zp s σ H _ I h) fun us s1 ⟨vs,H1,I1,r1,q1⟩=>hc zp s1 σ H1 vs us Q I1 r1 q1) he hpl
end
section
variable{κ:Type}[DecidableEq κ]
noncomputable def valV(kvs:List (κ×V))(k:κ):Option V:=(kvs.find? fun kv=>decide (kv.1=k)).map (·.2)
theorem zlb{p:κ×V}{r:List (κ×V)}{k:κ}(e:p.1=k):valV (p::r) k=some p.2:=by simp[valV,vO,e]
theorem zlc{p:κ×V}{r:List (κ×V)}{k:κ}(e:¬p.1=k):valV (p::r) k=valV r k:=by simp[valV,vO,e]
theorem RelO.isSome_eq{o:Option V}{u:Option Value}(r:RelO o u):o.isSome=u.isSome:=by
 cases o with
 |none=>cases u with
  |none=>rfl
  |some _=>exact (show False from r).elim
 |some _=>cases u with
  |none=>exact (show False from r).elim
  |some _=>rfl
theorem RelO.getD{o:Option V}{u:Option Value}{d:V}{d':Value}(r:RelO o u)(rd:RelV d d'):RelV (o.getD d) (u.getD d'):=by
 cases o with
 |none=>cases u with
  |none=>exact rd
  |some _=>exact (show False from r).elim
 |some _=>cases u with
  |none=>exact (show False from r).elim
  |some _=>exact r
theorem KV.val{kvs:List (κ×V)}{vs:List (κ×Value)}(r:KV kvs vs)(k:κ):RelO (valV kvs k) (valueAt vs k):=by
 unfold KV at r
 induction r with
 |nil=>exact True.intro
 | @cons p q ps qs h t ih=>
  obtain⟨h1,h2⟩:=h
  by_cases e:p.1=k
  ·have e':q.1=k:=h1.symm.trans e
   have b:valueAt (q::qs) k=some q.2:=by simp[valueAt,vO,e']
   rw[zlb e,b];exact h2
  ·have e':¬q.1=k:=fun z=>e (h1.trans z)
   have b:valueAt (q::qs) k=valueAt qs k:=by simp[valueAt,vO,e']
   rw[zlc e,b];exact ih
end
theorem zld{P:Program}{w:World}{k:Key}{u:Value}(r:RelV (kV k) u):(Zl P w).is k u=true:=by
 cases k with
 |inl i=>obtain⟨t,e⟩:=(show ∃t,u=Value.int i t from r);subst e;exact zg4 P w i t
 |inr x=>obtain⟨t,e⟩:=(show ∃t,u=Value.str x t from r);subst e;exact ZS P w x t
section
variable{P:Program}{w:World}{H:Hp}{h:Heap}{a:Addr}
end
section
variable{X:Cx}{zp:List (Addr×Obj)}{σ:St}{H:Hp}{s:Shared}{a:Addr}{y v:V}{u r:Value}{o:Option V}{A:Around}{E:Value->Shared->Prop}
end
section
variable{X:Cx}{zp:List (Addr×Obj)}{σ:St}{H:Hp}{s:Shared}{a:Addr}{kvs:List (Key×V)}{k:Key}{u:Value}{A:Around}{E:Value->Shared->Prop}
end
section
variable{X:Cx}{o i e value:Expr}{pos pos' tpos:Pos}{td ty tv:TE}
end
section
variable{X:Cx}{pos:Pos}
end
structure M2(X:Cx)(o:Expr)(m:Str)(apos:Pos)(e f:Expr)(cpos:Pos):Prop where
 base:attributeBase o m X.env (eval o X.env)=eval o X.env
 few:((backTo cpos (tJ [e,f] X.env)).all (fun x=>!x.1)&&(backToKw cpos (keywordEach [] X.env)).all (fun x=>x.1.isSome)
  && decide (([e,f]:List Expr).length+([]:List Keyword).length+(if ([]:List Keyword).isEmpty then 0 else 1)<30))=true
 line:(apos.endLine==cpos.line)=true
 trees:backTo cpos (tJ [e,f] X.env)=[(false,eval e X.env),(false,eval f X.env)]
section
variable{X:Cx}{zp:List (Addr×Obj)}{σ:St}{H:Hp}{s:Shared}{a:Addr}{y d:V}{u r:Value}{o:Option V}{A:Around}{E:Value->Shared->Prop}
end
section
variable{X:Cx}{o e f:Expr}{apos cpos:Pos}{td ty tx:TE}
end
section
variable{X:Cx}{zp:List (Addr×Obj)}{σ:St}{H:Hp}{s:Shared}{a:Addr}{kvs:List (Key×V)}{A:Around}{E:Value->Shared->Prop}
end
section
variable{X:Cx}{zp:List (Addr×Obj)}{σ:St}{H:Hp}{s:Shared}{a:Addr}{y:V}{u:Value}{A:Around}{E:Value->Shared->Prop}
end
end L2
namespace HT
open PySem PyProof.Rows
section
open PySem.SeqAt
open PySem.AutoSeq1 (wpAny_loadPart')
open PySem.MeetsSeq PySem.MeetsSeq2 PySem.MeetsSeq3
end
section
variable{prog:Program}{w:World}{A:Around}{E:Value->Shared->Prop}{s:Shared}
theorem cat_tup{t b:Addr}{vs ws:List Value}{Q:Value->Shared->Prop}(ht:IsTup s.heap t vs.toArray)(hb:IsTup s.heap b ws.toArray)(hv:vs≠[])
  (h1:ws=[]->Q (.ref t) s) (h2:ws≠[]->Q (.ref s.heap.objs.size) {s with heap:=s.heap.push {cls:=.type "tuple",data:=.seq (vs++ws).toArray}})
  (hsz:vs.length+ws.length<=tH):wpAny (model prog w) A (binaryOp .Add (.ref t) (.ref b)) Q E s:=by
 obtain⟨⟨cls,dd,data,sl⟩,ho,hc,n,hd⟩:=id ht
 obtain⟨⟨cls2,dd2,data2,sl2⟩,ho2,hc2,n2,hd2⟩:=id hb
 simp only at hc hd hc2 hd2
 subst hc hd hc2 hd2
 have e:vs.toArray++ws.toArray=(vs++ws).toArray:=by simp
 by_cases hw:ws=[]
 ·exact concat_meets ⟨_,ho,rfl⟩ ⟨_,ho2,rfl⟩ noFill_tuple_add seq_tuple_add PySem.F.slot_tuple_add PySem.F.entry_tuple_add (PySem.F.args_tuple_add_2 _ _)
   (tuple_addW1 t b vs.toArray ws.toArray n n2 dd dd2 sl sl2 (by simpa using hv) (by simp[hw])) ⟨ho,ho2,h1 hw⟩
 ·refine concat_meets ⟨_,ho,rfl⟩ ⟨_,ho2,rfl⟩ noFill_tuple_add seq_tuple_add PySem.F.slot_tuple_add PySem.F.entry_tuple_add (PySem.F.args_tuple_add_2 _ _)
   (tuple_addW2 t b vs.toArray ws.toArray n n2 dd dd2 sl sl2 (by simpa using hv) (by simpa using hw) (by rw[yI,yI];exact hsz)) ⟨ho,ho2,?_⟩
  rw[e]
  exact h2 hw
noncomputable def sIx(n d:Nat):Option Int->Nat
 |none=>d
 |some v=>if v<0 then (v+(n:Int)).toNat else min v.toNat n
theorem sIx_none(n d:Nat):sIx n d none=d:=rfl
theorem sIx_nat(n d k:Nat):sIx n d (some (k:Int))=min k n:=by
 show (if (k:Int)<0 then ((k:Int)+(n:Int)).toNat else min (k:Int).toNat n)=min k n
 rw[if_neg (by lia),vI]
theorem znU(n d:Nat)(hd:d<=n)(o:Option Int):sIx n d o<=n:=by
 cases o with
 |none=>exact hd
 |some v=>
  show (if v<0 then (v+(n:Int)).toNat else min v.toNat n)<=n
  by_cases hv:v<0
  ·rw[if_pos hv];lia
  ·rw[if_neg hv];exact Nat.min_le_right _ _
theorem zjv(v:Int)(n d:Nat):(if v<0 then max (v+(n:Int)) 0 else min v (n:Int))=((sIx n d (some v):Nat):Int):=by
 show (if v<0 then max (v+(n:Int)) 0 else min v (n:Int))=(((if v<0 then (v+(n:Int)).toNat else min v.toNat n):Nat):Int)
 by_cases hv:v<0
 ·simp only[if_pos hv];lia
 ·simp only[if_neg hv];lia
theorem ziC(lo hi:Option Int)(n:Nat):Builtin.Slice.sliceAdjust lo hi 1 (n:Int)=(((sIx n 0 lo:Nat):Int),((sIx n n hi:Nat):Int)):=by
 have h1:¬((1:Int)<0):=by lia
 unfold Builtin.Slice.sliceAdjust
 simp only[h1,if_false]
 refine Prod.ext ?_ ?_
 ·cases lo with
  |none=>rfl
  |some v=>exact zjv v n 0
 ·cases hi with
  |none=>rfl
  |some v=>exact zjv v n n
theorem ziD(i j:Nat):Builtin.Slice.slicePlaces (i:Int) (j:Int) 1=j-i:=by
 unfold Builtin.Slice.slicePlaces
 have h1:(1:Int) > 0:=by lia
 simp only[h1,if_true,Int.ediv_one]
 split<;>lia
theorem ze1{v:Value}{o:Option Int}{Q:Option Int->Shared->Prop}(p:IsPart v o)(h:Q o s):wpAny (model prog w) A (Builtin.Slice.slicePartIndex v) Q E s:=by
 cases p with
 |none=>exact slicePart_none h
 |int i t=>exact slicePart_int h
theorem zdr{sl:Addr}{vl vu:Value}{lo hi:Option Int}{n:Nat}{Q:Int×Int×Nat->Shared->Prop}(hs:s.heap.IsSliceOf sl vl vu .none)(pl:IsPart vl lo)(pu:IsPart vu hi)
  (h:Q (((sIx n 0 lo:Nat):Int),1,sIx n n hi-sIx n 0 lo) s):wpAny (model prog w) A (Builtin.Slice.sliceApplied (.ref sl) (pure (n:Int))) Q E s:=by
 obtain⟨os,hos,hcs,hds⟩:=id hs
 unfold Builtin.Slice.sliceApplied Builtin.Slice.sliceFields
 refine uW (uW (wpAny_field hos hds (x:=vl) rfl (uW (wpAny_field hos hds (x:=vu) rfl (uW (wpAny_field hos hds (x:=.none) rfl (uX ?_)))))))
 refine uW (slicePart_none ?_)
 show wpAny _ _ (if ((1:Int)==0)=true then _ else _) _ _ s
 rw[if_neg (by decide)]
 refine uW (ze1 pl (uW (ze1 pu (uW (uX ?_)))))
 show wpAny _ _ (match Builtin.Slice.sliceAdjust lo hi 1 (n:Int) with|(lo,hi)=>pure (lo,(1:Int),Builtin.Slice.slicePlaces lo hi 1)) _ _ s
 rw[ziC lo hi n]
 show wpAny _ _ (pure (((sIx n 0 lo:Nat):Int),(1:Int),Builtin.Slice.slicePlaces ((sIx n 0 lo:Nat):Int) ((sIx n n hi:Nat):Int) 1)) _ _ s
 rw[ziD]
 exact uX h
theorem zle(xs:Array Value)(i k:Nat):((wK k).filterMap fun (m:Nat)=>xs[((i:Int)+(m:Int)*1).toNat]?).toArray=((xs.toList.drop i).take k).toArray:=by
 have e:(fun (m:Nat)=>xs[((i:Int)+(m:Int)*1).toNat]?)=fun m=>xs[i+m]?:=by
  funext m
  have:((i:Int)+(m:Int)*1).toNat=i+m:=by lia
  rw[this]
 rw[e]
 have:=pick_run xs i k
 rw[List.filterMap_map] at this
 have e2:((fun x=>xs[x]?)∘fun x=>i+x)=fun m=>xs[i+m]?:=rfl
 rw[e2] at this
 rw[this]
theorem getItem_tuple_cut{t sl:Addr}{items:Array Value}{vl vu:Value}{lo hi:Option Int}{Q:Value->Shared->Prop}(ht:IsTup s.heap t items)(hs:s.heap.IsSliceOf sl vl vu .none)(pl:IsPart vl lo)(pu:IsPart vu hi)
  (hw:¬(sIx items.size 0 lo=0/\sIx items.size items.size hi=items.size))
  (h:Q (.ref s.heap.objs.size) {s with heap:=s.heap.push {cls:=.type "tuple",data:=.seq ((items.toList.drop (sIx items.size 0 lo)).take (sIx items.size items.size hi-sIx items.size 0 lo)).toArray}})
  (hsz:items.size<=tH):wpAny (model prog w) A (getItem (.ref t) (.ref sl)) Q E s:=by
 have htake:sizeOk (.seq ((items.toList.drop (sIx items.size 0 lo)).take (sIx items.size items.size hi-sIx items.size 0 lo)).toArray):=by
  show ((items.toList.drop (sIx items.size 0 lo)).take (sIx items.size items.size hi-sIx items.size 0 lo)).toArray.size<=tH
  rw[yI,yY,vD,xR]
  lia
 have hj:sIx items.size items.size hi<=items.size:=znU _ _ (yO _) hi
 obtain⟨os,hos,hcs,hds⟩:=id hs
 have hTs:s.TypeIs (.ref sl) "slice":=⟨os,hos,hcs⟩
 unfold getItem
 try with_reducible refine wpAny_holding ?_
 first|refine uW (uX ?_)|skip
 refine uW (wpAny_sequenceKey ht.typeIs (by decide) ?_)
 refine uW (wpAny_callSpecial?_slot (name:=uV "__getitem__") ht.typeIs PyProof.Rows.slot_tuple_getitem
  (wpAny_call_entry PyProof.Rows.slot_tuple_getitem ht.typeIs entry_tuple_getitem ?_ (args_tuple_getitem _ _)))
 show wpAny _ _ (Builtin.Tuple.tupleItemsOf (.ref t)>>=_) _ _ s
 refine uW (tupleItemsOf_ ht ?_)
 refine uW (wpAny_typeOf hTs ?_)
 rw[if_pos (by decide)]
 refine uW (zdr hs pl pu ?_)
 have hno:¬((((sIx items.size 0 lo:Nat):Int)==0&&(1:Int)==1&&(sIx items.size items.size hi-sIx items.size 0 lo)==items.size)=true):=by
  intro q
  rw[yZ,yZ] at q
  have q1:((sIx items.size 0 lo:Nat):Int)=0:=eq_of_beq q.1.1
  have q2:sIx items.size items.size hi-sIx items.size 0 lo=items.size:=eq_of_beq q.2
  exact hw ⟨by lia,by lia⟩
 show wpAny _ _ (if (((sIx items.size 0 lo:Nat):Int)==0&&(1:Int)==1&&(sIx items.size items.size hi-sIx items.size 0 lo)==items.size)=true then _ else _) _ _ s
 rw[if_neg hno,zle]
 first
  |exact uW (m:=Builtin.Tuple.tupleExact _) (tI (uX ⟨_,rfl,uX h⟩) htake)
  |exact uW (m:=Builtin.Tuple.tupleExact _) (tI (uW (uX (uX ⟨_,rfl,uX h⟩))) htake)
  |exact uW (uW (m:=Builtin.Tuple.tupleExact _) (tI (uX (uX ⟨_,rfl,uX h⟩)) htake))
  |exact uW (uW (m:=Builtin.Tuple.tupleExact _) (tI (uX ⟨_,rfl,uX h⟩) htake))
end
end HT
namespace L2
open PySem PySem.Spec PyProof.Rows
abbrev TO:=St->Hp->(Option Int->Hp->Prop)->Prop
def PO(X:Cx)(e:Option Expr)(t:TO):Prop:=
 ∀(zp:List (Addr×Obj))(s:Shared)(σ:St)(H:Hp)(Q:Option Int->Hp->Prop),Inv X zp σ H s->t σ H Q->
  wpAny (model X.prog X.w) X.A (evalPart e X.env) (fun u s'=>∃o H',Inv X zp σ H' s'/\IsPart u o/\Q o H') X.xe s
def zjw:TO:=fun _ H Q=>Q none H
inductive i_tPart(Q:Option Int->Hp->Prop)(x:V)(H1:Hp):Prop
 |mk (i:_) (_:x=.int i) (_:Q (some i) H1)
def znV(t:TE):TO:=fun σ H Q=>t σ H fun x H1=>i_tPart Q x H1
section
variable{X:Cx}{e:Expr}{te:TE}{lo hi:Option Expr}{tl th:TO}{pos p2:Pos}
theorem zaR:PO X none zjw:=by
 intro zp s σ H Q I h
 rw[evalPart_none]
 exact uX ⟨none,H,I,.none,h⟩
theorem Zn(h:PE X e te):PO X (some e) (znV te):=by
 intro zp s σ H Q I hw
 rw[evalPart_some]
 refine thn (h zp s σ H _ I hw) fun u s1 ⟨x,H1,I1,r1,q1⟩=>?_
 obtain⟨i,rfl,q⟩:=q1
 obtain⟨t,rfl⟩:=r1
 exact⟨some i,H1,I1,.int i t,q⟩
def SlR(X:Cx)(r:V->Option Int->Option Int->Hp->VK->Prop):Prop:=
 ∀(zp:List (Addr×Obj))(s:Shared)(σ:St)(H:Hp)(x:V)(v vl vu:Value)(lo hi:Option Int)(sl:Addr)(Q:VK),Inv X zp σ H s->RelV x v->s.heap.IsSliceOf sl vl vu .none->IsPart vl lo->IsPart vu hi->r x lo hi H Q->
  ∃T id,typeLookup (.type T) "__getitem__"=pure (some (.builtin id))/\s.TypeIs v T/\wpAny (model X.prog X.w) X.A (getItem v (.ref sl)) (EP X zp σ Q) X.xe s
def tSl(r:V->Option Int->Option Int->Hp->VK->Prop)(te:TE)(tl th:TO):TE:=fun σ H Q=>te σ H fun x H1=>tl σ H1 fun l H2=>th σ H2 fun u H3=>r x l u H3 Q
theorem Zv{r:V->Option Int->Option Int->Hp->VK->Prop}(hr:SlR X r)(he:PE X e te)(hl:PO X lo tl)(hu:PO X hi th):PE X (.Subscript e (.Slice lo hi none p2) pos) (tSl r te tl th):=by
 intro zp s σ H Q I h
 refine Subscript_ (thn (he zp s σ H _ I h) fun v s1 ⟨x,H1,I1,r1,q1⟩=>?_)
 refine wpAny_Slice (thn (hl zp s1 σ H1 _ I1 q1) fun vl s2 ⟨l,H2,I2,pl,q2⟩=>thn (hu zp s2 σ H2 _ I2 q2) fun vu s3 ⟨u,H3,I3,pu,q3⟩=>?_)
 rw[evalPart_none]
 refine uX ?_
 have I4:Inv X zp σ H3 {s3 with heap:=s3.heap.push {cls:=.type "slice",data:=.fields #[vl,vu,.none]}}:=I3.kept (t':=s3.toks) fun b ob q=>uY _ q
 obtain⟨T,id,hT,ht,hg⟩:=hr zp {s3 with heap:=s3.heap.push {cls:=.type "slice",data:=.fields #[vl,vu,.none]}} σ H3 x v vl vu l u s3.heap.objs.size Q I4 r1 (Heap.IsSliceOf.new ..) pl pu q3
 show wpAny (model X.prog X.w) X.A (subscriptTail e (.Slice lo hi none p2) v (.ref s3.heap.objs.size)) (EP X zp σ Q) X.xe {s3 with heap:=s3.heap.push {cls:=.type "slice",data:=.fields #[vl,vu,.none]}}
 exact tail_any (ops:=[.ref s3.heap.objs.size,v]) ht hT hg (by with_unfolding_all rfl)
noncomputable def cutV(xs:List V)(lo hi:Option Int):List V:=(xs.drop (HT.sIx xs.length 0 lo)).take (HT.sIx xs.length xs.length hi-HT.sIx xs.length 0 lo)
theorem zdW(xs:List V)(lo hi:Option Int):(cutV xs lo hi).length<=xs.length:=by
 unfold cutV
 rw[yY,vD]
 lia
inductive rSlT(K:tU)(x:V)(lo hi:Option Int)(H:Hp)(Q:VK):Prop
 |mk (a xs:_) (_:x=.ref a/\SqT K H a xs/\¬(HT.sIx xs.length 0 lo=0/\HT.sIx xs.length xs.length hi=xs.length)/\∀p,H p=none->Q (.ref p) (upd H p (.tup (cutV xs lo hi))))
theorem zcv:SlR X (rSlT X.K):=by
 intro zp s σ H x v vl vu lo hi sl Q I rx hs pl pu h
 obtain⟨a,xs,rfl,hx,hw,q⟩:=h
 cases rx
 obtain⟨its,r,ht,hz⟩:=I.tuple hx
 have hlen:its.toArray.size=xs.length:=by rw[yI];exact r.length.symm
 refine⟨"tuple",_,PyProof.Rows.slot_tuple_getitem.lookup,ht.typeIs,?_⟩
 refine HT.getItem_tuple_cut ht hs pl pu (by rw[hlen];exact hw) ?_ (by rw[hlen];exact hz)
 rw[hlen]
 refine⟨.ref s.heap.objs.size,_,I.laid (t':=s.toks) (o:=.tup (cutV xs lo hi)) (fun b ob q=>uY _ q) (yO _) ?_,rfl,q _ (I.hok.fresh (yO _))⟩
 exact⟨yQ (zdW xs lo hi) hz,_,(r.drop (HT.sIx xs.length 0 lo)).take (HT.sIx xs.length xs.length hi-HT.sIx xs.length 0 lo),IsTup.new _ _⟩
inductive rCatT(K:tU)(x y:V)(H:Hp)(Q:VK):Prop
 |mk (a b xs ys:_) (_:x=.ref a) (_:y=.ref b) (_:SqT K H a xs) (_:SqT K H b ys) (_:xs≠[]) (_:xs.length+ys.length<=tH) (_:(ys=[]->Q (.ref a) H)) (_:(ys≠[]->∀p,H p=none->Q (.ref p) (upd H p (.tup (xs++ys)))))
theorem Vals.nil_iff{xs:List V}{us:List Value}(r:Vals xs us):us=[] ↔ xs=[]:=by
 cases r with
 |nil=>simp
 |cons _ _=>simp
theorem zb6:OpR X (binaryOp .Add) (rCatT X.K):=by
 intro zp s σ H x y v u Q I rx ry h
 obtain⟨a,b,xs,ys,rfl,rfl,ha,hb,hx,hz,q1,q2⟩:=h
 cases rx
 cases ry
 obtain⟨its,r1,p1,_⟩:=I.tuple ha
 obtain⟨its2,r2,p2,_⟩:=I.tuple hb
 refine HT.cat_tup p1 p2 (fun z=>hx (r1.nil_iff.mp z)) (fun z=>⟨.ref a,H,I,rfl,q1 (r2.nil_iff.mp z)⟩) (fun z=>?_) (by rw[←r1.length,←r2.length];exact hz)
 refine⟨.ref s.heap.objs.size,_,I.laid (t':=s.toks) (o:=.tup (xs++ys)) (fun b ob q=>uY _ q) (yO _) ?_,rfl,q2 (fun w=>z (r2.nil_iff.mpr w)) _ (I.hok.fresh (yO _))⟩
 exact⟨by rw[yC];exact hz,_,r1.append r2,IsTup.new _ _⟩
end
noncomputable def ixN(n:Nat)(i:Int):Option Nat:=if 0<=i then (if i<n then some i.toNat else none) else if -(n:Int)<=i then some (i+n).toNat else none
def atI{α:Type}(xs:List α)(i:Int):Option α:=(ixN xs.length i).bind fun j=>xs[j]?
theorem zjx{n:Nat}{i:Int}{j:Nat}(h:ixN n i=some j):seqIndex? i n=some j/\j<n/\-(n:Int)<=i/\i<n:=by
 unfold ixN at h
 by_cases h0:0<=i
 ·rw[if_pos h0] at h
  by_cases h1:i<n
  ·rw[if_pos h1] at h
   have e:i.toNat=j:=Option.some.inj h
   exact⟨by rw[seqIndex_of h0 h1,e],by lia,by lia,h1⟩
  ·rw[if_neg h1] at h;cases h
 ·rw[if_neg h0] at h
  by_cases h1:-(n:Int)<=i
  ·rw[if_pos h1] at h
   have e:(i+n).toNat=j:=Option.some.inj h
   exact⟨by rw[seqIndex_neg (by lia) h1,e],by lia,h1,by lia⟩
  ·rw[if_neg h1] at h;cases h
theorem zg6{α:Type}{xs:List α}{i:Int}{v:α}(h:atI xs i=some v):∃j,seqIndex? i xs.length=some j/\xs[j]?=some v/\j<xs.length/\-(xs.length:Int)<=i/\i<xs.length:=by
 unfold atI at h
 cases e:ixN xs.length i with
 |none=>rw[e] at h;cases h
 |some j=>
  rw[e] at h
  obtain⟨h1,h2,h3,h4⟩:=zjx e
  exact⟨j,h1,h,h2,h3,h4⟩
theorem zS{α:Type}{xs:List α}{j:Nat}{v:α}(h:xs[j]?=some v):atI xs (j:Int)=some v:=by
 have hj:j<xs.length:=(yE.mp h).1
 have e:ixN xs.length (j:Int)=some j:=by
  unfold ixN
  rw[if_pos (by lia),if_pos (by lia)];simp
 unfold atI;rw[e];exact h
theorem zfq{α:Type}(xs:List α)(v:α):atI (xs++[v]) (-1)=some v:=by
 have hl:(xs++[v]).length=xs.length+1:=by simp
 have e:ixN (xs++[v]).length (-1)=some xs.length:=by
  unfold ixN
  rw[hl,if_neg (by decide),if_pos (by lia)]
  congr 1
  lia
 unfold atI
 rw[e]
 show (xs++[v])[xs.length]?=some v
 simp
def zjy(b:Expr):Prop:=∀o i,subscripted b false o i=operate [o,i] (getItem o i)
def IxR(X:Cx)(r:R2):Prop:=
 ∀(value slice:Expr)(zp:List (Addr×Obj))(s:Shared)(σ:St)(H:Hp)(x y:V)(v u:Value)(Q:VK),Inv X zp σ H s->RelV x v->RelV y u->r x y H Q->
  subscripted slice false v u=operate [v,u] (getItem v u)->wpAny (model X.prog X.w) X.A (subscriptTail value slice v u) (EP X zp σ Q) X.xe s
def MtR(X:Cx)(id:String)(r:V->List V->Hp->VK->Prop):Prop:=
 ∀(zp:List (Addr×Obj))(s:Shared)(σ:St)(H:Hp)(x:V)(xs:List V)(v:Value)(us:List Value)(Q:VK),Inv X zp σ H s->RelV x v->Vals xs us->r x xs H Q->
  wpAny (model X.prog X.w) X.A (call (.builtin id) (v::us)) (EP X zp σ Q) X.xe s
section
variable{X:Cx}{a b:Expr}{ta tb:TE}{pos:Pos}
theorem zz{r:R2}(hr:IxR X r)(ha:PE X a ta)(hb:PE X b tb)(hs:zjy b):PE X (.Subscript a b pos) (tOp r ta tb):=by
 intro zp s σ H Q I h
 exact Subscript_ (binT ha hb I h fun v u s2 x y H2 I2 rx ry q=>hr a b zp s2 σ H2 x y v u Q I2 rx ry q (hs _ _))
inductive rIxL(K:tU)(x y:V)(H:Hp)(Q:VK):Prop
 |mk (p xs i v:_) (_:x=.ref p) (_:y=.int i) (_:SqL K H p xs) (_:atI xs i=some v) (_:Q v H)
inductive rIxT(K:tU)(x y:V)(H:Hp)(Q:VK):Prop
 |mk (p xs i v:_) (_:x=.ref p) (_:y=.int i) (_:SqT K H p xs) (_:atI xs i=some v) (_:Q v H)
inductive rIxS(x y:V)(H:Hp)(Q:VK):Prop
 |mk (z i c:_) (_:x=.str z) (_:y=.int i) (_:z.length<=tH) (_:atI z.cps.toList i=some c) (_:Q (.str ⟨#[c]⟩) H)
theorem Zd:IxR X (rIxL X.K):=by
 intro value slice zp s σ H x y v u Q I rx ry h hs
 obtain⟨p,xs,i,z,rfl,rfl,hq,he,q⟩:=h
 cases rx
 obtain⟨t,rfl⟩:=ry
 obtain⟨its,r,pl,hz⟩:=I.list hq
 obtain⟨j,h1,h2,h3,h4,h5⟩:=zg6 he
 obtain⟨w,ew,rw'⟩:=r.get h2
 have hl:=r.length
 have hn:=zgg
 have fin:EP X zp σ Q w s:=⟨z,H,I,rw',q⟩
 by_cases h0:0<=i
 ·have hj:i.toNat=j:=by
   rw[seqIndex_of h0 h5] at h1
   exact Option.some.inj h1
  exact item_listR pl.isList h0 (by lia) (by rw[hj];simpa using ew) fin hs
 ·have hj:(i+(its.toArray.size:Int)).toNat=j:=by
   rw[seqIndex_neg (by lia) h4] at h1
   rw[yI,←hl]
   exact Option.some.inj h1
  exact subscriptTail_builtinR (x:=w) pl.isList.typeIs slot_list_getitem.lookup
   (wpAny_getItem_list_neg (Q:=fun r s'=>r=w/\EP X zp σ Q r s') pl.isList (by lia) (by rw[yI]<;>lia) (by lia) (by rw[hj];simpa using ew) ⟨rfl,fin⟩) hs
theorem zw:IxR X (rIxT X.K):=by
 intro value slice zp s σ H x y v u Q I rx ry h hs
 obtain⟨p,xs,i,z,rfl,rfl,hq,he,q⟩:=h
 cases rx
 obtain⟨t,rfl⟩:=ry
 obtain⟨its,r,pl,hz⟩:=I.tuple hq
 obtain⟨j,h1,h2,h3,h4,h5⟩:=zg6 he
 obtain⟨w,ew,rw'⟩:=r.get h2
 have hl:=r.length
 have hn:=zgg
 have fin:EP X zp σ Q w s:=⟨z,H,I,rw',q⟩
 exact subscriptTail_builtinR (x:=w) pl.typeIs slot_tuple_getitem.lookup
  (getItem_tuple (j:=j) (Q:=fun r s'=>r=w/\EP X zp σ Q r s') pl (by lia) (by lia) (by rw[yI,←hl];exact h1) (by simpa using ew) ⟨rfl,fin⟩) hs
theorem ze2:IxR X rIxS:=by
 intro value slice zp s σ H x y v u Q I rx ry h hs
 obtain⟨z,i,c,rfl,rfl,hz,he,q⟩:=h
 obtain⟨t,rfl⟩:=rx
 obtain⟨t',rfl⟩:=ry
 obtain⟨j,h1,h2,h3,h4,h5⟩:=zg6 he
 have hl:z.cps.toList.length=z.length:=by simp[Str.length]
 rw[hl] at h1 h4 h5
 have hn:=zgg
 exact tail_any (typeIs_str s z t) slot_str_getitem.lookup (getItem_str (c:=c) (by
  have e1:decide (i < -(2 ^ 63:Int))=false:=decide_eq_false (by lia)
  have e2:decide (i ≥ 2 ^ 63)=false:=decide_eq_false (by lia)
  rw[e1,e2,Bool.or_false]) (by rw[h1];simpa using h2) ⟨.str ⟨#[c]⟩,H,I.tok _,⟨_,rfl⟩,q⟩) hs
theorem ziE(its:List Value)(n j:Nat)(u:Value):Obj.mapSeq (·.setIfInBounds j u) {cls:=.type "list",data:=.seq its.toArray n}={cls:=.type "list",data:=.seq (its.set j u).toArray n}:=by
 simp[Obj.mapSeq]
theorem Inv.lst{zp:List (Addr×Obj)}{σ:St}{H:Hp}{s:Shared}{p:Addr}{xs:List V}(I:Inv X zp σ H s)(h:H p=some (.lst xs)):
  ∃(its:List Value)(n:Nat),Vals xs its/\s.heap.get? p=some {cls:=.type "list",data:=.seq its.toArray n}/\xs.length<=tH:=by
 obtain⟨z,its,n,r,e⟩:=I.hok p _ h
 exact⟨its,n,r,e,z⟩
theorem Inv.lstUpd{zp:List (Addr×Obj)}{σ:St}{H:Hp}{s:Shared}{p:Addr}{xs ys:List V}{its its':List Value}{n n':Nat}{f:Obj->Obj}(I:Inv X zp σ H s)(h:H p=some (.lst xs))
  (ho:s.heap.get? p=some {cls:=.type "list",data:=.seq its.toArray n}) (hf:f {cls:=.type "list",data:=.seq its.toArray n}={cls:=.type "list",data:=.seq its'.toArray n'}) (r:Vals ys its') (hz:ys.length<=tH) (t:Nat):
  Inv X zp σ (upd H p (.lst ys)) {s with heap:=s.heap.update p f,toks:=t}:=by
 have e:(s.heap.update p f).get? p=some {cls:=.type "list",data:=.seq its'.toArray n'}:=by
  rw[Heap.get?_update_self f ho (by rw[hf]<;>rfl),hf]
 refine I.write (x:=p) (e:=p) (by rw[h];trivial) (.inl rfl) (fun b u hb q=>(Heap.get?_update_other _ _ (Ne.symm hb)).trans q) ⟨_,e⟩ ?_
 exact⟨hz,its',n',r,e⟩
inductive rSetL(o i v:V)(H:Hp)(Q:(Hp->Prop)):Prop
 |mk (p xs k j:_) (_:o=.ref p) (_:i=.int k) (_:H p=some (.lst xs)) (_:ixN xs.length k=some j) (_:Q (upd H p (.lst (xs.set j v))))
theorem zdI:PSet X rSetL:=by
 intro zp s σ H o i v ov iv u Q I ro ri rv h
 obtain⟨p,xs,k,j,rfl,rfl,hp,hj,q⟩:=h
 cases ro
 obtain⟨t,rfl⟩:=ri
 obtain⟨its,n,r,ho,hz⟩:=I.lst hp
 obtain⟨h1,h2,h3,h4⟩:=zjx hj
 have hl:=r.length
 have hn:=zgg
 have I':Inv X zp σ (upd H p (.lst (xs.set j v))) {s with heap:=s.heap.update p (Obj.mapSeq (·.setIfInBounds j u))}:=
  I.lstUpd hp ho (ziE its n j u) (r.set rv j) (by rw[List.length_set];exact hz) s.toks
 by_cases h0:0<=k
 ·have hk:k.toNat=j:=by
   rw[seqIndex_of h0 h4] at h1
   exact Option.some.inj h1
  exact PySem.W.ki_setAt ho h0 (by lia) (by rw[yI,←hl];exact h4) (by rw[hk];exact⟨_,I',q⟩)
 ·have hk:(k+(its.toArray.size:Int)).toNat=j:=by
   rw[seqIndex_neg (by lia) h3] at h1
   rw[yI,←hl]
   exact Option.some.inj h1
  exact PySem.W.ki_setBack ho (by lia) (by rw[yI,←hl];exact h3) (by lia) (by rw[hk];exact⟨_,I',q⟩)
theorem zgp(lo hi:Option Int)(n:Nat):(sliceBounds lo hi none n).1=((HT.sIx n 0 lo:Nat):Int)/\(sliceBounds lo hi none n).2.1=((HT.sIx n n hi:Nat):Int)/\(sliceBounds lo hi none n).2.2=1:=by
 refine⟨?_,?_,rfl⟩
 ·cases lo with
  |none=>simp[sliceBounds,HT.sIx]
  |some i=>
   simp only[sliceBounds,HT.sIx,uT,show (1:Int) > 0 by decide,if_true]
   by_cases h:i<0
   ·simp only[h,if_true]<;>lia
   ·simp only[h,if_false]<;>lia
 ·cases hi with
  |none=>simp[sliceBounds,HT.sIx]
  |some i=>
   simp only[sliceBounds,HT.sIx,uT,show (1:Int) > 0 by decide,if_true]
   by_cases h:i<0
   ·simp only[h,if_true]<;>lia
   ·simp only[h,if_false]<;>lia
theorem zfr(its:List Value)(lo hi:Option Int):slicePick its.toArray lo hi none=((its.drop (HT.sIx its.length 0 lo)).take (HT.sIx its.length its.length hi-HT.sIx its.length 0 lo)).toArray:=by
 obtain⟨h1,h2,h3⟩:=zgp lo hi its.toArray.size
 unfold slicePick
 rw[h1,h2,h3]
 simp only[sliceRange_one,pick_run,yI]<;>rfl
inductive rSlL(K:tU)(x:V)(lo hi:Option Int)(H:Hp)(Q:VK):Prop
 |mk (a xs:_) (_:x=.ref a) (_:SqL K H a xs) (_:∀p,H p=none->Q (.ref p) (upd H p (.lst (cutV xs lo hi))))
theorem zjz:SlR X (rSlL X.K):=by
 intro zp s σ H x v vl vu lo hi sl Q I rx hs pl pu h
 obtain⟨a,xs,rfl,hx,q⟩:=h
 cases rx
 obtain⟨its,r,ht,hz⟩:=I.list hx
 have hlen:=r.length
 refine⟨"list",_,slot_list_getitem.lookup,ht.isList.typeIs,?_⟩
 refine wpAny_getItem_list_slice ht.isList hs pl pu .none (by simp) ?_ (by rw[yI]<;>lia)
 rw[zfr,←hlen]
 refine⟨.ref s.heap.objs.size,_,I.laid (t':=s.toks) (o:=.lst (cutV xs lo hi)) (fun b ob q=>uY _ q) (yO _) ?_,rfl,q _ (I.hok.fresh (yO _))⟩
 exact⟨yQ (zdW xs lo hi) hz,_,0,(r.drop (HT.sIx xs.length 0 lo)).take (HT.sIx xs.length xs.length hi-HT.sIx xs.length 0 lo),tD _ rfl⟩
noncomputable def zds:V->Bool
 |.non=>true
 |.bl _=>true
 |.int _=>true
 |.str _=>true
 |_=>false
noncomputable def eqV:V->V->Bool
 |.non,.non=>true
 |.bl a,.bl b=>a==b
 |.bl a,.int b=>(if a then 1 else 0)==b
 |.int a,.bl b=>a==(if b then 1 else 0)
 |.int a,.int b=>a==b
 |.str a,.str b=>a==b
 |_,_=>false
theorem znW{A:Around}{s:Shared}{y x:V}{u v:Value}(ry:RelV y u)(rx:RelV x v)(fy:zds y=true)(fx:zds x=true):SeqAt.EqAt A s u v (eqV y x):=by
 cases y with
 |non=>
  cases ry
  cases x with
  |non=>cases rx;exact SeqAt.EqAt.same _
  |bl b=>cases rx;exact SeqAt.EqAt.none_bool b
  |int b=>obtain⟨t,rfl⟩:=rx;exact SeqAt.EqAt.none_int b t
  |str b=>obtain⟨t,rfl⟩:=rx;exact SeqAt.EqAt.none_str b t
  |_=>exact absurd (show false=true from fx) yT
 |bl a=>
  cases ry
  cases x with
  |non=>cases rx;exact SeqAt.EqAt.bool_none a
  |bl b=>cases rx;exact SeqAt.EqAt.bool_bool a b
  |int b=>obtain⟨t,rfl⟩:=rx;exact SeqAt.EqAt.bool_int a b t
  |str b=>obtain⟨t,rfl⟩:=rx;exact SeqAt.EqAt.bool_str a b t
  |_=>exact absurd (show false=true from fx) yT
 |int a=>
  obtain⟨t',rfl⟩:=ry
  cases x with
  |non=>cases rx;exact SeqAt.EqAt.int_none a t'
  |bl b=>cases rx;exact SeqAt.EqAt.int_bool a t' b
  |int b=>obtain⟨t,rfl⟩:=rx;exact SeqAt.EqAt.int_int a t' b t
  |str b=>obtain⟨t,rfl⟩:=rx;exact SeqAt.EqAt.int_str a t' b t
  |_=>exact absurd (show false=true from fx) yT
 |str a=>
  obtain⟨t',rfl⟩:=ry
  cases x with
  |non=>cases rx;exact SeqAt.EqAt.str_none a t'
  |bl b=>cases rx;exact SeqAt.EqAt.str_bool a t' b
  |int b=>obtain⟨t,rfl⟩:=rx;exact SeqAt.EqAt.str_int a t' b t
  |str b=>obtain⟨t,rfl⟩:=rx;exact SeqAt.EqAt.str_str a t' b t
  |_=>exact absurd (show false=true from fx) yT
 |_=>exact absurd (show false=true from fy) yT
def eqU(x:V)(u:Value):Bool:=match u with
 |.none=>eqV .non x
 |.bool b=>eqV (.bl b) x
 |.int i _=>eqV (.int i) x
 |.str z _=>eqV (.str z) x
 |_=>false
theorem zmh{x y:V}{u:Value}(r:RelV y u)(f:zds y=true):eqU x u=eqV y x:=by
 cases y with
 |non=>cases r;rfl
 |bl b=>cases r;rfl
 |int i=>obtain⟨t,rfl⟩:=r;rfl
 |str z=>obtain⟨t,rfl⟩:=r;rfl
 |_=>exact absurd (show false=true from f) yT
theorem zdX{x:V}:∀{xs:List V}{us:List Value},Vals xs us->xs.all zds=true->us.any (eqU x)=xs.any fun y=>eqV y x
 |_,_,.nil,_=>rfl
 |y::xs,u::us,.cons r t,f=>by
  rw[List.all_cons,yZ] at f
  rw[uO,uO,zmh r f.1,zdX t f.2]
theorem zcw{A:Around}{s:Shared}{x:V}{v:Value}(rx:RelV x v)(fx:zds x=true):∀{xs:List V}{us:List Value},Vals xs us->xs.all zds=true->∀u∈us,SeqAt.EqAt A s u v (eqU x u)
 |_,_,.nil,_=>fun u hu=>by cases hu
 |y::xs,u::us,.cons r t,f=>fun u' hu=>by
  rw[List.all_cons,yZ] at f
  rcases yG.mp hu with rfl|hu
  ·rw[zmh r f.1];exact znW r rx f.1 fx
  ·exact zcw rx fx t f.2 u' hu
def inV(x:V)(xs:List V):Bool:=xs.any fun y=>eqV y x
inductive rIn(K:tU)(neg:Bool)(x y:V)(H:Hp)(Q:VK):Prop
 |mk (p xs:_) (_:y=.ref p) (_:(SqL K H p xs\/SqT K H p xs)) (_:zds x=true) (_:xs.all zds=true) (_:Q (.bl (if neg then !inV x xs else inV x xs)) H)
theorem ZB:OpR X (tM .In) (rIn X.K false):=by
 intro zp s σ H x y v u Q I rx ry h
 obtain⟨p,xs,rfl,hq,fx,fs,q⟩:=h
 cases ry
 rcases hq with hq|hq
 ·obtain⟨its,r,pl,hz⟩:=I.list hq
  refine SeqAt.in_listAt (eqU x) pl.isList (fun w hw=>zcw rx fx r fs w (by simpa using hw)) ⟨.bl _,H,I,rfl,?_⟩
  rw[show its.toArray.any (eqU x)=its.any (eqU x) by simp,zdX r fs]
  exact q
 ·obtain⟨its,r,pl,hz⟩:=I.tuple hq
  refine SeqAt.in_tupleAt (eqU x) pl (fun w hw=>zcw rx fx r fs w (by simpa using hw)) ⟨.bl _,H,I,rfl,?_⟩
  rw[show its.toArray.any (eqU x)=its.any (eqU x) by simp,zdX r fs]
  exact q
theorem zgq:OpR X (tM .NotIn) (rIn X.K true):=by
 intro zp s σ H x y v u Q I rx ry h
 obtain⟨p,xs,rfl,hq,fx,fs,q⟩:=h
 cases ry
 rcases hq with hq|hq
 ·obtain⟨its,r,pl,hz⟩:=I.list hq
  refine SeqAt.notIn_listAt (eqU x) pl.isList (fun w hw=>zcw rx fx r fs w (by simpa using hw)) ⟨.bl _,H,I,rfl,?_⟩
  rw[show its.toArray.any (eqU x)=its.any (eqU x) by simp,zdX r fs]
  exact q
 ·obtain⟨its,r,pl,hz⟩:=I.tuple hq
  refine SeqAt.notIn_tupleAt (eqU x) pl (fun w hw=>zcw rx fx r fs w (by simpa using hw)) ⟨.bl _,H,I,rfl,?_⟩
  rw[show its.toArray.any (eqU x)=its.any (eqU x) by simp,zdX r fs]
  exact q
theorem zai:zaQ X (.type "list") (fun xs H Q=>∃p ys,xs=[.ref p]/\(SqL X.K H p ys\/SqT X.K H p ys)/\∀l,H l=none->Q (.ref l) (upd H l (.lst ys))):=by
 intro zp s σ H xs us Q I r h
 obtain⟨p,ys,rfl,hq,q⟩:=h
 obtain⟨u,rfl,rx⟩:=zb5 r
 cases rx
 have fin:∀(its:List Value),Vals ys its->ys.length<=tH->∀(h':Heap)(c':Nat),(∀b o',s.heap.get? b=some o'->h'.get? b=some o')->
   h'.get? s.heap.objs.size=some {cls:=.type "list",dict:=none,data:=.seq its.toArray c',slots:=#[]}->EP X zp σ Q (.ref s.heap.objs.size) {s with heap:=h'}:=fun its r' hz h' c' kp e=>
  ⟨.ref s.heap.objs.size,_,I.laid (t':=s.toks) kp (yO _) (show zal X.prog X.w _ h' _ (.lst ys) from⟨hz,its,c',r',e⟩),rfl,q _ (I.hok.fresh (yO _))⟩
 rcases hq with hq|hq
 ·obtain⟨its,r',pl,hz⟩:=I.list hq
  have hlen:=r'.length
  obtain⟨o,ho,hc,n,hd⟩:=pl.isList
  exact call_list_seq p (.inl rfl) ho hc hd (fun h' c' kp e=>fin its r' hz h' c' kp e) (by simp only[yI]<;>lia)
 ·obtain⟨its,r',pl,hz⟩:=I.tuple hq
  have hlen:=r'.length
  obtain⟨o,ho,hc,n,hd⟩:=pl
  exact call_list_seq p (.inr rfl) ho hc hd (fun h' c' kp e=>fin its r' hz h' c' kp e) (by simp only[yI]<;>lia)
theorem zK:zaQ X (.type "tuple") (fun xs H Q=>∃p ys,xs=[.ref p]/\((SqL X.K H p ys/\∀l,H l=none->Q (.ref l) (upd H l (.tup ys)))\/(SqT X.K H p ys/\Q (.ref p) H))):=by
 intro zp s σ H xs us Q I r h
 obtain⟨p,ys,rfl,h⟩:=h
 obtain⟨u,rfl,rx⟩:=zb5 r
 cases rx
 rcases h with⟨hq,q⟩|⟨hq,q⟩
 ·obtain⟨its,r',pl,hz⟩:=I.list hq
  have hlen:=r'.length
  refine call_tuple_list pl.isList (fun h' kp=>?_) (by simp only[yI]<;>lia)
  have I1:Inv X zp σ H {s with heap:=h'}:=I.kept (t':=s.toks) kp
  have I2:Inv X zp σ (upd H h'.objs.size (.tup ys)) {s with heap:=h'.push {cls:=.type "tuple",data:=.seq its.toArray}}:=
   I1.laid (t':=s.toks) (fun b o e=>uY _ e) (yO _) (show zal X.prog X.w _ _ _ (.tup ys) from⟨hz,its,r',IsTup.new _ _⟩)
  exact⟨.ref h'.objs.size,_,I2,rfl,q _ (I1.hok.fresh (yO _))⟩
 ·obtain⟨its,r',pl,hz⟩:=I.tuple hq
  exact call_tuple_same pl ⟨.ref p,H,I,rfl,q⟩
def tyV(K:tU)(T:String)(x:V)(H:Hp):Prop:=match x with
 |.str _=>T="str"
 |.int _=>T="int"
 |.ref p=>(T="list"/\∃xs,SqL K H p xs)\/(T="tuple"/\∃o,K.lookup p=some o/\o.cls=.type "tuple"/\o.dict=none) \/
   (T="dict"/\((∃kvs,H p=some (.dK kvs))\/∃kvs,H p=some (.dT kvs)))\/(T="set"/\∃S n,H p=some (.set S n))
 |_=>False
theorem zmi{zp:List (Addr×Obj)}{σ:St}{H:Hp}{s:Shared}{T:String}{x:V}{v:Value}(I:Inv X zp σ H s)(r:RelV x v)(ty:tyV X.K T x H):
  s.TypeIs v T/\∀a,v=.ref a->∃ob,s.heap.get? a=some ob/\ob.dict=none:=by
 cases x with
 |str z=>
  obtain⟨t,rfl⟩:=r
  cases (show T="str" from ty)
  exact⟨typeIs_str s z t,fun _ e=>nomatch e⟩
 |int i=>
  obtain⟨t,rfl⟩:=r
  cases (show T="int" from ty)
  exact⟨typeIs_int s i t,fun _ e=>nomatch e⟩
 |ref p=>
  cases r
  rcases ty with⟨rfl,xs,hq⟩|⟨rfl,o,hk,hc,hd⟩|⟨rfl,hk⟩|⟨rfl,S,n,hk⟩
  ·obtain⟨its,_,pl,_⟩:=I.list hq
   refine⟨pl.isList.typeIs,fun a e=>?_⟩
   cases e
   obtain⟨o,n,e,c,hd,_⟩:=pl
   exact⟨o,e,hd⟩
  ·refine⟨⟨o,I.kIn p o hk,hc⟩,fun a e=>?_⟩
   cases e
   exact⟨o,I.kIn _ o hk,hd⟩
  ·have z:∃o,s.heap.get? p=some o/\o.ExactDict:=by
    rcases hk with⟨kvs,hk⟩|⟨kvs,hk⟩
    ·obtain⟨_,_,_,_,o,_,_,e,ex,_⟩:=I.hok p _ hk
     exact⟨o,e,ex⟩
    ·obtain⟨_,_,_,_,o,_,_,e,ex,_⟩:=I.hok p _ hk
     exact⟨o,e,ex⟩
   obtain⟨o,e,ex⟩:=z
   refine⟨⟨o,e,ex.1⟩,fun a e2=>?_⟩
   cases e2
   exact⟨o,e,ex.2.1⟩
  ·obtain⟨o,_,_,_,e,ex,_⟩:=I.hok p _ hk
   refine⟨⟨o,e,ex.1⟩,fun a e2=>?_⟩
   cases e2
   exact⟨o,e,ex.2.1⟩
 |_=>exact False.elim ty
inductive i_tBM0(K:tU)(T:String)(r:V->List V->Hp->VK->Prop)(Q:VK)(x:V)(H1:Hp):Prop
 |mk (_:tyV K T x H1) (_:r x [] H1 Q)
def tBM0(K:tU)(T:String)(r:V->List V->Hp->VK->Prop)(to:TE):TE:=fun σ H Q=>to σ H fun x H1=>i_tBM0 K T r Q x H1
inductive i_tBM(K:tU)(T:String)(r:V->List V->Hp->VK->Prop)(t:TA)(σ:St)(Q:VK)(x:V)(H1:Hp):Prop
 |mk (_:tyV K T x H1) (_:t σ H1 fun xs H2=>r x xs H2 Q)
def tBM(K:tU)(T:String)(r:V->List V->Hp->VK->Prop)(to:TE)(t:TA):TE:=fun σ H Q=>to σ H fun x H1=>i_tBM K T r t σ Q x H1
variable{o e:Expr}{es:List Expr}{to:TE}{t:TA}{name:Str}{apos cpos:Pos}{T id:String}{r:V->List V->Hp->VK->Prop}
theorem zdj(pa:PlainAttrs T)(slot:Slot T name id)(hty:typeOf (.builtin id)=pure (.type "method_descriptor"))(hm:MtR X id r)(ho:PE X o to)
  (hbase:attributeBase o name X.env (eval o X.env)=eval o X.env:=by rfl) (hline:(apos.endLine==cpos.line)=true:=by rfl):PE X (.Call (.Attribute o name apos) [] [] cpos) (tBM0 X.K T r to):=by
 intro zp s σ H Q I h
 refine wpAny_Call_method0_late hbase hline (thn (ho zp s σ H _ I h) fun v s1 ⟨x,H1,I1,r1,ty,q1⟩=>?_)
 obtain⟨h1,h2⟩:=zmi I1 r1 ty
 exact⟨T,id,pa,slot,hty,h1,h2,Calls.callWith_builtin rfl (PySem.evalArgs_none (hm zp s1 σ H1 x [] v [] Q I1 r1 .nil q1))⟩
theorem ZZ(pa:PlainAttrs T)(slot:Slot T name id)(hty:typeOf (.builtin id)=pure (.type "method_descriptor"))(hm:MtR X id r)(ho:PE X o to)(ha:PA X (e::es) t)
  (hbase:attributeBase o name X.env (eval o X.env)=eval o X.env:=by rfl)
  (hfew:((backTo cpos (tJ (e::es) X.env)).all (fun x=>!x.1)&&(backToKw cpos (keywordEach [] X.env)).all (fun x=>x.1.isSome)
   && decide ((e::es).length+([]:List Keyword).length+(if ([]:List Keyword).isEmpty then 0 else 1)<30))=true:=by rfl)
  (hline:(apos.endLine==cpos.line)=true:=by rfl) (hs:tJ (e::es) X.env=(false,eval e X.env)::tJ es X.env:=by rfl) (hplain:(backTo cpos (tJ es X.env)).any (·.1)=false:=by rfl):
  PE X (.Call (.Attribute o name apos) (e::es) [] cpos) (tBM X.K T r to t):=by
 intro zp s σ H Q I h
 refine wpAny_Call_method_late hbase hfew hline rfl (thn (ho zp s σ H _ I h) fun v s1 ⟨x,H1,I1,r1,ty,q1⟩=>?_)
 obtain⟨h1,h2⟩:=zmi I1 r1 ty
 refine⟨T,id,pa,slot,hty,h1,h2,?_⟩
 have hA:=ha cpos zp s1 σ H1 _ I1 q1
 rw[hs] at hA ⊢
 refine Calls.callWith_builtin (by show (false||(backTo cpos (tJ es X.env)).any (·.1))=false;rw[hplain]<;>rfl) (Calls.evalArgs_plain ?_)
 exact thn hA fun us s2 ⟨vs,H2,I2,r2,q2⟩=>hm zp s2 σ H2 x vs v us Q I2 r1 r2 q2
end
def MtM(X:Cx)(id:String)(r:V->List V->Hp->VK->Prop):Prop:=
 ∀(zp:List (Addr×Obj))(s:Shared)(σ:St)(H:Hp)(x:V)(xs:List V)(v:Value)(us:List Value)(Q:VK),Inv X zp σ H s->RelV x v->Vals xs us->r x xs H Q->
  wpAny (model X.prog X.w) X.A (call (.builtin id) (v::us)) (EP X zp σ Q) X.xe s
theorem Vals.one:∀{x:V}{us:List Value},Vals [x] us->∃u,us=[u]/\RelV x u
 |_,_,.cons r .nil=>⟨_,rfl,r⟩
theorem Vals.zero:∀{us:List Value},Vals [] us->us=[]
 |_,.nil=>rfl
theorem Vals.dropLast{xs:List V}{us:List Value}(h:Vals xs us):Vals xs.dropLast us.dropLast:=by
 induction h with
 |nil=>exact .nil
 |cons r t ih=>
  cases t with
  |nil=>exact .nil
  |cons q t'=>exact .cons r ih
theorem Vals.rep{xs:List V}{us:List Value}(h:Vals xs us):∀k:Nat,Vals (yD k xs).flatten (yD k us).flatten
 |0=>.nil
 |k+1=>by
  rw[xL,xL,xZ,xZ]
  exact Vals.append h (Vals.rep h k)
theorem ziF{α:Type}(l:List α):l.eraseIdx (l.length-1)=l.dropLast:=by
 induction l with
 |nil=>rfl
 |cons a r ih=>
  cases r with
  |nil=>rfl
  |cons b r=>
   have e:(a::b::r).length-1=((b::r).length-1)+1:=by
    have h1:(a::b::r).length=r.length+2:=rfl
    have h2:(b::r).length=r.length+1:=rfl
    lia
   rw[e,List.eraseIdx_cons_succ,ih]
   all_goals rfl
theorem zdY(its:List Value):∀(k:Nat)(acc:List Value),
  uQ (fun x1 x2=>x1++x2) acc.toArray (yD k its.toArray)=(acc++(yD k its).flatten).toArray
 |0,acc=>by simp
 |k+1,acc=>by
  have e:acc.toArray++its.toArray=(acc++its).toArray:=by simp
  have e2:(acc++its)++(yD k its).flatten=acc++(yD (k+1) its).flatten:=by
   rw[xL,xZ,xI]
  rw[←e2,←zdY its k (acc++its),←e,xL,wN]
section
variable{X:Cx}{zp:List (Addr×Obj)}{σ:St}{H:Hp}{s:Shared}{l b:Addr}{xs ys zs:List V}
theorem Inv.lset{its its':List Value}{n:Nat}{f:Array Value->Array Value}{t':Nat}(I:Inv X zp σ H s)(hH:H l=some (.lst xs))
  (e:s.heap.get? l=some {cls:=.type "list",data:=.seq its.toArray n}) (hf:f its.toArray=its'.toArray) (hv:Vals ys its') (hz:ys.length<=tH):
  Inv X zp σ (upd H l (.lst ys)) {s with heap:=s.heap.update l (Obj.mapSeq f),toks:=t'}:=by
 have q:=PySem.IsL.update e f
 rw[hf] at q
 refine I.write (x:=l) (e:=l) (by rw[hH];exact trivial) (.inl rfl) (fun b' u hb hu=>(Heap.get?_update_other s.heap (Obj.mapSeq f) (Ne.symm hb)).trans hu) ⟨_,q⟩ ?_
 exact⟨hz,its',_,hv,q⟩
theorem Inv.lnew{its:List Value}{t':Nat}(I:Inv X zp σ H s)(hv:Vals ys its)(hz:ys.length<=tH):
  Inv X zp σ (upd H s.heap.objs.size (.lst ys)) {s with heap:=s.heap.push {cls:=.type "list",data:=.seq its.toArray},toks:=t'}:=
 I.laid (fun _ _ q=>uY _ q) (yO _) ⟨hz,its,0,hv,tD _ rfl⟩
theorem Inv.fresh(I:Inv X zp σ H s):H s.heap.objs.size=none:=I.hok.fresh (yO _)
theorem Inv.lstM(I:Inv X zp σ H s)(hH:H l=some (.lst xs)):xs.length<=tH/\∃(its:List Value)(n:Nat),Vals xs its/\xs.length=its.length/\s.heap.get? l=some {cls:=.type "list",data:=.seq its.toArray n}:=by
 obtain⟨z,its,n,r,e⟩:=I.hok l _ hH
 exact⟨z,its,n,r,r.length,e⟩
theorem zfs{n:Nat}(h:n<=tH):Builtin.List.listTooLong n=false:=by
 unfold Builtin.List.listTooLong
 exact decide_eq_false (by lia)
end
section
variable{X:Cx}
inductive rAppend(x:V)(vs:List V)(H:Hp)(Q:VK):Prop
 |mk (l xs y:_) (_:x=.ref l) (_:vs=[y]) (_:H l=some (.lst xs)) (_:xs.length<tH) (_:Q .non (upd H l (.lst (xs++[y]))))
theorem ZC:MtM X "list.append" rAppend:=by
 intro zp s σ H x vs v us Q I rx rv h
 obtain⟨l,xs,y,rfl,rfl,hH,hz,q⟩:=h
 cases rx
 obtain⟨u,rfl,ru⟩:=rv.one
 obtain⟨z,its,n,r,hl,e⟩:=I.lstM hH
 refine call_meets tQ ⟨_,e,rfl⟩ F.entry_list_append (F.args_list_append_2 _ _) (PySem.list_append l its.toArray n u (by rw[yI];lia)) ⟨e,?_⟩
 refine⟨.non,_,I.lset (its':=its++[u]) hH e (by simp) (r.append (.cons ru .nil)) ?_,rfl,q⟩
 rw[yC,xQ]
 lia
inductive rExtend(x:V)(vs:List V)(H:Hp)(Q:VK):Prop
 |mk (l b xs zs:_) (_:x=.ref l) (_:vs=[.ref b]) (_:H l=some (.lst xs)) (_:H b=some (.lst zs)) (_:xs.length+zs.length<=tH) (_:Q .non (upd H l (.lst (xs++zs))))
theorem zdZ:MtM X "list.extend" rExtend:=by
 intro zp s σ H x vs v us Q I rx rv h
 obtain⟨l,b,xs,zs,rfl,rfl,hH,hB,hz,q⟩:=h
 cases rx
 obtain⟨u,rfl,ru⟩:=rv.one
 cases ru
 obtain⟨z,its,n,r,hl,e⟩:=I.lstM hH
 obtain⟨z2,its2,n2,r2,hl2,e2⟩:=I.lstM hB
 have hsz:its.toArray.size+its2.toArray.size<=tH:=by rw[yI,yI];lia
 have hlong:¬(!its.toArray.isEmpty&&Builtin.List.listTooLong (its.toArray.size+its2.toArray.size))=true:=by
  rw[zfs hsz,wL]
  exact yT
 refine call_meets F.slot_list_extend ⟨_,e,rfl⟩ F.entry_list_extend (F.args_list_extend_2 _ _)
  (AutoSeq1.list_extend_list_list_0 l its.toArray n b its2.toArray n2 hlong (by rw[yI];lia) (by lia)) ⟨e,e2,?_⟩
 refine⟨.non,_,I.lset (its':=its++its2) hH e (by simp) (r.append r2) ?_,rfl,q⟩
 rw[yC]
 lia
inductive rPop(x:V)(vs:List V)(H:Hp)(Q:VK):Prop
 |mk (l xs y:_) (_:x=.ref l) (_:vs=[]) (_:H l=some (.lst xs)) (_:xs[xs.length-1]?=some y) (_:Q y (upd H l (.lst xs.dropLast)))
theorem zhP:MtM X "list.pop" rPop:=by
 intro zp s σ H x vs v us Q I rx rv h
 obtain⟨l,xs,y,rfl,rfl,hH,hy,q⟩:=h
 cases rx
 have hus:=rv.zero
 subst hus
 obtain⟨z,its,n,r,hl,e⟩:=I.lstM hH
 obtain⟨u,hu,ru⟩:=r.get hy
 have hy':its.toArray[its.toArray.size-1]?=some u:=by
  show its.toArray[its.length-1]?=some u
  rw[←wV,←hl]
  exact hu
 refine call_meets F.slot_list_pop ⟨_,e,rfl⟩ F.entry_list_pop (F.args_list_pop_1 _) (MeetsSeq.list_pop_last l its.toArray n u hy' (by rw[yI];lia)) ⟨e,?_⟩
 refine⟨y,_,I.lset (its':=its.dropLast) hH e ?_ r.dropLast ?_,ru,q⟩
 ·show its.toArray.eraseIdxIfInBounds (its.toArray.size-1)=its.dropLast.toArray
  rw[yI,List.eraseIdxIfInBounds_toArray,ziF]
 ·rw[List.length_dropLast]
  lia
inductive rCat(x y:V)(H:Hp)(Q:VK):Prop
 |mk (l b xs zs:_) (_:x=.ref l) (_:y=.ref b) (_:H l=some (.lst xs)) (_:H b=some (.lst zs)) (_:xs.length+zs.length<=tH) (_:∀p,H p=none->Q (.ref p) (upd H p (.lst (xs++zs))))
theorem zaj:OpR X (binaryOp .Add) rCat:=by
 intro zp s σ H x y v u Q I rx ry h
 obtain⟨l,b,xs,zs,rfl,rfl,hH,hB,hz,q⟩:=h
 cases rx
 cases ry
 obtain⟨z,its,n,r,hl,e⟩:=I.lstM hH
 obtain⟨z2,its2,n2,r2,hl2,e2⟩:=I.lstM hB
 refine PySem.P.add_list e e2 ?_ (by rw[yI,yI];lia)
 have ea:its.toArray++its2.toArray=(its++its2).toArray:=by simp
 rw[ea]
 exact⟨.ref _,_,I.lnew (t':=s.toks) (r.append r2) (by rw[yC];lia),rfl,q _ I.fresh⟩
inductive rRep(x y:V)(H:Hp)(Q:VK):Prop
 |mk (l k xs:_) (_:x=.ref l) (_:y=.int k) (_:H l=some (.lst xs)) (_:-(2 ^ 63)<=k) (_:k<2 ^ 63) (_:xs.length*k.toNat<=tH) (_:∀p,H p=none->Q (.ref p) (upd H p (.lst (yD k.toNat xs).flatten)))
theorem zg7{α:Type}(xs:List α)(k:Nat):(yD k xs).flatten.length=k*xs.length:=by
 induction k with
 |zero=>simp
 |succ k ih=>rw[xL,xZ,yC,ih,Nat.succ_mul,Nat.add_comm]
theorem zhQ:OpR X (binaryOp .Mult) rRep:=by
 intro zp s σ H x y v u Q I rx ry h
 obtain⟨l,k,xs,rfl,rfl,hH,h1,h2,hz,q⟩:=h
 cases rx
 obtain⟨t,rfl⟩:=ry
 obtain⟨z,its,n,r,hl,e⟩:=I.lstM hH
 have hlen:its.toArray.size*k.toNat<=tH:=by rw[yI,←hl];exact hz
 have hcap:¬its.toArray.size*k.toNat > (2 ^ 63-1) / 8:=by
  have:(tH:Nat)<=(2 ^ 63-1) / 8:=by decide
  lia
 have hfit:¬(!Builtin.List.listFitsIndex k)=true:=by
  rw[fitsIndex_both h1 h2]
  exact yT
 have hlong:¬Builtin.List.listTooLong (its.toArray.size*k.toNat)=true:=by
  rw[zfs hlen]
  exact yT
 have hnew:uQ (fun x1 x2=>x1++x2) #[] (yD (if its.toArray.isEmpty=true then 0 else k.toNat) its.toArray)=(yD k.toNat its).flatten.toArray:=by
  have f0:∀m:Nat,uQ (fun x1 x2=>x1++x2) #[] (yD m its.toArray)=(yD m its).flatten.toArray:=fun m=>by
   have:=zdY its m []
   rw[xS] at this
   exact this
  rw[f0]
  cases its with
  |nil=>simp
  |cons a r'=>rw[if_neg (by simp)]
 refine wpAny_binaryOp_repeat_ref (T:="list") (U:="int") (by decide) ⟨_,e,rfl⟩ (fun s'=>typeIs_int s' k t) noFill_list_mul F.fills_int_mul F.slot_int_rmul repeat_list F.slot_int_index.lookup
  (call_meets F.slot_int_rmul (typeIs_int s k t) F.entry_int_rmul (F.args_int_rmul_2 _ _) (int___rmul___int_list k t l its.toArray n)
   ⟨e,rfl,⟨_,e,rfl⟩,call_meets F.slot_list_mul ⟨_,e,rfl⟩ F.entry_list_mul (F.args_list_mul_2 _ _) (AutoListH.list___mul___list_int_3 l its.toArray n k t hfit hcap hlong) ⟨e,?_⟩⟩)
 rw[hnew]
 exact⟨.ref _,_,I.lnew (t':=s.toks) (r.rep k.toNat) (by rw[zg7,Nat.mul_comm];exact hz),rfl,q _ I.fresh⟩
end
section
variable{prog:Program}{w:World}{A:Around}{E:Value->Shared->Prop}{s:Shared}
set_option maxRecDepth 100000 in
end
section
variable{X:Cx}
end
end L2
namespace Att
open PySem PySem.W PySem.Calls PyProof.Rows
theorem zd0{P:Params}{h:Heap}:∀(ns:List Int)(vs:List Value),WellAll P h vs (ns.map WData.int)->IntsAre vs ns:=by
 intro ns
 induction ns with
 |nil=>
  intro vs w
  rw[wQ] at w
  cases w
  exact .nil
 |cons n ns ih=>
  intro vs w
  rw[yJ] at w
  cases w with
  |cons a b=>
   cases a
   exact .cons _ _ (ih _ b)
theorem zjA{l:OpenLaw}{n:Nat}(hn:l.most=some n){P:Params}{h:Heap}{args:List WData}{vals:List Value}
  (hpre:l.row.toRowW.claim.pre args=true) (hwl:WellAll P h vals args):
  ∃a vs ns,vals=[Value.ref a]/\args=[WData.list (ns.map WData.int)]/\h.get? a=some {cls:=.type "list",data:=.seq vs.toArray}/\IntsAre vs ns/\ns.length<=n:=by
 have hsh:WShape.hasAll [] args [.list .int]=true:=(pre_splitW hpre).1
 have hc:l.pre.holds [] {args:=args}=true:=(pre_splitW hpre).2
 obtain⟨d,r,rfl,h1,h2⟩:=hasAllW_cons hsh
 obtain rfl:=hasAllW_nil h2
 obtain⟨xs,rfl,h3⟩:=hasW_list h1
 obtain⟨ns,rfl⟩:=items_int h3
 have hlen:ns.length<=n:=by
  unfold OpenLaw.pre at hc
  have h4:(WTm.not (.lt (.lit (.int (n:Int))) (.len (.arg 0)))).holds [] {args:=[.list (ns.map .int)]}=true:=by
   have h4:=(holds_andW hc).1
   rw[hn] at h4
   exact h4
  have h5:=condW_of h4 (w_not (w_lt w_lit (w_len_list (w_arg rfl))))
  rw[yA] at h5
  refine Nat.le_of_not_lt fun q=>?_
  have q':(n:Int)<((ns.length:Nat):Int):=by lia
  first
   |(rw[decide_eq_true q'] at h5;exact absurd h5 (by decide))
   |(simp at h5;lia)
 cases hwl with
 |cons w1 w2=>
  cases w2
  cases w1 with
  |list ho hall=>exact⟨_,_,ns,rfl,rfl,ho,zd0 ns _ hall,hlen⟩
theorem zjB(l:OpenLaw)(args:List WData):l.row.toRowW.claim.post args (.bool true) args=true:=
 postW_of (r:=l.row.toRowW) (X:=(true==true))
  (show WShape.has [] (.bool true) .bool=true by first|rfl|decide|simp[WShape.has,WShape.arms,WShape.armsAll])
  (show (WTm.eq .res (.lit (.bool true))).value [] {args:=args,res:=some (.bool true),after:=args}=some (.bool (true==true)) from w_eq_bool (w_res rfl) w_lit) rfl
theorem attach_call{l:OpenLaw}{n:Nat}{q:Program}{loose:List Str}{XP:(Str->Option Value)->Heap->Prop}{YP:World->Heap->Prop}{d:DefRec}
  (hn:l.most=some n) (hdf:d.params.defaults=[])
  (call:∀(w:World)(s₀ s₁:Shared)(mg mb:Str->Option Value)(fa:Addr)(o:Obj)(pm cd doc:Value)(a:Addr)(vs:List Value)(ns:List Int),
   Ground q loose [] XP w s₀ mg mb s₁.heap->YP w s₁.heap->
   s₁.heap.get? fa=some o->o.data=.func (docDef d.name d.params d.body d.scope pm cd doc)->s₁.heap.CodeRec cd d.name->mg d.name=some (.ref fa)->
   s₁.heap.get? a=some {cls:=.type "list",data:=.seq vs.toArray}->IntsAre vs ns->ns.length<=n->s₁.gens=#[]->
   codeAny (model l.prog w) callerA (.call (.ref fa) ⟨[.ref a],[]⟩) (fun r s'=>r=.ok (.ret (.bool true))/\OldK s₁.heap s'.heap/\s'.os=s₁.os/\AllBare s'.gens) s₁):
  WalkO q loose XP YP l.row.toRowW d [] (fun f vs=>PySem.call f vs):=by
 intro w s₀ s₁ mg mb G Y fa o pm cd doc dV kV ho hd hcd hD hmg hg args vals as hpre hlay hrd hwl hlo
 obtain rfl:dV=.none:=Dflts.none hD hdf
 obtain rfl:kV=.none:=Dflts.noKw hD
 obtain⟨a,vs,ns,rfl,rfl,hobj,hints,hlen⟩:=zjA hn hpre hwl
 refine enter_call (codeAny_mono (call w s₀ s₁ mg mb fa o pm cd doc a vs ns G Y ho (fd_plain hd) hcd hmg hobj hints hlen hg) fun r s' hq=>?_)
 obtain⟨rfl,h2,h3,h4⟩:=hq
 exact⟨.inl ⟨.bool true,.bool true,[],rfl,fun _=>rfl,.bool true,zjB l _,fun _=>⟨List.Pairwise.nil,fun _ hm=>(nomatch hm)⟩⟩,h2,h3,h4⟩
section
variable{prog:Program}{w:World}{A:Around}{E:Value->Shared->Prop}{s:Shared}{K:Frag}
noncomputable def ledger(h:Heap)(L d:Addr):List (Addr×Obj):=(wK h.objs.size).filterMap fun a=>if a=L\/a=d then none else (h.get? a).map fun o=>(a,o)
end
end Att
namespace L2
open PySem PySem.Spec PyProof.Rows
theorem zgr:∀{vs:List Value}{ns:List Int},IntsAre vs ns->Vals (ns.map V.int) vs
 |_,_,.nil=>.nil
 |_,_,.cons n t h=>.cons ⟨t,rfl⟩ (zgr h)
def Only(H:Hp):Prop:=∀b,H b=none\/∃o xs,H b=some (.frz o (.lst xs))
theorem zlf{P:Program}{w:World}{K:tU}{mg mb:Str->Option Value}{CX:CXT}{k:Nat}{fa a:Addr}{fd:tV}{x:Str}{sp:Sp}{s₁:Shared}{vs:List Value}{ns:List Int}
  (KX:K.In s₁.heap) (hns:s₁.heap.Ns tG mg) (hb:s₁.heap.Ns builtinsNs mb) (hbb:∀x:Str,x≠"__name__"->mb x=tK x) (hlim:s₁.heap.NoLimit) (hg:s₁.gens=#[])
  (ha:s₁.heap.get? a=some {cls:=.type "list",data:=.seq vs.toArray}) (hi:IntsAre vs ns) (hl:ns.length<=tH) (hr:Room k callerA)
  (F:∀base:Heap,K.In base->base.Ns tG mg->FnOk P w K mg base CX k fa fd [x] sp) (hbind:∀(s:Shared)(u:Value),BindsTo s fd ⟨[u],[]⟩ [(x,u)])
  (hsp:∀H:Hp,Only H->SqL K H a (ns.map V.int)->sp [.ref a] H (fun v _=>v=.bl true) fun _ _ _=>False)
  (hCX:∀H e s',CX [] H s₁ (fun _ _ _=>False) e s'->False):
  codeAny (model P w) callerA (.call (.ref fa) ⟨[.ref a],[]⟩) (fun r s'=>r=.ok (.ret (.bool true))/\OldK s₁.heap s'.heap/\s'.os=s₁.os/\AllBare s'.gens) s₁:=by
 have rv:=zgr hi
 have lenV:=hi.length
 have core:∀H:Hp,Only H->SqL K H a (ns.map V.int)->HOk P w H s₁.heap->(∀b,H b≠none->b=a)->(H a≠none->K.lookup a=none)->
   codeAny (model P w) callerA (.call (.ref fa) ⟨[.ref a],[]⟩) (fun r s'=>r=.ok (.ret (.bool true))/\OldK s₁.heap s'.heap/\s'.os=s₁.os/\AllBare s'.gens) s₁:=by
  intro H hO hS hok hA hK
  have base_of:∀{b:Addr}{o:Obj},s₁.heap.get? b=some o->H b=none->(hidT s₁.heap H).get? b=some o:=fun e n=>zkZ e n
  have noA:∀{b:Addr}{o:Obj}{es:Array DictEntry}{ep:Nat},s₁.heap.get? b=some o->o.data=.dict es ep->H b=none:=fun {b o es ep} e d=>by
   cases q:H b with
   |none=>rfl
   |some u=>
    have e':b=a:=hA b (by rw[q];simp)
    subst e'
    rw[ha] at e;cases e
    have d':Data.seq vs.toArray _=Data.dict es ep:=d
    cases d'
  have nsK:∀{b:Addr}{m:Str->Option Value},s₁.heap.Ns b m->(hidT s₁.heap H).Ns b m:=fun {b m} ⟨o,es,ep,e,d,r⟩=>⟨o,es,ep,base_of e (noA e d),d,r⟩
  have hKb:K.In (hidT s₁.heap H):=fun b o e=>base_of (KX b o e) (by
   cases q:H b with
   |none=>rfl
   |some u=>
    have e':b=a:=hA b (by rw[q];simp)
    subst e'
    rw[hK (by rw[q];simp)] at e;cases e)
  have hM:Mod K mg (hidT s₁.heap H):=⟨hKb,nsK hns,⟨mb,nsK hb,hbb⟩,let ⟨mc,h1,h2⟩:=hlim;⟨mc,nsK h1,h2⟩⟩
  have e0:Env0 P w K mg (hidT s₁.heap H) callerA [] s₁ H:=⟨rfl,hM,fun b o e=>zmD e,Nat.le_of_eq (zji _ _),trivial,fun b hb=>absurd (show b∈([]:List Addr) from hb) (by simp),hok,.of_eq hg⟩
  refine codeAny_mono ((F _ hKb (nsK hns)).run callerA [] s₁ H ⟨[.ref a],[]⟩ [.ref a] [.ref a] _ _ hr e0 (hbind s₁ (.ref a)) (.cons rfl .nil) (hsp H hO hS)) fun r s' h=>?_
  cases r with
  |error e=>exact (hCX H e s' h).elim
  |ok fl=>
   cases fl with
   |next=>exact False.elim h
   |brk=>exact False.elim h
   |cont=>exact False.elim h
   |ret u=>
    obtain⟨v,H',os,bare,un,hok',r',q⟩:=h
    have q':v=.bl true:=q
    subst q'
    obtain rfl:u=Value.bool true:=r'
    refine⟨rfl,OldK.of_keep fun b o e=>?_,os,bare⟩
    cases q:H b with
    |none=>exact un.keep b o e q (by intro z;exact absurd (show b∈([]:List Addr) from z) (by simp)) (by simp)
    |some u=>
     rcases hO b with z|⟨ob,xs,z⟩
     ·rw[q] at z;cases z
     ·have z2:=un.frzs b ob _ z
      obtain⟨e1,_⟩:=hok b _ z
      obtain⟨e2,_⟩:=hok' b _ z2
      rw[e] at e1;cases e1
      exact e2
 cases hk:K.lookup a with
 |some o=>
  have e:=KX a o hk
  rw[ha] at e
  cases e
  refine core (fun _=>none) (fun _=>.inl rfl) (.inr ⟨_,vs.toArray,_,hk,rfl,rfl,rfl,by rw[yI,lenV];exact hl,by simpa using rv⟩) (fun b u z=>by have z':(none:Option HO)=some u:=z;cases z') (fun b z=>absurd rfl z) fun z=>absurd rfl z
 |none=>
  refine core (fun b=>if b=a then some (.frz {cls:=.type "list",data:=.seq vs.toArray} (.lst (ns.map V.int))) else none) (fun b=>?_) (.inl (.inr ⟨{cls:=.type "list",data:=.seq vs.toArray},if_pos rfl⟩)) (fun b u z=>?_) (fun b z=>?_) fun _=>hk
  ·by_cases hb:b=a
   ·exact .inr ⟨_,_,if_pos hb⟩
   ·exact .inl (if_neg hb)
  ·by_cases hb:b=a
   ·have z':=(if_pos hb).symm.trans z
    cases z'
    subst hb
    exact⟨ha,by rw[yA];exact hl,vs,_,rv,ha⟩
   ·have z':=(if_neg hb).symm.trans z
    cases z'
  ·by_cases hb:b=a
   ·exact hb
   ·exact absurd (if_neg hb) z
abbrev KOf{K:tU}{h:Heap}(_:K.In h):tU:=K
theorem zmM{l:PySem.W.OpenLaw}{n k:Nat}{q:Program}{loose:List Str}{XP:(Str->Option Value)->Heap->Prop}{YP:World->Heap->Prop}{d:DefRec}{K:Params->tU}{CX:World->CXT}{sp:World->Sp}{x:Str}
  (hn:l.most=some n) (hn2:n<=tH) (hdf:d.params.defaults=[]) (hr:Room k callerA)
  (hY:∀(w:World)(h:Heap),YP w h->(K w.params).In h)
  (F:∀(w:World)(mg:Str->Option Value)(fa:Addr)(h:Heap),(K w.params).In h->h.Ns tG mg->mg d.name=some (.ref fa)->
   ∃fd:tV,(∀(s:Shared)(u:Value),BindsTo s fd ⟨[u],[]⟩ [(x,u)]) /\
    ∀base:Heap,(K w.params).In base->base.Ns tG mg->FnOk l.prog w (K w.params) mg base (CX w) k fa fd [x] (sp w))
  (hsp:∀(w:World)(H:Hp)(a:Addr)(ns:List Int),ns.length<=n->Only H->SqL (K w.params) H a (ns.map V.int)->sp w [.ref a] H (fun v _=>v=.bl true) fun _ _ _=>False)
  (hCX:∀(w:World)(H:Hp)(s:Shared)(e:Value)(s':Shared),CX w [] H s (fun _ _ _=>False) e s'->False):
  PySem.W.WalkO q loose XP YP l.row.toRowW d [] (fun f vs=>PySem.call f vs):=by
 refine Att.attach_call hn hdf fun w s₀ s₁ mg mb fa o pm cd doc a vs ns G Y ho hd hcd hmg hobj hints hlen hg=>?_
 have KX:=hY w _ Y
 obtain⟨fd,hb,hF⟩:=F w mg fa _ KX G.T.g hmg
 exact zlf KX G.T.g G.T.b G.T.builtins G.T.nolimit hg hobj hints (yQ hlen hn2) hr hF hb (fun H hO hS=>hsp w H a ns hlen hO hS) fun H e s'=>hCX w H s₁ e s'
end L2
namespace L2
open PySem PySem.Spec PyProof.Rows
noncomputable def zft(s:Stmt)(j:Nat):Stmt:=match s with
 |.ClassDef _ _ _ body _ _ _ _ _ _ _=>body.getD j (.Pass ⟨0,0,0,0⟩)
 |_=>.Pass ⟨0,0,0,0⟩
noncomputable def ZT(s:Stmt):Arguments:=match s with
 |.FunctionDef _ a _ _ _ _ _ _ _ _=>a
 |_=>{posonlyargs:=[],args:=[],vararg:=none,kwonlyargs:=[],kw_defaults:=[],kwarg:=none,defaults:=[]}
noncomputable def ZH(s:Stmt):List Stmt:=match s with
 |.FunctionDef _ _ b _ _ _ _ _ _ _=>b
 |_=>[]
noncomputable def zi(s:Stmt):Scope:=match s with
 |.FunctionDef _ _ _ _ _ _ sc _ _ _=>sc
 |_=>{kind:=.function,names:=[],isGenerator:=false,isCoroutine:=false}
abbrev CX0:CXT:=fun _ _ _ _ _ _=>False
abbrev E0:XK:=fun _ _ _=>False
theorem zjC{X:Cx}:Passes CX0 X E0:=fun _ _ _ _ _ _ _ h=>h.elim
structure Fun(K:tU)(x qual:Str)(st:Stmt)(f:Addr)(fd:tV):Prop where
 ex:∃(oc:Value)(od:Option Addr)(kV doc pm:Value)(an:Option Addr)(cdv ct:Value)(osl:Array (Option Value)),
  fd=fnOf x qual (ZT st) (ZH st) (zi st) .none kV doc pm an cdv ct/\K.lookup f=some ⟨oc,od,.func fd,osl⟩/\codeIn K cdv qual=true
 kp:keepIn K (.ref f)=true
section
variable{P:Program}{w:World}{K:tU}{mg:Str->Option Value}{base:Heap}
theorem Fun.ok{x qual:Str}{st:Stmt}{f:Addr}{fd:tV}{N ps:List Str}{k:Nat}{sp:Sp}(F:Fun K x qual st f fd)(S:FnScope N ps (zi st))(len:∀vs H Q E,sp vs H Q E->vs.length=ps.length)
  (hbody:∀(cdv:Value)(A:Around)(outer:List Env)(s:Shared)(H:Hp)(vs:List V)(Q:VK)(E:XK),Room k (A.deeper (envOfC qual (zi st) s.heap.objs.size f cdv))->sp vs H Q E->
   ∃t,PSs (cxOf CX0 P w K mg base N qual (zi st) f cdv A outer s H E).nox (ZH st) t/\t {nx:=fun _ H'=>Q .non H',rt:=Q} (start N vs) H):FnOk P w K mg base CX0 (k+1) f fd ps sp:=by
 obtain⟨oc,od,kV,doc,pm,an,cdv,ct,osl,rfl,lk,hcd⟩:=F.ex
 refine zoN lk hcd S len fun A outer s H vs Q E hr hsp=>?_
 obtain⟨t,h,q⟩:=hbody cdv A outer s H vs Q E hr hsp
 exact⟨t,h.nox,q⟩
theorem Fun.binds{x qual:Str}{st:Stmt}{f:Addr}{fd:tV}{ps:List Str}(F:Fun K x qual st f fd)
  (h:∀(kV doc pm:Value)(an:Option Addr)(cdv ct:Value)(us:List Value),us.length=ps.length->bindArgs (fnOf x qual (ZT st) (ZH st) (zi st) .none kV doc pm an cdv ct) ⟨us,[]⟩=pure (ps.zip us)):Binds K fd ps []:=by
 obtain⟨oc,od,kV,doc,pm,an,cdv,ct,osl,rfl,lk,hcd⟩:=F.ex
 exact .all (h kV doc pm an cdv ct)
theorem us_1{us:List Value}(h:us.length=1):∃x0,us=[x0]:=by
 match us,h with
 |[x0],_=>exact⟨x0,rfl⟩
theorem us_2{us:List Value}(h:us.length=2):∃x0 x1,us=[x0,x1]:=by
 match us,h with
 |[x0,x1],_=>exact⟨x0,x1,rfl⟩
theorem us_3{us:List Value}(h:us.length=3):∃x0 x1 x2,us=[x0,x1,x2]:=by
 match us,h with
 |[x0,x1,x2],_=>exact⟨x0,x1,x2,rfl⟩
theorem us_5{us:List Value}(h:us.length=5):∃x0 x1 x2 x3 x4,us=[x0,x1,x2,x3,x4]:=by
 match us,h with
 |[x0,x1,x2,x3,x4],_=>exact⟨x0,x1,x2,x3,x4,rfl⟩
theorem us_6{us:List Value}(h:us.length=6):∃x0 x1 x2 x3 x4 x5,us=[x0,x1,x2,x3,x4,x5]:=by
 match us,h with
 |[x0,x1,x2,x3,x4,x5],_=>exact⟨x0,x1,x2,x3,x4,x5,rfl⟩
theorem Fun.b1{x qual:Str}{st:Stmt}{f:Addr}{fd:tV}{z0:Str}(F:Fun K x qual st f fd)(h:∀(kV doc pm:Value) (an:Option Addr) (cdv ct:Value) (x0:Value),bindArgs (fnOf x qual (ZT st) (ZH st) (zi st) .none kV doc pm an cdv ct) ⟨[x0],[]⟩=pure ([z0].zip [x0])):Binds K fd [z0] []:=F.binds fun a b c d e g us hl=>by obtain⟨x0,rfl⟩:=us_1 hl;exact h a b c d e g x0
theorem Fun.b2{x qual:Str}{st:Stmt}{f:Addr}{fd:tV}{z0 z1:Str}(F:Fun K x qual st f fd)(h:∀(kV doc pm:Value) (an:Option Addr) (cdv ct:Value) (x0 x1:Value),bindArgs (fnOf x qual (ZT st) (ZH st) (zi st) .none kV doc pm an cdv ct) ⟨[x0,x1],[]⟩=pure ([z0,z1].zip [x0,x1])):Binds K fd [z0,z1] []:=F.binds fun a b c d e g us hl=>by obtain⟨x0,x1,rfl⟩:=us_2 hl;exact h a b c d e g x0 x1
theorem Fun.b3{x qual:Str}{st:Stmt}{f:Addr}{fd:tV}{z0 z1 z2:Str}(F:Fun K x qual st f fd)(h:∀(kV doc pm:Value) (an:Option Addr) (cdv ct:Value) (x0 x1 x2:Value),bindArgs (fnOf x qual (ZT st) (ZH st) (zi st) .none kV doc pm an cdv ct) ⟨[x0,x1,x2],[]⟩=pure ([z0,z1,z2].zip [x0,x1,x2])):Binds K fd [z0,z1,z2] []:=F.binds fun a b c d e g us hl=>by obtain⟨x0,x1,x2,rfl⟩:=us_3 hl;exact h a b c d e g x0 x1 x2
theorem Fun.b5{x qual:Str}{st:Stmt}{f:Addr}{fd:tV}{z0 z1 z2 z3 z4:Str}(F:Fun K x qual st f fd)(h:∀(kV doc pm:Value) (an:Option Addr) (cdv ct:Value) (x0 x1 x2 x3 x4:Value),bindArgs (fnOf x qual (ZT st) (ZH st) (zi st) .none kV doc pm an cdv ct) ⟨[x0,x1,x2,x3,x4],[]⟩=pure ([z0,z1,z2,z3,z4].zip [x0,x1,x2,x3,x4])):Binds K fd [z0,z1,z2,z3,z4] []:=F.binds fun a b c d e g us hl=>by obtain⟨x0,x1,x2,x3,x4,rfl⟩:=us_5 hl;exact h a b c d e g x0 x1 x2 x3 x4
theorem Fun.b6{x qual:Str}{st:Stmt}{f:Addr}{fd:tV}{z0 z1 z2 z3 z4 z5:Str}(F:Fun K x qual st f fd)(h:∀(kV doc pm:Value) (an:Option Addr) (cdv ct:Value) (x0 x1 x2 x3 x4 x5:Value),bindArgs (fnOf x qual (ZT st) (ZH st) (zi st) .none kV doc pm an cdv ct) ⟨[x0,x1,x2,x3,x4,x5],[]⟩=pure ([z0,z1,z2,z3,z4,z5].zip [x0,x1,x2,x3,x4,x5])):Binds K fd [z0,z1,z2,z3,z4,z5] []:=F.binds fun a b c d e g us hl=>by obtain⟨x0,x1,x2,x3,x4,x5,rfl⟩:=us_6 hl;exact h a b c d e g x0 x1 x2 x3 x4 x5
theorem zdk{x qual:Str}{st:Stmt}{f:Addr}{oc:Value}{od an:Option Addr}{osl:Array (Option Value)}{kV doc pm cdv ct:Value}(l:K.lookup f=some ⟨oc,od,.func (fnOf x qual (ZT st) (ZH st) (zi st) .none kV doc pm an cdv ct),osl⟩)
  (c:codeIn K cdv qual=true) (k:keepIn K (.ref f)=true):Fun K x qual st f (fnOf x qual (ZT st) (ZH st) (zi st) .none kV doc pm an cdv ct):=⟨⟨oc,od,kV,doc,pm,an,cdv,ct,osl,rfl,l,c⟩,k⟩
end
theorem zgs{n:Nat}(h:n<=1000):n<tH:=xG h (by decide)
section
variable{X:Cx}
theorem pv(i:Nat){x:Str}{pos:Pos}(hN:X.N[i]?=some x:=by rfl)(hv:Vis X.env.scope x:=by first|exact Or.inl rfl|exact Or.inr (Or.inl rfl)|exact Or.inr (Or.inr rfl))(hd:(x==("__debug__":Str))=false:=by decide)
  (hcd:(x==("__classdict__":Str))=false:=by decide):PE X (.Name x pos) (tVar i):=znN hN hv hd hcd
end
theorem iteF{A B:Prop}(h:B):if false=true then A else B:=by
 rw[if_neg yT]
 exact h
theorem iteT{A B:Prop}(h:A):if true=true then A else B:=by
 rw[if_pos rfl]
 exact h
theorem ite2{c A B:Prop}[Decidable c](h1:c->A)(h2:¬c->B):if c then A else B:=by
 by_cases h:c
 ·rw[if_pos h]
  exact h1 h
 ·rw[if_neg h]
  exact h2 h
def Same(H H':Hp):Prop:=∀b o,H b=some o->H' b=some o
theorem Sr(H:Hp):Same H H:=fun _ _ h=>h
theorem Same.trans{H H1 H2:Hp}(a:Same H H1)(b:Same H1 H2):Same H H2:=fun c o h=>b c o (a c o h)
theorem Same.free{H H':Hp}(e:Same H H'){l:Addr}(h:H' l=Option.none):H l=Option.none:=by
 cases q:H l with
 |none=>rfl
 |some o=>
  rw[e l o q] at h
  cases h
theorem Same.seq{K:tU}{H H':Hp}{a:Addr}{xs:List V}(e:Same H H')(h:SqL K H a xs):SqL K H' a xs:=by
 rcases h with (h|⟨o,h⟩)|h
 ·exact .inl (.inl (e _ _ h))
 ·exact .inl (.inr ⟨o,e _ _ h⟩)
 ·exact .inr h
section
variable{κ:Type}[DecidableEq κ]
end
end L2
namespace L2
open PySem
theorem nm2{t1 t2:TS}{D:Ends}{σ:St}{H:Hp}(h:let T1:TS:=t2;tSeq t1 T1 D σ H):(tSeq t1 t2) D σ H:=h
theorem nm3{t1 t2 t3:TS}{D:Ends}{σ:St}{H:Hp}(h:let T2:TS:=t3;let T1:TS:=tSeq t2 T2;tSeq t1 T1 D σ H):(tSeq t1 (tSeq t2 t3)) D σ H:=h
theorem nm4{t1 t2 t3 t4:TS}{D:Ends}{σ:St}{H:Hp}(h:let T3:TS:=t4;let T2:TS:=tSeq t3 T3;let T1:TS:=tSeq t2 T2;tSeq t1 T1 D σ H):(tSeq t1 (tSeq t2 (tSeq t3 t4))) D σ H:=h
theorem nm5{t1 t2 t3 t4 t5:TS}{D:Ends}{σ:St}{H:Hp}(h:let T4:TS:=t5;let T3:TS:=tSeq t4 T4;let T2:TS:=tSeq t3 T3;let T1:TS:=tSeq t2 T2;tSeq t1 T1 D σ H):(tSeq t1 (tSeq t2 (tSeq t3 (tSeq t4 t5)))) D σ H:=h
theorem nm6{t1 t2 t3 t4 t5 t6:TS}{D:Ends}{σ:St}{H:Hp}(h:let T5:TS:=t6;let T4:TS:=tSeq t5 T5;let T3:TS:=tSeq t4 T4;let T2:TS:=tSeq t3 T3;let T1:TS:=tSeq t2 T2;tSeq t1 T1 D σ H):(tSeq t1 (tSeq t2 (tSeq t3 (tSeq t4 (tSeq t5 t6))))) D σ H:=h
theorem nm7{t1 t2 t3 t4 t5 t6 t7:TS}{D:Ends}{σ:St}{H:Hp}(h:let T6:TS:=t7;let T5:TS:=tSeq t6 T6;let T4:TS:=tSeq t5 T5;let T3:TS:=tSeq t4 T4;let T2:TS:=tSeq t3 T3;let T1:TS:=tSeq t2 T2;tSeq t1 T1 D σ H):(tSeq t1 (tSeq t2 (tSeq t3 (tSeq t4 (tSeq t5 (tSeq t6 t7)))))) D σ H:=h
theorem nm8{t1 t2 t3 t4 t5 t6 t7 t8:TS}{D:Ends}{σ:St}{H:Hp}(h:let T7:TS:=t8;let T6:TS:=tSeq t7 T7;let T5:TS:=tSeq t6 T6;let T4:TS:=tSeq t5 T5;let T3:TS:=tSeq t4 T4;let T2:TS:=tSeq t3 T3;let T1:TS:=tSeq t2 T2;tSeq t1 T1 D σ H):(tSeq t1 (tSeq t2 (tSeq t3 (tSeq t4 (tSeq t5 (tSeq t6 (tSeq t7 t8))))))) D σ H:=h
theorem nm12{t1 t2 t3 t4 t5 t6 t7 t8 t9 t10 t11 t12:TS}{D:Ends}{σ:St}{H:Hp}(h:let T11:TS:=t12;let T10:TS:=tSeq t11 T11;let T9:TS:=tSeq t10 T10;let T8:TS:=tSeq t9 T9;let T7:TS:=tSeq t8 T8;let T6:TS:=tSeq t7 T7;let T5:TS:=tSeq t6 T6;let T4:TS:=tSeq t5 T5;let T3:TS:=tSeq t4 T4;let T2:TS:=tSeq t3 T3;let T1:TS:=tSeq t2 T2;tSeq t1 T1 D σ H):(tSeq t1 (tSeq t2 (tSeq t3 (tSeq t4 (tSeq t5 (tSeq t6 (tSeq t7 (tSeq t8 (tSeq t9 (tSeq t10 (tSeq t11 t12))))))))))) D σ H:=h
theorem nm13{t1 t2 t3 t4 t5 t6 t7 t8 t9 t10 t11 t12 t13:TS}{D:Ends}{σ:St}{H:Hp}(h:let T12:TS:=t13;let T11:TS:=tSeq t12 T12;let T10:TS:=tSeq t11 T11;let T9:TS:=tSeq t10 T10;let T8:TS:=tSeq t9 T9;let T7:TS:=tSeq t8 T8;let T6:TS:=tSeq t7 T7;let T5:TS:=tSeq t6 T6;let T4:TS:=tSeq t5 T5;let T3:TS:=tSeq t4 T4;let T2:TS:=tSeq t3 T3;let T1:TS:=tSeq t2 T2;tSeq t1 T1 D σ H):(tSeq t1 (tSeq t2 (tSeq t3 (tSeq t4 (tSeq t5 (tSeq t6 (tSeq t7 (tSeq t8 (tSeq t9 (tSeq t10 (tSeq t11 (tSeq t12 t13)))))))))))) D σ H:=h
end L2
namespace L2
open PySem PySem.Spec PyProof.Rows
theorem HOk.track{P:Program}{w:World}{H:Hp}{h:Heap}{a:Addr}{o:HO}(x:HOk P w H h)(hn:H a=none)(new:zal P w (upd H a o) h a o):HOk P w (upd H a o) h:=fun b u e=>by
 by_cases hb:b=a
 ·subst hb;rw[zc] at e;cases e;exact new
 ·rw[zA hb] at e
  exact (x b u e).stay (fun c v _ q=>q) (fun c q=>by rw[zA (zn q hn)];exact q) fun c xs q=>by rw[zA (zn q hn)];exact q
section
variable{prog:Program}{w:World}{A:Around}{R:Result->Shared->Prop}{s:Shared}
theorem zjD{elt target iter:Expr}{ifs:List Expr}{scope:Scope}{pos:Pos}{it acc:Value}{env:Env}(I:Nat->Shared->Prop)
  (turn:∀n s,I n s->wpAny (model prog w) A (pyNext it) (fun r s₁=>match r with
   |none=>R (.ok .next) s₁
   |some v=>wpAny (model prog w) A (letOwnedTupleGo target it v) (fun _ s₀=>wpAny (model prog w) A (assign target env v) (fun _ s₂=>
     wpAny (model prog w) A (forIn ifs true fun c r=>if r=true then do let ok ←isTrue c env (eval c env);pure (ForInStep.yield ok) else pure (ForInStep.yield r)) (fun ok s₃=>
      if ok=true then wpAny (model prog w) A (eval elt env) (fun x s₄=>
       wpAny (model prog w) A (call (.builtin "list.append") [acc,x]) (fun _ s₅=>∃m,m<n/\I m s₅) (notedBy (model prog w) A env fun e s'=>R (.error e) s') s₄) (notedBy (model prog w) A env fun e s'=>R (.error e) s') s₃
      else ∃m,m<n/\I m s₃) (notedBy (model prog w) A env fun e s'=>R (.error e) s') s₂) (notedBy (model prog w) A env fun e s'=>R (.error e) s') s₀) (notedBy (model prog w) A env fun e s'=>R (.error e) s') s₁) (notedBy (model prog w) A env fun e s'=>R (.error e) s') s)
  (n:Nat) (h:I n s):codeAny (model prog w) A (.compLoop (.ListComp elt [⟨target,iter,ifs,0⟩] scope pos) 0 it acc env) R s:=by
 refine codeAny_loop rfl I (fun n s hI=>?_) n h
 show wpAny _ A ((compTurn (.ListComp elt [⟨target,iter,ifs,0⟩] scope pos) 0 it acc env).onRaise (fun x=>do noteFrame x env;theTreesLotGoes x)) _ _ s
 refine wpAny_noted ?_
 rw[compTurn_list]
 refine uW (wpAny_standAt (uW (wpAny_mono (turn n s hI) (fun r s₁ h₁=>?_) fun _ _ h'=>h')))
 cases r with
 |none=>exact uX h₁
 |some v=>
  refine uW (wpAny_mono h₁ (fun _ s₀ h₀=>?_) fun _ _ h'=>h')
  refine uW (wpAny_mono h₀ (fun _ s₂ h₂=>uW (wpAny_mono h₂ (fun ok s₃ h₃=>?_) fun _ _ h'=>h')) fun _ _ h'=>h')
  cases ok with
  |false=>exact uX ⟨rfl,h₃⟩
  |true=>
   exact uW (uW (wpAny_mono h₃ (fun x s₄ h₄=>uW (wpAny_mono h₄ (fun _ s₅ h₅=>uX (uX ⟨rfl,h₅⟩)) fun _ _ h'=>h')) fun _ _ h'=>h'))
end
noncomputable def zZ(X:Cx)(scope:Scope)(cl:List (Str×Addr))(NY:List Str)(C:Addr)(s:Shared)(H:Hp)(fp:List Addr):Cx where
 prog:=X.prog
 w:=X.w
 K:=X.K
 mg:=X.mg
 base:=X.base
 A:=X.A
 N:=NY
 s₀:=s
 H₀:=H
 env:=compEnvC scope cl C X.env
 outer:=X.stack
 stack:=X.stack
 ex:=fp
 fn:=fun _=>false
 calm:=true
 pn:=[]
 xe:=notedBy (model X.prog X.w) X.A (compEnvC scope cl C X.env) fun e s'=>compPost (model X.prog X.w) X.A X.xe none (fun _ _=>False) .none C (.error e) s'
def ClOk:List (Str×Addr)->List (Str×Addr)->Prop
 |[],_=>True
 |p::r,cells=>cells.lookup p.1=some p.2/\ClOk r cells
theorem ClOk.mem:∀{cl cells:List (Str×Addr)},ClOk cl cells->∀{x:Str}{c:Addr},cl.lookup x=some c->cells.lookup x=some c
 |[],_,_,_,_,e=>by simp at e
 |(y,d)::r,cells,h,x,c,e=>by
  rw[vV] at e
  split at e
  ·rename_i q
   have q':x=y:=by simpa using q
   subst q'
   cases e
   exact h.1
  ·exact ClOk.mem h.2 e
def FrOk(X:Cx)(scope:Scope)(cl:List (Str×Addr)):List Nat->List Str->Prop
 |[],[]=>True
 |i::r,y::ys=>(X.N[i]?=some y/\scope.names.lookup y=some .free/\Vis X.env.scope y/\X.env.kindOf y≠some .local/\∃c,cl.lookup y=some c)/\FrOk X scope cl r ys
 |_,_=>False
def PIfs(X:Cx)(ifs:List Expr)(t:TT):Prop:=
 ∀(zp:List (Addr×Obj))(s:Shared)(σ:St)(H:Hp)(Q:Bool->Hp->Prop),Inv X zp σ H s->t σ H Q->
  wpAny (model X.prog X.w) X.A (forIn ifs true fun c r=>if r=true then do let ok ←isTrue c X.env (eval c X.env);pure (ForInStep.yield ok) else pure (ForInStep.yield r)) (TP X zp σ Q) X.xe s
theorem zM{X:Cx}:PIfs X [] (fun _ H Q=>Q true H):=fun _ _ _ H _ I h=>wpAny_tests_nil ⟨H,I,h⟩
theorem zfu{X:Cx}{c:Expr}{t:TT}(h:PT X c t):PIfs X [c] t:=fun zp s σ H Q I q=>wpAny_tests_one (h zp s σ H Q I q)
noncomputable def frees(fr:List Nat)(σ:St):St:=fr.map fun k=>(σ[k]?).join
def zd1(fr:List Nat)(wi:TI)(tt:TT)(te:TE):TE:=fun σ H Q=>wi σ H fun J H1=>∃W:Nat->Nat->List V->Hp->Prop,(∃m,W 0 m [] H1)/\∀i m vs H,W i m vs H->vs.length<=tH /\
 ((J.stop i H/\∀D,H D=none->Q (.ref D) (upd H D (.lst vs))) \/
  (J.go i H/\∀v H',J.yld i H v H'->tt (some v::frees fr σ) H' fun b H2=>if b=true then te (some v::frees fr σ) H2 fun y H3=>∃m',m'<m/\W (i+1) m' (vs++[y]) H3 else ∃m',m'<m/\W (i+1) m' vs H2))
noncomputable def relF(env:Env)(p:Str×NameKind):Str×NameKind:=if (p.2==NameKind.free&&env.scope.kind==.function&&env.kindOf p.1==some .cell)=true then (p.1,NameKind.cell) else (p.1,p.2)
theorem zlg(env:Env)(p:Str×NameKind):(relF env p).1=p.1:=by unfold relF;split<;>rfl
theorem zb7{env:Env}:∀{names:List (Str×NameKind)}{x:Str},(names.map (relF env)).lookup x=(names.lookup x).map fun k=>(relF env (x,k)).2
 |[],_=>rfl
 |(n,k)::r,x=>by
  have ih:=@zb7 env r x
  rw[yJ]
  have e:relF env (n,k)=(n,(relF env (n,k)).2):=Prod.ext (zlg env (n,k)) rfl
  rw[e]
  cases hx:x==n with
  |true=>
   have q':x=n:=by simpa using hx
   subst q'
   simp only[vV,hx,uB]
  |false=>simp only[vV,hx];exact ih
theorem zb8{env:Env}{names:List (Str×NameKind)}{x:Str}(h:names.lookup x=some .free):
  (names.map (relF env)).lookup x=some .cell\/(names.map (relF env)).lookup x=some .free:=by
 rw[zb7,h,uB]
 unfold relF
 split
 ·exact .inl rfl
 ·exact .inr rfl
theorem zcx{env:Env}{names:List (Str×NameKind)}{x:Str}(hn:∀y∈names,y.2≠.cell)(h:(names.map (relF env)).lookup x=some .cell\/(names.map (relF env)).lookup x=some .free):(x,NameKind.free)∈names:=by
 rw[zb7] at h
 cases q:names.lookup x with
 |none=>rw[q] at h;simp at h
 |some k=>
  rw[q] at h
  have hm:=PySem.mem_of_lookup q
  have hk:k=.free:=by
   unfold relF at h
   simp only[uB,Option.some.injEq] at h
   split at h
   ·rename_i c
    simp only[yZ] at c
    simpa using c.1.1
   ·rcases h with h|h
    ·exact absurd h (hn _ hm)
    ·exact h
  rw[←hk]
  exact hm
theorem zgt{X:Cx}{scope:Scope}{cl:List (Str×Addr)}{σ:St}:∀{fr:List Nat}{ys:List Str},FrOk X scope cl fr ys->∀(j:Nat)(y:Str)(v:V),ys[j]?=some y->(frees fr σ)[j]?=some (some v)->
  ∃i:Nat,X.N[i]?=some y/\σ[i]?=some (some v)/\scope.names.lookup y=some .free/\Vis X.env.scope y/\X.env.kindOf y≠some .local/\∃c,cl.lookup y=some c
 |[],[],_,j,y,v,e,_=>by simp at e
 |[],_::_,h,_,_,_,_,_=>h.elim
 |_::_,[],h,_,_,_,_,_=>h.elim
 |i::r,z::ys,h,0,y,v,e1,e2=>by
  have e1':z=y:=by simpa using e1
  subst e1'
  have e2':(σ[i]?).join=some v:=by simpa [frees] using e2
  have:σ[i]?=some (some v):=by
   cases q:σ[i]? with
   |none=>rw[q] at e2';cases e2'
   |some o=>rw[q] at e2';cases o with
    |none=>cases e2'
    |some u=>cases e2';rfl
  exact⟨i,h.1.1,this,h.1.2.1,h.1.2.2.1,h.1.2.2.2.1,h.1.2.2.2.2⟩
 |i::r,z::ys,h,j+1,y,v,e1,e2=>zgt (fr:=r) (ys:=ys) h.2 j y v (by simpa using e1) (by simpa [frees] using e2)
theorem zd2{X:Cx}{scope:Scope}{cl:List (Str×Addr)}{σ:St}:∀{fr:List Nat}{ys:List Str},FrOk X scope cl fr ys->(frees fr σ).length=ys.length
 |[],[],_=>rfl
 |[],_::_,h=>h.elim
 |_::_,[],h=>h.elim
 |i::r,z::ys,h=>by
  have:=zd2 (σ:=σ) (fr:=r) (ys:=ys) h.2
  simp only[frees,yJ,yF,yA] at *
  lia
def zfv(n:Nat)(fr:List Nat)(wi:TI)(g:TG)(tt:TT)(te:TE):TE:=fun σ H Q=>wi σ H fun J H1=>∃W:Nat->Nat->List V->Hp->Prop,(∃m,W 0 m [] H1)/\∀i m vs H,W i m vs H->vs.length<=tH /\
 ((J.stop i H/\∀D,H D=none->Q (.ref D) (upd H D (.lst vs))) \/
  (J.go i H/\∀v H',J.yld i H v H'->g v (yD n none++frees fr σ) H' fun σ2 H2=>tt σ2 H2 fun b H3=>if b=true then te σ2 H3 fun y H4=>∃m',m'<m/\W (i+1) m' (vs++[y]) H4 else ∃m',m'<m/\W (i+1) m' vs H3))
def Kps(g:TG)(n:Nat):Prop:=∀(fre:St)(v:V)(H:Hp)(k:St->Hp->Prop),g v (yD n none++fre) H k->g v (yD n none++fre) H fun σ' H'=>k σ' H'/\∀(i:Nat)(v':V),(yD n none++fre)[i]?=some (some v')->σ'[i]?=some (some v')
theorem kps1:Kps (zW 0) 1:=fun fre v H k h=>⟨h,fun i v' e=>by
 cases i with
 |zero=>simp at e
 |succ j=>simpa using e⟩
theorem ze3{X:Cx}{elt iter tg:Expr}{pos:Pos}{ifs:List Expr}{scope:Scope}{cl:List (Str×Addr)}(NY:List Str)(fr:List Nat)(ys:List Str){g:TG}{tt:TT}{te:TE}{use:Option (Value->Sem Unit)}{Qp:Value->Shared->Prop}{F:Addr->Hp->List V->Prop}{zp:List (Addr×Obj)}{σ:St}{itv:Value}{s2:Shared}
  (hc:X.calm=true) (hcell:∀y∈scope.names,y.2≠.cell) (hkind:scope.kind=.function)
  (hcl:ClOk cl X.env.cells) (hall:(scope.names.all fun y=>y.2 != .free||(cl.lookup y.1).isSome)=true) (hfr:FrOk X scope cl fr ys) (hgk:fr=[]\/Kps g NY.length)
  (hg:∀C s H fp,PG (zZ X scope cl (NY++ys) C s H fp) tg g)
  (hY:∀C s H fp,PIfs (zZ X scope cl (NY++ys) C s H fp) ifs tt/\PE (zZ X scope cl (NY++ys) C s H fp) elt te)
  (fin':∀(C D:Addr)(H3:Hp)(vs:List V)(m4:Str->Option Value)(s4:Shared),Inv X zp σ (upd H3 D (.lst vs)) s4->FpOk X zp (upd H3 D (.lst vs)) C->s4.heap.Ns C m4->F D H3 vs->compPost (model X.prog X.w) X.A X.xe use Qp (.ref D) C (.ok .next) s4)
  (h2:PIE X zp σ tg (fun J H1=>∃W:Nat->Nat->List V->Hp->Prop,(∃m,W 0 m [] H1)/\∀i m vs H,W i m vs H->vs.length<=tH /\
   ((J.stop i H/\∀D,H D=none->F D H vs) \/
    (J.go i H/\∀v H',J.yld i H v H'->g v (yD NY.length none++frees fr σ) H' fun σ2 H2=>tt σ2 H2 fun b H3=>if b=true then te σ2 H3 fun y H4=>∃m',m'<m/\W (i+1) m' (vs++[y]) H4 else ∃m',m'<m/\W (i+1) m' vs H3))) itv s2):
  wpAny (model X.prog X.w) X.A (newList []) (fun acc s₃=>wpAny (model X.prog X.w) X.A (newFunctionEnv scope X.env.globals cl [] X.env.qual none Value.none (some X.env))
   (fun cenv s₄=>codeAny (model X.prog X.w) X.A (.compStart (.ListComp elt [⟨tg,iter,ifs,0⟩] scope pos) 0 itv acc {cenv with scope:=relabel scope X.env}) (compPost (model X.prog X.w) X.A X.xe use Qp acc cenv.locals) s₄) X.xe s₃) X.xe s2:=by
 obtain⟨it,fp,tn,J,H2,rfl,I2,T,st2,f2,W,⟨m0,w0⟩,turn⟩:=h2
 refine tI (wpAny_newFunctionEnv hcell (by intro y hy;simp at hy) (fun h₁ hns₁ hsb₁=>?_) hkind)
 dsimp only at hns₁ hsb₁ ⊢
 generalize hP2:s2.heap.push {cls:=.type "list",dict:=none,data:=.seq ([]:List Value).toArray}=P2 at hns₁ hsb₁ ⊢
 have hC:P2.objs.size=s2.heap.objs.size+1:=by rw[←hP2,Heap.size_push]
 have hDC:s2.heap.objs.size≠P2.objs.size:=by rw[hC];exact xA (vC _)
 have hCle:s2.heap.objs.size<=P2.objs.size:=by rw[hC];exact vK _
 have below:∀b,b<s2.heap.objs.size->b≠P2.objs.size/\b≠s2.heap.objs.size:=fun b hb=>⟨by rw[hC];exact xA (vT hb),xA hb⟩
 have old:∀b o,s2.heap.get? b=some o->h₁.get? b=some o:=fun b o e=>hsb₁.extBut b o (below b (uZ e)).1 (uY _ (hP2▸uY _ e))
 have hacc:h₁.get? s2.heap.objs.size=some {cls:=.type "list",data:=.seq ([]:List Value).toArray}:=hsb₁.extBut _ _ hDC (uY _ (hP2▸tD _ rfl))
 have fpl:∀b∈fp,b<s2.heap.objs.size:=fun b hb=>by
  obtain⟨o,e,_⟩:=T.obj _ _ st2 b hb
  exact uZ e
 have tlt:∀b o,H2 b=some o->b<s2.heap.objs.size:=fun b o e=>I2.hok.lt e
 generalize hCg:P2.objs.size=C at hns₁ hsb₁ hDC hCle below ⊢
 generalize hDg:s2.heap.objs.size=D at hDC below hacc fpl tlt ⊢
 have hDle:D<=C:=by rw[←hDg];exact hCle
 have cls:∀y c,cl.lookup y=some c->X.env.cells.lookup y=some c:=fun y c e=>hcl.mem e
 have clt:∀y c,cl.lookup y=some c->c<D:=fun y c e=>by
  obtain⟨v,q⟩:=I2.cell y c (cls y c e)
  rw[←hDg];exact q.lt
 have sub:∀b∈frs X.stack,b<D:=fun b hb=>by
  rcases yG.mp (I2.stkSub b hb) with e|hb
  ·rw[e,←hDg];exact I2.lt
  ·obtain⟨_,o,ho,_⟩:=I2.ok.funs.mem hb
   rw[←hDg];exact xE (uZ ho) I2.sz
 obtain⟨YI,YE⟩:=hY C s2 H2 fp
 have YG:=hg C s2 H2 fp
 have Yok:(zZ X scope cl (NY++ys) C s2 H2 fp).Ok:=by
  refine⟨I2.ok.mod,hkind,I2.ok.glob,I2.ok.blt,hCle,?_,?_,?_,fun _=>I2.ok.hd hc,I2.ok.frames,.inl rfl,?_,I2.bs,yQ I2.ok.bsz I2.sz,?_,?_,I2.stack,I2.stkFree⟩
  ·exact fun y z c e1 e2=>I2.ok.inj y z c (cls y c e1) (cls z c e2)
  ·intro y hy
   have hm:=zcx (env:=X.env) (names:=scope.names) (x:=y) hcell hy
   have q:=xY.mp hall _ hm
   show ∃c,cl.lookup y=some c
   exact vU.mp (by simpa using q)
  ·intro y c hf _
   exact absurd hf (by show ¬false=true;decide)
  ·intro b hb
   refine⟨(below b (fpl b hb)).1,fun y c e z=>?_⟩
   exact (f2 b hb).2.2.2.2.1 y c (cls y c e) z
  ·intro b o e hb
   have hb:b∈fp:=hb
   rcases (f2 b hb).2.2.2.1 with z|z
   ·exact I2.ok.noex b o e z
   ·exact absurd (xE (uZ e) (yQ I2.ok.bsz z)) (xX _)
  ·intro b hb hf
   have hb:b∈fp:=hb
   rcases yG.mp (I2.stkSub b hf) with e|hf
   ·exact (f2 b hb).2.1 e
   ·exact (f2 b hb).2.2.1 hf
 have start:∀tk,Inv (zZ X scope cl (NY++ys) C s2 H2 fp) [] (yD NY.length none++frees fr σ) H2 {s2 with heap:=h₁,toks:=tk}:=fun tk=>by
  refine⟨Yok,rfl,I2.bare,Un.kept old,⟨_,hns₁,fun i y v e1 e2 e3=>?_⟩,fun y c e=>?_,?_,fun y c e=>?_,fun p hp=>absurd (show p∈([]:List (Addr×Obj)) from hp) (by simp),I2.hok.kept old,?_⟩
  ·by_cases hi:i<NY.length
   ·rw[yP (by rw[xK];exact hi),vH] at e2
    split at e2<;>simp at e2
   ·have e1:(NY++ys)[i]?=some y:=e1
    rw[yL (by lia)] at e1
    rw[yL (by rw[xK];lia),xK] at e2
    obtain⟨i',n1,n2,n3,n4,n5,c,n6⟩:=zgt hfr _ y v e1 e2
    obtain⟨m,hn,hl⟩:=I2.loc
    obtain⟨u,r,l⟩:=hl i' y v n1 n2 n4
    refine⟨u,r,.inr ⟨zb8 n3,c,n6,?_⟩⟩
    rcases l with⟨k,_⟩|⟨k,c',e,z⟩
    ·exact absurd k n5
    ·rw[cls y c n6] at e
     cases e
     obtain⟨o,ho,hd⟩:=z
     exact⟨o,old _ _ ho,hd⟩
  ·obtain⟨v,o,ho,hd⟩:=I2.cell y c (cls y c e)
   exact⟨v,o,old _ _ ho,hd⟩
  ·show H2 C=none
   cases q:H2 C with
   |none=>rfl
   |some o=>exact absurd (tlt C o q) (Nat.not_lt.mpr hDle)
  ·exact I2.freeC y c (cls y c e)
  ·show (yD NY.length (none:Option V)++frees fr σ).length=(NY++ys).length
   rw[yC,yC,xK,zd2 hfr]
 have fpY:∀{pl:List (Addr×Obj)}{H':Hp},(∀b∈fp,H' b=none)->(∀p∈pl,p.1=D)->∀b∈fp,FpOk (zZ X scope cl (NY++ys) C s2 H2 fp) pl H' b:=fun {pl H'} hn hpl b hb=>by
  refine⟨hn b hb,(below b (fpl b hb)).1,Yok.exfs b hb,.inl hb,fun y c e z=>(f2 b hb).2.2.2.2.1 y c (cls y c e) z,fun p hp=>?_⟩
  have hp:p∈[]++pl:=hp
  rw[xS] at hp
  rw[hpl p hp]
  exact (below b (fpl b hb)).2.symm
 have loop:∀s₃:Shared,(∃tk,s₃={s2 with heap:=h₁,toks:=tk})->
   codeAny (model X.prog X.w) X.A (.compLoop (.ListComp elt [⟨tg,iter,ifs,0⟩] scope pos) 0 (.ref it) (.ref D) (compEnvC scope cl C X.env))
    (compPost (model X.prog X.w) X.A X.xe use Qp (.ref D) C) s₃:=by
  rintro s₃ ⟨tk,rfl⟩
  refine zjD
   (fun k s'=>∃i vs ws nn H',Inv (zZ X scope cl (NY++ys) C s2 H2 fp) [] (yD NY.length none++frees fr σ) H' s'/\tn i s'.heap/\(∀b∈fp,H' b=none)/\H' D=none /\
    s'.heap.get? D=some {cls:=.type "list",data:=.seq (ws:List Value).toArray nn}/\Vals vs ws/\W i k vs H') ?_ m0
   ⟨0,[],[],0,H2,start tk,T.keep _ _ _ st2 fun b _ o e=>old b o e,fun b hb=>(f2 b hb).1,?_,hacc,.nil,w0⟩
  ·rintro n s3 ⟨i,vs,ws,nn,H3,I3,st3,fr3,hD3,ho3,rv3,w3⟩
   have I3':Inv (zZ X scope cl (NY++ys) C s2 H2 fp) [(D,{cls:=.type "list",data:=.seq ws.toArray nn})] (yD NY.length none++frees fr σ) H3 s3:=I3.pins_of fun p hp=>by
    have e:p=(D,{cls:=.type "list",data:=.seq ws.toArray nn}):=by simpa using hp
    subst e
    refine⟨ho3,hD3,hDC,fun z=>absurd (sub D z) (xX _),fun v z=>?_⟩
    have z':Data.seq ws.toArray nn=Data.cell v:=z
    cases z'
   have fp3:=fpY (pl:=[(D,{cls:=.type "list",data:=.seq ws.toArray nn})]) fr3 (fun p hp=>by rw[yH.mp hp])
   obtain⟨hsz,alt⟩:=turn i n vs H3 w3
   rcases alt with⟨stop,fin⟩|⟨go,step⟩
   ·refine thn (T.done (zZ X scope cl (NY++ys) C s2 H2 fp) rfl rfl rfl rfl i _ s3 _ H3 _ I3' fp3 st3 stop) fun r s4 ⟨hr,I4⟩=>?_
    subst hr
    have pD:=I4.pin (D,{cls:=.type "list",data:=.seq ws.toArray nn}) (by show _∈[]++_;simp)
    obtain⟨m4,hn4,_⟩:=I4.loc
    have hC4:H3 C=none:=I4.free
    have hok4:HOk X.prog X.w (upd H3 D (.lst vs)) s4.heap:=HOk.track I4.hok hD3 ⟨hsz,ws,nn,rv3,pD.1⟩
    have b4:=I4.base
    have un4:Un (frs X.stack) fp H2 (upd H3 D (.lst vs)) s2.heap s4.heap:=by
     have lt:∀b o,s2.heap.get? b=some o->b<D:=fun b o e=>by rw[←hDg];exact uZ e
     refine⟨b4.keep,b4.slot,fun b o e n hx=>?_,b4.there,fun b zs e=>?_,fun b o u e=>?_,fun b ps e=>?_⟩
     ·rw[zA (below b (lt b o e)).2];exact b4.free b o e n hx
     ·rw[zA (below b (tlt b _ e)).2];exact b4.tups b zs e
     ·rw[zA (below b (tlt b _ e)).2];exact b4.frzs b o u e
     ·rw[zA (below b (tlt b _ e)).2];exact b4.tbls b ps e
    have I5:Inv X zp σ (upd H3 D (.lst vs)) s4:=I2.call' (ch:=fp) I4.os un4 hok4 I4.bare fun b hb=>⟨(f2 b hb).2.2.2.1,(f2 b hb).2.1,(f2 b hb).2.2.2.2.1,(f2 b hb).2.2.2.2.2⟩
    have fC:FpOk X zp (upd H3 D (.lst vs)) C:=I2.fpOk (by rw[hDg];exact hDle) (by rw[zA hDC.symm];exact hC4)
    exact fin' C D H3 vs _ s4 I5 fC hn4 (fin D hD3)
   ·refine thn (T.item (zZ X scope cl (NY++ys) C s2 H2 fp) rfl rfl rfl rfl i _ s3 _ H3 _ I3' fp3 st3 go) fun r s4 ⟨u,hr,h4⟩=>?_
    subst hr
    refine thn h4 fun _ s5 ⟨v,H5,I5,r5,y5,st5,fr5⟩=>?_
    have fp5:=fpY (pl:=[(D,{cls:=.type "list",data:=.seq ws.toArray nn})]) fr5 (fun p hp=>by rw[yH.mp hp])
    have I5':=I5.pinned fp5 (T.obj _ _ st5)
    have hst:∃k':St->Hp->Prop,g v (yD NY.length none++frees fr σ) H5 k'/\∀σ' H',k' σ' H'->(tt σ' H' fun b H3=>if b=true then te σ' H3 fun y H4=>∃m',m'<n/\W (i+1) m' (vs++[y]) H4 else ∃m',m'<n/\W (i+1) m' vs H3)/\∀(i:Nat)(v':V),(yD NY.length none++frees fr σ)[i]?=some (some v')->σ'[i]?=some (some v'):=by
     rcases hgk with rfl|hgk
     ·refine⟨_,step v H5 y5,fun σ' H' h=>⟨h,fun i v' e=>?_⟩⟩
      rw[show frees [] σ=[] from rfl,xH,vH] at e
      split at e<;>simp at e
     ·exact⟨_,hgk _ v H5 _ (step v H5 y5),fun σ' H' h=>h⟩
    obtain⟨k',hk1,hk2⟩:=hst
    refine thn (YG _ s5 _ H5 v u _ I5' r5 hk1) fun _ s6 ⟨σ6,H6,I6,q6⟩=>?_
    obtain⟨q6,hkeep⟩:=hk2 _ _ q6
    refine thn (YI _ s6 _ _ _ I6 q6) fun b s7 ⟨H7,I7,q7⟩=>?_
    have back:∀{H8:Hp}{s8:Shared},Inv (zZ X scope cl (NY++ys) C s2 H2 fp) ([(D,{cls:=.type "list",data:=.seq ws.toArray nn})]++zge fp s5.heap) σ6 H8 s8->
      s8.heap.get? D=some {cls:=.type "list",data:=.seq ws.toArray nn}/\H8 D=none/\(∀b∈fp,H8 b=none)/\(∀b∈fp,∀o,s5.heap.get? b=some o->s8.heap.get? b=some o):=fun {H8 s8} I8=>by
     have pD:=I8.pin (D,{cls:=.type "list",data:=.seq ws.toArray nn}) (by show _∈[]++_;simp)
     refine⟨pD.1,pD.2.1,fun b hb=>?_,fun b hb o e=>?_⟩
     ·obtain⟨o,e,d⟩:=T.obj _ _ st5 b hb
      exact (I8.pin (b,o) (xM _ (xM _ (zbO hb e)))).2.1
     ·exact (I8.pin (b,o) (xM _ (xM _ (zbO hb e)))).1
    have weak:∀{H8:Hp}{s8:Shared},Inv (zZ X scope cl (NY++ys) C s2 H2 fp) [] σ6 H8 s8->Inv (zZ X scope cl (NY++ys) C s2 H2 fp) [] (yD NY.length none++frees fr σ) H8 s8:=fun {H8 s8} I8=>
     I8.weak (by rw[yC,xK,zd2 hfr,←yC];exact I8.len.symm) hkeep
    have nopin:∀{H8:Hp}{s8:Shared}{pl:List (Addr×Obj)},Inv (zZ X scope cl (NY++ys) C s2 H2 fp) pl σ6 H8 s8->Inv (zZ X scope cl (NY++ys) C s2 H2 fp) [] σ6 H8 s8:=fun {H8 s8 pl} I8=>
     I8.pins_of fun p hp=>absurd hp (by simp)
    cases b with
    |false=>
     rw[if_neg yT] at q7 ⊢
     obtain⟨m',hm,w7⟩:=q7
     obtain⟨k1,k2,k3,k4⟩:=back I7
     exact⟨m',hm,i+1,vs,ws,nn,H7,weak (nopin I7),T.keep _ _ _ st5 k4,k3,k2,k1,rv3,w7⟩
    |true=>
     rw[if_pos rfl] at q7 ⊢
     refine thn (YE _ s7 _ _ _ I7 q7) fun u8 s8 ⟨y8,H8,I8,r8,m',hm,w8⟩=>?_
     obtain⟨k1,k2,k3,k4⟩:=back I8
     refine append_at (hsz:=by rw[yI,←rv3.length];exact hsz) k1 fun h9 hs9 ho9=>?_
     have I9:Inv (zZ X scope cl (NY++ys) C s2 H2 fp) [] σ6 H8 {s8 with heap:=h9}:=
      (nopin I8).turned (t':=s8.toks) (it:=D) (fun b o hb e=>(hs9.2 b hb).trans e) k2 hDC (.inr (by rw[←hDg];exact yO _)) (fun y c e=>xA (clt y c e)) fun p hp=>absurd (show p∈([]:List (Addr×Obj)) from hp) (by simp)
     refine⟨m',hm,i+1,vs++[y8],ws++[u8],nn+1,H8,weak I9,?_,k3,k2,?_,rv3.append (.cons r8 .nil),w8⟩
     ·refine T.keep _ _ _ st5 fun b hb o e=>?_
      exact (hs9.2 b (below b (fpl b hb)).2).trans (k4 b hb o e)
     ·rw[ho9,List.push_toArray]
  ·cases q:H2 D with
   |none=>rfl
   |some o=>exact absurd (tlt D o q) (xX _)
 exact codeAny_compStart_list (loop _ ⟨_,rfl⟩) (T.self _ 0 _ _ _ (T.keep _ _ _ st2 fun b _ o e=>old b o e) (loop _ ⟨_,rfl⟩))
theorem zmN{X:Cx}{zp:List (Addr×Obj)}{σ:St}{Q:VK}{C D:Addr}{H3:Hp}{vs:List V}{m4:Str->Option Value}{s4:Shared}(I5:Inv X zp σ (upd H3 D (.lst vs)) s4)(fC:FpOk X zp (upd H3 D (.lst vs)) C)(hn:s4.heap.Ns C m4)(q:Q (.ref D) (upd H3 D (.lst vs))):
  compPost (model X.prog X.w) X.A X.xe none (EP X zp σ Q) (.ref D) C (.ok .next) s4:=
 ⟨m4,hn,fun h' hs'=>⟨.ref D,upd H3 D (.lst vs),I5.turned (t':=s4.toks) (it:=C) (fun b o hb e=>(hs'.2 b hb).trans e) fC.1 fC.2.1 fC.2.2.2.1 fC.2.2.2.2.1 fC.2.2.2.2.2,rfl,q⟩⟩
theorem zmO{X:Cx}{i:Nat}{y:Str}{py:Pos}{zp:List (Addr×Obj)}{σ:St}{Dn:Ends}{C D:Addr}{H3:Hp}{vs:List V}{m4:Str->Option Value}{s4:Shared}(hN:X.N.Nodup)(hiy:X.N[i]?=some y)(hy:Loc X.env.scope y)(hf:X.fn y=true\/X.env.scope.names.lookup y=some .local)
  (I5:Inv X zp σ (upd H3 D (.lst vs)) s4) (fC:FpOk X zp (upd H3 D (.lst vs)) C) (hn:s4.heap.Ns C m4) (q:Dn.nx (σ.set i (some (.ref D))) (upd H3 D (.lst vs))):
  compPost (model X.prog X.w) X.A X.xe (some (assign (.Name y py) X.env)) (fun _ s'=>SP X zp Dn .next s') (.ref D) C (.ok .next) s4:=by
 refine (show wpAny _ X.A (assign (.Name y py) X.env (.ref D)) _ _ s4 from wpAny_assign_Name (zgc I5 hN hiy hy (v:=.ref D) rfl (fun s5 I6 ⟨a,hsa,ha⟩=>?_) hf))
 have aC:C≠a:=by
  rcases ha with ha|ha
  ·rw[ha];exact fC.2.1
  ·exact (fC.2.2.2.2.1 _ _ ha).symm
 exact⟨m4,hn.sameBut hsa aC,fun h' hs'=>⟨_,upd H3 D (.lst vs),I6.turned (t':=s5.toks) (it:=C) (fun b o hb e=>(hs'.2 b hb).trans e) fC.1 fC.2.1 fC.2.2.2.1 fC.2.2.2.2.1 fC.2.2.2.2.2,q⟩⟩
theorem zjE{X:Cx}{elt iter tg:Expr}{pos:Pos}{ifs:List Expr}{scope:Scope}{cl:List (Str×Addr)}(NY:List Str)(fr:List Nat)(ys:List Str){wi:TI}{g:TG}{tt:TT}{te:TE}
  (hc:X.calm=true) (hclos:closureFor scope X.env=pure cl) (hcell:∀y∈scope.names,y.2≠.cell) (hkind:scope.kind=.function) (hnames:∀y∈scope.names,y.2=.local->scope.names.lookup y.1=some .local)
  (hcl:ClOk cl X.env.cells) (hall:(scope.names.all fun y=>y.2 != .free||(cl.lookup y.1).isSome)=true) (hfr:FrOk X scope cl fr ys) (hgk:fr=[]\/Kps g NY.length)
  (hi:PI X tg iter wi) (hg:∀C s H fp,PG (zZ X scope cl (NY++ys) C s H fp) tg g)
  (hY:∀C s H fp,PIfs (zZ X scope cl (NY++ys) C s H fp) ifs tt/\PE (zZ X scope cl (NY++ys) C s H fp) elt te)
  (hs:∀v,foldedSetIterable iter X.env v=pure v:=by intro _;rfl):
  PE X (.ListComp elt [⟨tg,iter,ifs,0⟩] scope pos) (zfv NY.length fr wi g tt te):=by
 intro zp s σ H Q I h
 rw[eval_ListComp]
 exact wpAny_comprehension_free (use:=none) rfl hs hclos hkind hnames (wpAny_mono (hi zp s σ H _ I h) (fun v s1 h1=>wpAny_mono h1 (fun itv s2 h2=>ze3 NY fr ys hc hcell hkind hcl hall hfr hgk hg hY (fun _ _ _ _ _ _=>zmN) h2) fun _ _ e=>e) fun _ _ e=>e)
theorem zhR{X:Cx}{i:Nat}{y:Str}{py spos:Pos}{elt iter tg:Expr}{pos:Pos}{ifs:List Expr}{scope:Scope}{cl:List (Str×Addr)}(NY:List Str)(fr:List Nat)(ys:List Str){wi:TI}{g:TG}{tt:TT}{te:TE}
  (hc:X.calm=true) (hclos:closureFor scope X.env=pure cl) (hcell:∀y∈scope.names,y.2≠.cell) (hkind:scope.kind=.function) (hnames:∀y∈scope.names,y.2=.local->scope.names.lookup y.1=some .local)
  (hcl:ClOk cl X.env.cells) (hall:(scope.names.all fun y=>y.2 != .free||(cl.lookup y.1).isSome)=true) (hfr:FrOk X scope cl fr ys) (hgk:fr=[]\/Kps g NY.length)
  (hi:PI X tg iter wi) (hg:∀C s H fp,PG (zZ X scope cl (NY++ys) C s H fp) tg g)
  (hY:∀C s H fp,PIfs (zZ X scope cl (NY++ys) C s H fp) ifs tt/\PE (zZ X scope cl (NY++ys) C s H fp) elt te)
  (hN:X.N.Nodup) (hiy:X.N[i]?=some y) (hy:Loc X.env.scope y) (hsw:swapsWith (.ListComp elt [⟨tg,iter,ifs,0⟩] scope pos) (some (.Name y py)) spos.line X.env=pure true:=by rfl)
  (hf:X.fn y=true\/X.env.scope.names.lookup y=some .local:=by first|exact .inl rfl|exact .inr rfl|assumption)
  (hs:∀v,foldedSetIterable iter X.env v=pure v:=by intro _;rfl):
  PS X (.Assign [.Name y py] (.ListComp elt [⟨tg,iter,ifs,0⟩] scope pos) spos) (tAsg (zfv NY.length fr wi g tt te) (zW i)):=by
 intro zp s σ H Dn I h
 rw[exec_Assign_Name_used _ _ _ _ hsw]
 refine uW (wpAny_standAt (uW ?_))
 refine (show wpAny _ X.A (do let _ ←comprehension (.ListComp elt [⟨tg,iter,ifs,0⟩] scope pos) scope X.env _ (newList []) false (eval iter X.env) (some (assign (.Name y py) X.env))) _ _ s from ?_)
 exact uW (wpAny_mono (wpAny_comprehension_free (use:=some (assign (.Name y py) X.env)) (Q:=fun _ s'=>SP X zp Dn .next s') rfl hs hclos hkind hnames (wpAny_mono (hi zp s σ H _ I h) (fun v s1 h1=>wpAny_mono h1 (fun itv s2 h2=>ze3 (σ:=σ) (F:=fun D H vs=>Dn.nx (σ.set i (some (.ref D))) (upd H D (.lst vs))) NY fr ys hc hcell hkind hcl hall hfr hgk hg hY (fun _ _ _ _ _ _=>zmO hN hiy hy hf) h2) fun _ _ e=>e) fun _ _ e=>e)) (fun _ s' hq=>uX (uX hq)) fun _ _ e=>e)
theorem zmj{X:Cx}{scope:Scope}{cl:List (Str×Addr)}{x:Str}{px:Pos}{ys:List Str}(hx:scope.names.lookup x=some .local)(hnd:(x::ys).Nodup):∀C s H fp,PG (zZ X scope cl ([x]++ys) C s H fp) (.Name x px) (zW 0):=fun C s H fp=>
 Zb (X:=zZ X scope cl (x::ys) C s H fp) (i:=0) (pos:=px) hnd rfl (.inl (lookup_relabel_local hx)) (.inr (lookup_relabel_local hx))
theorem zN{X:Cx}{elt iter:Expr}{x:Str}{px pos:Pos}{ifs:List Expr}{scope:Scope}{cl:List (Str×Addr)}(fr:List Nat)(ys:List Str){wi:TI}{tt:TT}{te:TE}
  (hc:X.calm=true) (hclos:closureFor scope X.env=pure cl) (hcell:∀y∈scope.names,y.2≠.cell) (hkind:scope.kind=.function) (hnames:∀y∈scope.names,y.2=.local->scope.names.lookup y.1=some .local)
  (hx:scope.names.lookup x=some .local) (hnd:(x::ys).Nodup) (hcl:ClOk cl X.env.cells) (hall:(scope.names.all fun y=>y.2 != .free||(cl.lookup y.1).isSome)=true) (hfr:FrOk X scope cl fr ys)
  (hi:PI X (.Name x px) iter wi)
  (hY:∀C s H fp,PIfs (zZ X scope cl (x::ys) C s H fp) ifs tt/\PE (zZ X scope cl (x::ys) C s H fp) elt te)
  (hs:∀v,foldedSetIterable iter X.env v=pure v:=by intro _;rfl):
  PE X (.ListComp elt [⟨.Name x px,iter,ifs,0⟩] scope pos) (zd1 fr wi tt te):=fun zp s σ H Q I h=>
 zjE [x] fr ys hc hclos hcell hkind hnames hcl hall hfr (.inr kps1) hi (zmj hx hnd) hY hs zp s σ H Q I h
theorem zg8{X:Cx}{i:Nat}{y:Str}{py spos:Pos}{elt iter:Expr}{x:Str}{px pos:Pos}{ifs:List Expr}{scope:Scope}{cl:List (Str×Addr)}(fr:List Nat)(ys:List Str){wi:TI}{tt:TT}{te:TE}
  (hc:X.calm=true) (hclos:closureFor scope X.env=pure cl) (hcell:∀y∈scope.names,y.2≠.cell) (hkind:scope.kind=.function) (hnames:∀y∈scope.names,y.2=.local->scope.names.lookup y.1=some .local)
  (hx:scope.names.lookup x=some .local) (hnd:(x::ys).Nodup) (hcl:ClOk cl X.env.cells) (hall:(scope.names.all fun y=>y.2 != .free||(cl.lookup y.1).isSome)=true) (hfr:FrOk X scope cl fr ys)
  (hi:PI X (.Name x px) iter wi)
  (hY:∀C s H fp,PIfs (zZ X scope cl (x::ys) C s H fp) ifs tt/\PE (zZ X scope cl (x::ys) C s H fp) elt te)
  (hN:X.N.Nodup) (hiy:X.N[i]?=some y) (hy:Loc X.env.scope y) (hsw:swapsWith (.ListComp elt [⟨.Name x px,iter,ifs,0⟩] scope pos) (some (.Name y py)) spos.line X.env=pure true:=by rfl)
  (hf:X.fn y=true\/X.env.scope.names.lookup y=some .local:=by first|exact .inl rfl|exact .inr rfl|assumption)
  (hs:∀v,foldedSetIterable iter X.env v=pure v:=by intro _;rfl):
  PS X (.Assign [.Name y py] (.ListComp elt [⟨.Name x px,iter,ifs,0⟩] scope pos) spos) (tAsg (zd1 fr wi tt te) (zW i)):=fun zp s σ H Dn I h=>
 zhR [x] fr ys hc hclos hcell hkind hnames hcl hall hfr (.inr kps1) hi (zmj hx hnd) hY hN hiy hy hsw hf hs zp s σ H Dn I h
def zfw(n:Nat)(wi:TI)(g:TG)(tt:TT)(te:TE):TE:=fun σ H Q=>wi σ H fun J H1=>∃W:Nat->Nat->List V->Hp->Prop,(∃m,W 0 m [] H1)/\∀i m vs H,W i m vs H->vs.length<=tH /\
 ((J.stop i H/\∀D,H D=none->Q (.ref D) (upd H D (.lst vs))) \/
  (J.go i H/\∀v H',J.yld i H v H'->g v (yD n none) H' fun σ2 H2=>tt σ2 H2 fun b H3=>if b=true then te σ2 H3 fun y H4=>∃m',m'<m/\W (i+1) m' (vs++[y]) H4 else ∃m',m'<m/\W (i+1) m' vs H3))
theorem zjF(n:Nat)(wi:TI)(g:TG)(tt:TT)(te:TE):zfv n [] wi g tt te=zfw n wi g tt te:=by
 unfold zfv zfw
 simp only[show ∀σ,frees [] σ=[] from fun _=>rfl,xH]
theorem zfx{X:Cx}{i:Nat}{y:Str}{py spos:Pos}{elt iter tg:Expr}{pos:Pos}{ifs:List Expr}{scope:Scope}{cl:List (Str×Addr)}(NY:List Str){wi:TI}{g:TG}{tt:TT}{te:TE}
  (hc:X.calm=true) (hclos:closureFor scope X.env=pure cl) (hcell:∀y∈scope.names,y.2≠.cell) (hkind:scope.kind=.function) (hnames:∀y∈scope.names,y.2=.local->scope.names.lookup y.1=some .local)
  (hcl:ClOk cl X.env.cells) (hall:(scope.names.all fun y=>y.2 != .free||(cl.lookup y.1).isSome)=true)
  (hi:PI X tg iter wi) (hg:∀C s H fp,PG (zZ X scope cl NY C s H fp) tg g)
  (hY:∀C s H fp,PIfs (zZ X scope cl NY C s H fp) ifs tt/\PE (zZ X scope cl NY C s H fp) elt te)
  (hN:X.N.Nodup) (hiy:X.N[i]?=some y) (hy:Loc X.env.scope y) (hsw:swapsWith (.ListComp elt [⟨tg,iter,ifs,0⟩] scope pos) (some (.Name y py)) spos.line X.env=pure true:=by rfl)
  (hf:X.fn y=true\/X.env.scope.names.lookup y=some .local:=by first|exact .inl rfl|exact .inr rfl|assumption)
  (hs:∀v,foldedSetIterable iter X.env v=pure v:=by intro _;rfl):
  PS X (.Assign [.Name y py] (.ListComp elt [⟨tg,iter,ifs,0⟩] scope pos) spos) (tAsg (zfw NY.length wi g tt te) (zW i)):=by
 rw[←zjF]
 exact zhR NY [] [] hc hclos hcell hkind hnames hcl hall trivial (.inl rfl) hi (by rw[xH];exact hg) (by rw[xH];exact hY) hN hiy hy hsw hf hs
def Have(P:Program)(w:World)(K:tU)(mg:Str->Option Value)(base:Heap)(x:Str)(k:Nat)(ps:List Str)(sp:Sp):Prop:=
 ∃(f:Addr)(fd:tV),FnOk P w K mg base CX0 k f fd ps sp/\Binds K fd ps []/\keepIn K (.ref f)=true/\mg x=some (.ref f)
theorem Have.mono{P:Program}{w:World}{K:tU}{mg:Str->Option Value}{base:Heap}{x:Str}{j k:Nat}{ps:List Str}{sp:Sp}(h:Have P w K mg base x j ps sp)(e:j<=k):Have P w K mg base x k ps sp:=
 let ⟨f,fd,F,r⟩:=h;⟨f,fd,F.mono e,r⟩
theorem Have.up{P:Program}{w:World}{K:tU}{mg:Str->Option Value}{base:Heap}{j k:Nat}{ps:List Str}{sp:Sp}{x:Str}(h:Have P w K mg base x j ps sp)(e:Nat.ble j k=true):Have P w K mg base x k ps sp:=h.mono (vJ e)
section
variable{X:Cx}{x:Str}{k:Nat}{ps:List Str}{sp:Sp}{e:Expr}{es:List Expr}{t:TA}{p pos:Pos}
theorem zo(G:Have X.prog X.w X.K X.mg X.base x k ps sp)(hr:Room k X.A)(hg:Gl X x)(ha:PA X (e::es) t)(hdb:(x==("__debug__":Str))=false:=by decide)
  (he:tJ (e::es) X.env=(false,eval e X.env)::tJ es X.env:=by rfl) (hpl:(backTo pos (tJ es X.env)).any (·.1)=false:=by rfl):
  PE X (.Call (.Name x p) (e::es) [] pos) (zjs sp [] E0 t):=by
 obtain⟨f,fd,F,b,kp,m⟩:=G
 exact zmJ F hr hg m kp b .nil zjC ha hdb he hpl
end
section
variable{X:Cx}
def zoO(i j:Int):Prop:=0<j/\j.natAbs.log2<9000
theorem zlh:OpR X (binaryOp .FloorDiv) (rI zoO fun i j=>.int (i / j)):=opI fun i j _ _ _ _ _ hc q=>by
 have h1:(0:Int)<j:=hc.1
 exact floordiv_int (by lia) (by rw[Int.fdiv_eq_ediv_of_nonneg i (by lia)];exact q) (.inl (PyProof.noPylong_of_log2 hc.2))
noncomputable def zcy:List String:=["NoneType","bool","int","str","list","tuple","dict"]
noncomputable def isi(A T:String):Option Bool:=if zcy.contains A&&zcy.contains T then some (A==T||(A=="bool"&&T=="int")) else none
theorem zjG{A:String}(h:zcy.contains A=true):A="NoneType"\/A="bool"\/A="int"\/A="str"\/A="list"\/A="tuple"\/A="dict":=by
 have:A∈zcy:=by simpa using h
 simpa [zcy] using this
theorem znX{K:tU}{A T:String}{b:Bool}(h:isi A T=some b):PySem.W.kitOne K (.type A) (.type T)=some b:=by
 unfold isi at h
 split at h
 ·rename_i c
  rw[yZ] at c
  cases h
  rcases zjG c.1 with rfl|rfl|rfl|rfl|rfl|rfl|rfl<;>rcases zjG c.2 with rfl|rfl|rfl|rfl|rfl|rfl|rfl<;>kernel_rfl
 ·cases h
theorem zP:zaQ X (.builtin "isinstance") (fun xs H Q=>∃v T A b,xs=[v,.ty T]/\TyOf X.K H v (.type A)/\isi A T=some b/\Q (.bl b) H):=by
 intro zp s σ H xs us Q I r h
 obtain⟨v,T,A,b,rfl,ty,e,q⟩:=h
 obtain⟨u,c,rfl,ru,rc⟩:=zk4 r
 cases (show c=Value.type T from rc)
 exact zjr I ru ty (znX e) fun tk=>⟨.bl b,H,I.tok tk,rfl,q⟩
theorem zg9{A:Around}{P:Program}{w:World}{xs:List Bool}{its:List Value}(r:Vals (xs.map V.bl) its):TruthOf P w A (fun i v=>its.toArray[i]?=some v) (fun i=>xs.getD i true):=by
 intro i v s Q E hv h
 have hv':its[i]?=some v:=by simpa using hv
 have hl:=r.length
 rw[yA] at hl
 have hi:i<xs.length:=by rw[hl];exact (yE.mp hv').1
 obtain⟨u,hu,ru⟩:=r.get (i:=i) (x:=V.bl xs[i]) (by rw[yN,yB hi];rfl)
 rw[hv'] at hu
 cases hu
 cases ru
 refine wpAny_truthy_bool ?_
 have e:xs.getD i true=xs[i]:=by rw[vA,yB hi];rfl
 have h:Q (xs.getD i true) s:=h
 rw[e] at h
 exact h
theorem zjH(xs:List Bool):(wK xs.length).all (fun i=>xs.getD i true)=xs.all id:=by
 rw[xF,xY,xY]
 constructor
 ·intro h x hx
  obtain⟨i,hi,rfl⟩:=List.mem_iff_getElem.mp hx
  have:=h i (wY.mpr hi)
  rw[vA,yB hi] at this
  exact this
 ·intro h i hi
  have hi:=wY.mp hi
  rw[vA,yB hi]
  exact h _ (yW hi)
theorem ZD(hc:X.calm=true):zaQ X (.builtin "all") (fun xs H Q=>∃(p:Addr)(bs:List Bool),xs=[.ref p]/\SqL X.K H p (bs.map V.bl)/\Q (.bl (bs.all id)) H):=by
 intro zp s σ H xs us Q I r h
 obtain⟨p,bs,rfl,hq,q⟩:=h
 obtain⟨u,rfl,rx⟩:=zb5 r
 cases rx
 obtain⟨its,r',pl,hz⟩:=I.list hq
 have hl:=pl.isList
 obtain⟨o,ho,_⟩:=id hl
 have hlt:=uZ ho
 refine call_all_walk (wpAny_pyIter_list hl ?_)
 refine⟨_,_,_,_,_,_,fun i=>bs.getD i true,rfl,Walks.list (A:=X.A.in1) (I.ok.hd hc) s.heap.objs.size p (xA hlt) its.toArray,⟨⟨_,tD _ rfl,rfl,rfl⟩,hl.push _⟩,zg9 r',fun h' tk hk=>?_⟩
 have e:(wK its.toArray.size).all (fun i=>bs.getD i true)=bs.all id:=by
  have hl2:=r'.length
  rw[yA] at hl2
  rw[yI,←hl2]
  exact zjH bs
 rw[e]
 refine⟨.bl (bs.all id),H,I.kept (h':=h') (t':=tk) fun b o e=>?_,rfl,q⟩
 exact hk b o (fun hm=>absurd (uZ e) (by rw[yH.mp hm];exact xX _)) (uY _ e)
end
section
variable{prog:Program}{w:World}{A:Around}{R:Result->Shared->Prop}{I l:Addr}{vs:List Value}{ns:List Int}{d:Value}
end
noncomputable def Its(z:Str):It:=⟨fun i _=>i<z.cps.size,fun i H x H'=>H'=H/\∃c,z.cps[i]?=some c/\x=.str ⟨#[c]⟩,fun i _=>i=z.cps.size⟩
theorem zli{P:Program}{w:World}{K:tU}{tg:Expr}{it:Addr}{T:String}{z:Str}{t:Tok}
  (W:∀A:Around,A.handled=none->Walks P w A it [it] [it] z.cps.size (SignAt z) (fun i h=>h.IsStrIter it T z t i))
  (hT:["enumerate","zip","dict_itemiterator","dict_reverseitemiterator","odict_iterator","itertools.zip_longest","itertools.pairwise"].contains T=false)
  (self:∀(A:Around)(i:Nat)(s:Shared)(Q:Value->Shared->Prop)(E:Value->Shared->Prop),s.heap.IsStrIter it T z t i->Q (.ref it) s->wpAny (model P w) A (pyIter (.ref it)) Q E s):
  Turn P w K tg (Its z) [it] it (fun i h=>h.IsStrIter it T z t i) where
 mem:=by simp
 obj:=fun i h st b hb=>by
  have e:b=it:=by simpa using hb
  subst e
  obtain⟨o,e,c,d⟩:=st
  exact⟨o,e,fun v z=>by rw[d] at z;cases z⟩
 keep:=fun i h h' st k=>by
  obtain⟨o,e,c⟩:=st
  exact⟨o,k it (by simp) o e,c⟩
 item:=by
  intro X hP hw hK hc i zp s σ H E I hf st hg
  subst hP hw hK
  obtain⟨f0,f1,f2,f3,f4,f5⟩:=hf it (by simp)
  refine (W X.A (I.ok.hd hc)).item i s _ _ hg st fun v h' tk hP st' kk=>?_
  obtain⟨c,u,hcu,rfl⟩:=hP
  have I1:Inv X zp σ H {s with heap:=h',toks:=tk}:=I.turned (fun b o hb e=>kk b o (by simpa using hb) e) f0 f1 f3 f4 f5
  obtain⟨o,e,cc,d⟩:=id st'
  exact⟨_,rfl,zk1 (s:={s with heap:=h',toks:=tk}) e cc d hT ⟨.str ⟨#[c]⟩,H,I1,⟨u,rfl⟩,⟨rfl,c,hcu,rfl⟩,st',fun b hb=>(hf b hb).1⟩⟩
 done:=by
  intro X hP hw hK hc i zp s σ H E I hf st hg
  subst hP hw hK
  obtain⟨f0,f1,f2,f3,f4,f5⟩:=hf it (by simp)
  have hg:i=z.cps.size:=hg
  subst hg
  exact (W X.A (I.ok.hd hc)).done s _ _ st fun h' tk kk=>⟨rfl,I.turned (fun b o hb e=>kk b o (by simpa using hb) e) f0 f1 f3 f4 f5⟩
 self:=fun A i s Q E st h=>self A i s Q E st h
inductive i_iStr(R:It->Hp->Prop)(x:V)(H1:Hp):Prop
 |mk (z:_) (_:x=.str z) (_:R (Its z) H1)
def iStr(te:TE):TI:=fun σ H R=>te σ H fun x H1=>i_iStr R x H1
theorem ze4{X:Cx}{tg e:Expr}{te:TE}(he:PE X e te):PI X tg e (iStr te):=by
 intro zp s σ H R I h
 refine thn (he zp s σ H _ I h) fun v s1 ⟨x,H1,I1,r1,q1⟩=>?_
 obtain⟨z,rfl,q⟩:=q1
 obtain⟨t,rfl⟩:=r1
 have fin:∀(T:String),(∀A:Around,A.handled=none->Walks X.prog X.w A s1.heap.objs.size [s1.heap.objs.size] [s1.heap.objs.size] z.cps.size (SignAt z) (fun i h=>h.IsStrIter s1.heap.objs.size T z t i))->
   ["enumerate","zip","dict_itemiterator","dict_reverseitemiterator","odict_iterator","itertools.zip_longest","itertools.pairwise"].contains T=false->
   (∀(A:Around)(i:Nat)(s:Shared)(Q:Value->Shared->Prop)(E:Value->Shared->Prop),s.heap.IsStrIter s1.heap.objs.size T z t i->Q (.ref s1.heap.objs.size) s->wpAny (model X.prog X.w) A (pyIter (.ref s1.heap.objs.size)) Q E s)->
   PIE X zp σ tg R (.ref s1.heap.objs.size) {s1 with heap:=s1.heap.push {cls:=.type T,data:=.fields #[.str z t,.int 0 0]}}:=fun T W hT self=>by
  refine⟨s1.heap.objs.size,[s1.heap.objs.size],_,_,H1,rfl,I1.kept (t':=s1.toks) fun b o e=>uY _ e,zli W hT self,⟨_,tD _ rfl,rfl,rfl⟩,fun b hb=>?_,q⟩
  have e:b=s1.heap.objs.size:=by simpa using hb
  subst e
  exact I1.fpOk (yO _) (I1.hok.fresh (yO _))
 cases ha:z.cps.all (· < 128)
 ·exact wpAny_pyIter_wide ha (fin "str_iterator" (fun A hA=>Walks.strWide hA _ z t) (by decide) fun A i s Q E st h=>wpAny_pyIter_striter_wide st h)
 ·exact wpAny_pyIter_ascii ha (fin "str_ascii_iterator" (fun A hA=>Walks.strAscii hA _ z t) (by decide) fun A i s Q E st h=>wpAny_pyIter_striter_ascii st h)
theorem zgu{X:Cx}:OpR X (tM .LtE) (fun x y H Q=>∃i j:Str,x=.str i/\y=.str j/\Q (.bl (!decide (j.cps.toList<i.cps.toList))) H):=by
 intro zp s σ H x y v u Q I rx ry h
 obtain⟨i,j,rfl,rfl,q⟩:=h
 obtain⟨t,rfl⟩:=rx
 obtain⟨t',rfl⟩:=ry
 exact PySem.P.le_str ⟨.bl _,H,I,rfl,q⟩
theorem Zz{X:Cx}{x:Str}{i:Int}{pos:Pos}(hg:Gl X x)(hm:∃t,X.mg x=some (.int i t))(hd:(x==("__debug__":Str))=false:=by decide):PE X (.Name x pos) (tC (.int i)):=by
 obtain⟨t,hm⟩:=hm
 exact zam hg hm ⟨t,rfl⟩ hd
theorem zjI{X:Cx}{op:Operator}{r:R2}(h:OpR X (inplaceOp op) r):PIp X op r:=fun zp s σ H x y v u Q I rx ry q=>h zp s σ H x y v u Q I rx ry q
theorem ZP{X:Cx}{x:Str}{T:String}{pos:Pos}(hg:Gl X x)(hm:X.mg x=none)(hv:tK x=some (.type T))(hn:x≠"__name__":=by decide)(hd:(x==("__debug__":Str))=false:=by decide):PE X (.Name x pos) (tC (.ty T)):=zmF hg hm hv rfl hn hd
theorem Sn{H:Hp}{p:Addr}{o:HO}(h:H p=none):Same H (upd H p o):=fun b u q=>by rw[zA (zn q h)];exact q
theorem Same.seqT{K:tU}{H H':Hp}{a:Addr}{xs:List V}(e:Same H H')(h:SqT K H a xs):SqT K H' a xs:=by
 rcases h with (h|⟨o,h⟩)|h
 ·exact .inl (.inl (e _ _ h))
 ·exact .inl (.inr ⟨o,e _ _ h⟩)
 ·exact .inr h
theorem zR{α:Type}{xs:List α}{i:Nat}{x:α}(h:xs[i]?=some x):xs.take (i+1)=xs.take i++[x]:=by
 rw[List.take_add_one,h];rfl
theorem zfy{fr:List Nat}{j:Nat}{te:TE}{σ:St}{H:Hp}{Q:VK}{z:Str}(outs:List V)(hσ:σ[j]?=some (some (.str z)))(hl:outs.length=z.cps.size)(hz:z.cps.size<=tH)
  (step:∀(i c:Nat)(y:V)(H1:Hp)(R:VK),z.cps[i]?=some c->outs[i]?=some y->Same H H1->(∀H2,Same H1 H2->R y H2)->te (some (.str ⟨#[c]⟩)::frees fr σ) H1 R)
  (fin:∀(H1:Hp)(D:Addr),Same H H1->H1 D=none->Q (.ref D) (upd H1 D (.lst outs))):zd1 fr (iStr (tVar j)) (fun _ H Q=>Q true H) te σ H Q:=by
 refine⟨_,hσ,z,rfl,fun i m us H1=>i<=z.cps.size/\m=z.cps.size-i/\us=outs.take i/\Same H H1,⟨_,yS _,rfl,by simp,Sr _⟩,fun i m us H1 hW=>?_⟩
 obtain⟨hi,hm,hu,sm⟩:=hW
 refine⟨by rw[hu,yY];lia,?_⟩
 by_cases hlt:i<z.cps.size
 ·refine .inr ⟨hlt,fun v H' hy=>?_⟩
  obtain⟨rfl,c,hc,rfl⟩:=hy
  have hy:outs[i]?=some outs[i]:=yB (by lia)
  refine iteT ?_
  refine step i c outs[i] H' _ hc hy sm fun H2 s2=>⟨z.cps.size-(i+1),by lia,by lia,rfl,?_,sm.trans s2⟩
  rw[hu,zR hy]
 ·have e:i=z.cps.size:=by lia
  refine .inl ⟨e,fun D hD=>?_⟩
  have e2:us=outs:=by rw[hu,xD (by lia)]
  rw[e2]
  exact fin H1 D sm hD
theorem zcT{K:tU}{fr:List Nat}{j:Nat}{te:TE}{σ:St}{H:Hp}{Q:VK}{a:Addr}{vs:List V}(outs:List V)(hσ:σ[j]?=some (some (.ref a)))(hS:SqT K H a vs)(hl:outs.length=vs.length)(hz:vs.length<=tH)
  (step:∀(i:Nat)(v y:V)(H1:Hp)(R:VK),vs[i]?=some v->outs[i]?=some y->Same H H1->(∀H2,Same H1 H2->R y H2)->te (some v::frees fr σ) H1 R)
  (fin:∀(H1:Hp)(D:Addr),Same H H1->H1 D=none->Q (.ref D) (upd H1 D (.lst outs))):zd1 fr (iTup K (tVar j)) (fun _ H Q=>Q true H) te σ H Q:=by
 refine⟨_,hσ,a,rfl,⟨vs,hS⟩,fun i m us H1=>i<=vs.length/\m=vs.length-i/\us=outs.take i/\Same H H1,⟨_,yS _,rfl,by simp,Sr _⟩,fun i m us H1 hW=>?_⟩
 obtain⟨hi,hm,hu,sm⟩:=hW
 refine⟨by rw[hu,yY];lia,?_⟩
 by_cases hlt:i<vs.length
 ·refine .inr ⟨⟨vs,vs[i],sm.seqT hS,yB hlt⟩,fun v H' hy=>?_⟩
  obtain⟨rfl,hv⟩:=hy
  have hv:=hv vs (sm.seqT hS)
  have hy:outs[i]?=some outs[i]:=yB (by lia)
  refine iteT ?_
  refine step i v outs[i] H' _ hv hy sm fun H2 s2=>⟨vs.length-(i+1),by lia,by lia,rfl,?_,sm.trans s2⟩
  rw[hu,zR hy]
 ·have e:i=vs.length:=by lia
  refine .inl ⟨⟨vs,sm.seqT hS,by lia⟩,fun D hD=>?_⟩
  have e2:us=outs:=by rw[hu,xD (by lia)]
  rw[e2]
  exact fin H1 D sm hD
theorem zbt:isi "tuple" "tuple"=some true:=by decide +kernel
theorem zb1:isi "int" "tuple"=some false:=by decide +kernel
theorem zb2:isi "str" "tuple"=some false:=by decide +kernel
theorem zcz:isi "bool" "tuple"=some false:=by decide +kernel
theorem zcA:isi "NoneType" "tuple"=some false:=by decide +kernel
theorem zcB:isi "list" "tuple"=some false:=by decide +kernel
theorem zcC:isi "dict" "tuple"=some false:=by decide +kernel
theorem ze5:isi "tuple" "str"=some false:=by decide +kernel
theorem ze6:isi "int" "str"=some false:=by decide +kernel
theorem zdl:isi "str" "str"=some true:=by decide +kernel
theorem ze7:isi "bool" "str"=some false:=by decide +kernel
theorem ze8:isi "NoneType" "str"=some false:=by decide +kernel
theorem ze9:isi "list" "str"=some false:=by decide +kernel
theorem zfa:isi "dict" "str"=some false:=by decide +kernel
theorem znY:isi "tuple" "int"=some false:=by decide +kernel
theorem znZ:isi "int" "int"=some true:=by decide +kernel
theorem zn0:isi "str" "int"=some false:=by decide +kernel
theorem zn1:isi "bool" "int"=some true:=by decide +kernel
theorem zn2:isi "NoneType" "int"=some false:=by decide +kernel
theorem zn3:isi "list" "int"=some false:=by decide +kernel
theorem zn4:isi "dict" "int"=some false:=by decide +kernel
theorem zn5:isi "int" "bool"=some false:=by decide +kernel
theorem zn6:isi "bool" "bool"=some true:=by decide +kernel
theorem zC:tK (uV "tuple")=some (.type "tuple"):=by kernel_rfl
theorem ZI:tK (uV "str")=some (.type "str"):=by kernel_rfl
theorem ZQ:tK (uV "int")=some (.type "int"):=by kernel_rfl
theorem zfb:tK (uV "bool")=some (.type "bool"):=by kernel_rfl
theorem zQ:tK (uV "isinstance")=some (.builtin "isinstance"):=by kernel_rfl
theorem zjJ:tK (uV "ord")=some (.builtin "ord"):=by kernel_rfl
theorem zjK:tK (uV "abs")=some (.builtin "abs"):=by kernel_rfl
theorem za1:tK (uV "all")=some (.builtin "all"):=by kernel_rfl
end L2
namespace D
open PySem L2
noncomputable def top(i:Nat):Stmt:=PySem.Challenge.pw_leastforge_k58_shelves_written_and_read.main.body.getD i (.Pass ⟨0,0,0,0⟩)
abbrev zb9:Stmt:=top 10
abbrev zd3:Stmt:=top 11
abbrev zbu:Stmt:=top 12
abbrev zjL:Stmt:=top 13
abbrev zcU:Stmt:=top 14
abbrev zca:Stmt:=top 18
abbrev zbv:Stmt:=top 19
abbrev za5:Stmt:=top 30
abbrev zcb:Stmt:=top 31
abbrev zaB:Stmt:=top 32
abbrev zaS:Stmt:=top 33
abbrev zcV:Stmt:=top 34
abbrev ZL:Stmt:=top 35
abbrev zcW:Stmt:=top 36
abbrev zcc:Stmt:=top 37
abbrev zd4:Stmt:=top 38
abbrev zd5:Stmt:=top 39
abbrev zcX:Stmt:=top 40
abbrev zd6:Stmt:=top 41
abbrev zd7:Stmt:=top 44
abbrev zcd:Stmt:=top 45
abbrev Z8:Stmt:=top 46
abbrev zce:Stmt:=top 47
abbrev zbw:Stmt:=top 48
abbrev zcY:Stmt:=top 49
abbrev zcZ:Stmt:=top 54
abbrev zc0:Stmt:=top 55
abbrev zcf:Stmt:=top 56
abbrev zc1:Stmt:=top 57
abbrev zbx:Stmt:=top 61
abbrev zaC:Stmt:=top 62
abbrev zcg:Stmt:=top 63
abbrev zaD:Stmt:=top 64
abbrev zaT:Stmt:=top 65
abbrev zch:Stmt:=top 67
abbrev Z0:Stmt:=top 68
abbrev zaU:Stmt:=top 69
abbrev Zq:Stmt:=top 70
abbrev ZM:Stmt:=top 72
abbrev zaV:Stmt:=top 73
abbrev Zh:Stmt:=top 75
abbrev zaW:Stmt:=top 77
abbrev za6:Stmt:=top 78
abbrev zci:Stmt:=top 79
abbrev zby:Stmt:=top 80
abbrev za7:Stmt:=top 81
abbrev zaX:Stmt:=top 82
abbrev zaY:Stmt:=top 83
abbrev Z9:Stmt:=top 84
abbrev zan:Stmt:=top 85
abbrev zaZ:Stmt:=top 86
abbrev zaE:Stmt:=top 87
abbrev Zw:Stmt:=zft (top 89) 0
abbrev Zp:Stmt:=zft (top 90) 0
abbrev zaa:Stmt:=zft (top 90) 1
abbrev ZK:Stmt:=zft (top 90) 2
abbrev zc2:Stmt:=top 92
abbrev zbz:Stmt:=top 93
abbrev za8:Stmt:=top 94
abbrev zbA:Stmt:=top 95
abbrev zmP:Stmt:=top 97
abbrev sBox:Stmt:=top 98
abbrev zmQ:Stmt:=top 99
abbrev zmR:Stmt:=top 100
abbrev zha:Stmt:=top 101
abbrev zjM:Stmt:=top 102
abbrev zcj:Stmt:=top 103
abbrev zjN:Stmt:=top 104
abbrev zhb:Stmt:=top 106
abbrev zck:Stmt:=top 107
abbrev zjO:Stmt:=top 108
abbrev zfz:Stmt:=top 109
abbrev zc3:Stmt:=top 110
abbrev zd8:Stmt:=top 111
abbrev zfA:Stmt:=top 112
abbrev zao:Stmt:=top 113
abbrev zaF:Stmt:=top 114
abbrev zfB:Stmt:=top 115
abbrev zfC:Stmt:=top 116
abbrev zjP:Stmt:=top 117
abbrev za9:Stmt:=top 118
abbrev sLaw:Stmt:=top 119
end D
namespace L2
open PySem PySem.Spec PyProof.Rows
theorem seqI{t u:TS}{D:Ends}{σ:St}{H:Hp}(Pv:St->Hp->Prop)(h2:∀σ' H',Pv σ' H'->u D σ' H')(h1:∀ {N:St->Hp->Prop},(∀σ' H',Pv σ' H'->N σ' H')->t {D with nx:=N} σ H):tSeq t u D σ H:=h1 h2
theorem pos(n:Nat):(0:Int)<(((n+1:Nat):Int)):=by lia
end L2
namespace D
open PySem L2
inductive IsBox(H:Hp)(b:Addr):Prop
 |mk (a f m:Int) (_:H b=some (.lst [.int a,.int f,.int m]))
structure Step(b:Addr)(H H':Hp):Prop where
 box:IsBox H' b
 keep:∀c o,c≠b->H c=some o->H' c=some o
theorem Step.refl{b:Addr}{H:Hp}(h:IsBox H b):Step b H H:=⟨h,fun _ _ _ e=>e⟩
theorem Step.trans{b:Addr}{H H1 H2:Hp}(x:Step b H H1)(y:Step b H1 H2):Step b H H2:=⟨y.box,fun c o hc e=>y.keep c o hc (x.keep c o hc e)⟩
theorem Step.new{b p:Addr}{H:Hp}{o:HO}(h:IsBox H b)(hp:H p=none):Step b H (upd H p o):=by
 obtain⟨a,f,m,e⟩:=h
 exact⟨⟨a,f,m,by rw[zA (zn e hp)];exact e⟩,fun c u _ e=>by rw[zA (zn e hp)];exact e⟩
theorem Step.put{b:Addr}{H:Hp}(a f m:Int):Step b H (upd H b (.lst [.int a,.int f,.int m])):=⟨⟨a,f,m,zc⟩,fun c o hc e=>by rw[zA hc];exact e⟩
theorem Step.keepN{b:Addr}{H H':Hp}(x:Step b H H'){c:Addr}{o:HO}(hb:IsBox H b)(e:H c=some o)(ho:∀a f m:Int,o≠.lst [.int a,.int f,.int m]):H' c=some o:=by
 obtain⟨a,f,m,e'⟩:=hb
 exact x.keep c o (znM e e' (ho a f m)) e
inductive spCell(K:tU)(vs:List V)(H:Hp)(Q:VK)(z3:XK):Prop
 |mk (a:Addr) (ns:List Int) (k:Int) (_:vs=[.ref a,.int k]) (_:SqL K H a (ns.map V.int)) (_:0<=k) (_:∀i:Int,Q (.int i) H)
inductive spBox(K:tU)(vs:List V)(H:Hp)(Q:VK)(z3:XK):Prop
 |mk (a:Addr) (ns:List Int) (k:Int) (_:vs=[.ref a,.int k]) (_:SqL K H a (ns.map V.int)) (_:0<=k) (_:∀(x f m:Int)(p:Addr),H p=none->Q (.ref p) (upd H p (.lst [.int x,.int f,.int m])))
inductive spTake(vs:List V)(H:Hp)(Q:VK)(z3:XK):Prop
 |mk (b:Addr) (n:Int) (_:vs=[.ref b,.int n]) (_:IsBox H b) (_:0<n) (_:n<10 ^ 61) (_:∀(r:Int)(H':Hp),0<=r->r<n->Step b H H'->Q (.int r) H')
def Signs(x:Str):Prop:=∀c∈x.cps.toList,32<=c/\c<=126/\c≠34/\c≠37
inductive spText(vs:List V)(H:Hp)(Q:VK)(z3:XK):Prop
 |mk (b:Addr) (n:Int) (_:vs=[.ref b,.int n]) (_:IsBox H b) (_:0<=n) (_:n<10000) (_:∀(x:Str)(H':Hp),(x.length:Int)<=n->Signs x->Step b H H'->Q (.str x) H')
inductive spNumber(vs:List V)(H:Hp)(Q:VK)(z3:XK):Prop
 |mk (b:Addr) (_:vs=[.ref b]) (_:IsBox H b) (_:∀(i:Int)(H':Hp),-(10 ^ 60)<i->i<10 ^ 60->Step b H H'->Q (.int i) H')
theorem zn7:FnScope ["_law_script","_law_k"] ["_law_script","_law_k"] (zi zmP):=mkSc rfl (by decide +kernel)
theorem zmS(F:Fun K "_law_cell" "_law_cell" zmP f fd)(m_len:mg "len"=none):FnOk P w K mg base CX0 (k+1) f fd ["_law_script","_law_k"] (spCell K):=by
 refine F.ok zn7 (by rintro _ _ _ _ ⟨_,_,_,rfl,_⟩;rfl) fun _ _ _ _ H vs Q E hr h=>?_
 obtain⟨a,ns,j,rfl,hS,h0,q⟩:=h
 refine⟨_,(zd (zE (zk zgf (pv 1) (zj zB rfl m_len tF (za (pv 0) zb)) (nomark _)) (zf (zl (zz Zd (pv 0) (pv 1) (fun _ _=>rfl)))) zq)
  (zf (zl (zu Zj (zu zdS ze (pv 1)) ze)))),nm2 ?_⟩
 intros
 refine⟨_,rfl,_,rfl,_,_,rfl,.inl ⟨_,hS,rfl⟩,_,_,rfl,rfl,_,rfl,?_⟩
 refine ite2 (fun c=>?_) (fun c=>?_)
 ·have c':j<(((ns.map V.int).length:Nat):Int):=of_decide_eq_true c
  rw[yA] at c'
  have hj:j.toNat<ns.length:=by lia
  have ej:j=((j.toNat:Nat):Int):=by lia
  have at1:atI (ns.map V.int) ((j.toNat:Nat):Int)=some (.int ns[j.toNat]):=zS (by rw[yN,yB hj];rfl)
  rw[←ej] at at1
  exact⟨_,rfl,_,rfl,a,_,j,.int ns[j.toNat],rfl,rfl,hS,at1,q _⟩
 ·exact⟨_,rfl,_,_,rfl,rfl,.inl ⟨by decide,by decide⟩,_,_,rfl,rfl,q _⟩
theorem zlj:FnScope ["_law_script","_law_k","_law_cell_here","_law_number_here","_law_mixed"] ["_law_script","_law_k"] (zi sBox):=mkSc rfl (by decide +kernel)
theorem zn8(F:Fun K "_law_box" "_law_box" sBox f fd)(G_lcell:Have P w K mg base "_law_cell" k ["_law_script","_law_k"] (spCell K)):FnOk P w K mg base CX0 (k+1) f fd ["_law_script","_law_k"] (spBox K):=by
 refine F.ok zlj (by rintro _ _ _ _ ⟨_,_,_,rfl,_⟩;rfl) fun _ _ _ _ H vs Q E hr h=>?_
 obtain⟨a,ns,j,rfl,hS,h0,q⟩:=h
 refine⟨_,(zd (zm (i:=2) zlj.nd rfl (Or.inl rfl) (zo G_lcell hr rfl (za (pv 0) (za (pv 1) zb))))
  (zd (zm (i:=3) zlj.nd rfl (Or.inl rfl) (zu zb0 (zu zdS (zu Zj (zu zb0 (pv 2) ze) ze) ze) ze))
  (zd (zm (i:=4) zlj.nd rfl (Or.inl rfl) (zu zb0 (zu Zj (zu zdS (pv 3) (zu Zj (zu zb0 (pv 3) ze) ze)) (zu zdS ze (pv 1))) ze))
  (zd (zE (zk zY (zu zb0 (zo G_lcell hr rfl (za (pv 0) (za ze zb))) ze) ze (nomark _)) (zf (zl (zF (za (pv 2) (za ze (za (pv 4) zb)))))) zq)
  (zf (zl (zF (za (pv 4) (za ze (za ze zb)))))))))),nm5 ?_⟩
 intros
 refine⟨_,rfl,_,rfl,a,ns,j,rfl,hS,h0,fun c=>?_⟩
 refine⟨_,rfl,_,_,rfl,rfl,pos _,_,_,rfl,rfl,_,_,rfl,rfl,.inr ⟨by decide,by decide⟩,_,_,rfl,rfl,pos _,?_⟩
 have b1:0<=(c % 2147483629+11)*69621 % 2147483629:=vE _ (by decide)
 have b2:(c % 2147483629+11)*69621 % 2147483629<2147483629:=wS _ (by decide)
 refine⟨_,rfl,_,rfl,_,_,rfl,rfl,pos _,_,_,rfl,rfl,_,_,rfl,rfl,.inl ⟨by lia,by lia⟩,_,rfl,_,_,rfl,rfl,.inl ⟨by decide,by decide⟩,_,_,rfl,rfl,_,_,rfl,rfl,pos _,?_⟩
 refine⟨_,rfl,a,ns,0,rfl,hS,vB 0,fun c0=>?_⟩
 refine⟨_,_,rfl,rfl,pos _,rfl,_,rfl,?_⟩
 refine ite2 (fun e=>?_) (fun e=>?_)
 ·exact⟨_,rfl,_,rfl,zl3,fun p hp=>q _ _ _ p hp⟩
 ·exact⟨_,rfl,zl3,fun p hp=>q _ _ _ p hp⟩
theorem zhS:FnScope ["_law_box_here","_law_wide","_law_found"] ["_law_box_here","_law_wide"] (zi zmQ):=mkSc rfl (by decide +kernel)
theorem zn9{n:Int}(h0:0<n)(h:n<10 ^ 61):n.natAbs.log2<9000:=by
 have h1:n.natAbs<2 ^ 210:=by
  have:(10:Int) ^ 61<=2 ^ 210:=by decide
  lia
 have:=(Nat.log2_lt (by lia)).mpr h1
 lia
theorem zmT(F:Fun K "_law_take" "_law_take" zmQ f fd):FnOk P w K mg base CX0 (k+1) f fd ["_law_box_here","_law_wide"] spTake:=by
 refine F.ok zhS (by rintro _ _ _ _ ⟨_,_,rfl,_⟩;rfl) fun _ _ _ _ H vs Q E hr h=>?_
 obtain⟨b,n,rfl,⟨a0,f0,m,hb⟩,hn,hn2,q⟩:=h
 refine⟨_,(zd (zE (zbr (zk zY (zz Zd (pv 0) ze (fun _ _=>rfl)) ze (nomark _)) (zay (zk ZB (zz Zd (pv 0) ze (fun _ _=>rfl)) (zy (za ze (za (zeJ zdh ze) zb))) (by rfl)))).pt (zd (zbm (zz Zd (pv 0) ze (fun _ _=>rfl)) (zhL (pv 0) ze zdI))
  (zf (zbm ze (zhL (pv 0) ze zdI)))) zq)
  (zd (zE (zk zY (zz Zd (pv 0) ze (fun _ _=>rfl)) ze (nomark _)) (zd (zm (i:=2) zhS.nd rfl (Or.inl rfl) (zu zb0 (zz Zd (pv 0) ze (fun _ _=>rfl)) (pv 1)))
  (zd (zbm (zu zlh (zz Zd (pv 0) ze (fun _ _=>rfl)) (pv 1)) (zhL (pv 0) ze zdI))
  (zf (zl (pv 2))))) zq)
  (zd (zbm (zu zb0 (zu Zj (zu zdS (zz Zd (pv 0) ze (fun _ _=>rfl)) ze) ze) ze) (zhL (pv 0) ze zdI))
  (zd (zm (i:=2) zhS.nd rfl (Or.inl rfl) (zu zb0 (zu zdS (zz Zd (pv 0) ze (fun _ _=>rfl)) (zu Zj (zu zb0 (zz Zd (pv 0) ze (fun _ _=>rfl)) ze) ze)) ze))
  (zd (zE (zk zcs (pv 1) (zu zcr ze ze) (nomark _)) (zf (zm (i:=2) zhS.nd rfl (Or.inl rfl) (zu Zj (zu zcr (pv 2) ze) (pv 2)))) zq)
  (zf (zl (zu zb0 (pv 2) (pv 1))))))))),nm6 ?_⟩
 intros
 refine seqI (fun σ' H'=>σ'=[some (.ref b),some (.int n),none]/\Step b H H') (fun σ' H1 h1=>?_) (fun rest=>?_)
 ·obtain⟨rfl,st1⟩:=h1
  obtain⟨a,f,m,hb1⟩:=st1.box
  refine⟨_,rfl,b,_,1,.int f,rfl,rfl,Sl hb1,rfl,rfl,_,rfl,?_⟩
  refine ite2 (fun e=>?_) (fun e=>?_)
  ·refine⟨_,rfl,b,_,0,.int a,rfl,rfl,Sl hb1,rfl,_,rfl,_,_,rfl,rfl,hn,?_⟩
   refine⟨_,rfl,b,_,0,.int a,rfl,rfl,Sl hb1,rfl,_,rfl,_,_,rfl,rfl,⟨hn,zn9 hn hn2⟩,_,rfl,b,_,0,0,rfl,rfl,hb1,rfl,?_⟩
   exact⟨_,rfl,q _ _ (vE _ (by lia)) (wS _ hn) (st1.trans (Step.put _ _ _))⟩
  ·refine⟨_,rfl,b,_,0,.int a,rfl,rfl,Sl hb1,rfl,_,_,rfl,rfl,.inr ⟨by decide,by decide⟩,_,_,rfl,rfl,_,_,rfl,rfl,pos _,_,rfl,b,_,0,0,rfl,rfl,hb1,rfl,?_⟩
   refine⟨_,rfl,b,_,0,_,rfl,rfl,Sl zc,rfl,_,rfl,b,_,0,_,rfl,rfl,Sl zc,rfl,_,_,rfl,rfl,pos _,_,_,rfl,rfl,_,_,rfl,rfl,.inr ⟨?_,?_⟩,_,_,rfl,rfl,pos _,?_⟩
   ·have:=vE ((a*69621+104729) % 2147483587) (show (16807:Int)≠0 by decide)
    lia
   ·have:=wS ((a*69621+104729) % 2147483587) (show (0:Int)<16807 by decide)
    lia
   dsimp only[zW]
   refine seqI (t:=tIfS _ _ _) (fun σ' H'=>∃x:Int,σ'=[some (.ref b),some (.int n),some (.int x)]/\Step b H H') (fun σ' H1 h1=>?_) (fun rest=>?_)
   ·obtain⟨x,rfl,st2⟩:=h1
    exact⟨_,rfl,_,rfl,_,_,rfl,rfl,hn,q _ _ (vE _ (by lia)) (wS _ hn) st2⟩
   ·refine⟨_,rfl,_,_,rfl,rfl,⟨by decide,by decide,by decide⟩,_,_,rfl,rfl,_,rfl,?_⟩
    refine ite2 (fun e=>?_) (fun e=>?_)
    ·refine⟨_,rfl,_,_,rfl,rfl,⟨by decide,by decide,?_⟩,_,rfl,_,_,rfl,rfl,rest _ _ ⟨_,rfl,st1.trans (Step.put _ _ _)⟩⟩
     have l1:=vE ((a*69621+104729) % 2147483587*((a*69621+104729) % 2147483587 % 16807+1)) (show (2147483579:Int)≠0 by decide)
     have l2:=wS ((a*69621+104729) % 2147483587*((a*69621+104729) % 2147483587 % 16807+1)) (show (0:Int)<2147483579 by decide)
     lia
    ·exact rest _ _ ⟨_,rfl,st1.trans (Step.put _ _ _)⟩
 ·refine⟨_,rfl,b,_,1,.int f0,rfl,rfl,Sl hb,rfl,rfl,_,rfl,?_⟩
  refine ite2 (fun e=>?_) (fun e=>?_)
  ·refine⟨_,rfl,b,_,0,.int a0,rfl,rfl,Sl hb,rfl,_,rfl,zl2,fun t ht=>?_⟩
   have hb2:upd H t (.tup [.int 0,.int (-1)]) b=some (.lst [.int a0,.int f0,.int m]):=by rw[zA (zn hb ht)];exact hb
   refine⟨t,_,rfl,.inr (Sq zc),rfl,rfl,_,rfl,?_⟩
   refine ite2 (fun e=>?_) (fun e=>?_)
   ·refine⟨_,rfl,b,_,2,.int m,rfl,rfl,Sl hb2,rfl,_,rfl,b,_,0,0,rfl,rfl,hb2,rfl,?_⟩
    refine⟨_,rfl,b,_,1,1,rfl,rfl,zc,rfl,?_⟩
    exact rest _ _ ⟨rfl,((Step.new ⟨_,_,_,hb⟩ ht).trans (Step.put _ _ _)).trans (Step.put _ _ _)⟩
   ·exact rest _ _ ⟨rfl,Step.new ⟨_,_,_,hb⟩ ht⟩
  ·refine iteF ?_
   exact rest _ _ ⟨rfl,Step.refl ⟨_,_,_,hb⟩⟩
inductive W where
 |num (i:Int)
 |txt (x:Str)
 |lst (ws:List W)
mutual
noncomputable def W.size:W->Int
 |.num _=>1
 |.txt x=>1+(x.length:Int)
 |.lst ws=>1+sizes ws
noncomputable def sizes:List W->Int
 |[]=>0
 |w::r=>w.size+sizes r
end
mutual
noncomputable def W.depth:W->Nat
 |.num _=>0
 |.txt _=>0
 |.lst ws=>1+depths ws
noncomputable def depths:List W->Nat
 |[]=>0
 |w::r=>max w.depth (depths r)
end
mutual
def W.Ok:W->Prop
 |.num i=>-(10 ^ 60)<i/\i<10 ^ 60
 |.txt x=>x.length<=400/\Signs x
 |.lst ws=>ws.length<=60/\Oks ws
def Oks:List W->Prop
 |[]=>True
 |w::r=>w.Ok/\Oks r
end
theorem ziG(ws:List W)(w:W):sizes (ws++[w])=sizes ws+w.size:=by
 induction ws with
 |nil=>simp[sizes]
 |cons x r ih=>simp only[xC,sizes,ih];lia
theorem zhc(ws:List W)(w:W):depths (ws++[w])=max (depths ws) w.depth:=by
 induction ws with
 |nil=>simp[depths]
 |cons x r ih=>simp only[xC,depths,ih];lia
theorem zlk(ws:List W)(w:W):Oks (ws++[w]) ↔ Oks ws/\w.Ok:=by
 induction ws with
 |nil=>simp[Oks]
 |cons x r ih=>simp only[xC,Oks,ih,and_assoc]
theorem zjQ{ws:List W}(h:Oks ws):∀w∈ws,w.Ok:=by
 induction ws with
 |nil=>intro w hw;cases hw
 |cons x r ih=>
  intro w hw
  rcases yG.mp hw with rfl|hw
  ·exact h.1
  ·exact ih h.2 w hw
theorem zc4{ws:List W}:∀w∈ws,w.depth<=depths ws:=by
 induction ws with
 |nil=>intro w hw;cases hw
 |cons x r ih=>
  intro w hw
  simp only[depths]
  rcases yG.mp hw with rfl|hw
  ·lia
  ·have:=ih w hw
   lia
inductive RW(H:Hp):V->W->Prop where
 |num (i:Int):RW H (.int i) (.num i)
 |txt (x:Str):RW H (.str x) (.txt x)
 |lst {a:Addr}{vs:List V}{ws:List W}:H a=some (.tup vs)->vs.length=ws.length->(∀(i:Nat)(v:V)(w:W),vs[i]?=some v->ws[i]?=some w->RW H v w)->RW H (.ref a) (.lst ws)
structure RWs(H:Hp)(vs:List V)(ws:List W):Prop where
 len:vs.length=ws.length
 at':∀(i:Nat)(v:V)(w:W),vs[i]?=some v->ws[i]?=some w->RW H v w
def Tups(H H':Hp):Prop:=∀a vs,H a=some (.tup vs)->H' a=some (.tup vs)
theorem RW.mono{H H':Hp}(t:Tups H H'){v:V}{w:W}(h:RW H v w):RW H' v w:=by
 induction h with
 |num i=>exact .num i
 |txt x=>exact .txt x
 |lst e l _ ih=>exact .lst (t _ _ e) l ih
theorem RWs.mono{H H':Hp}(t:Tups H H'){vs:List V}{ws:List W}(h:RWs H vs ws):RWs H' vs ws:=⟨h.len,fun i v w a b=>(h.at' i v w a b).mono t⟩
theorem RWs.snoc{H:Hp}{vs:List V}{ws:List W}{v:V}{w:W}(h:RWs H vs ws)(x:RW H v w):RWs H (vs++[v]) (ws++[w]):=by
 refine⟨by rw[yC,yC,h.len];rfl,fun i v' w' a b=>?_⟩
 by_cases hi:i<vs.length
 ·rw[yP hi] at a
  rw[yP (h.len▸hi)] at b
  exact h.at' i v' w' a b
 ·rw[yL (by lia)] at a
  rw[yL (by have:=h.len;lia)] at b
  have hi0:i-vs.length=0:=by
   have:=(yE.mp a).1
   simp at this
   lia
  have hi1:i-ws.length=0:=by have:=h.len;lia
  rw[hi0] at a
  rw[hi1] at b
  have e1:v=v':=by simpa using a
  have e2:w=w':=by simpa using b
  rw[←e1,←e2]
  exact x
theorem Step.tups{b:Addr}{H H':Hp}(x:Step b H H')(hb:IsBox H b):Tups H H':=fun a vs e=>x.keepN hb e (fun _ _ _ z=>nomatch z)
theorem zfD{H:Hp}{p:Addr}{o:HO}(h:H p=none):Tups H (upd H p o):=fun a vs e=>by rw[zA (zn e h)];exact e
theorem ZR{H:Hp}{p:Addr}{xs:List V}{o:HO}(h:H p=some (.lst xs)):Tups H (upd H p o):=fun a vs e=>by rw[zA (znM e h (fun z=>nomatch z))];exact e
noncomputable def zcD:Str:=uV " !#$&'()*+,-./0123456789:;<=>?@ABCDEFGHIJKLMNOPQRSTUVWXYZ"
noncomputable def zcE:Str:=uV "[\\]^_`abcdefghijklmnopqrstuvwxyz{|}~"
theorem za2:(zcD++zcE).length=93:=by decide +kernel
theorem zjR:∀c∈(zcD++zcE).cps.toList,32<=c/\c<=126/\c≠34/\c≠37:=by decide +kernel
theorem zH(x:Str):x.cps.toList.length=x.length:=by simp[Str.length]
theorem zT(x y:Str):(x++y).cps.toList=x.cps.toList++y.cps.toList:=by
 show (x.cps++y.cps).toList=_
 simp
theorem zt(x y:Str):(x++y).length=x.length+y.length:=by
 rw[←zH,zT,yC,zH,zH]
mutual
theorem zhT:∀w:W,1<=w.size
 |.num _=>by simp[W.size]
 |.txt x=>by simp only[W.size];lia
 |.lst ws=>by have:=sizes_nn ws;simp only[W.size];lia
theorem sizes_nn:∀ws:List W,0<=sizes ws
 |[]=>by simp[sizes]
 |w::r=>by have h1:=zhT w;have h2:=sizes_nn r;simp only[sizes];lia
end
theorem zfc:FnScope ["_law_box_here","_law_most","_law_signs","_law_found","_law_k"] ["_law_box_here","_law_most"] (zi zmR):=mkSc rfl (by decide +kernel)
theorem small{n:Nat}(h:n<=1000000):n<=tH:=yQ h (by decide)
theorem zmU(F:Fun K "_law_text" "_law_text" zmR f fd)(G_ltake:Have P w K mg base "_law_take" k ["_law_box_here","_law_wide"] spTake)(m_len:mg "len"=none)(m_range:mg "range"=none):
  FnOk P w K mg base CX0 (k+1) f fd ["_law_box_here","_law_most"] spText:=by
 refine F.ok zfc (by rintro _ _ _ _ ⟨_,_,rfl,_⟩;rfl) fun _ _ _ _ H vs Q E hr h=>?_
 obtain⟨b,n,rfl,hb,hn,hn2,q⟩:=h
 refine⟨_,(zd (zm (i:=2) zfc.nd rfl (Or.inl rfl) zg)
  (zd (zm (i:=2) zfc.nd rfl (Or.inl rfl) (zu zx (pv 2) zg))
  (zd (zm (i:=3) zfc.nd rfl (Or.inl rfl) zg)
  (zd (zaL tN rfl (zah rfl m_range (za (zo G_ltake hr rfl (za (pv 0) (za (zu Zj (pv 1) ze) zb))) zb)) (Zb (i:=4) zfc.nd rfl (Or.inl rfl)) (zf (zm (i:=3) zfc.nd rfl (Or.inl rfl) (zu zx (pv 3) (zz ze2 (pv 2) (zo G_ltake hr rfl (za (pv 0) (za (zj zB rfl m_len tF (za (pv 2) zb)) zb))) (fun _ _=>rfl))))))
  (zf (zl (pv 3))))))),nm5 ?_⟩
 intros
 refine⟨_,rfl,zcD,zcE,rfl,rfl,small (by decide +kernel),?_⟩
 refine⟨_,rfl,_,rfl,_,_,rfl,rfl,b,n+1,rfl,hb,by lia,by lia,fun r H1 h0 h1 st=>?_⟩
 refine⟨r,rfl,by lia,by lia,zdR (n:=r.toNat) (fun i σ' H'=>∃(x:Str)(o:Option V),σ'=[some (.ref b),some (.int n),some (.str (zcD++zcE)),some (.str x),o]/\x.length=i/\Signs x/\Step b H H')
  ⟨uV "",none,rfl,rfl,?_,st⟩ (fun i σ' H' hi h=>?_) (fun σ' H' h=>?_)⟩
 ·intro c hc
  have e0:(uV "").cps.toList=[]:=by decide +kernel
  rw[e0] at hc
  cases hc
 ·obtain⟨x,o,rfl,hx,sx,st1⟩:=h
  refine⟨_,rfl,_,rfl,_,rfl,_,rfl,_,_,rfl,⟨small (by rw[za2];decide),rfl⟩,b,_,rfl,st1.box,by rw[za2];decide,by rw[za2];decide,fun r2 H2 r0 r1 st2=>?_⟩
  rw[za2] at r1
  have hr2:r2.toNat<(zcD++zcE).cps.toList.length:=by rw[zH,za2];lia
  have er2:r2=((r2.toNat:Nat):Int):=by lia
  have a1:atI (zcD++zcE).cps.toList ((r2.toNat:Nat):Int)=some (zcD++zcE).cps.toList[r2.toNat]:=zS (yB hr2)
  rw[←er2] at a1
  refine⟨_,r2,_,rfl,rfl,small (by rw[za2];decide),a1,x,_,rfl,rfl,small ?_,?_⟩
  ·have:(Str.mk #[(zcD++zcE).cps.toList[r2.toNat]]).length=1:=rfl
   rw[this]
   lia
  ·refine⟨_,_,rfl,?_,?_,st1.trans st2⟩
   ·rw[zt,hx]
    rfl
   ·intro c hc
    rw[zT] at hc
    rcases yU.mp hc with hc|hc
    ·exact sx c hc
    ·have:c=(zcD++zcE).cps.toList[r2.toNat]:=by simpa using hc
     rw[this]
     exact zjR _ (yW _)
 ·obtain⟨x,o,rfl,hx,sx,st1⟩:=h
  exact⟨_,rfl,q x H' (by lia) sx st1⟩
theorem zhU:FnScope ["_law_box_here","_law_kind"] ["_law_box_here"] (zi zha):=mkSc rfl (by decide +kernel)
theorem zjS(F:Fun K "_law_number" "_law_number" zha f fd)(G_ltake:Have P w K mg base "_law_take" k ["_law_box_here","_law_wide"] spTake):
  FnOk P w K mg base CX0 (k+1) f fd ["_law_box_here"] spNumber:=by
 refine F.ok zhU (by rintro _ _ _ _ ⟨_,rfl,_⟩;rfl) fun _ _ _ _ H vs Q E hr h=>?_
 obtain⟨b,rfl,hb,q⟩:=h
 refine⟨_,(zd (zm (i:=1) zhU.nd rfl (Or.inl rfl) (zo G_ltake hr rfl (za (pv 0) (za ze zb))))
  (zd (zE (zk zY (pv 1) ze (nomark _)) (zf (zl (zu Zj (zu Zu (zo G_ltake hr rfl (za (pv 0) (za (zu Zu (zu zdS ze (zu zcr ze ze)) ze) zb))) (zu zcr ze ze)) ze))) zq)
  (zd (zE (zk zY (pv 1) ze (nomark _)) (zf (zl (zz Zd (zF (za (zu Zu (zu zcr ze ze) ze) (za (zu Zu ze (zu zcr ze ze)) (za ze (za (zeJ zdh ze) zb))))) (zo G_ltake hr rfl (za (pv 0) (za ze zb))) (fun _ _=>rfl)))) zq)
  (zf (zl (zu Zu (zo G_ltake hr rfl (za (pv 0) (za ze zb))) ze)))))),nm4 ?_⟩
 intros
 refine⟨_,rfl,b,4,rfl,hb,by decide,by decide,fun r H1 h0 h1 st=>?_⟩
 refine⟨_,rfl,rfl,_,rfl,?_⟩
 refine ite2 (fun e=>?_) (fun e=>?_)
 ·refine⟨_,rfl,_,_,rfl,rfl,⟨by decide,by decide,by decide⟩,_,_,rfl,rfl,.inl ⟨by decide,by decide⟩,_,_,rfl,rfl,b,_,rfl,st.box,by decide,by decide,fun r2 H2 r0 r1 st2=>?_⟩
  refine⟨_,_,rfl,rfl,⟨by decide,by decide,by decide⟩,_,_,rfl,rfl,_,_,rfl,rfl,q _ _ ?_ ?_ (st.trans st2)⟩
  ·have:(10:Int) ^ (60:Int).toNat=10 ^ 60:=rfl
   lia
  ·have:(10:Int) ^ (60:Int).toNat=10 ^ 60:=rfl
   have r1:r2<2*10 ^ 60-1:=r1
   lia
 ·refine⟨_,rfl,rfl,_,rfl,?_⟩
  refine ite2 (fun e=>?_) (fun e=>?_)
  ·refine⟨_,_,rfl,rfl,⟨by decide,by decide,by decide⟩,_,_,rfl,rfl,_,_,rfl,rfl,⟨by decide,by decide,by decide⟩,_,_,rfl,rfl,_,rfl,zl4,fun p hp=>?_⟩
   have st1:=st.trans (Step.new (o:=.lst [.int (10 ^ 60-1),.int (1-10 ^ 60),.int 0,.int (-1)]) st.box hp)
   refine⟨_,rfl,b,4,rfl,st1.box,by decide,by decide,fun r2 H2 r0 r1 st2=>?_⟩
   have hp2:H2 p=some (.lst [.int (10 ^ 60-1),.int (1-10 ^ 60),.int 0,.int (-1)]):=by
    obtain⟨a',f',m',e'⟩:=st.box
    exact st2.keep p _ (zn e' hp).symm zc
   have hcases:r2=0\/r2=1\/r2=2\/r2=3:=by lia
   rcases hcases with rfl|rfl|rfl|rfl
   ·exact⟨p,_,0,_,rfl,rfl,Sl hp2,rfl,q _ _ (by decide) (by decide) (st1.trans st2)⟩
   ·exact⟨p,_,1,_,rfl,rfl,Sl hp2,rfl,q _ _ (by decide) (by decide) (st1.trans st2)⟩
   ·exact⟨p,_,2,_,rfl,rfl,Sl hp2,rfl,q _ _ (by decide) (by decide) (st1.trans st2)⟩
   ·exact⟨p,_,3,_,rfl,rfl,Sl hp2,rfl,q _ _ (by decide) (by decide) (st1.trans st2)⟩
  ·refine⟨_,rfl,b,12,rfl,st.box,by decide,by decide,fun r2 H2 r0 r1 st2=>?_⟩
   exact⟨_,_,rfl,rfl,q _ _ (by have:(3:Int)<10 ^ 60:=(by decide);lia) (by have:(12:Int)<10 ^ 60:=(by decide);lia) (st.trans st2)⟩
inductive spWorth(n:Nat)(vs:List V)(H:Hp)(Q:VK)(z3:XK):Prop
 |mk (b:Addr) (room deep:Int) (_:vs=[.ref b,.int room,.int deep]) (_:IsBox H b) (_:1<=room) (_:room<1000) (_:0<=deep) (_:deep<n) (_:∀(v:V)(x:W)(H':Hp),RW H' v x->x.Ok->(x.depth:Int)<=deep->x.size<=16*room->Step b H H'->Q v H')
theorem zbB:FnScope ["_law_box_here","_law_room","_law_deep","_law_kind","_law_wide","_law_left","_law_found","_law_k","_law_share"] ["_law_box_here","_law_room","_law_deep"] (zi zjM):=mkSc rfl (by decide +kernel)
theorem zll{n:Nat}(F:Fun K "_law_worth" "_law_worth" zjM f fd)(G_ltake:Have P w K mg base "_law_take" k ["_law_box_here","_law_wide"] spTake)(G_ltext:Have P w K mg base "_law_text" k ["_law_box_here","_law_most"] spText)
  (G_lnumber:Have P w K mg base "_law_number" k ["_law_box_here"] spNumber) (G_lworth:Have P w K mg base "_law_worth" k ["_law_box_here","_law_room","_law_deep"] (spWorth n))
  (m_min:mg "min"=none) (m_range:mg "range"=none) (m_tuple:mg "tuple"=none):FnOk P w K mg base CX0 (k+1) f fd ["_law_box_here","_law_room","_law_deep"] (spWorth (n+1)):=by
 refine F.ok zbB (by rintro _ _ _ _ ⟨_,_,_,rfl,_⟩;rfl) fun _ _ _ _ H vs Q E hr h=>?_
 obtain⟨b,room,deep,rfl,hb,hr1,hr2,hd0,hd1,q⟩:=h
 refine⟨_,(zd (zm (i:=3) zbB.nd rfl (Or.inl rfl) (zo G_ltake hr rfl (za (pv 0) (za ze zb))))
  (zd (zE (Z6 (zk zY (pv 3) ze (nomark _)) (ZF (zbr (zk zY (pv 3) ze (nomark _)) (zay (zk zgf (pv 2) ze (nomark _)))).pt)).pt (zf (zl (zo G_lnumber hr rfl (za (pv 0) zb)))) zq)
  (zd (zE (zk zY (pv 3) ze (nomark _)) (zf (zl (zo G_ltext hr rfl (za (pv 0) (za ze zb))))) zq)
  (zd (zm (i:=4) zbB.nd rfl (Or.inl rfl) (zo G_ltake hr rfl (za (pv 0) (za (zj (zgh rfl) rfl m_min PyProof.Rows.boot_min (za (pv 1) (za ze zb))) zb))))
  (zd (zm (i:=5) zbB.nd rfl (Or.inl rfl) (zu Zu (pv 1) ze))
  (zd (zm (i:=6) zbB.nd rfl (Or.inl rfl) (zF zb))
  (zd (zaL tN rfl (zah rfl m_range (za (pv 4) zb)) (Zb (i:=7) zbB.nd rfl (Or.inl rfl)) (zd (zm (i:=8) zbB.nd rfl (Or.inl rfl) (zu Zj ze (zo G_ltake hr rfl (za (pv 0) (za (zu Zu (pv 5) (zu Zu (zu Zu (pv 4) ze) (pv 7))) zb)))))
  (zd (Zm (ZZ tO tQ tP ZC (pv 6) (za (zo G_lworth hr rfl (za (pv 0) (za (pv 8) (za (zu Zu (pv 2) ze) zb)))) zb)))
  (zf (zm (i:=5) zbB.nd rfl (Or.inl rfl) (zu Zu (pv 5) (pv 8)))))))
  (zf (zl (zD zK rfl m_tuple zC (za (pv 6) zb))))))))))),nm8 ?_⟩
 intros
 refine⟨_,rfl,b,3,rfl,hb,by decide,by decide,fun kd H1 k0 k1 st=>?_⟩
 dsimp only[zW]
 refine seqI (t:=tIfS _ _ _) (fun σ' H'=>σ'=[some (.ref b),some (.int room),some (.int deep),some (.int kd),none,none,none,none,none]/\Step b H H'/\(kd=1\/(kd=2/\1<=deep))) (fun σ' H2 h2=>?_) (fun rest=>?_)
 ·obtain⟨rfl,st2,hk⟩:=h2
  refine⟨_,rfl,rfl,_,rfl,?_⟩
  refine ite2 (fun e=>?_) (fun e=>?_)
  ·refine⟨_,rfl,b,15,rfl,st2.box,by decide,by decide,fun x H3 hx sx st3=>?_⟩
   refine q _ _ _ (.txt x) ⟨by lia,sx⟩ (by show ((0:Nat):Int)<=deep;lia) ?_ (st2.trans st3)
   show 1+(x.length:Int)<=16*room
   lia
  ·have e':¬V.int kd=V.int 1:=of_decide_eq_false (xJ.mpr e)
   have hk2:kd=2/\1<=deep:=by
    rcases hk with hk|hk
    ·exact absurd (by rw[hk]) e'
    ·exact hk
   refine⟨_,rfl,_,rfl,room,61,rfl,b,_,rfl,st2.box,?_,?_,fun wide H3 w0 w1 st3=>?_⟩
   ·split<;>lia
   ·split<;>lia
   have w2:wide<room/\wide<61:=by
    revert w1
    split<;>intro w1<;>lia
   refine⟨_,rfl,_,_,rfl,rfl,zl0,fun l hl=>?_⟩
   have st4:=(st2.trans st3).trans (Step.new (o:=.lst []) st3.box hl)
   have lb:l≠b:=by
    obtain⟨a',f',m',e'⟩:=st3.box
    exact (zn e' hl).symm
   have hlH:H l=none:=by
    cases e:H l with
    |none=>rfl
    |some o=>
     have:=(st2.trans st3).keep l o lb e
     rw[hl] at this
     cases this
   refine⟨_,rfl,wide,rfl,by lia,by lia,zdR (n:=wide.toNat) (fun i σ' H'=>∃(left:Int)(vs:List V)(ws:List W)(o1 o2:Option V),
     σ'=[some (.ref b),some (.int room),some (.int deep),some (.int kd),some (.int wide),some (.int left),some (.ref l),o1,o2]/\H' l=some (.lst vs)/\RWs H' vs ws/\ws.length=i/\Oks ws/\(depths ws:Int)<=deep-1 /\
     sizes ws<=16*(room-1-left)/\wide-i<=left/\Step b H H')
    ⟨room-1,[],[],none,none,rfl,zc,⟨rfl,fun i v w e=>by simp at e⟩,rfl,trivial,by show ((0:Nat):Int)<=deep-1;lia,by simp[sizes],by lia,st4⟩ (fun i σ' H' hi h=>?_) (fun σ' H' h=>?_)⟩
   ·obtain⟨left,vs,ws,o1,o2,rfl,hl',hrw,hlen,hok,hdp,hsz,hleft,st5⟩:=h
    have nn:=sizes_nn ws
    refine⟨_,rfl,_,rfl,_,rfl,_,_,rfl,rfl,_,rfl,_,_,rfl,rfl,_,_,rfl,rfl,b,_,rfl,st5.box,?_,?_,fun r H5 r0 r1 st6=>?_⟩
    ·lia
    ·have:(2000:Int)<10 ^ 61:=by decide
     lia
    have hl5:H5 l=some (.lst vs):=st6.keep l _ lb hl'
    refine⟨_,_,rfl,rfl,_,rfl,.inl ⟨rfl,_,Sl hl5⟩,_,rfl,_,rfl,_,rfl,_,_,rfl,rfl,b,_,_,rfl,st6.box,?_,?_,?_,?_,fun v x H6 rx okx dx sx st7=>?_⟩
    ·lia
    ·lia
    ·lia
    ·lia
    have hl6:H6 l=some (.lst vs):=st7.keep l _ lb hl5
    have hlv:vs.length<=61:=by have:=hrw.len;lia
    refine⟨l,vs,v,rfl,rfl,hl6,xG hlv (by decide),?_⟩
    refine⟨_,rfl,_,rfl,_,_,rfl,rfl,?_⟩
    have t6:Tups H' H6:=fun a us e=>(st7.tups st6.box) a us ((st6.tups st5.box) a us e)
    have t7:=ZR (o:=.lst (vs++[v])) hl6
    refine⟨_,vs++[v],ws++[x],_,_,rfl,zc,((hrw.mono t6).mono t7).snoc (rx.mono t7),?_,(zlk _ _).mpr ⟨hok,okx⟩,?_,?_,?_,?_⟩
    ·rw[yC,hlen];rfl
    ·rw[zhc];lia
    ·rw[ziG];lia
    ·lia
    ·refine⟨?_,fun c o hc e=>?_⟩
     ·obtain⟨a',f',m',e'⟩:=st7.box
      exact⟨a',f',m',by rw[zA lb.symm];exact e'⟩
     ·rw[zA (zn e hlH)]
      exact (st5.trans (st6.trans st7)).keep c o hc e
   ·obtain⟨left,vs,ws,o1,o2,rfl,hl',hrw,hlen,hok,hdp,hsz,hleft,st5⟩:=h
    refine⟨_,rfl,l,vs,rfl,.inl ⟨Sl hl',fun t ht=>?_⟩⟩
    have t6:=zfD (o:=.tup vs) ht
    refine q _ (.lst ws) _ (.lst zc hrw.len fun i v x a b=>(hrw.at' i v x a b).mono t6) ⟨by lia,hok⟩ ?_ ?_ (st5.trans (Step.new st5.box ht))
    ·show ((1+depths ws:Nat):Int)<=deep
     lia
    ·show 1+sizes ws<=16*room
     lia
 ·refine⟨_,rfl,rfl,_,rfl,?_⟩
  have fin:∀H2,Step b H H2->spNumber [.ref b] H2 Q E0:=fun H2 st2=>⟨b,rfl,st2.box,fun i H3 i0 i1 st3=>q _ (.num i) _ (.num i) ⟨i0,i1⟩ (by show ((0:Nat):Int)<=deep;lia) (by show (1:Int)<=16*room;lia) (st2.trans st3)⟩
  refine ite2 (fun e=>?_) (fun e=>?_)
  ·refine iteT ?_
   exact⟨_,rfl,fin H1 st⟩
  ·have e':¬V.int kd=V.int 0:=of_decide_eq_false (xJ.mpr e)
   have kne:kd≠0:=fun z=>e' (by rw[z])
   refine⟨_,rfl,rfl,_,rfl,?_⟩
   refine ite2 (fun e2=>?_) (fun e2=>?_)
   ·have e2':V.int kd=V.int 2:=of_decide_eq_true e2
    have kd2:kd=2:=by injection e2'
    refine⟨_,rfl,_,_,rfl,rfl,_,rfl,?_⟩
    refine ite2 (fun e3=>?_) (fun e3=>?_)
    ·exact⟨_,rfl,fin H1 st⟩
    ·have e3':¬deep<1:=of_decide_eq_false (xJ.mpr e3)
     exact rest _ _ ⟨rfl,st,.inr ⟨kd2,by lia⟩⟩
   ·have e2':¬V.int kd=V.int 2:=of_decide_eq_false (xJ.mpr e2)
    have kne2:kd≠2:=fun z=>e2' (by rw[z])
    refine iteF ?_
    exact rest _ _ ⟨rfl,st,.inl (by lia)⟩
inductive T where
 |non
 |bl (b:Bool)
 |num (i:Int)
 |txt (x:Str)
 |tup (ts:List T)
 |lst
 |dic
mutual
noncomputable def T.size:T->Int
 |.txt x=>1+(x.length:Int)
 |.tup ts=>1+tsizes ts
 |_=>1
noncomputable def tsizes:List T->Int
 |[]=>0
 |t::r=>t.size+tsizes r
end
mutual
noncomputable def T.nodes:T->Nat
 |.tup ts=>1+tnodes ts
 |_=>1
noncomputable def tnodes:List T->Nat
 |[]=>0
 |t::r=>t.nodes+tnodes r
end
noncomputable def zc5(c:Nat):Bool:=decide (32<=c)&&(decide (c<=126)&&(decide (c≠34)&&decide (c≠37)))
def za0(x:Str):Bool:=x.cps.toList.all zc5
def zfd(lv:Int):T->Bool
 |.num i=>decide (-(10 ^ 60)<i/\i<10 ^ 60)
 |.txt x=>decide (x.length<=400)&&za0 x
 |.tup ts=>decide (ts.length<=60)&&decide (0<lv)
 |_=>false
mutual
noncomputable def zcF:T->Int->Bool
 |.tup ts,lv=>decide (ts.length<=60)&&decide (0<lv)&&fitsA ts (lv-1)
 |.num i,_=>decide (-(10 ^ 60)<i/\i<10 ^ 60)
 |.txt x,_=>decide (x.length<=400)&&za0 x
 |.non,_=>false
 |.bl _,_=>false
 |.lst,_=>false
 |.dic,_=>false
noncomputable def fitsA:List T->Int->Bool
 |[],_=>true
 |t::r,lv=>zcF t lv&&fitsA r lv
end
def zI(t:T):Bool:=zcF t 12&&decide (t.size<=1000)
mutual
def T.Sm:T->Prop
 |.txt x=>x.length<=100000
 |.tup ts=>ts.length<=100000/\Sms ts
 |_=>True
def Sms:List T->Prop
 |[]=>True
 |t::r=>t.Sm/\Sms r
end
mutual
theorem zgv:∀t:T,1<=t.size
 |.non=>by simp[T.size]
 |.bl _=>by simp[T.size]
 |.num _=>by simp[T.size]
 |.lst=>by simp[T.size]
 |.dic=>by simp[T.size]
 |.txt x=>by simp only[T.size];lia
 |.tup ts=>by have:=tsizes_nn ts;simp only[T.size];lia
theorem tsizes_nn:∀ts:List T,0<=tsizes ts
 |[]=>by simp[tsizes]
 |t::r=>by have h1:=zgv t;have h2:=tsizes_nn r;simp only[tsizes];lia
end
theorem zhd{ts:List T}(h:Sms ts):∀t∈ts,t.Sm:=by
 induction ts with
 |nil=>intro t ht;cases ht
 |cons x r ih=>
  intro t ht
  rcases yG.mp ht with rfl|ht
  ·exact h.1
  ·exact ih h.2 t ht
inductive RT(H:Hp):V->T->Prop where
 |non:RT H .non .non
 |bl (b:Bool):RT H (.bl b) (.bl b)
 |num (i:Int):RT H (.int i) (.num i)
 |txt (x:Str):RT H (.str x) (.txt x)
 |tup {a:Addr}{vs:List V}{ts:List T}:H a=some (.tup vs)->vs.length=ts.length->(∀(i:Nat)(v:V)(t:T),vs[i]?=some v->ts[i]?=some t->RT H v t)->RT H (.ref a) (.tup ts)
 |lst {a:Addr}{vs:List V}:H a=some (.lst vs)->RT H (.ref a) .lst
 |dic {a:Addr}{kvs:List (Key×V)}:H a=some (.dK kvs)->RT H (.ref a) .dic
theorem RT.mono{H H':Hp}(s:Same H H'){v:V}{t:T}(h:RT H v t):RT H' v t:=by
 induction h with
 |non=>exact .non
 |bl b=>exact .bl b
 |num i=>exact .num i
 |txt x=>exact .txt x
 |tup e l _ ih=>exact .tup (s _ _ e) l ih
 |lst e=>exact .lst (s _ _ e)
 |dic e=>exact .dic (s _ _ e)
noncomputable def zoa:T->Bool
 |.num _=>true
 |_=>false
inductive spIsNum(vs:List V)(H:Hp)(Q:VK)(z3:XK):Prop
 |mk (v:V) (t:T) (_:vs=[v]) (_:RT H v t) (_:Q (.bl (zoa t)) H)
inductive spIsSign(vs:List V)(H:Hp)(Q:VK)(z3:XK):Prop
 |mk (c:Nat) (_:vs=[.str ⟨#[c]⟩]) (_:Q (.bl (zc5 c)) H)
inductive spFits(vs:List V)(H:Hp)(Q:VK)(z3:XK):Prop
 |mk (v:V) (t:T) (lv:Int) (_:vs=[v,.int lv]) (_:RT H v t) (_:t.Sm) (_:∀H',Same H H'->Q (.bl (zfd lv t)) H')
noncomputable def zab:T->Int
 |.txt x=>1+(x.length:Int)
 |_=>1
inductive spSizeT(vs:List V)(H:Hp)(Q:VK)(z3:XK):Prop
 |mk (v:V) (t:T) (_:vs=[v]) (_:RT H v t) (_:t.Sm) (_:Q (.int (zab t)) H)
inductive spIsWorth(vs:List V)(H:Hp)(Q:VK)(z3:XK):Prop
 |mk (v:V) (t:T) (_:vs=[v]) (_:RT H v t) (_:t.Sm) (_:∀H',Same H H'->Q (.bl (zI t)) H')
theorem zmk(a b:Nat):decide (([a]:List Nat)<[b])=decide (a<b):=by
 rw[xF,decide_eq_true_iff,decide_eq_true_iff]
 constructor
 ·intro h
  rcases uC.mp h with h|⟨_,h⟩
  ·exact h
  ·exact absurd h (List.not_lt_nil _)
 ·exact fun h=>uC.mpr (.inl h)
theorem zlm:FnScope ["thing"] ["thing"] (zi zb9):=mkSc rfl (by decide +kernel)
theorem zln(F:Fun K "is_number" "is_number" zb9 f fd)(m_isi:mg "isinstance"=none)(m_int:mg "int"=none)(m_bool:mg "bool"=none):FnOk P w K mg base CX0 (k+1) f fd ["thing"] spIsNum:=by
 refine F.ok zlm (by rintro _ _ _ _ ⟨_,_,rfl,_⟩;rfl) fun _ _ _ _ H vs Q E hr h=>?_
 obtain⟨v,t,rfl,rt,q⟩:=h
 refine⟨_,(zf (zl (Zt (zj zP rfl m_isi zQ (za (pv 0) (za (ZP rfl m_int ZQ) zb))) (ZG (zhK (zj zP rfl m_isi zQ (za (pv 0) (za (ZP rfl m_bool zfb) zb)))))))),?_⟩
 cases rt with
 |non=>exact⟨_,rfl,_,_,_,_,rfl,.non,zn2,_,rfl,iteF q⟩
 |bl b=>exact⟨_,rfl,_,_,_,_,rfl,.bl b,zn1,_,rfl,iteT ⟨_,rfl,_,_,_,_,rfl,.bl b,zn6,_,rfl,q⟩⟩
 |num i=>exact⟨_,rfl,_,_,_,_,rfl,.int i,znZ,_,rfl,iteT ⟨_,rfl,_,_,_,_,rfl,.int i,zn5,_,rfl,q⟩⟩
 |txt x=>exact⟨_,rfl,_,_,_,_,rfl,.str x,zn0,_,rfl,iteF q⟩
 |tup e _ _=>exact⟨_,rfl,_,_,_,_,rfl,.tup e,znY,_,rfl,iteF q⟩
 |lst e=>exact⟨_,rfl,_,_,_,_,rfl,.lst e,zn3,_,rfl,iteF q⟩
 |dic e=>exact⟨_,rfl,_,_,_,_,rfl,.dK e,zn4,_,rfl,iteF q⟩
theorem zjT:FnScope ["sign"] ["sign"] (zi zd3):=mkSc rfl (by decide +kernel)
theorem ziH(c d:Nat):(!decide (V.str ⟨#[c]⟩=V.str ⟨#[d]⟩))=decide (c≠d):=by
 rw[xF]
 simp
theorem zjU(F:Fun K "is_sign" "is_sign" zd3 f fd)(m_ord:mg "ord"=none)(m_PERCENT:∃t,mg "PERCENT"=some (.int 37 t)):FnOk P w K mg base CX0 (k+1) f fd ["sign"] spIsSign:=by
 refine F.ok zjT (by rintro _ _ _ _ ⟨_,rfl,_⟩;rfl) fun _ _ _ _ H vs Q E hr h=>?_
 obtain⟨c,rfl,q⟩:=h
 refine⟨_,(zf (zl (Zt (zk3 zgu zgu zg (pv 0) zg) (Zt (zJ zaz (pv 0) zg (nomark _)) (ZG (zJ zaz (zj (zk6) rfl m_ord zjJ (za (pv 0) zb)) (Zz rfl m_PERCENT) (nomark _))))))),?_⟩
 have e32:(uV " ").cps.toList=[32]:=by decide +kernel
 have e126:(uV "~").cps.toList=[126]:=by decide +kernel
 have e34:uV "\""=⟨#[34]⟩:=by decide +kernel
 have l1:(!decide ((Str.mk #[c]).cps.toList<(uV " ").cps.toList))=decide (32<=c):=by rw[e32];show (!decide (([c]:List Nat)<[32]))=_;rw[zmk,xF];simp
 have l2:(!decide ((uV "~").cps.toList<(Str.mk #[c]).cps.toList))=decide (c<=126):=by rw[e126];show (!decide (([126]:List Nat)<[c]))=_;rw[zmk,xF];simp
 have l3:(!decide (V.str ⟨#[c]⟩=V.str (uV "\"")))=decide (c≠34):=by rw[e34];exact ziH c 34
 have l4:(!decide (V.int ((((Str.mk #[c]).cps.getD 0 0:Nat)):Int)=V.int 37))=decide (c≠37):=by
  show (!decide (V.int (c:Int)=V.int 37))=decide (c≠37)
  rw[xF]
  simp
  lia
 refine⟨_,rfl,_,_,rfl,rfl,_,rfl,?_⟩
 have fin:∀b:Bool,zc5 c=b->Q (.bl b) H:=fun b e=>by rw[←e];exact q
 refine ite2 (fun e=>?_) (fun e=>?_)
 ·have e1:decide (32<=c)=true:=by rw[←l1];exact e
  refine⟨_,_,rfl,rfl,_,rfl,?_⟩
  refine ite2 (fun e=>?_) (fun e=>?_)
  ·have e2:decide (c<=126)=true:=by rw[←l2];exact e
   refine⟨_,rfl,rfl,_,rfl,?_⟩
   refine ite2 (fun e=>?_) (fun e=>?_)
   ·have e3:decide (c≠34)=true:=by rw[←l3];exact e
    refine⟨_,rfl,_,rfl,rfl,rfl,fin _ ?_⟩
    rw[l4]
    unfold zc5
    rw[e1,e2,e3]
    rfl
   ·have e3:decide (c≠34)=false:=by rw[←l3];exact xJ.mpr e
    refine fin _ ?_
    unfold zc5
    rw[e1,e2,e3]
    rfl
  ·have e2:decide (c<=126)=false:=by rw[←l2];exact xJ.mpr e
   refine fin _ ?_
   unfold zc5
   rw[e1,e2]
   rfl
 ·have e1:decide (32<=c)=false:=by rw[←l1];exact xJ.mpr e
  refine⟨_,rfl,iteF (fin _ ?_)⟩
  unfold zc5
  rw[e1]
  rfl
theorem zmV:FnScope ["thing","levels"] ["thing","levels"] (zi zbu):=mkSc rfl (by decide +kernel)
theorem all_map{α:Type}(p:α->Bool)(l:List α):(l.map p).all id=l.all p:=by rw[vS];rfl
theorem zmW(F:Fun K "fits_alone" "fits_alone" zbu f fd)(G_is_number:Have P w K mg base "is_number" k ["thing"] spIsNum)(G_is_sign:Have P w K mg base "is_sign" k ["sign"] spIsSign)
  (m_isi:mg "isinstance"=none) (m_str:mg "str"=none) (m_tuple:mg "tuple"=none) (m_len:mg "len"=none) (m_all:mg "all"=none) (m_abs:mg "abs"=none) (m_MOST_SIGNS:∃t,mg "MOST_SIGNS"=some (.int 400 t)) (m_MOST_ITEMS:∃t,mg "MOST_ITEMS"=some (.int 60 t)):
  FnOk P w K mg base CX0 (k+1) f fd ["thing","levels"] spFits:=by
 refine F.ok zmV (by rintro _ _ _ _ ⟨_,_,_,rfl,_⟩;rfl) fun _ _ _ _ H vs Q E hr h=>?_
 obtain⟨v,t,lv,rfl,rt,sm,q⟩:=h
 refine⟨_,(zd (zE (zX (zo G_is_number hr rfl (za (pv 0) zb))) (zf (zl (zJ zgf (zj (zk5) rfl m_abs zjK (za (pv 0) zb)) (zu zcr ze ze) (nomark _)))) zq)
  (zd (zE (zX (zj zP rfl m_isi zQ (za (pv 0) (za (ZP rfl m_str ZI) zb)))) (zf (zl (Zt (zJ ziw (zj zB rfl m_len tF (za (pv 0) zb)) (Zz rfl m_MOST_SIGNS) (nomark _)) (ZG (zj (ZD rfl) rfl m_all za1 (za (zN [] [] rfl rfl (by decide +kernel) rfl (by decide +kernel) rfl (by decide +kernel) trivial rfl trivial (ze4 (pv 0)) (fun C s H fp=>⟨zM,(zo G_is_sign hr rfl (za (pv 0) zb))⟩)) zb)))))) zq)
  (zf (zl (Zt (zj zP rfl m_isi zQ (za (pv 0) (za (ZP rfl m_tuple zC) zb))) (Zt (zJ ziw (zj zB rfl m_len tF (za (pv 0) zb)) (Zz rfl m_MOST_ITEMS) (nomark _)) (ZG (zJ zcs (pv 1) ze (nomark _))))))))),nm3 ?_⟩
 intros
 have q0:∀b:Bool,zfd lv t=b->Q (.bl b) H:=fun b e=>by rw[←e];exact q H (Sr H)
 refine⟨_,rfl,v,t,rfl,rt,_,rfl,?_⟩
 cases rt with
 |non=>exact iteF ⟨_,rfl,_,_,_,_,rfl,.non,ze8,_,rfl,iteF ⟨_,rfl,_,_,_,_,rfl,.non,zcA,_,rfl,iteF (q0 _ rfl)⟩⟩
 |bl b=>exact iteF ⟨_,rfl,_,_,_,_,rfl,.bl b,ze7,_,rfl,iteF ⟨_,rfl,_,_,_,_,rfl,.bl b,zcz,_,rfl,iteF (q0 _ rfl)⟩⟩
 |lst e=>exact iteF ⟨_,rfl,_,_,_,_,rfl,.lst e,ze9,_,rfl,iteF ⟨_,rfl,_,_,_,_,rfl,.lst e,zcB,_,rfl,iteF (q0 _ rfl)⟩⟩
 |dic e=>exact iteF ⟨_,rfl,_,_,_,_,rfl,.dK e,zfa,_,rfl,iteF ⟨_,rfl,_,_,_,_,rfl,.dK e,zcC,_,rfl,iteF (q0 _ rfl)⟩⟩
 |num i=>
  refine iteT ⟨_,rfl,i,rfl,_,_,rfl,rfl,⟨by decide,by decide,by decide⟩,_,_,rfl,rfl,q0 _ ?_⟩
  show decide (-(10 ^ 60)<i/\i<10 ^ 60)=decide ((if i<0 then -i else i)<10 ^ (60:Int).toNat)
  have e:(10:Int) ^ (60:Int).toNat=10 ^ 60:=rfl
  rw[e,xF,decide_eq_true_iff,decide_eq_true_iff]
  constructor
  ·intro h
   split<;>lia
  ·split<;>intro h<;>lia
 |txt x=>
  refine iteF ⟨_,rfl,_,_,_,_,rfl,.str x,zdl,_,rfl,iteT ?_⟩
  have hx:x.length<=100000:=sm
  refine⟨_,rfl,_,_,rfl,⟨small (by lia),rfl⟩,_,_,rfl,rfl,_,rfl,?_⟩
  refine ite2 (fun e=>?_) (fun e=>?_)
  ·have e1:(x.length:Int)<=400:=of_decide_eq_true e
   dsimp +zetaDelta only [tRet,tOp,tC,tCB,ZY,tNil]
   have hsz:x.cps.size=x.length:=rfl
   refine zfy (x.cps.toList.map fun c=>V.bl (zc5 c)) (by rfl) (by rw[yA];simp) (by rw[hsz];exact small (by lia)) (fun i c y H1 R hc hy s1 hR=>?_) (fun H1 D s1 hD=>?_)
   ·have hc':x.cps.toList[i]?=some c:=by simpa using hc
    rw[yN,hc'] at hy
    cases hy
    exact⟨_,rfl,c,rfl,hR _ (Sr _)⟩
   ·refine⟨D,x.cps.toList.map zc5,rfl,Sl ?_,?_⟩
    ·rw[zc,xN];rfl
    ·have:=q _ (s1.trans (Sn (o:=.lst (x.cps.toList.map fun c=>V.bl (zc5 c))) hD))
     rw[all_map]
     have e3:zfd lv (.txt x)=x.cps.toList.all zc5:=by
      show (decide (x.length<=400)&&za0 x)=_
      rw[decide_eq_true (by lia)]
      rfl
     rw[←e3]
     exact this
  ·have e1:¬(x.length:Int)<=400:=of_decide_eq_false (xJ.mpr e)
   refine q0 _ ?_
   show (decide (x.length<=400)&&za0 x)=_
   rw[decide_eq_false (by lia)]
   rfl
 | @tup a vs ts e l _=>
  refine iteF ⟨_,rfl,_,_,_,_,rfl,.tup e,ze5,_,rfl,iteF ?_⟩
  refine⟨_,rfl,_,_,_,_,rfl,.tup e,zbt,_,rfl,iteT ?_⟩
  refine⟨_,rfl,_,_,rfl,.inr ⟨_,Sq e,rfl⟩,_,_,rfl,rfl,_,rfl,?_⟩
  refine ite2 (fun c=>?_) (fun c=>?_)
  ·have c1:(vs.length:Int)<=60:=of_decide_eq_true c
   refine⟨_,rfl,_,_,rfl,rfl,q0 _ ?_⟩
   show (decide (ts.length<=60)&&decide (0<lv))=_
   rw[decide_eq_true (by lia),wT]
  ·have c1:¬(vs.length:Int)<=60:=of_decide_eq_false (xJ.mpr c)
   refine q0 _ ?_
   show (decide (ts.length<=60)&&decide (0<lv))=_
   rw[decide_eq_false (by lia),wI]
theorem zlo:FnScope ["worth"] ["worth"] (zi zjL):=mkSc rfl (by decide +kernel)
theorem zlp(F:Fun K "size_alone" "size_alone" zjL f fd)(m_isi:mg "isinstance"=none)(m_str:mg "str"=none)(m_len:mg "len"=none):FnOk P w K mg base CX0 (k+1) f fd ["worth"] spSizeT:=by
 refine F.ok zlo (by rintro _ _ _ _ ⟨_,_,rfl,_⟩;rfl) fun _ _ _ _ H vs Q E hr h=>?_
 obtain⟨v,t,rfl,rt,sm,q⟩:=h
 refine⟨_,zf (zl (zaJ (zX (zj zP rfl m_isi zQ (za (pv 0) (za (ZP rfl m_str ZI) zb)))) (zu Zj ze (zj zB rfl m_len tF (za (pv 0) zb))) ze)),?_⟩
 cases rt with
 |non=>exact⟨_,rfl,_,_,_,_,rfl,.non,ze8,_,rfl,iteF q⟩
 |bl b=>exact⟨_,rfl,_,_,_,_,rfl,.bl b,ze7,_,rfl,iteF q⟩
 |num i=>exact⟨_,rfl,_,_,_,_,rfl,.int i,ze6,_,rfl,iteF q⟩
 |lst e=>exact⟨_,rfl,_,_,_,_,rfl,.lst e,ze9,_,rfl,iteF q⟩
 |dic e=>exact⟨_,rfl,_,_,_,_,rfl,.dK e,zfa,_,rfl,iteF q⟩
 |tup e _ _=>exact⟨_,rfl,_,_,_,_,rfl,.tup e,ze5,_,rfl,iteF q⟩
 |txt x=>
  have hx:x.length<=100000:=sm
  refine⟨_,rfl,_,_,_,_,rfl,.str x,zdl,_,rfl,iteT ?_⟩
  exact⟨_,rfl,_,_,rfl,⟨small (by lia),rfl⟩,_,_,rfl,rfl,q⟩
structure StR(H0 H:Hp)(vs:List V)(ps:List (T×Int)):Prop where
 len:vs.length=ps.length
 at':∀(i:Nat)(v:V)(p:T×Int),vs[i]?=some v->ps[i]?=some p->∃(a:Addr)(u:V),v=.ref a/\H a=some (.tup [u,.int p.2])/\RT H0 u p.1
theorem StR.mono{H0 H H':Hp}(s:Tups H H'){vs:List V}{ps:List (T×Int)}(h:StR H0 H vs ps):StR H0 H' vs ps:=
 ⟨h.len,fun i v p e1 e2=>let ⟨a,u,x,y,z⟩:=h.at' i v p e1 e2;⟨a,u,x,s _ _ y,z⟩⟩
theorem StR.nil{H0 H:Hp}:StR H0 H [] []:=⟨rfl,fun i v p e=>by simp at e⟩
theorem StR.app{H0 H:Hp}{vs us:List V}{ps qs:List (T×Int)}(h:StR H0 H vs ps)(g:StR H0 H us qs):StR H0 H (vs++us) (ps++qs):=by
 refine⟨by rw[yC,yC,h.len,g.len],fun i v p e1 e2=>?_⟩
 by_cases hi:i<vs.length
 ·rw[yP hi] at e1
  rw[yP (h.len▸hi)] at e2
  exact h.at' i v p e1 e2
 ·rw[yL (by lia)] at e1
  rw[yL (by have:=h.len;lia)] at e2
  rw[h.len] at e1
  exact g.at' _ v p e1 e2
theorem StR.one{H0 H:Hp}{a:Addr}{u:V}{p:T×Int}(e:H a=some (.tup [u,.int p.2]))(r:RT H0 u p.1):StR H0 H [.ref a] [p]:=by
 refine⟨rfl,fun i v' p' e1 e2=>?_⟩
 cases i with
 |zero=>
  have q1:V.ref a=v':=by simpa using e1
  have q2:p=p':=by simpa using e2
  subst q1 q2
  exact⟨a,u,rfl,e,r⟩
 |succ j=>simp at e1
theorem StR.front{H0 H:Hp}{vs:List V}{ps:List (T×Int)}{v:V}{p:T×Int}(h:StR H0 H (vs++[v]) (ps++[p])):StR H0 H vs ps/\∃(a:Addr)(u:V),v=.ref a/\H a=some (.tup [u,.int p.2])/\RT H0 u p.1:=by
 have l:=h.len
 rw[yC,yC] at l
 have l':vs.length=ps.length:=by simpa using l
 refine⟨⟨l',fun i v' p' e1 e2=>?_⟩,?_⟩
 ·have h1:=(yE.mp e1).1
  exact h.at' i v' p' (by rw[yP h1];exact e1) (by rw[yP (l'▸h1)];exact e2)
 ·exact h.at' vs.length v p (by rw[yL (yO _)];simp) (by rw[l',yL (yO _)];simp)
theorem ZW{H H':Hp}(s:Same H H'):Tups H H':=fun a vs e=>s a _ e
theorem zaG{H H1:Hp}{l:Addr}{o:HO}(s:Same H H1)(hl:H l=none):Same H (upd H1 l o):=fun c u e=>by rw[zA (zn e hl)];exact s c u e
noncomputable def szs:List (T×Int)->Int
 |[]=>0
 |p::r=>p.1.size+szs r
noncomputable def nds:List (T×Int)->Nat
 |[]=>0
 |p::r=>p.1.nodes+nds r
def fts:List (T×Int)->Bool
 |[]=>true
 |p::r=>zcF p.1 p.2&&fts r
theorem zjV(a b:List (T×Int)):szs (a++b)=szs a+szs b:=by
 induction a with
 |nil=>simp[szs]
 |cons p r ih=>simp only[xC,szs,ih];lia
theorem zfE(a b:List (T×Int)):nds (a++b)=nds a+nds b:=by
 induction a with
 |nil=>simp[nds]
 |cons p r ih=>simp only[xC,nds,ih];lia
theorem zjW(a b:List (T×Int)):fts (a++b)=(fts a&&fts b):=by
 induction a with
 |nil=>simp[fts]
 |cons p r ih=>simp only[xC,fts,ih,uF]
theorem zml:∀ps:List (T×Int),0<=szs ps
 |[]=>by simp[szs]
 |p::r=>by have h1:=zgv p.1;have h2:=zml r;simp only[szs];lia
theorem zmX(ts:List T)(lv:Int):szs (ts.map fun t=>(t,lv))=tsizes ts:=by
 induction ts with
 |nil=>rfl
 |cons t r ih=>simp only[yJ,szs,tsizes,ih]
theorem zjX(ts:List T)(lv:Int):nds (ts.map fun t=>(t,lv))=tnodes ts:=by
 induction ts with
 |nil=>rfl
 |cons t r ih=>simp only[yJ,nds,tnodes,ih]
theorem zmY(ts:List T)(lv:Int):fts (ts.map fun t=>(t,lv))=fitsA ts lv:=by
 induction ts with
 |nil=>rfl
 |cons t r ih=>simp only[yJ,fts,fitsA,ih]
def valB(ps:List (T×Int))(whole:Int):Bool:=fts ps&&decide (whole+szs ps<=1000)
theorem ziI{t:T}{lv:Int}(h:zfd lv t=false):zcF t lv=false:=by
 cases t with
 |tup ts=>
  have h:(decide (ts.length<=60)&&decide (0<lv))=false:=h
  simp only[zcF,h,wI]
 |num i=>exact h
 |txt x=>exact h
 |non=>rfl
 |bl b=>rfl
 |lst=>rfl
 |dic=>rfl
theorem ziJ{t:T}{lv:Int}(h:zfd lv t=true)(hn:∀ts,t≠.tup ts):zcF t lv=true/\t.size=zab t:=by
 cases t with
 |tup ts=>exact absurd rfl (hn ts)
 |num i=>exact⟨h,rfl⟩
 |txt x=>exact⟨h,rfl⟩
 |non=>cases h
 |bl b=>cases h
 |lst=>cases h
 |dic=>cases h
theorem ziK(t:T):zab t<=t.size/\1<=zab t:=by
 cases t with
 |tup ts=>have:=tsizes_nn ts;simp only[zab,T.size];lia
 |txt x=>simp only[zab,T.size];lia
 |_=>simp[zab,T.size]
theorem zac:FnScope ["thing","waiting","whole","pair","item","levels"] ["thing"] (zi zcU):=mkSc rfl (by decide +kernel)
theorem ziL(F:Fun K "is_worth" "is_worth" zcU f fd)(G_fits_alone:Have P w K mg base "fits_alone" k ["thing","levels"] spFits)(G_size_alone:Have P w K mg base "size_alone" k ["worth"] spSizeT)
  (m_isi:mg "isinstance"=none) (m_tuple:mg "tuple"=none) (m_len:mg "len"=none) (m_MOST_DEPTH:∃t,mg "MOST_DEPTH"=some (.int 12 t)) (m_MOST_SIZE:∃t,mg "MOST_SIZE"=some (.int 1000 t)):
  FnOk P w K mg base CX0 (k+1) f fd ["thing"] spIsWorth:=by
 refine F.ok zac (by rintro _ _ _ _ ⟨_,_,rfl,_⟩;rfl) fun _ _ _ _ H vs Q E hr h=>?_
 obtain⟨v,t,rfl,rt,sm,q⟩:=h
 refine⟨_,(zd (zm (i:=1) zac.nd rfl (Or.inl rfl) (zF (za (zy (za (pv 0) (za (Zz rfl m_MOST_DEPTH) zb))) zb)))
  (zd (zm (i:=2) zac.nd rfl (Or.inl rfl) ze)
  (zd (zaK tN (zk zcs (zj zB rfl m_len tF (za (pv 1) zb)) ze (nomark _)) (zd (zm (i:=3) zac.nd rfl (Or.inl rfl) (zdj tO PySem.F.slot_list_pop PySem.F.type_list_pop zhP (pv 1)))
  (zd (zm (i:=4) zac.nd rfl (Or.inl rfl) (zz zw (pv 3) ze (fun _ _=>rfl)))
  (zd (zm (i:=5) zac.nd rfl (Or.inr rfl) (zz zw (pv 3) ze (fun _ _=>rfl)))
  (zd (zE (ZA (zX (zo G_fits_alone hr rfl (za (pv 4) (za (pv 5) zb))))) (zf (zl Z5)) zq)
  (zd (zdg (i:=2) zac.nd rfl (Or.inl rfl) (zo G_size_alone hr rfl (za (pv 4) zb)) (zjI zdT))
  (zd (zE (zk zcs (pv 2) (Zz rfl m_MOST_SIZE) (nomark _)) (zf (zl Z5)) zq)
  (zf (zE (zX (zj zP rfl m_isi zQ (za (pv 4) (za (ZP rfl m_tuple zC) zb)))) (zf (Zm (ZZ tO PySem.F.slot_list_extend PySem.F.type_list_extend zdZ (pv 1) (za (zN [5] ["levels"] rfl rfl (by decide +kernel) rfl (by decide +kernel) rfl (by decide +kernel) ⟨rfl,trivial⟩ rfl ⟨⟨rfl,rfl,Or.inr (Or.inl rfl),(by show (some NameKind.cell:Option NameKind)≠some .local;decide),⟨_,rfl⟩⟩,trivial⟩ (zaq (pv 4)) (fun C s H fp=>⟨zM,(zy (za (pv 0) (za (zu Zu (pv 1) ze) zb)))⟩)) zb)))) zq)))))))))
  (zf (zl Z5))))),?_⟩
 try dsimp only[cxOf,Cx.nox,Cx.wish]
 refine nm4 ?_
 intros
 refine⟨_,rfl,zl2,fun a ha=>?_⟩
 refine⟨zl1,fun l hl=>?_⟩
 have s1:Same H (upd (upd H a (.tup [v,.int 12])) l (.lst [.ref a])):=(Sn ha).trans (Sn hl)
 have hlH:H l=none:=by
  cases e:H l with
  |none=>rfl
  |some o=>have:=Sn (o:=.tup [v,.int 12]) ha l o e;rw[hl] at this;cases this
 have ea:upd (upd H a (.tup [v,.int 12])) l (.lst [.ref a]) a=some (.tup [v,.int 12]):=by rw[zA (zn zc hl)];exact zc
 have st0:StR H (upd (upd H a (.tup [v,.int 12])) l (.lst [.ref a])) [.ref a] [(t,12)]:=StR.one (p:=(t,12)) ea rt
 refine⟨fun m σ' H'=>∃(vs:List V)(ps:List (T×Int))(whole:Int)(o3 o4 o5:Option V),σ'=[some v,some (.ref l),some (.int whole),o3,o4,o5]/\H' l=some (.lst vs)/\StR H H' vs ps/\m=nds ps/\0<=whole/\whole<=1000 /\
   (vs.length:Int)<=60*whole+1/\(∀p∈ps,p.1.Sm)/\valB ps whole=zI t/\Same H H',
  ⟨_,[.ref a],[(t,12)],0,none,none,none,rfl,zc,st0,rfl,vB _,by decide,by simp,fun p hp=>by rw[yH.mp hp];exact sm,?_,s1⟩,fun m σ' H' hW=>?_⟩
 ·unfold valB zI
  simp only[fts,szs,wU]
  congr 2
  rw[eq_iff_iff]
  constructor<;>intro h<;>lia
 obtain⟨vs,ps,whole,o3,o4,o5,rfl,hlv,hst,hm,hw0,hw1,hvl,hsm,hval,sH⟩:=hW
 refine⟨_,rfl,_,_,rfl,.inl ⟨_,Sl hlv,rfl⟩,_,_,rfl,rfl,_,rfl,?_⟩
 refine ite2 (fun c=>?_) (fun c=>?_)
 ·have c1:(0:Int)<vs.length:=of_decide_eq_true c
  refine⟨_,fun _ _ h=>h,?_⟩
  rcases wD vs with rfl|⟨vs',vl,e⟩
  ·simp at c1
  rw[wE] at e
  subst e
  rcases wD ps with rfl|⟨ps',p,e⟩
  ·have:=hst.len;simp at this
  rw[wE] at e
  subst e
  obtain⟨hst',ap,u,rfl,hap,rtu⟩:=hst.front
  have ed:(vs'++[V.ref ap]).dropLast=vs':=vL
  have smp:p.1.Sm:=hsm p (by simp)
  refine⟨_,rfl,.inl ⟨rfl,_,Sl hlv⟩,l,_,.ref ap,rfl,rfl,hlv,by simp,?_⟩
  rw[ed]
  have sH1:Same H (upd H' l (.lst vs')):=zaG sH hlH
  have hap1:upd H' l (.lst vs') ap=some (.tup [u,.int p.2]):=ZR hlv _ _ hap
  refine⟨_,rfl,ap,_,0,u,rfl,rfl,Sq hap1,rfl,?_⟩
  refine⟨_,rfl,ap,_,1,.int p.2,rfl,rfl,Sq hap1,rfl,?_⟩
  refine⟨_,rfl,_,rfl,u,p.1,p.2,rfl,rtu.mono sH1,smp,fun H2 s2=>⟨_,rfl,?_⟩⟩
  have vb:valB (ps'++[p]) whole=((fts ps'&&zcF p.1 p.2)&&decide (whole+(szs ps'+p.1.size)<=1000)):=by
   unfold valB
   rw[zjW,zjV]
   simp only[fts,szs,wU]
   congr 2
   rw[eq_iff_iff]
   constructor<;>intro h<;>lia
  have hsn:=zml ps'
  have hal:=ziK p.1
  have sH2:=sH1.trans s2
  cases hal1:zfd p.2 p.1 with
  |false=>
   refine iteT ?_
   have:zI t=false:=by
    rw[←hval,vb,ziI hal1]
    simp
   have fin:=q _ sH2
   rw[this] at fin
   exact fin
  |true=>
   refine iteF ?_
   refine⟨_,rfl,_,rfl,u,p.1,rfl,rtu.mono sH2,smp,_,_,rfl,rfl,?_⟩
   refine⟨_,rfl,_,_,rfl,rfl,_,rfl,?_⟩
   refine ite2 (fun c2=>?_) (fun c2=>?_)
   ·have c3:(1000:Int)<whole+zab p.1:=of_decide_eq_true c2
    have:zI t=false:=by
     rw[←hval,vb,decide_eq_false (by lia)]
     simp
    have fin:=q _ sH2
    rw[this] at fin
    exact fin
   ·have c3:¬(1000:Int)<whole+zab p.1:=of_decide_eq_false (xJ.mpr c2)
    have hl2:H2 l=some (.lst vs'):=s2 _ _ zc
    have hst2:StR H H2 vs' ps':=(hst'.mono (ZR hlv)).mono (ZW s2)
    have hvl':((vs'.length:Nat):Int)+1<=60*whole+1:=by
     rw[yC] at hvl
     have:([V.ref ap]:List V).length=1:=rfl
     lia
    have hnd:nds (ps'++[p])=nds ps'+p.1.nodes:=by rw[zfE];simp[nds]
    have hsm':∀p'∈ps',p'.1.Sm:=fun p' hp'=>hsm p' (wZ _ hp')
    have leaf:∀(t':T),p.1=t'->(∀ts,t'≠.tup ts)->p.1.nodes=1->∃m',m'<m/\∃(vs:List V)(ps:List (T×Int))(whole':Int)(o3 o4 o5:Option V),[some v,some (.ref l),some (.int (whole+zab p.1)),some (.ref ap),some u,some (.int p.2)]=[some v,some (.ref l),some (.int whole'),o3,o4,o5]/\H2 l=some (.lst vs)/\StR H H2 vs ps/\m'=nds ps/\0<=whole'/\whole'<=1000 /\
      (vs.length:Int)<=60*whole'+1/\(∀p∈ps,p.1.Sm)/\valB ps whole'=zI t/\Same H H2:=fun t' e hn hnode=>by
     obtain⟨hf,hz⟩:=ziJ hal1 (by rw[e];exact hn)
     refine⟨nds ps',by lia,vs',ps',whole+zab p.1,_,_,_,rfl,hl2,hst2,rfl,by lia,by lia,by lia,hsm',?_,sH2⟩
     rw[←hval,vb,hf,hz]
     unfold valB
     rw[wU]
     congr 2
     rw[eq_iff_iff]
     constructor<;>intro h<;>lia
    obtain⟨tt,lv⟩:=p
    have rt2:RT H2 u tt:=rtu.mono sH2
    cases rt2 with
    |non=>exact⟨_,rfl,_,_,_,_,rfl,.non,zcA,_,rfl,iteF (leaf _ rfl (fun _ z=>nomatch z) rfl)⟩
    |bl b=>exact⟨_,rfl,_,_,_,_,rfl,.bl b,zcz,_,rfl,iteF (leaf _ rfl (fun _ z=>nomatch z) rfl)⟩
    |num i=>exact⟨_,rfl,_,_,_,_,rfl,.int i,zb1,_,rfl,iteF (leaf _ rfl (fun _ z=>nomatch z) rfl)⟩
    |txt x=>exact⟨_,rfl,_,_,_,_,rfl,.str x,zb2,_,rfl,iteF (leaf _ rfl (fun _ z=>nomatch z) rfl)⟩
    |lst e=>exact⟨_,rfl,_,_,_,_,rfl,.lst e,zcB,_,rfl,iteF (leaf _ rfl (fun _ z=>nomatch z) rfl)⟩
    |dic e=>exact⟨_,rfl,_,_,_,_,rfl,.dK e,zcC,_,rfl,iteF (leaf _ rfl (fun _ z=>nomatch z) rfl)⟩
    | @tup a2 us ts e2 l2 at2=>
     refine⟨_,rfl,_,_,_,_,rfl,.tup e2,zbt,_,rfl,iteT ?_⟩
     have ha60:ts.length<=60:=by
      have h:(decide (ts.length<=60)&&decide (0<lv))=true:=hal1
      rw[yZ] at h
      exact of_decide_eq_true h.1
     have hlv0:0<lv:=by
      have h:(decide (ts.length<=60)&&decide (0<lv))=true:=hal1
      rw[yZ] at h
      exact of_decide_eq_true h.2
     refine⟨_,rfl,.inl ⟨rfl,_,Sl hl2⟩,?_⟩
     have at0:∀(i:Nat)(x:V)(t':T),us[i]?=some x->ts[i]?=some t'->RT H x t':=by
      cases rtu with
      | @tup a3 us3 ts3 e3 l3 at3=>
       have:us3=us:=by
        have h1:=sH2 _ _ e3
        rw[e2] at h1
        cases h1
        rfl
       subst this
       exact at3
     dsimp +zetaDelta only [ZY,tNil]
     refine⟨_,rfl,a2,rfl,⟨us,Sq e2⟩,fun i m2 xs H3=>i<=us.length/\m2=us.length-i/\StR H H3 xs ((ts.take i).map fun t'=>(t',lv-1))/\Same H2 H3,⟨_,yS _,rfl,by simpa using StR.nil,Sr _⟩,fun i m2 xs H3 hW=>?_⟩
     obtain⟨hi,hm2,hxs,s3⟩:=hW
     have hxl:xs.length<=60:=by
      have:=hxs.len
      rw[yA,yY] at this
      lia
     refine⟨small (by lia),?_⟩
     have e3:=s3 _ _ e2
     by_cases hlt:i<us.length
     ·refine .inr ⟨⟨us,us[i],Sq e3,yB hlt⟩,fun y H4 hy=>?_⟩
      obtain⟨rfl,hy⟩:=hy
      have hy:=hy us (Sq e3)
      have hti:ts[i]?=some ts[i]:=yB (by lia)
      refine iteT ?_
      refine⟨_,rfl,_,rfl,_,_,rfl,rfl,zl2,fun a5 ha5=>?_⟩
      have s5:=Sn (o:=.tup [y,.int (lv-1)]) ha5
      refine⟨us.length-(i+1),by lia,by lia,rfl,?_,s3.trans s5⟩
      rw[zR hti,yK]
      exact (hxs.mono (ZW s5)).app (StR.one (p:=(ts[i],lv-1)) zc (at0 i y ts[i] hy hti))
     ·have ei:i=us.length:=by lia
      refine .inl ⟨⟨us,Sq e3,by lia⟩,fun D hD=>?_⟩
      have et:ts.take i=ts:=xD (by lia)
      rw[et] at hxs
      have hl3:=s3 _ _ hl2
      have hl4:upd H3 D (.lst xs) l=some (.lst vs'):=by rw[zA (zn hl3 hD)];exact hl3
      refine⟨l,D,vs',xs,rfl,rfl,hl4,zc,?_,?_⟩
      ·have h60:vs'.length<=60001:=by lia
       exact small (by lia)
      ·have s4:=Sn (o:=.lst xs) hD
       have t5:=ZR (o:=.lst (vs'++xs)) hl4
       refine⟨nds ps'+tnodes ts,?_,vs'++xs,ps'++ts.map (fun t'=>(t',lv-1)),whole+1,_,_,_,rfl,zc,?_,?_,by lia,?_,?_,?_,?_,?_⟩
       ·have:(T.tup ts).nodes=1+tnodes ts:=rfl
        have h9:nds (ps'++[(T.tup ts,lv)])=nds ps'+(T.tup ts).nodes:=hnd
        lia
       ·exact ((((hst2.mono (ZW s3)).mono (ZW s4)).mono t5)).app ((hxs.mono (ZW s4)).mono t5)
       ·rw[zfE,zjX]
       ·have:zab (T.tup ts)=1:=rfl
        have c4:¬(1000:Int)<whole+zab (T.tup ts):=c3
        lia
       ·rw[yC]
        lia
       ·intro p' hp'
        rcases yU.mp hp' with hp'|hp'
        ·exact hsm' p' hp'
        ·obtain⟨t',ht',rfl⟩:=yX.mp hp'
         exact zhd (show Sms ts from (show ts.length<=100000/\Sms ts from smp).2) t' ht'
       ·rw[←hval,vb]
        unfold valB
        rw[zjW,zmY,zjV,zmX]
        have f1:zcF (T.tup ts) lv=fitsA ts (lv-1):=by
         show (decide (ts.length<=60)&&decide (0<lv)&&fitsA ts (lv-1))=_
         rw[decide_eq_true ha60,decide_eq_true hlv0]
         rfl
        have f2:(T.tup ts).size=1+tsizes ts:=rfl
        show _=((fts ps'&&zcF (T.tup ts) lv)&&decide (whole+(szs ps'+(T.tup ts).size)<=1000))
        rw[f1,f2]
        congr 2
        rw[eq_iff_iff]
        constructor<;>intro h<;>lia
       ·exact zaG ((sH2.trans s3).trans s4) hlH
 ·have c1:¬(0:Int)<vs.length:=of_decide_eq_false (xJ.mpr c)
  have hv0:vs=[]:=yR.mp (by lia)
  have hp0:ps=[]:=yR.mp (by rw[←hst.len,hv0];rfl)
  have:zI t=true:=by
   rw[←hval,hp0]
   unfold valB
   simp only[fts,szs,wT]
   exact decide_eq_true (by lia)
  have fin:=q _ sH
  rw[this] at fin
  exact fin
end D
namespace L2
open PySem PySem.Spec PyProof.Rows PySem.Builtin
theorem zc6:fillsNumberSlot (.type "tuple") "mul"=pure false:=
 PySem.fillsNumberSlot_seq (id:="tuple.__mul__") (r:=some (.builtin "tuple.__rmul__")) PySem.F.slot_tuple_mul.lookup (by decide +kernel) PySem.F.slot_tuple_rmul.lookup (by decide +kernel)
theorem zfF:seqRepeat? (.type "tuple")=pure (some (.builtin "tuple.__mul__")):=by
 unfold seqRepeat?
 rw[PySem.seqSlot_of (T:="tuple") (name:="__mul__") (id:="tuple.__mul__") PySem.F.slot_tuple_mul.lookup (by decide +kernel),PySem.seqSlot_of (T:="tuple") (name:="__rmul__") (id:="tuple.__rmul__") PySem.F.slot_tuple_rmul.lookup (by decide +kernel)]
 rfl
theorem zeK(a:Int)(t:Tok)(l:Addr)(dd:Option Addr)(sl:Array (Option Value))(items:Array Value)(n:Nat):
  Meets (Builtin.«int.__rmul__» ⟨[.int a t,.ref l],[]⟩) (fun _ R s=>s.heap.get? l=some {cls:=.type "tuple",dict:=dd,data:=.seq items n,slots:=sl}/\R (.ok (.ret Value.notImplemented)) s):=
 .of_wp fun prog w A R s h=>by obtain⟨hp,g,d,tk,os⟩:=s;obtain⟨hl,h⟩:=h;wp_walk;exact⟨_,rfl,h⟩
section
variable{prog:Program}{w:World}{A:Around}{E:Value->Shared->Prop}{s:Shared}
theorem zmZ{t:Addr}{items:Array Value}{k:Int}{u:Tok}{Q:Value->Shared->Prop}(ht:IsTup s.heap t items)(h1:¬(decide (k < -(2 ^ 63:Int))||decide (k ≥ 2 ^ 63))=true)(h2:¬(items.isEmpty||k==1)=true)(h3:¬(decide (k<=0)||items.isEmpty)=true)
  (h4:¬(items.size:Int)*k > (2 ^ 63-1) / 8) (h5:¬Builtin.Tuple.tupleTooMany ((items.size:Int)*k)=true) (h6:sizeOk (.seq ((yD k.toNat items).foldl (· ++ ·) #[])))
  (h:Q (.ref s.heap.objs.size) {s with heap:=s.heap.push {cls:=.type "tuple",data:=.seq ((yD k.toNat items).foldl (· ++ ·) #[])}}):wpAny (model prog w) A (binaryOp .Mult (.ref t) (.int k u)) Q E s:=by
 obtain⟨⟨cls,dd,data,sl⟩,ho,hc,n,hd⟩:=id ht
 simp only at hc hd
 subst hc hd
 refine wpAny_binaryOp_repeat_ref (T:="tuple") (U:="int") (by decide) ht.typeIs (fun s'=>typeIs_int s' k u) zc6 PySem.F.fills_int_mul PySem.F.slot_int_rmul zfF PySem.F.slot_int_index.lookup
  (call_meets PySem.F.slot_int_rmul (typeIs_int s k u) PySem.F.entry_int_rmul (PySem.F.args_int_rmul_2 _ _) (zeK k u t dd sl items n) ⟨ho,rfl,ht.typeIs,?_⟩)
 refine wpAny_call_entry PySem.F.slot_tuple_mul ht.typeIs PySem.F.entry_tuple_mul ?_ (PySem.F.args_tuple_mul_2 _ _)
 show wpAny (model prog w) A.in1 (asIndex (.int k u)>>=_) _ _ s
 refine uW (uX ?_)
 show wpAny (model prog w) A.in1 (if (decide (k < -(2 ^ 63:Int))||decide (k ≥ 2 ^ 63))=true then _ else _) _ _ s
 rw[if_neg h1]
 refine uW (tupleItemsOf_ ht ?_)
 show wpAny (model prog w) A.in1 (if (items.isEmpty||k==1)=true then _ else _) _ _ s
 rw[if_neg h2]
 show wpAny (model prog w) A.in1 (if (decide (k<=0)||items.isEmpty)=true then _ else _) _ _ s
 rw[if_neg h3]
 show wpAny (model prog w) A.in1 (if (items.size:Int)*k > (2 ^ 63-1) / 8 then _ else _) _ _ s
 rw[if_neg h4]
 show wpAny (model prog w) A.in1 (if Builtin.Tuple.tupleTooMany ((items.size:Int)*k)=true then _ else _) _ _ s
 rw[if_neg h5]
 exact uW (m:=Builtin.Tuple.tupleExact _) (tI (uX ⟨_,rfl,h⟩) h6)
end
inductive rRepT(K:tU)(x y:V)(H:Hp)(Q:VK):Prop
 |mk (a:Addr) (k:Int) (xs:List V) (_:x=.ref a) (_:y=.int k) (_:SqT K H a xs) (_:xs≠[]) (_:1<k) (_:k<1000000) (_:xs.length*k.toNat<=1000000) (_:∀p,H p=none->Q (.ref p) (upd H p (.tup (yD k.toNat xs).flatten)))
theorem Vals.repT{xs:List V}{us:List Value}(r:Vals xs us):∀k:Nat,Vals (yD k xs).flatten (yD k us).flatten
 |0=>.nil
 |k+1=>by
  rw[xL,xL,xZ,xZ]
  exact r.append (Vals.repT r k)
theorem zm0{X:Cx}:OpR X (binaryOp .Mult) (rRepT X.K):=by
 intro zp s σ H x y v u Q I rx ry h
 obtain⟨a,k,xs,rfl,rfl,hx,hne,hk1,hk2,hz,q⟩:=h
 cases rx
 obtain⟨t,rfl⟩:=ry
 obtain⟨its,r,ht,_⟩:=I.tuple hx
 have hl:=r.length
 have hn:its≠[]:=fun z=>hne (yR.mp (by rw[hl,z];rfl))
 have hem:its.toArray.isEmpty=false:=by simpa using hn
 have hnew:uQ (fun x1 x2=>x1++x2) #[] (yD k.toNat its.toArray)=(yD k.toNat its).flatten.toArray:=by
  have:=zdY its k.toNat []
  rw[xS] at this
  exact this
 have hk3:((k.toNat:Nat):Int)=k:=by lia
 have hprod:(its.length:Int)*k<=1000000:=by
  rw[←hl,←hk3,←Int.natCast_mul]
  exact Int.ofNat_le.mpr hz
 have hszl:(yD k.toNat xs).flatten.length<=tH:=by
  rw[zg7,Nat.mul_comm]
  exact yQ hz (by decide)
 refine zmZ ht ?_ ?_ ?_ ?_ ?_ ?_ ?_
 ·have e1:decide (k < -(2 ^ 63:Int))=false:=decide_eq_false (by lia)
  have e2:decide (k ≥ 2 ^ 63)=false:=decide_eq_false (by lia)
  rw[e1,e2];decide
 ·rw[hem,Bool.false_or]
  intro z
  have:=eq_of_beq z
  lia
 ·rw[hem,Bool.or_false]
  intro z
  have:=of_decide_eq_true z
  lia
 ·rw[yI]
  have:((2:Int) ^ 63-1) / 8=1152921504606846975:=by decide
  lia
 ·rw[yI]
  intro z
  have z':(its.length:Int)*k > (tH:Int):=of_decide_eq_true z
  have:(1000000:Int)<=(tH:Int):=by decide
  lia
 ·rw[hnew]
  show (yD k.toNat its).flatten.toArray.size<=tH
  rw[yI,←(Vals.repT r k.toNat).length]
  exact hszl
 ·rw[hnew]
  refine⟨.ref s.heap.objs.size,_,I.laid (t':=s.toks) (o:=.tup (yD k.toNat xs).flatten) (fun b ob q=>uY _ q) (yO _) ?_,rfl,q _ (I.hok.fresh (yO _))⟩
  exact⟨hszl,_,Vals.repT r k.toNat,IsTup.new _ _⟩
theorem zlq{X:Cx}:OpR X (binaryOp .Add) (fun x y H Q=>∃(a b:Addr)(ys:List V),x=.ref a/\y=.ref b/\SqT X.K H a []/\SqT X.K H b ys/\Q (.ref b) H):=by
 intro zp s σ H x y v u Q I rx ry h
 obtain⟨a,b,ys,rfl,rfl,ha,hb,q⟩:=h
 cases rx
 cases ry
 obtain⟨its,r1,p1,_⟩:=I.tuple ha
 obtain⟨its2,r2,p2,_⟩:=I.tuple hb
 have e0:its=[]:=by cases r1;rfl
 subst e0
 obtain⟨⟨cls,dd,data,sl⟩,ho,hc,n,hd⟩:=id p1
 obtain⟨⟨cls2,dd2,data2,sl2⟩,ho2,hc2,n2,hd2⟩:=id p2
 simp only at hc hd hc2 hd2
 subst hc hd hc2 hd2
 exact concat_meets ⟨_,ho,rfl⟩ ⟨_,ho2,rfl⟩ noFill_tuple_add seq_tuple_add PySem.F.slot_tuple_add PySem.F.entry_tuple_add (PySem.F.args_tuple_add_2 _ _)
  (tuple_addW0 a b #[] its2.toArray n n2 dd dd2 sl sl2 rfl) ⟨ho,ho2,⟨.ref b,H,I,rfl,q⟩⟩
theorem zm1{X:Cx}:OpR X (binaryOp .Mult) (fun x y H Q=>∃(z:Str)(k:Int),x=.str z/\y=.int k/\z.length=1/\1<=k/\k<1000000/\∀r:Str,r.cps.toList=yD k.toNat (z.cps.getD 0 0)->Q (.str r) H):=by
 intro zp s σ H x y v u Q I rx ry h
 obtain⟨z,k,rfl,rfl,hz,hk1,hk2,q⟩:=h
 obtain⟨t,rfl⟩:=rx
 obtain⟨t',rfl⟩:=ry
 have hok:MulOk z k:=by
  refine⟨?_,fun _ _=>?_,fun _ _=>?_⟩
  ·have e1:decide (k < -(2 ^ 63:Int))=false:=decide_eq_false (by lia)
   have e2:decide (k ≥ 2 ^ 63)=false:=decide_eq_false (by lia)
   rw[e1,e2];rfl
  ·rw[hz]
   have:(1000000:Int)<=(2 ^ 63-1) / k:=by
    rw[Int.le_ediv_iff_mul_le (by lia)]
    lia
   lia
  ·rw[hz]
   have hs:(1000000:Nat)<=tH:=by decide
   show decide (1*k.toNat > tH)=false
   exact decide_eq_false (by lia)
 refine PySem.SB.mul hok fun t' tk=>⟨.str _,H,I.tok tk,⟨_,rfl⟩,q _ ?_⟩
 have hz1:z.cps.toList=[z.cps.getD 0 0]:=by
  have hl:z.cps.toList.length=1:=by simpa [Str.length] using hz
  obtain⟨c,e⟩:=List.length_eq_one_iff.mp hl
  rw[e]
  have e2:z.cps=#[c]:=by
   have:=congrArg List.toArray e
   simpa using this
  rw[e2]
  rfl
 unfold PySem.Txt.mul
 rw[if_neg (by lia)]
 by_cases hk:k=1
 ·subst hk
  rw[if_pos (by simp)]
  simpa using hz1
 ·rw[if_neg (by rw[hz];simp[hk])]
  have fold:∀(m:Nat)(acc:Array Nat),((yD m z.cps).foldl (· ++ ·) acc).toList=acc.toList++yD m (z.cps.getD 0 0):=fun m=>by
   induction m with
   |zero=>intro acc;simp
   |succ m ih=>
    intro acc
    rw[xL,wN,ih,xL,Array.toList_append,hz1,xI]
    rfl
  have:=fold k.toNat #[]
  simpa using this
end L2
namespace L2
open PySem PySem.Spec PyProof.Rows
theorem ziM{ys:List Str}:∀{us:List Value},Vals (ys.map V.str) us->StrsAre us ys:=by
 induction ys with
 |nil=>intro us r;rw[wQ] at r;cases r;exact .nil
 |cons n ns ih=>
  intro us r
  rw[yJ] at r
  cases r with
  |cons r1 r2=>
   obtain⟨t,e⟩:=r1
   subst e
   exact .cons n t (ih r2)
theorem zba{X:Cx}:MtR X "str.join" (fun x xs H Q=>∃(sep:Str)(p:Addr)(ys:List Str),x=.str sep/\xs=[.ref p]/\SqL X.K H p (ys.map V.str)/\(ys.map (·.length)).sum+ys.length*sep.length<=16777216/\Q (.str (Txt.join sep ys)) H):=by
 intro zp s σ H x xs v us Q I rx rv h
 obtain⟨sep,p,ys,rfl,rfl,hq,hz,q⟩:=h
 obtain⟨t,rfl⟩:=rx
 obtain⟨u,rfl,ru⟩:=zb5 rv
 cases ru
 obtain⟨its,r,pl,_⟩:=I.list hq
 exact PyProof.Rows.join_list pl.isList (by simpa using ziM r) hz fun t' k=>⟨.str _,H,I.tok k,⟨t',rfl⟩,q⟩
theorem ziN(cs:List Nat):Txt.join (uV "") (cs.map fun c=>(⟨#[c]⟩:Str))=⟨cs.toArray⟩:=by
 have e0:(uV "").cps=#[]:=by decide +kernel
 have fold:∀(r:List Nat)(acc:Array Nat),((r.map fun c=>(⟨#[c]⟩:Str)).foldl (fun acc p=>acc++(uV "").cps++p.cps) acc)=acc++r.toArray:=fun r=>by
  induction r with
  |nil=>intro acc;simp
  |cons c r ih=>
   intro acc
   rw[yJ,wN,ih,e0]
   simp
 cases cs with
 |nil=>rfl
 |cons c r=>
  show (⟨(r.map fun c=>(⟨#[c]⟩:Str)).foldl (fun acc p=>acc++(uV "").cps++p.cps) #[c]⟩:Str)=_
  rw[fold]
  simp
end L2
namespace D
open PySem L2
end D
namespace L2
open PySem PySem.Spec PyProof.Rows
theorem zav:tK (uV "list")=some (.type "list"):=by kernel_rfl
end L2
namespace D
open PySem L2
mutual
def W.Th:W->Prop
 |.num _=>True
 |.txt x=>x.length<=100000/\Signs x
 |.lst ws=>ws.length<=1000/\Ths ws
def Ths:List W->Prop
 |[]=>True
 |w::r=>w.Th/\Ths r
end
mutual
theorem zjY:∀w:W,w.Ok->w.Th
 |.num _,_=>trivial
 |.txt _,h=>⟨yQ h.1 (by decide),h.2⟩
 |.lst ws,h=>⟨yQ h.1 (by decide),ths_of ws h.2⟩
theorem ths_of:∀ws:List W,Oks ws->Ths ws
 |[],_=>trivial
 |w::r,h=>⟨zjY w h.1,ths_of r h.2⟩
end
mutual
noncomputable def zgw:W->Bool
 |.num i=>decide (-(10 ^ 60)<i/\i<10 ^ 60)
 |.txt x=>decide (x.length<=400)
 |.lst ws=>decide (ws.length<=60)&&fitsWs ws
noncomputable def fitsWs:List W->Bool
 |[]=>true
 |w::r=>zgw w&&fitsWs r
end
mutual
noncomputable def W.toT:W->T
 |.num i=>.num i
 |.txt x=>.txt x
 |.lst ws=>.tup (toTs ws)
noncomputable def toTs:List W->List T
 |[]=>[]
 |w::r=>w.toT::toTs r
end
theorem zas:∀ws:List W,toTs ws=ws.map W.toT
 |[]=>rfl
 |w::r=>by simp only[toTs,yJ,zas r]
theorem zcG(ws:List W):(toTs ws).length=ws.length:=by rw[zas,yA]
mutual
theorem zfG:∀w:W,w.toT.size=w.size
 |.num _=>rfl
 |.txt _=>rfl
 |.lst ws=>by simp only[W.toT,T.size,W.size,sizes_toT ws]
theorem sizes_toT:∀ws:List W,tsizes (toTs ws)=sizes ws
 |[]=>rfl
 |w::r=>by simp only[toTs,tsizes,sizes,zfG w,sizes_toT r]
end
mutual
theorem zhV:∀w:W,w.Th->w.toT.Sm
 |.num _,_=>trivial
 |.txt _,h=>h.1
 |.lst ws,h=>⟨by rw[zcG];exact yQ h.1 (by decide),sms_toT ws h.2⟩
theorem sms_toT:∀ws:List W,Ths ws->Sms (toTs ws)
 |[],_=>trivial
 |w::r,h=>⟨zhV w h.1,sms_toT r h.2⟩
end
theorem ziO{x:Str}(h:Signs x):za0 x=true:=by
 unfold za0
 rw[xY]
 intro c hc
 have:=h c hc
 simp[zc5,this]
mutual
theorem zhW:∀(w:W)(lv:Nat),w.Th->zcF w.toT (lv:Int)=(zgw w&&decide (w.depth<=lv))
 |.num i,lv,_=>by
  show decide (-(10 ^ 60)<i/\i<10 ^ 60)=(decide (-(10 ^ 60)<i/\i<10 ^ 60)&&decide (0<=lv))
  rw[decide_eq_true (yS lv),wU]
 |.txt x,lv,h=>by
  show (decide (x.length<=400)&&za0 x)=(decide (x.length<=400)&&decide (0<=lv))
  rw[ziO h.2,decide_eq_true (yS lv)]
 |.lst ws,lv,h=>by
  show (decide ((toTs ws).length<=60)&&decide (0<(lv:Int))&&fitsA (toTs ws) ((lv:Int)-1))=((decide (ws.length<=60)&&fitsWs ws)&&decide (1+depths ws<=lv))
  rw[zcG]
  cases lv with
  |zero=>
   rw[decide_eq_false (show ¬(0:Int)<((0:Nat):Int) by lia),decide_eq_false (show ¬1+depths ws<=0 by lia)]
   simp
  |succ n=>
   have e:((n+1:Nat):Int)-1=(n:Int):=by lia
   rw[decide_eq_true (show (0:Int)<((n+1:Nat):Int) by lia),e,fits_toTs ws n h.2,wU,←uF]
   congr 2
   rw[eq_iff_iff]
   constructor<;>intro h<;>lia
theorem fits_toTs:∀(ws:List W)(lv:Nat),Ths ws->fitsA (toTs ws) (lv:Int)=(fitsWs ws&&decide (depths ws<=lv))
 |[],lv,_=>by
  show true=(true&&decide (0<=lv))
  rw[decide_eq_true (yS lv)]
  rfl
 |w::r,lv,h=>by
  show (zcF w.toT lv&&fitsA (toTs r) lv)=((zgw w&&fitsWs r)&&decide (max w.depth (depths r)<=lv))
  rw[zhW w lv h.1,fits_toTs r lv h.2]
  have e:decide (max w.depth (depths r)<=lv)=(decide (w.depth<=lv)&&decide (depths r<=lv)):=by
   rw[xF,yZ,decide_eq_true_iff,decide_eq_true_iff,decide_eq_true_iff]
   lia
  rw[e]
  cases zgw w<;>cases fitsWs r<;>cases decide (w.depth<=lv)<;>cases decide (depths r<=lv)<;>rfl
end
def zm2(x:W):Bool:=zgw x&&(decide (x.size<=1000)&&decide ((x.depth:Int)<=12))
theorem zhe{x:W}(h:x.Th):zI x.toT=zm2 x:=by
 unfold zI zm2
 have:=zhW x 12 h
 rw[show (12:Int)=((12:Nat):Int) from rfl,this,zfG]
 have e:decide ((x.depth:Int)<=((12:Nat):Int))=decide (x.depth<=12):=by
  rw[xF,decide_eq_true_iff,decide_eq_true_iff]
  lia
 rw[e]
 cases zgw x<;>cases decide (x.depth<=12)<;>cases decide (x.size<=1000)<;>rfl
theorem RW.toRT{H:Hp}{v:V}{x:W}(h:RW H v x):RT H v x.toT:=by
 induction h with
 |num i=>exact .num i
 |txt x=>exact .txt x
 | @lst a vs ws e l _ ih=>
  refine .tup e (by rw[zcG];exact l) fun i v t hv ht=>?_
  rw[zas,yN] at ht
  obtain⟨w,hw,rfl⟩:=xV.mp ht
  exact ih i v w hv hw
theorem zcH{H H':Hp}(s:Same H H'):Tups H H':=fun a vs e=>s a _ e
end D
namespace L2
open PySem PySem.Spec PyProof.Rows
section
variable{prog:Program}{w:World}{A:Around}{E:Value->Shared->Prop}{s:Shared}
open HT in
end
end L2
namespace D
open PySem L2
end D
namespace L2
open PySem PySem.Spec PyProof.Rows
structure QSs(X:Cx)(st:List Stmt)(t:TS):Prop where
 un:PSs X st t
structure QIfs(X:Cx)(ifs:List Expr)(t:TT):Prop where
 un:PIfs X ifs t
structure QGs(X:Cx)(ts:List Expr)(t:TGs):Prop where
 un:PGs X ts t
structure QE(X:Cx)(e:Expr)(t:TE):Prop where
 un:PE X e t
structure QT(X:Cx)(e:Expr)(t:TT):Prop where
 un:PT X e t
structure QW(X:Cx)(e:Expr)(t:TT):Prop where
 un:PW X e t
structure QA(X:Cx)(es:List Expr)(t:TA):Prop where
 un:PA X es t
structure QS(X:Cx)(st:Stmt)(t:TS):Prop where
 un:PS X st t
structure QI(X:Cx)(tg iter:Expr)(wi:TI):Prop where
 un:PI X tg iter wi
structure QG(X:Cx)(tg:Expr)(t:TG):Prop where
 un:PG X tg t
structure QO(X:Cx)(e:Option Expr)(t:TO):Prop where
 un:PO X e t
theorem Fun.okQ{P:Program}{w:World}{K:tU}{mg:Str->Option Value}{base:Heap}{x qual:Str}{st:Stmt}{f:Addr}{fd:tV}{N ps:List Str}{k:Nat}{sp:Sp}(F:Fun K x qual st f fd)(sc:FnScope N ps (zi st))(h1:∀(vs:List V) (H:Hp) (Q:VK) (E:XK),sp vs H Q E->vs.length=ps.length)
  (h2:∀(cdv:Value)(A:Around)(outer:List Env)(s:Shared)(H:Hp)(vs:List V)(Q:VK)(E:XK),Room k (A.deeper (PyProof.Rows.envOfC qual (zi st) s.heap.objs.size f cdv))->sp vs H Q E->
   ∃t:TS,QSs (cxOf CX0 P w K mg base N qual (zi st) f cdv A outer s H E).nox (ZH st) t/\t {nx:=fun _ H'=>Q V.non H',rt:=Q} (L2.start N vs) H):FnOk P w K mg base CX0 (k+1) f fd ps sp:=
 F.ok sc h1 fun cdv A outer s H vs Q E hr h=>let ⟨t,a,b⟩:=h2 cdv A outer s H vs Q E hr h;⟨t,a.un,b⟩
theorem zbP{X:Cx}{x:Str}{z:Str}{pos:Pos}(hg:Gl X x)(hm:∃t,X.mg x=some (.str z t))(hd:(x==("__debug__":Str))=false:=by decide):PE X (.Name x pos) (tC (.str z)):=by
 obtain⟨t,hm⟩:=hm
 exact zam hg hm ⟨t,rfl⟩ hd
end L2
namespace D
open PySem L2
theorem zq{X:Cx}:QSs X [] zit:=⟨L2.zq ⟩
theorem zd{X:Cx}{st:Stmt}{rest:List Stmt}{t u:TS}(h0:QS X st t)(h1:QSs X rest u):QSs X (st::rest) (tSeq t u):=⟨L2.zd h0.un h1.un⟩
theorem zf{X:Cx}{st:Stmt}{t:TS}(h0:QS X st t):QSs X [st] t:=⟨L2.zf h0.un⟩
theorem zl{X:Cx}{e:Expr}{te:TE}{pos:Pos}(h0:QE X e te):QS X (Stmt.Return (some e) pos) (tRet te):=⟨L2.zl h0.un⟩
theorem zE{X:Cx}{t u:TS}{pos:Pos}{c:Expr}{a b:List Stmt}{tc:TT}(h0:QT X c tc)(h1:QSs X a t)(h2:QSs X b u):QS X (Stmt.If c a b pos) (tIfS tc t u):=⟨L2.zE h0.un h1.un h2.un⟩
theorem zm{X:Cx}{pos:Pos}{i:Nat}{x:Str}{e:Expr}{te:TE}{pos':Pos}(h0:X.N.Nodup)(h1:X.N[i]?=some x)(h2:L2.Loc X.env.scope x)(h3:QE X e te)(h4:autoParam (swapsWith e (some (Expr.Name x pos')) pos.line X.env=pure false) L2.zm._auto_1)(h5:autoParam (X.fn x=true\/wA x X.env.scope.names=some NameKind.local) L2.zm._auto_2):QS X (Stmt.Assign [Expr.Name x pos'] e pos) (tAsg te (zW i)):=⟨L2.zm h0 h1 h2 h3.un h4 h5⟩
theorem zbm{X:Cx}{pos:Pos}{tg e:Expr}{te:TE}{g:TG}(h0:QE X e te)(h1:QG X tg g)(h2:autoParam (swapsWithSole [tg] e pos.line X.env=pure false) L2.zbm._auto_1)(h3:autoParam (swappedStores [tg] e X.env=pure none) L2.zbm._auto_2)(h4:autoParam (List.map (fun (x:Bool×(Value->Sem Unit))=>x.snd) (assignEach [tg] X.env)=[assign tg X.env]) L2.zbm._auto_3):QS X (Stmt.Assign [tg] e pos) (tAsg te g):=⟨L2.zbm h0.un h1.un h2 h3 h4⟩
theorem Zm{X:Cx}{e:Expr}{te:TE}{pos:Pos}(h0:QE X e te)(h1:autoParam (swapsWith e none pos.line X.env=pure false) L2.Zm._auto_1):QS X (Stmt.Expr e pos) (znQ te):=⟨L2.Zm h0.un h1⟩
theorem zaL{X:Cx}{tg iter:Expr}{body:List Stmt}{wi:TI}{g:TG}{tb:TS}{pos:Pos}(h0:PassesOwn (model X.prog X.w) X.A X.env X.xe)(h1:X.calm=true)(h2:QI X tg iter wi)(h3:QG X tg g)(h4:QSs X body tb)(h5:autoParam (∀(x:Value),foldedSetIterable iter X.env x=pure x) L2.zaL._auto_1):QS X (Stmt.For tg iter body [] pos) (tFor wi g tb):=⟨L2.zaL h0 h1 h2.un h3.un h4.un h5⟩
theorem zaK{X:Cx}{pos:Pos}{c:Expr}{body:List Stmt}{tc:TT}{tb:TS}(h0:PassesOwn (model X.prog X.w) X.A X.env X.xe)(h1:QT X c tc)(h2:QSs X body tb):QS X (Stmt.While c body [] pos) (zmf tc tb):=⟨L2.zaK h0 h1.un h2.un⟩
theorem zdg{X:Cx}{pos:Pos}{i:Nat}{x:Str}{e:Expr}{te:TE}{op:Operator}{ti:TIp}{pos':Pos}(h0:X.N.Nodup)(h1:X.N[i]?=some x)(h2:L2.Loc X.env.scope x)(h3:QE X e te)(h4:PIp X op ti)(h5:autoParam (X.fn x=true\/wA x X.env.scope.names=some NameKind.local) L2.zdg._auto_1):QS X (Stmt.AugAssign (Expr.Name x pos') op e pos) (tAug i te ti):=⟨L2.zdg h0 h1 h2 h3.un h4 h5⟩
theorem zU{X:Cx}{sts:List Stmt}:QSs X sts zme:=⟨L2.zU ⟩
theorem ze{X:Cx}{i:Int}{j:Nat}{pos:Pos}:QE X (Expr.Constant (Const.int i) j pos) (tC (V.int i)):=⟨L2.ze ⟩
theorem zg{X:Cx}{x:Str}{j:Nat}{pos:Pos}:QE X (Expr.Constant (Const.str x) j pos) (tC (V.str x)):=⟨L2.zg ⟩
theorem Z5{X:Cx}{b:Bool}{j:Nat}{pos:Pos}:QE X (Expr.Constant (Const.bool b) j pos) (tC (V.bl b)):=⟨L2.Z5 ⟩
theorem zgd{X:Cx}{j:Nat}{pos:Pos}:QE X (Expr.Constant Const.none j pos) (tC V.non):=⟨L2.zgd ⟩
theorem pv{X:Cx}(i:Nat){x:Str}{pos:Pos}(h0:autoParam (X.N[i]?=some x) L2.pv._auto_1)(h1:autoParam (Vis X.env.scope x) L2.pv._auto_2)(h2:autoParam ((x==uV "__debug__")=false) L2.pv._auto_3)(h3:autoParam ((x==uV "__classdict__")=false) L2.pv._auto_4):QE X (Expr.Name x pos) (tVar i):=⟨L2.pv i h0 h1 h2 h3⟩
theorem zam{X:Cx}{x:Str}{v:V}{u:Value}{pos:Pos}(h0:Gl X x)(h1:X.mg x=some u)(h2:RelV v u)(h3:autoParam ((x==uV "__debug__")=false) L2.zam._auto_1):QE X (Expr.Name x pos) (tC v):=⟨L2.zam h0 h1 h2 h3⟩
theorem Zz{X:Cx}{x:Str}{i:Int}{pos:Pos}(h0:Gl X x)(h1:(∃(t:Tok),X.mg x=some (Value.int i t)))(h2:autoParam ((x==uV "__debug__")=false) L2.Zz._auto_1):QE X (Expr.Name x pos) (tC (V.int i)):=⟨L2.Zz h0 h1 h2⟩
theorem ZP{X:Cx}{x:Str}{T:String}{pos:Pos}(h0:Gl X x)(h1:X.mg x=none)(h2:tK x=some (Value.type T))(h3:autoParam (x≠uV "__name__") L2.ZP._auto_1)(h4:autoParam ((x==uV "__debug__")=false) L2.ZP._auto_2):QE X (Expr.Name x pos) (tC (V.ty T)):=⟨L2.ZP h0 h1 h2 h3 h4⟩
theorem zu{X:Cx}{a b:Expr}{ta tb:TE}{pos:Pos}{op:Operator}{r:R2}(h0:OpR X (binaryOp op) r)(h1:QE X a ta)(h2:QE X b tb):QE X (a.BinOp op b pos) (tOp r ta tb):=⟨L2.zu h0 h1.un h2.un⟩
theorem zeJ{X:Cx}{a:Expr}{ta:TE}{pos:Pos}{op:UnaryOp}{r:V->Hp->VK->Prop}(h0:UnR X (unaryOp op) r)(h1:QE X a ta):QE X (Expr.UnaryOp op a pos) (tUn r ta):=⟨L2.zeJ h0 h1.un⟩
theorem zJ{X:Cx}{a b:Expr}{ta tb:TE}{pos:Pos}{op:CmpOp}{r:R2}(h0:OpR X (tM op) r)(h1:QE X a ta)(h2:QE X b tb)(h3:behindInMarks op b=false):QE X (a.Compare [op] [b] pos) (tOp r ta tb):=⟨L2.zJ h0 h1.un h2.un h3⟩
theorem zk{X:Cx}{a b:Expr}{ta tb:TE}{pos:Pos}{op:CmpOp}{r:R2}(h0:OpR X (tM op) r)(h1:QE X a ta)(h2:QE X b tb)(h3:behindInMarks op b=false):QT X (a.Compare [op] [b] pos) (zk2 (tOp r ta tb)):=⟨L2.zk h0 h1.un h2.un h3⟩
theorem zdH{X:Cx}{a b c:Expr}{ta tb tc:TE}{pos:Pos}{op op':CmpOp}{r r':R2}(h0:OpR X (tM op) r)(h1:OpR X (tM op') r')(h2:QE X a ta)(h3:QE X b tb)(h4:QE X c tc)(h5:autoParam (lastMarks [op,op'] [b,c]=false) L2.zdH._auto_1):QT X (a.Compare [op,op'] [b,c] pos) (zk2 (zjn r r' ta tb tc)):=⟨L2.zdH h0 h1 h2.un h3.un h4.un h5⟩
theorem Zt{X:Cx}{a b:Expr}{ta tb:TE}{pos:Pos}{rest:List Expr}(h0:QE X a ta)(h1:QE X (Expr.BoolOp BoolOp.And (b::rest) pos) tb):QE X (Expr.BoolOp BoolOp.And (a::b::rest) pos) (znO ta tb):=⟨L2.Zt h0.un h1.un⟩
theorem zk0{X:Cx}{a b:Expr}{ta tb:TE}{pos:Pos}{rest:List Expr}(h0:QE X a ta)(h1:QE X (Expr.BoolOp BoolOp.Or (b::rest) pos) tb):QE X (Expr.BoolOp BoolOp.Or (a::b::rest) pos) (tOrV ta tb):=⟨L2.zk0 h0.un h1.un⟩
theorem ZG{X:Cx}{a:Expr}{pos:Pos}{op:BoolOp}{t:TE}(h0:QE X a t):QE X (Expr.BoolOp op [a] pos) t:=⟨L2.ZG h0.un⟩
theorem zhK{X:Cx}{a:Expr}{ta:TE}{pos:Pos}(h0:QE X a ta):QE X (Expr.UnaryOp UnaryOp.Not a pos) (znP ta):=⟨L2.zhK h0.un⟩
theorem zaJ{X:Cx}{a b:Expr}{ta tb:TE}{pos:Pos}{tA:TT}{c:Expr}(h0:QT X c tA)(h1:QE X a ta)(h2:QE X b tb):QE X (c.IfExp a b pos) (tIf tA ta tb):=⟨L2.zaJ h0.un h1.un h2.un⟩
theorem zX{X:Cx}{e:Expr}{t:TE}(h:QE X e t)(he:∀whole,isTrue e X.env whole=(do let v ←whole;standAt e.pos;holding [v] (truthy v)):=by intro _;rfl):QT X e (tB t):=⟨L2.zX h.un he⟩
theorem ZA{X:Cx}{a:Expr}{pos:Pos}{tA:TT}(h0:QT X a tA):QT X (Expr.UnaryOp UnaryOp.Not a pos) (tNot tA):=⟨L2.ZA h0.un⟩
theorem zbr{X:Cx}{a b:Expr}{pos:Pos}{tA tB':TT}{rest:List Expr}(h0:QT X a tA)(h1:QW X (Expr.BoolOp BoolOp.And (b::rest) pos) tB'):QW X (Expr.BoolOp BoolOp.And (a::b::rest) pos) (tAnd tA tB'):=⟨L2.zbr h0.un h1.un⟩
theorem zay{X:Cx}{a:Expr}{pos:Pos}{tA:TT}(h0:QT X a tA):QW X (Expr.BoolOp BoolOp.And [a] pos) tA:=⟨L2.zay h0.un⟩
theorem Z6{X:Cx}{a b:Expr}{pos:Pos}{tA tB':TT}{rest:List Expr}(h0:QT X a tA)(h1:QW X (Expr.BoolOp BoolOp.Or (b::rest) pos) tB'):QW X (Expr.BoolOp BoolOp.Or (a::b::rest) pos) (tOr tA tB'):=⟨L2.Z6 h0.un h1.un⟩
theorem ZF{X:Cx}{a:Expr}{pos:Pos}{tA:TT}(h0:QT X a tA):QW X (Expr.BoolOp BoolOp.Or [a] pos) tA:=⟨L2.ZF h0.un⟩
theorem PW.pt{X:Cx}{e:Expr}{t:TT}(h0:QW X e t):QT X e t:=⟨L2.PW.pt h0.un⟩
theorem zo{X:Cx}{x:Str}{k:Nat}{ps:List Str}{sp:Sp}{e:Expr}{es:List Expr}{t:TA}{p pos:Pos}(h0:Have X.prog X.w X.K X.mg X.base x k ps sp)(h1:Room k X.A)(h2:Gl X x)(h3:QA X (e::es) t)(h4:autoParam ((x==uV "__debug__")=false) L2.zo._auto_1)(h5:autoParam (tJ (e::es) X.env=(false,eval e X.env)::tJ es X.env) L2.zo._auto_2)(h6:autoParam (((backTo pos (tJ es X.env)).any fun (x:Bool×Sem Value)=>x.fst)=false) L2.zo._auto_3):QE X ((Expr.Name x p).Call (e::es) [] pos) (zjs sp [] E0 t):=⟨L2.zo h0 h1 h2 h3.un h4 h5 h6⟩
theorem zj{X:Cx}{x:Str}{p pos:Pos}{e:Expr}{es:List Expr}{t:TA}{id:String}{r:List V->Hp->VK->Prop}(h0:zaQ X (Value.builtin id) r)(h1:Gl X x)(h2:X.mg x=none)(h3:tK x=some (Value.builtin id))(h4:QA X (e::es) t)(h5:autoParam (x≠uV "__name__") L2.zj._auto_1)(h6:autoParam ((x==uV "__debug__")=false) L2.zj._auto_2)(h7:autoParam (tJ (e::es) X.env=(false,eval e X.env)::tJ es X.env) L2.zj._auto_3)(h8:autoParam (((backTo pos (tJ es X.env)).any fun (x:Bool×Sem Value)=>x.fst)=false) L2.zj._auto_4):QE X ((Expr.Name x p).Call (e::es) [] pos) (tCB r t):=⟨L2.zj h0 h1 h2 h3 h4.un h5 h6 h7 h8⟩
theorem zD{X:Cx}{x:Str}{p pos:Pos}{e:Expr}{es:List Expr}{t:TA}{T:String}{r:List V->Hp->VK->Prop}(h0:zaQ X (Value.type T) r)(h1:Gl X x)(h2:X.mg x=none)(h3:tK x=some (Value.type T))(h4:QA X (e::es) t)(h5:autoParam (x≠uV "__name__") L2.zD._auto_1)(h6:autoParam ((x==uV "__debug__")=false) L2.zD._auto_2)(h7:autoParam (tJ (e::es) X.env=(false,eval e X.env)::tJ es X.env) L2.zD._auto_3)(h8:autoParam (((backTo pos (tJ es X.env)).any fun (x:Bool×Sem Value)=>x.fst)=false) L2.zD._auto_4):QE X ((Expr.Name x p).Call (e::es) [] pos) (tCB r t):=⟨L2.zD h0 h1 h2 h3 h4.un h5 h6 h7 h8⟩
theorem ZZ{X:Cx}{o e:Expr}{es:List Expr}{to:TE}{t:TA}{name:Str}{apos cpos:Pos}{T id:String}{r:V->List V->Hp->VK->Prop}(pa:PlainAttrs T)(slot:Slot T name id)(hty:typeOf (.builtin id)=pure (.type "method_descriptor"))(hm:MtR X id r)(ho:QE X o to)(ha:QA X (e::es) t)
  (hbase:attributeBase o name X.env (eval o X.env)=eval o X.env:=by rfl)
  (hfew:((backTo cpos (tJ (e::es) X.env)).all (fun x=>!x.1)&&(backToKw cpos (keywordEach [] X.env)).all (fun x=>x.1.isSome)
   && decide ((e::es).length+([]:List Keyword).length+(if ([]:List Keyword).isEmpty then 0 else 1)<30))=true:=by rfl)
  (hline:(apos.endLine==cpos.line)=true:=by rfl) (hs:tJ (e::es) X.env=(false,eval e X.env)::tJ es X.env:=by rfl) (hplain:(backTo cpos (tJ es X.env)).any (·.1)=false:=by rfl):
  QE X (.Call (.Attribute o name apos) (e::es) [] cpos) (tBM X.K T r to t):=⟨L2.ZZ pa slot hty hm ho.un ha.un hbase hfew hline hs hplain⟩
theorem zdj{X:Cx}{o:Expr}{to:TE}{name:Str}{apos cpos:Pos}{T id:String}{r:V->List V->Hp->VK->Prop}(h0:PlainAttrs T)(h1:Slot T name id)(h2:typeOf (Value.builtin id)=pure (Value.type "method_descriptor"))(h3:MtR X id r)(h4:QE X o to)(h5:autoParam (attributeBase o name X.env (eval o X.env)=eval o X.env) L2.zdj._auto_1)(h6:autoParam ((apos.endLine==cpos.line)=true) L2.zdj._auto_2):QE X ((o.Attribute name apos).Call [] [] cpos) (tBM0 X.K T r to):=⟨L2.zdj h0 h1 h2 h3 h4.un h5 h6⟩
theorem zz{X:Cx}{a b:Expr}{ta tb:TE}{pos:Pos}{r:R2}(h0:IxR X r)(h1:QE X a ta)(h2:QE X b tb)(h3:zjy b):QE X (a.Subscript b pos) (tOp r ta tb):=⟨L2.zz h0 h1.un h2.un h3⟩
theorem Zv{X:Cx}{e:Expr}{te:TE}{lo hi:Option Expr}{tl th:TO}{pos p2:Pos}{r:V->Option Int->Option Int->Hp->VK->Prop}(h0:SlR X r)(h1:QE X e te)(h2:QO X lo tl)(h3:QO X hi th):QE X (e.Subscript (Expr.Slice lo hi none p2) pos) (tSl r te tl th):=⟨L2.Zv h0 h1.un h2.un h3.un⟩
theorem zaR{X:Cx}:QO X none zjw:=⟨L2.zaR ⟩
theorem Zn{X:Cx}{e:Expr}{te:TE}(h0:QE X e te):QO X (some e) (znV te):=⟨L2.Zn h0.un⟩
theorem zF{X:Cx}{es:List Expr}{t:TA}{pos:Pos}(h0:QA X es t):QE X (Expr.List es pos) (tLst t):=⟨L2.zF h0.un⟩
theorem zy{X:Cx}{es:List Expr}{t:TA}{pos:Pos}{x1:Nat}(h0:QA X es t):QE X (Expr.Tuple es x1 pos) (tTup t):=⟨L2.zy h0.un⟩
theorem zb{X:Cx}:QA X [] tNil:=⟨L2.zb ⟩
theorem za{X:Cx}{e:Expr}{es:List Expr}{te:TE}{t:TA}(h0:QE X e te)(h1:QA X es t)(h2:autoParam (tJ (e::es) X.env=(false,eval e X.env)::tJ es X.env) L2.za._auto_1):QA X (e::es) (ZY te t):=⟨L2.za h0.un h1.un h2⟩
theorem zN{X:Cx}{elt iter:Expr}{x:Str}{px pos:Pos}{ifs:List Expr}{scope:Scope}{cl:List (Str×Addr)}(fr:List Nat)(ys:List Str){wi:TI}{tt:TT}{te:TE}(h0:X.calm=true)(h1:closureFor scope X.env=pure cl)(h2:(∀(y:Str×NameKind),y∈scope.names->y.snd≠NameKind.cell))(h3:scope.kind=ScopeKind.function)(h4:(∀(y:Str×NameKind),y∈scope.names->y.snd=NameKind.local->wA y.fst scope.names=some NameKind.local))(h5:wA x scope.names=some NameKind.local)(h6:(x::ys).Nodup)(h7:ClOk cl X.env.cells)(h8:(scope.names.all fun (y:Str×NameKind)=>y.snd != NameKind.free||(wA y.fst cl).isSome)=true)(h9:FrOk X scope cl fr ys)(h10:QI X (Expr.Name x px) iter wi)(h11:(∀(C:Addr) (s:Shared) (H:Hp) (fp:List Addr),QIfs (zZ X scope cl (x::ys) C s H fp) ifs tt/\QE (zZ X scope cl (x::ys) C s H fp) elt te))(h12:autoParam (∀(v:Value),foldedSetIterable iter X.env v=pure v) L2.zN._auto_1):QE X (elt.ListComp [{target:=Expr.Name x px,iter:=iter,ifs:=ifs,is_async:=0}] scope pos) (zd1 fr wi tt te):=⟨L2.zN fr ys h0 h1 h2 h3 h4 h5 h6 h7 h8 h9 h10.un (fun C s H fp=>⟨(h11 C s H fp).1.un,(h11 C s H fp).2.un⟩) h12⟩
theorem zM{X:Cx}:QIfs X [] fun (x:St)(H:Hp)(Q:Bool->Hp->Prop)=>Q true H:=⟨L2.zM ⟩
theorem zfu{X:Cx}{c:Expr}{t:TT}(h0:QT X c t):QIfs X [c] t:=⟨L2.zfu h0.un⟩
theorem ZX{X:Cx}{tg l:Expr}{tl:TE}(h0:QE X l tl):QI X tg l (znR X.K tl):=⟨L2.ZX h0.un⟩
theorem zaq{X:Cx}{tg l:Expr}{tl:TE}(h0:QE X l tl):QI X tg l (iTup X.K tl):=⟨L2.zaq h0.un⟩
theorem ze4{X:Cx}{tg e:Expr}{te:TE}(h0:QE X e te):QI X tg e (iStr te):=⟨L2.ze4 h0.un⟩
theorem zah{X:Cx}{tg a:Expr}{ta:TA}{p pos:Pos}(h0:Gl X (uV "range"))(h1:X.mg (uV "range")=none)(h2:QA X [a] ta)(h3:autoParam (tJ [a] X.env=[(false,eval a X.env)]) L2.zah._auto_1):QI X tg ((Expr.Name (uV "range") p).Call [a] [] pos) (znS ta):=⟨L2.zah h0 h1 h2.un h3⟩
theorem zbs{X:Cx}{tg a b:Expr}{ta:TA}{p pos:Pos}(h0:Gl X (uV "range"))(h1:X.mg (uV "range")=none)(h2:QA X [a,b] ta)(h3:autoParam (tJ [a,b] X.env=[(false,eval a X.env),(false,eval b X.env)]) L2.zbs._auto_1)(h4:autoParam (tJ [b] X.env=[(false,eval b X.env)]) L2.zbs._auto_2):QI X tg ((Expr.Name (uV "range") p).Call [a,b] [] pos) (znT ta):=⟨L2.zbs h0 h1 h2.un h3 h4⟩
theorem Zb{X:Cx}{pos:Pos}{i:Nat}{x:Str}(h0:X.N.Nodup)(h1:X.N[i]?=some x)(h2:L2.Loc X.env.scope x)(h3:autoParam (X.fn x=true\/wA x X.env.scope.names=some NameKind.local) L2.Zb._auto_1):QG X (Expr.Name x pos) (zW i):=⟨L2.Zb h0 h1 h2 h3⟩
theorem zbl{X:Cx}{pos:Pos}{es:List Expr}{k:Nat}{t:TGs}{n:Nat}(h0:X.calm=true)(h1:QGs X es t)(h2:autoParam ((assignEach es X.env).length=n) L2.zbl._auto_1)(h3:autoParam (List.findIdx? (fun (x:Bool×(Value->Sem Unit))=>x.fst) (assignEach es X.env)=none) L2.zbl._auto_2):QG X (Expr.Tuple es k pos) (gTup X.K n t):=⟨L2.zbl h0 h1.un h2 h3⟩
theorem zaP{X:Cx}:QGs X [] gNil:=⟨L2.zaP ⟩
theorem Zc{X:Cx}{e:Expr}{es:List Expr}{t:TG}{u:TGs}(h0:QG X e t)(h1:QGs X es u)(h2:autoParam (List.map (fun (x:Bool×(Value->Sem Unit))=>x.snd) (assignEach (e::es) X.env)=assign e X.env::List.map (fun (x:Bool×(Value->Sem Unit))=>x.snd) (assignEach es X.env)) L2.Zc._auto_1):QGs X (e::es) (gCons t u):=⟨L2.Zc h0.un h1.un h2⟩
theorem zgj{X:Cx}{e:Expr}{f:Str}{pos:Pos}{ta:TE}(h0:QE X e ta)(h1:attributeBase e f X.env (eval e X.env)=eval e X.env):QE X (e.Attribute f pos) (tFld X.K ta f):=⟨L2.zgj h0.un h1⟩
theorem zgk{X:Cx}{o value:Expr}{f:Str}{pos pos':Pos}{ta tv:TE}(h0:QE X o ta)(h1:QE X value tv)(h2:swapsWith value (some (o.Attribute f pos')) pos.line X.env=pure false):QS X (Stmt.Assign [o.Attribute f pos'] value pos) (sFld X.K ta tv f):=⟨L2.zgk h0.un h1.un h2⟩
theorem zbP{X:Cx}{x:Str}{z:Str}{pos:Pos}(hg:Gl X x)(hm:∃t,X.mg x=some (.str z t))(hd:(x==("__debug__":Str))=false:=by decide):QE X (.Name x pos) (tC (.str z)):=⟨L2.zbP hg hm hd⟩
end D
namespace L2
open PySem PySem.Spec PyProof.Rows
def MD(P:Program)(w:World)(K:tU)(g:Addr)(kvs:List (Key×V)):Prop:=
 ∃(o:Obj)(vs:List (Key×Value)),K.lookup g=some o/\PySem.Obj.IsDictOf (Zl P w) o vs/\KV kvs vs/\(g==sysModules)=false
theorem MD.dict{P:Program}{w:World}{K:tU}{g:Addr}{kvs:List (Key×V)}{h:Heap}(m:MD P w K g kvs)(x:K.In h):∃vs,KV kvs vs/\h.DictOf (Zl P w) g vs/\(g==sysModules)=false:=by
 obtain⟨o,vs,e,d,r,n⟩:=m
 exact⟨vs,r,Heap.dictOf_iff.mpr ⟨o,x _ _ e,d⟩,n⟩
theorem zhX{P:Program}{w:World}:∀l:List (Str×Tok×V×Value),Pairs (Zl P w) (l.map fun p=>(⟨hashStr w p.1,.str p.1 p.2.1,p.2.2.2⟩:DictEntry)) (l.map fun p=>((Sum.inr p.1:Key),p.2.2.2))
 |[]=>.nil
 |p::r=>.cons (ZS P w p.1 p.2.1) rfl (zhX r)
theorem zob:∀l:List (Str×Tok×V×Value),(∀p∈l,RelV p.2.2.1 p.2.2.2)->KV (l.map fun p=>((Sum.inr p.1:Key),p.2.2.1)) (l.map fun p=>((Sum.inr p.1:Key),p.2.2.2))
 |[],_=>.nil
 |p::r,h=>.cons ⟨rfl,h p yV⟩ (zob r fun q hq=>h q (yM _ hq))
theorem zoc{P:Program}{w:World}{K:tU}{g:Addr}(l:List (Str×Tok×V×Value)){ep:Nat}(e:K.lookup g=some ⟨.type "dict",none,.dict (l.map fun p=>(⟨hashStr w p.1,.str p.1 p.2.1,p.2.2.2⟩:DictEntry)).toArray ep,#[]⟩)
  (n:(g==sysModules)=false) (hr:∀p∈l,RelV p.2.2.1 p.2.2.2) (nd:(l.map (·.1)).Nodup):MD P w K g (l.map fun p=>((Sum.inr p.1:Key),p.2.2.1)):=by
 refine⟨_,l.map fun p=>((Sum.inr p.1:Key),p.2.2.2),e,⟨_,_,⟨rfl,rfl,rfl⟩,rfl,?_,?_,?_⟩,zob l hr,n⟩
 ·intro x hx
  have hx':x∈l.map fun p=>(⟨hashStr w p.1,.str p.1 p.2.1,p.2.2.2⟩:DictEntry):=by simpa using hx
  obtain⟨p,_,rfl⟩:=yX.mp hx'
  exact⟨Sum.inr p.1,ZS P w p.1 p.2.1,rfl⟩
 ·rw[List.toList_toArray]
  exact zhX l
 ·rw[xN]
  have:(l.map ((fun x:Key×Value=>x.1)∘fun p=>((Sum.inr p.1:Key),p.2.2.2)))=(l.map (·.1)).map (Sum.inr:Str->Key):=by rw[xN];rfl
  rw[this]
  exact List.pairwise_map.mpr (List.Pairwise.imp (fun {a b} (h:a≠b) (e:(Sum.inr a:Key)=Sum.inr b)=>h (by simpa using e)) nd)
theorem zod{X:Cx}:OpR X (tM .In) (fun x y H Q=>∃(g:Addr)(kvs:List (Key×V))(k:Key),x=kV k/\y=.ref g/\MD X.prog X.w X.K g kvs/\Q (.bl (valV kvs k).isSome) H):=by
 intro zp s σ H x y v u Q I rx ry h
 obtain⟨g,kvs,k,rfl,rfl,m,q⟩:=h
 cases ry
 obtain⟨vs,rel,dd,hd⟩:=m.dict I.kIn
 refine wpAny_in_of (zld rx) hd dd.mapOf ?_
 rw[←(rel.val k).isSome_eq]
 exact⟨.bl _,H,I.tok _,rfl,q⟩
theorem zjZ{X:Cx}:OpR X (tM .NotIn) (fun x y H Q=>∃(g:Addr)(kvs:List (Key×V))(k:Key),x=kV k/\y=.ref g/\MD X.prog X.w X.K g kvs/\Q (.bl (!(valV kvs k).isSome)) H):=by
 intro zp s σ H x y v u Q I rx ry h
 obtain⟨g,kvs,k,rfl,rfl,m,q⟩:=h
 cases ry
 obtain⟨vs,rel,dd,hd⟩:=m.dict I.kIn
 refine wpAny_notIn_of (zld rx) hd dd.mapOf ?_
 rw[←(rel.val k).isSome_eq]
 exact⟨.bl _,H,I.tok _,rfl,q⟩
theorem zoe{X:Cx}:IxR X (fun x y H Q=>∃(g:Addr)(kvs:List (Key×V))(k:Key)(v:V),x=.ref g/\y=kV k/\MD X.prog X.w X.K g kvs/\valV kvs k=some v/\Q v H):=by
 intro value slice zp s σ H x y v u Q I rx ry h hs
 obtain⟨g,kvs,k,z,rfl,rfl,m,hv,q⟩:=h
 cases rx
 obtain⟨vs,rel,dd,hd⟩:=m.dict I.kIn
 obtain⟨w',hw,rw'⟩:=RelO.some_of (v:=z) (o:=valueAt vs k) (by rw[←hv];exact rel.val k)
 exact tail_any dd.typeIs PySem.F.slot_dict_getitem.lookup (wpAny_getItem_of (zld ry) dd.mapOf hw ⟨z,H,I.tok _,rw',q⟩) hs
end L2
namespace D
open PySem L2
end D
namespace L2
open PySem PySem.Spec PyProof.Rows PySem.Builtin PySem.Builtin.Str
def zoP(K:tU):R2:=fun x y H Q=>(∃i j,x=.str i/\y=.str j/\i.length+j.length<=tH/\Q (.str (i++j)) H)\/rCatT K x y H Q \/
 ∃(a b:Addr)(ys:List V),x=.ref a/\y=.ref b/\SqT K H a []/\SqT K H b ys/\Q (.ref b) H
theorem zm3{X:Cx}:OpR X (binaryOp .Add) (zoP X.K):=OpR.or zx (OpR.or zb6 zlq)
theorem zm4{X:Cx}:SlR X (fun x lo hi H Q=>∃z:Str,x=.str z/\z.length<=1000000/\Q (.str (Txt.slice z lo hi)) H):=by
 intro zp s σ H x v vl vu lo hi sl Q I rx hs pl pu h
 obtain⟨z,rfl,hz,q⟩:=h
 obtain⟨t,rfl⟩:=rx
 refine⟨"str",_,PySem.F.slot_str_getitem.lookup,typeIs_str _ _ _,?_⟩
 have hz':z.length<=tH:=yQ hz (by decide)
 have fin:∀(l u:Option (Int×Tok)),partValue l=vl->partValue u=vu->Q (.str (Txt.slice z (l.map (·.1)) (u.map (·.1)))) H->wpAny (model X.prog X.w) X.A (getItem (.str z t) (.ref sl)) (EP X zp σ Q) X.xe s:=fun l u e1 e2 q=>by
  obtain⟨o,ho,hc,hd⟩:=hs
  refine wpAny_getItem_str_slice (l:=l) (u:=u) (st:=none) ⟨o,ho,hc,by rw[hd,e1,e2];rfl⟩ rfl (post_val_or_str ⟨yQ (Txt.slice_le z _ _) hz',fun t' k=>?_⟩)
  exact⟨.str _,H,I.tok k,⟨t',rfl⟩,q⟩
 cases pl with
 |none=>cases pu with
  |none=>exact fin none none rfl rfl q
  |int j tj=>exact fin none (some (j,tj)) rfl rfl q
 |int i ti=>cases pu with
  |none=>exact fin (some (i,ti)) none rfl rfl q
  |int j tj=>exact fin (some (i,ti)) (some (j,tj)) rfl rfl q
end L2
namespace D
open PySem L2
theorem zg8{X:Cx}{i:Nat}{y:Str}{py spos:Pos}{elt iter:Expr}{x:Str}{px pos:Pos}{ifs:List Expr}{scope:Scope}{cl:List (Str×Addr)}(fr:List Nat)(ys:List Str){wi:TI}{tt:TT}{te:TE}
  (hc:X.calm=true) (hclos:closureFor scope X.env=pure cl) (hcell:∀y∈scope.names,y.2≠.cell) (hkind:scope.kind=.function) (hnames:∀y∈scope.names,y.2=.local->scope.names.lookup y.1=some .local)
  (hx:scope.names.lookup x=some .local) (hnd:(x::ys).Nodup) (hcl:ClOk cl X.env.cells) (hall:(scope.names.all fun y=>y.2 != .free||(cl.lookup y.1).isSome)=true) (hfr:FrOk X scope cl fr ys)
  (hi:QI X (.Name x px) iter wi)
  (hY:∀C s H fp,QIfs (zZ X scope cl (x::ys) C s H fp) ifs tt/\QE (zZ X scope cl (x::ys) C s H fp) elt te)
  (hN:X.N.Nodup) (hiy:X.N[i]?=some y) (hy:L2.Loc X.env.scope y) (hsw:swapsWith (.ListComp elt [⟨.Name x px,iter,ifs,0⟩] scope pos) (some (.Name y py)) spos.line X.env=pure true:=by rfl)
  (hf:X.fn y=true\/X.env.scope.names.lookup y=some .local:=by first|exact .inl rfl|exact .inr rfl|assumption)
  (hs:∀v,foldedSetIterable iter X.env v=pure v:=by intro _;rfl):
  QS X (.Assign [.Name y py] (.ListComp elt [⟨.Name x px,iter,ifs,0⟩] scope pos) spos) (tAsg (zd1 fr wi tt te) (zW i)):=
 ⟨L2.zg8 fr ys hc hclos hcell hkind hnames hx hnd hcl hall hfr hi.un (fun C s H fp=>⟨(hY C s H fp).1.un,(hY C s H fp).2.un⟩) hN hiy hy hsw hf hs⟩
end D
namespace L2
open PySem PySem.Spec PyProof.Rows
inductive i_tMGet2(P:Program)(w:World)(K:tU)(ty tx:TE)(σ:St)(Q:VK)(x:V)(H1:Hp):Prop
 |mk (g:Addr) (kvs:List (Key×V)) (_:x=.ref g) (_:MD P w K g kvs) (_:ty σ H1 fun y H2=>tx σ H2 fun z H3=>∃k:Key,y=kV k/\Q ((valV kvs k).getD z) H3)
def zmm(P:Program)(w:World)(K:tU)(td ty tx:TE):TE:=fun σ H Q=>td σ H fun x H1=>i_tMGet2 P w K ty tx σ Q x H1
theorem zfH{X:Cx}{o e f:Expr}{apos cpos:Pos}{td ty tx:TE}(ho:PE X o td)(he:PE X e ty)(hf:PE X f tx)(m:M2 X o "get" apos e f cpos):PE X (.Call (.Attribute o "get" apos) [e,f] [] cpos) (zmm X.prog X.w X.K td ty tx):=by
 intro zp s σ H Q I h
 refine wpAny_Call_method m.base m.few m.line PySem.F.plainAttrs_dict PySem.F.slot_dict_get PySem.F.type_dict_get (thn (ho zp s σ H _ I h) fun u s1 ⟨x,H1,I1,rx,a,kvs,ex,d,q1⟩=>?_)
 subst ex
 obtain rfl:u=Value.ref a:=rx
 obtain⟨vs1,rel1,dd1,hd1⟩:=d.dict I1.kIn
 refine⟨dd1.typeIs,fun b q=>?_,?_⟩
 ·cases q
  obtain⟨ob,_,_,h1,h2,_⟩:=dd1
  exact⟨ob,h1,h2.2.1⟩
 rw[m.trees]
 refine Calls.callWith_builtin rfl (Calls.evalArgs_plain (Calls.spliced_cons (thn (he zp s1 σ H1 _ I1 q1) fun iv s2 ⟨y,H2,I2,ry,q2⟩=>
  Calls.spliced_cons (thn (hf zp s2 σ H2 _ I2 q2) fun fv s3 ⟨z,H3,I3,rz,k,ey,q3⟩=>Calls.spliced_nil ?_))))
 subst ey
 obtain⟨vs,rel,dd,hd⟩:=d.dict I3.kIn
 refine call_meetsIn PySem.F.slot_dict_get dd.typeIs PySem.F.entry_dict_get (PySem.F.args_dict_get_3 _ _ _) (meets_dict_get_default (Zl X.prog X.w) a (zld ry) hd fv) ⟨_,dd.mapOf,?_⟩
 exact⟨_,H3,I3.tok _,(rel.val k).getD rz,q3⟩
end L2
namespace D
open PySem L2
theorem zfH{X:Cx}{o e f:Expr}{apos cpos:Pos}{td ty tx:TE}(ho:QE X o td)(he:QE X e ty)(hf:QE X f tx)(m:M2 X o "get" apos e f cpos):QE X (.Call (.Attribute o "get" apos) [e,f] [] cpos) (zmm X.prog X.w X.K td ty tx):=⟨L2.zfH ho.un he.un hf.un m⟩
end D
namespace L2
open PySem PySem.Spec PyProof.Rows
def zbW(P:Program)(w:World)(K:tU)(mg:Str->Option Value)(base:Heap)(C:Addr)(m:Str)(k:Nat)(ps:List Str)(sp:Sp):Prop:=
 ∃(f:Addr)(fd:tV),FnOk P w K mg base CX0 k f fd ps sp/\Binds K fd ps []/\Meth K C m f/\Cls K C
def zcl(P:Program)(w:World)(K:tU)(mg:Str->Option Value)(base:Heap)(C:Addr)(x:Str)(k:Nat)(ps:List Str)(sp:Sp):Prop:=
 ∃(f:Addr)(fd:tV)(j:Nat),k=j+1/\FnOk P w K mg base CX0 j f fd ps sp/\Binds K fd ps []/\Mk K C f/\mg x=some (.ref C)
theorem zbW.mono{P:Program}{w:World}{K:tU}{mg:Str->Option Value}{base:Heap}{C:Addr}{m:Str}{j k:Nat}{ps:List Str}{sp:Sp}(h:zbW P w K mg base C m j ps sp)(e:j<=k):zbW P w K mg base C m k ps sp:=
 let ⟨f,fd,F,r⟩:=h;⟨f,fd,F.mono e,r⟩
theorem zbW.up{P:Program}{w:World}{K:tU}{mg:Str->Option Value}{base:Heap}{j k:Nat}{ps:List Str}{sp:Sp}{C:Addr}{m:Str}(h:zbW P w K mg base C m j ps sp)(e:Nat.ble j k=true):zbW P w K mg base C m k ps sp:=h.mono (vJ e)
theorem zcl.mono{P:Program}{w:World}{K:tU}{mg:Str->Option Value}{base:Heap}{C:Addr}{m:Str}{j k:Nat}{ps:List Str}{sp:Sp}(h:zcl P w K mg base C m j ps sp)(e:j<=k):zcl P w K mg base C m k ps sp:=by
 obtain⟨f,fd,i,rfl,F,r⟩:=h
 exact⟨f,fd,k-1,by lia,F.mono (by lia),r⟩
theorem zcl.up{P:Program}{w:World}{K:tU}{mg:Str->Option Value}{base:Heap}{j k:Nat}{ps:List Str}{sp:Sp}{C:Addr}{m:Str}(h:zcl P w K mg base C m j ps sp)(e:Nat.ble j k=true):zcl P w K mg base C m k ps sp:=h.mono (vJ e)
section
variable{X:Cx}{C:Addr}{x m:Str}{k:Nat}{ps:List Str}{sp:Sp}{e o:Expr}{es:List Expr}{ta:TE}{t:TA}{p pos apos:Pos}
theorem pe_m(G:zbW X.prog X.w X.K X.mg X.base C m k ps sp)(hr:Room k X.A)(ho:PE X o ta)(ha:PA X (e::es) t){pl:Sem Bool}
  (hst:tJ (e::es) X.env=(false,eval e X.env)::tJ es X.env:=by rfl) (hpl:(backTo pos (tJ es X.env)).any (·.1)=false:=by rfl)
  (ht:eval (.Call (.Attribute o m apos) (e::es) [] pos) X.env=(do
   let ov ←eval o X.env
   standAt apos.atName
   let (f,first) ←holding [ov] (getMethod ov m pl)
   callWith pos f first (backTo pos (tJ (e::es) X.env)) (backToKw pos (keywordEach [] X.env))):=by rfl):
  PE X (.Call (.Attribute o m apos) (e::es) [] pos) (ziB C m sp [] E0 ta t):=by
 obtain⟨f,fd,F,b,mm,c⟩:=G
 exact zmK ho c mm F hr b .nil zjC ha hst hpl ht
theorem ziP(G:zbW X.prog X.w X.K X.mg X.base C m k ps sp)(hr:Room k X.A)(ho:PE X o ta){pl:Sem Bool}
  (ht:eval (.Call (.Attribute o m apos) [] [] pos) X.env=(do
   let ov ←eval o X.env
   standAt apos.atName
   let (f,first) ←holding [ov] (getMethod ov m pl)
   callWith pos f first (backTo pos (tJ [] X.env)) (backToKw pos (keywordEach [] X.env))):=by rfl):
  PE X (.Call (.Attribute o m apos) [] [] pos) (ziB C m sp [] E0 ta tNil):=by
 obtain⟨f,fd,F,b,mm,c⟩:=G
 exact zk9 ho c mm F hr b .nil zjC ht
theorem zj0(G:zcl X.prog X.w X.K X.mg X.base C x k ps sp)(hr:Room k X.A)(hg:Gl X x)(ha:PA X (e::es) t)(hdb:(x==("__debug__":Str))=false:=by decide)
  (he:tJ (e::es) X.env=(false,eval e X.env)::tJ es X.env:=by rfl) (hpl:(backTo pos (tJ es X.env)).any (·.1)=false:=by rfl):
  PE X (.Call (.Name x p) (e::es) [] pos) (zg5 C sp [] E0 t):=by
 obtain⟨f,fd,j,rfl,F,b,mk,mg⟩:=G
 exact zmL mk F hr hg mg b .nil zjC ha hdb he hpl
theorem zfI(G:zcl X.prog X.w X.K X.mg X.base C x k ps sp)(hr:Room k X.A)(hg:Gl X x)(hdb:(x==("__debug__":Str))=false:=by decide):
  PE X (.Call (.Name x p) [] [] pos) (zg5 C sp [] E0 tNil):=by
 obtain⟨f,fd,j,rfl,F,b,mk,mg⟩:=G
 exact zla mk F hr hg mg b .nil zjC hdb
end
end L2
namespace D
open PySem L2
section
variable{X:Cx}{C:Addr}{x m:Str}{k:Nat}{ps:List Str}{sp:Sp}{e o:Expr}{es:List Expr}{ta:TE}{t:TA}{p pos apos:Pos}
theorem pe_m(G:zbW X.prog X.w X.K X.mg X.base C m k ps sp)(hr:Room k X.A)(ho:QE X o ta)(ha:QA X (e::es) t){pl:Sem Bool}
  (hst:tJ (e::es) X.env=(false,eval e X.env)::tJ es X.env:=by rfl) (hpl:(backTo pos (tJ es X.env)).any (·.1)=false:=by rfl)
  (ht:eval (.Call (.Attribute o m apos) (e::es) [] pos) X.env=(do
   let ov ←eval o X.env
   standAt apos.atName
   let (f,first) ←holding [ov] (getMethod ov m pl)
   callWith pos f first (backTo pos (tJ (e::es) X.env)) (backToKw pos (keywordEach [] X.env))):=by rfl):
  QE X (.Call (.Attribute o m apos) (e::es) [] pos) (ziB C m sp [] E0 ta t):=⟨L2.pe_m G hr ho.un ha.un hst hpl ht⟩
theorem ziP(G:zbW X.prog X.w X.K X.mg X.base C m k ps sp)(hr:Room k X.A)(ho:QE X o ta){pl:Sem Bool}
  (ht:eval (.Call (.Attribute o m apos) [] [] pos) X.env=(do
   let ov ←eval o X.env
   standAt apos.atName
   let (f,first) ←holding [ov] (getMethod ov m pl)
   callWith pos f first (backTo pos (tJ [] X.env)) (backToKw pos (keywordEach [] X.env))):=by rfl):
  QE X (.Call (.Attribute o m apos) [] [] pos) (ziB C m sp [] E0 ta tNil):=⟨L2.ziP G hr ho.un ht⟩
theorem zj0(G:zcl X.prog X.w X.K X.mg X.base C x k ps sp)(hr:Room k X.A)(hg:Gl X x)(ha:QA X (e::es) t)(hdb:(x==("__debug__":Str))=false:=by decide)
  (he:tJ (e::es) X.env=(false,eval e X.env)::tJ es X.env:=by rfl) (hpl:(backTo pos (tJ es X.env)).any (·.1)=false:=by rfl):
  QE X (.Call (.Name x p) (e::es) [] pos) (zg5 C sp [] E0 t):=⟨L2.zj0 G hr hg ha.un hdb he hpl⟩
theorem zm5{K:tU}{f:Str}(hK:X.K=K)(he:QE X e ta)(hb:attributeBase e f X.env (eval e X.env)=eval e X.env):QE X (.Attribute e f pos) (tFld K ta f):=hK▸zgj he hb
theorem zfI(G:zcl X.prog X.w X.K X.mg X.base C x k ps sp)(hr:Room k X.A)(hg:Gl X x)(hdb:(x==("__debug__":Str))=false:=by decide):
  QE X (.Call (.Name x p) [] [] pos) (zg5 C sp [] E0 tNil):=⟨L2.zfI G hr hg hdb⟩
end
end D
namespace L2
open PySem PySem.Spec PyProof.Rows
theorem Inv.turnedL{X:Cx}{zp:List (Addr×Obj)}{σ:St}{H:Hp}{s:Shared}{h':Heap}{t':Nat}{fp:List Addr}(I:Inv X zp σ H s)(k:∀b o,b ∉ fp->s.heap.get? b=some o->h'.get? b=some o)(hf:∀b∈fp,FpOk X zp H b):
  Inv X zp σ H {s with heap:=h',toks:=t'}:=by
 have nit:∀b u,H b=some u->b ∉ fp:=fun b u e z=>by
  have:=(hf b z).1
  rw[e] at this
  cases this
 refine I.step (g':=s.gens) (d':=s.drawn) (ch:=fp) (fun b hb=>?_) (fun b o _ _ hc e _=>k b o hc e) (fun b o _ _ hc e _=>⟨o.slots,k b o hc e⟩) (fun _ _ _ _ n=>n)
  (fun b o hc e=>⟨o,k b o hc e⟩) (fun _ _ e=>e) (fun _ _ _ e=>e) (fun b ps e=>⟨#[],by rw[e];simp⟩) (fun m hm=>?_) (fun b u e=>?_) I.bare
 ·obtain⟨f0,f1,f2,f3,f4,f5⟩:=hf b hb
  exact⟨f3,f1,f4,f5⟩
 ·obtain⟨o,es,ep,ho,r⟩:=hm
  exact⟨o,es,ep,k _ o (fun z=>(hf _ z).2.1 rfl) ho,r⟩
 ·refine (I.hok b u e).stay (fun c v hc q=>k c v ?_ q) (fun _ q=>q) fun _ _ q=>q
  rcases hc with z|z
  ·rw[z];exact nit b u e
  ·exact nit c _ z
theorem zlr{h:Heap}{o u:Obj}{b:Addr}(e:(h.push o).get? b=some u)(hb:b<h.objs.size):h.get? b=some u:=by
 rcases Heap.get?_push_cases e with⟨r,_⟩|r
 ·rw[r] at hb
  exact absurd hb (xX _)
 ·exact r
def Ite(K:tU)(a:Addr):It:=
 ⟨fun i H=>∃xs x,SqL K H a xs/\xs[i]?=some x,fun i H x H'=>∃t y,H t=none/\x=.ref t/\(∀xs,SqL K H a xs->xs[i]?=some y)/\H'=upd H t (.tup [.int i,y]),fun i H=>∃xs,SqL K H a xs/\xs.length<=i⟩
theorem zj1{P:Program}{w:World}{K:tU}{elts:List Expr}{k:Nat}{pos:Pos}(a e it:Addr)(hei:e≠it):Turn P w K (.Tuple elts k pos) (Ite K a) [e,it] e (fun i h=>(∃old,IsEnum h e it i old)/\h.IsListIter it a i) where
 mem:=by simp
 obj:=fun i h st b hb=>by
  obtain⟨⟨old,he⟩,hit⟩:=st
  have hc:b=e\/b=it:=by simpa using hb
  rcases hc with rfl|rfl
  ·exact⟨_,he,fun v z=>by
    have z':Data.fields _=Data.cell v:=z
    cases z'⟩
  ·obtain⟨o,eo,c,d⟩:=hit
   exact⟨o,eo,fun v z=>by rw[d] at z;cases z⟩
 keep:=fun i h h' st kk=>by
  obtain⟨⟨old,he⟩,hit⟩:=st
  exact⟨⟨old,kk e (by simp) _ he⟩,hit.at fun o x=>kk it (by simp) o x⟩
 item:=by
  intro X hP hw hK hc i zp s σ H E I hf st hg
  subst hP hw hK
  obtain⟨⟨old,he⟩,hit⟩:=st
  obtain⟨xs,x,hq,hx⟩:=hg
  obtain⟨its,rv,p,hz⟩:=I.list hq
  obtain⟨u,hu,ru⟩:=rv.get hx
  have hfr:H s.heap.objs.size=none:=I.hok.fresh (yO _)
  have helt:e<s.heap.objs.size:=uZ he
  have hilt:it<s.heap.objs.size:=by obtain⟨_,z,_⟩:=hit;exact uZ z
  refine wpAny_pyNext_enum_item he hit p.isList (x:=u) (by simpa using hu) hei fun h' ho hit' hT hsz hk=>⟨_,rfl,wpAny_letOwnedTupleGo_enum ho fun h2 he2 hs2=>?_⟩
  have I1:Inv X zp σ (upd H s.heap.objs.size (.tup [.int i,x])) {s with heap:=s.heap.push {cls:=.type "tuple",data:=.seq #[.int i s.toks,u]},toks:=s.toks}:=
   I.laid (t':=s.toks) (fun b u e=>uY _ e) (yO _) ⟨zl2,[.int i s.toks,u],.cons ⟨_,rfl⟩ (.cons ru .nil),⟨_,tD _ rfl,rfl,_,rfl⟩⟩
  have nn:∀b∈[e,it],upd H s.heap.objs.size (.tup [.int i,x]) b=none:=fun b hb=>by
   rw[zA (fun z=>by
    have hc:b=e\/b=it:=by simpa using hb
    rcases hc with r|r
    ·rw[←r,z] at helt;exact xX _ helt
    ·rw[←r,z] at hilt;exact xX _ hilt)]
   exact (hf b hb).1
  have I2:Inv X zp σ (upd H s.heap.objs.size (.tup [.int i,x])) {s with heap:=h2,toks:=s.toks+1}:=by
   refine Inv.turnedL (s:={s with heap:=s.heap.push {cls:=.type "tuple",data:=.seq #[.int i s.toks,u]},toks:=s.toks}) (h':=h2) (t':=s.toks+1) (fp:=[e,it]) I1 (fun b o hb eb=>?_) (fun b hb=>?_)
   ·have hbe:b≠e:=fun z=>hb (by simp[z])
    have hbi:b≠it:=fun z=>hb (by simp[z])
    refine (hs2.2 b hbe).trans ?_
    by_cases hbs:b=s.heap.objs.size
    ·subst hbs
     have e1:(s.heap.push {cls:=.type "tuple",data:=.seq #[.int i s.toks,u]}).get? s.heap.objs.size=some {cls:=.type "tuple",data:=.seq #[.int i s.toks,u]}:=tD _ rfl
     have eb:(s.heap.push {cls:=.type "tuple",data:=.seq #[.int i s.toks,u]}).get? s.heap.objs.size=some o:=eb
     rw[e1] at eb
     cases eb
     exact hT
    ·refine hk b o hbe hbi ?_
     have eb:(s.heap.push {cls:=.type "tuple",data:=.seq #[.int i s.toks,u]}).get? b=some o:=eb
     have hlt:=uZ eb
     rw[Heap.size_push] at hlt
     exact zlr eb (Nat.lt_of_le_of_ne (Nat.le_of_lt_succ hlt) hbs)
   ·obtain⟨f0,f1,f2,f3,f4,f5⟩:=hf b hb
    exact⟨nn b hb,f1,f2,f3,f4,f5⟩
  refine⟨.ref s.heap.objs.size,_,I2,rfl,⟨s.heap.objs.size,x,hfr,rfl,fun ys hy=>by rw[I.list_inj hy hq];exact hx,rfl⟩,⟨⟨_,by simpa using he2⟩,hit'.at fun o y=>(hs2.2 it hei.symm).trans y⟩,nn⟩
 done:=by
  intro X hP hw hK hc i zp s σ H E I hf st hg
  subst hP hw hK
  obtain⟨⟨old,he⟩,hit⟩:=st
  obtain⟨xs,hq,hx⟩:=hg
  obtain⟨its,rv,p,hz⟩:=I.list hq
  have hl:=rv.length
  refine wpAny_pyNext_enum_end (I.ok.hd hc) he hit p.isList (by simp;lia) fun h' eb=>⟨rfl,?_⟩
  exact I.turnedL (t':=s.toks) (fp:=[e,it]) (fun b o hb e'=>eb b o (fun z=>hb (by simp[z])) e') hf
 self:=fun _ _ _ _ _ st h=>by
  obtain⟨⟨old,he⟩,_⟩:=st
  exact wpAny_pyIter_enum he h
theorem zj2:tK (uV "enumerate")=some (.type "enumerate"):=by kernel_rfl
inductive i_iEnum(K:tU)(R:It->Hp->Prop)(vs:List V)(H1:Hp):Prop
 |mk (a:Addr) (xs:List V) (_:vs=[.ref a]) (_:SqL K H1 a xs) (_:R (Ite K a) H1)
def zof(K:tU)(ta:TA):TI:=fun σ H R=>ta σ H fun vs H1=>i_iEnum K R vs H1
theorem zd9{X:Cx}{elts:List Expr}{k:Nat}{ps:Pos}{a:Expr}{ta:TA}{p pos:Pos}(hg:Gl X "enumerate")(hm:X.mg "enumerate"=none)(ha:PA X [a] ta)(hs:tJ [a] X.env=[(false,eval a X.env)]:=by rfl):
  PI X (.Tuple elts k ps) (.Call (.Name "enumerate" p) [a] [] pos) (zof X.K ta):=by
 intro zp s σ H R I h
 refine Call_ (zeZ I hg hm zj2 (PyProof.Rows.callWith_type1 (thn (ha pos zp s σ H _ I h) fun us s1 ⟨vs,H1,I1,r1,q1⟩=>?_) hs rfl))
 obtain⟨b,xs,e,hq,q⟩:=q1
 subst e
 obtain⟨u,rfl,rx⟩:=zb5 r1
 cases rx
 obtain⟨its,rv,pl,hz⟩:=I1.list hq
 refine call_enumerate_list pl.isList fun h' he hi hsz hk=>?_
 have hne:s1.heap.objs.size+1≠s1.heap.objs.size:=Nat.succ_ne_self _
 refine wpAny_pyIter_enum he ?_
 have I2:Inv X zp σ H1 {s1 with heap:=h',toks:=s1.toks}:=I1.kept (t':=s1.toks) hk
 refine⟨s1.heap.objs.size+1,[s1.heap.objs.size+1,s1.heap.objs.size],_,_,H1,rfl,I2,zj1 b _ _ hne,⟨⟨_,he⟩,hi⟩,fun c hc=>?_,q⟩
 have hcs:c=s1.heap.objs.size+1\/c=s1.heap.objs.size:=by simpa using hc
 have hle:s1.heap.objs.size<=c:=by
  rcases hcs with r|r
  ·rw[r];exact vK _
  ·rw[r];exact yO _
 exact I1.fpOk hle (I1.hok.fresh hle)
theorem zfJ{K:tU}{a:Addr}{xs:List V}{g:TG}{tb:TS}{D:Ends}{σ:St}{H:Hp}(Pv:Nat->St->Hp->Prop)(h0:Pv 0 σ H)(hl:∀i σ H,i<=xs.length->Pv i σ H->SqL K H a xs)
  (hs:∀i x t σ H,xs[i]?=some x->H t=none->Pv i σ H->g (.ref t) σ (upd H t (.tup [.int i,x])) fun σ2 H2=>tb {D with nx:=Pv (i+1),ct:=Pv (i+1),bk:=D.nx} σ2 H2) (hd:∀σ H,Pv xs.length σ H->D.nx σ H):
  ∃W:Nat->Nat->St->Hp->Prop,(∃m,W 0 m σ H)/\∀i m σ H,W i m σ H->
   ((Ite K a).stop i H/\D.nx σ H)\/((Ite K a).go i H/\∃N:St->Hp->Prop,(∀σ' H',N σ' H'->∃m',m'<m/\W (i+1) m' σ' H')/\∀x H',(Ite K a).yld i H x H'->g x σ H' fun σ2 H2=>tb {D with nx:=N,ct:=N,bk:=D.nx} σ2 H2):=by
 refine⟨fun i m σ H=>m=xs.length-i/\i<=xs.length/\Pv i σ H,⟨xs.length,by simp,yS _,h0⟩,?_⟩
 rintro i m σ H ⟨rfl,hi,p⟩
 have q:=hl i σ H hi p
 by_cases hlt:i<xs.length
 ·refine .inr ⟨⟨xs,xs[i],q,by simp[hlt]⟩,Pv (i+1),fun σ' H' p'=>⟨xs.length-(i+1),by lia,rfl,hlt,p'⟩,fun x H' y=>?_⟩
  obtain⟨t,y,ht,rfl,hy,rfl⟩:=y
  exact hs i y t σ H (hy xs q) ht p
 ·have e:i=xs.length:=by lia
  subst e
  exact .inl ⟨⟨xs,q,yO _⟩,hd σ H p⟩
end L2
namespace D
open PySem L2
theorem zd9{X:Cx}{elts:List Expr}{k:Nat}{ps:Pos}{a:Expr}{ta:TA}{p pos:Pos}(hg:Gl X "enumerate")(hm:X.mg "enumerate"=none)(ha:QA X [a] ta)(hs:tJ [a] X.env=[(false,eval a X.env)]:=by rfl):
  QI X (.Tuple elts k ps) (.Call (.Name "enumerate" p) [a] [] pos) (zof X.K ta):=⟨L2.zd9 hg hm ha.un hs⟩
end D
namespace D
open PySem L2 PySem.Spec PyProof.Rows
theorem zj3{X:Cx}(hu:X.A.units<cLine):OpR X (tM .NotEq) (fun x y H Q=>∃(a b:Addr)(us:List V),x=.ref a/\y=.ref b/\SqL X.K H a us/\SqL X.K H b []/\Q (.bl (!us.isEmpty)) H):=by
 intro zp s σ H x y v u Q I rx ry h
 obtain⟨a,b,us,rfl,rfl,ha,hb,q⟩:=h
 cases rx
 cases ry
 obtain⟨its,v1,p1,_⟩:=I.list ha
 obtain⟨its2,v2,p2,_⟩:=I.list hb
 have l1:=v1.length
 have l2:=v2.length
 cases us with
 |nil=>
  have key:SeqAt.RcNeAt X.A s (.ref a) (.ref b) (!(wK its.toArray.size).all fun _=>true):=
   SeqAt.RcNeAt.lists p1.isList p2.isList (by rw[yI,yI];lia) hu (fun j h1 h2=>by
    have h3:j<its.length:=by simpa using h1
    exact absurd h3 (by rw[←l1];exact vF _))
  have e:(!(wK its.toArray.size).all fun _=>true)=false:=by simp
  rw[e] at key
  exact key X.prog X.w _ _ ⟨.bl false,H,I,rfl,q⟩
 |cons x r=>
  have hsz:(its.toArray.size != its2.toArray.size)=true:=by
   rw[yI,yI,←l1,←l2]
   simp
  exact SeqAt.RcNeAt.lists_lengths p1.isList p2.isList hsz hu X.prog X.w _ _ ⟨.bl true,H,I,rfl,q⟩
theorem zmn{X:Cx}(hu:X.A.units<cLine):OpR X (tM .Eq) (fun x y H Q=>∃(a b:Addr)(us:List V),x=.ref a/\y=.ref b/\SqL X.K H a us/\SqL X.K H b []/\Q (.bl us.isEmpty) H):=by
 intro zp s σ H x y v u Q I rx ry h
 obtain⟨a,b,us,rfl,rfl,ha,hb,q⟩:=h
 cases rx
 cases ry
 obtain⟨its,v1,p1,_⟩:=I.list ha
 obtain⟨its2,v2,p2,_⟩:=I.list hb
 have l1:=v1.length
 have l2:=v2.length
 cases us with
 |nil=>
  refine SeqAt.eq_listAt (e:=fun _=>true) p1.isList p2.isList (by rw[yI,yI];lia) hu (fun j h1 h2=>?_) ?_
  ·have h3:j<its.length:=by simpa using h1
   exact absurd h3 (by rw[←l1];exact vF _)
  ·have e:((wK its.toArray.size).all fun _=>true)=true:=by simp
   rw[e]
   exact⟨.bl true,H,I,rfl,q⟩
 |cons x r=>
  have hsz:(its.toArray.size != its2.toArray.size)=true:=by
   rw[yI,yI,←l1,←l2]
   simp
  exact SeqAt.eq_list_lengthsAt p1.isList p2.isList hsz hu ⟨.bl false,H,I,rfl,q⟩
end D
namespace L2
open PySem PySem.Spec PyProof.Rows
noncomputable def txOf:Value->Str
 |.str z _=>z
 |_=>uV ""
noncomputable def byTx(w:World):Bool:=w.params.followText "set-order"
def Tabled(w:World)(t:SetTable)(n:Nat):Prop:=t.led=!byTx w/\(n=0\/t.plain=false)
def zbX(P:Program)(w:World)(a:Addr)(ds:List Str)(h:Heap):Prop:=
 ∃(o:Obj)(es:Array (Int×Value))(ep:Nat)(t:SetTable),h.get? a=some o/\o.ExactSet/\o.data=.set es ep t/\ElemsOf (Zl P w) es.toList/\(∀e∈es.toList,∃z tk,e.2=.str z tk) /\
  (es.toList.map fun e=>txOf e.2).Perm ds/\es.size<scanBound/\t.fits es.size=true/\Tabled w t es.size
noncomputable def addS(ds:List Str)(z:Str):List Str:=if z∈ds then ds else ds++[z]
theorem zls(t:SetTable)(n:Nat):(t.orStandIn n).led=t.led/\(t.plain=false->(t.orStandIn n).plain=false):=by
 unfold SetTable.orStandIn
 split
 ·exact⟨rfl,id⟩
 ·exact⟨rfl,fun _=>rfl⟩
theorem zj4(t:SetTable)(es:Array (Int×Value))(h:Int)(x:Value):(layNew t es h x).2.1.led=t.led/\(t.plain=false->(layNew t es h x).2.1.plain=false):=by
 unfold layNew
 split
 ·rename_i slot dm _
  obtain⟨a,b⟩:=zls (t.put slot).1 (SetTable.insertAt es (t.put slot).2 (h,x)).size
  exact⟨a,fun z=>b z⟩
 ·exact⟨rfl,fun _=>rfl⟩
theorem zgx{t t':SetTable}{hs:Array Int}{n:Nat}{order:Array Nat}(e:t.relaid hs n=some (t',order)):t'.led=t.led/\t'.plain=t.plain:=by
 unfold SetTable.relaid SetTable.laid at e
 cases hc:SetTable.layClean (SetTable.sizeAbove n-1) hs with
 |none=>rw[hc] at e;cases e
 |some ow=>
  rw[hc] at e
  cases e
  exact⟨rfl,rfl⟩
theorem zhf(t:SetTable)(es:Array (Int×Value))(n:Nat):(relayAll t es n).2.1.led=t.led/\(t.plain=false->(relayAll t es n).2.1.plain=false):=by
 unfold relayAll
 split
 ·rename_i t' order e
  obtain⟨a,b⟩:=zgx e
  dsimp only
  split
  ·exact⟨a,fun z=>b.trans z⟩
  ·exact⟨rfl,fun _=>rfl⟩
 ·exact⟨rfl,fun _=>rfl⟩
theorem zbX.store{P:Program}{w:World}{h:Heap}{a:Addr}{o:Obj}{es es':Array (Int×Value)}{ep:Nat}{t t':SetTable}{ds:List Str}(ho:h.get? a=some o)(hex:o.ExactSet)(hd:o.data=.set es ep t)
  (hel:ElemsOf (Zl P w) es'.toList) (htx:∀e∈es'.toList,∃z tk,e.2=.str z tk) (hp:(es'.toList.map fun e=>txOf e.2).Perm ds) (hb:es'.size<scanBound) (hf:t'.fits es'.size=true) (hm:Tabled w t' es'.size):
  (h.update a (Obj.putSet es' t')).get? a=some {o with data:=.set es' (ep+1) t'}/\zbX P w a ds (h.update a (Obj.putSet es' t')):=by
 have g:(h.update a (Obj.putSet es' t')).get? a=some {o with data:=.set es' (ep+1) t'}:=by
  rw[←putSet_of es' t' hd]
  exact Heap.get?_update_self _ ho (by rw[putSet_of es' t' hd];rfl)
 exact⟨g,_,es',ep+1,t',g,hex,rfl,hel,htx,hp,hb,hf,hm⟩
section
variable{P:Program}{w:World}{A:Around}{E:Value->Shared->Prop}
theorem ziQ{s:Shared}{a:Addr}{ds:List Str}{z:Str}{tk:Tok}{Q:Bool->Shared->Prop}(hS:zbX P w a ds s.heap)(room:ds.length+1<scanBound)
  (h:∀(b:Bool)(h':Heap),Heap.SameBut a s.heap h'->zbX P w a (addS ds z) h'->Q b {s with heap:=h'}):
  wpAny (model P w) A (setAddHashed a (.str z tk) ((Zl P w).hash (.inr z))) Q E s:=by
 have hS0:=hS
 obtain⟨o,es,ep,t,ho,hex,hd,hel,htx,hpm,hb,hf,hmk⟩:=hS
 have hsz:es.size=ds.length:=by
  have:=hpm.length_eq
  rw[yA,xR] at this
  exact this
 have is:=ZS P w z tk
 unfold setAddHashed setAddHashedIn
 refine wpAny_holding (uW (wpAny_setState_of ho hd hf ?_))
 dsimp only
 rw[byScan_of (knd:=Zl P w) (x:=.str z tk) rfl hb hel]
 simp only[↓reduceIte]
 unfold setAddByScan
 refine uW (uW (wpAny_rule (uW (wpAny_setScan_of is ho hd hf hel ?_))))
 cases hr:es.toList.findIdx? (fun e=>(Zl P w).is (.inr z) e.2) with
 |some j=>
  obtain⟨hj,hpj,_⟩:=List.findIdx?_eq_some_iff_getElem.mp hr
  have hin:z∈ds:=by
   obtain⟨y,u,e⟩:=htx _ (yW hj)
   have hzy:z=y:=by
    rw[e] at hpj
    have:=(Zl P w).inj (.str y u) (.inr z) (.inr y) hpj (ZS P w y u)
    exact Sum.inr.inj this
   refine hpm.mem_iff.mp (yX.mpr ⟨_,yW hj,?_⟩)
   rw[e,hzy]
   rfl
  have key:=h false s.heap (Heap.SameBut.refl a s.heap) (by unfold addS;rw[if_pos hin];exact hS0)
  exact uX (uX key)
 |none=>
  have hout:z ∉ ds:=fun hz=>by
   obtain⟨e,he,hze⟩:=yX.mp (hpm.mem_iff.mpr hz)
   obtain⟨y,u,ey⟩:=htx e he
   have h1:=List.findIdx?_eq_none_iff.mp hr e he
   rw[ey] at h1 hze
   have:y=z:=hze
   subst this
   rw[ZS] at h1
   cases h1
  have ead:addS ds z=ds++[z]:=by unfold addS;rw[if_neg hout]
  dsimp only
  have hperm:=layNew_perm t es ((Zl P w).hash (.inr z)) (.str z tk)
  have hfits:=layNew_fits t es ((Zl P w).hash (.inr z)) (.str z tk)
  have hmark:=zj4 t es ((Zl P w).hash (.inr z)) (.str z tk)
  generalize layNew t es ((Zl P w).hash (.inr z)) (.str z tk)=L at hperm hfits hmark ⊢
  obtain⟨es1,t1,dm,gave⟩:=L
  dsimp only at hperm hfits hmark ⊢
  rw[uS] at hperm
  have hel1:ElemsOf (Zl P w) es1.toList:=(hel.push is rfl).perm hperm
  have htx1:∀e∈es1.toList,∃z tk,e.2=.str z tk:=fun e he=>by
   rcases yU.mp (hperm.mem_iff.mp he) with h1|h1
   ·exact htx e h1
   ·rw[yH.mp h1];exact⟨_,_,rfl⟩
  have hpm1:(es1.toList.map fun e=>txOf e.2).Perm (ds++[z]):=by
   refine (hperm.map _).trans ?_
   rw[yK]
   exact hpm.append (uU.refl _)
  have hsz1:es1.size=ds.length+1:=by
   have:=hpm1.length_eq
   rw[yA,xR,yC] at this
   exact this
  have hb1:es1.size<scanBound:=by lia
  have gw:∀(b:Bool)(s1:Shared)(Q':Unit->Shared->Prop),Q' () s1->wpAny (model P w) A (match b with|true=>rule "set.scan.the-table-gave-way"|false=>pure ()) Q' E s1:=fun b s1 Q' hq=>by
   cases b
   ·exact uX hq
   ·exact wpAny_rule hq
  refine uW (gw _ _ _ ?_)
  have tail:∀t2:SetTable,t2.fits es1.size=true->Tabled w t2 es1.size->wpAny (model P w) A (storeSet a es1 t2>>=fun _=>if (!dm&&t2.tooFull)=true then (match (relayAll t2 es1 (SetTable.grown es1.size)).2.2 with|true=>rule "set.scan.the-table-gave-way"|false=>pure ())>>=fun _=>storeSet a (relayAll t2 es1 (SetTable.grown es1.size)).1 (relayAll t2 es1 (SetTable.grown es1.size)).2.1>>=fun _=>pure (some true) else pure (some true))
    (fun r s'=>wpAny (model P w) A (match r with|some added=>pure added|none=>setAddHashedIn a (.str z tk) ((Zl P w).hash (.inr z)) 99999) Q E s') E s:=fun t2 hf2 hm2=>by
   obtain⟨g1,S1⟩:=zbX.store (es':=es1) (t':=t2) (ds:=ds++[z]) ho hex hd hel1 htx1 hpm1 hb1 hf2 hm2
   refine uW (wpAny_storeSet_of ho hd ?_ (fits_of_scanBound hb1))
   have sb1:=Heap.SameBut.update s.heap a (Obj.putSet es1 t2)
   split
   ·have hp:=relayAll_perm t2 es1 (SetTable.grown es1.size)
    have hfr:=relayAll_fits t2 es1 (SetTable.grown es1.size)
    have hmr:=zhf t2 es1 (SetTable.grown es1.size)
    generalize relayAll t2 es1 (SetTable.grown es1.size)=Rl at hp hfr hmr ⊢
    obtain⟨es2,t3,gv⟩:=Rl
    dsimp only at hp hfr hmr ⊢
    have hz2:es2.size=es1.size:=by rw[←xR,hp.length_eq,xR]
    have hb2:es2.size<scanBound:=by rw[hz2];exact hb1
    refine uW (gw _ _ _ (uW (wpAny_storeSet_of g1 rfl ?_ (fits_of_scanBound hb2))))
    obtain⟨_,S2⟩:=zbX.store (es':=es2) (t':=t3) (ds:=ds++[z]) g1 hex rfl (hel1.perm hp) (fun e he=>htx1 e (hp.mem_iff.mp he)) ((hp.map _).trans hpm1) hb2 hfr ⟨hmr.1.trans hm2.1,.inr (hmr.2 (hm2.2.resolve_left (by lia)))⟩
    exact uX (uX (h true _ (sb1.trans (Heap.SameBut.update _ a _)) (by rw[ead];exact S2)))
   ·exact uX (uX (h true _ sb1 (by rw[ead];exact S1)))
  split
  ·refine uW ?_
   rw[hashByValue_scannable 8 rfl]
   exact uX (tail {t1 with plain:=false} (SetTable.fits_plain_off hfits) ⟨hmark.1.trans hmk.1,.inr rfl⟩)
  ·rename_i hpl
   exact uW (uX (tail t1 hfits ⟨hmark.1.trans hmk.1,.inr (by simpa using hpl)⟩))
def allS(ys:List Str):List Str:=ys.foldl addS []
theorem zj5(ys:List Str)(z:Str):allS (ys++[z])=addS (allS ys) z:=by unfold allS;rw[List.foldl_append];rfl
theorem zlt{ds:List Str}{z y:Str}:y∈addS ds z ↔ y∈ds\/y=z:=by
 unfold addS
 split
 ·exact⟨.inl,fun h=>h.elim id fun e=>by rw[e];assumption⟩
 ·rw[yU,yH]
theorem zlu{ds:List Str}{z:Str}:(addS ds z).length<=ds.length+1:=by
 unfold addS
 split
 ·lia
 ·rw[yC];exact yO _
theorem zgy{y:Str}:∀(ys ds:List Str),y∈ys.foldl addS ds ↔ y∈ds\/y∈ys
 |[],ds=>by simp
 |z::ys,ds=>by rw[wN,zgy ys,zlt,yG];exact or_assoc
theorem zgz:∀(ys ds:List Str),(ys.foldl addS ds).length<=ds.length+ys.length
 |[],ds=>by simp
 |z::ys,ds=>by
  have h1:=zgz ys (addS ds z)
  have h2:=zlu (ds:=ds) (z:=z)
  rw[wN,yF]
  lia
theorem zlv{ys:List Str}{y:Str}:y∈allS ys ↔ y∈ys:=by unfold allS;rw[zgy];simp
theorem zhY(ys:List Str):(allS ys).length<=ys.length:=by have:=zgz ys [];simpa [allS] using this
theorem zhg{R:Result->Shared->Prop}{I:Addr}{fp wr:List Addr}{G:Array GenState->Array GenState->Prop}{Pi:Nat->Value->Prop}{St:Nat->Shared->Prop}(ys:List Str)
  (Wk:WalksS P w A.in1 I fp wr G ys.length Pi St) (S:Addr) (hSf:S ∉ fp) (hk:∀i v,Pi i v->∃z tk,ys[i]?=some z/\v=.str z tk) (hb:ys.length+1<scanBound):
  ∀(m i:Nat)(s:Shared),m+i=ys.length->St i s->zbX P w S (allS (ys.take i)) s.heap->
   (∀s',Moved (S::wr) G s s'->zbX P w S (allS ys) s'.heap->R (.ok (.ret .none)) s')->codeAny (model P w) A (.builtin "set.update.loop" ⟨[.ref S,.ref I],[]⟩) R s:=by
 have out:S ∉ wr:=fun z=>hSf (Wk.sub _ z)
 have wid:∀b∈wr,b∈S::wr:=fun b z=>.tail _ z
 have held:∀(s s':Shared)(ds:List Str),zbX P w S ds s.heap->(∀o,s.heap.get? S=some o->s'.heap.get? S=some o)->zbX P w S ds s'.heap:=fun s s' ds ⟨o,es,ep,t,ho,rest⟩ k=>⟨o,es,ep,t,k o ho,rest⟩
 intro m
 induction m with
 |zero=>
  intro i s hi st hs fin
  obtain rfl:i=ys.length:=by lia
  rw[xO] at hs
  refine codeAny_builtin PyProof.Rows.F.entry_set_update_loop ?_
  rw[Around.under_plainId PyProof.Rows.F.plain_set_update_loop _]
  refine (show wpAny _ A.in1 (pyNext (.ref I)>>=_) _ _ s from uW (Wk.done s _ _ st fun s' mv=>?_))
  exact (show wpAny _ A.in1 (ret Value.none) _ _ s' from uX (fin s' (mv.mono wid) (held s s' _ hs fun o e=>mv.heap S o out e)))
 |succ m ih=>
  intro i s hi st hs fin
  have lt:i<ys.length:=by lia
  refine codeAny_builtin PyProof.Rows.F.entry_set_update_loop ?_
  rw[Around.under_plainId PyProof.Rows.F.plain_set_update_loop _]
  refine (show wpAny _ A.in1 (pyNext (.ref I)>>=_) _ _ s from uW (Wk.item i s _ _ lt st fun v s' hv st' mv=>?_))
  obtain⟨z,tk,hz,rfl⟩:=hk i v hv
  have hs':=held s s' _ hs fun o e=>mv.heap S o out e
  refine (show wpAny _ A.in1 (holding [.str z tk] (setAdd S (.str z tk))>>=_) _ _ s' from uW (wpAny_holding ?_))
  unfold setAdd
  refine wpAny_holding (uW ((Zl P w).pyHash (k:=.inr z) (ZS P w z tk) ?_))
  have hl:=zhY (ys.take i)
  rw[yY] at hl
  refine ziQ (s:={s' with toks:=s'.toks+1}) hs' (by lia) fun b h' sb S2=>?_
  rw[←zj5,show ys.take i++[z]=ys.take (i+1) by rw[List.take_succ,hz];rfl] at S2
  refine uX ⟨plainId_quiet PyProof.Rows.F.plain_set_update_loop _,ih (i+1) _ (by lia) (Wk.frame _ s' _ _ st' (vK _) fun b hb' o e=>?_) S2 fun s'' mv'' z'=>?_⟩
  ·rw[sb.2 b (fun z:b=S=>hSf (by rw[←z];exact hb'))];exact e
  ·refine fin s'' (Moved.trans Wk.gtrans ((mv.mono wid).then_heap (vK _) fun b o hb' e=>?_) mv'') z'
   rw[sb.2 b (fun y:b=S=>hb' (by rw[y];exact yV))];exact e
end
section
variable{P:Program}{w:World}{A:Around}{E:Value->Shared->Prop}
abbrev setO(led:Bool):Obj:={cls:=.type "set",dict:=none,data:=.set #[] 0 (.fresh 0 0 led)}
theorem ziR{s:Shared}(a:Value){Q₁:Value->Shared->Prop}(h:Q₁ (.ref s.heap.objs.size) {s with heap:=s.heap.push (setO (!byTx w))}):
  codeAny (model P w) A (.call (.builtin "set.__new__") ⟨[.type "set",a],[]⟩) (wants Q₁ E) s:=by
 refine codeAny_of_tree (show wpAny _ A.in1 (checkBuiltinCall "set.__new__" ⟨[.type "set",a],[]⟩>>=fun _=>again (.builtin "set.__new__" ⟨[.type "set",a],[]⟩)) _ _ s from ?_)
 refine uW (wpAny_of_eq (PySem.F.newCall_set_1 a) (uX ⟨plainId_quiet PySem.F.plain_set_new _,codeAny_builtin PySem.F.entry_set_new ?_⟩))
 rw[Around.under_plainId PySem.F.plain_set_new _]
 unfold Builtin.«set.__new__» Builtin.Frozenset.newClass
 have hsub:=PySem.sub_set_self
 obtain⟨hp,g,d,tk,os⟩:=s
 dsimp only
 wp_walk
 refine wpAny_askSetting (uX ?_)
 simp only[newObj]
 exact uW (wpAny_alloc (uX (uX h)))
set_option maxHeartbeats 8000000 in
theorem zj6{s:Shared}{l:Addr}{items:Array Value}{ys:List Str}{Q:Value->Shared->Prop}(hh:A.handled=none)(hl:s.heap.IsList l items)(hz:items.size=ys.length)
  (hk:∀(i:Nat)(v:Value),items[i]?=some v->∃z tk,ys[i]?=some z/\v=.str z tk) (hb:ys.length+1<scanBound)
  (h:∀(h':Heap)(tk:Nat),zbX P w s.heap.objs.size (allS ys) h'->(∀b o,b<s.heap.objs.size->s.heap.get? b=some o->h'.get? b=some o)->Q (.ref s.heap.objs.size) {s with heap:=h',toks:=tk}):
  wpAny (model P w) A (call (.type "set") [.ref l]) Q E s:=by
 obtain⟨_,_,hmro⟩:=PySem.F.called_set.mro
 have hmade:=PySem.F.called_set.made
 have hsub:=PySem.F.called_set.sub
 refine wpAny_call (codeAny_of_tree (show wpAny _ _ (callAny (.type "set") _) _ _ _ from uX ⟨Code.quiet_builtin _ (by decide +kernel),codeAny_builtin PySem.F.entry_type_call ?_⟩))
 rw[Around.under_plain (weight_type_call_type "set" [.ref l] []) rfl]
 have h1:=PySem.F.called_set.notType
 have h2:=PySem.F.called_set.canCreate
 have hct:=PySem.F.typeCall_set_1 (.ref l)
 repeat any_goals (first|assumption|wp_step)
 refine codeAny_mono (ziR (.ref l) (E:=E) (Q₁:=fun obj s₁=>obj=.ref s.heap.objs.size/\s₁={s with heap:=s.heap.push (setO (!byTx w))}) ⟨rfl,rfl⟩) fun r s₁ hr=>?_
 cases r with
 |error e=>exact hr
 |ok fl=>
  cases fl with
  |ret obj=>
   obtain⟨rfl,rfl⟩:=hr
   have gS:(s.heap.push (setO (!byTx w))).get? s.heap.objs.size=some (setO (!byTx w)):=tD _ rfl
   have tS:Shared.TypeIs {s with heap:=s.heap.push (setO (!byTx w))} (.ref s.heap.objs.size) "set":=⟨_,gS,rfl⟩
   have hli:=PySem.F.called_set.init.lookup
   have hbi:=PySem.F.called_set.init.bind (.ref s.heap.objs.size)
   repeat any_goals (first|assumption|wp_step)
   refine codeAny_mono (codeAny_call_builtin (R:=wants (fun r s₂=>r=.none/\∃h' tk,s₂={s with heap:=h',toks:=tk}/\zbX P w s.heap.objs.size (allS ys) h'/\∀b o,b<s.heap.objs.size->s.heap.get? b=some o->h'.get? b=some o) E)
    PySem.F.called_set.init.plain PySem.F.entry_set_init (check_set_init_1 tS ?_)) fun r₂ s₂ hr₂=>?_
   ·obtain⟨ol,hol,hcl,nl,hdl⟩:=hl
    obtain⟨ocls,odict,odata,oslots⟩:=ol
    simp only at hcl hdl
    subst hcl hdl
    have hol':(s.heap.push (setO (!byTx w))).get? l=some {cls:=.type "list",dict:=odict,data:=.seq items nl,slots:=oslots}:=uY _ hol
    have hsls:=PySem.F.sub_list_set
    have hslf:=PySem.F.sub_list_frozenset
    have hne:(Value.type "list"==Value.type "dict")=false:=by decide
    have hl1:(s.heap.push (setO (!byTx w))).IsList l items:=⟨_,hol',rfl,nl,rfl⟩
    unfold Builtin.«set.__init__» noKeywords Builtin.Frozenset.updateFrom
    generalize hPI:pyIter=PI
    wp_walk
    subst hPI
    refine wpAny_pyIter_list hl1 (uW (wpAny_runValue ?_))
    have hlS:l<s.heap.objs.size:=uZ hol
    have hh3:A.in1.in1.in1.handled=none:=by simp[hh]
    have sz:(s.heap.push (setO (!byTx w))).objs.size=s.heap.objs.size+1:=Heap.size_push ..
    have n1:l≠(s.heap.push (setO (!byTx w))).objs.size:=by rw[sz];exact xA (vT hlS)
    have n2:s.heap.objs.size ∉ [(s.heap.push (setO (!byTx w))).objs.size,l]:=by
     intro z
     rcases yG.mp z with z|z
     ·rw[sz] at z
      exact absurd z (xA (vC _))
     ·exact absurd (yH.mp z) (Nat.ne_of_gt hlS)
    have Wl:=(Walks.list (prog:=P) (w:=w) hh3 _ l n1 items).toS
    rw[hz] at Wl
    refine zhg ys Wl s.heap.objs.size n2 (fun i v hv=>hk i v hv) hb ys.length 0 _ (by lia)
     ⟨⟨_,tD _ rfl,rfl,rfl⟩,(hl1.push _)⟩ ?c0 ?cR
    case c0=>
     have hget:=uY {cls:=.type "list_iterator",data:=.fields #[.ref l,.int 0 0]} gS
     exact⟨_,#[],0,_,hget,⟨rfl,rfl,rfl⟩,rfl,(fun e he=>by simp at he),(fun e he=>by simp at he),(by simp[allS]),by decide,by rfl,rfl,.inl rfl⟩
    case cR=>
     intro s' hm hS'
     obtain⟨h',g',d',tk',os'⟩:=s'
     have eg:g'=s.gens:=hm.gens
     have ed:d'=s.drawn:=hm.drawn
     have eo:os'=s.os:=hm.os
     subst eg ed eo
     refine uX (show wpAny _ _ (ret Value.none) _ _ _ from uX ⟨rfl,h',tk',rfl,hS',fun b o hb e=>?_⟩)
     refine hm.heap b o ?_ (uY _ (uY _ e))
     intro z
     rcases yG.mp z with z|z
     ·exact absurd z (xA hb)
     ·have z:=yH.mp z
      rw[sz] at z
      exact absurd z (xA (vT hb))
   ·cases r₂ with
    |error e=>exact hr₂
    |ok fl₂=>
     cases fl₂ with
     |ret r=>
      obtain⟨rfl,h',tk,rfl,hS',hk'⟩:=hr₂
      repeat any_goals (first|assumption|wp_step)
      exact h _ _ hS' hk'
     |_=>exact hr₂.elim
  |_=>exact hr.elim
end
noncomputable def SetH(P:Program)(w:World)(a:Addr)(ds:List Str):HO:=.ext (zbX P w a ds)
theorem zhh{X:Cx}(hc:X.calm=true):zaQ X (.type "set") (fun xs H Q=>∃(p:Addr)(ys:List Str),xs=[.ref p]/\SqL X.K H p (ys.map V.str)/\ys.length<=1000/\∀l,H l=none->Q (.ref l) (upd H l (SetH X.prog X.w l (allS ys)))):=by
 intro zp s σ H xs us Q I r h
 obtain⟨p,ys,rfl,hq,hz,q⟩:=h
 obtain⟨u,rfl,rx⟩:=zb5 r
 cases rx
 obtain⟨its,rv,pl,_⟩:=I.list hq
 have l1:=rv.length
 rw[yA] at l1
 have lz:its.toArray.size=ys.length:=by rw[yI,l1]
 refine zj6 (I.ok.hd hc) pl.isList lz (fun i v hv=>?_) (by unfold scanBound;lia) (fun h' tk hS kp=>?_)
 ·have hv':its[i]?=some v:=by simpa using hv
  have hi:i<ys.length:=by rw[l1];exact (yE.mp hv').1
  obtain⟨u1,hu1,t1,rfl⟩:=rv.get (i:=i) (x:=V.str ys[i]) (by rw[yN,yB hi];rfl)
  rw[hu1] at hv'
  cases hv'
  exact⟨_,_,yB hi,rfl⟩
 ·have kp':∀b o,s.heap.get? b=some o->h'.get? b=some o:=fun b o e=>kp b o (uZ e) e
  refine⟨.ref s.heap.objs.size,_,I.laid (t':=tk) kp' (yO _) (show zal X.prog X.w _ h' _ (SetH X.prog X.w s.heap.objs.size (allS ys)) from⟨hS,?_,fun h1 h2 ⟨o,es,ep,t,ho,rest⟩ hk=>⟨o,es,ep,t,hk o ho,rest⟩⟩),rfl,q _ (I.hok.fresh (yO _))⟩
  obtain⟨o,es,ep,t,ho,rest⟩:=hS
  exact⟨o,ho⟩
theorem Z1:Slot "set_iterator" "__next__" "set_iterator.__next__":=
 .of (owner:="set_iterator") (n:="__next__") (by rw[typeLookup_type,builtinLookup_eq_fast];kernel_rfl)
  (by decide +kernel) (by decide +kernel) (by decide +kernel) (.inl (by decide +kernel)) (by rw[isSubtype_type];kernel_rfl)
theorem zcI:Slot "set_iterator" "__iter__" "set_iterator.__iter__":=
 .of (owner:="set_iterator") (n:="__iter__") (by rw[typeLookup_type,builtinLookup_eq_fast];kernel_rfl)
  (by decide +kernel) (by decide +kernel) (by decide +kernel) (.inl (by decide +kernel)) (by rw[isSubtype_type];kernel_rfl)
theorem zeL:entryFor table "set_iterator.__next__"=some Builtin.«set_iterator.__next__»:=entryFor_of_tree (by kernel_rfl)
theorem zeM:entryFor table "set_iterator.__iter__"=some Builtin.«dict_keyiterator.__iter__»:=
 entryFor_alias (id':="dict_keyiterator.__iter__") (by kernel_rfl) (by decide +kernel) (by decide +kernel) (by kernel_rfl)
theorem zeN:entryFor table "set.__iter__"=some Builtin.«frozenset.__iter__»:=
 entryFor_alias (id':="frozenset.__iter__") (by kernel_rfl) (by decide +kernel) (by decide +kernel) (by kernel_rfl)
theorem zgA:Manifest.owners.lookup (String.ofList "rotareti_tes".toList.reverse)=some Manifest.sig_set_iterator:=by kernel_rfl
theorem zfK(a:Value):argsOk "set_iterator.__next__" ⟨[a],[]⟩:=by
 unfold argsOk
 rw[signature?_of (id:="set_iterator.__next__") (n:="__txen__".toList) (o:="rotareti_tes".toList) (by kernel_rfl) zgA]
 kernel_rfl
theorem zfL(a:Value):argsOk "set_iterator.__iter__" ⟨[a],[]⟩:=by
 unfold argsOk
 rw[signature?_of (id:="set_iterator.__iter__") (n:="__reti__".toList) (o:="rotareti_tes".toList) (by kernel_rfl) zgA]
 kernel_rfl
theorem zfe{α:Type}{l:List α}{i:Nat}(h:i<l.length):(l[i]::l.eraseIdx i).Perm l:=by
 rw[List.eraseIdx_eq_take_drop_succ]
 refine List.perm_middle.symm.trans ?_
 rw[List.getElem_cons_drop h,wM]
theorem zj7{α:Type}(nx:Nat->Nat):∀(fuel k:Nat)(left:List α)(out:Array α),fuel=left.length->(pickOrder.go nx fuel k left out).toList.Perm (out.toList++left)
 |0,k,left,out,h=>by
  have:left=[]:=yR.mp h.symm
  subst this
  unfold pickOrder.go
  simp
 |fuel+1,k,left,out,h=>by
  have hpos:0<left.length:=by lia
  have hi:nx k % left.length<left.length:=Nat.mod_lt _ hpos
  unfold pickOrder.go
  rw[yB hi]
  refine (zj7 nx fuel (k+1) _ _ (by rw[uG,if_pos hi];lia)).trans ?_
  rw[uS,xI]
  exact uU.append_left _ (zfe hi)
theorem zj8{α:Type}(nx:Nat->Nat)(xs:Array α):(pickOrder nx xs).toList.Perm xs.toList:=by
 have:=zj7 nx xs.size 0 xs.toList #[] (by rw[xR])
 simpa [pickOrder] using this
section
variable{P:Program}{w:World}{A:Around}{E:Value->Shared->Prop}
theorem zlw{α:Type}(n:Nat):∀(xs:List α)(s:Shared)(Q:List α->Shared->Prop),xs.length=n->(∀(ys:List α) d',ys.Perm xs->Q ys {s with drawn:=d'})->wpAny (model P w) A (drawOrder n xs) Q E s:=by
 induction n with
 |zero=>
  intro xs s Q h q
  have:xs=[]:=yR.mp h
  subst this
  unfold drawOrder
  exact uX (q [] s.drawn .nil)
 |succ n ih=>
  intro xs s Q h q
  cases xs with
  |nil=>cases h
  |cons x xs=>
  unfold drawOrder
  refine uW (fun Γ p hΓ=>?_)
  show Sem.wp _ _ (Sem.choose .order (x::xs).length Sem.pure) _ _ _ _
  rw[Sem.wp_choose]
  refine⟨by simp,?_⟩
  rw[Sem.wp_pure]
  have hi:(model P w).w.draws .order (s.drawn.get .order) % (x::xs).length<(x::xs).length:=Nat.mod_lt _ (by simp)
  generalize (model P w).w.draws .order (s.drawn.get .order) % (x::xs).length=i at hi ⊢
  show wpAny (model P w) A (match (x::xs)[i]? with|some y=>drawOrder n ((x::xs).eraseIdx i)>>=fun l=>pure (y::l)|none=>unsupported "internal:drawOrder") Q E _
  rw[yB hi]
  refine uW (ih _ _ _ (by rw[uG,if_pos hi];lia) fun ys d' hp=>uX (q _ d' ?_))
  exact (uU.cons _ hp).trans (zfe hi)
end
def ItAt(w:World)(I a pl:Addr)(es:Array (Int×Value))(ep:Nat)(t:SetTable)(ord:List Value)(i:Nat)(h:Heap):Prop:=
 (∃o,h.get? a=some o/\o.data=.set es ep t)/\∃(oI:Obj)(first:Value),h.get? I=some oI/\oI.cls=.type "set_iterator"/\oI.data=.fields #[first,rawInt i,.ref a,rawInt es.size,rawInt ep] /\
  ((byTx w=true/\first=rawInt 0/\ord=(pickOrder (w.params.setOrder a ep) es).toList.map (·.2)) \/
   (byTx w=false/\∃(ps:List Nat)(op:Obj)(c:Nat),first=.ref pl/\h.get? pl=some op/\op.data=.seq (ps.map fun (p:Nat)=>rawInt p).toArray c/\ord.length=ps.length/\∀(j p:Nat),ps[j]?=some p->∃e,es[p]?=some e/\ord[j]?=some e.2) \/
   (byTx w=false/\es.size<=1/\t.led=true/\ord=es.toList.map (·.2)/\∃sl:Nat,first=rawInt sl/\(i=0->sl=0)/\(0<i->∀j,t.place[0]?=some j->sl=j+1)))
section
variable{P:Program}{w:World}{A:Around}{E:Value->Shared->Prop}
theorem zm6{s:Shared}{Q:PySem.Fin->Shared->Prop}{E':Value->Shared->Prop}(hh:A.handled=none)
  (h:∀(x:Addr)(h':Heap),(∀b o,s.heap.get? b=some o->h'.get? b=some o)->(∃o,h'.get? x=some o/\o.cls=.type "StopIteration")->E' (.ref x) {s with heap:=h'}):
  wpAny (model P w) A (newExc (.type "StopIteration") []>>=fun e=>raiseNew e) Q E' s:=by
 refine uW ?_
 simp only[newExc,newTuple]
 refine uW (tI ?_ (by size_fits))
 refine uW (m:=firstArgMember _ _) (wpAny_of_eq (a:=Value.none) (by first|rfl|(simp only[firstArgMember];rfl)) ?_)
 refine tI ?_ (by size_fits)
 simp only[raiseNew]
 refine uW (wpAny_handled ?_)
 rw[hh]
 refine uW (uX (wpAny_throw (h _ _ (fun b o e=>uY _ (uY _ e)) ⟨_,tD _ rfl,rfl⟩)))
theorem zcJ{s:Shared}{Q:Bool->Shared->Prop}(h:Q (byTx w) s):wpAny (model P w) A setsByText Q E s:=by
 unfold setsByText
 exact uW (wpAny_askSetting (uX h))
theorem zlx{s:Shared}{a:Addr}{oa:Obj}{es:Array (Int×Value)}{ep sl g:Nat}{t:SetTable}{Q:Option (Value×Nat)->Shared->Prop}(hb:byTx w=true)(hoa:s.heap.get? a=some oa)(hda:oa.data=.set es ep t)(hf:t.fits es.size=true)
  (h:Q (((pickOrder (w.params.setOrder a ep) es)[g]?).map fun e=>(e.2,sl)) s):wpAny (model P w) A (setNext a sl g ep) Q E s:=by
 unfold setNext
 refine uW (wpAny_setState_of hoa hda hf (uW (zcJ ?_)))
 rw[hb]
 simp only[↓reduceIte,bne_self_eq_false,wG]
 unfold setWalk
 refine uW (uW (wpAny_setState_of hoa hda hf (uW (zcJ ?_))))
 rw[hb]
 simp only[↓reduceIte]
 exact uW (wpAny_askSetting (uX (uX h)))
theorem zly{s:Shared}{a:Addr}{oa:Obj}{es:Array (Int×Value)}{ep sl g:Nat}{t:SetTable}{Q:Option (Value×Nat)->Shared->Prop}(hb:byTx w=false)(hled:t.led=true)(h1:es.size<=1)(hoa:s.heap.get? a=some oa)(hda:oa.data=.set es ep t)(hf:t.fits es.size=true)
  (h:Q (match es[SetTable.below t.place sl]?,t.place[SetTable.below t.place sl]? with|some (_,x),some j=>some (x,j+1)|_,_=>none) s):wpAny (model P w) A (setNext a sl g ep) Q E s:=by
 unfold setNext
 refine uW (wpAny_setState_of hoa hda hf (uW (zcJ ?_)))
 rw[hb]
 simp only[↓reduceIte,wG]
 split
 ·rename_i hd
  have hd':(!t.plain&&decide (es.size > 1))=true:=hd
  rw[yZ,decide_eq_true_eq] at hd'
  lia
 ·refine uW (show wpAny _ _ (if (!t.led && !es.isEmpty)=true then unsupported "set:maker-not-led" else pure ()) _ _ s from ?_)
  rw[hled,Bool.not_true,wI,if_neg yT]
  exact uX (uX h)
theorem zj9{s:Shared}{a:Addr}{oa:Obj}{es:Array (Int×Value)}{ep p:Nat}{t:SetTable}{e:Int×Value}{Q:Value->Shared->Prop}(hoa:s.heap.get? a=some oa)(hda:oa.data=.set es ep t)(hf:t.fits es.size=true)(he:es[p]?=some e)(h:Q e.2 s):
  wpAny (model P w) A (setNextDrawn a p ep) Q E s:=by
 unfold setNextDrawn
 refine uW (wpAny_setState_of hoa hda hf ?_)
 simp only[bne_self_eq_false,wG,↓reduceIte]
 rw[he]
 exact uX h
theorem zog{xs:Array Nat}(h:xs.size=1):∃j,xs=#[j]:=by
 obtain⟨l⟩:=xs
 match l,h with
 |[j],_=>exact⟨j,rfl⟩
theorem zka{t:SetTable}{j:Nat}(h:t.place=#[j]):SetTable.below t.place 0=0/\SetTable.below t.place (j+1)=1:=by
 rw[h]
 unfold SetTable.below
 constructor
 ·simp[SetTable.below.go]
 ·simp[SetTable.below.go]
theorem zkb{t:SetTable}{j:Nat}(h:t.place=#[]):SetTable.below t.place j=0:=by
 rw[h]
 rfl
theorem fld{h:Heap}{I:Addr}{o:Obj}{vs:Array Value}(ho:h.get? I=some o)(hd:o.data=.fields vs)(k:Nat)(x:Value):
  (∃o',(h.update I (Obj.mapFields (·.setIfInBounds k x))).get? I=some o'/\o'.cls=o.cls/\o'.data=.fields (vs.setIfInBounds k x))/\∀b q,b≠I->h.get? b=some q->(h.update I (Obj.mapFields (·.setIfInBounds k x))).get? b=some q:=
 ⟨⟨_,Heap.get?_update_self _ ho (Obj.isFreed_of_fields (Obj.data_mapFields hd _)),Obj.cls_mapFields ..,Obj.data_mapFields hd _⟩,fun b q hb e=>(Heap.get?_update_other _ _ (Ne.symm hb)).trans e⟩
theorem zhZ{s:Shared}{I a pl:Addr}{es:Array (Int×Value)}{ep:Nat}{t:SetTable}{ord:List Value}{i:Nat}{Q:Option Value->Shared->Prop}(hh:A.handled=none)(hf:t.fits es.size=true)(hz:ord.length=es.size)(hne:a≠I)(hnp:pl≠I)
  (h:ItAt w I a pl es ep t ord i s.heap)
  (item:∀(v:Value)(h':Heap),ord[i]?=some v->ItAt w I a pl es ep t ord (i+1) h'->(∀b o,b≠I->s.heap.get? b=some o->h'.get? b=some o)->Q (some v) {s with heap:=h'})
  (done:ord[i]?=none->∀h':Heap,(∀b o,b≠I->s.heap.get? b=some o->h'.get? b=some o)->Q none {s with heap:=h'}):
  wpAny (model P w) A (pyNext (.ref I)) Q E s:=by
 obtain⟨⟨oa,hoa,hda⟩,oI,first,hI,hc,hd,mode⟩:=h
 have hT:s.TypeIs (.ref I) "set_iterator":=⟨oI,hI,hc⟩
 unfold pyNext
 refine uW (wpAny_attempt (wpAny_callSpecial?_slot (name:=uV "__next__") hT Z1 (wpAny_call_entry Z1 hT zeL ?_ (zfK _))))
 unfold Builtin.«set_iterator.__next__»
 refine uW (uX (uW (wpAny_fieldsOf hI hd ?_)))
 have stop:∀(h2:Heap),ord[i]?=none->(∀b o,b≠I->s.heap.get? b=some o->h2.get? b=some o)->wpAny (model P w) A.in1 (newExc (.type "StopIteration") []>>=fun e=>(raiseNew e:Sem PySem.Fin)) (fun fin s'=>∃v,fin=.done (.ret v)/\wpAny (model P w) A (match (Except.ok (some v):Except Value (Option Value)) with|Except.ok (some v)=>pure (some v)|Except.ok none=>unsupported "iter:the-iterator's-class-has-lost-its-__next__-amid-the-walk"|Except.error e=>do
   let b ←isInstance e (Value.type "StopIteration")
   if b=true then pure none else throw e) Q E s') (fun e s'=>wpAny (model P w) A (match (Except.error e:Except Value (Option Value)) with|Except.ok (some v)=>pure (some v)|Except.ok none=>unsupported "iter:the-iterator's-class-has-lost-its-__next__-amid-the-walk"|Except.error e=>do
   let b ←isInstance e (Value.type "StopIteration")
   if b=true then pure none else throw e) Q E s') {s with heap:=h2}:=fun h2 hn hk=>by
  refine zm6 (A:=A.in1) (by simpa using hh) fun x h' hk' hx=>?_
  obtain⟨ox,hox,hcx⟩:=hx
  refine uW (wpAny_isInstance (T:="StopIteration") (b:=true) ⟨ox,hox,hcx⟩ isSubtype_stop ?_)
  exact uX (done hn h' fun b o hb e=>hk' b o (hk b o hb e))
 refine uW (wpAny_setEntries_of hoa hda hf ?_)
 rw[if_neg (by simp)]
 have hlt:∀ {v},ord[i]?=some v->i<es.size:=fun {v} e=>by rw[←hz];exact (yE.mp e).1
 rcases mode with⟨hb,rfl,hord⟩|⟨hb,ps,op,c,rfl,hop,hdp,hlen,hps⟩|⟨hb,h1,hled,hord,sl,rfl,hs0,hs1⟩
 ·refine uW (zlx hb hoa hda hf ?_)
  have hoi:ord[i]?=((pickOrder (w.params.setOrder a ep) es)[i]?).map (·.2):=by rw[hord,yN,wV]
  show wpAny _ _ (match (((pickOrder (w.params.setOrder a ep) es)[i]?).map fun e=>(e.2,(0:Nat))) with|some (x,next)=>_|none=>_) _ _ s
  cases hp:(pickOrder (w.params.setOrder a ep) es)[i]? with
  |none=>
   rw[hp] at hoi
   obtain⟨⟨o1,g1,c1,d1⟩,k1⟩:=fld hI hd 2 .none
   exact uW (wpAny_setField hI hd (by simp) (stop _ hoi k1))
  |some e=>
   rw[hp] at hoi
   obtain⟨⟨o1,g1,c1,d1⟩,k1⟩:=fld hI hd 0 (rawInt (0:Nat))
   obtain⟨⟨o2,g2,c2,d2⟩,k2⟩:=fld g1 d1 1 (rawInt ((i:Int)+1))
   refine uW (wpAny_setField hI hd (by simp) (uW (wpAny_setField g1 d1 (by simp) ?_)))
   have kk:∀b q,b≠I->s.heap.get? b=some q->_:=fun b q hb e'=>k2 b q hb (k1 b q hb e')
   exact uX ⟨_,rfl,uX (item _ _ hoi ⟨⟨oa,kk a _ hne hoa,hda⟩,o2,rawInt 0,g2,c2.trans (c1.trans hc),by rw[d2];simp[rawInt],.inl ⟨hb,rfl,hord⟩⟩ kk)⟩
 ·refine uW (wpAny_seqItems hop hdp ?_)
  show wpAny _ _ (match ((ps.map fun (p:Nat)=>rawInt p).toArray)[i]? with|some (Value.int place tok)=>_|some _=>_|none=>_) _ _ s
  rw[List.getElem?_toArray,yN]
  cases hp:ps[i]? with
  |none=>
   have hoi:ord[i]?=none:=wF (by rw[hlen];exact List.getElem?_eq_none_iff.mp hp)
   obtain⟨⟨o1,g1,c1,d1⟩,k1⟩:=fld hI hd 0 (rawInt 0)
   obtain⟨⟨o2,g2,c2,d2⟩,k2⟩:=fld g1 d1 2 .none
   exact uW (wpAny_setField hI hd (by simp) (uW (wpAny_setField g1 d1 (by simp) (stop _ hoi fun b q hb e'=>k2 b q hb (k1 b q hb e')))))
  |some p=>
   obtain⟨e,he,hoi⟩:=hps i p hp
   obtain⟨⟨o1,g1,c1,d1⟩,k1⟩:=fld hI hd 1 (rawInt ((i:Int)+1))
   refine uW (show wpAny _ _ (setNextDrawn a p ep) _ _ s from zj9 hoa hda hf he (uW (wpAny_setField hI hd (by simp) ?_)))
   exact uX ⟨_,rfl,uX (item _ _ hoi ⟨⟨oa,k1 a _ hne hoa,hda⟩,o1,_,g1,c1.trans hc,by rw[d1];simp[rawInt],.inr (.inl ⟨hb,ps,op,c,rfl,k1 pl _ hnp hop,hdp,hlen,hps⟩)⟩ k1)⟩
 ·refine uW (zly hb hled h1 hoa hda hf ?_)
  have hpz:t.place.size=es.size:=by
   have:=hf
   unfold SetTable.fits at this
   rw[yZ,beq_iff_eq] at this
   exact this.1
  show wpAny _ _ (match (match es[SetTable.below t.place sl]?,t.place[SetTable.below t.place sl]? with|some (_,x),some j=>some (x,j+1)|_,_=>none) with|some (x,next)=>_|none=>_) _ _ s
  have fin:ord[i]?=none->wpAny (model P w) A.in1 (setField (.ref I) 2 .none>>=fun _=>newExc (.type "StopIteration") []>>=fun e=>(raiseNew e:Sem PySem.Fin)) _ _ s:=fun hoi=>by
   obtain⟨⟨o1,g1,c1,d1⟩,k1⟩:=fld hI hd 2 .none
   exact uW (wpAny_setField hI hd (by simp) (stop _ hoi k1))
  by_cases h0:es.size=0
  ·have hp0:t.place=#[]:=Array.eq_empty_of_size_eq_zero (by lia)
   rw[zkb hp0,vY (by lia)]
   exact fin (wF (by lia))
  ·have he1:es.size=1:=by lia
   obtain⟨j,hj⟩:∃j,t.place=#[j]:=by
    have:t.place.size=1:=by lia
    exact zog this
   obtain⟨b0,b1⟩:=zka hj
   by_cases hi0:i=0
   ·subst hi0
    rw[hs0 rfl,b0,hj,wC (show 0<es.size by lia)]
    obtain⟨⟨o1,g1,c1,d1⟩,k1⟩:=fld hI hd 0 (rawInt ((j+1:Nat):Int))
    obtain⟨⟨o2,g2,c2,d2⟩,k2⟩:=fld g1 d1 1 (rawInt (((0:Nat):Int)+1))
    have hoi:ord[0]?=some es[0].2:=by rw[hord,yN,wV,wC (show 0<es.size by lia)];rfl
    have kk:∀b q,b≠I->s.heap.get? b=some q->_:=fun b q hb e'=>k2 b q hb (k1 b q hb e')
    refine uW (wpAny_setField hI hd (by simp) (uW (wpAny_setField g1 d1 (by simp) ?_)))
    exact uX ⟨_,rfl,uX (item _ _ hoi ⟨⟨oa,kk a _ hne hoa,hda⟩,o2,rawInt ((j+1:Nat):Int),g2,c2.trans (c1.trans hc),by rw[d2];simp[rawInt],.inr (.inr ⟨hb,h1,hled,hord,j+1,rfl,(fun z=>by lia),fun _ j' hj'=>by rw[hj] at hj';simpa using hj'⟩)⟩ kk)⟩
   ·rw[hs1 (by lia) j (by rw[hj];rfl),b1,vY (by lia)]
    exact fin (wF (by lia))
theorem zlz(hh:A.handled=none)(I a pl:Addr){es:Array (Int×Value)}{ep:Nat}{t:SetTable}{ord:List Value}(hf:t.fits es.size=true)(hz:ord.length=es.size)(hne:a≠I)(hnp:pl≠I):
  Walks P w A I [I,a,pl] [I] ord.length (fun i v=>ord[i]?=some v) (fun i h=>ItAt w I a pl es ep t ord i h) where
 sub:=fun b hb=>by rw[yH.mp hb];exact yV
 frame:=fun i h h' st hk=>by
  obtain⟨⟨oa,hoa,hda⟩,oI,first,hI,hc,hd,mode⟩:=st
  refine⟨⟨oa,hk a (by simp) _ hoa,hda⟩,oI,first,hk I (by simp) _ hI,hc,hd,?_⟩
  rcases mode with m|⟨hb,ps,op,c,e1,hop,rest⟩|m
  ·exact .inl m
  ·exact .inr (.inl ⟨hb,ps,op,c,e1,hk pl (by simp) _ hop,rest⟩)
  ·exact .inr (.inr m)
 item:=fun i s Q E hi st hQ=>by
  refine zhZ hh hf hz hne hnp st (fun v h' hv st' kp=>hQ v h' s.toks hv st' fun b o hb e=>kp b o (fun z=>hb (by simp[z])) e) (fun hn=>?_)
  rw[yB hi] at hn
  cases hn
 done:=fun s Q E st hQ=>by
  refine zhZ hh hf hz hne hnp st (fun v h' hv=>?_) (fun hn h' kp=>hQ h' s.toks fun b o hb e=>kp b o (fun z=>hb (by simp[z])) e)
  rw[wF (yO _)] at hv
  cases hv
 self:=fun i s Q E st hQ=>by
  obtain⟨_,oI,first,hI,hc,_⟩:=st
  have hT:s.TypeIs (.ref I) "set_iterator":=⟨oI,hI,hc⟩
  refine wpAny_pyIter_slot hT zcI (wpAny_call_entry zcI hT zeM ?_ (zfL _))
  exact (show wpAny _ _ (ret (Value.ref I)) _ _ s from uX ⟨_,rfl,"set_iterator",_,hT,Z1.lookup,hQ⟩)
theorem zlA{s:Shared}{a:Addr}{ds:List Str}{Q:Value->Shared->Prop}(hS:zbX P w a ds s.heap)
  (h:∀(I pl:Addr)(h':Heap)(d':Drawn)(es:Array (Int×Value))(ep:Nat)(t:SetTable)(ord:List Value),(∀b o,s.heap.get? b=some o->h'.get? b=some o)->s.heap.objs.size<=I->pl≠I->(pl=a\/s.heap.objs.size<=pl)->t.fits es.size=true->ord.length=es.size->ord.Perm (es.toList.map (·.2))->(∀v∈ord,∃z tk,v=.str z tk)->(ord.map txOf).Perm ds->ItAt w I a pl es ep t ord 0 h'->Q (.ref I) {s with heap:=h',drawn:=d'}):
  wpAny (model P w) A (pyIter (.ref a)) Q E s:=by
 obtain⟨o,es,ep,t,ho,hex,hd,hel,htx,hpm,hb,hf,hmk⟩:=hS
 have hT:s.TypeIs (.ref a) "set":=⟨o,ho,hex.1⟩
 have haI:a<s.heap.objs.size:=uZ ho
 refine wpAny_pyIter_slot hT PySem.F.slot_set_iter (wpAny_call_entry PySem.F.slot_set_iter hT zeN ?_ (PySem.F.args_set_iter_1 _))
 unfold Builtin.«frozenset.__iter__»
 have hvals:∀ord:List Value,ord.Perm (es.toList.map (·.2))->ord.length=es.size/\(∀v∈ord,∃z tk,v=.str z tk)/\(ord.map txOf).Perm ds:=fun ord hp=>by
  refine⟨by rw[hp.length_eq,yA,xR],fun v hv=>?_,?_⟩
  ·obtain⟨e,he,rfl⟩:=yX.mp (hp.mem_iff.mp hv)
   exact htx e he
  ·have:=hp.map txOf
   rw[xN] at this
   exact this.trans hpm
 refine uW (m:=Builtin.Frozenset.slot0 "__iter__" _) (uX ?_)
 refine uW (show wpAny _ _ (setEntries a>>=fun x=>pure x.size) _ _ s from uW (wpAny_setEntries_of ho hd hf (uX ?_)))
 refine uW ?_
 unfold setDrawn
 refine uW (wpAny_setState_of ho hd hf (uW (zcJ (uX ?_))))
 show wpAny _ _ (if (!byTx w&&(!t.plain&&decide (es.size > 1)))=true then _ else _) _ _ s
 split
 ·rename_i hdr
  rw[yZ,yZ,decide_eq_true_eq] at hdr
  have hb0:byTx w=false:=by simpa using hdr.1
  refine uW (zlw es.size (wK es.size) s _ (by simp) fun ps d' hps=>?_)
  have hpl:ps.length=es.size:=by rw[hps.length_eq,List.length_range]
  refine uW (tI ?_ (by show (List.map _ ps).toArray.size<=tH;rw[yI,yA,hpl];exact fits_of_scanBound hb))
  have kp1:∀b q,s.heap.get? b=some q->(s.heap.push {cls:=.type "tuple",data:=.seq (ps.map fun (p:Nat)=>rawInt p).toArray}).get? b=some q:=fun b q e=>uY _ e
  refine uW (wpAny_setEpoch_of (kp1 a _ ho) hd hf (uW (tI ?_)))
  refine uX ⟨_,rfl,"set_iterator",_,⟨_,tD _ rfl,rfl⟩,Z1.lookup,?_⟩
  have kp2:∀b q,s.heap.get? b=some q->((s.heap.push {cls:=.type "tuple",data:=.seq (ps.map fun (p:Nat)=>rawInt p).toArray}).push {cls:=.type "set_iterator",data:=.fields #[.ref s.heap.objs.size,rawInt 0,.ref a,rawInt es.size,rawInt ep]}).get? b=some q:=fun b q e=>uY _ (kp1 b q e)
  have hin:∀p∈ps,p<es.size:=fun p hp=>wY.mp (hps.mem_iff.mp hp)
  have ho':(ps.map fun p=>(es.toList.map (·.2)).getD p .none).Perm (es.toList.map (·.2)):=by
   refine (hps.map _).trans (uU.of_eq ?_)
   apply List.ext_getElem (by simp)
   intro k h1 h2
   simp at h2
   simp[h2]
  obtain⟨h1,h2,h3⟩:=hvals _ ho'
  have sz:(s.heap.push {cls:=.type "tuple",data:=.seq (ps.map fun (p:Nat)=>rawInt p).toArray}).objs.size=s.heap.objs.size+1:=Heap.size_push ..
  refine h _ s.heap.objs.size _ d' es ep t _ kp2 (by rw[sz];exact vK _) (xA (by rw[sz];exact vC _)) (.inr (yO _)) hf h1 ho' h2 h3 ⟨⟨o,kp2 a _ ho,hd⟩,_,.ref s.heap.objs.size,tD _ rfl,rfl,rfl,.inr (.inl ⟨hb0,ps,_,_,rfl,uY _ (tD _ rfl),rfl,by rw[yA],fun j p hj=>?_⟩)⟩
  have hp:=hin p (xB hj)
  refine⟨es[p],wC hp,?_⟩
  rw[yN,hj]
  simp[hp]
 ·rename_i hdr
  refine uW (uX (uW (wpAny_setEpoch_of ho hd hf (uW (tI ?_)))))
  refine uX ⟨_,rfl,"set_iterator",_,⟨_,tD _ rfl,rfl⟩,Z1.lookup,?_⟩
  have kp:∀b o,s.heap.get? b=some o->(s.heap.push {cls:=.type "set_iterator",data:=.fields #[rawInt 0,rawInt 0,.ref a,rawInt es.size,rawInt ep]}).get? b=some o:=fun b o e=>uY _ e
  cases hbt:byTx w with
  |true=>
   have hp:((pickOrder (w.params.setOrder a ep) es).toList.map (·.2)).Perm (es.toList.map (·.2)):=(zj8 _ es).map _
   obtain⟨h1,h2,h3⟩:=hvals _ hp
   exact h s.heap.objs.size a _ s.drawn es ep t _ kp (yO _) (xA haI) (.inl rfl) hf h1 hp h2 h3 ⟨⟨o,kp a _ ho,hd⟩,_,rawInt 0,tD _ rfl,rfl,rfl,.inl ⟨hbt,rfl,rfl⟩⟩
  |false=>
   have hsz:es.size<=1:=by
    rw[hbt] at hdr
    rcases hmk.2 with h0|h0
    ·lia
    ·rw[h0] at hdr
     simp at hdr
     lia
   obtain⟨h1,h2,h3⟩:=hvals _ (.refl _)
   exact h s.heap.objs.size a _ s.drawn es ep t _ kp (yO _) (xA haI) (.inl rfl) hf h1 (.refl _) h2 h3 ⟨⟨o,kp a _ ho,hd⟩,_,rawInt 0,tD _ rfl,rfl,rfl,.inr (.inr ⟨hbt,hsz,by rw[hmk.1,hbt];rfl,rfl,0,rfl,fun _=>rfl,fun z=>absurd z (xX _)⟩)⟩
end
theorem ziS(v:Value)(h:∃z tk,v=.str z tk):txOf v=strOf v:=by
 obtain⟨z,tk,rfl⟩:=h
 rfl
section
variable{P:Program}{w:World}{A:Around}{E:Value->Shared->Prop}
theorem zlB{s:Shared}{r:Addr}{Q:Bool->Shared->Prop}(hT:s.TypeIs (.ref r) "set")(h:Q false s):wpAny (model P w) A (Builtin.List.listLengthHint (.ref r)) Q E s:=by
 unfold Builtin.List.listLengthHint
 refine uW (wpAny_specialOf hT PySem.F.slot_set_len.lookup ?_)
 generalize hid:("set.__len__":String)=id0
 wp_delta
 rw[show splitId id0=some ("set","__len__") from by subst hid;decide +kernel]
 subst hid
 refine uW (wpAny_isInstance (T:="set") (b:=true) hT PySem.sub_set_self ?_)
 refine wpAny_ite_split (fun hab=>absurd hab (by decide)) (fun _=>?_)
 refine wpAny_ite_split (fun _=>?_) (fun hab=>absurd (by decide +kernel) hab)
 exact uW (wpAny_typeOf hT (uX h))
abbrev lO(xs:Array Value)(c:Nat):Obj:={cls:=.type "list",dict:=none,data:=.seq xs c,slots:=#[]}
theorem zhi{s:Shared}{a:Addr}{T:String}{oa:Obj}{n:Nat}{Gd:(Nat->Value->Prop)->Prop}{R:List Value->Shared->Prop}(hoa:s.heap.get? a=some oa)(hca:oa.cls=.type T)(hT2:(Value.type T==.type "list"||Value.type T==.type "tuple")=false)(hn1:n<=tH)
  (hnt:∀(s1:Shared)(Q:Bool->Shared->Prop)(E:Value->Shared->Prop),s1.TypeIs (.ref a) T->Q false s1->wpAny (model P w) A.in1 (Builtin.List.listLengthHint (.ref a)) Q E s1)
  (it:∀(Q:Value->Shared->Prop)(E:Value->Shared->Prop),(∀(I:Addr)(fp:List Addr)(h1:Heap)(d1:Drawn)(St:Nat->Heap->Prop)(Pi:Nat->Value->Prop),Gd Pi->(∀b o,(s.heap.push (lO #[] 0)).get? b=some o->h1.get? b=some o)->s.heap.objs.size<I->s.heap.objs.size ∉ fp->Walks P w A.in1 I fp [I] n Pi St->St 0 h1->Q (.ref I) {s with heap:=h1,drawn:=d1})->wpAny (model P w) A.in1 (pyIter (.ref a)) Q E {s with heap:=s.heap.push (lO #[] 0)})
  (h:∀(h':Heap)(tk:Nat)(d':Drawn)(acc:Array Value)(Pi:Nat->Value->Prop),Gd Pi->(∀b o,s.heap.get? b=some o->h'.get? b=some o)->s.heap.objs.size<=h'.objs.size->ItemsOf Pi acc n->R acc.toList {s with heap:=h',toks:=tk,drawn:=d'}):
  wpAny (model P w) A (collect (.ref a)) R E s:=by
 have haS:a≠s.heap.objs.size:=xA (uZ hoa)
 unfold collect
 refine uW (wpAny_runValue (codeAny_builtin entry_proto_collect' ?_))
 rw[Around.under_plainId PySem.F.plain_proto_collect _]
 refine (show wpAny _ A.in1 (newList []>>=fun l=>again (.builtin "list.__iadd__" ⟨[l,.ref a],[]⟩)) _ _ s from uW (tI (uX ⟨plainId_quiet PySem.F.plain_list_iadd _,codeAny_builtin entry_list_iadd' ?_⟩)))
 rw[Around.under_plainId PySem.F.plain_list_iadd _]
 have kp0:∀b o,s.heap.get? b=some o->(s.heap.push (lO #[] 0)).get? b=some o:=fun b o e=>uY _ e
 have gS:(s.heap.push (lO #[] 0)).get? s.heap.objs.size=some (lO #[] 0):=tD _ rfl
 have hT1:Shared.TypeIs {s with heap:=s.heap.push (lO #[] 0)} (.ref a) T:=⟨oa,kp0 a _ hoa,hca⟩
 refine (show wpAny _ A.in1 (Builtin.List.listExtendWith (.ref s.heap.objs.size) (.ref a) (.ref s.heap.objs.size)) _ _ {s with heap:=s.heap.push (lO #[] 0)} from ?_)
 unfold Builtin.List.listExtendWith
 refine uW (wpAny_typeOf hT1 ?_)
 have h1:Builtin.List.listSameRef (.ref s.heap.objs.size) (.ref a)=false:=by simp[Builtin.List.listSameRef,haS.symm]
 rw[if_neg (by rw[h1,Bool.false_or,hT2];exact yT)]
 refine uW (it _ _ fun I fp h1 d1 St Pi hgd kp hI hSf Wk0 st=>?_)
 have kp1:∀b o,s.heap.get? b=some o->h1.get? b=some o:=fun b o e=>kp b o (kp0 b o e)
 have hI':s.heap.objs.size<=I:=wO hI
 refine uW (wpAny_holding (hnt _ _ _ ⟨oa,kp1 a _ hoa,hca⟩ ?_))
 have gS1:=kp _ _ gS
 have loop:∀(h2:Heap)(c:Nat),St 0 h2->(∀b o,b≠s.heap.objs.size->h1.get? b=some o->h2.get? b=some o)->h2.get? s.heap.objs.size=some (lO #[] c)->
   codeAny (model P w) A (.builtin "list.extend.loop" ⟨[.ref s.heap.objs.size,.ref I,.ref s.heap.objs.size],[]⟩) (fun q s'=>∃(h':Heap)(tk:Nat)(acc:Array Value)(c':Nat),q=.ok (.ret (.ref s.heap.objs.size))/\s'={s with heap:=h',toks:=tk,drawn:=d1}/\(∀b o,s.heap.get? b=some o->h'.get? b=some o)/\h'.get? s.heap.objs.size=some (lO acc c')/\ItemsOf Pi acc n) {s with heap:=h2,drawn:=d1}:=fun h2 c st2 k2 g2=>by
  refine codeAny_extend_loopS Wk0.toS hn1 s.heap.objs.size hSf (.ref s.heap.objs.size) n 0 {s with heap:=h2,drawn:=d1} #[] c rfl (yS _) st2 g2 (ItemsOf.nil _) fun s' acc' c' hm gS' hacc=>?_
  obtain⟨h',g',d',tk',os'⟩:=s'
  have eg:g'=s.gens:=hm.gens
  have ed:d'=d1:=hm.drawn
  have eo:os'=s.os:=hm.os
  subst eg ed eo
  refine⟨h',tk',acc',c',rfl,rfl,fun b o e=>?_,gS',hacc⟩
  have hb:b<s.heap.objs.size:=uZ e
  refine hm.heap b o (fun z=>?_) (k2 b o (xA hb) (kp1 b o e))
  rcases yG.mp z with z|z
  ·exact absurd z (xA hb)
  ·exact absurd (yH.mp z) (xA (xE hb hI'))
 refine wpAny_ite_split (fun _=>?_) (fun _=>?_)
 ·refine uW (wpAny_rule (uW ?_))
  refine (show wpAny _ _ (updateSeq s.heap.objs.size (·.push .none)>>=fun _=>updateSeq s.heap.objs.size (·.pop)) _ _ _ from uW (wpAny_updateSeq gS1 rfl ?_))
  have gS2:=Heap.get?_update_self (Obj.mapSeq (·.push Value.none)) gS1 rfl
  refine wpAny_updateSeq (hz:=by seq_fits) gS2 rfl ?_
  have gS3:=Heap.get?_update_self (Obj.mapSeq (·.pop)) gS2 rfl
  have oth:∀b o,b≠s.heap.objs.size->h1.get? b=some o->((h1.update s.heap.objs.size (Obj.mapSeq (·.push Value.none))).update s.heap.objs.size (Obj.mapSeq (·.pop))).get? b=some o:=fun b o hb e=>(Heap.get?_update_other _ _ (Ne.symm hb)).trans ((Heap.get?_update_other _ _ (Ne.symm hb)).trans e)
  have st3:=Wk0.frame 0 h1 _ st fun b hb o e=>oth b o (fun z=>hSf (z▸hb)) e
  refine uX ⟨plainId_quiet PySem.F.plain_extend_loop _,codeAny_mono (loop _ _ st3 oth gS3) fun q s2 y=>?_⟩
  obtain⟨h',tk,acc,c',rfl,rfl,hk,hS',hacc⟩:=y
  exact (show wpAny _ A (load s.heap.objs.size>>=_) _ _ _ from uW (wpAny_load hS' (uX (h h' tk d1 acc Pi hgd hk (wO (uZ hS')) hacc))))
 ·refine uX ⟨plainId_quiet PySem.F.plain_extend_loop _,codeAny_mono (loop _ _ st (fun _ _ _ e=>e) gS1) fun q s2 y=>?_⟩
  obtain⟨h',tk,acc,c',rfl,rfl,hk,hS',hacc⟩:=y
  exact (show wpAny _ A (load s.heap.objs.size>>=_) _ _ _ from uW (wpAny_load hS' (uX (h h' tk d1 acc Pi hgd hk (wO (uZ hS')) hacc))))
theorem zhj{s:Shared}{a:Addr}{ds:List Str}{R:List Value->Shared->Prop}(hh:A.handled=none)(hS:zbX P w a ds s.heap)(hn:ds.length<=1000)
  (h:∀(h':Heap)(tk:Nat)(d':Drawn)(vs:List Value),(∀b o,s.heap.get? b=some o->h'.get? b=some o)->s.heap.objs.size<=h'.objs.size->(∀v∈vs,∃z tk,v=.str z tk)->(vs.map txOf).Perm ds->R vs {s with heap:=h',toks:=tk,drawn:=d'}):
  wpAny (model P w) A (collect (.ref a)) R E s:=by
 obtain⟨oa,hoa,hexa⟩:∃o,s.heap.get? a=some o/\o.ExactSet:=by
  obtain⟨o,es,ep,t,ho,hex,_⟩:=hS
  exact⟨o,ho,hex⟩
 have haS:a<s.heap.objs.size:=uZ hoa
 have hS1:zbX P w a ds (s.heap.push (lO #[] 0)):=by
  obtain⟨o,es,ep,t,ho,rest⟩:=hS
  exact⟨o,es,ep,t,uY _ ho,rest⟩
 have sz:(s.heap.push (lO #[] 0)).objs.size=s.heap.objs.size+1:=Heap.size_push ..
 have hh2:A.in1.handled=none:=by simpa using hh
 refine zhi (n:=ds.length) (Gd:=fun Pi=>∃ord:List Value,(Pi=fun i v=>ord[i]?=some v)/\(∀v∈ord,∃z tk,v=.str z tk)/\(ord.map txOf).Perm ds) hoa hexa.1 (by decide) (yQ hn (by decide)) (fun s1 Q E hT q=>zlB hT q) (fun Q E q=>?_) fun h' tk d' acc Pi hgd kp hle hacc=>?_
 ·refine zlA (A:=A.in1) hS1 fun I pl h1 d1 es ep t ord kp hI hplI hpla hf hz hpo hst hpm st=>?_
  rw[show ({s with heap:=s.heap.push (lO #[] 0)}:Shared).heap.objs.size=s.heap.objs.size+1 from sz] at hI hpla
  have haI:a≠I:=xA (xE haS (Nat.le_of_succ_le hI))
  have hl:ord.length=ds.length:=by rw[←hpm.length_eq,yA]
  have Wk:=zlz (P:=P) (w:=w) (A:=A.in1) hh2 I a pl (ep:=ep) hf hz haI hplI
  rw[hl] at Wk
  refine q I [I,a,pl] h1 d1 _ _ ⟨ord,rfl,hst,hpm⟩ kp hI (fun z=>?_) Wk st
  rcases yG.mp z with z|z
  ·exact absurd z (xA hI)
  ·rcases yG.mp z with z|z
   ·exact absurd z.symm (xA haS)
   ·have e:=yH.mp z
    rcases hpla with e'|e'
    ·rw[e'] at e
     exact absurd e.symm (xA haS)
    ·exact absurd e (xA e')
 ·obtain⟨ord,rfl,hst,hpm⟩:=hgd
  have hl:ord.length=ds.length:=by rw[←hpm.length_eq,yA]
  have eord:acc.toList=ord:=by
   apply List.ext_getElem?
   intro k
   by_cases hk:k<acc.size
   ·have:=hacc.2 k acc[k] (wC hk)
    rw[wV,wC hk,this]
   ·rw[wF (by rw[xR];lia),wF (by rw[hl,←hacc.1];lia)]
  rw[eord]
  exact h h' tk d' ord kp hle hst hpm
theorem zm7{s:Shared}{D:Addr}{vs:List Value}{n:Nat}{Q:Value->Shared->Prop}(ho:s.heap.get? D=some (seqObj "list" vs.toArray n))(hv:∀v∈vs,∃z tk,v=.str z tk)(h64:vs.length<64)
  (h:∀(h':Heap)(out:List Value)(ss:List Str)(e:Nat),(∀b o,b≠D->s.heap.get? b=some o->h'.get? b=some o)->h'.get? D=some (seqObj "list" out.toArray e)->StrsAre out ss->ss.Perm (vs.map txOf)->sortedS ss=true->Q .none {s with heap:=h'}):
  wpAny (model P w) A (call (.builtin "list.sort") [.ref D]) Q E s:=by
 have hS:=strsAre_map vs fun v hm=>hv v hm
 have hm:vs.map strOf=vs.map txOf:=uK fun v hm=>(ziS v (hv v hm)).symm
 refine wpAny_call_entry slot_list_sort ⟨_,ho,rfl⟩ entry_list_sort (list_sort_treeK strKind_oneLt ho hS.keysOf (fun v₁ v₂ rest e=>keyKind_strs (by rw[←e];exact hS)) h64 fun st' hp hs=>⟨_,rfl,?_⟩) (args_list_sort _)
 obtain⟨ss',h1,h2,h3⟩:=sorted_out_str hS hp hs
 obtain⟨e,he⟩:=sortedHeap_at (out:=(arrOf st').map (·.2)) ho
 exact h _ ((arrOf st').map (·.2)).toList ss' e (fun b o hb eo=>(sortedHeap_old hb (uZ eo)).trans eo) he h1 (by rw[←hm];exact h2) h3
end
section
variable{P:Program}{w:World}{A:Around}{E:Value->Shared->Prop}
theorem ziT{s:Shared}{a:Addr}{ds:List Str}{Q:Value->Shared->Prop}
  (hcol:∀(R:List Value->Shared->Prop),(∀(h':Heap)(tk:Nat)(d':Drawn)(vs:List Value),(∀b o,s.heap.get? b=some o->h'.get? b=some o)->s.heap.objs.size<=h'.objs.size->(∀v∈vs,∃z tk,v=.str z tk)->(vs.map txOf).Perm ds->R vs {s with heap:=h',toks:=tk,drawn:=d'})->wpAny (model P w) A.in1 (collect (.ref a)) R E s) (h64:ds.length<64)
  (h:∀(D:Addr)(h':Heap)(tk:Nat)(d':Drawn)(out:List Value)(ss:List Str)(e:Nat),(∀b o,s.heap.get? b=some o->h'.get? b=some o)->s.heap.objs.size<=D->h'.get? D=some (seqObj "list" out.toArray e)->StrsAre out ss->ss.Perm ds->sortedS ss=true->Q (.ref D) {s with heap:=h',toks:=tk,drawn:=d'}):
  wpAny (model P w) A (call (.builtin "sorted") [.ref a]) Q E s:=by
 refine Calls.call_function_entry kind_sorted plain_sorted entry_sorted (args_sorted1 _) ?_
 unfold Builtin.«sorted»
 refine uW (m:=checkCount "sorted" 1 1 _) (uX (uW (hcol _ fun h1 tk d1 vs kp hle hst hpm=>?_)))
 have hl:vs.length=ds.length:=by rw[←hpm.length_eq,yA]
 refine uW (wpAny_newList ?_ (by rw[hl];exact yQ (wO h64) (by decide)))
 have gD:(h1.push (seqObj "list" vs.toArray 0)).get? h1.objs.size=some (seqObj "list" vs.toArray 0):=tD _ rfl
 refine uW (wpAny_holding (zm7 gD hst (by lia) fun h2 out ss e k2 g2 hs hp hS=>?_))
 refine uX ⟨_,rfl,h h1.objs.size h2 tk d1 out ss e (fun b o eb=>?_) ?_ g2 hs (hp.trans hpm) hS⟩
 ·have hb:=kp b o eb
  exact k2 b o (xA (uZ hb)) (uY _ hb)
 ·exact hle
end
def zm8(l:List Str):Prop:=sortedS l=true
theorem zkc{a b:Str}(h:a.cps.toList=b.cps.toList):a=b:=by
 obtain⟨⟨x⟩⟩:=a
 obtain⟨⟨y⟩⟩:=b
 have:x=y:=h
 subst this
 rfl
theorem Inv.drawn{X:Cx}{zp:List (Addr×Obj)}{σ:List (Option V)}{H:Hp}{s:Shared}(I:Inv X zp σ H s)(d':Drawn):Inv X zp σ H {s with drawn:=d'}:=⟨I.ok,I.os,I.bare,I.base,I.loc,I.cell,I.free,I.freeC,I.pin,I.hok,I.len⟩
theorem zkd:∀{us:List Value}{ss:List Str},StrsAre us ss->Vals (ss.map V.str) us
 |_,_,.nil=>.nil
 |_,_,.cons y t h=>.cons ⟨t,rfl⟩ (zkd h)
theorem zea{X:Cx}(hc:X.calm=true):zaQ X (.builtin "sorted") (fun xs H Q=>∃(a:Addr)(ds:List Str),xs=[.ref a]/\H a=some (SetH X.prog X.w a ds)/\ds.length<64/\∀(l:Addr)(ss:List Str),H l=none->ss.Perm ds->sortedS ss=true->Q (.ref l) (upd H l (.lst (ss.map V.str)))):=by
 intro zp s σ H xs us Q I r h
 obtain⟨a,ds,rfl,ea,hn,q⟩:=h
 obtain⟨u,rfl,rx⟩:=zb5 r
 cases rx
 obtain⟨hS,_⟩:=(show zal X.prog X.w H s.heap a (SetH X.prog X.w a ds) from I.hok a _ ea)
 refine ziT (ds:=ds) (fun R hR=>zhj (A:=X.A.in1) (by simpa using I.ok.hd hc) hS (by lia) hR) hn fun D h' tk d' out ss e kp hD g hs hp hS'=>?_
 have hl:ss.length<64:=by rw[hp.length_eq];exact hn
 exact⟨.ref D,_,(I.drawn d').laid (t':=tk) kp hD (show zal X.prog X.w _ h' _ (.lst (ss.map V.str)) from⟨by rw[yA];exact yQ (wO hl) (by decide),out,e,zkd hs,g⟩),rfl,q D ss (I.hok.fresh hD) hp hS'⟩
theorem zh0{K:tU}{fr:List Nat}{te:TE}{σ:St}{H:Hp}{F:Addr->Hp->List V->Prop}{a:Addr}{vs:List V}(outs:List V)(hS:SqL K H a vs)(hl:outs.length=vs.length)(hz:vs.length<=tH)
  (step:∀(i:Nat)(v y:V)(H1:Hp)(R:VK),vs[i]?=some v->outs[i]?=some y->Same H H1->(∀H2,Same H1 H2->R y H2)->te (some v::frees fr σ) H1 R)
  (fin:∀(H1:Hp)(D:Addr),Same H H1->H1 D=none->F D H1 outs):
  ∃W:Nat->Nat->List V->Hp->Prop,(∃m,W 0 m [] H)/\∀i m vs H,W i m vs H->vs.length<=tH /\
   (((Itl K a).stop i H/\∀D,H D=none->F D H vs) \/
    ((Itl K a).go i H/\∀v H',(Itl K a).yld i H v H'->if true=true then te (some v::frees fr σ) H' fun y H3=>∃m',m'<m/\W (i+1) m' (vs++[y]) H3 else ∃m',m'<m/\W (i+1) m' vs H')):=by
 refine⟨fun i m us H1=>i<=vs.length/\m=vs.length-i/\us=outs.take i/\Same H H1,⟨_,yS _,rfl,by simp,Sr _⟩,fun i m us H1 hW=>?_⟩
 obtain⟨hi,hm,hu,sm⟩:=hW
 refine⟨by rw[hu,yY];lia,?_⟩
 by_cases hlt:i<vs.length
 ·refine .inr ⟨⟨vs,vs[i],sm.seq hS,yB hlt⟩,fun v H' hy=>?_⟩
  obtain⟨rfl,hv⟩:=hy
  have hv:=hv vs (sm.seq hS)
  have hy:outs[i]?=some outs[i]:=yB (by lia)
  refine iteT ?_
  refine step i v outs[i] H' _ hv hy sm fun H2 s2=>⟨vs.length-(i+1),by lia,by lia,rfl,?_,sm.trans s2⟩
  rw[hu,zR hy]
 ·have e:i=vs.length:=by lia
  refine .inl ⟨⟨vs,sm.seq hS,by lia⟩,fun D hD=>?_⟩
  have e2:us=outs:=by rw[hu,xD (by lia)]
  rw[e2]
  exact fin H1 D sm hD
end L2
namespace D
open PySem L2
theorem zfx{X:Cx}{i:Nat}{y:Str}{py spos:Pos}{elt iter tg:Expr}{pos:Pos}{ifs:List Expr}{scope:Scope}{cl:List (Str×Addr)}(NY:List Str){wi:TI}{g:TG}{tt:TT}{te:TE}
  (hc:X.calm=true) (hclos:closureFor scope X.env=pure cl) (hcell:∀y∈scope.names,y.2≠.cell) (hkind:scope.kind=.function) (hnames:∀y∈scope.names,y.2=.local->scope.names.lookup y.1=some .local)
  (hcl:ClOk cl X.env.cells) (hall:(scope.names.all fun y=>y.2 != .free||(cl.lookup y.1).isSome)=true)
  (hi:QI X tg iter wi) (hg:∀C s H fp,QG (zZ X scope cl NY C s H fp) tg g)
  (hY:∀C s H fp,QIfs (zZ X scope cl NY C s H fp) ifs tt/\QE (zZ X scope cl NY C s H fp) elt te)
  (hN:X.N.Nodup) (hiy:X.N[i]?=some y) (hy:L2.Loc X.env.scope y) (hsw:swapsWith (.ListComp elt [⟨tg,iter,ifs,0⟩] scope pos) (some (.Name y py)) spos.line X.env=pure true:=by rfl)
  (hf:X.fn y=true\/X.env.scope.names.lookup y=some .local:=by first|exact .inl rfl|exact .inr rfl|assumption)
  (hs:∀v,foldedSetIterable iter X.env v=pure v:=by intro _;rfl):
  QS X (.Assign [.Name y py] (.ListComp elt [⟨tg,iter,ifs,0⟩] scope pos) spos) (tAsg (zfw NY.length wi g tt te) (zW i)):=
 ⟨L2.zfx NY hc hclos hcell hkind hnames hcl hall hi.un (fun C s H fp=>(hg C s H fp).un) (fun C s H fp=>⟨(hY C s H fp).1.un,(hY C s H fp).2.un⟩) hN hiy hy hsw hf hs⟩
end D
namespace L2
open PySem PySem.Spec PyProof.Rows
theorem zlC{X:Cx}:MtR X "str.find" (fun x xs H Q=>∃(z y:Str)(i:Int),x=.str z/\xs=[.str y,.int i]/\Q (.int (Txt.find3 z y i)) H):=by
 intro zp s σ H x xs v us Q I rx rv h
 obtain⟨z,y,i,rfl,rfl,q⟩:=h
 obtain⟨t,rfl⟩:=rx
 obtain⟨u,u2,rfl,⟨tu,rfl⟩,⟨tv,rfl⟩⟩:=zk4 rv
 exact SC.find3 ⟨.int _,H,I.tok _,⟨_,rfl⟩,q⟩
theorem zke{X:Cx}:MtR X "str.startswith" (fun x xs H Q=>∃(z y:Str),x=.str z/\xs=[.str y]/\Q (.bl (Txt.startswith z y)) H):=by
 intro zp s σ H x xs v us Q I rx rv h
 obtain⟨z,y,rfl,rfl,q⟩:=h
 obtain⟨t,rfl⟩:=rx
 obtain⟨u,rfl,tu,rfl⟩:=zb5 rv
 exact SC.startswith ⟨.bl _,H,I,rfl,q⟩
theorem zfM{X:Cx}:zaQ X (.type "int") (fun xs H Q=>∃(x:Str)(n:Int),xs=[.str x]/\PySem.intText? x=some n/\x.length<=640/\Q (.int n) H):=by
 intro zp s σ H xs us Q I r h
 obtain⟨x,n,rfl,hn,hl,q⟩:=h
 obtain⟨u,rfl,t,rfl⟩:=zb5 r
 exact PySem.W.KIN.call_text hn hl ⟨.int n,H,I.tok _,⟨_,rfl⟩,q⟩
theorem zlD{K:tU}{fr:List Nat}{tl te:TE}{σ:St}{H:Hp}{Q:VK}{a:Addr}{vs:List V}(Pv:Nat->List V->Hp->Prop)(hσ:∀R:VK,R (.ref a) H->tl σ H R)(hS:SqT K H a vs)(hz:vs.length<=tH)(h0:Pv 0 [] H)(hlen:∀i us H1,Pv i us H1->us.length=i)
  (step:∀(i:Nat)(v:V)(us:List V)(H1:Hp)(R:VK),vs[i]?=some v->Pv i us H1->Same H H1->(∀y H2,Same H1 H2->Pv (i+1) (us++[y]) H2->R y H2)->te (some v::frees fr σ) H1 R)
  (fin:∀(us:List V)(H1:Hp)(D:Addr),Pv vs.length us H1->Same H H1->H1 D=none->Q (.ref D) (upd H1 D (.lst us))):zd1 fr (iTup K tl) (fun _ H Q=>Q true H) te σ H Q:=by
 refine hσ _ ⟨a,rfl,⟨vs,hS⟩,fun i m us H1=>i<=vs.length/\m=vs.length-i/\Pv i us H1/\Same H H1,⟨_,yS _,rfl,h0,Sr _⟩,fun i m us H1 hW=>?_⟩
 obtain⟨hi,hm,hu,sm⟩:=hW
 refine⟨by rw[hlen _ _ _ hu];lia,?_⟩
 by_cases hlt:i<vs.length
 ·refine .inr ⟨⟨vs,vs[i],sm.seqT hS,yB hlt⟩,fun v H' hy=>?_⟩
  obtain⟨rfl,hv⟩:=hy
  have hv:=hv vs (sm.seqT hS)
  refine iteT ?_
  exact step i v us H' _ hv hu sm fun y H2 s2 p2=>⟨vs.length-(i+1),by lia,by lia,rfl,p2,sm.trans s2⟩
 ·have e:i=vs.length:=by lia
  subst e
  exact .inl ⟨⟨vs,sm.seqT hS,by lia⟩,fun D hD=>fin us H1 D hu sm hD⟩
end L2
namespace D
open PySem L2
theorem zlE{z:Str}{a b:Nat}(h1:a<=b)(h2:b<=z.length):(Txt.slice z (some (a:Int)) (some (b:Int))).cps.toList=(z.cps.toList.drop a).take (b-a):=by
 have e:=PyProof.Rows.slice_closes (x:=z) (i:=(a:Int)) (j:=(b:Int)) ⟨by lia,by lia,by rw[zH];lia⟩
 have e2:=eq_of_beq e
 rw[e2]
 simp
 try (congr 1;lia)
theorem zlF{z:Str}{a:Nat}(h1:a<=z.length):(Txt.slice z (some (a:Int)) none).cps.toList=z.cps.toList.drop a:=by
 rw[PyProof.Rows.slice_from_eq (x:=z) (i:=(a:Int)) (b:=(z.length:Int)) (by lia) (by lia) rfl]
 simp
 rw[xD]
 rw[vD,zH]
 lia
theorem zhk{z:Str}{i c:Nat}(h:z.cps.toList[i]?=some c):z.cps.getD i 0=c:=by
 have:z.cps[i]?=some c:=by simpa using h
 simp[Array.getD_eq_getD_getElem?,this]
theorem ziU{z:Str}{pre q r:List Nat}(hz:z.cps.toList=pre++34::(q++34::r))(hq:∀c∈q,c≠34):Txt.find3 z ⟨#[34]⟩ (((pre.length:Nat):Int)+1)=((pre.length+1+q.length:Nat):Int):=by
 have hl:z.length=pre.length+1+q.length+1+r.length:=by
  rw[←zH,hz];simp;lia
 have hf:fromIndex z.length (((pre.length:Nat):Int)+1)=pre.length+1:=by
  unfold fromIndex
  rw[if_neg (by lia)]
  lia
 have atq:z.cps.toList[pre.length+1+q.length]?=some 34:=by
  rw[hz,yL (by lia)]
  rw[show pre.length+1+q.length-pre.length=(q.length)+1 by lia,xW,yL (by lia)]
  simp
 have atv:∀v,pre.length+1<=v->v<pre.length+1+q.length->z.cps.getD v 0≠34:=fun v h1 h2=>by
  have hv:v-pre.length-1<q.length:=by lia
  obtain⟨u,hu⟩:∃u,u=v-pre.length-1:=⟨_,rfl⟩
  have hv2:u<q.length:=by lia
  have e:z.cps.toList[v]?=some (q[u]):=by
   rw[hz,yL (by lia)]
   rw[show v-pre.length=u+1 by lia,xW,yP hv2]
   simp
  rw[zhk e]
  exact hq _ (yW hv2)
 rcases StrLaws.find3_spec z 34 (((pre.length:Nat):Int)+1) with⟨_,hn⟩|⟨k,hk,h1,h2,h3,h4⟩
 ·exact absurd (zhk atq) (hn _ (by lia) (by lia))
 ·rw[hk]
  rw[hf] at h1 h4
  have:k=pre.length+1+q.length:=by
   rcases Nat.lt_trichotomy k (pre.length+1+q.length) with h|h|h
   ·exact absurd h3 (atv k h1 h)
   ·exact h
   ·exact absurd (zhk atq) (h4 _ (by lia) h)
  rw[this]
noncomputable def zlG:Str:=uV " \n()\""
noncomputable def zlH:Str:=uV " \n"
noncomputable def zlI:Str:=uV "0123456789"
noncomputable def wBr:Str:=uV "()"
theorem ziV:zlG.cps.toList=[32,10,40,41,34]:=by decide +kernel
theorem ziW:zlH.cps.toList=[32,10]:=by decide +kernel
theorem ziX:zlI.cps.toList=[48,49,50,51,52,53,54,55,56,57]:=by decide +kernel
theorem zlJ:wBr.cps.toList=[40,41]:=by decide +kernel
theorem zdm(z:Str)(c:Nat):(!(Builtin.Str.occurrences z ⟨#[c]⟩ 0 z.length 1).isEmpty)=decide (c∈z.cps.toList):=StrLaws.found_one z c
noncomputable def digs(m:Nat):List Nat:=(vZ 10 m).map Char.toNat
theorem zgB:∀d:Nat,d<10->(Nat.digitChar d).toNat=48+d:=by decide
theorem zeb{m:Nat}(h:m<10):digs m=[48+m]:=by
 unfold digs
 rw[vW h]
 simp[zgB m h]
theorem zfN{m:Nat}(h:¬m<10):digs m=digs (m / 10)++[48+m % 10]:=by
 have hm:m % 10<10:=Nat.mod_lt m (by decide)
 have t:vZ 10 (m / 10)++vZ 10 (m % 10)=vZ 10 (10*(m / 10)+m % 10):=Nat.toDigits_append_toDigits (by decide) (by lia) hm
 rw[Nat.div_add_mod] at t
 unfold digs
 rw[←t,yK,vW hm]
 simp[zgB _ hm]
theorem zbb(m:Nat):∀c∈digs m,48<=c/\c<=57:=by
 induction m using Nat.strongRecOn with
 |_ m ih=>
  by_cases h:m<10
  ·rw[zeb h];intro c hc;simp at hc;lia
  ·rw[zfN h]
   intro c hc
   rcases yU.mp hc with hc|hc
   ·exact ih (m / 10) (by lia) c hc
   ·simp at hc;lia
theorem zec(m:Nat):digs m≠[]:=by
 by_cases h:m<10
 ·rw[zeb h];simp
 ·rw[zfN h];simp
theorem zkf(m:Nat)(h0:0<m):∀c s,digs m=c::s->c≠48:=by
 induction m using Nat.strongRecOn with
 |_ m ih=>
  intro c s e
  by_cases h:m<10
  ·rw[zeb h] at e;simp at e;lia
  ·rw[zfN h] at e
   cases hd:digs (m / 10) with
   |nil=>exact absurd hd (zec _)
   |cons x y=>
    rw[hd] at e
    simp at e
    have:=ih (m / 10) (by lia) (by lia) x y hd
    lia
theorem zfO(k:Nat):∀m:Nat,0<k->m<10 ^ k->(digs m).length<=k:=by
 induction k with
 |zero=>intro m h;lia
 |succ k ih=>
  intro m _ h
  by_cases h1:m<10
  ·rw[zeb h1];simp
  ·rw[zfN h1]
   have hk:0<k:=by
    cases k with
    |zero=>simp at h;lia
    |succ k=>lia
   have:=ih (m / 10) hk (by rw[Nat.pow_succ] at h;lia)
   simp;lia
theorem zkg:digs 0=[48]:=by rw[zeb (by decide)]
def numC(i:Int):List Nat:=if 0<=i then digs i.toNat else 45::digs i.natAbs
noncomputable def zbc(c:Nat):Bool:=c==32||(c==10||(c==40||(c==41||c==34)))
inductive Pc where
 |op|cl
 |txt (q:List Nat)
 |word (q:List Nat)
def Cut(r:List Nat):Prop:=∀c s,r=c::s->zbc c=true
inductive Spell:List Nat->List Pc->Prop where
 |nil:Spell [] []
 |gap {c:Nat}{r:List Nat}{ps:List Pc}:c=32\/c=10->Spell r ps->Spell (c::r) ps
 |op {r:List Nat}{ps:List Pc}:Spell r ps->Spell (40::r) (.op::ps)
 |cl {r:List Nat}{ps:List Pc}:Spell r ps->Spell (41::r) (.cl::ps)
 |txt {q r:List Nat}{ps:List Pc}:(∀c∈q,c≠34)->Spell r ps->Spell (34::(q++34::r)) (.txt q::ps)
 |word {c:Nat}{q r:List Nat}{ps:List Pc}:zbc c=false->(∀d∈q,zbc d=false)->Cut r->Spell r ps->Spell (c::(q++r)) (.word (c::q)::ps)
theorem Spell.gaps{g r:List Nat}{ps:List Pc}(hg:∀c∈g,c=32\/c=10)(h:Spell r ps):Spell (g++r) ps:=by
 induction g with
 |nil=>exact h
 |cons c g ih=>exact .gap (hg c yV) (ih fun d hd=>hg d (yM _ hd))
theorem Spell.word'{q r:List Nat}{ps:List Pc}(hne:q≠[])(hq:∀d∈q,zbc d=false)(hc:Cut r)(h:Spell r ps):Spell (q++r) (.word q::ps):=by
 cases q with
 |nil=>exact absurd rfl hne
 |cons c q=>exact .word (hq c yV) (fun d hd=>hq d (yM _ hd)) hc h
inductive Tr where
 |word (q:List Nat)
 |txt (q:List Nat)
 |lst (ts:List Tr)
mutual
noncomputable def trW(N:Int->List Nat):W->Tr
 |.num i=>.word (N i)
 |.txt x=>.txt x.cps.toList
 |.lst ws=>.lst (trWs N ws)
noncomputable def trWs(N:Int->List Nat):List W->List Tr
 |[]=>[]
 |w::r=>trW N w::trWs N r
end
def run:List Pc->List (List Tr)->Option (List (List Tr))
 |[],st=>some st
 |.op::ps,st=>if st.length<100 then run ps ([]::st) else none
 |.cl::ps,st=>match st with
  |t::u::rest=>run ps ((u++[.lst t])::rest)
  |_=>none
 |.txt q::ps,st=>match st with
  |t::rest=>run ps ((t++[.txt q])::rest)
  |_=>none
 |.word q::ps,st=>match st with
  |t::rest=>run ps ((t++[.word q])::rest)
  |_=>none
mutual
noncomputable def shW(N:Int->List Nat):W->List Nat
 |.num i=>N i
 |.txt x=>34::(x.cps.toList++[34])
 |.lst ws=>40::(shWs N ws++[41])
noncomputable def shWs(N:Int->List Nat):List W->List Nat
 |[]=>[]
 |[w]=>shW N w
 |w::v::r=>shW N w++32::shWs N (v::r)
end
theorem zkh{r:List Nat}:Cut (32::r):=fun c s e=>by cases e;rfl
theorem zlK{r:List Nat}:Cut (41::r):=fun c s e=>by cases e;rfl
theorem zm9:Cut []:=fun c s e=>by cases e
mutual
noncomputable def shT:Tr->List Nat
 |.word q=>q
 |.txt q=>34::(q++[34])
 |.lst ts=>40::(shTs ts++[41])
noncomputable def shTs:List Tr->List Nat
 |[]=>[]
 |[t]=>shT t
 |t::u::r=>shT t++32::shTs (u::r)
end
mutual
noncomputable def pcT:Tr->List Pc
 |.word q=>[.word q]
 |.txt q=>[.txt q]
 |.lst ts=>.op::(pcTs ts++[.cl])
noncomputable def pcTs:List Tr->List Pc
 |[]=>[]
 |t::r=>pcT t++pcTs r
end
mutual
def Tr.Ok:Tr->Prop
 |.word q=>q≠[]/\∀c∈q,zbc c=false
 |.txt q=>∀c∈q,c≠34
 |.lst ts=>TrOks ts
def TrOks:List Tr->Prop
 |[]=>True
 |t::r=>t.Ok/\TrOks r
end
mutual
noncomputable def Tr.deep:Tr->Nat
 |.word _=>0
 |.txt _=>0
 |.lst ts=>1+deeps ts
noncomputable def deeps:List Tr->Nat
 |[]=>0
 |t::r=>max t.deep (deeps r)
end
mutual
theorem zna:∀(x:Tr)(ps:List Pc)(t:List Tr)(rest:List (List Tr)),rest.length+1+x.deep<=100->run (pcT x++ps) (t::rest)=run ps ((t++[x])::rest)
 |.word q,ps,t,rest,_=>by rw[pcT];rfl
 |.txt q,ps,t,rest,_=>by rw[pcT];rfl
 |.lst ts,ps,t,rest,h=>by
  rw[Tr.deep] at h
  rw[pcT,xC,xI]
  have:=run_pcTs ts (.cl::ps) [] (t::rest) (by rw[yF];lia)
  rw[run,if_pos (by rw[yF];lia)]
  rw[uD,this,run,xS]
theorem run_pcTs:∀(xs:List Tr)(ps:List Pc)(t:List Tr)(rest:List (List Tr)),rest.length+1+deeps xs<=100->run (pcTs xs++ps) (t::rest)=run ps ((t++xs)::rest)
 |[],ps,t,rest,_=>by rw[pcTs,xS,xH]
 |x::r,ps,t,rest,h=>by
  rw[deeps] at h
  rw[pcTs,xI,zna x _ t rest (by lia),run_pcTs r ps (t++[x]) rest (by lia),xI]
  rfl
end
mutual
theorem zcK:∀(x:Tr),x.Ok->∀(r:List Nat)(ps:List Pc),Cut r->Spell r ps->Spell (shT x++r) (pcT x++ps)
 |.word q,ok,r,ps,hc,h=>by rw[Tr.Ok] at ok;rw[shT,pcT];exact Spell.word' ok.1 ok.2 hc h
 |.txt q,ok,r,ps,hc,h=>by
  rw[Tr.Ok] at ok
  have:=Spell.txt ok h
  simpa [shT,pcT] using this
 |.lst ts,ok,r,ps,hc,h=>by
  rw[Tr.Ok] at ok
  have:=spell_shTs ts ok (41::r) (.cl::ps) zlK (.cl h)
  have h2:=Spell.op this
  simpa [shT,pcT,xI] using h2
theorem spell_shTs:∀(xs:List Tr),TrOks xs->∀(r:List Nat)(ps:List Pc),Cut r->Spell r ps->Spell (shTs xs++r) (pcTs xs++ps)
 |[],_,r,ps,_,h=>by rw[shTs,pcTs];exact h
 |[x],ok,r,ps,hc,h=>by
  rw[TrOks] at ok
  have:=zcK x ok.1 r ps hc h
  simpa [shTs,pcTs] using this
 |x::y::s,ok,r,ps,hc,h=>by
  rw[TrOks] at ok
  have h1:=spell_shTs (y::s) ok.2 r ps hc h
  have h2:Spell (32::(shTs (y::s)++r)) (pcTs (y::s)++ps):=.gap (.inl rfl) h1
  have h3:=zcK x ok.1 _ _ zkh h2
  rw[pcTs,shTs]
  simpa [xI] using h3
end
theorem ziY{x:Tr}(ok:x.Ok):Spell (shT x) (pcT x):=by
 have:=zcK x ok [] [] zm9 .nil
 rw[xH,xH] at this
 exact this
mutual
theorem zbd(N:Int->List Nat):∀w:W,shT (trW N w)=shW N w
 |.num i=>by rw[trW,shT,shW]
 |.txt x=>by rw[trW,shT,shW]
 |.lst ws=>by rw[trW,shT,shW,shTs_W N ws]
theorem shTs_W(N:Int->List Nat):∀ws:List W,shTs (trWs N ws)=shWs N ws
 |[]=>by rw[trWs,shTs,shWs]
 |[w]=>by rw[trWs,trWs,shTs,shWs,zbd N w]
 |w::v::r=>by
  have:=shTs_W N (v::r)
  rw[trWs] at this
  rw[trWs,trWs,shTs,shWs,zbd N w,this]
end
mutual
theorem zff(N:Int->List Nat):∀w:W,(trW N w).deep=w.depth
 |.num i=>by rw[trW,Tr.deep,W.depth]
 |.txt x=>by rw[trW,Tr.deep,W.depth]
 |.lst ws=>by rw[trW,Tr.deep,W.depth,deeps_W N ws]
theorem deeps_W(N:Int->List Nat):∀ws:List W,deeps (trWs N ws)=depths ws
 |[]=>by rw[trWs,deeps,depths]
 |w::r=>by rw[trWs,deeps,depths,zff N w,deeps_W N r]
end
end D
namespace D
open PySem L2 PySem.Spec PyProof.Rows
theorem zbY(l:Addr)(es:Array DictEntry)(ep:Nat)(dd:Option Addr)(sl:Array (Option Value))(b:Str)(u:Tok):
  Meets (Builtin.«dict.__eq__» ⟨[.ref l,.str b u],[]⟩) (fun _ R s=>s.heap.get? l=some {cls:=.type "dict",dict:=dd,data:=.dict es ep,slots:=sl}/\R (.ok (.ret .notImplemented)) s):=
 .of_wp fun prog w A R s h=>by obtain⟨hp,g,d,tk,os⟩:=s;obtain⟨hl,h⟩:=h;have f1:=F.sub_str_dict;wp_walk using wpAny_loadPart' hl,wpAny_load hl;exact⟨_,rfl,h⟩
theorem zbZ(b:Str)(u:Tok)(l:Addr)(es:Array DictEntry)(ep:Nat)(dd:Option Addr)(sl:Array (Option Value)):
  Meets (Builtin.«str.__eq__» ⟨[.str b u,.ref l],[]⟩) (fun _ R s=>s.heap.get? l=some {cls:=.type "dict",dict:=dd,data:=.dict es ep,slots:=sl}/\R (.ok (.ret .notImplemented)) s):=
 .of_wp fun prog w A R s h=>by obtain⟨hp,g,d,tk,os⟩:=s;obtain⟨hl,h⟩:=h;wp_walk using wpAny_loadPart' hl,wpAny_load hl;exact⟨_,rfl,h⟩
theorem zfP{A:Around}{s:Shared}{l:Addr}{o:Obj}(b:Str)(u:Tok){es:Array DictEntry}{ep:Nat}(ho:s.heap.get? l=some o)(hc:o.cls=.type "dict")(hd:o.data=.dict es ep)(hu:A.units<cLine):SeqAt.RcAt A s (.ref l) (.str b u) false:=fun prog w E Q h=>by
 obtain⟨cls,dd,data,sl⟩:=o
 simp only at hc hd
 subst hc hd
 exact SeqAt.rc_eq_decline_or (k:=false) ⟨_,ho,rfl⟩ (typeIs_str s b u) (by decide) F.sub_str_dict F.slot_dict_eq F.slot_str_eq_refl
  (fun _ hq=>call_meets F.slot_dict_eq ⟨_,ho,rfl⟩ F.entry_dict_eq (F.args_dict_eq_2 _ _) (zbY l es ep dd sl b u) ⟨ho,hq⟩)
  (fun _ hq=>call_meets F.slot_str_eq_refl (typeIs_str s b u) F.entry_str_eq (F.args_str_eq_2 _ _) (zbZ b u l es ep dd sl) ⟨ho,hq⟩)
  (fun _ hq=>wpAny_of_eq (rfl:isSame (.ref l) (.str b u)=pure false) hq) (.inr hu) h
noncomputable def eqTS:T->Str->Bool
 |.txt x,z=>x==z
 |_,_=>false
theorem zfQ{X:Cx}(hu:X.A.units<cLine):OpR X (tM .Eq) (fun x y H Q=>∃(t:T)(z:Str),RT H x t/\y=.str z/\Q (.bl (eqTS t z)) H):=by
 intro zp s σ H x y v u Q I rx ry h
 obtain⟨t,z,hx,rfl,q⟩:=h
 obtain⟨t2,rfl⟩:=ry
 have fin:EP X zp σ Q (.bool (eqTS t z)) s:=⟨.bl _,H,I,rfl,q⟩
 cases hx with
 |non=>cases rx;exact SeqAt.RcAt.none_str z t2 _ _ _ _ fin
 |bl b=>cases rx;exact SeqAt.RcAt.bool_str b z t2 _ _ _ _ fin
 |num i=>obtain⟨t,rfl⟩:=rx;exact SeqAt.RcAt.int_str i t z t2 _ _ _ _ fin
 |txt x=>obtain⟨t,rfl⟩:=rx;exact SeqAt.RcAt.str_str x t z t2 _ _ _ _ fin
 |tup e _ _=>
  cases rx
  obtain⟨its,_,p,_⟩:=I.tuple (Sq e)
  exact SeqAt.RcAt.tuple_str z t2 p hu _ _ _ _ fin
 |lst e=>
  cases rx
  obtain⟨its,_,p,_⟩:=I.list (Sl e)
  exact SeqAt.RcAt.list_str z t2 p.isList hu _ _ _ _ fin
 | @dic a kvs e=>
  cases rx
  obtain⟨_,_,vs,_,p⟩:=(show zal X.prog X.w H s.heap a (.dK kvs) from I.hok a _ e)
  obtain⟨o,es,ep,h1,h2,h3,_⟩:=p
  exact zfP z t2 h1 h2.1 h3 hu _ _ _ _ fin
end D
namespace L2
open PySem PySem.Spec PyProof.Rows
theorem ziZ(l:Addr)(items:Array Value)(n:Nat)(b:Addr)(items2:Array Value)(n2:Nat)(dd:Option Addr)(sl:Array (Option Value))(hs0:¬(!items.isEmpty&&Builtin.List.listTooLong (items.size+items2.size))=true)(hs1:items.size<=tH)(hs2:items.size+items2.size<=tH+1):
  Meets (Builtin.«list.extend» ⟨[.ref l,.ref b],[]⟩) (fun _ R s=>s.heap.get? l=some {cls:=.type "list",dict:=none,data:=.seq items n,slots:=#[]}/\s.heap.get? b=some {cls:=.type "tuple",dict:=dd,data:=.seq items2 n2,slots:=sl}/\R (.ok (.ret Value.none)) {s with heap:=s.heap.update l (Obj.mapSeq fun x=>x++items2),toks:=s.toks}):=
 .of_wp fun prog w A R s h=>by
  obtain⟨hp,g,d,tk,os⟩:=s;obtain⟨hl,hb,h⟩:=h;
  have hz':(items++items2).size<=tH+1:=by rw[Array.size_append];exact hs2
  wp_walk using (wpAny_updateSeq hl rfl (hz:=hs1) (_hz':=hz')),wpAny_loadPart' hl,wpAny_loadPart' hb;exact⟨_,rfl,h⟩
inductive rExtT(K:tU)(x:V)(vs:List V)(H:Hp)(Q:VK):Prop
 |mk (l b xs zs:_) (_:x=.ref l) (_:vs=[.ref b]) (_:H l=some (.lst xs)) (_:SqT K H b zs) (_:xs.length+zs.length<=tH) (_:Q .non (upd H l (.lst (xs++zs))))
theorem zhl{X:Cx}:MtM X "list.extend" (rExtT X.K):=by
 intro zp s σ H x vs v us Q I rx rv h
 obtain⟨l,b,xs,zs,rfl,rfl,hH,hB,hz,q⟩:=h
 cases rx
 obtain⟨u,rfl,ru⟩:=rv.one
 cases ru
 obtain⟨z,its,n,r,hl,e⟩:=I.lstM hH
 obtain⟨its2,r2,⟨o,e2,c2,n2,d2⟩,z2⟩:=I.tuple hB
 have hl2:=r2.length
 obtain⟨oc,od,oa,osl⟩:=o
 cases c2
 cases d2
 have hsz:its.toArray.size+its2.toArray.size<=tH:=by rw[yI,yI];lia
 have hlong:¬(!its.toArray.isEmpty&&Builtin.List.listTooLong (its.toArray.size+its2.toArray.size))=true:=by
  rw[zfs hsz,wL]
  exact yT
 refine call_meets F.slot_list_extend ⟨_,e,rfl⟩ F.entry_list_extend (F.args_list_extend_2 _ _)
  (ziZ l its.toArray n b its2.toArray n2 od osl hlong (by rw[yI];lia) (by lia)) ⟨e,e2,?_⟩
 refine⟨.non,_,I.lset (its':=its++its2) hH e (by simp) (r.append r2) ?_,rfl,q⟩
 rw[yC]
 lia
end L2
namespace D
open PySem L2
theorem zhl{X:Cx}:MtM X "list.extend" (rExtT X.K):=L2.zhl
def Vr(z:Str):Prop:=1<=z.length/\z.length<=8/\∀c∈z.cps.toList,97<=c/\c<=122
inductive spVar(vs:List V)(H:Hp)(Q:VK)(z3:XK):Prop
 |mk (b:Addr) (_:vs=[.ref b]) (_:IsBox H b) (_:∀(z:Str)(H':Hp),Vr z->Step b H H'->Q (.str z) H')
noncomputable def abxy:Str:=uV "abxy"
noncomputable def abc:Str:=uV "abcdefghijklmnopqrstuvwxyz"
theorem Step.ofSame'{b:Addr}{H H':Hp}(hb:IsBox H b)(s:Same H H'):Step b H H':=⟨by obtain⟨x,y,z,e⟩:=hb;exact⟨x,y,z,s _ _ e⟩,fun c o _ e=>s c o e⟩
theorem zki{z:Str}{i:Int}(h0:0<=i)(h1:i<z.length):∃c,atI z.cps.toList i=some c/\c∈z.cps.toList:=by
 have hl:i.toNat<z.cps.toList.length:=by rw[←zH] at h1;lia
 refine⟨z.cps.toList[i.toNat],?_,yW hl⟩
 have:=zS (yB hl)
 rw[show ((i.toNat:Nat):Int)=i by lia] at this
 exact this
theorem zi0:∀c∈abxy.cps.toList,97<=c/\c<=122:=by decide +kernel
theorem zkj:∀c∈abc.cps.toList,97<=c/\c<=122:=by decide +kernel
theorem zdn:FnScope ["_law_box_here","_law_letters"] ["_law_box_here"] (zi zcj):=mkSc rfl (by decide +kernel)
theorem zgC(F:Fun K "_law_variable" "_law_variable" zcj f fd)(G_ltake:Have P w K mg base "_law_take" k ["_law_box_here","_law_wide"] (spTake))(m_range:mg "range"=none):FnOk P w K mg base CX0 (k+1) f fd ["_law_box_here"] (spVar):=by
 refine F.okQ zdn (by rintro _ _ _ _ ⟨_,rfl,_⟩;rfl) fun _ _ _ _ H vs Q E hr h=>?_
 obtain⟨b,rfl,hb,q⟩:=h
 refine⟨_,(zd (zE (zk zY (zo G_ltake hr rfl (za (pv 0) (za ze zb))) ze (nomark _)) (zf (zl (zz ze2 zg (zo G_ltake hr rfl (za (pv 0) (za ze zb))) (fun _ _=>rfl)))) zq)
  (zd (zm (i:=1) zdn.nd rfl (Or.inr rfl) zg)
  (zf (zl (ZZ tT tX tW zba zg (za (zN [1,0] ["_law_letters","_law_box_here"] rfl rfl (by decide +kernel) rfl (by decide +kernel) rfl (by decide +kernel) ⟨rfl,rfl,trivial⟩ rfl ⟨⟨rfl,rfl,Or.inr (Or.inl rfl),(by show (some NameKind.cell:Option NameKind)≠some .local;decide),⟨_,rfl⟩⟩,⟨rfl,rfl,Or.inr (Or.inl rfl),(by show (some NameKind.cell:Option NameKind)≠some .local;decide),⟨_,rfl⟩⟩,trivial⟩ (zah rfl m_range (za (zu Zj ze (zo G_ltake hr rfl (za (pv 0) (za ze zb)))) zb)) (fun C s H fp=>⟨zM,(zz ze2 (pv 1) (zo G_ltake hr rfl (za (pv 2) (za ze zb))) (fun _ _=>rfl))⟩)) zb)))))),nm3 ?_⟩
 intros
 refine⟨_,rfl,b,2,rfl,hb,by decide,by decide,fun r H1 r0 r1 st1=>⟨rfl,_,rfl,ite2 (fun _=>?_) (fun _=>?_)⟩⟩
 ·refine⟨_,rfl,b,4,rfl,st1.box,by decide,by decide,fun n H2 n0 n1 st2=>?_⟩
  have h4:abxy.length=4:=by decide +kernel
  obtain⟨c,hc,hm⟩:=zki (z:=abxy) n0 (by lia)
  refine⟨abxy,n,c,rfl,rfl,by decide +kernel,hc,q _ _ ⟨yO _,by show 1<=8;decide,fun d hd=>?_⟩ (st1.trans st2)⟩
  have:d=c:=by simpa using hd
  rw[this]
  exact zi0 c hm
 ·refine⟨rfl,_,rfl,b,8,rfl,st1.box,by decide,by decide,fun m H3 m0 m1 st3=>?_⟩
  refine⟨_,_,rfl,rfl,1+m,rfl,by lia,by lia,fun i j us H'=>i<=(1+m).toNat/\j=(1+m).toNat-i/\(∃cs:List Nat,us=(cs.map fun c=>(⟨#[c]⟩:Str)).map V.str/\cs.length=i/\∀c∈cs,97<=c/\c<=122)/\Step b H H',⟨_,yS _,rfl,⟨[],rfl,rfl,fun c h=>nomatch h⟩,st1.trans st3⟩,fun i j us H' hW=>?_⟩
  obtain⟨hi,hj,⟨cs,rfl,hcl,hcs⟩,st4⟩:=hW
  refine⟨small (by rw[yA,yA];lia),?_⟩
  by_cases hlt:i<(1+m).toNat
  ·refine .inr ⟨hlt,fun v' H5 hy=>?_⟩
   obtain⟨rfl,rfl⟩:=hy
   refine iteT ⟨_,rfl,_,rfl,b,26,rfl,st4.box,by decide,by decide,fun n H6 n0 n1 st6=>?_⟩
   have h26:abc.length=26:=by decide +kernel
   obtain⟨c,hc,hm⟩:=zki (z:=abc) n0 (by lia)
   refine⟨abc,n,c,rfl,rfl,by decide +kernel,hc,(1+m).toNat-(i+1),by lia,by lia,rfl,⟨cs++[c],by simp,by rw[yC,hcl];rfl,fun d hd=>?_⟩,st4.trans st6⟩
   rcases yU.mp hd with hd|hd
   ·exact hcs d hd
   ·rw[yH.mp hd];exact zkj c hm
  ·refine .inl ⟨(by show (1+m).toNat<=i;lia),fun D hD=>?_⟩
   have s5:=Sn (o:=.lst ((cs.map fun c=>(⟨#[c]⟩:Str)).map V.str)) hD
   refine⟨uV "",D,cs.map fun c=>(⟨#[c]⟩:Str),rfl,rfl,Sl zc,?_,?_⟩
   ·have e0:(uV "").length=0:=by decide +kernel
    have e1:((cs.map fun c=>(⟨#[c]⟩:Str)).map (·.length)).sum=cs.length:=by
     rw[xN]
     clear hcs hcl s5 hD
     induction cs with
     |nil=>rfl
     |cons x r ih=>
      rw[yJ,wH,yF]
      have:((fun z:Str=>z.length)∘fun c=>(⟨#[c]⟩:Str)) x=1:=rfl
      lia
    rw[e0,e1]
    lia
   ·rw[ziN]
    refine q _ _ ⟨?_,?_,fun c hc=>hcs c (by simpa using hc)⟩ (st4.trans (Step.ofSame' st4.box s5))
    ·show 1<=cs.toArray.size
     rw[yI]
     lia
    ·show cs.toArray.size<=8
     rw[yI]
     lia
inductive spLit(vs:List V)(H:Hp)(Q:VK)(z3:XK):Prop
 |mk (b l:Addr) (names:List Str) (_:vs=[.ref b,.ref l]) (_:IsBox H b) (_:H l=some (.lst (names.map V.str))) (_:l≠b) (_:True) (_:names.length<=100) (_:(∀z∈names,z.length<=400/\Signs z)) (_:∀(v:V)(x:W)(H':Hp),RW H' v (.lst [.txt "lit",x])->x.Ok->x.size<=1000->x.depth<=3->Step b H H'->Q v H')
theorem RW.pair{H:Hp}{a:Addr}{u1 u2:V}{w1 w2:W}(e:H a=some (.tup [u1,u2]))(r1:RW H u1 w1)(r2:RW H u2 w2):RW H (.ref a) (.lst [w1,w2]):=
 .lst e rfl fun i v w hv hw=>match i,hv,hw with
  |0,hv,hw=>by
   have a1:u1=v:=by simpa using hv
   have a2:w1=w:=by simpa using hw
   rw[←a1,←a2];exact r1
  |1,hv,hw=>by
   have a1:u2=v:=by simpa using hv
   have a2:w2=w:=by simpa using hw
   rw[←a1,←a2];exact r2
  |j+2,hv,hw=>by simp at hv
theorem zh{H H':Hp}(s:Same H H'):Tups H H':=fun a vs e=>s a _ e
theorem znb:FnScope ["_law_box_here","_law_names"] ["_law_box_here","_law_names"] (zi zjN):=mkSc rfl (by decide +kernel)
theorem znc(F:Fun K "_law_lit" "_law_lit" zjN f fd)(G_lworth:Have P w K mg base "_law_worth" k ["_law_box_here","_law_room","_law_deep"] (spWorth 13))(G_ltake:Have P w K mg base "_law_take" k ["_law_box_here","_law_wide"] (spTake))(m_len:mg "len"=none):FnOk P w K mg base CX0 (k+1) f fd ["_law_box_here","_law_names"] (spLit):=by
 refine F.okQ znb (by rintro _ _ _ _ ⟨_,_,_,rfl,_⟩;rfl) fun _ _ _ _ H vs Q E hr h=>?_
 obtain⟨b,l,names,rfl,hb,hl,hlb,_,hn,hz,q⟩:=h
 refine⟨_,(zd (zE (PW.pt (zbr (zk (zj3 (xG (wP _ 64) hr.units)) (pv 1) (zF zb) (nomark _)) (zay (zk zY (zo G_ltake hr rfl (za (pv 0) (za ze zb))) ze (nomark _))))) (zf (zl (zy (za zg (za (zz Zd (pv 1) (zo G_ltake hr rfl (za (pv 0) (za (zj zB rfl m_len tF (za (pv 1) zb)) zb))) (fun _ _=>rfl)) zb))))) zq)
  (zf (zl (zy (za zg (za (zo G_lworth hr rfl (za (pv 0) (za ze (za ze zb)))) zb)))))),nm2 ?_⟩
 intros
 refine⟨_,rfl,zl0,fun e0 he0=>?_⟩
 have s0:=Sn (o:=.lst []) he0
 have st0:=Step.ofSame' hb s0
 refine⟨l,e0,names.map V.str,rfl,rfl,Sl (s0 _ _ hl),Sl zc,_,rfl,?_⟩
 by_cases hne:names=[]
 ·have e0:(!(names.map V.str).isEmpty)=false:=by rw[hne];rfl
  rw[e0]
  refine iteF ?_
  have stA:=st0
  refine⟨_,rfl,b,6,3,rfl,stA.box,by decide,by decide,by decide,by decide,fun v x H2 rx okx dx sx st2=>⟨zl2,fun a ha=>?_⟩⟩
  have stB:=stA.trans st2
  have s3:=Sn (o:=.tup [.str "lit",v]) ha
  exact q _ x _ (RW.pair zc (.txt _) (rx.mono (zh s3))) okx (by lia) (by lia) (stB.trans (Step.ofSame' stB.box s3))
 have hpos:0<names.length:=uL.mpr hne
 have e1:(!(names.map V.str).isEmpty)=true:=by
  cases names with
  |nil=>exact absurd rfl hne
  |cons x r=>rfl
 rw[e1]
 refine iteT ⟨_,rfl,b,3,rfl,st0.box,by decide,by decide,fun r H1 r0 r1 st1=>⟨rfl,_,rfl,ite2 (fun _=>?_) (fun _=>?_)⟩⟩
 ·have stA:=st0.trans st1
  have hl1:=stA.keep l _ hlb hl
  refine⟨_,rfl,_,rfl,_,rfl,_,_,rfl,.inl ⟨_,Sl hl1,rfl⟩,b,_,rfl,stA.box,by rw[yA];lia,by rw[yA];lia,fun n H2 n0 n1 st2=>?_⟩
  rw[yA] at n1
  have hi:n.toNat<names.length:=by lia
  have hat:atI (names.map V.str) n=some (.str names[n.toNat]):=by
   have:=zS (xs:=names.map V.str) (j:=n.toNat) (v:=.str names[n.toNat]) (by rw[yN,yB hi];rfl)
   rw[show ((n.toNat:Nat):Int)=n by lia] at this
   exact this
  have stB:=stA.trans st2
  refine⟨l,_,n,_,rfl,rfl,Sl (stB.keep l _ hlb hl),hat,zl2,fun a ha=>?_⟩
  have s3:=Sn (o:=.tup [.str "lit",.str names[n.toNat]]) ha
  exact q _ (.txt names[n.toNat]) _ (RW.pair zc (.txt _) (.txt _)) (hz _ (yW hi)) (by have:=(hz _ (yW hi)).1;simp only[W.size];lia) (by simp[W.depth]) (stB.trans (Step.ofSame' stB.box s3))
 ·have stA:=st0.trans st1
  refine⟨_,rfl,b,6,3,rfl,stA.box,by decide,by decide,by decide,by decide,fun v x H2 rx okx dx sx st2=>⟨zl2,fun a ha=>?_⟩⟩
  have stB:=stA.trans st2
  have s3:=Sn (o:=.tup [.str "lit",v]) ha
  exact q _ x _ (RW.pair zc (.txt _) (rx.mono (zh s3))) okx (by lia) (by lia) (stB.trans (Step.ofSame' stB.box s3))
inductive Wo where
 |lit|var|letw|ifw|add|sub|mul|div|same|less|join|list|item|count|figs|each|over|look|elsew|cry
noncomputable def woS:Wo->Str
 |.lit=>"lit"
 |.var=>"var"
 |.letw=>"let"
 |.ifw=>"if"
 |.add=>"+"
 |.sub=>"-"
 |.mul=>"*"
 |.div=>"/"
 |.same=>"same"
 |.less=>"less"
 |.join=>"join"
 |.list=>"list"
 |.item=>"item"
 |.count=>"count"
 |.figs=>"figures"
 |.each=>"each"
 |.over=>"over"
 |.look=>"look"
 |.elsew=>"else"
 |.cry=>"cry"
noncomputable def zed:List Wo:=[.lit,.var,.letw,.ifw,.add,.sub,.mul,.div,.same,.less,.join,.list,.item,.count,.figs,.each,.over,.look,.elsew,.cry]
noncomputable def w3:Wo->Bool
 |.ifw=>true
 |.over=>true
 |_=>false
noncomputable def w1:Wo->Bool
 |.count=>true
 |.figs=>true
 |.look=>true
 |.cry=>true
 |_=>false
noncomputable def wVL:Wo->Bool
 |.var=>true
 |.list=>true
 |_=>false
noncomputable def wEO:Wo->Bool
 |.each=>true
 |.over=>true
 |_=>false
noncomputable def wLit:Wo->Bool
 |.lit=>true
 |_=>false
noncomputable def wVar:Wo->Bool
 |.var=>true
 |_=>false
def Wo.needs(d:Wo):Int:=if wVL d then 0 else 2+(if w3 d then 1 else 0)-(if w1 d then 1 else 0)
theorem in3(d:Wo):inV (.str (woS d)) [.str "if",.str "over"]=w3 d:=by cases d<;>decide +kernel
theorem in1(d:Wo):inV (.str (woS d)) [.str "count",.str "figures",.str "look",.str "cry"]=w1 d:=by cases d<;>decide +kernel
theorem inVL(d:Wo):inV (.str (woS d)) [.str "var",.str "list"]=wVL d:=by cases d<;>decide +kernel
theorem inEO(d:Wo):inV (.str (woS d)) [.str "each",.str "over"]=wEO d:=by cases d<;>decide +kernel
theorem zi1(d:Wo):decide (V.str (woS d)=V.str "lit")=wLit d:=by cases d<;>decide +kernel
theorem zkk(d:Wo):decide (V.str (woS d)=V.str "var")=wVar d:=by cases d<;>decide +kernel
inductive spWord(vs:List V)(H:Hp)(Q:VK)(z3:XK):Prop
 |mk (b sc:Addr) (us:List V) (spare floors rounds:Int) (_:vs=[.ref b,.ref sc,.int spare,.int floors,.int rounds]) (_:IsBox H b) (_:H sc=some (.lst us)) (_:sc≠b) (_:∀(d:Wo)(H':Hp),Step b H H'->(wLit d=false->d.needs<spare/\(floors=0->wVL d=true)/\(wVar d=true->us≠[])/\(wEO d=true->rounds≠0))->Q (.str (woS d)) H')
theorem zbQ:FnScope ["_law_box_here","_law_scope","_law_spare","_law_floors","_law_rounds","_law_words","_law_word_here","_law_needs"] ["_law_box_here","_law_scope","_law_spare","_law_floors","_law_rounds"] (zi zhb):=mkSc rfl (by decide +kernel)
theorem zlL(F:Fun K "_law_word" "_law_word" zhb f fd)(G_ltake:Have P w K mg base "_law_take" k ["_law_box_here","_law_wide"] (spTake))(m_int:mg "int"=none):FnOk P w K mg base CX0 (k+1) f fd ["_law_box_here","_law_scope","_law_spare","_law_floors","_law_rounds"] (spWord):=by
 refine F.okQ zbQ (by rintro _ _ _ _ ⟨_,_,_,_,_,_,rfl,_⟩;rfl) fun _ _ _ _ H vs Q E hr h=>?_
 obtain⟨b,sc,us,spare,floors,rounds,rfl,hb,hsc,hne,q⟩:=h
 refine⟨_,(zd (zm (i:=5) zbQ.nd rfl (Or.inl rfl) (zF (za zg (za zg (za zg (za zg (za zg (za zg (za zg (za zg (za zg (za zg (za zg (za zg zb))))))))))))))
  (zd (zm (i:=5) zbQ.nd rfl (Or.inl rfl) (zu zaj (pv 5) (zF (za zg (za zg (za zg (za zg (za zg (za zg (za zg (za zg zb)))))))))))
  (zd (zm (i:=6) zbQ.nd rfl (Or.inl rfl) (zz Zd (pv 5) (zo G_ltake hr rfl (za (pv 0) (za ze zb))) (fun _ _=>rfl)))
  (zd (zm (i:=7) zbQ.nd rfl (Or.inl rfl) (zu Zu (zu Zj ze (zD zaA rfl m_int ZQ (za (zJ ZB (pv 6) (zy (za zg (za zg zb))) (by rfl)) zb))) (zD zaA rfl m_int ZQ (za (zJ ZB (pv 6) (zy (za zg (za zg (za zg (za zg zb))))) (by rfl)) zb))))
  (zd (zE (zk ZB (pv 6) (zy (za zg (za zg zb))) (by rfl)) (zf (zm (i:=7) zbQ.nd rfl (Or.inl rfl) ze)) zq)
  (zd (zE (PW.pt (Z6 (zk zY (pv 6) zg (nomark _)) (Z6 (PW.pt (zbr (zk zY (pv 3) ze (nomark _)) (zay (zk zgq (pv 6) (zy (za zg (za zg zb))) (by rfl))))) (ZF (zk zoM (pv 7) (pv 2) (nomark _)))))) (zf (zl zg)) zq)
  (zd (zE (PW.pt (Z6 (PW.pt (zbr (zk zY (pv 6) zg (nomark _)) (zay (zk (zmn (xG (wP _ 64) hr.units)) (pv 1) (zF zb) (nomark _))))) (ZF (PW.pt (zbr (zk ZB (pv 6) (zy (za zg (za zg zb))) (by rfl)) (zay (zk zY (pv 4) ze (nomark _)))))))) (zf (zl zg)) zq)
  (zf (zl (pv 6)))))))))),nm8 ?_⟩
 intros
 refine⟨zl12,fun p1 h1=>?_⟩
 have st1:=Step.new (o:=.lst ((zed.take 12).map fun d=>V.str (woS d))) hb h1
 refine⟨_,rfl,zl8,fun p2 h2=>?_⟩
 have s2:=Sn (o:=.lst ((zed.drop 12).map fun d=>V.str (woS d))) h2
 refine⟨p1,p2,(zed.take 12).map (fun d=>V.str (woS d)),(zed.drop 12).map (fun d=>V.str (woS d)),rfl,rfl,s2 _ _ zc,zc,(by decide),fun p3 h3=>?_⟩
 have st2:=st1.trans (Step.ofSame' st1.box s2)
 have st3:=st2.trans (Step.new (o:=.lst (zed.map fun d=>V.str (woS d))) st2.box h3)
 refine⟨_,rfl,_,rfl,b,20,rfl,st3.box,by decide,by decide,fun r H1 r0 r1 st4=>?_⟩
 have hi:r.toNat<zed.length:=by show r.toNat<20;lia
 obtain⟨d,hat⟩:∃d:Wo,atI (zed.map fun d=>V.str (woS d)) r=some (.str (woS d)):=⟨zed[r.toNat],by
  have:=zS (xs:=zed.map fun d=>V.str (woS d)) (j:=r.toNat) (v:=.str (woS zed[r.toNat])) (by rw[yN,yB hi];rfl)
  rw[show ((r.toNat:Nat):Int)=r by lia] at this
  exact this⟩
 have stA:=st3.trans st4
 refine⟨p3,_,r,_,rfl,rfl,Sl (st4.keep p3 _ (by obtain⟨x,y,z,e⟩:=st2.box;exact (zn e h3).symm) zc),hat,?_⟩
 refine⟨_,rfl,zl2,fun q1 hq1=>⟨q1,_,rfl,.inr (Sq zc),rfl,rfl,.inr ⟨_,rfl,_,_,rfl,rfl,_,rfl,zl4,fun q2 hq2=>⟨q2,_,rfl,.inr (Sq zc),rfl,rfl,.inr ⟨_,rfl,_,_,rfl,rfl,?_⟩⟩⟩⟩⟩
 have stB:=stA.trans (Step.new (o:=.tup [.str "if",.str "over"]) stA.box hq1)
 have stC:=stB.trans (Step.new (o:=.tup [.str "count",.str "figures",.str "look",.str "cry"]) stB.box hq2)
 dsimp only[zW]
 refine seqI (fun σ' H'=>∃o5,σ'=[some (.ref b),some (.ref sc),some (.int spare),some (.int floors),some (.int rounds),o5,some (.str (woS d)),some (.int d.needs)]/\Step b H H') (fun σ' H' h=>?_) (fun tl=>?_)
 ·obtain⟨o5,rfl,stD⟩:=h
  refine seqI (fun σ' H'=>∃o5,σ'=[some (.ref b),some (.ref sc),some (.int spare),some (.int floors),some (.int rounds),o5,some (.str (woS d)),some (.int d.needs)]/\Step b H H'/\wLit d=false/\d.needs<spare/\(floors=0->wVL d=true)) (fun σ' H' h=>?_) (fun tl=>?_)
  ·obtain⟨o5,rfl,stE,hlit,hneed,hfl⟩:=h
   refine⟨_,rfl,rfl,_,rfl,?_⟩
   rw[show uV "var"="var" from rfl,zkk]
   cases hv:wVar d with
   |true=>
    refine iteT ⟨_,rfl,zl0,fun e0 he0=>?_⟩
    have stF:=stE.trans (Step.new (o:=.lst []) stE.box he0)
    refine⟨sc,e0,us,rfl,rfl,Sl (stF.keep sc _ hne hsc),Sl zc,_,rfl,?_⟩
    cases hus:us with
    |nil=>exact iteT (iteT (q .lit _ stF (fun h=>nomatch h)))
    |cons x r=>
     have hsv:wVar d=true->us≠[]:=fun _ z=>by rw[hus] at z;cases z
     refine iteF ?_
     refine⟨_,rfl,zl2,fun q5 hq5=>⟨q5,_,rfl,.inr (Sq zc),rfl,rfl,_,rfl,?_⟩⟩
     have st9:=stF.trans (Step.new (o:=.tup [.str "each",.str "over"]) stF.box hq5)
     show if inV (.str (woS d)) [.str "each",.str "over"]=true then _ else _
     rw[inEO]
     cases heo:wEO d with
     |true=>
      refine iteT ⟨_,rfl,rfl,_,rfl,ite2 (fun c3=>q .lit _ st9 (fun h=>nomatch h)) (fun c3=>?_)⟩
      exact⟨_,rfl,q d _ st9 fun _=>⟨hneed,hfl,hsv,fun _ z=>c3 (by rw[z];rfl)⟩⟩
     |false=>exact iteF (iteF ⟨_,rfl,q d _ st9 fun _=>⟨hneed,hfl,hsv,fun z=>by rw[heo] at z;cases z⟩⟩)
   |false=>
    have hsv:wVar d=true->us≠[]:=fun z=>by rw[hv] at z;cases z
    refine iteF (iteF ?_)
    refine⟨_,rfl,zl2,fun q5 hq5=>⟨q5,_,rfl,.inr (Sq zc),rfl,rfl,_,rfl,?_⟩⟩
    have st9:=stE.trans (Step.new (o:=.tup [.str "each",.str "over"]) stE.box hq5)
    show if inV (.str (woS d)) [.str "each",.str "over"]=true then _ else _
    rw[inEO]
    cases heo:wEO d with
    |true=>
     refine iteT ⟨_,rfl,rfl,_,rfl,ite2 (fun c3=>q .lit _ st9 (fun h=>nomatch h)) (fun c3=>?_)⟩
     exact⟨_,rfl,q d _ st9 fun _=>⟨hneed,hfl,hsv,fun _ z=>c3 (by rw[z];rfl)⟩⟩
    |false=>exact iteF (iteF ⟨_,rfl,q d _ st9 fun _=>⟨hneed,hfl,hsv,fun z=>by rw[heo] at z;cases z⟩⟩)
  ·refine⟨_,rfl,rfl,_,rfl,?_⟩
   rw[show uV "lit"="lit" from rfl,zi1]
   cases hlit:wLit d with
   |true=>exact iteT (iteT (q .lit _ stD (fun h=>nomatch h)))
   |false=>
    refine iteF ⟨_,rfl,rfl,_,rfl,ite2 (fun c=>?_) (fun c=>iteF ?_)⟩
    ·refine⟨_,rfl,zl2,fun q4 hq4=>⟨q4,_,rfl,.inr (Sq zc),rfl,rfl,_,rfl,?_⟩⟩
     have stE:=stD.trans (Step.new (o:=.tup [.str "var",.str "list"]) stD.box hq4)
     show if (!inV (.str (woS d)) [.str "var",.str "list"])=true then _ else _
     rw[inVL]
     cases hvl:wVL d with
     |false=>exact iteT (iteT (q .lit _ stE (fun h=>nomatch h)))
     |true=>
      refine iteF ?_
      refine⟨_,rfl,_,rfl,_,_,rfl,rfl,_,rfl,ite2 (fun c2=>q .lit _ stE (fun h=>nomatch h)) (fun c2=>?_)⟩
      exact tl _ _ ⟨_,rfl,stE,hlit,(by
       have:¬spare<=d.needs:=fun z=>c2 (decide_eq_true z)
       lia),fun _=>hvl⟩
    ·have hf0:floors≠0:=fun z=>c (by rw[z];rfl)
     refine⟨_,rfl,_,rfl,_,_,rfl,rfl,_,rfl,ite2 (fun c2=>q .lit _ stD (fun h=>nomatch h)) (fun c2=>?_)⟩
     exact tl _ _ ⟨_,rfl,stD,hlit,(by
      have:¬spare<=d.needs:=fun z=>c2 (decide_eq_true z)
      lia),fun z=>absurd z hf0⟩
 ·refine⟨_,rfl,zl2,fun q3 hq3=>⟨q3,_,rfl,.inr (Sq zc),rfl,rfl,_,rfl,?_⟩⟩
  have stD:=stC.trans (Step.new (o:=.tup [.str "var",.str "list"]) stC.box hq3)
  have e3:=in3 d
  have e1:=in1 d
  show if inV (.str (woS d)) [.str "var",.str "list"]=true then _ else _
  rw[inVL]
  cases hvl:wVL d with
  |true=>exact iteT (tl _ _ ⟨_,by show _=[_,_,_,_,_,_,_,some (V.int d.needs)];unfold Wo.needs;rw[hvl];rfl,stD⟩)
  |false=>exact iteF (tl _ _ ⟨_,by show _=[_,_,_,_,_,_,_,some (V.int d.needs)];unfold Wo.needs;rw[hvl,←e3,←e1];rfl,stD⟩)
inductive Rl where
 |lit (x:W)
 |var (s:Str)
 |op (d:Wo) (bs:List Str) (ps:List Rl)
mutual
noncomputable def Rl.toW:Rl->W
 |.lit x=>.lst [.txt "lit",x]
 |.var s=>.lst [.txt "var",.txt s]
 |.op d bs ps=>.lst (.txt (woS d)::(bs.map W.txt++rlWs ps))
noncomputable def rlWs:List Rl->List W
 |[]=>[]
 |p::r=>p.toW::rlWs r
end
mutual
noncomputable def Rl.many:Rl->Nat
 |.lit _=>1
 |.var _=>1
 |.op _ _ ps=>1+manys ps
noncomputable def manys:List Rl->Nat
 |[]=>0
 |p::r=>p.many+manys r
end
mutual
noncomputable def Rl.high:Rl->Nat
 |.lit _=>0
 |.var _=>0
 |.op _ _ ps=>highs ps
noncomputable def highs:List Rl->Nat
 |[]=>0
 |p::r=>max (1+p.high) (highs r)
end
noncomputable def bcnt:Wo->Nat
 |.letw=>1
 |.each=>1
 |.over=>2
 |_=>0
noncomputable def zbo:Wo->Bool
 |.list=>true
 |_=>false
noncomputable def pcnt:Wo->Nat
 |.letw=>2
 |.ifw=>3
 |.over=>3
 |.count=>1
 |.figs=>1
 |.look=>1
 |.cry=>1
 |.lit=>0
 |.var=>0
 |.list=>0
 |_=>2
def Cnt(d:Wo)(n:Nat):Prop:=(zbo d=true->n<=8)/\(zbo d=false->n=pcnt d)
def Rl.Gd1:Rl->Prop
 |.lit x=>x.Ok/\x.size<=1000/\x.depth<=12
 |.var s=>Vr s
 |.op d bs ps=>wLit d=false/\wVar d=false/\bs.length=bcnt d/\(∀z∈bs,Vr z)/\bs.Nodup/\Cnt d ps.length
mutual
def Rl.Gd:Rl->Prop
 |.lit x=>(Rl.lit x).Gd1
 |.var s=>(Rl.var s).Gd1
 |.op d bs ps=>(Rl.op d bs ps).Gd1/\Gds ps
def Gds:List Rl->Prop
 |[]=>True
 |p::r=>p.Gd/\Gds r
end
mutual
noncomputable def Rl.rep:Rl->Nat
 |.lit _=>0
 |.var _=>0
 |.op d _ ps=>reps (wEO d) ps
noncomputable def reps(b:Bool):List Rl->Nat
 |[]=>0
 |[p]=>p.rep+(if b then 1 else 0)
 |p::q::r=>max p.rep (reps b (q::r))
end
mutual
def Rl.Fit:Rl->List Str->Prop
 |.lit x,_=>(Rl.lit x).Gd1
 |.var s,sc=>Vr s/\s∈sc
 |.op d bs ps,sc=>(Rl.op d bs ps).Gd1/\Fits ps sc bs
def Fits:List Rl->List Str->List Str->Prop
 |[],_,_=>True
 |[p],sc,bs=>p.Fit (sc++bs)
 |p::q::r,sc,bs=>p.Fit sc/\Fits (q::r) sc bs
end
mutual
theorem Rl.Fit.gd:∀{r:Rl}{sc:List Str},r.Fit sc->r.Gd
 |.lit x,sc,h=>by rw[Rl.Fit] at h;rw[Rl.Gd];exact h
 |.var s,sc,h=>by rw[Rl.Fit] at h;rw[Rl.Gd];exact h.1
 |.op d bs ps,sc,h=>by rw[Rl.Fit] at h;rw[Rl.Gd];exact⟨h.1,Fits.gd h.2⟩
theorem Fits.gd:∀{ps:List Rl}{sc bs:List Str},Fits ps sc bs->Gds ps
 |[],_,_,_=>by rw[Gds];trivial
 |[p],sc,bs,h=>by rw[Fits] at h;rw[Gds,Gds];exact⟨h.gd,trivial⟩
 |p::q::r,sc,bs,h=>by rw[Fits] at h;rw[Gds];exact⟨h.1.gd,Fits.gd h.2⟩
end
theorem zkl{b:Bool}{n:Int}:∀{ps:List Rl},0<=n->(∀p∈ps,(p.rep:Int)<=n)->(b=true->∀p,ps.getLast?=some p->(p.rep:Int)+1<=n)->(reps b ps:Int)<=n
 |[],h,_,_=>by rw[reps];exact h
 |[p],h,h1,h2=>by
  rw[reps]
  cases b with
  |false=>have:=h1 p (by simp);simp;lia
  |true=>have:=h2 rfl p rfl;simp;lia
 |p::q::r,h,h1,h2=>by
  rw[reps]
  have a1:=h1 p (by simp)
  have a2:=zkl (b:=b) (ps:=q::r) h (fun x hx=>h1 x (yM _ hx)) (fun hb x hx=>h2 hb x (by rw[List.getLast?_cons_cons];exact hx))
  lia
theorem zkm(l:List Rl)(r:Rl):rlWs (l++[r])=rlWs l++[r.toW]:=by
 induction l with
 |nil=>simp[rlWs]
 |cons p l ih=>simp only[xC,rlWs,ih]
theorem zbR:∀l:List Rl,(rlWs l).length=l.length
 |[]=>by simp[rlWs]
 |_::l=>by simp only[rlWs,yF,zbR l]
theorem zfg(l:List Rl)(r:Rl):manys (l++[r])=manys l+r.many:=by
 induction l with
 |nil=>simp[manys]
 |cons p l ih=>simp only[xC,manys,ih];lia
def Names(H:Hp)(b l:Addr)(names:List Str):Prop:=H l=some (.lst (names.map V.str))/\l≠b/\True/\names.length<=100/\∀z∈names,z.length<=400/\Signs z
theorem Names.step{H H':Hp}{b l:Addr}{names:List Str}(h:Names H b l names)(st:Step b H H'):Names H' b l names:=⟨st.keep l _ h.2.1 h.1,h.2⟩
inductive spAny(n:Nat)(vs:List V)(H:Hp)(Q:VK)(z3:XK):Prop
 |mk (b sc l:Addr) (scope names:List Str) (spare floors rounds:Int):vs=[.ref b,.ref sc,.ref l,.int spare,.int floors,.int rounds]->IsBox H b->Names H b l names->H sc=some (.lst (scope.map V.str))->sc≠b->scope.length+2*n<=1000->(∀y∈scope,Vr y)->1<=spare->spare<=100->0<=floors->floors<n->0<=rounds->rounds<=100->(∀(t:Addr)(v:V)(r:Rl)(H':Hp),H' t=some (.tup [v,.int r.many])->RW H' v r.toW->r.Fit scope->(r.many:Int)<=spare->(r.high:Int)<=floors->(r.rep:Int)<=rounds->Step b H H'->Q (.ref t) H')->spAny n vs H Q z3
inductive spPartsBy(n:Nat)(vs:List V)(H:Hp)(Q:VK)(z3:XK):Prop
 |mk (b ss l rs:Addr) (as:List Addr) (scopes:List (List Str)) (names:List Str) (rounds:List Int) (spare floors:Int):vs=[.ref b,.ref ss,.ref l,.int spare,.int floors,.ref rs]->IsBox H b->Names H b l names->H ss=some (.lst (as.map V.ref))->ss≠b->H rs=some (.lst (rounds.map V.int))->rs≠b->as.length=scopes.length->scopes.length<=rounds.length->(∀r∈rounds,0<=r/\r<=100)->(∀(i:Nat)(a:Addr)(sc:List Str),as[i]?=some a->scopes[i]?=some sc->H a=some (.lst (sc.map V.str))/\a≠b/\sc.length+2*n<=1000/\∀y∈sc,Vr y)->(scopes.length:Int)<=spare->spare<=100->floors<n->(0<=floors\/scopes=[])->(∀(t t2:Addr)(us:List V)(ps:List Rl)(H':Hp),H' t=some (.tup [.ref t2,.int (manys ps)])->H' t2=some (.tup us)->RWs H' us (rlWs ps)->ps.length=scopes.length->(∀(i:Nat)(p:Rl)(sc:List Str),ps[i]?=some p->scopes[i]?=some sc->p.Fit sc/\(p.high:Int)<=floors/\∀c,rounds[i]?=some c->(p.rep:Int)<=c)->(manys ps:Int)<=spare->Step b H H'->Q (.ref t) H')->spPartsBy n vs H Q z3
theorem Zr:FnScope ["_law_box_here","_law_scopes","_law_names","_law_spare","_law_floors","_law_rounds","_law_found","_law_used","_law_k","_law_scope","_law_rest","_law_part","_law_more"] ["_law_box_here","_law_scopes","_law_names","_law_spare","_law_floors","_law_rounds"] (zi zck):=mkSc rfl (by decide +kernel)
theorem zdo(F:Fun K "_law_parts_by" "_law_parts_by" zck f fd)(G_lany:Have P w K mg base "_law_any" k ["_law_box_here","_law_scope","_law_names","_law_spare","_law_floors","_law_rounds"] (spAny n))(m_enumerate:mg "enumerate"=none)(m_len:mg "len"=none)(m_tuple:mg "tuple"=none):FnOk P w K mg base CX0 (k+1) f fd ["_law_box_here","_law_scopes","_law_names","_law_spare","_law_floors","_law_rounds"] (spPartsBy n):=by
 refine F.okQ Zr (by rintro _ _ _ _ ⟨_,_,_,_,_,_,_,_,_,_,rfl,_⟩;rfl) fun _ _ _ _ H vs Q E hr h=>?_
 obtain⟨b,ss,l,rs,as,scopes,names,rounds,spare,floors,rfl,hb,hnm,hss,hsb,hrs,hrb,hal,hrl,hrr,hsc,hsp,hs100,hfn,hf0,q⟩:=h
 refine⟨_,(zd (zm (i:=6) Zr.nd rfl (Or.inl rfl) (zF zb))
  (zd (zm (i:=7) Zr.nd rfl (Or.inl rfl) ze)
  (zd (zaL tN rfl (zd9 rfl m_enumerate (za (pv 1) zb)) (zbl rfl (Zc (Zb (i:=8) Zr.nd rfl (Or.inl rfl)) (Zc (Zb (i:=9) Zr.nd rfl (Or.inl rfl)) zaP))) (zd (zm (i:=10) Zr.nd rfl (Or.inl rfl) (zu Zu (zu Zu (pv 3) (pv 7)) (zu Zu (zu Zu (zj zB rfl m_len tF (za (pv 1) zb)) (pv 8)) ze)))
  (zd (zbm (zo G_lany hr rfl (za (pv 0) (za (pv 9) (za (pv 2) (za (pv 10) (za (pv 4) (za (zz Zd (pv 5) (pv 8) (fun _ _=>rfl)) zb))))))) (zbl rfl (Zc (Zb (i:=11) Zr.nd rfl (Or.inl rfl)) (Zc (Zb (i:=12) Zr.nd rfl (Or.inl rfl)) zaP))))
  (zd (Zm (ZZ tO tQ tP ZC (pv 6) (za (pv 11) zb)))
  (zf (zm (i:=7) Zr.nd rfl (Or.inl rfl) (zu Zj (pv 7) (pv 12))))))))
  (zf (zl (zy (za (zD zK rfl m_tuple zC (za (pv 6) zb)) (za (pv 7) zb)))))))),nm4 ?_⟩
 intros
 refine⟨zl0,fun p hp=>?_⟩
 have st0:=Step.new (o:=.lst []) hb hp
 have hpb:p≠b:=fun z=>by
  obtain⟨x,y,w',e⟩:=hb
  rw[←z,hp] at e
  cases e
 refine⟨_,rfl,ss,as.map V.ref,rfl,Sl (st0.keep ss _ hsb hss),zfJ (xs:=as.map V.ref) (fun i σ' H'=>∃(o8 o9 o10 o11 o12:Option V)(us:List V)(ps:List Rl),σ'=[some (.ref b),some (.ref ss),some (.ref l),some (.int spare),some (.int floors),some (.ref rs),some (.ref p),some (.int (manys ps)),o8,o9,o10,o11,o12]/\Step b H H'/\H' p=some (.lst us)/\RWs H' us (rlWs ps)/\ps.length=i/\(∀(i:Nat)(p:Rl)(sc:List Str),ps[i]?=some p->scopes[i]?=some sc->p.Fit sc/\(p.high:Int)<=floors/\∀c,rounds[i]?=some c->(p.rep:Int)<=c)/\(manys ps:Int)+(scopes.length-i)<=spare)
  ⟨none,none,none,none,none,[],[],rfl,st0,zc,⟨rfl,fun i v w e=>by simp at e⟩,rfl,fun i p sc e=>by simp at e,by simp[manys];lia⟩ (fun i σ' H' _ h=>?_) (fun i x t σ' H' hx ht h=>?_) (fun σ' H' h=>?_)⟩
 ·obtain⟨_,_,_,_,_,us,ps,_,st,_⟩:=h
  exact Sl (st.keep ss _ hsb hss)
 ·obtain⟨o8,o9,o10,o11,o12,us,ps,rfl,st,ep,hw,hpl,hfit,hm⟩:=h
  rw[yN] at hx
  obtain⟨a,ha,rfl⟩:=xV.mp hx
  have hi:i<as.length:=(yE.mp ha).1
  have hsi:scopes[i]?=some scopes[i]:=yB (by lia)
  have hri:rounds[i]?=some rounds[i]:=yB (by lia)
  obtain⟨h1,h2,h3,h4⟩:=hsc i a _ ha hsi
  obtain⟨r0,r1⟩:=hrr _ (xB hri)
  have hat:atI (rounds.map V.int) (i:Int)=some (.int rounds[i]):=zS (by rw[yN,hri];rfl)
  have sT:=Sn (o:=.tup [.int i,.ref a]) ht
  have stT:=st.trans (Step.ofSame' st.box sT)
  have hf:0<=floors:=by
   rcases hf0 with h|h
   ·exact h
   ·have h0:as.length=0:=by rw[hal,h];rfl
    lia
  refine⟨t,_,rfl,Sq zc,rfl,_,_,rfl,_,_,rfl,rfl,?_⟩
  refine⟨_,rfl,_,rfl,_,_,rfl,rfl,_,rfl,_,_,rfl,.inl ⟨_,Sl (stT.keep ss _ hsb hss),rfl⟩,_,rfl,_,_,rfl,rfl,_,_,rfl,rfl,_,_,rfl,rfl,?_⟩
  refine⟨_,rfl,_,rfl,_,rfl,_,rfl,_,rfl,_,rfl,_,rfl,rs,_,_,_,rfl,rfl,Sl (stT.keep rs _ hrb hrs),hat,?_⟩
  refine⟨b,a,l,scopes[i],names,_,floors,rounds[i],rfl,stT.box,hnm.step stT,stT.keep a _ h2 h1,h2,h3,h4,?_,?_,hf,hfn,r0,r1,fun t3 v r H3 et rw3 fit hmany hhigh hrep st3=>?_⟩
  ·rw[yA,hal];lia
  ·rw[yA,hal];lia
  rw[yA,hal] at hmany
  have st4:=stT.trans st3
  have ep3:=(Step.ofSame' st.box sT).trans st3 |>.keep p _ hpb ep
  have hul:=hw.len
  rw[zbR] at hul
  refine⟨t3,_,rfl,Sq et,rfl,_,_,rfl,_,_,rfl,rfl,?_⟩
  refine⟨_,rfl,.inl ⟨rfl,us,Sl ep3⟩,_,rfl,p,us,v,rfl,rfl,ep3,xG (show us.length<=100 by lia) (by decide),?_⟩
  refine⟨_,rfl,_,rfl,_,_,rfl,rfl,?_⟩
  have tq:Tups H3 (upd H3 p (.lst (us++[v]))):=fun c zs ec=>by
   rw[zA (fun z=>by rw[z,ep3] at ec;cases ec)]
   exact ec
  have stF:Step b H (upd H3 p (.lst (us++[v]))):=⟨by
   obtain⟨x,y,z,e'⟩:=st4.box
   exact⟨x,y,z,by rw[zA hpb.symm];exact e'⟩,fun c o hc e'=>by
   rw[zA (zn e' hp)]
   exact st4.keep c o hc e'⟩
  have tS:Tups H' H3:=fun c zs ec=>st3.tups stT.box c zs (sT _ _ ec)
  refine⟨some (.int i),some (.ref a),some (.int (spare-manys ps-(((as.map V.ref).length:Int)-i-1))),some v,some (.int r.many),us++[v],ps++[r],?_,stF,zc,?_,by rw[yC,hpl];rfl,fun j p' sc hj hs=>?_,?_⟩
  ·rw[zfg,Int.natCast_add]
   rfl
  ·rw[zkm]
   exact ((hw.mono tS).mono tq).snoc (rw3.mono tq)
  ·by_cases hjl:j<ps.length
   ·rw[yP hjl] at hj
    exact hfit j p' sc hj hs
   ·rw[yL (by lia)] at hj
    have hj0:j-ps.length=0:=by
     have:=(yE.mp hj).1
     simp at this
     lia
    rw[hj0] at hj
    cases hj
    have hji:j=i:=by lia
    rw[hji,hsi] at hs
    cases hs
    exact⟨fit,hhigh,fun c hc=>by rw[hji,hri] at hc;cases hc;exact hrep⟩
  ·rw[zfg]
   lia
 ·obtain⟨o8,o9,o10,o11,o12,us,ps,rfl,st,ep,hw,hpl,hfit,hm⟩:=h
  rw[yA,hal] at hpl hm
  refine⟨_,rfl,p,us,rfl,.inl ⟨Sl ep,fun t2 ht2=>⟨_,rfl,zl2,fun t ht=>?_⟩⟩⟩
  have s1:=Sn (o:=.tup us) ht2
  have s2:=Sn (o:=.tup [.ref t2,.int (manys ps)]) ht
  have s3:=s1.trans s2
  exact q t t2 us ps _ zc (s2 _ _ zc) (hw.mono (zh s3)) hpl hfit (by lia) (st.trans (Step.ofSame' st.box s3))
theorem IsBox.ne{H:Hp}{b p:Addr}(hb:IsBox H b)(hp:H p=none):p≠b:=fun z=>by
 obtain⟨x,y,w',e⟩:=hb
 rw[←z,hp] at e
 cases e
noncomputable def wIf:Wo->Bool
 |.ifw=>true
 |_=>false
noncomputable def wB:Wo->Bool
 |.letw=>true
 |.each=>true
 |.over=>true
 |_=>false
noncomputable def zgD:Wo->Bool
 |.each=>true
 |_=>false
noncomputable def zbp:Wo->Bool
 |.over=>true
 |_=>false
theorem eqIf(d:Wo):decide (V.str (woS d)=V.str "if")=wIf d:=by cases d<;>decide +kernel
theorem zkn(d:Wo):decide (V.str (woS d)=V.str "list")=zbo d:=by cases d<;>decide +kernel
theorem zoh(d:Wo):decide (V.str (woS d)=V.str "each")=zgD d:=by cases d<;>decide +kernel
theorem zoi(d:Wo):decide (V.str (woS d)=V.str "over")=zbp d:=by cases d<;>decide +kernel
theorem inB(d:Wo):inV (.str (woS d)) [.str "let",.str "each",.str "over"]=wB d:=by cases d<;>decide +kernel
def Wo.cnt(d:Wo):Int:=2+(if wIf d then 1 else 0)-(if w1 d then 1 else 0)
theorem zoj(d:Wo):1<=d.cnt/\d.cnt<=3:=by cases d<;>decide
theorem zlM(d:Wo)(h:wLit d=false)(h2:wVar d=false)(h3:zbo d=false):d.cnt<=d.needs/\wVL d=false:=by cases d<;>first|(simp_all[wLit,wVar,zbo];done)|decide
theorem zmo(d:Wo)(h:wB d=true):2<=d.needs/\wVL d=false:=by cases d<;>first|(simp[wB] at h;done)|decide
theorem zok(d:Wo)(h:zbp d=true):d.needs=3/\wB d=true/\bcnt d=2/\wEO d=true/\zgD d=false:=by cases d<;>first|(simp[zbp] at h;done)|decide
theorem zoQ(d:Wo)(h:wB d=true)(h2:zbp d=false):bcnt d=1:=by cases d<;>first|(simp[wB] at h;done)|(simp[zbp] at h2;done)|decide
theorem zoR(d:Wo)(h:wB d=false):bcnt d=0/\zgD d=false/\zbp d=false:=by cases d<;>first|(simp[wB] at h;done)|decide
theorem zol(d:Wo)(h:zgD d=true):wB d=true/\wEO d=true/\zbp d=false:=by cases d<;>first|(simp[zgD] at h;done)|decide
theorem zoS(d:Wo)(h:wB d=true)(h2:zbp d=false):Cnt d 2:=by cases d<;>first|(simp[wB] at h;done)|(simp[zbp] at h2;done)|exact⟨fun z=>(nomatch z),fun _=>rfl⟩
theorem zoT(d:Wo)(h:zbp d=true):Cnt d 3:=by cases d<;>first|(simp[zbp] at h;done)|exact⟨fun z=>(nomatch z),fun _=>rfl⟩
theorem zoU{d:Wo}(h:wEO d=true)(h2:zbp d=false){n:Nat}(hc:Cnt d n):n=2:=by cases d<;>first|(simp[wEO] at h;done)|(simp[zbp] at h2;done)|exact hc.2 rfl
theorem znd{d:Wo}(h:wEO d=true)(h2:zbp d=false):zgD d=true:=by cases d<;>first|(simp[wEO] at h;done)|(simp[zbp] at h2;done)|rfl
theorem zne(d:Wo)(h1:wLit d=false)(h2:wVar d=false)(h3:zbo d=false)(h4:wB d=false):Cnt d d.cnt.toNat:=by cases d<;>first|(simp[wLit] at h1;done)|(simp[wVar] at h2;done)|(simp[zbo] at h3;done)|(simp[wB] at h4;done)|exact⟨fun z=>(nomatch z),fun _=>rfl⟩
theorem zlN(d:Wo)(h:zbo d=true){n:Nat}(hn:n<=8):Cnt d n:=⟨fun _=>hn,fun z=>by rw[h] at z;cases z⟩
def Shp(scopes:List (List Str))(scope bs:List Str):Prop:=(bs=[]/\∀s∈scopes,s=scope)\/∃m,scopes=yD m scope++[scope++bs]
theorem zh1{scope:List Str}:∀{ps:List Rl},(∀p∈ps,p.Fit scope)->Fits ps scope []
 |[],_=>by rw[Fits];trivial
 |[p],h=>by rw[Fits,xH];exact h p (by simp)
 |p::q::r,h=>by rw[Fits];exact⟨h p (by simp),zh1 fun x hx=>h x (yM _ hx)⟩
theorem zgE{scope bs:List Str}:∀(m:Nat)(ps:List Rl),ps.length=m+1->(∀(i:Nat)(p:Rl)(sc:List Str),ps[i]?=some p->(yD m scope++[scope++bs])[i]?=some sc->p.Fit sc)->Fits ps scope bs
 |0,[p],_,h=>by rw[Fits];exact h 0 p _ rfl rfl
 |m+1,p::q::r,hl,h=>by
  rw[Fits]
  refine⟨h 0 p _ rfl (by rw[xL];rfl),zgE m (q::r) (by simpa using hl) fun i x sc hx hs=>h (i+1) x sc (by simpa using hx) ?_⟩
  rw[xL,xC,xW]
  exact hs
 |m+1,[p],hl,_=>by simp at hl
 |0,p::q::r,hl,_=>by simp at hl
theorem Shp.fits{scopes:List (List Str)}{scope bs:List Str}(h:Shp scopes scope bs){ps:List Rl}(hl:ps.length=scopes.length)(hp:∀(i:Nat) (p:Rl) (sc:List Str),ps[i]?=some p->scopes[i]?=some sc->p.Fit sc):Fits ps scope bs:=by
 rcases h with⟨rfl,h⟩|⟨m,rfl⟩
 ·refine zh1 fun p hm=>?_
  obtain⟨i,hi,rfl⟩:=vQ hm
  have e:scopes[i]?=some (scopes[i]'(by lia)):=yB (by lia)
  have:=hp i _ _ (yB hi) e
  rw[h _ (xB e)] at this
  exact this
 ·exact zgE m ps (by simpa using hl) hp
theorem zh2{n:Int}:∀{ps:List Rl},0<=n->(∀p∈ps,(p.high:Int)<=n-1)->(highs ps:Int)<=n
 |[],h,_=>by simp[highs];exact h
 |p::r,h,hp=>by
  have h1:=hp p (by simp)
  have h2:=zh2 h fun q hq=>hp q (yM _ hq)
  simp only[highs]
  lia
theorem zbS{α:Type}(n:Nat)(x:α):(yD n [x]).flatten=yD n x:=by
 induction n with
 |zero=>rfl
 |succ n ih=>rw[xL,xZ,ih,xL];rfl
theorem zom(z:Str)(h:z="z"\/z="w"):Vr z:=by
 rcases h with rfl|rfl
 ·exact⟨by decide +kernel,by decide +kernel,by decide +kernel⟩
 ·exact⟨by decide +kernel,by decide +kernel,by decide +kernel⟩
def Rd(d:Wo)(b sc l:Addr)(scope:List Str)(spare floors rounds:Int)(H0:Hp)(fin ea:Bool)(σ:St)(H:Hp):Prop:=
 ∃(bn ss rs:Addr)(bs:List Str)(as:List Addr)(scopes:List (List Str))(rl:List Int)(o10:Option V),σ=[some (.ref b),some (.ref sc),some (.ref l),some (.int spare),some (.int floors),some (.int rounds),some (.str (woS d)),some (.ref bn),some (.ref ss),some (.ref rs),o10,none,none]/\Step b H0 H/\H bn=some (.tup (bs.map V.str)) /\
  H ss=some (.lst (as.map V.ref))/\ss≠b/\H rs=some (.lst (rl.map V.int))/\rs≠b/\as.length=scopes.length/\scopes.length<=rl.length/\(∀r∈rl,0<=r/\r<=100/\r<=rounds) /\
  (∀(i:Nat)(a:Addr)(s:List Str),as[i]?=some a->scopes[i]?=some s->H a=some (.lst (s.map V.str))/\a≠b/\s.length<=scope.length+2/\∀y∈s,Vr y)/\(∀z∈bs,Vr z) /\
  (fin=true->(scopes.length:Int)<=spare-1/\(0<=floors-1\/scopes=[])/\bs.length=bcnt d/\Cnt d scopes.length/\bs.Nodup/\(ea=true->wEO d=true->∀c,rl[scopes.length-1]?=some c->c<=rounds-1)/\Shp scopes scope bs)/\(fin=false->∃z,bs=[z])/\(zgD d=true->scopes.length<=2)
theorem ZN:FnScope ["_law_box_here","_law_scope","_law_names","_law_spare","_law_floors","_law_rounds","_law_word_here","_law_bound","_law_scopes","_law_inner","_law_other","_law_parts","_law_used"] ["_law_box_here","_law_scope","_law_names","_law_spare","_law_floors","_law_rounds"] (zi zjO):=mkSc rfl (by decide +kernel)
theorem znf(F:Fun K "_law_any" "_law_any" zjO f fd)(G_lparts_by:Have P w K mg base "_law_parts_by" k ["_law_box_here","_law_scopes","_law_names","_law_spare","_law_floors","_law_rounds"] (spPartsBy n))(G_lvariable:Have P w K mg base "_law_variable" k ["_law_box_here"] (spVar))(G_ltake:Have P w K mg base "_law_take" k ["_law_box_here","_law_wide"] (spTake))(G_llit:Have P w K mg base "_law_lit" k ["_law_box_here","_law_names"] (spLit))(G_lword:Have P w K mg base "_law_word" k ["_law_box_here","_law_scope","_law_spare","_law_floors","_law_rounds"] (spWord))(m_int:mg "int"=none)(m_len:mg "len"=none)(m_list:mg "list"=none)(m_min:mg "min"=none):FnOk P w K mg base CX0 (k+1) f fd ["_law_box_here","_law_scope","_law_names","_law_spare","_law_floors","_law_rounds"] (spAny (n+1)):=by
 refine F.okQ ZN (by rintro _ _ _ _ ⟨_,_,_,_,_,_,_,_,rfl,_⟩;rfl) fun _ _ _ _ H vs Q E hr h=>?_
 obtain⟨b,sc,l,scope,names,spare,floors,rounds,rfl,hb,hnm,hsc,hsb,hsl,hsv',hs1,hs100,hf0,hfn,hr0,hr100,q⟩:=h
 refine⟨_,(zd (zm (i:=6) ZN.nd rfl (Or.inl rfl) (zo G_lword hr rfl (za (pv 0) (za (pv 1) (za (pv 3) (za (pv 4) (za (pv 5) zb)))))))
  (zd (zE (zk zY (pv 6) zg (nomark _)) (zf (zl (zy (za (zo G_llit hr rfl (za (pv 0) (za (pv 2) zb))) (za ze zb))))) zq)
  (zd (zE (zk zY (pv 6) zg (nomark _)) (zf (zl (zy (za (zy (za zg (za (zz Zd (pv 1) (zo G_ltake hr rfl (za (pv 0) (za (zj zB rfl m_len tF (za (pv 1) zb)) zb))) (fun _ _=>rfl)) zb))) (za ze zb))))) zq)
  (zd (zm (i:=7) ZN.nd rfl (Or.inl rfl) (zy zb))
  (zd (zm (i:=8) ZN.nd rfl (Or.inl rfl) (zu zhQ (zF (za (pv 1) zb)) (zu Zu (zu Zj ze (zD zaA rfl m_int ZQ (za (zJ zY (pv 6) zg (nomark _)) zb))) (zD zaA rfl m_int ZQ (za (zJ ZB (pv 6) (zy (za zg (za zg (za zg (za zg zb))))) (by rfl)) zb)))))
  (zd (zm (i:=9) ZN.nd rfl (Or.inl rfl) (zu zhQ (zF (za (pv 5) zb)) ze))
  (zd (zE (zk zY (pv 6) zg (nomark _)) (zf (zm (i:=8) ZN.nd rfl (Or.inl rfl) (zu zhQ (zF (za (pv 1) zb)) (zj (zgh rfl) rfl m_min PyProof.Rows.boot_min (za (zo G_ltake hr rfl (za (pv 0) (za (zz Zd (zF (za ze (za ze zb))) (zD zaA rfl m_int ZQ (za (zJ zcs (pv 4) ze (nomark _)) zb)) (fun _ _=>rfl)) zb))) (za (zu Zu (pv 3) ze) zb)))))) zq)
  (zd (zE (zk ZB (pv 6) (zy (za zg (za zg (za zg zb)))) (by rfl)) (zd (zm (i:=7) ZN.nd rfl (Or.inl rfl) (zy (za (zo G_lvariable hr rfl (za (pv 0) zb)) zb)))
  (zf (zm (i:=8) ZN.nd rfl (Or.inl rfl) (zF (za (pv 1) (za (zu zaj (pv 1) (zD zai rfl m_list zav (za (pv 7) zb))) zb)))))) zq)
  (zd (zE (zk zY (pv 6) zg (nomark _)) (zf (zm (i:=9) ZN.nd rfl (Or.inl rfl) (zF (za (pv 5) (za (zu Zu (pv 5) ze) zb))))) zq)
  (zd (zE (zk zY (pv 6) zg (nomark _)) (zd (zm (i:=10) ZN.nd rfl (Or.inl rfl) (zo G_lvariable hr rfl (za (pv 0) zb)))
  (zd (zE (zk zY (pv 10) (zz zw (pv 7) ze (fun _ _=>rfl)) (nomark _)) (zf (zm (i:=10) ZN.nd rfl (Or.inl rfl) (zz Zd (zF (za zg (za zg zb))) (zD zaA rfl m_int ZQ (za (zJ zY (pv 10) zg (nomark _)) zb)) (fun _ _=>rfl)))) zq)
  (zd (zm (i:=7) ZN.nd rfl (Or.inl rfl) (zu zb6 (pv 7) (zy (za (pv 10) zb))))
  (zd (zm (i:=8) ZN.nd rfl (Or.inl rfl) (zF (za (pv 1) (za (pv 1) (za (zu zaj (pv 1) (zD zai rfl m_list zav (za (pv 7) zb))) zb)))))
  (zf (zm (i:=9) ZN.nd rfl (Or.inl rfl) (zF (za (pv 5) (za (pv 5) (za (zu Zu (pv 5) ze) zb)))))))))) zq)
  (zd (zbm (zo G_lparts_by hr rfl (za (pv 0) (za (pv 8) (za (pv 2) (za (zu Zu (pv 3) ze) (za (zu Zu (pv 4) ze) (za (pv 9) zb))))))) (zbl rfl (Zc (Zb (i:=11) ZN.nd rfl (Or.inl rfl)) (Zc (Zb (i:=12) ZN.nd rfl (Or.inl rfl)) zaP))))
  (zf (zl (zy (za (zu zb6 (zu zb6 (zy (za (pv 6) zb)) (pv 7)) (pv 11)) (za (zu Zj (pv 12) ze) zb)))))))))))))))),nm12 ?_⟩
 intros
 refine⟨_,rfl,_,rfl,_,rfl,_,rfl,_,rfl,b,sc,_,spare,floors,rounds,rfl,hb,hsc,hsb,fun d H1 st1 hd=>?_⟩
 refine⟨_,rfl,rfl,_,rfl,?_⟩
 rw[show uV "lit"="lit" from rfl,zi1]
 cases hlit:wLit d with
 |true=>
  refine iteT ⟨_,rfl,_,rfl,b,l,names,rfl,st1.box,(hnm.step st1).1,hnm.2.1,hnm.2.2.1,hnm.2.2.2.1,hnm.2.2.2.2,fun v x H2 rx okx sx dx st2=>⟨zl2,fun a ha=>?_⟩⟩
  have st3:=st1.trans st2
  have s3:=Sn (o:=.tup [v,.int 1]) ha
  exact q a v (.lit x) _ zc (rx.mono (zh s3)) (by rw[Rl.Fit];exact⟨okx,sx,by lia⟩) (by simp only[Rl.many];lia) (by simp only[Rl.high];lia) (by simp only[Rl.rep];lia) (st3.trans (Step.ofSame' st3.box s3))
 |false=>
  obtain⟨hneed,hfl,hsv,heo⟩:=hd hlit
  refine iteF ⟨_,rfl,rfl,_,rfl,?_⟩
  rw[show uV "var"="var" from rfl,zkk]
  cases hvar:wVar d with
  |true=>
   have hpos:0<scope.length:=uL.mpr fun z=>hsv hvar (by rw[z];rfl)
   have hsc1:=st1.keep sc _ hsb hsc
   refine iteT ⟨_,rfl,_,rfl,_,rfl,_,_,rfl,.inl ⟨_,Sl hsc1,rfl⟩,b,_,rfl,st1.box,by rw[yA];lia,by rw[yA];lia,fun m H2 m0 m1 st2=>?_⟩
   rw[yA] at m1
   have hi:m.toNat<scope.length:=by lia
   have hat:atI (scope.map V.str) m=some (.str scope[m.toNat]):=by
    have:=zS (xs:=scope.map V.str) (j:=m.toNat) (v:=.str scope[m.toNat]) (by rw[yN,yB hi];rfl)
    rw[show ((m.toNat:Nat):Int)=m by lia] at this
    exact this
   have st3:=st1.trans st2
   refine⟨sc,_,m,_,rfl,rfl,Sl (st3.keep sc _ hsb hsc),hat,zl2,fun a ha=>⟨zl2,fun a2 ha2=>?_⟩⟩
   have s4:=Sn (o:=.tup [.str "var",.str scope[m.toNat]]) ha
   have s5:=Sn (o:=.tup [.ref a,.int 1]) ha2
   have s45:=s4.trans s5
   exact q a2 (.ref a) (.var scope[m.toNat]) _ zc (by rw[Rl.toW];exact RW.pair (s5 _ _ zc) (.txt _) (.txt _)) (by rw[Rl.Fit];exact⟨hsv' _ (yW hi),yW hi⟩) (by simp only[Rl.many];lia) (by simp only[Rl.high];lia) (by simp only[Rl.rep];lia) (st3.trans (Step.ofSame' st3.box s45))
  |false=>
   refine iteF ?_
   have h1:=st1.box
   have hsc1:=st1.keep sc _ hsb hsc
   refine⟨zl0,fun bn hbn=>?_⟩
   have st2:=st1.trans (Step.new (o:=.tup []) h1 hbn)
   have e1:=in1 d
   refine⟨_,rfl,zl1,fun p1 hp1=>⟨_,rfl,rfl,.inr ⟨_,rfl,_,_,rfl,rfl,_,rfl,zl4,fun q2 hq2=>⟨q2,_,rfl,.inr (Sq zc),rfl,rfl,.inr ⟨_,rfl,_,_,rfl,rfl,?_⟩⟩⟩⟩⟩
   have st3:=st2.trans (Step.new (o:=.lst [.ref sc]) st2.box hp1)
   have st4:=st3.trans (Step.new (o:=.tup [.str "count",.str "figures",.str "look",.str "cry"]) st3.box hq2)
   obtain⟨c0,c3⟩:=zoj d
   have hcnt:(2+(if wIf d then 1 else 0)-(if w1 d then 1 else 0):Int)=d.cnt:=rfl
   have hk1:upd (upd (upd H1 bn (.tup [])) p1 (.lst [.ref sc])) q2 (.tup [.str "count",.str "figures",.str "look",.str "cry"]) p1=some (.lst [.ref sc]):=(Sn hq2) _ _ zc
   refine⟨p1,d.cnt,[.ref sc],rfl,?_,hk1,by lia,by lia,by show 1*_<=tH;exact yQ (show 1*d.cnt.toNat<=3 by lia) (by decide),fun s1 hs1=>?_⟩
   ·rw[←hcnt,←eqIf,←e1]
    rfl
   have hs1b:=IsBox.ne st4.box hs1
   have st5:=st4.trans (Step.new (o:=.lst (yD d.cnt.toNat [V.ref sc]).flatten) st4.box hs1)
   refine⟨_,rfl,zl1,fun p2 hp2=>⟨p2,8,[.int rounds],rfl,rfl,zc,by decide,by decide,by show 1*8<=tH;decide,fun r1 hr1=>?_⟩⟩
   have st6:=st5.trans (Step.new (o:=.lst [.int rounds]) st5.box hp2)
   have hr1b:=IsBox.ne st6.box hr1
   have s67:=Sn (o:=.lst (yD 8 [V.int rounds]).flatten) hr1
   have st7:=st6.trans (Step.ofSame' st6.box s67)
   have ebn:upd (upd (upd (upd (upd (upd H1 bn (.tup [])) p1 (.lst [.ref sc])) q2 (.tup [.str "count",.str "figures",.str "look",.str "cry"])) s1 (.lst (yD d.cnt.toNat [V.ref sc]).flatten)) p2 (.lst [.int rounds])) r1 (.lst (yD 8 [V.int rounds]).flatten) bn=some (.tup []):=s67 _ _ ((Sn hp2) _ _ ((Sn hs1) _ _ ((Sn hq2) _ _ ((Sn hp1) _ _ zc))))
   have es1:upd (upd (upd (upd (upd (upd H1 bn (.tup [])) p1 (.lst [.ref sc])) q2 (.tup [.str "count",.str "figures",.str "look",.str "cry"])) s1 (.lst (yD d.cnt.toNat [V.ref sc]).flatten)) p2 (.lst [.int rounds])) r1 (.lst (yD 8 [V.int rounds]).flatten) s1=some (.lst (yD d.cnt.toNat [V.ref sc]).flatten):=s67 _ _ ((Sn hp2) _ _ zc)
   replace es1:=es1.trans (by rw[zbS])
   dsimp only[zW]
   refine seqI (fun σ' H'=>∃(ss:Addr)(m:Nat),σ'=[some (.ref b),some (.ref sc),some (.ref l),some (.int spare),some (.int floors),some (.int rounds),some (.str (woS d)),some (.ref bn),some (.ref ss),some (.ref r1),none,none,none]/\Step b H H'/\H' bn=some (.tup [])/\H' ss=some (.lst (yD m (V.ref sc)))/\ss≠b/\H' r1=some (.lst (yD 8 (V.int rounds)))/\m<=8/\(wB d=false->(m:Int)<=spare-1/\(1<=floors\/m=0)/\Cnt d m)) (fun σ' H' h=>?_) (fun tl=>?_)
   ·obtain⟨ss,m,rfl,stA,ebA,esA,hsA,erA,hm,hmf⟩:=h
    refine seqI (fun σ' H'=>Rd d b sc l scope spare floors rounds H (!zbp d) false σ' H') (fun σ' H' h=>?_) (fun tl=>?_)
    ·refine seqI (fun σ' H'=>Rd d b sc l scope spare floors rounds H (!zbp d) true σ' H') (fun σ' H' h=>?_) (fun tl=>?_)
     ·refine seqI (fun σ' H'=>Rd d b sc l scope spare floors rounds H true true σ' H') (fun σ' H' h=>?_) (fun tl=>?_)
      ·
       obtain⟨bn,ss,rs,bs,as,scopes,rl,o10,rfl,stF,ebn,ess,hssb,ers,hrsb,hal,hrl,hrr,hsc',hbs,hfin,_⟩:=h
       obtain⟨hsp,hfl0,hbc,hcn,hnd,hlast,hshp⟩:=hfin rfl
       refine⟨_,rfl,_,rfl,_,rfl,_,rfl,_,_,rfl,rfl,_,rfl,_,_,rfl,rfl,_,rfl,?_⟩
       refine⟨b,ss,l,rs,as,scopes,names,rl,_,_,rfl,stF.box,hnm.step stF,ess,hssb,ers,hrsb,hal,hrl,fun r hr=>⟨(hrr r hr).1,(hrr r hr).2.1⟩,fun i a s0 ha hs0=>?_,by lia,by lia,by lia,hfl0,fun t t2 us ps H9 et et2 hus hpl hfit hmn st9=>?_⟩
       ·obtain⟨x1,x2,x3,x4⟩:=hsc' i a s0 ha hs0
        exact⟨x1,x2,by lia,x4⟩
       have stG:=stF.trans st9
       have ebn9:=st9.tups stF.box _ _ ebn
       refine⟨t,_,rfl,Sq et,rfl,_,_,rfl,_,_,rfl,rfl,_,rfl,zl1,fun a1 ha1=>⟨_,rfl,?_⟩⟩
       have sa1:=Sn (o:=.tup [.str (woS d)]) ha1
       have fin:∀(a:Addr)(Hx:Hp),Same H9 Hx->Hx a=some (.tup (.str (woS d)::(bs.map V.str++us)))->∀a3,Hx a3=none->Q (.ref a3) (upd Hx a3 (.tup [.ref a,.int (manys ps+1)])):=fun a Hx sx ea a3 ha3=>by
        have s3:=Sn (o:=.tup [.ref a,.int (manys ps+1)]) ha3
        refine q a3 (.ref a) (.op d bs ps) _ ?_ ?_ ?_ ?_ ?_ ?_ (stG.trans (Step.ofSame' stG.box (sx.trans s3)))
        ·rw[zc]
         simp only[Rl.many]
         rw[show ((1+manys ps:Nat):Int)=manys ps+1 by lia]
        ·rw[Rl.toW]
         refine .lst (s3 _ _ ea) (by simp;exact hus.len) fun i v x hv hx=>?_
         match i with
         |0=>cases hv;cases hx;exact .txt _
         |i+1=>
          rw[xW] at hv hx
          by_cases hi:i<bs.length
          ·rw[yP (by simpa using hi),yN,yB hi] at hv hx
           cases hv;cases hx;exact .txt _
          ·rw[yL (by simp;lia),yA] at hv hx
           exact (hus.mono (zh (sx.trans s3))).2 _ v x hv hx
        ·rw[Rl.Fit]
         exact⟨⟨hlit,hvar,hbc,hbs,hnd,by rw[hpl];exact hcn⟩,hshp.fits hpl fun i p s0 hp hs=>(hfit i p s0 hp hs).1⟩
        ·simp only[Rl.many];lia
        ·simp only[Rl.high]
         refine zh2 (by lia) fun p hp=>?_
         obtain⟨i,hi,rfl⟩:=vQ hp
         have:=(hfit i _ _ (yB hi) (yB (by lia))).2.1
         lia
        ·simp only[Rl.rep]
         refine zkl hr0 (fun p hp=>?_) (fun he p hp=>?_)
         ·obtain⟨i,hi,rfl⟩:=vQ hp
          have h2:rl[i]?=some rl[i]:=yB (by lia)
          have:=(hfit i _ _ (yB hi) (yB (by lia))).2.2 _ h2
          have:=(hrr _ (xB h2)).2.2
          lia
         ·rw[List.getLast?_eq_getElem?] at hp
          have hi:=(yE.mp hp).1
          have h2:rl[ps.length-1]?=some rl[ps.length-1]:=yB (by lia)
          have:=(hfit _ _ _ hp (yB (by lia))).2.2 _ h2
          have:=hlast rfl he rl[ps.length-1] (by rw[←hpl];exact h2)
          lia
       have hbl:bs.length<=2:=by rw[hbc];cases d<;>decide
       have hul:us.length<=100:=by
        have:=hus.len
        rw[zbR] at this
        lia
       refine⟨a1,bn,_,_,rfl,rfl,Sq zc,Sq (sa1 _ _ ebn9),(fun z=>nomatch z),by simp;exact yQ (show 1+bs.length<=200 by lia) (by decide),fun z=>⟨_,rfl,?_⟩,fun _ p6 hp6=>⟨_,rfl,?_⟩⟩
       ·have ea1:upd H9 a1 (.tup [.str (woS d)]) a1=some (.tup (.str (woS d)::bs.map V.str)):=by rw[zc,z]
        refine⟨a1,t2,_,us,rfl,rfl,Sq ea1,Sq ((sa1) _ _ et2),(fun z=>nomatch z),by simp;exact yQ (show bs.length+1+us.length<=200 by lia) (by decide),fun z=>?_,fun _ p7 hp7=>?_⟩
        ·refine⟨_,rfl,_,_,rfl,rfl,zl2,fin a1 _ (sa1) (by rw[ea1,z,xH])⟩
        ·exact⟨_,rfl,_,_,rfl,rfl,zl2,fin p7 _ ((sa1).trans (Sn hp7)) (by rw[zc];rfl)⟩
       ·have ea6:upd (upd H9 a1 (.tup [.str (woS d)])) p6 (.tup ([.str (woS d)]++bs.map V.str)) p6=some (.tup (.str (woS d)::bs.map V.str)):=by rw[zc];rfl
        have s6':=sa1.trans (Sn (o:=.tup ([.str (woS d)]++bs.map V.str)) hp6)
        refine⟨p6,t2,_,us,rfl,rfl,Sq ea6,Sq ((s6') _ _ et2),(fun z=>nomatch z),by simp;exact yQ (show bs.length+1+us.length<=200 by lia) (by decide),fun z=>?_,fun _ p7 hp7=>?_⟩
        ·refine⟨_,rfl,_,_,rfl,rfl,zl2,fin p6 _ (s6') (by rw[ea6,z,xH])⟩
        ·exact⟨_,rfl,_,_,rfl,rfl,zl2,fin p7 _ ((s6').trans (Sn hp7)) (by rw[zc];rfl)⟩
      ·have h0:=h
       obtain⟨bn,ss,rs,bs,as,scopes,rl,o10,rfl,stF,ebn,ess,hssb,ers,hrsb,hal,hrl,hrr,hsc',hbs,hfin,hz,hl2⟩:=h
       refine⟨_,rfl,rfl,_,rfl,?_⟩
       rw[show uV "over"="over" from rfl,zoi]
       cases hov:zbp d with
       |false=>
        rw[hov] at h0
        exact iteF (tl _ _ h0)
       |true=>
        obtain⟨x1,x2,x3,x4,x5⟩:=zok d hov
        have hr':=heo x4
        obtain⟨z,rfl⟩:=hz (by rw[hov];rfl)
        have hf1:1<=floors:=by
         have:floors≠0:=fun z=>by have:=(zmo d x2).2;rw[hfl z] at this;cases this
         lia
        refine iteT ⟨_,rfl,b,rfl,stF.box,fun z2 H4 hz8 st4'=>?_⟩
        have stC:=stF.trans st4'
        have ebn4:=st4'.tups stF.box _ _ ebn
        dsimp only[zW]
        refine seqI (fun σ' H'=>∃z3:Str,σ'=[some (.ref b),some (.ref sc),some (.ref l),some (.int spare),some (.int floors),some (.int rounds),some (.str (woS d)),some (.ref bn),some (.ref ss),some (.ref rs),some (.str z3),none,none]/\Same H4 H'/\Vr z3/\z3≠z) (fun σ' H' h=>?_) (fun tl2=>?_)
        ·obtain⟨z3,rfl,s4,hz3,hne⟩:=h
         refine⟨_,rfl,_,rfl,zl1,fun q6 hq6=>?_⟩
         have s6:=s4.trans (Sn (o:=.tup [.str z3]) hq6)
         refine⟨bn,q6,_,_,rfl,rfl,Sq (s6 _ _ ebn4),Sq zc,(fun z=>nomatch z),(by show 1+1<=tH;decide),(fun z=>nomatch z),fun _ bn2 hbn2=>?_⟩
         have s7:=Sn (o:=.tup ([.str z]++[.str z3])) hbn2
         refine⟨_,rfl,_,rfl,_,rfl,_,rfl,bn2,_,rfl,.inr (Sq zc),fun l3 hl3=>?_⟩
         have s8:=Sn (o:=.lst ([.str z]++[.str z3])) hl3
         have s68:=s6.trans (s7.trans s8)
         refine⟨sc,l3,_,_,rfl,rfl,s68 _ _ (stC.keep sc _ hsb hsc),zc,by rw[yA];exact yQ (show scope.length+2<=1000 by lia) (by decide),fun p5 hp5=>⟨zl3,fun s5 hs5=>?_⟩⟩
         have s9:=Sn (o:=.lst (scope.map V.str++([.str z]++[.str z3]))) hp5
         have s10:=Sn (o:=.lst [.ref sc,.ref sc,.ref p5]) hs5
         refine⟨_,rfl,_,rfl,_,rfl,_,_,rfl,rfl,zl3,fun r2 hr2=>tl _ _ ?_⟩
         have s11:=Sn (o:=.lst [.int rounds,.int rounds,.int (rounds-1)]) hr2
         have sAll:=s68.trans (s9.trans (s10.trans s11))
         have hboxC:=stC.box
         refine⟨bn2,s5,r2,[z,z3],[sc,sc,p5],[scope,scope,scope++[z,z3]],[rounds,rounds,rounds-1],_,rfl,stC.trans (Step.ofSame' hboxC sAll),(s8.trans (s9.trans (s10.trans s11))) _ _ zc,s11 _ _ zc,IsBox.ne (Step.ofSame' hboxC (s68.trans s9)).box hs5,zc,IsBox.ne (Step.ofSame' hboxC (s68.trans (s9.trans s10))).box hr2,rfl,yO _,fun r hr=>?_,fun i a s0 ha hs0=>?_,fun y hy=>?_,fun hf=>⟨?_,.inl (by lia),x3.symm,zoT d hov,by simp;exact fun z=>hne z.symm,fun _ _ c hc=>by cases hc;exact vB _,.inr ⟨2,rfl⟩⟩,fun z=>(nomatch z),fun z=>by rw[x5] at z;cases z⟩
         ·simp only[yG,xT,or_false] at hr
          lia
         ·match i with
          |0=>cases ha;cases hs0;exact⟨sAll _ _ (stC.keep sc _ hsb hsc),hsb,by lia,hsv'⟩
          |1=>cases ha;cases hs0;exact⟨sAll _ _ (stC.keep sc _ hsb hsc),hsb,by lia,hsv'⟩
          |2=>
           cases ha;cases hs0
           exact⟨((s10.trans s11) _ _ zc).trans (by rw[yK];rfl),IsBox.ne (Step.ofSame' hboxC s68).box hp5,by rw[yC];exact yO _,fun y hy=>by
            rcases yU.mp hy with hy|hy
            ·exact hsv' y hy
            ·simp only[yG,xT,or_false] at hy
             rcases hy with rfl|rfl
             ·exact hbs _ (by simp)
             ·exact hz3⟩
          |i+3=>cases ha
         ·simp only[yG,xT,or_false] at hy
          rcases hy with rfl|rfl
          ·exact hbs _ (by simp)
          ·exact hz3
         ·show (3:Int)<=spare-1;lia
        ·refine⟨_,rfl,_,rfl,bn,_,0,_,rfl,rfl,Sq ebn4,rfl,rfl,_,rfl,ite2 (fun ht=>?_) (fun hf=>tl2 _ _ ⟨z2,rfl,Sr _,hz8,fun e=>hf (decide_eq_true (congrArg V.str e))⟩)⟩
         refine⟨zl2,fun q7 hq7=>⟨_,rfl,rfl,.inr ⟨_,rfl,?_⟩⟩⟩
         have s7:=Sn (o:=.lst [.str "z",.str "w"]) hq7
         obtain⟨z3,e3,g3⟩:∃z3:Str,atI [V.str "z",V.str "w"] (if (decide (V.str z2=V.str "z"))=true then 1 else 0)=some (.str z3)/\Vr z3/\z3≠z:=by
          have e2:z2=z:=V.str.inj (of_decide_eq_true ht)
          by_cases hz:z2="z"
          ·rw[decide_eq_true (congrArg V.str hz)]
           exact⟨"w",rfl,zom _ (.inr rfl),fun z0=>absurd (z0.trans (e2.symm.trans hz)) (by decide +kernel)⟩
          ·rw[decide_eq_false (fun h=>hz (V.str.inj h))]
           exact⟨"z",rfl,zom _ (.inl rfl),fun z0=>hz (e2.trans z0.symm)⟩
         exact⟨q7,_,_,_,rfl,rfl,Sl zc,e3,tl2 _ _ ⟨z3,rfl,s7,g3⟩⟩
     ·have h0:=h
      obtain⟨bn,ss,rs,bs,as,scopes,rl,o10,rfl,stF,ebn,ess,hssb,ers,hrsb,hal,hrl,hrr,hsc',hbs,hfin,hz,hl2⟩:=h
      refine⟨_,rfl,rfl,_,rfl,?_⟩
      rw[show uV "each"="each" from rfl,zoh]
      cases hea:zgD d with
      |false=>
       refine iteF (tl _ _ ⟨bn,ss,rs,bs,as,scopes,rl,o10,rfl,stF,ebn,ess,hssb,ers,hrsb,hal,hrl,hrr,hsc',hbs,fun hf=>?_,hz,hl2⟩)
       obtain⟨g1,g2,g3,g4,g5,_,g7⟩:=hfin hf
       exact⟨g1,g2,g3,g4,g5,fun _ he c hc=>absurd (znd he (by simpa using hf)) (by rw[hea];decide),g7⟩
      |true=>
       obtain⟨x1,x2,x3⟩:=zol d hea
       have hr':=heo x2
       refine iteT ⟨_,rfl,_,rfl,_,_,rfl,rfl,zl2,fun r2 hr2=>tl _ _ ?_⟩
       have sN:=Sn (o:=.lst [.int rounds,.int (rounds-1)]) hr2
       refine⟨bn,ss,r2,bs,as,scopes,[rounds,rounds-1],o10,rfl,stF.trans (Step.ofSame' stF.box sN),sN _ _ ebn,sN _ _ ess,hssb,zc,IsBox.ne stF.box hr2,hal,hl2 hea,fun r hr=>?_,fun i a s0 ha hs0=>?_,hbs,fun hf=>?_,hz,hl2⟩
       ·simp only[yG,xT,or_false] at hr
        lia
       ·obtain⟨y1,y2,y3⟩:=hsc' i a s0 ha hs0
        exact⟨sN _ _ y1,y2,y3⟩
       ·obtain⟨g1,g2,g3,g4,g5,_,g7⟩:=hfin hf
        refine⟨g1,g2,g3,g4,g5,fun _ _ c hc=>?_,g7⟩
        rw[zoU x2 x3 g4] at hc
        cases hc
        exact vB _
    ·refine⟨_,rfl,zl3,fun q3 hq3=>⟨q3,_,rfl,.inr (Sq zc),rfl,rfl,_,rfl,?_⟩⟩
     have sq:=Sn (o:=.tup [.str "let",.str "each",.str "over"]) hq3
     have stB:=stA.trans (Step.ofSame' stA.box sq)
     have hscB:=stB.keep sc _ hsb hsc
     show if inV (.str (woS d)) [.str "let",.str "each",.str "over"]=true then _ else _
     rw[inB]
     cases hb0:wB d with
     |false=>
      obtain⟨x1,x2,x3⟩:=zoR d hb0
      obtain⟨y1,y2,y3⟩:=hmf hb0
      refine iteF (tl _ _ ⟨bn,ss,r1,[],yD m sc,yD m scope,yD 8 rounds,none,rfl,stB,sq _ _ ebA,(sq _ _ esA).trans (by rw[vG]),hsA,(sq _ _ erA).trans (by rw[vG]),hr1b,by simp,by simp;lia,fun r hr=>?_,fun i a s0 ha hs0=>?_,fun z hz=>(nomatch hz),fun _=>⟨by rw[xK];exact y1,?_,x1.symm,by rw[xK];exact y3,uH,fun z=>(nomatch z),.inl ⟨rfl,fun s hs=>xP hs⟩⟩,fun z=>(by rw[x3] at z;cases z),fun z=>(by rw[x2] at z;cases z)⟩)
      ·rw[xP hr];exact⟨hr0,hr100,vB _⟩
      ·rw[xP (xB ha),xP (xB hs0)]
       exact⟨hscB,hsb,by lia,hsv'⟩
      ·rcases y2 with y|y
       ·left;lia
       ·right;rw[y];rfl
     |true=>
      obtain⟨x1,x2⟩:=zmo d hb0
      have hf1:1<=floors:=by
       have:floors≠0:=fun z=>by rw[hfl z] at x2;cases x2
       lia
      refine iteT ⟨_,rfl,b,rfl,stB.box,fun z H4 hz8 st4'=>⟨zl1,fun bn2 hbn2=>?_⟩⟩
      have stC:=stB.trans st4'
      have sb2:=Sn (o:=.tup [.str z]) hbn2
      refine⟨_,rfl,_,rfl,_,rfl,bn2,[.str z],rfl,.inr (Sq zc),fun l3 hl3=>?_⟩
      have sb3:=Sn (o:=.lst [.str z]) hl3
      have sb23:=sb2.trans sb3
      have hsc3:=sb23 _ _ (stC.keep sc _ hsb hsc)
      refine⟨sc,l3,_,_,rfl,rfl,hsc3,zc,by rw[yA];exact yQ (show scope.length+1<=1000 by lia) (by decide),fun p5 hp5=>⟨zl2,fun s5 hs5=>?_⟩⟩
      have sb4:=Sn (o:=.lst (scope.map V.str++[.str z])) hp5
      have sb5:=Sn (o:=.lst [.ref sc,.ref p5]) hs5
      have sAll:=(sb23.trans sb4).trans sb5
      have hboxC:=stC.box
      have st34:=Step.ofSame' hboxC (sb23.trans sb4)
      refine tl _ _ ⟨bn2,s5,r1,[z],[sc,p5],[scope,scope++[z]],yD 8 rounds,none,rfl,stC.trans (Step.ofSame' hboxC sAll),(sb3.trans (sb4.trans sb5)) _ _ zc,zc,IsBox.ne st34.box hs5,(sAll _ _ (st4'.keep _ _ hr1b (sq _ _ erA))).trans (by rw[vG]),hr1b,rfl,by simp,fun r hr=>?_,fun i a s0 ha hs0=>?_,fun y hy=>?_,fun hf=>⟨?_,.inl (by lia),?_,zoS d hb0 (by simpa using hf),by simp,fun z=>(nomatch z),.inr ⟨1,rfl⟩⟩,fun _=>⟨z,rfl⟩,fun _=>yO _⟩
      ·rw[xP hr];exact⟨hr0,hr100,vB _⟩
      ·match i with
       |0=>cases ha;cases hs0;exact⟨sAll _ _ (stC.keep sc _ hsb hsc),hsb,by lia,hsv'⟩
       |1=>
        cases ha;cases hs0
        exact⟨(sb5 _ _ zc).trans (by rw[yK];rfl),IsBox.ne (Step.ofSame' hboxC sb23).box hp5,by rw[yC];show _+1<=_;lia,fun y hy=>by
         rcases yU.mp hy with hy|hy
         ·exact hsv' y hy
         ·rw[yH.mp hy];exact hz8⟩
       |i+2=>cases ha
      ·rw[yH.mp hy];exact hz8
      ·show (2:Int)<=spare-1;lia
      ·show 1=bcnt d
       rw[zoQ d hb0 (by simpa using hf)]
   ·refine⟨_,rfl,rfl,_,rfl,?_⟩
    rw[show uV "list"="list" from rfl,zkn]
    cases hls:zbo d with
    |false=>
     obtain⟨hcn,hvl⟩:=zlM d hlit hvar hls
     have hf1:1<=floors:=by
      have:floors≠0:=fun z=>by rw[hfl z] at hvl;cases hvl
      lia
     exact iteF (tl _ _ ⟨s1,d.cnt.toNat,rfl,st7,ebn,es1,hs1b,zc.trans (by rw[zbS];rfl),by lia,fun hwb=>⟨by lia,.inl hf1,zne d hlit hvar hls hwb⟩⟩)
    |true=>
     have hwB:wB d=false:=by cases d<;>first|rfl|(simp[zbo] at hls;done)
     refine iteT ⟨_,rfl,zl1,fun p3 hp3=>⟨_,rfl,zl2,fun p4 hp4=>⟨_,rfl,_,_,rfl,rfl,.inr ⟨_,rfl,?_⟩⟩⟩⟩
     have s73:=Sn (o:=.lst [.ref sc]) hp3
     have s74:=Sn (o:=.lst [.int 1,.int 9]) hp4
     have s8:=s73.trans s74
     have st8:=st7.trans (Step.ofSame' st7.box s8)
     have hp3b:=IsBox.ne st7.box hp3
     obtain⟨wd,hwd,hw0,hw9,hwf⟩:∃wd:Int,atI [V.int 1,V.int 9] (if (decide (0<floors))=true then 1 else 0)=some (.int wd)/\1<=wd/\wd<=9/\(floors=0->wd=1):=by
      by_cases hf:0<floors
      ·exact⟨9,by rw[decide_eq_true hf];rfl,by decide,by decide,fun z=>by lia⟩
      ·exact⟨1,by rw[decide_eq_false hf];rfl,by decide,by decide,fun z=>rfl⟩
     refine⟨p4,_,_,_,rfl,rfl,Sl zc,hwd,b,wd,rfl,st8.box,by lia,by lia,fun m H2 m0 m1 st9=>?_⟩
     refine⟨_,rfl,_,_,rfl,rfl,_,_,rfl,?_⟩
     have ep3:H2 p3=some (.lst [.ref sc]):=st9.keep _ _ hp3b (s74 _ _ zc)
     have hmn:(if spare-1<m then spare-1 else m)<=spare-1/\(if spare-1<m then spare-1 else m)<=m/\0<=(if spare-1<m then spare-1 else m):=by
      split<;>lia
     generalize hmm:(if spare-1<m then spare-1 else m)=mm at hmn
     refine⟨p3,mm,[.ref sc],rfl,by rw[←hmm],ep3,by lia,by lia,by show 1*_<=tH;exact yQ (show 1*mm.toNat<=9 by lia) (by decide),fun s2 hs2=>?_⟩
     have st10:=st8.trans st9
     have s11:=Sn (o:=.lst (yD mm.toNat [V.ref sc]).flatten) hs2
     have hbnb:bn≠b:=IsBox.ne h1 hbn
     refine tl _ _ ⟨s2,mm.toNat,rfl,st10.trans (Step.ofSame' st10.box s11),s11 _ _ (st9.keep _ _ hbnb (s8 _ _ ebn)),zc.trans (by rw[zbS]),IsBox.ne st10.box hs2,s11 _ _ (st9.keep _ _ hr1b (s8 _ _ (zc.trans (by rw[zbS];rfl)))),by lia,fun _=>⟨by lia,?_,zlN d hls (by lia)⟩⟩
     by_cases hf:floors=0
     ·right
      have:=hwf hf
      lia
     ·left;lia
abbrev Row:=List Int×Rl×List Str
noncomputable def rlW:Rl->Wo
 |.lit _=>.lit
 |.var _=>.var
 |.op d _ _=>d
noncomputable def zbe(n:List Int)(sc bs:List Str):List Rl->Int->List Row
 |[],_=>[]
 |[p],k=>[(n++[k],p,sc++bs)]
 |p::q::r,k=>(n++[k],p,sc)::zbe n sc bs (q::r) (k+1)
mutual
noncomputable def walk(n:List Int)(sc:List Str):Rl->List Row
 |.lit x=>[(n,.lit x,sc)]
 |.var s=>[(n,.var s,sc)]
 |.op d bs ps=>(n,.op d bs ps,sc)::walks n sc bs ps (1+(bcnt d:Int))
noncomputable def walks(n:List Int)(sc bs:List Str):List Rl->Int->List Row
 |[],_=>[]
 |[p],k=>walk (n++[k]) (sc++bs) p
 |p::q::r,k=>walk (n++[k]) sc p++walks n sc bs (q::r) (k+1)
end
theorem zh3(n:List Int)(sc bs:List Str):∀(ps:List Rl)(k:Int),(zbe n sc bs ps k).length=ps.length
 |[],_=>rfl
 |[p],_=>rfl
 |p::q::r,k=>by rw[zbe,yF,zh3 n sc bs (q::r) (k+1)];rfl
theorem zh4(n:List Int)(sc bs:List Str):∀(ps:List Rl)(k:Int)(i:Nat)(p:Rl),ps[i]?=some p->(zbe n sc bs ps k)[i]?=some (n++[k+i],p,if i+1=ps.length then sc++bs else sc)
 |[q],k,0,p,h=>by cases h;simp[zbe]
 |q::r::l,k,0,p,h=>by cases h;rw[zbe];simp
 |q::r::l,k,i+1,p,h=>by
  rw[xW] at h
  rw[zbe,xW,zh4 n sc bs (r::l) (k+1) i p h,show k+1+(i:Int)=k+((i+1:Nat):Int) by lia]
  congr 3
  simp
 |[q],k,i+1,p,h=>by simp at h
theorem Gds.mem:∀{ps:List Rl},Gds ps->∀p∈ps,p.Gd
 |q::r,h,p,hp=>by
  rw[Gds] at h
  rcases yG.mp hp with rfl|hp
  ·exact h.1
  ·exact Gds.mem h.2 p hp
theorem zbT:∀{ps:List Rl}{p:Rl},p∈ps->1+p.high<=highs ps
 |q::r,p,h=>by
  rw[highs]
  rcases yG.mp h with rfl|h
  ·lia
  ·have:=zbT h;lia
theorem zcm(d:Wo):bcnt d<=2:=by cases d<;>decide
theorem RW.inv_lst{H:Hp}{v:V}{ws:List W}(h:RW H v (.lst ws)):∃a vs,v=.ref a/\H a=some (.tup vs)/\RWs H vs ws:=by
 cases h with
 |lst e l r=>exact⟨_,_,rfl,e,l,r⟩
theorem RW.inv_txt{H:Hp}{v:V}{x:Str}(h:RW H v (.txt x)):v=.str x:=by cases h;rfl
theorem RWs.inv_cons{H:Hp}{vs:List V}{w:W}{ws:List W}(h:RWs H vs (w::ws)):∃v r,vs=v::r/\RW H v w/\RWs H r ws:=by
 obtain⟨l,f⟩:=h
 cases vs with
 |nil=>simp at l
 |cons v r=>exact⟨v,r,rfl,f 0 v w rfl rfl,by simpa using l,fun i x y hx hy=>f (i+1) x y (by simpa using hx) (by simpa using hy)⟩
theorem RWs.inv_nil{H:Hp}{vs:List V}(h:RWs H vs []):vs=[]:=yR.mp h.len
theorem RWs.inv_txts{H:Hp}:∀{bs:List Str}{vs:List V}{ws:List W},RWs H vs (bs.map W.txt++ws)->∃r,vs=bs.map V.str++r/\RWs H r ws
 |[],vs,ws,h=>⟨vs,rfl,h⟩
 |b::bs,vs,ws,h=>by
  obtain⟨v,r,rfl,h1,h2⟩:=RWs.inv_cons h
  obtain⟨r',rfl,h3⟩:=RWs.inv_txts h2
  exact⟨r',by rw[RW.inv_txt h1];rfl,h3⟩
inductive Opn(H:Hp):Rl->List V->Prop where
 |lit {x:W}{v:V}:RW H v x->Opn H (.lit x) [.str "lit",v]
 |var {s:Str}:Opn H (.var s) [.str "var",.str s]
 |op {d:Wo}{bs:List Str}{ps:List Rl}{vs:List V}:RWs H vs (rlWs ps)->Opn H (.op d bs ps) (.str (woS d)::(bs.map V.str++vs))
theorem opn{H:Hp}{v:V}{r:Rl}(h:RW H v r.toW):∃a us,v=.ref a/\H a=some (.tup us)/\Opn H r us:=by
 cases r with
 |lit x=>
  rw[Rl.toW] at h
  obtain⟨a,vs,rfl,e,h⟩:=RW.inv_lst h
  obtain⟨v1,r1,rfl,h1,h⟩:=RWs.inv_cons h
  obtain⟨v2,r2,rfl,h2,h⟩:=RWs.inv_cons h
  rw[RW.inv_txt h1,RWs.inv_nil h] at e
  exact⟨a,_,rfl,e,.lit h2⟩
 |var s=>
  rw[Rl.toW] at h
  obtain⟨a,vs,rfl,e,h⟩:=RW.inv_lst h
  obtain⟨v1,r1,rfl,h1,h⟩:=RWs.inv_cons h
  obtain⟨v2,r2,rfl,h2,h⟩:=RWs.inv_cons h
  rw[RW.inv_txt h1,RW.inv_txt h2,RWs.inv_nil h] at e
  exact⟨a,_,rfl,e,.var⟩
 |op d bs ps=>
  rw[Rl.toW] at h
  obtain⟨a,vs,rfl,e,h⟩:=RW.inv_lst h
  obtain⟨v1,r1,rfl,h1,h⟩:=RWs.inv_cons h
  obtain⟨r2,rfl,h2⟩:=RWs.inv_txts h
  rw[RW.inv_txt h1] at e
  exact⟨a,_,rfl,e,.op h2⟩
theorem Opn.head{H:Hp}{r:Rl}{us:List V}(h:Opn H r us):us[0]?=some (.str (woS (rlW r))):=by cases h<;>rfl
theorem zko(x:V)(xs ys:List V)(k:Nat)(hk:k=xs.length):cutV (x::(xs++ys)) (some 1) (some (1+(k:Int)))=xs:=by
 show ((x::(xs++ys)).drop (HT.sIx (x::(xs++ys)).length 0 (some ((1:Nat):Int)))).take (HT.sIx (x::(xs++ys)).length (x::(xs++ys)).length (some (1+(k:Int)))-HT.sIx (x::(xs++ys)).length 0 (some ((1:Nat):Int)))=xs
 rw[show (1:Int)+(k:Int)=((1+k:Nat):Int) by lia,HT.sIx_nat,HT.sIx_nat,yF,yC,hk,show min 1 (xs.length+ys.length+1)=1 by lia,show min (1+xs.length) (xs.length+ys.length+1)-1=xs.length by lia]
 simp
theorem zfR(x:V)(xs ys:List V)(k:Nat)(hk:k=xs.length):cutV (x::(xs++ys)) (some (1+(k:Int))) none=ys:=by
 show ((x::(xs++ys)).drop (HT.sIx (x::(xs++ys)).length 0 (some (1+(k:Int))))).take ((x::(xs++ys)).length-HT.sIx (x::(xs++ys)).length 0 (some (1+(k:Int))))=ys
 rw[show (1:Int)+(k:Int)=((1+k:Nat):Int) by lia,HT.sIx_nat,yF,yC,hk,show min (1+xs.length) (xs.length+ys.length+1)=xs.length+1 by lia]
 rw[vR,List.drop_left,xD (by lia)]
theorem zbC(x:V)(xs:List V)(k:Nat)(hi:Option Int):¬(HT.sIx (x::xs).length 0 (some (1+(k:Int)))=0/\HT.sIx (x::xs).length (x::xs).length hi=(x::xs).length):=fun h=>by
 have h1:=h.1
 rw[show (1:Int)+(k:Int)=((1+k:Nat):Int) by lia,HT.sIx_nat,yF] at h1
 lia
theorem zfS:∀{ps:List Rl}{i:Nat}{p:Rl},ps[i]?=some p->(rlWs ps)[i]?=some p.toW
 |q::r,0,p,h=>by cases h;rw[rlWs];rfl
 |q::r,i+1,p,h=>by rw[rlWs,xW];exact zfS (by simpa using h)
theorem zkp:tK (uV "set")=some (.type "set"):=by kernel_rfl
noncomputable def kvsB:List (Key×V):=[(.inr "let",.int 1),(.inr "each",.int 1),(.inr "over",.int 2)]
noncomputable def kvsP:List (Key×V):=[(.inr "let",.int 2),(.inr "if",.int 3),(.inr "+",.int 2),(.inr "-",.int 2),(.inr "*",.int 2),(.inr "/",.int 2),(.inr "same",.int 2),(.inr "less",.int 2),(.inr "join",.int 2),(.inr "item",.int 2),(.inr "count",.int 1),(.inr "figures",.int 1),(.inr "each",.int 2),(.inr "over",.int 3),(.inr "look",.int 1),(.inr "else",.int 2),(.inr "cry",.int 1)]
inductive spHasParts(vs:List V)(H:Hp)(Q:VK)(z3:XK):Prop
 |mk (d:Wo) (_:vs=[.str (woS d)]) (_:Q (.bl (!(wLit d||wVar d))) H)
inductive spBCount(vs:List V)(H:Hp)(Q:VK)(z3:XK):Prop
 |mk (d:Wo) (_:vs=[.str (woS d)]) (_:Q (.int (bcnt d)) H)
inductive spVarsOf(vs:List V)(H:Hp)(Q:VK)(z3:XK):Prop
 |mk (a:Addr) (d:Wo) (xs ys:List V) (_:vs=[.ref a]) (_:H a=some (.tup (.str (woS d)::(xs++ys)))) (_:xs.length=bcnt d) (_:∀(p:Addr)(H':Hp),Same H H'->H' p=some (.tup xs)->Q (.ref p) H')
noncomputable def zO:Rl->List Rl
 |.op _ _ ps=>ps
 |_=>[]
inductive spPartsOf(vs:List V)(H:Hp)(Q:VK)(z3:XK):Prop
 |mk (a:Addr) (d:Wo) (xs ys:List V) (_:vs=[.ref a]) (_:H a=some (.tup (.str (woS d)::(xs++ys)))) (_:((wLit d||wVar d)=true\/((wLit d||wVar d)=false/\xs.length=bcnt d))) (_:∀(l:Addr)(H':Hp),H l=none->Same H H'->H' l=some (.lst (if (wLit d||wVar d)=true then [] else ys))->Q (.ref l) H')
theorem zh5:∀ps:List Rl,ps.length<=manys ps
 |[]=>by simp[manys]
 |p::r=>by
  have h1:=zh5 r
  have h2:1<=p.many:=by cases p<;>simp[Rl.many]
  simp only[manys,yF]
  lia
theorem zgF:FnScope ["word"] ["word"] (zi zcb):=mkSc rfl (by decide +kernel)
theorem zgG(F:Fun K "has_parts" "has_parts" zcb f fd){g_PARTS:Addr}(m_PARTS:mg "PARTS"=some (.ref g_PARTS))(d_PARTS:MD P w K g_PARTS kvsP):FnOk P w K mg base CX0 (k+1) f fd ["word"] (spHasParts):=by
 refine F.okQ zgF (by rintro _ _ _ _ ⟨_,rfl,_⟩;rfl) fun _ _ _ _ H vs Q E hr h=>?_
 obtain⟨d,rfl,q⟩:=h
 refine⟨_,(zf (zl (zk0 (zJ zY (pv 0) zg (nomark _)) (ZG (zJ zod (pv 0) (zam (v:=.ref g_PARTS) rfl m_PARTS rfl) (by rfl)))))),?_⟩
 refine⟨_,rfl,rfl,_,rfl,?_⟩
 rw[show uV "list"="list" from rfl,zkn]
 cases hl:zbo d with
 |true=>
  have:(!(wLit d||wVar d))=true:=by cases d<;>first|rfl|(simp[zbo] at hl;done)
  rw[this] at q
  exact iteT q
 |false=>
  refine iteF ⟨_,rfl,g_PARTS,kvsP,.inr (woS d),rfl,rfl,d_PARTS,?_⟩
  have hs:(valV kvsP (.inr (woS d))).isSome=(!(wLit d||wVar d)):=by
   cases d
   case list=>simp[zbo] at hl
   all_goals rfl
  rw[hs]
  exact q
theorem zdt:FnScope ["word"] ["word"] (zi zaB):=mkSc rfl (by decide +kernel)
theorem zdu(F:Fun K "binding_count" "binding_count" zaB f fd){g_BINDING:Addr}(m_BINDING:mg "BINDING"=some (.ref g_BINDING))(d_BINDING:MD P w K g_BINDING kvsB):FnOk P w K mg base CX0 (k+1) f fd ["word"] (spBCount):=by
 refine F.okQ zdt (by rintro _ _ _ _ ⟨_,rfl,_⟩;rfl) fun _ _ _ _ H vs Q E hr h=>?_
 obtain⟨d,rfl,q⟩:=h
 refine⟨_,(zf (zl (zfH (zam (v:=.ref g_BINDING) rfl m_BINDING rfl) (pv 0) ze ⟨rfl,rfl,rfl,rfl⟩))),?_⟩
 refine⟨g_BINDING,kvsB,rfl,d_BINDING,_,rfl,.inr (woS d),rfl,?_⟩
 have hs:(valV kvsB (.inr (woS d))).getD (.int 0)=.int (bcnt d):=by cases d<;>rfl
 rw[hs]
 exact q
theorem zee:FnScope ["expression"] ["expression"] (zi zaS):=mkSc rfl (by decide +kernel)
theorem zef(F:Fun K "variables_of" "variables_of" zaS f fd)(G_binding_count:Have P w K mg base "binding_count" k ["word"] (spBCount)):FnOk P w K mg base CX0 (k+1) f fd ["expression"] (spVarsOf):=by
 refine F.okQ zee (by rintro _ _ _ _ ⟨_,_,_,_,rfl,_⟩;rfl) fun _ _ _ _ H vs Q E hr h=>?_
 obtain⟨a,d,xs,ys,rfl,ha,hl,q⟩:=h
 refine⟨_,(zf (zl (Zv zcv (pv 0) (Zn ze) (Zn (zu Zj ze (zo G_binding_count hr rfl (za (zz zw (pv 0) ze (fun _ _=>rfl)) zb))))))),?_⟩
 refine⟨_,rfl,_,rfl,_,rfl,a,_,0,_,rfl,rfl,Sq ha,zS (j:=0) rfl,d,rfl,_,_,rfl,rfl,_,rfl,a,_,rfl,Sq ha,zbC _ _ 0 _,fun p hp=>?_⟩
 refine q p _ (Sn hp) (zc.trans ?_)
 exact congrArg (fun z=>some (HO.tup z)) (zko _ xs ys (bcnt d) hl.symm)
theorem zeg:FnScope ["expression","word"] ["expression"] (zi zcV):=mkSc rfl (by decide +kernel)
theorem zhm(F:Fun K "parts_of" "parts_of" zcV f fd)(G_binding_count:Have P w K mg base "binding_count" k ["word"] (spBCount))(G_has_parts:Have P w K mg base "has_parts" k ["word"] (spHasParts))(m_list:mg "list"=none):FnOk P w K mg base CX0 (k+1) f fd ["expression"] (spPartsOf):=by
 refine F.okQ zeg (by rintro _ _ _ _ ⟨_,_,_,_,rfl,_⟩;rfl) fun _ _ _ _ H vs Q E hr h=>?_
 obtain⟨a,d,xs,ys,rfl,ea,hc,q⟩:=h
 refine⟨_,(zd (zm (i:=1) zeg.nd rfl (Or.inl rfl) (zz zw (pv 0) ze (fun _ _=>rfl)))
  (zd (zE (ZA (zX (zo G_has_parts hr rfl (za (pv 1) zb)))) (zf (zl (zF zb))) zq)
  (zf (zl (zD zai rfl m_list zav (za (Zv zcv (pv 0) (Zn (zu Zj ze (zo G_binding_count hr rfl (za (pv 1) zb)))) zaR) zb)))))),nm3 ?_⟩
 intros
 refine⟨_,rfl,a,_,0,_,rfl,rfl,Sq ea,zS (j:=0) rfl,?_⟩
 refine⟨_,rfl,d,rfl,_,rfl,?_⟩
 rcases hc with hc|⟨hc,hl⟩
 ·rw[hc] at q ⊢
  exact iteT ⟨zl0,fun l hl=>q l _ hl (Sn hl) zc⟩
 ·rw[hc] at q ⊢
  refine iteF ⟨_,rfl,_,rfl,d,rfl,_,_,rfl,rfl,_,rfl,a,_,rfl,Sq ea,zbC _ _ (bcnt d) _,fun p hp=>?_⟩
  have s1:=Sn (o:=.tup (cutV (.str (woS d)::(xs++ys)) (some (1+bcnt d)) none)) hp
  have e:=zfR (.str (woS d)) xs ys (bcnt d) hl.symm
  refine⟨p,ys,rfl,.inr (Sq (by rw[zc];exact congrArg _ (congrArg _ e))),fun l hl=>?_⟩
  have s2:=s1.trans (Sn (o:=.lst ys) hl)
  exact q l _ (s1.free hl) s2 zc
theorem zng{H:Hp}{v:V}{r:Rl}{Q:VK}{E:XK}(hv:RW H v r.toW)(hg:r.Gd)(q:∀(l:Addr) (us:List V) (H':Hp),H l=none->Same H H'->H' l=some (.lst us)->RWs H' us (rlWs (zO r))->Q (.ref l) H'):spPartsOf [v] H Q E:=by
 obtain⟨a,us,rfl,ea,ho⟩:=opn hv
 cases ho with
 |lit _=>exact⟨a,.lit,[],[_],rfl,ea,.inl rfl,fun l H' hl s e=>q l [] H' hl s e ⟨rfl,fun i v w e=>by simp at e⟩⟩
 |var=>exact⟨a,.var,[],[_],rfl,ea,.inl rfl,fun l H' hl s e=>q l [] H' hl s e ⟨rfl,fun i v w e=>by simp at e⟩⟩
 |op hvs=>
  rename_i d bs ps vs
  rw[Rl.Gd] at hg
  obtain⟨⟨h1,h2,h3,_⟩,_⟩:=hg
  have hb:(wLit d||wVar d)=false:=by rw[h1,h2];rfl
  refine⟨a,d,bs.map V.str,vs,rfl,ea,.inr ⟨hb,by rw[yA,h3]⟩,fun l H' hl s e=>q l vs H' hl s ?_ (hvs.mono (zh s))⟩
  rw[hb] at e
  exact e
theorem zfT:∀{ps:List Rl}{p:Rl},p∈ps->p.many<=manys ps
 |q::r,p,h=>by
  simp only[manys]
  rcases yG.mp h with rfl|h
  ·lia
  ·have:=zfT h;lia
theorem zhn(r:Rl):r.many=1+manys (zO r):=by cases r<;>simp[Rl.many,zO,manys]
theorem zho(r:Rl):r.high=highs (zO r):=by cases r<;>simp[Rl.high,zO,highs]
theorem zbf{r:Rl}(h:r.Gd):∀p∈zO r,p.Gd:=by
 cases r with
 |op d bs ps=>rw[Rl.Gd] at h;exact h.2.mem
 |lit _=>intro p hp;cases hp
 |var _=>intro p hp;cases hp
mutual
noncomputable def unb(b:List Str):Rl->List Str
 |.lit _=>[]
 |.var s=>if s∈b then [] else [s]
 |.op _ bs ps=>unbs b bs ps
noncomputable def unbs(b bs:List Str):List Rl->List Str
 |[]=>[]
 |[p]=>unb (b++bs) p
 |p::q::r=>unb b p++unbs b bs (q::r)
end
def unbR(x:Row):List Str:=unb x.2.2 x.2.1
theorem zgH(b bs:List Str):∀(ps:List Rl)(k:Int),unbs b bs ps=(zbe [] b bs ps k).flatMap unbR
 |[],_=>by rw[unbs,zbe];rfl
 |[p],_=>by rw[unbs,zbe];simp[unbR]
 |p::q::r,k=>by rw[unbs,zbe,List.flatMap_cons,zgH b bs (q::r) (k+1)];rfl
mutual
theorem zeh(b:List Str):∀r:Rl,(unb b r).length<=r.many
 |.lit x=>by rw[unb,Rl.many];exact yS _
 |.var s=>by rw[unb,Rl.many];split<;>simp
 |.op d bs ps=>by rw[unb,Rl.many];have:=unbs_len b bs ps;lia
theorem unbs_len(b bs:List Str):∀ps:List Rl,(unbs b bs ps).length<=manys ps
 |[]=>by rw[unbs,manys];exact yO _
 |[p]=>by rw[unbs,manys,manys];have:=zeh (b++bs) p;lia
 |p::q::r=>by rw[unbs,manys,yC];have:=zeh b p;have:=unbs_len b bs (q::r);lia
end
noncomputable def zdv:Rl->List Str
 |.op _ bs _=>bs
 |_=>[]
theorem zgI{α β:Type}(f:α->List β)(l:List α)(i:Nat):((l.take i).flatMap f).length<=(l.flatMap f).length:=by
 have:l.flatMap f=(l.take i).flatMap f++(l.drop i).flatMap f:=by rw[←uM,wM]
 rw[this,yC]
 lia
theorem zfU(s:Str)(b:List Str):inV (.str s) (b.map V.str)=decide (s∈b):=by
 induction b with
 |nil=>rfl
 |cons x r ih=>
  unfold inV at ih ⊢
  rw[yJ,uO,ih]
  rw[show eqV (V.str x) (V.str s)=(x==s) from rfl]
  by_cases e:s=x
  ·subst e;simp
  ·have e':¬x=s:=fun z=>e z.symm
   simp[e,e']
inductive spUnb(n:Nat)(vs:List V)(H:Hp)(Q:VK)(z3:XK):Prop
 |mk (v:V) (r:Rl) (b:Addr) (bnd:List Str) (_:vs=[v,.ref b]) (_:RW H v r.toW) (_:r.Gd) (_:r.many<=100) (_:r.high<n) (_:H b=some (.tup (bnd.map V.str))) (_:bnd.length+2*n<=1000) (_:∀(l:Addr)(H':Hp),H l=none->Same H H'->H' l=some (.lst ((unb bnd r).map V.str))->Q (.ref l) H')
inductive spFree(vs:List V)(H:Hp)(Q:VK)(z3:XK):Prop
 |mk (v:V) (r:Rl) (_:vs=[v]) (_:RW H v r.toW) (_:r.Gd) (_:r.many<64) (_:r.high<20) (_:∀(l:Addr)(ss:List Str)(H':Hp),H l=none->Same H H'->H' l=some (.lst (ss.map V.str))->L2.zm8 ss->ss.Perm (L2.allS (unb [] r))->Q (.ref l) H')
theorem zaw:FnScope ["expression","bound","parts","names","place","part","is_last"] ["expression","bound"] (zi zd4):=mkSc rfl (by decide +kernel)
theorem zi2{n:Nat}(F:Fun K "unbound" "unbound" zd4 f fd)(G_unbound:Have P w K mg base "unbound" k ["expression","bound"] (spUnb n))(G_variables_of:Have P w K mg base "variables_of" k ["expression"] (spVarsOf))(G_parts_of:Have P w K mg base "parts_of" k ["expression"] (spPartsOf))(m_enumerate:mg "enumerate"=none)(m_len:mg "len"=none):FnOk P w K mg base CX0 (k+1) f fd ["expression","bound"] (spUnb (n+1)):=by
 refine F.okQ zaw (by rintro _ _ _ _ ⟨_,_,_,_,rfl,_⟩;rfl) fun _ _ _ _ H vs Q E hr h=>?_
 obtain⟨v,r,b,bnd,rfl,hv,hfit,hm,hh,hb,hbl,q⟩:=h
 refine⟨_,(zd (zE (zk zY (zz zw (pv 0) ze (fun _ _=>rfl)) zg (nomark _)) (zf (zl (zaJ (zk ZB (zz zw (pv 0) ze (fun _ _=>rfl)) (pv 1) (by rfl)) (zF zb) (zF (za (zz zw (pv 0) ze (fun _ _=>rfl)) zb))))) zq)
  (zd (zm (i:=2) zaw.nd rfl (Or.inl rfl) (zo G_parts_of hr rfl (za (pv 0) zb)))
  (zd (zm (i:=3) zaw.nd rfl (Or.inl rfl) (zF zb))
  (zd (zaL tN rfl (zd9 rfl m_enumerate (za (pv 2) zb)) (zbl rfl (Zc (Zb (i:=4) zaw.nd rfl (Or.inl rfl)) (Zc (Zb (i:=5) zaw.nd rfl (Or.inl rfl)) zaP))) (zd (zm (i:=6) zaw.nd rfl (Or.inl rfl) (zJ zY (pv 4) (zu Zu (zj zB rfl m_len tF (za (pv 2) zb)) ze) (nomark _)))
  (zf (Zm (ZZ tO PySem.F.slot_list_extend PySem.F.type_list_extend zdZ (pv 3) (za (zo G_unbound hr rfl (za (pv 5) (za (zaJ (zX (pv 6)) (zu zm3 (pv 1) (zo G_variables_of hr rfl (za (pv 0) zb))) (pv 1)) zb))) zb))))))
  (zf (zl (pv 3))))))),nm5 ?_⟩
 intros
 obtain⟨a,us0,rfl,ea,ho⟩:=opn hv
 refine⟨_,rfl,a,_,0,_,rfl,rfl,Sq ea,zS (j:=0) ho.head,rfl,_,rfl,?_⟩
 rw[show uV "var"="var" from rfl,zkk]
 cases hw:wVar (rlW r) with
 |true=>
  cases ho with
  |var=>
   rename_i s
   refine iteT ⟨_,rfl,a,_,1,_,rfl,rfl,Sq ea,rfl,_,rfl,b,_,rfl,.inr (Sq hb),rfl,?_,_,rfl,?_⟩
   ·rw[vS];simp[zds]
   ·show if inV (.str s) (bnd.map V.str)=true then _ else _
    rw[zfU]
    by_cases hs:s∈bnd
    ·rw[decide_eq_true hs]
     exact iteT ⟨zl0,fun l hl=>q l _ hl (Sn hl) (by rw[zc,unb,if_pos hs];rfl)⟩
    ·rw[decide_eq_false hs]
     exact iteF ⟨_,rfl,a,_,1,_,rfl,rfl,Sq ea,rfl,zl1,fun l hl=>q l _ hl (Sn hl) (by rw[zc,unb,if_neg hs];rfl)⟩
  |lit _=>cases hw
  |op hvs=>
   have hf:=hfit
   rw[Rl.Gd] at hf
   rw[show wVar (rlW (Rl.op _ _ _))=false from hf.1.2.1] at hw
   cases hw
 |false=>
  have hub:unb bnd r=(zbe [] bnd (zdv r) (zO r) 0).flatMap unbR:=by
   cases r with
   |lit _=>rw[unb];rfl
   |var _=>cases hw
   |op d bs ps=>rw[unb,zgH bnd bs ps 0];rfl
  refine iteF ⟨_,rfl,?_⟩
  dsimp +zetaDelta only [tNil,xC,xS]
  refine zng hv hfit fun l us H1 hl s1 el hus=>⟨zl0,fun nm hnm=>?_⟩
  have hul:=hus.len
  rw[zbR] at hul
  have s2:=Sn (o:=.lst []) hnm
  have hln:l≠nm:=zn el hnm
  have nmH:H nm=none:=s1.free hnm
  have ulen:=zeh bnd r
  refine⟨_,rfl,l,us,rfl,Sl (s2 _ _ el),zfJ (xs:=us) (fun i σ' H'=>∃(o4 o5 o6:Option V),σ'=[some (.ref a),some (.ref b),some (.ref l),some (.ref nm),o4,o5,o6]/\(∀c o,c≠nm->upd H1 nm (.lst []) c=some o->H' c=some o)/\H' nm=some (.lst ((((zbe [] bnd (zdv r) (zO r) 0).take i).flatMap unbR).map V.str)))
   ⟨none,none,none,rfl,fun c o _ e=>e,by rw[zc];rfl⟩ (fun i σ' H' _ h=>?_) (fun i x t σ' H' hx ht h=>?_) (fun σ' H' h=>?_)⟩
  ·obtain⟨_,_,_,_,kp,_⟩:=h
   exact Sl (kp l _ hln (s2 _ _ el))
  ·obtain⟨o4,o5,o6,rfl,kp,enm⟩:=h
   have hi:i<us.length:=(yE.mp hx).1
   have hki:(zO r)[i]?=some (zO r)[i]:=yB (by lia)
   have hkid:=zh4 [] bnd (zdv r) (zO r) 0 i _ hki
   have sT:=Sn (o:=.tup [.int i,x]) ht
   have hpm:=yW (show i<(zO r).length by lia)
   have h1:=zfT hpm
   have h2:=zbT hpm
   have hme:=zhn r
   have hhe:=zho r
   have kpT:∀c o,c≠nm->upd H1 nm (.lst []) c=some o->upd H' t (.tup [.int i,x]) c=some o:=fun c o hc e=>sT _ _ (kp c o hc e)
   have kH:∀c o,H c=some o->upd H' t (.tup [.int i,x]) c=some o:=fun c o e=>kpT c o (zn e nmH) (s2 _ _ (s1 _ _ e))
   refine⟨t,_,rfl,Sq zc,rfl,_,_,rfl,_,_,rfl,rfl,?_⟩
   refine⟨_,rfl,_,rfl,_,_,rfl,.inl ⟨_,Sl (kpT l _ hln (s2 _ _ el)),rfl⟩,_,_,rfl,rfl,rfl,?_⟩
   refine⟨_,rfl,.inl ⟨rfl,_,Sl (sT _ _ enm)⟩,_,rfl,_,rfl,_,rfl,?_⟩
   have rwx:RW (upd H' t (.tup [.int i,x])) x ((zO r)[i]).toW:=by
    refine (hus.at' i x _ hx (zfS hki)).mono (fun c zs ec=>?_)
    exact kpT c _ (zn ec hnm) (s2 _ _ ec)
   have F:∀(l2:Addr)(H6:Hp)(bnd2:List Str),bnd2=(if i+1=(zO r).length then bnd++zdv r else bnd)->Same (upd H' t (.tup [.int i,x])) H6->H6 l2=some (.lst ((unb bnd2 (zO r)[i]).map V.str))->H6 nm=some (.lst ((((zbe [] bnd (zdv r) (zO r) 0).take i).flatMap unbR).map V.str)) /\
     ((((zbe [] bnd (zdv r) (zO r) 0).take i).flatMap unbR).map V.str).length+((unb bnd2 (zO r)[i]).map V.str).length<=tH /\
     (∀c o,c≠nm->upd H1 nm (.lst []) c=some o->upd H6 nm (.lst ((((zbe [] bnd (zdv r) (zO r) 0).take i).flatMap unbR).map V.str++(unb bnd2 (zO r)[i]).map V.str)) c=some o) /\
     upd H6 nm (.lst ((((zbe [] bnd (zdv r) (zO r) 0).take i).flatMap unbR).map V.str++(unb bnd2 (zO r)[i]).map V.str)) nm=some (.lst ((((zbe [] bnd (zdv r) (zO r) 0).take (i+1)).flatMap unbR).map V.str)):=fun l2 H6 bnd2 hb2 s6 el2=>by
    have t1:=zgI unbR (zbe [] bnd (zdv r) (zO r) 0) i
    rw[←hub] at t1
    have t2:=zeh bnd2 (zO r)[i]
    refine⟨s6 _ _ (sT _ _ enm),?_,fun c o hc e=>?_,?_⟩
    ·rw[yA,yA]
     exact yQ (show _<=300 by lia) (by decide)
    ·rw[zA hc]
     exact s6 _ _ (kpT c o hc e)
    ·rw[zc,List.take_succ,hkid,uM,yK,←hb2]
     simp[unbR]
   refine ite2 (fun c=>?_) (fun c=>?_)
   ·have hlast:i+1=(zO r).length:=by
     have:=of_decide_eq_true c
     injection this with this
     lia
    cases ho with
    |lit _=>simp[zO] at hlast
    |var=>cases hw
    |op hvs=>
     rename_i d bs ps vs
     have hfit':=hfit
     have hf:=hfit
     rw[Rl.Gd] at hf
     have hb2l:=zcm d
     have hbl3:=hf.1.2.2.1
     refine⟨_,rfl,_,rfl,a,d,bs.map V.str,vs,rfl,kH _ _ ea,by rw[yA];exact hf.1.2.2.1,fun p H5 s5 ep=>?_⟩
     have hb2:bnd++bs=(if i+1=(zO (.op d bs ps)).length then bnd++zdv (.op d bs ps) else bnd):=by rw[if_pos hlast];rfl
     have hbl2:(bnd++bs).length+2*n<=1000:=by rw[yC];lia
     have call:∀(b2:Addr)(H6:Hp),Same H5 H6->H6 b2=some (.tup ((bnd++bs).map V.str))->RW H6 x ((zO (.op d bs ps))[i]).toW:=fun b2 H6 s6 _=>rwx.mono (zh (s5.trans s6))
     cases hbn:bnd with
     |nil=>
      subst hbn
      refine .inr (.inr ⟨b,p,_,rfl,rfl,Sq (s5 _ _ (kH _ _ hb)),Sq ep,?_⟩)
      exact⟨x,_,p,[]++bs,rfl,rwx.mono (zh s5),zbf hfit' _ hpm,by lia,by lia,ep,hbl2,fun l2 H6 hl2 s6 el2=>⟨nm,l2,_,_,rfl,rfl,(F l2 H6 _ hb2 (s5.trans s6) el2).1,el2,(F l2 H6 _ hb2 (s5.trans s6) el2).2.1,_,_,_,rfl,(F l2 H6 _ hb2 (s5.trans s6) el2).2.2.1,(F l2 H6 _ hb2 (s5.trans s6) el2).2.2.2⟩⟩
     |cons z zs=>
      rw[←hbn]
      refine .inr (.inl ⟨b,p,_,_,rfl,rfl,Sq (s5 _ _ (kH _ _ hb)),Sq ep,(by rw[hbn];exact fun z=>nomatch z),by rw[yA,yA];exact yQ (show bnd.length+bs.length<=1100 by lia) (by decide),fun hz=>?_,fun _ p6 hp6=>?_⟩)
      ·have hbs:bs=[]:=uN.mp hz
       have eb:H5 b=some (.tup ((bnd++bs).map V.str)):=by rw[hbs,xH];exact s5 _ _ (kH _ _ hb)
       exact⟨x,_,b,bnd++bs,rfl,rwx.mono (zh s5),zbf hfit' _ hpm,by lia,by lia,eb,hbl2,fun l2 H6 hl2 s6 el2=>⟨nm,l2,_,_,rfl,rfl,(F l2 H6 _ hb2 (s5.trans s6) el2).1,el2,(F l2 H6 _ hb2 (s5.trans s6) el2).2.1,_,_,_,rfl,(F l2 H6 _ hb2 (s5.trans s6) el2).2.2.1,(F l2 H6 _ hb2 (s5.trans s6) el2).2.2.2⟩⟩
      ·have s56:=s5.trans (Sn (o:=.tup (bnd.map V.str++bs.map V.str)) hp6)
       exact⟨x,_,p6,bnd++bs,rfl,rwx.mono (zh s56),zbf hfit' _ hpm,by lia,by lia,by rw[zc,yK],hbl2,fun l2 H6 hl2 s6 el2=>⟨nm,l2,_,_,rfl,rfl,(F l2 H6 _ hb2 (s56.trans s6) el2).1,el2,(F l2 H6 _ hb2 (s56.trans s6) el2).2.1,_,_,_,rfl,(F l2 H6 _ hb2 (s56.trans s6) el2).2.2.1,(F l2 H6 _ hb2 (s56.trans s6) el2).2.2.2⟩⟩
   ·have hlast:¬i+1=(zO r).length:=fun z=>c (decide_eq_true (congrArg V.int (show (i:Int)=(us.length:Int)-1 by lia)))
    have hb2:bnd=(if i+1=(zO r).length then bnd++zdv r else bnd):=by rw[if_neg hlast]
    exact⟨_,rfl,x,_,b,bnd,rfl,rwx,zbf hfit _ hpm,by lia,by lia,kH _ _ hb,by lia,fun l2 H6 hl2 s6 el2=>⟨nm,l2,_,_,rfl,rfl,(F l2 H6 _ hb2 s6 el2).1,el2,(F l2 H6 _ hb2 s6 el2).2.1,_,_,_,rfl,(F l2 H6 _ hb2 s6 el2).2.2.1,(F l2 H6 _ hb2 s6 el2).2.2.2⟩⟩
  ·obtain⟨o4,o5,o6,rfl,kp,enm⟩:=h
   refine⟨_,rfl,q nm H' nmH (fun c o e=>kp c o (zn e nmH) (s2 _ _ (s1 _ _ e))) ?_⟩
   rw[enm,hub,xD (by rw[zh3];lia)]
theorem zi3:FnScope ["expression"] ["expression"] (zi zd5):=mkSc rfl (by decide +kernel)
theorem zi4(F:Fun K "free_in" "free_in" zd5 f fd)(G_unbound:Have P w K mg base "unbound" k ["expression","bound"] (spUnb 20))(m_set:mg "set"=none)(m_sorted:mg "sorted"=none):FnOk P w K mg base CX0 (k+1) f fd ["expression"] (spFree):=by
 refine F.okQ zi3 (by rintro _ _ _ _ ⟨_,_,rfl,_⟩;rfl) fun _ _ _ _ H vs Q E hr h=>?_
 obtain⟨v,r,rfl,hv,hfit,hm,hh,q⟩:=h
 refine⟨_,(zf (zl (zj (zea rfl) rfl m_sorted PyProof.Rows.boot_sorted (za (zD (zhh rfl) rfl m_set zkp (za (zo G_unbound hr rfl (za (pv 0) (za (zy zb) zb))) zb)) zb)))),?_⟩
 refine⟨_,rfl,zl0,fun p hp=>?_⟩
 have s1:=Sn (o:=.tup []) hp
 have hul:=zeh [] r
 have hal:=L2.zhY (unb [] r)
 refine⟨v,r,p,[],rfl,hv.mono (zh s1),hfit,by lia,hh,zc,by decide,fun l H2 hl s2 el=>⟨l,unb [] r,rfl,Sl el,by lia,fun st hst=>⟨st,_,rfl,zc,by lia,fun o ss ho hp hs=>?_⟩⟩⟩
 have s3:=Sn (o:=L2.SetH P w st (L2.allS (unb [] r))) hst
 have s4:=(s1.trans s2).trans s3
 exact q o ss _ (s4.free ho) (s4.trans (Sn ho)) zc hs hp
noncomputable def abcL:Str:=uV "abcdefghijklmnopqrstuvwxyz"
theorem zh6(c:Nat):c∈abcL.cps.toList ↔ 97<=c/\c<=122:=by
 have e:abcL.cps.toList=(wK 26).map (· + 97):=by decide +kernel
 rw[e,yX]
 constructor
 ·rintro⟨i,hi,rfl⟩
  have:=wY.mp hi
  lia
 ·exact fun h=>⟨c-97,wY.mpr (by lia),by lia⟩
noncomputable def letB(c:Nat):Bool:=decide (c∈abcL.cps.toList)
def Zk:T->Bool
 |.txt z=>decide (1<=z.length)&&(decide (z.length<=8)&&z.cps.toList.all letB)
 |_=>false
theorem ZE{z:Str}:Zk (.txt z)=true ↔ Vr z:=by
 show (decide (1<=z.length)&&(decide (z.length<=8)&&z.cps.toList.all letB))=true ↔ _
 rw[yZ,yZ,decide_eq_true_iff,decide_eq_true_iff,xY]
 refine⟨fun h=>⟨h.1,h.2.1,fun c hc=>(zh6 c).mp (of_decide_eq_true (h.2.2 c hc))⟩,fun h=>⟨h.1,h.2.1,fun c hc=>decide_eq_true ((zh6 c).mpr (h.2.2 c hc))⟩⟩
theorem zbU{t:T}(h:Zk t=true):∃z,t=.txt z/\Vr z:=by
 cases t with
 |txt z=>exact⟨z,rfl,ZE.mp h⟩
 |_=>cases h
def zei:List T->Bool
 |[]=>true
 |[t]=>Zk t
 |.txt x::.txt y::_=>Zk (.txt x)&&(Zk (.txt y)&&decide (x≠y))
 |_::_::_=>false
def RTs(H:Hp)(vs:List V)(ts:List T):Prop:=vs.length=ts.length/\∀(i:Nat)(v:V)(t:T),vs[i]?=some v->ts[i]?=some t->RT H v t
theorem RTs.mono{H H':Hp}(s:Same H H'){vs:List V}{ts:List T}(h:RTs H vs ts):RTs H' vs ts:=⟨h.1,fun i v t a b=>(h.2 i v t a b).mono s⟩
inductive spIsVar(vs:List V)(H:Hp)(Q:VK)(z3:XK):Prop
 |mk (v:V) (t:T) (_:vs=[v]) (_:RT H v t) (_:t.Sm) (_:∀H',Same H H'->Q (.bl (Zk t)) H')
inductive spGoodV(vs:List V)(H:Hp)(Q:VK)(z3:XK):Prop
 |mk (a:Addr) (us:List V) (ts:List T) (_:vs=[.ref a]) (_:H a=some (.tup us)) (_:RTs H us ts) (_:Sms ts) (_:ts.length<=2) (_:∀H',Same H H'->Q (.bl (zei ts)) H')
theorem zeO:FnScope ["thing"] ["thing"] (zi za5):=mkSc rfl (by decide +kernel)
theorem zeP(F:Fun K "is_variable" "is_variable" za5 f fd)(m_all:mg "all"=none)(m_isi:mg "isinstance"=none)(m_len:mg "len"=none)(m_str:mg "str"=none)(m_MOST_LETTERS:∃t,mg "MOST_LETTERS"=some (.int 8 t))(m_LETTERS:∃t,mg "LETTERS"=some (.str abcL t)):FnOk P w K mg base CX0 (k+1) f fd ["thing"] (spIsVar):=by
 refine F.okQ zeO (by rintro _ _ _ _ ⟨_,_,rfl,_⟩;rfl) fun _ _ _ _ H vs Q E hr h=>?_
 obtain⟨v,t,rfl,rt,sm,q⟩:=h
 refine⟨_,(zd (zE (PW.pt (Z6 (ZA (zX (zj zP rfl m_isi zQ (za (pv 0) (za (ZP rfl m_str ZI) zb))))) (ZF (ZA (zdH ziw ziw ze (zj zB rfl m_len tF (za (pv 0) zb)) (Zz rfl m_MOST_LETTERS)))))) (zf (zl Z5)) zq)
  (zf (zl (zj (ZD rfl) rfl m_all za1 (za (zN [] [] rfl rfl (by decide +kernel) rfl (by decide +kernel) rfl (by decide +kernel) trivial rfl trivial (ze4 (pv 0)) (fun C s H fp=>⟨zM,(zJ zct (pv 0) (zbP rfl m_LETTERS) (by rfl))⟩)) zb))))),nm2 ?_⟩
 intros
 cases rt with
 |non=>exact⟨_,rfl,_,_,_,_,rfl,.non,ze8,_,rfl,iteT (q _ (Sr _))⟩
 |bl b=>exact⟨_,rfl,_,_,_,_,rfl,.bl b,ze7,_,rfl,iteT (q _ (Sr _))⟩
 |num i=>exact⟨_,rfl,_,_,_,_,rfl,.int i,ze6,_,rfl,iteT (q _ (Sr _))⟩
 |tup e _ _=>exact⟨_,rfl,_,_,_,_,rfl,.tup e,ze5,_,rfl,iteT (q _ (Sr _))⟩
 |lst e=>exact⟨_,rfl,_,_,_,_,rfl,.lst e,ze9,_,rfl,iteT (q _ (Sr _))⟩
 |dic e=>exact⟨_,rfl,_,_,_,_,rfl,.dK e,zfa,_,rfl,iteT (q _ (Sr _))⟩
 |txt z=>
 have hsm:z.length<=100000:=sm
 refine⟨_,rfl,_,_,_,_,rfl,.str z,zdl,_,rfl,iteF ?_⟩
 refine⟨_,rfl,_,_,rfl,⟨yQ hsm (by decide),rfl⟩,_,_,rfl,rfl,_,rfl,?_⟩
 by_cases h1:1<=z.length
 rotate_left
 ·rw[decide_eq_false (show ¬(1:Int)<=(z.length:Int) by lia)]
  have hq:Zk (.txt z)=false:=by show (decide (1<=z.length)&&_)=false;rw[decide_eq_false h1];rfl
  rw[hq] at q
  exact iteF ⟨_,rfl,iteT (q _ (Sr _))⟩
 rw[decide_eq_true (show (1:Int)<=(z.length:Int) by lia)]
 refine iteT ⟨_,_,rfl,rfl,_,rfl,?_⟩
 by_cases h2:z.length<=8
 rotate_left
 ·rw[decide_eq_false (show ¬(z.length:Int)<=8 by lia)]
  have hq:Zk (.txt z)=false:=by show (_&&(decide (z.length<=8)&&_))=false;rw[decide_eq_false h2];simp
  rw[hq] at q
  exact iteT (q _ (Sr _))
 rw[decide_eq_true (show (z.length:Int)<=8 by lia)]
 refine iteF ?_
 have hq:Zk (.txt z)=z.cps.toList.all letB:=by show (decide (1<=z.length)&&(decide (z.length<=8)&&_))=_;rw[decide_eq_true h1,decide_eq_true h2];rfl
 rw[hq] at q
 have hsz:z.cps.size=z.length:=rfl
 dsimp +zetaDelta only [zit,tRet,tOp,tC,tCB,ZY,tNil]
 refine zfy (z.cps.toList.map fun c=>V.bl (letB c)) (by rfl) (by rw[yA];simp) (by rw[hsz];exact small (by lia)) (fun i c y H1 R hc hy s1 hR=>?_) (fun H1 D s1 hD=>?_)
 ·have hc':z.cps.toList[i]?=some c:=by simpa using hc
  rw[yN,hc'] at hy
  cases hy
  refine⟨_,rfl,_,_,rfl,rfl,?_⟩
  rw[show (!(Builtin.Str.occurrences abcL ⟨#[c]⟩ 0 abcL.length 1).isEmpty)=letB c from StrLaws.found_one abcL c]
  exact hR _ (Sr _)
 ·refine⟨D,z.cps.toList.map letB,rfl,Sl ?_,?_⟩
  ·rw[zc,xN];rfl
  ·rw[show ((z.cps.toList.map letB).all id)=z.cps.toList.all letB by rw[vS];rfl]
   exact q _ (s1.trans (Sn hD))
theorem zbD:FnScope ["names"] ["names"] (zi ZL):=mkSc rfl (by decide +kernel)
theorem zbE(F:Fun K "are_good_variables" "are_good_variables" ZL f fd)(G_is_variable:Have P w K mg base "is_variable" k ["thing"] (spIsVar))(m_all:mg "all"=none)(m_len:mg "len"=none):FnOk P w K mg base CX0 (k+1) f fd ["names"] (spGoodV):=by
 refine F.okQ zbD (by rintro _ _ _ _ ⟨_,_,_,rfl,_⟩;rfl) fun _ _ _ _ H vs Q E hr h=>?_
 obtain⟨a,us,ts,rfl,ha,hrt,hsm,hl,q⟩:=h
 refine⟨_,(zd (zE (ZA (zX (zj (ZD rfl) rfl m_all za1 (za (zN [] [] rfl rfl (by decide +kernel) rfl (by decide +kernel) rfl (by decide +kernel) trivial rfl trivial (zaq (pv 0)) (fun C s H fp=>⟨zM,(zo G_is_variable hr rfl (za (pv 0) zb))⟩)) zb)))) (zf (zl Z5)) zq)
  (zf (zl (zk0 (zJ zgf (zj zB rfl m_len tF (za (pv 0) zb)) ze (nomark _)) (ZG (zJ zaz (zz zw (pv 0) ze (fun _ _=>rfl)) (zz zw (pv 0) ze (fun _ _=>rfl)) (nomark _))))))),nm2 ?_⟩
 intros
 have hul:=hrt.1
 dsimp +zetaDelta only [zit,tRet,tOp,tC,tCB,ZY,tNil,tB,tNot,tIfS,tSeq]
 refine zcT (K:=K) (ts.map fun t=>V.bl (Zk t)) (by rfl) (Sq ha) (by rw[yA];exact hul.symm) (yQ (show us.length<=2 by lia) (by decide)) (fun i v y H1 R hv' hy s1 hR=>?_) (fun H1 D s1 hD=>?_)
 ·rw[yN] at hy
  obtain⟨t,ht,rfl⟩:=xV.mp hy
  exact⟨_,rfl,v,t,rfl,(hrt.2 i v t hv' ht).mono s1,zhd hsm t (xB ht),fun H2 s2=>hR H2 s2⟩
 ·have s2:=s1.trans (Sn (o:=.lst (ts.map fun t=>V.bl (Zk t))) hD)
  refine⟨D,ts.map Zk,rfl,Sl (by rw[zc,xN];rfl),_,rfl,?_⟩
  have ha2:=s2 _ _ ha
  cases hall:(ts.map Zk).all id with
  |false=>
   have hq:zei ts=false:=by
    match ts,hl with
    |[],_=>cases hall
    |[t],_=>simpa [zei] using hall
    |[t,t2],_=>
     have hall':(Zk t&&(Zk t2&&true))=false:=hall
     rw[wU] at hall'
     cases t with
     |txt x=>
      cases t2 with
      |txt y=>
       show (Zk (.txt x)&&(Zk (.txt y)&&_))=false
       rw[←uF,hall'];rfl
      |_=>rfl
     |_=>cases t2<;>rfl
   rw[hq] at q
   exact iteT (q _ s2)
  |true=>
   refine iteF ⟨_,rfl,_,_,rfl,.inr ⟨_,Sq ha2,rfl⟩,_,_,rfl,rfl,_,rfl,?_⟩
   match ts,hl,hul,hrt,hall,q with
   |[],_,hul,_,_,q=>
    have:us.length=0:=hul
    rw[this]
    exact iteT (q _ s2)
   |[t],_,hul,_,hall,q=>
    have:us.length=1:=hul
    rw[this]
    have hv:Zk t=true:=by simpa using hall
    rw[show zei [t]=Zk t by cases t<;>rfl,hv] at q
    exact iteT (q _ s2)
   |[t,t2],_,hul,hrt,hall,q=>
    have hlu:us.length=2:=hul
    obtain⟨v0,v1,rfl⟩:∃a b,us=[a,b]:=match us,hlu with|[a,b],_=>⟨a,b,rfl⟩
    have hv:Zk t=true/\Zk t2=true:=by simpa using hall
    obtain⟨x,rfl,hx⟩:=zbU hv.1
    obtain⟨y,rfl,hy⟩:=zbU hv.2
    have r0:=hrt.2 0 v0 _ rfl rfl
    have r1:=hrt.2 1 v1 _ rfl rfl
    cases r0
    cases r1
    rw[show zei [.txt x,.txt y]=decide (x≠y) by show (Zk (.txt x)&&(Zk (.txt y)&&decide (x≠y)))=_;rw[hv.1,hv.2];rfl] at q
    refine iteF ⟨_,rfl,a,_,0,_,rfl,rfl,Sq ha2,zS (j:=0) rfl,_,rfl,a,_,1,_,rfl,rfl,Sq ha2,zS (j:=1) rfl,rfl,?_⟩
    rw[show (!decide (V.str x=V.str y))=decide (x≠y) by rw[xF];simp]
    exact q _ s2
theorem znh{X:Cx}(hu:X.A.units+64<cLine):OpR X (tM .Eq) (fun x y H Q=>∃(a b:Addr)(vs:List V),x=.ref a/\y=.ref b/\SqT X.K H a vs/\SqT X.K H b []/\Q (.bl vs.isEmpty) H):=by
 intro zp s σ H x y v u Q I rx ry h
 obtain⟨a,b,vs,rfl,rfl,e,e2,q⟩:=h
 have hu0:X.A.units<cLine:=by lia
 cases rx
 cases ry
 obtain⟨its,rv,p,_⟩:=I.tuple e
 obtain⟨its2,rv2,p2,_⟩:=I.tuple e2
 have h2:its2=[]:=yR.mp rv2.length.symm
 subst h2
 have hb:((wK (min its.toArray.size (#[]:Array Value).size)).all (fun _=>true)&&its.toArray.size==(#[]:Array Value).size)=vs.isEmpty:=by
  have:=rv.length
  cases its with
  |nil=>rw[yR.mp (show vs.length=0 from this)];rfl
  |cons x r=>cases vs with
   |nil=>cases this
   |cons y l=>rfl
 have fin:EP X zp σ Q (.bool vs.isEmpty) s:=⟨.bl _,H,I,rfl,q⟩
 rw[←hb] at fin
 exact SeqAt.RcAt.tuples (e:=fun _=>true) p p2 hu0 (fun j h1 h2=>absurd h2 (vF _)) _ _ _ _ fin
def woAt(z:Str):Option Wo:=zed.find? fun d=>decide (woS d=z)
theorem zh7(d:Wo):woAt (woS d)=some d:=by cases d<;>rfl
theorem zaH{d d':Wo}(h:woS d=woS d'):d=d':=by
 have:=congrArg woAt h
 rw[zh7,zh7] at this
 exact Option.some.inj this
theorem zh8(d:Wo)(h1:wLit d=false)(h2:wVar d=false)(h3:zbo d=false):valV kvsP (.inr (woS d))=some (.int (pcnt d)):=by
 cases d
 case lit=>simp[wLit] at h1
 case var=>simp[wVar] at h2
 case list=>simp[zbo] at h3
 all_goals rfl
theorem zkq:∀kv∈kvsP,∃d,kv.1=Sum.inr (woS d):=by
 have:kvsP.map (·.1)=[Wo.letw,.ifw,.add,.sub,.mul,.div,.same,.less,.join,.item,.count,.figs,.each,.over,.look,.elsew,.cry].map fun d=>(Sum.inr (woS d):Key):=rfl
 intro kv hkv
 have h:=List.mem_map_of_mem (f:=(·.1)) hkv
 rw[this] at h
 obtain⟨d,_,hd⟩:=yX.mp h
 exact⟨d,hd.symm⟩
theorem zkr{z:Str}(h:∀d,z≠woS d):valV kvsP (.inr z)=none:=by
 unfold valV
 rw[List.find?_eq_none.mpr fun kv hkv=>?_]
 ·rfl
 ·obtain⟨d,hd⟩:=zkq kv hkv
  rw[hd]
  simp only[decide_eq_true_eq]
  exact fun e=>h d (Sum.inr.inj e).symm
inductive F1:T->List T->Prop where
 |lit {x:T}:zI x=true->F1 (.tup [.txt "lit",x]) []
 |var {s:Str}:Vr s->F1 (.tup [.txt "var",.txt s]) []
 |op {d:Wo}{bs:List Str}{ts:List T}:wLit d=false->wVar d=false->bs.length=bcnt d->(∀z∈bs,Vr z)->bs.Nodup->Cnt d ts.length->F1 (.tup (.txt (woS d)::(bs.map T.txt++ts))) ts
theorem F1.tup{t:T}{ps:List T}(h:F1 t ps):∃z ts,t=.tup (.txt z::ts):=by cases h<;>exact⟨_,_,rfl⟩
theorem F1.inv{z:Str}{ts ps:List T}(h:F1 (.tup (.txt z::ts)) ps):∃d,z=woS d/\((d=.lit/\ps=[]/\∃x,ts=[x]/\zI x=true)\/(d=.var/\ps=[]/\∃s,ts=[.txt s]/\Vr s)\/(wLit d=false/\wVar d=false/\∃bs:List Str,ts=bs.map T.txt++ps/\bs.length=bcnt d/\(∀z∈bs,Vr z)/\bs.Nodup/\Cnt d ps.length)):=by
 generalize he:T.tup (.txt z::ts)=t at h
 cases h with
 |lit hx=>
  injection he with he
  injection he with h1 h2
  injection h1 with h1
  exact⟨.lit,h1,.inl ⟨rfl,rfl,_,h2,hx⟩⟩
 |var hs=>
  injection he with he
  injection he with h1 h2
  injection h1 with h1
  exact⟨.var,h1,.inr (.inl ⟨rfl,rfl,_,h2,hs⟩)⟩
 |op a b c d e f=>
  injection he with he
  injection he with h1 h2
  injection h1 with h1
  exact⟨_,h1,.inr (.inr ⟨a,b,_,h2,c,d,e,f⟩)⟩
inductive spHasForm(vs:List V)(H:Hp)(Q:VK)(z3:XK):Prop
 |mk (v:V) (t:T) (_:vs=[v]) (_:RT H v t) (_:t.Sm) (_:∀(b:Bool)(H':Hp),Same H H'->(b=true->∃ts,F1 t ts)->(b=false->∀ts,¬F1 t ts)->Q (.bl b) H')
noncomputable def zmp:T->Bool
 |.txt _=>true
 |_=>false
theorem RT.ty{K:tU}{H:Hp}{v:V}{t:T}(h:RT H v t):∃A,TyOf K H v (.type A)/\isi A "str"=some (zmp t):=by
 cases h with
 |non=>exact⟨_,.non,ze8⟩
 |bl b=>exact⟨_,.bl b,ze7⟩
 |num i=>exact⟨_,.int i,ze6⟩
 |txt z=>exact⟨_,.str z,zdl⟩
 |tup e _ _=>exact⟨_,.tup e,ze5⟩
 |lst e=>exact⟨_,.lst e,ze9⟩
 |dic e=>exact⟨_,.dK e,zfa⟩
theorem zfh{ts:List T}(hl:ts.length<=2):zei ts=true ↔ ∃bs:List Str,ts=bs.map T.txt/\(∀z∈bs,Vr z)/\bs.Nodup:=by
 match ts,hl with
 |[],_=>exact⟨fun _=>⟨[],rfl,(fun z h=>nomatch h),uH⟩,fun _=>rfl⟩
 |[t],_=>
  rw[show zei [t]=Zk t by cases t<;>rfl]
  constructor
  ·intro h
   obtain⟨z,rfl,hz⟩:=zbU h
   exact⟨[z],rfl,fun y hy=>by rw[yH.mp hy];exact hz,by simp⟩
  ·rintro⟨bs,e,hv,_⟩
   match bs,e with
   |[z],e=>cases e;exact ZE.mpr (hv z (by simp))
 |[t,t2],_=>
  constructor
  ·intro h
   cases t with
   |txt x=>
    cases t2 with
    |txt y=>
     have h:(Zk (.txt x)&&(Zk (.txt y)&&decide (x≠y)))=true:=h
     rw[yZ,yZ,decide_eq_true_iff] at h
     refine⟨[x,y],rfl,fun z hz=>?_,by simp[h.2.2]⟩
     simp only[yG,xT,or_false] at hz
     rcases hz with rfl|rfl
     ·exact ZE.mp h.1
     ·exact ZE.mp h.2.1
    |_=>cases h
   |_=>cases t2<;>cases h
  ·rintro⟨bs,e,hv,hn⟩
   match bs,e with
   |[x,y],e=>
    cases e
    show (Zk (.txt x)&&(Zk (.txt y)&&decide (x≠y)))=true
    rw[ZE.mpr (hv x (by simp)),ZE.mpr (hv y (by simp)),decide_eq_true (by simpa using hn)]
    rfl
theorem zej:FnScope ["thing","word"] ["thing"] (zi zcW):=mkSc rfl (by decide +kernel)
theorem zhp(F:Fun K "has_form" "has_form" zcW f fd)(G_are_good_variables:Have P w K mg base "are_good_variables" k ["names"] (spGoodV))(G_variables_of:Have P w K mg base "variables_of" k ["expression"] (spVarsOf))(G_binding_count:Have P w K mg base "binding_count" k ["word"] (spBCount))(G_is_variable:Have P w K mg base "is_variable" k ["thing"] (spIsVar))(G_is_worth:Have P w K mg base "is_worth" k ["thing"] (spIsWorth))(m_isi:mg "isinstance"=none)(m_len:mg "len"=none)(m_str:mg "str"=none)(m_tuple:mg "tuple"=none)(m_MOST_LISTED:∃t,mg "MOST_LISTED"=some (.int 8 t)){g_PARTS:Addr}(m_PARTS:mg "PARTS"=some (.ref g_PARTS))(d_PARTS:MD P w K g_PARTS kvsP):FnOk P w K mg base CX0 (k+1) f fd ["thing"] (spHasForm):=by
 refine F.okQ zej (by rintro _ _ _ _ ⟨_,_,rfl,_⟩;rfl) fun _ _ _ _ H vs Q E hr h=>?_
 obtain⟨v,t,rfl,rt,sm,q⟩:=h
 refine⟨_,(zd (zE (PW.pt (Z6 (ZA (zX (zj zP rfl m_isi zQ (za (pv 0) (za (ZP rfl m_tuple zC) zb))))) (Z6 (zk (znh hr.units) (pv 0) (zy zb) (nomark _)) (ZF (ZA (zX (zj zP rfl m_isi zQ (za (zz zw (pv 0) ze (fun _ _=>rfl)) (za (ZP rfl m_str ZI) zb))))))))) (zf (zl Z5)) zq)
  (zd (zm (i:=1) zej.nd rfl (Or.inl rfl) (zz zw (pv 0) ze (fun _ _=>rfl)))
  (zd (zE (zk zY (pv 1) zg (nomark _)) (zf (zl (Zt (zJ zY (zj zB rfl m_len tF (za (pv 0) zb)) ze (nomark _)) (ZG (zo G_is_worth hr rfl (za (zz zw (pv 0) ze (fun _ _=>rfl)) zb)))))) zq)
  (zd (zE (zk zY (pv 1) zg (nomark _)) (zf (zl (Zt (zJ zY (zj zB rfl m_len tF (za (pv 0) zb)) ze (nomark _)) (ZG (zo G_is_variable hr rfl (za (zz zw (pv 0) ze (fun _ _=>rfl)) zb)))))) zq)
  (zd (zE (zk zY (pv 1) zg (nomark _)) (zf (zl (zJ ziw (zj zB rfl m_len tF (za (pv 0) zb)) (zu Zj ze (Zz rfl m_MOST_LISTED)) (nomark _)))) zq)
  (zd (zE (PW.pt (Z6 (zk zjZ (pv 1) (zam (v:=.ref g_PARTS) rfl m_PARTS rfl) (by rfl)) (ZF (zk zaz (zj zB rfl m_len tF (za (pv 0) zb)) (zu Zj (zu Zj ze (zo G_binding_count hr rfl (za (pv 1) zb))) (zz zoe (zam (v:=.ref g_PARTS) rfl m_PARTS rfl) (pv 1) (fun _ _=>rfl))) (nomark _))))) (zf (zl Z5)) zq)
  (zf (zl (zo G_are_good_variables hr rfl (za (zo G_variables_of hr rfl (za (pv 0) zb)) zb)))))))))),nm7 ?_⟩
 intros
 have no:(∀ts,t≠.tup ts)->∀H',Same H H'->Q (.bl false) H':=fun hn H' s=>q false H' s (fun z=>nomatch z) (fun _ ps hf=>by obtain⟨z,ts,e⟩:=hf.tup;exact hn _ e)
 cases rt with
 |non=>exact⟨_,rfl,_,_,_,_,rfl,.non,zcA,_,rfl,iteT (no (fun ts z=>nomatch z) _ (Sr _))⟩
 |bl b=>exact⟨_,rfl,_,_,_,_,rfl,.bl b,zcz,_,rfl,iteT (no (fun ts z=>nomatch z) _ (Sr _))⟩
 |num i=>exact⟨_,rfl,_,_,_,_,rfl,.int i,zb1,_,rfl,iteT (no (fun ts z=>nomatch z) _ (Sr _))⟩
 |txt i=>exact⟨_,rfl,_,_,_,_,rfl,.str i,zb2,_,rfl,iteT (no (fun ts z=>nomatch z) _ (Sr _))⟩
 |lst e=>exact⟨_,rfl,_,_,_,_,rfl,.lst e,zcB,_,rfl,iteT (no (fun ts z=>nomatch z) _ (Sr _))⟩
 |dic e=>exact⟨_,rfl,_,_,_,_,rfl,.dK e,zcC,_,rfl,iteT (no (fun ts z=>nomatch z) _ (Sr _))⟩
 | @tup a us ts ea hul hat=>
 clear no
 refine⟨_,rfl,_,_,_,_,rfl,.tup ea,zbt,_,rfl,iteF ?_⟩
 refine⟨_,rfl,zl0,fun e he=>?_⟩
 have s1:=Sn (o:=.tup []) he
 have ea1:=s1 _ _ ea
 have ee:upd H e (.tup []) e=some (.tup []):=zc
 generalize upd H e (.tup [])=H1 at s1 ea1 ee
 refine⟨a,e,us,rfl,rfl,Sq ea1,Sq ee,_,rfl,?_⟩
 have sm:ts.length<=100000/\Sms ts:=sm
 cases ts with
 |nil=>
  have hu0:us=[]:=yR.mp hul
  subst hu0
  exact iteT (q false _ s1 (fun z=>nomatch z) (fun _ ps hf=>by obtain⟨z,ts,e⟩:=hf.tup;injection e with e;cases e))
 |cons t0 ts=>
 cases us with
 |nil=>cases hul
 |cons v0 us=>
 have hul':us.length=ts.length:=by simpa using hul
 have r0:RT H v0 t0:=hat 0 v0 t0 rfl rfl
 have hrt:RTs H us ts:=⟨hul',fun i v t h1 h2=>hat (i+1) v t (by simpa using h1) (by simpa using h2)⟩
 clear hat
 refine iteF ?_
 obtain⟨A0,ty0,is0⟩:=(r0.mono s1).ty (K:=K)
 refine⟨_,rfl,a,_,0,_,rfl,rfl,Sq ea1,zS (j:=0) rfl,_,_,_,_,rfl,ty0,is0,_,rfl,?_⟩
 cases hx:zmp t0 with
 |false=>
  exact iteT (q false _ s1 (fun z=>nomatch z) (fun _ ps hf=>by obtain⟨z,ts,e⟩:=hf.tup;injection e with e;injection e with e _;rw[e] at hx;cases hx))
 |true=>
 obtain⟨z,rfl⟩:∃z,t0=.txt z:=by
  cases t0 with
  |txt z=>exact⟨z,rfl⟩
  |_=>cases hx
 cases r0
 refine iteF ?_
 refine⟨_,rfl,a,_,0,_,rfl,rfl,Sq ea1,zS (j:=0) rfl,?_⟩
 dsimp only[zW]
 have q':∀(b:Bool)(H':Hp),Same H1 H'->(b=true->∃ps,F1 (.tup (.txt z::ts)) ps)->(b=false->∀ps,¬F1 (.tup (.txt z::ts)) ps)->Q (.bl b) H':=fun b H' s h1 h2=>q b H' (s1.trans s) h1 h2
 have hrt1:=hrt.mono s1
 by_cases hz:∃d,z=woS d
 rotate_left
 ·have hz':∀d,z≠woS d:=fun d e=>hz ⟨d,e⟩
  refine⟨_,rfl,rfl,_,rfl,?_⟩
  rw[show decide (V.str z=V.str (uV "lit"))=false from decide_eq_false fun e=>hz' .lit (V.str.inj e)]
  refine iteF ⟨_,rfl,rfl,_,rfl,?_⟩
  rw[show decide (V.str z=V.str (uV "var"))=false from decide_eq_false fun e=>hz' .var (V.str.inj e)]
  refine iteF ⟨_,rfl,rfl,_,rfl,?_⟩
  rw[show decide (V.str z=V.str (uV "list"))=false from decide_eq_false fun e=>hz' .list (V.str.inj e)]
  refine iteF ⟨_,rfl,g_PARTS,kvsP,.inr z,rfl,rfl,d_PARTS,_,rfl,?_⟩
  rw[zkr hz']
  exact iteT (q' false _ (Sr _) (fun z=>nomatch z) (fun _ ps hf=>by obtain⟨d,e,_⟩:=hf.inv;exact hz' d e))
 obtain⟨d,rfl⟩:=hz
 refine⟨_,rfl,rfl,_,rfl,?_⟩
 rw[show uV "lit"="lit" from rfl,zi1]
 have smts:Sms ts:=sm.2.2
 have len2:us.length≠1->decide (V.int (((V.str (woS d)::us).length:Nat):Int)=V.int 2)=false:=fun h=>decide_eq_false fun e=>by
  injection e with e
  rw[yF] at e
  lia
 have no:(∀ps,¬F1 (.tup (.txt (woS d)::ts)) ps)->∀H',Same H1 H'->Q (.bl false) H':=fun h H' s=>q' false H' s (fun z=>nomatch z) (fun _=>h)
 cases hlit:wLit d with
 |true=>
  obtain rfl:d=.lit:=by cases d<;>first|rfl|cases hlit
  refine iteT ⟨_,rfl,_,_,rfl,.inr ⟨_,Sq ea1,rfl⟩,rfl,_,rfl,?_⟩
  have inv:∀ps,F1 (.tup (.txt (woS .lit)::ts)) ps->∃x,ts=[x]/\zI x=true:=fun ps hf=>by
   obtain⟨d,e,h⟩:=hf.inv
   obtain rfl:=zaH e
   rcases h with⟨_,_,h⟩|⟨h,_⟩|⟨h,_⟩
   ·exact h
   ·cases h
   ·cases h
  by_cases hl:us.length=1
  ·obtain⟨v1,rfl⟩:∃a,us=[a]:=match us,hl with|[a],_=>⟨a,rfl⟩
   obtain⟨t1,rfl⟩:∃a,ts=[a]:=match ts,hul' with|[a],_=>⟨a,rfl⟩
   refine iteT ⟨_,rfl,a,_,1,_,rfl,rfl,Sq ea1,zS (j:=1) rfl,v1,t1,rfl,hrt1.2 0 _ _ rfl rfl,smts.1,fun H2 s2=>?_⟩
   refine q' _ H2 s2 (fun h=>⟨[],.lit h⟩) (fun h ps hf=>?_)
   obtain⟨x,e,hx⟩:=inv ps hf
   cases e
   rw[h] at hx
   cases hx
  ·rw[len2 hl]
   refine iteF (no (fun ps hf=>?_) _ (Sr _))
   obtain⟨x,rfl,_⟩:=inv ps hf
   exact hl hul'
 |false=>
 refine iteF ⟨_,rfl,rfl,_,rfl,?_⟩
 rw[show uV "var"="var" from rfl,zkk]
 cases hvar:wVar d with
 |true=>
  obtain rfl:d=.var:=by cases d<;>first|rfl|cases hvar
  refine iteT ⟨_,rfl,_,_,rfl,.inr ⟨_,Sq ea1,rfl⟩,rfl,_,rfl,?_⟩
  have inv:∀ps,F1 (.tup (.txt (woS .var)::ts)) ps->∃s,ts=[.txt s]/\Vr s:=fun ps hf=>by
   obtain⟨d,e,h⟩:=hf.inv
   obtain rfl:=zaH e
   rcases h with⟨h,_⟩|⟨_,_,h⟩|⟨_,h,_⟩
   ·cases h
   ·exact h
   ·cases h
  by_cases hl:us.length=1
  ·obtain⟨v1,rfl⟩:∃a,us=[a]:=match us,hl with|[a],_=>⟨a,rfl⟩
   obtain⟨t1,rfl⟩:∃a,ts=[a]:=match ts,hul' with|[a],_=>⟨a,rfl⟩
   refine iteT ⟨_,rfl,a,_,1,_,rfl,rfl,Sq ea1,zS (j:=1) rfl,v1,t1,rfl,hrt1.2 0 _ _ rfl rfl,smts.1,fun H2 s2=>?_⟩
   refine q' _ H2 s2 (fun h=>?_) (fun h ps hf=>?_)
   ·obtain⟨z,rfl,hz⟩:=zbU h
    exact⟨[],.var hz⟩
   ·obtain⟨z,e,hz⟩:=inv ps hf
    cases e
    rw[ZE.mpr hz] at h
    cases h
  ·rw[len2 hl]
   refine iteF (no (fun ps hf=>?_) _ (Sr _))
   obtain⟨x,rfl,_⟩:=inv ps hf
   exact hl hul'
 |false=>
 have inv:∀ps,F1 (.tup (.txt (woS d)::ts)) ps->∃bs:List Str,ts=bs.map T.txt++ps/\bs.length=bcnt d/\(∀z∈bs,Vr z)/\bs.Nodup/\Cnt d ps.length:=fun ps hf=>by
  obtain⟨d',e,h⟩:=hf.inv
  obtain rfl:=zaH e
  rcases h with⟨h,_⟩|⟨h,_⟩|⟨_,_,h⟩
  ·rw[h] at hlit;cases hlit
  ·rw[h] at hvar;cases hvar
  ·exact h
 refine iteF ⟨_,rfl,rfl,_,rfl,?_⟩
 rw[show uV "list"="list" from rfl,zkn]
 cases hli:zbo d with
 |true=>
  have hb0:bcnt d=0:=by cases d<;>first|rfl|(simp[zbo] at hli;done)
  refine iteT ⟨_,rfl,_,_,rfl,.inr ⟨_,Sq ea1,rfl⟩,_,_,rfl,rfl,_,_,rfl,rfl,?_⟩
  show Q (V.bl (decide ((((V.str (woS d)::us).length:Nat):Int)<=1+8))) _
  refine q' _ _ (Sr _) (fun h=>⟨ts,?_⟩) (fun h ps hf=>?_)
  ·have h:=of_decide_eq_true h
   rw[yF] at h
   exact F1.op (bs:=[]) hlit hvar hb0.symm (fun z h=>nomatch h) uH ⟨fun _=>by lia,fun z=>by rw[hli] at z;cases z⟩
  ·obtain⟨bs,rfl,h1,_,_,h5⟩:=inv ps hf
   have h:=of_decide_eq_false h
   rw[yF] at h
   have h8:=h5.1 hli
   rw[yC,yA] at hul'
   lia
 |false=>
 refine iteF ⟨_,rfl,g_PARTS,kvsP,.inr (woS d),rfl,rfl,d_PARTS,_,rfl,?_⟩
 rw[zh8 d hlit hvar hli]
 refine iteF ⟨_,rfl,_,_,rfl,.inr ⟨_,Sq ea1,rfl⟩,?_⟩
 refine⟨_,rfl,d,rfl,_,_,rfl,rfl,_,rfl,g_PARTS,kvsP,.inr (woS d),_,rfl,rfl,d_PARTS,zh8 d hlit hvar hli,_,_,rfl,rfl,rfl,_,rfl,?_⟩
 show if (!decide (V.int (((V.str (woS d)::us).length:Nat):Int)=V.int (1+(bcnt d:Int)+(pcnt d:Int))))=true then _ else _
 by_cases hl:us.length=bcnt d+pcnt d
 ·have en:(!decide (V.int (((V.str (woS d)::us).length:Nat):Int)=V.int (1+(bcnt d:Int)+(pcnt d:Int))))=false:=by rw[decide_eq_true (congrArg V.int (by rw[yF,hl];lia))];rfl
  rw[en]
  have hb2:=zcm d
  have esp:us=us.take (bcnt d)++us.drop (bcnt d):=(wM _ _).symm
  have ht2:(ts.take (bcnt d)).length<=2:=by rw[yY];lia
  have ea2:H1 a=some (.tup (V.str (woS d)::(us.take (bcnt d)++us.drop (bcnt d)))):=by rw[←esp];exact ea1
  refine iteF ⟨_,rfl,a,d,us.take (bcnt d),us.drop (bcnt d),rfl,ea2,by rw[yY];lia,fun p H2 s2 ep=>⟨p,us.take (bcnt d),ts.take (bcnt d),rfl,ep,⟨by rw[yY,yY];lia,fun i v t h1 h2=>?_⟩,?_,ht2,fun H3 s3=>q' _ H3 (s2.trans s3) (fun h=>?_) (fun h ps hf=>?_)⟩⟩
  ·rw[List.getElem?_take] at h1 h2
   split at h1
   ·rename_i hi
    rw[if_pos hi] at h2
    exact (hrt1.2 i v t h1 h2).mono s2
   ·cases h1
  ·have:∀(n:Nat)(l:List T),Sms l->Sms (l.take n):=fun n=>by
    induction n with
    |zero=>intro l _;rw[List.take_zero];trivial
    |succ n ih=>
     intro l h
     cases l with
     |nil=>trivial
     |cons x r=>exact⟨h.1,ih r h.2⟩
   exact this _ _ smts
  ·obtain⟨bs,e,hv,hn⟩:=(zfh ht2).mp h
   have hbl:bs.length=bcnt d:=by
    have:=congrArg List.length e
    rw[yY,yA] at this
    lia
   refine⟨ts.drop (bcnt d),?_⟩
   have:=F1.op (d:=d) (bs:=bs) (ts:=ts.drop (bcnt d)) hlit hvar hbl hv hn ⟨fun z=>(by rw[hli] at z;cases z),fun _=>(by rw[vD];lia)⟩
   rw[←e,wM] at this
   exact this
  ·obtain⟨bs,rfl,h1,h2,h3,_⟩:=inv ps hf
   rw[List.take_left' (by rw[yA];exact h1)] at h
   rw[(zfh (by rw[yA];lia)).mpr ⟨bs,rfl,h2,h3⟩] at h
   cases h
 ·have en:(!decide (V.int (((V.str (woS d)::us).length:Nat):Int)=V.int (1+(bcnt d:Int)+(pcnt d:Int))))=true:=by
   rw[decide_eq_false fun e=>hl (by injection e with e;rw[yF] at e;lia)];rfl
  rw[en]
  refine iteT (no (fun ps hf=>?_) _ (Sr _))
  obtain⟨bs,rfl,h1,_,_,h5⟩:=inv ps hf
  have h6:=h5.2 hli
  rw[yC,yA] at hul'
  lia
theorem zlO{x:Str}(h:za0 x=true):Signs x:=fun c hc=>by
 have:=xY.mp h c hc
 unfold zc5 at this
 simp only[yZ,decide_eq_true_eq] at this
 exact⟨this.1,this.2.1,this.2.2.1,this.2.2.2⟩
mutual
theorem zmq:∀(t:T)(lv:Int),zcF t lv=true->∃x:W,t=x.toT/\x.Ok/\(x.depth:Int)<=max lv 0
 |.num i,lv,h=>⟨.num i,rfl,(of_decide_eq_true h:-(10 ^ 60)<i/\i<10 ^ 60),by show ((0:Nat):Int)<=_;lia⟩
 |.txt z,lv,h=>by
  have h:(decide (z.length<=400)&&za0 z)=true:=h
  rw[yZ,decide_eq_true_iff] at h
  exact⟨.txt z,rfl,⟨h.1,zlO h.2⟩,by show ((0:Nat):Int)<=_;lia⟩
 |.tup ts,lv,h=>by
  have h:((decide (ts.length<=60)&&decide (0<lv))&&fitsA ts (lv-1))=true:=h
  rw[yZ,yZ,decide_eq_true_iff,decide_eq_true_iff] at h
  obtain⟨ws,rfl,ok,dp⟩:=fits_ws ts (lv-1) h.2
  have hl:=h.1.1
  rw[zcG] at hl
  refine⟨.lst ws,by simp only[W.toT],⟨hl,ok⟩,?_⟩
  have:=h.1.2
  show ((1+depths ws:Nat):Int)<=_
  lia
 |.non,lv,h=>nomatch h
 |.bl _,lv,h=>nomatch h
 |.lst,lv,h=>nomatch h
 |.dic,lv,h=>nomatch h
theorem fits_ws:∀(ts:List T)(lv:Int),fitsA ts lv=true->∃ws:List W,ts=toTs ws/\Oks ws/\(depths ws:Int)<=max lv 0
 |[],lv,h=>⟨[],by rw[toTs],trivial,by show ((0:Nat):Int)<=_;lia⟩
 |t::r,lv,h=>by
  have h:(zcF t lv&&fitsA r lv)=true:=h
  rw[yZ] at h
  obtain⟨x,rfl,ok,dp⟩:=zmq t lv h.1
  obtain⟨ws,rfl,oks,dps⟩:=fits_ws r lv h.2
  refine⟨x::ws,by rw[toTs],⟨ok,oks⟩,?_⟩
  rw[depths]
  lia
end
theorem zni{t:T}(h:zI t=true):∃x:W,t=x.toT/\x.Ok/\x.size<=1000/\x.depth<=12:=by
 have h:(zcF t 12&&decide (t.size<=1000))=true:=h
 rw[yZ,decide_eq_true_iff] at h
 obtain⟨x,rfl,ok,dp⟩:=zmq t 12 h.1
 exact⟨x,rfl,ok,by rw[←zfG];exact h.2,by lia⟩
mutual
theorem zks:∀x:W,x.Ok->zgw x=true
 |.num i,h=>decide_eq_true ⟨h.1,h.2⟩
 |.txt z,h=>decide_eq_true h.1
 |.lst ws,h=>by
  have h1:ws.length<=60:=h.1
  have h2:Oks ws:=h.2
  simp only[zgw,decide_eq_true h1,fitss_ok ws h2,Bool.and_self]
theorem fitss_ok:∀ws:List W,Oks ws->fitsWs ws=true
 |[],_=>rfl
 |x::r,h=>by simp only[fitsWs,zks x h.1,fitss_ok r h.2,Bool.and_self]
end
theorem zfV{x:W}(h:x.Ok)(hs:x.size<=1000)(hd:x.depth<=12):zI x.toT=true:=by
 rw[zhe (zjY x h)]
 unfold zm2
 rw[zks x h,decide_eq_true hs,decide_eq_true (show (x.depth:Int)<=12 by lia)]
 rfl
theorem RT.toRW{H:Hp}{v:V}{t:T}(h:RT H v t):∀{x:W},t=x.toT->RW H v x:=by
 induction h with
 |non=>intro x e;cases x<;>simp only[W.toT] at e<;>cases e
 |bl b=>intro x e;cases x<;>simp only[W.toT] at e<;>cases e
 |lst _=>intro x e;cases x<;>simp only[W.toT] at e<;>cases e
 |dic _=>intro x e;cases x<;>simp only[W.toT] at e<;>cases e
 |num i=>
  intro x e
  cases x with
  |num j=>simp only[W.toT] at e;cases e;exact .num _
  |_=>simp only[W.toT] at e;cases e
 |txt i=>
  intro x e
  cases x with
  |txt j=>simp only[W.toT] at e;cases e;exact .txt _
  |_=>simp only[W.toT] at e;cases e
 | @tup a vs ts ea hl _ ih=>
  intro x e
  cases x with
  |lst ws=>
   simp only[W.toT] at e
   injection e with e
   subst e
   refine .lst ea (by rw[hl,zcG]) fun i v w hv hw=>?_
   exact ih i v w.toT hv (by rw[zas,yN,hw];rfl) rfl
  |num j=>simp only[W.toT] at e;cases e
  |txt j=>simp only[W.toT] at e;cases e
noncomputable def Rl.toT(r:Rl):T:=r.toW.toT
theorem zdJ:∀ps:List Rl,rlWs ps=ps.map Rl.toW
 |[]=>by rw[rlWs];rfl
 |p::r=>by rw[rlWs,zdJ r];rfl
theorem ZO(x:W):(Rl.lit x).toT=.tup [.txt "lit",x.toT]:=by unfold Rl.toT;rw[Rl.toW];simp only[W.toT,toTs]
theorem zad(s:Str):(Rl.var s).toT=.tup [.txt "var",.txt s]:=by unfold Rl.toT;rw[Rl.toW];simp only[W.toT,toTs]
theorem zaM(d:Wo)(bs:List Str)(ps:List Rl):(Rl.op d bs ps).toT=.tup (.txt (woS d)::(bs.map T.txt++ps.map Rl.toT)):=by
 unfold Rl.toT
 rw[Rl.toW]
 simp only[W.toT,toTs,zas,yK,xN,zdJ]
 congr 3
theorem zkt{r:Rl}(h:r.Gd):F1 r.toT ((zO r).map Rl.toT):=by
 cases r with
 |lit x=>rw[Rl.Gd] at h;rw[ZO];exact .lit (zfV h.1 h.2.1 h.2.2)
 |var s=>rw[Rl.Gd] at h;rw[zad];exact .var h
 |op d bs ps=>
  rw[Rl.Gd] at h
  obtain⟨⟨a,b,c,e,f,g⟩,_⟩:=h
  rw[zaM]
  exact .op a b c e f (by rw[yA];exact g)
theorem F1.fn{t:T}{ps qs:List T}(h:F1 t ps)(h2:F1 t qs):ps=qs:=by
 obtain⟨z,ts,rfl⟩:=h.tup
 obtain⟨d,e,h⟩:=h.inv
 obtain⟨d',e',h2⟩:=h2.inv
 obtain rfl:=zaH (e.symm.trans e')
 rcases h with⟨hd,rfl,_⟩|⟨hd,rfl,_⟩|⟨a1,a2,bs,rfl,a3,_⟩
 ·rcases h2 with⟨_,rfl,_⟩|⟨_,rfl,_⟩|⟨b1,_⟩
  ·rfl
  ·rfl
  ·rw[hd] at b1;cases b1
 ·rcases h2 with⟨_,rfl,_⟩|⟨_,rfl,_⟩|⟨_,b1,_⟩
  ·rfl
  ·rfl
  ·rw[hd] at b1;cases b1
 ·rcases h2 with⟨hd,_⟩|⟨hd,_⟩|⟨_,_,bs',e2,b3,_⟩
  ·rw[hd] at a1;cases a1
  ·rw[hd] at a2;cases a2
  ·exact (List.append_inj e2 (by rw[yA,yA,a3,b3])).2
inductive FA:List (T×Int)->Nat->Prop where
 |nil:FA [] 0
 |cons {lv:Int}{ps:List (T×Int)}{n:Nat} (r:Rl):r.Gd->lv+r.high<=12->FA ps n->FA ((r.toT,lv)::ps) (r.many+n)
theorem FA.app{a b:List (T×Int)}{n m:Nat}(h:FA a n)(g:FA b m):FA (a++b) (n+m):=by
 induction h with
 |nil=>rw[Nat.zero_add];exact g
 |cons r h1 h2 _ ih=>rw[Nat.add_assoc];exact .cons r h1 h2 ih
theorem FA.split:∀{a b:List (T×Int)}{n:Nat},FA (a++b) n->∃n1 n2,FA a n1/\FA b n2/\n=n1+n2
 |[],b,n,h=>⟨0,n,.nil,h,by lia⟩
 |p::a,b,n,h=>by
  cases h with
  |cons r h1 h2 h3=>
   obtain⟨n1,n2,g1,g2,e⟩:=FA.split h3
   exact⟨r.many+n1,n2,.cons r h1 h2 g1,g2,by lia⟩
theorem FA.map{lv:Int}:∀{ps:List Rl},(∀p∈ps,p.Gd/\lv+p.high<=12)->FA (ps.map fun p=>(p.toT,lv)) (manys ps)
 |[],_=>by rw[manys];exact .nil
 |p::r,h=>by
  rw[manys]
  exact .cons p (h p (by simp)).1 (h p (by simp)).2 (FA.map fun q hq=>h q (yM _ hq))
theorem FA.unmap{lv:Int}:∀{ts:List T}{n:Nat},FA (ts.map fun t=>(t,lv)) n->∃ps:List Rl,ts=ps.map Rl.toT/\Gds ps/\n=manys ps/\∀p∈ps,lv+p.high<=12
 |[],n,h=>by cases h;exact⟨[],rfl,by rw[Gds];trivial,by rw[manys],fun p h=>nomatch h⟩
 |t::r,n,h=>by
  rw[yJ] at h
  generalize he:(t,lv)=q at h
  cases h with
  |cons p h1 h2 h3=>
   cases he
   obtain⟨ps,rfl,g,rfl,hh⟩:=FA.unmap h3
   refine⟨p::ps,rfl,by rw[Gds];exact⟨h1,g⟩,by rw[manys],fun q hq=>?_⟩
   rcases yG.mp hq with rfl|hq
   ·exact h2
   ·exact hh q hq
theorem zh9{n:Nat}:∀{ps:List Rl},(∀p∈ps,1+p.high<=n)->highs ps<=n
 |[],_=>by rw[highs];lia
 |p::r,h=>by
  rw[highs]
  have h1:=h p (by simp)
  have h2:=zh9 fun q hq=>h q (yM _ hq)
  lia
theorem FA.step{t:T}{ts:List T}{lv:Int}{n:Nat}(h0:0<=lv)(h:F1 t ts):FA [(t,lv)] n ↔ (lv<=12/\∃m,FA (ts.map fun t=>(t,lv+1)) m/\n=1+m):=by
 constructor
 ·intro g
  generalize he:(t,lv)=q at g
  cases g with
  |cons r g1 g2 g3=>
   cases he
   cases g3
   refine⟨by lia,manys (zO r),?_,by rw[←zhn];lia⟩
   rw[h.fn (zkt g1),xN]
   refine FA.map fun p hp=>⟨zbf g1 p hp,?_⟩
   have:=zbT hp
   have:=zho r
   lia
 ·rintro⟨hlv,m,g,rfl⟩
  have fin:∀r:Rl,t=r.toT->r.Gd->lv+r.high<=12->r.many=1+m->FA [(t,lv)] (1+m):=fun r e g1 g2 g3=>by
   rw[e,←g3]
   exact .cons r g1 g2 .nil
  cases h with
  |lit hx=>
   obtain⟨x,rfl,ok,sz,dp⟩:=zni hx
   cases g
   exact fin (.lit x) (ZO x).symm (by rw[Rl.Gd];exact⟨ok,sz,dp⟩) (by rw[Rl.high];lia) (by rw[Rl.many])
  |var hs=>
   rename_i s
   cases g
   exact fin (.var s) (zad s).symm (by rw[Rl.Gd];exact hs) (by rw[Rl.high];lia) (by rw[Rl.many])
  |op a b c d' e f=>
   rename_i d bs
   obtain⟨ps,rfl,g1,rfl,hh⟩:=FA.unmap g
   rw[yA] at f
   refine fin (.op d bs ps) (zaM d bs ps).symm (by rw[Rl.Gd];exact⟨⟨a,b,c,d',e,f⟩,g1⟩) ?_ (by rw[Rl.many])
   rw[Rl.high]
   have:highs ps<=(12-lv).toNat:=zh9 fun p hp=>by have:=hh p hp;lia
   lia
def Formed(t:T):Prop:=∃r:Rl,t=r.toT/\r.Gd/\r.high<=12/\r.many<=60
def GA(ps:List (T×Int))(whole:Int):Prop:=∃n:Nat,FA ps n/\whole+n<=60
theorem zi5{t:T}:GA [(t,0)] 0 ↔ Formed t:=by
 constructor
 ·rintro⟨n,h,hn⟩
  generalize he:(t,(0:Int))=q at h
  cases h with
  |cons r g1 g2 g3=>
   cases he
   cases g3
   exact⟨r,rfl,g1,by lia,by lia⟩
 ·rintro⟨r,rfl,g1,g2,g3⟩
  exact⟨r.many+0,.cons r g1 (by lia) .nil,by lia⟩
theorem GA.pop{ps:List (T×Int)}{t:T}{lv whole:Int}(h:GA (ps++[(t,lv)]) whole):whole+1<=60/\lv<=12/\∃ts,F1 t ts:=by
 obtain⟨n,g,hn⟩:=h
 obtain⟨n1,n2,_,g2,e⟩:=g.split
 generalize he:(t,lv)=q at g2
 cases g2 with
 |cons r g1 g3 g4=>
  cases he
  have:=zhn r
  exact⟨by lia,by lia,_,zkt g1⟩
theorem GA.go{ps:List (T×Int)}{t:T}{ts:List T}{lv whole:Int}(h0:0<=lv)(hlv:lv<=12)(h:F1 t ts):GA (ps++[(t,lv)]) whole ↔ GA (ps++ts.map fun t=>(t,lv+1)) (whole+1):=by
 constructor
 ·rintro⟨n,g,hn⟩
  obtain⟨n1,n2,g1,g2,e⟩:=g.split
  obtain⟨_,m,g3,e2⟩:=(FA.step h0 h).mp g2
  exact⟨n1+m,g1.app g3,by lia⟩
 ·rintro⟨n,g,hn⟩
  obtain⟨n1,n2,g1,g2,e⟩:=g.split
  exact⟨n1+(1+n2),g1.app ((FA.step h0 h).mpr ⟨hlv,n2,g2,rfl⟩),by lia⟩
theorem F1.len{t:T}{ts:List T}(h:F1 t ts):ts.length<=8:=by
 cases h with
 |lit _=>exact yS _
 |var _=>exact yS _
 |op a b c h4 e f=>
  rename_i d bs
  cases hw:zbo d with
  |true=>exact f.1 hw
  |false=>
   rw[f.2 hw]
   cases d<;>decide
theorem zi6(a b:List T):tnodes (a++b)=tnodes a+tnodes b:=by
 induction a with
 |nil=>simp[tnodes]
 |cons x r ih=>simp only[xC,tnodes,ih];lia
theorem F1.nodes{t:T}{ts:List T}(h:F1 t ts):tnodes ts<t.nodes:=by
 cases h with
 |lit _=>simp only[tnodes,T.nodes];lia
 |var _=>simp only[tnodes,T.nodes];lia
 |op a b c d e f=>simp only[T.nodes,tnodes,zi6];lia
theorem Sms.app{a b:List T}(h:Sms (a++b)):Sms b:=by
 induction a with
 |nil=>exact h
 |cons x r ih=>exact ih h.2
theorem F1.sms{t:T}{ts:List T}(h:F1 t ts)(sm:t.Sm):Sms ts:=by
 cases h with
 |lit _=>trivial
 |var _=>trivial
 |op a b c d e f=>exact Sms.app sm.2.2
theorem RTs.app{H:Hp}{vs:List V}{as bs:List T}(h:RTs H vs (as++bs)):∃us ws,vs=us++ws/\us.length=as.length/\RTs H ws bs:=by
 have hl:=h.1
 rw[yC] at hl
 refine⟨vs.take as.length,vs.drop as.length,(wM _ _).symm,by rw[yY];lia,by rw[vD];lia,fun i v t hv ht=>h.2 (as.length+i) v t ?_ ?_⟩
 ·rw[List.getElem?_drop] at hv;exact hv
 ·rw[yL (by lia),Nat.add_sub_cancel_left];exact ht
theorem zoV{H0 H:Hp}{v:V}{t:T}{ts:List T}{Q:VK}{E:XK}(s0:Same H0 H)(hv:RT H0 v t)(hf:F1 t ts)(q:∀(l:Addr) (us:List V) (H':Hp),H l=none->Same H H'->H' l=some (.lst us)->RTs H0 us ts->Q (.ref l) H'):spPartsOf [v] H Q E:=by
 cases hf with
 |lit _=>
  cases hv with
  | @tup a vs _ ea hl at'=>
   obtain⟨v0,v1,rfl⟩:∃a b,vs=[a,b]:=match vs,hl with|[a,b],_=>⟨a,b,rfl⟩
   have r0:=at' 0 v0 _ rfl rfl
   cases r0
   exact⟨a,.lit,[],[v1],rfl,s0 _ _ ea,.inl rfl,fun l H' hl s e=>q l [] H' hl s e ⟨rfl,fun i v w e=>by simp at e⟩⟩
 |var _=>
  cases hv with
  | @tup a vs _ ea hl at'=>
   obtain⟨v0,v1,rfl⟩:∃a b,vs=[a,b]:=match vs,hl with|[a,b],_=>⟨a,b,rfl⟩
   have r0:=at' 0 v0 _ rfl rfl
   cases r0
   exact⟨a,.var,[],[v1],rfl,s0 _ _ ea,.inl rfl,fun l H' hl s e=>q l [] H' hl s e ⟨rfl,fun i v w e=>by simp at e⟩⟩
 |op h1 h2 h3 h4 h5 h6=>
  rename_i d bs
  cases hv with
  | @tup a vs _ ea hl at'=>
   cases vs with
   |nil=>cases hl
   |cons v0 vs=>
   have r0:=at' 0 v0 _ rfl rfl
   cases r0
   have hr:RTs H0 vs (bs.map T.txt++ts):=⟨by simpa using hl,fun i v t a b=>at' (i+1) v t (by simpa using a) (by simpa using b)⟩
   obtain⟨us,ws,rfl,hul,hr⟩:=hr.app
   rw[yA] at hul
   have hb:(wLit d||wVar d)=false:=by rw[h1,h2];rfl
   refine⟨a,d,us,ws,rfl,s0 _ _ ea,.inr ⟨hb,by lia⟩,fun l H' hl s e=>q l ws H' hl s ?_ hr⟩
   rw[hb] at e
   exact e
end D
namespace L2
open PySem
theorem zia{fr:List Nat}{te:TE}{σ:St}{H:Hp}{F:Addr->Hp->List V->Prop}{n:Int}(Pv:Nat->List V->Hp->Prop)(h0:Pv 0 [] H)(hlen:∀i us H1,Pv i us H1->us.length=i)(hn:n.toNat<=1000000)
  (step:∀(i:Nat)(us:List V)(H1:Hp)(R:VK),i<n.toNat->Pv i us H1->(∀y H2,Pv (i+1) (us++[y]) H2->R y H2)->te (some (.int (0+(i:Int)))::frees fr σ) H1 R)
  (fin:∀(us:List V)(H1:Hp)(D:Addr),Pv n.toNat us H1->H1 D=none->F D H1 us):
  ∃W:Nat->Nat->List V->Hp->Prop,(∃m,W 0 m [] H)/\∀i m us H,W i m us H->us.length<=tH /\
   (((Itr 0 n.toNat).stop i H/\∀D,H D=none->F D H us) \/
    ((Itr 0 n.toNat).go i H/\∀v H',(Itr 0 n.toNat).yld i H v H'->if true=true then te (some v::frees fr σ) H' fun y H3=>∃m',m'<m/\W (i+1) m' (us++[y]) H3 else ∃m',m'<m/\W (i+1) m' us H')):=by
 refine⟨fun i m us H1=>i<=n.toNat/\m=n.toNat-i/\Pv i us H1,⟨_,yS _,rfl,h0⟩,fun i m us H1 hW=>?_⟩
 obtain⟨hi,hm,hu⟩:=hW
 have hz:(1000000:Nat)<=tH:=by decide
 refine⟨by rw[hlen _ _ _ hu];lia,?_⟩
 by_cases hlt:i<n.toNat
 ·refine .inr ⟨hlt,fun v H' hy=>?_⟩
  obtain⟨rfl,rfl⟩:=hy
  refine iteT ?_
  exact step i us H' _ hlt hu fun y H2 p2=>⟨n.toNat-(i+1),by lia,by lia,rfl,p2⟩
 ·have e:i=n.toNat:=by lia
  subst e
  exact .inl ⟨yO _,fun D hD=>fin us H1 D hu hD⟩
theorem zfW{K:tU}{fr:List Nat}{te:TE}{σ:St}{H:Hp}{F:Addr->Hp->List V->Prop}{a:Addr}{vs:List V}(Pv:Nat->List V->Hp->Prop)(hz:vs.length<=tH)(h0:Pv 0 [] H)(hlen:∀i us H1,Pv i us H1->us.length=i)(hS:∀i us H1,Pv i us H1->SqL K H1 a vs)
  (step:∀(i:Nat)(v:V)(us:List V)(H1:Hp)(R:VK),vs[i]?=some v->Pv i us H1->(∀y H2,Pv (i+1) (us++[y]) H2->R y H2)->te (some v::frees fr σ) H1 R)
  (fin:∀(us:List V)(H1:Hp)(D:Addr),Pv vs.length us H1->H1 D=none->F D H1 us):
  ∃W:Nat->Nat->List V->Hp->Prop,(∃m,W 0 m [] H)/\∀i m vs H,W i m vs H->vs.length<=tH /\
   (((Itl K a).stop i H/\∀D,H D=none->F D H vs) \/
    ((Itl K a).go i H/\∀v H',(Itl K a).yld i H v H'->if true=true then te (some v::frees fr σ) H' fun y H3=>∃m',m'<m/\W (i+1) m' (vs++[y]) H3 else ∃m',m'<m/\W (i+1) m' vs H')):=by
 refine⟨fun i m us H1=>i<=vs.length/\m=vs.length-i/\Pv i us H1,⟨_,yS _,rfl,h0⟩,fun i m us H1 hW=>?_⟩
 obtain⟨hi,hm,hu⟩:=hW
 have sq:=hS _ _ _ hu
 refine⟨by rw[hlen _ _ _ hu];lia,?_⟩
 by_cases hlt:i<vs.length
 ·refine .inr ⟨⟨vs,vs[i],sq,yB hlt⟩,fun v H' hy=>?_⟩
  obtain⟨rfl,hv⟩:=hy
  have hv:=hv vs sq
  refine iteT ?_
  exact step i v us H' _ hv hu fun y H2 p2=>⟨vs.length-(i+1),by lia,by lia,rfl,p2⟩
 ·have e:i=vs.length:=by lia
  subst e
  exact .inl ⟨⟨vs,sq,by lia⟩,fun D hD=>fin us H1 D hu hD⟩
end L2
namespace D
open PySem L2
inductive spFormed(vs:List V)(H:Hp)(Q:VK)(z3:XK):Prop
 |mk (v:V) (t:T) (_:vs=[v]) (_:RT H v t) (_:t.Sm) (_:∀(b:Bool)(H':Hp),Same H H'->(b=true->Formed t)->(b=false->¬Formed t)->Q (.bl b) H')
structure FmP(t:T)(v:V)(l:Addr)(H:Hp)(m:Nat)(σ':St)(H':Hp)(vs:List V)(ps:List (T×Int))(whole:Int):Prop where
 el:H' l=some (.lst vs)
 st:StR H H' vs ps
 mn:m=nds ps
 w0:0<=whole
 w1:whole<=60
 len:(vs.length:Int)<=1+8*whole
 sms:∀p∈ps,p.1.Sm/\0<=p.2
 ga:GA ps whole ↔ Formed t
 sH:Same H H'
theorem ZJ:FnScope ["thing","waiting","whole","pair","expression","level"] ["thing"] (zi zcc):=mkSc rfl (by decide +kernel)
theorem zgJ(F:Fun K "is_formed" "is_formed" zcc f fd)(G_parts_of:Have P w K mg base "parts_of" k ["expression"] (spPartsOf))(G_has_form:Have P w K mg base "has_form" k ["thing"] (spHasForm))(m_len:mg "len"=none)(m_MOST_MANY:∃t,mg "MOST_MANY"=some (.int 60 t))(m_MOST_NESTING:∃t,mg "MOST_NESTING"=some (.int 12 t)):FnOk P w K mg base CX0 (k+1) f fd ["thing"] (spFormed):=by
 refine F.okQ ZJ (by rintro _ _ _ _ ⟨_,_,rfl,_⟩;rfl) fun _ _ _ _ H vs Q E hr h=>?_
 obtain⟨v,t,rfl,rt,sm,q⟩:=h
 refine⟨_,(zd (zm (i:=1) ZJ.nd rfl (Or.inl rfl) (zF (za (zy (za (pv 0) (za ze zb))) zb)))
  (zd (zm (i:=2) ZJ.nd rfl (Or.inl rfl) ze)
  (zd (zaK tN (zk zcs (zj zB rfl m_len tF (za (pv 1) zb)) ze (nomark _)) (zd (zm (i:=3) ZJ.nd rfl (Or.inl rfl) (zdj tO PySem.F.slot_list_pop PySem.F.type_list_pop zhP (pv 1)))
  (zd (zm (i:=4) ZJ.nd rfl (Or.inl rfl) (zz zw (pv 3) ze (fun _ _=>rfl)))
  (zd (zm (i:=5) ZJ.nd rfl (Or.inr rfl) (zz zw (pv 3) ze (fun _ _=>rfl)))
  (zd (zdg (i:=2) ZJ.nd rfl (Or.inl rfl) ze (zjI zdT))
  (zd (zE (PW.pt (Z6 (zk zcs (pv 2) (Zz rfl m_MOST_MANY) (nomark _)) (Z6 (zk zcs (pv 5) (Zz rfl m_MOST_NESTING) (nomark _)) (ZF (ZA (zX (zo G_has_form hr rfl (za (pv 4) zb)))))))) (zf (zl Z5)) zq)
  (zf (Zm (ZZ tO PySem.F.slot_list_extend PySem.F.type_list_extend zdZ (pv 1) (za (zN [5] ["level"] rfl rfl (by decide +kernel) rfl (by decide +kernel) rfl (by decide +kernel) ⟨rfl,trivial⟩ rfl ⟨⟨rfl,rfl,Or.inr (Or.inl rfl),(by show (some NameKind.cell:Option NameKind)≠some .local;decide),⟨_,rfl⟩⟩,trivial⟩ (ZX (zo G_parts_of hr rfl (za (pv 4) zb))) (fun C s H fp=>⟨zM,(zy (za (pv 0) (za (zu Zj (pv 1) ze) zb)))⟩)) zb))))))))))
  (zf (zl Z5))))),nm4 ?_⟩
 intros
 refine⟨_,rfl,zl2,fun a ha=>?_⟩
 refine⟨zl1,fun l hl=>?_⟩
 have sa:=Sn (o:=.tup [v,.int 0]) ha
 have sl:=Sn (o:=.lst [.ref a]) hl
 have s1:=sa.trans sl
 have hlH:H l=none:=sa.free hl
 refine⟨fun m σ' H'=>∃(vs:List V)(ps:List (T×Int))(whole:Int)(o3 o4 o5:Option V),σ'=[some v,some (.ref l),some (.int whole),o3,o4,o5]/\FmP t v l H m σ' H' vs ps whole,
  ⟨_,[.ref a],[(t,0)],0,none,none,none,rfl,zc,StR.one (p:=(t,0)) (sl _ _ zc) rt,rfl,vB _,by decide,by simp,fun p hp=>by rw[yH.mp hp];exact⟨sm,vB _⟩,zi5,s1⟩,fun m σ' H' hW=>?_⟩
 obtain⟨vs,ps,whole,o3,o4,o5,rfl,⟨hlv,hst,hm,hw0,hw1,hvl,hsm,hga,sH⟩⟩:=hW
 refine⟨_,rfl,_,_,rfl,.inl ⟨_,Sl hlv,rfl⟩,_,_,rfl,rfl,_,rfl,?_⟩
 refine ite2 (fun c=>?_) (fun c=>?_)
 rotate_left
 ·have hv0:vs=[]:=by
   have:¬(0:Int)<vs.length:=fun z=>c (decide_eq_true z)
   exact yR.mp (by lia)
  have hp0:ps=[]:=yR.mp (by rw[←hst.len,hv0];rfl)
  subst hp0
  exact q true _ sH (fun _=>hga.mp ⟨0,.nil,by lia⟩) (fun z=>nomatch z)
 have c1:(0:Int)<vs.length:=of_decide_eq_true c
 refine⟨_,fun _ _ h=>h,?_⟩
 rcases wD vs with rfl|⟨vs',vl,e⟩
 ·simp at c1
 rw[wE] at e
 subst e
 rcases wD ps with rfl|⟨ps',p,e⟩
 ·have:=hst.len;simp at this
 rw[wE] at e
 subst e
 obtain⟨hst',ap,u,rfl,hap,rtu⟩:=hst.front
 obtain⟨t1,n1⟩:=p
 have ed:(vs'++[V.ref ap]).dropLast=vs':=vL
 obtain⟨smp,hn0⟩:=hsm (t1,n1) (by simp)
 have smp:t1.Sm:=smp
 have hn0:0<=n1:=hn0
 refine⟨_,rfl,.inl ⟨rfl,_,Sl hlv⟩,l,_,.ref ap,rfl,rfl,hlv,by simp,?_⟩
 rw[ed]
 have t1':=ZR (o:=.lst vs') hlv
 have sH1:Same H (upd H' l (.lst vs')):=zaG sH hlH
 have hap1:upd H' l (.lst vs') ap=some (.tup [u,.int n1]):=t1' _ _ hap
 have el1:upd H' l (.lst vs') l=some (.lst vs'):=zc
 generalize upd H' l (.lst vs')=H1 at t1' sH1 hap1 el1
 refine⟨_,rfl,ap,_,0,u,rfl,rfl,Sq hap1,rfl,?_⟩
 refine⟨_,rfl,ap,_,1,.int n1,rfl,rfl,Sq hap1,rfl,?_⟩
 refine⟨_,rfl,_,_,rfl,rfl,?_⟩
 have no:∀H',Same H1 H'->¬GA (ps'++[(t1,n1)]) whole->Q (.bl false) H':=fun H' s h=>q false _ (sH1.trans s) (fun z=>nomatch z) (fun _ z=>h (hga.mpr z))
 refine⟨_,rfl,_,_,rfl,rfl,_,rfl,?_⟩
 refine ite2 (fun c2=>?_) (fun c2=>?_)
 ·have:(60:Int)<whole+1:=of_decide_eq_true c2
  exact no _ (Sr _) fun h=>by have:=h.pop.1;lia
 have hw60:¬(60:Int)<whole+1:=fun z=>c2 (decide_eq_true z)
 refine⟨_,rfl,_,_,rfl,rfl,_,rfl,?_⟩
 refine ite2 (fun c3=>?_) (fun c3=>?_)
 ·have:(12:Int)<n1:=of_decide_eq_true c3
  exact no _ (Sr _) fun h=>by have:=h.pop.2.1;lia
 have hn12:¬(12:Int)<n1:=fun z=>c3 (decide_eq_true z)
 refine⟨_,rfl,u,t1,rfl,rtu.mono sH1,smp,fun b H2 s2 hT hF=>⟨_,rfl,?_⟩⟩
 cases b with
 |false=>exact iteT (no _ s2 fun h=>by obtain⟨ts,hf⟩:=h.pop.2.2;exact hF rfl ts hf)
 |true=>
 obtain⟨ts,hf⟩:=hT rfl
 refine iteF ?_
 have sH2:=sH1.trans s2
 have hl2:=s2 _ _ el1
 refine⟨_,rfl,.inl ⟨rfl,_,Sl hl2⟩,?_⟩
 dsimp +zetaDelta only [ZY,tNil]
 refine⟨_,rfl,?_⟩
 dsimp +zetaDelta only [tNil,xC,xS]
 refine zoV sH2 rtu hf fun lp us H3 hlp s3 elp hus=>⟨lp,rfl,⟨us,Sl elp⟩,?_⟩
 have hul:=hus.1
 have h8:=hf.len
 refine zfW (K:=K) (vs:=us) (fun i xs H4=>Same H3 H4/\xs.length=i/\StR H H4 xs ((ts.take i).map fun t=>(t,n1+1))) (yQ (show us.length<=60 by lia) (by decide)) ⟨Sr _,rfl,StR.nil⟩ (fun i us H4 h=>h.2.1) (fun i us H4 h=>Sl (h.1 _ _ elp)) (fun i x xs H4 R hx hP hR=>?_) (fun xs H4 D hP hD=>?_)
 ·obtain⟨s4,hxl,hsk⟩:=hP
  have hi:i<us.length:=(yE.mp hx).1
  have hki:ts[i]?=some ts[i]:=yB (by lia)
  refine⟨_,rfl,_,rfl,_,_,rfl,rfl,zl2,fun a5 ha5=>?_⟩
  have s5:=Sn (o:=.tup [x,.int (n1+1)]) ha5
  refine hR _ _ ⟨s4.trans s5,by rw[yC,hxl];rfl,?_⟩
  rw[zR hki,yK]
  exact (hsk.mono (ZW s5)).app (StR.one (p:=(ts[i],n1+1)) zc (hus.2 i x _ hx hki))
 ·obtain⟨s4,hxl,hsk⟩:=hP
  have s5:=Sn (o:=.lst xs) hD
  have sA:=s3.trans (s4.trans s5)
  rw[xD (by lia)] at hsk
  have hl4:upd H4 D (.lst xs) l=some (.lst vs'):=sA _ _ hl2
  have eD:upd H4 D (.lst xs) D=some (.lst xs):=zc
  have hskD:=hsk.mono (ZW s5)
  generalize upd H4 D (.lst xs)=H5 at s5 sA hl4 eD hskD
  have t6:=ZR (o:=.lst (vs'++xs)) hl4
  have hvl':(vs'.length:Int)+1<=1+8*whole:=by rw[yC] at hvl;exact hvl
  have hnn:nds (ps'++ts.map fun t=>(t,n1+1))<nds (ps'++[(t1,n1)]):=by
   have:=hf.nodes
   rw[zfE,zfE,zjX]
   simp only[nds]
   lia
  refine⟨l,D,vs',xs,rfl,rfl,hl4,eD,yQ (show vs'.length+xs.length<=1000 by lia) (by decide),?_⟩
  refine⟨nds (ps'++ts.map fun t=>(t,n1+1)),by rw[hm];exact hnn,vs'++xs,ps'++ts.map (fun t=>(t,n1+1)),whole+1,_,_,_,rfl,zc,?_,rfl,by lia,by lia,?_,?_,?_,?_⟩
  ·exact (((hst'.mono t1').mono (ZW (s2.trans sA))).mono t6).app (hskD.mono t6)
  ·rw[yC];lia
  ·intro p hp
   rcases yU.mp hp with hp|hp
   ·exact hsm p (wZ _ hp)
   ·obtain⟨p',hp',rfl⟩:=yX.mp hp
    exact⟨zhd (hf.sms smp) p' hp',by show 0<=n1+1;lia⟩
  ·rw[←hga]
   exact (GA.go hn0 (by lia) hf).symm
  ·exact zaG (sH2.trans sA) hlH
theorem zib(b:Bool):∀(ps:List Rl)(i:Nat)(p:Rl),ps[i]?=some p->p.rep<=reps b ps/\(b=true->i+1=ps.length->p.rep+1<=reps b ps)
 |[q],0,p,h=>by
  cases h
  rw[reps]
  exact⟨by lia,fun hb _=>by rw[hb];exact yO _⟩
 |q::r::l,0,p,h=>by
  cases h
  rw[reps]
  exact⟨by lia,fun _ h=>by simp at h⟩
 |q::r::l,i+1,p,h=>by
  have:=zib b (r::l) i p (by simpa using h)
  rw[reps]
  refine⟨by lia,fun hb hl=>?_⟩
  have:=this.2 hb (by simpa using hl)
  lia
 |[q],i+1,p,h=>by simp at h
theorem zic{b:Bool}{d:Nat}:∀{ps:List Rl},(∀(j:Nat)(p:Rl),ps[j]?=some p->p.rep+(if b=true/\j+1=ps.length then 1 else 0)<=d)->reps b ps<=d
 |[],_=>by rw[reps];lia
 |[p],h=>by
  have:=h 0 p rfl
  rw[reps]
  cases b with
  |true=>rw[if_pos ⟨rfl,rfl⟩] at this;simp only[if_true];exact this
  |false=>rw[if_neg (fun z=>by cases z.1)] at this;simp only[wG,if_false];exact this
 |p::q::r,h=>by
  rw[reps]
  have h1:=h 0 p rfl
  have h2:=zic (b:=b) (d:=d) (ps:=q::r) fun j p' hp=>by
   have:=h (j+1) p' (by simpa using hp)
   by_cases hc:b=true/\j+1=(q::r).length
   ·rw[if_pos hc]
    rw[if_pos ⟨hc.1,by rw[yF (a:=p)];lia⟩] at this
    exact this
   ·rw[if_neg hc]
    lia
  lia
inductive spRep(n:Nat)(vs:List V)(H:Hp)(Q:VK)(z3:XK):Prop
 |mk (v:V) (r:Rl) (_:vs=[v]) (_:RW H v r.toW) (_:r.Gd) (_:r.high<n) (_:∀H':Hp,Same H H'->Q (.int r.rep) H')
mutual
theorem W.toT_inj:∀{x y:W},x.toT=y.toT->x=y
 |.num i,y,h=>by cases y<;>simp only[W.toT] at h<;>cases h;rfl
 |.txt i,y,h=>by cases y<;>simp only[W.toT] at h<;>cases h;rfl
 |.lst ws,y,h=>by
  cases y with
  |lst zs=>simp only[W.toT] at h;injection h with h;rw[toTs_inj h]
  |num _=>simp only[W.toT] at h;cases h
  |txt _=>simp only[W.toT] at h;cases h
theorem toTs_inj:∀{xs ys:List W},toTs xs=toTs ys->xs=ys
 |[],ys,h=>by cases ys with
  |nil=>rfl
  |cons y r=>simp only[toTs] at h;cases h
 |x::xs,ys,h=>by
  cases ys with
  |nil=>simp only[toTs] at h;cases h
  |cons y r=>
   simp only[toTs] at h
   injection h with h1 h2
   rw[W.toT_inj h1,toTs_inj h2]
end
theorem zid:∀{a b:List Str},a.map T.txt=b.map T.txt->a=b
 |[],b,h=>by cases b with
  |nil=>rfl
  |cons _ _=>cases h
 |x::a,b,h=>by
  cases b with
  |nil=>cases h
  |cons y b=>
   rw[yJ,yJ] at h
   injection h with h1 h2
   injection h1 with h1
   rw[h1,zid h2]
mutual
theorem Rl.toT_inj:∀{r q:Rl},r.Gd->q.Gd->r.toT=q.toT->r=q
 |.lit x,q,g,g2,h=>by
  cases q with
  |lit y=>
   rw[ZO,ZO] at h
   injection h with h
   injection h with _ h
   injection h with h _
   rw[W.toT_inj h]
  |var s=>rw[ZO,zad] at h;injection h with h;injection h with h _;injection h with h;exact absurd (zaH (d:=.lit) (d':=.var) h) (fun z=>nomatch z)
  |op d bs ps=>
   rw[ZO,zaM] at h
   injection h with h
   injection h with h _
   injection h with h
   rw[Rl.Gd] at g2
   have:=g2.1.1
   rw[←zaH (d:=.lit) (d':=d) h] at this
   cases this
 |.var s,q,g,g2,h=>by
  cases q with
  |var y=>
   rw[zad,zad] at h
   injection h with h
   injection h with _ h
   injection h with h _
   injection h with h
   rw[h]
  |lit x=>rw[ZO,zad] at h;injection h with h;injection h with h _;injection h with h;exact absurd (zaH (d:=.var) (d':=.lit) h) (fun z=>nomatch z)
  |op d bs ps=>
   rw[zad,zaM] at h
   injection h with h
   injection h with h _
   injection h with h
   rw[Rl.Gd] at g2
   have:=g2.1.2.1
   rw[←zaH (d:=.var) (d':=d) h] at this
   cases this
 |.op d bs ps,q,g,g2,h=>by
  rw[Rl.Gd] at g
  cases q with
  |lit x=>
   rw[ZO,zaM] at h
   injection h with h
   injection h with h _
   injection h with h
   have:=g.1.1
   rw[zaH (d:=d) (d':=.lit) h] at this
   cases this
  |var s=>
   rw[zad,zaM] at h
   injection h with h
   injection h with h _
   injection h with h
   have:=g.1.2.1
   rw[zaH (d:=d) (d':=.var) h] at this
   cases this
  |op d' bs' ps'=>
   rw[Rl.Gd] at g2
   rw[zaM,zaM] at h
   injection h with h
   injection h with h1 h2
   injection h1 with h1
   obtain rfl:=zaH h1
   obtain⟨h3,h4⟩:=List.append_inj h2 (by rw[yA,yA,g.1.2.2.1,g2.1.2.2.1])
   rw[zid h3,rls_inj g.2 g2.2 h4]
theorem rls_inj:∀{ps qs:List Rl},Gds ps->Gds qs->ps.map Rl.toT=qs.map Rl.toT->ps=qs
 |[],qs,_,_,h=>by cases qs with
  |nil=>rfl
  |cons _ _=>cases h
 |p::ps,qs,g,g2,h=>by
  cases qs with
  |nil=>cases h
  |cons q qs=>
   rw[Gds] at g g2
   rw[yJ,yJ] at h
   injection h with h1 h2
   rw[Rl.toT_inj g.1 g2.1 h1,rls_inj g.2 g2.2 h2]
end
def zek(t:T):Prop:=∃r:Rl,t=r.toT/\r.Gd/\r.high<=12/\r.many<=60/\unb [] r=[]/\r.rep<=2
inductive spIsRule(vs:List V)(H:Hp)(Q:VK)(z3:XK):Prop
 |mk (v:V) (t:T) (_:vs=[v]) (_:RT H v t) (_:t.Sm) (_:∀(b:Bool)(H':Hp),Same H H'->(b=true->zek t)->(b=false->¬zek t)->Q (.bl b) H')
theorem zlP{l:List Str}(h:L2.allS l=[]):l=[]:=by
 cases l with
 |nil=>rfl
 |cons x r=>
  exfalso
  have:x∈L2.allS (x::r):=L2.zlv.mpr (by simp)
  rw[h] at this
  cases this
theorem ZU:FnScope ["expression","parts","deepest","place","part","is_repeated"] ["expression"] (zi zcX):=mkSc rfl (by decide +kernel)
theorem zhq{n:Nat}(F:Fun K "repeated" "repeated" zcX f fd)(G_repeated:Have P w K mg base "repeated" k ["expression"] (spRep n))(G_parts_of:Have P w K mg base "parts_of" k ["expression"] (spPartsOf))(m_enumerate:mg "enumerate"=none)(m_len:mg "len"=none)(m_max:mg "max"=none){g_REPEATING:Addr}(m_REPEATING:mg "REPEATING"=some (.ref g_REPEATING))(t_REPEATING:∀H:Hp,SqT K H g_REPEATING [.str "each",.str "over"]):FnOk P w K mg base CX0 (k+1) f fd ["expression"] (spRep (n+1)):=by
 refine F.okQ ZU (by rintro _ _ _ _ ⟨_,_,rfl,_⟩;rfl) fun _ _ _ _ H vs Q E hr h=>?_
 obtain⟨v,r,rfl,hv,hfit,hh,q⟩:=h
 refine⟨_,(zd (zm (i:=1) ZU.nd rfl (Or.inl rfl) (zo G_parts_of hr rfl (za (pv 0) zb)))
  (zd (zm (i:=2) ZU.nd rfl (Or.inl rfl) ze)
  (zd (zaL tN rfl (zd9 rfl m_enumerate (za (pv 1) zb)) (zbl rfl (Zc (Zb (i:=3) ZU.nd rfl (Or.inl rfl)) (Zc (Zb (i:=4) ZU.nd rfl (Or.inl rfl)) zaP))) (zd (zm (i:=5) ZU.nd rfl (Or.inl rfl) (Zt (zJ ZB (zz zw (pv 0) ze (fun _ _=>rfl)) (zam (v:=.ref g_REPEATING) rfl m_REPEATING rfl) (by rfl)) (ZG (zJ zY (pv 3) (zu Zu (zj zB rfl m_len tF (za (pv 1) zb)) ze) (nomark _)))))
  (zf (zm (i:=2) ZU.nd rfl (Or.inl rfl) (zj (zjo rfl) rfl m_max PyProof.Rows.boot_max (za (pv 2) (za (zu Zj (zo G_repeated hr rfl (za (pv 4) zb)) (zaJ (zX (pv 5)) ze ze)) zb)))))))
  (zf (zl (pv 2)))))),nm4 ?_⟩
 intros
 obtain⟨a,us0,rfl,ea,ho⟩:=opn hv
 have h0:us0[0]?=some (.str (woS (rlW r))):=ho.head
 obtain⟨we,hwe⟩:∃b,b=wEO (rlW r):=⟨_,rfl⟩
 have hrep:r.rep=reps we (zO r):=by
  rw[hwe]
  cases r with
  |lit _=>rw[Rl.rep];rfl
  |var _=>rw[Rl.rep];rfl
  |op d bs ps=>rw[Rl.rep];rfl
 refine⟨_,rfl,?_⟩
 dsimp +zetaDelta only [tNil,xC,xS]
 refine zng hv hfit fun l us H1 hl s1 el hus=>?_
 have hul:=hus.len
 rw[zbR] at hul
 refine⟨_,rfl,l,us,rfl,Sl el,zfJ (xs:=us) (fun i σ' H'=>∃(o3 o4 o5:Option V)(d:Nat),σ'=[some (.ref a),some (.ref l),some (.int d),o3,o4,o5]/\Same H1 H'/\d<=r.rep/\∀(j:Nat)(p:Rl),j<i->(zO r)[j]?=some p->p.rep+(if we=true/\j+1=(zO r).length then 1 else 0)<=d)
  ⟨none,none,none,0,rfl,Sr _,yS _,fun j p hj=>absurd hj (vF _)⟩ (fun i σ' H' _ h=>?_) (fun i x t σ' H' hx ht h=>?_) (fun σ' H' h=>?_)⟩
 ·obtain⟨_,_,_,_,_,s2,_⟩:=h
  exact Sl (s2 _ _ el)
 ·obtain⟨o3,o4,o5,d,rfl,s2,hd,hall⟩:=h
  have hi:i<us.length:=(yE.mp hx).1
  have hki:(zO r)[i]?=some (zO r)[i]:=yB (by lia)
  have hpm:=yW (show i<(zO r).length by lia)
  have sT:=s2.trans (Sn (o:=.tup [.int i,x]) ht)
  have h2:=zbT hpm
  have hhe:=zho r
  have hrg:=zib we (zO r) i _ hki
  rw[←hrep] at hrg
  refine⟨t,_,rfl,Sq zc,rfl,_,_,rfl,_,_,rfl,rfl,?_⟩
  have ea1:=sT _ _ (s1 _ _ ea)
  have rwx:RW (upd H' t (.tup [.int i,x])) x ((zO r)[i]).toW:=RW.mono (zh sT) (hus.at' i x _ hx (zfS hki))
  have go:∀(b:Bool),(b=true->we=true/\i+1=(zO r).length)->∀y:Nat,y=((zO r)[i]).rep->max d (y+if b then 1 else 0)<=r.rep:=fun b hb y hy=>by
   cases b with
   |false=>simp only[wG,if_false];have:=hrg.1;lia
   |true=>have:=hrg.2 (hb rfl).1 (hb rfl).2;simp only[if_true];lia
  refine⟨_,rfl,a,us0,0,_,rfl,rfl,Sq ea1,zS (j:=0) h0,g_REPEATING,_,rfl,.inr (t_REPEATING _),rfl,rfl,_,rfl,?_⟩
  show if inV (.str (woS (rlW r))) [.str "each",.str "over"]=true then _ else _
  rw[inEO]
  have fin:∀(b:Bool)(c:Int)(o:Option V),c=(if b=true then 1 else 0)->(b=true->we=true/\i+1=(zO r).length)->((we=true/\i+1=(zO r).length)->b=true)->∀(y:Nat)(H6:Hp),y=((zO r)[i]).rep->Same (upd H' t (.tup [.int i,x])) H6->∃(o3 o4 o5:Option V)(d':Nat),[some (.ref a),some (.ref l),some (.int (if (y:Int)+c > (d:Int) then (y:Int)+c else (d:Int))),some (.int i),some x,o]=[some (.ref a),some (.ref l),some (.int d'),o3,o4,o5]/\Same H1 H6/\d'<=r.rep/\∀(j:Nat)(p:Rl),j<i+1->(zO r)[j]?=some p->p.rep+(if we=true/\j+1=(zO r).length then 1 else 0)<=d':=fun b c o hc hb hb2 y H6 hy s6=>by
   have hg:=go b hb y hy
   refine⟨_,_,_,max d (y+if b then 1 else 0),congrArg (fun z=>[some (.ref a),some (.ref l),some (V.int z),some (.int i),some x,o]) ?_,sT.trans s6,hg,fun j p hj hp=>?_⟩
   rotate_left
   ·by_cases hji:j<i
    ·have:=hall j p hji hp
     lia
    ·obtain rfl:j=i:=by lia
     rw[hki] at hp
     cases hp
     rw[hy]
     cases b with
     |true=>rw[if_pos (hb rfl)];simp only[if_true];lia
     |false=>rw[if_neg (fun z=>by have:=hb2 z;cases this)];simp only[wG,if_false];lia
   subst hc
   cases b<;>simp only[wG,if_false,if_true]<;>split<;>lia
  cases he:wEO (rlW r) with
  |false=>
   refine iteF ⟨_,rfl,_,rfl,x,_,rfl,rwx,zbf hfit _ hpm,by lia,fun H6 s6=>?_⟩
   refine⟨_,rfl,_,rfl,iteF ⟨_,_,rfl,rfl,_,_,rfl,?_⟩⟩
   exact fin false _ _ rfl (fun z=>nomatch z) (fun z=>by rw[hwe,he] at z;cases z.1) _ H6 rfl s6
  |true=>
   refine iteT ⟨_,rfl,_,rfl,_,_,rfl,.inl ⟨_,Sl (sT _ _ el),rfl⟩,_,_,rfl,rfl,rfl,?_⟩
   refine⟨_,rfl,_,rfl,x,_,rfl,rwx,zbf hfit _ hpm,by lia,fun H6 s6=>?_⟩
   refine⟨_,rfl,_,rfl,?_⟩
   refine ite2 (fun c=>?_) (fun c=>?_)
   ·have hc:i+1=(zO r).length:=by
     have:=of_decide_eq_true c
     injection this with this
     lia
    refine⟨_,_,rfl,rfl,_,_,rfl,?_⟩
    exact fin true _ _ rfl (fun _=>⟨hwe.trans he,hc⟩) (fun _=>rfl) _ H6 rfl s6
   ·refine⟨_,_,rfl,rfl,_,_,rfl,?_⟩
    exact fin false _ _ rfl (fun z=>nomatch z) (fun z=>absurd (decide_eq_true (congrArg V.int (show (i:Int)=(us.length:Int)-1 by have:=z.2;lia))) c) _ H6 rfl s6
 ·obtain⟨o3,o4,o5,d,rfl,s2,hd,hall⟩:=h
  have hge:r.rep<=d:=by
   rw[hrep]
   exact zic fun j p hp=>hall j p (by have:=(yE.mp hp).1;lia) hp
  obtain rfl:d=r.rep:=by lia
  exact⟨_,rfl,q H' (s1.trans s2)⟩
theorem zi7:FnScope ["thing"] ["thing"] (zi zd6):=mkSc rfl (by decide +kernel)
theorem zi8(F:Fun K "is_rule" "is_rule" zd6 f fd)(G_repeated:Have P w K mg base "repeated" k ["expression"] (spRep 20))(G_free_in:Have P w K mg base "free_in" k ["expression"] (spFree))(G_is_formed:Have P w K mg base "is_formed" k ["thing"] (spFormed))(m_MOST_REPEATED:∃t,mg "MOST_REPEATED"=some (.int 2 t)):FnOk P w K mg base CX0 (k+1) f fd ["thing"] (spIsRule):=by
 refine F.okQ zi7 (by rintro _ _ _ _ ⟨_,_,rfl,_⟩;rfl) fun _ _ _ _ H vs Q E hr h=>?_
 obtain⟨v,t,rfl,rt,sm,q⟩:=h
 refine⟨_,(zf (zl (Zt (zo G_is_formed hr rfl (za (pv 0) zb)) (Zt (zJ (zmn (xG (wP _ 64) hr.units)) (zo G_free_in hr rfl (za (pv 0) zb)) (zF zb) (nomark _)) (ZG (zJ ziw (zo G_repeated hr rfl (za (pv 0) zb)) (Zz rfl m_MOST_REPEATED) (nomark _))))))),?_⟩
 refine⟨_,rfl,v,t,rfl,rt,sm,fun b H1 s1 hT hF=>⟨_,rfl,?_⟩⟩
 cases b with
 |false=>exact iteF (q false _ s1 (fun z=>nomatch z) (fun _ ⟨r,a,b,c,d,_⟩=>hF rfl ⟨r,a,b,c,d⟩))
 |true=>
 obtain⟨r,rfl,g,hh,hm⟩:=hT rfl
 have hv:RW H v r.toW:=rt.toRW rfl
 have no:∀H',Same H H'->(unb [] r≠[]\/2<r.rep)->Q (.bl false) H':=fun H' s h=>q false H' s (fun z=>nomatch z) fun _ ⟨r',a,b,_,_,c,d⟩=>by
  rw[←Rl.toT_inj g b a] at c d
  rcases h with h|h
  ·exact h c
  ·lia
 refine iteT ⟨_,rfl,v,r,rfl,RW.mono (zh s1) hv,g,by lia,by lia,fun l ss H2 hl s2 el hs hp=>?_⟩
 refine⟨zl0,fun e he=>?_⟩
 have s3:=Sn (o:=.lst []) he
 have s123:=s1.trans (s2.trans s3)
 have el3:=s3 _ _ el
 refine⟨l,e,ss.map V.str,rfl,rfl,Sl el3,Sl zc,_,rfl,?_⟩
 by_cases hss:ss=[]
 ·subst hss
  have hu:unb [] r=[]:=zlP (yR.mp (by rw[←hp.length_eq];rfl))
  refine iteT ⟨_,rfl,v,r,rfl,RW.mono (zh s123) hv,g,by lia,fun H4 s4=>⟨_,_,rfl,rfl,?_⟩⟩
  show Q (.bl (decide ((r.rep:Int)<=2))) H4
  by_cases hr2:r.rep<=2
  ·rw[decide_eq_true (by lia)]
   exact q true _ (s123.trans s4) (fun _=>⟨r,rfl,g,hh,hm,hu,hr2⟩) (fun z=>nomatch z)
  ·rw[decide_eq_false (by lia)]
   exact no _ (s123.trans s4) (.inr (by lia))
 ·have hem:(ss.map V.str).isEmpty=false:=by
   cases ss with
   |nil=>exact absurd rfl hss
   |cons _ _=>rfl
  rw[hem]
  refine iteF (no _ s123 (.inl fun z=>hss ?_))
  rw[z] at hp
  exact yR.mp (by rw[hp.length_eq];rfl)
theorem RT.inv_tup{H:Hp}{v:V}{ts:List T}(h:RT H v (.tup ts)):∃a vs,v=.ref a/\H a=some (.tup vs)/\RTs H vs ts:=by
 cases h with
 |tup e l r=>exact⟨_,_,rfl,e,l,r⟩
theorem RTs.rt{H:Hp}{a:Addr}{vs:List V}{ts:List T}(h:RTs H vs ts)(e:H a=some (.tup vs)):RT H (.ref a) (.tup ts):=.tup e h.1 h.2
theorem zmr:∀{l:List T},(∀y∈l,y.Sm)->Sms l
 |[],_=>trivial
 |y::r,h=>⟨h y (by simp),zmr fun z hz=>h z (yM _ hz)⟩
mutual
theorem znj:∀{r:Rl},r.Gd->r.toT.Sm
 |.lit x,h=>by
  rw[Rl.Gd] at h
  rw[ZO]
  exact⟨by show 2<=100000;decide,(by show (uV "lit").length<=100000;decide +kernel),zhV x (zjY x h.1),trivial⟩
 |.var s,h=>by
  rw[Rl.Gd] at h
  have:=h.2.1
  rw[zad]
  exact⟨by show 2<=100000;decide,(by show (uV "var").length<=100000;decide +kernel),(by show s.length<=100000;lia),trivial⟩
 |.op d bs ps,h=>by
  rw[Rl.Gd] at h
  have hb:=zcm d
  have hl:=h.1.2.2.1
  have hp:ps.length<=8:=by
   have:=(zkt (r:=.op d bs ps) (by rw[Rl.Gd];exact h)).len
   rw[yA] at this
   exact this
  rw[zaM]
  refine⟨?_,?_,zmr fun y hy=>?_⟩
  ·rw[yF,yC,yA,yA];lia
  ·show (woS d).length<=100000
   cases d<;>decide +kernel
  ·rcases yU.mp hy with hy|hy
   ·obtain⟨z,hz,rfl⟩:=yX.mp hy
    have:=(h.1.2.2.2.1 z hz).2.1
    show z.length<=100000
    lia
   ·obtain⟨p,hp,rfl⟩:=yX.mp hy
    exact gds_sm h.2 p hp
theorem gds_sm:∀{ps:List Rl},Gds ps->∀p∈ps,p.toT.Sm
 |[],_,p,hp=>nomatch hp
 |q::r,h,p,hp=>by
  rw[Gds] at h
  rcases yG.mp hp with e|hp
  ·rw[e];exact znj h.1
  ·exact gds_sm h.2 p hp
end
def YT(te:TE)(σ:St)(H:Hp)(t:T):Prop:=∀(H1:Hp)(Q:VK),Same H H1->(∀v H2,Same H1 H2->RT H2 v t->Q v H2)->te σ H1 Q
def YA(ta:TA)(σ:St)(H:Hp)(ts:List T):Prop:=∀(H1:Hp)(Q:List V->Hp->Prop),Same H H1->(∀vs H2,Same H1 H2->RTs H2 vs ts->Q vs H2)->ta σ H1 Q
theorem RTs.nil{H:Hp}:RTs H [] []:=⟨rfl,fun i v t e=>by simp at e⟩
theorem RTs.cons{H:Hp}{v:V}{t:T}{vs:List V}{ts:List T}(h:RT H v t)(g:RTs H vs ts):RTs H (v::vs) (t::ts):=by
 refine⟨by rw[yF,yF,g.1],fun i v' t' a b=>?_⟩
 cases i with
 |zero=>cases a;cases b;exact h
 |succ i=>exact g.2 i v' t' (by simpa using a) (by simpa using b)
theorem zar{σ:St}{H:Hp}{i:Nat}{v:V}{t:T}(e:σ[i]?=some (some v))(r:RT H v t):YT (tVar i) σ H t:=fun H1 Q s q=>⟨v,e,q v H1 (Sr _) (r.mono s)⟩
theorem yt_c{σ:St}{H:Hp}{v:V}{t:T}(r:RT H v t):YT (tC v) σ H t:=fun H1 Q s q=>q v H1 (Sr _) (r.mono s)
theorem zV{σ:St}{H:Hp}:YA tNil σ H []:=fun H1 Q s q=>q [] H1 (Sr _) .nil
theorem zr{σ:St}{H:Hp}{te:TE}{ta:TA}{t:T}{ts:List T}(h:YT te σ H t)(g:YA ta σ H ts):YA (ZY te ta) σ H (t::ts):=fun H1 Q s q=>
 h H1 _ s fun v H2 s2 r2=>g H2 _ (s.trans s2) fun vs H3 s3 r3=>q (v::vs) H3 (s2.trans s3) (.cons (r2.mono s3) r3)
theorem Za{σ:St}{H:Hp}{ta:TA}{ts:List T}(g:YA ta σ H ts)(hl:ts.length<=1000):YT (tTup ta) σ H (.tup ts):=fun H1 Q s q=>
 g H1 _ s fun vs H2 s2 r2=>⟨yQ (show vs.length<=1000 by rw[r2.1];exact hl) (by decide),fun p hp=>q _ _ (s2.trans (Sn hp)) ((r2.mono (Sn hp)).rt zc)⟩
theorem YT.run{te:TE}{σ:St}{H:Hp}{t:T}(h:YT te σ H t){Q:VK}(q:∀v H2,Same H H2->RT H2 v t->Q v H2):te σ H Q:=h H Q (Sr _) q
theorem RTs.cat{H:Hp}{vs us:List V}{ts ps:List T}(h:RTs H vs ts)(g:RTs H us ps):RTs H (vs++us) (ts++ps):=by
 refine⟨by rw[yC,yC,h.1,g.1],fun i v t a b=>?_⟩
 by_cases hi:i<vs.length
 ·rw[yP hi] at a
  rw[yP (by rw[←h.1];exact hi)] at b
  exact h.2 i v t a b
 ·rw[yL (by lia)] at a
  rw[yL (by rw[←h.1];lia),←h.1] at b
  exact g.2 _ v t a b
theorem zms{K:tU}{σ:St}{H:Hp}{ta tb:TE}{as bs:List T}(h:YT ta σ H (.tup as))(g:YT tb σ H (.tup bs))(hn:as≠[])(hl:as.length+bs.length<=1000):YT (tOp (rCatT K) ta tb) σ H (.tup (as++bs)):=fun H1 Q s q=>
 h H1 _ s fun v H2 s2 r2=>g H2 _ (s.trans s2) fun u H3 s3 r3=>by
  obtain⟨a,xs,rfl,ea,hxs⟩:=r2.inv_tup
  obtain⟨b,ys,rfl,eb,hys⟩:=r3.inv_tup
  have l1:=hxs.1
  have l2:=hys.1
  refine⟨a,b,xs,ys,rfl,rfl,Sq (s3 _ _ ea),Sq eb,(fun z=>hn (yR.mp (by rw[←l1,z];rfl))),yQ (show xs.length+ys.length<=1000 by lia) (by decide),fun z=>?_,fun _ p hp=>?_⟩
  ·have hb:bs=[]:=yR.mp (by rw[←l2,z];rfl)
   subst hb
   rw[xH] at q
   exact q _ H3 (s2.trans s3) (r2.mono s3)
  ·have s4:=Sn (o:=.tup (xs++ys)) hp
   exact q _ _ ((s2.trans s3).trans s4) (((hxs.mono (s3.trans s4)).cat (hys.mono s4)).rt zc)
def tk(i:Nat)(n:Int):TE:=zjs spTake [] E0 (ZY (tVar i) (ZY (tC (.int n)) tNil))
theorem RT.step{b:Addr}{H H':Hp}(st:Step b H H')(hb:IsBox H b){v:V}{t:T}(h:RT H v t):RT H' v t:=by
 induction h with
 |non=>exact .non
 |bl b=>exact .bl b
 |num i=>exact .num i
 |txt x=>exact .txt x
 |tup e l _ ih=>exact .tup (st.tups hb _ _ e) l ih
 | @lst a vs e=>
  by_cases hab:a=b
  ·subst hab
   obtain⟨x,y,z,e'⟩:=st.box
   exact .lst e'
  ·exact .lst (st.keep _ _ hab e)
 |dic e=>exact .dic (st.keepN hb e (fun _ _ _ z=>nomatch z))
theorem RTs.step{b:Addr}{H H':Hp}(st:Step b H H')(hb:IsBox H b){vs:List V}{ts:List T}(h:RTs H vs ts):RTs H' vs ts:=⟨h.1,fun i v t a c=>(h.2 i v t a c).step st hb⟩
end D
namespace L2
open PySem PySem.Spec PyProof.Rows
theorem zku{X:Cx}:SlR X (fun x lo hi H Q=>∃z:Str,x=.str z/\z.length<=10000000/\Q (.str (Txt.slice z lo hi)) H):=by
 intro zp s σ H x v vl vu lo hi sl Q I rx hs pl pu h
 obtain⟨z,rfl,hz,q⟩:=h
 obtain⟨t,rfl⟩:=rx
 refine⟨"str",_,PySem.F.slot_str_getitem.lookup,typeIs_str _ _ _,?_⟩
 have hz':z.length<=tH:=yQ hz (by decide)
 have fin:∀(l u:Option (Int×Tok)),partValue l=vl->partValue u=vu->Q (.str (Txt.slice z (l.map (·.1)) (u.map (·.1)))) H->wpAny (model X.prog X.w) X.A (getItem (.str z t) (.ref sl)) (EP X zp σ Q) X.xe s:=fun l u e1 e2 q=>by
  obtain⟨o,ho,hc,hd⟩:=hs
  refine wpAny_getItem_str_slice (l:=l) (u:=u) (st:=none) ⟨o,ho,hc,by rw[hd,e1,e2];rfl⟩ rfl (post_val_or_str ⟨yQ (Txt.slice_le z _ _) hz',fun t' k=>?_⟩)
  exact⟨.str _,H,I.tok k,⟨t',rfl⟩,q⟩
 cases pl with
 |none=>cases pu with
  |none=>exact fin none none rfl rfl q
  |int j tj=>exact fin none (some (j,tj)) rfl rfl q
 |int i ti=>cases pu with
  |none=>exact fin (some (i,ti)) none rfl rfl q
  |int j tj=>exact fin (some (i,ti)) (some (j,tj)) rfl rfl q
end L2
namespace D
open PySem L2
theorem zie{n:Nat}(h:n<=10000000):n<=tH:=yQ h (by decide)
inductive spWordEnd(vs:List V)(H:Hp)(Q:VK)(z3:XK):Prop
 |mk (t:Str) (pre q r:List Nat) (_:vs=[.str t,.int (pre.length:Int)]) (_:t.cps.toList=pre++(q++r)) (_:(∀c∈q,zbc c=false)) (_:Cut r) (_:t.length<=10000000) (_:Q (.int ((pre.length+q.length:Nat):Int)) H)
inductive spTextEnd(vs:List V)(H:Hp)(Q:VK)(z3:XK):Prop
 |mk (t:Str) (pre q r:List Nat) (_:vs=[.str t,.int (pre.length:Int)]) (_:t.cps.toList=pre++34::(q++34::r)) (_:(∀c∈q,c≠34)) (_:t.length<=10000000) (_:Q (.int ((pre.length+1+q.length:Nat):Int)) H)
theorem znk(c:Nat):decide (c∈zlG.cps.toList)=zbc c:=by
 rw[ziV,xF,decide_eq_true_iff]
 simp[zbc]
theorem znl(c:Nat):decide (c∈zlH.cps.toList)=decide (c=32\/c=10):=by
 rw[ziW,xF,decide_eq_true_iff,decide_eq_true_iff]
 simp
theorem zlQ(c:Nat):decide (c∈wBr.cps.toList)=decide (c=40\/c=41):=by
 rw[zlJ,xF,decide_eq_true_iff,decide_eq_true_iff]
 simp
theorem zdK:uV "\""=⟨#[34]⟩:=by decide +kernel
theorem zcn:FnScope ["text","start","end"] ["text","start"] (zi zcZ):=mkSc rfl (by decide +kernel)
theorem zhr(F:Fun K "word_end" "word_end" zcZ f fd)(m_len:mg "len"=none)(m_WORD_ENDS:∃t,mg "WORD_ENDS"=some (.str zlG t)):FnOk P w K mg base CX0 (k+1) f fd ["text","start"] (spWordEnd):=by
 refine F.okQ zcn (by rintro _ _ _ _ ⟨_,_,_,_,rfl,_⟩;rfl) fun _ _ _ _ H vs Q E hr h=>?_
 obtain⟨t,pre,q,r,rfl,ht,hq,hc,hz,qq⟩:=h
 have hl:t.length=pre.length+(q.length+r.length):=by rw[←zH,ht];simp
 refine⟨_,(zd (zm (i:=2) zcn.nd rfl (Or.inl rfl) (pv 1))
  (zd (zaK tN (PW.pt (zbr (zk zgf (pv 2) (zj zB rfl m_len tF (za (pv 0) zb)) (nomark _)) (zay (zk zdi (zz ze2 (pv 0) (pv 2) (fun _ _=>rfl)) (zbP rfl m_WORD_ENDS) (by rfl))))) (zf (zdg (i:=2) zcn.nd rfl (Or.inl rfl) ze (zjI zdT))))
  (zf (zl (pv 2))))),nm3 ?_⟩
 intros
 refine⟨_,rfl,?_⟩
 refine⟨fun m σ' H'=>∃j:Nat,j<=q.length/\σ'=[some (.str t),some (.int (pre.length:Int)),some (.int ((pre.length+j:Nat):Int))]/\H'=H/\m=q.length-j,
  ⟨_,0,yS _,rfl,rfl,rfl⟩,fun m σ' H' hW=>?_⟩
 obtain⟨j,hj,rfl,rfl,rfl⟩:=hW
 refine⟨_,rfl,_,rfl,_,_,rfl,⟨zie (by lia),rfl⟩,_,_,rfl,rfl,_,rfl,?_⟩
 refine ite2 (fun e=>?_) (fun e=>?_)
 ·have e1:((pre.length+j:Nat):Int)<((t.length:Nat):Int):=of_decide_eq_true e
  have hlt:pre.length+j<t.cps.toList.length:=by rw[zH];lia
  have hat:atI t.cps.toList ((pre.length+j:Nat):Int)=some t.cps.toList[pre.length+j]:=zS (yB hlt)
  refine⟨_,rfl,_,rfl,t,_,_,rfl,rfl,zie (by lia),hat,_,_,rfl,rfl,_,rfl,?_⟩
  rw[zdm,znk]
  by_cases hjq:j<q.length
  ·have ec:t.cps.toList[pre.length+j]=q[j]:=by
    have:t.cps.toList[pre.length+j]?=some q[j]:=by
     rw[ht,yL (by lia),show pre.length+j-pre.length=j by lia,yP hjq]
     simp
    rw[yB hlt] at this
    exact Option.some.inj this
   rw[ec,hq _ (yW hjq)]
   refine iteT ⟨_,fun _ _ h=>h,?_⟩
   refine⟨_,rfl,_,_,rfl,rfl,q.length-(j+1),by lia,j+1,hjq,?_,rfl,rfl⟩
   simp only[uI]
   rw[show ((pre.length+j:Nat):Int)+1=((pre.length+(j+1):Nat):Int) by lia]
  ·have hje:j=q.length:=by lia
   subst hje
   cases r with
   |nil=>simp at hl;lia
   |cons c r=>
    have ec:t.cps.toList[pre.length+q.length]=c:=by
     have:t.cps.toList[pre.length+q.length]?=some c:=by
      rw[ht,yL (by lia),show pre.length+q.length-pre.length=q.length by lia,yL (by lia)]
      simp
     rw[yB hlt] at this
     exact Option.some.inj this
    rw[ec,hc c r rfl]
    exact iteF ⟨_,rfl,qq⟩
 ·have e1:¬((pre.length+j:Nat):Int)<((t.length:Nat):Int):=fun z=>e (decide_eq_true z)
  have hje:j=q.length:=by lia
  subst hje
  exact iteF ⟨_,rfl,qq⟩
theorem zel:FnScope ["text","start","end"] ["text","start"] (zi zc0):=mkSc rfl (by decide +kernel)
theorem zhs(F:Fun K "text_end" "text_end" zc0 f fd):FnOk P w K mg base CX0 (k+1) f fd ["text","start"] (spTextEnd):=by
 refine F.okQ zel (by rintro _ _ _ _ ⟨_,_,_,_,rfl,_⟩;rfl) fun _ _ _ _ H vs Q E hr h=>?_
 obtain⟨t,pre,q,r,rfl,ht,hq,hz,qq⟩:=h
 refine⟨_,(zd (zm (i:=2) zel.nd rfl (Or.inl rfl) (ZZ tT PySem.F.slot_str_find PySem.F.type_str_find zlC (pv 0) (za zg (za (zu Zj (pv 1) ze) zb))))
  (zd (zE (zk zgf (pv 2) ze (nomark _)) zU zq)
  (zf (zl (pv 2))))),nm3 ?_⟩
 intros
 refine⟨_,rfl,rfl,_,rfl,_,_,rfl,rfl,t,_,_,rfl,rfl,?_⟩
 rw[zdK,ziU ht hq]
 refine⟨_,rfl,_,_,rfl,rfl,_,rfl,?_⟩
 refine ite2 (fun e=>?_) (fun e=>⟨_,rfl,qq⟩)
 have e1:((pre.length+1+q.length:Nat):Int)<0:=of_decide_eq_true e
 lia
noncomputable def pcV:Pc->List V
 |.op=>[.str ⟨#[40]⟩,.str ⟨#[40]⟩]
 |.cl=>[.str ⟨#[41]⟩,.str ⟨#[41]⟩]
 |.txt q=>[.str "text",.str ⟨q.toArray⟩]
 |.word q=>[.str "word",.str ⟨q.toArray⟩]
def RPc(H:Hp)(v:V)(p:Pc):Prop:=∃a,v=.ref a/\H a=some (.tup (pcV p))
structure RPs(H:Hp)(vs:List V)(ps:List Pc):Prop where
 len:vs.length=ps.length
 at':∀(i:Nat)(v:V)(p:Pc),vs[i]?=some v->ps[i]?=some p->RPc H v p
theorem RPc.mono{H H':Hp}(t:Tups H H'){v:V}{p:Pc}(h:RPc H v p):RPc H' v p:=by
 obtain⟨a,e,h⟩:=h
 exact⟨a,e,t a _ h⟩
theorem RPs.mono{H H':Hp}(t:Tups H H'){vs:List V}{ps:List Pc}(h:RPs H vs ps):RPs H' vs ps:=⟨h.len,fun i v p a b=>(h.at' i v p a b).mono t⟩
theorem RPs.nil{H:Hp}:RPs H [] []:=⟨rfl,fun i v p a=>by simp at a⟩
theorem RPs.snoc{H:Hp}{vs:List V}{ps:List Pc}{v:V}{p:Pc}(h:RPs H vs ps)(x:RPc H v p):RPs H (vs++[v]) (ps++[p]):=by
 refine⟨by simp[h.len],fun i u q a b=>?_⟩
 by_cases hi:i<vs.length
 ·rw[yP hi] at a
  rw[yP (by rw[←h.len];exact hi)] at b
  exact h.at' i u q a b
 ·rw[yL (by lia)] at a
  rw[yL (by rw[←h.len];lia)] at b
  rw[←h.len] at b
  cases hk:i-vs.length with
  |zero=>
   rw[hk] at a b
   have a1:v=u:=by simpa using a
   have b1:p=q:=by simpa using b
   rw[←a1,←b1]
   exact x
  |succ n=>rw[hk] at a;simp at a
inductive spPieces(vs:List V)(H:Hp)(Q:VK)(z3:XK):Prop
 |mk (t:Str) (ps:List Pc) (_:vs=[.str t]) (_:Spell t.cps.toList ps) (_:t.length<=10000000) (_:∀(p:Addr)(us:List V)(H':Hp),H p=none->Same H H'->H' p=some (.lst us)->RPs H' us ps->Q (.ref p) H')
theorem zif{pre q r:List Nat}{t:Str}(ht:t.cps.toList=pre++(q++r)):Txt.slice t (some ((pre.length:Nat):Int)) (some ((pre.length+q.length:Nat):Int))=⟨q.toArray⟩:=by
 have hl:t.length=pre.length+(q.length+r.length):=by rw[←zH,ht];simp
 have e:=zlE (z:=t) (a:=pre.length) (b:=pre.length+q.length) (by lia) (by lia)
 rw[ht] at e
 have e2:(Txt.slice t (some ((pre.length:Nat):Int)) (some ((pre.length+q.length:Nat):Int))).cps.toList=q:=by
  rw[e]
  simp
 cases hz:Txt.slice t (some ((pre.length:Nat):Int)) (some ((pre.length+q.length:Nat):Int)) with
 |mk cps=>
  rw[hz] at e2
  have:cps=q.toArray:=by rw[←e2]
  rw[this]
theorem Spell.len{r:List Nat}{ps:List Pc}(h:Spell r ps):ps.length<=r.length:=by
 induction h with
 |nil=>simp
 |gap _ _ ih=>simp;lia
 |op _ ih=>simp;lia
 |cl _ ih=>simp;lia
 |txt _ _ ih=>simp;lia
 |word _ _ _ _ ih=>simp;lia
def PInv(H:Hp)(t:Str)(ps:List Pc)(p:Addr)(m:Nat)(σ:St)(H':Hp):Prop:=∃(pre r:List Nat)(done rest:List Pc)(us:List V)(o1 o2:Option V),
 σ=[some (.str t),some (.ref p),some (.int (pre.length:Int)),o1,o2]/\t.cps.toList=pre++r/\Spell r rest/\ps=done++rest/\H' p=some (.lst us)/\RPs H' us done/\Same H H'/\m=r.length
theorem zdL{H H':Hp}{p:Addr}{o:HO}(hp:H p=none)(s:Same H H'):Same H (upd H' p o):=fun b u e=>by
 rw[zA (zn e hp)]
 exact s b u e
theorem Zg:FnScope ["text","pieces","place","sign","end"] ["text"] (zi zcf):=mkSc rfl (by decide +kernel)
theorem zgK(F:Fun K "pieces_of" "pieces_of" zcf f fd)(G_text_end:Have P w K mg base "text_end" k ["text","start"] (spTextEnd))(G_word_end:Have P w K mg base "word_end" k ["text","start"] (spWordEnd))(m_len:mg "len"=none)(m_BETWEEN:∃t,mg "BETWEEN"=some (.str zlH t)):FnOk P w K mg base CX0 (k+1) f fd ["text"] (spPieces):=by
 refine F.okQ Zg (by rintro _ _ _ _ ⟨_,_,rfl,_⟩;rfl) fun _ _ _ _ H vs Q E hr h=>?_
 obtain⟨t,ps,rfl,hs,hz,qq⟩:=h
 refine⟨_,(zd (zm (i:=1) Zg.nd rfl (Or.inl rfl) (zF zb))
  (zd (zm (i:=2) Zg.nd rfl (Or.inl rfl) ze)
  (zd (zaK tN (zk zgf (pv 2) (zj zB rfl m_len tF (za (pv 0) zb)) (nomark _)) (zd (zm (i:=3) Zg.nd rfl (Or.inl rfl) (zz ze2 (pv 0) (pv 2) (fun _ _=>rfl)))
  (zf (zE (zk zct (pv 3) (zbP rfl m_BETWEEN) (by rfl)) (zf (zdg (i:=2) Zg.nd rfl (Or.inl rfl) ze (zjI zdT))) (zf (zE (zk zct (pv 3) zg (by rfl)) (zd (Zm (ZZ tO tQ tP ZC (pv 1) (za (zy (za (pv 3) (za (pv 3) zb))) zb)))
  (zf (zdg (i:=2) Zg.nd rfl (Or.inl rfl) ze (zjI zdT)))) (zf (zE (zk zY (pv 3) zg (nomark _)) (zd (zm (i:=4) Zg.nd rfl (Or.inl rfl) (zo G_text_end hr rfl (za (pv 0) (za (pv 2) zb))))
  (zd (Zm (ZZ tO tQ tP ZC (pv 1) (za (zy (za zg (za (Zv zku (pv 0) (Zn (zu Zj (pv 2) ze)) (Zn (pv 4))) zb))) zb)))
  (zf (zm (i:=2) Zg.nd rfl (Or.inl rfl) (zu Zj (pv 4) ze))))) (zd (zm (i:=4) Zg.nd rfl (Or.inl rfl) (zo G_word_end hr rfl (za (pv 0) (za (pv 2) zb))))
  (zd (Zm (ZZ tO tQ tP ZC (pv 1) (za (zy (za zg (za (Zv zku (pv 0) (Zn (pv 2)) (Zn (pv 4))) zb))) zb)))
  (zf (zm (i:=2) Zg.nd rfl (Or.inl rfl) (pv 4)))))))))))))
  (zf (zl (pv 1)))))),nm4 ?_⟩
 intros
 refine⟨zl0,fun p hp=>?_⟩
 have hlen:∀{done rest:List Pc},ps=done++rest->done.length<=10000000:=fun {done rest} e=>by
  have:=hs.len
  rw[zH] at this
  have h2:ps.length=done.length+rest.length:=by rw[e];simp
  lia
 refine⟨PInv H t ps p,⟨_,[],_,[],ps,[],none,none,rfl,rfl,hs,rfl,zc,RPs.nil,Sn hp,rfl⟩,fun m σ' H' hW=>?_⟩
 obtain⟨pre,r,done,rest,us,o1,o2,rfl,ht,sp,hps,hpu,hru,s1,rfl⟩:=hW
 have hl:t.length=pre.length+r.length:=by rw[←zH,ht];simp
 refine⟨_,rfl,_,rfl,_,_,rfl,⟨zie (by lia),rfl⟩,_,_,rfl,rfl,_,rfl,?_⟩
 have hus:us.length<tH:=by
  rw[hru.len]
  exact xG (hlen hps) (by decide)
 have more:∀(a:Addr)(q:Pc)(H2:Hp),H2=upd (upd H' a (.tup (pcV q))) p (.lst (us++[.ref a]))->H' a=none->RPs H2 (us++[.ref a]) (done++[q])/\Same H H2/\H2 p=some (.lst (us++[.ref a])):=fun a q H2 e ha=>by
  subst e
  have ap:p≠a:=zn hpu ha
  have t1:Tups H' (upd H' a (.tup (pcV q))):=zfD ha
  have e1:upd H' a (.tup (pcV q)) p=some (.lst us):=by rw[zA ap];exact hpu
  have t2:Tups (upd H' a (.tup (pcV q))) (upd (upd H' a (.tup (pcV q))) p (.lst (us++[.ref a]))):=ZR e1
  refine⟨((hru.mono t1).mono t2).snoc ⟨a,rfl,t2 a _ zc⟩,zdL hp (s1.trans (Sn ha)),zc⟩
 refine ite2 (fun e=>?_) (fun e=>?_)
 ·have e1:((pre.length:Nat):Int)<((t.length:Nat):Int):=of_decide_eq_true e
  refine⟨_,fun _ _ h=>h,?_⟩
  cases r with
  |nil=>simp at hl;lia
  |cons c r=>
  have hat:atI t.cps.toList ((pre.length:Nat):Int)=some c:=zS (by rw[ht,yL (by lia)];simp)
  refine⟨_,rfl,_,rfl,t,_,c,rfl,rfl,zie (by lia),hat,?_⟩
  have go1:∀(x:Nat),((pre.length:Nat):Int)+1=(((pre++[x]).length:Nat):Int):=fun x=>by simp
  refine⟨_,rfl,_,_,rfl,rfl,_,rfl,?_⟩
  rw[zdm,znl]
  cases sp with
  |gap hg sp'=>
   rw[decide_eq_true hg]
   refine iteT ⟨_,rfl,_,_,rfl,rfl,r.length,by simp,pre++[c],r,done,rest,us,some (V.str ⟨#[c]⟩),o2,?_,by simp[ht],sp',hps,hpu,hru,s1,rfl⟩
   simp only[uI]
   rw[go1 c]
  | @op r' rest' sp'=>
   rw[decide_eq_false (by lia)]
   refine iteF ⟨_,rfl,_,_,rfl,rfl,_,rfl,?_⟩
   rw[show uV "()"=wBr from rfl,zdm,zlQ,decide_eq_true (.inl rfl)]
   refine iteT ⟨_,rfl,.inl ⟨rfl,_,Sl hpu⟩,_,rfl,_,rfl,zl2,fun a ha=>?_⟩
   have ap:p≠a:=zn hpu ha
   refine⟨p,us,.ref a,rfl,rfl,by rw[zA ap];exact hpu,hus,?_⟩
   obtain⟨m1,m2,m3⟩:=more a .op _ rfl ha
   refine⟨_,rfl,_,_,rfl,rfl,r.length,by simp,pre++[40],r,done++[Pc.op],rest',us++[V.ref a],some (V.str ⟨#[40]⟩),o2,?_,by simp[ht],sp',by rw[hps];simp,m3,m1,m2,rfl⟩
   simp only[uI]
   rw[go1 40]
  | @cl r' rest' sp'=>
   rw[decide_eq_false (by lia)]
   refine iteF ⟨_,rfl,_,_,rfl,rfl,_,rfl,?_⟩
   rw[show uV "()"=wBr from rfl,zdm,zlQ,decide_eq_true (.inr rfl)]
   refine iteT ⟨_,rfl,.inl ⟨rfl,_,Sl hpu⟩,_,rfl,_,rfl,zl2,fun a ha=>?_⟩
   have ap:p≠a:=zn hpu ha
   refine⟨p,us,.ref a,rfl,rfl,by rw[zA ap];exact hpu,hus,?_⟩
   obtain⟨m1,m2,m3⟩:=more a .cl _ rfl ha
   refine⟨_,rfl,_,_,rfl,rfl,r.length,by simp,pre++[41],r,done++[Pc.cl],rest',us++[V.ref a],some (V.str ⟨#[41]⟩),o2,?_,by simp[ht],sp',by rw[hps];simp,m3,m1,m2,rfl⟩
   simp only[uI]
   rw[go1 41]
  | @txt q r' rest' hq sp'=>
   rw[decide_eq_false (by lia)]
   refine iteF ⟨_,rfl,_,_,rfl,rfl,_,rfl,?_⟩
   rw[show uV "()"=wBr from rfl,zdm,zlQ,decide_eq_false (by lia)]
   refine iteF ⟨_,rfl,rfl,_,rfl,?_⟩
   rw[zdK,decide_eq_true rfl]
   refine iteT ⟨_,rfl,_,rfl,t,pre,q,r',rfl,ht,hq,hz,?_⟩
   refine⟨_,rfl,.inl ⟨rfl,_,Sl hpu⟩,_,rfl,_,rfl,_,_,rfl,rfl,_,rfl,_,rfl,_,rfl,t,rfl,by lia,zl2,fun a ha=>?_⟩
   have ec:Txt.slice t (some (((pre.length:Nat):Int)+1)) (some ((pre.length+1+q.length:Nat):Int))=⟨q.toArray⟩:=by
    have:=zif (pre:=pre++[34]) (q:=q) (r:=34::r') (t:=t) (by rw[ht];simp)
    rw[←go1 34] at this
    rw[show (pre++[(34:Nat)]).length+q.length=pre.length+1+q.length by simp] at this
    exact this
   have ap:p≠a:=zn hpu ha
   refine⟨p,us,.ref a,rfl,rfl,by rw[zA ap];exact hpu,hus,?_⟩
   rw[ec]
   obtain⟨m1,m2,m3⟩:=more a (.txt q) _ rfl ha
   refine⟨_,rfl,_,_,rfl,rfl,r'.length,by simp;lia,pre++(34::(q++[34])),r',done++[Pc.txt q],rest',us++[V.ref a],some (V.str ⟨#[34]⟩),some (V.int ((pre.length+1+q.length:Nat):Int)),?_,by simp[ht],sp',by rw[hps];simp,m3,m1,m2,rfl⟩
   simp only[uI]
   rw[show ((pre.length+1+q.length:Nat):Int)+1=(((pre++(34::(q++[34]))).length:Nat):Int) by simp;lia]
  | @word _ q r' rest' hc hq cut sp'=>
   have hne:∀x,zbc x=true->c≠x:=fun x hx z=>by rw[z,hx] at hc;cases hc
   rw[decide_eq_false (by intro z;rcases z with z|z<;>exact hne _ rfl z)]
   refine iteF ⟨_,rfl,_,_,rfl,rfl,_,rfl,?_⟩
   rw[show uV "()"=wBr from rfl,zdm,zlQ,decide_eq_false (by intro z;rcases z with z|z<;>exact hne _ rfl z)]
   refine iteF ⟨_,rfl,rfl,_,rfl,?_⟩
   rw[zdK,decide_eq_false (fun z=>hne 34 rfl (by simpa using z))]
   refine iteF ⟨_,rfl,_,rfl,t,pre,c::q,r',rfl,by rw[ht];simp,?_,cut,hz,?_⟩
   ·intro d hd
    rcases yG.mp hd with rfl|hd
    ·exact hc
    ·exact hq d hd
   refine⟨_,rfl,.inl ⟨rfl,_,Sl hpu⟩,_,rfl,_,rfl,_,rfl,_,rfl,_,rfl,t,rfl,by lia,zl2,fun a ha=>?_⟩
   have ec:=zif (pre:=pre) (q:=c::q) (r:=r') (t:=t) (by rw[ht];simp)
   have ap:p≠a:=zn hpu ha
   refine⟨p,us,.ref a,rfl,rfl,by rw[zA ap];exact hpu,hus,?_⟩
   rw[ec]
   obtain⟨m1,m2,m3⟩:=more a (.word (c::q)) _ rfl ha
   refine⟨_,rfl,r'.length,by simp;lia,pre++(c::q),r',done++[Pc.word (c::q)],rest',us++[V.ref a],some (V.str ⟨#[c]⟩),some (V.int ((pre.length+(c::q).length:Nat):Int)),?_,by simp[ht],sp',by rw[hps];simp,m3,m1,m2,rfl⟩
   simp only[uI]
   rw[yC]
 ·have e1:¬((pre.length:Nat):Int)<((t.length:Nat):Int):=fun z=>e (decide_eq_true z)
  have hr:r=[]:=yR.mp (by lia)
  subst hr
  cases sp
  exact⟨_,rfl,qq p us H' hp s1 hpu (by rw[hps];simpa using hru)⟩
inductive RTr(H:Hp):V->Tr->Prop where
 |word {a:Addr}{q:List Nat}:H a=some (.tup [.str "word",.str ⟨q.toArray⟩])->RTr H (.ref a) (.word q)
 |txt {a:Addr}{q:List Nat}:H a=some (.tup [.str "text",.str ⟨q.toArray⟩])->RTr H (.ref a) (.txt q)
 |lst {a b:Addr}{vs:List V}{ts:List Tr}:H a=some (.tup [.str "list",.ref b])->H b=some (.tup vs)->vs.length=ts.length->(∀(i:Nat)(v:V)(t:Tr),vs[i]?=some v->ts[i]?=some t->RTr H v t)->RTr H (.ref a) (.lst ts)
theorem RTr.mono{H H':Hp}(t:Tups H H'){v:V}{x:Tr}(h:RTr H v x):RTr H' v x:=by
 induction h with
 |word e=>exact .word (t _ _ e)
 |txt e=>exact .txt (t _ _ e)
 |lst e e2 l _ ih=>exact .lst (t _ _ e) (t _ _ e2) l ih
structure RTrs(H:Hp)(vs:List V)(ts:List Tr):Prop where
 len:vs.length=ts.length
 at':∀(i:Nat)(v:V)(t:Tr),vs[i]?=some v->ts[i]?=some t->RTr H v t
theorem RTrs.mono{H H':Hp}(t:Tups H H'){vs:List V}{ts:List Tr}(h:RTrs H vs ts):RTrs H' vs ts:=⟨h.len,fun i v p a b=>(h.at' i v p a b).mono t⟩
theorem RTrs.nil{H:Hp}:RTrs H [] []:=⟨rfl,fun i v p a=>by simp at a⟩
theorem RTrs.snoc{H:Hp}{vs:List V}{ts:List Tr}{v:V}{t:Tr}(h:RTrs H vs ts)(x:RTr H v t):RTrs H (vs++[v]) (ts++[t]):=by
 refine⟨by simp[h.len],fun i u q a b=>?_⟩
 by_cases hi:i<vs.length
 ·rw[yP hi] at a
  rw[yP (by rw[←h.len];exact hi)] at b
  exact h.at' i u q a b
 ·rw[yL (by lia)] at a
  rw[yL (by rw[←h.len];lia)] at b
  rw[←h.len] at b
  cases hk:i-vs.length with
  |zero=>
   rw[hk] at a b
   have a1:v=u:=by simpa using a
   have b1:t=q:=by simpa using b
   rw[←a1,←b1]
   exact x
  |succ n=>rw[hk] at a;simp at a
inductive Lv(H0 H:Hp):List Addr->List (List Tr)->Prop where
 |nil:Lv H0 H [] []
 |cons {a:Addr}{as:List Addr}{vs:List V}{ts:List Tr}{st:List (List Tr)}:H0 a=none->H a=some (.lst vs)->RTrs H vs ts->a ∉ as->Lv H0 H as st->Lv H0 H (a::as) (ts::st)
theorem Lv.len{H0 H:Hp}{as:List Addr}{st:List (List Tr)}(h:Lv H0 H as st):as.length=st.length:=by
 induction h with
 |nil=>rfl
 |cons _ _ _ _ _ ih=>simp[ih]
theorem Lv.mono{H0 H H':Hp}{as:List Addr}{st:List (List Tr)}(h:Lv H0 H as st)(t:Tups H H')(k:∀a∈as,H' a=H a):Lv H0 H' as st:=by
 induction h with
 |nil=>exact .nil
 |cons h0 e r n _ ih=>exact .cons h0 (by rw[k _ yV];exact e) (r.mono t) n (ih fun a ha=>k a (yM _ ha))
theorem Lv.some{H0 H:Hp}{as:List Addr}{st:List (List Tr)}(h:Lv H0 H as st):∀a∈as,H0 a=none/\∃vs,H a=some (.lst vs):=by
 induction h with
 |nil=>intro a ha;cases ha
 |cons h0 e _ _ _ ih=>
  intro a ha
  rcases yG.mp ha with rfl|ha
  ·exact⟨h0,_,e⟩
  ·exact ih a ha
inductive spTrees(vs:List V)(H:Hp)(Q:VK)(z3:XK):Prop
 |mk (t:Str) (ps:List Pc) (ts:List Tr) (_:vs=[.str t]) (_:Spell t.cps.toList ps) (_:run ps [[]]=some [ts]) (_:t.length<=10000000) (_:∀(p:Addr)(us:List V)(H':Hp),Same H H'->H' p=some (.lst us)->RTrs H' us ts->Q (.ref p) H')
noncomputable def wide(st:List (List Tr)):Nat:=(st.map (·.length)).sum
def TInv(H:Hp)(ps:List Pc)(ts:List Tr)(p L:Addr)(t:Str)(us:List V)(i:Nat)(σ:St)(H':Hp):Prop:=∃(as:List Addr)(st:List (List Tr))(o1 o2:Option V),
 σ=[some (.str t),some (.ref L),o1,o2]/\H L=none/\H' L=some (.lst (as.reverse.map V.ref))/\L ∉ as/\Lv H H' as st/\run (ps.drop i) st=some [ts]/\st≠[]/\st.length<=100/\wide st<=i/\H' p=some (.lst us)/\p ∉ as/\p≠L/\RPs H' us ps/\Same H H'
theorem znm{α:Type}{l:List α}{i:Nat}{x:α}(h:l[i]?=some x):l.drop i=x::l.drop (i+1):=by
 obtain⟨hi,e⟩:=yE.mp h
 rw[List.drop_eq_getElem_cons hi,e]
theorem zi9:uV "("=⟨#[40]⟩:=by decide +kernel
theorem zdw:uV ")"=⟨#[41]⟩:=by decide +kernel
theorem zfX(as:List Addr)(a:Addr):atI ((a::as).reverse.map V.ref) (-1)=some (.ref a):=by
 rw[List.reverse_cons,yK]
 exact zfq _ _
theorem zfY{H0 H':Hp}{ps:List Pc}{ts:List Tr}{p L a:Addr}{t:Str}{us vs:List V}{as:List Addr}{tr:List Tr}{st:List (List Tr)}{v:V}{x:Tr}{i:Nat}{o1 o2:Option V}
  (hL:H0 L=none) (eL:H' L=some (.lst ((a::as).reverse.map V.ref))) (nL:L ∉ a::as) (h0:H0 a=none) (ea:H' a=some (.lst vs)) (ra:RTrs H' vs tr) (na:a ∉ as) (lv:Lv H0 H' as st)
  (hrun:run (ps.drop (i+1)) ((tr++[x])::st)=some [ts]) (hst:st.length+1<=100) (hw:wide (tr::st)<=i) (ep:H' p=some (.lst us)) (np:p ∉ a::as) (pL:p≠L) (rp:RPs H' us ps) (s1:Same H0 H') (rx:RTr H' v x):
  TInv H0 ps ts p L t us (i+1) [some (.str t),some (.ref L),o1,o2] (upd H' a (.lst (vs++[v]))):=by
 have tp:Tups H' (upd H' a (.lst (vs++[v]))):=ZR ea
 have ne:∀{b:Addr},b ∉ a::as->b≠a:=fun hb z=>hb (z▸yV)
 refine⟨a::as,(tr++[x])::st,o1,o2,rfl,hL,by rw[zA (ne nL)];exact eL,nL,.cons h0 zc ((ra.mono tp).snoc (rx.mono tp)) na (lv.mono tp fun b hb=>zA fun z=>na (z▸hb)),hrun,by simp,by simpa using hst,?_,by rw[zA (ne np)];exact ep,np,pL,rp.mono tp,zdL h0 s1⟩
 simp only[wide,yJ,wH,yC,xQ] at hw ⊢
 lia
theorem zbg:FnScope ["text","levels","piece","inner"] ["text"] (zi zc1):=mkSc rfl (by decide +kernel)
theorem zht(F:Fun K "trees_of" "trees_of" zc1 f fd)(G_pieces_of:Have P w K mg base "pieces_of" k ["text"] (spPieces))(m_len:mg "len"=none)(m_tuple:mg "tuple"=none)(m_MOST_BRACKETS:∃t,mg "MOST_BRACKETS"=some (.int 100 t)):FnOk P w K mg base CX0 (k+1) f fd ["text"] (spTrees):=by
 refine F.okQ zbg (by rintro _ _ _ _ ⟨_,_,_,rfl,_⟩;rfl) fun _ _ _ _ H vs Q E hr h=>?_
 obtain⟨t,ps,ts,rfl,hs,hrun,hz,qq⟩:=h
 refine⟨_,(zd (zm (i:=1) zbg.nd rfl (Or.inl rfl) (zF (za (zF zb) zb)))
  (zd (zaL tN rfl (ZX (zo G_pieces_of hr rfl (za (pv 0) zb))) (Zb (i:=2) zbg.nd rfl (Or.inl rfl)) (zf (zE (zk zY (zz zw (pv 2) ze (fun _ _=>rfl)) zg (nomark _)) (zd (Zm (ZZ tO tQ tP ZC (pv 1) (za (zF zb) zb)))
  (zf (zE (zk zcs (zj zB rfl m_len tF (za (pv 1) zb)) (Zz rfl m_MOST_BRACKETS) (nomark _)) zU zq))) (zf (zE (zk zY (zz zw (pv 2) ze (fun _ _=>rfl)) zg (nomark _)) (zd (zE (zk zY (zj zB rfl m_len tF (za (pv 1) zb)) ze (nomark _)) zU zq)
  (zd (zm (i:=3) zbg.nd rfl (Or.inl rfl) (zdj tO PySem.F.slot_list_pop PySem.F.type_list_pop zhP (pv 1)))
  (zf (Zm (ZZ tO tQ tP ZC (zz Zd (pv 1) (zeJ zdh ze) (fun _ _=>rfl)) (za (zy (za zg (za (zD zK rfl m_tuple zC (za (pv 3) zb)) zb))) zb)))))) (zf (Zm (ZZ tO tQ tP ZC (zz Zd (pv 1) (zeJ zdh ze) (fun _ _=>rfl)) (za (pv 2) zb)))))))))
  (zd (zE (zk zcs (zj zB rfl m_len tF (za (pv 1) zb)) ze (nomark _)) zU zq)
  (zf (zl (zz Zd (pv 1) ze (fun _ _=>rfl))))))),nm4 ?_⟩
 intros
 refine⟨zl0,fun a ha=>⟨zl1,fun L hL=>?_⟩⟩
 have sA:=Sn (o:=.lst []) ha
 have sL:=Sn (o:=.lst [.ref a]) hL
 refine⟨_,rfl,t,ps,rfl,hs,hz,fun p us H1 hp s1 ep rp=>?_⟩
 have hLa:L≠a:=fun z=>by
  rw[z,zc] at hL
  cases hL
 have hHL:H L=none:=by
  rw[zA hLa] at hL
  exact hL
 have hpL:p≠L:=fun z=>by rw[z,zc] at hp;cases hp
 have hpa:p≠a:=fun z=>by rw[z,zA (Ne.symm hLa),zc] at hp;cases hp
 have eL1:H1 L=some (.lst [.ref a]):=s1 _ _ zc
 have ea1:H1 a=some (.lst []):=s1 _ _ (sL _ _ zc)
 have sH1:Same H H1:=(sA.trans sL).trans s1
 have hbig:ps.length<=10000000:=by
  have:=hs.len
  rw[zH] at this
  lia
 refine⟨p,rfl,⟨_,Sl ep⟩,zdG (xs:=us) (TInv H ps ts p L t us)
  ⟨[a],[[]],none,none,rfl,hHL,eL1,by simp[hLa],.cons ha ea1 RTrs.nil (by simp) .nil,by simpa using hrun,by simp,by simp,by simp[wide],ep,by simp[hpa],hpL,rp,sH1⟩
  (fun i σ' H' _ h=>by obtain⟨as,st,o1,o2,_,_,_,_,_,_,_,_,_,e,_⟩:=h;exact Sl e) (fun i x σ' H' hx h=>?_) (fun σ' H' h=>?_)⟩
 ·obtain⟨as,st,o1,o2,rfl,_,eL,nL,lv,hr2,hst,hst2,hw,ep2,np,_,rp2,s2⟩:=h
  have hi:i<us.length:=(yE.mp hx).1
  have hi2:i<ps.length:=by rw[←rp2.len];exact hi
  have hq:ps[i]?=some ps[i]:=yB hi2
  obtain⟨b,rfl,eb⟩:=rp2.at' i x _ hx hq
  rw[znm hq] at hr2
  dsimp only[zW]
  have hwl:∀{tr:List Tr}{rest:List (List Tr)}{vs:List V},wide (tr::rest)<=i->vs.length=tr.length->vs.length<tH:=fun {tr rest vs} h1 h2=>by
   simp only[wide,yJ,wH] at h1
   exact xG (show vs.length<=10000000 by lia) (by decide)
  cases hpc:ps[i] with
  |op=>
   rw[hpc] at eb hr2
   refine⟨_,rfl,b,_,0,_,rfl,rfl,Sq eb,rfl,rfl,_,rfl,?_⟩
   rw[zi9,decide_eq_true rfl]
   have hlt:st.length<100:=by
    by_cases z:st.length<100
    ·exact z
    ·simp only[run,if_neg z] at hr2;cases hr2
   simp only[run,if_pos hlt] at hr2
   refine iteT ⟨_,rfl,.inl ⟨rfl,_,Sl eL⟩,zl0,fun c hc=>?_⟩
   have cL:L≠c:=zn eL hc
   have nas:c ∉ as:=fun z=>by
    obtain⟨_,vs,e⟩:=lv.some c z
    rw[hc] at e;cases e
   have hHc:H c=none:=by
    cases e:H c with
    |none=>rfl
    |some o=>rw[s2 _ _ e] at hc;cases hc
   have cp:p≠c:=zn ep2 hc
   have eL2:upd H' c (.lst []) L=some (.lst (as.reverse.map V.ref)):=by rw[zA cL];exact eL
   refine⟨L,_,.ref c,rfl,rfl,eL2,xG (show (as.reverse.map V.ref).length<=10000000 by simp;have:=lv.len;lia) (by decide),?_⟩
   have t1:Tups H' (upd H' c (.lst [])):=zfD hc
   have t2:Tups (upd H' c (.lst [])) (upd (upd H' c (.lst [])) L (.lst (as.reverse.map V.ref++[.ref c]))):=ZR eL2
   refine⟨_,rfl,_,_,rfl,.inl ⟨_,Sl zc,rfl⟩,_,_,rfl,rfl,_,rfl,?_⟩
   have hlen:((as.reverse.map V.ref++[V.ref c]).length:Nat)=st.length+1:=by simp[lv.len]
   rw[hlen,decide_eq_false (by lia)]
   refine iteF ⟨c::as,[]::st,_,_,rfl,hHL,?_,?_,.cons hHc ?_ RTrs.nil nas (lv.mono (fun a vs e=>t2 a vs (t1 a vs e)) fun z hz=>?_),hr2,by simp,(by simp;lia),?_,?_,?_,hpL,(rp2.mono t1).mono t2,zdL hHL (s2.trans (Sn hc))⟩
   ·rw[zc];simp
   ·intro z
    rcases yG.mp z with z|z
    ·exact cL z
    ·exact nL z
   ·rw[zA (Ne.symm cL),zc]
   ·rw[zA (show z≠L from fun e=>nL (by rw[←e];exact hz)),zA (show z≠c from fun e=>nas (by rw[←e];exact hz))]
   ·simp only[wide,yJ,wH,List.length_nil] at hw ⊢
    lia
   ·rw[zA hpL,zA cp];exact ep2
   ·intro z
    rcases yG.mp z with z|z
    ·exact cp z
    ·exact np z
  |cl=>
   rw[hpc] at eb hr2
   refine⟨_,rfl,b,_,0,_,rfl,rfl,Sq eb,rfl,rfl,_,rfl,?_⟩
   rw[zi9,decide_eq_false (by intro z;exact absurd (by simpa using z:(⟨#[41]⟩:Str)=⟨#[40]⟩) (by decide))]
   refine iteF ⟨_,rfl,b,_,0,_,rfl,rfl,Sq eb,rfl,rfl,_,rfl,?_⟩
   rw[zdw,decide_eq_true rfl]
   cases lv with
   |nil=>exact absurd rfl hst
   | @cons a1 as1 vs1 tr1 st1 h0 ea ra na lv1=>
   cases lv1 with
   |nil=>simp only[run] at hr2;cases hr2
   | @cons a2 as2 vs2 tr2 st2 h02 ea2 ra2 na2 lv2=>
   simp only[run] at hr2
   have hlen:(((a1::a2::as2).reverse.map V.ref).length:Nat)=as2.length+2:=by simp
   refine iteT ⟨_,rfl,_,_,rfl,.inl ⟨_,Sl eL,rfl⟩,rfl,_,rfl,?_⟩
   rw[hlen,decide_eq_false (fun z=>by injection z with z;lia)]
   have e12:a1≠a2:=fun z=>na (z▸yV)
   have nL1:L≠a1:=fun z=>nL (z▸yV)
   have nL2:L≠a2:=fun z=>nL (z▸yM _ yV)
   refine iteF ⟨_,rfl,.inl ⟨rfl,_,Sl eL⟩,L,_,.ref a1,rfl,rfl,eL,?_,?_⟩
   ·simp
   have hdl:((a1::a2::as2).reverse.map V.ref).dropLast=(a2::as2).reverse.map V.ref:=by
    rw[List.reverse_cons,yK]
    simp
   rw[hdl]
   have t1:Tups H' (upd H' L (.lst ((a2::as2).reverse.map V.ref))):=ZR eL
   have ea2':upd H' L (.lst ((a2::as2).reverse.map V.ref)) a2=some (.lst vs2):=by rw[zA (Ne.symm nL2)];exact ea2
   have ea1':upd H' L (.lst ((a2::as2).reverse.map V.ref)) a1=some (.lst vs1):=by rw[zA (Ne.symm nL1)];exact ea
   refine⟨_,rfl,_,rfl,L,_,-1,_,rfl,rfl,Sl zc,zfX as2 a2,.inl ⟨rfl,_,Sl ea2'⟩,_,rfl,a1,vs1,rfl,.inl ⟨Sl ea1',fun c hc=>?_⟩⟩
   refine⟨zl2,fun d hd=>?_⟩
   have s3:=Sn (o:=.tup vs1) hc
   have s4:=Sn (o:=.tup [.str "list",.ref c]) hd
   have s34:=s3.trans s4
   have t34:Tups H' _:=fun x vs e=>s34 _ _ (t1 x vs e)
   have hvs2:vs2.length<tH:=by
    rw[ra2.len]
    simp only[wide,yJ,wH] at hw
    exact xG (show tr2.length<=10000000 by lia) (by decide)
   refine⟨a2,vs2,.ref d,rfl,rfl,s34 _ _ ea2',hvs2,?_⟩
   have hlv2:Lv H _ as2 st2:=lv2.mono t34 fun z hz=>by
    obtain⟨_,vz,ez⟩:=lv2.some z hz
    have zL:z≠L:=fun e=>nL (e▸yM _ (yM _ hz))
    rw[s34 _ _ (show upd H' L (.lst ((a2::as2).reverse.map V.ref)) z=some (.lst vz) by rw[zA zL];exact ez),ez]
   refine zfY hHL (s34 _ _ zc) (fun z=>nL (yM _ z)) h02 (s34 _ _ ea2') (ra2.mono t34) na2 hlv2 hr2 ?_ ?_ (s34 _ _ (by rw[zA hpL];exact ep2)) (fun z=>np (yM _ z)) hpL (rp2.mono t34) ((zdL hHL s2).trans s34) (.lst (b:=c) (vs:=vs1) zc ?_ ?_ ?_)
   ·simp at hst2;lia
   ·simp only[wide,yJ,wH] at hw ⊢
    lia
   ·exact s4 _ _ zc
   ·exact ra.len
   ·exact fun j v x e1 e2=>(ra.at' j v x e1 e2).mono t34
  |txt q=>
   rw[hpc] at eb hr2
   refine⟨_,rfl,b,_,0,_,rfl,rfl,Sq eb,rfl,rfl,_,rfl,?_⟩
   rw[zi9,decide_eq_false (by intro z;exact absurd (by simpa using z:(uV "text")=⟨#[40]⟩) (by decide +kernel))]
   refine iteF ⟨_,rfl,b,_,0,_,rfl,rfl,Sq eb,rfl,rfl,_,rfl,?_⟩
   rw[zdw,decide_eq_false (by intro z;exact absurd (by simpa using z:(uV "text")=⟨#[41]⟩) (by decide +kernel))]
   cases lv with
   |nil=>exact absurd rfl hst
   | @cons a1 as1 vs1 tr1 st1 h0 ea ra na lv1=>
   simp only[run] at hr2
   refine iteF ⟨_,rfl,_,rfl,L,_,-1,_,rfl,rfl,Sl eL,zfX as1 a1,.inl ⟨rfl,_,Sl ea⟩,_,rfl,a1,vs1,.ref b,rfl,rfl,ea,hwl hw ra.len,?_⟩
   exact zfY hHL eL nL h0 ea ra na lv1 hr2 (by simpa using hst2) hw ep2 np hpL rp2 s2 (.txt eb)
  |word q=>
   rw[hpc] at eb hr2
   refine⟨_,rfl,b,_,0,_,rfl,rfl,Sq eb,rfl,rfl,_,rfl,?_⟩
   rw[zi9,decide_eq_false (by intro z;exact absurd (by simpa using z:(uV "word")=⟨#[40]⟩) (by decide +kernel))]
   refine iteF ⟨_,rfl,b,_,0,_,rfl,rfl,Sq eb,rfl,rfl,_,rfl,?_⟩
   rw[zdw,decide_eq_false (by intro z;exact absurd (by simpa using z:(uV "word")=⟨#[41]⟩) (by decide +kernel))]
   cases lv with
   |nil=>exact absurd rfl hst
   | @cons a1 as1 vs1 tr1 st1 h0 ea ra na lv1=>
   simp only[run] at hr2
   refine iteF ⟨_,rfl,_,rfl,L,_,-1,_,rfl,rfl,Sl eL,zfX as1 a1,.inl ⟨rfl,_,Sl ea⟩,_,rfl,a1,vs1,.ref b,rfl,rfl,ea,hwl hw ra.len,?_⟩
   exact zfY hHL eL nL h0 ea ra na lv1 hr2 (by simpa using hst2) hw ep2 np hpL rp2 s2 (.word eb)
 ·obtain⟨as,st,o1,o2,rfl,_,eL,nL,lv,hr2,hst,hst2,hw,ep2,np,_,rp2,s2⟩:=h
  rw[rp2.len,List.drop_length] at hr2
  simp only[run,Option.some.injEq] at hr2
  subst hr2
  cases lv with
  | @cons a1 as1 vs1 tr1 st1 h0 ea ra na lv1=>
  cases lv1
  refine⟨_,rfl,_,_,rfl,.inl ⟨_,Sl eL,rfl⟩,_,_,rfl,rfl,_,rfl,iteF ?_⟩
  exact⟨_,rfl,L,_,0,_,rfl,rfl,Sl eL,rfl,qq a1 vs1 H' s2 ea ra⟩
theorem zlR(i:Int):(uV (toString i)).cps.toList=numC i:=by
 unfold numC
 by_cases h:0<=i
 ·rw[if_pos h]
  obtain⟨m,rfl⟩:=Int.eq_ofNat_of_zero_le h
  rw[PySem.W.KIN.signs_num]
  rfl
 ·rw[if_neg h]
  obtain⟨m,rfl⟩:∃m:Nat,i=Int.negSucc m:=by
   cases i with
   |ofNat m=>exact absurd (Int.natCast_nonneg m) h
   |negSucc m=>exact⟨m,rfl⟩
  rw[PyProof.Rows.signs_ofString]
  show ("-"++Nat.repr (m+1)).toList.map Char.toNat=45::digs (m+1)
  rw[String.toList_append,yK,Nat.toList_repr]
  rfl
theorem zig(i:Int):∀c∈numC i,c=45\/(48<=c/\c<=57):=by
 unfold numC
 intro c hc
 split at hc
 ·exact .inr (zbb _ c hc)
 ·rcases yG.mp hc with rfl|hc
  ·exact .inl rfl
  ·exact .inr (zbb _ c hc)
theorem zkv(i:Int):numC i≠[]:=by
 unfold numC
 split
 ·exact zec _
 ·simp
theorem zcL{i:Int}(h1:-(10 ^ 60)<i)(h2:i<10 ^ 60):(numC i).length<=61:=by
 unfold numC
 split
 ·have:=zfO 60 i.toNat (by decide) (by lia)
  lia
 ·have:=zfO 60 i.natAbs (by decide) (by lia)
  rw[yF]
  lia
theorem zlS(i:Int):∀c∈numC i,zbc c=false:=fun c hc=>by
 have:=zig i c hc
 simp only[zbc,vM,beq_eq_false_iff_ne]
 lia
theorem zih(m:Nat):NumText.digitsVal (digs m)=m:=PySem.W.KIN.val_back m
theorem zlT{x:Str}{i:Int}(hx:x.cps.toList=numC i)(h1:-(10 ^ 60)<i)(h2:i<10 ^ 60):intText? x=some i:=by
 have hl:x.length<=4300:=by
  rw[←zH,hx]
  have:=zcL h1 h2
  lia
 by_cases h:0<=i
 ·have e:numC i=digs i.toNat:=by unfold numC;rw[if_pos h]
  rw[e] at hx
  have:=intText_digits (x:=x) (by rw[hx];exact zbb _) (by rw[hx];exact zec _) hl
  rw[hx,zih] at this
  rw[this]
  congr 1
  lia
 ·have e:numC i=45::digs i.natAbs:=by unfold numC;rw[if_neg h]
  rw[e] at hx
  have:=intText_neg (x:=x) hx (zbb _) (zec _) hl
  rw[zih] at this
  rw[this]
  congr 1
  lia
mutual
theorem zfi:∀w:W,w.Ok->((shW numC w).length:Int)+1<=64*w.size
 |.num i,h=>by
  have:=zcL h.1 h.2
  show ((numC i).length:Int)+1<=64*1
  lia
 |.txt x,h=>by
  show (((34::(x.cps.toList++[34])).length:Nat):Int)+1<=64*(1+(x.length:Int))
  rw[yF,yC,zH]
  simp
  lia
 |.lst ws,h=>by
  have:=shs_len ws h.2
  show (((40::(shWs numC ws++[41])).length:Nat):Int)+1<=64*(1+sizes ws)
  rw[yF,yC]
  simp
  lia
theorem shs_len:∀ws:List W,Oks ws->((shWs numC ws).length:Int)<=64*sizes ws
 |[],_=>by simp[shWs,sizes]
 |[w],h=>by
  have:=zfi w h.1
  simp only[shWs,sizes]
  lia
 |w::v::r,h=>by
  have h1:=zfi w h.1
  have h2:=shs_len (v::r) h.2
  show (((shW numC w++32::shWs numC (v::r)).length:Nat):Int)<=64*(w.size+sizes (v::r))
  rw[yC,yF]
  lia
end
inductive spShow(n:Nat)(vs:List V)(H:Hp)(Q:VK)(z3:XK):Prop
 |mk (v:V) (w:W) (_:vs=[v]) (_:RW H v w) (_:w.Ok) (_:w.size<=1000) (_:w.depth<n) (_:∀(x:Str)(H':Hp),x.cps.toList=shW numC w->Same H H'->Q (.str x) H')
theorem zdM:∀ws:List W,trWs numC ws=ws.map (trW numC)
 |[]=>rfl
 |w::r=>by simp only[trWs,yJ,zdM r]
theorem zcM(ys:List Str):∀ts:List Tr,ys.map (fun y=>y.cps.toList)=ts.map shT->(Txt.join (uV " ") ys).cps.toList=shTs ts:=by
 have fold:∀(r:List Str)(acc:Array Nat),(r.foldl (fun acc p=>acc++(uV " ").cps++p.cps) acc).toList=acc.toList++(r.map fun y=>32::y.cps.toList).flatten:=fun r=>by
  induction r with
  |nil=>intro acc;simp
  |cons c r ih=>
   intro acc
   rw[wN,ih]
   have e0:(uV " ").cps.toList=[32]:=by decide +kernel
   simp[e0]
 cases ys with
 |nil=>
  intro ts h
  cases ts with
  |nil=>rw[shTs];rfl
  |cons w r=>simp at h
 |cons y r=>
  intro ts h
  show (r.foldl (fun acc p=>acc++(uV " ").cps++p.cps) y.cps).toList=_
  rw[fold]
  have gen:∀(r:List Str)(w:Tr)(vs:List Tr),r.map (fun y=>y.cps.toList)=vs.map shT->shT w++(r.map fun y=>32::y.cps.toList).flatten=shTs (w::vs):=fun r=>by
   induction r with
   |nil=>
    intro w vs e
    cases vs with
    |nil=>simp[shTs]
    |cons v vs=>simp at e
   |cons z r ih=>
    intro w vs e
    cases vs with
    |nil=>simp at e
    |cons v vs=>
     have e1:z.cps.toList=shT v/\r.map (fun y=>y.cps.toList)=vs.map shT:=by simpa using e
     have:=ih v vs e1.2
     rw[shTs,←this,←e1.1]
     simp
  cases ts with
  |nil=>simp at h
  |cons w vs=>
   have e1:y.cps.toList=shT w/\r.map (fun y=>y.cps.toList)=vs.map shT:=by simpa using h
   rw[e1.1]
   exact gen r w vs e1.2
theorem zja(ys:List Str)(ws:List W)(h:ys.map (fun y=>y.cps.toList)=ws.map (shW numC)):(Txt.join (uV " ") ys).cps.toList=shWs numC ws:=by
 rw[←shTs_W]
 refine zcM ys _ ?_
 rw[h,zdM,xN]
 exact uK fun w _=>(zbd numC w).symm
theorem zkw{ws:List W}:∀w∈ws,w.size<=sizes ws:=by
 induction ws with
 |nil=>intro w hw;cases hw
 |cons x r ih=>
  intro w hw
  have h1:=zhT x
  have h2:=sizes_nn r
  simp only[sizes]
  rcases yG.mp hw with rfl|hw
  ·lia
  ·have:=ih w hw
   lia
theorem znn(ys:List Str):∀ws:List W,Oks ws->ys.map (fun y=>y.cps.toList)=ws.map (shW numC)->(((ys.map (·.length)).sum+ys.length:Nat):Int)<=64*sizes ws:=by
 induction ys with
 |nil=>
  intro ws _ h
  cases ws with
  |nil=>simp[sizes]
  |cons w r=>simp at h
 |cons y r ih=>
  intro ws ok h
  cases ws with
  |nil=>simp at h
  |cons w vs=>
   have e1:y.cps.toList=shW numC w/\r.map (fun y=>y.cps.toList)=vs.map (shW numC):=by simpa using h
   have:=ih vs ok.2 e1.2
   have h2:=zfi w ok.1
   rw[←e1.1,zH] at h2
   simp only[yJ,wH,yF,sizes]
   lia
theorem strOf(x:Str):x=⟨x.cps.toList.toArray⟩:=by cases x;simp
theorem zfZ:FnScope ["worth"] ["worth"] (zi zbx):=mkSc rfl (by decide +kernel)
theorem zf0{n:Nat}(F:Fun K "show_worth" "show_worth" zbx f fd)(G_show_worth:Have P w K mg base "show_worth" k ["worth"] (spShow n))(m_isi:mg "isinstance"=none)(m_str:mg "str"=none)(m_tuple:mg "tuple"=none):FnOk P w K mg base CX0 (k+1) f fd ["worth"] (spShow (n+1)):=by
 refine F.okQ zfZ (by rintro _ _ _ _ ⟨_,_,rfl,_⟩;rfl) fun _ _ _ _ H vs Q E hr h=>?_
 obtain⟨v,x,rfl,rx,ok,hsz,hd,q⟩:=h
 refine⟨_,(zd (zE (zX (zj zP rfl m_isi zQ (za (pv 0) (za (ZP rfl m_tuple zC) zb)))) (zf (zl (zu zx (zu zx zg (ZZ tT tX tW zba zg (za (zN [] [] rfl rfl (by decide +kernel) rfl (by decide +kernel) rfl (by decide +kernel) trivial rfl trivial (zaq (pv 0)) (fun C s H fp=>⟨zM,(zo G_show_worth hr rfl (za (pv 0) zb))⟩)) zb))) zg))) zq)
  (zd (zE (zX (zj zP rfl m_isi zQ (za (pv 0) (za (ZP rfl m_str ZI) zb)))) (zf (zl (zu zx (zu zx zg (pv 0)) zg))) zq)
  (zf (zl (zD zgi rfl m_str ZI (za (pv 0) zb)))))),nm3 ?_⟩
 intros
 cases rx with
 |num i=>
  refine⟨_,rfl,_,_,_,_,rfl,.int i,zb1,_,rfl,iteF ⟨_,rfl,_,_,_,_,rfl,.int i,ze6,_,rfl,iteF ?_⟩⟩
  have hlog:i.natAbs.log2<1920:=by
   by_cases h0:i.natAbs=0
   ·rw[h0];decide
   ·have h1:=ok.1
    have h2:=ok.2
    have:=(Nat.log2_lt h0).mpr (show i.natAbs<2 ^ 200 by
     have:(10:Int) ^ 60<2 ^ 200:=by decide
     lia)
    lia
  exact⟨_,rfl,i,rfl,hlog,q _ _ (zlR i) (Sr _)⟩
 |txt x=>
  refine⟨_,rfl,_,_,_,_,rfl,.str x,zb2,_,rfl,iteF ⟨_,rfl,_,_,_,_,rfl,.str x,zdl,_,rfl,iteT ?_⟩⟩
  have hx:x.length<=400:=ok.1
  have l1:(uV "\"").length=1:=by decide +kernel
  refine⟨_,rfl,_,_,rfl,rfl,small (by rw[l1];lia),_,_,rfl,rfl,small (by rw[zt,l1];lia),q _ _ ?_ (Sr _)⟩
  rw[zT,zT,zdK]
  simp[shW]
 | @lst a vs ws e l at'=>
  refine⟨_,rfl,_,_,_,_,rfl,.tup e,zbt,_,rfl,iteT ?_⟩
  have hl60:ws.length<=60:=ok.1
  have hsz2:1+sizes ws<=1000:=hsz
  have hd2:1+depths ws<n+1:=hd
  dsimp +zetaDelta only [tRet,tOp,tC,tBM,ZY,tNil]
  refine⟨rfl,?_⟩
  refine zcT (ws.map fun w=>V.str ⟨(shW numC w).toArray⟩) (by rfl) (Sq e) (by rw[yA,l]) (small (by lia)) (fun i v y H1 R hv hy s1 hR=>?_) (fun H1 D s1 hD=>?_)
  ·rw[yN] at hy
   obtain⟨wi,hwi,rfl⟩:=xV.mp hy
   have hm:=xB hwi
   have hdm:=zc4 wi hm
   have hsm:=zkw wi hm
   refine⟨_,rfl,v,wi,rfl,(at' i v wi hv hwi).mono (zcH s1),zjQ ok.2 wi hm,by lia,by lia,fun x H2 hx s2=>?_⟩
   rw[strOf x,hx]
   exact hR H2 s2
  ·have hmap:(ws.map fun w=>(⟨(shW numC w).toArray⟩:Str)).map (fun y=>y.cps.toList)=ws.map (shW numC):=by rw[xN];simp[Function.comp_def]
   have hb:=znn _ ws ok.2 hmap
   have l1:(uV " ").length=1:=by decide +kernel
   have hj:=zja _ ws hmap
   have hjl:((Txt.join (uV " ") (ws.map fun w=>(⟨(shW numC w).toArray⟩:Str))).length:Int)<=64000:=by
    rw[←zH,hj]
    have:=shs_len ws ok.2
    lia
   have la:(uV "(").length=1:=by decide +kernel
   have lb:(uV ")").length=1:=by decide +kernel
   refine⟨uV " ",D,ws.map fun w=>(⟨(shW numC w).toArray⟩:Str),rfl,rfl,Sl ?_,?_,_,_,rfl,rfl,small (by rw[la];lia),_,_,rfl,rfl,small (by rw[zt,la,lb];lia),q _ _ ?_ (s1.trans (Sn hD))⟩
   ·rw[zc,xN];rfl
   ·rw[l1,Nat.mul_one];lia
   ·rw[zT,zT,hj,zi9,zdw]
    simp[shW]
inductive spWritesNum(vs:List V)(H:Hp)(Q:VK)(z3:XK):Prop
 |mk (x:Str) (i:Int) (_:vs=[.str x]) (_:x.cps.toList=numC i) (_:-(10 ^ 60)<i) (_:i<10 ^ 60) (_:∀H',Same H H'->Q (.bl true) H')
inductive spNumOf(vs:List V)(H:Hp)(Q:VK)(z3:XK):Prop
 |mk (x:Str) (i:Int) (_:vs=[.str x]) (_:x.cps.toList=numC i) (_:-(10 ^ 60)<i) (_:i<10 ^ 60) (_:∀H',Same H H'->Q (.int i) H')
theorem zjb(x:Str)(c:Nat):Txt.startswith x ⟨#[c]⟩=decide (x.cps.toList[0]?=some c):=by
 unfold Txt.startswith
 rw[xF,yZ,decide_eq_true_iff,decide_eq_true_iff]
 have e:=StrLaws.subAt_one x c 0
 constructor
 ·intro h
  have:=e.mp ⟨by simpa using h.1,h.2⟩
  simpa using this
 ·intro h
  have:=e.mpr (by simpa using h)
  exact⟨by simpa using this.1,this.2⟩
theorem zlU:uV "-"=⟨#[45]⟩:=by decide +kernel
theorem zgL:uV "0"=⟨#[48]⟩:=by decide +kernel
theorem zkx(c:Nat)(h:48<=c/\c<=57):decide (c∈zlI.cps.toList)=true:=by
 rw[ziX,decide_eq_true_iff]
 simp
 lia
theorem zky{y:Str}{m:Nat}(hy:y.cps.toList=digs m)(hm:m<10 ^ 60):y.length<=60/\0<y.length/\∃c s,digs m=c::s/\(c=48->m=0):=by
 have h1:=zfO 60 m (by decide) hm
 have h2:=zec m
 rw[←hy,zH] at h1
 cases hd:digs m with
 |nil=>exact absurd hd h2
 |cons c s=>
  refine⟨h1,?_,c,s,rfl,fun e=>?_⟩
  ·rw[←zH,hy,hd];simp
  ·by_cases h0:m=0
   ·exact h0
   ·exact absurd e (zkf m (by lia) c s hd)
theorem zbn:FnScope ["word","figures"] ["word"] (zi zaC):=mkSc rfl (by decide +kernel)
theorem zdx(F:Fun K "writes_number" "writes_number" zaC f fd)(m_all:mg "all"=none)(m_len:mg "len"=none)(m_MOST_FIGURES:∃t,mg "MOST_FIGURES"=some (.int 60 t))(m_FIGURES:∃t,mg "FIGURES"=some (.str zlI t)):FnOk P w K mg base CX0 (k+1) f fd ["word"] (spWritesNum):=by
 refine F.okQ zbn (by rintro _ _ _ _ ⟨_,_,rfl,_⟩;rfl) fun _ _ _ _ H vs Q E hr h=>?_
 obtain⟨x,i,rfl,hx,h1,h2,q⟩:=h
 have hxl:x.length<=61:=by rw[←zH,hx];exact zcL h1 h2
 refine⟨_,(zd (zm (i:=1) zbn.nd rfl (Or.inl rfl) (zaJ (zX (ZZ tT PySem.F.slot_str_startswith PySem.F.type_str_startswith zke (pv 0) (za zg zb))) (Zv zm4 (pv 0) (Zn ze) zaR) (pv 0)))
  (zd (zE (PW.pt (Z6 (zk zY (pv 1) zg (nomark _)) (ZF (zk zcs (zj zB rfl m_len tF (za (pv 1) zb)) (Zz rfl m_MOST_FIGURES) (nomark _))))) (zf (zl Z5)) zq)
  (zd (zE (PW.pt (zbr (zk zY (zz ze2 (pv 1) ze (fun _ _=>rfl)) zg (nomark _)) (zay (zk zaz (pv 0) zg (nomark _))))) (zf (zl Z5)) zq)
  (zf (zl (zj (ZD rfl) rfl m_all za1 (za (zN [] [] rfl rfl (by decide +kernel) rfl (by decide +kernel) rfl (by decide +kernel) trivial rfl trivial (ze4 (pv 1)) (fun C s H fp=>⟨zM,(zJ zct (pv 0) (zbP rfl m_FIGURES) (by rfl))⟩)) zb))))))),nm4 ?_⟩
 intros
 refine seqI (fun σ' H'=>∃(y:Str)(m:Nat),σ'=[some (.str x),some (.str y)]/\H'=H/\y.cps.toList=digs m/\m<10 ^ 60/\(m=0->x=⟨#[48]⟩)) (fun σ' H' h=>?_) (fun tl=>?_)
 ·obtain⟨y,m,rfl,rfl,hy,hm,h0⟩:=h
  obtain⟨y1,y2,c,s',hd,hc⟩:=zky hy hm
  refine⟨_,rfl,rfl,_,rfl,?_⟩
  rw[decide_eq_false (fun z=>by injection z with z;rw[z] at y2;exact absurd y2 (by decide +kernel))]
  refine iteF ⟨_,rfl,_,_,rfl,⟨small (by lia),rfl⟩,_,_,rfl,rfl,_,rfl,?_⟩
  rw[decide_eq_false (by lia)]
  refine iteF ?_
  have hat:atI y.cps.toList 0=some c:=by
   rw[hy,hd]
   exact zS (j:=0) rfl
  refine⟨_,rfl,y,0,c,rfl,rfl,small (by lia),hat,rfl,_,rfl,?_⟩
  refine ite2 (fun e=>?_) (fun e=>iteF ?_)
  ·have ec:c=48:=by
    have:=of_decide_eq_true e
    rw[zgL] at this
    simpa using this
   refine⟨_,rfl,rfl,_,rfl,?_⟩
   rw[h0 (hc ec),zgL,decide_eq_true rfl]
   refine iteF ?_
   dsimp +zetaDelta only [zit,tRet,tCB,ZY,tNil]
   refine zfy (y.cps.toList.map fun c=>V.bl true) (by rfl) (by rw[yA];simp) (small (by have:y.cps.size=y.length:=rfl;lia)) (fun i c y' H1 R hc' hy' s1 hR=>?_) (fun H1 D s1 hD=>?_)
   ·have hc2:y.cps.toList[i]?=some c:=by simpa using hc'
    rw[yN,hc2] at hy'
    cases hy'
    refine⟨_,rfl,_,_,rfl,rfl,?_⟩
    rw[zdm,zkx c (zbb m c (by rw[←hy];exact xB hc2))]
    exact hR _ (Sr _)
   ·refine⟨D,y.cps.toList.map fun c=>true,rfl,Sl ?_,?_⟩
    ·rw[zc,xN];rfl
    ·have e3:(y.cps.toList.map fun c=>true).all id=true:=by simp
     rw[e3]
     exact q _ (s1.trans (Sn hD))
  ·dsimp +zetaDelta only [zit,tRet,tCB,ZY,tNil]
   refine zfy (y.cps.toList.map fun c=>V.bl true) (by rfl) (by rw[yA];simp) (small (by have:y.cps.size=y.length:=rfl;lia)) (fun i c y' H1 R hc' hy' s1 hR=>?_) (fun H1 D s1 hD=>?_)
   ·have hc2:y.cps.toList[i]?=some c:=by simpa using hc'
    rw[yN,hc2] at hy'
    cases hy'
    refine⟨_,rfl,_,_,rfl,rfl,?_⟩
    rw[zdm,zkx c (zbb m c (by rw[←hy];exact xB hc2))]
    exact hR _ (Sr _)
   ·refine⟨D,y.cps.toList.map fun c=>true,rfl,Sl ?_,?_⟩
    ·rw[zc,xN];rfl
    ·have e3:(y.cps.toList.map fun c=>true).all id=true:=by simp
     rw[e3]
     exact q _ (s1.trans (Sn hD))
 ·refine⟨_,rfl,rfl,x,_,rfl,rfl,_,rfl,?_⟩
  rw[zlU,zjb]
  by_cases h:0<=i
  ·have e:numC i=digs i.toNat:=by unfold numC;rw[if_pos h]
   rw[e] at hx
   have hn:¬x.cps.toList[0]?=some 45:=fun z=>by
    rw[hx] at z
    have:=zbb i.toNat 45 (xB z)
    lia
   rw[decide_eq_false hn]
   refine iteF ⟨_,rfl,tl _ _ ⟨x,i.toNat,rfl,rfl,hx,by lia,fun z=>?_⟩⟩
   rw[strOf x,hx,z,zkg]
  ·have e:numC i=45::digs i.natAbs:=by unfold numC;rw[if_neg h]
   rw[e] at hx
   rw[decide_eq_true (by rw[hx];rfl)]
   refine iteT ⟨_,rfl,_,rfl,x,rfl,by lia,tl _ _ ⟨_,i.natAbs,rfl,rfl,?_,by lia,fun z=>by lia⟩⟩
   have:=zlF (z:=x) (a:=1) (by rw[←zH,hx];simp)
   rw[hx] at this
   simpa using this
theorem zgM:FnScope ["word"] ["word"] (zi zcg):=mkSc rfl (by decide +kernel)
theorem zgN(F:Fun K "number_of" "number_of" zcg f fd)(G_writes_number:Have P w K mg base "writes_number" k ["word"] (spWritesNum))(m_int:mg "int"=none):FnOk P w K mg base CX0 (k+1) f fd ["word"] (spNumOf):=by
 refine F.okQ zgM (by rintro _ _ _ _ ⟨_,_,rfl,_⟩;rfl) fun _ _ _ _ H vs Q E hr h=>?_
 obtain⟨x,i,rfl,hx,h1,h2,q⟩:=h
 refine⟨_,(zd (zE (ZA (zX (zo G_writes_number hr rfl (za (pv 0) zb)))) zU zq)
  (zf (zl (zD zfM rfl m_int ZQ (za (pv 0) zb))))),nm2 ?_⟩
 intros
 refine⟨_,rfl,x,i,rfl,hx,h1,h2,fun H1 s1=>⟨_,rfl,iteF ?_⟩⟩
 exact⟨_,rfl,x,i,rfl,zlT hx h1 h2,(by rw[←zH,hx];have:=zcL h1 h2;lia),q H1 s1⟩
inductive spWTree(n:Nat)(vs:List V)(H:Hp)(Q:VK)(z3:XK):Prop
 |mk (v:V) (w:W) (_:vs=[v]) (_:RTr H v (trW numC w)) (_:w.Ok) (_:w.depth<n) (_:∀(u:V)(H':Hp),Same H H'->RW H' u w->Q u H')
theorem dWL:decide (V.str (uV "word")=V.str (uV "list"))=false:=by decide +kernel
theorem dTL:decide (V.str (uV "text")=V.str (uV "list"))=false:=by decide +kernel
theorem dWT:decide (V.str (uV "word")=V.str (uV "text"))=false:=by decide +kernel
theorem zdy:FnScope ["tree"] ["tree"] (zi zaD):=mkSc rfl (by decide +kernel)
theorem zdz{n:Nat}(F:Fun K "worth_of_tree" "worth_of_tree" zaD f fd)(G_number_of:Have P w K mg base "number_of" k ["word"] (spNumOf))(G_worth_of_tree:Have P w K mg base "worth_of_tree" k ["tree"] (spWTree n))(m_tuple:mg "tuple"=none):FnOk P w K mg base CX0 (k+1) f fd ["tree"] (spWTree (n+1)):=by
 refine F.okQ zdy (by rintro _ _ _ _ ⟨_,_,rfl,_⟩;rfl) fun _ _ _ _ H vs Q E hr h=>?_
 obtain⟨v,x,rfl,rt,ok,hd,q⟩:=h
 refine⟨_,(zd (zE (zk zY (zz zw (pv 0) ze (fun _ _=>rfl)) zg (nomark _)) (zf (zl (zD zK rfl m_tuple zC (za (zN [] [] rfl rfl (by decide +kernel) rfl (by decide +kernel) rfl (by decide +kernel) trivial rfl trivial (zaq (zz zw (pv 0) ze (fun _ _=>rfl))) (fun C s H fp=>⟨zM,(zo G_worth_of_tree hr rfl (za (pv 0) zb))⟩)) zb)))) zq)
  (zd (zE (zk zY (zz zw (pv 0) ze (fun _ _=>rfl)) zg (nomark _)) (zf (zl (zz zw (pv 0) ze (fun _ _=>rfl)))) zq)
  (zf (zl (zo G_number_of hr rfl (za (zz zw (pv 0) ze (fun _ _=>rfl)) zb)))))),nm3 ?_⟩
 intros
 cases x with
 |num i=>
  cases rt with
  | @word a _ e=>
  refine⟨_,rfl,a,_,0,_,rfl,rfl,Sq e,rfl,rfl,_,rfl,?_⟩
  rw[dWL]
  refine iteF ⟨_,rfl,a,_,0,_,rfl,rfl,Sq e,rfl,rfl,_,rfl,?_⟩
  rw[dWT]
  refine iteF ⟨_,rfl,a,_,1,_,rfl,rfl,Sq e,rfl,_,i,rfl,by simp,ok.1,ok.2,fun H1 s1=>q _ _ s1 (.num i)⟩
 |txt z=>
  cases rt with
  | @txt a _ e=>
  refine⟨_,rfl,a,_,0,_,rfl,rfl,Sq e,rfl,rfl,_,rfl,?_⟩
  rw[dTL]
  refine iteF ⟨_,rfl,a,_,0,_,rfl,rfl,Sq e,rfl,rfl,_,rfl,?_⟩
  rw[decide_eq_true rfl]
  refine iteT ⟨_,rfl,a,_,1,_,rfl,rfl,Sq e,rfl,q _ _ (Sr _) ?_⟩
  rw[←strOf z]
  exact .txt z
 |lst ws=>
  cases rt with
  | @lst a b vs _ e e2 l at'=>
  refine⟨_,rfl,a,_,0,_,rfl,rfl,Sq e,rfl,rfl,_,rfl,?_⟩
  rw[decide_eq_true rfl]
  refine iteT ?_
  have hl60:ws.length<=60:=ok.1
  have hd2:1+depths ws<n+1:=hd
  have l2:vs.length=ws.length:=by rw[l,zdM,yA]
  dsimp +zetaDelta only [tRet,tCB,ZY,tNil]
  refine zlD (a:=b) (vs:=vs) (fun i us H1=>RWs H1 us (ws.take i)/\i<=ws.length) (fun R h=>⟨_,rfl,a,_,1,_,rfl,rfl,Sq e,rfl,h⟩) (Sq e2) (small (by lia)) ⟨⟨rfl,fun i v w e=>by simp at e⟩,yS _⟩ (fun i us H1 h=>by rw[h.1.len,yY];lia) (fun i v us H1 R hv h s1 hR=>?_) (fun us H1 D h s1 hD=>?_)
  ·have hi:i<ws.length:=by rw[←l2];exact (yE.mp hv).1
   have hw:ws[i]?=some ws[i]:=yB hi
   have hm:=xB hw
   have hdm:=zc4 ws[i] hm
   have rt:=at' i v (trW numC ws[i]) hv (by rw[zdM,yN,hw];rfl)
   refine⟨_,rfl,v,ws[i],rfl,rt.mono (zcH s1),zjQ ok.2 _ hm,by lia,fun u H2 s2 ru=>hR u H2 s2 ⟨?_,hi⟩⟩
   rw[zR hw]
   exact (h.1.mono (zcH s2)).snoc ru
  ·have hr:=h.1
   rw[l2,xO] at hr
   refine⟨D,us,rfl,.inl ⟨Sl zc,fun t ht=>?_⟩⟩
   have s2:=(Sn (o:=.lst us) hD).trans (Sn (o:=.tup us) ht)
   exact q _ _ (s1.trans s2) (.lst zc hr.len fun i v w x y=>(hr.at' i v w x y).mono (zcH s2))
noncomputable def zkz:W->Bool
 |.lst _=>true
 |_=>false
noncomputable def litW:List Nat:=(uV "lit").cps.toList
noncomputable def nmT(z:Str):Tr:=.word z.cps.toList
mutual
noncomputable def trR:Rl->Tr
 |.lit x=>if zkz x=true then .lst [.word litW,trW numC x] else trW numC x
 |.var s=>nmT s
 |.op d bs ps=>.lst (nmT (woS d)::(bs.map nmT++trRs ps))
noncomputable def trRs:List Rl->List Tr
 |[]=>[]
 |p::r=>trR p::trRs r
end
theorem zfj{x:W}(h:zkz x=false):trR (.lit x)=trW numC x:=by rw[trR,h];rfl
theorem zhu{x:W}(h:zkz x=true):trR (.lit x)=.lst [.word litW,trW numC x]:=by rw[trR,if_pos h]
theorem zdN:∀ps:List Rl,trRs ps=ps.map trR
 |[]=>by rw[trRs];rfl
 |p::r=>by rw[trRs,zdN r];rfl
theorem zbh:∀{ts:List Tr},(∀t∈ts,t.Ok)->TrOks ts
 |[],_=>by rw[TrOks];trivial
 |t::r,h=>by rw[TrOks];exact⟨h t (by simp),zbh fun u hu=>h u (yM _ hu)⟩
mutual
theorem zfk:∀w:W,w.Ok->(trW numC w).Ok
 |.num i,h=>by rw[trW,Tr.Ok];exact⟨zkv i,zlS i⟩
 |.txt x,h=>by rw[trW,Tr.Ok];exact fun c hc=>(h.2 c hc).2.2.1
 |.lst ws,h=>by rw[trW,Tr.Ok];exact trWs_ok ws h.2
theorem trWs_ok:∀ws:List W,Oks ws->TrOks (trWs numC ws)
 |[],_=>by rw[trWs,TrOks];trivial
 |w::r,h=>by rw[trWs,TrOks];exact⟨zfk w h.1,trWs_ok r h.2⟩
end
theorem zno{c:Nat}(h:97<=c/\c<=122):zbc c=false:=by
 simp only[zbc,vM,beq_eq_false_iff_ne]
 lia
theorem Vr.tok{z:Str}(h:Vr z):(nmT z).Ok:=by
 unfold nmT
 rw[Tr.Ok]
 refine⟨fun e=>?_,fun c hc=>zno (h.2.2 c hc)⟩
 have h1:=h.1
 rw[←zH,e] at h1
 exact absurd h1 (by decide)
theorem zkA(d:Wo):(nmT (woS d)).Ok:=by
 have h:∀q:List Nat,q.isEmpty=false->(q.all fun c=>!zbc c)=true->(Tr.word q).Ok:=fun q h1 h2=>by
  rw[Tr.Ok]
  refine⟨fun e=>?_,fun c hc=>?_⟩
  ·rw[e] at h1
   cases h1
  ·have:=xY.mp h2 c hc
   simpa using this
 exact h _ (by cases d<;>decide +kernel) (by cases d<;>decide +kernel)
theorem znp:(Tr.word litW).Ok:=zkA .lit
mutual
theorem zmt:∀r:Rl,r.Gd->(trR r).Ok
 |.lit x,g=>by
  rw[Rl.Gd] at g
  rw[trR]
  split
  ·rw[Tr.Ok,TrOks,TrOks,TrOks]
   exact⟨znp,zfk x g.1,trivial⟩
  ·exact zfk x g.1
 |.var s,g=>by
  rw[Rl.Gd] at g
  rw[trR]
  exact Vr.tok g
 |.op d bs ps,g=>by
  rw[Rl.Gd] at g
  rw[trR,Tr.Ok,TrOks]
  refine⟨zkA d,zbh fun t ht=>?_⟩
  rcases yU.mp ht with ht|ht
  ·obtain⟨z,hz,rfl⟩:=yX.mp ht
   exact Vr.tok (g.1.2.2.2.1 z hz)
  ·exact trRs_ok ps g.2 t ht
theorem trRs_ok:∀ps:List Rl,Gds ps->∀t∈trRs ps,t.Ok
 |[],_,t,ht=>by rw[trRs] at ht;cases ht
 |p::r,g,t,ht=>by
  rw[Gds] at g
  rw[trRs] at ht
  rcases yG.mp ht with rfl|ht
  ·exact zmt p g.1
  ·exact trRs_ok r g.2 t ht
end
theorem zdO{ts:List Tr}{n:Nat}(h:∀t∈ts,t.deep<=n):deeps ts<=n:=by
 induction ts with
 |nil=>rw[deeps];lia
 |cons t r ih=>
  rw[deeps]
  have:=h t (by simp)
  have:=ih fun u hu=>h u (yM _ hu)
  lia
mutual
theorem zii:∀r:Rl,r.Gd->(trR r).deep<=r.high+13
 |.lit x,g=>by
  rw[Rl.Gd] at g
  have h1:x.depth<=12:=g.2.2
  rw[trR]
  split
  ·rw[Tr.deep,deeps,deeps,deeps,Tr.deep,zff];lia
  ·rw[zff];lia
 |.var s,g=>by rw[trR,nmT,Tr.deep];lia
 |.op d bs ps,g=>by
  rw[Rl.Gd] at g
  have h2:=trRs_deep ps g.2
  rw[trR,Tr.deep,deeps,Rl.high,nmT,Tr.deep]
  have:deeps (bs.map nmT++trRs ps)<=highs ps+12:=zdO fun t ht=>by
   rcases yU.mp ht with ht|ht
   ·obtain⟨z,hz,rfl⟩:=yX.mp ht
    rw[nmT,Tr.deep];lia
   ·exact h2 t ht
  lia
theorem trRs_deep:∀ps:List Rl,Gds ps->∀t∈trRs ps,t.deep<=highs ps+12
 |[],_,t,ht=>by rw[trRs] at ht;cases ht
 |p::r,g,t,ht=>by
  rw[Gds] at g
  rw[trRs] at ht
  rw[highs]
  rcases yG.mp ht with rfl|ht
  ·have:=zii p g.1
   lia
  ·have:=trRs_deep r g.2 t ht
   lia
end
def wid(ts:List Tr):Nat:=(ts.map fun t=>(shT t).length+1).sum
theorem zG(t:Tr)(r:List Tr):wid (t::r)=(shT t).length+1+wid r:=by unfold wid;rw[yJ,wH]
theorem zhv(a b:List Tr):wid (a++b)=wid a+wid b:=by unfold wid;rw[yK,List.sum_append]
theorem zbV:∀ts:List Tr,(shTs ts).length<=wid ts
 |[]=>by rw[shTs];exact yS _
 |[t]=>by rw[shTs,zG];lia
 |t::u::r=>by
  have:=zbV (u::r)
  rw[shTs,zG,yC,yF]
  lia
theorem zhw:∀bs:List Str,(∀z∈bs,Vr z)->wid (bs.map nmT)<=9*bs.length
 |[],_=>by rw[wQ];exact yS _
 |z::r,h=>by
  have h1:=zhw r fun y hy=>h y (yM _ hy)
  have h2:=(h z (by simp)).2.1
  rw[yJ,zG,nmT,shT,zH,yF]
  lia
theorem zkB(d:Wo):(shT (nmT (woS d))).length<=8:=by
 rw[nmT,shT,zH]
 cases d<;>decide +kernel
mutual
theorem zem:∀r:Rl,r.Gd->(shT (trR r)).length+1<=65000*r.many
 |.lit x,g=>by
  rw[Rl.Gd] at g
  have h1:=zfi x g.1
  have h2:x.size<=1000:=g.2.1
  rw[trR,Rl.many]
  split
  ·rw[shT,shTs,shTs,zbd,yF,yC,yC,yF,shT]
   have:litW.length=3:=by decide +kernel
   rw[this]
   show 3+(_+1)+1+1+1<=_
   lia
  ·rw[zbd];lia
 |.var s,g=>by
  rw[Rl.Gd] at g
  have h2:=g.2.1
  rw[trR,Rl.many,nmT,shT,zH]
  lia
 |.op d bs ps,g=>by
  rw[Rl.Gd] at g
  have h1:=shRs_len ps g.2
  have h2:=zhw bs g.1.2.2.2.1
  have h3:=zkB d
  have h4:=zcm d
  have h5:=g.1.2.2.1
  have h6:=zbV (nmT (woS d)::(bs.map nmT++trRs ps))
  rw[zG,zhv] at h6
  rw[trR,Rl.many,shT,yF,yC]
  show _+1+1+1<=_
  lia
theorem shRs_len:∀ps:List Rl,Gds ps->wid (trRs ps)<=65000*manys ps
 |[],_=>by rw[trRs,manys];exact yO _
 |p::r,g=>by
  rw[Gds] at g
  have h1:=zem p g.1
  have h2:=shRs_len r g.2
  rw[trRs,manys,zG]
  lia
end
theorem zen:∀(ys:List Str)(ts:List Tr),ys.map (fun y=>y.cps.toList)=ts.map shT->(ys.map (·.length)).sum+ys.length=wid ts
 |[],[],_=>rfl
 |[],_::_,h=>by simp at h
 |_::_,[],h=>by simp at h
 |y::r,t::ts,h=>by
  have e1:y.cps.toList=shT t/\r.map (fun y=>y.cps.toList)=ts.map shT:=by simpa using h
  have:=zen r ts e1.2
  rw[zG,←e1.1,zH,yJ,wH,yF]
  lia
inductive spShowR(n:Nat)(vs:List V)(H:Hp)(Q:VK)(z3:XK):Prop
 |mk (v:V) (r:Rl) (_:vs=[v]) (_:RW H v r.toW) (_:r.Gd) (_:r.many<=100) (_:r.high<n) (_:∀(x:Str)(H':Hp),x.cps.toList=shT (trR r)->Same H H'->Q (.str x) H')
theorem zaN:FnScope ["rule","word","shown","inner"] ["rule"] (zi zch):=mkSc rfl (by decide +kernel)
theorem zgO{n:Nat}(F:Fun K "show_rule" "show_rule" zch f fd)(G_variables_of:Have P w K mg base "variables_of" k ["expression"] (spVarsOf))(G_parts_of:Have P w K mg base "parts_of" k ["expression"] (spPartsOf))(G_show_rule:Have P w K mg base "show_rule" k ["rule"] (spShowR n))(G_show_worth:Have P w K mg base "show_worth" k ["worth"] (spShow 14))(m_isi:mg "isinstance"=none)(m_list:mg "list"=none)(m_tuple:mg "tuple"=none):FnOk P w K mg base CX0 (k+1) f fd ["rule"] (spShowR (n+1)):=by
 refine F.okQ zaN (by rintro _ _ _ _ ⟨_,_,rfl,_⟩;rfl) fun _ _ _ _ H vs Q E hr h=>?_
 obtain⟨v,r,rfl,rv,g,hm,hh,q⟩:=h
 obtain⟨a,us,rfl,ea,ho⟩:=opn rv
 refine⟨_,(zd (zm (i:=1) zaN.nd rfl (Or.inl rfl) (zz zw (pv 0) ze (fun _ _=>rfl)))
  (zd (zE (zk zY (pv 1) zg (nomark _)) (zf (zl (zz zw (pv 0) ze (fun _ _=>rfl)))) zq)
  (zd (zE (zk zY (pv 1) zg (nomark _)) (zd (zm (i:=2) zaN.nd rfl (Or.inl rfl) (zo G_show_worth hr rfl (za (zz zw (pv 0) ze (fun _ _=>rfl)) zb)))
  (zf (zl (zaJ (zX (zj zP rfl m_isi zQ (za (zz zw (pv 0) ze (fun _ _=>rfl)) (za (ZP rfl m_tuple zC) zb)))) (zu zx (zu zx zg (pv 2)) zg) (pv 2))))) zq)
  (zd (zm (i:=3) zaN.nd rfl (Or.inl rfl) (zu zaj (zu zaj (zF (za (pv 1) zb)) (zD zai rfl m_list zav (za (zo G_variables_of hr rfl (za (pv 0) zb)) zb))) (zN [] [] rfl rfl (by decide +kernel) rfl (by decide +kernel) rfl (by decide +kernel) trivial rfl trivial (ZX (zo G_parts_of hr rfl (za (pv 0) zb))) (fun C s H fp=>⟨zM,(zo G_show_rule hr rfl (za (pv 0) zb))⟩))))
  (zf (zl (zu zx (zu zx zg (ZZ tT tX tW zba zg (za (pv 3) zb))) zg))))))),nm5 ?_⟩
 intros
 refine⟨_,rfl,a,us,0,_,rfl,rfl,Sq ea,zS (j:=0) ho.head,?_⟩
 refine⟨_,rfl,rfl,_,rfl,?_⟩
 rw[show uV "var"="var" from rfl,zkk]
 cases ho with
 |var=>
  rename_i s
  exact iteT ⟨_,rfl,a,_,1,_,rfl,rfl,Sq ea,rfl,q s H (by rw[trR,nmT,shT]) (Sr _)⟩
 |lit hv=>
  rename_i x v
  rw[Rl.Gd] at g
  refine iteF ⟨_,rfl,rfl,_,rfl,?_⟩
  rw[show uV "lit"="lit" from rfl,zi1]
  refine iteT ⟨_,rfl,a,_,1,_,rfl,rfl,Sq ea,rfl,v,x,rfl,hv,g.1,g.2.1,wJ (xU g.2.2),fun y H1 hy s1=>?_⟩
  have hyl:(y.length:Int)+1<=64000:=by
   have h1:=zfi x g.1
   have h2:x.size<=1000:=g.2.1
   rw[←hy,zH] at h1
   lia
  refine⟨_,rfl,a,_,1,_,rfl,rfl,Sq (s1 _ _ ea),rfl,?_⟩
  cases hv with
  |num i=>exact⟨_,_,_,_,rfl,.int i,zb1,_,rfl,iteF ⟨_,rfl,q y H1 (by rw[hy,zfj rfl,zbd]) s1⟩⟩
  |txt z=>exact⟨_,_,_,_,rfl,.str z,zb2,_,rfl,iteF ⟨_,rfl,q y H1 (by rw[hy,zfj rfl,zbd]) s1⟩⟩
  | @lst b vs ws e l at'=>
   have la:(uV "(lit ").length=5:=by decide +kernel
   have lb:(uV ")").length=1:=by decide +kernel
   have ca:(uV "(lit ").cps.toList=40::(litW++[32]):=by decide +kernel
   refine⟨_,_,_,_,rfl,.tup (s1 _ _ e),zbt,_,rfl,iteT ⟨_,rfl,_,_,rfl,rfl,small (by rw[la];lia),_,_,rfl,rfl,small (by rw[zt,la,lb];lia),q _ _ ?_ s1⟩⟩
   rw[zT,zT,hy,ca,zdw,zhu rfl,shT,shTs,shTs,shT,zbd]
   simp
 |op hvs=>
  rename_i d bs ps vs
  have g0:=g
  rw[Rl.Gd] at g0
  have hlv:wLit d=false:=g0.1.1
  have hvv:wVar d=false:=g0.1.2.1
  have hb:=g0.1.2.2.1
  have hwv:wVar (rlW (.op d bs ps))=false:=hvv
  have hwl:wLit (rlW (.op d bs ps))=false:=hlv
  rw[hwv]
  refine iteF ⟨_,rfl,rfl,_,rfl,?_⟩
  rw[show uV "lit"="lit" from rfl,zi1,hwl]
  have hps:ps.length<=100:=by
   have h1:=zh5 ps
   rw[Rl.many] at hm
   lia
  have hbl:bs.length<=2:=by have:=zcm d;lia
  refine iteF ⟨_,rfl,zl1,fun p1 hp1=>?_⟩
  have s1:=Sn (o:=.lst [.str (woS d)]) hp1
  have e1:upd H p1 (.lst [.str (woS d)]) p1=some (.lst [.str (woS d)]):=zc
  dsimp only[rlW]
  generalize upd H p1 (.lst [.str (woS d)])=H1 at s1 e1
  refine⟨_,rfl,a,d,bs.map V.str,vs,rfl,s1 _ _ ea,by rw[yA];exact hb,fun p2 H2 s2 e2=>?_⟩
  refine⟨p2,bs.map V.str,rfl,.inr (Sq e2),fun p3 hp3=>?_⟩
  have s3:=Sn (o:=.lst (bs.map V.str)) hp3
  have e3:upd H2 p3 (.lst (bs.map V.str)) p3=some (.lst (bs.map V.str)):=zc
  generalize upd H2 p3 (.lst (bs.map V.str))=H3 at s3 e3
  refine⟨p1,p3,_,_,rfl,rfl,s3 _ _ (s2 _ _ e1),e3,small (by rw[yA];show 1+_<=_;lia),fun p4 hp4=>?_⟩
  have s4:=Sn (o:=.lst ([.str (woS d)]++bs.map V.str)) hp4
  have e4:upd H3 p4 (.lst ([.str (woS d)]++bs.map V.str)) p4=some (.lst ([.str (woS d)]++bs.map V.str)):=zc
  generalize upd H3 p4 (.lst ([.str (woS d)]++bs.map V.str))=H4 at s4 e4
  have s14:=((s1.trans s2).trans s3).trans s4
  refine⟨_,rfl,?_⟩
  dsimp +zetaDelta only [tNil,xC,xS]
  refine zng (rv.mono (zh s14)) g fun l us H5 hl s5 el hus=>⟨l,rfl,⟨us,Sl el⟩,?_⟩
  have hul:us.length=ps.length:=by have:=hus.len;rw[this];exact zbR ps
  refine zfW (vs:=us) (fun i xs H6=>Same H5 H6/\i<=ps.length/\xs=(ps.take i).map fun p=>V.str ⟨(shT (trR p)).toArray⟩) (small (by lia)) ⟨Sr _,yS _,rfl⟩ (fun i xs H6 h=>by rw[h.2.2,yA,yY];lia) (fun i xs H6 h=>Sl (h.1 _ _ el)) (fun i x xs H6 R hx hP hR=>?_) (fun xs H6 D hP hD=>?_)
  ·obtain⟨s6,hi,rfl⟩:=hP
   have hi2:i<ps.length:=by rw[←hul];exact (yE.mp hx).1
   have hpi:ps[i]?=some ps[i]:=yB hi2
   have hmem:=yW hi2
   have hw:(rlWs ps)[i]?=some ps[i].toW:=by rw[zdJ,yN,hpi];rfl
   have h1:=zfT hmem
   have h2:=zbT hmem
   rw[Rl.many] at hm
   rw[Rl.high] at hh
   refine⟨_,rfl,x,ps[i],rfl,(hus.at' i x _ hx hw).mono (zh s6),g0.2.mem _ hmem,by lia,by lia,fun y H7 hy s7=>hR _ _ ⟨s6.trans s7,hi2,?_⟩⟩
   rw[zR hpi,yK,List.map_singleton,←hy,←strOf y]
  ·obtain⟨s6,_,rfl⟩:=hP
   rw[hul,xO]
   have s7:=Sn (o:=.lst (ps.map fun p=>V.str ⟨(shT (trR p)).toArray⟩)) hD
   have e7:upd H6 D (.lst (ps.map fun p=>V.str ⟨(shT (trR p)).toArray⟩)) D=some (.lst (ps.map fun p=>V.str ⟨(shT (trR p)).toArray⟩)):=zc
   generalize upd H6 D (.lst (ps.map fun p=>V.str ⟨(shT (trR p)).toArray⟩))=H7 at s7 e7
   have s47:=(s5.trans s6).trans s7
   refine⟨p4,D,_,_,rfl,rfl,s47 _ _ e4,e7,small (by rw[yC,yA,yA];show 1+_+_<=_;lia),fun p5 hp5=>?_⟩
   have s8:=Sn (o:=.lst ([.str (woS d)]++bs.map V.str++ps.map fun p=>V.str ⟨(shT (trR p)).toArray⟩)) hp5
   have e8:upd H7 p5 (.lst ([.str (woS d)]++bs.map V.str++ps.map fun p=>V.str ⟨(shT (trR p)).toArray⟩)) p5=some (.lst ([.str (woS d)]++bs.map V.str++ps.map fun p=>V.str ⟨(shT (trR p)).toArray⟩)):=zc
   generalize upd H7 p5 (.lst ([.str (woS d)]++bs.map V.str++ps.map fun p=>V.str ⟨(shT (trR p)).toArray⟩))=H8 at s8 e8
   have hmap:(woS d::(bs++ps.map fun p=>(⟨(shT (trR p)).toArray⟩:Str))).map (fun y=>y.cps.toList)=(nmT (woS d)::(bs.map nmT++trRs ps)).map shT:=by
    rw[zdN,yJ,yJ,yK,yK,xN,xN,xN,nmT,shT]
    congr 2
   have hj:=zcM _ _ hmap
   have hw:=zen _ _ hmap
   have hlen:=zem _ g
   have hsl:(shT (trR (.op d bs ps))).length=(shTs (nmT (woS d)::(bs.map nmT++trRs ps))).length+2:=by
    rw[trR,shT,yF,yC];rfl
   have hwl2:wid (nmT (woS d)::(bs.map nmT++trRs ps))<=65000*(Rl.op d bs ps).many:=by
    have h1:=shRs_len ps g0.2
    have h2:=zhw bs g0.1.2.2.2.1
    have h3:=zkB d
    rw[zG,zhv,Rl.many]
    lia
   have hjl:=congrArg List.length hj
   rw[zH] at hjl
   have l1:(uV " ").length=1:=by decide +kernel
   have la:(uV "(").length=1:=by decide +kernel
   have lb:(uV ")").length=1:=by decide +kernel
   have hz:(10000000:Nat)<=tH:=by decide
   refine⟨rfl,_,rfl,uV " ",p5,woS d::(bs++ps.map fun p=>(⟨(shT (trR p)).toArray⟩:Str)),rfl,rfl,Sl ?_,?_,_,_,rfl,rfl,?_,_,_,rfl,rfl,?_,q _ _ ?_ ((s14.trans s47).trans s8)⟩
   ·rw[e8]
    simp
   ·rw[l1,Nat.mul_one];lia
   ·rw[la];lia
   ·rw[zt,la,lb];lia
   ·rw[zT,zT,hj,zi9,zdw,trR,shT]
    rfl
inductive spVarTree(vs:List V)(H:Hp)(Q:VK)(z3:XK):Prop
 |mk (v:V) (z:Str) (_:vs=[v]) (_:RTr H v (nmT z)) (_:Vr z) (_:∀H',Same H H'->Q (.str z) H')
inductive spLitTrees(vs:List V)(H:Hp)(Q:VK)(z3:XK):Prop
 |mk (a:Addr) (us:List V) (x:W) (_:vs=[.ref a]) (_:H a=some (.tup us)) (_:RTrs H us [trW numC x]) (_:zkz x=true) (_:x.Ok) (_:x.depth<=12) (_:∀(u:V)(H':Hp),Same H H'->RT H' u (Rl.lit x).toT->Q u H')
inductive spBra(n:Nat)(vs:List V)(H:Hp)(Q:VK)(z3:XK):Prop
 |mk (a:Addr) (us:List V) (r:Rl) (ts:List Tr) (_:vs=[.ref a]) (_:H a=some (.tup us)) (_:RTrs H us ts) (_:trR r=.lst ts) (_:r.Gd) (_:r.high<=n) (_:∀(u:V)(H':Hp),Same H H'->RT H' u r.toT->Q u H')
inductive spExpr(n:Nat)(vs:List V)(H:Hp)(Q:VK)(z3:XK):Prop
 |mk (v:V) (r:Rl) (_:vs=[v]) (_:RTr H v (trR r)) (_:r.Gd) (_:r.high<n) (_:∀(u:V)(H':Hp),Same H H'->RT H' u r.toT->Q u H')
def Rule(r:Rl):Prop:=r.Gd/\r.high<=12/\r.many<=60/\unb [] r=[]/\r.rep<=2
theorem Rule.rt{r:Rl}(h:Rule r):zek r.toT:=⟨r,rfl,h⟩
inductive spRuleTree(vs:List V)(H:Hp)(Q:VK)(z3:XK):Prop
 |mk (v:V) (r:Rl) (_:vs=[v]) (_:RTr H v (trR r)) (_:Rule r) (_:∀(u:V)(H':Hp),Same H H'->RT H' u r.toT->Q u H')
theorem RTrs.cons_inv{H:Hp}{us:List V}{t:Tr}{ts:List Tr}(h:RTrs H us (t::ts)):∃v vs,us=v::vs/\RTr H v t/\RTrs H vs ts:=by
 cases us with
 |nil=>have:=h.len;cases this
 |cons v vs=>exact⟨v,vs,rfl,h.at' 0 v t rfl rfl,by have:=h.len;simpa using this,fun i u x a b=>h.at' (i+1) u x (by simpa using a) (by simpa using b)⟩
theorem RTrs.app_inv{H:Hp}:∀{ts rs:List Tr}{us:List V},RTrs H us (ts++rs)->∃xs ys,us=xs++ys/\RTrs H xs ts/\RTrs H ys rs
 |[],rs,us,h=>⟨[],us,rfl,.nil,h⟩
 |t::ts,rs,us,h=>by
  obtain⟨v,vs,rfl,h1,h2⟩:=RTrs.cons_inv h
  obtain⟨xs,ys,rfl,h3,h4⟩:=RTrs.app_inv h2
  exact⟨v::xs,ys,rfl,⟨by rw[yF,yF,h3.len],fun i u x a b=>by
   cases i with
   |zero=>cases a;cases b;exact h1
   |succ i=>exact h3.at' i u x (by simpa using a) (by simpa using b)⟩,h4⟩
theorem RTr.word_inv{H:Hp}{v:V}{q:List Nat}(h:RTr H v (.word q)):∃a,v=.ref a/\H a=some (.tup [.str "word",.str ⟨q.toArray⟩]):=by
 cases h with
 |word e=>exact⟨_,rfl,e⟩
theorem RTr.nm_inv{H:Hp}{v:V}{z:Str}(h:RTr H v (nmT z)):∃a,v=.ref a/\H a=some (.tup [.str "word",.str z]):=by
 obtain⟨a,rfl,e⟩:=RTr.word_inv h
 exact⟨a,rfl,by rw[e,←strOf z]⟩
theorem zkC(i:Int):Zk (.txt ⟨(numC i).toArray⟩)=false:=by
 cases h:Zk (.txt ⟨(numC i).toArray⟩) with
 |false=>rfl
 |true=>
  have hv:=(ZE.mp h).2.2
  cases e:numC i with
  |nil=>exact absurd e (zkv i)
  |cons c r=>
   have h1:=hv c (by rw[e];simp)
   have h2:=zig i c (by rw[e];simp)
   lia
theorem znq{r:Rl}{ts:List Tr}(h:trR r=.lst ts):∃d ts',ts=nmT (woS d)::ts'/\((∃x,r=.lit x/\d=.lit/\ts'=[trW numC x]/\zkz x=true)\/∃bs ps,r=.op d bs ps/\ts'=bs.map nmT++trRs ps):=by
 cases r with
 |lit x=>
  cases x with
  |num i=>rw[zfj rfl,trW] at h;cases h
  |txt z=>rw[zfj rfl,trW] at h;cases h
  |lst ws=>
   rw[zhu rfl] at h
   cases h
   exact⟨.lit,_,rfl,.inl ⟨_,rfl,rfl,rfl,rfl⟩⟩
 |var z=>rw[trR,nmT] at h;cases h
 |op d bs ps=>
  rw[trR] at h
  cases h
  exact⟨d,_,rfl,.inr ⟨bs,ps,rfl,rfl⟩⟩
end D
namespace L2
open PySem
theorem zat{K:tU}{fr:List Nat}{te:TE}{σ:St}{H:Hp}{F:Addr->Hp->List V->Prop}{a:Addr}{vs:List V}(Pv:Nat->List V->Hp->Prop)(hz:vs.length<=tH)(h0:Pv 0 [] H)(hlen:∀i us H1,Pv i us H1->us.length=i)(hS:∀i us H1,Pv i us H1->SqT K H1 a vs)
  (step:∀(i:Nat)(v:V)(us:List V)(H1:Hp)(R:VK),vs[i]?=some v->Pv i us H1->(∀y H2,Pv (i+1) (us++[y]) H2->R y H2)->te (some v::frees fr σ) H1 R)
  (fin:∀(us:List V)(H1:Hp)(D:Addr),Pv vs.length us H1->H1 D=none->F D H1 us):
  ∃W:Nat->Nat->List V->Hp->Prop,(∃m,W 0 m [] H)/\∀i m vs H,W i m vs H->vs.length<=tH /\
   (((Itt K a).stop i H/\∀D,H D=none->F D H vs) \/
    ((Itt K a).go i H/\∀v H',(Itt K a).yld i H v H'->if true=true then te (some v::frees fr σ) H' fun y H3=>∃m',m'<m/\W (i+1) m' (vs++[y]) H3 else ∃m',m'<m/\W (i+1) m' vs H')):=by
 refine⟨fun i m us H1=>i<=vs.length/\m=vs.length-i/\Pv i us H1,⟨_,yS _,rfl,h0⟩,fun i m us H1 hW=>?_⟩
 obtain⟨hi,hm,hu⟩:=hW
 have sq:=hS _ _ _ hu
 refine⟨by rw[hlen _ _ _ hu];lia,?_⟩
 by_cases hlt:i<vs.length
 ·refine .inr ⟨⟨vs,vs[i],sq,yB hlt⟩,fun v H' hy=>?_⟩
  obtain⟨rfl,hv⟩:=hy
  have hv:=hv vs sq
  refine iteT ?_
  exact step i v us H' _ hv hu fun y H2 p2=>⟨vs.length-(i+1),by lia,by lia,rfl,p2⟩
 ·have e:i=vs.length:=by lia
  subst e
  exact .inl ⟨⟨vs,sq,by lia⟩,fun D hD=>fin us H1 D hu hD⟩
end L2
namespace D
open PySem L2
theorem zco:FnScope ["tree"] ["tree"] (zi Z0):=mkSc rfl (by decide +kernel)
theorem zcp(F:Fun K "variable_of_tree" "variable_of_tree" Z0 f fd)(G_is_variable:Have P w K mg base "is_variable" k ["thing"] (spIsVar)):FnOk P w K mg base CX0 (k+1) f fd ["tree"] (spVarTree):=by
 refine F.okQ zco (by rintro _ _ _ _ ⟨_,_,rfl,_⟩;rfl) fun _ _ _ _ H vs Q E hr h=>?_
 obtain⟨v,z,rfl,rt,hv,q⟩:=h
 obtain⟨a,rfl,e⟩:=rt.nm_inv
 refine⟨_,(zd (zE (PW.pt (Z6 (zk zaz (zz zw (pv 0) ze (fun _ _=>rfl)) zg (nomark _)) (ZF (ZA (zX (zo G_is_variable hr rfl (za (zz zw (pv 0) ze (fun _ _=>rfl)) zb))))))) zU zq)
  (zf (zl (zz zw (pv 0) ze (fun _ _=>rfl))))),nm2 ?_⟩
 intros
 refine⟨_,rfl,a,_,0,_,rfl,rfl,Sq e,rfl,rfl,_,rfl,?_⟩
 rw[decide_eq_true rfl]
 have h8:=hv.2.1
 refine iteF ⟨_,rfl,a,_,1,_,rfl,rfl,Sq e,rfl,.str z,.txt z,rfl,.txt z,(by show z.length<=100000;lia),fun H1 s1=>?_⟩
 rw[ZE.mpr hv]
 exact⟨_,rfl,iteF ⟨_,rfl,a,_,1,_,rfl,rfl,Sq (s1 _ _ e),rfl,q H1 s1⟩⟩
theorem zeo:FnScope ["trees"] ["trees"] (zi zaU):=mkSc rfl (by decide +kernel)
theorem zep(F:Fun K "lit_of_trees" "lit_of_trees" zaU f fd)(G_worth_of_tree:Have P w K mg base "worth_of_tree" k ["tree"] (spWTree 14))(m_len:mg "len"=none):FnOk P w K mg base CX0 (k+1) f fd ["trees"] (spLitTrees):=by
 refine F.okQ zeo (by rintro _ _ _ _ ⟨_,_,_,rfl,_⟩;rfl) fun _ _ _ _ H vs Q E hr h=>?_
 obtain⟨a,us,x,rfl,ea,rs,hx,ok,hd,q⟩:=h
 obtain⟨v,vs,rfl,rv,rs⟩:=RTrs.cons_inv rs
 have hv0:vs=[]:=yR.mp rs.len
 subst hv0
 obtain⟨b,c,rfl,e⟩:∃b c,v=.ref b/\H b=some (.tup [.str "list",.ref c]):=by
  cases x with
  |num i=>cases hx
  |txt z=>cases hx
  |lst ws=>
   rw[trW] at rv
   cases rv with
   |lst e _ _ _=>exact⟨_,_,rfl,e⟩
 refine⟨_,(zd (zE (PW.pt (Z6 (zk zaz (zj zB rfl m_len tF (za (pv 0) zb)) ze (nomark _)) (ZF (zk zaz (zz zw (zz zw (pv 0) ze (fun _ _=>rfl)) ze (fun _ _=>rfl)) zg (nomark _))))) zU zq)
  (zf (zl (zy (za zg (za (zo G_worth_of_tree hr rfl (za (zz zw (pv 0) ze (fun _ _=>rfl)) zb)) zb)))))),nm2 ?_⟩
 intros
 refine⟨_,rfl,_,_,rfl,.inr ⟨_,Sq ea,rfl⟩,rfl,_,rfl,?_⟩
 refine iteF ⟨_,rfl,a,_,0,_,rfl,rfl,Sq ea,rfl,b,_,0,_,rfl,rfl,Sq e,rfl,rfl,_,rfl,?_⟩
 rw[decide_eq_true rfl]
 refine iteF ⟨_,rfl,a,_,0,_,rfl,rfl,Sq ea,rfl,_,x,rfl,rv,ok,by lia,fun u H1 s1 ru=>⟨zl2,fun p hp=>q _ _ (s1.trans (Sn hp)) ?_⟩⟩
 rw[ZO]
 exact (RTs.cons (.txt _) (.cons (ru.toRT.mono (Sn hp)) .nil)).rt zc
theorem Zi:FnScope ["trees","word","first","variables"] ["trees"] (zi Zq):=mkSc rfl (by decide +kernel)
theorem zbq(F:Fun K "bracketed" "bracketed" Zq f fd)(G_expression_of_tree:Have P w K mg base "expression_of_tree" k ["tree"] (spExpr n))(G_variable_of_tree:Have P w K mg base "variable_of_tree" k ["tree"] (spVarTree))(G_binding_count:Have P w K mg base "binding_count" k ["word"] (spBCount))(G_has_parts:Have P w K mg base "has_parts" k ["word"] (spHasParts))(G_lit_of_trees:Have P w K mg base "lit_of_trees" k ["trees"] (spLitTrees))(m_len:mg "len"=none)(m_tuple:mg "tuple"=none):FnOk P w K mg base CX0 (k+1) f fd ["trees"] (spBra n):=by
 refine F.okQ Zi (by rintro _ _ _ _ ⟨_,_,_,_,rfl,_⟩;rfl) fun _ _ _ _ H vs Q E hr h=>?_
 obtain⟨a,us,r,ts,rfl,ea,rs,hrt,g,hh,q⟩:=h
 obtain⟨d,ts',rfl,hc⟩:=znq hrt
 obtain⟨v0,us',rfl,rv0,rs1⟩:=RTrs.cons_inv rs
 obtain⟨b0,rfl,e0⟩:=rv0.nm_inv
 refine⟨_,(zd (zE (PW.pt (Z6 (zk zY (zj zB rfl m_len tF (za (pv 0) zb)) ze (nomark _)) (ZF (zk zaz (zz zw (zz zw (pv 0) ze (fun _ _=>rfl)) ze (fun _ _=>rfl)) zg (nomark _))))) zU zq)
  (zd (zm (i:=1) Zi.nd rfl (Or.inl rfl) (zz zw (zz zw (pv 0) ze (fun _ _=>rfl)) ze (fun _ _=>rfl)))
  (zd (zE (zk zY (pv 1) zg (nomark _)) (zf (zl (zo G_lit_of_trees hr rfl (za (Zv zcv (pv 0) (Zn ze) zaR) zb)))) zq)
  (zd (zE (ZA (zX (zo G_has_parts hr rfl (za (pv 1) zb)))) zU zq)
  (zd (zm (i:=2) Zi.nd rfl (Or.inl rfl) (zu Zj ze (zo G_binding_count hr rfl (za (pv 1) zb))))
  (zd (zm (i:=3) Zi.nd rfl (Or.inl rfl) (zD zK rfl m_tuple zC (za (zN [] [] rfl rfl (by decide +kernel) rfl (by decide +kernel) rfl (by decide +kernel) trivial rfl trivial (zaq (Zv zcv (pv 0) (Zn ze) (Zn (pv 2)))) (fun C s H fp=>⟨zM,(zo G_variable_of_tree hr rfl (za (pv 0) zb))⟩)) zb)))
  (zf (zl (zu zb6 (zu zb6 (zy (za (pv 1) zb)) (pv 3)) (zD zK rfl m_tuple zC (za (zN [] [] rfl rfl (by decide +kernel) rfl (by decide +kernel) rfl (by decide +kernel) trivial rfl trivial (zaq (Zv zcv (pv 0) (Zn (pv 2)) zaR)) (fun C s H fp=>⟨zM,(zo G_expression_of_tree hr rfl (za (pv 0) zb))⟩)) zb))))))))))),nm7 ?_⟩
 intros
 refine⟨_,rfl,_,_,rfl,.inr ⟨_,Sq ea,rfl⟩,rfl,_,rfl,?_⟩
 rw[decide_eq_false (by intro z;have:=V.int.inj z;rw[yF] at this;lia)]
 refine iteF ⟨_,rfl,a,_,0,_,rfl,rfl,Sq ea,zS (j:=0) rfl,b0,_,0,_,rfl,rfl,Sq e0,rfl,rfl,_,rfl,?_⟩
 rw[decide_eq_true rfl]
 refine iteF ⟨_,rfl,a,_,0,_,rfl,rfl,Sq ea,zS (j:=0) rfl,b0,_,1,_,rfl,rfl,Sq e0,rfl,?_⟩
 refine⟨_,rfl,rfl,_,rfl,?_⟩
 rw[show uV "lit"="lit" from rfl,zi1]
 rcases hc with⟨x,rfl,rfl,rfl,hx⟩|⟨bs,ps,rfl,rfl⟩
 ·rw[Rl.Gd] at g
  have hcut:cutV (.ref b0::us') (some 1) none=us':=by
   have:=zfR (.ref b0) [] us' 0 rfl
   exact this
  refine iteT ⟨_,rfl,_,rfl,a,_,rfl,Sq ea,zbC _ _ 0 _,fun p hp=>?_⟩
  rw[hcut]
  have s1:=Sn (o:=.tup us') hp
  exact⟨p,us',x,rfl,zc,rs1.mono (zh s1),hx,g.1,g.2.2,fun u H' s2 ru=>q u H' (s1.trans s2) ru⟩
 ·have g0:=g
  rw[Rl.Gd] at g0
  have hlv:wLit d=false:=g0.1.1
  have hvv:wVar d=false:=g0.1.2.1
  have hb:=g0.1.2.2.1
  have hbl:bs.length<=2:=by have:=zcm d;lia
  have hpl:ps.length<=8:=by
   have:=(zkt g).len
   rw[yA] at this
   exact this
  obtain⟨xs,ys,rfl,rxs,rys⟩:=RTrs.app_inv rs1
  have hxl:xs.length=bs.length:=by rw[rxs.len,yA]
  have hyl:ys.length=ps.length:=by rw[rys.len,zdN,yA]
  rw[hlv]
  refine iteF ⟨_,rfl,d,rfl,_,rfl,?_⟩
  rw[hlv,hvv]
  refine iteF ⟨_,rfl,d,rfl,_,_,rfl,rfl,?_⟩
  dsimp only[zW]
  refine⟨_,rfl,_,rfl,_,rfl,_,rfl,a,_,rfl,Sq ea,zbC _ _ 0 _,fun p hp=>?_⟩
  rw[zko (.ref b0) xs ys (bcnt d) (by lia)]
  have s1:=Sn (o:=.tup xs) hp
  have e1:upd H p (.tup xs) p=some (.tup xs):=zc
  generalize upd H p (.tup xs)=H1 at s1 e1 ⊢
  refine⟨p,rfl,⟨_,Sq e1⟩,?_⟩
  refine zat (vs:=xs) (fun i zs H2=>Same H1 H2/\i<=bs.length/\zs=(bs.take i).map V.str) (small (by lia)) ⟨Sr _,yS _,rfl⟩ (fun i zs H2 h=>by rw[h.2.2,yA,yY];lia) (fun i zs H2 h=>Sq (h.1 _ _ e1)) (fun i x zs H2 R hx hP hR=>?_) (fun zs H2 D hP hD=>?_)
  ·obtain⟨s2,hi,rfl⟩:=hP
   have hi2:i<bs.length:=by rw[←hxl];exact (yE.mp hx).1
   have hbi:bs[i]?=some bs[i]:=yB hi2
   refine⟨_,rfl,x,bs[i],rfl,(rxs.at' i x _ hx (by rw[yN,hbi];rfl)).mono (zh (s1.trans s2)),g0.1.2.2.2.1 _ (yW hi2),fun H3 s3=>hR _ _ ⟨s2.trans s3,hi2,?_⟩⟩
   rw[zR hbi,yK]
   rfl
  ·obtain⟨s2,_,rfl⟩:=hP
   rw[hxl,xO]
   refine⟨D,_,rfl,.inl ⟨Sl zc,fun t ht=>?_⟩⟩
   have s3:=(Sn (o:=.lst (bs.map V.str)) hD).trans (Sn (o:=.tup (bs.map V.str)) ht)
   have e3:upd (upd H2 D (.lst (bs.map V.str))) t (.tup (bs.map V.str)) t=some (.tup (bs.map V.str)):=zc
   generalize upd (upd H2 D (.lst (bs.map V.str))) t (.tup (bs.map V.str))=H3 at s3 e3 ⊢
   have sH:=(s1.trans s2).trans s3
   have rvars:RT H3 (.ref t) (.tup (bs.map T.txt)):=by
    refine RTs.rt ⟨by rw[yA,yA],fun i v t a b=>?_⟩ e3
    rw[yN] at a b
    obtain⟨z,hz,rfl⟩:=xV.mp a
    rw[hz] at b
    cases b
    exact .txt z
   dsimp +zetaDelta only [zW,tRet]
   refine (zms (zms (Za (zr (zar (i:=1) rfl (.txt (woS d))) zV) (by show 1<=1000;decide)) (zar (i:=3) rfl rvars) (by simp) (by rw[yA];show 1+_<=1000;lia)) (bs:=ps.map Rl.toT) ?_ (by simp) (by rw[yC,yA,yA];show 1+_+_<=1000;lia)).run fun v H4 s4 rv=>q v H4 (sH.trans s4) (by rw[zaM];exact rv)
   intro G R sG hR
   refine⟨_,rfl,_,rfl,_,rfl,a,_,rfl,Sq (sG _ _ (sH _ _ ea)),zbC _ _ (bcnt d) _,fun p5 hp5=>?_⟩
   rw[zfR (.ref b0) xs ys (bcnt d) (by lia)]
   have s5:=Sn (o:=.tup ys) hp5
   have e5:upd G p5 (.tup ys) p5=some (.tup ys):=zc
   generalize upd G p5 (.tup ys)=H5 at s5 e5 ⊢
   refine⟨p5,rfl,⟨_,Sq e5⟩,?_⟩
   refine zat (vs:=ys) (fun i zs H6=>Same H5 H6/\i<=ps.length/\RTs H6 zs ((ps.take i).map Rl.toT)) (small (by lia)) ⟨Sr _,yS _,RTs.nil⟩ (fun i zs H6 h=>by rw[h.2.2.1,yA,yY];lia) (fun i zs H6 h=>Sq (h.1 _ _ e5)) (fun i x zs H6 R hx hP hR=>?_) (fun zs H6 D hP hD=>?_)
   ·obtain⟨s6,hi,rz⟩:=hP
    have hi2:i<ps.length:=by rw[←hyl];exact (yE.mp hx).1
    have hpi:ps[i]?=some ps[i]:=yB hi2
    have hmem:=yW hi2
    have h2:=zbT hmem
    rw[Rl.high] at hh
    refine⟨_,rfl,x,ps[i],rfl,(rys.at' i x _ hx (by rw[zdN,yN,hpi];rfl)).mono (zh (((sH.trans sG).trans s5).trans s6)),g0.2.mem _ hmem,by lia,fun u H7 s7 ru=>hR _ _ ⟨s6.trans s7,hi2,?_⟩⟩
    rw[zR hpi,yK]
    exact (rz.mono s7).cat (.cons ru .nil)
   ·obtain⟨s6,_,rz⟩:=hP
    rw[hyl,xO] at rz
    refine⟨D,_,rfl,.inl ⟨Sl zc,fun t ht=>?_⟩⟩
    have s7:=(Sn (o:=.lst zs) hD).trans (Sn (o:=.tup zs) ht)
    exact hR _ _ ((s5.trans s6).trans s7) ((rz.mono s7).rt zc)
theorem zbF:FnScope ["tree"] ["tree"] (zi ZM):=mkSc rfl (by decide +kernel)
theorem zbG(F:Fun K "expression_of_tree" "expression_of_tree" ZM f fd)(G_number_of:Have P w K mg base "number_of" k ["word"] (spNumOf))(G_is_variable:Have P w K mg base "is_variable" k ["thing"] (spIsVar))(G_bracketed_formtexts:Have P w K mg base "bracketed_formtexts" k ["trees"] (spBra n)):FnOk P w K mg base CX0 (k+1) f fd ["tree"] (spExpr (n+1)):=by
 refine F.okQ zbF (by rintro _ _ _ _ ⟨_,_,rfl,_⟩;rfl) fun _ _ _ _ H vs Q E hr h=>?_
 obtain⟨v,r,rfl,rt,g,hh,q⟩:=h
 refine⟨_,(zd (zE (zk zY (zz zw (pv 0) ze (fun _ _=>rfl)) zg (nomark _)) (zf (zl (zo G_bracketed_formtexts hr rfl (za (zz zw (pv 0) ze (fun _ _=>rfl)) zb)))) zq)
  (zd (zE (zk zY (zz zw (pv 0) ze (fun _ _=>rfl)) zg (nomark _)) (zf (zl (zy (za zg (za (zz zw (pv 0) ze (fun _ _=>rfl)) zb))))) zq)
  (zd (zE (zX (zo G_is_variable hr rfl (za (zz zw (pv 0) ze (fun _ _=>rfl)) zb))) (zf (zl (zy (za zg (za (zz zw (pv 0) ze (fun _ _=>rfl)) zb))))) zq)
  (zf (zl (zy (za zg (za (zo G_number_of hr rfl (za (zz zw (pv 0) ze (fun _ _=>rfl)) zb)) zb)))))))),nm4 ?_⟩
 intros
 have hlst:∀ts,trR r=.lst ts->∃a b vs,v=.ref a/\H a=some (.tup [.str "list",.ref b])/\H b=some (.tup vs)/\RTrs H vs ts:=fun ts e=>by
  rw[e] at rt
  cases rt with
  |lst e1 e2 l at'=>exact⟨_,_,_,rfl,e1,e2,l,at'⟩
 by_cases hl:∃ts,trR r=.lst ts
 ·obtain⟨ts,hts⟩:=hl
  obtain⟨a,b,vs,rfl,e1,e2,rvs⟩:=hlst ts hts
  refine⟨_,rfl,a,_,0,_,rfl,rfl,Sq e1,rfl,rfl,_,rfl,?_⟩
  rw[decide_eq_true rfl]
  exact iteT ⟨_,rfl,a,_,1,_,rfl,rfl,Sq e1,rfl,b,vs,r,ts,rfl,e2,rvs,hts,g,by lia,q⟩
 cases r with
 |op d bs ps=>exact absurd ⟨_,by rw[trR]⟩ hl
 |var z=>
  rw[trR] at rt
  rw[Rl.Gd] at g
  have h8:=g.2.1
  obtain⟨a,rfl,e⟩:=rt.nm_inv
  refine⟨_,rfl,a,_,0,_,rfl,rfl,Sq e,rfl,rfl,_,rfl,?_⟩
  rw[show uV "list"="list" from rfl,dWL]
  refine iteF ⟨_,rfl,a,_,0,_,rfl,rfl,Sq e,rfl,rfl,_,rfl,?_⟩
  rw[dWT]
  refine iteF ⟨_,rfl,a,_,1,_,rfl,rfl,Sq e,rfl,.str z,.txt z,rfl,.txt z,(by show z.length<=100000;lia),fun H1 s1=>?_⟩
  rw[ZE.mpr g]
  refine⟨_,rfl,iteT ⟨_,rfl,a,_,1,_,rfl,rfl,Sq (s1 _ _ e),rfl,zl2,fun p hp=>q _ _ (s1.trans (Sn hp)) ?_⟩⟩
  rw[zad]
  exact (RTs.cons (.txt _) (.cons (.txt _) .nil)).rt zc
 |lit x=>
  cases x with
  |lst ws=>exact absurd ⟨_,zhu rfl⟩ hl
  |txt z=>
   rw[zfj rfl,trW] at rt
   cases rt with
   | @txt a _ e=>
   refine⟨_,rfl,a,_,0,_,rfl,rfl,Sq e,rfl,rfl,_,rfl,?_⟩
   rw[dTL]
   refine iteF ⟨_,rfl,a,_,0,_,rfl,rfl,Sq e,rfl,rfl,_,rfl,?_⟩
   rw[decide_eq_true rfl]
   refine iteT ⟨_,rfl,a,_,1,_,rfl,rfl,Sq e,rfl,zl2,fun p hp=>q _ _ (Sn hp) ?_⟩
   rw[ZO,←strOf z]
   exact (RTs.cons (.txt _) (.cons (.txt _) .nil)).rt zc
  |num i=>
   rw[Rl.Gd] at g
   have gi:=g.1
   rw[zfj rfl,trW] at rt
   cases rt with
   | @word a _ e=>
   refine⟨_,rfl,a,_,0,_,rfl,rfl,Sq e,rfl,rfl,_,rfl,?_⟩
   rw[dWL]
   refine iteF ⟨_,rfl,a,_,0,_,rfl,rfl,Sq e,rfl,rfl,_,rfl,?_⟩
   rw[dWT]
   have h61:=zcL gi.1 gi.2
   refine iteF ⟨_,rfl,a,_,1,_,rfl,rfl,Sq e,rfl,_,.txt ⟨(numC i).toArray⟩,rfl,.txt _,(by show (numC i).toArray.size<=100000;rw[yI];lia),fun H1 s1=>?_⟩
   rw[zkC]
   refine⟨_,rfl,iteF ⟨_,rfl,a,_,1,_,rfl,rfl,Sq (s1 _ _ e),rfl,_,i,rfl,by simp,gi.1,gi.2,fun H2 s2=>⟨zl2,fun p hp=>q _ _ ((s1.trans s2).trans (Sn hp)) ?_⟩⟩⟩
   rw[ZO]
   exact (RTs.cons (.txt _) (.cons (.num _) .nil)).rt zc
theorem zbH:FnScope ["tree","expression"] ["tree"] (zi zaV):=mkSc rfl (by decide +kernel)
theorem zeq(F:Fun K "rule_of_tree" "rule_of_tree" zaV f fd)(G_is_rule:Have P w K mg base "is_rule" k ["thing"] (spIsRule))(G_expression_of_tree:Have P w K mg base "expression_of_tree" k ["tree"] (spExpr 14)):FnOk P w K mg base CX0 (k+1) f fd ["tree"] (spRuleTree):=by
 refine F.okQ zbH (by rintro _ _ _ _ ⟨_,_,rfl,_⟩;rfl) fun _ _ _ _ H vs Q E hr h=>?_
 obtain⟨v,r,rfl,rt,hru,q⟩:=h
 refine⟨_,(zd (zm (i:=1) zbH.nd rfl (Or.inl rfl) (zo G_expression_of_tree hr rfl (za (pv 0) zb)))
  (zd (zE (ZA (zX (zo G_is_rule hr rfl (za (pv 1) zb)))) zU zq)
  (zf (zl (pv 1))))),nm3 ?_⟩
 intros
 have h12:=hru.2.1
 refine⟨_,rfl,v,r,rfl,rt,hru.1,by lia,fun u H1 s1 ru=>?_⟩
 refine⟨_,rfl,u,r.toT,rfl,ru,znj hru.1,fun b H2 s2 h1 h2=>?_⟩
 cases b with
 |false=>exact absurd hru.rt (h2 rfl)
 |true=>exact⟨_,rfl,iteF ⟨_,rfl,q u H2 (s1.trans s2) (ru.mono s2)⟩⟩
structure Ou where
 ws:List Str
 last:W
noncomputable def Ou.toW(o:Ou):W:=.lst (o.ws.map W.txt++[o.last])
def trO(o:Ou):Tr:=.lst (o.ws.map nmT++[trW numC o.last])
noncomputable def zc7:List Str:=["kind","great","nought","place"]
noncomputable def Zo:List Str:=["none","shut"]
def zjc(x:W):Prop:=x.Ok/\x.size<=1000/\x.depth<=12
inductive GdO:Ou->Prop where
 |made {x:W}:zjc x->GdO ⟨["made"],x⟩
 |bare {w:Str}:w∈zc7->GdO ⟨["wrong",w],.txt ""⟩
 |naming {w z:Str}:w∈Zo->(W.txt z).Ok->GdO ⟨["wrong",w],.txt z⟩
 |cried {x:W}:zjc x->GdO ⟨["wrong","cried"],x⟩
inductive Re where
 |mk (o:Ou) (ps:List Re)
mutual
noncomputable def Re.toW:Re->W
 |.mk o ps=>.lst [o.toW,.lst (reWs ps)]
noncomputable def reWs:List Re->List W
 |[]=>[]
 |p::r=>p.toW::reWs r
end
mutual
noncomputable def trE:Re->Tr
 |.mk o ps=>.lst (trO o::trEs ps)
noncomputable def trEs:List Re->List Tr
 |[]=>[]
 |p::r=>trE p::trEs r
end
mutual
def GdE:Re->Prop
 |.mk o ps=>GdO o/\GdEs ps
def GdEs:List Re->Prop
 |[]=>True
 |p::r=>GdE p/\GdEs r
end
mutual
noncomputable def Re.deep:Re->Nat
 |.mk _ ps=>1+reDeeps ps
noncomputable def reDeeps:List Re->Nat
 |[]=>0
 |p::r=>max p.deep (reDeeps r)
end
mutual
noncomputable def Re.many:Re->Nat
 |.mk _ ps=>1+reManys ps
noncomputable def reManys:List Re->Nat
 |[]=>0
 |p::r=>p.many+reManys r
end
noncomputable def znr:T->Bool
 |.non=>true
 |.bl _=>true
 |.num _=>true
 |.txt _=>true
 |_=>false
noncomputable def zon:T->Bool
 |.txt _=>true
 |_=>false
noncomputable def inT(t:T)(xs:List Str):Bool:=match t with
 |.txt z=>xs.any fun y=>y==z
 |_=>false
def Ze(wt d:T):Bool:=if inT wt zc7=true then eqTS d "" else if inT wt Zo=true then zon d&&zI d else eqTS wt "cried"&&zI d
def Zx:T->Bool
 |.tup [a,d]=>eqTS a "made"&&zI d
 |.tup [a,wd,d]=>eqTS a "wrong"&&Ze wd d
 |_=>false
def preO:T->Prop
 |.tup [a,wd,d]=>eqTS a "wrong"=true->znr wd=true
 |_=>True
theorem zoo{H:Hp}{v:V}{t:T}(r:RT H v t)(h:znr t=true)(xs:List Str):inV v (xs.map V.str)=inT t xs/\zds v=true:=by
 unfold inV
 rw[List.any_map]
 cases r with
 |non=>exact⟨by show xs.any (fun _=>false)=false;simp,rfl⟩
 |bl b=>exact⟨by show xs.any (fun _=>false)=false;simp,rfl⟩
 |num i=>exact⟨by show xs.any (fun _=>false)=false;simp,rfl⟩
 |txt z=>exact⟨rfl,rfl⟩
 |tup _ _ _=>cases h
 |lst _=>cases h
 |dic _=>cases h
theorem zgP(xs:List Str):(xs.map V.str).all zds=true:=by
 rw[vS]
 simp[zds,Function.comp_def]
inductive spFitsWord(vs:List V)(H:Hp)(Q:VK)(z3:XK):Prop
 |mk (u v:V) (wt d:T) (_:vs=[u,v]) (_:RT H u wt) (_:RT H v d) (_:znr wt=true) (_:d.Sm) (_:∀H',Same H H'->Q (.bl (Ze wt d)) H')
inductive spIsOut(vs:List V)(H:Hp)(Q:VK)(z3:XK):Prop
 |mk (v:V) (t:T) (_:vs=[v]) (_:RT H v t) (_:t.Sm) (_:preO t) (_:∀H',Same H H'->Q (.bl (Zx t)) H')
theorem len2{α:Type}:∀{l:List α},l.length=2->∃a b,l=[a,b]
 |[a,b],_=>⟨a,b,rfl⟩
theorem len3{α:Type}:∀{l:List α},l.length=3->∃a b c,l=[a,b,c]
 |[a,b,c],_=>⟨a,b,c,rfl⟩
theorem zkD:∀ts:List T,ts.length≠2->ts.length≠3->Zx (.tup ts)=false
 |[],_,_=>rfl
 |[_],_,_=>rfl
 |[_,_],h,_=>absurd rfl h
 |[_,_,_],_,h=>absurd rfl h
 |_::_::_::_::_,_,_=>rfl
theorem Z2{z:Str}(h:(W.txt z).Ok):zjc (.txt z):=⟨h,by have:=h.1;simp only[W.size];lia,yS _⟩
theorem zhx:∀w∈Zo,decide (w∈zc7)=false:=by decide +kernel
theorem dyS{a b:Str}(h:a=b):decide (V.str a=V.str b)=true:=decide_eq_true (congrArg V.str h)
theorem dnS{a b:Str}(h:a≠b):decide (V.str a=V.str b)=false:=decide_eq_false fun z=>h (V.str.inj z)
theorem zer(z:Str)(xs:List Str):inT (.txt z) xs=decide (z∈xs):=by
 unfold inT
 rw[xF,List.any_eq_true,decide_eq_true_iff]
 exact⟨fun ⟨y,hy,e⟩=>by rw[←eq_of_beq e];exact hy,fun h=>⟨z,h,beq_self_eq_true z⟩⟩
theorem zf1(z:Str):(W.txt z).toT=.txt z:=by rw[W.toT]
theorem zmu(x:W):(Ou.toW ⟨["made"],x⟩).toT=.tup [.txt "made",x.toT]:=by
 simp only[Ou.toW,yJ,wQ,xC,xS,W.toT,toTs]
theorem zc8(w:Str)(x:W):(Ou.toW ⟨["wrong",w],x⟩).toT=.tup [.txt "wrong",.txt w,x.toT]:=by
 simp only[Ou.toW,yJ,wQ,xC,xS,W.toT,toTs]
theorem zes{x:W}(g:zjc x):zI x.toT=true/\x.toT.Sm:=⟨zfV g.1 g.2.1 g.2.2,zhV x (zjY x g.1)⟩
noncomputable def wdL:List Str:=["kind","great","nought","place","none","shut","cried"]
theorem zop:∀w∈wdL,w.length<=100000:=by decide +kernel
theorem zns:∀w∈zc7,w∈wdL:=by decide +kernel
theorem zkE:∀w∈Zo,w∈wdL:=by decide +kernel
theorem zet{w:Str}{t:T}(h:Ze (.txt w) t=true)(hw:w∈wdL)(sm:t.Sm):Zx (.tup [.txt "wrong",.txt w,t])=true/\preO (.tup [.txt "wrong",.txt w,t])/\(T.tup [.txt "wrong",.txt w,t]).Sm:=by
 refine⟨?_,fun _=>rfl,by show 3<=100000;decide,by show (uV "wrong").length<=100000;decide +kernel,zop w hw,sm,trivial⟩
 show (eqTS (.txt "wrong") "wrong"&&Ze (.txt w) t)=true
 rw[h,show eqTS (.txt "wrong") "wrong"=true by decide +kernel]
 rfl
theorem zbi{o:Ou}(g:GdO o):Zx o.toW.toT=true/\preO o.toW.toT/\o.toW.toT.Sm:=by
 cases g with
 | @made x g=>
  obtain⟨h1,h2⟩:=zes g
  rw[zmu]
  refine⟨?_,trivial,by show 2<=100000;decide,by show (uV "made").length<=100000;decide +kernel,h2,trivial⟩
  show (eqTS (.txt "made") "made"&&zI x.toT)=true
  rw[h1,show eqTS (.txt "made") "made"=true by decide +kernel]
  rfl
 | @bare w h=>
  rw[zc8,zf1]
  refine zet ?_ (zns w h) (by show (uV "").length<=100000;decide +kernel)
  unfold Ze
  rw[zer,decide_eq_true h,if_pos rfl]
  decide +kernel
 | @naming w z h hz=>
  obtain⟨h1,h2⟩:=zes (Z2 hz)
  rw[zc8]
  refine zet ?_ (zkE w h) h2
  rw[zf1] at h1 ⊢
  unfold Ze
  rw[zer,zer,zhx w h,decide_eq_true h,if_neg (by decide),if_pos rfl,h1]
  rfl
 | @cried x g=>
  obtain⟨h1,h2⟩:=zes g
  rw[zc8]
  refine zet ?_ (by decide +kernel) h2
  unfold Ze
  rw[zer,zer,show decide (uV "cried"∈zc7)=false by decide +kernel,show decide (uV "cried"∈Zo)=false by decide +kernel,if_neg (by decide),if_neg (by decide),h1,show eqTS (.txt "cried") "cried"=true by decide +kernel]
  rfl
theorem zgQ:FnScope ["word","detail"] ["word","detail"] (zi zca):=mkSc rfl (by decide +kernel)
theorem zgR(F:Fun K "fits_word" "fits_word" zca f fd)(G_is_worth:Have P w K mg base "is_worth" k ["thing"] (spIsWorth))(m_isi:mg "isinstance"=none)(m_str:mg "str"=none){g_BARE_WORDS:Addr}(m_BARE_WORDS:mg "BARE_WORDS"=some (.ref g_BARE_WORDS))(t_BARE_WORDS:∀H:Hp,SqT K H g_BARE_WORDS [.str "kind",.str "great",.str "nought",.str "place"]){g_NAMING_WORDS:Addr}(m_NAMING_WORDS:mg "NAMING_WORDS"=some (.ref g_NAMING_WORDS))(t_NAMING_WORDS:∀H:Hp,SqT K H g_NAMING_WORDS [.str "none",.str "shut"]):FnOk P w K mg base CX0 (k+1) f fd ["word","detail"] (spFitsWord):=by
 refine F.okQ zgQ (by rintro _ _ _ _ ⟨_,_,_,_,rfl,_⟩;rfl) fun _ _ _ _ H vs Q E hr h=>?_
 obtain⟨u,v,wt,d,rfl,ru,rv,hfl,hsm,q⟩:=h
 refine⟨_,(zd (zE (zk ZB (pv 0) (zam (v:=.ref g_BARE_WORDS) rfl m_BARE_WORDS rfl) (by rfl)) (zf (zl (zJ (zfQ hr.units0) (pv 1) zg (nomark _)))) zq)
  (zd (zE (zk ZB (pv 0) (zam (v:=.ref g_NAMING_WORDS) rfl m_NAMING_WORDS rfl) (by rfl)) (zf (zl (Zt (zj zP rfl m_isi zQ (za (pv 1) (za (ZP rfl m_str ZI) zb))) (ZG (zo G_is_worth hr rfl (za (pv 1) zb)))))) zq)
  (zf (zl (Zt (zJ (zfQ hr.units0) (pv 0) zg (nomark _)) (ZG (zo G_is_worth hr rfl (za (pv 1) zb)))))))),nm3 ?_⟩
 intros
 have q0:∀b:Bool,Ze wt d=b->Q (.bl b) H:=fun b e=>by rw[←e];exact q H (Sr H)
 have q1:∀(b:Bool)(H':Hp),Same H H'->Ze wt d=b->Q (.bl b) H':=fun b H' s e=>by rw[←e];exact q H' s
 obtain⟨e1,fl⟩:=zoo ru hfl zc7
 obtain⟨e2,_⟩:=zoo ru hfl Zo
 refine⟨_,rfl,g_BARE_WORDS,zc7.map V.str,rfl,.inr (t_BARE_WORDS H),fl,zgP zc7,_,rfl,?_⟩
 refine ite2 (fun c=>?_) (fun c=>?_)
 ·have c1:inT wt zc7=true:=by rw[←e1];exact c
  refine⟨_,rfl,d,_,rv,rfl,q0 _ ?_⟩
  unfold Ze
  rw[if_pos c1]
 ·have c1:¬inT wt zc7=true:=by rw[←e1];exact c
  refine⟨_,rfl,g_NAMING_WORDS,Zo.map V.str,rfl,.inr (t_NAMING_WORDS H),fl,zgP Zo,_,rfl,?_⟩
  refine ite2 (fun c=>?_) (fun c=>?_)
  ·have c2:inT wt Zo=true:=by rw[←e2];exact c
   have hb:Ze wt d=(zon d&&zI d):=by
    unfold Ze
    rw[if_neg c1,if_pos c2]
   cases rv with
   |non=>exact⟨_,rfl,_,_,_,_,rfl,.non,ze8,_,rfl,iteF (q0 _ hb)⟩
   |bl b=>exact⟨_,rfl,_,_,_,_,rfl,.bl b,ze7,_,rfl,iteF (q0 _ hb)⟩
   |num i=>exact⟨_,rfl,_,_,_,_,rfl,.int i,ze6,_,rfl,iteF (q0 _ hb)⟩
   |tup e _ _=>exact⟨_,rfl,_,_,_,_,rfl,.tup e,ze5,_,rfl,iteF (q0 _ hb)⟩
   |lst e=>exact⟨_,rfl,_,_,_,_,rfl,.lst e,ze9,_,rfl,iteF (q0 _ hb)⟩
   |dic e=>exact⟨_,rfl,_,_,_,_,rfl,.dK e,zfa,_,rfl,iteF (q0 _ hb)⟩
   |txt x=>exact⟨_,rfl,_,_,_,_,rfl,.str x,zdl,_,rfl,iteT ⟨_,rfl,_,.txt x,rfl,.txt x,hsm,fun H' s'=>q1 _ H' s' hb⟩⟩
  ·have c2:¬inT wt Zo=true:=by rw[←e2];exact c
   have hb:Ze wt d=(eqTS wt "cried"&&zI d):=by
    unfold Ze
    rw[if_neg c1,if_neg c2]
   refine⟨_,rfl,wt,_,ru,rfl,_,rfl,?_⟩
   refine ite2 (fun c=>?_) (fun c=>?_)
   ·have c3:eqTS wt "cried"=true:=c
    refine⟨_,rfl,v,d,rfl,rv,hsm,fun H' s'=>q1 _ H' s' ?_⟩
    rw[hb,c3,wT]
   ·have c3:eqTS wt "cried"=false:=xJ.mpr c
    refine q0 _ ?_
    rw[hb,c3,wI]
theorem zf2:FnScope ["thing"] ["thing"] (zi zbv):=mkSc rfl (by decide +kernel)
theorem zf3(F:Fun K "is_outcome" "is_outcome" zbv f fd)(G_fits_word:Have P w K mg base "fits_word" k ["word","detail"] (spFitsWord))(G_is_worth:Have P w K mg base "is_worth" k ["thing"] (spIsWorth))(m_isi:mg "isinstance"=none)(m_len:mg "len"=none)(m_tuple:mg "tuple"=none):FnOk P w K mg base CX0 (k+1) f fd ["thing"] (spIsOut):=by
 refine F.okQ zf2 (by rintro _ _ _ _ ⟨_,_,rfl,_⟩;rfl) fun _ _ _ _ H vs Q E hr h=>?_
 obtain⟨v,t,rfl,rt,hsm,hpre,q⟩:=h
 refine⟨_,(zd (zE (ZA (zX (zj zP rfl m_isi zQ (za (pv 0) (za (ZP rfl m_tuple zC) zb))))) (zf (zl Z5)) zq)
  (zd (zE (zk zY (zj zB rfl m_len tF (za (pv 0) zb)) ze (nomark _)) (zf (zl (Zt (zJ (zfQ hr.units0) (zz zw (pv 0) ze (fun _ _=>rfl)) zg (nomark _)) (ZG (zo G_is_worth hr rfl (za (zz zw (pv 0) ze (fun _ _=>rfl)) zb)))))) zq)
  (zf (zl (Zt (zJ zY (zj zB rfl m_len tF (za (pv 0) zb)) ze (nomark _)) (Zt (zJ (zfQ hr.units0) (zz zw (pv 0) ze (fun _ _=>rfl)) zg (nomark _)) (ZG (zo G_fits_word hr rfl (za (zz zw (pv 0) ze (fun _ _=>rfl)) (za (zz zw (pv 0) ze (fun _ _=>rfl)) zb)))))))))),nm3 ?_⟩
 intros
 have q0:∀b:Bool,Zx t=b->Q (.bl b) H:=fun b e=>by rw[←e];exact q H (Sr H)
 have q1:∀(b:Bool)(H':Hp),Same H H'->Zx t=b->Q (.bl b) H':=fun b H' s e=>by rw[←e];exact q H' s
 have dn:∀n m:Nat,decide (V.int (n:Int)=V.int (m:Int))=decide (n=m):=fun n m=>by
  rw[xF]
  simp
  lia
 cases rt with
 |non=>exact⟨_,rfl,_,_,_,_,rfl,.non,zcA,_,rfl,iteT (q0 _ rfl)⟩
 |bl b=>exact⟨_,rfl,_,_,_,_,rfl,.bl b,zcz,_,rfl,iteT (q0 _ rfl)⟩
 |num i=>exact⟨_,rfl,_,_,_,_,rfl,.int i,zb1,_,rfl,iteT (q0 _ rfl)⟩
 |txt x=>exact⟨_,rfl,_,_,_,_,rfl,.str x,zb2,_,rfl,iteT (q0 _ rfl)⟩
 |lst e=>exact⟨_,rfl,_,_,_,_,rfl,.lst e,zcB,_,rfl,iteT (q0 _ rfl)⟩
 |dic e=>exact⟨_,rfl,_,_,_,_,rfl,.dK e,zcC,_,rfl,iteT (q0 _ rfl)⟩
 | @tup a vs ts e l at'=>
  refine⟨_,rfl,_,_,_,_,rfl,.tup e,zbt,_,rfl,iteF ?_⟩
  refine⟨_,rfl,_,_,rfl,.inr ⟨_,Sq e,rfl⟩,rfl,_,rfl,?_⟩
  refine ite2 (fun c=>?_) (fun c=>?_)
  ·have c1:vs.length=2:=by
    have:=dn vs.length 2
    exact of_decide_eq_true (this.symm.trans c)
   obtain⟨u0,u1,rfl⟩:=len2 c1
   obtain⟨t0,t1,rfl⟩:=len2 (l.symm.trans c1)
   have r0:=at' 0 u0 t0 rfl rfl
   have r1:=at' 1 u1 t1 rfl rfl
   refine⟨_,rfl,a,_,0,u0,rfl,rfl,Sq e,rfl,t0,_,r0,rfl,_,rfl,?_⟩
   refine ite2 (fun c=>?_) (fun c=>?_)
   ·have c3:eqTS t0 "made"=true:=c
    refine⟨_,rfl,a,_,1,u1,rfl,rfl,Sq e,rfl,u1,t1,rfl,r1,hsm.2.2.1,fun H' s'=>q1 _ H' s' ?_⟩
    show (eqTS t0 "made"&&zI t1)=_
    rw[c3,wT]
   ·have c3:eqTS t0 "made"=false:=xJ.mpr c
    refine q0 _ ?_
    show (eqTS t0 "made"&&zI t1)=_
    rw[c3,wI]
  ·have c1:vs.length≠2:=fun z=>c (by rw[show (V.int 2)=V.int ((2:Nat):Int) from rfl,dn,z];rfl)
   refine⟨_,rfl,_,_,rfl,.inr ⟨_,Sq e,rfl⟩,rfl,_,rfl,?_⟩
   refine ite2 (fun c=>?_) (fun c=>?_)
   ·have c2:vs.length=3:=by
     have:=dn vs.length 3
     exact of_decide_eq_true (this.symm.trans c)
    obtain⟨u0,u1,u2,rfl⟩:=len3 c2
    obtain⟨t0,t1,t2,rfl⟩:=len3 (l.symm.trans c2)
    have r0:=at' 0 u0 t0 rfl rfl
    have r1:=at' 1 u1 t1 rfl rfl
    have r2:=at' 2 u2 t2 rfl rfl
    refine⟨_,rfl,a,_,0,u0,rfl,rfl,Sq e,rfl,t0,_,r0,rfl,_,rfl,?_⟩
    refine ite2 (fun c=>?_) (fun c=>?_)
    ·have c3:eqTS t0 "wrong"=true:=c
     refine⟨_,rfl,a,_,1,u1,rfl,rfl,Sq e,rfl,_,rfl,a,_,2,u2,rfl,rfl,Sq e,rfl,u1,u2,t1,t2,rfl,r1,r2,hpre c3,hsm.2.2.2.1,fun H' s'=>q1 _ H' s' ?_⟩
     show (eqTS t0 "wrong"&&Ze t1 t2)=_
     rw[c3,wT]
    ·have c3:eqTS t0 "wrong"=false:=xJ.mpr c
     refine q0 _ ?_
     show (eqTS t0 "wrong"&&Ze t1 t2)=_
     rw[c3,wI]
   ·have c2:vs.length≠3:=fun z=>c (by rw[show (V.int 3)=V.int ((3:Nat):Int) from rfl,dn,z];rfl)
    have c3:decide (V.int ((vs.length:Nat):Int)=V.int 3)=false:=xJ.mpr c
    refine q0 _ ?_
    rw[zkD ts (by lia) (by lia)]
abbrev Lk:Type:=Str×Ou
noncomputable def lkW(l:Lk):W:=.lst [.txt l.1,l.2.toW]
def trL(l:Lk):Tr:=.lst [trW numC (.txt l.1),trO l.2]
def GdL(l:Lk):Prop:=(W.txt l.1).Ok/\GdO l.2
structure Pa where
 r:Rl
 ls:List Lk
 e:Re
def Pa.toW(p:Pa):W:=.lst [p.r.toW,.lst (p.ls.map lkW),p.e.toW]
def trP(p:Pa):Tr:=.lst [nmT "paper",trR p.r,.lst (nmT "looks"::p.ls.map trL),trE p.e]
structure GdP(p:Pa):Prop where
 r:p.r.Gd
 rm:p.r.many<=20
 rh:p.r.high<=12
 l:∀x∈p.ls,GdL x
 ll:p.ls.length<=10
 e:GdE p.e
 em:p.e.many<=20
 ed:p.e.deep<14
inductive spBraP(K:tU)(vs:List V)(H:Hp)(Q:VK)(z3:XK):Prop
 |mk (l:Addr) (ys:List Str) (ts:List Tr) (_:vs=[.ref l]) (_:SqL K H l (ys.map V.str)) (_:ys.map (fun y=>y.cps.toList)=ts.map shT) (_:wid ts<=10000000) (_:∀x:Str,x.cps.toList=shT (.lst ts)->Q (.str x) H)
inductive spShowO(vs:List V)(H:Hp)(Q:VK)(z3:XK):Prop
 |mk (v:V) (o:Ou) (_:vs=[v]) (_:RW H v o.toW) (_:GdO o) (_:∀(x:Str)(H':Hp),x.cps.toList=shT (trO o)->Same H H'->Q (.str x) H')
inductive spShowE(n:Nat)(vs:List V)(H:Hp)(Q:VK)(z3:XK):Prop
 |mk (v:V) (e:Re) (_:vs=[v]) (_:RW H v e.toW) (_:GdE e) (_:e.deep<n) (_:e.many<=20) (_:∀(x:Str)(H':Hp),x.cps.toList=shT (trE e)->Same H H'->Q (.str x) H')
inductive spShowL(vs:List V)(H:Hp)(Q:VK)(z3:XK):Prop
 |mk (v:V) (l:Lk) (_:vs=[v]) (_:RW H v (lkW l)) (_:GdL l) (_:∀(x:Str)(H':Hp),x.cps.toList=shT (trL l)->Same H H'->Q (.str x) H')
inductive spShowP(vs:List V)(H:Hp)(Q:VK)(z3:XK):Prop
 |mk (v:V) (p:Pa) (_:vs=[v]) (_:RW H v p.toW) (_:GdP p) (_:∀(x:Str)(H':Hp),x.cps.toList=shT (trP p)->Same H H'->Q (.str x) H')
theorem zkF{H:Hp}:∀(ws:List Str){us:List V}{x:W},RWs H us (ws.map W.txt++[x])->∃lv,us=ws.map V.str++[lv]/\RW H lv x
 |[],us,x,h=>by
  obtain⟨v,r,rfl,h1,h2⟩:=RWs.inv_cons h
  obtain rfl:=h2.inv_nil
  exact⟨v,rfl,h1⟩
 |w::ws,us,x,h=>by
  obtain⟨v,r,rfl,h1,h2⟩:=RWs.inv_cons h
  obtain⟨lv,rfl,h3⟩:=zkF ws h2
  cases h1
  exact⟨lv,rfl,h3⟩
theorem opnO{H:Hp}{v:V}{o:Ou}(h:RW H v o.toW):∃a lv,v=.ref a/\H a=some (.tup (o.ws.map V.str++[lv]))/\RW H lv o.last:=by
 obtain⟨ws,x⟩:=o
 cases h with
 | @lst a vs ws' e l at'=>
  obtain⟨lv,rfl,h3⟩:=zkF ws ⟨l,at'⟩
  exact⟨a,lv,rfl,e,h3⟩
theorem GdO.good{o:Ou}(g:GdO o):zjc o.last/\o.ws.length<=2/\∀z∈o.ws,z.length<=6:=by
 cases g with
 |made h=>exact⟨h,(by show 1<=2;decide),(by show ∀z∈[uV "made"],z.length<=6;decide +kernel)⟩
 |bare h=>
  refine⟨⟨⟨by decide,fun c hc=>nomatch hc⟩,by simp only[W.size];decide,yS _⟩,(by show 2<=2;decide),fun z hz=>?_⟩
  rcases yG.mp hz with rfl|hz
  ·decide +kernel
  ·rw[yH.mp hz]
   exact (by decide +kernel:∀w∈zc7,w.length<=6) _ h
 |naming h hz=>
  refine⟨Z2 hz,(by show 2<=2;decide),fun z hz=>?_⟩
  rcases yG.mp hz with rfl|hz
  ·decide +kernel
  ·rw[yH.mp hz]
   exact (by decide +kernel:∀w∈Zo,w.length<=6) _ h
 |cried h=>exact⟨h,(by show 2<=2;decide),(by show ∀z∈[uV "wrong",uV "cried"],z.length<=6;decide +kernel)⟩
theorem zmv:∀ws:List Str,(∀z∈ws,z.length<=6)->wid (ws.map nmT)<=7*ws.length
 |[],_=>yS _
 |z::r,h=>by
  have h1:=h z yV
  have h2:=zmv r fun y hy=>h y (yM _ hy)
  rw[yJ,zG,nmT,shT,zH,yF]
  lia
theorem zaO{x:W}(g:zjc x):(shT (trW numC x)).length+1<=64000:=by
 have h1:=zfi x g.1
 have h2:=g.2.1
 rw[zbd]
 lia
theorem zoq{o:Ou}(g:GdO o):wid (o.ws.map nmT++[trW numC o.last])<=64100:=by
 obtain⟨g1,g2,g3⟩:=g.good
 have h1:=zmv o.ws g3
 have h2:=zaO g1
 rw[zhv,zG]
 show _+(_+1+0)<=_
 lia
theorem zbI(ts:List Tr):(shT (.lst ts)).length<=wid ts+2:=by
 have:=zbV ts
 rw[shT,yF,yC,xQ]
 lia
theorem zc9{o:Ou}(g:GdO o):(shT (trO o)).length+1<=65000:=by
 have h1:=zoq g
 have h2:=zbI (o.ws.map nmT++[trW numC o.last])
 show (shT (.lst (o.ws.map nmT++[trW numC o.last]))).length+1<=_
 lia
mutual
theorem zf4:∀e:Re,GdE e->(shT (trE e)).length+1<=66000*e.many
 |.mk o ps,g=>by
  rw[GdE] at g
  have h1:=zc9 g.1
  have h2:=shEs_len ps g.2
  have h3:=zbI (trO o::trEs ps)
  rw[zG] at h3
  rw[trE,Re.many]
  lia
theorem shEs_len:∀ps:List Re,GdEs ps->wid (trEs ps)<=66000*reManys ps
 |[],_=>by rw[trEs,reManys];exact yO _
 |p::r,g=>by
  rw[GdEs] at g
  have h1:=zf4 p g.1
  have h2:=shEs_len r g.2
  rw[trEs,reManys,zG]
  lia
end
theorem Z3:∀ps:List Re,reWs ps=ps.map Re.toW
 |[]=>rfl
 |p::r=>by rw[reWs,Z3 r];rfl
theorem zcN:∀ps:List Re,trEs ps=ps.map trE
 |[]=>rfl
 |p::r=>by rw[trEs,zcN r];rfl
theorem GdEs.mem:∀{ps:List Re},GdEs ps->∀p∈ps,GdE p
 |q::r,h,p,hp=>by
  rw[GdEs] at h
  rcases yG.mp hp with rfl|hp
  ·exact h.1
  ·exact GdEs.mem h.2 p hp
theorem zij:∀{ps:List Re}{p:Re},p∈ps->p.deep<=reDeeps ps/\p.many<=reManys ps
 |q::r,p,hp=>by
  rw[reDeeps,reManys]
  rcases yG.mp hp with rfl|hp
  ·lia
  ·have:=zij hp
   lia
theorem zeu:∀ps:List Re,ps.length<=reManys ps
 |[]=>yS _
 |.mk o qs::r=>by
  have:=zeu r
  rw[reManys,Re.many,yF]
  lia
theorem opn2{H:Hp}{v:V}{x y:W}(h:RW H v (.lst [x,y])):∃a u1 u2,v=.ref a/\H a=some (.tup [u1,u2])/\RW H u1 x/\RW H u2 y:=by
 cases h with
 | @lst a vs ws e l at'=>
  obtain⟨v1,r1,rfl,h1,h2⟩:=RWs.inv_cons ⟨l,at'⟩
  obtain⟨v2,r2,rfl,h3,h4⟩:=h2.inv_cons
  obtain rfl:=h4.inv_nil
  exact⟨a,v1,v2,rfl,e,h1,h3⟩
theorem opn3{H:Hp}{v:V}{x y z:W}(h:RW H v (.lst [x,y,z])):∃a u1 u2 u3,v=.ref a/\H a=some (.tup [u1,u2,u3])/\RW H u1 x/\RW H u2 y/\RW H u3 z:=by
 cases h with
 | @lst a vs ws e l at'=>
  obtain⟨v1,r1,rfl,h1,h2⟩:=RWs.inv_cons ⟨l,at'⟩
  obtain⟨v2,r2,rfl,h3,h4⟩:=h2.inv_cons
  obtain⟨v3,r3,rfl,h5,h6⟩:=h4.inv_cons
  obtain rfl:=h6.inv_nil
  exact⟨a,v1,v2,v3,rfl,e,h1,h3,h5⟩
theorem opnL{H:Hp}{v:V}{ws:List W}(h:RW H v (.lst ws)):∃a us,v=.ref a/\H a=some (.tup us)/\RWs H us ws:=by
 cases h with
 | @lst a vs ws e l at'=>exact⟨a,vs,rfl,e,l,at'⟩
theorem znt{l:Lk}(g:GdL l):(shT (trL l)).length+1<=130000:=by
 have w1:=zc9 g.2
 have w2:=zaO (Z2 g.1)
 have:=zbI [trW numC (.txt l.1),trO l.2]
 rw[zG,zG] at this
 have w0:wid ([]:List Tr)=0:=rfl
 rw[w0] at this
 show (shT (.lst [trW numC (.txt l.1),trO l.2])).length+1<=_
 lia
theorem zik:∀ls:List Lk,(∀x∈ls,GdL x)->wid (ls.map trL)<=130000*ls.length
 |[],_=>yS _
 |l::r,h=>by
  have h1:=znt (h l yV)
  have h2:=zik r fun x hx=>h x (yM _ hx)
  rw[yJ,zG,yF]
  lia
theorem zil(us:List V)(v:V):cutV (us++[v]) none (some (-1))=us:=by
 have h:HT.sIx (us++[v]).length (us++[v]).length (some (-1))=us.length:=by
  rw[yC,xQ]
  unfold HT.sIx
  simp only
  split<;>lia
 unfold cutV
 rw[h,HT.sIx_none,Nat.sub_zero,uJ,List.take_left]
theorem zbj:FnScope ["texts"] ["texts"] (zi Zh):=mkSc rfl (by decide +kernel)
theorem zbk(F:Fun K "bracketed" "bracketed" Zh f fd):FnOk P w K mg base CX0 (k+1) f fd ["texts"] (spBraP K):=by
 refine F.okQ zbj (by rintro _ _ _ _ ⟨_,_,_,rfl,_⟩;rfl) fun _ _ _ _ H vs Q E hr h=>?_
 obtain⟨l,ys,ts,rfl,sl,hm,hw,q⟩:=h
 refine⟨_,(zf (zl (zu zx (zu zx zg (ZZ tT tX tW zba zg (za (pv 0) zb))) zg))),?_⟩
 have hj:=zcM ys ts hm
 have hws:=zen ys ts hm
 have hjl:(Txt.join (uV " ") ys).length<=wid ts:=by
  rw[←zH,hj]
  exact zbV ts
 have l1:(uV " ").length=1:=by decide +kernel
 have l2:(uV "(").length=1:=by decide +kernel
 have l3:(uV ")").length=1:=by decide +kernel
 have c2:(uV "(").cps.toList=[40]:=by decide +kernel
 have hsz:(16777216:Nat)<=tH:=by decide
 refine⟨rfl,_,rfl,_,l,ys,rfl,rfl,sl,by rw[l1];lia,_,_,rfl,rfl,by rw[l2];lia,_,_,rfl,rfl,by rw[zt,l2,l3];lia,q _ ?_⟩
 rw[zT,zT,c2,hj,zdw,shT]
 rfl
theorem zev:FnScope ["outcome"] ["outcome"] (zi zaW):=mkSc rfl (by decide +kernel)
theorem zew(F:Fun K "show_outcome" "show_outcome" zaW f fd)(G_bracketed_papertexts:Have P w K mg base "bracketed_papertexts" k ["texts"] (spBraP K))(G_show_worth:Have P w K mg base "show_worth" k ["worth"] (spShow 14))(m_list:mg "list"=none):FnOk P w K mg base CX0 (k+1) f fd ["outcome"] (spShowO):=by
 refine F.okQ zev (by rintro _ _ _ _ ⟨_,_,rfl,_⟩;rfl) fun _ _ _ _ H vs Q E hr h=>?_
 obtain⟨v,o,rfl,rv,g,q⟩:=h
 refine⟨_,(zf (zl (zo G_bracketed_papertexts hr rfl (za (zu zaj (zD zai rfl m_list zav (za (Zv zcv (pv 0) zaR (Zn (zeJ zdh ze))) zb)) (zF (za (zo G_show_worth hr rfl (za (zz zw (pv 0) (zeJ zdh ze) (fun _ _=>rfl)) zb)) zb))) zb)))),?_⟩
 obtain⟨a,lv,rfl,ea,rl⟩:=opnO rv
 obtain⟨gw,hl2,_⟩:=g.good
 have hsx:HT.sIx (o.ws.map V.str++[lv]).length (o.ws.map V.str++[lv]).length (some (-1))=(o.ws.map V.str).length:=by
  rw[yC,xQ]
  unfold HT.sIx
  simp only
  split<;>lia
 refine⟨_,rfl,1,rfl,-1,rfl,a,_,rfl,Sq ea,?_,fun t ht=>?_⟩
 ·rw[hsx,yC,xQ]
  lia
 rw[zil]
 have s1:=Sn (o:=.tup (o.ws.map V.str)) ht
 have e1:upd H t (.tup (o.ws.map V.str)) t=some (.tup (o.ws.map V.str)):=zc
 generalize upd H t (.tup (o.ws.map V.str))=H1 at s1 e1
 refine⟨t,_,rfl,.inr (Sq e1),fun l hl=>?_⟩
 have s2:=Sn (o:=.lst (o.ws.map V.str)) hl
 have e2:upd H1 l (.lst (o.ws.map V.str)) l=some (.lst (o.ws.map V.str)):=zc
 generalize upd H1 l (.lst (o.ws.map V.str))=H2 at s2 e2
 have s02:=s1.trans s2
 refine⟨_,rfl,1,rfl,a,_,-1,lv,rfl,rfl,Sq (s02 _ _ ea),zfq _ _,lv,o.last,rfl,rl.mono (zh s02),gw.1,gw.2.1,wJ (xU gw.2.2),fun x H3 hx s3=>⟨zl1,fun l2 hl2'=>?_⟩⟩
 have s4:=Sn (o:=.lst [.str x]) hl2'
 have e4:upd H3 l2 (.lst [.str x]) l2=some (.lst [.str x]):=zc
 generalize upd H3 l2 (.lst [.str x])=H4 at s4 e4
 refine⟨l,l2,_,_,rfl,rfl,s4 _ _ (s3 _ _ e2),e4,small (by rw[yA];show _+1<=_;lia),fun p hp=>?_⟩
 have s5:=Sn (o:=.lst (o.ws.map V.str++[.str x])) hp
 refine⟨p,o.ws++[x],o.ws.map nmT++[trW numC o.last],rfl,Sl (by rw[zc,yK];rfl),?_,yQ (zoq g) (by decide),fun y hy=>q y _ hy (((s02.trans s3).trans s4).trans s5)⟩
 rw[yK,yK,xN,yJ,yJ,hx,zbd]
 rfl
theorem zeQ:FnScope ["record"] ["record"] (zi za6):=mkSc rfl (by decide +kernel)
theorem zeR{n:Nat}(F:Fun K "show_record" "show_record" za6 f fd)(G_bracketed_papertexts:Have P w K mg base "bracketed_papertexts" k ["texts"] (spBraP K))(G_show_outcome:Have P w K mg base "show_outcome" k ["outcome"] (spShowO))(G_show_record:Have P w K mg base "show_record" k ["record"] (spShowE n)):FnOk P w K mg base CX0 (k+1) f fd ["record"] (spShowE (n+1)):=by
 refine F.okQ zeQ (by rintro _ _ _ _ ⟨_,_,rfl,_⟩;rfl) fun _ _ _ _ H vs Q E hr h=>?_
 obtain⟨v,e,rfl,rv,g,hd,hm,q⟩:=h
 refine⟨_,(zf (zl (zo G_bracketed_papertexts hr rfl (za (zu zaj (zF (za (zo G_show_outcome hr rfl (za (zz zw (pv 0) ze (fun _ _=>rfl)) zb)) zb)) (zN [] [] rfl rfl (by decide +kernel) rfl (by decide +kernel) rfl (by decide +kernel) trivial rfl trivial (zaq (zz zw (pv 0) ze (fun _ _=>rfl))) (fun C s H fp=>⟨zM,(zo G_show_record hr rfl (za (pv 0) zb))⟩))) zb)))),?_⟩
 obtain⟨o,ps⟩:=e
 rw[Re.toW] at rv
 rw[GdE] at g
 rw[Re.deep] at hd
 rw[Re.many] at hm
 obtain⟨a,ov,pv,rfl,ea,ro,rp⟩:=opn2 rv
 obtain⟨b,us,rfl,eb,rus⟩:=opnL rp
 have hul:us.length=ps.length:=by rw[rus.len,Z3,yA]
 have hpl:=zeu ps
 refine⟨_,rfl,a,_,0,ov,rfl,rfl,Sq ea,rfl,ov,o,rfl,ro,g.1,fun x H1 hx s1=>⟨zl1,fun l hl=>?_⟩⟩
 have s2:=s1.trans (Sn (o:=.lst [.str x]) hl)
 have e2:upd H1 l (.lst [.str x]) l=some (.lst [.str x]):=zc
 generalize upd H1 l (.lst [.str x])=H2 at s2 e2
 refine⟨_,rfl,a,_,1,.ref b,rfl,rfl,Sq (s2 _ _ ea),rfl,b,rfl,⟨_,Sq (s2 _ _ eb)⟩,zat (K:=K) (vs:=us) (fun i ys H'=>∃xs:List Str,ys=xs.map V.str/\xs.length=i/\xs.map (fun y=>y.cps.toList)=((ps.take i).map trE).map shT/\Same H2 H') (small (by lia)) ⟨[],rfl,rfl,rfl,Sr _⟩ (fun i ys H' h=>?_) (fun i ys H' h=>?_) (fun i v ys H' R hv h hR=>?_) (fun ys H' D h hD=>?_)⟩
 ·obtain⟨xs,rfl,hl,_⟩:=h
  rw[yA];exact hl
 ·obtain⟨_,_,_,_,s3⟩:=h
  exact Sq (s3 _ _ (s2 _ _ eb))
 ·obtain⟨xs,rfl,hxl,hxs,s3⟩:=h
  have hi:i<ps.length:=by rw[←hul];exact (yE.mp hv).1
  have hpi:ps[i]?=some ps[i]:=yB hi
  have rw0:=rus.at' i v ps[i].toW hv (by rw[Z3,yN,hpi];rfl)
  have mem:=yW hi
  have dm:=zij mem
  refine⟨_,rfl,v,ps[i],rfl,rw0.mono (zh (s2.trans s3)),g.2.mem _ mem,by lia,by lia,fun y H4 hy s4=>hR _ _ ⟨xs++[y],by rw[yK];rfl,by rw[yC,hxl];rfl,?_,s3.trans s4⟩⟩
  rw[zR hpi,yK,yK,yK,hxs,yJ,yJ,yJ,hy]
  rfl
 ·obtain⟨xs,rfl,hxl,hxs,s3⟩:=h
  rw[hul,xO] at hxs
  have s4:=s3.trans (Sn (o:=.lst (xs.map V.str)) hD)
  refine⟨l,D,_,_,rfl,rfl,s4 _ _ e2,zc,small (by rw[yA];show 1+_<=_;lia),fun p hp=>?_⟩
  have w1:=zc9 g.1
  have w2:=shEs_len ps g.2
  refine⟨p,x::xs,trO o::trEs ps,rfl,Sl (by rw[zc];rfl),?_,?_,fun y hy=>q y _ hy ((s2.trans s4).trans (Sn hp))⟩
  ·rw[yJ,yJ,hx,hxs,zcN]
  ·rw[zG]
   lia
theorem zgS:FnScope ["look"] ["look"] (zi zci):=mkSc rfl (by decide +kernel)
theorem zgT(F:Fun K "show_look" "show_look" zci f fd)(G_bracketed_papertexts:Have P w K mg base "bracketed_papertexts" k ["texts"] (spBraP K))(G_show_outcome:Have P w K mg base "show_outcome" k ["outcome"] (spShowO))(G_show_worth:Have P w K mg base "show_worth" k ["worth"] (spShow 14)):FnOk P w K mg base CX0 (k+1) f fd ["look"] (spShowL):=by
 refine F.okQ zgS (by rintro _ _ _ _ ⟨_,_,rfl,_⟩;rfl) fun _ _ _ _ H vs Q E hr h=>?_
 obtain⟨v,l,rfl,rv,g,q⟩:=h
 refine⟨_,(zf (zl (zo G_bracketed_papertexts hr rfl (za (zF (za (zo G_show_worth hr rfl (za (zz zw (pv 0) ze (fun _ _=>rfl)) zb)) (za (zo G_show_outcome hr rfl (za (zz zw (pv 0) ze (fun _ _=>rfl)) zb)) zb))) zb)))),?_⟩
 obtain⟨z,o⟩:=l
 obtain⟨a,zv,ov,rfl,ea,rz,ro⟩:=opn2 rv
 have gz:=Z2 g.1
 refine⟨_,rfl,a,_,0,zv,rfl,rfl,Sq ea,rfl,zv,.txt z,rfl,rz,gz.1,gz.2.1,wJ (xU gz.2.2),fun x H1 hx s1=>?_⟩
 refine⟨_,rfl,a,_,1,ov,rfl,rfl,Sq (s1 _ _ ea),rfl,ov,o,rfl,ro.mono (zh s1),g.2,fun y H2 hy s2=>⟨zl2,fun p hp=>?_⟩⟩
 have w1:=zc9 g.2
 have w2:=zaO gz
 refine⟨p,[x,y],[trW numC (.txt z),trO o],rfl,Sl (by rw[zc];rfl),?_,?_,fun t ht=>q t _ ht ((s1.trans s2).trans (Sn hp))⟩
 ·rw[yJ,yJ,yJ,yJ,hx,hy,zbd]
  rfl
 ·rw[zG,zG]
  show _+(_+1+0)<=_
  have w1':(shT (trO o)).length+1<=65000:=w1
  have w2':(shT (trW numC (.txt z))).length+1<=64000:=w2
  lia
theorem zcO:FnScope ["paper","looks"] ["paper"] (zi zby):=mkSc rfl (by decide +kernel)
theorem zf5(F:Fun K "show_paper" "show_paper" zby f fd)(G_bracketed_papertexts:Have P w K mg base "bracketed_papertexts" k ["texts"] (spBraP K))(G_show_record:Have P w K mg base "show_record" k ["record"] (spShowE 14))(G_show_rule:Have P w K mg base "show_rule" k ["rule"] (spShowR 14))(G_show_look:Have P w K mg base "show_look" k ["look"] (spShowL)):FnOk P w K mg base CX0 (k+1) f fd ["paper"] (spShowP):=by
 refine F.okQ zcO (by rintro _ _ _ _ ⟨_,_,rfl,_⟩;rfl) fun _ _ _ _ H vs Q E hr h=>?_
 obtain⟨v,p,rfl,rv,g,q⟩:=h
 refine⟨_,(zd (zm (i:=1) zcO.nd rfl (Or.inl rfl) (zo G_bracketed_papertexts hr rfl (za (zu zaj (zF (za zg zb)) (zN [] [] rfl rfl (by decide +kernel) rfl (by decide +kernel) rfl (by decide +kernel) trivial rfl trivial (zaq (zz zw (pv 0) ze (fun _ _=>rfl))) (fun C s H fp=>⟨zM,(zo G_show_look hr rfl (za (pv 0) zb))⟩))) zb)))
  (zf (zl (zo G_bracketed_papertexts hr rfl (za (zF (za zg (za (zo G_show_rule hr rfl (za (zz zw (pv 0) ze (fun _ _=>rfl)) zb)) (za (pv 1) (za (zo G_show_record hr rfl (za (zz zw (pv 0) ze (fun _ _=>rfl)) zb)) zb))))) zb))))),nm2 ?_⟩
 intros
 obtain⟨r,ls,e⟩:=p
 obtain⟨a,rv',lv,ev,rfl,ea,rr,rl,re⟩:=opn3 rv
 obtain⟨b,us,rfl,eb,rus⟩:=opnL rl
 have hul:us.length=ls.length:=by rw[rus.len,yA]
 have hll:ls.length<=10:=g.ll
 refine⟨zl1,fun l hl=>?_⟩
 have s2:=Sn (o:=.lst [.str "looks"]) hl
 have e2:upd H l (.lst [.str "looks"]) l=some (.lst [.str "looks"]):=zc
 generalize upd H l (.lst [.str "looks"])=H2 at s2 e2
 refine⟨_,rfl,a,_,1,.ref b,rfl,rfl,Sq (s2 _ _ ea),rfl,b,rfl,⟨_,Sq (s2 _ _ eb)⟩,zat (K:=K) (vs:=us) (fun i ys H'=>∃xs:List Str,ys=xs.map V.str/\xs.length=i/\xs.map (fun y=>y.cps.toList)=((ls.take i).map trL).map shT/\Same H2 H') (small (by lia)) ⟨[],rfl,rfl,rfl,Sr _⟩ (fun i ys H' h=>?_) (fun i ys H' h=>?_) (fun i v ys H' R hv h hR=>?_) (fun ys H' D h hD=>?_)⟩
 ·obtain⟨xs,rfl,hl,_⟩:=h
  rw[yA];exact hl
 ·obtain⟨_,_,_,_,s3⟩:=h
  exact Sq (s3 _ _ (s2 _ _ eb))
 ·obtain⟨xs,rfl,hxl,hxs,s3⟩:=h
  have hi:i<ls.length:=by rw[←hul];exact (yE.mp hv).1
  have hpi:ls[i]?=some ls[i]:=yB hi
  have rw0:=rus.at' i v (lkW ls[i]) hv (by rw[yN,hpi];rfl)
  refine⟨_,rfl,v,ls[i],rfl,rw0.mono (zh (s2.trans s3)),g.l _ (yW hi),fun y H4 hy s4=>hR _ _ ⟨xs++[y],by rw[yK];rfl,by rw[yC,hxl];rfl,?_,s3.trans s4⟩⟩
  rw[zR hpi,yK,yK,yK,hxs,yJ,yJ,yJ,hy]
  rfl
 obtain⟨xs,rfl,hxl,hxs,s3⟩:=h
 rw[hul,xO] at hxs
 have s4:=s3.trans (Sn (o:=.lst (xs.map V.str)) hD)
 refine⟨l,D,_,_,rfl,rfl,s4 _ _ e2,zc,small (by rw[yA];show 1+_<=_;lia),fun p hp=>?_⟩
 have w1:=zik ls g.l
 have l5:((uV "looks").cps.toList).length=5:=by decide +kernel
 have l6:((uV "paper").cps.toList).length=5:=by decide +kernel
 have wl:wid (nmT "looks"::ls.map trL)<=1400000:=by
  rw[zG,nmT,shT,l5]
  lia
 refine⟨p,uV "looks"::xs,nmT "looks"::ls.map trL,rfl,Sl (by rw[zc];rfl),?_,yQ wl (by decide),fun lx hlx=>?_⟩
 ·rw[yJ,yJ,hxs]
  rfl
 have s5:=(s2.trans s4).trans (Sn (o:=.lst ([.str "looks"]++xs.map V.str)) hp)
 generalize upd (upd H' D (.lst (xs.map V.str))) p (.lst ([.str "looks"]++xs.map V.str))=H5 at s5
 have rm:r.many<=20:=g.rm
 have rh:r.high<=12:=g.rh
 have em:e.many<=20:=g.em
 dsimp only[zW]
 refine⟨_,rfl,a,_,0,rv',rfl,rfl,Sq (s5 _ _ ea),rfl,rv',r,rfl,rr.mono (zh s5),g.r,by lia,by lia,fun x H6 hx s6=>?_⟩
 refine⟨_,rfl,_,rfl,a,_,2,ev,rfl,rfl,Sq (s6 _ _ (s5 _ _ ea)),rfl,ev,e,rfl,re.mono (zh (s5.trans s6)),g.e,g.ed,em,fun y H7 hy s7=>⟨zl4,fun p2 hp2=>?_⟩⟩
 have w2:=zem r g.r
 have w3:=zf4 e g.e
 have w4:=zbI (nmT "looks"::ls.map trL)
 refine⟨p2,[uV "paper",x,lx,y],[nmT "paper",trR r,.lst (nmT "looks"::ls.map trL),trE e],rfl,Sl (by rw[zc];rfl),?_,?_,fun t ht=>q t _ ht (((s5.trans s6).trans s7).trans (Sn hp2))⟩
 ·simp only[yJ,wQ,hx,hlx,hy]
  rfl
 ·rw[zG,zG,zG,zG,nmT,shT,l6]
  show _+(_+(_+(_+1+0)))<=_
  lia
inductive spTextT(vs:List V)(H:Hp)(Q:VK)(z3:XK):Prop
 |mk (v:V) (z:Str) (_:vs=[v]) (_:RTr H v (trW numC (.txt z))) (_:(W.txt z).Ok) (_:∀H',Same H H'->Q (.str z) H')
inductive spInner(vs:List V)(H:Hp)(Q:VK)(z3:XK):Prop
 |mk (v:V) (ts:List Tr) (_:vs=[v]) (_:RTr H v (.lst ts)) (_:∀(b:Addr)(us:List V),H b=some (.tup us)->RTrs H us ts->Q (.ref b) H)
inductive spWordT(vs:List V)(H:Hp)(Q:VK)(z3:XK):Prop
 |mk (v:V) (z:Str) (_:vs=[v]) (_:RTr H v (nmT z)) (_:Q (.str z) H)
inductive spBehind(vs:List V)(H:Hp)(Q:VK)(z3:XK):Prop
 |mk (z:Str) (v:V) (ts:List Tr) (_:vs=[.str z,v]) (_:RTr H v (.lst (nmT z::ts))) (_:∀(b:Addr)(us:List V)(H':Hp),Same H H'->H' b=some (.tup us)->RTrs H' us ts->Q (.ref b) H')
inductive spOutT(vs:List V)(H:Hp)(Q:VK)(z3:XK):Prop
 |mk (v:V) (o:Ou) (_:vs=[v]) (_:RTr H v (trO o)) (_:GdO o) (_:∀(u:V)(H':Hp),Same H H'->RW H' u o.toW->Q u H')
inductive spRecT(n:Nat)(vs:List V)(H:Hp)(Q:VK)(z3:XK):Prop
 |mk (v:V) (e:Re) (_:vs=[v]) (_:RTr H v (trE e)) (_:GdE e) (_:e.deep<n) (_:e.many<=20) (_:∀(u:V)(H':Hp),Same H H'->RW H' u e.toW->Q u H')
inductive spLookT(vs:List V)(H:Hp)(Q:VK)(z3:XK):Prop
 |mk (v:V) (l:Lk) (_:vs=[v]) (_:RTr H v (trL l)) (_:GdL l) (_:∀(u:V)(H':Hp),Same H H'->RW H' u (lkW l)->Q u H')
inductive spPapT(vs:List V)(H:Hp)(Q:VK)(z3:XK):Prop
 |mk (v:V) (p:Pa) (_:vs=[v]) (_:RTr H v (trP p)) (_:GdP p) (_:Rule p.r) (_:∀(u:V)(H':Hp),Same H H'->RW H' u p.toW->Q u H')
theorem rws2{H:Hp}{u v:V}{x y:W}(h1:RW H u x)(h2:RW H v y):RWs H [u,v] [x,y]:=⟨rfl,fun i a b ha hb=>by
 match i with
 |0=>cases ha;cases hb;exact h1
 |1=>cases ha;cases hb;exact h2
 |n+2=>cases ha⟩
theorem rws3{H:Hp}{u v t:V}{x y z:W}(h1:RW H u x)(h2:RW H v y)(h3:RW H t z):RWs H [u,v,t] [x,y,z]:=⟨rfl,fun i a b ha hb=>by
 match i with
 |0=>cases ha;cases hb;exact h1
 |1=>cases ha;cases hb;exact h2
 |2=>cases ha;cases hb;exact h3
 |n+3=>cases ha⟩
theorem rwsO{H:Hp}{u:V}{x:W}(h:RW H u x):∀ws:List Str,RWs H (ws.map V.str++[u]) (ws.map W.txt++[x])
 |[]=>⟨rfl,fun i a b ha hb=>by
   match i with
   |0=>cases ha;cases hb;exact h
   |n+1=>cases ha⟩
 |w::ws=>by
  have ih:=rwsO h ws
  refine⟨by rw[yJ,yJ,xC,xC,yF,yF,ih.len],fun i a b ha hb=>?_⟩
  cases i with
  |zero=>cases ha;cases hb;exact .txt w
  |succ n=>exact ih.at' n a b ha hb
theorem GdO.ne{o:Ou}(g:GdO o):o.ws≠[]:=by cases g<;>exact fun h=>nomatch h
theorem zor(us:List V)(v:V):HT.sIx (us++[v]).length (us++[v]).length (some (-1))=us.length:=by
 rw[yC,xQ]
 unfold HT.sIx
 simp only
 split<;>lia
theorem znu(v:V)(vs:List V):cutV (v::vs) (some 1) none=vs:=by
 unfold cutV
 rw[show (1:Int)=((1:Nat):Int) from rfl,HT.sIx_nat,HT.sIx_none,yF,Nat.min_eq_left (by lia),vR,uJ,xD (by lia)]
theorem znv(v:V)(vs:List V)(n:Nat):¬(HT.sIx (v::vs).length 0 (some 1)=0/\n=n):=fun h=>by
 have:=h.1
 rw[show (1:Int)=((1:Nat):Int) from rfl,HT.sIx_nat,yF] at this
 lia
theorem zim{o:Ou}(g:GdO o):(trO o).deep<=13:=by
 show 1+deeps (o.ws.map nmT++[trW numC o.last])<=13
 have:=zdO (ts:=o.ws.map nmT++[trW numC o.last]) (n:=12) fun t ht=>by
  rcases yU.mp ht with ht|ht
  ·obtain⟨z,_,rfl⟩:=yX.mp ht
   exact yS _
  ·rw[yH.mp ht,zff]
   exact g.good.1.2.2
 lia
mutual
theorem zin:∀e:Re,GdE e->(trE e).deep<=e.deep+13
 |.mk o ps,g=>by
  rw[GdE] at g
  have h1:=zim g.1
  have h2:=trEs_deep ps g.2
  rw[trE,Re.deep]
  show 1+max (trO o).deep (deeps (trEs ps))<=_
  lia
theorem trEs_deep:∀ps:List Re,GdEs ps->deeps (trEs ps)<=reDeeps ps+13
 |[],_=>yS _
 |p::r,g=>by
  rw[GdEs] at g
  have h1:=zin p g.1
  have h2:=trEs_deep r g.2
  rw[trEs,reDeeps]
  show max (trE p).deep (deeps (trEs r))<=_
  lia
end
theorem zlV{p:Pa}(g:GdP p):(trP p).deep<=90:=by
 have h1:=zii p.r g.r
 have h2:=zin p.e g.e
 have h3:=g.rh
 have h4:=g.ed
 have h5:deeps (p.ls.map trL)<=20:=zdO fun t ht=>by
  obtain⟨l,hl,rfl⟩:=yX.mp ht
  have:=zim (g.l l hl).2
  show 1+max (trW numC (.txt l.1)).deep (max (trO l.2).deep 0)<=20
  have h0:(trW numC (.txt l.1)).deep=0:=by rw[zff];rfl
  lia
 show 1+max 0 (max (trR p.r).deep (max (1+max 0 (deeps (p.ls.map trL))) (max (trE p.e).deep 0)))<=90
 lia
theorem zex:FnScope ["tree"] ["tree"] (zi zaT):=mkSc rfl (by decide +kernel)
theorem zey(F:Fun K "text_of_tree" "text_of_tree" zaT f fd)(G_is_worth:Have P w K mg base "is_worth" k ["thing"] (spIsWorth)):FnOk P w K mg base CX0 (k+1) f fd ["tree"] (spTextT):=by
 refine F.okQ zex (by rintro _ _ _ _ ⟨_,_,rfl,_⟩;rfl) fun _ _ _ _ H vs Q E hr h=>?_
 obtain⟨v,z,rfl,rv,ok,q⟩:=h
 refine⟨_,(zd (zE (PW.pt (Z6 (zk zaz (zz zw (pv 0) ze (fun _ _=>rfl)) zg (nomark _)) (ZF (ZA (zX (zo G_is_worth hr rfl (za (zz zw (pv 0) ze (fun _ _=>rfl)) zb))))))) zU zq)
  (zf (zl (zz zw (pv 0) ze (fun _ _=>rfl))))),nm2 ?_⟩
 intros
 rw[trW] at rv
 cases rv with
 | @txt a q' e=>
  have e:H a=some (.tup [.str "text",.str z]):=by rw[e,←strOf z]
  refine⟨_,rfl,a,_,0,_,rfl,rfl,Sq e,rfl,rfl,_,rfl,?_⟩
  rw[dyS rfl]
  have gz:=Z2 ok
  refine iteF ⟨_,rfl,a,_,1,_,rfl,rfl,Sq e,rfl,.str z,(W.txt z).toT,rfl,(RW.txt z).toRT,zhV _ (zjY _ ok),fun H1 s1=>?_⟩
  rw[zfV gz.1 gz.2.1 gz.2.2]
  refine⟨_,rfl,iteF ?_⟩
  exact⟨_,rfl,a,_,1,_,rfl,rfl,Sq (s1 _ _ e),rfl,q H1 s1⟩
theorem zeS:FnScope ["tree"] ["tree"] (zi za7):=mkSc rfl (by decide +kernel)
theorem zeT(F:Fun K "inner_trees" "inner_trees" za7 f fd):FnOk P w K mg base CX0 (k+1) f fd ["tree"] (spInner):=by
 refine F.okQ zeS (by rintro _ _ _ _ ⟨_,_,rfl,_⟩;rfl) fun _ _ _ _ H vs Q E hr h=>?_
 obtain⟨v,ts,rfl,rv,q⟩:=h
 refine⟨_,(zd (zE (zk zaz (zz zw (pv 0) ze (fun _ _=>rfl)) zg (nomark _)) zU zq)
  (zf (zl (zz zw (pv 0) ze (fun _ _=>rfl))))),nm2 ?_⟩
 intros
 cases rv with
 | @lst a b us ts e e2 l at'=>
  refine⟨_,rfl,a,_,0,_,rfl,rfl,Sq e,rfl,rfl,_,rfl,?_⟩
  rw[dyS rfl]
  exact iteF ⟨_,rfl,a,_,1,_,rfl,rfl,Sq e,rfl,q b us e2 ⟨l,at'⟩⟩
theorem zez:FnScope ["tree"] ["tree"] (zi zaX):=mkSc rfl (by decide +kernel)
theorem zeA(F:Fun K "word_of_tree" "word_of_tree" zaX f fd):FnOk P w K mg base CX0 (k+1) f fd ["tree"] (spWordT):=by
 refine F.okQ zez (by rintro _ _ _ _ ⟨_,_,rfl,_⟩;rfl) fun _ _ _ _ H vs Q E hr h=>?_
 obtain⟨v,z,rfl,rv,q⟩:=h
 refine⟨_,(zd (zE (zk zaz (zz zw (pv 0) ze (fun _ _=>rfl)) zg (nomark _)) zU zq)
  (zf (zl (zz zw (pv 0) ze (fun _ _=>rfl))))),nm2 ?_⟩
 intros
 obtain⟨a,rfl,e⟩:=rv.nm_inv
 refine⟨_,rfl,a,_,0,_,rfl,rfl,Sq e,rfl,rfl,_,rfl,?_⟩
 rw[dyS rfl]
 exact iteF ⟨_,rfl,a,_,1,_,rfl,rfl,Sq e,rfl,q⟩
theorem zbJ:FnScope ["word","tree","trees"] ["word","tree"] (zi zaY):=mkSc rfl (by decide +kernel)
theorem zeB(F:Fun K "trees_behind" "trees_behind" zaY f fd)(G_word_of_tree:Have P w K mg base "word_of_tree" k ["tree"] (spWordT))(G_inner_trees:Have P w K mg base "inner_trees" k ["tree"] (spInner))(m_len:mg "len"=none):FnOk P w K mg base CX0 (k+1) f fd ["word","tree"] (spBehind):=by
 refine F.okQ zbJ (by rintro _ _ _ _ ⟨_,_,_,rfl,_⟩;rfl) fun _ _ _ _ H vs Q E hr h=>?_
 obtain⟨z,v,ts,rfl,rv,q⟩:=h
 refine⟨_,(zd (zm (i:=2) zbJ.nd rfl (Or.inl rfl) (zo G_inner_trees hr rfl (za (pv 1) zb)))
  (zd (zE (PW.pt (Z6 (zk zY (zj zB rfl m_len tF (za (pv 2) zb)) ze (nomark _)) (ZF (zk zaz (zo G_word_of_tree hr rfl (za (zz zw (pv 2) ze (fun _ _=>rfl)) zb)) (pv 0) (nomark _))))) zU zq)
  (zf (zl (Zv zcv (pv 2) (Zn ze) zaR))))),nm3 ?_⟩
 intros
 refine⟨_,rfl,v,_,rfl,rv,fun b us eb rus=>?_⟩
 obtain⟨v0,vs,rfl,r0,rvs⟩:=rus.cons_inv
 refine⟨_,rfl,_,_,rfl,.inr ⟨_,Sq eb,rfl⟩,rfl,_,rfl,?_⟩
 rw[decide_eq_false (fun z=>by have:=V.int.inj z;simp only[yF] at this;lia)]
 refine iteF ⟨_,rfl,b,_,0,_,rfl,rfl,Sq eb,zS (j:=0) rfl,v0,z,rfl,r0,_,rfl,rfl,_,rfl,?_⟩
 rw[dyS rfl]
 refine iteF ⟨_,rfl,1,rfl,b,_,rfl,Sq eb,fun h=>?_,fun p hp=>?_⟩
 ·have:=h.1
  rw[show (1:Int)=((1:Nat):Int) from rfl,HT.sIx_nat,yF] at this
  lia
 have ec:cutV (v0::vs) (some 1) none=vs:=by
  unfold cutV
  rw[show (1:Int)=((1:Nat):Int) from rfl,HT.sIx_nat,HT.sIx_none,yF,Nat.min_eq_left (by lia),vR,uJ,xD (by lia)]
 rw[ec]
 have s1:=Sn (o:=.tup vs) hp
 exact q p vs _ s1 zc (rvs.mono (zh s1))
theorem Z4:FnScope ["tree","trees","outcome"] ["tree"] (zi Z9):=mkSc rfl (by decide +kernel)
theorem zcP(F:Fun K "outcome_of_tree" "outcome_of_tree" Z9 f fd)(G_is_outcome:Have P w K mg base "is_outcome" k ["thing"] (spIsOut))(G_word_of_tree:Have P w K mg base "word_of_tree" k ["tree"] (spWordT))(G_worth_of_tree:Have P w K mg base "worth_of_tree" k ["tree"] (spWTree 14))(G_inner_trees:Have P w K mg base "inner_trees" k ["tree"] (spInner))(m_len:mg "len"=none)(m_tuple:mg "tuple"=none):FnOk P w K mg base CX0 (k+1) f fd ["tree"] (spOutT):=by
 refine F.okQ Z4 (by rintro _ _ _ _ ⟨_,_,rfl,_⟩;rfl) fun _ _ _ _ H vs Q E hr h=>?_
 obtain⟨v,o,rfl,rv,g,q⟩:=h
 refine⟨_,(zd (zm (i:=1) Z4.nd rfl (Or.inl rfl) (zo G_inner_trees hr rfl (za (pv 0) zb)))
  (zd (zE (zk zY (zj zB rfl m_len tF (za (pv 1) zb)) ze (nomark _)) zU zq)
  (zd (zm (i:=2) Z4.nd rfl (Or.inl rfl) (zu zb6 (zD zK rfl m_tuple zC (za (zN [] [] rfl rfl (by decide +kernel) rfl (by decide +kernel) rfl (by decide +kernel) trivial rfl trivial (zaq (Zv zcv (pv 1) zaR (Zn (zeJ zdh ze)))) (fun C s H fp=>⟨zM,(zo G_word_of_tree hr rfl (za (pv 0) zb))⟩)) zb)) (zy (za (zo G_worth_of_tree hr rfl (za (zz zw (pv 1) (zeJ zdh ze) (fun _ _=>rfl)) zb)) zb))))
  (zd (zE (ZA (zX (zo G_is_outcome hr rfl (za (pv 2) zb)))) zU zq)
  (zf (zl (pv 2))))))),nm5 ?_⟩
 intros
 obtain⟨gw,hl2,_⟩:=g.good
 refine⟨_,rfl,v,_,rfl,rv,fun b us eb rus=>?_⟩
 obtain⟨xs,ys,rfl,rxs,rys⟩:=rus.app_inv
 obtain⟨lv,vs,rfl,rl,rvs⟩:=rys.cons_inv
 obtain rfl:vs=[]:=yR.mp rvs.len
 have hxl:xs.length=o.ws.length:=by rw[rxs.len,yA]
 refine⟨_,rfl,_,_,rfl,.inr ⟨_,Sq eb,rfl⟩,rfl,_,rfl,?_⟩
 rw[decide_eq_false (fun z=>by have:=V.int.inj z;simp only[yC,xQ] at this;lia)]
 refine iteF ⟨_,rfl,1,rfl,-1,rfl,b,_,rfl,Sq eb,?_,fun t ht=>?_⟩
 ·rw[zor,yC,xQ]
  lia
 rw[zil]
 have s1:=Sn (o:=.tup xs) ht
 have e1:upd H t (.tup xs) t=some (.tup xs):=zc
 generalize upd H t (.tup xs)=H1 at s1 e1
 refine⟨t,rfl,⟨_,Sq e1⟩,zat (K:=K) (vs:=xs) (fun i ys H'=>ys=(o.ws.take i).map V.str/\i<=o.ws.length/\Same H1 H') (small (by lia)) ⟨rfl,yS _,Sr _⟩ (fun i ys H' h=>?_) (fun i ys H' h=>?_) (fun i v ys H' R hv h hR=>?_) (fun ys H' D h hD=>?_)⟩
 ·obtain⟨rfl,hi,_⟩:=h
  rw[yA,yY];lia
 ·exact Sq (h.2.2 _ _ e1)
 ·obtain⟨rfl,_,s2⟩:=h
  have hi:i<o.ws.length:=by rw[←hxl];exact (yE.mp hv).1
  have hpi:o.ws[i]?=some o.ws[i]:=yB hi
  have r0:=rxs.at' i v (nmT o.ws[i]) hv (by rw[yN,hpi];rfl)
  refine⟨_,rfl,v,o.ws[i],rfl,r0.mono (zh (s1.trans s2)),hR _ _ ⟨?_,hi,s2⟩⟩
  rw[zR hpi,yK]
  rfl
 obtain⟨rfl,_,s2⟩:=h
 rw[hxl,xO]
 have s3:=(s1.trans s2).trans (Sn (o:=.lst (o.ws.map V.str)) hD)
 refine⟨D,_,rfl,.inl ⟨Sl zc,fun t2 ht2=>?_⟩⟩
 have s4:=s3.trans (Sn (o:=.tup (o.ws.map V.str)) ht2)
 have e4:upd (upd H' D (.lst (o.ws.map V.str))) t2 (.tup (o.ws.map V.str)) t2=some (.tup (o.ws.map V.str)):=zc
 generalize upd (upd H' D (.lst (o.ws.map V.str))) t2 (.tup (o.ws.map V.str))=H4 at s4 e4
 refine⟨_,rfl,1,rfl,b,_,-1,lv,rfl,rfl,Sq (s4 _ _ eb),zfq _ _,lv,o.last,rfl,rl.mono (zh s4),gw.1,wJ (xU gw.2.2),fun u H5 s5 ru=>⟨zl1,fun p hp=>?_⟩⟩
 have s6:=s5.trans (Sn (o:=.tup [u]) hp)
 have e6:upd H5 p (.tup [u]) p=some (.tup [u]):=zc
 have ru6:=ru.mono (zh (Sn (o:=.tup [u]) hp))
 generalize upd H5 p (.tup [u])=H6 at s6 e6 ru6
 refine⟨t2,p,o.ws.map V.str,[u],rfl,rfl,Sq (s6 _ _ e4),Sq e6,fun h=>g.ne (uN.mp h),small (by rw[yA];show _+1<=_;lia),fun h=>(nomatch h),fun _ p2 hp2=>?_⟩
 have s7:=Sn (o:=.tup (o.ws.map V.str++[u])) hp2
 have ro:RW (upd H6 p2 (.tup (o.ws.map V.str++[u]))) (.ref p2) o.toW:=by
  have rr:=rwsO (ru6.mono (zh s7)) o.ws
  exact .lst zc rr.len rr.at'
 have s8:=(s4.trans s6).trans s7
 generalize upd H6 p2 (.tup (o.ws.map V.str++[u]))=H8 at s7 ro s8
 dsimp only[zW]
 obtain⟨g1,g2,g3⟩:=zbi g
 exact⟨_,rfl,.ref p2,_,rfl,ro.toRT,g3,g2,fun H9 s9=>by rw[g1];exact⟨_,rfl,iteF ⟨_,rfl,q _ _ (s8.trans s9) (ro.mono (zh s9))⟩⟩⟩
theorem za3:FnScope ["tree","trees"] ["tree"] (zi zan):=mkSc rfl (by decide +kernel)
theorem zda{n:Nat}(F:Fun K "record_of_tree" "record_of_tree" zan f fd)(G_record_of_tree:Have P w K mg base "record_of_tree" k ["tree"] (spRecT n))(G_outcome_of_tree:Have P w K mg base "outcome_of_tree" k ["tree"] (spOutT))(G_inner_trees:Have P w K mg base "inner_trees" k ["tree"] (spInner))(m_len:mg "len"=none)(m_tuple:mg "tuple"=none):FnOk P w K mg base CX0 (k+1) f fd ["tree"] (spRecT (n+1)):=by
 refine F.okQ za3 (by rintro _ _ _ _ ⟨_,_,rfl,_⟩;rfl) fun _ _ _ _ H vs Q E hr h=>?_
 obtain⟨v,e,rfl,rv,g,hd,hm,q⟩:=h
 refine⟨_,(zd (zm (i:=1) za3.nd rfl (Or.inl rfl) (zo G_inner_trees hr rfl (za (pv 0) zb)))
  (zd (zE (zk zY (zj zB rfl m_len tF (za (pv 1) zb)) ze (nomark _)) zU zq)
  (zf (zl (zy (za (zo G_outcome_of_tree hr rfl (za (zz zw (pv 1) ze (fun _ _=>rfl)) zb)) (za (zD zK rfl m_tuple zC (za (zN [] [] rfl rfl (by decide +kernel) rfl (by decide +kernel) rfl (by decide +kernel) trivial rfl trivial (zaq (Zv zcv (pv 1) (Zn ze) zaR)) (fun C s H fp=>⟨zM,(zo G_record_of_tree hr rfl (za (pv 0) zb))⟩)) zb)) zb))))))),nm3 ?_⟩
 intros
 obtain⟨o,ps⟩:=e
 rw[trE] at rv
 rw[GdE] at g
 rw[Re.deep] at hd
 rw[Re.many] at hm
 have hpl:=zeu ps
 refine⟨_,rfl,v,_,rfl,rv,fun b us eb rus=>?_⟩
 obtain⟨v0,vs,rfl,r0,rvs⟩:=rus.cons_inv
 have hvl:vs.length=ps.length:=by rw[rvs.len,zcN,yA]
 refine⟨_,rfl,_,_,rfl,.inr ⟨_,Sq eb,rfl⟩,rfl,_,rfl,?_⟩
 rw[decide_eq_false (fun z=>by have:=V.int.inj z;simp only[yF] at this;lia)]
 refine iteF ⟨_,rfl,b,_,0,_,rfl,rfl,Sq eb,zS (j:=0) rfl,v0,o,rfl,r0,g.1,fun u0 H1 s1 ru0=>?_⟩
 refine⟨_,rfl,1,rfl,b,_,rfl,Sq (s1 _ _ eb),fun h=>znv v0 vs 0 ⟨h.1,rfl⟩,fun t ht=>?_⟩
 rw[znu]
 have s2:=s1.trans (Sn (o:=.tup vs) ht)
 have ru2:=ru0.mono (zh (Sn (o:=.tup vs) ht))
 have e2:upd H1 t (.tup vs) t=some (.tup vs):=zc
 generalize upd H1 t (.tup vs)=H2 at s2 e2 ru2
 refine⟨t,rfl,⟨_,Sq e2⟩,zat (K:=K) (vs:=vs) (fun i ys H'=>RWs H' ys ((ps.take i).map Re.toW)/\i<=ps.length/\Same H2 H') (small (by lia)) ⟨⟨rfl,fun i v w h=>by rw[wX] at h;cases h⟩,yS _,Sr _⟩ (fun i ys H' h=>?_) (fun i ys H' h=>?_) (fun i v ys H' R hv h hR=>?_) (fun ys H' D h hD=>?_)⟩
 ·rw[h.1.len,yA,yY]
  have:=h.2.1
  lia
 ·exact Sq (h.2.2 _ _ e2)
 ·obtain⟨ry,_,s3⟩:=h
  have hi:i<ps.length:=by rw[←hvl];exact (yE.mp hv).1
  have hpi:ps[i]?=some ps[i]:=yB hi
  have r1:=rvs.at' i v (trE ps[i]) hv (by rw[zcN,yN,hpi];rfl)
  have mem:=yW hi
  have dm:=zij mem
  refine⟨_,rfl,v,ps[i],rfl,r1.mono (zh (s2.trans s3)),g.2.mem _ mem,by lia,by lia,fun u H4 s4 ru=>hR _ _ ⟨?_,hi,s3.trans s4⟩⟩
  rw[zR hpi,yK]
  exact (ry.mono (zh s4)).snoc ru
 obtain⟨ry,_,s3⟩:=h
 rw[hvl,xO] at ry
 refine⟨D,_,rfl,.inl ⟨Sl zc,fun t2 ht2=>?_⟩⟩
 have s4a:=(Sn (o:=.lst ys) hD).trans (Sn (o:=.tup ys) ht2)
 have s4:=s3.trans s4a
 have e4:upd (upd H' D (.lst ys)) t2 (.tup ys) t2=some (.tup ys):=zc
 generalize upd (upd H' D (.lst ys)) t2 (.tup ys)=H4 at s4a s4 e4
 refine⟨zl2,fun p hp=>?_⟩
 have s5:=Sn (o:=.tup [u0,.ref t2]) hp
 have ry5:=(ry.mono (zh s4a)).mono (zh s5)
 refine q _ _ ((s2.trans s4).trans s5) ?_
 rw[Re.toW,Z3]
 exact .lst zc rfl (rws2 (ru2.mono (zh (s4.trans s5))) (.lst (s5 _ _ e4) ry5.len ry5.at')).at'
theorem zbK:FnScope ["tree","trees"] ["tree"] (zi zaZ):=mkSc rfl (by decide +kernel)
theorem zeC(F:Fun K "look_of_tree" "look_of_tree" zaZ f fd)(G_outcome_of_tree:Have P w K mg base "outcome_of_tree" k ["tree"] (spOutT))(G_text_of_tree:Have P w K mg base "text_of_tree" k ["tree"] (spTextT))(G_inner_trees:Have P w K mg base "inner_trees" k ["tree"] (spInner))(m_len:mg "len"=none):FnOk P w K mg base CX0 (k+1) f fd ["tree"] (spLookT):=by
 refine F.okQ zbK (by rintro _ _ _ _ ⟨_,_,rfl,_⟩;rfl) fun _ _ _ _ H vs Q E hr h=>?_
 obtain⟨v,l,rfl,rv,g,q⟩:=h
 refine⟨_,(zd (zm (i:=1) zbK.nd rfl (Or.inl rfl) (zo G_inner_trees hr rfl (za (pv 0) zb)))
  (zd (zE (zk zaz (zj zB rfl m_len tF (za (pv 1) zb)) ze (nomark _)) zU zq)
  (zf (zl (zy (za (zo G_text_of_tree hr rfl (za (zz zw (pv 1) ze (fun _ _=>rfl)) zb)) (za (zo G_outcome_of_tree hr rfl (za (zz zw (pv 1) ze (fun _ _=>rfl)) zb)) zb))))))),nm3 ?_⟩
 intros
 obtain⟨z,o⟩:=l
 refine⟨_,rfl,v,_,rfl,rv,fun b us eb rus=>?_⟩
 obtain⟨v0,vs,rfl,r0,rvs⟩:=rus.cons_inv
 obtain⟨v1,vs,rfl,r1,rvs⟩:=rvs.cons_inv
 obtain rfl:vs=[]:=yR.mp rvs.len
 refine⟨_,rfl,_,_,rfl,.inr ⟨_,Sq eb,rfl⟩,rfl,_,rfl,iteF ?_⟩
 refine⟨_,rfl,b,_,0,_,rfl,rfl,Sq eb,rfl,v0,z,rfl,r0,g.1,fun H1 s1=>?_⟩
 refine⟨_,rfl,b,_,1,_,rfl,rfl,Sq (s1 _ _ eb),rfl,v1,o,rfl,r1.mono (zh s1),g.2,fun u H2 s2 ru=>⟨zl2,fun p hp=>?_⟩⟩
 have s3:=Sn (o:=.tup [.str z,u]) hp
 exact q _ _ ((s1.trans s2).trans s3) (.lst zc rfl (rws2 (.txt z) (ru.mono (zh s3))).at')
theorem zap:FnScope ["tree","trees","looks"] ["tree"] (zi zaE):=mkSc rfl (by decide +kernel)
theorem zdA(F:Fun K "paper_of_tree" "paper_of_tree" zaE f fd)(G_record_of_tree:Have P w K mg base "record_of_tree" k ["tree"] (spRecT 14))(G_rule_of_tree:Have P w K mg base "rule_of_tree" k ["tree"] (spRuleTree))(G_trees_behind:Have P w K mg base "trees_behind" k ["word","tree"] (spBehind))(G_look_of_tree:Have P w K mg base "look_of_tree" k ["tree"] (spLookT))(m_len:mg "len"=none)(m_tuple:mg "tuple"=none):FnOk P w K mg base CX0 (k+1) f fd ["tree"] (spPapT):=by
 refine F.okQ zap (by rintro _ _ _ _ ⟨_,_,rfl,_⟩;rfl) fun _ _ _ _ H vs Q E hr h=>?_
 obtain⟨v,p,rfl,rv,g,hr',q⟩:=h
 refine⟨_,(zd (zm (i:=1) zap.nd rfl (Or.inl rfl) (zo G_trees_behind hr rfl (za zg (za (pv 0) zb))))
  (zd (zE (zk zaz (zj zB rfl m_len tF (za (pv 1) zb)) ze (nomark _)) zU zq)
  (zd (zm (i:=2) zap.nd rfl (Or.inl rfl) (zD zK rfl m_tuple zC (za (zN [] [] rfl rfl (by decide +kernel) rfl (by decide +kernel) rfl (by decide +kernel) trivial rfl trivial (zaq (zo G_trees_behind hr rfl (za zg (za (zz zw (pv 1) ze (fun _ _=>rfl)) zb)))) (fun C s H fp=>⟨zM,(zo G_look_of_tree hr rfl (za (pv 0) zb))⟩)) zb)))
  (zf (zl (zy (za (zo G_rule_of_tree hr rfl (za (zz zw (pv 1) ze (fun _ _=>rfl)) zb)) (za (pv 2) (za (zo G_record_of_tree hr rfl (za (zz zw (pv 1) ze (fun _ _=>rfl)) zb)) zb))))))))),nm4 ?_⟩
 intros
 obtain⟨r,ls,e⟩:=p
 have hll:ls.length<=10:=g.ll
 refine⟨_,rfl,"paper",v,_,rfl,rv,fun b us H0 s0 eb rus=>?_⟩
 obtain⟨v0,vs,rfl,r0,rvs⟩:=rus.cons_inv
 obtain⟨v1,vs,rfl,r1,rvs⟩:=rvs.cons_inv
 obtain⟨v2,vs,rfl,r2,rvs⟩:=rvs.cons_inv
 obtain rfl:vs=[]:=yR.mp rvs.len
 dsimp only[zW]
 refine⟨_,rfl,_,_,rfl,.inr ⟨_,Sq eb,rfl⟩,rfl,_,rfl,iteF ?_⟩
 refine⟨_,rfl,b,_,1,_,rfl,rfl,Sq eb,rfl,"looks",v1,_,rfl,r1,fun t xs H2 s2 e2 rxs=>?_⟩
 have hvl:xs.length=ls.length:=by rw[rxs.len,yA]
 refine⟨t,rfl,⟨_,Sq e2⟩,zat (K:=K) (vs:=xs) (fun i ys H'=>RWs H' ys ((ls.take i).map lkW)/\i<=ls.length/\Same H2 H') (small (by lia)) ⟨⟨rfl,fun i v w h=>by rw[wX] at h;cases h⟩,yS _,Sr _⟩ (fun i ys H' h=>?_) (fun i ys H' h=>?_) (fun i v ys H' R hv h hR=>?_) (fun ys H' D h hD=>?_)⟩
 ·rw[h.1.len,yA,yY]
  have:=h.2.1
  lia
 ·exact Sq (h.2.2 _ _ e2)
 ·obtain⟨ry,_,s3⟩:=h
  have hi:i<ls.length:=by rw[←hvl];exact (yE.mp hv).1
  have hpi:ls[i]?=some ls[i]:=yB hi
  have r1:=rxs.at' i v (trL ls[i]) hv (by rw[yN,hpi];rfl)
  refine⟨_,rfl,v,ls[i],rfl,r1.mono (zh s3),g.l _ (yW hi),fun u H4 s4 ru=>hR _ _ ⟨?_,hi,s3.trans s4⟩⟩
  rw[zR hpi,yK]
  exact (ry.mono (zh s4)).snoc ru
 obtain⟨ry,_,s3⟩:=h
 rw[hvl,xO] at ry
 refine⟨D,_,rfl,.inl ⟨Sl zc,fun t2 ht2=>?_⟩⟩
 have s4a:=(Sn (o:=.lst ys) hD).trans (Sn (o:=.tup ys) ht2)
 have s4:=(s2.trans s3).trans s4a
 have e4:upd (upd H' D (.lst ys)) t2 (.tup ys) t2=some (.tup ys):=zc
 have ry4:=ry.mono (zh s4a)
 generalize upd (upd H' D (.lst ys)) t2 (.tup ys)=H4 at s4a s4 e4 ry4
 dsimp only[zW]
 refine⟨_,rfl,b,_,0,_,rfl,rfl,Sq (s4 _ _ eb),rfl,v0,r,rfl,r0.mono (zh s4),hr',fun u0 H5 s5 ru0=>?_⟩
 refine⟨_,rfl,_,rfl,b,_,2,_,rfl,rfl,Sq ((s4.trans s5) _ _ eb),rfl,v2,e,rfl,r2.mono (zh (s4.trans s5)),g.e,g.ed,g.em,fun u2 H6 s6 ru2=>⟨zl3,fun p hp=>?_⟩⟩
 have s7:=Sn (o:=.tup [u0,.ref t2,u2]) hp
 have s67:=s6.trans s7
 have ry7:=ry4.mono (zh (s5.trans s67))
 exact q _ _ (((s0.trans s4).trans s5).trans s67) (.lst zc rfl (rws3 ((ru0.toRW rfl).mono (zh s67)) (.lst ((s5.trans s67) _ _ e4) ry7.len ry7.at') (ru2.mono (zh s7))).at')
mutual
def W.Nar:W->Prop
 |.num _=>True
 |.txt _=>True
 |.lst ws=>ws.length<=1000/\Nars ws
def Nars:List W->Prop
 |[]=>True
 |w::r=>w.Nar/\Nars r
end
theorem Nars.mem:∀{ws:List W},Nars ws->∀w∈ws,w.Nar
 |x::r,h,w,hw=>by
  rw[Nars] at h
  rcases yG.mp hw with rfl|hw
  ·exact h.1
  ·exact Nars.mem h.2 w hw
inductive spAlk(n:Nat)(vs:List V)(H:Hp)(Q:VK)(z3:XK):Prop
 |mk (v1 v2:V) (x:W) (_:x.depth<n) (_:vs=[v1,v2]) (_:RW H v1 x) (_:RW H v2 x) (_:x.Nar) (_:∀H',Same H H'->Q (.bl true) H')
theorem zkG:FnScope ["_law_found","_law_due"] ["_law_found","_law_due"] (zi zfz):=mkSc rfl (by decide +kernel)
theorem zkH{n:Nat}(F:Fun K "_law_alike" "_law_alike" zfz f fd)(G_lalike:Have P w K mg base "_law_alike" k ["_law_found","_law_due"] (spAlk n))(m_all:mg "all"=none)(m_bool:mg "bool"=none)(m_int:mg "int"=none)(m_isi:mg "isinstance"=none)(m_len:mg "len"=none)(m_range:mg "range"=none)(m_str:mg "str"=none)(m_tuple:mg "tuple"=none):FnOk P w K mg base CX0 (k+1) f fd ["_law_found","_law_due"] (spAlk (n+1)):=by
 refine F.okQ zkG (by rintro _ _ _ _ ⟨_,_,_,_,rfl,_⟩;rfl) fun _ _ _ _ H vs Q E hr h=>?_
 obtain⟨v1,v2,x,hdp,rfl,r1,r2,nar,q⟩:=h
 refine⟨_,(zd (zE (zX (zj zP rfl m_isi zQ (za (pv 1) (za (ZP rfl m_tuple zC) zb)))) (zd (zE (PW.pt (Z6 (ZA (zX (zj zP rfl m_isi zQ (za (pv 0) (za (ZP rfl m_tuple zC) zb))))) (ZF (zk zaz (zj zB rfl m_len tF (za (pv 0) zb)) (zj zB rfl m_len tF (za (pv 1) zb)) (nomark _))))) (zf (zl Z5)) zq)
  (zf (zl (zj (ZD rfl) rfl m_all za1 (za (zN [0,1] ["_law_found","_law_due"] rfl rfl (by decide +kernel) rfl (by decide +kernel) rfl (by decide +kernel) ⟨rfl,rfl,trivial⟩ rfl ⟨⟨rfl,rfl,Or.inr (Or.inl rfl),(by show (some NameKind.cell:Option NameKind)≠some .local;decide),⟨_,rfl⟩⟩,⟨rfl,rfl,Or.inr (Or.inl rfl),(by show (some NameKind.cell:Option NameKind)≠some .local;decide),⟨_,rfl⟩⟩,trivial⟩ (zah rfl m_range (za (zj zB rfl m_len tF (za (pv 1) zb)) zb)) (fun C s H fp=>⟨zM,(zo G_lalike hr rfl (za (zz (show IxR _ (rIxT K) from zw) (pv 1) (pv 0) (fun _ _=>rfl)) (za (zz (show IxR _ (rIxT K) from zw) (pv 2) (pv 0) (fun _ _=>rfl)) zb)))⟩)) zb))))) zq)
  (zd (zE (zX (zj zP rfl m_isi zQ (za (pv 1) (za (ZP rfl m_str ZI) zb)))) (zf (zl (Zt (zj zP rfl m_isi zQ (za (pv 0) (za (ZP rfl m_str ZI) zb))) (ZG (zJ zY (pv 0) (pv 1) (nomark _)))))) zq)
  (zf (zl (Zt (zj zP rfl m_isi zQ (za (pv 0) (za (ZP rfl m_int ZQ) zb))) (Zt (zhK (zj zP rfl m_isi zQ (za (pv 0) (za (ZP rfl m_bool zfb) zb)))) (ZG (zJ zY (pv 0) (pv 1) (nomark _))))))))),nm3 ?_⟩
 intros
 cases x with
 |num i=>
  cases r1
  cases r2
  refine⟨_,rfl,_,_,"int",false,rfl,.int i,by decide +kernel,_,rfl,iteF ?_⟩
  refine⟨_,rfl,_,_,"int",false,rfl,.int i,by decide +kernel,_,rfl,iteF ?_⟩
  refine⟨_,rfl,_,_,"int",true,rfl,.int i,by decide +kernel,_,rfl,iteT ?_⟩
  refine⟨_,rfl,_,_,"int",false,rfl,.int i,by decide +kernel,_,rfl,_,rfl,iteT ⟨_,rfl,_,rfl,rfl,?_⟩⟩
  rw[decide_eq_true (rfl:V.int i=V.int i)]
  exact q _ (Sr _)
 |txt z=>
  cases r1
  cases r2
  refine⟨_,rfl,_,_,"str",false,rfl,.str z,by decide +kernel,_,rfl,iteF ?_⟩
  refine⟨_,rfl,_,_,"str",true,rfl,.str z,by decide +kernel,_,rfl,iteT ?_⟩
  refine⟨_,rfl,_,_,"str",true,rfl,.str z,by decide +kernel,_,rfl,iteT ⟨_,rfl,_,rfl,rfl,?_⟩⟩
  rw[decide_eq_true (rfl:V.str z=V.str z)]
  exact q _ (Sr _)
 |lst ws=>
  rw[W.Nar] at nar
  have hdp':1+depths ws<n+1:=hdp
  cases r1 with
  | @lst t1 us1 _ e1 l1 at1=>
   cases r2 with
   | @lst t2 us2 _ e2 l2 at2=>
    refine⟨_,rfl,_,_,"tuple",true,rfl,.tup e2,by decide +kernel,_,rfl,iteT ⟨_,rfl,_,_,"tuple",true,rfl,.tup e1,by decide +kernel,_,rfl,iteF ⟨_,rfl,_,_,rfl,.inr ⟨_,Sq e1,rfl⟩,_,rfl,_,_,rfl,.inr ⟨_,Sq e2,rfl⟩,rfl,_,rfl,?_⟩⟩⟩
    rw[show (!decide (V.int ((us1.length:Nat):Int)=V.int ((us2.length:Nat):Int)))=false by rw[l1,l2];simp]
    have hw2:=nar.1
    refine iteF ⟨_,rfl,_,_,rfl,.inr ⟨_,Sq e2,rfl⟩,(us2.length:Int),rfl,by lia,by lia,zia (n:=(us2.length:Int)) (fun i us H'=>us=yD i (V.bl true)/\Same H H') ⟨rfl,Sr _⟩ (fun i us H' h=>by rw[h.1,xK]) (by lia) (fun i us H' R hi h hR=>?_) (fun us H' D h hD=>?_)⟩
    ·obtain⟨rfl,sm⟩:=h
     have hi2:i<us2.length:=by lia
     have hi1:i<us1.length:=by lia
     have hiw:i<ws.length:=by lia
     have hx:=yB hi1
     have hy:=yB hi2
     have hw:=yB hiw
     have ix1:=zS hx
     have ix2:=zS hy
     rw[show ((i:Nat):Int)=0+(i:Int) by lia] at ix1 ix2
     have hdm:=zc4 ws[i] (yW hiw)
     refine⟨_,rfl,_,rfl,t1,us1,_,us1[i],rfl,rfl,Sq (sm _ _ e1),ix1,_,rfl,_,rfl,t2,us2,_,us2[i],rfl,rfl,Sq (sm _ _ e2),ix2,us1[i],us2[i],ws[i],by lia,rfl,(at1 i _ _ hx hw).mono (zh sm),(at2 i _ _ hy hw).mono (zh sm),nar.2.mem _ (yW hiw),fun H4 s4=>hR _ _ ⟨?_,sm.trans s4⟩⟩
     rw[List.replicate_succ']
    ·obtain⟨rfl,sm⟩:=h
     rw[vI]
     refine⟨D,yD us2.length true,rfl,Sl ?_,?_⟩
     ·rw[zc,vG]
     ·rw[show ((yD us2.length true).all id)=true by simp]
      exact q _ (sm.trans (Sn hD))
theorem zdb:FnScope ["_law_outcome_here"] ["_law_outcome_here"] (zi zao):=mkSc rfl (by decide +kernel)
theorem zdc(F:Fun K "_law_outcome_shown" "_law_outcome_shown" zao f fd)(G_show_worth:Have P w K mg base "show_worth" k ["worth"] (spShow 14)):FnOk P w K mg base CX0 (k+1) f fd ["_law_outcome_here"] (spShowO):=by
 refine F.okQ zdb (by rintro _ _ _ _ ⟨_,_,rfl,_⟩;rfl) fun _ _ _ _ H vs Q E hr h=>?_
 obtain⟨v,o,rfl,rv,g,q⟩:=h
 refine⟨_,(zd (zE (zk zY (zz zw (pv 0) ze (fun _ _=>rfl)) zg (nomark _)) (zf (zl (zu zx (zu zx zg (zo G_show_worth hr rfl (za (zz zw (pv 0) ze (fun _ _=>rfl)) zb))) zg))) zq)
  (zf (zl (zu zx (zu zx (zu zx (zu zx zg (zz zw (pv 0) ze (fun _ _=>rfl))) zg) (zo G_show_worth hr rfl (za (zz zw (pv 0) ze (fun _ _=>rfl)) zb))) zg)))),nm2 ?_⟩
 intros
 obtain⟨a,lv,rfl,ea,rl⟩:=opnO rv
 obtain⟨gw,hl2,hl6⟩:=g.good
 have fin:∀{x:Str}{H1:Hp},x.cps.toList=shW numC o.last->Same H H1->x.length<=64000:=fun {x H1} hx s1=>by
  have:=zaO gw
  rw[zbd,←hx,zH] at this
  lia
 have cases2:(o.ws=[uV "made"])\/∃z,o.ws=[uV "wrong",z]:=by
  cases g with
  |made _=>exact .inl rfl
  |bare _=>exact .inr ⟨_,rfl⟩
  |naming _ _=>exact .inr ⟨_,rfl⟩
  |cried _=>exact .inr ⟨_,rfl⟩
 have l3:(uV ")").length=1:=by decide +kernel
 have hsz:(16777216:Nat)<=tH:=by decide
 rcases cases2 with hws|⟨z,hws⟩
 ·rw[hws] at ea
  have l1:(uV "(made ").length=6:=by decide +kernel
  have c1:(uV "(made ").cps.toList=40::((uV "made").cps.toList++[32]):=by decide +kernel
  refine⟨_,rfl,a,_,0,_,rfl,rfl,Sq ea,rfl,rfl,_,rfl,?_⟩
  rw[dyS rfl]
  refine iteT ⟨_,rfl,a,_,1,lv,rfl,rfl,Sq ea,rfl,lv,o.last,rfl,rl,gw.1,gw.2.1,wJ (xU gw.2.2),fun x H1 hx s1=>?_⟩
  have hxl:=fin hx s1
  refine⟨_,_,rfl,rfl,by rw[l1];lia,_,_,rfl,rfl,by rw[zt,l1,l3];lia,q _ _ ?_ s1⟩
  rw[zT,zT,c1,hx,zdw]
  show _=shT (.lst (o.ws.map nmT++[trW numC o.last]))
  rw[hws,shT,yJ,wQ,uD,shTs,shTs,zbd,nmT,shT]
  simp
 ·rw[hws] at ea hl6
  have hz:=hl6 z (by simp)
  have l1:(uV "(wrong ").length=7:=by decide +kernel
  have l2:(uV " ").length=1:=by decide +kernel
  have c1:(uV "(wrong ").cps.toList=40::((uV "wrong").cps.toList++[32]):=by decide +kernel
  have c2:(uV " ").cps.toList=[32]:=by decide +kernel
  refine⟨_,rfl,a,_,0,_,rfl,rfl,Sq ea,rfl,rfl,_,rfl,?_⟩
  rw[dnS (by decide +kernel)]
  refine iteF ⟨_,rfl,a,_,1,_,rfl,rfl,Sq ea,rfl,_,_,rfl,rfl,by rw[l1];lia,_,_,rfl,rfl,by rw[zt,l1,l2];lia,_,rfl,a,_,2,lv,rfl,rfl,Sq ea,rfl,lv,o.last,rfl,rl,gw.1,gw.2.1,wJ (xU gw.2.2),fun x H1 hx s1=>?_⟩
  have hxl:=fin hx s1
  refine⟨_,_,rfl,rfl,by rw[zt,zt,l1,l2];lia,_,_,rfl,rfl,by rw[zt,zt,zt,l1,l2,l3];lia,q _ _ ?_ s1⟩
  rw[zT,zT,zT,zT,c1,c2,hx,zdw]
  show _=shT (.lst (o.ws.map nmT++[trW numC o.last]))
  rw[hws]
  show _=shT (.lst [nmT (uV "wrong"),nmT z,trW numC o.last])
  rw[shT,shTs,shTs,shTs,zbd,nmT,shT,nmT,shT]
  simp
theorem zdB:FnScope ["_law_record_here"] ["_law_record_here"] (zi zaF):=mkSc rfl (by decide +kernel)
theorem zdC{n:Nat}(F:Fun K "_law_record_shown" "_law_record_shown" zaF f fd)(G_loutcome_shown:Have P w K mg base "_law_outcome_shown" k ["_law_outcome_here"] (spShowO))(G_lrecord_shown:Have P w K mg base "_law_record_shown" k ["_law_record_here"] (spShowE n)):FnOk P w K mg base CX0 (k+1) f fd ["_law_record_here"] (spShowE (n+1)):=by
 refine F.okQ zdB (by rintro _ _ _ _ ⟨_,_,rfl,_⟩;rfl) fun _ _ _ _ H vs Q E hr h=>?_
 obtain⟨v,e,rfl,rv,g,hd,hm,q⟩:=h
 refine⟨_,(zf (zl (zu zx (zu zx zg (ZZ tT tX tW zba zg (za (zu zaj (zF (za (zo G_loutcome_shown hr rfl (za (zz zw (pv 0) ze (fun _ _=>rfl)) zb)) zb)) (zN [] [] rfl rfl (by decide +kernel) rfl (by decide +kernel) rfl (by decide +kernel) trivial rfl trivial (zaq (zz zw (pv 0) ze (fun _ _=>rfl))) (fun C s H fp=>⟨zM,(zo G_lrecord_shown hr rfl (za (pv 0) zb))⟩))) zb))) zg))),?_⟩
 obtain⟨o,ps⟩:=e
 rw[Re.toW] at rv
 rw[GdE] at g
 rw[Re.deep] at hd
 rw[Re.many] at hm
 obtain⟨a,ov,pv,rfl,ea,ro,rp⟩:=opn2 rv
 obtain⟨b,us,rfl,eb,rus⟩:=opnL rp
 have hul:us.length=ps.length:=by rw[rus.len,Z3,yA]
 have hpl:=zeu ps
 refine⟨rfl,_,rfl,a,_,0,ov,rfl,rfl,Sq ea,rfl,ov,o,rfl,ro,g.1,fun x H1 hx s1=>⟨zl1,fun l hl=>?_⟩⟩
 have s2:=s1.trans (Sn (o:=.lst [.str x]) hl)
 have e2:upd H1 l (.lst [.str x]) l=some (.lst [.str x]):=zc
 generalize upd H1 l (.lst [.str x])=H2 at s2 e2
 refine⟨_,rfl,a,_,1,.ref b,rfl,rfl,Sq (s2 _ _ ea),rfl,b,rfl,⟨_,Sq (s2 _ _ eb)⟩,zat (K:=K) (vs:=us) (fun i ys H'=>∃xs:List Str,ys=xs.map V.str/\xs.length=i/\xs.map (fun y=>y.cps.toList)=((ps.take i).map trE).map shT/\Same H2 H') (small (by lia)) ⟨[],rfl,rfl,rfl,Sr _⟩ (fun i ys H' h=>?_) (fun i ys H' h=>?_) (fun i v ys H' R hv h hR=>?_) (fun ys H' D h hD=>?_)⟩
 ·obtain⟨xs,rfl,hl,_⟩:=h
  rw[yA];exact hl
 ·obtain⟨_,_,_,_,s3⟩:=h
  exact Sq (s3 _ _ (s2 _ _ eb))
 ·obtain⟨xs,rfl,hxl,hxs,s3⟩:=h
  have hi:i<ps.length:=by rw[←hul];exact (yE.mp hv).1
  have hpi:ps[i]?=some ps[i]:=yB hi
  have rw0:=rus.at' i v ps[i].toW hv (by rw[Z3,yN,hpi];rfl)
  have mem:=yW hi
  have dm:=zij mem
  refine⟨_,rfl,v,ps[i],rfl,rw0.mono (zh (s2.trans s3)),g.2.mem _ mem,by lia,by lia,fun y H4 hy s4=>hR _ _ ⟨xs++[y],by rw[yK];rfl,by rw[yC,hxl];rfl,?_,s3.trans s4⟩⟩
  rw[zR hpi,yK,yK,yK,hxs,yJ,yJ,yJ,hy]
  rfl
 obtain⟨xs,rfl,hxl,hxs,s3⟩:=h
 rw[hul,xO] at hxs
 have s4:=s3.trans (Sn (o:=.lst (xs.map V.str)) hD)
 refine⟨l,D,_,_,rfl,rfl,s4 _ _ e2,zc,small (by rw[yA];show 1+_<=_;lia),fun p hp=>?_⟩
 have w1:=zc9 g.1
 have w2:=shEs_len ps g.2
 have hmap:(x::xs).map (fun y=>y.cps.toList)=(trO o::trEs ps).map shT:=by rw[yJ,yJ,hx,hxs,zcN]
 have hw:wid (trO o::trEs ps)<=10000000:=by
  rw[zG]
  lia
 have hj:=zcM _ _ hmap
 have hws:=zen _ _ hmap
 have hjl:(Txt.join (uV " ") (x::xs)).length<=wid (trO o::trEs ps):=by
  rw[←zH,hj]
  exact zbV _
 have l1:(uV " ").length=1:=by decide +kernel
 have l2:(uV "(").length=1:=by decide +kernel
 have l3:(uV ")").length=1:=by decide +kernel
 have c2:(uV "(").cps.toList=[40]:=by decide +kernel
 have hsz:(16777216:Nat)<=tH:=by decide
 refine⟨_,p,x::xs,rfl,rfl,Sl (by rw[zc];rfl),by rw[l1];lia,_,_,rfl,rfl,by rw[l2];lia,_,_,rfl,rfl,by rw[zt,l2,l3];lia,q _ _ ?_ ((s2.trans s4).trans (Sn hp))⟩
 rw[zT,zT,c2,hj,zdw,trE,shT]
 rfl
end D
namespace L2
open PySem PySem.Spec PyProof.Rows
theorem zlW{K:tU}{g:TG}{te:TE}{n:Nat}{H:Hp}{F:Addr->Hp->List V->Prop}{a:Addr}{vs:List V}(Pv:Nat->List V->Hp->Prop)(hz:vs.length<=tH)(h0:Pv 0 [] H)(hlen:∀i us H1,Pv i us H1->us.length=i)(hS:∀i us H1,Pv i us H1->SqT K H1 a vs)
  (step:∀(i:Nat)(v:V)(us:List V)(H1:Hp)(R:VK)(R':Hp->Prop),vs[i]?=some v->Pv i us H1->(∀y H2,Pv (i+1) (us++[y]) H2->R y H2)->g v (yD n none) H1 fun σ2 H2=>if true=true then te σ2 H2 R else R' H2)
  (fin:∀(us:List V)(H1:Hp)(D:Addr),Pv vs.length us H1->H1 D=none->F D H1 us):
  ∃W:Nat->Nat->List V->Hp->Prop,(∃m,W 0 m [] H)/\∀i m us H,W i m us H->us.length<=tH /\
   (((Itt K a).stop i H/\∀D,H D=none->F D H us) \/
    ((Itt K a).go i H/\∀v H',(Itt K a).yld i H v H'->g v (yD n none) H' fun σ2 H2=>if true=true then te σ2 H2 fun y H4=>∃m',m'<m/\W (i+1) m' (us++[y]) H4 else ∃m',m'<m/\W (i+1) m' us H2)):=by
 refine⟨fun i m us H1=>i<=vs.length/\m=vs.length-i/\Pv i us H1,⟨_,yS _,rfl,h0⟩,fun i m us H1 hW=>?_⟩
 obtain⟨hi,hm,hu⟩:=hW
 have sq:=hS _ _ _ hu
 refine⟨by rw[hlen _ _ _ hu];lia,?_⟩
 by_cases hlt:i<vs.length
 ·refine .inr ⟨⟨vs,vs[i],sq,yB hlt⟩,fun v H' hy=>?_⟩
  obtain⟨e,hy⟩:=hy
  subst e
  exact step i v us _ _ _ (hy vs sq) hu fun y H2 p2=>⟨vs.length-(i+1),by lia,by lia,rfl,p2⟩
 ·have e:i=vs.length:=by lia
  subst e
  exact .inl ⟨⟨vs,sq,yO _⟩,fun D hD=>fin us H1 D hu hD⟩
end L2
namespace D
open PySem L2
inductive spOutD(vs:List V)(H:Hp)(Q:VK)(z3:XK):Prop
 |mk (b:Addr) (_:vs=[.ref b]) (_:IsBox H b) (_:∀(t:Addr)(o:Ou)(H':Hp),RW H' (.ref t) o.toW->GdO o->Step b H H'->Q (.ref t) H')
inductive spRecD(n:Nat)(vs:List V)(H:Hp)(Q:VK)(z3:XK):Prop
 |mk (b:Addr) (room:Int) (_:vs=[.ref b,.int room]) (_:IsBox H b) (_:1<=room) (_:room<n) (_:room<=100) (_:∀(t:Addr)(e:Re)(H':Hp),RW H' (.ref t) e.toW->GdE e->(e.many:Int)<=room->Step b H H'->Q (.ref t) H')
noncomputable def zdp:List Str:=["kind","great","nought","place","none","shut","cried"]
theorem w7:∀i:Nat,i<7->∃w,zdp[i]?=some w/\(w∈zc7/\decide (w="cried")=false/\decide (w∈Zo)=false\/w∈Zo/\decide (w="cried")=false\/w="cried"):=by
 intro i hi
 match i,hi with
 |0,_=>exact⟨_,rfl,.inl (by decide +kernel)⟩
 |1,_=>exact⟨_,rfl,.inl (by decide +kernel)⟩
 |2,_=>exact⟨_,rfl,.inl (by decide +kernel)⟩
 |3,_=>exact⟨_,rfl,.inl (by decide +kernel)⟩
 |4,_=>exact⟨_,rfl,.inr (.inl (by decide +kernel))⟩
 |5,_=>exact⟨_,rfl,.inr (.inl (by decide +kernel))⟩
 |6,_=>exact⟨_,rfl,.inr (.inr rfl)⟩
 |n+7,h=>lia
theorem zgU:∀{ps:List Re}{e:Re},GdEs ps->GdE e->GdEs (ps++[e])
 |[],e,_,h=>by rw[xS,GdEs,GdEs];exact⟨h,trivial⟩
 |p::r,e,g,h=>by
  rw[GdEs] at g
  rw[xC,GdEs]
  exact⟨g.1,zgU g.2 h⟩
theorem zdq:∀(ps:List Re)(e:Re),reManys (ps++[e])=reManys ps+e.many
 |[],e=>by simp only[xS,reManys];lia
 |p::r,e=>by rw[xC,reManys,reManys,zdq r e];lia
theorem zfo{a b:Str}:decide (V.str a=V.str b)=decide (a=b):=by
 by_cases h:a=b
 ·rw[decide_eq_true h,decide_eq_true (congrArg V.str h)]
 ·rw[decide_eq_false h,decide_eq_false (fun z=>h (V.str.inj z))]
theorem zcq:FnScope ["_law_box_here","_law_turn","_law_word_here"] ["_law_box_here"] (zi zc3):=mkSc rfl (by decide +kernel)
theorem zhy(F:Fun K "_law_outcome" "_law_outcome" zc3 f fd)(G_ltext:Have P w K mg base "_law_text" k ["_law_box_here","_law_most"] (spText))(G_lworth:Have P w K mg base "_law_worth" k ["_law_box_here","_law_room","_law_deep"] (spWorth 13))(G_ltake:Have P w K mg base "_law_take" k ["_law_box_here","_law_wide"] (spTake)):FnOk P w K mg base CX0 (k+1) f fd ["_law_box_here"] (spOutD):=by
 refine F.okQ zcq (by rintro _ _ _ _ ⟨_,rfl,_⟩;rfl) fun _ _ _ _ H vs Q E hr h=>?_
 obtain⟨b,rfl,hb,q⟩:=h
 refine⟨_,(zd (zm (i:=1) zcq.nd rfl (Or.inl rfl) (zo G_ltake hr rfl (za (pv 0) (za ze zb))))
  (zd (zE (zk zgf (pv 1) ze (nomark _)) (zf (zl (zy (za zg (za (zo G_lworth hr rfl (za (pv 0) (za ze (za ze zb)))) zb))))) zq)
  (zd (zm (i:=2) zcq.nd rfl (Or.inl rfl) (zz Zd (zF (za zg (za zg (za zg (za zg (za zg (za zg (za zg zb)))))))) (zu Zu (pv 1) ze) (fun _ _=>rfl)))
  (zd (zE (zk zY (pv 2) zg (nomark _)) (zf (zl (zy (za zg (za (pv 2) (za (zo G_lworth hr rfl (za (pv 0) (za ze (za ze zb)))) zb)))))) zq)
  (zd (zE (zk ZB (pv 2) (zy (za zg (za zg zb))) (by rfl)) (zf (zl (zy (za zg (za (pv 2) (za (zo G_ltext hr rfl (za (pv 0) (za ze zb))) zb)))))) zq)
  (zf (zl (zy (za zg (za (pv 2) (za zg zb))))))))))),nm6 ?_⟩
 intros
 refine⟨_,rfl,b,9,rfl,hb,by decide,by decide,fun r1 H1 a0 a1 st1=>?_⟩
 dsimp only[zW]
 refine⟨_,rfl,_,_,rfl,rfl,_,rfl,ite2 (fun c=>?_) (fun c=>?_)⟩
 ·refine⟨_,rfl,b,3,2,rfl,st1.box,by decide,by decide,by decide,by decide,fun v x H2 rx okx dx sx st2=>⟨zl2,fun t ht=>?_⟩⟩
  have s3:=Sn (o:=.tup [.str "made",v]) ht
  exact q t ⟨["made"],x⟩ _ (.lst zc rfl (rws2 (.txt _) (rx.mono (zh s3))).at') (.made ⟨okx,by lia,by lia⟩) ((st1.trans st2).trans (Step.ofSame' st2.box s3))
 have hr:¬r1<2:=fun z=>c (decide_eq_true z)
 refine⟨zl7,fun l hl=>?_⟩
 have s2:=Sn (o:=.lst (zdp.map V.str)) hl
 have e2:upd H1 l (.lst (zdp.map V.str)) l=some (.lst (zdp.map V.str)):=zc
 have st2:=st1.trans (Step.ofSame' st1.box s2)
 obtain⟨w,hw,hc⟩:=w7 (r1-2).toNat (by lia)
 have ix:atI (zdp.map V.str) (r1-2)=some (.str w):=by
  have:=zS (xs:=zdp.map V.str) (j:=(r1-2).toNat) (v:=.str w) (by rw[yN,hw];rfl)
  rw[show (((r1-2).toNat:Nat):Int)=r1-2 by lia] at this
  exact this
 refine⟨_,rfl,_,_,rfl,rfl,l,zdp.map V.str,r1-2,.str w,rfl,rfl,Sl e2,ix,?_⟩
 have eq2:upd H1 l (.lst (zdp.map V.str))=upd H1 l (.lst [.str (uV "kind"),.str (uV "great"),.str (uV "nought"),.str (uV "place"),.str (uV "none"),.str (uV "shut"),.str (uV "cried")]):=rfl
 rw[eq2] at e2 st2 s2
 generalize upd H1 l (.lst [.str (uV "kind"),.str (uV "great"),.str (uV "nought"),.str (uV "place"),.str (uV "none"),.str (uV "shut"),.str (uV "cried")])=H2 at e2 st2 s2
 clear s2 e2 ix eq2 hw
 dsimp only[zW]
 refine⟨_,rfl,rfl,_,rfl,?_⟩
 rw[zfo]
 have thr:∀{G:Hp}{u:V}{x:W}{t:Addr},RW G u x->G t=none->RW (upd G t (.tup [.str "wrong",.str w,u])) (.ref t) (Ou.toW ⟨["wrong",w],x⟩):=fun {G u x t} ru ht=>.lst zc rfl (rws3 (.txt _) (.txt _) (ru.mono (zh (Sn ht)))).at'
 rcases hc with⟨h1,h2,h3⟩|⟨h1,h2⟩|rfl
 ·rw[h2]
  refine iteF ⟨_,rfl,zl2,fun t0 ht0=>?_⟩
  have s3:=Sn (o:=.tup (Zo.map V.str)) ht0
  have e3:upd H2 t0 (.tup (Zo.map V.str)) t0=some (.tup (Zo.map V.str)):=zc
  have st3:=st2.trans (Step.ofSame' st2.box s3)
  refine⟨t0,Zo.map V.str,rfl,.inr (Sq e3),rfl,rfl,_,rfl,?_⟩
  rw[zfU,h3]
  refine iteF ⟨_,rfl,zl3,fun t ht=>?_⟩
  exact q t _ _ (thr (.txt _) ht) (.bare h1) (st3.trans (Step.ofSame' st3.box (Sn ht)))
 ·rw[h2]
  refine iteF ⟨_,rfl,zl2,fun t0 ht0=>?_⟩
  have s3:=Sn (o:=.tup (Zo.map V.str)) ht0
  have e3:upd H2 t0 (.tup (Zo.map V.str)) t0=some (.tup (Zo.map V.str)):=zc
  have st3:=st2.trans (Step.ofSame' st2.box s3)
  refine⟨t0,Zo.map V.str,rfl,.inr (Sq e3),rfl,rfl,_,rfl,?_⟩
  rw[zfU,decide_eq_true h1]
  refine iteT ⟨_,rfl,_,rfl,b,12,rfl,st3.box,by decide,by decide,fun z H4 hz1 hz2 st4=>⟨zl3,fun t ht=>?_⟩⟩
  have st34:=st3.trans st4
  exact q t _ _ (thr (.txt z) ht) (.naming h1 ⟨by lia,hz2⟩) (st34.trans (Step.ofSame' st34.box (Sn ht)))
 ·rw[show decide (uV "cried"=uV "cried")=true from decide_eq_true rfl]
  refine iteT ⟨_,rfl,_,rfl,b,3,2,rfl,st2.box,by decide,by decide,by decide,by decide,fun v x H3 rx okx dx sx st3=>⟨zl3,fun t ht=>?_⟩⟩
  have st23:=st2.trans st3
  exact q t _ _ (thr rx ht) (.cried ⟨okx,by lia,by lia⟩) (st23.trans (Step.ofSame' st23.box (Sn ht)))
theorem za4:FnScope ["_law_box_here","_law_room","_law_parts","_law_left","_law_share"] ["_law_box_here","_law_room"] (zi zd8):=mkSc rfl (by decide +kernel)
theorem zjd{n:Nat}(F:Fun K "_law_record" "_law_record" zd8 f fd)(G_loutcome:Have P w K mg base "_law_outcome" k ["_law_box_here"] (spOutD))(G_ltake:Have P w K mg base "_law_take" k ["_law_box_here","_law_wide"] (spTake))(G_lrecord:Have P w K mg base "_law_record" k ["_law_box_here","_law_room"] (spRecD n))(m_tuple:mg "tuple"=none):FnOk P w K mg base CX0 (k+1) f fd ["_law_box_here","_law_room"] (spRecD (n+1)):=by
 refine F.okQ za4 (by rintro _ _ _ _ ⟨_,_,rfl,_⟩;rfl) fun _ _ _ _ H vs Q E hr h=>?_
 obtain⟨b,room,rfl,hb,h1,h2,h100,q⟩:=h
 refine⟨_,(zd (zm (i:=2) za4.nd rfl (Or.inl rfl) (zF zb))
  (zd (zm (i:=3) za4.nd rfl (Or.inl rfl) (zu Zu (pv 1) ze))
  (zd (zaK tN (PW.pt (zbr (zk zcs (pv 3) ze (nomark _)) (zay (zk zcs (zo G_ltake hr rfl (za (pv 0) (za ze zb))) ze (nomark _))))) (zd (zm (i:=4) za4.nd rfl (Or.inl rfl) (zu Zj ze (zo G_ltake hr rfl (za (pv 0) (za (pv 3) zb)))))
  (zd (Zm (ZZ tO tQ tP ZC (pv 2) (za (zo G_lrecord hr rfl (za (pv 0) (za (pv 4) zb))) zb)))
  (zf (zm (i:=3) za4.nd rfl (Or.inl rfl) (zu Zu (pv 3) (pv 4)))))))
  (zf (zl (zy (za (zo G_loutcome hr rfl (za (pv 0) zb)) (za (zD zK rfl m_tuple zC (za (pv 2) zb)) zb)))))))),nm4 ?_⟩
 intros
 refine⟨zl0,fun l hl=>?_⟩
 have nlb:l≠b:=IsBox.ne hb hl
 have st1:=Step.new (o:=.lst []) hb hl
 have e1:upd H l (.lst []) l=some (.lst []):=zc
 generalize upd H l (.lst [])=H1 at st1 e1
 dsimp only[zW]
 refine⟨_,rfl,_,_,rfl,rfl,?_⟩
 refine⟨fun m σ' H'=>∃(o4:Option V)(us:List V)(ps:List Re)(left:Int),σ'=[some (.ref b),some (.int room),some (.ref l),some (.int left),o4]/\Step b H H'/\H' l=some (.lst us)/\RWs H' us (reWs ps)/\GdEs ps/\0<=left/\(reManys ps:Int)+left<=room-1/\m=left.toNat,⟨_,none,[],[],room-1,rfl,st1,e1,⟨rfl,fun i v w h=>by rw[wX] at h;cases h⟩,(by rw[GdEs];trivial),by lia,(by rw[reManys];show ((0:Nat):Int)+_<=_;lia),rfl⟩,fun m σ' H' hW=>?_⟩
 obtain⟨o4,us,ps,left,rfl,st,el,rus,gp,hl0,hmn,rfl⟩:=hW
 have hpl:=zeu ps
 have fin:∀(o4:Option V)(H2:Hp),Step b H' H2->tRet (tTup (ZY (zjs spOutD [] E0 (ZY (tVar 0) tNil)) (ZY (tCB (fun xs H_1 Q=>∃p ys,xs=[V.ref p]/\((SqL K H_1 p ys/\∀(l:Addr),H_1 l=none->Q (V.ref l) (upd H_1 l (HO.tup ys)))\/SqT K H_1 p ys/\Q (V.ref p) H_1)) (ZY (tVar 2) tNil)) tNil))) {nx:=fun x H'=>Q V.non H',rt:=Q} [some (.ref b),some (.int room),some (.ref l),some (.int left),o4] H2:=fun o4 H2 st2=>by
  refine⟨_,rfl,b,rfl,st2.box,fun t o H3 ro go st3=>?_⟩
  have st23:=st2.trans st3
  refine⟨_,rfl,l,us,rfl,.inl ⟨Sl (st23.keep l _ nlb el),fun t2 ht2=>?_⟩⟩
  have s4:=Sn (o:=.tup us) ht2
  have e4:upd H3 t2 (.tup us) t2=some (.tup us):=zc
  refine⟨zl2,fun t3 ht3=>?_⟩
  have s5:=Sn (o:=.tup [.ref t,.ref t2]) ht3
  have s45:=s4.trans s5
  have rus5:=(rus.mono (st23.tups st.box)).mono (zh s45)
  have st5:=(st.trans st23).trans (Step.ofSame' st3.box s45)
  refine q t3 (.mk o ps) _ ?_ (by rw[GdE];exact⟨go,gp⟩) (by rw[Re.many];lia) st5
  rw[Re.toW]
  exact .lst zc rfl (rws2 (ro.mono (zh s45)) (.lst (s5 _ _ e4) rus5.len rus5.at')).at'
 refine⟨_,rfl,_,_,rfl,rfl,_,rfl,ite2 (fun c=>?_) (fun c=>?_)⟩
 rotate_left
 ·exact iteF (fin _ _ (Step.refl st.box))
 have hlp:0<left:=of_decide_eq_true c
 refine⟨_,rfl,b,3,rfl,st.box,by decide,by decide,fun r2 H2 a0 a1 st2=>⟨_,_,rfl,rfl,_,rfl,ite2 (fun c2=>?_) (fun c2=>?_)⟩⟩
 rotate_left
 ·exact fin _ _ st2
 refine⟨fun σ' H'=>∃(o4:Option V)(us:List V)(ps:List Re)(left':Int),σ'=[some (.ref b),some (.int room),some (.ref l),some (.int left'),o4]/\Step b H H'/\H' l=some (.lst us)/\RWs H' us (reWs ps)/\GdEs ps/\0<=left'/\(reManys ps:Int)+left'<=room-1/\left'<left,fun σ' H' ⟨o4,us,ps,left',g1,g2,g3,g4,g5,g6,g7,g8⟩=>⟨left'.toNat,by lia,o4,us,ps,left',g1,g2,g3,g4,g5,g6,g7,rfl⟩,?_⟩
 refine⟨_,rfl,_,rfl,b,left,rfl,st2.box,hlp,Int.lt_of_le_of_lt (show left<=100 by lia) (by decide),fun r3 H3 c0 c1 st3=>⟨_,_,rfl,rfl,?_⟩⟩
 have st23:=st2.trans st3
 have el3:=st23.keep l _ nlb el
 have rus3:=rus.mono (st23.tups st.box)
 dsimp only[zW]
 refine⟨_,rfl,.inl ⟨rfl,_,Sl el3⟩,_,rfl,_,rfl,b,1+r3,rfl,st3.box,by lia,by lia,by lia,fun t e H4 re ge me st4=>?_⟩
 have el4:=st4.keep l _ nlb el3
 have hul:us.length<=1000:=by
  rw[rus.len,Z3,yA]
  lia
 refine⟨l,us,.ref t,rfl,rfl,el4,xG hul (by decide),?_⟩
 have t5:=ZR (o:=.lst (us++[.ref t])) el4
 have hlH:H l=none:=hl
 have st5:Step b H (upd H4 l (.lst (us++[.ref t]))):=by
  have stt:=(st.trans st23).trans st4
  refine⟨?_,fun c o hc e=>?_⟩
  ·obtain⟨x,y,z,e⟩:=stt.box
   exact⟨x,y,z,by rw[zA nlb.symm];exact e⟩
  ·rw[zA (zn e hlH)]
   exact stt.keep c o hc e
 refine⟨_,rfl,_,rfl,_,_,rfl,rfl,?_⟩
 refine⟨_,us++[.ref t],ps++[e],left-(1+r3),rfl,st5,zc,?_,?_,by lia,?_,by lia⟩
 ·rw[Z3,yK,←Z3]
  exact (((rus3.mono (st4.tups st3.box)).mono t5).snoc (re.mono t5))
 ·exact zgU gp ge
 ·have:=zdq ps e
  lia
theorem zeD:FnScope ["_law_paper_here","_law_rows","_law_looked"] ["_law_paper_here"] (zi zfB):=mkSc rfl (by decide +kernel)
theorem zkI(F:Fun K "_law_shown" "_law_shown" zfB f fd)(G_lrecord_shown:Have P w K mg base "_law_record_shown" k ["_law_record_here"] (spShowE 14))(G_show_rule:Have P w K mg base "show_rule" k ["rule"] (spShowR 14))(G_show_worth:Have P w K mg base "show_worth" k ["worth"] (spShow 14))(G_loutcome_shown:Have P w K mg base "_law_outcome_shown" k ["_law_outcome_here"] (spShowO)):FnOk P w K mg base CX0 (k+1) f fd ["_law_paper_here"] (spShowP):=by
 refine F.okQ zeD (by rintro _ _ _ _ ⟨_,_,rfl,_⟩;rfl) fun _ _ _ _ H vs Q E hr h=>?_
 obtain⟨v,p,rfl,rv,g,q⟩:=h
 refine⟨_,(zd (zfx (i:=1) ["_law_name","_law_found"] rfl rfl (by decide +kernel) rfl (by decide +kernel) trivial rfl (zaq (zz zw (pv 0) ze (fun _ _=>rfl))) (fun C s H fp=>(show QG _ _ (gTup K 2 (gCons (zW 0) (gCons (zW 1) gNil))) from zbl rfl (Zc (Zb (i:=0) (show (["_law_name","_law_found"]:List Str).Nodup from by decide +kernel) rfl (Or.inl rfl) (Or.inr rfl)) (Zc (Zb (i:=1) (show (["_law_name","_law_found"]:List Str).Nodup from by decide +kernel) rfl (Or.inl rfl) (Or.inr rfl)) zaP)))) (fun C s H fp=>⟨zM,(zu zx (zu zx (zu zx (zu zx zg (zo G_show_worth hr rfl (za (pv 0) zb))) zg) (zo G_loutcome_shown hr rfl (za (pv 1) zb))) zg)⟩) zeD.nd rfl (Or.inl rfl))
  (zd (zm (i:=2) zeD.nd rfl (Or.inl rfl) (zu zx (zu zx zg (ZZ tT tX tW zba zg (za (zu zaj (zF (za zg zb)) (pv 1)) zb))) zg))
  (zf (zl (zu zx (zu zx zg (ZZ tT tX tW zba zg (za (zF (za zg (za (zo G_show_rule hr rfl (za (zz zw (pv 0) ze (fun _ _=>rfl)) zb)) (za (pv 2) (za (zo G_lrecord_shown hr rfl (za (zz zw (pv 0) ze (fun _ _=>rfl)) zb)) zb))))) zb))) zg))))),nm3 ?_⟩
 intros
 obtain⟨r,ls,e⟩:=p
 obtain⟨a,rv',lv,ev,rfl,ea,rr,rl,re⟩:=opn3 rv
 obtain⟨b,us,rfl,eb,rus⟩:=opnL rl
 have hul:us.length=ls.length:=by rw[rus.len,yA]
 have hll:ls.length<=10:=g.ll
 have hsz:(16777216:Nat)<=tH:=by decide
 have l1:(uV " ").length=1:=by decide +kernel
 have l2:(uV "(").length=1:=by decide +kernel
 have l3:(uV ")").length=1:=by decide +kernel
 have c1:(uV " ").cps.toList=[32]:=by decide +kernel
 have c2:(uV "(").cps.toList=[40]:=by decide +kernel
 refine⟨_,rfl,a,_,1,.ref b,rfl,rfl,Sq ea,rfl,b,rfl,⟨_,Sq eb⟩,zlW (K:=K) (vs:=us) (fun i ys H'=>∃xs:List Str,ys=xs.map V.str/\xs.length=i/\xs.map (fun y=>y.cps.toList)=((ls.take i).map trL).map shT/\Same H H') (small (by lia)) ⟨[],rfl,rfl,rfl,Sr _⟩ (fun i ys H' h=>?_) (fun i ys H' h=>?_) (fun i v ys H' R R' hv h hR=>?_) (fun ys H' D h hD=>?_)⟩
 ·obtain⟨xs,rfl,hl,_⟩:=h
  rw[yA];exact hl
 ·obtain⟨_,_,_,_,s3⟩:=h
  exact Sq (s3 _ _ eb)
 ·obtain⟨xs,rfl,hxl,hxs,s3⟩:=h
  have hi:i<ls.length:=by rw[←hul];exact (yE.mp hv).1
  have hpi:ls[i]?=some ls[i]:=yB hi
  have rw0:=(rus.at' i v (lkW ls[i]) hv (by rw[yN,hpi];rfl)).mono (zh s3)
  have gl:=g.l _ (yW hi)
  generalize ls[i]=lk at rw0 gl hpi
  obtain⟨z,o⟩:=lk
  obtain⟨t,zv,ov,rfl,et,rz,ro⟩:=opn2 rw0
  have gz:=Z2 gl.1
  refine⟨t,_,rfl,Sq et,rfl,_,_,rfl,_,_,rfl,rfl,iteT ?_⟩
  refine⟨_,rfl,zv,.txt z,rfl,rz,gz.1,gz.2.1,wJ (xU gz.2.2),fun x H4 hx s4=>?_⟩
  have hxl1:x.length<=64000:=by
   have:=zaO gz
   rw[zbd,←hx,zH] at this
   lia
  refine⟨_,_,rfl,rfl,by rw[l2];lia,_,_,rfl,rfl,by rw[zt,l2,l1];lia,_,rfl,ov,o,rfl,ro.mono (zh s4),gl.2,fun y H5 hy s5=>?_⟩
  have hyl:y.length<=65000:=by
   have:(shT (trO o)).length+1<=65000:=zc9 gl.2
   rw[←hy,zH] at this
   lia
  refine⟨_,_,rfl,rfl,by rw[zt,zt,l2,l1];lia,_,_,rfl,rfl,by rw[zt,zt,zt,l2,l1,l3];lia,hR _ _ ⟨xs++[_],by rw[yK];rfl,by rw[yC,hxl];rfl,?_,(s3.trans s4).trans s5⟩⟩
  rw[zR hpi,yK,yK,yK,hxs,yJ,yJ,yJ,zT,zT,zT,zT,c1,c2,hx,hy,zdw]
  show _=_++[shT (.lst [trW numC (.txt z),trO o])]
  rw[shT,shTs,shTs,zbd]
  simp
 obtain⟨xs,rfl,hxl,hxs,s3⟩:=h
 rw[hul,xO] at hxs
 have s4:=s3.trans (Sn (o:=.lst (xs.map V.str)) hD)
 have e4:upd H' D (.lst (xs.map V.str)) D=some (.lst (xs.map V.str)):=zc
 generalize upd H' D (.lst (xs.map V.str))=H4 at s4 e4
 dsimp only[zW]
 refine⟨rfl,zl1,fun l hl=>?_⟩
 have s5:=Sn (o:=.lst [.str (uV "looks")]) hl
 have e5:upd H4 l (.lst [.str (uV "looks")]) l=some (.lst [.str (uV "looks")]):=zc
 generalize upd H4 l (.lst [.str (uV "looks")])=H5 at s5 e5
 refine⟨_,rfl,l,D,_,_,rfl,rfl,e5,s5 _ _ e4,small (by rw[yA];show 1+_<=_;lia),fun p hp=>?_⟩
 have s6:=(s4.trans s5).trans (Sn (o:=.lst ([.str (uV "looks")]++xs.map V.str)) hp)
 have e6:upd H5 p (.lst ([.str (uV "looks")]++xs.map V.str)) p=some (.lst ((uV "looks"::xs).map V.str)):=zc
 generalize upd H5 p (.lst ([.str (uV "looks")]++xs.map V.str))=H6 at s6 e6
 have w1:=zik ls g.l
 have l5:((uV "looks").cps.toList).length=5:=by decide +kernel
 have l6:((uV "paper").cps.toList).length=5:=by decide +kernel
 have wl:wid (nmT "looks"::ls.map trL)<=1400000:=by
  rw[zG,nmT,shT,l5]
  lia
 have hmap:(uV "looks"::xs).map (fun y=>y.cps.toList)=(nmT "looks"::ls.map trL).map shT:=by
  rw[yJ,yJ,hxs]
  rfl
 have joinB:∀(ys:List Str)(ts:List Tr),ys.map (fun y=>y.cps.toList)=ts.map shT->wid ts<=10000000->((ys.map (fun x=>x.length)).sum+ys.length*(uV " ").length<=16777216)/\(Txt.join (uV " ") ys).length<=10000000/\(uV "("++Txt.join (uV " ") ys++uV ")").cps.toList=shT (.lst ts):=fun ys ts hm hw=>by
  have hj:=zcM ys ts hm
  have hws:=zen ys ts hm
  have hjl:(Txt.join (uV " ") ys).length<=wid ts:=by
   rw[←zH,hj]
   exact zbV ts
  refine⟨by rw[l1];lia,by lia,?_⟩
  rw[zT,zT,c2,hj,zdw,shT]
  rfl
 obtain⟨b1,b2,b3⟩:=joinB _ _ hmap (by lia)
 refine⟨_,p,uV "looks"::xs,rfl,rfl,Sl e6,b1,_,_,rfl,rfl,by rw[l2];lia,_,_,rfl,rfl,by rw[zt,l2,l3];lia,?_⟩
 generalize uV "("++Txt.join (uV " ") (uV "looks"::xs)++uV ")"=lx at b3
 have rm:r.many<=20:=g.rm
 have rh:r.high<=12:=g.rh
 have em:e.many<=20:=g.em
 dsimp only[zW]
 refine⟨rfl,_,rfl,a,_,0,rv',rfl,rfl,Sq (s6 _ _ ea),rfl,rv',r,rfl,rr.mono (zh s6),g.r,by lia,by lia,fun x H7 hx s7=>?_⟩
 refine⟨_,rfl,_,rfl,a,_,2,ev,rfl,rfl,Sq (s7 _ _ (s6 _ _ ea)),rfl,ev,e,rfl,re.mono (zh (s6.trans s7)),g.e,g.ed,em,fun y H8 hy s8=>⟨zl4,fun p2 hp2=>?_⟩⟩
 have w2:=zem r g.r
 have w3:=zf4 e g.e
 have w4:=zbI (nmT "looks"::ls.map trL)
 have hmap2:[uV "paper",x,lx,y].map (fun y=>y.cps.toList)=[nmT "paper",trR r,.lst (nmT "looks"::ls.map trL),trE e].map shT:=by
  simp only[yJ,wQ,hx,b3,hy]
  rfl
 obtain⟨d1,d2,d3⟩:=joinB _ _ hmap2 (by
  rw[zG,zG,zG,zG,nmT,shT,l6]
  show _+(_+(_+(_+1+0)))<=_
  lia)
 exact⟨_,p2,[uV "paper",x,lx,y],rfl,rfl,Sl (by rw[zc];rfl),d1,_,_,rfl,rfl,by rw[l2];lia,_,_,rfl,rfl,by rw[zt,l2,l3];lia,q _ _ d3 (((s6.trans s7).trans s8).trans (Sn hp2))⟩
end D
namespace L2
open PySem PySem.Spec PyProof.Rows
theorem znw{z:Str}{g:TG}{tb:TS}{D:Ends}{σ:St}{H:Hp}(Pv:Nat->St->Hp->Prop)(h0:Pv 0 σ H)
  (hs:∀i c σ H,z.cps[i]?=some c->Pv i σ H->g (.str ⟨#[c]⟩) σ H fun σ2 H2=>tb {D with nx:=Pv (i+1),ct:=Pv (i+1),bk:=D.nx} σ2 H2) (hd:∀σ H,Pv z.cps.size σ H->D.nx σ H):
  ∃W:Nat->Nat->St->Hp->Prop,(∃m,W 0 m σ H)/\∀i m σ H,W i m σ H->
   ((Its z).stop i H/\D.nx σ H)\/((Its z).go i H/\∃N:St->Hp->Prop,(∀σ' H',N σ' H'->∃m',m'<m/\W (i+1) m' σ' H')/\∀x H',(Its z).yld i H x H'->g x σ H' fun σ2 H2=>tb {D with nx:=N,ct:=N,bk:=D.nx} σ2 H2):=by
 refine⟨fun i m σ H=>m=z.cps.size-i/\i<=z.cps.size/\Pv i σ H,⟨z.cps.size,by simp,yS _,h0⟩,?_⟩
 rintro i m σ H ⟨rfl,hi,p⟩
 by_cases hlt:i<z.cps.size
 ·refine .inr ⟨hlt,Pv (i+1),fun σ' H' p'=>⟨z.cps.size-(i+1),by lia,rfl,hlt,p'⟩,fun x H' y=>?_⟩
  obtain⟨e,c,hc,rfl⟩:=y
  subst e
  exact hs i c σ _ hc p
 ·have e:i=z.cps.size:=by lia
  subst e
  exact .inl ⟨rfl,hd σ H p⟩
end L2
namespace D
open PySem L2
mutual
theorem zhz:∀(r:Rl)(sc:List Str),r.Fit sc->unb sc r=[]
 |.lit x,sc,_=>by rw[unb]
 |.var s,sc,h=>by rw[Rl.Fit] at h;rw[unb,if_pos h.2]
 |.op d bs ps,sc,h=>by rw[Rl.Fit] at h;rw[unb];exact fits_unb ps sc bs h.2
theorem fits_unb:∀(ps:List Rl)(sc bs:List Str),Fits ps sc bs->unbs sc bs ps=[]
 |[],sc,bs,_=>by rw[unbs]
 |[p],sc,bs,h=>by rw[Fits] at h;rw[unbs];exact zhz p _ h
 |p::q::r,sc,bs,h=>by rw[Fits] at h;rw[unbs,zhz p sc h.1,fits_unb (q::r) sc bs h.2];rfl
end
noncomputable def isSB(c:Nat):Bool:=decide (c=32\/c=40\/c=41)
def Bl(g:List Nat):Prop:=∀c∈g,c=32\/c=10
inductive Loo:Bool->List Nat->List Nat->Prop where
 |nil {qd:Bool}:Loo qd [] []
 |keep {qd:Bool}{c:Nat}{r L:List Nat}:((qd != (c==34))=true\/isSB c=false)->Loo (qd != (c==34)) r L->Loo qd (c::r) (c::L)
 |gap {qd:Bool}{c:Nat}{r L g g2:List Nat}:(qd != (c==34))=false->isSB c=true->Bl g->Bl g2->Loo (qd != (c==34)) r L->Loo qd (c::r) (g++c::(g2++L))
theorem zos:∀{q:List Nat},(∀c∈q,c≠34)->∀{r L:List Nat},Loo true (q++r) L->∃L',L=q++L'/\Loo true r L'
 |[],_,r,L,h=>⟨L,rfl,h⟩
 |c::q,hq,r,L,h=>by
  have hc:(c==34)=false:=by
   have:=hq c yV
   simpa using this
  cases h with
  | @keep _ _ _ L1 _ h1=>
   rw[hc] at h1
   obtain⟨L',rfl,h2⟩:=zos (fun d hd=>hq d (yM _ hd)) h1
   exact⟨L',rfl,h2⟩
  |gap h0 _ _ _ _=>rw[hc] at h0;cases h0
theorem zot:∀{q:List Nat},(∀c∈q,zbc c=false)->∀{r L:List Nat},Loo false (q++r) L->∃L',L=q++L'/\Loo false r L'
 |[],_,r,L,h=>⟨L,rfl,h⟩
 |c::q,hq,r,L,h=>by
  have he:=hq c yV
  unfold zbc at he
  simp only[vM,beq_eq_false_iff_ne,ne_eq] at he
  have hc:(c==34)=false:=by simpa using he.2.2.2.2
  cases h with
  | @keep _ _ _ L1 _ h1=>
   rw[hc] at h1
   obtain⟨L',rfl,h2⟩:=zot (fun d hd=>hq d (yM _ hd)) h1
   exact⟨L',rfl,h2⟩
  |gap _ h0 _ _ _=>
   have:=of_decide_eq_true h0
   lia
theorem zou{g r:List Nat}(h:Bl g)(hr:Cut r):Cut (g++r):=fun c s e=>by
 cases g with
 |nil=>exact hr c s e
 |cons d g=>
  cases e
  rcases h c yV with rfl|rfl<;>rfl
theorem znx{r L:List Nat}(h:Loo false r L)(hr:Cut r):Cut L:=by
 cases h with
 |nil=>exact hr
 | @keep _ c r L _ _=>intro d s e;cases e;exact hr c r rfl
 | @gap _ c r L g g2 _ _ hg _ _=>exact zou hg fun d s e=>by cases e;exact hr c r rfl
theorem zkJ{s:List Nat}{ps:List Pc}(h:Spell s ps):∀{L:List Nat},Loo false s L->Spell L ps:=by
 induction h with
 |nil=>intro L h;cases h;exact .nil
 | @gap c r ps hc _ ih=>
  intro L h
  have hc4:(c==34)=false:=by rcases hc with rfl|rfl<;>rfl
  cases h with
  |keep _ h1=>rw[hc4] at h1;exact .gap hc (ih h1)
  |gap _ _ hg hg2 h1=>rw[hc4] at h1;exact Spell.gaps hg (.gap hc (Spell.gaps hg2 (ih h1)))
 | @op r ps _ ih=>
  intro L h
  cases h with
  |keep _ h1=>exact .op (ih h1)
  |gap _ _ hg hg2 h1=>exact Spell.gaps hg (.op (Spell.gaps hg2 (ih h1)))
 | @cl r ps _ ih=>
  intro L h
  cases h with
  |keep _ h1=>exact .cl (ih h1)
  |gap _ _ hg hg2 h1=>exact Spell.gaps hg (.cl (Spell.gaps hg2 (ih h1)))
 | @txt q r ps hq _ ih=>
  intro L h
  cases h with
  |keep _ h1=>
   obtain⟨L',rfl,h2⟩:=zos hq h1
   cases h2 with
   |keep _ h3=>exact .txt hq (ih h3)
   |gap _ h0 _ _ _=>cases h0
  |gap _ h0 _ _ _=>cases h0
 | @word c q r ps hc hq hr _ ih=>
  intro L h
  obtain⟨L',rfl,h2⟩:=zot (q:=c::q) (fun d hd=>by
   rcases yG.mp hd with rfl|hd
   ·exact hc
   ·exact hq d hd) h
  exact .word hc hq (znx h2 hr) (ih h2)
inductive spPaperD(vs:List V)(H:Hp)(Q:VK)(z3:XK):Prop
 |mk (b:Addr) (_:vs=[.ref b,.int 2]) (_:IsBox H b) (_:∀(t:Addr)(p:Pa)(H':Hp),RW H' (.ref t) p.toW->GdP p->Rule p.r->p.r.many<=2->p.e.many<=2->p.ls.length<=2->p.r.high<=5->Step b H H'->Q (.ref t) H')
inductive spLooseD(vs:List V)(H:Hp)(Q:VK)(z3:XK):Prop
 |mk (b:Addr) (x:Str) (ps:List Pc) (_:vs=[.str x,.ref b]) (_:IsBox H b) (_:Spell x.cps.toList ps) (_:x.length<=4000000) (_:∀(y:Str)(H':Hp),Spell y.cps.toList ps->y.length<=2*x.length+1->Step b H H'->Q (.str y) H')
mutual
theorem zgV:∀e:Re,e.deep<=e.many
 |.mk o ps=>by
  have:=deeps_manys ps
  rw[Re.deep,Re.many]
  lia
theorem deeps_manys:∀ps:List Re,reDeeps ps<=reManys ps
 |[]=>by rw[reDeeps,reManys];exact yO _
 |p::r=>by
  have h1:=zgV p
  have h2:=deeps_manys r
  rw[reDeeps,reManys]
  lia
end
theorem q34(c:Nat):decide (V.str ⟨#[c]⟩=V.str (uV "\""))=(c==34):=by
 have e:uV "\""=⟨#[34]⟩:=by decide +kernel
 rw[e]
 by_cases h:c=34
 ·rw[h];exact decide_eq_true rfl
 ·rw[show (c==34)=false by simpa using h]
  refine decide_eq_false fun z=>h ?_
  have:=V.str.inj z
  injection this with this
  have:=congrArg uR this
  simpa using this
theorem qne(a b:Bool):(!decide (V.bl a=V.bl b))=(a != b):=by
 cases a<;>cases b<;>decide
theorem sbin(c:Nat):(!!(Builtin.Str.occurrences (uV " ()") ⟨#[c]⟩ 0 (uV " ()").length 1).isEmpty)=!isSB c:=by
 have h:=StrLaws.found_one (uV " ()") c
 have e:(uV " ()").cps.toList=[32,40,41]:=by decide +kernel
 rw[e] at h
 rw[h]
 unfold isSB
 congr 1
 rw[xF,decide_eq_true_iff,decide_eq_true_iff]
 simp
theorem zhA(x:Str)(c:Nat):(x++(⟨#[c]⟩:Str)).cps.toList=x.cps.toList++[c]:=by rw[zT]
noncomputable def zeE:List V:=[.str (uV ""),.str (uV " "),.str (uV "\n")]
theorem gap3{r:Int}(h0:0<=r)(h1:r<3):∃g:Str,atI zeE r=some (.str g)/\Bl g.cps.toList/\g.length<=1:=by
 have h:r=0\/r=1\/r=2:=by lia
 rcases h with rfl|rfl|rfl
 ·exact⟨uV "",zS (j:=0) rfl,(by unfold Bl;decide +kernel),by decide +kernel⟩
 ·exact⟨uV " ",zS (j:=1) rfl,(by unfold Bl;decide +kernel),by decide +kernel⟩
 ·exact⟨uV "\n",zS (j:=2) rfl,(by unfold Bl;decide +kernel),by decide +kernel⟩
theorem zeF:FnScope ["_law_box_here","_law_most","_law_rule","_law_looks"] ["_law_box_here","_law_most"] (zi zfA):=mkSc rfl (by decide +kernel)
theorem zkK(F:Fun K "_law_paper" "_law_paper" zfA f fd)(G_lrecord:Have P w K mg base "_law_record" k ["_law_box_here","_law_room"] (spRecD 7))(G_ltake:Have P w K mg base "_law_take" k ["_law_box_here","_law_wide"] (spTake))(G_loutcome:Have P w K mg base "_law_outcome" k ["_law_box_here"] (spOutD))(G_ltext:Have P w K mg base "_law_text" k ["_law_box_here","_law_most"] (spText))(G_lany:Have P w K mg base "_law_any" k ["_law_box_here","_law_scope","_law_names","_law_spare","_law_floors","_law_rounds"] (spAny 11))(m_range:mg "range"=none)(m_tuple:mg "tuple"=none):FnOk P w K mg base CX0 (k+1) f fd ["_law_box_here","_law_most"] (spPaperD):=by
 refine F.okQ zeF (by rintro _ _ _ _ ⟨_,rfl,_⟩;rfl) fun _ _ _ _ H vs Q E hr h=>?_
 obtain⟨b,rfl,hb,q⟩:=h
 refine⟨_,(zd (zm (i:=2) zeF.nd rfl (Or.inl rfl) (zz zw (zo G_lany hr rfl (za (pv 0) (za (zF zb) (za (zF zb) (za (zu Zj ze (zo G_ltake hr rfl (za (pv 0) (za (pv 1) zb)))) (za ze (za ze zb))))))) ze (fun _ _=>rfl)))
  (zd (zm (i:=3) zeF.nd rfl (Or.inl rfl) (zD zK rfl m_tuple zC (za (zN [0] ["_law_box_here"] rfl rfl (by decide +kernel) rfl (by decide +kernel) rfl (by decide +kernel) ⟨rfl,trivial⟩ rfl ⟨⟨rfl,rfl,Or.inr (Or.inl rfl),(by show (some NameKind.cell:Option NameKind)≠some .local;decide),⟨_,rfl⟩⟩,trivial⟩ (zah rfl m_range (za (zo G_ltake hr rfl (za (pv 0) (za ze zb))) zb)) (fun C s H fp=>⟨zM,(zy (za (zo G_ltext hr rfl (za (pv 1) (za ze zb))) (za (zo G_loutcome hr rfl (za (pv 1) zb)) zb)))⟩)) zb)))
  (zf (zl (zy (za (pv 2) (za (pv 3) (za (zo G_lrecord hr rfl (za (pv 0) (za (pv 1) zb))) zb)))))))),nm3 ?_⟩
 intros
 refine⟨_,rfl,zl0,fun sc hsc=>⟨zl0,fun nl hnl=>?_⟩⟩
 have scb:sc≠b:=IsBox.ne hb hsc
 have st1:=Step.new (o:=.lst []) hb hsc
 have esc:upd H sc (.lst []) sc=some (.lst []):=zc
 generalize upd H sc (.lst [])=H1 at st1 esc hnl
 have nlb:nl≠b:=IsBox.ne st1.box hnl
 have st2:=st1.trans (Step.new (o:=.lst []) st1.box hnl)
 have enl:upd H1 nl (.lst []) nl=some (.lst []):=zc
 have esc2:=Sn (o:=.lst []) hnl _ _ esc
 generalize upd H1 nl (.lst [])=H2 at st2 enl esc2
 refine⟨_,rfl,_,rfl,b,2,rfl,st2.box,by decide,by decide,fun r H3 a0 a1 st3=>⟨_,_,rfl,rfl,?_⟩⟩
 refine⟨b,sc,nl,[],[],1+r,5,1,rfl,st3.box,⟨st3.keep _ _ nlb enl,nlb,trivial,by decide,(fun z hz=>nomatch hz)⟩,st3.keep _ _ scb esc2,scb,by decide,(fun y hy=>nomatch hy),by lia,by lia,by decide,by decide,by decide,by decide,fun t v r0 H4 et rv hfit hmany hhigh hrep st4=>?_⟩
 refine⟨t,_,0,v,rfl,rfl,Sq et,rfl,?_⟩
 have st34:=(st2.trans st3).trans st4
 dsimp only[zW]
 refine⟨_,rfl,b,3,rfl,st4.box,by decide,by decide,fun r2 H5 b0 b1 st5=>⟨r2,rfl,by lia,by lia,zia (n:=r2) (fun i ys H'=>∃ls:List Lk,RWs H' ys (ls.map lkW)/\ls.length=i/\(∀x∈ls,GdL x)/\Step b H5 H') ⟨[],⟨rfl,fun i v w h=>by rw[wX] at h;cases h⟩,rfl,(fun x hx=>nomatch hx),Step.refl st5.box⟩ (fun i ys H' h=>?_) (by lia) (fun i ys H' R hi h hR=>?_) (fun ys H' D h hD=>?_)⟩⟩
 ·obtain⟨ls,rl,hl,_⟩:=h
  rw[rl.len,yA];exact hl
 ·obtain⟨ls,rl,hl,gl,st⟩:=h
  refine⟨_,rfl,b,12,rfl,st.box,by decide,by decide,fun z H6 hz1 hz2 st6=>⟨_,rfl,b,rfl,st6.box,fun t1 o H7 ro go st7=>⟨zl2,fun p hp=>?_⟩⟩⟩
  have s8:=Sn (o:=.tup [.str z,.ref t1]) hp
  have st67:=st6.trans st7
  refine hR _ _ ⟨ls++[(z,o)],?_,by rw[yC,hl];rfl,fun x hx=>?_,(st.trans st67).trans (Step.ofSame' st7.box s8)⟩
  ·rw[yK]
   exact ((rl.mono (st67.tups st.box)).mono (zh s8)).snoc (.lst zc rfl (rws2 (.txt z) (ro.mono (zh s8))).at')
  ·rcases yU.mp hx with hx|hx
   ·exact gl x hx
   ·rw[yH.mp hx]
    exact⟨⟨(by show z.length<=400;lia),hz2⟩,go⟩
 obtain⟨ls,rl,hl,gl,st⟩:=h
 refine⟨D,_,rfl,.inl ⟨Sl zc,fun t2 ht2=>?_⟩⟩
 have s6:=(Sn (o:=.lst ys) hD).trans (Sn (o:=.tup ys) ht2)
 have e6:upd (upd H' D (.lst ys)) t2 (.tup ys) t2=some (.tup ys):=zc
 generalize upd (upd H' D (.lst ys)) t2 (.tup ys)=H6 at s6 e6
 have st6:=st.trans (Step.ofSame' st.box s6)
 dsimp only[zW]
 refine⟨_,rfl,_,rfl,_,rfl,_,rfl,b,2,rfl,st6.box,by decide,by decide,by decide,fun t3 e H8 re ge me st8=>⟨zl3,fun p hp=>?_⟩⟩
 have s9:=Sn (o:=.tup [v,.ref t2,.ref t3]) hp
 have tA:Tups H4 (upd H8 p (.tup [v,.ref t2,.ref t3])):=fun a vs e=>s9 _ _ ((st8.tups st6.box) _ _ ((st6.tups st5.box) _ _ ((st5.tups st4.box) _ _ e)))
 have tB:Tups H6 (upd H8 p (.tup [v,.ref t2,.ref t3])):=fun a vs e=>s9 _ _ ((st8.tups st6.box) _ _ e)
 have rl9:=(rl.mono (zh s6)).mono tB
 have dm:=zgV e
 have hem:e.many<=2:=by lia
 have hrm:r0.many<=2:=by lia
 have hrh:r0.high<=5:=by lia
 have hll:ls.length<=2:=by lia
 have gr:=hfit.gd
 refine q p ⟨r0,ls,e⟩ _ (.lst zc rfl (rws3 (rv.mono tA) (.lst (tB _ _ e6) rl9.len rl9.at') (re.mono (zh s9))).at') ⟨gr,yQ hrm (by decide),yQ hrh (by decide),gl,yQ hll (by decide),ge,yQ hem (by decide),by show e.deep<14;lia⟩ ⟨gr,yQ hrh (by decide),yQ hrm (by decide),zhz r0 [] hfit,by show r0.rep<=2;lia⟩ hrm hem hll hrh (((st34.trans st5).trans st6).trans (st8.trans (Step.ofSame' st8.box s9)))
theorem zak:FnScope ["_law_text_here","_law_box_here","_law_found","_law_quoted","_law_sign","_law_gap"] ["_law_text_here","_law_box_here"] (zi zfC):=mkSc rfl (by decide +kernel)
theorem zkL(F:Fun K "_law_loose" "_law_loose" zfC f fd)(G_ltake:Have P w K mg base "_law_take" k ["_law_box_here","_law_wide"] (spTake)):FnOk P w K mg base CX0 (k+1) f fd ["_law_text_here","_law_box_here"] (spLooseD):=by
 refine F.okQ zak (by rintro _ _ _ _ ⟨_,_,_,rfl,_⟩;rfl) fun _ _ _ _ H vs Q E hr h=>?_
 obtain⟨b,x,ps,rfl,hb,sp,hx,q⟩:=h
 refine⟨_,(zd (zm (i:=2) zak.nd rfl (Or.inl rfl) (zz Zd (zF (za zg (za zg (za zg zb)))) (zo G_ltake hr rfl (za (pv 1) (za ze zb))) (fun _ _=>rfl)))
  (zd (zm (i:=3) zak.nd rfl (Or.inl rfl) Z5)
  (zd (zaL tN rfl (ze4 (pv 0)) (Zb (i:=4) zak.nd rfl (Or.inl rfl)) (zd (zm (i:=3) zak.nd rfl (Or.inl rfl) (zJ zaz (pv 3) (zJ zY (pv 4) zg (nomark _)) (nomark _)))
  (zf (zE (PW.pt (Z6 (zX (pv 3)) (ZF (zk zdi (pv 4) zg (by rfl))))) (zf (zm (i:=2) zak.nd rfl (Or.inl rfl) (zu zx (pv 2) (pv 4)))) (zd (zm (i:=5) zak.nd rfl (Or.inl rfl) (zz Zd (zF (za zg (za zg (za zg zb)))) (zo G_ltake hr rfl (za (pv 1) (za ze zb))) (fun _ _=>rfl)))
  (zf (zm (i:=2) zak.nd rfl (Or.inl rfl) (zu zx (pv 2) (zz Zd (zF (za (zu zx (pv 5) (pv 4)) (za (zu zx (pv 4) (pv 5)) zb))) (zo G_ltake hr rfl (za (pv 1) (za ze zb))) (fun _ _=>rfl))))))))))
  (zf (zl (pv 2)))))),nm4 ?_⟩
 intros
 have hsz:(16777216:Nat)<=tH:=by decide
 refine⟨zl3,fun l0 hl0=>?_⟩
 have st1:=Step.new (o:=.lst zeE) hb hl0
 have e1:upd H l0 (.lst zeE) l0=some (.lst zeE):=zc
 have nlb:l0≠b:=IsBox.ne hb hl0
 have eq1:upd H l0 (.lst zeE)=upd H l0 (.lst [.str (uV ""),.str (uV " "),.str (uV "\n")]):=rfl
 rw[eq1] at st1 e1
 generalize upd H l0 (.lst [.str (uV ""),.str (uV " "),.str (uV "\n")])=H1 at st1 e1
 refine⟨_,rfl,b,3,rfl,st1.box,by decide,by decide,fun r H2 a0 a1 st2=>?_⟩
 obtain⟨g0,ix0,bl0,gl0⟩:=gap3 a0 a1
 refine⟨l0,zeE,r,.str g0,rfl,rfl,Sl (st2.keep _ _ nlb e1),ix0,?_⟩
 have st12:=st1.trans st2
 clear eq1 e1 st1 st2
 dsimp only[zW]
 refine⟨_,rfl,x,rfl,znw (fun i σ' H'=>∃(o4 o5:Option V)(qd:Bool)(out:Str)(out':List Nat),σ'=[some (.str x),some (.ref b),some (.str out),some (.bl qd),o4,o5]/\Step b H H'/\out.length<=2*i+1/\i<=x.length/\out.cps.toList=g0.cps.toList++out'/\∀rest L,Loo qd rest L->Loo false (x.cps.toList.take i++rest) (out'++L))
  ⟨none,none,false,g0,[],rfl,st12,by lia,yS _,by rw[xH],fun rest L h=>h⟩ (fun i c σ' H' hc h=>?_) (fun σ' H' h=>?_)⟩
 ·obtain⟨o4,o5,qd,out,out',rfl,st,hol,hil,hout,inv⟩:=h
  have hc':x.cps.toList[i]?=some c:=by simpa using hc
  have hi:i<x.length:=by rw[←zH];exact (yE.mp hc').1
  have lc:(⟨#[c]⟩:Str).length=1:=rfl
  refine⟨_,rfl,_,rfl,rfl,rfl,?_⟩
  rw[q34,qne]
  dsimp only[zW]
  have stepK:((qd != (c==34))=true\/isSB c=false)->∀rest L,Loo (qd != (c==34)) rest L->Loo false (x.cps.toList.take (i+1)++rest) ((out'++[c])++L):=fun hk rest L h=>by
   rw[zR hc',xI,xI]
   exact inv _ _ (.keep hk h)
  have stepG:(qd != (c==34))=false->isSB c=true->∀g g2,Bl g->Bl g2->∀rest L,Loo (qd != (c==34)) rest L->Loo false (x.cps.toList.take (i+1)++rest) ((out'++(g++c::g2))++L):=fun h1 h2 g g2 hg hg2 rest L h=>by
   rw[zR hc',xI,xI,xI,xC]
   exact inv _ _ (.gap h1 h2 hg hg2 h)
  refine⟨_,rfl,_,rfl,?_⟩
  cases hq:(qd != (c==34)) with
  |true=>
   rw[hq] at stepK
   refine iteT (iteT ⟨_,rfl,_,rfl,_,_,rfl,rfl,by rw[lc];lia,?_⟩)
   exact⟨_,_,_,_,out'++[c],rfl,st,by rw[zt,lc];lia,hi,by rw[zhA,hout,xI],stepK (.inl rfl)⟩
  |false=>
   rw[hq] at stepK stepG
   refine iteF ⟨_,rfl,_,_,rfl,rfl,_,rfl,?_⟩
   rw[sbin]
   cases hsb:isSB c with
   |false=>
    refine iteT ⟨_,rfl,_,rfl,_,_,rfl,rfl,by rw[lc];lia,?_⟩
    exact⟨_,_,_,_,out'++[c],rfl,st,by rw[zt,lc];lia,hi,by rw[zhA,hout,xI],stepK (.inr hsb)⟩
   |true=>
    refine iteF ⟨zl3,fun l1 hl1=>?_⟩
    have stA:=Step.new (o:=.lst zeE) st.box hl1
    have eA:upd H' l1 (.lst zeE) l1=some (.lst zeE):=zc
    have nAb:l1≠b:=IsBox.ne st.box hl1
    have eqA:upd H' l1 (.lst zeE)=upd H' l1 (.lst [.str (uV ""),.str (uV " "),.str (uV "\n")]):=rfl
    rw[eqA] at stA eA
    generalize upd H' l1 (.lst [.str (uV ""),.str (uV " "),.str (uV "\n")])=HA at stA eA
    refine⟨_,rfl,b,3,rfl,stA.box,by decide,by decide,fun r1 HB c0 c1 stB=>?_⟩
    obtain⟨g,ixg,blg,glg⟩:=gap3 c0 c1
    refine⟨l1,zeE,r1,.str g,rfl,rfl,Sl (stB.keep _ _ nAb eA),ixg,?_⟩
    have stAB:=stA.trans stB
    clear eqA eA
    dsimp only[zW]
    refine⟨_,rfl,_,rfl,_,rfl,_,_,rfl,rfl,by rw[lc];lia,_,rfl,_,rfl,_,_,rfl,rfl,by rw[lc];lia,zl2,fun l2 hl2=>?_⟩
    have stC:=Step.new (o:=.lst [.str (g++⟨#[c]⟩),.str (⟨#[c]⟩++g)]) stAB.box hl2
    have eC:upd HB l2 (.lst [.str (g++⟨#[c]⟩),.str (⟨#[c]⟩++g)]) l2=some (.lst [.str (g++⟨#[c]⟩),.str (⟨#[c]⟩++g)]):=zc
    have nCb:l2≠b:=IsBox.ne stAB.box hl2
    generalize upd HB l2 (.lst [.str (g++⟨#[c]⟩),.str (⟨#[c]⟩++g)])=HC at stC eC
    refine⟨_,rfl,b,2,rfl,stC.box,by decide,by decide,fun r4 HD d0 d1 stD=>?_⟩
    have stF:=((st.trans stAB).trans stC).trans stD
    have eD:=stD.keep _ _ nCb eC
    have h01:r4=0\/r4=1:=by lia
    rcases h01 with rfl|rfl
    ·refine⟨l2,_,0,.str (g++⟨#[c]⟩),rfl,rfl,Sl eD,zS (j:=0) rfl,_,_,rfl,rfl,by rw[zt,lc];lia,?_⟩
     refine⟨_,_,_,_,out'++(g.cps.toList++c::[]),rfl,stF,by rw[zt,zt,lc];lia,hi,?_,stepG rfl hsb g.cps.toList [] blg (fun d hd=>nomatch hd)⟩
     rw[zT,zhA,hout,xI]
    ·refine⟨l2,_,1,.str (⟨#[c]⟩++g),rfl,rfl,Sl eD,zS (j:=1) rfl,_,_,rfl,rfl,by rw[zt,lc];lia,?_⟩
     refine⟨_,_,_,_,out'++([]++c::g.cps.toList),rfl,stF,by rw[zt,zt,lc];lia,hi,?_,stepG rfl hsb [] g.cps.toList (fun d hd=>nomatch hd) blg⟩
     rw[zT,zT,hout,xI]
     rfl
 ·obtain⟨o4,o5,qd,out,out',rfl,st,hol,hil,hout,inv⟩:=h
  refine⟨_,rfl,q out H' ?_ ?_ st⟩
  ·have h0:=inv [] [] .nil
   rw[xH,xH,show x.cps.size=x.cps.toList.length from by simp,xO] at h0
   rw[hout]
   exact Spell.gaps bl0 (zkJ sp h0)
  ·have:x.cps.size=x.length:=rfl
   lia
mutual
theorem zkM:∀x:W,x.Ok->x.Nar
 |.num _,_=>by rw[W.Nar];trivial
 |.txt _,_=>by rw[W.Nar];trivial
 |.lst ws,h=>by
  have h1:ws.length<=60:=h.1
  have h2:Oks ws:=h.2
  rw[W.Nar]
  exact⟨by lia,oks_nar ws h2⟩
theorem oks_nar:∀ws:List W,Oks ws->Nars ws
 |[],_=>by rw[Nars];trivial
 |w::r,h=>by rw[Nars];exact⟨zkM w h.1,oks_nar r h.2⟩
end
theorem zkN:∀{ws:List W},(∀w∈ws,w.Nar)->Nars ws
 |[],_=>by rw[Nars];trivial
 |w::r,h=>by rw[Nars];exact⟨h w yV,zkN fun x hx=>h x (yM _ hx)⟩
theorem zax{ws:List W}{n:Nat}(h:∀w∈ws,w.depth<=n):depths ws<=n:=by
 induction ws with
 |nil=>exact yS _
 |cons w r ih=>
  have h1:=h w yV
  have h2:=ih fun x hx=>h x (yM _ hx)
  show max w.depth (depths r)<=n
  lia
theorem zbL(z:Str):(W.txt z).Nar:=by rw[W.Nar];trivial
theorem zaI{ws:List W}(h1:ws.length<=1000)(h2:∀w∈ws,w.Nar):(W.lst ws).Nar:=by rw[W.Nar];exact⟨h1,zkN h2⟩
mutual
theorem zkO:∀r:Rl,r.Gd->r.toW.Nar/\r.toW.depth<=r.high+14
 |.lit x,g=>by
  rw[Rl.Gd] at g
  have hd:x.depth<=12:=g.2.2
  rw[Rl.toW]
  refine⟨zaI (by show 2<=1000;decide) fun w hw=>?_,?_⟩
  ·rcases yG.mp hw with rfl|hw
   ·exact zbL _
   ·rw[yH.mp hw];exact zkM x g.1
  ·show 1+max 0 (max x.depth 0)<=_
   lia
 |.var z,g=>by
  rw[Rl.toW]
  refine⟨zaI (by show 2<=1000;decide) fun w hw=>?_,?_⟩
  ·rcases yG.mp hw with rfl|hw
   ·exact zbL _
   ·rw[yH.mp hw];exact zbL _
  ·show 1+max 0 (max 0 0)<=_
   lia
 |.op d bs ps,g=>by
  have g0:=g
  rw[Rl.Gd] at g
  have hb:=zcm d
  have hbl:=g.1.2.2.1
  have hp:ps.length<=8:=by
   have:=(zkt (r:=.op d bs ps) g0).len
   rw[yA] at this
   exact this
  have ih:=rls_nar ps g.2
  rw[Rl.toW,zdJ,Rl.high]
  refine⟨zaI (by rw[yF,yC,yA,yA];lia) fun w hw=>?_,?_⟩
  ·rcases yG.mp hw with rfl|hw
   ·exact zbL _
   ·rcases yU.mp hw with hw|hw
    ·obtain⟨z,_,rfl⟩:=yX.mp hw
     exact zbL _
    ·obtain⟨p,hp,rfl⟩:=yX.mp hw
     exact (ih p hp).1
  ·have:depths (.txt (woS d)::(bs.map W.txt++ps.map Rl.toW))<=highs ps+13:=zax fun w hw=>by
    rcases yG.mp hw with rfl|hw
    ·exact yS _
    ·rcases yU.mp hw with hw|hw
     ·obtain⟨z,_,rfl⟩:=yX.mp hw
      exact yS _
     ·obtain⟨p,hp,rfl⟩:=yX.mp hw
      exact (ih p hp).2
   show 1+depths _<=_
   lia
theorem rls_nar:∀ps:List Rl,Gds ps->∀p∈ps,p.toW.Nar/\p.toW.depth<=highs ps+13
 |q::r,g,p,hp=>by
  rw[Gds] at g
  have h1:=zkO q g.1
  have h2:=rls_nar r g.2
  rw[highs]
  rcases yG.mp hp with rfl|hp
  ·exact⟨h1.1,by lia⟩
  ·have:=h2 p hp
   exact⟨this.1,by lia⟩
end
theorem zkP{o:Ou}(g:GdO o):o.toW.Nar/\o.toW.depth<=13:=by
 obtain⟨gw,h2,_⟩:=g.good
 have hd:=gw.2.2
 refine⟨zaI (by rw[yC,yA];show _+1<=_;lia) fun w hw=>?_,?_⟩
 ·rcases yU.mp hw with hw|hw
  ·obtain⟨z,_,rfl⟩:=yX.mp hw
   exact zbL _
  ·rw[yH.mp hw];exact zkM _ gw.1
 ·have:depths (o.ws.map W.txt++[o.last])<=12:=zax fun w hw=>by
   rcases yU.mp hw with hw|hw
   ·obtain⟨z,_,rfl⟩:=yX.mp hw
    exact yS _
   ·rw[yH.mp hw];exact hd
  show 1+depths _<=_
  lia
mutual
theorem zkQ:∀e:Re,GdE e->e.many<=1000->e.toW.Nar/\e.toW.depth<=2*e.deep+13
 |.mk o ps,g,hm=>by
  rw[GdE] at g
  rw[Re.many] at hm
  have h1:=zkP g.1
  have h2:=res_nar ps g.2 (by lia)
  have hl:=zeu ps
  rw[Re.toW,Re.deep,Z3]
  refine⟨zaI (by show 2<=1000;decide) fun w hw=>?_,?_⟩
  ·rcases yG.mp hw with rfl|hw
   ·exact h1.1
   ·rw[yH.mp hw]
    exact zaI (by rw[yA];lia) fun w hw=>by
     obtain⟨p,hp,rfl⟩:=yX.mp hw
     exact (h2 p hp).1
  ·have:depths (ps.map Re.toW)<=2*reDeeps ps+13:=zax fun w hw=>by
    obtain⟨p,hp,rfl⟩:=yX.mp hw
    exact (h2 p hp).2
   show 1+max o.toW.depth (max (1+depths (ps.map Re.toW)) 0)<=_
   lia
theorem res_nar:∀ps:List Re,GdEs ps->reManys ps<=1000->∀p∈ps,p.toW.Nar/\p.toW.depth<=2*reDeeps ps+13
 |q::r,g,hm,p,hp=>by
  rw[GdEs] at g
  rw[reManys] at hm
  have h1:=zkQ q g.1 (by lia)
  have h2:=res_nar r g.2 (by lia)
  rw[reDeeps]
  rcases yG.mp hp with rfl|hp
  ·exact⟨h1.1,by lia⟩
  ·have:=h2 p hp
   exact⟨this.1,by lia⟩
end
theorem zov{p:Pa}(g:GdP p):p.toW.Nar/\p.toW.depth<60:=by
 have h1:=zkO p.r g.r
 have h2:=zkQ p.e g.e (by have:=g.em;lia)
 have hh:=g.rh
 have hd:=g.ed
 have hl:=g.ll
 have h3:∀l∈p.ls,(lkW l).Nar/\(lkW l).depth<=14:=fun l hl=>by
  have ho:=zkP (g.l l hl).2
  refine⟨zaI (by show 2<=1000;decide) fun w hw=>?_,?_⟩
  ·rcases yG.mp hw with rfl|hw
   ·exact zbL _
   ·rw[yH.mp hw];exact ho.1
  ·show 1+max 0 (max l.2.toW.depth 0)<=14
   lia
 refine⟨zaI (by show 3<=1000;decide) fun w hw=>?_,?_⟩
 ·rcases yG.mp hw with rfl|hw
  ·exact h1.1
  ·rcases yG.mp hw with rfl|hw
   ·exact zaI (by rw[yA];lia) fun w hw=>by
     obtain⟨l,hl,rfl⟩:=yX.mp hw
     exact (h3 l hl).1
   ·rw[yH.mp hw];exact h2.1
 ·have:depths (p.ls.map lkW)<=14:=zax fun w hw=>by
   obtain⟨l,hl,rfl⟩:=yX.mp hw
   exact (h3 l hl).2
  show 1+max p.r.toW.depth (max (1+depths (p.ls.map lkW)) (max p.e.toW.depth 0))<60
  lia
theorem zaf{z:Str}(h:z.cps.toList.isEmpty=false/\(z.cps.toList.all fun c=>!zbc c)=true):(nmT z).Ok:=by
 rw[nmT,Tr.Ok]
 refine⟨(fun e=>by rw[e] at h;cases h.1),fun c hc=>?_⟩
 have:=xY.mp h.2 c hc
 simpa using this
theorem zmw{o:Ou}(g:GdO o):(trO o).Ok:=by
 show TrOks (o.ws.map nmT++[trW numC o.last])
 have hw:∀z∈o.ws,(nmT z).Ok:=by
  cases g with
  |made _=>intro z hz;rw[yH.mp hz];exact zaf (by decide +kernel)
  |bare h=>
   intro z hz
   rcases yG.mp hz with rfl|hz
   ·exact zaf (by decide +kernel)
   ·rw[yH.mp hz]
    exact zaf ((by decide +kernel:∀w∈zc7,w.cps.toList.isEmpty=false/\(w.cps.toList.all fun c=>!zbc c)=true) _ h)
  |naming h _=>
   intro z hz
   rcases yG.mp hz with rfl|hz
   ·exact zaf (by decide +kernel)
   ·rw[yH.mp hz]
    exact zaf ((by decide +kernel:∀w∈Zo,w.cps.toList.isEmpty=false/\(w.cps.toList.all fun c=>!zbc c)=true) _ h)
  |cried _=>
   intro z hz
   rcases yG.mp hz with rfl|hz
   ·exact zaf (by decide +kernel)
   ·rw[yH.mp hz];exact zaf (by decide +kernel)
 refine zbh fun t ht=>?_
 rcases yU.mp ht with ht|ht
 ·obtain⟨z,hz,rfl⟩:=yX.mp ht
  exact hw z hz
 ·rw[yH.mp ht];exact zfk _ g.good.1.1
mutual
theorem zmx:∀e:Re,GdE e->(trE e).Ok
 |.mk o ps,g=>by
  rw[GdE] at g
  rw[trE,Tr.Ok,TrOks]
  exact⟨zmw g.1,trEs_ok ps g.2⟩
theorem trEs_ok:∀ps:List Re,GdEs ps->TrOks (trEs ps)
 |[],_=>by rw[trEs,TrOks];trivial
 |p::r,g=>by
  rw[GdEs] at g
  rw[trEs,TrOks]
  exact⟨zmx p g.1,trEs_ok r g.2⟩
end
theorem zow{p:Pa}(g:GdP p):(trP p).Ok:=by
 show TrOks [nmT "paper",trR p.r,.lst (nmT "looks"::p.ls.map trL),trE p.e]
 refine zbh fun t ht=>?_
 rcases yG.mp ht with rfl|ht
 ·exact zaf (by decide +kernel)
 rcases yG.mp ht with rfl|ht
 ·exact zmt p.r g.r
 rcases yG.mp ht with rfl|ht
 ·rw[Tr.Ok]
  refine zbh fun t ht=>?_
  rcases yG.mp ht with rfl|ht
  ·exact zaf (by decide +kernel)
  ·obtain⟨l,hl,rfl⟩:=yX.mp ht
   show TrOks [trW numC (.txt l.1),trO l.2]
   refine zbh fun t ht=>?_
   rcases yG.mp ht with rfl|ht
   ·exact zfk _ (g.l l hl).1
   ·rw[yH.mp ht];exact zmw (g.l l hl).2
 ·rw[yH.mp ht];exact zmx p.e g.e
theorem zhB{p:Pa}(g:GdP p)(h1:p.r.many<=2)(h2:p.e.many<=2)(h3:p.ls.length<=2):(shT (trP p)).length<=700000:=by
 have w1:=zik p.ls g.l
 have w2:=zem p.r g.r
 have w3:=zf4 p.e g.e
 have w4:=zbI (nmT "looks"::p.ls.map trL)
 have w5:=zbI [nmT "paper",trR p.r,.lst (nmT "looks"::p.ls.map trL),trE p.e]
 have l5:((uV "looks").cps.toList).length=5:=by decide +kernel
 have l6:((uV "paper").cps.toList).length=5:=by decide +kernel
 rw[zG,nmT,shT,l5] at w4
 rw[zG,zG,zG,zG,nmT,shT,l6] at w5
 have w0:wid ([]:List Tr)=0:=rfl
 rw[w0] at w5
 show (shT (.lst [nmT "paper",trR p.r,.lst (nmT "looks"::p.ls.map trL),trE p.e])).length<=_
 have e5:nmT "looks"=Tr.word (uV "looks").cps.toList:=rfl
 rw[e5] at w5 ⊢
 have e6:nmT "paper"=Tr.word (uV "paper").cps.toList:=rfl
 rw[e6]
 lia
theorem zeG{α:Type}{l:List α}{x y:α}{j:Nat}(h:(l++[x])[j]?=some y):(j<l.length/\l[j]?=some y)\/(j=l.length/\y=x):=by
 by_cases hj:j<l.length
 ·rw[yP hj] at h
  exact .inl ⟨hj,h⟩
 ·rw[yL (by lia)] at h
  have h1:j-l.length<1:=(yE.mp h).1
  have:j-l.length=0:=by lia
  rw[this] at h
  cases h
  exact .inr ⟨by lia,rfl⟩
def zdD:T->Bool
 |.tup [.txt z,o]=>zI (.txt z)&&Zx o
 |_=>false
def zb3:T->Bool
 |.tup ls=>ls.all zdD
 |_=>false
noncomputable def zox:T->Bool
 |.tup _=>true
 |_=>false
def recA:T->Bool
 |.tup [o,ps]=>Zx o&&zox ps
 |_=>false
def preL:T->Prop
 |.tup [_,o]=>preO o
 |_=>True
inductive RecT:T->Prop where
 |mk {o:T}{ps:List T}:Zx o=true->(∀p∈ps,RecT p)->RecT (.tup [o,.tup ps])
mutual
inductive PreE:Nat->T->Prop where
 |no {k:Nat}{t:T}:k=1->(∀o ps,t=.tup [o,.tup ps]->Zx o=false)->(∀o q,t=.tup [o,q]->preO o)->PreE k t
 |mk {k n:Nat}{o:T}{ps:List T}:k=n+1->preO o->PreEs n ps->PreE k (.tup [o,.tup ps])
inductive PreEs:Nat->List T->Prop where
 |nil {k:Nat}:k=0->PreEs k []
 |cons {k n m:Nat}{t:T}{r:List T}:k=n+m->PreE n t->PreEs m r->PreEs k (t::r)
end
theorem PreE.pos{n:Nat}{t:T}(h:PreE n t):1<=n:=by
 cases h with
 |no e _ _=>lia
 |mk e _ _=>lia
theorem PreEs.len:∀{ts:List T}{n:Nat},PreEs n ts->ts.length<=n
 |[],n,h=>yS _
 |t::r,_,h=>by
  cases h with
  |cons e h1 h2=>
   have:=h1.pos
   have:=PreEs.len h2
   rw[yF]
   lia
theorem PreEs.app:∀{xs ys:List T}{n m:Nat},PreEs n xs->PreEs m ys->PreEs (n+m) (xs++ys)
 |[],ys,n,m,h,h'=>by
  cases h with
  |nil e=>rw[e,Nat.zero_add];exact h'
 |x::r,ys,n,m,h,h'=>by
  cases h with
  |cons e h1 h2=>exact .cons (by lia) h1 (PreEs.app h2 h')
theorem PreEs.last:∀{xs:List T}{t:T}{n:Nat},PreEs n (xs++[t])->∃a b,n=a+b/\PreEs a xs/\PreE b t
 |[],t,n,h=>by
  cases h with
  |cons e h1 h2=>
   cases h2 with
   |nil e2=>exact⟨0,_,by lia,.nil rfl,h1⟩
 |x::r,t,n,h=>by
  cases h with
  |cons e h1 h2=>
   obtain⟨a,b,e2,ha,hb⟩:=PreEs.last h2
   exact⟨_,b,by lia,.cons rfl h1 ha,hb⟩
def PreP(t:T):Prop:=∀r ls e,t=.tup [r,ls,e]->(∀xs,ls=.tup xs->∀l∈xs,preL l)/\∃n,PreE n e/\n<=1000
def zgW(t:T):Prop:=∃r ls e,t=.tup [r,ls,e]/\zek r/\zb3 ls=true/\RecT e
inductive spIsLook(vs:List V)(H:Hp)(Q:VK)(z3:XK):Prop
 |mk (v:V) (t:T) (_:vs=[v]) (_:RT H v t) (_:t.Sm) (_:preL t) (_:∀H',Same H H'->Q (.bl (zdD t)) H')
inductive spAreLooks(vs:List V)(H:Hp)(Q:VK)(z3:XK):Prop
 |mk (v:V) (t:T) (_:vs=[v]) (_:RT H v t) (_:t.Sm) (_:(∀xs,t=.tup xs->∀l∈xs,preL l)) (_:∀H',Same H H'->Q (.bl (zb3 t)) H')
inductive spRecA(vs:List V)(H:Hp)(Q:VK)(z3:XK):Prop
 |mk (v:V) (t:T) (_:vs=[v]) (_:RT H v t) (_:t.Sm) (_:(∀o q,t=.tup [o,q]->preO o)) (_:∀H',Same H H'->Q (.bl (recA t)) H')
inductive spIsRec(vs:List V)(H:Hp)(Q:VK)(z3:XK):Prop
 |mk (v:V) (t:T) (n:Nat) (_:vs=[v]) (_:RT H v t) (_:t.Sm) (_:PreE n t) (_:n<=1000) (_:∀(b:Bool)(H':Hp),Same H H'->(b=true->RecT t)->(b=false->¬RecT t)->Q (.bl b) H')
inductive spMayRun(vs:List V)(H:Hp)(Q:VK)(z3:XK):Prop
 |mk (v:V) (t:T) (_:vs=[v]) (_:RT H v t) (_:t.Sm) (_:PreP t) (_:∀(b:Bool)(H':Hp),Same H H'->(b=true->∃r ls e,t=.tup [r,ls,e]/\zek r/\zb3 ls=true)->(b=false->¬∃r ls e,t=.tup [r,ls,e]/\zek r/\zb3 ls=true)->Q (.bl b) H')
inductive spIsPaper(vs:List V)(H:Hp)(Q:VK)(z3:XK):Prop
 |mk (v:V) (t:T) (_:vs=[v]) (_:RT H v t) (_:t.Sm) (_:PreP t) (_:∀(b:Bool)(H':Hp),Same H H'->(b=true->zgW t)->(b=false->¬zgW t)->Q (.bl b) H')
theorem zlX:∀ts:List T,ts.length≠2->zdD (.tup ts)=false
 |[],_=>rfl
 |[x],_=>by cases x<;>rfl
 |[_,_],h=>absurd rfl h
 |x::_::_::_,_=>by cases x<;>rfl
theorem zlY:∀ts:List T,ts.length≠2->recA (.tup ts)=false
 |[],_=>rfl
 |[_],_=>rfl
 |[_,_],h=>absurd rfl h
 |_::_::_::_,_=>rfl
theorem zkR(n m:Nat):decide (V.int (n:Int)=V.int (m:Int))=decide (n=m):=by
 rw[xF]
 simp
 lia
theorem zoy{t:T}(h:RecT t):recA t=true:=by
 cases h with
 |mk h1 _=>show (Zx _&&true)=true;rw[h1];rfl
theorem zlZ{t:T}(h:recA t=true):∃o ps,t=.tup [o,.tup ps]/\Zx o=true:=by
 match t,h with
 |.tup [o,.tup ps],h=>
  have h:(Zx o&&true)=true:=h
  rw[wU] at h
  exact⟨o,ps,rfl,h⟩
 |.tup [o,.non],h=>exact absurd h (by show ¬(Zx o&&false)=true;rw[wL];decide)
 |.tup [o,.bl _],h=>exact absurd h (by show ¬(Zx o&&false)=true;rw[wL];decide)
 |.tup [o,.num _],h=>exact absurd h (by show ¬(Zx o&&false)=true;rw[wL];decide)
 |.tup [o,.txt _],h=>exact absurd h (by show ¬(Zx o&&false)=true;rw[wL];decide)
 |.tup [o,.lst],h=>exact absurd h (by show ¬(Zx o&&false)=true;rw[wL];decide)
 |.tup [o,.dic],h=>exact absurd h (by show ¬(Zx o&&false)=true;rw[wL];decide)
theorem zkS{H:Hp}{a:Addr}{vs:List V}{ts:List T}(l:vs.length=ts.length)(at':∀(i:Nat) (v:V) (t:T),vs[i]?=some v->ts[i]?=some t->RT H v t)(c:vs.length=2):∃u0 u1 t0 t1,vs=[u0,u1]/\ts=[t0,t1]/\RT H u0 t0/\RT H u1 t1:=by
 obtain⟨u0,u1,rfl⟩:=len2 c
 obtain⟨t0,t1,rfl⟩:=len2 (l.symm.trans c)
 exact⟨u0,u1,t0,t1,rfl,rfl,at' 0 u0 t0 rfl rfl,at' 1 u1 t1 rfl rfl⟩
theorem Sms.mem:∀{ts:List T},Sms ts->∀t∈ts,t.Sm
 |t::r,h,x,hx=>by
  rcases yG.mp hx with rfl|hx
  ·exact h.1
  ·exact Sms.mem h.2 x hx
theorem zje:FnScope ["thing"] ["thing"] (zi zd7):=mkSc rfl (by decide +kernel)
theorem zjf(F:Fun K "is_look" "is_look" zd7 f fd)(G_is_outcome:Have P w K mg base "is_outcome" k ["thing"] (spIsOut))(G_is_worth:Have P w K mg base "is_worth" k ["thing"] (spIsWorth))(m_isi:mg "isinstance"=none)(m_len:mg "len"=none)(m_str:mg "str"=none)(m_tuple:mg "tuple"=none):FnOk P w K mg base CX0 (k+1) f fd ["thing"] (spIsLook):=by
 refine F.okQ zje (by rintro _ _ _ _ ⟨_,_,rfl,_⟩;rfl) fun _ _ _ _ H vs Q E hr h=>?_
 obtain⟨v,t,rfl,rt,hsm,hpre,q⟩:=h
 refine⟨_,(zd (zE (PW.pt (Z6 (ZA (zX (zj zP rfl m_isi zQ (za (pv 0) (za (ZP rfl m_tuple zC) zb))))) (ZF (zk zaz (zj zB rfl m_len tF (za (pv 0) zb)) ze (nomark _))))) (zf (zl Z5)) zq)
  (zf (zl (Zt (zj zP rfl m_isi zQ (za (zz zw (pv 0) ze (fun _ _=>rfl)) (za (ZP rfl m_str ZI) zb))) (Zt (zo G_is_worth hr rfl (za (zz zw (pv 0) ze (fun _ _=>rfl)) zb)) (ZG (zo G_is_outcome hr rfl (za (zz zw (pv 0) ze (fun _ _=>rfl)) zb)))))))),nm2 ?_⟩
 intros
 have q0:∀b:Bool,zdD t=b->Q (.bl b) H:=fun b e=>by rw[←e];exact q H (Sr H)
 have q1:∀(b:Bool)(H':Hp),Same H H'->zdD t=b->Q (.bl b) H':=fun b H' s e=>by rw[←e];exact q H' s
 cases rt with
 |non=>exact⟨_,rfl,_,_,_,_,rfl,.non,zcA,_,rfl,iteT (q0 _ rfl)⟩
 |bl b=>exact⟨_,rfl,_,_,_,_,rfl,.bl b,zcz,_,rfl,iteT (q0 _ rfl)⟩
 |num i=>exact⟨_,rfl,_,_,_,_,rfl,.int i,zb1,_,rfl,iteT (q0 _ rfl)⟩
 |txt x=>exact⟨_,rfl,_,_,_,_,rfl,.str x,zb2,_,rfl,iteT (q0 _ rfl)⟩
 |lst e=>exact⟨_,rfl,_,_,_,_,rfl,.lst e,zcB,_,rfl,iteT (q0 _ rfl)⟩
 |dic e=>exact⟨_,rfl,_,_,_,_,rfl,.dK e,zcC,_,rfl,iteT (q0 _ rfl)⟩
 | @tup a vs ts e l at'=>
  refine⟨_,rfl,_,_,_,_,rfl,.tup e,zbt,_,rfl,iteF ⟨_,rfl,_,_,rfl,.inr ⟨_,Sq e,rfl⟩,rfl,_,rfl,?_⟩⟩
  rw[show (V.int 2)=V.int ((2:Nat):Int) from rfl,zkR]
  by_cases c:vs.length=2
  ·rw[decide_eq_true c]
   obtain⟨u0,u1,t0,t1,rfl,rfl,r0,r1⟩:=zkS (H:=H) (a:=a) l at' c
   have sm1:t1.Sm:=hsm.2.2.1
   have no:(∀z,t0≠.txt z)->zdD (.tup [t0,t1])=false:=fun h=>by
    cases t0 with
    |txt z=>exact absurd rfl (h z)
    |_=>rfl
   refine iteF ⟨_,rfl,a,_,0,u0,rfl,rfl,Sq e,rfl,?_⟩
   cases r0 with
   |non=>exact⟨_,_,_,_,rfl,.non,ze8,_,rfl,iteF (q0 _ (no fun z h=>nomatch h))⟩
   |bl b=>exact⟨_,_,_,_,rfl,.bl b,ze7,_,rfl,iteF (q0 _ (no fun z h=>nomatch h))⟩
   |num i=>exact⟨_,_,_,_,rfl,.int i,ze6,_,rfl,iteF (q0 _ (no fun z h=>nomatch h))⟩
   |tup e' _ _=>exact⟨_,_,_,_,rfl,.tup e',ze5,_,rfl,iteF (q0 _ (no fun z h=>nomatch h))⟩
   |lst e'=>exact⟨_,_,_,_,rfl,.lst e',ze9,_,rfl,iteF (q0 _ (no fun z h=>nomatch h))⟩
   |dic e'=>exact⟨_,_,_,_,rfl,.dK e',zfa,_,rfl,iteF (q0 _ (no fun z h=>nomatch h))⟩
   |txt x=>
    refine⟨_,_,_,_,rfl,.str x,zdl,_,rfl,iteT ⟨_,rfl,a,_,0,_,rfl,rfl,Sq e,rfl,.str x,.txt x,rfl,.txt x,hsm.2.1,fun H1 s1=>⟨_,rfl,?_⟩⟩⟩
    have e0:zdD (.tup [.txt x,t1])=(zI (.txt x)&&Zx t1):=rfl
    refine ite2 (fun c1=>?_) (fun c1=>?_)
    ·have c1:zI (.txt x)=true:=c1
     exact⟨_,rfl,a,_,1,u1,rfl,rfl,Sq (s1 _ _ e),rfl,u1,t1,rfl,r1.mono s1,sm1,hpre,fun H2 s2=>q1 _ H2 (s1.trans s2) (by rw[e0,c1,wT])⟩
    ·have c1:zI (.txt x)=false:=xJ.mpr c1
     exact q1 _ H1 s1 (by rw[e0,c1,wI])
  ·rw[decide_eq_false c]
   exact iteT (q0 _ (zlX ts (by lia)))
theorem zgX:FnScope ["thing"] ["thing"] (zi zcd):=mkSc rfl (by decide +kernel)
theorem zgY(F:Fun K "are_looks" "are_looks" zcd f fd)(G_is_look:Have P w K mg base "is_look" k ["thing"] (spIsLook))(m_all:mg "all"=none)(m_isi:mg "isinstance"=none)(m_tuple:mg "tuple"=none):FnOk P w K mg base CX0 (k+1) f fd ["thing"] (spAreLooks):=by
 refine F.okQ zgX (by rintro _ _ _ _ ⟨_,_,rfl,_⟩;rfl) fun _ _ _ _ H vs Q E hr h=>?_
 obtain⟨v,t,rfl,rt,hsm,hpre,q⟩:=h
 refine⟨_,(zf (zl (Zt (zj zP rfl m_isi zQ (za (pv 0) (za (ZP rfl m_tuple zC) zb))) (ZG (zj (ZD rfl) rfl m_all za1 (za (zN [] [] rfl rfl (by decide +kernel) rfl (by decide +kernel) rfl (by decide +kernel) trivial rfl trivial (zaq (pv 0)) (fun C s H fp=>⟨zM,(zo G_is_look hr rfl (za (pv 0) zb))⟩)) zb)))))),?_⟩
 have q0:∀b:Bool,zb3 t=b->Q (.bl b) H:=fun b e=>by rw[←e];exact q H (Sr H)
 cases rt with
 |non=>exact⟨_,rfl,_,_,_,_,rfl,.non,zcA,_,rfl,iteF (q0 _ rfl)⟩
 |bl b=>exact⟨_,rfl,_,_,_,_,rfl,.bl b,zcz,_,rfl,iteF (q0 _ rfl)⟩
 |num i=>exact⟨_,rfl,_,_,_,_,rfl,.int i,zb1,_,rfl,iteF (q0 _ rfl)⟩
 |txt x=>exact⟨_,rfl,_,_,_,_,rfl,.str x,zb2,_,rfl,iteF (q0 _ rfl)⟩
 |lst e=>exact⟨_,rfl,_,_,_,_,rfl,.lst e,zcB,_,rfl,iteF (q0 _ rfl)⟩
 |dic e=>exact⟨_,rfl,_,_,_,_,rfl,.dK e,zcC,_,rfl,iteF (q0 _ rfl)⟩
 | @tup a vs ts e l at'=>
  have hz:ts.length<=100000:=hsm.1
  refine⟨_,rfl,_,_,_,_,rfl,.tup e,zbt,_,rfl,iteT ⟨_,rfl,a,rfl,⟨_,Sq e⟩,zat (K:=K) (vs:=vs) (fun i ys H'=>ys=((ts.take i).map fun t=>V.bl (zdD t))/\i<=ts.length/\Same H H') (small (by lia)) ⟨rfl,yS _,Sr _⟩ (fun i ys H' h=>?_) (fun i ys H' h=>?_) (fun i v ys H' R hv h hR=>?_) (fun ys H' D h hD=>?_)⟩⟩
  ·obtain⟨rfl,hi,_⟩:=h
   rw[yA,yY];lia
  ·exact Sq (h.2.2 _ _ e)
  ·obtain⟨rfl,_,s2⟩:=h
   have hi:i<ts.length:=by rw[←l];exact (yE.mp hv).1
   have hti:ts[i]?=some ts[i]:=yB hi
   refine⟨_,rfl,v,ts[i],rfl,(at' i v _ hv hti).mono s2,Sms.mem hsm.2 _ (yW hi),hpre ts rfl _ (yW hi),fun H3 s3=>hR _ _ ⟨?_,hi,s2.trans s3⟩⟩
   rw[zR hti,yK]
   rfl
  ·obtain⟨rfl,_,s2⟩:=h
   refine⟨D,ts.map zdD,rfl,Sl ?_,?_⟩
   ·rw[zc,xD (by lia),xN];rfl
   ·have:((ts.map zdD).all id)=zb3 (.tup ts):=by rw[vS];rfl
    rw[this]
    exact q _ (s2.trans (Sn hD))
theorem zcQ:FnScope ["thing"] ["thing"] (zi Z8):=mkSc rfl (by decide +kernel)
theorem zcR(F:Fun K "is_record_alone" "is_record_alone" Z8 f fd)(G_is_outcome:Have P w K mg base "is_outcome" k ["thing"] (spIsOut))(m_isi:mg "isinstance"=none)(m_len:mg "len"=none)(m_tuple:mg "tuple"=none):FnOk P w K mg base CX0 (k+1) f fd ["thing"] (spRecA):=by
 refine F.okQ zcQ (by rintro _ _ _ _ ⟨_,_,rfl,_⟩;rfl) fun _ _ _ _ H vs Q E hr h=>?_
 obtain⟨v,t,rfl,rt,hsm,hpre,q⟩:=h
 refine⟨_,(zd (zE (PW.pt (Z6 (ZA (zX (zj zP rfl m_isi zQ (za (pv 0) (za (ZP rfl m_tuple zC) zb))))) (ZF (zk zaz (zj zB rfl m_len tF (za (pv 0) zb)) ze (nomark _))))) (zf (zl Z5)) zq)
  (zf (zl (Zt (zo G_is_outcome hr rfl (za (zz zw (pv 0) ze (fun _ _=>rfl)) zb)) (ZG (zj zP rfl m_isi zQ (za (zz zw (pv 0) ze (fun _ _=>rfl)) (za (ZP rfl m_tuple zC) zb)))))))),nm2 ?_⟩
 intros
 have q0:∀b:Bool,recA t=b->Q (.bl b) H:=fun b e=>by rw[←e];exact q H (Sr H)
 have q1:∀(b:Bool)(H':Hp),Same H H'->recA t=b->Q (.bl b) H':=fun b H' s e=>by rw[←e];exact q H' s
 cases rt with
 |non=>exact⟨_,rfl,_,_,_,_,rfl,.non,zcA,_,rfl,iteT (q0 _ rfl)⟩
 |bl b=>exact⟨_,rfl,_,_,_,_,rfl,.bl b,zcz,_,rfl,iteT (q0 _ rfl)⟩
 |num i=>exact⟨_,rfl,_,_,_,_,rfl,.int i,zb1,_,rfl,iteT (q0 _ rfl)⟩
 |txt x=>exact⟨_,rfl,_,_,_,_,rfl,.str x,zb2,_,rfl,iteT (q0 _ rfl)⟩
 |lst e=>exact⟨_,rfl,_,_,_,_,rfl,.lst e,zcB,_,rfl,iteT (q0 _ rfl)⟩
 |dic e=>exact⟨_,rfl,_,_,_,_,rfl,.dK e,zcC,_,rfl,iteT (q0 _ rfl)⟩
 | @tup a vs ts e l at'=>
  refine⟨_,rfl,_,_,_,_,rfl,.tup e,zbt,_,rfl,iteF ⟨_,rfl,_,_,rfl,.inr ⟨_,Sq e,rfl⟩,rfl,_,rfl,?_⟩⟩
  rw[show (V.int 2)=V.int ((2:Nat):Int) from rfl,zkR]
  by_cases c:vs.length=2
  ·rw[decide_eq_true c]
   obtain⟨u0,u1,t0,t1,rfl,rfl,r0,r1⟩:=zkS (H:=H) (a:=a) l at' c
   have e0:recA (.tup [t0,t1])=(Zx t0&&zox t1):=rfl
   refine iteF ⟨_,rfl,a,_,0,u0,rfl,rfl,Sq e,rfl,u0,t0,rfl,r0,hsm.2.1,hpre _ _ rfl,fun H1 s1=>⟨_,rfl,?_⟩⟩
   refine ite2 (fun c1=>?_) (fun c1=>?_)
   ·have c1:Zx t0=true:=c1
    rw[c1,wT] at e0
    refine⟨_,rfl,a,_,1,u1,rfl,rfl,Sq (s1 _ _ e),rfl,?_⟩
    have r1:=r1.mono s1
    cases r1 with
    |non=>exact⟨_,_,_,_,rfl,.non,zcA,q1 _ _ s1 e0⟩
    |bl b=>exact⟨_,_,_,_,rfl,.bl b,zcz,q1 _ _ s1 e0⟩
    |num i=>exact⟨_,_,_,_,rfl,.int i,zb1,q1 _ _ s1 e0⟩
    |txt x=>exact⟨_,_,_,_,rfl,.str x,zb2,q1 _ _ s1 e0⟩
    |lst e'=>exact⟨_,_,_,_,rfl,.lst e',zcB,q1 _ _ s1 e0⟩
    |dic e'=>exact⟨_,_,_,_,rfl,.dK e',zcC,q1 _ _ s1 e0⟩
    |tup e' _ _=>exact⟨_,_,_,_,rfl,.tup e',zbt,q1 _ _ s1 e0⟩
   ·have c1:Zx t0=false:=xJ.mpr c1
    exact q1 _ H1 s1 (by rw[e0,c1,wI])
  ·rw[decide_eq_false c]
   exact iteT (q0 _ (zlY ts (by lia)))
theorem zbM:FnScope ["thing","waiting","record"] ["thing"] (zi zce):=mkSc rfl (by decide +kernel)
theorem zgZ(F:Fun K "is_record" "is_record" zce f fd)(G_is_record_alone:Have P w K mg base "is_record_alone" k ["thing"] (spRecA))(m_len:mg "len"=none):FnOk P w K mg base CX0 (k+1) f fd ["thing"] (spIsRec):=by
 refine F.okQ zbM (by rintro _ _ _ _ ⟨_,_,_,rfl,_⟩;rfl) fun _ _ _ _ H vs Q E hr h=>?_
 obtain⟨v,t,n,rfl,rt,sm,pre,hn,q⟩:=h
 refine⟨_,(zd (zm (i:=1) zbM.nd rfl (Or.inl rfl) (zF (za (pv 0) zb)))
  (zd (zaK tN (zk zcs (zj zB rfl m_len tF (za (pv 1) zb)) ze (nomark _)) (zd (zm (i:=2) zbM.nd rfl (Or.inl rfl) (zdj tO PySem.F.slot_list_pop PySem.F.type_list_pop zhP (pv 1)))
  (zd (zE (ZA (zX (zo G_is_record_alone hr rfl (za (pv 2) zb)))) (zf (zl Z5)) zq)
  (zf (Zm (ZZ tO PySem.F.slot_list_extend PySem.F.type_list_extend zhl (pv 1) (za (zz zw (pv 2) ze (fun _ _=>rfl)) zb)))))))
  (zf (zl Z5)))),nm3 ?_⟩
 intros
 refine⟨_,rfl,zl1,fun l hl=>?_⟩
 have s1:=Sn (o:=.lst [v]) hl
 refine⟨fun m σ' H'=>∃(o2:Option V)(us:List V)(ts:List T),σ'=[some v,some (.ref l),o2]/\H' l=some (.lst us)/\RTs H us ts/\PreEs m ts/\m<=n/\(∀t∈ts,t.Sm)/\((∀t∈ts,RecT t) ↔ RecT t)/\Same H H',
  ⟨n,none,[v],[t],rfl,zc,⟨rfl,fun i u x hu hx=>by
   cases i with
   |zero=>cases hu;cases hx;exact rt
   |succ i=>cases hu⟩,PreEs.cons (m:=0) rfl pre (.nil rfl),yO _,fun x hx=>by rw[yH.mp hx];exact sm,⟨fun h=>h t (by simp),fun h x hx=>by rw[yH.mp hx];exact h⟩,s1⟩,fun m σ' H' hW=>?_⟩
 obtain⟨o2,us,ts,rfl,el,rts,pre',hmn,hsm,hiff,sH⟩:=hW
 refine⟨_,rfl,_,_,rfl,.inl ⟨_,Sl el,rfl⟩,_,_,rfl,rfl,_,rfl,?_⟩
 refine ite2 (fun c=>?_) (fun c=>?_)
 rotate_left
 ·have hv0:us=[]:=by
   have:¬(0:Int)<us.length:=fun z=>c (decide_eq_true z)
   exact yR.mp (by lia)
  have hp0:ts=[]:=yR.mp (by rw[←rts.1,hv0];rfl)
  subst hp0
  exact q true _ sH (fun _=>hiff.mp fun t ht=>nomatch ht) (fun z=>nomatch z)
 have c1:(0:Int)<us.length:=of_decide_eq_true c
 refine⟨_,fun _ _ h=>h,?_⟩
 rcases wD us with rfl|⟨us',u,e⟩
 ·simp at c1
 rw[wE] at e
 subst e
 rcases wD ts with rfl|⟨ts',t1,e⟩
 ·have:=rts.1;simp at this
 rw[wE] at e
 subst e
 have hl':us'.length=ts'.length:=by have:=rts.1;simpa using this
 have rts':RTs H us' ts':=⟨hl',fun i a b ha hb=>rts.2 i a b (by rw[yP (yE.mp ha).1];exact ha) (by rw[yP (yE.mp hb).1];exact hb)⟩
 have r1:RT H u t1:=rts.2 us'.length u t1 (by simp) (by rw[hl'];simp)
 obtain⟨m1,m2,rfl,p1,p2⟩:=pre'.last
 have ed:(us'++[u]).dropLast=us':=vL
 refine⟨_,rfl,.inl ⟨rfl,_,Sl el⟩,l,_,u,rfl,rfl,el,by simp,?_⟩
 rw[ed]
 have sH1:Same H (upd H' l (.lst us')):=zaG sH hl
 have el1:upd H' l (.lst us') l=some (.lst us'):=zc
 generalize upd H' l (.lst us')=H1 at sH1 el1
 have hsm1:=hsm t1 (by simp)
 dsimp only[zW]
 refine⟨_,rfl,u,t1,rfl,r1.mono sH1,hsm1,(fun o q' e=>by
  cases p2 with
  |no _ _ h=>exact h o q' e
  |mk _ h _=>cases e;exact h),fun H2 s2=>⟨_,rfl,?_⟩⟩
 cases hr:recA t1 with
 |false=>
  refine iteT (q false _ (sH1.trans s2) (fun z=>nomatch z) fun _ z=>?_)
  have:=zoy (hiff.mpr z t1 (by simp))
  rw[hr] at this
  cases this
 |true=>
  obtain⟨o,ps,rfl,ho⟩:=zlZ hr
  refine iteF ?_
  have hl2:=s2 _ _ el1
  have s12:=sH1.trans s2
  cases r1 with
  | @tup a vs _ ea la at'=>
   obtain⟨u0,u1,t0,t1,rfl,e0,r0,r1'⟩:=zkS (H:=H) (a:=a) la at' la
   cases e0
   cases r1' with
   | @tup a1 ws _ ea1 la1 at1=>
    cases p2 with
    |no _ h _=>rw[h o ps rfl] at ho;cases ho
    | @mk _ m3 _ _ e3 _ hp3=>
    have h1:=p1.len
    have h3:=hp3.len
    refine⟨_,rfl,.inl ⟨rfl,_,Sl hl2⟩,_,rfl,a,_,1,_,rfl,rfl,Sq (s12 _ _ ea),rfl,l,a1,us',ws,rfl,rfl,hl2,Sq (s12 _ _ ea1),small (by lia),?_⟩
    refine⟨m1+m3,by lia,_,us'++ws,ts'++ps,rfl,zc,?_,p1.app hp3,by lia,fun t ht=>?_,?_,zaG (sH1.trans s2) hl⟩
    ·exact⟨by rw[yC,yC,hl',la1],fun i x y hx hy=>by
      by_cases hi:i<us'.length
      ·rw[yP hi] at hx
       rw[yP (by lia)] at hy
       exact rts'.2 i x y hx hy
      ·rw[yL (by lia)] at hx hy
       rw[←hl'] at hy
       exact at1 _ x y hx hy⟩
    ·rcases yU.mp ht with ht|ht
     ·exact hsm t (by simp[ht])
     ·exact Sms.mem hsm1.2.2.1.2 t ht
    ·rw[←hiff]
     refine⟨fun h t ht=>?_,fun h t ht=>?_⟩
     ·rcases yU.mp ht with ht|ht
      ·exact h t (by simp[ht])
      ·rw[yH.mp ht]
       exact .mk ho fun p hp=>h p (by simp[hp])
     ·rcases yU.mp ht with ht|ht
      ·exact h t (by simp[ht])
      ·have:=h (.tup [o,.tup ps]) (by simp)
       cases this with
       |mk _ h2=>exact h2 t ht
theorem zf6:FnScope ["thing"] ["thing"] (zi zbw):=mkSc rfl (by decide +kernel)
theorem zf7(F:Fun K "may_be_run" "may_be_run" zbw f fd)(G_are_looks:Have P w K mg base "are_looks" k ["thing"] (spAreLooks))(G_is_rule:Have P w K mg base "is_rule" k ["thing"] (spIsRule))(m_isi:mg "isinstance"=none)(m_len:mg "len"=none)(m_tuple:mg "tuple"=none):FnOk P w K mg base CX0 (k+1) f fd ["thing"] (spMayRun):=by
 refine F.okQ zf6 (by rintro _ _ _ _ ⟨_,_,rfl,_⟩;rfl) fun _ _ _ _ H vs Q E hr h=>?_
 obtain⟨v,t,rfl,rt,hsm,hpre,q⟩:=h
 refine⟨_,(zd (zE (PW.pt (Z6 (ZA (zX (zj zP rfl m_isi zQ (za (pv 0) (za (ZP rfl m_tuple zC) zb))))) (ZF (zk zaz (zj zB rfl m_len tF (za (pv 0) zb)) ze (nomark _))))) (zf (zl Z5)) zq)
  (zf (zl (Zt (zo G_is_rule hr rfl (za (zz zw (pv 0) ze (fun _ _=>rfl)) zb)) (ZG (zo G_are_looks hr rfl (za (zz zw (pv 0) ze (fun _ _=>rfl)) zb))))))),nm2 ?_⟩
 intros
 have no:(∀r ls e,t≠.tup [r,ls,e])->∀H',Same H H'->Q (.bl false) H':=fun h H' s=>q false H' s (fun z=>nomatch z) fun _ ⟨r,ls,e,a,_⟩=>h r ls e a
 have n0:=fun h=>no h H (Sr H)
 cases rt with
 |non=>exact⟨_,rfl,_,_,_,_,rfl,.non,zcA,_,rfl,iteT (n0 fun _ _ _ h=>nomatch h)⟩
 |bl b=>exact⟨_,rfl,_,_,_,_,rfl,.bl b,zcz,_,rfl,iteT (n0 fun _ _ _ h=>nomatch h)⟩
 |num i=>exact⟨_,rfl,_,_,_,_,rfl,.int i,zb1,_,rfl,iteT (n0 fun _ _ _ h=>nomatch h)⟩
 |txt x=>exact⟨_,rfl,_,_,_,_,rfl,.str x,zb2,_,rfl,iteT (n0 fun _ _ _ h=>nomatch h)⟩
 |lst e=>exact⟨_,rfl,_,_,_,_,rfl,.lst e,zcB,_,rfl,iteT (n0 fun _ _ _ h=>nomatch h)⟩
 |dic e=>exact⟨_,rfl,_,_,_,_,rfl,.dK e,zcC,_,rfl,iteT (n0 fun _ _ _ h=>nomatch h)⟩
 | @tup a vs ts e l at'=>
  refine⟨_,rfl,_,_,_,_,rfl,.tup e,zbt,_,rfl,iteF ⟨_,rfl,_,_,rfl,.inr ⟨_,Sq e,rfl⟩,rfl,_,rfl,?_⟩⟩
  rw[show (V.int 3)=V.int ((3:Nat):Int) from rfl,zkR]
  by_cases c:vs.length=3
  ·rw[decide_eq_true c]
   obtain⟨u0,u1,u2,rfl⟩:=len3 c
   obtain⟨t0,t1,t2,rfl⟩:=len3 (l.symm.trans c)
   obtain⟨pl,_⟩:=hpre t0 t1 t2 rfl
   refine iteF ⟨_,rfl,a,_,0,u0,rfl,rfl,Sq e,rfl,u0,t0,rfl,at' 0 u0 t0 rfl rfl,hsm.2.1,fun b H1 s1 hT hF=>⟨_,rfl,?_⟩⟩
   cases b with
   |false=>exact iteF (q false _ s1 (fun z=>nomatch z) fun _ ⟨r,ls,e,h,h2,_⟩=>by cases h;exact hF rfl h2)
   |true=>
    refine iteT ⟨_,rfl,a,_,1,u1,rfl,rfl,Sq (s1 _ _ e),rfl,u1,t1,rfl,(at' 1 u1 t1 rfl rfl).mono s1,hsm.2.2.1,pl,fun H2 s2=>?_⟩
    exact q _ _ (s1.trans s2) (fun h=>⟨t0,t1,t2,rfl,hT rfl,h⟩) fun h ⟨r,ls,e,h1,_,h2⟩=>by cases h1;rw[h] at h2;cases h2
  ·rw[decide_eq_false c]
   exact iteT (n0 fun _ _ _ h=>by cases h;exact c l)
theorem zhC:FnScope ["thing"] ["thing"] (zi zcY):=mkSc rfl (by decide +kernel)
theorem zhD(F:Fun K "is_paper" "is_paper" zcY f fd)(G_is_record:Have P w K mg base "is_record" k ["thing"] (spIsRec))(G_may_be_run:Have P w K mg base "may_be_run" k ["thing"] (spMayRun)):FnOk P w K mg base CX0 (k+1) f fd ["thing"] (spIsPaper):=by
 refine F.okQ zhC (by rintro _ _ _ _ ⟨_,_,rfl,_⟩;rfl) fun _ _ _ _ H vs Q E hr h=>?_
 obtain⟨v,t,rfl,rt,hsm,hpre,q⟩:=h
 refine⟨_,(zf (zl (Zt (zo G_may_be_run hr rfl (za (pv 0) zb)) (ZG (zo G_is_record hr rfl (za (zz zw (pv 0) ze (fun _ _=>rfl)) zb)))))),?_⟩
 refine⟨_,rfl,v,t,rfl,rt,hsm,hpre,fun b H1 s1 hT hF=>⟨_,rfl,?_⟩⟩
 cases b with
 |false=>exact iteF (q false _ s1 (fun z=>nomatch z) fun _ ⟨r,ls,e,a,b,c,_⟩=>hF rfl ⟨r,ls,e,a,b,c⟩)
 |true=>
  obtain⟨r,ls,e,rfl,h1,h2⟩:=hT rfl
  obtain⟨_,n,pe,hn⟩:=hpre r ls e rfl
  cases rt with
  | @tup a vs _ ea l at'=>
   obtain⟨u0,u1,u2,rfl⟩:=len3 l
   refine iteT ⟨_,rfl,a,_,2,u2,rfl,rfl,Sq (s1 _ _ ea),rfl,u2,e,n,rfl,(at' 2 u2 e rfl rfl).mono s1,hsm.2.2.2.1,pe,hn,fun b H2 s2 hT hF=>?_⟩
   exact q b _ (s1.trans s2) (fun h=>⟨r,ls,e,rfl,h1,h2,hT h⟩) fun h ⟨r',ls',e',a,_,_,c⟩=>by cases a;exact hF h c
end D
namespace L2
open PySem PySem.Spec PyProof.Rows
theorem zl5{K:tU}{fr:List Nat}{tt:TT}{te:TE}{σ:St}{H:Hp}{F:Addr->Hp->List V->Prop}{a:Addr}{vs:List V}(Pv:Nat->List V->Hp->Prop)(hz:vs.length<=tH)(h0:Pv 0 [] H)(hlen:∀i us H1,Pv i us H1->us.length<=i)(hS:∀i us H1,Pv i us H1->SqL K H1 a vs)
  (step:∀(i:Nat)(v:V)(us:List V)(H1:Hp)(R:VK)(R':Hp->Prop),vs[i]?=some v->Pv i us H1->(∀y H2,Pv (i+1) (us++[y]) H2->R y H2)->(∀H2,Pv (i+1) us H2->R' H2)->tt (some v::frees fr σ) H1 fun b H2=>if b=true then te (some v::frees fr σ) H2 R else R' H2)
  (fin:∀(us:List V)(H1:Hp)(D:Addr),Pv vs.length us H1->H1 D=none->F D H1 us):
  ∃W:Nat->Nat->List V->Hp->Prop,(∃m,W 0 m [] H)/\∀i m vs H,W i m vs H->vs.length<=tH /\
   (((Itl K a).stop i H/\∀D,H D=none->F D H vs) \/
    ((Itl K a).go i H/\∀v H',(Itl K a).yld i H v H'->tt (some v::frees fr σ) H' fun b H2=>if b=true then te (some v::frees fr σ) H2 fun y H3=>∃m',m'<m/\W (i+1) m' (vs++[y]) H3 else ∃m',m'<m/\W (i+1) m' vs H2)):=by
 refine⟨fun i m us H1=>i<=vs.length/\m=vs.length-i/\Pv i us H1,⟨_,yS _,rfl,h0⟩,fun i m us H1 hW=>?_⟩
 obtain⟨hi,hm,hu⟩:=hW
 have sq:=hS _ _ _ hu
 refine⟨by have:=hlen _ _ _ hu;lia,?_⟩
 by_cases hlt:i<vs.length
 ·refine .inr ⟨⟨vs,vs[i],sq,yB hlt⟩,fun v H' hy=>?_⟩
  obtain⟨rfl,hy⟩:=hy
  exact step i v us _ _ _ (hy vs sq) hu (fun y H2 p2=>⟨vs.length-(i+1),by lia,by lia,rfl,p2⟩) fun H2 p2=>⟨vs.length-(i+1),by lia,by lia,rfl,p2⟩
 ·have e:i=vs.length:=by lia
  subst e
  exact .inl ⟨⟨vs,sq,yO _⟩,fun D hD=>fin us H1 D hu hD⟩
end L2
namespace D
open PySem L2
structure Sf(K:tU)(AL AS:Addr):Prop where
 clL:Cls K AL
 nRow:zcu K AL "row"
 nRight:zcu K AL "right"
 clS:Cls K AS
 nLaid:zcu K AS "laid"
def fL(v:V):List (Str×V):=putF "right" .non (putF "row" v [])
theorem zoz(v:V):(fL v).lookup ("row":Str)=some v:=by
 unfold fL
 rw[Z7,if_neg (by decide +kernel),Z7,if_pos rfl]
def fS(l:Addr):List (Str×V):=putF "laid" (.ref l) []
theorem zkT(l:Addr):(fS l).lookup ("laid":Str)=some (.ref l):=by
 unfold fS
 rw[Z7,if_pos rfl]
theorem zhE(l:Addr){m:Str}(h:¬m="laid"):(fS l).lookup m=none:=by
 unfold fS
 rw[Z7,if_neg h]
 rfl
mutual
noncomputable def noL:T->Bool
 |.tup ts=>noLs ts
 |.lst=>false
 |.dic=>false
 |_=>true
noncomputable def noLs:List T->Bool
 |[]=>true
 |t::r=>noL t&&noLs r
end
mutual
theorem zkU:∀w:W,noL w.toT=true
 |.num _=>by simp only[W.toT,noL]
 |.txt _=>by simp only[W.toT,noL]
 |.lst ws=>by rw[W.toT,noL];exact noL_Ws ws
theorem noL_Ws:∀ws:List W,noLs (toTs ws)=true
 |[]=>by rw[toTs,noLs]
 |w::r=>by rw[toTs,noLs,zkU w,noL_Ws r];rfl
end
theorem zio:∀{ts:List T},noLs ts=true->∀t∈ts,noL t=true
 |t::r,h,x,hx=>by
  rw[noLs,yZ] at h
  rcases yG.mp hx with rfl|hx
  ·exact h.1
  ·exact zio h.2 x hx
theorem RT.tups{H H':Hp}(s:Tups H H'){v:V}{t:T}(h:RT H v t):noL t=true->RT H' v t:=by
 induction h with
 |non=>intro _;exact .non
 |bl b=>intro _;exact .bl b
 |num i=>intro _;exact .num i
 |txt x=>intro _;exact .txt x
 | @tup a vs ts e l _ ih=>
  intro hn
  rw[noL] at hn
  exact .tup (s _ _ e) l fun i v t hv ht=>ih i v t hv ht (zio hn t (xB ht))
 |lst e=>intro hn;rw[noL] at hn;cases hn
 |dic e=>intro hn;rw[noL] at hn;cases hn
structure GP(p:Pa):Prop where
 g:GdP p
 r:Rule p.r
 rm:p.r.many<=2
 em:p.e.many<=2
 ll:p.ls.length<=2
def Rv(H:Hp)(v:V):Option Pa->Prop
 |some p=>RW H v p.toW/\GP p
 |none=>∃t,RT H v t/\t.Sm/\noL t=true/\PreP t/\¬zgW t
abbrev Ro:=Str×Option Pa
def RowR(H:Hp)(v:V)(r:Ro):Prop:=∃a u,v=.ref a/\H a=some (.tup [.str r.1,u])/\(W.txt r.1).Ok/\Rv H u r.2
theorem Rv.tups{H H':Hp}(s:Tups H H'){v:V}:∀{o:Option Pa},Rv H v o->Rv H' v o
 |some p,h=>⟨h.1.mono s,h.2⟩
 |none,⟨t,r,a,b,c⟩=>⟨t,r.tups s b,a,b,c⟩
theorem RowR.tups{H H':Hp}(s:Tups H H'){v:V}{r:Ro}(h:RowR H v r):RowR H' v r:=by
 obtain⟨a,u,rfl,e,ok,h⟩:=h
 exact⟨a,u,rfl,s _ _ e,ok,h.tups s⟩
abbrev Zs:=List (Addr×Addr×V)
structure ShAt(AL AS:Addr)(H:Hp)(p l:Addr)(rs:List Ro):Prop where
 ob:∃dx,H p=some (.ins AS dx (fS l))
 li:∃zs:Zs,H l=some (.lst (zs.map fun z=>.ref z.1))/\zs.length=rs.length/\∀(i:Nat)(z:Addr×Addr×V)(r:Ro),zs[i]?=some z->rs[i]?=some r->H z.1=some (.ins AL z.2.1 (fL z.2.2))/\RowR H z.2.2 r
theorem ShAt.keep{AL AS:Addr}{H H':Hp}{p l:Addr}{rs:List Ro}(h:ShAt AL AS H p l rs)(kl:∀o,H l=some o->H' l=some o)(k:∀c o,(∀xs,o≠.lst xs)->H c=some o->H' c=some o):ShAt AL AS H' p l rs:=by
 obtain⟨⟨dx,e⟩,zs,e2,l2,at2⟩:=h
 refine⟨⟨dx,k _ _ (fun _ z=>nomatch z) e⟩,zs,kl _ e2,l2,fun i z d h1 h2=>?_⟩
 obtain⟨g1,g2⟩:=at2 i z d h1 h2
 exact⟨k _ _ (fun _ z=>nomatch z) g1,g2.tups fun a vs q=>k _ _ (fun _ z=>nomatch z) q⟩
theorem ShAt.same{AL AS:Addr}{H H':Hp}{p l:Addr}{rs:List Ro}(h:ShAt AL AS H p l rs)(s:Same H H'):ShAt AL AS H' p l rs:=h.keep (fun o e=>s _ _ e) (fun c o _ e=>s _ _ e)
inductive spLaidI(AL:Addr)(vs:List V)(H:Hp)(Q:VK)(z3:XK):Prop
 |mk (p dx:Addr) (u v:V) (_:vs=[.ref p,u,v]) (_:H p=some (.ins AL dx [])) (_:∀t,H t=none->Q .non (upd (upd H t (.tup [u,v])) p (.ins AL dx (fL (.ref t)))))
inductive spShelfI(AS:Addr)(vs:List V)(H:Hp)(Q:VK)(z3:XK):Prop
 |mk (p dx:Addr) (_:vs=[.ref p]) (_:H p=some (.ins AS dx [])) (_:∀l,H l=none->Q .non (upd (upd H l (.lst [])) p (.ins AS dx (fS l))))
inductive spLay(AL AS:Addr)(vs:List V)(H:Hp)(Q:VK)(z3:XK):Prop
 |mk (p l:Addr) (z:Str) (v:V) (rs:List Ro) (o:Option Pa) (_:vs=[.ref p,.str z,v]) (_:ShAt AL AS H p l rs) (_:(W.txt z).Ok) (_:Rv H v o) (_:rs.length<1000) (_:∀H',ShAt AL AS H' p l (rs++[(z,o)])->(∀c u,c≠l->H c=some u->H' c=some u)->Q .non H')
inductive spLying(AL AS:Addr)(vs:List V)(H:Hp)(Q:VK)(z3:XK):Prop
 |mk (p l:Addr) (rs:List Ro) (_:vs=[.ref p]) (_:ShAt AL AS H p l rs) (_:rs.length<=1000) (_:∀(q:Addr)(rvs:List V)(H':Hp),H q=none->Same H H'->H' q=some (.lst rvs)->rvs.length=rs.length->(∀(i:Nat)(v:V)(r:Ro),rvs[i]?=some v->rs[i]?=some r->RowR H' v r)->Q (.ref q) H')
def zeU(z:Str)(p:Pa):Tr:=.lst [nmT "lay",trW numC (.txt z),trP p]
inductive spShowRow(vs:List V)(H:Hp)(Q:VK)(z3:XK):Prop
 |mk (v:V) (z:Str) (p:Pa) (_:vs=[v]) (_:RowR H v (z,some p)) (_:∀(x:Str)(H':Hp),x.cps.toList=shT (zeU z p)->Same H H'->Q (.str x) H')
noncomputable def goods(rs:List Ro):List (Str×Pa):=rs.filterMap fun r=>r.2.map fun p=>(r.1,p)
noncomputable def shJ:List (List Nat)->List Nat
 |[]=>[]
 |[x]=>x
 |x::y::r=>x++10::shJ (y::r)
def zeH(gs:List (Str×Pa)):List Nat:=shJ (gs.map fun g=>shT (zeU g.1 g.2))
inductive spShowShelf(AL AS:Addr)(vs:List V)(H:Hp)(Q:VK)(z3:XK):Prop
 |mk (p l:Addr) (rs:List Ro) (_:vs=[.ref p]) (_:ShAt AL AS H p l rs) (_:rs.length<=10) (_:∀(x:Str)(H':Hp),x.cps.toList=zeH (goods rs)->Same H H'->Q (.str x) H')
theorem zkV(ys:List Str):(Txt.join (uV "\n") ys).cps.toList=shJ (ys.map fun y=>y.cps.toList):=by
 have fold:∀(r:List Str)(acc:Array Nat),(r.foldl (fun acc p=>acc++(uV "\n").cps++p.cps) acc).toList=acc.toList++(r.map fun y=>10::y.cps.toList).flatten:=fun r=>by
  induction r with
  |nil=>intro acc;simp
  |cons c r ih=>
   intro acc
   rw[wN,ih]
   have e0:(uV "\n").cps.toList=[10]:=by decide +kernel
   simp[e0]
 cases ys with
 |nil=>rfl
 |cons y r=>
  show (r.foldl (fun acc p=>acc++(uV "\n").cps++p.cps) y.cps).toList=_
  rw[fold]
  have gen:∀(r:List Str)(x:List Nat),x++(r.map fun y=>10::y.cps.toList).flatten=shJ (x::r.map fun y=>y.cps.toList):=fun r=>by
   induction r with
   |nil=>intro x;simp[shJ]
   |cons z r ih=>intro x;rw[yJ,xZ,yJ,shJ,←ih];simp
  exact gen r y.cps.toList
theorem zcS{z:Str}{p:Pa}(ok:(W.txt z).Ok)(g:GP p):(shT (zeU z p)).length<=765000:=by
 have w1:=zaO (Z2 ok)
 have w2:=zhB g.g g.rm g.em g.ll
 have w3:=zbI [nmT "lay",trW numC (.txt z),trP p]
 have l3:((uV "lay").cps.toList).length=3:=by decide +kernel
 rw[zG,zG,zG,nmT,shT,l3] at w3
 have w0:wid ([]:List Tr)=0:=rfl
 rw[w0] at w3
 show (shT (.lst [nmT "lay",trW numC (.txt z),trP p])).length<=_
 have e6:nmT "lay"=Tr.word (uV "lay").cps.toList:=rfl
 rw[e6]
 lia
theorem zmy{z x y:Str}{p:Pa}(hx:x.cps.toList=shW numC (.txt z))(hy:y.cps.toList=shT (trP p)):(uV "(lay "++x++uV " "++y++uV ")").cps.toList=shT (zeU z p):=by
 rw[zT,zT,zT,zT,hx,hy,←zbd]
 have e1:(uV "(lay ").cps.toList=40::((uV "lay").cps.toList++[32]):=by decide +kernel
 have e2:(uV " ").cps.toList=[32]:=by decide +kernel
 have e3:(uV ")").cps.toList=[41]:=by decide +kernel
 rw[e1,e2,e3]
 show _=shT (.lst [nmT "lay",trW numC (.txt z),trP p])
 rw[shT,shTs,shTs,shTs,nmT,shT]
 simp
theorem zoA{te:TE}{g:TG}{t:TS}{D:Ends}{σ:St}{H:Hp}(h:te σ H (fun v H'=>g v σ H' (fun σ' H''=>t D σ' H''))):tSeq (tAsg te g) t D σ H:=h
theorem pa_T{p:Pa}:p.toW.toT=.tup [p.r.toW.toT,.tup (toTs (p.ls.map lkW)),p.e.toW.toT]:=by
 simp only[Pa.toW,W.toT,toTs]
theorem lk_T(l:Lk):(lkW l).toT=.tup [.txt l.1,l.2.toW.toT]:=by simp only[lkW,W.toT,toTs]
theorem zny{l:Lk}(g:GdL l):zdD (lkW l).toT=true/\preL (lkW l).toT:=by
 obtain⟨h1,h2,_⟩:=zbi g.2
 rw[lk_T]
 refine⟨?_,h2⟩
 show (zI (.txt l.1)&&Zx l.2.toW.toT)=true
 have:=(zes (Z2 g.1)).1
 rw[zf1] at this
 rw[this,h1]
 rfl
mutual
theorem zhF:∀e:Re,GdE e->RecT e.toW.toT/\PreE e.many e.toW.toT
 |.mk o ps,g=>by
  rw[GdE] at g
  obtain⟨h1,h2,_⟩:=zbi g.1
  obtain⟨h3,h4⟩:=res_good ps g.2
  have e:(Re.mk o ps).toW.toT=.tup [o.toW.toT,.tup (toTs (reWs ps))]:=by rw[Re.toW];simp only[W.toT,toTs]
  rw[e,Re.many]
  exact⟨.mk h1 h3,.mk (Nat.add_comm _ _) h2 h4⟩
theorem res_good:∀ps:List Re,GdEs ps->(∀t∈toTs (reWs ps),RecT t)/\PreEs (reManys ps) (toTs (reWs ps))
 |[],_=>by rw[reWs,toTs,reManys];exact⟨fun t h=>(nomatch h),.nil rfl⟩
 |p::r,g=>by
  rw[GdEs] at g
  obtain⟨h1,h2⟩:=zhF p g.1
  obtain⟨h3,h4⟩:=res_good r g.2
  rw[reWs,toTs,reManys]
  refine⟨fun t h=>?_,.cons rfl h2 h4⟩
  rcases yG.mp h with rfl|h
  ·exact h1
  ·exact h3 t h
end
theorem ziq{p:Pa}(g:GdP p):(∀xs,T.tup (toTs (p.ls.map lkW))=.tup xs->∀l∈xs,preL l)/\zb3 (.tup (toTs (p.ls.map lkW)))=true:=by
 have h:∀t∈toTs (p.ls.map lkW),zdD t=true/\preL t:=fun t ht=>by
  rw[zas] at ht
  obtain⟨w,hw,rfl⟩:=yX.mp ht
  obtain⟨l,hl,rfl⟩:=yX.mp hw
  exact zny (g.l l hl)
 refine⟨fun xs e l hl=>?_,xY.mpr fun t ht=>(h t ht).1⟩
 cases e
 exact (h l hl).2
theorem znz{p:Pa}(g:GdP p)(r:Rule p.r):zgW p.toW.toT/\PreP p.toW.toT:=by
 obtain⟨h1,h2⟩:=zhF p.e g.e
 obtain⟨h3,h4⟩:=ziq g
 rw[pa_T]
 refine⟨⟨_,_,_,rfl,⟨p.r,rfl,r⟩,h4,h1⟩,fun r ls e h=>?_⟩
 cases h
 exact⟨h3,_,h2,by have:=g.em;lia⟩
theorem zhG:∀{xs:List Str},(∀x∈xs,x.length<=765000)->(xs.map (·.length)).sum<=765000*xs.length
 |[],_=>yO _
 |x::r,h=>by
  have h1:=h x yV
  have h2:=zhG fun y hy=>h y (yM _ hy)
  rw[yJ,wH,yF]
  lia
mutual
theorem zoB:∀e:Re,GdE e->e.many<=1000->e.toW.toT.Sm
 |.mk o ps,g,hm=>by
  rw[GdE] at g
  rw[Re.many] at hm
  have e:(Re.mk o ps).toW.toT=.tup [o.toW.toT,.tup (toTs (reWs ps))]:=by rw[Re.toW];simp only[W.toT,toTs]
  rw[e]
  refine⟨by show 2<=100000;decide,(zbi g.1).2.2,⟨?_,res_sm ps g.2 (by lia)⟩,trivial⟩
  rw[zas,yA,Z3,yA]
  have:=zeu ps
  lia
theorem res_sm:∀ps:List Re,GdEs ps->reManys ps<=1000->Sms (toTs (reWs ps))
 |[],_,_=>by rw[reWs,toTs];trivial
 |p::r,g,hm=>by
  rw[GdEs] at g
  rw[reManys] at hm
  rw[reWs,toTs]
  exact⟨zoB p g.1 (by lia),res_sm r g.2 (by lia)⟩
end
theorem zkW:∀{ts:List T},(∀t∈ts,t.Sm)->Sms ts
 |[],_=>trivial
 |t::r,h=>⟨h t yV,zkW fun x hx=>h x (yM _ hx)⟩
theorem zoC{p:Pa}(g:GdP p):p.toW.toT.Sm:=by
 rw[pa_T]
 refine⟨by show 3<=100000;decide,znj g.r,⟨?_,?_⟩,zoB p.e g.e (by have:=g.em;lia),trivial⟩
 ·rw[zas,yA,yA]
  have:=g.ll
  lia
 ·refine zkW fun t ht=>?_
  rw[zas] at ht
  obtain⟨w,hw,rfl⟩:=yX.mp ht
  obtain⟨l,hl,rfl⟩:=yX.mp hw
  rw[lk_T]
  have:=(zes (Z2 (g.l l hl).1)).2
  rw[zf1] at this
  exact⟨by show 2<=100000;decide,this,(zbi (g.l l hl).2).2.2,trivial⟩
theorem zdE:FnScope ["self","who","paper"] ["self","who","paper"] (zi Zw):=mkSc rfl (by decide +kernel)
theorem zdF(F:Fun K "__init__" "Laid.__init__" Zw f fd)(X:Sf K ALaid AShelf):FnOk P w K mg base CX0 (k+1) f fd ["self","who","paper"] (spLaidI ALaid):=by
 refine F.okQ zdE (by rintro _ _ _ _ ⟨_,_,_,_,rfl,_⟩;rfl) fun _ _ _ _ H vs Q E hr h=>?_
 obtain⟨p,dx,u,v,rfl,hp,q⟩:=h
 refine⟨_,(zd (zgk (pv 0) (zy (za (pv 1) (za (pv 2) zb))) rfl)
  (zf (zgk (pv 0) zgd rfl))),nm2 ?_⟩
 intros
 refine⟨_,rfl,_,rfl,zl2,fun t ht=>?_⟩
 have npt:p≠t:=zn hp ht
 refine⟨_,rfl,p,ALaid,dx,[],rfl,(by rw[zA npt];exact hp),X.clL,X.nRow,(by show 0<1000;decide),_,rfl,p,ALaid,dx,_,rfl,zc,X.clL,X.nRight,(by show 1<1000;decide),?_⟩
 have:=q t ht
 rw[zmC]
 exact this
theorem zdd:FnScope ["self"] ["self"] (zi Zp):=mkSc rfl (by decide +kernel)
theorem zde(F:Fun K "__init__" "Shelf.__init__" Zp f fd)(X:Sf K ALaid AShelf):FnOk P w K mg base CX0 (k+1) f fd ["self"] (spShelfI AShelf):=by
 refine F.okQ zdd (by rintro _ _ _ _ ⟨_,_,rfl,_⟩;rfl) fun _ _ _ _ H vs Q E hr h=>?_
 obtain⟨p,dx,rfl,hp,q⟩:=h
 refine⟨_,(zf (zgk (pv 0) (zF zb) rfl)),?_⟩
 refine⟨zl0,fun l hl=>?_⟩
 have npl:p≠l:=zn hp hl
 exact⟨_,rfl,p,AShelf,dx,[],rfl,(by rw[zA npl];exact hp),X.clS,X.nLaid,(by show 0<1000;decide),q l hl⟩
theorem zg0:FnScope ["self","who","paper"] ["self","who","paper"] (zi zaa):=mkSc rfl (by decide +kernel)
theorem zg1(F:Fun K "lay" "Shelf.lay" zaa f fd)(G_Laid___init__:zcl P w K mg base ALaid "Laid" k ["self","who","paper"] (spLaidI ALaid))(X:Sf K ALaid AShelf):FnOk P w K mg base CX0 (k+1) f fd ["self","who","paper"] (spLay ALaid AShelf):=by
 refine F.okQ zg0 (by rintro _ _ _ _ ⟨_,_,_,_,_,_,rfl,_⟩;rfl) fun _ _ _ _ H vs Q E hr h=>?_
 obtain⟨p,l,z,v,rs,o,rfl,S,ok,ro,hl,q⟩:=h
 obtain⟨⟨dx,hp⟩,zs,el,ll,at1⟩:=id S
 refine⟨_,(zf (Zm (ZZ tO tQ tP ZC (zgj (pv 0) rfl) (za (zj0 G_Laid___init__ hr rfl (za (pv 1) (za (pv 2) zb))) zb)))),?_⟩
 refine⟨_,rfl,p,AShelf,dx,_,_,rfl,hp,X.clS,X.nLaid,zkT _,.inl ⟨rfl,_,Sl el⟩,_,rfl,_,rfl,fun x dy nx ndy nxy=>⟨x,dy,.str z,v,rfl,zc,fun t ht=>⟨rfl,?_⟩⟩⟩
 have s1:Same H (upd (upd H dy (.own x)) x (.ins ALaid dy [])):=fun c o e=>by
  rw[zA (zn e nx),zA (zn e ndy)]
  exact e
 have ht':t≠x:=by
  intro z
  rw[z,zc] at ht
  cases ht
 have s2:Same H (upd (upd (upd (upd H dy (.own x)) x (.ins ALaid dy [])) t (.tup [.str z,v])) x (.ins ALaid dy (fL (.ref t)))):=fun c o e=>by
  rw[zA (zn e nx),zA (zn (s1 _ _ e) ht)]
  exact s1 _ _ e
 generalize hH2:upd (upd (upd (upd H dy (.own x)) x (.ins ALaid dy [])) t (.tup [.str z,v])) x (.ins ALaid dy (fL (.ref t)))=H2 at s2
 have gx:H2 x=some (.ins ALaid dy (fL (.ref t))):=by rw[←hH2,zc]
 have gt:H2 t=some (.tup [.str z,v]):=by rw[←hH2,zA ht',zc]
 refine⟨l,_,_,rfl,rfl,s2 _ _ el,zgs (by rw[yA];lia),?_⟩
 have nl:∀{c:Addr}{o:HO},H2 c=some o->(∀xs,o≠.lst xs)->c≠l:=fun {c o} e n z=>by
  rw[z,s2 _ _ el] at e
  exact n _ (Option.some.inj e).symm
 have kp:∀c o,c≠l->H2 c=some o->upd H2 l (.lst ((zs.map fun z=>V.ref z.1)++[.ref x])) c=some o:=fun c o n e=>by rw[zA n];exact e
 have tps:Tups H2 (upd H2 l (.lst ((zs.map fun z=>V.ref z.1)++[.ref x]))):=fun c vs e=>kp c _ (nl e (fun xs z=>by cases z)) e
 refine q _ ⟨⟨dx,kp _ _ (nl (s2 _ _ hp) (fun xs z=>by cases z)) (s2 _ _ hp)⟩,zs++[(x,dy,.ref t)],by rw[zc,yK];rfl,by simp[ll],fun i y d h1 h2=>?_⟩ (fun c o n e=>kp c o n (s2 c o e))
 rcases zeG h1 with⟨hi,h1⟩|⟨hi,rfl⟩
 ·rw[yP (by lia)] at h2
  obtain⟨g1,g2⟩:=at1 i y d h1 h2
  exact⟨kp _ _ (nl (s2 _ _ g1) (fun xs z=>by cases z)) (s2 _ _ g1),(g2.tups (zh s2)).tups tps⟩
 ·rcases zeG h2 with⟨hi2,_⟩|⟨_,rfl⟩
  ·lia
  ·exact⟨kp _ _ (nl gx (fun xs z=>by cases z)) gx,t,v,rfl,tps _ _ gt,ok,(ro.tups (zh s2)).tups tps⟩
theorem zeV:FnScope ["self"] ["self"] (zi ZK):=mkSc rfl (by decide +kernel)
theorem zeW(F:Fun K "lying" "Shelf.lying" ZK f fd)(X:Sf K ALaid AShelf):FnOk P w K mg base CX0 (k+1) f fd ["self"] (spLying ALaid AShelf):=by
 refine F.okQ zeV (by rintro _ _ _ _ ⟨_,_,_,rfl,_⟩;rfl) fun _ _ _ _ H vs Q E hr h=>?_
 obtain⟨p,l,rs,rfl,S,hl,q⟩:=h
 obtain⟨⟨dx,hp⟩,zs,el,ll,at1⟩:=id S
 refine⟨_,(zf (zl (zN [] [] rfl rfl (by decide +kernel) rfl (by decide +kernel) rfl (by decide +kernel) trivial rfl trivial (ZX (zgj (pv 0) rfl)) (fun C s H fp=>⟨zM,(zm5 (K:=K) rfl (pv 0) rfl)⟩)))),?_⟩
 refine⟨_,rfl,p,AShelf,dx,_,_,rfl,hp,X.clS,X.nLaid,zkT _,l,rfl,⟨_,Sl el⟩,?_⟩
 refine zh0 (K:=K) (zs.map fun z=>z.2.2) (Sl el) (by simp) (by rw[yA];exact wO (zgs (by lia))) (fun i v y H1 R hv hy sm r=>?_) (fun H1 D sm hD=>?_)
 ·rw[yN] at hv hy
  obtain⟨z,ez,rfl⟩:=xV.mp hv
  rw[ez] at hy
  cases hy
  have hi:=(yE.mp ez).1
  obtain⟨g1,g2⟩:=at1 i z rs[i] ez (yB (by lia))
  exact⟨_,rfl,z.1,ALaid,z.2.1,_,_,rfl,sm _ _ g1,X.clL,X.nRow,zoz _,r _ (Sr _)⟩
 ·have s2:Same H (upd H1 D (.lst (zs.map fun z=>z.2.2))):=sm.trans (Sn hD)
  refine q D _ _ (sm.free hD) s2 zc (by rw[yA,ll]) fun i v d hv hd=>?_
  rw[yN] at hv
  obtain⟨z,ez,rfl⟩:=xV.mp hv
  exact (at1 i z d ez hd).2.tups (zh s2)
theorem zhH:FnScope ["row"] ["row"] (zi zc2):=mkSc rfl (by decide +kernel)
theorem zhI(F:Fun K "show_row" "show_row" zc2 f fd)(G_show_worth:Have P w K mg base "show_worth" k ["worth"] (spShow 14))(G_show_paper:Have P w K mg base "show_paper" k ["paper"] (spShowP)):FnOk P w K mg base CX0 (k+1) f fd ["row"] (spShowRow):=by
 refine F.okQ zhH (by rintro _ _ _ _ ⟨_,_,_,rfl,_⟩;rfl) fun _ _ _ _ H vs Q E hr h=>?_
 obtain⟨v,z,p,rfl,⟨a,u,rfl,ea,ok,ru,gp⟩,q⟩:=h
 have ok:(W.txt z).Ok:=ok
 have ea:H a=some (.tup [.str z,u]):=ea
 refine⟨_,(zf (zl (zu zx (zu zx (zu zx (zu zx zg (zo G_show_worth hr rfl (za (zz zw (pv 0) ze (fun _ _=>rfl)) zb))) zg) (zo G_show_paper hr rfl (za (zz zw (pv 0) ze (fun _ _=>rfl)) zb))) zg))),?_⟩
 have gz:=Z2 ok
 refine⟨_,rfl,a,_,0,_,rfl,rfl,Sq ea,rfl,.str z,.txt z,rfl,.txt z,gz.1,gz.2.1,xG gz.2.2 (by decide),fun x H1 hx s1=>?_⟩
 have lx:x.length<=64000:=by
  have:=zaO gz
  rw[zbd] at this
  rw[←zH,hx]
  lia
 have l0:(uV "(lay ").length=5:=by decide +kernel
 have l1:(uV " ").length=1:=by decide +kernel
 have l2:(uV ")").length=1:=by decide +kernel
 refine⟨_,_,rfl,rfl,small (by rw[l0];lia),_,_,rfl,rfl,small (by rw[zt,l0,l1];lia),_,rfl,a,_,1,_,rfl,rfl,Sq (s1 _ _ ea),rfl,u,p,rfl,ru.mono (zh s1),gp.g,fun y H2 hy s2=>?_⟩
 have ly:y.length<=700000:=by rw[←zH,hy];exact zhB gp.g gp.rm gp.em gp.ll
 refine⟨_,_,rfl,rfl,small (by rw[zt,zt,l0,l1];lia),_,_,rfl,rfl,small (by rw[zt,zt,zt,l0,l1,l2];lia),q _ _ ?_ (s1.trans s2)⟩
 exact zmy hx hy
theorem zf8:FnScope ["shelf"] ["shelf"] (zi zbz):=mkSc rfl (by decide +kernel)
theorem zf9(F:Fun K "show_shelf" "show_shelf" zbz f fd)(G_Shelf_lying:zbW P w K mg base AShelf "lying" k ["self"] (spLying ALaid AShelf))(G_is_paper:Have P w K mg base "is_paper" k ["thing"] (spIsPaper))(G_show_row:Have P w K mg base "show_row" k ["row"] (spShowRow)):FnOk P w K mg base CX0 (k+1) f fd ["shelf"] (spShowShelf ALaid AShelf):=by
 refine F.okQ zf8 (by rintro _ _ _ _ ⟨_,_,_,rfl,_⟩;rfl) fun _ _ _ _ H vs Q E hr h=>?_
 obtain⟨p,l,rs,rfl,S,hl,q⟩:=h
 refine⟨_,(zf (zl (ZZ tT tX tW zba zg (za (zN [] [] rfl rfl (by decide +kernel) rfl (by decide +kernel) rfl (by decide +kernel) trivial rfl trivial (ZX (ziP G_Shelf_lying hr (pv 0))) (fun C s H fp=>⟨(zfu (zX (zo G_is_paper hr rfl (za (zz (show IxR _ (rIxT K) from zw) (pv 0) ze (fun _ _=>rfl)) zb)))),(zo G_show_row hr rfl (za (pv 0) zb))⟩)) zb)))),?_⟩
 obtain⟨dx,ei⟩:=S.ob
 refine⟨rfl,_,rfl,p,dx,_,rfl,ei,zhE _ (by decide +kernel),p,l,rs,rfl,S,by lia,fun lq rvs H1 hlq s1 elq hrl hat=>⟨lq,rfl,⟨_,Sl elq⟩,?_⟩⟩
 refine zl5 (K:=K) (vs:=rvs) (fun i us H'=>∃xs:List Str,us=xs.map V.str/\xs.map (fun y=>y.cps.toList)=(goods (rs.take i)).map (fun g=>shT (zeU g.1 g.2))/\xs.length<=i/\(∀x∈xs,x.length<=765000)/\Same H1 H') (small (by lia)) ⟨[],rfl,rfl,yO _,(fun x h=>nomatch h),Sr _⟩ (fun i us H' h=>?_) (fun i us H' h=>?_) (fun i v us H' R R' hv h hR hR'=>?_) (fun us H' D h hD=>?_)
 ·obtain⟨xs,rfl,_,hl,_⟩:=h
  rw[yA];exact hl
 ·obtain⟨_,_,_,_,_,s2⟩:=h
  exact Sl (s2 _ _ elq)
 ·obtain⟨xs,rfl,hxs,hxl,hx7,s2⟩:=h
  have hi:i<rs.length:=by rw[←hrl];exact (yE.mp hv).1
  have hri:rs[i]?=some rs[i]:=yB hi
  have row:=(hat i v _ hv hri).tups (zh s2)
  have tk:=zR hri
  generalize rs[i]=r at row tk
  obtain⟨z,o⟩:=r
  have row':=row
  obtain⟨a,u,rfl,ea,ok,ro⟩:=row
  cases o with
  |some p=>
   obtain⟨rp,gp⟩:RW H' u p.toW/\GP p:=ro
   obtain⟨pt,pp⟩:=znz gp.g gp.r
   have ok:(W.txt z).Ok:=ok
   refine⟨_,rfl,a,_,1,u,rfl,rfl,Sq ea,rfl,u,_,rfl,rp.toRT,zoC gp.g,pp,fun b H2 s3 _ hF=>⟨_,rfl,?_⟩⟩
   cases b with
   |false=>exact absurd pt (hF rfl)
   |true=>
    refine iteT ⟨_,rfl,.ref a,z,p,rfl,row'.tups (zh s3),fun x H3 hx s4=>hR _ _ ⟨xs++[x],by rw[yK];rfl,?_,by rw[yC];show _+1<=_;lia,fun y hy=>?_,(s2.trans s3).trans s4⟩⟩
    ·rw[tk,yK,hxs,goods,goods,wW,yK]
     show _=_++[shT (zeU z p)]
     rw[←hx]
     rfl
    ·rcases yU.mp hy with hy|hy
     ·exact hx7 y hy
     ·rw[yH.mp hy,←zH,hx]
      exact zcS ok gp
  |none=>
   obtain⟨t,rt,sm,nl,pp,np⟩:=ro
   refine⟨_,rfl,a,_,1,u,rfl,rfl,Sq ea,rfl,u,t,rfl,rt,sm,pp,fun b H2 s3 hT _=>⟨_,rfl,?_⟩⟩
   cases b with
   |true=>exact absurd (hT rfl) np
   |false=>
    refine iteF (hR' _ ⟨xs,rfl,?_,by lia,hx7,s2.trans s3⟩)
    rw[tk,hxs,goods,goods,wW,yK]
    show _=_++[]
    rw[xH]
 obtain⟨xs,rfl,hxs,hxl,hx7,s2⟩:=h
 rw[xD (by lia)] at hxs
 have s3:=(s1.trans s2).trans (Sn (o:=.lst (xs.map V.str)) hD)
 refine⟨_,D,xs,rfl,rfl,Sl zc,?_,q _ _ ?_ s3⟩
 ·have h10:xs.length<=10:=by lia
  have:=zhG hx7
  rw[show (uV "\n").length=1 by decide +kernel]
  lia
 ·rw[zkV,hxs]
  rfl
abbrev Gs:=List (Str×Pa)
def GG(g:Str×Pa):Prop:=(W.txt g.1).Ok/\GP g.2
noncomputable def roG(g:Str×Pa):Ro:=(g.1,some g.2)
def trG(g:Str×Pa):Tr:=zeU g.1 g.2
inductive spRowT(vs:List V)(H:Hp)(Q:VK)(z3:XK):Prop
 |mk (v:V) (g:Str×Pa) (_:vs=[v]) (_:RTr H v (trG g)) (_:GG g) (_:∀(u:V)(H':Hp),Same H H'->RowR H' u (roG g)->Q u H')
inductive spReadS(AL AS:Addr)(vs:List V)(H:Hp)(Q:VK)(z3:XK):Prop
 |mk (t:Str) (ps:List Pc) (gs:Gs) (_:vs=[.str t]) (_:Spell t.cps.toList ps) (_:run ps [[]]=some [gs.map trG]) (_:t.length<=10000000) (_:(∀g∈gs,GG g)) (_:gs.length<=10) (_:∀(p l:Addr)(H':Hp),Same H H'->H p=none->H l=none->ShAt AL AS H' p l (gs.map roG)->Q (.ref p) H')
inductive spRowsD(vs:List V)(H:Hp)(Q:VK)(z3:XK):Prop
 |mk (lr:Addr) (us:List V) (gs:Gs) (_:vs=[.ref lr]) (_:H lr=some (.lst us)) (_:us.length=gs.length) (_:gs.length<=10) (_:(∀(i:Nat)(u:V)(g:Str×Pa),us[i]?=some u->gs[i]?=some g->RowR H u (roG g))) (_:∀(x:Str)(H':Hp),x.cps.toList=zeH gs->Same H H'->Q (.str x) H')
theorem zkX{AL AS:Addr}{σ:St}{H:Hp}{Q:VK}(q:∀(p l:Addr) (H':Hp),ShAt AL AS H' p l []->H' l=some (.lst [])->Same H H'->H p=none->H l=none->Q (.ref p) H'):zg5 AS (spShelfI AS) [] E0 tNil σ H Q:=by
 intro x dx hx hdx ne
 refine⟨x,dx,rfl,zc,fun l hl=>⟨rfl,?_⟩⟩
 have n1:l≠x:=fun z=>by rw[z,zc] at hl;cases hl
 have n2:l≠dx:=fun z=>by rw[zA n1,z,zc] at hl;cases hl
 have hl0:H l=none:=by rw[zA n1,zA n2] at hl;exact hl
 have el:upd (upd (upd (upd H dx (.own x)) x (.ins AS dx [])) l (.lst [])) x (.ins AS dx (fS l)) l=some (.lst []):=by rw[zA n1,zc]
 refine q x l _ ⟨⟨dx,zc⟩,[],el,rfl,fun i z d h=>nomatch h⟩ el (fun c o e=>?_) hx hl0
 rw[zA (zn e hx),zA (zn e hl0),zA (zn e hx),zA (zn e hdx)]
 exact e
theorem zb4:FnScope ["tree","trees"] ["tree"] (zi za8):=mkSc rfl (by decide +kernel)
theorem zeX(F:Fun K "row_of_tree" "row_of_tree" za8 f fd)(G_paper_of_tree:Have P w K mg base "paper_of_tree" k ["tree"] (spPapT))(G_text_of_tree:Have P w K mg base "text_of_tree" k ["tree"] (spTextT))(G_trees_behind:Have P w K mg base "trees_behind" k ["word","tree"] (spBehind))(m_len:mg "len"=none):FnOk P w K mg base CX0 (k+1) f fd ["tree"] (spRowT):=by
 refine F.okQ zb4 (by rintro _ _ _ _ ⟨_,_,rfl,_⟩;rfl) fun _ _ _ _ H vs Q E hr h=>?_
 obtain⟨v,⟨z,p⟩,rfl,rv,⟨ok,gp⟩,q⟩:=h
 refine⟨_,(zd (zm (i:=1) zb4.nd rfl (Or.inl rfl) (zo G_trees_behind hr rfl (za zg (za (pv 0) zb))))
  (zd (zE (zk zaz (zj zB rfl m_len tF (za (pv 1) zb)) ze (nomark _)) zU zq)
  (zf (zl (zy (za (zo G_text_of_tree hr rfl (za (zz zw (pv 1) ze (fun _ _=>rfl)) zb)) (za (zo G_paper_of_tree hr rfl (za (zz zw (pv 1) ze (fun _ _=>rfl)) zb)) zb))))))),nm3 ?_⟩
 intros
 refine⟨_,rfl,"lay",v,_,rfl,rv,fun b us H1 s1 eb rus=>?_⟩
 obtain⟨u0,r0,rfl,q0,rus⟩:=rus.cons_inv
 obtain⟨u1,r1,rfl,q1,rus⟩:=rus.cons_inv
 obtain rfl:r1=[]:=yR.mp rus.len
 dsimp only[zW]
 refine⟨_,rfl,_,_,rfl,.inr ⟨_,Sq eb,rfl⟩,rfl,_,rfl,iteF ?_⟩
 refine⟨_,rfl,b,_,0,_,rfl,rfl,Sq eb,rfl,u0,z,rfl,q0,ok,fun H2 s2=>?_⟩
 refine⟨_,rfl,b,_,1,_,rfl,rfl,Sq (s2 _ _ eb),rfl,u1,p,rfl,q1.mono (zh s2),gp.g,gp.r,fun u H3 s3 ru=>⟨zl2,fun a ha=>?_⟩⟩
 have s4:=Sn (o:=.tup [.str z,u]) ha
 exact q _ _ (((s1.trans s2).trans s3).trans s4) ⟨a,u,rfl,zc,ok,ru.mono (zh s4),gp⟩
theorem zau:FnScope ["text","shelf","tree","row"] ["text"] (zi zbA):=mkSc rfl (by decide +kernel)
theorem zga(F:Fun K "read_shelf" "read_shelf" zbA f fd)(G_trees_of:Have P w K mg base "trees_of" k ["text"] (spTrees))(G_Shelf_lay:zbW P w K mg base AShelf "lay" k ["self","who","paper"] (spLay ALaid AShelf))(G_row_of_tree:Have P w K mg base "row_of_tree" k ["tree"] (spRowT))(G_Shelf___init__:zcl P w K mg base AShelf "Shelf" k ["self"] (spShelfI AShelf)):FnOk P w K mg base CX0 (k+1) f fd ["text"] (spReadS ALaid AShelf):=by
 refine F.okQ zau (by rintro _ _ _ _ ⟨_,_,_,rfl,_⟩;rfl) fun _ _ _ _ H vs Q E hr h=>?_
 obtain⟨t,ps,gs,rfl,sp,hrun,hlen,hg,h10,q⟩:=h
 refine⟨_,(zd (zm (i:=1) zau.nd rfl (Or.inl rfl) (zfI G_Shelf___init__ hr rfl))
  (zd (zaL tN rfl (ZX (zo G_trees_of hr rfl (za (pv 0) zb))) (Zb (i:=2) zau.nd rfl (Or.inl rfl)) (zd (zm (i:=3) zau.nd rfl (Or.inl rfl) (zo G_row_of_tree hr rfl (za (pv 2) zb)))
  (zf (Zm (pe_m G_Shelf_lay hr (pv 1) (za (zz zw (pv 3) ze (fun _ _=>rfl)) (za (zz zw (pv 3) ze (fun _ _=>rfl)) zb)))))))
  (zf (zl (pv 1))))),nm3 ?_⟩
 intros
 refine zoA (zkX (AL:=ALaid) fun p l H1 S1 el1 s1 hp hl=>?_)
 dsimp only[zW]
 refine⟨_,rfl,t,ps,_,rfl,sp,hrun,hlen,fun lt us H2 s2 elt rus=>⟨lt,rfl,⟨_,Sl elt⟩,?_⟩⟩
 have hul:us.length=gs.length:=by rw[rus.len,yA]
 have s12:=s1.trans s2
 refine zdG (K:=K) (xs:=us) (fun i σ' H'=>∃o2 o3:Option V,σ'=[some (.str t),some (.ref p),o2,o3]/\ShAt ALaid AShelf H' p l ((gs.take i).map roG)/\H' lt=some (.lst us)/\∀c o,c≠l->H2 c=some o->H' c=some o) ⟨none,none,rfl,S1.same s2,elt,fun c o _ e=>e⟩ (fun i σ' H' _ h=>?_) (fun i x σ' H' hx h=>?_) (fun σ' H' h=>?_)
 ·obtain⟨_,_,_,_,e,_⟩:=h
  exact Sl e
 ·obtain⟨o2,o3,rfl,S,e,kp⟩:=h
  have hi:i<gs.length:=by rw[←hul];exact (yE.mp hx).1
  have hgi:gs[i]?=some gs[i]:=yB hi
  have tk:=zR hgi
  have hm:=hg _ (yW hi)
  have nlt:lt≠l:=fun z=>by
   rw[z,s2 _ _ el1] at elt
   cases elt
   rw[List.length_nil] at hul
   lia
  have rt:=(rus.at' i x (trG gs[i]) hx (by rw[yN,hgi];rfl)).mono (H':=H') fun a vs ea=>kp a _ (fun z=>by rw[z,s2 _ _ el1] at ea;cases ea) ea
  generalize gs[i]=g at tk hm rt
  dsimp only[zW]
  refine⟨_,rfl,x,g,rfl,rt,hm,fun u H3 s3 row=>?_⟩
  obtain⟨a,v,rfl,ea,ok,rv⟩:=row
  obtain⟨dx,ei⟩:=S.ob
  dsimp only[zW]
  refine⟨_,rfl,p,dx,_,rfl,s3 _ _ ei,zhE _ (by decide +kernel),_,rfl,a,_,0,_,rfl,rfl,Sq ea,rfl,_,rfl,a,_,1,_,rfl,rfl,Sq ea,rfl,p,l,g.1,v,_,some g.2,rfl,S.same s3,ok,rv,?_,fun H4 S4 k4=>?_⟩
  ·rw[yA,yY];lia
  ·refine⟨_,_,rfl,?_,k4 _ _ nlt (s3 _ _ e),fun c o hc e=>k4 _ _ hc (s3 _ _ (kp c o hc e))⟩
   rw[tk,yK]
   exact S4
 ·obtain⟨o2,o3,rfl,S,e,kp⟩:=h
  rw[xD (by lia)] at S
  exact⟨_,rfl,q p l H' (fun c o e=>kp c o (zn e hl) (s12 _ _ e)) hp hl S⟩
theorem zag:FnScope ["_law_rows","_law_found","_law_who","_law_paper_here"] ["_law_rows"] (zi za9):=mkSc rfl (by decide +kernel)
theorem zeY(F:Fun K "_law_rows_shown" "_law_rows_shown" za9 f fd)(G_show_worth:Have P w K mg base "show_worth" k ["worth"] (spShow 14))(G_lshown:Have P w K mg base "_law_shown" k ["_law_paper_here"] (spShowP)):FnOk P w K mg base CX0 (k+1) f fd ["_law_rows"] (spRowsD):=by
 refine F.okQ zag (by rintro _ _ _ _ ⟨_,_,_,rfl,_⟩;rfl) fun _ _ _ _ H vs Q E hr h=>?_
 obtain⟨lr,us,gs,rfl,elr,hul,h10,hat,q⟩:=h
 refine⟨_,(zd (zm (i:=1) zag.nd rfl (Or.inl rfl) (zF zb))
  (zd (zaL tN rfl (ZX (pv 0)) (zbl rfl (Zc (Zb (i:=2) zag.nd rfl (Or.inl rfl)) (Zc (Zb (i:=3) zag.nd rfl (Or.inl rfl)) zaP))) (zf (Zm (ZZ tO tQ tP ZC (pv 1) (za (zu zx (zu zx (zu zx (zu zx zg (zo G_show_worth hr rfl (za (pv 2) zb))) zg) (zo G_lshown hr rfl (za (pv 3) zb))) zg) zb)))))
  (zf (zl (ZZ tT tX tW zba zg (za (pv 1) zb)))))),nm3 ?_⟩
 intros
 refine⟨zl0,fun lf hlf=>?_⟩
 have s1:=Sn (o:=.lst []) hlf
 have ef:upd H lf (.lst []) lf=some (.lst []):=zc
 generalize upd H lf (.lst [])=H1 at s1 ef
 dsimp only[zW]
 refine⟨_,rfl,lr,rfl,⟨_,Sl (s1 _ _ elr)⟩,zdG (K:=K) (xs:=us) (fun i σ' H'=>∃(o2 o3:Option V)(xs:List Str),σ'=[some (.ref lr),some (.ref lf),o2,o3]/\H' lf=some (.lst (xs.map V.str))/\xs.map (fun y=>y.cps.toList)=(gs.take i).map (fun g=>shT (trG g))/\xs.length=i/\(∀x∈xs,x.length<=765000)/\Same H H') ⟨none,none,[],rfl,ef,rfl,rfl,(fun x h=>nomatch h),s1⟩ (fun i σ' H' _ h=>?_) (fun i x σ' H' hx h=>?_) (fun σ' H' h=>?_)⟩
 ·obtain⟨_,_,_,_,_,_,_,_,s⟩:=h
  exact Sl (s _ _ elr)
 ·obtain⟨o2,o3,xs,rfl,el,hxs,hxl,hx7,sH⟩:=h
  have hi:i<gs.length:=by rw[←hul];exact (yE.mp hx).1
  have hgi:gs[i]?=some gs[i]:=yB hi
  have tk:=zR hgi
  have row:=(hat i x _ hx hgi).tups (zh sH)
  generalize gs[i]=g at tk row
  obtain⟨z,p⟩:=g
  obtain⟨a,u,rfl,ea,ok,rp,gp⟩:=row
  have ok:(W.txt z).Ok:=ok
  have ea:H' a=some (.tup [.str z,u]):=ea
  have gz:=Z2 ok
  refine⟨a,_,rfl,Sq ea,rfl,_,_,rfl,_,_,rfl,rfl,?_⟩
  refine⟨_,rfl,.inl ⟨rfl,_,Sl el⟩,_,rfl,.str z,.txt z,rfl,.txt z,gz.1,gz.2.1,xG gz.2.2 (by decide),fun x H2 hx s2=>?_⟩
  have lx:x.length<=64000:=by
   have:=zaO gz
   rw[zbd] at this
   rw[←zH,hx]
   lia
  have l0:(uV "(lay ").length=5:=by decide +kernel
  have l1:(uV " ").length=1:=by decide +kernel
  have l2:(uV ")").length=1:=by decide +kernel
  refine⟨_,_,rfl,rfl,small (by rw[l0];lia),_,_,rfl,rfl,small (by rw[zt,l0,l1];lia),_,rfl,u,p,rfl,rp.mono (zh s2),gp.g,fun y H3 hy s3=>?_⟩
  have ly:y.length<=700000:=by rw[←zH,hy];exact zhB gp.g gp.rm gp.em gp.ll
  have el3:=s3 _ _ (s2 _ _ el)
  refine⟨_,_,rfl,rfl,small (by rw[zt,zt,l0,l1];lia),_,_,rfl,rfl,small (by rw[zt,zt,zt,l0,l1,l2];lia),lf,_,_,rfl,rfl,el3,xG (show (xs.map V.str).length<=10 by rw[yA];lia) (by decide),?_⟩
  have ex:=zmy (z:=z) (p:=p) hx hy
  refine⟨_,_,xs++[_],rfl,by rw[zc,yK];rfl,?_,by rw[yC,hxl];rfl,fun y' hy'=>?_,zaG ((sH.trans s2).trans s3) hlf⟩
  ·rw[tk,yK,yK,hxs]
   show _++[_]=_++[shT (zeU z p)]
   rw[←ex]
  ·rcases yU.mp hy' with hy'|hy'
   ·exact hx7 y' hy'
   ·rw[yH.mp hy',←zH,ex]
    exact zcS ok gp
 ·obtain⟨o2,o3,xs,rfl,el,hxs,hxl,hx7,sH⟩:=h
  rw[xD (by lia)] at hxs
  refine⟨rfl,_,rfl,_,lf,xs,rfl,rfl,Sl el,?_,q _ _ ?_ sH⟩
  ·have:=zhG hx7
   rw[show (uV "\n").length=1 by decide +kernel]
   lia
  ·rw[zkV,hxs]
   rfl
noncomputable def rp(k c:Nat):Str:=⟨(yD k c).toArray⟩
theorem zoW{z:Str}{k c:Nat}(h:z.cps.toList=yD k c):z=rp k c:=by
 cases z with
 |mk a=>
  unfold rp
  congr 1
  rw[←h]
theorem zmz(k c:Nat):(rp k c).length=k:=by
 show (yD k c).toArray.size=k
 rw[yI,xK]
theorem znA{σ:St}{H:Hp}(z:Str)(k:Int)(h1:z.length=1)(h2:1<=k)(h3:k<1000000):YT (tOp (fun x y H Q=>∃(z:Str)(k:Int),x=.str z/\y=.int k/\z.length=1/\1<=k/\k<1000000/\∀r:Str,r.cps.toList=yD k.toNat (z.cps.getD 0 0)->Q (.str r) H) (tC (.str z)) (tC (.int k))) σ H (.txt (rp k.toNat (z.cps.getD 0 0))):=fun H1 Q s q=>
 ⟨z,k,rfl,rfl,h1,h2,h3,fun r hr=>by rw[zoW hr];exact q _ H1 (Sr _) (.txt _)⟩
theorem znB{K:tU}{σ:St}{H:Hp}{te:TE}{t:T}(k:Int)(h:YT te σ H (.tup [t]))(h2:1<k)(h3:k<1000000):YT (tOp (rRepT K) te (tC (.int k))) σ H (.tup (yD k.toNat t)):=fun H1 Q s q=>
 h H1 _ s fun v H2 s2 r2=>by
  obtain⟨a,us,rfl,ea,hus⟩:=r2.inv_tup
  have hul:us.length=1:=hus.1
  obtain⟨u,rfl⟩:∃u,us=[u]:=match us,hul with|[u],_=>⟨u,rfl⟩
  refine⟨a,k,[u],rfl,rfl,Sq ea,by simp,h2,h3,by show 1*k.toNat<=1000000;lia,fun p hp=>?_⟩
  have s3:=Sn (o:=.tup (yD k.toNat [u]).flatten) hp
  refine q _ _ (s2.trans s3) (.tup zc (by rw[zbS,xK,xK]) fun i v t' a1 a2=>?_)
  rw[zbS] at a1
  rw[xP (xB a1),xP (xB a2)]
  exact (hus.2 0 u t rfl rfl).mono s3
def Bad(t:T):Prop:=t.Sm/\noL t=true/\PreP t/\¬zgW t
theorem znC:∀d:Wo,wLit d=false->woS d≠"lit":=by
 intro d h
 cases d<;>first|(cases h;done)|decide +kernel
theorem znD:∀d:Wo,wVar d=false->woS d≠"var":=by
 intro d h
 cases d<;>first|(cases h;done)|decide +kernel
theorem zmA{t:T}(h:zI t=false):¬zek (.tup [.txt "lit",t]):=fun ⟨r,e,g,_⟩=>by
 rw[Rl.Gd.eq_def] at g
 cases r with
 |lit x=>
  rw[ZO] at e
  injection e with e
  injection e with _ e
  injection e with e _
  rw[e,zfV g.1 g.2.1 g.2.2] at h
  cases h
 |var s=>
  rw[zad] at e
  injection e with e
  injection e with e _
  injection e with e
  exact absurd e (by decide +kernel)
 |op d bs ps=>
  rw[zaM] at e
  injection e with e
  injection e with e _
  injection e with e
  exact znC d g.1.1 e.symm
theorem zoD(s:Str):¬zek (.tup [.txt "var",.txt s]):=fun ⟨r,e,g,_,_,u,_⟩=>by
 rw[Rl.Gd.eq_def] at g
 cases r with
 |lit x=>
  rw[ZO] at e
  injection e with e
  injection e with e _
  injection e with e
  exact absurd e (by decide +kernel)
 |var s=>rw[unb] at u;simp at u
 |op d bs ps=>
  rw[zaM] at e
  injection e with e
  injection e with e _
  injection e with e
  exact znD d g.1.2.1 e.symm
theorem zoE(ts:List T):¬zek (.tup [.tup ts]):=fun ⟨r,e,_⟩=>by
 cases r with
 |lit x=>rw[ZO] at e;injection e with e;injection e with e _;cases e
 |var s=>rw[zad] at e;injection e with e;injection e with e _;cases e
 |op d bs ps=>rw[zaM] at e;injection e with e;injection e with e _;cases e
theorem zoF(r:Rl):∃ts,r.toW.toT=.tup ts:=by
 cases r with
 |lit x=>exact⟨_,ZO x⟩
 |var s=>exact⟨_,zad s⟩
 |op d bs ps=>exact⟨_,zaM d bs ps⟩
section
variable{p:Pa}{o:Ou}{qs:List Re}
noncomputable def tR(p:Pa):T:=p.r.toW.toT
def tL(p:Pa):T:=.tup (toTs (p.ls.map lkW))
noncomputable def tE(p:Pa):T:=p.e.toW.toT
theorem sm3{a b c:T}(h1:a.Sm)(h2:b.Sm)(h3:c.Sm):(T.tup [a,b,c]).Sm:=⟨by show 3<=100000;decide,h1,h2,h3,trivial⟩
theorem sm2{a b:T}(h1:a.Sm)(h2:b.Sm):(T.tup [a,b]).Sm:=⟨by show 2<=100000;decide,h1,h2,trivial⟩
theorem sm1{a:T}(h1:a.Sm):(T.tup [a]).Sm:=⟨by show 1<=100000;decide,h1,trivial⟩
theorem sm0:(T.tup []).Sm:=⟨by show 0<=100000;decide,trivial⟩
theorem nl1{a:T}(h1:noL a=true):noL (.tup [a])=true:=by rw[noL,noLs,noLs,h1];rfl
theorem nl2{a b:T}(h1:noL a=true)(h2:noL b=true):noL (.tup [a,b])=true:=by rw[noL,noLs,noLs,noLs,h1,h2];rfl
theorem nl3{a b c:T}(h1:noL a=true)(h2:noL b=true)(h3:noL c=true):noL (.tup [a,b,c])=true:=by rw[noL,noLs,noLs,noLs,noLs,h1,h2,h3];rfl
theorem nlS(z:Str):noL (.txt z)=true:=by simp only[noL]
theorem nlN(i:Int):noL (.num i)=true:=by simp only[noL]
theorem nlB(b:Bool):noL (.bl b)=true:=by simp only[noL]
structure Pk(p:Pa):Prop where
 sr:(tR p).Sm
 sl:(tL p).Sm
 se:(tE p).Sm
 nr:noL (tR p)=true
 nl:noL (tL p)=true
 ne:noL (tE p)=true
 pl:∀xs,tL p=.tup xs->∀l∈xs,preL l
 pe:∃n,PreE n (tE p)/\n<=1000
theorem zoX(g:GdP p):Pk p:=by
 have h:=zoC g
 rw[pa_T] at h
 have n1:noL (tL p)=true:=by
  show noL (.tup (toTs (p.ls.map lkW)))=true
  rw[noL]
  exact noL_Ws _
 exact⟨h.2.1,h.2.2.1,h.2.2.2.1,zkU _,n1,zkU _,(ziq g).1,_,(zhF p.e g.e).2,by have:=g.em;lia⟩
theorem badR(k:Pk p){w:T}(sm:w.Sm)(nl:noL w=true)(h:¬zek w):Bad (.tup [w,tL p,tE p]):=
 ⟨sm3 sm k.sl k.se,nl3 nl k.nl k.ne,fun r ls e z=>by cases z;exact⟨k.pl,k.pe⟩,fun ⟨r,ls,e,z,hr,_⟩=>by cases z;exact h hr⟩
theorem badL(k:Pk p){w:T}(sm:w.Sm)(nl:noL w=true)(pl:∀xs,w=.tup xs->∀l∈xs,preL l)(h:zb3 w=false):Bad (.tup [tR p,w,tE p]):=
 ⟨sm3 k.sr sm k.se,nl3 k.nr nl k.ne,fun r ls e z=>by cases z;exact⟨pl,k.pe⟩,fun ⟨r,ls,e,z,_,hl,_⟩=>by cases z;rw[h] at hl;cases hl⟩
theorem badE(k:Pk p){w:T}{n:Nat}(sm:w.Sm)(nl:noL w=true)(pe:PreE n w)(hn:n<=1000)(h:¬RecT w):Bad (.tup [tR p,tL p,w]):=
 ⟨sm3 k.sr k.sl sm,nl3 k.nr k.nl nl,fun r ls e z=>by cases z;exact⟨k.pl,_,pe,hn⟩,fun ⟨r,ls,e,z,_,_,he⟩=>by cases z;exact h he⟩
theorem badN{t:T}(sm:t.Sm)(nl:noL t=true)(h:∀r ls e,t≠.tup [r,ls,e]):Bad t:=⟨sm,nl,fun r ls e z=>absurd z (h r ls e),fun ⟨r,ls,e,z,_⟩=>h r ls e z⟩
noncomputable def e60:Int:=10 ^ 60
def wR(p:Pa):List T:=[.tup [.txt "lit",.bl true],.tup [.txt "var",.txt "x"],.tup [tR p],.tup [.txt "lit",.num e60]]
noncomputable def lk1(z:Str)(t:T):T:=.tup [.tup [.txt z,t]]
def wL1(o:T):List T:=[.tup [.tup [.txt "a.b"]],.tup [.tup [.num 1,o]],.num 0,lk1 "a\"b" o,lk1 "a\nb" o,lk1 (rp 401 97) o]
def wL2:List T:=[lk1 "a.b" (.tup [.txt "made",.bl true]),lk1 "a.b" (.tup [.txt "made",.tup (yD 61 (.num 0))])]
noncomputable def wE1(o:T):List T:=[.tup [o],.tup [.tup [.txt "made",.non],.tup []],o,.tup [.tup [.txt "wrong",.txt "kind",.num 1],.tup []],.tup [o,.tup [.num 0]]]
def wE2(o:T):List T:=[.tup [.tup [.txt "made",.num e60],.tup []],.tup [o,.tup [.tup [.tup [.txt "made",.tup [.bl false]],.tup []]]]]
def w4(p:Pa)(i:Int)(z:Str):List T:=[.num i,.txt z,.tup [tR p,tE p],.tup [tR p,tL p,tE p,tE p]]
noncomputable def w5:List T:=[.tup [],.non,.tup [.txt "paper"]]
def lies(p:Pa)(o:T)(i:Int)(z:Str):List T:=(wR p).map (fun w=>.tup [w,tL p,tE p])++(wL1 o++wL2).map (fun w=>.tup [tR p,w,tE p])++(wE1 o++wE2 o).map (fun w=>.tup [tR p,tL p,w])++w4 p i z++w5
theorem zoY(k:Pk p):∀w∈wR p,w.Sm/\noL w=true/\¬zek w:=by
 intro w hw
 simp only[wR,yG,xT,or_false] at hw
 have sl:(T.txt "lit").Sm:=by show (uV "lit").length<=100000;decide +kernel
 rcases hw with rfl|rfl|rfl|rfl
 ·exact⟨sm2 sl trivial,nl2 (nlS _) (nlB _),zmA (by decide +kernel)⟩
 ·exact⟨sm2 (by show (uV "var").length<=100000;decide +kernel) (by show (uV "x").length<=100000;decide +kernel),nl2 (nlS _) (nlS _),zoD _⟩
 ·obtain⟨ts,e⟩:=zoF p.r
  refine⟨sm1 k.sr,nl1 k.nr,?_⟩
  unfold tR
  rw[e]
  exact zoE ts
 ·exact⟨sm2 sl trivial,nl2 (nlS _) (nlN _),zmA (by decide +kernel)⟩
theorem zg2{z:Str}{t:T}(h:zI (.txt z)=false\/Zx t=false):zb3 (lk1 z t)=false:=by
 show ((zI (.txt z)&&Zx t)&&true)=false
 rcases h with h|h<;>rw[h]<;>simp
theorem zeI{z:Str}{t:T}(h:preO t):∀xs,lk1 z t=.tup xs->∀l∈xs,preL l:=fun xs e l hl=>by
 cases e
 rw[yH.mp hl]
 exact h
theorem nl61:noL (.tup (yD 61 (.num 0)))=true:=by decide +kernel
theorem zoZ{o:T}(so:o.Sm)(no:noL o=true)(po:preO o):∀w∈wL1 o++wL2,w.Sm/\noL w=true/\(∀xs,w=.tup xs->∀l∈xs,preL l)/\zb3 w=false:=by
 intro w hw
 have sa:(T.txt "a.b").Sm:=by show (uV "a.b").length<=100000;decide +kernel
 have sm:(T.txt "made").Sm:=by show (uV "made").length<=100000;decide +kernel
 simp only[wL1,wL2,yU,yG,xT,or_false] at hw
 rcases hw with (rfl|rfl|rfl|rfl|rfl|rfl)|(rfl|rfl)
 ·exact⟨sm1 (sm1 sa),nl1 (nl1 (nlS _)),(fun xs e l hl=>by cases e;rw[yH.mp hl];trivial),rfl⟩
 ·exact⟨sm1 (sm2 trivial so),nl1 (nl2 (nlN _) no),(fun xs e l hl=>by cases e;rw[yH.mp hl];exact po),rfl⟩
 ·exact⟨trivial,nlN _,fun xs e=>(nomatch e),rfl⟩
 ·exact⟨sm1 (sm2 (by show (uV "a\"b").length<=100000;decide +kernel) so),nl1 (nl2 (nlS _) no),zeI po,zg2 (.inl (by decide +kernel))⟩
 ·exact⟨sm1 (sm2 (by show (uV "a\nb").length<=100000;decide +kernel) so),nl1 (nl2 (nlS _) no),zeI po,zg2 (.inl (by decide +kernel))⟩
 ·refine⟨sm1 (sm2 (by show (rp 401 97).length<=100000;rw[zmz];decide) so),nl1 (nl2 (nlS _) no),zeI po,zg2 (.inl ?_)⟩
  unfold zI
  show ((decide ((rp 401 97).length<=400)&&za0 (rp 401 97))&&_)=false
  rw[zmz]
  rfl
 ·exact⟨sm1 (sm2 sa (sm2 sm trivial)),nl1 (nl2 (nlS _) (nl2 (nlS _) (nlB _))),zeI trivial,zg2 (.inr (by decide +kernel))⟩
 ·refine⟨sm1 (sm2 sa (sm2 sm ⟨by rw[xK];decide,zkW fun t ht=>by rw[xP ht];trivial⟩)),nl1 (nl2 (nlS _) (nl2 (nlS _) nl61)),zeI trivial,zg2 (.inr (by decide +kernel))⟩
theorem zl6{o:T}(h:preO o):PreE 1 (.tup [o,.tup []]):=.mk (n:=0) rfl h (.nil rfl)
theorem znE(g:GdO o):(∃x,o.toW.toT=.tup [.txt "made",x])\/∃w x,o.toW.toT=.tup [.txt "wrong",.txt w,x]:=by
 cases g with
 |made _=>exact .inl ⟨_,zmu _⟩
 |bare _=>exact .inr ⟨_,_,zc8 _ _⟩
 |naming _ _=>exact .inr ⟨_,_,zc8 _ _⟩
 |cried _=>exact .inr ⟨_,_,zc8 _ _⟩
theorem zo0(g:GdO o):∀w∈wE1 o.toW.toT++wE2 o.toW.toT,w.Sm/\noL w=true/\(∃n,PreE n w/\n<=1000)/\¬RecT w:=by
 obtain⟨ho,po,so⟩:=zbi g
 have no:noL o.toW.toT=true:=zkU _
 have two:=znE g
 generalize o.toW.toT=t at ho po so no two
 have sm:(T.txt "made").Sm:=by show (uV "made").length<=100000;decide +kernel
 intro w hw
 simp only[wE1,wE2,yU,yG,xT,or_false] at hw
 rcases hw with (rfl|rfl|rfl|rfl|rfl)|(rfl|rfl)
 ·exact⟨sm1 so,nl1 no,⟨1,.no rfl (fun _ _ e=>nomatch e) (fun _ _ e=>nomatch e),by decide⟩,fun h=>nomatch h⟩
 ·exact⟨sm2 (sm2 sm trivial) sm0,nl2 (nl2 (nlS _) (by decide +kernel)) (by decide +kernel),⟨1,zl6 trivial,by decide⟩,fun h=>by cases h with|mk h _=>exact absurd h (by decide +kernel)⟩
 ·rcases two with⟨x,rfl⟩|⟨w,x,rfl⟩
  ·refine⟨so,no,⟨1,.no rfl (fun o ps e=>by cases e;rfl) (fun o q e=>by cases e;trivial),by decide⟩,fun h=>?_⟩
   cases h with
   |mk h _=>cases h
  ·exact⟨so,no,⟨1,.no rfl (fun _ _ e=>nomatch e) (fun _ _ e=>nomatch e),by decide⟩,fun h=>nomatch h⟩
 ·exact⟨sm2 (sm3 (by show (uV "wrong").length<=100000;decide +kernel) (by show (uV "kind").length<=100000;decide +kernel) trivial) sm0,nl2 (nl3 (nlS _) (nlS _) (nlN _)) (by decide +kernel),⟨1,zl6 (fun _=>rfl),by decide⟩,fun h=>by cases h with|mk h _=>exact absurd h (by decide +kernel)⟩
 ·exact⟨sm2 so (sm1 trivial),nl2 no (nl1 (nlN _)),⟨2,.mk rfl po (.cons (n:=1) (m:=0) rfl (.no rfl (fun _ _ e=>nomatch e) (fun _ _ e=>nomatch e)) (.nil rfl)),by decide⟩,fun h=>by cases h with|mk _ h=>exact nomatch h (.num 0) (by simp)⟩
 ·exact⟨sm2 (sm2 sm trivial) sm0,nl2 (nl2 (nlS _) (nlN _)) (by decide +kernel),⟨1,zl6 trivial,by decide⟩,fun h=>by cases h with|mk h _=>exact absurd h (by decide +kernel)⟩
 ·refine⟨sm2 so (sm1 (sm2 (sm2 sm (sm1 trivial)) sm0)),nl2 no (nl1 (nl2 (nl2 (nlS _) (nl1 (nlB _))) (by decide +kernel))),⟨2,.mk rfl po (.cons (n:=1) (m:=0) rfl (zl6 trivial) (.nil rfl)),by decide⟩,fun h=>?_⟩
  cases h with
  |mk _ h=>
   have:=h _ (yH.mpr rfl)
   cases this with
   |mk h _=>exact absurd h (by decide +kernel)
theorem znF(k:Pk p)(g:GdO o){i:Int}{z:Str}(hz:z.length<=100000):∀t∈lies p o.toW.toT i z,Bad t:=by
 intro t ht
 obtain⟨_,po,so⟩:=zbi g
 rcases yU.mp ht with ht|ht
 ·rcases yU.mp ht with ht|ht
  ·rcases yU.mp ht with ht|ht
   ·rcases yU.mp ht with ht|ht
    ·obtain⟨w,hw,rfl⟩:=yX.mp ht
     obtain⟨a,b,c⟩:=zoY k w hw
     exact badR k a b c
    ·obtain⟨w,hw,rfl⟩:=yX.mp ht
     obtain⟨a,b,c,d⟩:=zoZ so (zkU _) po w hw
     exact badL k a b c d
   ·obtain⟨w,hw,rfl⟩:=yX.mp ht
    obtain⟨a,b,⟨n,c,hn⟩,d⟩:=zo0 g w hw
    exact badE k a b c hn d
  ·simp only[w4,yG,xT,or_false] at ht
   rcases ht with rfl|rfl|rfl|rfl
   ·exact badN trivial (nlN _) fun _ _ _ e=>nomatch e
   ·exact badN hz (nlS _) fun _ _ _ e=>nomatch e
   ·exact badN (sm2 k.sr k.se) (nl2 k.nr k.ne) fun _ _ _ e=>nomatch e
   ·exact badN ⟨by show 4<=100000;decide,k.sr,k.sl,k.se,k.se,trivial⟩ (by rw[noL,noLs,noLs,noLs,noLs,noLs,k.nr,k.nl,k.ne];rfl) fun _ _ _ e=>nomatch e
 ·simp only[w5,yG,xT,or_false] at ht
  rcases ht with rfl|rfl|rfl
  ·exact badN sm0 (by decide +kernel) fun _ _ _ e=>nomatch e
  ·exact badN trivial (by decide +kernel) fun _ _ _ e=>nomatch e
  ·exact badN (sm1 (by show (uV "paper").length<=100000;decide +kernel)) (nl1 (nlS _)) fun _ _ _ e=>nomatch e
end
inductive spLie(vs:List V)(H:Hp)(Q:VK)(z3:XK):Prop
 |mk (b t:Addr) (p:Pa) (_:vs=[.ref b,.ref t]) (_:IsBox H b) (_:RW H (.ref t) p.toW) (_:GP p) (_:∀(v:V)(H':Hp),Rv H' v none->Step b H H'->Q v H')
theorem asgL{ta:TA}{g:TG}{t:TS}{D:Ends}{σ:St}{H:Hp}{ts:List T}(ya:YA ta σ H ts)(hl:ts.length<=1000)(k:∀(l:Addr) (us:List V) (H':Hp),Same H H'->H l=none->H' l=some (.lst us)->RTs H' us ts->g (.ref l) σ H' (fun σ' H''=>t D σ' H'')):tSeq (tAsg (tLst ta) g) t D σ H:=
 ya H _ (Sr _) fun vs H2 s2 r2=>⟨yQ (show vs.length<=1000 by rw[r2.1];exact hl) (by decide),fun p hp=>k p vs _ (s2.trans (Sn hp)) (s2.free hp) zc (r2.mono (Sn hp))⟩
theorem lstL{ta:TA}{σ:St}{H:Hp}{Q:VK}{ts:List T}(ya:YA ta σ H ts)(hl:ts.length<=1000)(k:∀(l:Addr) (us:List V) (H':Hp),Same H H'->H l=none->H' l=some (.lst us)->RTs H' us ts->Q (.ref l) H'):tLst ta σ H Q:=
 ya H _ (Sr _) fun vs H2 s2 r2=>⟨yQ (show vs.length<=1000 by rw[r2.1];exact hl) (by decide),fun p hp=>k p vs _ (s2.trans (Sn hp)) (s2.free hp) zc (r2.mono (Sn hp))⟩
theorem YA.run{ta:TA}{σ:St}{H:Hp}{ts:List T}{Q:List V->Hp->Prop}(h:YA ta σ H ts)(q:∀vs H2,Same H H2->RTs H2 vs ts->Q vs H2):ta σ H Q:=h H Q (Sr _) q
theorem zdf{H H':Hp}{us vs:List V}{ts ws:List T}(s:Same H H')(h:RTs H us ts)(g:RTs H' vs ws):RTs H' (us++vs) (ts++ws):=(h.mono s).cat g
theorem zl9{H:Hp}{vs:List V}{ts:List T}{v:V}{t:T}(h:RTs H vs ts)(g:RT H v t):RTs H (vs++[v]) (ts++[t]):=h.cat (.cons g .nil)
theorem zgb{H:Hp}{a:Addr}{u v w:V}{x y z:T}(e:H a=some (.tup [u,v,w]))(h1:RT H u x)(h2:RT H v y)(h3:RT H w z):RT H (.ref a) (.tup [x,y,z]):=(RTs.cons h1 (.cons h2 (.cons h3 .nil))).rt e
theorem zcT{K:tU}{fr:List Nat}{te:TE}{σ:St}{H:Hp}{F:Addr->Hp->List V->Prop}{a:Addr}{vs:List V}{ts:List T}(G:T->T)(hS:H a=some (.lst vs))(r:RTs H vs ts)(hl:ts.length<=1000)
  (step:∀(x:V)(t:T)(H1:Hp)(R:VK),Same H H1->RT H1 x t->(∀y H2,Same H1 H2->RT H2 y (G t)->R y H2)->te (some x::frees fr σ) H1 R)
  (fin:∀(ys:List V)(H1:Hp)(D:Addr),Same H H1->RTs H1 ys (ts.map G)->H1 D=none->F D H1 ys):
  ∃W:Nat->Nat->List V->Hp->Prop,(∃m,W 0 m [] H)/\∀i m vs H,W i m vs H->vs.length<=tH /\
   (((Itl K a).stop i H/\∀D,H D=none->F D H vs) \/
    ((Itl K a).go i H/\∀v H',(Itl K a).yld i H v H'->if true=true then te (some v::frees fr σ) H' fun y H3=>∃m',m'<m/\W (i+1) m' (vs++[y]) H3 else ∃m',m'<m/\W (i+1) m' vs H')):=by
 have hvl:=r.1
 refine zfW (K:=K) (vs:=vs) (fun i ys H'=>i<=vs.length/\Same H H'/\RTs H' ys ((ts.take i).map G)) (small (by lia)) ⟨yS _,Sr _,.nil⟩ (fun i ys H' h=>?_) (fun i ys H' h=>Sl (h.2.1 _ _ hS)) (fun i x ys H' R hx h hR=>?_) (fun ys H' D h hD=>?_)
 ·rw[h.2.2.1,yA,yY]
  have:=h.1
  lia
 ·obtain⟨hi,s,h⟩:=h
  have hlt:i<vs.length:=(yE.mp hx).1
  have hti:ts[i]?=some ts[i]:=yB (by lia)
  refine step x ts[i] H' R s ((r.2 i x _ hx hti).mono s) fun y H2 s2 ry=>hR _ _ ⟨hlt,s.trans s2,?_⟩
  rw[zR hti,yK]
  exact zl9 (h.mono s2) ry
 ·obtain⟨hi,s,h⟩:=h
  rw[xD (by lia)] at h
  exact fin ys H' D s h hD
theorem ZV:FnScope ["_law_box_here","_law_paper_here","_law_rule","_law_looked","_law_record_here","_law_one","_law_rules","_law_some","_law_looks","_law_records"] ["_law_box_here","_law_paper_here"] (zi zjP):=mkSc rfl (by decide +kernel)
theorem znG(F:Fun K "_law_lie" "_law_lie" zjP f fd)(G_ltake:Have P w K mg base "_law_take" k ["_law_box_here","_law_wide"] (spTake))(G_ltext:Have P w K mg base "_law_text" k ["_law_box_here","_law_most"] (spText))(G_lnumber:Have P w K mg base "_law_number" k ["_law_box_here"] (spNumber))(m_len:mg "len"=none):FnOk P w K mg base CX0 (k+1) f fd ["_law_box_here","_law_paper_here"] (spLie):=by
 refine F.okQ ZV (by rintro _ _ _ _ ⟨_,_,_,rfl,_⟩;rfl) fun _ _ _ _ H vs Q E hr h=>?_
 obtain⟨b,t,p,rfl,hb,rp,gp,q⟩:=h
 refine⟨_,(zd (zbm (pv 1) (zbl rfl (Zc (Zb (i:=2) ZV.nd rfl (Or.inr rfl)) (Zc (Zb (i:=3) ZV.nd rfl (Or.inr rfl)) (Zc (Zb (i:=4) ZV.nd rfl (Or.inr rfl)) zaP)))))
  (zd (zm (i:=5) ZV.nd rfl (Or.inl rfl) (zz zw (pv 4) ze (fun _ _=>rfl)))
  (zd (zm (i:=6) ZV.nd rfl (Or.inl rfl) (zF (za (zy (za zg (za Z5 zb))) (za (zy (za zg (za zg zb))) (za (zy (za (pv 2) zb)) (za (zy (za zg (za (zu zcr ze ze) zb))) zb))))))
  (zd (zg8 (i:=7) [3,4] ["_law_looked","_law_record_here"] rfl rfl (by decide +kernel) rfl (by decide +kernel) rfl (by decide +kernel) ⟨rfl,rfl,trivial⟩ rfl ⟨⟨rfl,rfl,Or.inr (Or.inl rfl),(by show (some NameKind.cell:Option NameKind)≠some .local;decide),⟨_,rfl⟩⟩,⟨rfl,rfl,Or.inr (Or.inl rfl),(by show (some NameKind.cell:Option NameKind)≠some .local;decide),⟨_,rfl⟩⟩,trivial⟩ (ZX (pv 6)) (fun C s H fp=>⟨zM,(zy (za (pv 0) (za (pv 1) (za (pv 2) zb))))⟩) ZV.nd rfl (Or.inl rfl))
  (zd (zm (i:=8) ZV.nd rfl (Or.inl rfl) (zF (za (zy (za (zy (za zg zb)) zb)) (za (zy (za (zy (za ze (za (pv 5) zb))) zb)) (za ze (za (zy (za (zy (za zg (za (pv 5) zb))) zb)) (za (zy (za (zy (za zg (za (pv 5) zb))) zb)) (za (zy (za (zy (za (zu zm1 zg ze) (za (pv 5) zb))) zb)) zb))))))))
  (zd (zm (i:=8) ZV.nd rfl (Or.inl rfl) (zu zaj (pv 8) (zF (za (zy (za (zy (za zg (za (zy (za zg (za Z5 zb))) zb))) zb)) (za (zy (za (zy (za zg (za (zy (za zg (za (zu zm0 (zy (za ze zb)) ze) zb))) zb))) zb)) zb)))))
  (zd (zm (i:=7) ZV.nd rfl (Or.inl rfl) (zu zaj (pv 7) (zN [2,4] ["_law_rule","_law_record_here"] rfl rfl (by decide +kernel) rfl (by decide +kernel) rfl (by decide +kernel) ⟨rfl,rfl,trivial⟩ rfl ⟨⟨rfl,rfl,Or.inr (Or.inl rfl),(by show (some NameKind.cell:Option NameKind)≠some .local;decide),⟨_,rfl⟩⟩,⟨rfl,rfl,Or.inr (Or.inl rfl),(by show (some NameKind.cell:Option NameKind)≠some .local;decide),⟨_,rfl⟩⟩,trivial⟩ (ZX (pv 8)) (fun C s H fp=>⟨zM,(zy (za (pv 1) (za (pv 0) (za (pv 2) zb))))⟩))))
  (zd (zm (i:=9) ZV.nd rfl (Or.inl rfl) (zF (za (zy (za (pv 5) zb)) (za (zy (za (zy (za zg (za zgd zb))) (za (zy zb) zb))) (za (pv 5) (za (zy (za (zy (za zg (za zg (za ze zb)))) (za (zy zb) zb))) (za (zy (za (pv 5) (za (zy (za ze zb)) zb))) zb)))))))
  (zd (zm (i:=9) ZV.nd rfl (Or.inl rfl) (zu zaj (pv 9) (zF (za (zy (za (zy (za zg (za (zu zcr ze ze) zb))) (za (zy zb) zb))) (za (zy (za (pv 5) (za (zy (za (zy (za (zy (za zg (za (zy (za Z5 zb)) zb))) (za (zy zb) zb))) zb)) zb))) zb)))))
  (zd (zm (i:=7) ZV.nd rfl (Or.inl rfl) (zu zaj (pv 7) (zN [2,3] ["_law_rule","_law_looked"] rfl rfl (by decide +kernel) rfl (by decide +kernel) rfl (by decide +kernel) ⟨rfl,rfl,trivial⟩ rfl ⟨⟨rfl,rfl,Or.inr (Or.inl rfl),(by show (some NameKind.cell:Option NameKind)≠some .local;decide),⟨_,rfl⟩⟩,⟨rfl,rfl,Or.inr (Or.inl rfl),(by show (some NameKind.cell:Option NameKind)≠some .local;decide),⟨_,rfl⟩⟩,trivial⟩ (ZX (pv 9)) (fun C s H fp=>⟨zM,(zy (za (pv 1) (za (pv 2) (za (pv 0) zb))))⟩))))
  (zd (zm (i:=7) ZV.nd rfl (Or.inl rfl) (zu zaj (pv 7) (zF (za (zo G_lnumber hr rfl (za (pv 0) zb)) (za (zo G_ltext hr rfl (za (pv 0) (za ze zb))) (za (zy (za (pv 2) (za (pv 4) zb))) (za (zy (za (pv 2) (za (pv 3) (za (pv 4) (za (pv 4) zb))))) zb)))))))
  (zd (zm (i:=7) ZV.nd rfl (Or.inl rfl) (zu zaj (pv 7) (zF (za (zy zb) (za zgd (za (zy (za zg zb)) zb))))))
  (zf (zl (zz Zd (pv 7) (zo G_ltake hr rfl (za (pv 0) (za (zj zB rfl m_len tF (za (pv 7) zb)) zb))) (fun _ _=>rfl)))))))))))))))),nm13 ?_⟩
 intros
 have pk:=zoX gp.g
 obtain⟨a,v0,v1,v2,ea0,ea,q0,q1,q2⟩:=opn3 rp
 cases ea0
 obtain⟨o,qs,epe⟩:∃o qs,p.e=Re.mk o qs:=by
  cases p.e with
  |mk o qs=>exact⟨o,qs,rfl⟩
 have go:GdO o:=by
  have:=gp.g.e
  rw[epe,GdE] at this
  exact this.1
 obtain⟨a2,w0,w1,rfl,ea2,p0,p1⟩:∃a2 w0 w1,v2=.ref a2/\H a2=some (.tup [w0,w1])/\RW H w0 o.toW/\RW H w1 (.lst (reWs qs)):=by
  rw[epe,Re.toW] at q2
  exact opn2 q2
 have r0:RT H v0 (tR p):=q0.toRT
 have r1:RT H v1 (tL p):=by
  have:=q1.toRT
  rw[W.toT] at this
  exact this
 have r2:RT H (.ref a2) (tE p):=q2.toRT
 have ro:RT H w0 o.toW.toT:=p0.toRT
 refine⟨_,rfl,t,_,rfl,Sq ea,rfl,_,_,rfl,_,_,rfl,_,_,rfl,rfl,?_⟩
 refine⟨_,rfl,a2,_,0,_,rfl,rfl,Sq ea2,rfl,?_⟩
 dsimp only[zW]
 have y60:∀{σ:St}{H:Hp},YT (tOp (rI CPow fun i j=>V.int (i ^ j.toNat)) (tC (V.int 10)) (tC (V.int 60))) σ H (.num e60):=fun H1 Q s q=>⟨_,_,rfl,rfl,⟨by decide,by decide,by decide⟩,q _ H1 (Sr _) (.num _)⟩
 refine asgL (ts:=wR p) (zr (Za (zr (yt_c (.txt _)) (zr (yt_c (.bl _)) zV)) (by decide)) (zr (Za (zr (yt_c (.txt _)) (zr (yt_c (.txt _)) zV)) (by decide)) (zr (Za (zr (zar rfl r0) zV) (by show 1<=1000;decide)) (zr (Za (zr (yt_c (.txt _)) (zr y60 zV)) (by decide)) zV)))) (by show 4<=1000;decide) fun lr us H1 s1 hlr er rr=>?_
 dsimp only[zW]
 have cut:∀{x:V}{y:T}{G:Hp},Same H G->RT H x y->RT G x y:=fun s r=>r.mono s
 refine⟨_,rfl,lr,rfl,⟨_,Sl er⟩,zcT (K:=K) (fun w=>.tup [w,tL p,tE p]) er rr (by show 4<=1000;decide) (fun x y G R sG ry hR=>?_) (fun y1 H2 D1 s2 rs1 hD1=>?_)⟩
 ·have sg:=s1.trans sG
  exact⟨_,rfl,_,rfl,_,rfl,zl3,fun a ha=>hR _ _ (Sn ha) (zgb zc (ry.mono (Sn ha)) ((cut sg r1).mono (Sn ha)) ((cut sg r2).mono (Sn ha)))⟩
 have s3:=(s1.trans s2).trans (Sn (o:=.lst y1) hD1)
 have e1:upd H2 D1 (.lst y1) D1=some (.lst y1):=zc
 have rs1:=rs1.mono (Sn (o:=.lst y1) hD1)
 generalize upd H2 D1 (.lst y1)=H3 at s3 e1 rs1
 have hl1:y1.length=4:=rs1.1
 have ro3:=cut s3 ro
 have t2:∀{x:V}{y:T}{z:Str}{σ:St}{G:Hp}{i:Nat},σ[i]?=some (some x)->RT G x y->YT (tTup (ZY (tTup (ZY (tC (.str z)) (ZY (tVar i) tNil))) tNil)) σ G (lk1 z y):=fun h r=>Za (zr (Za (zr (yt_c (.txt _)) (zr (zar h r) zV)) (by show 2<=1000;decide)) zV) (by show 1<=1000;decide)
 dsimp only[zW]
 refine asgL (ts:=wL1 o.toW.toT) (zr (Za (zr (Za (zr (yt_c (.txt _)) zV) (by decide)) zV) (by decide)) (zr (Za (zr (Za (zr (yt_c (.num _)) (zr (zar rfl ro3) zV)) (by show 2<=1000;decide)) zV) (by show 1<=1000;decide)) (zr (yt_c (.num _)) (zr (t2 rfl ro3) (zr (t2 rfl ro3) (zr (Za (zr (Za (zr (znA (uV "a") 401 (by decide +kernel) (by decide) (by decide)) (zr (zar rfl ro3) zV)) (by show 2<=1000;decide)) zV) (by show 1<=1000;decide)) zV)))))) (by show 6<=1000;decide) fun l2 u2 H4 s4 hl2 e2 rs2=>?_
 have hn2:u2.length=6:=rs2.1
 dsimp only[zW]
 refine⟨_,rfl,lstL (ts:=wL2) (zr (Za (zr (Za (zr (yt_c (.txt _)) (zr (Za (zr (yt_c (.txt _)) (zr (yt_c (.bl _)) zV)) (by decide)) zV)) (by decide)) zV) (by decide)) (zr (Za (zr (Za (zr (yt_c (.txt _)) (zr (Za (zr (yt_c (.txt _)) (zr (znB (K:=K) 61 (Za (zr (yt_c (.num 0)) zV) (by decide)) (by decide) (by decide)) zV)) (by decide)) zV)) (by decide)) zV) (by decide)) zV)) (by decide) fun l3 u3 H5 s5 hl3 e3 rs3=>?_⟩
 have hn3:u3.length=2:=rs3.1
 refine⟨l2,l3,u2,u3,rfl,rfl,s5 _ _ e2,e3,small (by lia),fun l4 hl4=>?_⟩
 have s6:=s5.trans (Sn (o:=.lst (u2++u3)) hl4)
 have e4:upd H5 l4 (.lst (u2++u3)) l4=some (.lst (u2++u3)):=zc
 have rs4:=zdf (s6) rs2 (rs3.mono (Sn (o:=.lst (u2++u3)) hl4))
 have s36:=s4.trans s6
 generalize upd H5 l4 (.lst (u2++u3))=H6 at s6 e4 rs4 s36
 generalize u2++u3=u4 at e4 rs4
 have s06:=s3.trans s36
 dsimp only[zW]
 refine⟨_,rfl,_,rfl,l4,rfl,⟨_,Sl e4⟩,zcT (K:=K) (fun w=>.tup [tR p,w,tE p]) e4 rs4 (by show 8<=1000;decide) (fun x y G R sG ry hR=>?_) (fun y2 H7 D2 s7 rs5 hD2=>?_)⟩
 ·have sg:=s06.trans sG
  exact⟨_,rfl,_,rfl,_,rfl,zl3,fun a ha=>hR _ _ (Sn ha) (zgb zc ((cut sg r0).mono (Sn ha)) (ry.mono (Sn ha)) ((cut sg r2).mono (Sn ha)))⟩
 have hn5:y2.length=8:=rs5.1
 have s7':=s7.trans (Sn (o:=.lst y2) hD2)
 refine⟨D1,D2,y1,y2,rfl,rfl,s7' _ _ (s36 _ _ e1),zc,small (by lia),fun l5 hl5=>?_⟩
 have s8:=s7'.trans (Sn (o:=.lst (y1++y2)) hl5)
 have e5:upd (upd H7 D2 (.lst y2)) l5 (.lst (y1++y2)) l5=some (.lst (y1++y2)):=zc
 have rs6:=zdf (s36.trans s8) rs1 (rs5.mono ((Sn (o:=.lst y2) hD2).trans (Sn (o:=.lst (y1++y2)) hl5)))
 generalize upd (upd H7 D2 (.lst y2)) l5 (.lst (y1++y2))=H8 at s8 e5 rs6
 generalize hy12:y1++y2=y12 at e5 rs6
 have hn12:y12.length=12:=by rw[←hy12,yC];lia
 have s08:=s06.trans s8
 have ro8:=cut s08 ro
 dsimp only[zW]
 have nilT:∀{σ:St}{G:Hp},YT (tTup tNil) σ G (.tup []):=Za zV (by decide)
 refine asgL (ts:=wE1 o.toW.toT) (zr (Za (zr (zar rfl ro8) zV) (by show 1<=1000;decide)) (zr (Za (zr (Za (zr (yt_c (.txt _)) (zr (yt_c .non) zV)) (by decide)) (zr nilT zV)) (by decide)) (zr (zar rfl ro8) (zr (Za (zr (Za (zr (yt_c (.txt _)) (zr (yt_c (.txt _)) (zr (yt_c (.num _)) zV))) (by decide)) (zr nilT zV)) (by decide)) (zr (Za (zr (zar rfl ro8) (zr (Za (zr (yt_c (.num _)) zV) (by decide)) zV)) (by show 2<=1000;decide)) zV))))) (by show 5<=1000;decide) fun l6 u6 H9 s9 hl6 e6 rs7=>?_
 have hn6:u6.length=5:=rs7.1
 have ro9:=cut (s08.trans s9) ro
 dsimp only[zW]
 refine⟨_,rfl,lstL (ts:=wE2 o.toW.toT) (zr (Za (zr (Za (zr (yt_c (.txt _)) (zr y60 zV)) (by show 2<=1000;decide)) (zr nilT zV)) (by show 2<=1000;decide)) (zr (Za (zr (zar rfl ro9) (zr (Za (zr (Za (zr (Za (zr (yt_c (.txt _)) (zr (Za (zr (yt_c (.bl _)) zV) (by decide)) zV)) (by decide)) (zr nilT zV)) (by decide)) zV) (by decide)) zV)) (by show 2<=1000;decide)) zV)) (by show 2<=1000;decide) fun l7 u7 H10 s10 hl7 e7 rs8=>?_⟩
 have hn7:u7.length=2:=rs8.1
 refine⟨l6,l7,u6,u7,rfl,rfl,s10 _ _ e6,e7,small (by lia),fun l8 hl8=>?_⟩
 have s11:=s10.trans (Sn (o:=.lst (u6++u7)) hl8)
 have e8:upd H10 l8 (.lst (u6++u7)) l8=some (.lst (u6++u7)):=zc
 have rs9:=zdf s11 rs7 (rs8.mono (Sn (o:=.lst (u6++u7)) hl8))
 have s811:=s9.trans s11
 generalize upd H10 l8 (.lst (u6++u7))=H11 at s11 e8 rs9 s811
 generalize u6++u7=u8 at e8 rs9
 have s011:=s08.trans s811
 dsimp only[zW]
 refine⟨_,rfl,_,rfl,l8,rfl,⟨_,Sl e8⟩,zcT (K:=K) (fun w=>.tup [tR p,tL p,w]) e8 rs9 (by show 7<=1000;decide) (fun x y G R sG ry hR=>?_) (fun y3 H12 D3 s12 rs10 hD3=>?_)⟩
 ·have sg:=s011.trans sG
  exact⟨_,rfl,_,rfl,_,rfl,zl3,fun a ha=>hR _ _ (Sn ha) (zgb zc ((cut sg r0).mono (Sn ha)) ((cut sg r1).mono (Sn ha)) (ry.mono (Sn ha)))⟩
 have hn10:y3.length=7:=rs10.1
 have s12':=s12.trans (Sn (o:=.lst y3) hD3)
 refine⟨l5,D3,y12,y3,rfl,rfl,s12' _ _ (s811 _ _ e5),zc,small (by lia),fun l9 hl9=>?_⟩
 have s13:=s12'.trans (Sn (o:=.lst (y12++y3)) hl9)
 have e9:upd (upd H12 D3 (.lst y3)) l9 (.lst (y12++y3)) l9=some (.lst (y12++y3)):=zc
 have rs11:=zdf (s811.trans s13) rs6 (rs10.mono ((Sn (o:=.lst y3) hD3).trans (Sn (o:=.lst (y12++y3)) hl9)))
 generalize upd (upd H12 D3 (.lst y3)) l9 (.lst (y12++y3))=H13 at s13 e9 rs11
 generalize hy13:y12++y3=y13 at e9 rs11
 have hn13:y13.length=19:=by rw[←hy13,yC];lia
 have s013:=s011.trans s13
 have st0:=Step.ofSame' hb s013
 have n9b:l9≠b:=fun z=>by
  obtain⟨i1,i2,i3,eb⟩:=st0.box
  rw[z,eb] at e9
  have:=congrArg List.length (HO.lst.inj (Option.some.inj e9))
  rw[hn13] at this
  cases this
 dsimp only[zW]
 refine⟨_,rfl,_,rfl,b,rfl,st0.box,fun i H14 _ _ st1=>?_⟩
 refine⟨_,rfl,b,8,rfl,st1.box,by decide,by decide,fun z H15 hz _ st2=>?_⟩
 have st12:=st1.trans st2
 have stA:=st0.trans st12
 have rA:∀{x:V}{y:T},RT H x y->RT H15 x y:=fun r=>(cut s013 r).step st12 st0.box
 have r0A:=rA r0
 have r1A:=rA r1
 have r2A:=rA r2
 refine YA.run (ta:=ZY (tTup (ZY (tVar 2) (ZY (tVar 4) tNil))) (ZY (tTup (ZY (tVar 2) (ZY (tVar 3) (ZY (tVar 4) (ZY (tVar 4) tNil))))) tNil)) (H:=H15) (ts:=[.tup [tR p,tE p],.tup [tR p,tL p,tE p,tE p]]) ?_ fun u9 H16 s16 rs12=>?_
 ·exact zr (Za (zr (zar rfl r0A) (zr (zar rfl r2A) zV)) (by show 2<=1000;decide)) (zr (Za (zr (zar rfl r0A) (zr (zar rfl r1A) (zr (zar rfl r2A) (zr (zar rfl r2A) zV)))) (by show 4<=1000;decide)) zV)
 have hn14:u9.length=2:=rs12.1
 refine⟨small (by show u9.length+1+1<=_;lia),fun l10 hl10=>?_⟩
 have s17:=s16.trans (Sn (o:=.lst (.int i::.str z::u9)) hl10)
 have e10:upd H16 l10 (.lst (.int i::.str z::u9)) l10=some (.lst (.int i::.str z::u9)):=zc
 have rs13:RTs (upd H16 l10 (.lst (.int i::.str z::u9))) (.int i::.str z::u9) (w4 p i z):=.cons (.num i) (.cons (.txt z) (rs12.mono (Sn hl10)))
 generalize upd H16 l10 (.lst (.int i::.str z::u9))=H17 at s17 e10 rs13
 have hn15:(V.int i::V.str z::u9).length=4:=by show u9.length+1+1=4;lia
 generalize V.int i::V.str z::u9=u10 at e10 rs13 hn15
 have e9A:=s17 _ _ (st12.keep _ _ n9b e9)
 refine⟨l9,l10,y13,u10,rfl,rfl,e9A,e10,small (by lia),fun l11 hl11=>?_⟩
 have s18:=s17.trans (Sn (o:=.lst (y13++u10)) hl11)
 have e11:upd H17 l11 (.lst (y13++u10)) l11=some (.lst (y13++u10)):=zc
 have rs14:=zdf s18 (rs11.step st12 st0.box) (rs13.mono (Sn (o:=.lst (y13++u10)) hl11))
 generalize upd H17 l11 (.lst (y13++u10))=H18 at s18 e11 rs14
 generalize hy14:y13++u10=y14 at e11 rs14
 have hn16:y14.length=23:=by rw[←hy14,yC];lia
 dsimp only[zW]
 refine⟨_,rfl,lstL (ts:=w5) (zr nilT (zr (yt_c .non) (zr (Za (zr (yt_c (.txt _)) zV) (by decide)) zV))) (by decide) fun l12 u12 H19 s19 hl12 e12 rs15=>?_⟩
 have hn17:u12.length=3:=rs15.1
 refine⟨l11,l12,y14,u12,rfl,rfl,s19 _ _ e11,e12,small (by lia),fun l13 hl13=>?_⟩
 have s20:=s19.trans (Sn (o:=.lst (y14++u12)) hl13)
 have e13:upd H19 l13 (.lst (y14++u12)) l13=some (.lst (y14++u12)):=zc
 have rs16:=zdf s20 rs14 (rs15.mono (Sn (o:=.lst (y14++u12)) hl13))
 have n13:l13≠b:=IsBox.ne ((stA.trans (Step.ofSame' stA.box (s18.trans s19))).box) hl13
 generalize upd H19 l13 (.lst (y14++u12))=H20 at s20 e13 rs16
 generalize hy15:y14++u12=y15 at e13 rs16
 have hn18:y15.length=26:=by rw[←hy15,yC];lia
 have stB:=stA.trans (Step.ofSame' stA.box (s18.trans s20))
 dsimp only[zW]
 refine⟨_,rfl,_,rfl,_,rfl,_,_,rfl,.inl ⟨_,Sl e13,rfl⟩,b,_,rfl,stB.box,by lia,by lia,fun j H21 j0 j1 st21=>?_⟩
 have hj:j.toNat<y15.length:=by lia
 have hv:y15[j.toNat]?=some y15[j.toNat]:=yB hj
 have hat:atI y15 j=some y15[j.toNat]:=by
  have:=zS hv
  rw[show ((j.toNat:Nat):Int)=j by lia] at this
  exact this
 have rs17:=rs16.step st21 stB.box
 have hlt:j.toNat<(lies p o.toW.toT i z).length:=by
  have:=rs17.1
  show j.toNat<((wR p).map (fun w=>T.tup [w,tL p,tE p])++(wL1 o.toW.toT++wL2).map (fun w=>T.tup [tR p,w,tE p])++(wE1 o.toW.toT++wE2 o.toW.toT).map (fun w=>T.tup [tR p,tL p,w])++w4 p i z++w5).length
  lia
 have ht:(lies p o.toW.toT i z)[j.toNat]?=some (lies p o.toW.toT i z)[j.toNat]:=yB hlt
 have rt:=rs17.2 _ _ _ hv ht
 have bad:=znF pk go (i:=i) (z:=z) (by lia) _ (xB ht)
 exact⟨l13,_,j,_,rfl,rfl,Sl (st21.keep _ _ n13 e13),hat,q _ _ ⟨_,rt,bad.1,bad.2.1,bad.2.2.1,bad.2.2.2⟩ (stB.trans st21)⟩
inductive spLaw(K:tU)(vs:List V)(H:Hp)(Q:VK)(z3:XK):Prop
 |mk (a:Addr) (ns:List Int) (_:vs=[.ref a]) (_:SqL K H a (ns.map V.int)) (_:ns.length<=63) (_:∀H',Q (.bl true) H')
abbrev znH(K:tU):List V->Hp->VK->Prop:=fun xs H Q=>∃p ys,xs=[.ref p]/\((SqL K H p ys/\∀l,H l=none->Q (.ref l) (upd H l (.tup ys)))\/(SqT K H p ys/\Q (.ref p) H))
theorem seqO{t u:TS}{D:Ends}{σ:St}{H:Hp}(h:∀N:St->Hp->Prop,N=u D->t {D with nx:=N} σ H):tSeq t u D σ H:=h _ rfl
theorem zoG{r:List Nat}:Cut (10::r):=fun c s e=>by cases e;rfl
theorem zmB{g:Str×Pa}(h:GG g):(trG g).Ok:=by
 show TrOks [nmT "lay",trW numC (.txt g.1),trP g.2]
 refine zbh fun t ht=>?_
 rcases yG.mp ht with rfl|ht
 ·exact zaf (by decide +kernel)
 rcases yG.mp ht with rfl|ht
 ·exact zfk _ h.1
 ·rw[yH.mp ht];exact zow h.2.g
theorem zma{g:Str×Pa}(h:GG g):(trG g).deep<=91:=by
 have h1:=zlV h.2.g
 have h0:(trW numC (.txt g.1)).deep=0:=by rw[zff];rfl
 show 1+max 0 (max (trW numC (.txt g.1)).deep (max (trP g.2).deep 0))<=91
 lia
theorem zfl:∀gs:Gs,(∀g∈gs,GG g)->Spell (zeH gs) (pcTs (gs.map trG))
 |[],_=>by show Spell [] (pcTs []);rw[pcTs];exact .nil
 |[g],h=>by
  have:=ziY (zmB (h g yV))
  show Spell (shT (trG g)) (pcTs [trG g])
  rw[pcTs,pcTs,xH]
  exact this
 |g::g2::r,h=>by
  have ih:=zfl (g2::r) fun x hx=>h x (yM _ hx)
  have:=zcK _ (zmB (h g yV)) _ _ zoG (.gap (.inr rfl) ih)
  show Spell (shT (trG g)++10::zeH (g2::r)) (pcTs (trG g::(g2::r).map trG))
  rw[pcTs]
  exact this
theorem zmb{gs:Gs}(h:∀g∈gs,GG g):run (pcTs (gs.map trG)) [[]]=some [gs.map trG]:=by
 have d:deeps (gs.map trG)<=91:=zdO fun t ht=>by
  obtain⟨g,hg,rfl⟩:=yX.mp ht
  exact zma (h g hg)
 have:=run_pcTs (gs.map trG) [] [] [] (by show 0+1+_<=100;lia)
 rw[xH] at this
 rw[this]
 rfl
theorem zir:∀gs:Gs,(∀g∈gs,GG g)->(zeH gs).length<=765001*gs.length
 |[],_=>yS _
 |[g],h=>by
  have g1:=h g yV
  have:=zcS g1.1 g1.2
  show (shT (zeU g.1 g.2)).length<=765001*1
  lia
 |g::g2::r,h=>by
  have g1:=h g yV
  have h1:=zcS g1.1 g1.2
  have ih:=zir (g2::r) fun x hx=>h x (yM _ hx)
  show (shT (zeU g.1 g.2)++10::zeH (g2::r)).length<=765001*((g2::r).length+1)
  rw[yC,yF]
  lia
theorem zdP(rs:List Ro)(z:Str):goods (rs++[(z,none)])=goods rs:=by
 unfold goods
 rw[wW]
 exact xH _
theorem zdQ(rs:List Ro)(z:Str)(p:Pa):goods (rs++[(z,some p)])=goods rs++[(z,p)]:=by
 unfold goods
 rw[wW]
 rfl
noncomputable def rowW(g:Str×Pa):W:=.lst [.txt g.1,g.2.toW]
theorem zoH{H:Hp}{u:V}{g:Str×Pa}(h:RowR H u (roG g)):RW H u (rowW g):=by
 obtain⟨a,v,rfl,e,_,r,_⟩:=h
 exact RW.pair e (.txt _) r
theorem zkY{H:Hp}{us:List V}{gs:Gs}(hl:us.length=gs.length)(h:∀(j:Nat) (u:V) (g:Str×Pa),us[j]?=some u->gs[j]?=some g->RowR H u (roG g)):RWs H us (gs.map rowW):=by
 refine⟨by rw[yA,hl],fun i v w h1 h2=>?_⟩
 rw[yN] at h2
 obtain⟨g,hg,rfl⟩:=xV.mp h2
 exact zoH (h i v g h1 hg)
theorem zmc{gs:Gs}(h:∀g∈gs,GG g)(hl:gs.length<=10):(W.lst (gs.map rowW)).Nar/\(W.lst (gs.map rowW)).depth<60:=by
 have h1:∀g∈gs,(rowW g).Nar/\(rowW g).depth<=45:=fun g hg=>by
  have gp:=(h g hg).2
  have n:=(zov gp.g).1
  have r:=zkO g.2.r gp.g.r
  have e:=zkQ g.2.e gp.g.e (by have:=gp.em;lia)
  have hh:=gp.g.rh
  have hd:=gp.g.ed
  refine⟨zaI (by show 2<=1000;decide) fun w hw=>?_,?_⟩
  ·rcases yG.mp hw with rfl|hw
   ·exact zbL _
   ·rw[yH.mp hw];exact n
  ·have l:depths (g.2.ls.map lkW)<=14:=zax fun w hw=>by
    obtain⟨l,hl,rfl⟩:=yX.mp hw
    have ho:=zkP (gp.g.l l hl).2
    show 1+max 0 (max l.2.toW.depth 0)<=14
    lia
   show 1+max 0 (max (1+max g.2.r.toW.depth (max (1+depths (g.2.ls.map lkW)) (max g.2.e.toW.depth 0))) 0)<=45
   lia
 refine⟨zaI (by rw[yA];lia) fun w hw=>?_,?_⟩
 ·obtain⟨g,hg,rfl⟩:=yX.mp hw
  exact (h1 g hg).1
 ·have:depths (gs.map rowW)<=45:=zax fun w hw=>by
   obtain⟨g,hg,rfl⟩:=yX.mp hw
   exact (h1 g hg).2
  show 1+depths _<60
  lia
theorem zoI(xs:List V):(cutV xs (some 1) (some 11)).length<=10:=by
 have e1:HT.sIx xs.length 0 (some 1)=min 1 xs.length:=HT.sIx_nat _ _ 1
 have e2:HT.sIx xs.length xs.length (some 11)=min 11 xs.length:=HT.sIx_nat _ _ 11
 unfold cutV
 rw[e1,e2,yY]
 lia
structure LS(AL AS:Addr)(H0 H:Hp)(p l lr:Addr)(rs:List Ro)(us:List V):Prop where
 same:Same H0 H
 sh:ShAt AL AS H p l rs
 er:H lr=some (.lst us)
 ul:us.length=(goods rs).length
 row:∀(j:Nat)(u:V)(g:Str×Pa),us[j]?=some u->(goods rs)[j]?=some g->RowR H u (roG g)
 gl:(goods rs).length<=4
 gg:∀g∈goods rs,GG g
theorem LS.sm{AL AS:Addr}{H0 H H':Hp}{p l lr:Addr}{rs:List Ro}{us:List V}(h:LS AL AS H0 H p l lr rs us)(s:Same H H'):LS AL AS H0 H' p l lr rs us:=
 ⟨h.same.trans s,h.sh.same s,s _ _ h.er,h.ul,fun j u g a b=>(h.row j u g a b).tups (zh s),h.gl,h.gg⟩
theorem LS.lie{AL AS:Addr}{H0 H H':Hp}{p l lr:Addr}{rs:List Ro}{us:List V}{z:Str}(h:LS AL AS H0 H p l lr rs us)(hl:H0 l=none)(nl:lr≠l)(S:ShAt AL AS H' p l (rs++[(z,none)]))(k:∀c u,c≠l->H c=some u->H' c=some u):LS AL AS H0 H' p l lr (rs++[(z,none)]) us:=by
 have tps:Tups H H':=fun a vs e=>k _ _ (fun q=>by obtain⟨zs,e2,_⟩:=h.sh.li;rw[q,e2] at e;cases e) e
 refine⟨fun c o e=>k c o (zn e hl) (h.same _ _ e),S,k _ _ nl h.er,?_,?_,?_,?_⟩
 ·rw[zdP];exact h.ul
 ·rw[zdP];exact fun j u g a b=>(h.row j u g a b).tups tps
 ·rw[zdP];exact h.gl
 ·rw[zdP];exact h.gg
theorem LS.add{AL AS:Addr}{H0 H H':Hp}{p l lr t:Addr}{rs:List Ro}{us:List V}{z:Str}{v:V}{pa:Pa}(h:LS AL AS H0 H p l lr rs us)(hl:H0 l=none)(hr:H0 lr=none)(nl:lr≠l)(S:ShAt AL AS H' p l (rs++[(z,some pa)]))(k:∀c u,c≠l->H c=some u->H' c=some u)(ht:H' t=none)(ok:(W.txt z).Ok)(rv:RW H v pa.toW)(gp:GP pa)(h4:(goods rs).length<4):
  LS AL AS H0 (upd (upd H' t (.tup [.str z,v])) lr (.lst (us++[.ref t]))) p l lr (rs++[(z,some pa)]) (us++[.ref t]):=by
 have tps:Tups H H':=fun a vs e=>k _ _ (fun q=>by obtain⟨zs,e2,_⟩:=h.sh.li;rw[q,e2] at e;cases e) e
 have er':=k _ _ nl h.er
 have s1:Same H' (upd H' t (.tup [.str z,v])):=Sn ht
 have et:upd H' t (.tup [.str z,v]) t=some (.tup [.str z,v]):=zc
 generalize upd H' t (.tup [.str z,v])=H1 at s1 et
 have er1:=s1 _ _ er'
 have t2:=ZR (o:=.lst (us++[.ref t])) er1
 have k2:∀c o,c≠lr->H1 c=some o->upd H1 lr (.lst (us++[.ref t])) c=some o:=fun c o hc e=>by rw[zA hc];exact e
 have tt:Tups H (upd H1 lr (.lst (us++[.ref t]))):=fun a vs e=>t2 _ _ (s1 _ _ (tps _ _ e))
 refine⟨fun c o e=>k2 c o (zn e hr) (s1 _ _ (k c o (zn e hl) (h.same _ _ e))),?_,zc,?_,?_,?_,?_⟩
 ·refine S.keep (fun o e=>k2 _ _ nl.symm (s1 _ _ e)) fun c o n e=>k2 _ _ (fun q=>?_) (s1 _ _ e)
  rw[q,er'] at e
  exact n _ (Option.some.inj e).symm
 ·rw[zdQ,yC,yC,h.ul];rfl
 ·rw[zdQ]
  intro j u g a b
  have ul:=h.ul
  rcases zeG a with⟨hj,a⟩|⟨hj,rfl⟩
  ·rcases zeG b with⟨_,b⟩|⟨hj2,_⟩
   ·exact (h.row j u g a b).tups tt
   ·lia
  ·rcases zeG b with⟨hj2,_⟩|⟨_,rfl⟩
   ·lia
   ·exact⟨t,v,rfl,t2 _ _ et,ok,rv.mono tt,gp⟩
 ·rw[zdQ,yC]
  show _+1<=4
  lia
 ·rw[zdQ]
  intro g hg
  rcases yU.mp hg with hg|hg
  ·exact h.gg g hg
  ·rw[yH.mp hg];exact⟨ok,gp⟩
theorem zoJ{x y v:V}{k j:Nat}(hk:k<=1)(h:([x]++(yD k [y]).flatten)[j]?=some v):v=x\/v=y:=by
 have m:=xB h
 rcases yU.mp m with m|m
 ·exact .inl (yH.mp m)
 ·obtain⟨l,hl,m⟩:=List.mem_flatten.mp m
  rw[(List.mem_replicate.mp hl).2] at m
  exact .inr (yH.mp m)
theorem zbN:FnScope ["_law_script","_law_shelf","_law_rows","_law_k","_law_box_here","_law_who","_law_paper_here","_law_text_here","_law_other","_law_found","_law_lying"] ["_law_script"] (zi sLaw):=mkSc rfl (by decide +kernel)
theorem zoK(F:Fun K "law" "law" sLaw f fd)(G_show_shelf:Have P w K mg base "show_shelf" k ["shelf"] (spShowShelf ALaid AShelf))(G_Shelf_lying:zbW P w K mg base AShelf "lying" k ["self"] (spLying ALaid AShelf))(G_lloose:Have P w K mg base "_law_loose" k ["_law_text_here","_law_box_here"] (spLooseD))(G_lbox:Have P w K mg base "_law_box" k ["_law_script","_law_k"] (spBox K))(G_lalike:Have P w K mg base "_law_alike" k ["_law_found","_law_due"] (spAlk 60))(G_read_shelf:Have P w K mg base "read_shelf" k ["text"] (spReadS ALaid AShelf))(G_lrows_shown:Have P w K mg base "_law_rows_shown" k ["_law_rows"] (spRowsD))(G_ltake:Have P w K mg base "_law_take" k ["_law_box_here","_law_wide"] (spTake))(G_Shelf_lay:zbW P w K mg base AShelf "lay" k ["self","who","paper"] (spLay ALaid AShelf))(G_llie:Have P w K mg base "_law_lie" k ["_law_box_here","_law_paper_here"] (spLie))(G_lpaper:Have P w K mg base "_law_paper" k ["_law_box_here","_law_most"] (spPaperD))(G_ltext:Have P w K mg base "_law_text" k ["_law_box_here","_law_most"] (spText))(G_Shelf___init__:zcl P w K mg base AShelf "Shelf" k ["self"] (spShelfI AShelf))(m_int:mg "int"=none)(m_isi:mg "isinstance"=none)(m_len:mg "len"=none)(m_list:mg "list"=none)(m_range:mg "range"=none)(m_str:mg "str"=none)(m_tuple:mg "tuple"=none):FnOk P w K mg base CX0 (k+1) f fd ["_law_script"] (spLaw K):=by
 refine F.okQ zbN (by rintro _ _ _ _ ⟨_,_,rfl,_⟩;rfl) fun _ _ _ _ H vs Q E hr h=>?_
 obtain⟨sc,sn,rfl,hsc,hsn,q⟩:=h
 refine⟨_,(zd (zm (i:=1) zbN.nd rfl (Or.inl rfl) (zfI G_Shelf___init__ hr rfl))
  (zd (zE (PW.pt (Z6 (zk zaz (zo G_show_shelf hr rfl (za (pv 1) zb)) zg (nomark _)) (ZF (zk (zj3 (xG (wP _ 64) hr.units)) (ziP G_Shelf_lying hr (zo G_read_shelf hr rfl (za zg zb))) (zF zb) (nomark _))))) (zf (zl Z5)) zq)
  (zd (zm (i:=2) zbN.nd rfl (Or.inl rfl) (zF zb))
  (zd (zaL tN rfl (zbs rfl m_range (za ze (za (zu Zj ze (zj zB rfl m_len tF (za (Zv zjz (pv 0) (Zn ze) (Zn ze)) zb))) zb))) (Zb (i:=3) zbN.nd rfl (Or.inl rfl)) (zd (zm (i:=4) zbN.nd rfl (Or.inl rfl) (zo G_lbox hr rfl (za (pv 0) (za (pv 3) zb))))
  (zd (zm (i:=5) zbN.nd rfl (Or.inl rfl) (zo G_ltext hr rfl (za (pv 4) (za ze zb))))
  (zd (zm (i:=6) zbN.nd rfl (Or.inl rfl) (zo G_lpaper hr rfl (za (pv 4) (za ze zb))))
  (zf (zE (PW.pt (Z6 (zk zY (zo G_ltake hr rfl (za (pv 4) (za ze zb))) ze (nomark _)) (ZF (zk zY (zj zB rfl m_len tF (za (pv 2) zb)) ze (nomark _))))) (zf (Zm (pe_m G_Shelf_lay hr (pv 1) (za (pv 5) (za (zo G_llie hr rfl (za (pv 4) (za (pv 6) zb))) zb))))) (zd (Zm (pe_m G_Shelf_lay hr (pv 1) (za (pv 5) (za (pv 6) zb))))
  (zf (Zm (ZZ tO tQ tP ZC (pv 2) (za (zy (za (pv 5) (za (pv 6) zb))) zb)))))))))))
  (zd (zm (i:=7) zbN.nd rfl (Or.inl rfl) (zo G_show_shelf hr rfl (za (pv 1) zb)))
  (zd (zE (PW.pt (Z6 (ZA (zX (zj zP rfl m_isi zQ (za (pv 7) (za (ZP rfl m_str ZI) zb))))) (ZF (zk zaz (pv 7) (zo G_lrows_shown hr rfl (za (pv 2) zb)) (nomark _))))) (zf (zl Z5)) zq)
  (zd (zaL tN rfl (ZX (zu zaj (zF (za (pv 7) zb)) (zu zhQ (zF (za (zo G_lloose hr rfl (za (pv 7) (za (zo G_lbox hr rfl (za (pv 0) (za ze zb))) zb))) zb)) (zD zaA rfl m_int ZQ (za (zJ (zj3 (xG (wP _ 64) hr.units)) (pv 2) (zF zb) (nomark _)) zb))))) (Zb (i:=8) zbN.nd rfl (Or.inl rfl)) (zd (zm (i:=9) zbN.nd rfl (Or.inl rfl) (ziP G_Shelf_lying hr (zo G_read_shelf hr rfl (za (pv 8) zb))))
  (zd (zm (i:=10) zbN.nd rfl (Or.inl rfl) (zD (show zaQ _ (.type "tuple") (znH K) from zK) rfl m_tuple zC (za (zN [] [] rfl rfl (by decide +kernel) rfl (by decide +kernel) rfl (by decide +kernel) trivial rfl trivial (ZX (pv 9)) (fun C s H fp=>⟨zM,(zD (show zaQ _ (.type "tuple") (znH K) from zK) rfl m_tuple zC (za (pv 0) zb))⟩)) zb)))
  (zf (zE (PW.pt (Z6 (ZA (zX (zj zP rfl m_isi zQ (za (pv 9) (za (ZP rfl m_list zav) zb))))) (ZF (ZA (zX (zo G_lalike hr rfl (za (pv 10) (za (zD (show zaQ _ (.type "tuple") (znH K) from zK) rfl m_tuple zC (za (pv 2) zb)) zb)))))))) (zf (zl Z5)) zq)))))
  (zf (zl (Zt (zJ zY (zj zB rfl m_len tF (za (ziP G_Shelf_lying hr (pv 1)) zb)) (zj zB rfl m_len tF (za (Zv zjz (pv 0) (Zn ze) (Zn ze)) zb)) (nomark _)) (ZG (zJ zY (zo G_show_shelf hr rfl (za (pv 1) zb)) (pv 7) (nomark _))))))))))))),nm8 ?_⟩
 intros
 refine zoA (zkX (AL:=ALaid) fun ps ls H1 S1 el1 s1 hps hls=>?_)
 dsimp only[zW]
 refine seqO fun N hN=>?_
 refine⟨_,rfl,ps,ls,[],rfl,S1,by decide,fun x0 H2 hx0 s2=>⟨rfl,_,rfl,?_⟩⟩
 rw[dyS (zkc (hx0.trans (show zeH (goods [])=(uV "").cps.toList from rfl)))]
 refine iteF ⟨uV "",[],[],rfl,.nil,rfl,by decide,(fun g h=>nomatch h),by decide,fun p2 l2 H3 s3 hp2 hl2 S3=>?_⟩
 obtain⟨dx3,ei3⟩:=S3.ob
 refine⟨p2,dx3,_,rfl,ei3,zhE _ (by decide +kernel),p2,l2,[],rfl,S3,by decide,fun lq rvs H4 hlq s4 elq hrl hat=>⟨zl0,fun le hle=>?_⟩⟩
 obtain rfl:rvs=[]:=yR.mp hrl
 have s5:=Sn (o:=.lst []) hle
 refine⟨lq,le,[],rfl,rfl,Sl (s5 _ _ elq),Sl zc,_,rfl,iteF ?_⟩
 have s14:=((s2.trans s3).trans s4).trans s5
 generalize upd H4 le (.lst [])=H5 at s14
 show N _ _
 subst hN
 have S5:=S1.same s14
 have s05:=s1.trans s14
 clear S3 hat elq ei3
 refine seqO fun N hN=>?_
 refine⟨zl0,fun lr hlr=>?_⟩
 have hlr0:H lr=none:=s05.free hlr
 have nl:lr≠ls:=(zn (s14 _ _ el1) hlr).symm
 have s6:=Sn (o:=.lst []) hlr
 have er6:upd H5 lr (.lst []) lr=some (.lst []):=zc
 generalize upd H5 lr (.lst [])=H6 at s6 er6
 have L0:LS ALaid AShelf H H6 ps ls lr [] []:=⟨s05.trans s6,S5.same s6,er6,rfl,(fun j u g h=>by rw[wX] at h;cases h),by decide,(fun g h=>nomatch h)⟩
 clear S5 s05 s14 s6 er6 hlr
 dsimp only[zW]
 show N _ _
 subst hN
 refine seqI (fun σ' H'=>∃(o3 o4 o5 o6:Option V)(rs:List Ro)(us:List V),σ'=[some (.ref sc),some (.ref ps),some (.ref lr),o3,o4,o5,o6,none,none,none,none]/\LS ALaid AShelf H H' ps ls lr rs us/\rs.length=(cutV (sn.map V.int) (some 1) (some 11)).length) (fun σ' H4 h=>?_) (fun tl=>?_)
 rotate_left
 ·refine⟨_,rfl,1,rfl,11,rfl,sc,_,rfl,L0.same.seq hsc,fun cl hcl=>?_⟩
  have s3:=Sn (o:=.lst (cutV (sn.map V.int) (some 1) (some 11))) hcl
  have e3:upd H6 cl (.lst (cutV (sn.map V.int) (some 1) (some 11))) cl=some (.lst (cutV (sn.map V.int) (some 1) (some 11))):=zc
  have hcut:=zoI (sn.map V.int)
  generalize cutV (sn.map V.int) (some 1) (some 11)=cv at s3 e3 hcut tl
  generalize upd H6 cl (.lst cv)=H7 at s3 e3
  refine⟨_,_,rfl,.inl ⟨_,Sl e3,rfl⟩,_,_,rfl,rfl,?_⟩
  refine⟨1,1+(cv.length:Int),rfl,⟨by decide,by decide,by lia,by lia⟩,zdR (lo:=1) (n:=(1+(cv.length:Int)-1).toNat) (fun i σ' H'=>∃(o3 o4 o5 o6:Option V)(rs:List Ro)(us:List V),σ'=[some (.ref sc),some (.ref ps),some (.ref lr),o3,o4,o5,o6,none,none,none,none]/\LS ALaid AShelf H H' ps ls lr rs us/\rs.length=i)
   ⟨none,none,none,none,[],[],rfl,L0.sm s3,rfl⟩ (fun i σ' H' hi h=>?_) (fun σ' H' h=>?_)⟩
  ·obtain⟨o3,o4,o5,o6,rs,us,rfl,L,hrs⟩:=h
   have hi10:i<10:=by lia
   refine seqO fun N hN=>?_
   refine⟨_,rfl,_,rfl,sc,sn,_,rfl,L.same.seq hsc,by lia,fun y1 y2 y3 b hb=>?_⟩
   have hbox:IsBox (upd H' b (.lst [.int y1,.int y2,.int y3])) b:=⟨_,_,_,zc⟩
   have sb:Same H' (upd H' b (.lst [.int y1,.int y2,.int y3])):=Sn hb
   generalize upd H' b (.lst [.int y1,.int y2,.int y3])=H8 at hbox sb
   dsimp only[zW]
   show N _ _
   subst hN
   refine seqO fun N hN=>?_
   refine⟨_,rfl,b,12,rfl,hbox,by decide,by decide,fun z H9 hz hz2 st9=>?_⟩
   have ok:(W.txt z).Ok:=⟨by lia,hz2⟩
   dsimp only[zW]
   show N _ _
   subst hN
   refine seqO fun N hN=>?_
   refine⟨_,rfl,b,rfl,st9.box,fun t p H10 rp gp hr' m1 m2 m3 m4 st10=>?_⟩
   have gp':GP p:=⟨gp,hr',m1,m2,m3⟩
   dsimp only[zW]
   show N _ _
   subst hN
   refine⟨_,rfl,b,2,rfl,st10.box,by decide,by decide,fun r H11 r0 r1 st11=>⟨rfl,_,rfl,?_⟩⟩
   have st:=(st9.trans st10).trans st11
   have s11:Same H' H11:=fun c o e=>st.keep c o (zn e hb) (sb c o e)
   have rp11:=rp.mono (st11.tups st10.box)
   have L11:=L.sm s11
   obtain⟨dx,ei⟩:=L11.sh.ob
   refine (fun lieB=>ite2 (fun _=>lieB) fun _=>?_) ?lie
   case lie=>
    refine⟨_,rfl,ps,dx,_,rfl,ei,zhE _ (by decide +kernel),_,rfl,_,rfl,_,rfl,b,t,p,rfl,st11.box,rp11,gp',fun v H12 rv st12=>?_⟩
    have s12:Same H' H12:=fun c o e=>st12.keep c o (zn e hb) (s11 c o e)
    have L12:=L.sm s12
    refine⟨ps,ls,z,v,rs,none,rfl,L12.sh,ok,rv,by lia,fun H13 S13 k13=>⟨_,_,_,_,rs++[(z,none)],us,rfl,L12.lie hls nl S13 k13,by rw[yC,hrs];rfl⟩⟩
   refine⟨_,rfl,_,_,rfl,.inl ⟨_,Sl L11.er,rfl⟩,rfl,_,rfl,?_⟩
   refine ite2 (fun _=>lieB) fun h4=>?_
   have h4':us.length≠4:=fun e=>h4 (by rw[e];rfl)
   have ul:=L.ul
   have gl:=L.gl
   refine⟨_,rfl,ps,dx,_,rfl,ei,zhE _ (by decide +kernel),_,rfl,_,rfl,ps,ls,z,.ref t,rs,some p,rfl,L11.sh,ok,⟨rp11,gp'⟩,by lia,fun H12 S12 k12=>?_⟩
   have er12:=k12 _ _ nl L11.er
   refine⟨_,rfl,.inl ⟨rfl,_,Sl er12⟩,_,rfl,_,rfl,zl2,fun tt htt=>⟨lr,us,.ref tt,rfl,rfl,(Sn htt) _ _ er12,xG (show us.length<=10 by lia) (by decide),?_⟩⟩
   exact⟨_,_,_,_,rs++[(z,some p)],us++[.ref tt],rfl,L11.add hls hlr0 nl S12 k12 htt ok rp11 gp' (by lia),by rw[yC,hrs];rfl⟩
  ·obtain⟨o3,o4,o5,o6,rs,us,rfl,L,hrs⟩:=h
   exact tl _ _ ⟨o3,o4,o5,o6,rs,us,rfl,L,by lia⟩
 obtain⟨o3,o4,o5,o6,rs,us,rfl,L,hrs⟩:=h
 have hcut:=zoI (sn.map V.int)
 rw[←hrs] at hcut
 refine seqO fun N hN=>?_
 refine⟨_,rfl,ps,ls,rs,rfl,L.sh,hcut,fun x H5 hx s5=>?_⟩
 have L5:=L.sm s5
 have gl:=L.gl
 have gg:=L.gg
 dsimp only[zW]
 show N _ _
 subst hN
 refine seqO fun N hN=>?_
 refine⟨_,rfl,_,_,_,true,rfl,.str x,zdl,_,rfl,iteF ?_⟩
 refine⟨_,rfl,_,rfl,lr,us,goods rs,rfl,L5.er,L5.ul,by lia,L5.row,fun y H7 hy s7=>⟨rfl,_,rfl,?_⟩⟩
 rw[dyS (zkc (hx.trans hy.symm))]
 refine iteF ?_
 have L7:=L5.sm s7
 have hxl:x.length<=4000000:=by
  have:=zir _ gg
  rw[←zH,hx]
  lia
 have sp0:Spell x.cps.toList (pcTs ((goods rs).map trG)):=by rw[hx];exact zfl _ gg
 have hul:=L.ul
 show N _ _
 subst hN
 refine seqO fun N hN=>?_
 refine⟨_,rfl,zl1,fun la hla=>?_⟩
 have s8:=Sn (o:=.lst [.str x]) hla
 have ea:upd H7 la (.lst [.str x]) la=some (.lst [.str x]):=zc
 generalize upd H7 la (.lst [.str x])=H8 at s8 ea
 have L8:=L7.sm s8
 refine⟨_,rfl,_,rfl,sc,sn,1,rfl,L8.same.seq hsc,by decide,fun y1 y2 y3 b hb=>?_⟩
 have hbox:IsBox (upd H8 b (.lst [.int y1,.int y2,.int y3])) b:=⟨_,_,_,zc⟩
 have sb:Same H8 (upd H8 b (.lst [.int y1,.int y2,.int y3])):=Sn hb
 generalize upd H8 b (.lst [.int y1,.int y2,.int y3])=H9 at hbox sb
 refine⟨b,x,_,rfl,hbox,sp0,hxl,fun y2 H10 sp2 hy2 st10=>⟨zl1,fun lb hlb=>?_⟩⟩
 have s10:Same H8 H10:=fun c o e=>st10.keep c o (zn e hb) (sb c o e)
 have s11:=Sn (o:=.lst [.str y2]) hlb
 have eb:upd H10 lb (.lst [.str y2]) lb=some (.lst [.str y2]):=zc
 generalize upd H10 lb (.lst [.str y2])=H11 at s11 eb
 have s811:=s10.trans s11
 refine⟨_,rfl,zl0,fun le hle=>?_⟩
 have s12:=Sn (o:=.lst []) hle
 have s812:=s811.trans s12
 have L12:=L8.sm s812
 refine⟨lr,le,us,rfl,rfl,Sl L12.er,Sl zc,.inr ⟨_,rfl,?_⟩⟩
 have eb12:=s12 _ _ eb
 have ea12:=s812 _ _ ea
 generalize upd H11 le (.lst [])=H12 at s12 s812 L12 eb12 ea12
 obtain⟨k,hk,hk1⟩:∃k:Nat,(if (!us.isEmpty)=true then (1:Int) else 0)=(k:Int)/\k<=1:=by
  cases us with
  |nil=>exact⟨0,rfl,by decide⟩
  |cons a r=>exact⟨1,rfl,by decide⟩
 rw[hk]
 refine⟨lb,_,_,rfl,rfl,eb12,by lia,by lia,?_,fun lp hlp=>?_⟩
 ·rw[vI]
  exact small (by show 1*k<=_;lia)
 rw[vI]
 have s13:=Sn (o:=.lst (yD k [V.str y2]).flatten) hlp
 have hfl:(yD k [V.str y2]).flatten.length<=1:=by rw[zg7];show k*1<=1;lia
 refine⟨la,lp,_,_,rfl,rfl,s13 _ _ ea12,zc,small (by show 1+_<=_;lia),fun lz hlz=>?_⟩
 have L13:=L12.sm (s13.trans (Sn (o:=.lst ([V.str x]++(yD k [V.str y2]).flatten)) hlz))
 have ez:upd (upd H12 lp (.lst (yD k [V.str y2]).flatten)) lz (.lst ([V.str x]++(yD k [V.str y2]).flatten)) lz=some (.lst ([V.str x]++(yD k [V.str y2]).flatten)):=zc
 generalize upd (upd H12 lp (.lst (yD k [V.str y2]).flatten)) lz (.lst ([V.str x]++(yD k [V.str y2]).flatten))=H14 at L13 ez
 refine⟨lz,rfl,⟨_,Sl ez⟩,?_⟩
 refine zdG (K:=K) (xs:=[V.str x]++(yD k [V.str y2]).flatten) (fun i σ' H'=>∃o8 o9 o10:Option V,σ'=[some (.ref sc),some (.ref ps),some (.ref lr),o3,o4,o5,o6,some (.str x),o8,o9,o10]/\LS ALaid AShelf H H' ps ls lr rs us/\H' lz=some (.lst ([V.str x]++(yD k [V.str y2]).flatten))) ⟨none,none,none,rfl,L13,ez⟩ (fun i σ' H' _ h=>?_) (fun i v σ' H' hv h=>?_) (fun σ' H' h=>?_)
 ·obtain⟨_,_,_,_,_,e⟩:=h
  exact Sl e
 ·obtain⟨o8,o9,o10,rfl,LI,e⟩:=h
  obtain⟨t,rfl,spt,htl⟩:∃t:Str,v=.str t/\Spell t.cps.toList (pcTs ((goods rs).map trG))/\t.length<=10000000:=by
   rcases zoJ hk1 hv with rfl|rfl
   ·exact⟨x,rfl,sp0,by lia⟩
   ·exact⟨y2,rfl,sp2,by lia⟩
  dsimp only[zW]
  refine seqO fun N2 hN2=>?_
  refine⟨_,rfl,t,_,goods rs,rfl,spt,zmb gg,htl,gg,by lia,fun p2 l2 H15 s15 hp2 hl2 S15=>?_⟩
  obtain⟨dx2,ei2⟩:=S15.ob
  refine⟨p2,dx2,_,rfl,ei2,zhE _ (by decide +kernel),p2,l2,_,rfl,S15,by rw[yA];lia,fun lq rvs H16 hlq s16 elq hrl hat=>?_⟩
  rw[yA] at hrl
  dsimp only[zW]
  show N2 _ _
  subst hN2
  refine seqO fun N2 hN2=>?_
  refine⟨_,rfl,lq,rfl,⟨_,Sl elq⟩,?_⟩
  have hat':∀(j:Nat)(u:V)(g:Str×Pa),rvs[j]?=some u->(goods rs)[j]?=some g->RowR H16 u (roG g):=fun j u g a b'=>hat j u _ a (by rw[yN,b'];rfl)
  refine zh0 (K:=K) rvs (Sl elq) rfl (small (by lia)) (fun j v2 y3 H17 R hv2 hy3 sm r=>?_) (fun H17 D sm hD=>?_)
  ·have hj:j<(goods rs).length:=by rw[←hrl];exact (yE.mp hv2).1
   obtain⟨a,u,rfl,ea',_⟩:=hat' j v2 _ hv2 (yB hj)
   rw[hv2] at hy3
   cases hy3
   exact⟨_,rfl,a,_,rfl,.inr ⟨Sq (sm _ _ ea'),r _ (Sr _)⟩⟩
  ·have s18:=Sn (o:=.lst rvs) hD
   have eD:upd H17 D (.lst rvs) D=some (.lst rvs):=zc
   generalize upd H17 D (.lst rvs)=H18 at s18 eD
   refine⟨D,rvs,rfl,.inl ⟨Sl eD,fun t1 ht1=>?_⟩⟩
   have s19:=Sn (o:=.tup rvs) ht1
   have et1:upd H18 t1 (.tup rvs) t1=some (.tup rvs):=zc
   generalize upd H18 t1 (.tup rvs)=H19 at s19 et1
   have s1619:=(sm.trans s18).trans s19
   have s_19:=(s15.trans s16).trans s1619
   have L19:=LI.sm s_19
   dsimp only[zW]
   show N2 _ _
   subst hN2
   refine⟨_,rfl,_,_,_,true,rfl,.lst (s1619 _ _ elq),(by decide +kernel),_,rfl,iteF ?_⟩
   refine⟨_,rfl,_,rfl,lr,us,rfl,.inl ⟨Sl L19.er,fun t2 ht2=>?_⟩⟩
   have s20:=Sn (o:=.tup us) ht2
   have et2:upd H19 t2 (.tup us) t2=some (.tup us):=zc
   generalize upd H19 t2 (.tup us)=H20 at s20 et2
   have L20:=L19.sm s20
   have r1:=zkY hrl fun j u g a b'=>(hat' j u g a b').tups (zh (s1619.trans s20))
   have r2:=zkY hul L20.row
   obtain⟨nar,dep⟩:=zmc gg (by lia)
   refine⟨.ref t1,.ref t2,_,dep,rfl,.lst (s20 _ _ et1) r1.len r1.at',.lst et2 r2.len r2.at',nar,fun H21 s21=>⟨_,rfl,iteF ?_⟩⟩
   exact⟨_,_,_,rfl,L20.sm s21,s21 _ _ (s20 _ _ (s_19 _ _ e))⟩
 ·obtain⟨o8,o9,o10,rfl,LI,e⟩:=h
  show N _ _
  subst hN
  obtain⟨dx2,ei2⟩:=LI.sh.ob
  refine⟨_,rfl,ps,dx2,_,rfl,ei2,zhE _ (by decide +kernel),ps,ls,rs,rfl,LI.sh,by lia,fun lq rvs H16 hlq s16 elq hrl hat=>?_⟩
  have L16:=LI.sm s16
  refine⟨_,_,rfl,.inl ⟨_,Sl elq,rfl⟩,_,rfl,1,rfl,11,rfl,sc,_,rfl,L16.same.seq hsc,fun cl hcl=>?_⟩
  have s17:=Sn (o:=.lst (cutV (sn.map V.int) (some 1) (some 11))) hcl
  have ec:upd H16 cl (.lst (cutV (sn.map V.int) (some 1) (some 11))) cl=some (.lst (cutV (sn.map V.int) (some 1) (some 11))):=zc
  have L17:=L16.sm s17
  generalize cutV (sn.map V.int) (some 1) (some 11)=cv at ec hrs s17 L17
  generalize upd H16 cl (.lst cv)=H17 at L17 ec
  refine⟨_,_,rfl,.inl ⟨_,Sl ec,rfl⟩,rfl,?_⟩
  refine⟨_,rfl,?_⟩
  rw[show decide (V.int (rvs.length:Int)=V.int (cv.length:Int))=true from decide_eq_true (by rw[hrl,hrs])]
  refine iteT ⟨_,rfl,ps,ls,rs,rfl,L17.sh,hcut,fun x2 H18 hx2 s18=>⟨_,rfl,rfl,?_⟩⟩
  rw[dyS (zkc (hx2.trans hx.symm))]
  exact q _
end D
namespace PySem.W.Fast
def tw7105285482289938939:=Nat
def tw10779795843716484062:=Nat
def tw2641446181472239180:=Nat
def tw4551184340090498558:=Nat
def tw1406132657802989347:=Nat
def tw3617786060150213229:=Nat
def tw16090333639336609009:=Nat
def tw6052795338266815210:=Nat
def tw6030253109646379767:=Nat
def tw17726001786967802668:=Nat
def tw14792790462369497514:=Nat
def tw1343720465204775127:=Nat
def tw13525189389435944540:=Nat
def tw17398002253857051318:=Nat
def tw1186248194737898954:=Nat
def tw4591780298072931636:=Nat
def tw8291725692190143093:=Nat
def tw5630440978859963209:=Nat
def tw2762143353338635898:=Nat
def tw5097903836900565005:=Nat
def tw15458961890018185870:=Nat
def tw11209739074624779502:=Nat
def tw6424019775102801029:=Nat
def tw17118577816251157469:=Nat
def tw17475359966712458479:=Nat
def tw8021589138577355007:=Nat
def tw16772351540655778687:=Nat
def tw7937399913760414140:=Nat
def tw18159203076149670825:=Nat
def tw4759992432649006563:=Nat
def tw6061786811977878691:=Nat
def tw11076346641223709196:=Nat
def tw4102364969700595814:=Nat
def tw16682320329618769072:=Nat
def tw17469023444221360012:=Nat
def tw16843115630866735847:=Nat
def tw279672997585563543:=Nat
def tw13875892294708151584:=Nat
def tw12624109499580954302:=Nat
def tw14722520066072898940:=Nat
def tw8413658517456503404:=Nat
def tw16227759835385459991:=Nat
def tw7019320443841232997:=Nat
def tw6748548732097847261:=Nat
def tw16891046640165251448:=Nat
def tw14698852042818606634:=Nat
def tw8756835828072619803:=Nat
def tw17337611879650407949:=Nat
def tw9717288146436862460:=Nat
def tw6929155882942203513:=Nat
def tw2703288235872573604:=Nat
def tw2504278255552453193:=Nat
def tw7994700077332808262:=Nat
def tw14718919039632109201:=Nat
def tw14484467351807165865:=Nat
def tw10403956411962621383:=Nat
def tw7176432602418465140:=Nat
def tw12042124963258253537:=Nat
def tw2092388892391745120:=Nat
def tw13884713146491422098:=Nat
def tw2871760129981652316:=Nat
def tw4666140858831713145:=Nat
def tw16103202667160258581:=Nat
def tw7290093272853559346:=Nat
def tw15472765530644784562:=Nat
def tw238823689172271453:=Nat
def tw16339861974708905909:=Nat
def tw3143988655222168536:=Nat
def tw18303725879072196951:=Nat
def tw615835944510892185:=Nat
def tw4190136738949218060:=Nat
def tw14751803945527464985:=Nat
def tw8959718064886279788:=Nat
def tw13394917080102712934:=Nat
def tw11893673790041062079:=Nat
def tw10226881878036413741:=Nat
def tw16705813980803593490:=Nat
def tw13673039667032884860:=Nat
def tw5273866826698050488:=Nat
def tw15040191080467441656:=Nat
def tw15701010346308942271:=Nat
def tw14288535257507274355:=Nat
def tw10072976562241752579:=Nat
def tw3694741220274878247:=Nat
def tw13590924472296045427:=Nat
def tw14396147951094984436:=Nat
def tw15202292435231901563:=Nat
def tw4969377974648449284:=Nat
def tw3989555615480803732:=Nat
def tw16474353455809631195:=Nat
def tw7252199940088101104:=Nat
def tw17466579626888102074:=Nat
def tw17552578950596950300:=Nat
def tw1461725268350964245:=Nat
def tw11887227261219888847:=Nat
def tw4056861926352795998:=Nat
def tw7989926259685496292:=Nat
def tw81549429400750559:=Nat
def tw11705578521556735510:=Nat
def tw12830513381692785554:=Nat
def tw12262103968602718366:=Nat
def tw14274292861709484518:=Nat
def tw15530291136676127950:=Nat
def tw10314092538814049382:=Nat
def tw13263190521952205979:=Nat
def tw13127290385272160252:=Nat
def tw3728086770771295707:=Nat
def tw13488629697542956527:=Nat
def tw13226536928931706029:=Nat
def tw12352910266387878480:=Nat
def tw15496734152516408007:=Nat
def tw6867462236991896443:=Nat
def tw10515065633107997281:=Nat
def tw14357361874728260101:=Nat
def tw3019270785605314279:=Nat
def tw7910872202799557981:=Nat
def tw1770719662781152302:=Nat
def tw7293322778958825910:=Nat
def tw1149391216632110052:=Nat
def tw2176201873423267439:=Nat
def tw18272760200367226521:=Nat
def tw17101072578024563312:=Nat
def tw15195957064466872503:=Nat
def tw1835948695625663959:=Nat
def tw5554445599425659354:=Nat
def tw6171084229437166879:=Nat
def tw13334906124757010072:=Nat
def tw13015288192179928379:=Nat
def tw12228761220424445171:=Nat
def tw17150088740619246442:=Nat
end PySem.W.Fast
namespace D
open PySem L2
theorem zae{P:Program}{w:World}{K:tU}{mg:Str->Option Value}{base:Heap}{f:Addr}{fd:tV}{ps:List Str}{sp:Sp}{CX:CXT}(no:∀vs H Q E,¬sp vs H Q E)(k:Nat):FnOk P w K mg base CX k f fd ps sp:=
 ⟨fun vs H Q E h=>absurd h (no vs H Q E),fun A outer s H args us vs Q E _ _ _ _ h=>absurd h (no vs H Q E)⟩
noncomputable def lvP(L:Nat):Nat->Nat
 |0=>L
 |n+1=>lvP L n+2
theorem zg3(L:Nat):∀n:Nat,L<=lvP L n
 |0=>yO _
 |n+1=>yQ (zg3 L n) (wP _ 2)
abbrev nI(K:tU)(s:Str)(f:Addr):Prop:=nsIn K tG s=some (some (.ref f))
abbrev lI(K:tU)(f:Addr)(s:Str)(t:Stmt)(oc:Value)(od:Option Addr)(kV dc pm:Value)(an:Option Addr)(cd ct:Value)(sl:Array (Option Value)):Prop:=K.lookup f=some ⟨oc,od,.func (fnOf s s (ZT t) (ZH t) (zi t) .none kV dc pm an cd ct),sl⟩
abbrev cI(K:tU)(c:Value)(s:Str):Prop:=codeIn K c s=true
abbrev kI(K:tU)(f:Addr):Prop:=keepIn K (.ref f)=true
theorem hv(P:Program)(w:World){K:tU}{mg:Str->Option Value}(base:Heap)(k:Nat){ps:List Str}{sp:Sp}{f:Addr}{fd:tV}{x:Str}(F:FnOk P w K mg base CX0 (k+1) f fd ps sp)(b:Binds K fd ps [])(c:keepIn K (.ref f)=true)(m:mg x=some (.ref f)):Have P w K mg base x (k+1) ps sp:=⟨_,_,F,b,c,m⟩
abbrev gI(K:tU)(f:Addr)(s:Str)(t:Stmt):Prop:=∃fd,Fun K s s t f fd
theorem zoL{l:PySem.W.OpenLaw}{w:World}{K:tU}{h:Heap}{mg:Str->Option Value}{fa f0 f1 f2 f3 f4 f5 f6 f7 f8 f9 f10 f11 f12 f13 f14 f15 f16 f17 f18 f19 f20 f21 f22 f23 f24 f25 f26 f27 f28 f29 f30 f31 f32 f33 f34 f35 f36 f37 f38 f39 f40 f41 f42 f43 f44 f45 f46 f47 f48 f49 f50 f51 f52 f53 f54 f55 f56 f57 f58 f59 f60 f61 f62 f63 f64 f65 f66 f67 f68 f69 f70 f71 f72 f73 f74 f75 f76 f77 f78 f79 f80 f81:Addr}(X:K.In h)(G:h.Ns tG mg)(hfa:mg "law"=some (.ref fa))
  {od37 an37 od40 an40 od52 an52 od53 an53 od54 an54 od55 an55 od81 an81:Option Addr}{sl37 sl40 sl52 sl53 sl54 sl55 sl81:Array (Option Value)}{oc37 kV37 dc37 pm37 cd37 ct37 oc40 kV40 dc40 pm40 cd40 ct40 oc52 kV52 dc52 pm52 cd52 ct52 oc53 kV53 dc53 pm53 cd53 ct53 oc54 kV54 dc54 pm54 cd54 ct54 oc55 kV55 dc55 pm55 cd55 ct55 oc81 kV81 dc81 pm81 cd81 ct81:Value}
  {ALaid:Addr} (aC_Laid:nsIn K tG "Laid"=some (some (.ref ALaid))) (pg_Laid:plainGet K ALaid Str.empty=true) (hd_Laid:hasDictIn K ALaid=true) (po_Laid:plainOver K ALaid=true) (sa_Laid:findIn K (.ref ALaid) "__setattr__"=some (some (.builtin "object.__setattr__"))) (mk_Laid:makesIn K ALaid=true) (kc_Laid:keepIn K (.ref ALaid)=true) (nf_Laid_row:findIn K (.ref ALaid) "row"=some none) (nf_Laid_right:findIn K (.ref ALaid) "right"=some none)
  {AShelf:Addr} (aC_Shelf:nsIn K tG "Shelf"=some (some (.ref AShelf))) (pg_Shelf:plainGet K AShelf Str.empty=true) (hd_Shelf:hasDictIn K AShelf=true) (po_Shelf:plainOver K AShelf=true) (sa_Shelf:findIn K (.ref AShelf) "__setattr__"=some (some (.builtin "object.__setattr__"))) (mk_Shelf:makesIn K AShelf=true) (kc_Shelf:keepIn K (.ref AShelf)=true) (nf_Shelf_laid:findIn K (.ref AShelf) "laid"=some none)
  (a0:nI K "is_number" f0) (l0:gI K f0 "is_number" zb9)
  (a1:nI K "is_sign" f1) (l1:gI K f1 "is_sign" zd3)
  (a2:nI K "fits_alone" f2) (l2:gI K f2 "fits_alone" zbu)
  (a3:nI K "size_alone" f3) (l3:gI K f3 "size_alone" zjL)
  (a4:nI K "is_worth" f4) (l4:gI K f4 "is_worth" zcU)
  (a5:nI K "fits_word" f5) (l5:gI K f5 "fits_word" zca)
  (a6:nI K "is_outcome" f6) (l6:gI K f6 "is_outcome" zbv)
  (a7:nI K "is_variable" f7) (l7:gI K f7 "is_variable" za5)
  (a8:nI K "has_parts" f8) (l8:gI K f8 "has_parts" zcb)
  (a9:nI K "binding_count" f9) (l9:gI K f9 "binding_count" zaB)
  (a10:nI K "variables_of" f10) (l10:gI K f10 "variables_of" zaS)
  (a11:nI K "parts_of" f11) (l11:gI K f11 "parts_of" zcV)
  (a12:nI K "are_good_variables" f12) (l12:gI K f12 "are_good_variables" ZL)
  (a13:nI K "has_form" f13) (l13:gI K f13 "has_form" zcW)
  (a14:nI K "is_formed" f14) (l14:gI K f14 "is_formed" zcc)
  (a15:nI K "unbound" f15) (l15:gI K f15 "unbound" zd4)
  (a16:nI K "free_in" f16) (l16:gI K f16 "free_in" zd5)
  (a17:nI K "repeated" f17) (l17:gI K f17 "repeated" zcX)
  (a18:nI K "is_rule" f18) (l18:gI K f18 "is_rule" zd6)
  (a19:nI K "is_look" f19) (l19:gI K f19 "is_look" zd7)
  (a20:nI K "are_looks" f20) (l20:gI K f20 "are_looks" zcd)
  (a21:nI K "is_record_alone" f21) (l21:gI K f21 "is_record_alone" Z8)
  (a22:nI K "is_record" f22) (l22:gI K f22 "is_record" zce)
  (a23:nI K "may_be_run" f23) (l23:gI K f23 "may_be_run" zbw)
  (a24:nI K "is_paper" f24) (l24:gI K f24 "is_paper" zcY)
  (a25:nI K "word_end" f25) (l25:gI K f25 "word_end" zcZ)
  (a26:nI K "text_end" f26) (l26:gI K f26 "text_end" zc0)
  (a27:nI K "pieces_of" f27) (l27:gI K f27 "pieces_of" zcf)
  (a28:nI K "trees_of" f28) (l28:gI K f28 "trees_of" zc1)
  (a29:nI K "show_worth" f29) (l29:gI K f29 "show_worth" zbx)
  (a30:nI K "writes_number" f30) (l30:gI K f30 "writes_number" zaC)
  (a31:nI K "number_of" f31) (l31:gI K f31 "number_of" zcg)
  (a32:nI K "worth_of_tree" f32) (l32:gI K f32 "worth_of_tree" zaD)
  (a33:nI K "text_of_tree" f33) (l33:gI K f33 "text_of_tree" zaT)
  (a34:nI K "show_rule" f34) (l34:gI K f34 "show_rule" zch)
  (a35:nI K "variable_of_tree" f35) (l35:gI K f35 "variable_of_tree" Z0)
  (a36:nI K "lit_of_trees" f36) (l36:gI K f36 "lit_of_trees" zaU)
  (a37:nI K "bracketed_formtexts" f37) (l37:lI K f37 "bracketed" Zq oc37 od37 kV37 dc37 pm37 an37 cd37 ct37 sl37) (c37:cI K cd37 "bracketed") (k37:kI K f37)
  (a38:nI K "expression_of_tree" f38) (l38:gI K f38 "expression_of_tree" ZM)
  (a39:nI K "rule_of_tree" f39) (l39:gI K f39 "rule_of_tree" zaV)
  (a40:nI K "bracketed_papertexts" f40) (l40:lI K f40 "bracketed" Zh oc40 od40 kV40 dc40 pm40 an40 cd40 ct40 sl40) (c40:cI K cd40 "bracketed") (k40:kI K f40)
  (a41:nI K "show_outcome" f41) (l41:gI K f41 "show_outcome" zaW)
  (a42:nI K "show_record" f42) (l42:gI K f42 "show_record" za6)
  (a43:nI K "show_look" f43) (l43:gI K f43 "show_look" zci)
  (a44:nI K "show_paper" f44) (l44:gI K f44 "show_paper" zby)
  (a45:nI K "inner_trees" f45) (l45:gI K f45 "inner_trees" za7)
  (a46:nI K "word_of_tree" f46) (l46:gI K f46 "word_of_tree" zaX)
  (a47:nI K "trees_behind" f47) (l47:gI K f47 "trees_behind" zaY)
  (a48:nI K "outcome_of_tree" f48) (l48:gI K f48 "outcome_of_tree" Z9)
  (a49:nI K "record_of_tree" f49) (l49:gI K f49 "record_of_tree" zan)
  (a50:nI K "look_of_tree" f50) (l50:gI K f50 "look_of_tree" zaZ)
  (a51:nI K "paper_of_tree" f51) (l51:gI K f51 "paper_of_tree" zaE)
  (a52:findIn K (.ref ALaid) "__init__"=some (some (.ref f52))) (q52:isFn K (.ref f52)=true) (l52:K.lookup f52=some ⟨oc52,od52,.func (fnOf "__init__" "Laid.__init__" (ZT Zw) (ZH Zw) (zi Zw) .none kV52 dc52 pm52 an52 cd52 ct52),sl52⟩) (c52:codeIn K cd52 "Laid.__init__"=true) (k52:keepIn K (.ref f52)=true)
  (a53:findIn K (.ref AShelf) "__init__"=some (some (.ref f53))) (q53:isFn K (.ref f53)=true) (l53:K.lookup f53=some ⟨oc53,od53,.func (fnOf "__init__" "Shelf.__init__" (ZT Zp) (ZH Zp) (zi Zp) .none kV53 dc53 pm53 an53 cd53 ct53),sl53⟩) (c53:codeIn K cd53 "Shelf.__init__"=true) (k53:keepIn K (.ref f53)=true)
  (a54:findIn K (.ref AShelf) "lay"=some (some (.ref f54))) (q54:isFn K (.ref f54)=true) (l54:K.lookup f54=some ⟨oc54,od54,.func (fnOf "lay" "Shelf.lay" (ZT zaa) (ZH zaa) (zi zaa) .none kV54 dc54 pm54 an54 cd54 ct54),sl54⟩) (c54:codeIn K cd54 "Shelf.lay"=true) (k54:keepIn K (.ref f54)=true)
  (a55:findIn K (.ref AShelf) "lying"=some (some (.ref f55))) (q55:isFn K (.ref f55)=true) (l55:K.lookup f55=some ⟨oc55,od55,.func (fnOf "lying" "Shelf.lying" (ZT ZK) (ZH ZK) (zi ZK) .none kV55 dc55 pm55 an55 cd55 ct55),sl55⟩) (c55:codeIn K cd55 "Shelf.lying"=true) (k55:keepIn K (.ref f55)=true)
  (a56:nI K "show_row" f56) (l56:gI K f56 "show_row" zc2)
  (a57:nI K "show_shelf" f57) (l57:gI K f57 "show_shelf" zbz)
  (a58:nI K "row_of_tree" f58) (l58:gI K f58 "row_of_tree" za8)
  (a59:nI K "read_shelf" f59) (l59:gI K f59 "read_shelf" zbA)
  (a60:nI K "_law_cell" f60) (l60:gI K f60 "_law_cell" zmP)
  (a61:nI K "_law_box" f61) (l61:gI K f61 "_law_box" sBox)
  (a62:nI K "_law_take" f62) (l62:gI K f62 "_law_take" zmQ)
  (a63:nI K "_law_text" f63) (l63:gI K f63 "_law_text" zmR)
  (a64:nI K "_law_number" f64) (l64:gI K f64 "_law_number" zha)
  (a65:nI K "_law_worth" f65) (l65:gI K f65 "_law_worth" zjM)
  (a66:nI K "_law_variable" f66) (l66:gI K f66 "_law_variable" zcj)
  (a67:nI K "_law_lit" f67) (l67:gI K f67 "_law_lit" zjN)
  (a68:nI K "_law_word" f68) (l68:gI K f68 "_law_word" zhb)
  (a69:nI K "_law_parts_by" f69) (l69:gI K f69 "_law_parts_by" zck)
  (a70:nI K "_law_any" f70) (l70:gI K f70 "_law_any" zjO)
  (a71:nI K "_law_alike" f71) (l71:gI K f71 "_law_alike" zfz)
  (a72:nI K "_law_outcome" f72) (l72:gI K f72 "_law_outcome" zc3)
  (a73:nI K "_law_record" f73) (l73:gI K f73 "_law_record" zd8)
  (a74:nI K "_law_paper" f74) (l74:gI K f74 "_law_paper" zfA)
  (a75:nI K "_law_outcome_shown" f75) (l75:gI K f75 "_law_outcome_shown" zao)
  (a76:nI K "_law_record_shown" f76) (l76:gI K f76 "_law_record_shown" zaF)
  (a77:nI K "_law_shown" f77) (l77:gI K f77 "_law_shown" zfB)
  (a78:nI K "_law_loose" f78) (l78:gI K f78 "_law_loose" zfC)
  (a79:nI K "_law_lie" f79) (l79:gI K f79 "_law_lie" zjP)
  (a80:nI K "_law_rows_shown" f80) (l80:gI K f80 "_law_rows_shown" za9)
  (a81:nI K "law" f81) (l81:lI K f81 "law" sLaw oc81 od81 kV81 dc81 pm81 an81 cd81 ct81 sl81) (c81:cI K cd81 "law") (k81:kI K f81)
  (z0:nsIn K tG "isinstance"=some none)
  (z1:nsIn K tG "int"=some none)
  (z2:nsIn K tG "bool"=some none)
  (z3:nsIn K tG "ord"=some none)
  (z4:nsIn K tG "str"=some none)
  (z5:nsIn K tG "tuple"=some none)
  (z6:nsIn K tG "len"=some none)
  (z7:nsIn K tG "all"=some none)
  (z8:nsIn K tG "abs"=some none)
  (z9:nsIn K tG "list"=some none)
  (z10:nsIn K tG "enumerate"=some none)
  (z11:nsIn K tG "set"=some none)
  (z12:nsIn K tG "sorted"=some none)
  (z13:nsIn K tG "max"=some none)
  (z14:nsIn K tG "range"=some none)
  (z15:nsIn K tG "min"=some none)
  {t0:Tok} (i0:nsIn K tG "PERCENT"=some (some (.int 37 t0)))
  {t1:Tok} (i1:nsIn K tG "MOST_SIGNS"=some (some (.int 400 t1)))
  {t2:Tok} (i2:nsIn K tG "MOST_ITEMS"=some (some (.int 60 t2)))
  {t3:Tok} (i3:nsIn K tG "MOST_DEPTH"=some (some (.int 12 t3)))
  {t4:Tok} (i4:nsIn K tG "MOST_SIZE"=some (some (.int 1000 t4)))
  {t5:Tok} (i5:nsIn K tG "MOST_LETTERS"=some (some (.int 8 t5)))
  {t6:Tok} (i6:nsIn K tG "MOST_LISTED"=some (some (.int 8 t6)))
  {t7:Tok} (i7:nsIn K tG "MOST_MANY"=some (some (.int 60 t7)))
  {t8:Tok} (i8:nsIn K tG "MOST_NESTING"=some (some (.int 12 t8)))
  {t9:Tok} (i9:nsIn K tG "MOST_REPEATED"=some (some (.int 2 t9)))
  {t10:Tok} (i10:nsIn K tG "MOST_BRACKETS"=some (some (.int 100 t10)))
  {t11:Tok} (i11:nsIn K tG "MOST_FIGURES"=some (some (.int 60 t11)))
  {v0:Tok} (s0:nsIn K tG "LETTERS"=some (some (.str "abcdefghijklmnopqrstuvwxyz" v0)))
  {v1:Tok} (s1:nsIn K tG "WORD_ENDS"=some (some (.str " \n()\"" v1)))
  {v2:Tok} (s2:nsIn K tG "BETWEEN"=some (some (.str " \n" v2)))
  {v3:Tok} (s3:nsIn K tG "FIGURES"=some (some (.str "0123456789" v3)))
  {g0:Addr}{gd0:Option Addr}{gn0:Nat}{gs0:Array (Option Value)}{u0_0 u0_1 u0_2 u0_3:Tok} (y0:nsIn K tG "BARE_WORDS"=some (some (.ref g0))) (x0:K.lookup g0=some ⟨.type "tuple",gd0,.seq #[.str "kind" u0_0,.str "great" u0_1,.str "nought" u0_2,.str "place" u0_3] gn0,gs0⟩)
  {g1:Addr}{gd1:Option Addr}{gn1:Nat}{gs1:Array (Option Value)}{u1_0 u1_1:Tok} (y1:nsIn K tG "NAMING_WORDS"=some (some (.ref g1))) (x1:K.lookup g1=some ⟨.type "tuple",gd1,.seq #[.str "none" u1_0,.str "shut" u1_1] gn1,gs1⟩)
  {g2:Addr}{gd2:Option Addr}{gn2:Nat}{gs2:Array (Option Value)}{u2_0 u2_1:Tok} (y2:nsIn K tG "REPEATING"=some (some (.ref g2))) (x2:K.lookup g2=some ⟨.type "tuple",gd2,.seq #[.str "each" u2_0,.str "over" u2_1] gn2,gs2⟩)
  {dg0:Addr}{dn0:Nat}{du0_0 dv0_0 du0_1 dv0_1 du0_2 dv0_2:Tok} (dy0:nsIn K tG "BINDING"=some (some (.ref dg0))) (dx0:K.lookup dg0=some ⟨.type "dict",none,.dict #[⟨hashStr w "let",.str "let" du0_0,.int 1 dv0_0⟩,⟨hashStr w "each",.str "each" du0_1,.int 1 dv0_1⟩,⟨hashStr w "over",.str "over" du0_2,.int 2 dv0_2⟩] dn0,#[]⟩) (dz0:(dg0==sysModules)=false)
  {dg1:Addr}{dn1:Nat}{du1_0 dv1_0 du1_1 dv1_1 du1_2 dv1_2 du1_3 dv1_3 du1_4 dv1_4 du1_5 dv1_5 du1_6 dv1_6 du1_7 dv1_7 du1_8 dv1_8 du1_9 dv1_9 du1_10 dv1_10 du1_11 dv1_11 du1_12 dv1_12 du1_13 dv1_13 du1_14 dv1_14 du1_15 dv1_15 du1_16 dv1_16:Tok} (dy1:nsIn K tG "PARTS"=some (some (.ref dg1))) (dx1:K.lookup dg1=some ⟨.type "dict",none,.dict #[⟨hashStr w "let",.str "let" du1_0,.int 2 dv1_0⟩,⟨hashStr w "if",.str "if" du1_1,.int 3 dv1_1⟩,⟨hashStr w "+",.str "+" du1_2,.int 2 dv1_2⟩,⟨hashStr w "-",.str "-" du1_3,.int 2 dv1_3⟩,⟨hashStr w "*",.str "*" du1_4,.int 2 dv1_4⟩,⟨hashStr w "/",.str "/" du1_5,.int 2 dv1_5⟩,⟨hashStr w "same",.str "same" du1_6,.int 2 dv1_6⟩,⟨hashStr w "less",.str "less" du1_7,.int 2 dv1_7⟩,⟨hashStr w "join",.str "join" du1_8,.int 2 dv1_8⟩,⟨hashStr w "item",.str "item" du1_9,.int 2 dv1_9⟩,⟨hashStr w "count",.str "count" du1_10,.int 1 dv1_10⟩,⟨hashStr w "figures",.str "figures" du1_11,.int 1 dv1_11⟩,⟨hashStr w "each",.str "each" du1_12,.int 2 dv1_12⟩,⟨hashStr w "over",.str "over" du1_13,.int 3 dv1_13⟩,⟨hashStr w "look",.str "look" du1_14,.int 1 dv1_14⟩,⟨hashStr w "else",.str "else" du1_15,.int 2 dv1_15⟩,⟨hashStr w "cry",.str "cry" du1_16,.int 1 dv1_16⟩] dn1,#[]⟩) (dz1:(dg1==sysModules)=false)
  : ∃fd:tV,(∀(s:Shared)(v:Value),BindsTo s fd ⟨[v],[]⟩ [("_law_script",v)])/\∀base:Heap,K.In base->base.Ns tG mg->FnOk l.prog w K mg base CX0 150 fa fd ["_law_script"] (spLaw K):=by
 have e:=hfa.symm.trans (mg_of X G a81)
 cases e
 obtain⟨_,F0⟩:=l0
 obtain⟨_,F1⟩:=l1
 obtain⟨_,F2⟩:=l2
 obtain⟨_,F3⟩:=l3
 obtain⟨_,F4⟩:=l4
 obtain⟨_,F5⟩:=l5
 obtain⟨_,F6⟩:=l6
 obtain⟨_,F7⟩:=l7
 obtain⟨_,F8⟩:=l8
 obtain⟨_,F9⟩:=l9
 obtain⟨_,F10⟩:=l10
 obtain⟨_,F11⟩:=l11
 obtain⟨_,F12⟩:=l12
 obtain⟨_,F13⟩:=l13
 obtain⟨_,F14⟩:=l14
 obtain⟨_,F15⟩:=l15
 have b15:=F15.binds (ps:=["expression","bound"]) fun _ _ _ _ _ _ us hl=>by obtain⟨_,_,rfl⟩:=us_2 hl;rfl
 have n15:=mg_of X G a15
 obtain⟨_,F16⟩:=l16
 obtain⟨_,F17⟩:=l17
 have b17:=F17.binds (ps:=["expression"]) fun _ _ _ _ _ _ us hl=>by obtain⟨_,rfl⟩:=us_1 hl;rfl
 have n17:=mg_of X G a17
 obtain⟨_,F18⟩:=l18
 obtain⟨_,F19⟩:=l19
 obtain⟨_,F20⟩:=l20
 obtain⟨_,F21⟩:=l21
 obtain⟨_,F22⟩:=l22
 obtain⟨_,F23⟩:=l23
 obtain⟨_,F24⟩:=l24
 obtain⟨_,F25⟩:=l25
 obtain⟨_,F26⟩:=l26
 obtain⟨_,F27⟩:=l27
 obtain⟨_,F28⟩:=l28
 obtain⟨_,F29⟩:=l29
 have b29:=F29.binds (ps:=["worth"]) fun _ _ _ _ _ _ us hl=>by obtain⟨_,rfl⟩:=us_1 hl;rfl
 have n29:=mg_of X G a29
 obtain⟨_,F30⟩:=l30
 obtain⟨_,F31⟩:=l31
 obtain⟨_,F32⟩:=l32
 have b32:=F32.binds (ps:=["tree"]) fun _ _ _ _ _ _ us hl=>by obtain⟨_,rfl⟩:=us_1 hl;rfl
 have n32:=mg_of X G a32
 obtain⟨_,F33⟩:=l33
 obtain⟨_,F34⟩:=l34
 have b34:=F34.binds (ps:=["rule"]) fun _ _ _ _ _ _ us hl=>by obtain⟨_,rfl⟩:=us_1 hl;rfl
 have n34:=mg_of X G a34
 obtain⟨_,F35⟩:=l35
 obtain⟨_,F36⟩:=l36
 have F37:=zdk (st:=Zq) l37 c37 k37
 have b37:=F37.binds (ps:=["trees"]) fun _ _ _ _ _ _ us hl=>by obtain⟨_,rfl⟩:=us_1 hl;rfl
 have n37:=mg_of X G a37
 obtain⟨_,F38⟩:=l38
 have b38:=F38.binds (ps:=["tree"]) fun _ _ _ _ _ _ us hl=>by obtain⟨_,rfl⟩:=us_1 hl;rfl
 have n38:=mg_of X G a38
 obtain⟨_,F39⟩:=l39
 have F40:=zdk (st:=Zh) l40 c40 k40
 obtain⟨_,F41⟩:=l41
 obtain⟨_,F42⟩:=l42
 have b42:=F42.binds (ps:=["record"]) fun _ _ _ _ _ _ us hl=>by obtain⟨_,rfl⟩:=us_1 hl;rfl
 have n42:=mg_of X G a42
 obtain⟨_,F43⟩:=l43
 obtain⟨_,F44⟩:=l44
 obtain⟨_,F45⟩:=l45
 obtain⟨_,F46⟩:=l46
 obtain⟨_,F47⟩:=l47
 obtain⟨_,F48⟩:=l48
 obtain⟨_,F49⟩:=l49
 have b49:=F49.binds (ps:=["tree"]) fun _ _ _ _ _ _ us hl=>by obtain⟨_,rfl⟩:=us_1 hl;rfl
 have n49:=mg_of X G a49
 obtain⟨_,F50⟩:=l50
 obtain⟨_,F51⟩:=l51
 have F52:=zdk (st:=Zw) l52 c52 k52
 have b52:=F52.binds (ps:=["self","who","paper"]) fun _ _ _ _ _ _ us hl=>by obtain⟨_,_,_,rfl⟩:=us_3 hl;rfl
 have F53:=zdk (st:=Zp) l53 c53 k53
 have b53:=F53.binds (ps:=["self"]) fun _ _ _ _ _ _ us hl=>by obtain⟨_,rfl⟩:=us_1 hl;rfl
 have F54:=zdk (st:=zaa) l54 c54 k54
 have b54:=F54.binds (ps:=["self","who","paper"]) fun _ _ _ _ _ _ us hl=>by obtain⟨_,_,_,rfl⟩:=us_3 hl;rfl
 have F55:=zdk (st:=ZK) l55 c55 k55
 have b55:=F55.binds (ps:=["self"]) fun _ _ _ _ _ _ us hl=>by obtain⟨_,rfl⟩:=us_1 hl;rfl
 obtain⟨_,F56⟩:=l56
 obtain⟨_,F57⟩:=l57
 obtain⟨_,F58⟩:=l58
 obtain⟨_,F59⟩:=l59
 obtain⟨_,F60⟩:=l60
 obtain⟨_,F61⟩:=l61
 obtain⟨_,F62⟩:=l62
 obtain⟨_,F63⟩:=l63
 obtain⟨_,F64⟩:=l64
 obtain⟨_,F65⟩:=l65
 have b65:=F65.binds (ps:=["_law_box_here","_law_room","_law_deep"]) fun _ _ _ _ _ _ us hl=>by obtain⟨_,_,_,rfl⟩:=us_3 hl;rfl
 have n65:=mg_of X G a65
 obtain⟨_,F66⟩:=l66
 obtain⟨_,F67⟩:=l67
 obtain⟨_,F68⟩:=l68
 obtain⟨_,F69⟩:=l69
 have b69:=F69.binds (ps:=["_law_box_here","_law_scopes","_law_names","_law_spare","_law_floors","_law_rounds"]) fun _ _ _ _ _ _ us hl=>by obtain⟨_,_,_,_,_,_,rfl⟩:=us_6 hl;rfl
 have n69:=mg_of X G a69
 obtain⟨_,F70⟩:=l70
 have b70:=F70.binds (ps:=["_law_box_here","_law_scope","_law_names","_law_spare","_law_floors","_law_rounds"]) fun _ _ _ _ _ _ us hl=>by obtain⟨_,_,_,_,_,_,rfl⟩:=us_6 hl;rfl
 have n70:=mg_of X G a70
 obtain⟨_,F71⟩:=l71
 have b71:=F71.binds (ps:=["_law_found","_law_due"]) fun _ _ _ _ _ _ us hl=>by obtain⟨_,_,rfl⟩:=us_2 hl;rfl
 have n71:=mg_of X G a71
 obtain⟨_,F72⟩:=l72
 obtain⟨_,F73⟩:=l73
 have b73:=F73.binds (ps:=["_law_box_here","_law_room"]) fun _ _ _ _ _ _ us hl=>by obtain⟨_,_,rfl⟩:=us_2 hl;rfl
 have n73:=mg_of X G a73
 obtain⟨_,F74⟩:=l74
 obtain⟨_,F75⟩:=l75
 obtain⟨_,F76⟩:=l76
 have b76:=F76.binds (ps:=["_law_record_here"]) fun _ _ _ _ _ _ us hl=>by obtain⟨_,rfl⟩:=us_1 hl;rfl
 have n76:=mg_of X G a76
 obtain⟨_,F77⟩:=l77
 obtain⟨_,F78⟩:=l78
 obtain⟨_,F79⟩:=l79
 obtain⟨_,F80⟩:=l80
 have F81:=zdk (st:=sLaw) l81 c81 k81
 have cl_Laid:Cls K ALaid:=⟨pg_Laid,hd_Laid,po_Laid,sa_Laid⟩
 have cl_Shelf:Cls K AShelf:=⟨pg_Shelf,hd_Shelf,po_Shelf,sa_Shelf⟩
 have m_isinstance:=mg_none_of X G z0
 have m_int:=mg_none_of X G z1
 have m_bool:=mg_none_of X G z2
 have m_ord:=mg_none_of X G z3
 have m_str:=mg_none_of X G z4
 have m_tuple:=mg_none_of X G z5
 have m_len:=mg_none_of X G z6
 have m_all:=mg_none_of X G z7
 have m_abs:=mg_none_of X G z8
 have m_list:=mg_none_of X G z9
 have m_enumerate:=mg_none_of X G z10
 have m_set:=mg_none_of X G z11
 have m_sorted:=mg_none_of X G z12
 have m_max:=mg_none_of X G z13
 have m_range:=mg_none_of X G z14
 have m_min:=mg_none_of X G z15
 have m_PERCENT:∃t,mg "PERCENT"=some (.int 37 t):=⟨t0,mg_of X G i0⟩
 have m_MOST_SIGNS:∃t,mg "MOST_SIGNS"=some (.int 400 t):=⟨t1,mg_of X G i1⟩
 have m_MOST_ITEMS:∃t,mg "MOST_ITEMS"=some (.int 60 t):=⟨t2,mg_of X G i2⟩
 have m_MOST_DEPTH:∃t,mg "MOST_DEPTH"=some (.int 12 t):=⟨t3,mg_of X G i3⟩
 have m_MOST_SIZE:∃t,mg "MOST_SIZE"=some (.int 1000 t):=⟨t4,mg_of X G i4⟩
 have m_MOST_LETTERS:∃t,mg "MOST_LETTERS"=some (.int 8 t):=⟨t5,mg_of X G i5⟩
 have m_MOST_LISTED:∃t,mg "MOST_LISTED"=some (.int 8 t):=⟨t6,mg_of X G i6⟩
 have m_MOST_MANY:∃t,mg "MOST_MANY"=some (.int 60 t):=⟨t7,mg_of X G i7⟩
 have m_MOST_NESTING:∃t,mg "MOST_NESTING"=some (.int 12 t):=⟨t8,mg_of X G i8⟩
 have m_MOST_REPEATED:∃t,mg "MOST_REPEATED"=some (.int 2 t):=⟨t9,mg_of X G i9⟩
 have m_MOST_BRACKETS:∃t,mg "MOST_BRACKETS"=some (.int 100 t):=⟨t10,mg_of X G i10⟩
 have m_MOST_FIGURES:∃t,mg "MOST_FIGURES"=some (.int 60 t):=⟨t11,mg_of X G i11⟩
 have m_LETTERS:∃t,mg "LETTERS"=some (.str abcL t):=⟨v0,mg_of X G s0⟩
 have m_WORD_ENDS:∃t,mg "WORD_ENDS"=some (.str zlG t):=⟨v1,mg_of X G s1⟩
 have m_BETWEEN:∃t,mg "BETWEEN"=some (.str zlH t):=⟨v2,mg_of X G s2⟩
 have m_FIGURES:∃t,mg "FIGURES"=some (.str zlI t):=⟨v3,mg_of X G s3⟩
 have m_BARE_WORDS:=mg_of X G y0
 have t_BARE_WORDS:∀H:Hp,SqT K H g0 [.str "kind",.str "great",.str "nought",.str "place"]:=fun H=>.inr ⟨_,_,_,x0,rfl,rfl,zl4,(.cons ⟨_,rfl⟩ (.cons ⟨_,rfl⟩ (.cons ⟨_,rfl⟩ (.cons ⟨_,rfl⟩ .nil))))⟩
 have m_NAMING_WORDS:=mg_of X G y1
 have t_NAMING_WORDS:∀H:Hp,SqT K H g1 [.str "none",.str "shut"]:=fun H=>.inr ⟨_,_,_,x1,rfl,rfl,zl2,(.cons ⟨_,rfl⟩ (.cons ⟨_,rfl⟩ .nil))⟩
 have m_REPEATING:=mg_of X G y2
 have t_REPEATING:∀H:Hp,SqT K H g2 [.str "each",.str "over"]:=fun H=>.inr ⟨_,_,_,x2,rfl,rfl,zl2,(.cons ⟨_,rfl⟩ (.cons ⟨_,rfl⟩ .nil))⟩
 have m_BINDING:=mg_of X G dy0
 have d_BINDING:MD l.prog w K dg0 (kvsB ):=zoc [("let",du0_0,.int 1,.int 1 dv0_0),("each",du0_1,.int 1,.int 1 dv0_1),("over",du0_2,.int 2,.int 2 dv0_2)] dx0 dz0 (fun p hp=>by simp only[yG,xT,or_false] at hp;rcases hp with rfl|rfl|rfl<;>first|exact rfl|exact⟨_,rfl⟩) (by show (["let","each","over"]:List Str).Nodup;decide +kernel)
 have m_PARTS:=mg_of X G dy1
 have d_PARTS:MD l.prog w K dg1 (kvsP ):=zoc [("let",du1_0,.int 2,.int 2 dv1_0),("if",du1_1,.int 3,.int 3 dv1_1),("+",du1_2,.int 2,.int 2 dv1_2),("-",du1_3,.int 2,.int 2 dv1_3),("*",du1_4,.int 2,.int 2 dv1_4),("/",du1_5,.int 2,.int 2 dv1_5),("same",du1_6,.int 2,.int 2 dv1_6),("less",du1_7,.int 2,.int 2 dv1_7),("join",du1_8,.int 2,.int 2 dv1_8),("item",du1_9,.int 2,.int 2 dv1_9),("count",du1_10,.int 1,.int 1 dv1_10),("figures",du1_11,.int 1,.int 1 dv1_11),("each",du1_12,.int 2,.int 2 dv1_12),("over",du1_13,.int 3,.int 3 dv1_13),("look",du1_14,.int 1,.int 1 dv1_14),("else",du1_15,.int 2,.int 2 dv1_15),("cry",du1_16,.int 1,.int 1 dv1_16)] dx1 dz1 (fun p hp=>by simp only[yG,xT,or_false] at hp;rcases hp with rfl|rfl|rfl|rfl|rfl|rfl|rfl|rfl|rfl|rfl|rfl|rfl|rfl|rfl|rfl|rfl|rfl<;>first|exact rfl|exact⟨_,rfl⟩) (by show (["let","if","+","-","*","/","same","less","join","item","count","figures","each","over","look","else","cry"]:List Str).Nodup;decide +kernel)
 refine⟨fnOf "law" "law" (ZT sLaw) (ZH sLaw) (zi sLaw) .none kV81 dc81 pm81 an81 cd81 ct81,fun s v=>.of_eq rfl,fun base _ _=>?_⟩
 have h_is_number:=hv l.prog w base 0 (zln F0 m_isinstance m_int m_bool) (F0.b1 (by intros;rfl)) F0.2 (mg_of X G a0)
 have h_is_sign:=hv l.prog w base 0 (zjU F1 m_ord m_PERCENT) (F1.b1 (by intros;rfl)) F1.2 (mg_of X G a1)
 have h_fits_alone:=hv l.prog w base 1 (zmW F2 (h_is_number.up rfl) (h_is_sign.up rfl) m_isinstance m_str m_tuple m_len m_all m_abs m_MOST_SIGNS m_MOST_ITEMS) (F2.b2 (by intros;rfl)) F2.2 (mg_of X G a2)
 have h_size_alone:=hv l.prog w base 0 (zlp F3 m_isinstance m_str m_len) (F3.b1 (by intros;rfl)) F3.2 (mg_of X G a3)
 have h_is_worth:=hv l.prog w base 2 (ziL F4 (h_fits_alone.up rfl) (h_size_alone.up rfl) m_isinstance m_tuple m_len m_MOST_DEPTH m_MOST_SIZE) (F4.b1 (by intros;rfl)) F4.2 (mg_of X G a4)
 have h_fits_word:=hv l.prog w base 3 (zgR F5 (h_is_worth.up rfl) m_isinstance m_str m_BARE_WORDS t_BARE_WORDS m_NAMING_WORDS t_NAMING_WORDS) (F5.b2 (by intros;rfl)) F5.2 (mg_of X G a5)
 have h_is_outcome:=hv l.prog w base 4 (zf3 F6 (h_fits_word.up rfl) (h_is_worth.up rfl) m_isinstance m_len m_tuple) (F6.b1 (by intros;rfl)) F6.2 (mg_of X G a6)
 have h_is_variable:=hv l.prog w base 0 (zeP F7 m_all m_isinstance m_len m_str m_MOST_LETTERS m_LETTERS) (F7.b1 (by intros;rfl)) F7.2 (mg_of X G a7)
 have h_has_parts:=hv l.prog w base 0 (zgG F8 m_PARTS d_PARTS) (F8.b1 (by intros;rfl)) F8.2 (mg_of X G a8)
 have h_binding_count:=hv l.prog w base 0 (zdu F9 m_BINDING d_BINDING) (F9.b1 (by intros;rfl)) F9.2 (mg_of X G a9)
 have h_variables_of:=hv l.prog w base 1 (zef F10 (h_binding_count.up rfl)) (F10.b1 (by intros;rfl)) F10.2 (mg_of X G a10)
 have h_parts_of:=hv l.prog w base 1 (zhm F11 (h_binding_count.up rfl) (h_has_parts.up rfl) m_list) (F11.b1 (by intros;rfl)) F11.2 (mg_of X G a11)
 have h_are_good_variables:=hv l.prog w base 1 (zbE F12 (h_is_variable.up rfl) m_all m_len) (F12.b1 (by intros;rfl)) F12.2 (mg_of X G a12)
 have h_has_form:=hv l.prog w base 3 (zhp F13 (h_are_good_variables.up rfl) (h_variables_of.up rfl) (h_binding_count.up rfl) (h_is_variable.up rfl) (h_is_worth.up rfl) m_isinstance m_len m_str m_tuple m_MOST_LISTED m_PARTS d_PARTS) (F13.b1 (by intros;rfl)) F13.2 (mg_of X G a13)
 have h_is_formed:=hv l.prog w base 4 (zgJ F14 (h_parts_of.up rfl) (h_has_form.up rfl) m_len m_MOST_MANY m_MOST_NESTING) (F14.b1 (by intros;rfl)) F14.2 (mg_of X G a14)
 have h_unbound:∀n:Nat,Have l.prog w K mg base "unbound" (n+3) ["expression","bound"] (spUnb n):=fun n=>by
  induction n with
  |zero=>exact⟨_,_,zae (fun vs H Q E h=>by obtain⟨_,_,_,_,_,_,_,_,h0,_⟩:=h;lia) _,b15,F15.2,n15⟩
  |succ n ih=>exact⟨_,_,zi2 F15 ih (h_variables_of.mono (by lia)) (h_parts_of.mono (by lia)) m_enumerate m_len,b15,F15.2,n15⟩
 have h_free_in:=hv l.prog w base 23 (zi4 F16 ((h_unbound 20).up rfl) m_set m_sorted) (F16.b1 (by intros;rfl)) F16.2 (mg_of X G a16)
 have h_repeated:∀n:Nat,Have l.prog w K mg base "repeated" (n+3) ["expression"] (spRep n):=fun n=>by
  induction n with
  |zero=>exact⟨_,_,zae (fun vs H Q E h=>by obtain⟨_,_,_,_,_,h0,_⟩:=h;lia) _,b17,F17.2,n17⟩
  |succ n ih=>exact⟨_,_,zhq F17 ih (h_parts_of.mono (by lia)) m_enumerate m_len m_max m_REPEATING t_REPEATING,b17,F17.2,n17⟩
 have h_is_rule:=hv l.prog w base 24 (zi8 F18 ((h_repeated 20).up rfl) (h_free_in.up rfl) (h_is_formed.up rfl) m_MOST_REPEATED) (F18.b1 (by intros;rfl)) F18.2 (mg_of X G a18)
 have h_is_look:=hv l.prog w base 5 (zjf F19 (h_is_outcome.up rfl) (h_is_worth.up rfl) m_isinstance m_len m_str m_tuple) (F19.b1 (by intros;rfl)) F19.2 (mg_of X G a19)
 have h_are_looks:=hv l.prog w base 6 (zgY F20 (h_is_look.up rfl) m_all m_isinstance m_tuple) (F20.b1 (by intros;rfl)) F20.2 (mg_of X G a20)
 have h_is_record_alone:=hv l.prog w base 5 (zcR F21 (h_is_outcome.up rfl) m_isinstance m_len m_tuple) (F21.b1 (by intros;rfl)) F21.2 (mg_of X G a21)
 have h_is_record:=hv l.prog w base 6 (zgZ F22 (h_is_record_alone.up rfl) m_len) (F22.b1 (by intros;rfl)) F22.2 (mg_of X G a22)
 have h_may_be_run:=hv l.prog w base 25 (zf7 F23 (h_are_looks.up rfl) (h_is_rule.up rfl) m_isinstance m_len m_tuple) (F23.b1 (by intros;rfl)) F23.2 (mg_of X G a23)
 have h_is_paper:=hv l.prog w base 26 (zhD F24 (h_is_record.up rfl) (h_may_be_run.up rfl)) (F24.b1 (by intros;rfl)) F24.2 (mg_of X G a24)
 have h_word_end:=hv l.prog w base 0 (zhr F25 m_len m_WORD_ENDS) (F25.b2 (by intros;rfl)) F25.2 (mg_of X G a25)
 have h_text_end:=hv l.prog w base 0 (zhs F26 ) (F26.b2 (by intros;rfl)) F26.2 (mg_of X G a26)
 have h_pieces_of:=hv l.prog w base 1 (zgK F27 (h_text_end.up rfl) (h_word_end.up rfl) m_len m_BETWEEN) (F27.b1 (by intros;rfl)) F27.2 (mg_of X G a27)
 have h_trees_of:=hv l.prog w base 2 (zht F28 (h_pieces_of.up rfl) m_len m_tuple m_MOST_BRACKETS) (F28.b1 (by intros;rfl)) F28.2 (mg_of X G a28)
 have h_show_worth:∀n:Nat,Have l.prog w K mg base "show_worth" (n+1) ["worth"] (spShow n):=fun n=>by
  induction n with
  |zero=>exact⟨_,_,zae (fun vs H Q E h=>by obtain⟨v,w,_,_,_,_,h0,_⟩:=h;lia) _,b29,F29.2,n29⟩
  |succ n ih=>exact⟨_,_,zf0 F29 ih m_isinstance m_str m_tuple,b29,F29.2,n29⟩
 have h_writes_number:=hv l.prog w base 0 (zdx F30 m_all m_len m_MOST_FIGURES m_FIGURES) (F30.b1 (by intros;rfl)) F30.2 (mg_of X G a30)
 have h_number_of:=hv l.prog w base 1 (zgN F31 (h_writes_number.up rfl) m_int) (F31.b1 (by intros;rfl)) F31.2 (mg_of X G a31)
 have h_worth_of_tree:∀n:Nat,Have l.prog w K mg base "worth_of_tree" (n+3) ["tree"] (spWTree n):=fun n=>by
  induction n with
  |zero=>exact⟨_,_,zae (fun vs H Q E h=>by obtain⟨v,w,_,_,_,h0,_⟩:=h;lia) _,b32,F32.2,n32⟩
  |succ n ih=>exact⟨_,_,zdz F32 (h_number_of.mono (by lia)) ih m_tuple,b32,F32.2,n32⟩
 have h_text_of_tree:=hv l.prog w base 3 (zey F33 (h_is_worth.up rfl)) (F33.b1 (by intros;rfl)) F33.2 (mg_of X G a33)
 have h_show_rule:∀n:Nat,Have l.prog w K mg base "show_rule" (n+16) ["rule"] (spShowR n):=fun n=>by
  induction n with
  |zero=>exact⟨_,_,zae (fun vs H Q E h=>by obtain⟨v,w,_,_,_,_,h0,_⟩:=h;lia) _,b34,F34.2,n34⟩
  |succ n ih=>exact⟨_,_,zgO F34 (h_variables_of.mono (by lia)) (h_parts_of.mono (by lia)) ih ((h_show_worth 14).mono (by lia)) m_isinstance m_list m_tuple,b34,F34.2,n34⟩
 have h_variable_of_tree:=hv l.prog w base 1 (zcp F35 (h_is_variable.up rfl)) (F35.b1 (by intros;rfl)) F35.2 (mg_of X G a35)
 have h_lit_of_trees:=hv l.prog w base 17 (zep F36 ((h_worth_of_tree 14).up rfl) m_len) (F36.b1 (by intros;rfl)) F36.2 (mg_of X G a36)
 have h_expression_of_tree:∀n:Nat,Have l.prog w K mg base "expression_of_tree" (2*n+19) ["tree"] ((spExpr n:Sp)):=fun n=>by
  induction n with
  |zero=>exact⟨_,_,zae (fun vs H Q E h=>by obtain⟨_,_,_,_,_,h0,_⟩:=h;lia) _,b38,F38.2,n38⟩
  |succ n ih=>
   have h_bracketed_formtexts:Have l.prog w K mg base "bracketed_formtexts" (2*n+19+0+1) ["trees"] (spBra n):=⟨_,_,(zbq F37 (ih.mono (by lia)) (h_variable_of_tree.mono (by lia)) (h_binding_count.mono (by lia)) (h_has_parts.mono (by lia)) (h_lit_of_trees.mono (by lia)) m_len m_tuple:FnOk l.prog w K mg base CX0 (2*n+19+0+1) _ _ _ (spBra n)),b37,k37,n37⟩
   have hm:Have l.prog w K mg base "expression_of_tree" (2*n+19+1+1) ["tree"] ((spExpr (n+1):Sp)):=⟨_,_,(zbG F38 (h_number_of.mono (by lia)) (h_is_variable.mono (by lia)) (h_bracketed_formtexts.mono (by lia)):FnOk l.prog w K mg base CX0 (2*n+19+1+1) _ _ _ ((spExpr (n+1):Sp))),b38,F38.2,n38⟩
   exact hm.mono (by lia)
 have h_rule_of_tree:=hv l.prog w base 47 (zeq F39 (h_is_rule.up rfl) ((h_expression_of_tree 14).up rfl)) (F39.b1 (by intros;rfl)) F39.2 (mg_of X G a39)
 have h_bracketed_papertexts:=hv l.prog w base 0 (zbk F40 ) (F40.b1 (by intros;rfl)) k40 (mg_of X G a40)
 have h_show_outcome:=hv l.prog w base 15 (zew F41 (h_bracketed_papertexts.up rfl) ((h_show_worth 14).up rfl) m_list) (F41.b1 (by intros;rfl)) F41.2 (mg_of X G a41)
 have h_show_record:∀n:Nat,Have l.prog w K mg base "show_record" (n+17) ["record"] (spShowE n):=fun n=>by
  induction n with
  |zero=>exact⟨_,_,zae (fun vs H Q E h=>by obtain⟨v,e,_,_,_,h0,_⟩:=h;lia) _,b42,F42.2,n42⟩
  |succ n ih=>exact⟨_,_,zeR F42 (h_bracketed_papertexts.mono (by lia)) (h_show_outcome.mono (by lia)) ih,b42,F42.2,n42⟩
 have h_show_look:=hv l.prog w base 16 (zgT F43 (h_bracketed_papertexts.up rfl) (h_show_outcome.up rfl) ((h_show_worth 14).up rfl)) (F43.b1 (by intros;rfl)) F43.2 (mg_of X G a43)
 have h_show_paper:=hv l.prog w base 31 (zf5 F44 (h_bracketed_papertexts.up rfl) ((h_show_record 14).up rfl) ((h_show_rule 14).up rfl) (h_show_look.up rfl)) (F44.b1 (by intros;rfl)) F44.2 (mg_of X G a44)
 have h_inner_trees:=hv l.prog w base 0 (zeT F45 ) (F45.b1 (by intros;rfl)) F45.2 (mg_of X G a45)
 have h_word_of_tree:=hv l.prog w base 0 (zeA F46 ) (F46.b1 (by intros;rfl)) F46.2 (mg_of X G a46)
 have h_trees_behind:=hv l.prog w base 1 (zeB F47 (h_word_of_tree.up rfl) (h_inner_trees.up rfl) m_len) (F47.b2 (by intros;rfl)) F47.2 (mg_of X G a47)
 have h_outcome_of_tree:=hv l.prog w base 17 (zcP F48 (h_is_outcome.up rfl) (h_word_of_tree.up rfl) ((h_worth_of_tree 14).up rfl) (h_inner_trees.up rfl) m_len m_tuple) (F48.b1 (by intros;rfl)) F48.2 (mg_of X G a48)
 have h_record_of_tree:∀n:Nat,Have l.prog w K mg base "record_of_tree" (n+19) ["tree"] (spRecT n):=fun n=>by
  induction n with
  |zero=>exact⟨_,_,zae (fun vs H Q E h=>by obtain⟨v,e,_,_,_,h0,_⟩:=h;lia) _,b49,F49.2,n49⟩
  |succ n ih=>exact⟨_,_,zda F49 ih (h_outcome_of_tree.mono (by lia)) (h_inner_trees.mono (by lia)) m_len m_tuple,b49,F49.2,n49⟩
 have h_look_of_tree:=hv l.prog w base 18 (zeC F50 (h_outcome_of_tree.up rfl) (h_text_of_tree.up rfl) (h_inner_trees.up rfl) m_len) (F50.b1 (by intros;rfl)) F50.2 (mg_of X G a50)
 have h_paper_of_tree:=hv l.prog w base 48 (zdA F51 ((h_record_of_tree 14).up rfl) (h_rule_of_tree.up rfl) (h_trees_behind.up rfl) (h_look_of_tree.up rfl) m_len m_tuple) (F51.b1 (by intros;rfl)) F51.2 (mg_of X G a51)
 have h_Laid___init__:zcl l.prog w K mg base ALaid "Laid" 2 ["self","who","paper"] (spLaidI ALaid):=⟨_,_,1,rfl,(zdF F52 ⟨cl_Laid,nf_Laid_row,nf_Laid_right,cl_Shelf,nf_Shelf_laid⟩:FnOk l.prog w K mg base CX0 (0+1) _ _ _ _),b52,⟨mk_Laid,a52,q52,kc_Laid⟩,mg_of X G aC_Laid⟩
 have h_Shelf___init__:zcl l.prog w K mg base AShelf "Shelf" 2 ["self"] (spShelfI AShelf):=⟨_,_,1,rfl,(zde F53 ⟨cl_Laid,nf_Laid_row,nf_Laid_right,cl_Shelf,nf_Shelf_laid⟩:FnOk l.prog w K mg base CX0 (0+1) _ _ _ _),b53,⟨mk_Shelf,a53,q53,kc_Shelf⟩,mg_of X G aC_Shelf⟩
 have h_Shelf_lay:zbW l.prog w K mg base AShelf "lay" 3 ["self","who","paper"] (spLay ALaid AShelf):=⟨_,_,(zg1 F54 (h_Laid___init__.up rfl) ⟨cl_Laid,nf_Laid_row,nf_Laid_right,cl_Shelf,nf_Shelf_laid⟩:FnOk l.prog w K mg base CX0 (2+1) _ _ _ _),b54,⟨a54,q54,k54⟩,cl_Shelf⟩
 have h_Shelf_lying:zbW l.prog w K mg base AShelf "lying" 1 ["self"] (spLying ALaid AShelf):=⟨_,_,(zeW F55 ⟨cl_Laid,nf_Laid_row,nf_Laid_right,cl_Shelf,nf_Shelf_laid⟩:FnOk l.prog w K mg base CX0 (0+1) _ _ _ _),b55,⟨a55,q55,k55⟩,cl_Shelf⟩
 have h_show_row:=hv l.prog w base 32 (zhI F56 ((h_show_worth 14).up rfl) (h_show_paper.up rfl)) (F56.b1 (by intros;rfl)) F56.2 (mg_of X G a56)
 have h_show_shelf:=hv l.prog w base 33 (zf9 F57 (h_Shelf_lying.up rfl) (h_is_paper.up rfl) (h_show_row.up rfl)) (F57.b1 (by intros;rfl)) F57.2 (mg_of X G a57)
 have h_row_of_tree:=hv l.prog w base 49 (zeX F58 (h_paper_of_tree.up rfl) (h_text_of_tree.up rfl) (h_trees_behind.up rfl) m_len) (F58.b1 (by intros;rfl)) F58.2 (mg_of X G a58)
 have h_read_shelf:=hv l.prog w base 50 (zga F59 (h_trees_of.up rfl) (h_Shelf_lay.up rfl) (h_row_of_tree.up rfl) (h_Shelf___init__.up rfl)) (F59.b1 (by intros;rfl)) F59.2 (mg_of X G a59)
 have h_lcell:=hv l.prog w base 0 (zmS F60 m_len) (F60.b2 (by intros;rfl)) F60.2 (mg_of X G a60)
 have h_lbox:=hv l.prog w base 1 (zn8 F61 (h_lcell.up rfl)) (F61.b2 (by intros;rfl)) F61.2 (mg_of X G a61)
 have h_ltake:=hv l.prog w base 0 (zmT F62 ) (F62.b2 (by intros;rfl)) F62.2 (mg_of X G a62)
 have h_ltext:=hv l.prog w base 1 (zmU F63 (h_ltake.up rfl) m_len m_range) (F63.b2 (by intros;rfl)) F63.2 (mg_of X G a63)
 have h_lnumber:=hv l.prog w base 1 (zjS F64 (h_ltake.up rfl)) (F64.b1 (by intros;rfl)) F64.2 (mg_of X G a64)
 have h_lworth:∀n:Nat,Have l.prog w K mg base "_law_worth" (n+3) ["_law_box_here","_law_room","_law_deep"] (spWorth n):=fun n=>by
  induction n with
  |zero=>exact⟨_,_,zae (fun vs H Q E h=>by obtain⟨b,room,deep,_,_,_,_,h0,h1,_⟩:=h;lia) _,b65,F65.2,n65⟩
  |succ n ih=>exact⟨_,_,zll F65 (h_ltake.mono (by lia)) (h_ltext.mono (by lia)) (h_lnumber.mono (by lia)) ih m_min m_range m_tuple,b65,F65.2,n65⟩
 have h_lvariable:=hv l.prog w base 1 (zgC F66 (h_ltake.up rfl) m_range) (F66.b1 (by intros;rfl)) F66.2 (mg_of X G a66)
 have h_llit:=hv l.prog w base 16 (znc F67 ((h_lworth 13).up rfl) (h_ltake.up rfl) m_len) (F67.b2 (by intros;rfl)) F67.2 (mg_of X G a67)
 have h_lword:=hv l.prog w base 1 (zlL F68 (h_ltake.up rfl) m_int) (F68.b5 (by intros;rfl)) F68.2 (mg_of X G a68)
 have h_pair:∀n:Nat,Have l.prog w K mg base "_law_any" (lvP 18 n) ["_law_box_here","_law_scope","_law_names","_law_spare","_law_floors","_law_rounds"] (spAny n)/\Have l.prog w K mg base "_law_parts_by" (lvP 18 n+1) ["_law_box_here","_law_scopes","_law_names","_law_spare","_law_floors","_law_rounds"] (spPartsBy n):=fun n=>by
  induction n with
  |zero=>
   have A0:Have l.prog w K mg base "_law_any" (lvP 18 0) ["_law_box_here","_law_scope","_law_names","_law_spare","_law_floors","_law_rounds"] (spAny 0):=⟨_,_,zae (fun vs H Q E h=>by obtain⟨_,_,_,_,_,_,_,_,_,_,_,_,_,_,_,_,_,h0,h1,_⟩:=h;lia) _,b70,F70.2,n70⟩
   exact⟨A0,_,_,zdo F69 A0 m_enumerate m_len m_tuple,b69,F69.2,n69⟩
  |succ n ih=>
   have A1:Have l.prog w K mg base "_law_any" (lvP 18 (n+1)) ["_law_box_here","_law_scope","_law_names","_law_spare","_law_floors","_law_rounds"] (spAny (n+1)):=⟨_,_,znf F70 ih.2 (h_lvariable.mono (yQ (by decide) (xU (zg3 18 n)))) (h_ltake.mono (yQ (by decide) (xU (zg3 18 n)))) (h_llit.mono (yQ (by decide) (xU (zg3 18 n)))) (h_lword.mono (yQ (by decide) (xU (zg3 18 n)))) m_int m_len m_list m_min,b70,F70.2,n70⟩
   exact⟨A1,_,_,zdo F69 A1 m_enumerate m_len m_tuple,b69,F69.2,n69⟩
 have h_lalike:∀n:Nat,Have l.prog w K mg base "_law_alike" (n+1) ["_law_found","_law_due"] (spAlk n):=fun n=>by
  induction n with
  |zero=>exact⟨_,_,zae (fun vs H Q E h=>by obtain⟨_,_,_,h0,_⟩:=h;exact absurd h0 (vF _)) _,b71,F71.2,n71⟩
  |succ n ih=>exact⟨_,_,zkH F71 ih m_all m_bool m_int m_isinstance m_len m_range m_str m_tuple,b71,F71.2,n71⟩
 have h_loutcome:=hv l.prog w base 16 (zhy F72 (h_ltext.up rfl) ((h_lworth 13).up rfl) (h_ltake.up rfl)) (F72.b1 (by intros;rfl)) F72.2 (mg_of X G a72)
 have h_lrecord:∀n:Nat,Have l.prog w K mg base "_law_record" (n+18) ["_law_box_here","_law_room"] (spRecD n):=fun n=>by
  induction n with
  |zero=>exact⟨_,_,zae (fun vs H Q E h=>by obtain⟨b,room,_,_,h1,h2,_⟩:=h;lia) _,b73,F73.2,n73⟩
  |succ n ih=>exact⟨_,_,zjd F73 (h_loutcome.mono (by lia)) (h_ltake.mono (by lia)) ih m_tuple,b73,F73.2,n73⟩
 have h_lpaper:=hv l.prog w base 42 (zkK F74 ((h_lrecord 7).up rfl) (h_ltake.up rfl) (h_loutcome.up rfl) (h_ltext.up rfl) ((h_pair 11).1.mono (by decide)) m_range m_tuple) (F74.b2 (by intros;rfl)) F74.2 (mg_of X G a74)
 have h_loutcome_shown:=hv l.prog w base 15 (zdc F75 ((h_show_worth 14).up rfl)) (F75.b1 (by intros;rfl)) F75.2 (mg_of X G a75)
 have h_lrecord_shown:∀n:Nat,Have l.prog w K mg base "_law_record_shown" (n+17) ["_law_record_here"] (spShowE n):=fun n=>by
  induction n with
  |zero=>exact⟨_,_,zae (fun vs H Q E h=>by obtain⟨v,e,_,_,_,h0,_⟩:=h;lia) _,b76,F76.2,n76⟩
  |succ n ih=>exact⟨_,_,zdC F76 (h_loutcome_shown.mono (by lia)) ih,b76,F76.2,n76⟩
 have h_lshown:=hv l.prog w base 31 (zkI F77 ((h_lrecord_shown 14).up rfl) ((h_show_rule 14).up rfl) ((h_show_worth 14).up rfl) (h_loutcome_shown.up rfl)) (F77.b1 (by intros;rfl)) F77.2 (mg_of X G a77)
 have h_lloose:=hv l.prog w base 1 (zkL F78 (h_ltake.up rfl)) (F78.b2 (by intros;rfl)) F78.2 (mg_of X G a78)
 have h_llie:=hv l.prog w base 2 (znG F79 (h_ltake.up rfl) (h_ltext.up rfl) (h_lnumber.up rfl) m_len) (F79.b2 (by intros;rfl)) F79.2 (mg_of X G a79)
 have h_lrows_shown:=hv l.prog w base 32 (zeY F80 ((h_show_worth 14).up rfl) (h_lshown.up rfl)) (F80.b1 (by intros;rfl)) F80.2 (mg_of X G a80)
 exact (zoK F81 (h_show_shelf.up rfl) (h_Shelf_lying.up rfl) (h_lloose.up rfl) (h_lbox.up rfl) ((h_lalike 60).up rfl) (h_read_shelf.up rfl) (h_lrows_shown.up rfl) (h_ltake.up rfl) (h_Shelf_lay.up rfl) (h_llie.up rfl) (h_lpaper.up rfl) (h_ltext.up rfl) (h_Shelf___init__.up rfl) m_int m_isinstance m_len m_list m_range m_str m_tuple:FnOk l.prog w K mg base CX0 (149+1) _ _ _ _)
theorem zmd{l:PySem.W.OpenLaw}{q:Program}{loose:List Str}{XP:(Str->Option Value)->Heap->Prop}{YP:World->Heap->Prop}{d:DefRec}{K:Params->tU}(hn:l.most=some 63)(hdf:d.params.defaults=[])
  (hY:∀(w:World)(h:Heap),YP w h->(K w.params).In h)
  (F:∀(w:World)(mg:Str->Option Value)(fa:Addr)(h:Heap),(K w.params).In h->h.Ns tG mg->mg d.name=some (.ref fa)->
   ∃fd:tV,(∀(s:Shared)(u:Value),BindsTo s fd ⟨[u],[]⟩ [("_law_script",u)])/\∀base:Heap,(K w.params).In base->base.Ns tG mg->FnOk l.prog w (K w.params) mg base CX0 150 fa fd ["_law_script"] (spLaw (K w.params))):
  PySem.W.WalkO q loose XP YP l.row.toRowW d [] (fun f vs=>PySem.call f vs):=
 L2.zmM (n:=63) (k:=150) (x:="_law_script") (CX:=fun _=>CX0) (sp:=fun w=>spLaw (K w.params)) hn (by decide) hdf ⟨rfl,by decide,by decide⟩ hY F (fun _ _ a ns hl _ hS=>⟨a,ns,rfl,hS,hl,fun _=>rfl⟩) fun _ _ _ _ _ z=>z
end D
end
open PySem PySem.W PyProof.Rows
set_option maxRecDepth 100000 in
set_option maxHeartbeats 0 in
theorem PySem.Challenge.cw_leastforge_k58_shelves_written_and_read_holds : PySem.Challenge.rw_leastforge_k58_shelves_written_and_read.Holds := by
 w_on; o_law; k_head; (case hw=>w_witness2)
 k_fill
 refine D.zmd (l:=PySem.Challenge.rw_leastforge_k58_shelves_written_and_read) rfl rfl (fun w h Y=>PySem.W.kIn_of Y) ?F
 case F=>
  intro w mg fa h KX G hmg
  apply D.zoL KX G hmg
  all_goals try (first | (refine' ⟨_,L2.zdk ?_ ?_ ?_⟩ <;> try first | k_is | rfl) | ((try unfold D.nI); (try unfold D.lI); (try unfold D.cI); (try unfold D.kI); first | k_is | rfl))
