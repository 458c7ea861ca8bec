import PyProof.Rows.All
import Wide.All
import OpenK.AllK
import Wide.FinOn
import Lean
import PyProof.EqAt
import PyProof.EqKinds
import PyProof.TupleCall
import PyProof.EnumMake
import PyProof.WalksEnum
import PyProof.NeKinds
import PyProof.Rows.ZipGen
import PyProof.TupleIter
import PyProof.ZipIter
import PyProof.TupleOfGen
import PyProof.ReprRoads
import PyProof.FitsInt
import PyProof.StrLawsRepr
import PyProof.AutoListH
import OpenK.KMore
import PySem.Challenge.RW_leastforge_k37_whole_right_papers_are_a
open PySem.W (instObj methodObj lookIn plainGet hasDictIn findIn plainGet_of isFn plainOver takerIn makesIn emptyDict keepIn kia_one kitx_list kitx_tuple kitx_dict callWith_K fnOf codeIn kitAny kia_tup nsIn mg_of mg_none_of)
open PySem renaming Value->jA, Shared->jB, Addr->jC, Heap->jD, Expr->jE, Stmt->jF, Program->jG, World->jH, Around->jI, Scope->jJ, Keyword->jK, CmpOp->jL, Operator->jM
set_option Elab.async false
set_option linter.all false
set_option maxRecDepth 100000
set_option maxHeartbeats 4000000
theorem L2.zl0:0<=PySem.sizeLine:=by decide
theorem L2.zl1:1<=PySem.sizeLine:=by decide
theorem L2.zl2:2<=PySem.sizeLine:=by decide
theorem L2.zl3:3<=PySem.sizeLine:=by decide
theorem L2.zl4:4<=PySem.sizeLine:=by decide
theorem L2.zl8:8<=PySem.sizeLine:=by decide
theorem L2.zl12:12<=PySem.sizeLine:=by decide
open List renaming getElem?_eq_getElem->yA, length_map->yB, getElem?_eq_some_iff->yC, length_append->yD, getElem?_map->yE, size_toArray->yF, replicate->yH, mem_singleton->yI, mem_of_getElem?->yK, mem_cons_of_mem->yL, getElem?_append_left->yN, length_cons->yQ, getElem?_append_right->yR, mem_cons_self->yS, mem_append->yT, mem_cons->yV, map_cons->yW, getD_eq_getElem?_getD->yX, length_take->xA, append_nil->xB, getElem_mem->xD, mem_append_right->xF, take_of_length_le->xG, length_eq_zero_iff->xI, cons_append->xJ, map_append->xK, replicate_succ->xO, length_replicate->xP, drop_eq_getElem_cons->xQ, getElem?_take_of_lt->xR, mem_iff_getElem->xS, prefix_iff_eq_take->xT, length_pos_iff->xU, eq_of_mem_replicate->xV, lookup->xW, forIn_cons->xX, all_eq_true->xZ, range->wA, forIn_nil->wC, map_map->wG, toList_toArray->wH, getElem?_cons_succ->wI, find?_cons->wL, length_nil->wM, getElem?_eq_none->wO, flatten_cons->wQ, mem_append_left->wR, mem_of_mem_take->wS, map_nil->wT, not_mem_nil->wU, forIn_toArray->vA, getElem?_replicate->vB, append_assoc->vD, zipIdx_cons->vF, prefix_refl->vG, any_cons->vH, nodup_cons->vI, nil_append->vJ, zipIdx_nil->vK, filterMap_cons->vM, mem_filterMap->vN, map_replicate->vP, pairwise_iff_getElem->vR, all_cons->vU, length_drop->vV, lookup_cons->vW, take_length->vX, getLast?_cons_cons->vY, drop_length->vZ, getElem?_set_self->uA, mem_map->uB, of_mem_zip->uC, length_singleton->uD, cons_lt_cons_iff->uE, eq_nil_or_concat->uF, concat_eq_append->uG, mem_range->uH, getElem?_set_ne->uI, mem_of_getLast?->uM, getElem_of_mem->uN, Pairwise->uO, getElem?_take->uQ, all_map->uR, foldl->uV
open Nat renaming le_refl->yG, zero_le->yJ, le_trans->yM, lt_of_lt_of_le->yU, le_add_right->yY, lt_of_le_of_lt->yZ, ne_of_lt->xC, ne_of_gt->xE, lt_irrefl->xN, lt_succ_self->xY, not_lt_zero->wF, add_comm->wJ, le_of_ble_eq_true->wN, add_lt_add_left->wW, le_of_lt->vC, le_succ_of_le->vE, le_antisymm->vL, lt_of_le_of_ne->vO, mul_le_mul->vQ, lt_succ_of_lt->vS, le_of_lt_succ->vT, le_succ->uK, lt_or_ge->uS, log2_lt->uU
open Bool renaming false_ne_true->yO, and_eq_true->xH, eq_iff_iff->xL, eq_false_iff->xM, false_eq_true->wD, and_true->wY, false_and->uJ, and_assoc->uL, true_and->uP
open Option renaming map_eq_some_iff->yP, map_some->wE, isSome_iff_exists->wX, getD_none->uT, map->uW
open Int renaming emod_lt_of_pos->wK, toNat_natCast->wP, emod_nonneg->wZ
open Array renaming length_toList->wV
open PySem.Str renaming ofString->uX
open PySem renaming wpAny_bind->uY, wpAny_pure->uZ, boot_len->tG, mainGlobals->tH, sizeLine->tI, wpAny_newObj_type->tJ, starEach->tK, bootBuiltins->tL, compareOp->tM, FuncData->tU
open PySem.Heap renaming get?_push_of_some->tD, lt_size->tE, get?_push_size->tF
open PySem.PassesOwn renaming never->tN
open PySem.F renaming plainAttrs_list->tO, type_list_append->tP, slot_list_append->tQ
open PySem.W renaming Frag->tT
noncomputable section
namespace L2
open PySem PySem.Spec PyProof.Rows
abbrev Key:=Sum Int Str
noncomputable def zgR:Key->jA->Bool
 |.inl k,v=>Value.isInt k v
 |.inr x,v=>Value.isStrOf x v
noncomputable def keyH(w:jH):Key->Int
 |.inl k=>hashInt k
 |.inr x=>hashStr w x
theorem Zl:∀{k:Key}{v:jA},zgR k v=true->(∃i t,k=Sum.inl i/\v=Value.int i t)\/(∃x t,k=Sum.inr x/\v=Value.str x t)
 |.inl i,v,h=>by
  obtain⟨t,e⟩:=Value.isInt_shape (k:=i) (v:=v) h;exact .inl ⟨i,t,rfl,e⟩
 |.inr x,v,h=>by
  obtain⟨t,e⟩:=Value.isStrOf_shape (x:=x) (v:=v) h;exact .inr ⟨x,t,rfl,e⟩
theorem zhD(i:Int)(t:Tok):zgR (.inl i) (.int i t)=true:=by simp[zgR,Value.isInt]
theorem zhE(x:Str)(t:Tok):zgR (.inr x) (.str x t)=true:=by simp[zgR,Value.isStrOf]
theorem zmr(a b:Int):decide ((Sum.inl a:Key)=Sum.inl b)=(a==b):=by
 by_cases e:a=b
 ·subst e;simp
 ·have h:¬(Sum.inl a:Key)=Sum.inl b:=fun q=>e (Sum.inl.inj q)
  rw[decide_eq_false h];exact (beq_eq_false_iff_ne.mpr e).symm
theorem zms(a b:Str):decide ((Sum.inr a:Key)=Sum.inr b)=decide (a=b):=by
 by_cases e:a=b
 ·subst e;simp
 ·have h:¬(Sum.inr a:Key)=Sum.inr b:=fun q=>e (Sum.inr.inj q)
  rw[decide_eq_false h,decide_eq_false e]
theorem zmt(a:Int)(b:Str):decide ((Sum.inl a:Key)=Sum.inr b)=false:=decide_eq_false (fun q=>nomatch q)
theorem zmu(a:Str)(b:Int):decide ((Sum.inr a:Key)=Sum.inl b)=false:=decide_eq_false (fun q=>nomatch q)
def Zs(prog:jG)(w:jH):PySem.KeyKind prog w Key where
 is:=zgR
 hash:=keyH w
 inj:=fun v a b ha hb=>by
  rcases Zl ha with⟨i,t,rfl,rfl⟩|⟨x,t,rfl,rfl⟩
  ·rcases Zl hb with⟨j,u,rfl,e⟩|⟨y,u,rfl,e⟩
   ·injection e with e1 _;rw[e1]
   ·exact nomatch e
  ·rcases Zl hb with⟨j,u,rfl,e⟩|⟨y,u,rfl,e⟩
   ·exact nomatch e
   ·injection e with e1 _;rw[e1]
 byValue:=fun k v h=>by
  rcases Zl h with⟨i,t,rfl,rfl⟩|⟨x,t,rfl,rfl⟩<;>rfl
 pyHash:=fun hv h=>by
  rcases Zl hv with⟨i,t,rfl,rfl⟩|⟨x,t,rfl,rfl⟩
  ·exact wpAny_pyHash_int h
  ·exact wpAny_pyHash_str h
 eqBool:=fun hu hv h=>by
  rcases Zl hu with⟨i,t,rfl,rfl⟩|⟨x,t,rfl,rfl⟩
  ·rcases Zl hv with⟨j,u,rfl,rfl⟩|⟨y,u,rfl,rfl⟩
   ·rw[zmr] at h;exact wpAny_eqBool_int h
   ·rw[zmt] at h;exact SeqAt.EqAt.int_str i t y u _ _ _ _ h
  ·rcases Zl hv with⟨j,u,rfl,rfl⟩|⟨y,u,rfl,rfl⟩
   ·rw[zmu] at h;exact SeqAt.EqAt.str_int x t j u _ _ _ _ h
   ·rw[zms] at h;exact wpAny_eqBool_str h
 «strs»:=fun k x t v h=>by
  rcases Zl h with⟨i,u,rfl,e⟩|⟨y,u,rfl,e⟩
  ·exact nomatch e
  ·injection e with e1 _
   subst e1;cases v<;>rfl
theorem zfx(prog:jG)(w:jH)(i:Int)(t:Tok):(Zs prog w).is (.inl i) (.int i t)=true:=zhD i t
theorem zbd(prog:jG)(w:jH)(x:Str)(t:Tok):(Zs prog w).is (.inr x) (.str x t)=true:=zhE x t
inductive V where
 |non|bl (b:Bool)|int (i:Int)|str (x:Str)|byt (b:Array UInt8)|flt (b:UInt64)|ref (a:jC)|ty (n:String)
 deriving DecidableEq
def RelV:V->jA->Prop
 |.non,u=>u=Value.none
 |.bl b,u=>u=Value.bool b
 |.int i,u=>∃t,u=Value.int i t
 |.str x,u=>∃t,u=Value.str x t
 |.byt b,u=>∃t,u=Value.bytes b t
 |.flt b,u=>∃t,u=Value.float b t
 |.ref a,u=>u=Value.ref a
 |.ty n,u=>u=Value.type n
abbrev Vals:List V->List jA->Prop:=Paired RelV
theorem Vals.length{xs:List V}{us:List jA}(r:Vals xs us):xs.length=us.length:=Paired.length r
theorem Vals.get:∀{xs:List V}{us:List jA}{i:Nat}{x:V},Vals xs us->xs[i]?=some x->∃u,us[i]?=some u/\RelV x u
 |_,_,_,_,.nil,e=>by simp at e
 |_,_,0,_,.cons r _,e=>by simp at e;subst e;exact⟨_,rfl,r⟩
 |_,_,i+1,x,.cons _ t,e=>by
  obtain⟨u,h1,h2⟩:=Vals.get (i:=i) (x:=x) t (by simpa using e);exact⟨u,by simpa using h1,h2⟩
theorem Vals.set{x:V}{u:jA}(r:RelV x u):∀{xs:List V}{us:List jA}(i:Nat),Vals xs us->Vals (xs.set i x) (us.set i u)
 |_,_,_,.nil=>.nil
 |_,_,0,.cons _ t=>.cons r t
 |_,_,i+1,.cons q t=>.cons q (Vals.set r i t)
theorem Vals.append:∀{xs ys:List V}{us ws:List jA},Vals xs us->Vals ys ws->Vals (xs++ys) (us++ws)
 |_,_,_,_,.nil,s=>s
 |_,_,_,_,.cons r t,s=>.cons r (Vals.append t s)
theorem Vals.take:∀{xs:List V}{us:List jA}(n:Nat),Vals xs us->Vals (xs.take n) (us.take n)
 |_,_,0,_=>.nil
 |_,_,_+1,.nil=>.nil
 |_,_,n+1,.cons r t=>.cons r (Vals.take n t)
theorem Vals.drop:∀{xs:List V}{us:List jA}(n:Nat),Vals xs us->Vals (xs.drop n) (us.drop n)
 |_,_,0,r=>r
 |_,_,_+1,.nil=>.nil
 |_,_,n+1,.cons _ t=>Vals.drop n t
def RelO:Option V->Option jA->Prop
 |some v,some u=>RelV v u
 |none,none=>True
 |_,_=>False
def KV{κ:Type}:List (κ×V)->List (κ×jA)->Prop:=Paired fun (p:κ×V)(q:κ×jA)=>p.1=q.1/\RelV p.2 q.2
noncomputable def kV:Key->V
 |.inl i=>.int i
 |.inr x=>.str x
inductive HO where
 |lst (xs:List V)
 |tup (xs:List V)
 |dK (kvs:List (Key×V))|dT (kvs:List (List Key×V))
 |set (S:Int->Bool) (n:Nat)
 |ins (C dx:jC) (fs:List (Str×V))
 |own (x:jC)
 |xd (fs:List (Str×V))
 |met (f x:jC)
 |rng (lo hi:Int)
 |frz (o:Obj) (u:HO)
 |tbl (ps:Array jA)
 |ext (φ:jD->Prop)
abbrev Hp:=jC->Option HO
noncomputable def upd(H:Hp)(a:jC)(o:HO):Hp:=fun b=>if b=a then some o else H b
theorem zj{H:Hp}{a:jC}{o:HO}:upd H a o a=some o:=by unfold upd;rw[if_pos rfl]
theorem zH{H:Hp}{a b:jC}{o:HO}(h:b≠a):upd H a o b=H b:=by unfold upd;rw[if_neg h]
theorem zk8{H:Hp}{a b:jC}{o u:HO}(h:H a=some o)(h':H b=some u)(d:o≠u):a≠b:=by
 intro e;subst e;rw[h] at h';exact d (Option.some.inj h')
theorem zB{H:Hp}{a b:jC}{o:HO}(h:H a=some o)(h':H b=none):a≠b:=by
 intro e;subst e;rw[h] at h';cases h'
section
variable(P:jG)(w:jH)
def Zu(H:Hp)(h:jD)(a:jC):HO->Prop
 |.lst xs=>xs.length<=tI/\∃(its:List jA)(n:Nat),Vals xs its/\h.get? a=some {cls:=.type "list",data:=.seq its.toArray n}
 |.tup xs=>xs.length<=tI/\∃its:List jA,Vals xs its/\IsTup h a its.toArray
 |.dK kvs=>kvs.length<=tI/\(a==sysModules)=false/\∃vs,KV kvs vs/\h.DictOf (Zs P w) a vs
 |.dT kvs=>kvs.length<=tI/\(a==sysModules)=false/\∃xs:List (List Key×jC×jA),
   Paired (fun (p:List Key×V)(q:List Key×jC×jA)=>p.1=q.1/\H q.2.1=some (.tup (p.1.map kV))/\RelV p.2 q.2.2) kvs xs /\
   ∃o es ep,h.get? a=some o/\o.ExactDict/\o.data=.dict es ep/\es.toList=xs.map (entryOfKey (tupleKind (Zs P w)))/\(xs.map (·.1)).Nodup
 |.set S n=>h.SetOf (intKind P w) a S n
 |.ins C dx fs=>H dx=some (.own a)/\fs.length<=1000/\dx≠a/\h.get? a=some (instObj C dx) /\
   ∃mA,h.Ns1 dx mA/\(∀f,RelO (fs.lookup f) (mA f))/\PySem.Within mA (fs.map (·.1))
 |.own _=>∃o,h.get? a=some o
 |.xd fs=>∃mA,h.Ns1 a mA/\∀f,RelO (fs.lookup f) (mA f)
 |.rng lo hi=>∃t u v,h.get? a=some {cls:=.type "range",data:=.fields #[.int lo t,.int hi u,.int 1 v]}
 |.frz o u=>h.get? a=some o/\Zu H h a u
 |.tbl ps=>h.get? a=some {cls:=.none,data:=.fields ps}
 |.met f x=>h.get? a=some (methodObj (.ref f) (.ref x))
 |.ext φ=>φ h/\(∃o,h.get? a=some o)/\∀h1 h2:jD,φ h1->(∀o,h1.get? a=some o->h2.get? a=some o)->φ h2
def HOk(H:Hp)(h:jD):Prop:=∀a o,H a=some o->Zu P w H h a o
end
section
variable{P:jG}{w:jH}{H H':Hp}{h h':jD}{a:jC}{o:HO}
theorem Zu.lt(x:Zu P w H h a o):a<h.objs.size:=by
 cases o with
 |lst xs=>obtain⟨_,_,_,_,e⟩:=x;exact tE e
 |tup xs=>obtain⟨_,_,_,p⟩:=x;exact p.lt
 |dK kvs=>obtain⟨_,_,_,_,o,_,_,e,_⟩:=x;exact tE e
 |dT kvs=>obtain⟨_,_,_,_,o,_,_,e,_⟩:=x;exact tE e
 |set S n=>obtain⟨o,_,_,_,e,_⟩:=x;exact tE e
 |ins C dx fs=>obtain⟨_,_,_,e,_⟩:=x;exact tE e
 |own y=>obtain⟨_,e⟩:=x;exact tE e
 |xd fs=>obtain⟨_,⟨_,_,_,e,_⟩,_⟩:=x;exact tE e
 |rng lo hi=>obtain⟨_,_,_,e⟩:=x;exact tE e
 |frz ob u=>obtain⟨e,_⟩:=x;exact tE e
 |tbl ps=>exact tE (show h.get? a=some _ from x)
 |met f y=>exact tE (show h.get? a=some _ from x)
 |ext φ=>obtain⟨_,⟨_,e⟩,_⟩:=x;exact tE e
theorem Paired.mapP{α β:Type}{F G:α->β->Prop}:∀{l₁:List α}{l₂:List β},Paired F l₁ l₂->(∀a b,F a b->G a b)->Paired G l₁ l₂
 |_,_,.nil,_=>.nil
 |_,_,.cons r t,f=>.cons (f _ _ r) (Paired.mapP t f)
theorem Zu.stay(x:Zu P w H h a o)(k:∀b u,(b=a\/H b=some (.own a))->h.get? b=some u->h'.get? b=some u)
  (ho:∀b,H b=some (.own a)->H' b=some (.own a)) (ht:∀b xs,H b=some (.tup xs)->H' b=some (.tup xs)):Zu P w H' h' a o:=by
 induction o with
 |lst xs=>obtain⟨z,its,n,r,e⟩:=x;exact⟨z,its,n,r,k _ _ (.inl rfl) e⟩
 |tup xs=>obtain⟨z,its,r,ob,e,c⟩:=x;exact⟨z,its,r,ob,k _ _ (.inl rfl) e,c⟩
 |dK kvs=>obtain⟨z,y,vs,r,ob,es,ep,e,c⟩:=x;exact⟨z,y,vs,r,ob,es,ep,k _ _ (.inl rfl) e,c⟩
 |dT kvs=>
  obtain⟨z,y,xs,r,ob,es,ep,e,c⟩:=x;exact⟨z,y,xs,Paired.mapP r fun p q z=>⟨z.1,ht _ _ z.2.1,z.2.2⟩,ob,es,ep,k _ _ (.inl rfl) e,c⟩
 |set S n=>obtain⟨ob,es,ep,t,e,c⟩:=x;exact⟨ob,es,ep,t,k _ _ (.inl rfl) e,c⟩
 |ins C dx fs=>
  obtain⟨d,z,ne,e,mA,⟨od,es,ep,e2,c⟩,r⟩:=x;exact⟨ho _ d,z,ne,k _ _ (.inl rfl) e,mA,⟨od,es,ep,k _ _ (.inr d) e2,c⟩,r⟩
 |own y=>obtain⟨ob,e⟩:=x;exact⟨ob,k _ _ (.inl rfl) e⟩
 |xd fs=>obtain⟨mA,⟨od,es,ep,e,c⟩,r⟩:=x;exact⟨mA,⟨od,es,ep,k _ _ (.inl rfl) e,c⟩,r⟩
 |rng lo hi=>obtain⟨t,u,v,e⟩:=x;exact⟨t,u,v,k _ _ (.inl rfl) e⟩
 |frz ob u ih=>obtain⟨e,q⟩:=x;exact⟨k _ _ (.inl rfl) e,ih q⟩
 |tbl ps=>
  have e:h.get? a=some {cls:=.none,data:=.fields ps}:=x;show h'.get? a=some {cls:=.none,data:=.fields ps};exact k a _ (.inl rfl) e
 |met f y=>
  have e:h.get? a=some (methodObj (.ref f) (.ref y)):=x;show h'.get? a=some (methodObj (.ref f) (.ref y));exact k a _ (.inl rfl) e
 |ext φ=>obtain⟨p,⟨o,e⟩,st⟩:=x;exact⟨st _ _ p fun o q=>k _ _ (.inl rfl) q,⟨o,k _ _ (.inl rfl) e⟩,st⟩
theorem HOk.lt(x:HOk P w H h)(e:H a=some o):a<h.objs.size:=(x a o e).lt
theorem HOk.fresh(x:HOk P w H h)(e:h.objs.size<=a):H a=none:=by
 cases q:H a with
 |none=>rfl
 |some u=>exact absurd (yU (x.lt q) e) (xN _)
theorem HOk.kept(x:HOk P w H h)(k:∀b u,h.get? b=some u->h'.get? b=some u):HOk P w H h':=fun a o e=>
 (x a o e).stay (fun b u _ q=>k b u q) (fun _ q=>q) fun _ _ q=>q
theorem HOk.laid(x:HOk P w H h)(k:∀b u,h.get? b=some u->h'.get? b=some u)(hp:h.objs.size<=a)(new:Zu P w (upd H a o) h' a o):HOk P w (upd H a o) h':=fun b u e=>by
 have hn:=x.fresh hp
 by_cases hb:b=a
 ·subst hb;rw[zj] at e;cases e;exact new
 ·rw[zH hb] at e
  exact (x b u e).stay (fun c v _ q=>k c v q) (fun c q=>by rw[zH (zB q hn)];exact q) fun c xs q=>by rw[zH (zB q hn)];exact q
end
def Rd(H:Hp)(a:jC)(u:HO):Prop:=H a=some u\/∃o,H a=some (.frz o u)
theorem Rd.ok{P:jG}{w:jH}{H:Hp}{h:jD}{a:jC}{u:HO}(r:Rd H a u)(x:HOk P w H h):Zu P w H h a u:=by
 rcases r with r|⟨o,r⟩
 ·exact x a u r
 ·obtain⟨_,q⟩:=x a _ r
  exact q
def Mut:Option HO->Prop
 |some (.lst _)=>True
 |some (.dK _)=>True
 |some (.dT _)=>True
 |some (.set _ _)=>True
 |some (.ins _ _ _)=>True
 |some (.ext _)=>True
 |_=>False
section
variable{P:jG}{w:jH}{H:Hp}{h h':jD}{x e:jC}{o':HO}
theorem HOk.write(ok:HOk P w H h)(mu:Mut (H x))(he:e=x\/H e=some (.own x))(k:∀b u,b≠e->h.get? b=some u->h'.get? b=some u)(heo:∃u,h'.get? e=some u)
  (new:Zu P w (upd H x o') h' x o'):HOk P w (upd H x o') h':=fun b u q=>by
 have nown:∀c y,H c=some (.own y)->c≠x:=fun c y r z=>by subst z;rw[r] at mu;exact mu
 have ntup:∀c xs,H c=some (.tup xs)->c≠x:=fun c xs r z=>by subst z;rw[r] at mu;exact mu
 by_cases hb:b=x
 ·subst hb;rw[zj] at q;cases q;exact new
 ·rw[zH hb] at q
  by_cases hbe:b=e
  ·have q':H b=some (.own x):=by
    rcases he with z|z
    ·exact absurd (hbe.trans z) hb
    ·rw[hbe];exact z
   rw[q] at q';cases q';obtain⟨v,hv⟩:=heo;exact⟨v,by rw[hbe];exact hv⟩
  ·refine (ok b u q).stay (fun c v hc r=>k c v ?_ r) (fun c r=>by rw[zH (nown c b r)];exact r) fun c xs r=>by rw[zH (ntup c xs r)];exact r
   rcases hc with rfl|hc
   ·exact hbe
   ·rintro rfl
    rcases he with z|z
    ·exact nown c b hc z
    ·rw[hc] at z;cases z;exact hb rfl
end
structure Un(fs ex:List jC)(H H':Hp)(h h':jD):Prop where
 keep:∀b o,h.get? b=some o->H b=none->b ∉ fs->b ∉ ex->h'.get? b=some o
 slot:∀b o,h.get? b=some o->H b=none->b∈fs->b ∉ ex->∃sl,h'.get? b=some {o with slots:=sl}
 free:∀b o,h.get? b=some o->H b=none->b ∉ ex->H' b=none
 there:∀b o,h.get? b=some o->b ∉ ex->∃o',h'.get? b=some o'
 tups:∀b xs,H b=some (.tup xs)->H' b=some (.tup xs)
 frzs:∀b o u,H b=some (.frz o u)->H' b=some (.frz o u)
 tbls:∀b ps,H b=some (.tbl ps)->∃more,H' b=some (.tbl (ps++more))
section
variable{fs fs' ex ex':List jC}{H H1 H2:Hp}{h h1 h2 h':jD}{a x e:jC}{o:HO}
theorem Un.any(u:Un fs ex H H1 h h1){b:jC}{ob:Obj}(q:h.get? b=some ob)(n:H b=none)(hx:b ∉ ex):∃sl,h1.get? b=some {ob with slots:=sl}:=by
 by_cases hb:b∈fs
 ·exact u.slot b ob q n hb hx
 ·exact⟨ob.slots,u.keep b ob q n hb hx⟩
theorem Un.kept(k:∀b u,h.get? b=some u->h'.get? b=some u):Un fs ex H H h h':=
 ⟨fun b ob q _ _ _=>k b ob q,fun b ob q _ _ _=>⟨ob.slots,k b ob q⟩,fun _ _ _ n _=>n,fun b ob q _=>⟨ob,k b ob q⟩,fun _ _ q=>q,fun _ _ _ q=>q,fun _ ps q=>⟨#[],by rw[q];simp⟩⟩
theorem Un.refl:Un fs ex H H h h:=Un.kept fun _ _ q=>q
theorem Un.laid(k:∀b u,h.get? b=some u->h'.get? b=some u)(hp:h.objs.size<=a)(hn:H a=none):Un fs ex H (upd H a o) h h' where
 keep:=fun b u q _ _ _=>k b u q
 slot:=fun b u q _ _ _=>⟨u.slots,k b u q⟩
 free:=fun b u q n _=>by rw[zH (xC (yU (tE q) hp))];exact n
 there:=fun b u q _=>⟨u,k b u q⟩
 tups:=fun b xs q=>by rw[zH (zB q hn)];exact q
 frzs:=fun b u xs q=>by rw[zH (zB q hn)];exact q
 tbls:=fun b ps q=>⟨#[],by rw[zH (zB q hn),q];simp⟩
theorem Un.write(mu:Mut (H x))(he:e=x\/H e=some (.own x))(k:∀b u,b≠e->h.get? b=some u->h'.get? b=some u)(heo:∃u,h'.get? e=some u):Un fs ex H (upd H x o) h h':=by
 have hx:∀b,H b=none->b≠x:=fun b n z=>by subst z;rw[n] at mu;exact mu
 have hb:∀b,H b=none->b≠e:=fun b n z=>by
  subst z;rcases he with r|r
  ·exact hx b n r
  ·rw[n] at r;cases r
 have hm:∀b u,H b=some u->¬Mut (some u)->b≠x:=fun b u q nm z=>by subst z;rw[q] at mu;exact nm mu
 refine⟨fun b u q n _ _=>k b u (hb b n) q,fun b u q n _ _=>⟨u.slots,k b u (hb b n) q⟩,fun b u q n _=>by rw[zH (hx b n)];exact n,fun b u q _=>?_,
  fun b xs q=>by rw[zH (hm b _ q fun z=>z)];exact q,fun b u xs q=>by rw[zH (hm b _ q fun z=>z)];exact q,fun b ps q=>⟨#[],by rw[zH (hm b _ q fun z=>z),q];simp⟩⟩
 by_cases hbe:b=e
 ·subst hbe;exact heo
 ·exact⟨u,k b u hbe q⟩
end
noncomputable def trk(h:jD)(H:Hp):List jC:=(wA h.objs.size).filter fun a=>(H a).isSome
def hidT(h:jD)(H:Hp):jD:=PySem.W.hideAll h (trk h H)
theorem zhF(h:jD)(H:Hp):(hidT h H).objs.size=h.objs.size:=PySem.W.hideAll_size _ _
theorem zjz{h:jD}{H:Hp}{b:jC}{o:Obj}(e:h.get? b=some o)(n:H b=none):(hidT h H).get? b=some o:=
 PySem.W.hideAll_get _ e fun hm=>by
  have q:(H b).isSome=true:=(List.mem_filter.mp hm).2;rw[n] at q;simp at q
theorem zk9{h:jD}{H:Hp}{b:jC}{o:Obj}(e:(hidT h H).get? b=some o):h.get? b=some o/\H b=none:=by
 have e':h.get? b=some o:=PySem.W.of_hideAll (trk h H) e;refine⟨e',?_⟩;cases q:H b with
 |none=>rfl
 |some x=>
  have hm:b∈trk h H:=List.mem_filter.mpr ⟨uH.mpr (tE e'),by simp[q]⟩;have z:(hidT h H).get? b=none:=PySem.W.hideAll_none (trk h H) hm;rw[z] at e;cases e
noncomputable def zla(g h:jD)(L:jC):List (jC×Obj):=(wA h.objs.size).filterMap fun a=>if a=L\/(g.get? a).isSome=true then none else (h.get? a).map fun o=>(a,o)
def rest(g h:jD)(L d:jC):List (jC×Obj):=(zla g h L).filter fun p=>decide (p.1≠d)
structure Mod(K:tT)(mg:Str->Option jA)(base:jD):Prop where
 kin:K.In base
 glob:base.Ns tH mg
 blt:∃mb,base.Ns builtinsNs mb/\∀x:Str,x≠"__name__"->mb x=tL x
 nolimit:base.NoLimit
structure Cx where
 prog:jG
 w:jH
 K:tT
 mg:Str->Option jA
 base:jD
 A:jI
 N:List Str
 s₀:jB
 H₀:Hp
 env:Env
 outer:List Env
 stack:List Env
 ex:List jC
 fn:Str->Bool
 calm:Bool
 pn:List (jC×Obj)
 xe:jA->jB->Prop
noncomputable def frs(l:List Env):List jC:=l.filterMap (·.frame)
abbrev Cx.fs(X:Cx):List jC:=frs X.outer
def Vis(sc:jJ)(x:Str):Prop:=sc.names.lookup x=some .local\/sc.names.lookup x=some .cell\/sc.names.lookup x=some .free
def Loc(sc:jJ)(x:Str):Prop:=sc.names.lookup x=some .local\/sc.names.lookup x=some .cell
def Look(env:Env)(h:jD)(m:Str->Option jA)(x:Str)(u:jA):Prop:=
 (env.kindOf x=some .local/\m x=some u)\/((env.kindOf x=some .cell\/env.kindOf x=some .free)/\∃c,env.cells.lookup x=some c/\h.IsCell c (some u))
structure Cx.Ok(X:Cx):Prop where
 mod:Mod X.K X.mg X.base
 kind:X.env.scope.kind=.function
 glob:X.env.globals=tH
 blt:X.env.builtins=builtinsNs
 above:X.s₀.heap.objs.size<=X.env.locals
 inj:∀x y c,X.env.cells.lookup x=some c->X.env.cells.lookup y=some c->x=y
 has:∀x,(X.env.kindOf x=some .cell\/X.env.kindOf x=some .free)->∃c,X.env.cells.lookup x=some c
 cab:∀x c,X.fn x=true->X.env.cells.lookup x=some c->X.s₀.heap.objs.size<=c
 hd:X.calm=true->X.A.handled=none
 frames:X.A.frames=some X.stack
 stk:X.stack=X.outer\/(X.stack=X.env::X.outer/\X.env.frame=some X.env.locals)
 exf:∀b∈X.ex,b≠X.env.locals/\∀x c,X.env.cells.lookup x=some c->c≠b
 bs:∀b o,X.base.get? b=some o->X.s₀.heap.get? b=some o/\X.H₀ b=none
 bsz:X.base.objs.size<=X.s₀.heap.objs.size
 noex:∀b o,X.base.get? b=some o->b ∉ X.ex
 exfs:∀b∈X.ex,b ∉ X.fs
 funs:X.s₀.heap.FunFrames X.base X.outer
 frf:∀b∈X.fs,X.H₀ b=none
structure Inv(X:Cx)(pins:List (jC×Obj))(σ:List (Option V))(H:Hp)(s:jB):Prop where
 ok:X.Ok
 os:s.os=X.s₀.os
 bare:AllBare s.gens
 base:Un X.fs X.ex X.H₀ H X.s₀.heap s.heap
 loc:∃m,s.heap.Ns X.env.locals m/\∀(i:Nat)(x:Str)(v:V),X.N[i]?=some x->σ[i]?=some (some v)->Vis X.env.scope x->∃u,RelV v u/\Look X.env s.heap m x u
 cell:∀x c,X.env.cells.lookup x=some c->∃v,s.heap.IsCell c v
 free:H X.env.locals=none
 freeC:∀x c,X.env.cells.lookup x=some c->H c=none
 pin:∀p∈X.pn++pins,s.heap.get? p.1=some p.2/\H p.1=none/\p.1≠X.env.locals/\p.1 ∉ X.fs/\∀v,p.2.data≠.cell v
 hok:HOk X.prog X.w H s.heap
 len:σ.length=X.N.length
section
variable{X:Cx}{pins:List (jC×Obj)}{σ:List (Option V)}{H H':Hp}{s:jB}{h':jD}
theorem Cx.Ok.nofr(ok:X.Ok){b:jC}{o:Obj}(e:X.base.get? b=some o):b ∉ X.fs:=fun hb=>by
 have:=(ok.funs.mem hb).1;rw[e] at this;cases this
theorem Inv.bs(I:Inv X pins σ H s):∀b o,X.base.get? b=some o->s.heap.get? b=some o/\H b=none:=fun b o e=>
 ⟨I.base.keep b o (I.ok.bs b o e).1 (I.ok.bs b o e).2 (I.ok.nofr e) (I.ok.noex b o e),I.base.free b o (I.ok.bs b o e).1 (I.ok.bs b o e).2 (I.ok.noex b o e)⟩
theorem Inv.bk(I:Inv X pins σ H s):∀b o,X.base.get? b=some o->s.heap.get? b=some o:=fun b o e=>(I.bs b o e).1
theorem Inv.mod(I:Inv X pins σ H s):Mod X.K X.mg X.base:=I.ok.mod
theorem Inv.kIn(I:Inv X pins σ H s):X.K.In s.heap:=I.ok.mod.kin.keeps I.bk
theorem Inv.lt(I:Inv X pins σ H s):X.env.locals<s.heap.objs.size:=let ⟨_,hn,_⟩:=I.loc;hn.lt
theorem Inv.sz(I:Inv X pins σ H s):X.s₀.heap.objs.size<=s.heap.objs.size:=yM I.ok.above (vC I.lt)
theorem Inv.nofs(I:Inv X pins σ H s){a:jC}(h:s.heap.objs.size<=a):a ∉ X.fs:=fun hb=>by
 obtain⟨_,o,ho,_⟩:=I.ok.funs.mem hb;exact absurd (yU (tE ho) (yM I.sz h)) (xN _)
theorem Inv.cne(I:Inv X pins σ H s):∀x c,X.env.cells.lookup x=some c->c≠X.env.locals:=fun x c e z=>by
 obtain⟨v,o,ho,hd⟩:=I.cell x c e;obtain⟨m,⟨o',es,ep,ho',hd',_⟩,_⟩:=I.loc;rw[z,ho'] at ho;cases ho;rw[hd'] at hd;cases hd
theorem Inv.funs(I:Inv X pins σ H s):s.heap.FunFrames X.base X.outer:=by
 have all:∀(l:List Env),(∀b∈frs l,b∈X.fs)->X.s₀.heap.FunFrames X.base l->s.heap.FunFrames X.base l:=by
  intro l
  induction l with
  |nil=>intro _ _;trivial
  |cons env r ih=>
   intro hs hl;obtain⟨hk,⟨L,o,hf,hn,ho,hd⟩,hr⟩:=hl;have hL:L∈X.fs:=hs L (by unfold frs;rw[vM,hf];exact yS);obtain⟨sl,e⟩:=I.base.slot L o ho (I.ok.frf L hL) hL fun z=>I.ok.exfs L z hL;exact⟨hk,⟨L,_,hf,hn,e,hd⟩,ih (fun b hb=>hs b (by unfold frs;rw[vM,hf];exact yL _ hb)) hr⟩
 exact all X.outer (fun _ hb=>hb) I.ok.funs
theorem Inv.stack(I:Inv X pins σ H s):s.heap.FunFrames X.base X.stack:=by
 rcases I.ok.stk with e|⟨e,hf⟩
 ·rw[e];exact I.funs
 ·rw[e]
  obtain⟨m,hn,_⟩:=I.loc;refine .cons (by rw[I.ok.kind];decide) hf hn ?_ I.funs;exact Heap.get?_none_of_le (yM I.ok.bsz I.ok.above)
theorem Inv.stkSub(I:Inv X pins σ H s):∀b∈frs X.stack,b∈X.env.locals::X.fs:=fun b hb=>by
 rcases I.ok.stk with e|⟨e,hf⟩
 ·rw[e] at hb;exact yL _ hb
 ·rw[e] at hb
  unfold frs at hb;rw[vM,hf] at hb;exact hb
theorem Inv.stkFree(I:Inv X pins σ H s):∀b∈frs X.stack,H b=none:=fun b hb=>by
 rcases yV.mp (I.stkSub b hb) with e|hb
 ·rw[e];exact I.free
 ·obtain⟨_,o,ho,_⟩:=I.ok.funs.mem hb
  exact I.base.free b o ho (I.ok.frf b hb) fun z=>I.ok.exfs b z hb
theorem Inv.step{g':Array GenState}{t':Nat}{d':Drawn}{ch:List jC}(I:Inv X pins σ H s)
  (hch:∀b∈ch,(b∈X.ex\/X.s₀.heap.objs.size<=b)/\b≠X.env.locals/\(∀x c,X.env.cells.lookup x=some c->c≠b)/\∀p∈X.pn++pins,p.1≠b)
  (keep:∀b o,b≠X.env.locals->b ∉ X.fs->b ∉ ch->s.heap.get? b=some o->H b=none->h'.get? b=some o)
  (slot:∀b o,b≠X.env.locals->b∈X.fs->b ∉ ch->s.heap.get? b=some o->H b=none->∃sl,h'.get? b=some {o with slots:=sl}) (free:∀b o,b ∉ ch->s.heap.get? b=some o->H b=none->H' b=none)
  (there:∀b o,b ∉ ch->s.heap.get? b=some o->∃o',h'.get? b=some o')
  (tups:∀b xs,H b=some (.tup xs)->H' b=some (.tup xs)) (frzs:∀b o u,H b=some (.frz o u)->H' b=some (.frz o u)) (tbls:∀b ps,H b=some (.tbl ps)->∃more,H' b=some (.tbl (ps++more)))
  (ns:∀m,s.heap.Ns X.env.locals m->h'.Ns X.env.locals m) (hok:HOk X.prog X.w H' h') (hg:AllBare g'):
  Inv X pins σ H' {s with heap:=h',gens:=g',drawn:=d',toks:=t'}:=by
 have neL:∀b o,X.s₀.heap.get? b=some o->b≠X.env.locals:=fun b o e=>xC (yU (tE e) I.ok.above);have neC:∀b o,X.s₀.heap.get? b=some o->b ∉ X.ex->b ∉ ch:=fun b o e hx hb=>by
  rcases (hch b hb).1 with z|z
  ·exact hx z
  ·exact absurd (yU (tE e) z) (xN _)
 have cellK:∀x c,X.env.cells.lookup x=some c->∀v,s.heap.IsCell c v->h'.IsCell c v:=fun x c e v ⟨o,ho,hd⟩=>by
  have nch:c ∉ ch:=fun z=>(hch c z).2.2.1 x c e rfl
  by_cases hc:c∈X.fs
  ·obtain⟨sl,q⟩:=slot c o (I.cne x c e) hc nch ho (I.freeC x c e)
   exact⟨_,q,hd⟩
  ·exact⟨o,keep c o (I.cne x c e) hc nch ho (I.freeC x c e),hd⟩
 refine⟨I.ok,I.os,hg,⟨fun b o e n hb hx=>?_,fun b o e n hb hx=>?_,fun b o e n hx=>?_,fun b o e hx=>?_,fun b xs e=>tups b xs (I.base.tups b xs e),fun b o xs e=>frzs b o xs (I.base.frzs b o xs e),fun b ps e=>?_⟩,?_,fun x c e=>?_,?_,fun x c e=>?_,fun p hp=>?_,hok,I.len⟩
 ·exact keep b o (neL b o e) hb (neC b o e hx) (I.base.keep b o e n hb hx) (I.base.free b o e n hx)
 ·obtain⟨sl,e1⟩:=I.base.slot b o e n hb hx
  obtain⟨sl',e2⟩:=slot b _ (neL b o e) hb (neC b o e hx) e1 (I.base.free b o e n hx);exact⟨sl',e2⟩
 ·obtain⟨o',e1⟩:=I.base.there b o e hx
  exact free b o' (neC b o e hx) e1 (I.base.free b o e n hx)
 ·obtain⟨o',e1⟩:=I.base.there b o e hx
  exact there b o' (neC b o e hx) e1
 ·obtain⟨m1,e1⟩:=I.base.tbls b ps e
  obtain⟨m2,e2⟩:=tbls b _ e1;exact⟨m1++m2,by rw[e2,Array.append_assoc]⟩
 ·obtain⟨m,hn,hl⟩:=I.loc
  refine⟨m,ns m hn,fun i x v e1 e2 e3=>?_⟩;obtain⟨u,r,l⟩:=hl i x v e1 e2 e3;refine⟨u,r,?_⟩;rcases l with l|⟨k,c,e,z⟩
  ·exact .inl l
  ·exact .inr ⟨k,c,e,cellK x c e _ z⟩
 ·obtain⟨v,z⟩:=I.cell x c e
  exact⟨v,cellK x c e v z⟩
 ·obtain⟨m,⟨o,_,_,ho,_⟩,_⟩:=I.loc
  exact free _ o (fun z=>(hch _ z).2.1 rfl) ho I.free
 ·obtain⟨v,o,ho,hd⟩:=I.cell x c e
  exact free c o (fun z=>(hch c z).2.2.1 x c e rfl) ho (I.freeC x c e)
 ·obtain⟨e,n,ne,nf,d⟩:=I.pin p hp
  have nch:p.1 ∉ ch:=fun z=>(hch p.1 z).2.2.2 p hp rfl;exact⟨keep p.1 p.2 ne nf nch e n,free p.1 p.2 nch e n,ne,nf,d⟩
theorem Inv.un{t':Nat}(I:Inv X pins σ H s)(u:Un X.fs [] H H' s.heap h')(hok:HOk X.prog X.w H' h'):Inv X pins σ H' {s with heap:=h',toks:=t'}:=by
 obtain⟨m,⟨o,es,ep,ho,r⟩,_⟩:=id I.loc;obtain⟨sl,hL⟩:=u.any ho I.free (by simp);exact I.step (g':=s.gens) (d':=s.drawn) (ch:=[]) (fun _ z=>nomatch z) (fun b o _ hb _ e n=>u.keep b o e n hb (by simp)) (fun b o _ hb _ e n=>u.slot b o e n hb (by simp)) (fun b o _ e n=>u.free b o e n (by simp)) (fun b o _ e=>u.there b o e (by simp)) u.tups u.frzs u.tbls (fun m' hm=>by
  obtain⟨o',es',ep',ho',r'⟩:=hm;rw[ho] at ho';cases ho';exact⟨_,es',ep',hL,r'⟩) hok I.bare
theorem Inv.call{g':Array GenState}{t':Nat}{d':Drawn}{ch:List jC}(I:Inv X pins σ H s)(u:Un (frs X.stack) ch H H' s.heap h')(hok:HOk X.prog X.w H' h')(hg:AllBare g')
  (hch:∀b∈ch,(b∈X.ex\/X.s₀.heap.objs.size<=b)/\b≠X.env.locals/\(∀x c,X.env.cells.lookup x=some c->c≠b)/\∀p∈X.pn++pins,p.1≠b):
  Inv X pins σ H' {s with heap:=h',gens:=g',drawn:=d',toks:=t'}:=by
 obtain⟨m,⟨o,es,ep,ho,r⟩,_⟩:=id I.loc;obtain⟨sl,hL⟩:=u.any ho I.free fun z=>(hch _ z).2.1 rfl;exact I.step (ch:=ch) hch (fun b o hL hb hc e n=>u.keep b o e n (fun z=>(yV.mp (I.stkSub b z)).elim hL hb) hc) (fun b o _ _ hc e n=>u.any e n hc) (fun b o hc e n=>u.free b o e n hc) (fun b o hc e=>u.there b o e hc) u.tups u.frzs u.tbls (fun m' hm=>by
  obtain⟨o',es',ep',ho',r'⟩:=hm;rw[ho] at ho';cases ho';exact⟨_,es',ep',hL,r'⟩) hok hg
theorem Inv.turned{t':Nat}{it:jC}(I:Inv X pins σ H s)(k:∀b o,b≠it->s.heap.get? b=some o->h'.get? b=some o)(hn:H it=none)(hL:it≠X.env.locals)
  (h1:it∈X.ex\/X.s₀.heap.objs.size<=it) (h2:∀x c,X.env.cells.lookup x=some c->c≠it) (h3:∀p∈X.pn++pins,p.1≠it):Inv X pins σ H {s with heap:=h',toks:=t'}:=by
 have nit:∀b u,H b=some u->b≠it:=fun b u e z=>by rw[z,hn] at e;cases e
 refine I.step (g':=s.gens) (d':=s.drawn) (ch:=[it]) (fun b hb=>?_) (fun b o _ _ hc e _=>k b o (fun z=>hc (by simp[z])) e) (fun b o _ _ hc e _=>⟨o.slots,k b o (fun z=>hc (by simp[z])) e⟩) (fun _ _ _ _ n=>n)
  (fun b o hc e=>⟨o,k b o (fun z=>hc (by simp[z])) e⟩) (fun _ _ e=>e) (fun _ _ _ e=>e) (fun b ps e=>⟨#[],by rw[e];simp⟩) (fun m hm=>?_) (fun b u e=>?_) I.bare
 ·have e:b=it:=by simpa using hb
  subst e;exact⟨h1,hL,h2,h3⟩
 ·obtain⟨o,es,ep,ho,r⟩:=hm
  exact⟨o,es,ep,k _ o (Ne.symm hL) ho,r⟩
 ·refine (I.hok b u e).stay (fun c v hc q=>k c v ?_ q) (fun _ q=>q) fun _ _ q=>q
  rcases hc with z|z
  ·rw[z];exact nit b u e
  ·exact nit c _ z
theorem Inv.tok(I:Inv X pins σ H s)(t:Nat):Inv X pins σ H {s with toks:=t}:=I.un (h':=s.heap) (t':=t) Un.refl I.hok
theorem Inv.kept{t':Nat}(I:Inv X pins σ H s)(k:∀b u,s.heap.get? b=some u->h'.get? b=some u):Inv X pins σ H {s with heap:=h',toks:=t'}:=I.un (Un.kept k) (I.hok.kept k)
theorem Inv.laid{a:jC}{o:HO}{t':Nat}(I:Inv X pins σ H s)(k:∀b u,s.heap.get? b=some u->h'.get? b=some u)(hp:s.heap.objs.size<=a)(new:Zu X.prog X.w (upd H a o) h' a o):
  Inv X pins σ (upd H a o) {s with heap:=h',toks:=t'}:=I.un (Un.laid k hp (I.hok.fresh hp)) (I.hok.laid k hp new)
theorem Inv.write{x e:jC}{o:HO}{t':Nat}(I:Inv X pins σ H s)(mu:Mut (H x))(he:e=x\/H e=some (.own x))(k:∀b u,b≠e->s.heap.get? b=some u->h'.get? b=some u)(heo:∃u,h'.get? e=some u)
  (new:Zu X.prog X.w (upd H x o) h' x o):Inv X pins σ (upd H x o) {s with heap:=h',toks:=t'}:=I.un (Un.write mu he k heo) (I.hok.write mu he k heo new)
theorem Inv.weak{σ':List (Option V)}(I:Inv X pins σ H s)(hl:σ'.length=σ.length)(w:∀(i:Nat) v,σ'[i]?=some (some v)->σ[i]?=some (some v)):Inv X pins σ' H s:=
 ⟨I.ok,I.os,I.bare,I.base,let ⟨m,hn,hl'⟩:=I.loc;⟨m,hn,fun i x v e1 e2 e3=>hl' i x v e1 (w i v e2) e3⟩,I.cell,I.free,I.freeC,I.pin,I.hok,hl.trans I.len⟩
theorem Inv.pins_of{pins':List (jC×Obj)}(I:Inv X pins σ H s)(h:∀p∈pins',s.heap.get? p.1=some p.2/\H p.1=none/\p.1≠X.env.locals/\p.1 ∉ X.fs/\∀v,p.2.data≠.cell v):Inv X pins' σ H s:=
 ⟨I.ok,I.os,I.bare,I.base,I.loc,I.cell,I.free,I.freeC,fun p hp=>(yT.mp hp).elim (fun z=>I.pin p (wR _ z)) (h p),I.hok,I.len⟩
theorem zgn{N:List Str}(hN:N.Nodup){i j:Nat}{x:Str}(a:N[i]?=some x)(b:N[j]?=some x):i=j:=by
 obtain⟨h1,e1⟩:=yC.mp a;obtain⟨h2,e2⟩:=yC.mp b;exact (List.getElem_inj hN).mp (e1.trans e2.symm)
theorem zeB{M:Model}{A:jI}{E:jA->jB->Prop}{i:Nat}{x:Str}{v:V}{u:jA}{Q:Unit->jB->Prop}(I:Inv X pins σ H s)(hN:X.N.Nodup)(hi:X.N[i]?=some x)(hx:Loc X.env.scope x)(r:RelV v u)
  (h:∀s',Inv X pins (σ.set i (some v)) H s'->(∃a,Heap.SameBut a s.heap s'.heap/\(a=X.env.locals\/X.env.cells.lookup x=some a))->Q () s') (hf:X.fn x=true\/X.env.scope.names.lookup x=some .local:=by first|exact .inl rfl|exact .inr rfl|assumption):wpAny M A (storeName X.env x u) Q E s:=by
 obtain⟨m,hn,hl⟩:=id I.loc;have hcls:(X.env.scope.kind==.class||(X.env.scope.kind==.module&&X.env.locals != X.env.globals))=false:=by rw[I.ok.kind];rfl
 have hiσ:i<σ.length:=by rw[I.len];exact (yC.mp hi).1
 have cne:=I.cne;have tracked:∀{a:jC}{h':jD},(∃o,s.heap.get? a=some o/\H a=none)->Heap.SameBut a s.heap h'->HOk X.prog X.w H h':=fun {a h'} ha hs b ob e=>by
  obtain⟨_,_,hfree⟩:=ha;refine (I.hok b ob e).stay (fun c w' hc q=>(hs.2 c ?_).trans q) (fun _ q=>q) fun _ _ q=>q;rintro rfl;rcases hc with rfl|hc
  ·rw[hfree] at e;cases e
  ·rw[hfree] at hc;cases hc
 rcases hx with hk|hk
 ·refine wpAny_storeName_local hk hn (fun h' hn' hs=>?_) hcls
  obtain⟨oL,_,_,hoL,_⟩:=id hn;refine h _ ⟨I.ok,I.os,I.bare,⟨fun b o e n hb hx=>?_,fun b o e n hb hx=>?_,I.base.free,fun b o e hx=>?_,I.base.tups,I.base.frzs,I.base.tbls⟩,⟨_,hn',fun j y v' e1 e2 e3=>?_⟩,fun y c e=>?_,I.free,I.freeC,fun p hp=>?_,tracked ⟨oL,hoL,I.free⟩ hs,by simpa using I.len⟩ ⟨_,hs,.inl rfl⟩
  ·exact (hs.2 b (xC (yU (tE e) I.ok.above))).trans (I.base.keep b o e n hb hx)
  ·obtain⟨sl,e1⟩:=I.base.slot b o e n hb hx
   exact⟨sl,(hs.2 b (xC (yU (tE e) I.ok.above))).trans e1⟩
  ·obtain⟨o',e1⟩:=I.base.there b o e hx
   exact⟨o',(hs.2 b (xC (yU (tE e) I.ok.above))).trans e1⟩
  ·by_cases hj:j=i
   ·subst hj
    rw[hi] at e1;cases e1;rw[uA hiσ] at e2;cases e2;exact⟨u,r,.inl ⟨hk,by simp⟩⟩
   ·rw[uI (Ne.symm hj)] at e2
    obtain⟨u',r',q⟩:=hl j y v' e1 e2 e3;refine⟨u',r',?_⟩;rcases q with⟨k,e⟩|⟨k,c,e,z⟩
    ·refine .inl ⟨k,?_⟩
     have:y≠x:=fun e=>hj (zgn hN e1 (e▸hi));simp[this,e]
    ·exact .inr ⟨k,c,e,z.sameBut hs (cne y c e)⟩
  ·obtain⟨w',z⟩:=I.cell y c e
   exact⟨w',z.sameBut hs (cne y c e)⟩
  ·obtain⟨e,n,ne,nf,d⟩:=I.pin p hp
   exact⟨(hs.2 p.1 ne).trans e,n,ne,nf,d⟩
 ·have hfn:X.fn x=true:=by
   rcases hf with z|z
   ·exact z
   ·rw[z] at hk;cases hk
  obtain⟨c,hc⟩:=I.ok.has x (.inl hk);obtain⟨w',z⟩:=I.cell x c hc;refine wpAny_storeName_cell I.ok.kind hk hc z (fun h' hc' hs=>?_);obtain⟨oc,hoc,hocd⟩:=id z;refine h {s with heap:=h'} ⟨I.ok,I.os,I.bare,⟨fun b o e n hb hx=>?_,fun b o e n hb hx=>?_,I.base.free,fun b o e hx=>?_,I.base.tups,I.base.frzs,I.base.tbls⟩,⟨m,hn.sameBut hs (Ne.symm (cne x c hc)),fun j y v' e1 e2 e3=>?_⟩,fun y c' e=>?_,I.free,I.freeC,fun p hp=>?_,tracked ⟨oc,hoc,I.freeC x c hc⟩ hs,by simpa using I.len⟩ ⟨c,hs,.inr hc⟩
  ·exact (hs.2 b (xC (yU (tE e) (I.ok.cab x c hfn hc)))).trans (I.base.keep b o e n hb hx)
  ·obtain⟨sl,e1⟩:=I.base.slot b o e n hb hx
   exact⟨sl,(hs.2 b (xC (yU (tE e) (I.ok.cab x c hfn hc)))).trans e1⟩
  ·obtain⟨o',e1⟩:=I.base.there b o e hx
   exact⟨o',(hs.2 b (xC (yU (tE e) (I.ok.cab x c hfn hc)))).trans e1⟩
  ·by_cases hj:j=i
   ·subst hj
    rw[hi] at e1;cases e1;rw[uA hiσ] at e2;cases e2;exact⟨u,r,.inr ⟨.inl hk,c,hc,hc'⟩⟩
   ·rw[uI (Ne.symm hj)] at e2
    obtain⟨u',r',q⟩:=hl j y v' e1 e2 e3;refine⟨u',r',?_⟩;rcases q with q|⟨k,c',e,z'⟩
    ·exact .inl q
    ·refine .inr ⟨k,c',e,z'.sameBut hs ?_⟩
     rintro rfl;exact hj (zgn hN e1 (I.ok.inj _ _ _ e hc▸hi))
  ·by_cases hcc:c'=c
   ·subst hcc;exact⟨_,hc'⟩
   ·obtain⟨w2,z2⟩:=I.cell y c' e
    exact⟨w2,z2.sameBut hs hcc⟩
  ·obtain⟨e,n,ne,nf,d⟩:=I.pin p hp
   refine⟨(hs.2 p.1 ?_).trans e,n,ne,nf,d⟩;intro q;rw[q,hoc] at e;have q':oc=p.2:=Option.some.inj e;exact d w' (by rw[←q'];exact hocd)
theorem zdM{M:Model}{A:jI}{E:jA->jB->Prop}{i:Nat}{x:Str}{v:V}{u:jA}{Q:Unit->jB->Prop}(I:Inv X pins σ H s)(hN:X.N.Nodup)(hi:X.N[i]?=some x)(hx:Loc X.env.scope x)(r:RelV v u)
  (h:∀s',Inv X pins (σ.set i (some v)) H s'->Q () s') (hf:X.fn x=true\/X.env.scope.names.lookup x=some .local:=by first|exact .inl rfl|exact .inr rfl|assumption):wpAny M A (storeName X.env x u) Q E s:=
 zeB I hN hi hx r (fun s' I' _=>h s' I') hf
theorem Inv.call'{s':jB}{ch:List jC}(I:Inv X pins σ H s)(ho:s'.os=s.os)(u:Un (frs X.stack) ch H H' s.heap s'.heap)(hok:HOk X.prog X.w H' s'.heap)(hg:AllBare s'.gens)
  (hch:∀b∈ch,(b∈X.ex\/X.s₀.heap.objs.size<=b)/\b≠X.env.locals/\(∀x c,X.env.cells.lookup x=some c->c≠b)/\∀p∈X.pn++pins,p.1≠b):Inv X pins σ H' s':=by
 obtain⟨h',g',d',t',o'⟩:=s';have e:o'=s.os:=ho;subst e;exact I.call (g':=g') (t':=t') (d':=d') u hok hg hch
end
abbrev XK:=jA->Option jC->Hp->Prop
abbrev St:=List (Option V)
abbrev VK:=V->Hp->Prop
abbrev TE:=St->Hp->VK->Prop
abbrev TT:=St->Hp->(Bool->Hp->Prop)->Prop
abbrev TA:=St->Hp->(List V->Hp->Prop)->Prop
structure Ends where
 nx:St->Hp->Prop
 rt:VK
 bk:St->Hp->Prop:=fun _ _=>False
 ct:St->Hp->Prop:=fun _ _=>False
abbrev TS:=Ends->St->Hp->Prop
inductive EP(X:Cx)(pins:List (jC×Obj))(σ:St)(Q:VK)(u:jA)(s':jB):Prop
 |mk (v H':_) (_:Inv X pins σ H' s') (_:RelV v u) (_:Q v H')
inductive TP(X:Cx)(pins:List (jC×Obj))(σ:St)(Q:Bool->Hp->Prop)(b:Bool)(s':jB):Prop
 |mk (H':_) (_:Inv X pins σ H' s') (_:Q b H')
inductive AP(X:Cx)(pins:List (jC×Obj))(σ:St)(Q:List V->Hp->Prop)(us:List jA)(s':jB):Prop
 |mk (vs H':_) (_:Inv X pins σ H' s') (_:Vals vs us) (_:Q vs H')
def SP(X:Cx)(pins:List (jC×Obj))(D:Ends)(f:Flow)(s':jB):Prop:=
 match f with
 |.next=>∃σ' H',Inv X pins σ' H' s'/\D.nx σ' H'
 |.brk=>∃σ' H',Inv X pins σ' H' s'/\D.bk σ' H'
 |.cont=>∃σ' H',Inv X pins σ' H' s'/\D.ct σ' H'
 |.ret u=>∃v σ' H',Inv X pins σ' H' s'/\RelV v u/\D.rt v H'
def PE(X:Cx)(e:jE)(t:TE):Prop:=
 ∀(pins:List (jC×Obj))(s:jB)(σ:St)(H:Hp)(Q:VK),Inv X pins σ H s->t σ H Q->wpAny (model X.prog X.w) X.A (eval e X.env) (EP X pins σ Q) X.xe s
def PT(X:Cx)(e:jE)(t:TT):Prop:=
 ∀(pins:List (jC×Obj))(s:jB)(σ:St)(H:Hp)(Q:Bool->Hp->Prop),Inv X pins σ H s->t σ H Q->wpAny (model X.prog X.w) X.A (isTrue e X.env (eval e X.env)) (TP X pins σ Q) X.xe s
def PW(X:Cx)(e:jE)(t:TT):Prop:=
 ∀(whole:Sem jA)(pins:List (jC×Obj))(s:jB)(σ:St)(H:Hp)(Q:Bool->Hp->Prop),Inv X pins σ H s->t σ H Q->wpAny (model X.prog X.w) X.A (isTrue e X.env whole) (TP X pins σ Q) X.xe s
theorem PW.pt{X:Cx}{e:jE}{t:TT}(h:PW X e t):PT X e t:=h _
def PA(X:Cx)(es:List jE)(t:TA):Prop:=
 ∀(pos:Pos)(pins:List (jC×Obj))(s:jB)(σ:St)(H:Hp)(Q:List V->Hp->Prop),Inv X pins σ H s->t σ H Q->wpAny (model X.prog X.w) X.A (spliced (backTo pos (tK es X.env))) (AP X pins σ Q) X.xe s
def PS(X:Cx)(st:jF)(t:TS):Prop:=
 ∀(pins:List (jC×Obj))(s:jB)(σ:St)(H:Hp)(D:Ends),Inv X pins σ H s->t D σ H->wpAny (model X.prog X.w) X.A (exec st X.env) (SP X pins D) X.xe s
def PSs(X:Cx)(st:List jF)(t:TS):Prop:=
 ∀(pins:List (jC×Obj))(s:jB)(σ:St)(H:Hp)(D:Ends),Inv X pins σ H s->t D σ H->wpAny (model X.prog X.w) X.A (execs st X.env) (SP X pins D) X.xe s
theorem thn{α:Type}{t:Sem α}{Q Q':α->jB->Prop}{M:Model}{A:jI}{E:jA->jB->Prop}{s:jB}(h:wpAny M A t Q E s)(hQ:∀a s,Q a s->Q' a s):wpAny M A t Q' E s:=wpAny_mono h hQ fun _ _ x=>x
section
variable{X:Cx}
inductive tVar(i:Nat)(σ:St)(H:Hp)(Q:VK):Prop
 |mk (v:_) (_:σ[i]?=some (some v)) (_:Q v H)
def tC(v:V):TE:=fun _ H Q=>Q v H
theorem zmv{i:Nat}{x:Str}{pos:Pos}(hN:X.N[i]?=some x)(hv:Vis X.env.scope x)(hd:(x==("__debug__":Str))=false:=by decide)(hcd:(x==("__classdict__":Str))=false:=by decide):PE X (.Name x pos) (tVar i):=by
 intro pins s σ H Q I h;obtain⟨v,e,h⟩:=h;obtain⟨m,hn,hl⟩:=I.loc;obtain⟨u,r,l⟩:=hl i x v hN e hv;have fin:EP X pins σ Q u s:=⟨v,H,I,r,h⟩;rcases l with⟨hk,hm⟩|⟨hk,c,hc,hcell⟩
 ·exact wpAny_Name (wpAny_loadName_local I.ok.kind hk hn hm fin) hd
 ·rcases hk with hk|hk
  ·exact wpAny_Name (wpAny_loadName_cell I.ok.kind hk hc hcell fin) hd
  ·exact wpAny_Name (wpAny_loadName_free I.ok.kind hk hc hcell fin hcd) hd
theorem zn {i j pos}:PE X (.Constant (.int i) j pos) (tC (.int i)):=fun _ _ _ H _ I h=>wpAny_Constant_int ⟨.int i,H,I.tok _,⟨_,rfl⟩,h⟩
theorem zbe {b j pos}:PE X (.Constant (.bool b) j pos) (tC (.bl b)):=fun _ _ _ H _ I h=>Constant_bool ⟨.bl b,H,I,rfl,h⟩
theorem zbs {j pos}:PE X (.Constant .none j pos) (tC .non):=fun _ _ _ H _ I h=>Constant_none ⟨.non,H,I,rfl,h⟩
theorem zr {x j pos}:PE X (.Constant (.str x) j pos) (tC (.str x)):=fun _ _ _ H _ I h=>Calls.Constant_str ⟨.str x,H,I.tok _,⟨_,rfl⟩,h⟩
def Gl(X:Cx)(x:Str):Prop:=X.env.kindOf x=some .globalImplicit
theorem zfy{E:jA->jB->Prop}{pins:List (jC×Obj)}{s:jB}{σ:St}{H:Hp}{x:Str}{u:jA}{pos:Pos}{Q:jA->jB->Prop}(I:Inv X pins σ H s)(hg:Gl X x)(hm:X.mg x=some u)(h:Q u s)
  (hd:(x==("__debug__":Str))=false:=by decide):wpAny (model X.prog X.w) X.A (eval (.Name x pos) X.env) Q E s:=
 Calls.Name_function_global I.ok.kind hg (Calls.loadGlobal_global (by rw[I.ok.glob];exact I.mod.glob.keeps I.bk) hm h) hd
theorem za4{E:jA->jB->Prop}{pins:List (jC×Obj)}{s:jB}{σ:St}{H:Hp}{x:Str}{u:jA}{pos:Pos}{Q:jA->jB->Prop}(I:Inv X pins σ H s)(hg:Gl X x)(hm:X.mg x=none)(hv:tL x=some u)(h:Q u s)
  (hn:x≠"__name__":=by decide) (hd:(x==("__debug__":Str))=false:=by decide):wpAny (model X.prog X.w) X.A (eval (.Name x pos) X.env) Q E s:=by
 obtain⟨mb,h1,h2⟩:=I.mod.blt;exact Calls.Name_function_global I.ok.kind hg (Calls.loadGlobal_builtin (by rw[I.ok.glob];exact I.mod.glob.keeps I.bk) hm (by rw[I.ok.blt];exact h1.keeps I.bk) ((h2 x hn).trans hv) h) hd
theorem Zf{x:Str}{v:V}{u:jA}{pos:Pos}(hg:Gl X x)(hm:X.mg x=some u)(r:RelV v u)(hd:(x==("__debug__":Str))=false:=by decide):PE X (.Name x pos) (tC v):=
 fun _ _ _ H _ I h=>zfy I hg hm ⟨v,H,I,r,h⟩ hd
theorem zlb{x:Str}{v:V}{u:jA}{pos:Pos}(hg:Gl X x)(hm:X.mg x=none)(hv:tL x=some u)(r:RelV v u)(hn:x≠"__name__":=by decide)(hd:(x==("__debug__":Str))=false:=by decide):PE X (.Name x pos) (tC v):=
 fun _ _ _ H _ I h=>za4 I hg hm hv ⟨v,H,I,r,h⟩ hn hd
variable{a b:jE}{ta tb:TE}{pos:Pos}
def PC(X:Cx)(op:jL)(a b:jE)(t:TE):Prop:=
 ∀(pins:List (jC×Obj))(s:jB)(σ:St)(H:Hp)(Q:VK),Inv X pins σ H s->t σ H Q->
  wpAny (model X.prog X.w) X.A (eval a X.env) (fun v s₁=>wpAny (model X.prog X.w) X.A (eval b X.env) (fun u s₂=>wpAny (model X.prog X.w) X.A (tM op v u) (EP X pins σ Q) X.xe s₂) X.xe s₁) X.xe s
theorem nobehind(b:jE){op:jL}(h:op≠.In)(h2:op≠.NotIn):behindInMarks op b=false:=by
 have e1:(op==CmpOp.In)=false:=by cases op<;>first|rfl|exact absurd rfl h
 have e2:(op==CmpOp.NotIn)=false:=by cases op<;>first|rfl|exact absurd rfl h2
 cases b<;>simp[behindInMarks,e1,e2]
def tIsN(ta:TE):TE:=fun σ H Q=>ta σ H fun x H1=>Q (.bl (decide (x=.non))) H1
def zmw(ta:TE):TE:=fun σ H Q=>ta σ H fun x H1=>Q (.bl (!decide (x=.non))) H1
theorem RelV.none_iff{x:V}{v:jA}(r:RelV x v):(v==Value.none)=decide (x=.non):=by
 cases x with
 |non=>cases r;rfl
 |bl _=>cases r;rfl
 |int _=>obtain⟨t,rfl⟩:=r;rfl
 |str _=>obtain⟨t,rfl⟩:=r;rfl
 |byt _=>obtain⟨t,rfl⟩:=r;rfl
 |flt _=>obtain⟨t,rfl⟩:=r;rfl
 |ref _=>cases r;rfl
 |ty _=>cases r;rfl
theorem zb5 {j pos'} (ha:PE X a ta):PC X .Is a (.Constant .none j pos') (tIsN ta):=by
 intro pins s σ H Q I h;refine thn (ha pins s σ H _ I h) fun v s1 ⟨x,H1,I1,r1,q1⟩=>?_;exact Constant_none (is_none_gen ⟨.bl _,H1,I1,by rw[r1.none_iff];rfl,q1⟩)
theorem zdN {j pos'} (ha:PE X a ta):PC X .IsNot a (.Constant .none j pos') (zmw ta):=by
 intro pins s σ H Q I h;refine thn (ha pins s σ H _ I h) fun v s1 ⟨x,H1,I1,r1,q1⟩=>?_;exact Constant_none (isnot_none_gen ⟨.bl _,H1,I1,by rw[r1.none_iff];rfl,q1⟩)
inductive i_tB(Q:Bool->Hp->Prop)(x:V)(H1:Hp):Prop
 |mk (c:_) (_:x=.bl c) (_:Q c H1)
def tB(t:TE):TT:=fun σ H Q=>t σ H fun x H1=>i_tB Q x H1
theorem zdo{op:jL}{t:TE}(h:PC X op a b t)(h1:behindInMarks op b=false:=by first|exact nobehind _ (by decide) (by decide)|rfl):PE X (.Compare a [op] [b] pos) t:=fun pins s σ H Q I hw=>wpAny_Compare1 (h pins s σ H Q I hw) h1
theorem zb6{op:jL}{t:TE}(h:PC X op a b t)(h1:behindInMarks op b=false:=by first|exact nobehind _ (by decide) (by decide)|rfl):PT X (.Compare a [op] [b] pos) (tB t):=by
 intro pins s σ H Q I hw;refine wpAny_isTrue_Compare1 (thn (h pins s σ H _ I hw) fun v s1 h1=>thn h1 fun u s2 h2=>thn h2 fun c s3 ⟨x,H1,I1,r1,q1⟩=>?_) h1;obtain⟨d,rfl,q⟩:=q1;cases r1;exact wpAny_truthy_bool ⟨H1,I1,q⟩
theorem zR{e:jE}{t:TE}(h:PE X e t)(he:∀whole,isTrue e X.env whole=(do let v ←whole;standAt e.pos;holding [v] (truthy v)):=by intro _;rfl):PT X e (tB t):=by
 intro pins s σ H Q I hw;refine isTrue_plain (thn (h pins s σ H _ I hw) fun v s1 ⟨x,H1,I1,r1,q1⟩=>?_) (he _);obtain⟨d,rfl,q⟩:=q1;cases r1;exact wpAny_truthy_bool ⟨H1,I1,q⟩
variable{tA tB':TT}{rest:List jE}
def tAnd(t u:TT):TT:=fun σ H Q=>t σ H fun c H1=>if c=true then u σ H1 Q else Q false H1
def tOr(t u:TT):TT:=fun σ H Q=>t σ H fun c H1=>if c=true then Q true H1 else u σ H1 Q
def tNot(t:TT):TT:=fun σ H Q=>t σ H fun c H1=>Q (!c) H1
theorem zak(ha:PT X a tA):PW X (.BoolOp .And [a] pos) tA:=by
 intro wh pins s σ H Q I h;refine isTrue_and (thn (ha pins s σ H Q I h) fun c s1 e=>?_);cases c with
 |true=>exact isTrue_and_nil e
 |false=>exact e
theorem zae(ha:PT X a tA):PW X (.BoolOp .Or [a] pos) tA:=by
 intro wh pins s σ H Q I h;refine isTrue_or (thn (ha pins s σ H Q I h) fun c s1 e=>?_);cases c with
 |false=>exact isTrue_or_nil e
 |true=>exact e
theorem zaO(ha:PT X a tA)(hb:PW X (.BoolOp .And (b::rest) pos) tB'):PW X (.BoolOp .And (a::b::rest) pos) (tAnd tA tB'):=by
 intro wh pins s σ H Q I h;refine isTrue_and (thn (ha pins s σ H _ I h) fun c s1 ⟨H1,I1,q1⟩=>?_);cases c with
 |true=>exact hb wh pins s1 σ H1 Q I1 q1
 |false=>exact⟨H1,I1,q1⟩
theorem zaM(ha:PT X a tA)(hb:PW X (.BoolOp .Or (b::rest) pos) tB'):PW X (.BoolOp .Or (a::b::rest) pos) (tOr tA tB'):=by
 intro wh pins s σ H Q I h;refine isTrue_or (thn (ha pins s σ H _ I h) fun c s1 ⟨H1,I1,q1⟩=>?_);cases c with
 |true=>exact⟨H1,I1,q1⟩
 |false=>exact hb wh pins s1 σ H1 Q I1 q1
theorem Zh(ha:PT X a tA):PT X (.UnaryOp .Not a pos) (tNot tA):=by
 intro pins s σ H Q I h;exact isTrue_not (thn (ha pins s σ H (fun c H1=>Q (!c) H1) I h) fun c s1 ⟨H1,I1,q1⟩=>⟨H1,I1,q1⟩)
inductive i_tAndV(tb:TE)(σ:St)(Q:VK)(x:V)(H1:Hp):Prop
 |mk (c:_) (_:x=.bl c) (_:if c=true then tb σ H1 Q else Q (.bl false) H1)
def zmx(ta tb:TE):TE:=fun σ H Q=>ta σ H fun x H1=>i_tAndV tb σ Q x H1
inductive i_tOrV(tb:TE)(σ:St)(Q:VK)(x:V)(H1:Hp):Prop
 |mk (c:_) (_:x=.bl c) (_:if c=true then Q (.bl true) H1 else tb σ H1 Q)
def tOrV(ta tb:TE):TE:=fun σ H Q=>ta σ H fun x H1=>i_tOrV tb σ Q x H1
inductive i_tNotV(Q:VK)(x:V)(H1:Hp):Prop
 |mk (c:_) (_:x=.bl c) (_:Q (.bl (!c)) H1)
def zmy(ta:TE):TE:=fun σ H Q=>ta σ H fun x H1=>i_tNotV Q x H1
theorem zal {op}{t:TE} (h:PE X a t):PE X (.BoolOp op [a] pos) t:=fun pins s σ H Q I hw=>BoolOp_one (h pins s σ H Q I hw)
theorem Z5(ha:PE X a ta)(hb:PE X (.BoolOp .And (b::rest) pos) tb):PE X (.BoolOp .And (a::b::rest) pos) (zmx ta tb):=by
 intro pins s σ H Q I h;refine BoolOp_and (thn (ha pins s σ H _ I h) fun v s1 ⟨x,H1,I1,r1,q1⟩=>?_);obtain⟨c,rfl,q1⟩:=q1;cases r1;refine wpAny_truthy_bool ?_;cases c with
 |true=>exact hb pins s1 σ H1 Q I1 q1
 |false=>exact⟨.bl false,H1,I1,rfl,q1⟩
theorem zlc(ha:PE X a ta)(hb:PE X (.BoolOp .Or (b::rest) pos) tb):PE X (.BoolOp .Or (a::b::rest) pos) (tOrV ta tb):=by
 intro pins s σ H Q I h;refine BoolOp_or (thn (ha pins s σ H _ I h) fun v s1 ⟨x,H1,I1,r1,q1⟩=>?_);obtain⟨c,rfl,q1⟩:=q1;cases r1;refine wpAny_truthy_bool ?_;cases c with
 |false=>exact hb pins s1 σ H1 Q I1 q1
 |true=>exact⟨.bl true,H1,I1,rfl,q1⟩
theorem zgo(ha:PE X a ta):PE X (.UnaryOp .Not a pos) (zmy ta):=by
 intro pins s σ H Q I h;refine UnaryOp_ (thn (ha pins s σ H _ I h) fun v s1 ⟨x,H1,I1,r1,q1⟩=>?_);obtain⟨c,rfl,q1⟩:=q1;cases r1;exact not_of (wpAny_truthy_bool ⟨.bl (!c),H1,I1,rfl,q1⟩)
def tIf(t:TT)(ta tb:TE):TE:=fun σ H Q=>t σ H fun c H1=>if c=true then ta σ H1 Q else tb σ H1 Q
theorem ZB{c:jE}(hc:PT X c tA)(ha:PE X a ta)(hb:PE X b tb):PE X (.IfExp c a b pos) (tIf tA ta tb):=by
 intro pins s σ H Q I h;refine wpAny_IfExp (thn (hc pins s σ H _ I h) fun d s1 ⟨H1,I1,q1⟩=>?_);cases d with
 |true=>exact ha pins s1 σ H1 Q I1 q1
 |false=>exact hb pins s1 σ H1 Q I1 q1
end
def SqL(K:tT)(H:Hp)(a:jC)(xs:List V):Prop:=
 Rd H a (.lst xs) \/
  ∃(o:Obj)(its:Array jA)(n:Nat),K.lookup a=some o/\o.cls=.type "list"/\o.dict=none/\o.data=.seq its n/\its.size<=tI/\Vals xs its.toList
def SqT(K:tT)(H:Hp)(a:jC)(xs:List V):Prop:=
 Rd H a (.tup xs) \/
  ∃(o:Obj)(its:Array jA)(n:Nat),K.lookup a=some o/\o.cls=.type "tuple"/\o.data=.seq its n/\its.size<=tI/\Vals xs its.toList
noncomputable def absV:jA->Option V
 |.none=>some .non
 |.bool b=>some (.bl b)
 |.int i _=>some (.int i)
 |.str x _=>some (.str x)
 |.bytes b _=>some (.byt b)
 |.float b _=>some (.flt b)
 |.ref a=>some (.ref a)
 |.type n=>some (.ty n)
 |_=>none
theorem RelV.abs{x:V}{u:jA}(r:RelV x u):absV u=some x:=by
 cases x with
 |non=>cases r;rfl
 |bl _=>cases r;rfl
 |int _=>obtain⟨t,rfl⟩:=r;rfl
 |str _=>obtain⟨t,rfl⟩:=r;rfl
 |byt _=>obtain⟨t,rfl⟩:=r;rfl
 |flt _=>obtain⟨t,rfl⟩:=r;rfl
 |ref _=>cases r;rfl
 |ty _=>cases r;rfl
theorem RelV.inj{x y:V}{u:jA}(r:RelV x u)(q:RelV y u):x=y:=Option.some.inj (r.abs.symm.trans q.abs)
theorem Vals.inj:∀{xs ys:List V}{us:List jA},Vals xs us->Vals ys us->xs=ys
 |_,_,_,.nil,.nil=>rfl
 |_,_,_,.cons r t,.cons r' t'=>by rw[r.inj r',Vals.inj t t']
section
variable{X:Cx}{pins:List (jC×Obj)}{σ:St}{H:Hp}{s:jB}{a:jC}{xs ys:List V}
theorem Sl{K:tT}(h:H a=some (.lst xs)):SqL K H a xs:=.inl (.inl h)
theorem Sq{K:tT}(h:H a=some (.tup xs)):SqT K H a xs:=.inl (.inl h)
theorem Inv.list(I:Inv X pins σ H s)(h:SqL X.K H a xs):∃its:List jA,Vals xs its/\PlainL s.heap a its.toArray/\xs.length<=tI:=by
 rcases h with h|⟨o,its,n,hk,hc,hd,hs,hz,r⟩
 ·obtain⟨z,its,n,r,e⟩:=h.ok I.hok
  exact⟨its,r,⟨_,n,e,rfl,rfl,rfl⟩,z⟩
 ·refine⟨its.toList,r,⟨o,n,I.kIn a o hk,hc,hd,by simpa using hs⟩,?_⟩
  have e:=r.length;simp only[wV] at e;lia
theorem Inv.tuple(I:Inv X pins σ H s)(h:SqT X.K H a xs):∃its:List jA,Vals xs its/\IsTup s.heap a its.toArray/\xs.length<=tI:=by
 rcases h with h|⟨o,its,n,hk,hc,hs,hz,r⟩
 ·obtain⟨z,its,r,p⟩:=h.ok I.hok
  exact⟨its,r,p,z⟩
 ·refine⟨its.toList,r,⟨o,I.kIn a o hk,hc,n,by simpa using hs⟩,?_⟩
  have e:=r.length;simp only[wV] at e;lia
theorem Inv.list_inj(I:Inv X pins σ H s)(h:SqL X.K H a xs)(h':SqL X.K H a ys):xs=ys:=by
 obtain⟨its,r,⟨o,n,e,_,_,d⟩,_⟩:=I.list h;obtain⟨its',r',⟨o',n',e',_,_,d'⟩,_⟩:=I.list h';rw[e] at e';cases e';rw[d] at d';injection d' with d1 _;have:its=its':=by simpa using congrArg Array.toList d1
 subst this;exact r.inj r'
theorem Inv.tuple_inj(I:Inv X pins σ H s)(h:SqT X.K H a xs)(h':SqT X.K H a ys):xs=ys:=by
 obtain⟨its,r,⟨o,e,_,n,d⟩,_⟩:=I.tuple h;obtain⟨its',r',⟨o',e',_,n',d'⟩,_⟩:=I.tuple h';rw[e] at e';cases e';rw[d] at d';injection d' with d1 _;have:its=its':=by simpa using congrArg Array.toList d1
 subst this;exact r.inj r'
end
abbrev Cx.wish(X:Cx)(E:jA->jB->Prop):Cx:={X with xe:=E}
abbrev Cx.nox(X:Cx):Cx:=X.wish fun _ _=>False
theorem Cx.Ok.wish{X:Cx}(ok:X.Ok)(E:jA->jB->Prop):(X.wish E).Ok:=
 ⟨ok.mod,ok.kind,ok.glob,ok.blt,ok.above,ok.inj,ok.has,ok.cab,ok.hd,ok.frames,ok.stk,ok.exf,ok.bs,ok.bsz,ok.noex,ok.exfs,ok.funs,ok.frf⟩
theorem Cx.Ok.unwish{X:Cx}{E:jA->jB->Prop}(ok:(X.wish E).Ok):X.Ok:=
 ⟨ok.mod,ok.kind,ok.glob,ok.blt,ok.above,ok.inj,ok.has,ok.cab,ok.hd,ok.frames,ok.stk,ok.exf,ok.bs,ok.bsz,ok.noex,ok.exfs,ok.funs,ok.frf⟩
section
variable{X:Cx}{pins:List (jC×Obj)}{σ:St}{H:Hp}{s:jB}{E:jA->jB->Prop}
theorem Inv.wish(I:Inv X pins σ H s)(E:jA->jB->Prop):Inv (X.wish E) pins σ H s:=⟨I.ok.wish E,I.os,I.bare,I.base,I.loc,I.cell,I.free,I.freeC,I.pin,I.hok,I.len⟩
theorem Inv.unwish(I:Inv (X.wish E) pins σ H s):Inv X pins σ H s:=⟨I.ok.unwish,I.os,I.bare,I.base,I.loc,I.cell,I.free,I.freeC,I.pin,I.hok,I.len⟩
theorem SP.unwish{D:Ends}{f:Flow}{s':jB}(h:SP (X.wish E) pins D f s'):SP X pins D f s':=by
 cases f with
 |next=>obtain⟨σ',H',I,q⟩:=h;exact⟨σ',H',I.unwish,q⟩
 |brk=>obtain⟨σ',H',I,q⟩:=h;exact⟨σ',H',I.unwish,q⟩
 |cont=>obtain⟨σ',H',I,q⟩:=h;exact⟨σ',H',I.unwish,q⟩
 |ret u=>obtain⟨v,σ',H',I,r,q⟩:=h;exact⟨v,σ',H',I.unwish,r,q⟩
theorem PSs.nox{st:List jF}{t:TS}(h:PSs X.nox st t):PSs X st t:=fun pins s σ H D I hw=>
 wpAny_mono (h pins s σ H D (I.wish _) hw) (fun _ _ q=>q.unwish) fun _ _ z=>False.elim z
end
section
variable{X:Cx}{st:jF}{rest:List jF}{t u:TS}{e:jE}{te:TE}{pos:Pos}
def zld:TS:=fun D σ H=>D.nx σ H
def tSeq(t u:TS):TS:=fun D σ H=>t {D with nx:=u D} σ H
theorem zA:PSs X [] zld:=fun _ _ σ H _ I h=>wpAny_execs_nil ⟨σ,H,I,h⟩
theorem zm(h1:PS X st t)(h2:PSs X rest u):PSs X (st::rest) (tSeq t u):=by
 intro pins s σ H D I h;refine wpAny_execs_cons (thn (h1 pins s σ H {D with nx:=u D} I h) fun f s1 q=>?_);cases f with
 |next=>
  obtain⟨σ',H',I',q⟩:=q;exact h2 pins s1 σ' H' D I' q
 |ret v=>exact q
 |brk=>exact q
 |cont=>exact q
theorem zo(h1:PS X st t):PSs X [st] t:=by
 intro pins s σ H D I h;refine wpAny_execs_cons (thn (h1 pins s σ H D I h) fun f s1 q=>?_);cases f with
 |next=>exact wpAny_execs_nil q
 |ret v=>exact q
 |brk=>exact q
 |cont=>exact q
theorem Inv.quiet{pins:List (jC×Obj)}{σ:St}{H:Hp}{s:jB}(I:Inv X pins σ H s):interactive X.env=false:=by simp[interactive,I.ok.kind]
def zmz(te:TE):TS:=fun D σ H=>te σ H fun _ H1=>D.nx σ H1
theorem ZW(he:PE X e te)(hs:swapsWith e none pos.line X.env=pure false:=by rfl):PS X (.Expr e pos) (zmz te):=by
 intro pins s σ H D I h;exact wpAny_Expr_any (thn (he pins s σ H _ I h) fun v s1 ⟨x,H1,I1,r1,q1⟩=>⟨σ,H1,I1,q1⟩) I.quiet hs
def tRet(te:TE):TS:=fun D σ H=>te σ H D.rt
theorem zt(he:PE X e te):PS X (.Return (some e) pos) (tRet te):=by
 intro pins s σ H D I h;exact wpAny_Return_some (thn (he pins s σ H _ I h) fun v s1 ⟨x,H1,I1,r1,q1⟩=>⟨x,σ,H1,I1,r1,q1⟩)
def tIfS(c:TT)(t u:TS):TS:=fun D σ H=>c σ H fun b H1=>if b=true then t D σ H1 else u D σ H1
theorem zN{c:jE}{a b:List jF}{tc:TT}(hc:PT X c tc)(ha:PSs X a t)(hb:PSs X b u):PS X (.If c a b pos) (tIfS tc t u):=by
 intro pins s σ H D I h;refine wpAny_If (thn (hc pins s σ H _ I h) fun d s1 ⟨H1,I1,q1⟩=>?_);cases d with
 |true=>exact ha pins s1 σ H1 D I1 q1
 |false=>exact hb pins s1 σ H1 D I1 q1
end
abbrev TG:=V->St->Hp->(St->Hp->Prop)->Prop
abbrev TGs:=List V->St->Hp->(St->Hp->Prop)->Prop
def PG(X:Cx)(target:jE)(t:TG):Prop:=
 ∀(pins:List (jC×Obj))(s:jB)(σ:St)(H:Hp)(v:V)(u:jA)(Q:St->Hp->Prop),Inv X pins σ H s->RelV v u->t v σ H Q->
  wpAny (model X.prog X.w) X.A (assign target X.env u) (fun _ s'=>∃σ' H',Inv X pins σ' H' s'/\Q σ' H') X.xe s
def PGs(X:Cx)(ts:List jE)(t:TGs):Prop:=
 ∀(pins:List (jC×Obj))(s:jB)(σ:St)(H:Hp)(vs:List V)(us:List jA)(Q:St->Hp->Prop),Inv X pins σ H s->Vals vs us->t vs σ H Q->
  wpAny (model X.prog X.w) X.A (assignInOrder ((assignEach ts X.env).map (·.2)) us) (fun _ s'=>∃σ' H',Inv X pins σ' H' s'/\Q σ' H') X.xe s
abbrev TSet:=V->V->V->Hp->(Hp->Prop)->Prop
def PSet(X:Cx)(t:TSet):Prop:=
 ∀(pins:List (jC×Obj))(s:jB)(σ:St)(H:Hp)(o i v:V)(ov iv u:jA)(Q:Hp->Prop),Inv X pins σ H s->RelV o ov->RelV i iv->RelV v u->t o i v H Q->
  wpAny (model X.prog X.w) X.A (setItem ov iv u) (fun _ s'=>∃H',Inv X pins σ H' s'/\Q H') X.xe s
abbrev TIp:=V->V->Hp->VK->Prop
def PIp(X:Cx)(op:jM)(t:TIp):Prop:=
 ∀(pins:List (jC×Obj))(s:jB)(σ:St)(H:Hp)(x y:V)(v u:jA)(Q:VK),Inv X pins σ H s->RelV x v->RelV y u->t x y H Q->
  wpAny (model X.prog X.w) X.A (inplaceOp op v u) (EP X pins σ Q) X.xe s
section
variable{X:Cx}{pos:Pos}
def zW(i:Nat):TG:=fun v σ H Q=>Q (σ.set i (some v)) H
theorem zS{i:Nat}{x:Str}(hN:X.N.Nodup)(hi:X.N[i]?=some x)(hx:Loc X.env.scope x)(hf:X.fn x=true\/X.env.scope.names.lookup x=some .local:=by first|exact .inl rfl|exact .inr rfl|assumption):PG X (.Name x pos) (zW i):=by
 intro pins s σ H v u Q I r h;exact wpAny_assign_Name (zdM I hN hi hx r (fun s' I'=>⟨_,H,I',h⟩) hf)
inductive gNil(vs:List V)(σ:St)(H:Hp)(Q:St->Hp->Prop):Prop
 |mk (_:vs=[]) (_:Q σ H)
inductive gCons(t:TG)(u:TGs)(vs:List V)(σ:St)(H:Hp)(Q:St->Hp->Prop):Prop
 |mk (v r:_) (_:vs=v::r) (_:t v σ H fun σ' H'=>u r σ' H' Q)
theorem zar:PGs X [] gNil:=by
 intro pins s σ H vs us Q I r h;obtain⟨e,h⟩:=h;subst e;cases r;exact assignInOrder_nil ⟨σ,H,I,h⟩
theorem zZ{e:jE}{es:List jE}{t:TG}{u:TGs}(h1:PG X e t)(h2:PGs X es u)
  (hs:(assignEach (e::es) X.env).map (·.2)=assign e X.env::(assignEach es X.env).map (·.2):=by rfl):PGs X (e::es) (gCons t u):=by
 intro pins s σ H vs us Q I r h;obtain⟨v,vr,e1,h⟩:=h;subst e1;cases r with
 |cons r rr=>
  rw[hs];refine assignInOrder_cons (thn (h1 pins s σ H _ _ _ I r h) fun _ s1 ⟨σ1,H1,I1,q1⟩=>?_);exact h2 pins s1 σ1 H1 _ _ Q I1 rr q1
inductive gTup(K:tT)(n:Nat)(t:TGs)(v:V)(σ:St)(H:Hp)(Q:St->Hp->Prop):Prop
 |mk (a xs:_) (_:v=.ref a) (_:SqT K H a xs) (_:xs.length=n) (_:t xs σ H Q)
theorem zaJ{es:List jE}{k:Nat}{t:TGs}{n:Nat}(hc:X.calm=true)(h:PGs X es t)
  (hn:(assignEach es X.env).length=n:=by rfl) (hst:(assignEach es X.env).findIdx? (·.1)=none:=by rfl):PG X (.Tuple es k pos) (gTup X.K n t):=by
 intro pins s σ H v u Q I r hw;obtain⟨a,xs,e1,hq,hl,hw⟩:=hw;subst e1;cases r;obtain⟨its,rv,ht,hz⟩:=I.tuple hq;refine assign_Tuple_tuple (I.ok.hd hc) ht (by simp[hn,←hl,rv.length]) hst fun h' hx=>?_;have I1:Inv X pins σ H {s with heap:=h'}:=I.kept (t':=s.toks) fun b o e=>hx b o (xC (tE e)) e;exact h pins _ σ H xs _ Q I1 (by simpa using rv) hw
def gSub(to ti:TE)(t:TSet):TG:=fun v σ H Q=>to σ H fun o H1=>ti σ H1 fun i H2=>t o i v H2 fun H3=>Q σ H3
theorem zcs{o i:jE}{to ti:TE}{t:TSet}(ho:PE X o to)(hi:PE X i ti)(hs:PSet X t)
  (ha:∀v,assign (.Subscript o i pos) X.env v=(do
   let ov ←holding [v] (eval o X.env)
   let iv ←holding [v,ov] (eval i X.env)
   standAt pos
   holding [v,ov,iv] (setItem ov iv v)
   release [v,ov,iv] []):=by intro _;rfl):PG X (.Subscript o i pos) (gSub to ti t):=by
 intro pins s σ H v u Q I r h;rw[ha];refine uY (wpAny_holding (thn (ho pins s σ H _ I h) fun ov s1 ⟨x,H1,I1,r1,q1⟩=>?_));refine uY (wpAny_holding (thn (hi pins s1 σ H1 _ I1 q1) fun iv s2 ⟨y,H2,I2,r2,q2⟩=>?_));refine uY (wpAny_standAt (uY (wpAny_holding (thn (hs pins s2 σ H2 x y v ov iv u _ I2 r1 r2 r q2) fun _ s3 ⟨H3,I3,q3⟩=>?_))));exact wpAny_release ⟨σ,H3,I3,q3⟩
def tAsg(te:TE)(g:TG):TS:=fun D σ H=>te σ H fun x H1=>g x σ H1 D.nx
theorem zaK{tg e:jE}{te:TE}{g:TG}(he:PE X e te)(hg:PG X tg g)(hs:swapsWithSole [tg] e pos.line X.env=pure false:=by rfl)(hw:swappedStores [tg] e X.env=pure none:=by rfl)
  (h1:(assignEach [tg] X.env).map (·.2)=[assign tg X.env]:=by rfl):PS X (.Assign [tg] e pos) (tAsg te g):=by
 intro pins s σ H D I h;refine wpAny_Assign_stores (thn (he pins s σ H _ I h) fun v s1 ⟨x,H1,I1,r1,q1⟩=>?_) hs hw;rw[h1];exact thn (hg pins s1 σ H1 x v _ I1 r1 q1) fun _ s2 q=>q
theorem zC{i:Nat}{x:Str}{e:jE}{te:TE}{pos':Pos}(hN:X.N.Nodup)(hi:X.N[i]?=some x)(hx:Loc X.env.scope x)(he:PE X e te)(hs:swapsWith e (some (.Name x pos')) pos.line X.env=pure false:=by rfl)(hf:X.fn x=true\/X.env.scope.names.lookup x=some .local:=by first|exact .inl rfl|exact .inr rfl|assumption):
  PS X (.Assign [.Name x pos'] e pos) (tAsg te (zW i)):=by
 intro pins s σ H D I h;refine wpAny_Assign_Name (thn (he pins s σ H _ I h) fun v s1 ⟨y,H1,I1,r1,q1⟩=>?_) hs;exact zdM I1 hN hi hx r1 (fun s2 I2=>⟨_,H1,I2,q1⟩) hf
inductive tAug(i:Nat)(te:TE)(ti:TIp)(D:Ends)(σ:St)(H:Hp):Prop
 |mk (x:_) (_:σ[i]?=some (some x)) (_:te σ H fun y H1=>ti x y H1 fun z H2=>D.nx (σ.set i (some z)) H2)
theorem zmA{i:Nat}{x:Str}{e:jE}{te:TE}{op:jM}{ti:TIp}{pos':Pos}(hN:X.N.Nodup)(hi:X.N[i]?=some x)(hx:Loc X.env.scope x)(he:PE X e te)(ho:PIp X op ti)(hf:X.fn x=true\/X.env.scope.names.lookup x=some .local:=by first|exact .inl rfl|exact .inr rfl|assumption):
  PS X (.AugAssign (.Name x pos') op e pos) (tAug i te ti):=by
 intro pins s σ H D I h;obtain⟨v,e1,h⟩:=h;obtain⟨m,hn,hl⟩:=I.loc;have vis:Vis X.env.scope x:=by rcases hx with k|k;exact .inl k;exact .inr (.inl k)
 obtain⟨u,r,l⟩:=hl i x v hi e1 vis;refine wpAny_AugAssign_Name ?_;have go:wpAny (model X.prog X.w) X.A (eval e X.env) (fun w s₂=>wpAny (model X.prog X.w) X.A (inplaceOp op u w) (fun r s₃=>wpAny (model X.prog X.w) X.A (storeName X.env x r) (fun _=>SP X pins D .next) X.xe s₃) X.xe s₂) X.xe s:=by
  refine thn (he pins s σ H _ I h) fun w s1 ⟨y,H1,I1,r1,q1⟩=>?_;refine thn (ho pins s1 σ H1 v y u w _ I1 r r1 q1) fun z s2 ⟨zv,H2,I2,r2,q2⟩=>?_;exact zdM I2 hN hi hx r2 (fun s3 I3=>⟨_,H2,I3,q2⟩) hf
 rcases l with⟨hk,hm⟩|⟨hk,c,hc,hcell⟩
 ·exact wpAny_loadName_local I.ok.kind hk hn hm go
 ·rcases hk with hk|hk
  ·exact wpAny_loadName_cell I.ok.kind hk hc hcell go
  ·rcases hx with k|k
   ·have:X.env.scope.names.lookup x=some .free:=hk
    rw[k] at this;cases this
   ·have:X.env.scope.names.lookup x=some .free:=hk
    rw[k] at this;cases this
end
section
variable{X:Cx}{pos:Pos}
def zkH(c:TT)(tb:TS):TS:=fun D σ H=>∃W:Nat->St->Hp->Prop,(∃m,W m σ H)/\∀m σ H,W m σ H->
 c σ H fun b H1=>if b=true then ∃N:St->Hp->Prop,(∀σ' H',N σ' H'->∃m',m'<m/\W m' σ' H')/\tb {D with nx:=N,ct:=N,bk:=D.nx} σ H1 else D.nx σ H1
theorem zbt{c:jE}{body:List jF}{tc:TT}{tb:TS}(hp:PassesOwn (model X.prog X.w) X.A X.env X.xe)(hc:PT X c tc)(hb:PSs X body tb):PS X (.While c body [] pos) (zkH tc tb):=by
 intro pins s σ H D I h;obtain⟨W,⟨m0,w0⟩,turn⟩:=h;refine wpAny_While (codeAny_whileLoop (fun n s'=>∃σ' H',Inv X pins σ' H' s'/\W n σ' H') ?_ m0 ⟨σ,H,I,w0⟩);rintro n s1 ⟨σ1,H1,I1,w1⟩;refine wpAny_passesOwn hp (thn (hc pins s1 σ1 H1 _ I1 (turn n σ1 H1 w1)) fun b s2 ⟨H2,I2,q2⟩=>?_);cases b with
 |true=>
  obtain⟨N,hN,q2⟩:=q2;rw[if_pos rfl];refine wpAny_passesOwn hp (thn (hb pins s2 σ1 H2 _ I2 q2) fun f s3 q3=>?_);cases f with
  |next=>
   obtain⟨σ3,H3,I3,n3⟩:=q3;obtain⟨m',hm,w3⟩:=hN σ3 H3 n3;exact⟨m',hm,σ3,H3,I3,w3⟩
  |cont=>
   obtain⟨σ3,H3,I3,n3⟩:=q3;obtain⟨m',hm,w3⟩:=hN σ3 H3 n3;exact⟨m',hm,σ3,H3,I3,w3⟩
  |brk=>exact q3
  |ret v=>exact q3
 |false=>
  rw[if_neg yO];exact wpAny_execs_nil ⟨σ1,H2,I2,q2⟩
end
structure It where
 go:Nat->Hp->Prop
 yld:Nat->Hp->V->Hp->Prop
 stop:Nat->Hp->Prop
def FpOk(X:Cx)(pins:List (jC×Obj))(H:Hp)(b:jC):Prop:=
 H b=none/\b≠X.env.locals/\b ∉ X.fs/\(b∈X.ex\/X.s₀.heap.objs.size<=b)/\(∀x c,X.env.cells.lookup x=some c->c≠b)/\∀p∈X.pn++pins,p.1≠b
theorem Inv.fpOk{X:Cx}{pins:List (jC×Obj)}{σ:St}{H H':Hp}{s:jB}{b:jC}(I:Inv X pins σ H s)(hb:s.heap.objs.size<=b)(hn:H' b=none):FpOk X pins H' b:=by
 refine⟨hn,xE (yU I.lt hb),I.nofs hb,.inr (yM I.sz hb),fun x c e z=>?_,fun p hp z=>?_⟩
 ·obtain⟨v,q⟩:=I.cell x c e
  exact absurd (yU q.lt (by rw[z];exact hb)) (xN _)
 ·exact absurd (yU (tE (I.pin p hp).1) (by rw[z];exact hb)) (xN _)
structure Turn(P:jG)(w:jH)(K:tT)(tg:jE)(J:It)(fp:List jC)(it:jC)(tn:Nat->jD->Prop):Prop where
 mem:it∈fp
 obj:∀i h,tn i h->∀b∈fp,∃o,h.get? b=some o/\∀v,o.data≠.cell v
 keep:∀i h h',tn i h->(∀b∈fp,∀o,h.get? b=some o->h'.get? b=some o)->tn i h'
 item:∀(X:Cx),X.prog=P->X.w=w->X.K=K->X.calm=true->∀(i:Nat)(pins:List (jC×Obj))(s:jB)(σ:St)(H:Hp)(E:jA->jB->Prop),Inv X pins σ H s->(∀b∈fp,FpOk X pins H b)->tn i s.heap->J.go i H->
  wpAny (model P w) X.A (pyNext (.ref it)) (fun r s1=>∃u,r=some u /\
   wpAny (model P w) X.A (letOwnedTupleGo tg (.ref it) u) (fun _ s2=>∃x H',Inv X pins σ H' s2/\RelV x u/\J.yld i H x H'/\tn (i+1) s2.heap/\∀b∈fp,H' b=none) E s1) E s
 done:∀(X:Cx),X.prog=P->X.w=w->X.K=K->X.calm=true->∀(i:Nat)(pins:List (jC×Obj))(s:jB)(σ:St)(H:Hp)(E:jA->jB->Prop),Inv X pins σ H s->(∀b∈fp,FpOk X pins H b)->tn i s.heap->J.stop i H->
  wpAny (model P w) X.A (pyNext (.ref it)) (fun r s1=>r=none/\Inv X pins σ H s1) E s
 self:∀(A:jI)(i:Nat)(s:jB)(Q:jA->jB->Prop)(E:jA->jB->Prop),tn i s.heap->Q (.ref it) s->wpAny (model P w) A (pyIter (.ref it)) Q E s
abbrev TI:=St->Hp->(It->Hp->Prop)->Prop
inductive PIE(X:Cx)(pins:List (jC×Obj))(σ:St)(tg:jE)(R:It->Hp->Prop)(itv:jA)(s2:jB):Prop
 |mk (it:jC) (fp:List jC) (tn:Nat->jD->Prop) (J:It) (H':Hp) (_:itv=.ref it) (_:Inv X pins σ H' s2) (_:Turn X.prog X.w X.K tg J fp it tn) (_:tn 0 s2.heap) (_:(∀b∈fp,FpOk X pins H' b)) (_:R J H')
def PI(X:Cx)(tg iter:jE)(wi:TI):Prop:=
 ∀(pins:List (jC×Obj))(s:jB)(σ:St)(H:Hp)(R:It->Hp->Prop),Inv X pins σ H s->wi σ H R->
  wpAny (model X.prog X.w) X.A (eval iter X.env) (fun v s1=>wpAny (model X.prog X.w) X.A (pyIter v) (PIE X pins σ tg R) X.xe s1) X.xe s
theorem zjA{M:Model}{A:jI}{E:jA->jB->Prop}{s:jB}{tg:jE}{it:jC}{u:jA}{o:Obj}{n:String}{vs:Array jA}{Q:Unit->jB->Prop}(ho:s.heap.get? it=some o)(hc:o.cls=.type n)(hd:o.data=.fields vs)
  (hn:["enumerate","zip","dict_itemiterator","dict_reverseitemiterator","odict_iterator","itertools.zip_longest","itertools.pairwise"].contains n=false) (hQ:Q () s):wpAny M A (letOwnedTupleGo tg (.ref it) u) Q E s:=by
 unfold letOwnedTupleGo;cases tg<;>first
  |exact uZ hQ
  |(
    cases u<;>first
    |exact uZ hQ
    |(
      refine uY (wpAny_load ho ?_);rw[hc,hd];show wpAny M A (if (["enumerate","zip","dict_itemiterator","dict_reverseitemiterator","odict_iterator","itertools.zip_longest","itertools.pairwise"].contains n&&vs[0]? == some (rawInt _))=true then _ else _) Q E s;rw[if_neg (by intro h;rw[hn,uJ] at h;cases h)];exact uZ hQ))
noncomputable def Itl(K:tT)(a:jC):It:=
 ⟨fun i H=>∃xs x,SqL K H a xs/\xs[i]?=some x,fun i H x H'=>H'=H/\∀xs,SqL K H a xs->xs[i]?=some x,fun i H=>∃xs,SqL K H a xs/\xs.length<=i⟩
noncomputable def Itt(K:tT)(a:jC):It:=
 ⟨fun i H=>∃xs x,SqT K H a xs/\xs[i]?=some x,fun i H x H'=>H'=H/\∀xs,SqT K H a xs->xs[i]?=some x,fun i H=>∃xs,SqT K H a xs/\xs.length<=i⟩
noncomputable def Itr(lo:Int)(n:Nat):It:=⟨fun i _=>i<n,fun i H x H'=>H'=H/\x=.int (lo+i),fun i _=>n<=i⟩
theorem zhG{P:jG}{w:jH}{K:tT}{tg:jE}(a it:jC):Turn P w K tg (Itl K a) [it] it (fun i h=>h.IsListIter it a i) where
 mem:=by simp
 obj:=fun i h st b hb=>by
  have e:b=it:=by simpa using hb
  subst e;obtain⟨o,e,c,d⟩:=st;exact⟨o,e,fun v z=>by rw[d] at z;cases z⟩
 keep:=fun i h h' st k=>st.at fun o e=>k it (by simp) o e
 item:=by
  intro X hP hw hK hc i pins s σ H E I hf st hg;subst hP hw hK;obtain⟨xs,x,hq,hx⟩:=hg;obtain⟨its,rv,p,hz⟩:=I.list hq;obtain⟨u,hu,ru⟩:=rv.get hx;obtain⟨f0,f1,f2,f3,f4,f5⟩:=hf it (by simp);refine wpAny_pyNext_list_item st p.isList (x:=u) (by simpa using hu) fun h' st' sb=>?_;have I1:Inv X pins σ H {s with heap:=h'}:=I.turned (t':=s.toks) (fun b o hb e=>(sb.2 b hb).trans e) f0 f1 f3 f4 f5;obtain⟨o,e,c,d⟩:=id st';exact⟨u,rfl,zjA (s:={s with heap:=h'}) e c d (by decide) ⟨x,H,I1,ru,⟨rfl,fun ys hy=>by rw[I.list_inj hy hq];exact hx⟩,st',fun b hb=>(hf b hb).1⟩⟩
 done:=by
  intro X hP hw hK hc i pins s σ H E I hf st hg;subst hP hw hK;obtain⟨xs,hq,hx⟩:=hg;obtain⟨its,rv,p,hz⟩:=I.list hq;obtain⟨f0,f1,f2,f3,f4,f5⟩:=hf it (by simp);have hl:=rv.length;exact wpAny_pyNext_list_end (I.ok.hd hc) st p.isList (by simp;lia) fun h' eb=>⟨rfl,I.turned (t':=s.toks) (fun b o hb e=>eb b o hb e) f0 f1 f3 f4 f5⟩
 self:=fun _ _ _ _ _ st h=>wpAny_pyIter_listiter st h
theorem zgS{P:jG}{w:jH}{K:tT}{tg:jE}(a it:jC):Turn P w K tg (Itt K a) [it] it (fun i h=>h.IsTupleIter it a i) where
 mem:=by simp
 obj:=fun i h st b hb=>by
  have e:b=it:=by simpa using hb
  subst e;obtain⟨o,e,c,d⟩:=st;exact⟨o,e,fun v z=>by rw[d] at z;cases z⟩
 keep:=fun i h h' st k=>st.at fun o e=>k it (by simp) o e
 item:=by
  intro X hP hw hK hc i pins s σ H E I hf st hg;subst hP hw hK;obtain⟨xs,x,hq,hx⟩:=hg;obtain⟨its,rv,p,hz⟩:=I.tuple hq;obtain⟨u,hu,ru⟩:=rv.get hx;obtain⟨f0,f1,f2,f3,f4,f5⟩:=hf it (by simp);refine wpAny_pyNext_tuple_item st (show s.heap.IsTuple a its.toArray from p) (x:=u) (by simpa using hu) fun h' st' sb=>?_;have I1:Inv X pins σ H {s with heap:=h'}:=I.turned (t':=s.toks) (fun b o hb e=>(sb.2 b hb).trans e) f0 f1 f3 f4 f5;obtain⟨o,e,c,d⟩:=id st';exact⟨u,rfl,zjA (s:={s with heap:=h'}) e c d (by decide) ⟨x,H,I1,ru,⟨rfl,fun ys hy=>by rw[I.tuple_inj hy hq];exact hx⟩,st',fun b hb=>(hf b hb).1⟩⟩
 done:=by
  intro X hP hw hK hc i pins s σ H E I hf st hg;subst hP hw hK;obtain⟨xs,hq,hx⟩:=hg;obtain⟨its,rv,p,hz⟩:=I.tuple hq;obtain⟨f0,f1,f2,f3,f4,f5⟩:=hf it (by simp);have hl:=rv.length;exact wpAny_pyNext_tuple_end (I.ok.hd hc) st (show s.heap.IsTuple a its.toArray from p) (by simp;lia) fun h' eb=>⟨rfl,I.turned (t':=s.toks) (fun b o hb e=>eb b o hb e) f0 f1 f3 f4 f5⟩
 self:=fun _ _ _ _ _ st h=>wpAny_pyIter_tupleiter st h
theorem zgT{P:jG}{w:jH}{K:tT}{tg:jE}(it:jC)(lo:Int)(n:Nat):Turn P w K tg (Itr lo n) [it] it (fun i h=>IsRangeIter h it (lo+(i:Nat)*1) ((n:Int)-(i:Nat)) 1) where
 mem:=by simp
 obj:=fun i h st b hb=>by
  have e:b=it:=by simpa using hb
  subst e;exact⟨_,st,fun v z=>by
   have z':Data.fields _=Data.cell v:=z;cases z'⟩
 keep:=fun i h h' st k=>k it (by simp) _ st
 item:=by
  intro X hP hw hK hc i pins s σ H E I hf st hg;subst hP hw hK;obtain⟨f0,f1,f2,f3,f4,f5⟩:=hf it (by simp);have W:=Walks.range (prog:=X.prog) (w:=X.w) (I.ok.hd hc) it lo 1 n;refine W.item i s _ _ hg st fun v h' tk hv st' kk=>?_;obtain⟨t,rfl⟩:=hv;have I1:Inv X pins σ H {s with heap:=h',toks:=tk}:=I.turned (fun b o hb e=>kk b o (by simpa using hb) e) f0 f1 f3 f4 f5;refine⟨_,rfl,zjA (s:={s with heap:=h',toks:=tk}) (n:="range_iterator") st' rfl rfl (by decide) ⟨.int (lo+i),H,I1,⟨t,?_⟩,⟨rfl,rfl⟩,st',fun b hb=>(hf b hb).1⟩⟩;rw[Int.mul_one]
 done:=by
  intro X hP hw hK hc i pins s σ H E I hf st hg;subst hP hw hK;obtain⟨f0,f1,f2,f3,f4,f5⟩:=hf it (by simp);exact wpAny_pyNext_range_end (I.ok.hd hc) st (by have:n<=i:=hg;lia) fun h' eb=>⟨rfl,I.turned (t':=s.toks) (fun b o hb e=>eb b o hb e) f0 f1 f3 f4 f5⟩
 self:=fun _ _ _ _ _ st h=>wpAny_pyIter_rangeiter st h
section
variable{X:Cx}{tg:jE}
inductive i_iList(K:tT)(R:It->Hp->Prop)(x:V)(H1:Hp):Prop
 |mk (a:_) (_:x=.ref a) (_:(∃xs,SqL K H1 a xs)) (_:R (Itl K a) H1)
def zhH(K:tT)(tl:TE):TI:=fun σ H R=>tl σ H fun x H1=>i_iList K R x H1
inductive i_iTup(K:tT)(R:It->Hp->Prop)(x:V)(H1:Hp):Prop
 |mk (a:_) (_:x=.ref a) (_:(∃xs,SqT K H1 a xs)) (_:R (Itt K a) H1)
def iTup(K:tT)(tl:TE):TI:=fun σ H R=>tl σ H fun x H1=>i_iTup K R x H1
theorem zac{l:jE}{tl:TE}(hl:PE X l tl):PI X tg l (zhH X.K tl):=by
 intro pins s σ H R I h;refine thn (hl pins s σ H _ I h) fun v s1 ⟨x,H1,I1,r1,q1⟩=>?_;obtain⟨a,e,⟨xs,hq⟩,q⟩:=q1;subst e;cases r1;obtain⟨its,rv,p,hz⟩:=I1.list hq;refine wpAny_pyIter_list p.isList ?_;refine⟨s1.heap.objs.size,[s1.heap.objs.size],_,_,H1,rfl,I1.kept (t':=s1.toks) fun b o e=>tD _ e,zhG a _,⟨_,tF _ rfl,rfl,rfl⟩,fun b hb=>?_,q⟩;have e:b=s1.heap.objs.size:=by simpa using hb
 subst e;exact I1.fpOk (yG _) (I1.hok.fresh (yG _))
theorem zct{l:jE}{tl:TE}(hl:PE X l tl):PI X tg l (iTup X.K tl):=by
 intro pins s σ H R I h;refine thn (hl pins s σ H _ I h) fun v s1 ⟨x,H1,I1,r1,q1⟩=>?_;obtain⟨a,e,⟨xs,hq⟩,q⟩:=q1;subst e;cases r1;obtain⟨its,rv,p,hz⟩:=I1.tuple hq;refine wpAny_pyIter_tuple (show s1.heap.IsTuple a its.toArray from p) ?_;refine⟨s1.heap.objs.size,[s1.heap.objs.size],_,_,H1,rfl,I1.kept (t':=s1.toks) fun b o e=>tD _ e,zgS a _,⟨_,tF _ rfl,rfl,rfl⟩,fun b hb=>?_,q⟩;have e:b=s1.heap.objs.size:=by simpa using hb
 subst e;exact I1.fpOk (yG _) (I1.hok.fresh (yG _))
theorem zjB{pins:List (jC×Obj)}{σ:St}{H:Hp}{s:jB}{R:It->Hp->Prop}{E:jA->jB->Prop}{lo hi:Int}{t u v:Tok}{tk:Nat}(I:Inv X pins σ H s)(h1:-(2 ^ 62)<=lo)(h2:lo<2 ^ 62)(h3:-(2 ^ 62)<=hi)(h4:hi<2 ^ 62)
  (q:R (Itr lo (hi-lo).toNat) H):wpAny (model X.prog X.w) X.A (pyIter (.ref s.heap.objs.size)) (PIE X pins σ tg R) E {s with heap:=s.heap.push {cls:=.type "range",data:=.fields #[.int lo t,.int hi u,.int 1 v]},toks:=tk}:=by
 refine wpAny_pyIter_range (IsRange.new ..) (small_one h1 h2 h3 h4) ?_;have I1:Inv X pins σ H {s with heap:=s.heap.push {cls:=.type "range",data:=.fields #[.int lo t,.int hi u,.int 1 v]},toks:=tk}:=I.kept fun b o e=>tD _ e;refine⟨(s.heap.push {cls:=.type "range",data:=.fields #[.int lo t,.int hi u,.int 1 v]}).objs.size,[(s.heap.push {cls:=.type "range",data:=.fields #[.int lo t,.int hi u,.int 1 v]}).objs.size],_,_,H,rfl,
  I1.kept (t':=tk) fun b o e=>tD _ e,zgT _ lo (hi-lo).toNat,?_,fun b hb=>?_,q⟩
 ·have e1:lo+((0:Nat):Int)*1=lo:=by simp
  have e2:(((hi-lo).toNat:Nat):Int)-((0:Nat):Int)=Builtin.Range.rangeSize lo hi 1:=by rw[rangeSize_one];split<;>lia
  show IsRangeIter _ _ (lo+((0:Nat):Int)*1) ((((hi-lo).toNat:Nat):Int)-((0:Nat):Int)) 1;rw[e1,e2];exact tF _ rfl
 ·have e:b=(s.heap.push {cls:=.type "range",data:=.fields #[.int lo t,.int hi u,.int 1 v]}).objs.size:=by simpa using hb
  subst e;exact I1.fpOk (yG _) (I1.hok.fresh (yG _))
inductive i_iRng1(R:It->Hp->Prop)(vs:List V)(H1:Hp):Prop
 |mk (j:Int) (_:vs=[.int j]) (_:-(2 ^ 62)<=j) (_:j<2 ^ 62) (_:R (Itr 0 j.toNat) H1)
def zmB(ta:TA):TI:=fun σ H R=>ta σ H fun vs H1=>i_iRng1 R vs H1
theorem Zc{a:jE}{ta:TA}{p pos:Pos}(hg:Gl X "range")(hm:X.mg "range"=none)(ha:PA X [a] ta)(hs:tK [a] X.env=[(false,eval a X.env)]:=by rfl):PI X tg (.Call (.Name "range" p) [a] [] pos) (zmB ta):=by
 intro pins s σ H R I h;refine Call_ (za4 I hg hm boot_range (PyProof.Rows.callWith_type1 (thn (ha pos pins s σ H _ I h) fun us s1 ⟨vs,H1,I1,r1,q1⟩=>?_) hs rfl));obtain⟨j,e,q1,q2,q⟩:=q1;subst e;cases r1 with
 |cons r rr=>
  cases rr;obtain⟨t,rfl⟩:=r;exact call_range_1 (zjB I1 (by lia) (by lia) q1 q2 (by simpa using q))
def tFor(wi:TI)(g:TG)(tb:TS):TS:=fun D σ H=>wi σ H fun J H1=>∃W:Nat->Nat->St->Hp->Prop,(∃m,W 0 m σ H1)/\∀i m σ H,W i m σ H->
 (J.stop i H/\D.nx σ H)\/(J.go i H/\∃N:St->Hp->Prop,(∀σ' H',N σ' H'->∃m',m'<m/\W (i+1) m' σ' H')/\∀x H',J.yld i H x H'->g x σ H' fun σ2 H2=>tb {D with nx:=N,ct:=N,bk:=D.nx} σ2 H2)
noncomputable def zeC(fp:List jC)(h:jD):List (jC×Obj):=fp.filterMap fun b=>(h.get? b).map fun o=>(b,o)
theorem zaX{fp:List jC}{h:jD}{b:jC}{o:Obj}(hb:b∈fp)(e:h.get? b=some o):(b,o)∈zeC fp h:=vN.mpr ⟨b,hb,by rw[e];rfl⟩
theorem zhI{fp:List jC}{h:jD}{p:jC×Obj}(hp:p∈zeC fp h):p.1∈fp/\h.get? p.1=some p.2:=by
 obtain⟨b,hb,e⟩:=vN.mp hp;cases q:h.get? b with
 |none=>rw[q] at e;cases e
 |some o=>
  rw[q] at e;have e':(b,o)=p:=Option.some.inj e;subst e';exact⟨hb,q⟩
theorem Inv.pinned{pins:List (jC×Obj)}{σ:St}{H:Hp}{s:jB}{fp:List jC}(I:Inv X pins σ H s)(hf:∀b∈fp,FpOk X pins H b)(ho:∀b∈fp,∃o,s.heap.get? b=some o/\∀v,o.data≠.cell v):Inv X (pins++zeC fp s.heap) σ H s:=
 I.pins_of fun p hp=>(yT.mp hp).elim (fun z=>I.pin p (xF _ z)) fun z=>by
  obtain⟨hb,e⟩:=zhI z;obtain⟨f0,f1,f2,_⟩:=hf p.1 hb;obtain⟨o,e',d⟩:=ho p.1 hb;rw[e] at e';cases e';exact⟨e,f0,f1,f2,d⟩
theorem Inv.unpinned{pins pl:List (jC×Obj)}{σ:St}{H:Hp}{s:jB}(I:Inv X (pins++pl) σ H s):Inv X pins σ H s:=I.pins_of fun p hp=>I.pin p (xF _ (wR _ hp))
theorem Z6{iter:jE}{body:List jF}{wi:TI}{g:TG}{tb:TS}{pos:Pos}(hp:PassesOwn (model X.prog X.w) X.A X.env X.xe)(hc:X.calm=true)(hi:PI X tg iter wi)(hg:PG X tg g)(hb:PSs X body tb)
  (hs:∀x,foldedSetIterable iter X.env x=pure x:=by intro _;rfl):PS X (.For tg iter body [] pos) (tFor wi g tb):=by
 intro pins s σ H D I h;refine wpAny_For (thn (hi pins s σ H _ I h) fun v s1 h1=>thn h1 fun itv s2 h2=>?_) hs;obtain⟨it,fp,tn,J,H2,e,I2,T,st2,f2,W,⟨m0,w0⟩,turn⟩:=h2;subst e;have stat:∀{H':Hp},(∀b∈fp,H' b=none)->∀b∈fp,FpOk X pins H' b:=fun hn b hb=>⟨hn b hb,(f2 b hb).2⟩;refine codeAny_forLoop_any (fun n s'=>∃i σ' H',Inv X pins σ' H' s'/\tn i s'.heap/\(∀b∈fp,H' b=none)/\W i n σ' H') ?_ m0 ⟨0,σ,H2,I2,st2,fun b hb=>(f2 b hb).1,w0⟩;rintro n s3 ⟨i,σ3,H3,I3,st3,fr3,w3⟩;rcases turn i n σ3 H3 w3 with⟨stop,qn⟩|⟨go,N,hN,step⟩
 ·refine wpAny_passesOwn hp (thn (T.done X rfl rfl rfl hc i pins s3 σ3 H3 X.xe I3 (stat fr3) st3 stop) fun r s4 ⟨hr,I4⟩=>?_)
  subst hr;exact wpAny_execs_nil ⟨σ3,H3,I4,qn⟩
 ·refine wpAny_passesOwn hp (thn (T.item X rfl rfl rfl hc i pins s3 σ3 H3 X.xe I3 (stat fr3) st3 go) fun r s4 ⟨u,hr,h4⟩=>?_)
  subst hr;refine wpAny_passesOwn hp (thn h4 fun _ s5 ⟨x,H5,I5,r5,y5,st5,fr5⟩=>?_);have I5':=I5.pinned (stat fr5) (T.obj _ _ st5);refine wpAny_passesOwn hp (thn (hg _ s5 σ3 H5 x u _ I5' r5 (step x H5 y5)) fun _ s6 ⟨σ6,H6,I6,q6⟩=>?_);refine wpAny_passesOwn hp (thn (hb _ s6 σ6 H6 _ I6 q6) fun f s7 q7=>?_);have again:∀{σ7:St}{H7:Hp},Inv X (pins++zeC fp s5.heap) σ7 H7 s7->N σ7 H7->∃m,m<n/\∃i σ' H',Inv X pins σ' H' s7/\tn i s7.heap/\(∀b∈fp,H' b=none)/\W i m σ' H':=fun {σ7 H7} I7 n7=>by
   obtain⟨m',hm,w7⟩:=hN σ7 H7 n7;refine⟨m',hm,i+1,σ7,H7,I7.unpinned,T.keep _ _ _ st5 fun b hb o e=>(I7.pin (b,o) (xF _ (xF _ (zaX hb e)))).1,fun b hb=>?_,w7⟩;obtain⟨o,e,d⟩:=T.obj _ _ st5 b hb;exact (I7.pin (b,o) (xF _ (xF _ (zaX hb e)))).2.1
  cases f with
  |next=>obtain⟨σ7,H7,I7,n7⟩:=q7;exact again I7 n7
  |cont=>obtain⟨σ7,H7,I7,n7⟩:=q7;exact again I7 n7
  |brk=>obtain⟨σ7,H7,I7,q7⟩:=q7;exact⟨σ7,H7,I7.unpinned,q7⟩
  |ret v=>obtain⟨x7,σ7,H7,I7,r7,q7⟩:=q7;exact⟨x7,σ7,H7,I7.unpinned,r7,q7⟩
end
theorem zdO{K:tT}{a:jC}{xs:List V}{g:TG}{tb:TS}{D:Ends}{σ:St}{H:Hp}(Pv:Nat->St->Hp->Prop)(h0:Pv 0 σ H)(hl:∀i σ H,i<=xs.length->Pv i σ H->SqL K H a xs)
  (hs:∀i x σ H,xs[i]?=some x->Pv i σ H->g x σ H fun σ2 H2=>tb {D with nx:=Pv (i+1),ct:=Pv (i+1),bk:=D.nx} σ2 H2) (hd:∀σ H,Pv xs.length σ H->D.nx σ H):
  ∃W:Nat->Nat->St->Hp->Prop,(∃m,W 0 m σ H)/\∀i m σ H,W i m σ H->
   ((Itl K a).stop i H/\D.nx σ H)\/((Itl K a).go i H/\∃N:St->Hp->Prop,(∀σ' H',N σ' H'->∃m',m'<m/\W (i+1) m' σ' H')/\∀x H',(Itl K a).yld i H x H'->g x σ H' fun σ2 H2=>tb {D with nx:=N,ct:=N,bk:=D.nx} σ2 H2):=by
 refine⟨fun i m σ H=>m=xs.length-i/\i<=xs.length/\Pv i σ H,⟨xs.length,by simp,yJ _,h0⟩,?_⟩;rintro i m σ H ⟨rfl,hi,p⟩;have q:=hl i σ H hi p
 by_cases hlt:i<xs.length
 ·refine .inr ⟨⟨xs,xs[i],q,by simp[hlt]⟩,Pv (i+1),fun σ' H' p'=>⟨xs.length-(i+1),by lia,rfl,hlt,p'⟩,fun x H' y=>?_⟩
  obtain⟨e,y⟩:=y;subst e;exact hs i x σ _ (y xs q) p
 ·have e:i=xs.length:=by lia
  subst e;exact .inl ⟨⟨xs,q,yG _⟩,hd σ H p⟩
theorem zhJ{K:tT}{a:jC}{xs:List V}{g:TG}{tb:TS}{D:Ends}{σ:St}{H:Hp}(Pv:Nat->St->Hp->Prop)(h0:Pv 0 σ H)(hl:∀i σ H,i<=xs.length->Pv i σ H->SqT K H a xs)
  (hs:∀i x σ H,xs[i]?=some x->Pv i σ H->g x σ H fun σ2 H2=>tb {D with nx:=Pv (i+1),ct:=Pv (i+1),bk:=D.nx} σ2 H2) (hd:∀σ H,Pv xs.length σ H->D.nx σ H):
  ∃W:Nat->Nat->St->Hp->Prop,(∃m,W 0 m σ H)/\∀i m σ H,W i m σ H->
   ((Itt K a).stop i H/\D.nx σ H)\/((Itt K a).go i H/\∃N:St->Hp->Prop,(∀σ' H',N σ' H'->∃m',m'<m/\W (i+1) m' σ' H')/\∀x H',(Itt K a).yld i H x H'->g x σ H' fun σ2 H2=>tb {D with nx:=N,ct:=N,bk:=D.nx} σ2 H2):=by
 refine⟨fun i m σ H=>m=xs.length-i/\i<=xs.length/\Pv i σ H,⟨xs.length,by simp,yJ _,h0⟩,?_⟩;rintro i m σ H ⟨rfl,hi,p⟩;have q:=hl i σ H hi p
 by_cases hlt:i<xs.length
 ·refine .inr ⟨⟨xs,xs[i],q,by simp[hlt]⟩,Pv (i+1),fun σ' H' p'=>⟨xs.length-(i+1),by lia,rfl,hlt,p'⟩,fun x H' y=>?_⟩
  obtain⟨e,y⟩:=y;subst e;exact hs i x σ _ (y xs q) p
 ·have e:i=xs.length:=by lia
  subst e;exact .inl ⟨⟨xs,q,yG _⟩,hd σ H p⟩
theorem zam{lo:Int}{n:Nat}{g:TG}{tb:TS}{D:Ends}{σ:St}{H:Hp}(Pv:Nat->St->Hp->Prop)(h0:Pv 0 σ H)
  (hs:∀i σ H,i<n->Pv i σ H->g (.int (lo+i)) σ H fun σ2 H2=>tb {D with nx:=Pv (i+1),ct:=Pv (i+1),bk:=D.nx} σ2 H2) (hd:∀σ H,Pv n σ H->D.nx σ H):
  ∃W:Nat->Nat->St->Hp->Prop,(∃m,W 0 m σ H)/\∀i m σ H,W i m σ H->
   ((Itr lo n).stop i H/\D.nx σ H)\/((Itr lo n).go i H/\∃N:St->Hp->Prop,(∀σ' H',N σ' H'->∃m',m'<m/\W (i+1) m' σ' H')/\∀x H',(Itr lo n).yld i H x H'->g x σ H' fun σ2 H2=>tb {D with nx:=N,ct:=N,bk:=D.nx} σ2 H2):=by
 refine⟨fun i m σ H=>m=n-i/\i<=n/\Pv i σ H,⟨n,by simp,yJ _,h0⟩,?_⟩;rintro i m σ H ⟨rfl,hi,p⟩
 by_cases hlt:i<n
 ·refine .inr ⟨hlt,Pv (i+1),fun σ' H' p'=>⟨n-(i+1),by lia,rfl,hlt,p'⟩,fun x H' y=>?_⟩
  obtain⟨e,y⟩:=y;subst e y;exact hs i σ _ hlt p
 ·have e:i=n:=by lia
  subst e;exact .inl ⟨yG _,hd σ H p⟩
abbrev R2:=V->V->Hp->VK->Prop
def OpR(X:Cx)(f:jA->jA->Sem jA)(r:R2):Prop:=
 ∀(pins:List (jC×Obj))(s:jB)(σ:St)(H:Hp)(x y:V)(v u:jA)(Q:VK),Inv X pins σ H s->RelV x v->RelV y u->r x y H Q->
  wpAny (model X.prog X.w) X.A (f v u) (EP X pins σ Q) X.xe s
def UnR(X:Cx)(f:jA->Sem jA)(r:V->Hp->VK->Prop):Prop:=
 ∀(pins:List (jC×Obj))(s:jB)(σ:St)(H:Hp)(x:V)(v:jA)(Q:VK),Inv X pins σ H s->RelV x v->r x H Q->
  wpAny (model X.prog X.w) X.A (f v) (EP X pins σ Q) X.xe s
def zas(X:Cx)(f:jA)(r:List V->Hp->VK->Prop):Prop:=
 ∀(pins:List (jC×Obj))(s:jB)(σ:St)(H:Hp)(xs:List V)(us:List jA)(Q:VK),Inv X pins σ H s->Vals xs us->r xs H Q->
  wpAny (model X.prog X.w) X.A (call f us) (EP X pins σ Q) X.xe s
def tOp(r:R2)(ta tb:TE):TE:=fun σ H Q=>ta σ H fun x H1=>tb σ H1 fun y H2=>r x y H2 Q
def tUn(r:V->Hp->VK->Prop)(ta:TE):TE:=fun σ H Q=>ta σ H fun x H1=>r x H1 Q
inductive rI(C:Int->Int->Prop)(g:Int->Int->V)(x y:V)(H:Hp)(Q:VK):Prop
 |mk (i j:_) (_:x=.int i) (_:y=.int j) (_:C i j) (_:Q (g i j) H)
inductive rI0(g:Int->Int->V)(x y:V)(H:Hp)(Q:VK):Prop
 |mk (i j:_) (_:x=.int i) (_:y=.int j) (_:Q (g i j) H)
inductive rU(g:Int->V)(x:V)(H:Hp)(Q:VK):Prop
 |mk (i:_) (_:x=.int i) (_:Q (g i) H)
section
variable{X:Cx}{a b c:jE}{ta tb tc:TE}{pos:Pos}
theorem binT(ha:PE X a ta)(hb:PE X b tb){pins:List (jC×Obj)}{s:jB}{σ:St}{H:Hp}{R:V->V->Hp->Prop}(I:Inv X pins σ H s)
  (h:ta σ H fun x H1=>tb σ H1 fun y H2=>R x y H2) {Q:jA->jB->Prop}{f:jA->jA->Sem jA}
  (hf:∀v u s2 x y H2,Inv X pins σ H2 s2->RelV x v->RelV y u->R x y H2->wpAny (model X.prog X.w) X.A (f v u) Q X.xe s2):
  wpAny (model X.prog X.w) X.A (eval a X.env) (fun v s₁=>wpAny (model X.prog X.w) X.A (eval b X.env) (fun u s₂=>wpAny (model X.prog X.w) X.A (f v u) Q X.xe s₂) X.xe s₁) X.xe s:=by
 refine thn (ha pins s σ H _ I h) fun v s1 ⟨x,H1,I1,r1,q1⟩=>?_;refine thn (hb pins s1 σ H1 _ I1 q1) fun u s2 ⟨y,H2,I2,r2,q2⟩=>?_;exact hf v u s2 x y H2 I2 r1 r2 q2
theorem zJ{op:jM}{r:R2}(ho:OpR X (binaryOp op) r)(ha:PE X a ta)(hb:PE X b tb):PE X (.BinOp a op b pos) (tOp r ta tb):=by
 intro pins s σ H Q I h;exact wpAny_BinOp (binT ha hb I h fun v u s2 x y H2 I2 rx ry q=>ho pins s2 σ H2 x y v u Q I2 rx ry q)
theorem zca{op:UnaryOp}{r:V->Hp->VK->Prop}(ho:UnR X (unaryOp op) r)(ha:PE X a ta):PE X (.UnaryOp op a pos) (tUn r ta):=by
 intro pins s σ H Q I h;exact UnaryOp_ (thn (ha pins s σ H _ I h) fun v s1 ⟨x,H1,I1,r1,q1⟩=>ho pins s1 σ H1 x v Q I1 r1 q1)
theorem opI{f:jA->jA->Sem jA}{C:Int->Int->Prop}{g:Int->Int->Int}
  (rule:∀(i j:Int)(t u:Tok)(s:jB)(Q:jA->jB->Prop)(E:jA->jB->Prop),C i j->Q (.int (g i j) s.toks) {s with toks:=s.toks+1}->wpAny (model X.prog X.w) X.A (f (.int i t) (.int j u)) Q E s):
  OpR X f (rI C fun i j=>.int (g i j)):=by
 intro pins s σ H x y v u Q I rx ry h;obtain⟨i,j,rfl,rfl,hc,q⟩:=h;obtain⟨t,rfl⟩:=rx;obtain⟨t',rfl⟩:=ry;exact rule i j t t' s _ _ hc ⟨.int (g i j),H,I.tok _,⟨_,rfl⟩,q⟩
theorem opI0{f:jA->jA->Sem jA}{g:Int->Int->Int}
  (rule:∀(i j:Int)(t u:Tok)(s:jB)(Q:jA->jB->Prop)(E:jA->jB->Prop),Q (.int (g i j) s.toks) {s with toks:=s.toks+1}->wpAny (model X.prog X.w) X.A (f (.int i t) (.int j u)) Q E s):
  OpR X f (rI0 fun i j=>.int (g i j)):=by
 intro pins s σ H x y v u Q I rx ry h;obtain⟨i,j,rfl,rfl,q⟩:=h;obtain⟨t,rfl⟩:=rx;obtain⟨t',rfl⟩:=ry;exact rule i j t t' s _ _ ⟨.int (g i j),H,I.tok _,⟨_,rfl⟩,q⟩
theorem opB0{f:jA->jA->Sem jA}{g:Int->Int->Bool}
  (rule:∀(i j:Int)(t u:Tok)(s:jB)(Q:jA->jB->Prop)(E:jA->jB->Prop),Q (.bool (g i j)) s->wpAny (model X.prog X.w) X.A (f (.int i t) (.int j u)) Q E s):
  OpR X f (rI0 fun i j=>.bl (g i j)):=by
 intro pins s σ H x y v u Q I rx ry h;obtain⟨i,j,rfl,rfl,q⟩:=h;obtain⟨t,rfl⟩:=rx;obtain⟨t',rfl⟩:=ry;exact rule i j t t' s _ _ ⟨.bl (g i j),H,I,rfl,q⟩
def CPow(i j:Int):Prop:=0<=j/\j<=1000000/\i.natAbs<2 ^ 64
def CMul(i j:Int):Prop:=(-(2 ^ 64)<i/\i<2 ^ 64)\/(-(2 ^ 64)<j/\j<2 ^ 64)
theorem CMul.ok{i j:Int}(h:CMul i j):IntMulOk i j:=by
 rcases h with⟨h1,h2⟩|⟨h1,h2⟩
 ·exact .of_left (intBits_le_64 h1 h2)
 ·exact .of_right (intBits_le_64 h1 h2)
theorem Zi:OpR X (binaryOp .Add) (rI0 fun i j=>.int (i+j)):=opI0 fun _ _ _ _ _ _ _ q=>add_int q
theorem Zk:OpR X (binaryOp .Sub) (rI0 fun i j=>.int (i-j)):=opI0 fun _ _ _ _ _ _ _ q=>sub_int q
theorem za5:OpR X (binaryOp .Mult) (rI CMul fun i j=>.int (i*j)):=opI fun _ _ _ _ _ _ _ hc q=>mul_int q hc.ok
theorem zaL:OpR X (binaryOp .Mod) (rI (fun _ j=>0<j) fun i j=>.int (i % j)):=opI fun i j _ _ _ _ _ hc q=>by
 have h1:(0:Int)<j:=hc;exact mod_int' (by lia) (by rw[Int.fmod_eq_emod_of_nonneg i (by lia)];exact q)
theorem zcu:OpR X (binaryOp .Pow) (rI CPow fun i j=>.int (i ^ j.toNat)):=opI fun _ _ _ _ _ _ _ hc q=>pow_int_small hc.1 hc.2.1 hc.2.2 q
theorem zle:OpR X (inplaceOp .Add) (rI0 fun i j=>.int (i+j)):=opI0 fun _ _ _ _ _ _ _ q=>iadd_int q
theorem unI{f:jA->Sem jA}{g:Int->Int}
  (rule:∀(i:Int)(t:Tok)(s:jB)(Q:jA->jB->Prop)(E:jA->jB->Prop),Q (.int (g i) s.toks) {s with toks:=s.toks+1}->wpAny (model X.prog X.w) X.A (f (.int i t)) Q E s):
  UnR X f (rU fun i=>.int (g i)):=by
 intro pins s σ H x v Q I rx h;obtain⟨i,rfl,q⟩:=h;obtain⟨t,rfl⟩:=rx;exact rule i t s _ _ ⟨.int (g i),H,I.tok _,⟨_,rfl⟩,q⟩
theorem za6:UnR X (unaryOp .USub) (rU fun i=>.int (-i)):=unI fun _ _ _ _ _ q=>neg_int q
end
noncomputable def scal:V->V->Bool
 |.non,.non=>true|.non,.int _=>true|.int _,.non=>true|.non,.bl _=>true|.bl _,.non=>true|.non,.str _=>true|.str _,.non=>true
 |.int _,.int _=>true|.bl _,.bl _=>true|.str _,.str _=>true|.byt _,.byt _=>true
 |.int _,.str _=>true|.str _,.int _=>true|.bl _,.str _=>true|.str _,.bl _=>true
 |_,_=>false
inductive rEq(x y:V)(H:Hp)(Q:VK):Prop
 |mk (_:scal x y=true) (_:Q (.bl (decide (x=y))) H)
inductive rNe(x y:V)(H:Hp)(Q:VK):Prop
 |mk (_:scal x y=true) (_:Q (.bl (!decide (x=y))) H)
theorem zhK{i j:Int}:decide (V.int i=V.int j)=(i==j):=by
 rw[xL];simp
theorem zkI{i j:Bool}:decide (V.bl i=V.bl j)=(i==j):=by
 rw[xL];simp
theorem zhL{i j:Str}:decide (V.str i=V.str j)=(i==j):=by
 rw[xL];simp
theorem zhM{i j:Array UInt8}:decide (V.byt i=V.byt j)=(i.toList==j.toList):=by
 rw[xL];cases i;cases j;simp
section
variable{X:Cx}{a b c:jE}{ta tb tc:TE}{pos:Pos}
theorem Ze{pins:List (jC×Obj)}{σ:St}{H:Hp}{s:jB}{Q:VK}{k k':Bool}(I:Inv X pins σ H s)(q:Q (.bl k) H)(e:k=k'):EP X pins σ Q (.bool k') s:=by
 subst e;exact⟨.bl k,H,I,rfl,q⟩
theorem zX:OpR X (tM .Eq) rEq:=by
 intro pins s σ H x y v u Q I rx ry h;obtain⟨hs,q⟩:=h;cases x with
 |non=>
  cases rx;cases y with
  |non=>cases ry;exact PySem.EqNone.eq_none_none (Ze I q (by simp))
  |bl j=>cases ry;exact PySem.EqNone.eq_none_bool (Ze I q (by simp))
  |int j=>obtain⟨t',rfl⟩:=ry;exact PySem.EqNone.eq_none_int (Ze I q (by simp))
  |str j=>obtain⟨t',rfl⟩:=ry;exact PySem.EqNone.eq_none_str (Ze I q (by simp))
  |_=>exact absurd (show false=true from hs) yO
 |bl i=>
  cases rx;cases y with
  |non=>cases ry;exact PySem.EqNone.eq_bool_none (Ze I q (by simp))
  |bl j=>cases ry;exact eq_bool (Ze I q zkI)
  |str j=>obtain⟨t',rfl⟩:=ry;exact PySem.EqMixed.eq_bool_str (Ze I q (by simp))
  |_=>exact absurd (show false=true from hs) yO
 |int i=>
  obtain⟨t,rfl⟩:=rx;cases y with
  |non=>cases ry;exact PySem.EqNone.eq_int_none (Ze I q (by simp))
  |int j=>obtain⟨t',rfl⟩:=ry;exact eq_int (Ze I q zhK)
  |str j=>obtain⟨t',rfl⟩:=ry;exact PySem.EqMixed.eq_int_str (Ze I q (by simp))
  |_=>exact absurd (show false=true from hs) yO
 |str i=>
  obtain⟨t,rfl⟩:=rx;cases y with
  |non=>cases ry;exact PySem.EqNone.eq_str_none (Ze I q (by simp))
  |bl j=>cases ry;exact PySem.EqMixed.eq_str_bool (Ze I q (by simp))
  |int j=>obtain⟨t',rfl⟩:=ry;exact PySem.EqMixed.eq_str_int (Ze I q (by simp))
  |str j=>obtain⟨t',rfl⟩:=ry;exact eq_str (Ze I q zhL)
  |_=>exact absurd (show false=true from hs) yO
 |byt i=>
  obtain⟨t,rfl⟩:=rx;cases y with
  |byt j=>obtain⟨t',rfl⟩:=ry;exact PySem.W.eq_bytes (Ze I q zhM)
  |_=>exact absurd (show false=true from hs) yO
 |_=>cases y<;>exact absurd (show false=true from hs) yO
theorem zeD:OpR X (tM .NotEq) rNe:=by
 intro pins s σ H x y v u Q I rx ry h;obtain⟨hs,q⟩:=h;cases x with
 |non=>
  cases rx;cases y with
  |non=>cases ry;exact PySem.EqNone.ne_none_none (Ze I q (by simp))
  |bl j=>cases ry;exact PySem.EqNone.ne_none_bool (Ze I q (by simp))
  |int j=>obtain⟨t',rfl⟩:=ry;exact PySem.EqNone.ne_none_int (Ze I q (by simp))
  |str j=>obtain⟨t',rfl⟩:=ry;exact PySem.EqNone.ne_none_str (Ze I q (by simp))
  |_=>exact absurd (show false=true from hs) yO
 |bl i=>
  cases rx;cases y with
  |non=>cases ry;exact PySem.EqNone.ne_bool_none (Ze I q (by simp))
  |bl j=>cases ry;exact ne_bool (Ze I q (congrArg not zkI))
  |str j=>obtain⟨t',rfl⟩:=ry;exact PySem.EqMixed.ne_bool_str (Ze I q (by simp))
  |_=>exact absurd (show false=true from hs) yO
 |int i=>
  obtain⟨t,rfl⟩:=rx;cases y with
  |non=>cases ry;exact PySem.EqNone.ne_int_none (Ze I q (by simp))
  |int j=>obtain⟨t',rfl⟩:=ry;exact ne_int (Ze I q (congrArg not zhK))
  |str j=>obtain⟨t',rfl⟩:=ry;exact PySem.EqMixed.ne_int_str (Ze I q (by simp))
  |_=>exact absurd (show false=true from hs) yO
 |str i=>
  obtain⟨t,rfl⟩:=rx;cases y with
  |non=>cases ry;exact PySem.EqNone.ne_str_none (Ze I q (by simp))
  |bl j=>cases ry;exact PySem.EqMixed.ne_str_bool (Ze I q (by simp))
  |int j=>obtain⟨t',rfl⟩:=ry;exact PySem.EqMixed.ne_str_int (Ze I q (by simp))
  |str j=>obtain⟨t',rfl⟩:=ry;exact ne_str (Ze I q (congrArg not zhL))
  |_=>exact absurd (show false=true from hs) yO
 |byt i=>
  obtain⟨t,rfl⟩:=rx;cases y with
  |byt j=>obtain⟨t',rfl⟩:=ry;exact PySem.W.ne_bytes (Ze I q (congrArg not zhM))
  |_=>exact absurd (show false=true from hs) yO
 |_=>cases y<;>exact absurd (show false=true from hs) yO
theorem zfz:OpR X (tM .Lt) (rI0 fun i j=>.bl (decide (i<j))):=opB0 fun _ _ _ _ _ _ _ q=>lt_int q
theorem zlf:OpR X (tM .LtE) (rI0 fun i j=>.bl (decide (i<=j))):=opB0 fun _ _ _ _ _ _ _ q=>le_int q
theorem zdP:OpR X (tM .Gt) (rI0 fun i j=>.bl (decide (j<i))):=opB0 fun _ _ _ _ _ _ _ q=>gt_int q
theorem zmC:OpR X (tM .GtE) (rI0 fun i j=>.bl (decide (j<=i))):=opB0 fun _ _ _ _ _ _ _ q=>ge_int q
theorem OpR.or{f:jA->jA->Sem jA}{r r':R2}(h:OpR X f r)(h':OpR X f r'):OpR X f (fun x y H Q=>r x y H Q\/r' x y H Q):=by
 intro pins s σ H x y v u Q I rx ry q;rcases q with q|q
 ·exact h pins s σ H x y v u Q I rx ry q
 ·exact h' pins s σ H x y v u Q I rx ry q
theorem nomark(b:jE){op:jL}(h:op≠.In:=by decide)(h2:op≠.NotIn:=by decide):behindInMarks op b=false:=by
 have e1:(op==CmpOp.In)=false:=by cases op<;>first|rfl|exact absurd rfl h
 have e2:(op==CmpOp.NotIn)=false:=by cases op<;>first|rfl|exact absurd rfl h2
 cases b<;>simp[behindInMarks,e1,e2]
theorem zV{op:jL}{r:R2}(ho:OpR X (tM op) r)(ha:PE X a ta)(hb:PE X b tb)(hm:behindInMarks op b=false):PE X (.Compare a [op] [b] pos) (tOp r ta tb):=by
 intro pins s σ H Q I h;exact wpAny_Compare1 (binT ha hb I h fun v u s2 x y H2 I2 rx ry q=>ho pins s2 σ H2 x y v u Q I2 rx ry q) hm
inductive i_tTest(Q:Bool->Hp->Prop)(x:V)(H':Hp):Prop
 |mk (k:_) (_:x=.bl k) (_:Q k H')
def zjC(t:TE):TT:=fun σ H Q=>t σ H fun x H'=>i_tTest Q x H'
theorem zE{op:jL}{r:R2}(ho:OpR X (tM op) r)(ha:PE X a ta)(hb:PE X b tb)(hm:behindInMarks op b=false):PT X (.Compare a [op] [b] pos) (zjC (tOp r ta tb)):=by
 intro pins s σ H Q I h;refine wpAny_isTrue_Compare1 (thn (ha pins s σ H _ I h) fun v s1 ⟨x,H1,I1,r1,q1⟩=>thn (hb pins s1 σ H1 _ I1 q1) fun u s2 ⟨y,H2,I2,r2,q2⟩=>
  thn (ho pins s2 σ H2 x y v u _ I2 r1 r2 q2) fun c s3 ⟨z,H3,I3,r3,k,e,q3⟩=>?_) hm
 subst e;cases r3;exact wpAny_truthy_bool ⟨H3,I3,q3⟩
inductive i_tChain(r':R2)(tc:TE)(σ:St)(Q:VK)(y z:V)(H3:Hp):Prop
 |mk (k:_) (_:z=.bl k) (_:(if k=true then tc σ H3 fun w' H4=>r' y w' H4 Q else Q (.bl false) H3))
def zhN(r r':R2)(ta tb tc:TE):TE:=fun σ H Q=>ta σ H fun x H1=>tb σ H1 fun y H2=>r x y H2 fun z H3=>i_tChain r' tc σ Q y z H3
theorem zjD{op op':jL}{r r':R2}(ho:OpR X (tM op) r)(ho':OpR X (tM op') r')(ha:PE X a ta)(hb:PE X b tb)(hc:PE X c tc)
  (hm:lastMarks [op,op'] [b,c]=false:=by with_unfolding_all rfl):PE X (.Compare a [op,op'] [b,c] pos) (zhN r r' ta tb tc):=by
 intro pins s σ H Q I h;refine Compare_chain (thn (ha pins s σ H _ I h) fun v s1 ⟨x,H1,I1,r1,q1⟩=>chain_link (thn (hb pins s1 σ H1 _ I1 q1) fun u s2 ⟨y,H2,I2,r2,q2⟩=>
  thn (ho pins s2 σ H2 x y v u _ I2 r1 r2 q2) fun d s3 ⟨z,H3,I3,r3,k,e,q3⟩=>?_)) hm
 subst e;cases r3;refine wpAny_truthy_bool ?_;cases k with
 |false=>exact ite_ff ⟨.bl false,H3,I3,rfl,q3⟩
 |true=>exact ite_tt (chain_last (thn (hc pins s3 σ H3 _ I3 q3) fun w' s4 ⟨z',H4,I4,r4,q4⟩=>ho' pins s4 σ H4 y z' u w' Q I4 r2 r4 q4))
theorem zcg{op op':jL}{r r':R2}(ho:OpR X (tM op) r)(ho':OpR X (tM op') r')(ha:PE X a ta)(hb:PE X b tb)(hc:PE X c tc)
  (hm:lastMarks [op,op'] [b,c]=false:=by with_unfolding_all rfl):PT X (.Compare a [op,op'] [b,c] pos) (zjC (zhN r r' ta tb tc)):=by
 intro pins s σ H Q I h;refine isTrue_chain (thn (ha pins s σ H _ I h) fun v s1 ⟨x,H1,I1,r1,q1⟩=>test_link (thn (hb pins s1 σ H1 _ I1 q1) fun u s2 ⟨y,H2,I2,r2,q2⟩=>
  thn (ho pins s2 σ H2 x y v u _ I2 r1 r2 q2) fun d s3 ⟨z,H3,I3,r3,k,e,q3⟩=>?_)) hm
 subst e;cases r3;refine wpAny_truthy_bool ?_;cases k with
 |false=>
  obtain⟨k',e',q'⟩:=q3;cases e';exact ite_ff ⟨H3,I3,q'⟩
 |true=>
  refine ite_tt (test_last (thn (hc pins s3 σ H3 _ I3 q3) fun w' s4 ⟨z',H4,I4,r4,q4⟩=>thn (ho' pins s4 σ H4 y z' u w' _ I4 r2 r4 q4) fun d' s5 ⟨z2,H5,I5,r5,k2,e2,q5⟩=>?_));subst e2;cases r5;exact wpAny_truthy_bool ⟨H5,I5,q5⟩
theorem zeE:(tI:Nat)<2 ^ 63:=by rw[sizeLine_eq];decide
theorem zai:OpR X (binaryOp .Add) (fun x y H Q=>∃i j,x=.str i/\y=.str j/\i.length+j.length<=tI/\Q (.str (i++j)) H):=by
 intro pins s σ H x y v u Q I rx ry h;obtain⟨i,j,rfl,rfl,hz,q⟩:=h;obtain⟨t,rfl⟩:=rx;obtain⟨t',rfl⟩:=ry;exact add_str (fun t' tk=>⟨.str (i++j),H,I.tok _,⟨_,rfl⟩,q⟩) hz
theorem zbQ{x:V}{us:List jA}(r:Vals [x] us):∃u,us=[u]/\RelV x u:=by
 cases r with
 |cons r1 r2=>cases r2;exact⟨_,rfl,r1⟩
theorem zfA{x y:V}{us:List jA}(r:Vals [x,y] us):∃u w',us=[u,w']/\RelV x u/\RelV y w':=by
 cases r with
 |cons r1 r2=>
  cases r2 with
  |cons r3 r4=>cases r4;exact⟨_,_,rfl,r1,r3⟩
theorem zjE:zas X (.builtin "abs") (fun xs H Q=>∃i,xs=[.int i]/\Q (.int (if i<0 then -i else i)) H):=by
 intro pins s σ H xs us Q I r h;obtain⟨i,rfl,q⟩:=h;obtain⟨u,rfl,t,rfl⟩:=zbQ r;exact call_abs_int fun u tk=>⟨.int (if i<0 then -i else i),H,I.tok _,⟨_,rfl⟩,q⟩
theorem zcv(hc:X.calm=true):zas X (.builtin "min") (fun xs H Q=>∃i j,xs=[.int i,.int j]/\Q (.int (if j<i then j else i)) H):=by
 intro pins s σ H xs us Q I r h;obtain⟨i,j,rfl,q⟩:=h;obtain⟨u,w',rfl,⟨t,rfl⟩,⟨t',rfl⟩⟩:=zfA r;refine min_two_ints (I.ok.hd hc) fun h' tk k=>⟨_,H,I.kept k,?_,q⟩
 by_cases hj:j<i
 ·rw[if_pos hj,if_pos hj];exact⟨_,rfl⟩
 ·rw[if_neg hj,if_neg hj];exact⟨_,rfl⟩
theorem zau:zas X (.type "int") (fun xs H Q=>(∃i,xs=[.int i]/\Q (.int i) H)\/∃k,xs=[.bl k]/\Q (.int (if k then 1 else 0)) H):=by
 intro pins s σ H xs us Q I r h;rcases h with⟨i,rfl,q⟩|⟨k,rfl,q⟩
 ·obtain⟨u,rfl,t,rfl⟩:=zbQ r
  exact call_int_int ⟨.int i,H,I,⟨_,rfl⟩,q⟩
 ·obtain⟨u,rfl,r1⟩:=zbQ r
  cases r1;exact call_int_bool ⟨.int (if k then 1 else 0),H,I.tok _,⟨_,rfl⟩,q⟩
theorem zeF:zas X (.type "str") (fun xs H Q=>∃i,xs=[.int i]/\i.natAbs.log2<1920/\Q (.str (toString i)) H):=by
 intro pins s σ H xs us Q I r h;obtain⟨i,rfl,hz,q⟩:=h;obtain⟨u,rfl,t,rfl⟩:=zbQ r;exact PySem.P.str_of_int hz ⟨.str _,H,I.tok _,⟨_,rfl⟩,q⟩
theorem zjF:zas X (.builtin "ord") (fun xs H Q=>∃x,xs=[.str x]/\x.length=1/\Q (.int (x.cps.getD 0 0:Nat)) H):=by
 intro pins s σ H xs us Q I r h;obtain⟨x,rfl,hz,q⟩:=h;obtain⟨u,rfl,t,rfl⟩:=zbQ r;exact ord_of_one hz ⟨.int _,H,I.tok _,⟨_,rfl⟩,q⟩
def LenV(K:tT)(x:V)(H:Hp)(n:Nat):Prop:=
 match x with
 |.str y=>y.length<=tI/\n=y.length
 |.byt y=>y.size<=tI/\n=y.size
 |.ref p=>(∃xs,SqL K H p xs/\n=xs.length)\/∃xs,SqT K H p xs/\n=xs.length
 |_=>False
theorem zL:zas X (.builtin "len") (fun xs H Q=>∃x n,xs=[x]/\LenV X.K x H n/\Q (.int n) H):=by
 intro pins s σ H xs us Q I r h;obtain⟨x,n,rfl,e,q⟩:=h;obtain⟨u,rfl,rx⟩:=zbQ r;have hl:=zeE;have hs:tI=16777216:=sizeLine_eq;cases x with
 |str y=>
  obtain⟨t,rfl⟩:=rx;obtain⟨hy,e'⟩:y.length<=tI/\n=y.length:=e;subst e';exact len_str (by lia) ⟨.int _,H,I.tok _,⟨_,rfl⟩,q⟩
 |byt y=>
  obtain⟨t,rfl⟩:=rx;obtain⟨hy,e'⟩:y.size<=tI/\n=y.size:=e;subst e';exact PySem.W.len_bytes (by lia) ⟨.int _,H,I.tok _,⟨_,rfl⟩,q⟩
 |ref p=>
  cases rx;have e':(∃xs,SqL X.K H p xs/\n=xs.length)\/∃xs,SqT X.K H p xs/\n=xs.length:=e;rcases e' with⟨xs,hx,e'⟩|⟨xs,hx,e'⟩
  ·subst e'
   obtain⟨its,r',pl,hz⟩:=I.list hx;have hlen:=r'.length;exact Calls.call_len_list pl.isList (by simp only[yF];lia) ⟨.int xs.length,H,I.tok _,⟨_,by simp only[yF];rw[hlen]⟩,q⟩
  ·subst e'
   obtain⟨its,r',pl,hz⟩:=I.tuple hx;have hlen:=r'.length;exact len_tuple pl (by simp only[yF];lia) ⟨.int xs.length,H,I.tok _,⟨_,by simp only[yF];rw[hlen]⟩,q⟩
 |_=>exact (show False from e).elim
end
structure ObjM(h:jD)(x dx C:jC)(mA:Str->Option jA):Prop where
 obj:h.get? x=some (instObj C dx)
 ns:h.Ns1 dx mA
 ne:dx≠x
theorem zhO{h:jD}{dx:jC}{mA:Str->Option jA}(n:h.Ns1 dx mA):∃od,h.get? dx=some od/\∀name,lookIn name od=some (mA name):=by
 obtain⟨o,es,ep,ho,hd,hk,_,hm⟩:=n;refine⟨o,ho,fun name=>?_⟩;have e:=hm name;unfold nsFind findBy at e;rw[←Array.find?_toList] at e;unfold lookIn;rw[hd];dsimp only
 split
 ·rename_i y q
  rw[q] at e;exact congrArg some e
 ·rename_i q
  rw[q] at e;have a:es.toList.any (·.refKey)=false:=by
   rw[List.any_eq_false];intro y hy;obtain⟨z,t,hkey⟩:=hk y (Array.mem_toList_iff.mp hy);simp[DictEntry.refKey,hkey]
  have a':¬es.toList.any (·.refKey)=true:=by rw[a];exact yO
  rw[if_neg a'];exact congrArg some e
theorem ObjM.look{h:jD}{x dx C:jC}{mA:Str->Option jA}(I:ObjM h x dx C mA):∃od,PySem.W.InstAt h x (instObj C dx) C (some od)/\∀name,lookIn name od=some (mA name):=
 let ⟨od,ho,hl⟩:=zhO I.ns
 ⟨od,⟨I.obj,rfl,rfl,ho⟩,hl⟩
section
variable{prog:jG}{w:jH}{A:jI}{E:jA->jB->Prop}{s:jB}{K:tT}{x dx C f:jC}{mA:Str->Option jA}{name:Str}{v:jA}
theorem zlg{expr:Bool}{Q:jA->jB->Prop}(X:K.In s.heap)(I:ObjM s.heap x dx C mA)(hg:plainGet K C name=true)(hh:hasDictIn K C=true)
  (ha:findIn K (.ref C) name=some none) (hv:mA name=some v) (hv':PySem.W.handedIn v=true) (h:Q v {s with toks:=s.toks+1}):
  wpAny (model prog w) A (getAttr (.ref x) name expr) Q E s:=by
 obtain⟨od,J,hl⟩:=I.look;exact PySem.W.get_value X J (plainGet_of hg).1 (PySem.W.findObj_own hh ha rfl (by rw[hl,hv])) hv' h
theorem zjG{pl:Sem Bool}{Q:jA×List jA->jB->Prop}(X:K.In s.heap)(I:ObjM s.heap x dx C mA)(hg:plainGet K C name=true)
  (hf:findIn K (.ref C) name=some (some (.ref f))) (ht:isFn K (.ref f)=true) (hv:mA name=none) (h:Q (.ref f,[.ref x]) s):
  wpAny (model prog w) A (getMethod (.ref x) name pl) Q E s:=by
 obtain⟨od,J,hl⟩:=I.look;exact PySem.W.method_fn X J (plainGet_of hg).1 (plainGet_of hg).2 hf (beq_iff_eq.mp ht) (by show (lookIn name od).map (·.isSome)=some false;rw[hl,hv];rfl) h
theorem zlh{ns:List Str}{Q:Unit->jB->Prop}(X:K.In s.heap)(I:ObjM s.heap x dx C mA)
  (hs:findIn K (.ref C) "__setattr__"=some (some (.builtin "object.__setattr__"))) (hp:plainOver K C=true) (ht:takerIn K C name=some none) (hh:hasDictIn K C=true)
  (hw:PySem.Within mA ns) (hsz:ns.length<=tI)
  (h:∀h',ObjM h' x dx C (fun y=>if y=name then some v else mA y)->Heap.SameBut dx s.heap h'->Q () {s with heap:=h',toks:=s.toks+2}):
  wpAny (model prog w) A (setAttr (.ref x) name v) Q E s:=by
 obtain⟨od,J,hl⟩:=I.look;refine PySem.W.set_plain X J hs (PySem.W.osa_open (s:={s with toks:=s.toks+1}) (r:=none) X J hp ht fun b=>?_);obtain⟨cd,hc,hd'⟩:=PySem.W.any_some hh;have hx:s.heap.get? x=some ⟨.ref C,some dx,.plain,#[]⟩:=I.obj;refine uY (uZ (uY (uY (wpAny_loadPart hx (uY (PySem.W.Looks.here (s:={s with toks:=s.toks+1}) (PySem.W.looks_clsIn X hc) ?_))))));rw[hd'];refine uZ (a:=some dx) (uY (uZ (uY ?_)));refine wpAny_nsSet1 (s:={s with toks:=s.toks+1}) I.ns fun h' hn2 hs2=>?_;obtain⟨oD,esD,epD,hoD,hdD,hcD⟩:=hn2.count (PySem.Within.cons name v hw);refine uY (wpAny_lookBehind hoD (by rw[hdD];exact pastItsLine_dict (yM hcD (by rw[yQ];lia))) ?_);exact uZ (h _ ⟨(hs2.2 _ (Ne.symm I.ne)).trans I.obj,hn2,I.ne⟩ hs2)
theorem zjH{R:Result->jB->Prop}{vs:List jA}{kw:List (Str×jA)}(X:K.In s.heap)(hm:makesIn K C=true)
  (hi:findIn K (.ref C) "__init__"=some (some (.ref f))) (hf:PySem.W.typeIn K (.ref f)=some (.type "function"))
  (h:codeAny (model prog w) (A.under (.builtin "type.__call__" ⟨.ref C::vs,kw⟩)) (.call (.ref f) ⟨.ref (s.heap.objs.size+1)::vs,kw⟩) (PySem.W.InitBack (s.heap.objs.size+1) R)
   {s with heap:=(s.heap.push emptyDict).push (instObj C s.heap.objs.size)}):
  codeAny (model prog w) A (.call (.ref C) ⟨vs,kw⟩) R s:=by
 obtain⟨hh,g,d,t,os⟩:=s;exact PySem.W.make_core (PySem.W.makes_of X hm) (PySem.W.looks_findIn X hi) (fun self=>PySem.W.bind_fn X self hf) (.inl rfl) h
end
noncomputable def putF(f:Str)(v:V):List (Str×V)->List (Str×V)
 |[]=>[(f,v)]
 |(g,x)::r=>if g=f then (g,v)::r else (g,x)::putF f v r
theorem ZE(f g:Str)(v:V):∀fs:List (Str×V),(putF f v fs).lookup g=if g=f then some v else fs.lookup g
 |[]=>by
  show xW g [(f,v)]=_
  by_cases h:g=f
  ·have hb:(g==f)=true:=beq_iff_eq.mpr h
   simp only[xW,hb,if_pos h]
  ·have hb:(g==f)=false:=beq_eq_false_iff_ne.mpr h
   simp only[xW,hb,if_neg h]
 |(k,x)::r=>by
  have ih:=ZE f g v r;rw[show putF f v ((k,x)::r)=(if k=f then (k,v)::r else (k,x)::putF f v r) from rfl]
  by_cases hk:k=f
  ·rw[if_pos hk]
   by_cases h:g=k
   ·have hb:(g==k)=true:=beq_iff_eq.mpr h
    simp only[xW,hb,if_pos (h.trans hk)]
   ·have hb:(g==k)=false:=beq_eq_false_iff_ne.mpr h
    simp only[xW,hb,if_neg (fun e:g=f=>h (e.trans hk.symm))]
  ·rw[if_neg hk]
   by_cases h:g=k
   ·have hb:(g==k)=true:=beq_iff_eq.mpr h
    simp only[xW,hb,if_neg (fun e:g=f=>hk (h.symm.trans e))]
   ·have hb:(g==k)=false:=beq_eq_false_iff_ne.mpr h
    simp only[xW,hb];exact ih
theorem zcw(f:Str)(v:V):∀fs:List (Str×V),f∈(putF f v fs).map (·.1)/\∀g,g∈fs.map (·.1)->g∈(putF f v fs).map (·.1)
 |[]=>⟨by simp[putF],fun g h=>by simp at h⟩
 |(k,x)::r=>by
  obtain⟨i1,i2⟩:=zcw f v r;rw[show putF f v ((k,x)::r)=(if k=f then (k,v)::r else (k,x)::putF f v r) from rfl]
  by_cases hk:k=f
  ·rw[if_pos hk]
   subst hk;exact⟨by simp,fun g h=>by simpa using h⟩
  ·rw[if_neg hk]
   refine⟨?_,fun g h=>?_⟩
   ·rw[yW]
    exact yL _ i1
   ·rw[yW] at h ⊢
    rcases yV.mp h with e|e
    ·exact yV.mpr (.inl e)
    ·exact yL _ (i2 g e)
theorem zcx(f:Str)(v:V):∀fs:List (Str×V),(putF f v fs).length<=fs.length+1
 |[]=>by simp[putF]
 |(k,x)::r=>by
  have ih:=zcx f v r;rw[show putF f v ((k,x)::r)=(if k=f then (k,v)::r else (k,x)::putF f v r) from rfl]
  by_cases hk:k=f
  ·rw[if_pos hk,yQ,yQ];lia
  ·rw[if_neg hk,yQ,yQ];lia
theorem RelO.some_of{v:V}{o:Option jA}(r:RelO (some v) o):∃u,o=some u/\RelV v u:=by
 cases o with
 |none=>exact (show False from r).elim
 |some u=>exact⟨u,rfl,r⟩
theorem RelO.none_of{o:Option jA}(r:RelO none o):o=none:=by
 cases o with
 |none=>rfl
 |some u=>exact (show False from r).elim
theorem zhP{v:V}{u:jA}(r:RelV v u):PySem.W.handedIn u=true:=by
 cases v with
 |non=>cases (show u=Value.none from r);rfl
 |bl b=>cases (show u=Value.bool b from r);rfl
 |int i=>obtain⟨t,e⟩:=(show ∃t,u=Value.int i t from r);cases e;rfl
 |str x=>obtain⟨t,e⟩:=(show ∃t,u=Value.str x t from r);cases e;rfl
 |byt b=>obtain⟨t,e⟩:=(show ∃t,u=Value.bytes b t from r);cases e;rfl
 |flt b=>obtain⟨t,e⟩:=(show ∃t,u=Value.float b t from r);cases e;rfl
 |ref a=>cases (show u=Value.ref a from r);rfl
 |ty n=>cases (show u=Value.type n from r);rfl
section
variable{P:jG}{w:jH}{H H':Hp}{h h':jD}{a C dx:jC}{fs fs':List (Str×V)}
theorem zdQ(hok:HOk P w H h)(e:H a=some (.ins C dx fs)):∃mA,ObjM h a dx C mA/\(∀f,RelO (fs.lookup f) (mA f))/\PySem.Within mA (fs.map (·.1))/\fs.length<=1000/\H dx=some (.own a):=by
 obtain⟨d,z,ne,ob,mA,n,r,q⟩:=(show Zu P w H h a (.ins C dx fs) from hok a _ e);exact⟨mA,⟨ob,n,ne⟩,r,q,z,d⟩
end
structure Cls(K:tT)(C:jC):Prop where
 pg:plainGet K C Str.empty=true
 hd:hasDictIn K C=true
 po:plainOver K C=true
 sa:findIn K (.ref C) "__setattr__"=some (some (.builtin "object.__setattr__"))
theorem Cls.get{K:tT}{C:jC}(c:Cls K C)(f:Str):plainGet K C f=true:=c.pg
def zaP(K:tT)(C:jC)(f:Str):Prop:=findIn K (.ref C) f=some none
theorem zaP.taker{K:tT}{C:jC}{f:Str}(n:zaP K C f):takerIn K C f=some none:=by
 unfold takerIn;rw[show findIn K (.ref C) f=some none from n]
 rfl
structure Meth(K:tT)(C:jC)(m:Str)(f:jC):Prop where
 at_:findIn K (.ref C) m=some (some (.ref f))
 fn:isFn K (.ref f)=true
 kp:keepIn K (.ref f)=true
section
variable{X:Cx}{pins:List (jC×Obj)}{σ:St}{H:Hp}{s:jB}{a C dx:jC}{fs:List (Str×V)}{f:Str}{v:V}{A:jI}{E:jA->jB->Prop}
theorem zgU{b:Bool}{Q:jA->jB->Prop}(I:Inv X pins σ H s)(e:H a=some (.ins C dx fs))(c:Cls X.K C)(n:zaP X.K C f)(l:fs.lookup f=some v)
  (h:∀u s',Inv X pins σ H s'->RelV v u->Q u s'):wpAny (model X.prog X.w) A (getAttr (.ref a) f b) Q E s:=by
 obtain⟨mA,O,r,_,_,_⟩:=zdQ I.hok e;obtain⟨u,hu,ru⟩:=RelO.some_of (v:=v) (o:=mA f) (by rw[←l];exact r f);exact zlg I.kIn O (c.get f) c.hd n hu (zhP ru) (h u _ (I.tok _) ru)
theorem zgV{m:Str}{g:jC}{pl:Sem Bool}{Q:jA×List jA->jB->Prop}(I:Inv X pins σ H s)(e:H a=some (.ins C dx fs))(c:Cls X.K C)(k:Meth X.K C m g)(l:fs.lookup m=none)
  (h:Q (.ref g,[.ref a]) s):wpAny (model X.prog X.w) A (getMethod (.ref a) m pl) Q E s:=by
 obtain⟨mA,O,r,_,_,_⟩:=zdQ I.hok e;have hn:mA m=none:=RelO.none_of (by rw[←l];exact r m);exact zjG I.kIn O (c.get m) k.at_ k.fn hn h
theorem zgW{y:V}{u:jA}{Q:Unit->jB->Prop}(I:Inv X pins σ H s)(e:H a=some (.ins C dx fs))(c:Cls X.K C)(n:zaP X.K C f)(hl:fs.length<1000)(ry:RelV y u)
  (h:∀s',Inv X pins σ (upd H a (.ins C dx (putF f y fs))) s'->Q () s'):wpAny (model X.prog X.w) A (setAttr (.ref a) f u) Q E s:=by
 obtain⟨mA,O,r,wi,_,ho⟩:=zdQ I.hok e;have hz:(fs.map (·.1)).length<=tI:=by rw[yB,sizeLine_eq];lia
 refine zlh I.kIn O c.sa c.po n.taker c.hd wi hz fun h' O' sb=>h _ ?_;have hd:∃o,h'.get? dx=some o:=let ⟨o,_,_,e',_⟩:=O'.ns;⟨o,e'⟩;refine I.write (x:=a) (e:=dx) (by rw[e];exact True.intro) (.inr ho) (fun b q hb z=>(sb.2 b hb).trans z) hd ?_;refine⟨by rw[zH O.ne];exact ho,?_,O.ne,O'.obj,_,O'.ns,fun g=>?_,fun g hg=>?_⟩
 ·have:=zcx f y fs;lia
 ·show RelO ((putF f y fs).lookup g) (if g=f then some u else mA g)
  rw[ZE]
  by_cases q:g=f
  ·rw[if_pos q,if_pos q];exact ry
  ·rw[if_neg q,if_neg q];exact r g
 ·by_cases q:g=f
  ·rw[q];exact (zcw f y fs).1
  ·refine (zcw f y fs).2 g (wi g fun z=>hg ?_)
   show (if g=f then some u else mA g)=none;rw[if_neg q];exact z
theorem Inv.made(I:Inv X pins σ H s):Inv X pins σ (upd (upd H s.heap.objs.size (.own (s.heap.objs.size+1))) (s.heap.objs.size+1) (.ins C s.heap.objs.size []))
  {s with heap:=(s.heap.push emptyDict).push (instObj C s.heap.objs.size)}:=by
 have e1:(s.heap.push emptyDict).get? s.heap.objs.size=some emptyDict:=tF s.heap rfl;have e2:((s.heap.push emptyDict).push (instObj C s.heap.objs.size)).get? (s.heap.objs.size+1)=some (instObj C s.heap.objs.size):=by
  have:=tF (s.heap.push emptyDict) (o:=instObj C s.heap.objs.size) rfl
  rwa [Heap.size_push] at this
 have e3:(s.heap.push emptyDict).Ns s.heap.objs.size (fun _=>none):=⟨emptyDict,#[],_,e1,rfl,(fun e he=>absurd he (by simp)),fun _=>rfl⟩;have I1:=I.laid (a:=s.heap.objs.size) (o:=.own (s.heap.objs.size+1)) (h':=s.heap.push emptyDict) (t':=s.toks) (fun b u q=>tD _ q) (yG _) ⟨_,e1⟩;refine I1.laid (a:=s.heap.objs.size+1) (o:=.ins C s.heap.objs.size []) (t':=s.toks) (fun b u q=>tD _ q) (Nat.le_of_eq (Heap.size_push _ _)) ?_;have ne:s.heap.objs.size≠s.heap.objs.size+1:=xC (xY _);refine⟨by rw[zH ne,zj],yJ _,ne,e2,fun _=>none,(Heap.Ns1.of_empty e3).at fun o q=>tD _ q,fun _=>True.intro,fun y hy=>absurd rfl hy⟩
theorem zli{prog:jG}{w:jH}{env:Env}{e:jE}{f:Str}{pos:Pos}{s:jB}{Q:jA->jB->Prop}(hb:attributeBase e f env (eval e env)=eval e env)
  (h:wpAny (model prog w) A (eval e env) (fun o s₁=>wpAny (model prog w) A (getAttr o f true) Q E s₁) E s):wpAny (model prog w) A (eval (.Attribute e f pos) env) Q E s:=
 Attribute_any_ h (by rw[arm_eval_Attribute,hb])
end
inductive i_tFld(K:tT)(f:Str)(Q:VK)(x:V)(H1:Hp):Prop
 |mk (a C dx fs v:_) (_:x=.ref a) (_:H1 a=some (.ins C dx fs)) (_:Cls K C) (_:zaP K C f) (_:fs.lookup f=some v) (_:Q v H1)
def tFld(K:tT)(ta:TE)(f:Str):TE:=fun σ H Q=>ta σ H fun x H1=>i_tFld K f Q x H1
inductive i_sFld(K:tT)(f:Str)(D:Ends)(σ:St)(y x:V)(H2:Hp):Prop
 |mk (a C dx fs:_) (_:x=.ref a) (_:H2 a=some (.ins C dx fs)) (_:Cls K C) (_:zaP K C f) (_:fs.length<1000) (_:D.nx σ (upd H2 a (.ins C dx (putF f y fs))))
def sFld(K:tT)(ta tv:TE)(f:Str):TS:=fun D σ H=>tv σ H fun y H1=>ta σ H1 fun x H2=>i_sFld K f D σ y x H2
section
variable{X:Cx}{o e value:jE}{f:Str}{pos pos' tpos:Pos}{ta tv:TE}
theorem zbu(he:PE X e ta)(hb:attributeBase e f X.env (eval e X.env)=eval e X.env):PE X (.Attribute e f pos) (tFld X.K ta f):=by
 intro pins s σ H Q I h;refine zli hb (thn (he pins s σ H _ I h) fun u s1 ⟨x,H1,I1,rx,a,C,dx,fs,v,ex,ea,c,n,l,q⟩=>?_);subst ex;obtain rfl:u=Value.ref a:=rx;exact zgU I1 ea c n l fun u' s2 I2 ru=>⟨v,H1,I2,ru,q⟩
theorem zgp(ha:PE X o ta)(hv:PE X value tv)(hs:swapsWith value (some (.Attribute o f pos')) pos.line X.env=pure false):PS X (.Assign [.Attribute o f pos'] value pos) (sFld X.K ta tv f):=by
 intro pins s σ H D I h;refine plainObj_wpAny_Assign_Attribute (thn (hv pins s σ H _ I h) fun u s1 ⟨y,H1,I1,ry,q⟩=>thn (ha pins s1 σ H1 _ I1 q) fun ov s2 ⟨x,H2,I2,rx,a,C,dx,fs,ex,ea,c,n,l,q2⟩=>?_) hs;subst ex;obtain rfl:ov=Value.ref a:=rx;exact zgW I2 ea c n l ry fun s3 I3=>⟨σ,_,I3,q2⟩
end
section
variable{X:Cx}{pins:List (jC×Obj)}{σ:St}{H:Hp}{s:jB}{A:jI}{E:jA->jB->Prop}{Q:jA->jB->Prop}{c:jA}{b:Bool}
inductive TyOf(K:tT)(H:Hp):V->jA->Prop where
 |non:TyOf K H .non (.type "NoneType")
 |bl (x:Bool):TyOf K H (.bl x) (.type "bool")
 |int (i:Int):TyOf K H (.int i) (.type "int")
 |str (x:Str):TyOf K H (.str x) (.type "str")
 |flt (x:UInt64):TyOf K H (.flt x) (.type "float")
 |lst {a:jC}{xs:List V} (e:H a=some (.lst xs)):TyOf K H (.ref a) (.type "list")
 |frz {a:jC}{o:Obj}{xs:List V} (e:H a=some (.frz o (.lst xs))):TyOf K H (.ref a) (.type "list")
 |tup {a:jC}{xs:List V} (e:H a=some (.tup xs)):TyOf K H (.ref a) (.type "tuple")
 |dK {a:jC}{kvs:List (Key×V)} (e:H a=some (.dK kvs)):TyOf K H (.ref a) (.type "dict")
 |dT {a:jC}{kvs:List (List Key×V)} (e:H a=some (.dT kvs)):TyOf K H (.ref a) (.type "dict")
 |ins {a C dx:jC}{fs:List (Str×V)} (e:H a=some (.ins C dx fs)) (cl:Cls K C) (ha:findIn K (.ref C) "__class__"=some (some (.builtin "object.__class__")))
   (hn:PySem.W.specialIn K (.builtin "object.__class__") "__get__"=some (some (.builtin "getset_descriptor.__get__"))) (htk:PySem.W.takesIn K (.builtin "object.__class__")=some true)
   (hm:PySem.W.mroIn K C (.type "object")=some true):TyOf K H (.ref a) (.ref C)
theorem zeG{x:V}{u t:jA}(I:Inv X pins σ H s)(rx:RelV x u)(ty:TyOf X.K H x t)(e:PySem.W.kitOne X.K t c=some b)(h:∀tk,Q (.bool b) {s with toks:=tk}):
  wpAny (model X.prog X.w) A (call (.builtin "isinstance") [u,c]) Q E s:=by
 cases ty with
 |non=>cases (show u=Value.none from rx);exact kia_one PySem.W.kitx_none I.kIn True.intro e (fun z=>nomatch z) h
 |bl y=>cases (show u=Value.bool y from rx);exact kia_one PySem.W.kitx_bool I.kIn True.intro e (fun z=>nomatch z) h
 |int i=>obtain⟨t,q⟩:=(show ∃t,u=Value.int i t from rx);cases q;exact kia_one PySem.W.kitx_int I.kIn True.intro e (fun z=>nomatch z) h
 |str y=>obtain⟨t,q⟩:=(show ∃t,u=Value.str y t from rx);cases q;exact kia_one PySem.W.kitx_str I.kIn True.intro e (fun z=>nomatch z) h
 |flt y=>obtain⟨t,q⟩:=(show ∃t,u=Value.float y t from rx);cases q;exact kia_one PySem.W.kitx_float I.kIn True.intro e (fun z=>nomatch z) h
 | @lst a xs ea=>
  cases (show u=Value.ref a from rx);obtain⟨_,_,n,_,h1⟩:=(show Zu X.prog X.w H s.heap a (.lst xs) from I.hok a _ ea);exact kia_one kitx_list I.kIn ⟨_,h1,rfl⟩ e (fun z=>nomatch z) h
 | @frz a ob xs ea=>
  cases (show u=Value.ref a from rx);obtain⟨_,_,_,n,_,h1⟩:=(show Zu X.prog X.w H s.heap a (.frz ob (.lst xs)) from I.hok a _ ea);exact kia_one kitx_list I.kIn ⟨_,h1,rfl⟩ e (fun z=>nomatch z) h
 | @tup a xs ea=>
  cases (show u=Value.ref a from rx);obtain⟨_,_,_,p⟩:=(show Zu X.prog X.w H s.heap a (.tup xs) from I.hok a _ ea);obtain⟨o,h1,h2,_⟩:=p;exact kia_one kitx_tuple I.kIn ⟨o,h1,h2⟩ e (fun z=>nomatch z) h
 | @dK a kvs ea=>
  cases (show u=Value.ref a from rx);obtain⟨_,_,vs,_,p⟩:=(show Zu X.prog X.w H s.heap a (.dK kvs) from I.hok a _ ea);obtain⟨o,es,ep,h1,h2,_⟩:=p;exact kia_one kitx_dict I.kIn ⟨o,h1,h2.1⟩ e (fun z=>nomatch z) h
 | @dT a kvs ea=>
  cases (show u=Value.ref a from rx);obtain⟨_,_,xs,_,o,es,ep,h1,h2,_⟩:=(show Zu X.prog X.w H s.heap a (.dT kvs) from I.hok a _ ea);exact kia_one kitx_dict I.kIn ⟨o,h1,h2.1⟩ e (fun z=>nomatch z) h
 | @ins a C dx fs ea cl ha hn htk hm=>
  cases (show u=Value.ref a from rx);obtain⟨mA,O,_⟩:=zdQ I.hok ea;obtain⟨od,J,_⟩:=O.look;exact kia_one (PySem.W.kitx_own (cl.get _) cl.hd ha hn htk hm) I.kIn J e (fun z=>nomatch z) h
end
structure Room(k:Nat)(A:jI):Prop where
 hd:A.handled=none
 dp:A.depth+3*k+5<recursionLimit
 un:A.units+16*k+200<cLine
 gd:A.guards=some []
theorem Room.mono{j k:Nat}{A:jI}(r:Room k A)(h:j<=k):Room j A:=⟨r.hd,by have:=r.dp;lia,by have:=r.un;lia,r.gd⟩
theorem Room.deeper{k:Nat}{A:jI}(r:Room (k+1) A)(env:Env):Room k (A.deeper env):=
 ⟨r.hd,by have:=r.dp;show A.depth+1+3*k+5<_;lia,by have:=r.un;show A.units+3+16*k+200<_;lia,r.gd⟩
theorem zgX{A:jI}{C:jC}{us:List jA}{kw:List (Str×jA)}:(A.under (.builtin "type.__call__" ⟨.ref C::us,kw⟩)).depth=A.depth+1:=by
 first|rfl|simp[Around.under,Code.weight,Code.isCreation,Code.isGuard,Code.isCaller,Code.frames,Code.isFrame,guardIds]
theorem zgY{A:jI}{C:jC}{us:List jA}{kw:List (Str×jA)}:(A.under (.builtin "type.__call__" ⟨.ref C::us,kw⟩)).units=A.units+1:=by
 first|rfl|simp[Around.under,Code.cUnits,Code.frames,Code.isFrame]
theorem zfB{A:jI}{C:jC}{us:List jA}{kw:List (Str×jA)}:(A.under (.builtin "type.__call__" ⟨.ref C::us,kw⟩)).guards=A.guards:=by
 first|rfl|(show pushGuards (Code.guards _) A.guards=_;rw[show Code.guards (.builtin "type.__call__" ⟨.ref C::us,kw⟩)=[] from rfl];rfl)|simp[Around.under,Code.guards,Code.isGuard,guardIds,pushGuards]
theorem Room.make{k:Nat}{A:jI}(r:Room (k+1) A)(C:jC)(us:List jA)(kw:List (Str×jA)):Room k (A.under (.builtin "type.__call__" ⟨.ref C::us,kw⟩)):=
 ⟨r.hd,by have:=r.dp;rw[zgX];lia,by have:=r.un;rw[zgY];lia,(zfB (A:=A) (C:=C) (us:=us) (kw:=kw)).trans r.gd⟩
theorem Room.depth{k:Nat}{A:jI}(r:Room k A):A.depth<recursionLimit:=by have:=r.dp;lia
theorem Room.units{k:Nat}{A:jI}(r:Room k A):A.units+64<cLine:=by have:=r.un;lia
def tNil:TA:=fun _ H Q=>Q [] H
def zat(ta:TE)(tr:TA):TA:=fun σ H Q=>ta σ H fun x H1=>tr σ H1 fun xs H2=>Q (x::xs) H2
section
variable{X:Cx}{e:jE}{es:List jE}{te:TE}{t:TA}{pos:Pos}
theorem zi:PA X [] tNil:=fun _ _ _ _ H Q I h=>Calls.spliced_nil ⟨[],H,I,.nil,h⟩
theorem zc(ha:PE X e te)(hr:PA X es t)(hs:tK (e::es) X.env=(false,eval e X.env)::tK es X.env:=by rfl):PA X (e::es) (zat te t):=by
 intro pos pins s σ H Q I h;rw[hs];show wpAny _ _ (spliced ((false,eval e X.env)::backTo pos (tK es X.env))) _ _ s;refine Calls.spliced_cons (thn (ha pins s σ H _ I h) fun u s1 ⟨x,H1,I1,r1,q1⟩=>?_);exact thn (hr pos pins s1 σ H1 _ I1 q1) fun us s2 ⟨xs,H2,I2,r2,q2⟩=>⟨x::xs,H2,I2,.cons r1 r2,q2⟩
def tTup(t:TA):TE:=fun σ H Q=>t σ H fun xs H1=>xs.length<=tI/\∀p,H1 p=none->Q (.ref p) (upd H1 p (.tup xs))
def tLst(t:TA):TE:=fun σ H Q=>t σ H fun xs H1=>xs.length<=tI/\∀p,H1 p=none->Q (.ref p) (upd H1 p (.lst xs))
theorem zG {x1} (h:PA X es t):PE X (.Tuple es x1 pos) (tTup t):=by
 intro pins s σ H Q I hq;refine wpAny_Tuple_spliced (thn (h pos pins s σ H _ I hq) fun us s1 ⟨xs,H1,I1,r,z,q⟩=>⟨by rw[←r.length];exact z,?_⟩);have hf:H1 s1.heap.objs.size=none:=I1.hok.fresh (yG _);refine⟨.ref s1.heap.objs.size,upd H1 s1.heap.objs.size (.tup xs),I1.laid (t':=s1.toks) (fun b u e=>tD _ e) (yG _) ?_,rfl,q _ hf⟩;exact⟨z,us,r,⟨_,tF _ rfl,rfl,_,rfl⟩⟩
theorem zO(h:PA X es t):PE X (.List es pos) (tLst t):=by
 intro pins s σ H Q I hq;refine wpAny_List_spliced (thn (h pos pins s σ H _ I hq) fun us s1 ⟨xs,H1,I1,r,z,q⟩=>⟨by rw[←r.length];exact z,?_⟩);have hf:H1 s1.heap.objs.size=none:=I1.hok.fresh (yG _);refine⟨.ref s1.heap.objs.size,upd H1 s1.heap.objs.size (.lst xs),I1.laid (t':=s1.toks) (fun b u e=>tD _ e) (yG _) ?_,rfl,q _ hf⟩;exact⟨z,us,0,r,tF _ rfl⟩
end
abbrev Sp:=List V->Hp->VK->XK->Prop
abbrev CXT:=List Env->Hp->jB->XK->jA->jB->Prop
structure Env0(P:jG)(w:jH)(K:tT)(mg:Str->Option jA)(base:jD)(A:jI)(outer:List Env)(s:jB)(H:Hp):Prop where
 frames:A.frames=some outer
 mod:Mod K mg base
 bs:∀b o,base.get? b=some o->s.heap.get? b=some o/\H b=none
 bsz:base.objs.size<=s.heap.objs.size
 funs:s.heap.FunFrames base outer
 frf:∀b∈frs outer,H b=none
 hok:HOk P w H s.heap
 bare:AllBare s.gens
def CE(outer:List Env)(P:jG)(w:jH)(H:Hp)(s:jB)(Q:VK)(u:jA)(s':jB):Prop:=
 ∃v H',s'.os=s.os/\AllBare s'.gens/\Un (frs outer) [] H H' s.heap s'.heap/\HOk P w H' s'.heap/\RelV v u/\Q v H'
def CR(CX:CXT)(outer:List Env)(P:jG)(w:jH)(H:Hp)(s:jB)(Q:VK)(E:XK)(r:Result)(s':jB):Prop:=
 match r with
 |.ok (.ret u)=>CE outer P w H s Q u s'
 |.ok _=>False
 |.error e=>CX outer H s E e s'
structure FnOk(P:jG)(w:jH)(K:tT)(mg:Str->Option jA)(base:jD)(CX:CXT)(k:Nat)(f:jC)(fd:tU)(ps:List Str)(sp:Sp):Prop where
 len:∀vs H Q E,sp vs H Q E->vs.length=ps.length
 run:∀(A:jI)(outer:List Env)(s:jB)(H:Hp)(args:Args)(us:List jA)(vs:List V)(Q:VK)(E:XK),Room k A->Env0 P w K mg base A outer s H->BindsTo s fd args (ps.zip us)->Vals vs us->sp vs H Q E->
  codeAny (model P w) A (.call (.ref f) args) (CR CX outer P w H s Q E) s
theorem FnOk.mono{P:jG}{w:jH}{K:tT}{mg:Str->Option jA}{base:jD}{CX:CXT}{j k:Nat}{f:jC}{fd:tU}{ps:List Str}{sp:Sp}(F:FnOk P w K mg base CX j f fd ps sp)(h:j<=k):
  FnOk P w K mg base CX k f fd ps sp:=⟨F.len,fun A outer s H args us vs Q E hr=>F.run A outer s H args us vs Q E (hr.mono h)⟩
theorem Env0.make{P:jG}{w:jH}{K:tT}{mg:Str->Option jA}{base:jD}{A:jI}{outer:List Env}{s:jB}{H:Hp}(e:Env0 P w K mg base A outer s H)(C:jC)(us:List jA)(kw:List (Str×jA)):
  Env0 P w K mg base (A.under (.builtin "type.__call__" ⟨.ref C::us,kw⟩)) outer s H:=⟨by first|exact e.frames|(simpa [Around.under,Code.envs,Code.isFrame,pushEnvs] using e.frames),e.mod,e.bs,e.bsz,e.funs,e.frf,e.hok,e.bare⟩
section
variable{X:Cx}{pins:List (jC×Obj)}{σ:St}{H:Hp}{s s':jB}
theorem Inv.env0(I:Inv X pins σ H s):Env0 X.prog X.w X.K X.mg X.base X.A X.stack s H:=
 ⟨I.ok.frames,I.ok.mod,I.bs,yM I.ok.bsz I.sz,I.stack,I.stkFree,I.hok,I.bare⟩
theorem Inv.after{Q:VK}{u:jA}(I:Inv X pins σ H s)(h:CE X.stack X.prog X.w H s Q u s'):EP X pins σ Q u s':=by
 obtain⟨v,H',os,bare,un,hok,r,q⟩:=h;obtain⟨hh,g,d,t,os'⟩:=s';obtain rfl:os'=s.os:=os;exact⟨v,H',I.call (h':=hh) (g':=g) (d':=d) (t':=t) (ch:=[]) un hok bare (fun b z=>absurd z (by simp)),r,q⟩
end
def zhQ(sp:Sp)(dvs:List V)(E:XK)(t:TA):TE:=fun σ H Q=>t σ H fun vs H1=>sp (vs++dvs) H1 Q E
inductive i_tMeth(C:jC)(m:Str)(sp:Sp)(dvs:List V)(E:XK)(t:TA)(σ:St)(Q:VK)(x:V)(H1:Hp):Prop
 |mk (a dx fs:_) (_:x=.ref a) (_:H1 a=some (.ins C dx fs)) (_:fs.lookup m=none) (_:t σ H1 fun vs H2=>sp (x::(vs++dvs)) H2 Q E)
def zlj(C:jC)(m:Str)(sp:Sp)(dvs:List V)(E:XK)(ta:TE)(t:TA):TE:=fun σ H Q=>ta σ H fun x H1=>i_tMeth C m sp dvs E t σ Q x H1
def zlk(C:jC)(sp:Sp)(dvs:List V)(E:XK)(t:TA):TE:=fun σ H Q=>t σ H fun vs H1=>∀x dx,H1 x=none->H1 dx=none->dx≠x->
 sp (.ref x::(vs++dvs)) (upd (upd H1 dx (.own x)) x (.ins C dx [])) (fun v H2=>v=.non/\Q (.ref x) H2) E
def Binds(K:tT)(fd:tU)(ps:List Str)(ds:List jA):Prop:=
 ∀(s:jB)(us:List jA),K.In s.heap->(us++ds).length=ps.length->BindsTo s fd ⟨us,[]⟩ (ps.zip (us++ds))
theorem Binds.all{K:tT}{fd:tU}{ps:List Str}(h:∀us:List jA,us.length=ps.length->bindArgs fd ⟨us,[]⟩=pure (ps.zip us)):Binds K fd ps []:=fun s us _ hl=>by
 rw[xB] at hl ⊢;exact .of_eq (h us hl)
def Passes(CX:CXT)(X:Cx)(E:XK):Prop:=∀(pins:List (jC×Obj))(σ:St)(H:Hp)(s:jB)(e:jA)(s':jB),Inv X pins σ H s->CX X.stack H s E e s'->X.xe e s'
section
variable{X:Cx}{CX:CXT}{k:Nat}{f C:jC}{fd:tU}{ps:List Str}{sp:Sp}{dvs:List V}{ds:List jA}{E:XK}{x m:Str}{p pos apos:Pos}{e o:jE}{es:List jE}{ta:TE}{t:TA}
theorem zhR{pins:List (jC×Obj)}{σ:St}{H:Hp}{s:jB}{Q:VK}{us:List jA}{vs:List V}(F:FnOk X.prog X.w X.K X.mg X.base CX k f fd ps sp)(hr:Room k X.A)(hb:Binds X.K fd ps ds)(hd:Vals dvs ds)(hx:Passes CX X E)
  (I:Inv X pins σ H s) (r:Vals vs us) (h:sp (vs++dvs) H Q E):wpAny (model X.prog X.w) X.A (call (.ref f) us) (EP X pins σ Q) X.xe s:=by
 have r2:Vals (vs++dvs) (us++ds):=r.append hd;have hl:(us++ds).length=ps.length:=by rw[←r2.length];exact F.len _ _ _ _ h
 refine wpAny_call (codeAny_mono (F.run X.A X.stack s H ⟨us,[]⟩ (us++ds) (vs++dvs) Q E hr I.env0 (hb s us I.kIn hl) r2 h) fun r s' hq=>?_);cases r with
 |error e=>exact hx pins σ H s e s' I hq
 |ok fl=>
  cases fl with
  |ret u=>exact I.after hq
  |next=>exact False.elim hq
  |brk=>exact False.elim hq
  |cont=>exact False.elim hq
theorem zll(F:FnOk X.prog X.w X.K X.mg X.base CX k f fd ps sp)(hr:Room k X.A)(hg:Gl X x)(hm:X.mg x=some (.ref f))(hk:keepIn X.K (.ref f)=true)(hb:Binds X.K fd ps ds)(hd:Vals dvs ds)(hx:Passes CX X E)
  (ha:PA X (e::es) t) (hdb:(x==("__debug__":Str))=false:=by decide) (he:tK (e::es) X.env=(false,eval e X.env)::tK es X.env:=by rfl) (hpl:(backTo pos (tK es X.env)).any (·.1)=false:=by rfl):
  PE X (.Call (.Name x p) (e::es) [] pos) (zhQ sp dvs E t):=by
 intro pins s σ H Q I h;refine wpAny_Call_Name_kw (zfy I hg hm ?_ hdb);refine callWith_K (h₀:=X.base) I.ok.mod.kin hk (thn (ha pos pins s σ H _ I h) fun us s1 ⟨vs,H1,I1,r,q⟩=>⟨I1.kIn,?_⟩) he hpl;exact zhR F hr hb hd hx I1 r q
theorem zlm{pl:Sem Bool}(he:PE X o ta)(c:Cls X.K C)(hm:Meth X.K C m f)(F:FnOk X.prog X.w X.K X.mg X.base CX k f fd ps sp)(hr:Room k X.A)(hb:Binds X.K fd ps ds)(hd:Vals dvs ds)(hx:Passes CX X E)(ha:PA X (e::es) t)
  (hst:tK (e::es) X.env=(false,eval e X.env)::tK es X.env:=by rfl) (hpl:(backTo pos (tK es X.env)).any (·.1)=false:=by rfl)
  (ht:eval (.Call (.Attribute o m apos) (e::es) [] pos) X.env=(do
   let ov ←eval o X.env
   standAt apos.atName
   let (f,first) ←holding [ov] (getMethod ov m pl)
   callWith pos f first (backTo pos (tK (e::es) X.env)) (backToKw pos (keywordEach [] X.env))):=by rfl):
  PE X (.Call (.Attribute o m apos) (e::es) [] pos) (zlj C m sp dvs E ta t):=by
 intro pins s σ H Q I h;refine PySem.W.methodCall_KW (pl:=pl) (thn (he pins s σ H _ I h) fun u s1 ⟨x,H1,I1,rx,a,dx,fs,ex,ea,l,q⟩=>?_) ht;subst ex;obtain rfl:u=Value.ref a:=rx;refine zgV I1 ea c hm l ?_;refine callWith_K (first:=[.ref a]) (h₀:=X.base) I.ok.mod.kin hm.kp (thn (ha pos pins s1 σ H1 _ I1 q) fun us s2 ⟨vs,H2,I2,r,q2⟩=>⟨I2.kIn,?_⟩) hst hpl;exact zhR (us:=.ref a::us) (vs:=.ref a::vs) F hr hb hd hx I2 (.cons rfl r) q2
structure Mk(K:tT)(C f:jC):Prop where
 makes:makesIn K C=true
 init:findIn K (.ref C) "__init__"=some (some (.ref f))
 fn:isFn K (.ref f)=true
 kp:keepIn K (.ref C)=true
theorem zjI{pins:List (jC×Obj)}{σ:St}{H:Hp}{s:jB}{Q:VK}{us:List jA}{vs:List V}(M:Mk X.K C f)(F:FnOk X.prog X.w X.K X.mg X.base CX k f fd ps sp)(hr:Room (k+1) X.A)(hb:Binds X.K fd ps ds)(hd:Vals dvs ds)
  (hx:Passes CX X E) (I:Inv X pins σ H s) (r:Vals vs us)
  (h:∀x dx,H x=none->H dx=none->dx≠x->sp (.ref x::(vs++dvs)) (upd (upd H dx (.own x)) x (.ins C dx [])) (fun v H2=>v=.non/\Q (.ref x) H2) E):
  wpAny (model X.prog X.w) X.A (call (.ref C) us) (EP X pins σ Q) X.xe s:=by
 have hq:=h (s.heap.objs.size+1) s.heap.objs.size (I.hok.fresh (uK _)) (I.hok.fresh (yG _)) (xC (xY _));have I2:=Inv.made (C:=C) I;have r2:Vals (V.ref (s.heap.objs.size+1)::(vs++dvs)) (Value.ref (s.heap.objs.size+1)::(us++ds)):=.cons rfl (r.append hd);have hl:(Value.ref (s.heap.objs.size+1)::us++ds).length=ps.length:=by
  have e:=r2.length;rw[F.len _ _ _ _ hq] at e;exact e.symm
 refine wpAny_call (zjH (f:=f) I.kIn M.makes M.init (beq_iff_eq.mp M.fn) (codeAny_mono (F.run _ X.stack _ _ ⟨Value.ref (s.heap.objs.size+1)::us,[]⟩ (Value.ref (s.heap.objs.size+1)::(us++ds)) _ _ E (hr.make C us [])
  (I2.env0.make C us []) (hb _ (Value.ref (s.heap.objs.size+1)::us) I2.kIn hl) r2 hq) fun r s' hq'=>?_))
 cases r with
 |error e=>exact hx pins σ _ _ e s' I2 hq'
 |ok fl=>
  cases fl with
  |ret u=>
   obtain⟨v,H',I3,rv,ev,q3⟩:=I2.after hq';subst ev;exact⟨rv,⟨V.ref (s.heap.objs.size+1),H',I3,rfl,q3⟩⟩
  |next=>exact False.elim hq'
  |brk=>exact False.elim hq'
  |cont=>exact False.elim hq'
theorem zln(M:Mk X.K C f)(F:FnOk X.prog X.w X.K X.mg X.base CX k f fd ps sp)(hr:Room (k+1) X.A)(hg:Gl X x)(hm:X.mg x=some (.ref C))(hb:Binds X.K fd ps ds)(hd:Vals dvs ds)(hx:Passes CX X E)
  (ha:PA X (e::es) t) (hdb:(x==("__debug__":Str))=false:=by decide) (he:tK (e::es) X.env=(false,eval e X.env)::tK es X.env:=by rfl) (hpl:(backTo pos (tK es X.env)).any (·.1)=false:=by rfl):
  PE X (.Call (.Name x p) (e::es) [] pos) (zlk C sp dvs E t):=by
 intro pins s σ H Q I h;refine wpAny_Call_Name_kw (zfy I hg hm ?_ hdb);refine callWith_K (h₀:=X.base) I.ok.mod.kin M.kp (thn (ha pos pins s σ H _ I h) fun us s1 ⟨vs,H1,I1,r,q⟩=>⟨I1.kIn,?_⟩) he hpl;exact zjI M F hr hb hd hx I1 r q
end
section
variable{X:Cx}{CX:CXT}{k:Nat}{f C:jC}{fd:tU}{ps ks:List Str}{sp:Sp}{E:XK}{x m:Str}{p pos apos kpos:Pos}{e o:jE}{es:List jE}{kws:List jK}{te ta:TE}{t tk:TA}{nm:Option Str}
variable{g:List jA->List jA->List jA}{gV:List V->List V->List V}
end
structure FnScope(N P:List Str)(sc:jJ):Prop where
 kind:sc.kind=.function
 co:sc.isCoroutine=false
 gen:sc.isGenerator=false
 nd:N.Nodup
 pre:N.take P.length=P
 par:∀x∈P,sc.names.lookup x=some .local\/sc.names.lookup x=some .cell
 nofree:∀y∈sc.names,y.2≠.free
theorem mkSc{N P:List Str}{sc:jJ}(a:sc.kind=.function)(h:((sc.isCoroutine=false/\sc.isGenerator=false)/\N.Nodup/\N.take P.length=P)/\(∀x∈P,sc.names.lookup x=some .local\/sc.names.lookup x=some .cell)/\∀y∈sc.names,y.2≠.free):FnScope N P sc:=⟨a,h.1.1.1,h.1.1.2,h.1.2.1,h.1.2.2,h.2.1,h.2.2⟩
theorem zeH{kindOf:Str->Option NameKind}{x:Str}:∀{binds:List (Str×jA)}{m:Str->Option jA},(∀v,(x,v) ∉ binds)->bindL kindOf binds m x=m x
 |[],_,_=>rfl
 |(n,v)::r,m,h=>by
  unfold bindL;rw[zeH fun w hw=>h w (yL _ hw)]
  split
  ·have:x≠n:=by rintro rfl;exact h v yS
   simp[this]
  ·rfl
theorem zeI{kindOf:Str->Option NameKind}{x:Str}:∀{binds:List (Str×jA)}{m:Str->Option jA},(∀v,(x,v) ∉ binds)->bindC kindOf binds m x=m x
 |[],_,_=>rfl
 |(n,v)::r,m,h=>by
  unfold bindC;rw[zeI fun w hw=>h w (yL _ hw)]
  split
  ·rfl
  ·have:x≠n:=by rintro rfl;exact h v yS
   simp[this]
theorem zeJ{kindOf:Str->Option NameKind}{x:Str}{v:jA}:∀{P:List Str}{vs:List jA}{i:Nat}{m:Str->Option jA},P.Nodup->P[i]?=some x->vs[i]?=some v->kindOf x=some .local->
  bindL kindOf (P.zip vs) m x=some v
 |[],_,_,_,_,h,_,_=>by simp at h
 |_::_,[],_,_,_,_,h,_=>by simp at h
 |p::P,w::vs,0,m,nd,h1,h2,hk=>by
  simp at h1 h2;subst h1;subst h2;show bindL kindOf ((p,w)::P.zip vs) m p=_;unfold bindL;rw[zeH fun v hv=>(vI.mp nd).1 (uC hv).1,if_pos hk];simp
 |p::P,w::vs,i+1,m,nd,h1,h2,hk=>by
  show bindL kindOf ((p,w)::P.zip vs) m x=_;unfold bindL;exact zeJ (i:=i) (vI.mp nd).2 (by simpa using h1) (by simpa using h2) hk
theorem zeK{kindOf:Str->Option NameKind}{x:Str}{v:jA}:∀{P:List Str}{vs:List jA}{i:Nat}{m:Str->Option jA},P.Nodup->P[i]?=some x->vs[i]?=some v->kindOf x≠some .local->
  bindC kindOf (P.zip vs) m x=some v
 |[],_,_,_,_,h,_,_=>by simp at h
 |_::_,[],_,_,_,_,h,_=>by simp at h
 |p::P,w::vs,0,m,nd,h1,h2,hk=>by
  simp at h1 h2;subst h1;subst h2;show bindC kindOf ((p,w)::P.zip vs) m p=_;unfold bindC;rw[zeI fun v hv=>(vI.mp nd).1 (uC hv).1,if_neg hk];simp
 |p::P,w::vs,i+1,m,nd,h1,h2,hk=>by
  show bindC kindOf ((p,w)::P.zip vs) m x=_;unfold bindC;exact zeK (i:=i) (vI.mp nd).2 (by simpa using h1) (by simpa using h2) hk
noncomputable def start(N:List Str)(vs:List V):St:=vs.map some++yH (N.length-vs.length) none
noncomputable def cxOf(CX:CXT)(P:jG)(w:jH)(K:tT)(mg:Str->Option jA)(base:jD)(N:List Str)(qual:Str)(scope:jJ)(f:jC)(cd:jA)(A:jI)(outer:List Env)(s:jB)(H:Hp)(E:XK):Cx where
 prog:=P
 w:=w
 K:=K
 mg:=mg
 base:=base
 A:=A.deeper (envOfC qual scope s.heap.objs.size f cd)
 N:=N
 s₀:=s
 H₀:=H
 env:=envOfC qual scope s.heap.objs.size f cd
 outer:=outer
 stack:=envOfC qual scope s.heap.objs.size f cd::outer
 ex:=[]
 calm:=true
 fn:=fun _=>true
 pn:=[]
 xe:=fun e s'=>wpAny (model P w) (A.deeper (envOfC qual scope s.heap.objs.size f cd)) (leaving (envOfC qual scope s.heap.objs.size f cd) e) (fun _ s''=>CX outer H s E e s'') (fun e' s''=>CX outer H s E e' s'') s'
theorem zgq{sc:jJ}{n:Nat}{x:Str}(h:sc.names.lookup x=some .cell):∃c,(cellsFrom n sc.names []).lookup x=some c:=by
 have q:=PySem.W.cellsFrom_some sc.names n [] (.inl h);exact wX.mp q
theorem zhS{CX:CXT}{P:jG}{w:jH}{K:tT}{mg:Str->Option jA}{base:jD}{N ps:List Str}{qual:Str}{scope:jJ}{f:jC}{cd:jA}{A:jI}{outer:List Env}{s s1:jB}{H:Hp}{E:XK}{us:List jA}{vs:List V}
  (S:FnScope N ps scope) (hd:A.handled=none) (e0:Env0 P w K mg base A outer s H) (hl:vs.length=ps.length) (r:Vals vs us)
  (x:InCallC s s.heap.objs.size (bindL (envOfC qual scope s.heap.objs.size f cd).kindOf (ps.zip us) fun _=>none) (cellsFrom (s.heap.objs.size+1) scope.names []) (bindC (envOfC qual scope s.heap.objs.size f cd).kindOf (ps.zip us) fun _=>none) s1):
  Inv (cxOf CX P w K mg base N qual scope f cd A outer s H E) [] (start N vs) H s1:=by
 have hpl:ps.length<=N.length:=by have:=congrArg List.length S.pre;rw[xA] at this;lia
 obtain⟨h1,tk,rfl,hk⟩:=x.done;have noA:∀b:jC,b ∉ (cxOf CX P w K mg base N qual scope f cd A outer s H E).ex:=fun b z=>absurd (show b∈([]:List jC) from z) (by simp);refine⟨⟨e0.mod,S.kind,rfl,rfl,yG _,fun y z c h1 h2=>?_,fun y hy=>?_,fun y c _ h=>?_,fun _=>hd,Around.frames_deeper e0.frames,.inr ⟨rfl,rfl⟩,fun b z=>absurd z (noA b),e0.bs,e0.bsz,fun b _ _=>noA b,fun b z=>absurd z (noA b),e0.funs,e0.frf⟩,
  rfl,e0.bare,Un.kept hk,⟨_,x.toInCall.ns,fun i y v h1 h2 h3=>?_⟩,fun y c h=>⟨_,x.cell y c h⟩,e0.hok.fresh (yG _),fun y c h=>?_,fun p hp=>absurd (show p∈([]:List (jC×Obj)) from hp) (by simp),e0.hok.kept hk,?_⟩
 ·exact name_of_addr x.apart (PySem.mem_of_lookup h1) (PySem.mem_of_lookup h2)
 ·have hy:scope.names.lookup y=some .cell\/scope.names.lookup y=some .free:=hy
  rcases hy with hy|hy
  ·exact zgq hy
  ·exact absurd rfl (S.nofree _ (PySem.mem_of_lookup hy))
 ·exact vC (x.above y c (PySem.mem_of_lookup h))
 ·have hi:i<vs.length:=by
   unfold start at h2
   by_cases hi:i<vs.length
   ·exact hi
   ·rw[yR (by simpa using hi)] at h2
    rw[vB] at h2
    split at h2<;>cases h2
  have ha:vs[i]?=some v:=by
   unfold start at h2;rw[yN (by simpa using hi),yE] at h2;cases e:vs[i]? with
   |none=>rw[e] at h2;cases h2
   |some a=>rw[e] at h2;cases h2;rfl
  obtain⟨u,hu,rv⟩:=r.get ha;have hp:ps[i]?=some y:=by
   rw[←S.pre,xR (by lia)];exact h1
  have ndP:ps.Nodup:=by rw[←S.pre];exact S.nd.sublist (List.take_sublist _ _)
  refine⟨u,rv,?_⟩;rcases S.par y (yK hp) with k|k
  ·exact .inl ⟨k,zeJ ndP hp hu k⟩
  ·obtain⟨c,e⟩:=zgq (n:=s.heap.objs.size+1) k
   refine .inr ⟨.inl k,c,e,?_⟩;have q:=x.cell y c e;rw[zeK ndP hp hu (by show scope.names.lookup y≠_;rw[k];decide)] at q;exact q
 ·exact e0.hok.fresh (vC (x.above y c (PySem.mem_of_lookup h)))
 ·unfold start
  show _=N.length;rw[yD,yB,xP];lia
theorem znD{CX:CXT}{P:jG}{w:jH}{K:tT}{mg:Str->Option jA}{base:jD}{k:Nat}{f:jC}{name qual:Str}{params:Arguments}{body:List jF}{scope:jJ}{dV kV doc pm cdv ct oc:jA}{an od:Option jC}
  {osl:Array (Option jA)}{N ps:List Str}{sp:Sp} (lk:K.lookup f=some ⟨oc,od,.func (fnOf name qual params body scope dV kV doc pm an cdv ct),osl⟩) (hcd:codeIn K cdv qual=true) (S:FnScope N ps scope)
  (len:∀vs H Q E,sp vs H Q E->vs.length=ps.length)
  (hbody:∀(A:jI)(outer:List Env)(s:jB)(H:Hp)(vs:List V)(Q:VK)(E:XK),Room k (A.deeper (envOfC qual scope s.heap.objs.size f cdv))->sp vs H Q E->
   ∃t,PSs (cxOf CX P w K mg base N qual scope f cdv A outer s H E) body t/\t {nx:=fun _ H'=>Q .non H',rt:=Q} (start N vs) H):
  FnOk P w K mg base CX (k+1) f (fnOf name qual params body scope dV kV doc pm an cdv ct) ps sp:=by
 refine⟨len,fun A outer s H args us vs Q E hr e0 hb r hsp=>?_⟩;have hl:=len _ _ _ _ hsp;have KX:K.In s.heap:=e0.mod.kin.keeps fun b o e=>(e0.bs b o e).1;have lim:s.heap.NoLimit:=e0.mod.nolimit.keeps fun b o e=>(e0.bs b o e).1;have hkind:∀y∈ps.zip us,scope.names.lookup y.1=some .local\/(scope.names.lookup y.1=some .cell/\((cellsFrom (s.heap.objs.size+1) scope.names []).lookup y.1).isSome=true):=fun ⟨n,v⟩ hy=>by
  rcases S.par n (uC hy).1 with q|q
  ·exact .inl q
  ·exact .inr ⟨q,PySem.W.cellsFrom_some _ _ _ (.inl q)⟩
 refine codeAny_call_function hr.depth (KX _ _ lk) rfl S.co S.gen rfl (PySem.W.codeRec_of KX hcd) (hb _ _ _ _ ?_);refine wpAny_newFunctionEnv_cells S.kind hkind fun env he s1 x=>?_;subst he;refine⟨lim.keeps x.toInCall.keep,codeAny_func ?_⟩;obtain⟨t,ht,hq⟩:=hbody A outer s H vs Q E (hr.deeper _) hsp;have I:Inv (cxOf CX P w K mg base N qual scope f cdv A outer s H E) [] (start N vs) H s1:=zhS S hr.hd e0 hl r x;refine wpAny_mono (ht [] s1 (start N vs) H _ I hq) (fun fl s' hs=>?_) fun e s' hs=>hs;have fin:∀{σ':St}{H':Hp}{v:V}{u:jA},Inv (cxOf CX P w K mg base N qual scope f cdv A outer s H E) [] σ' H' s'->RelV v u->Q v H'->CE outer P w H s Q u s':=
  fun {σ' H' v u} J rv q=>⟨v,H',J.os,J.bare,J.base,J.hok,rv,q⟩
 cases fl with
 |ret u=>
  obtain⟨v,σ',H',J,rv,q⟩:=hs;exact fin J rv q
 |next=>
  obtain⟨σ',H',J,q⟩:=hs;exact fin (v:=V.non) (u:=Value.none) J rfl q
 |brk=>
  obtain⟨_,_,_,q⟩:=hs;exact False.elim q
 |cont=>
  obtain⟨_,_,_,q⟩:=hs;exact False.elim q
section
variable{X:Cx}{x:Str}{p pos:Pos}{e:jE}{es:List jE}{t:TA}{id T:String}{r:List V->Hp->VK->Prop}
def tCB(r:List V->Hp->VK->Prop)(t:TA):TE:=fun σ H Q=>t σ H fun vs H1=>r vs H1 Q
theorem zw(hc:zas X (.builtin id) r)(hg:Gl X x)(hm:X.mg x=none)(hv:tL x=some (.builtin id))(ha:PA X (e::es) t)(hn:x≠"__name__":=by decide)(hdb:(x==("__debug__":Str))=false:=by decide)
  (he:tK (e::es) X.env=(false,eval e X.env)::tK es X.env:=by rfl) (hpl:(backTo pos (tK es X.env)).any (·.1)=false:=by rfl):PE X (.Call (.Name x p) (e::es) [] pos) (tCB r t):=by
 intro pins s σ H Q I h;refine wpAny_Call_Name_kw (za4 I hg hm hv ?_ hn hdb);exact PyProof.Rows.callWith_builtin1 (thn (ha pos pins s σ H _ I h) fun us s1 ⟨vs,H1,I1,r1,q1⟩=>hc pins s1 σ H1 vs us Q I1 r1 q1) he hpl
theorem zI(hc:zas X (.type T) r)(hg:Gl X x)(hm:X.mg x=none)(hv:tL x=some (.type T))(ha:PA X (e::es) t)(hn:x≠"__name__":=by decide)(hdb:(x==("__debug__":Str))=false:=by decide)
  (he:tK (e::es) X.env=(false,eval e X.env)::tK es X.env:=by rfl) (hpl:(backTo pos (tK es X.env)).any (·.1)=false:=by rfl):PE X (.Call (.Name x p) (e::es) [] pos) (tCB r t):=by
 intro pins s σ H Q I h;refine wpAny_Call_Name_kw (za4 I hg hm hv ?_ hn hdb);exact PyProof.Rows.callWith_type1 (thn (ha pos pins s σ H _ I h) fun us s1 ⟨vs,H1,I1,r1,q1⟩=>hc pins s1 σ H1 vs us Q I1 r1 q1) he hpl
end
section
variable{κ:Type}[DecidableEq κ]
noncomputable def valV(kvs:List (κ×V))(k:κ):Option V:=(kvs.find? fun kv=>decide (kv.1=k)).map (·.2)
noncomputable def putK(kvs:List (κ×V))(k:κ)(v:V):List (κ×V):=
 if (kvs.any fun kv=>decide (kv.1=k))=true then kvs.map (fun kv=>if kv.1=k then (kv.1,v) else kv) else kvs++[(k,v)]
theorem ZJ{p:κ×V}{r:List (κ×V)}{k:κ}(e:p.1=k):valV (p::r) k=some p.2:=by simp[valV,wL,e]
theorem ZK{p:κ×V}{r:List (κ×V)}{k:κ}(e:¬p.1=k):valV (p::r) k=valV r k:=by simp[valV,wL,e]
theorem zch(k:κ):∀kvs:List (κ×V),(kvs.any fun kv=>decide (kv.1=k))=(valV kvs k).isSome
 |[]=>rfl
 |p::r=>by
  rw[vH]
  by_cases e:p.1=k
  ·simp only[ZJ e,decide_eq_true e,Bool.true_or,Option.isSome_some]
  ·rw[ZK e,decide_eq_false e,Bool.false_or];exact zch k r
theorem zgr(k j:κ)(y:V):∀kvs:List (κ×V),valV (kvs.map fun kv=>if kv.1=k then (kv.1,y) else kv) j=(valV kvs j).map fun x=>if j=k then y else x
 |[]=>rfl
 |p::r=>by
  have ih:=zgr k j y r;rw[yW]
  by_cases h:p.1=k
  ·rw[if_pos h]
   by_cases e:p.1=j
   ·rw[ZJ (p:=(p.1,y)) e,ZJ e,wE,if_pos (e.symm.trans h)]
   ·rw[ZK (p:=(p.1,y)) e,ZK e,ih]
  ·rw[if_neg h]
   by_cases e:p.1=j
   ·rw[ZJ (p:=p) e,ZJ e,wE,if_neg (fun z=>h (e.trans z))]
   ·rw[ZK (p:=p) e,ZK e,ih]
theorem zeL(k j:κ)(y:V):∀kvs:List (κ×V),valV kvs k=none->valV (kvs++[(k,y)]) j=if j=k then some y else valV kvs j
 |[],_=>by
  by_cases e:k=j
  ·rw[if_pos e.symm];exact ZJ (p:=(k,y)) e
  ·rw[if_neg (fun z=>e z.symm)];exact ZK (p:=(k,y)) e
 |p::r,hn=>by
  rw[xJ];have hk:¬p.1=k:=fun z=>by rw[ZJ z] at hn;cases hn
  rw[ZK hk] at hn;have ih:=zeL k j y r hn
  by_cases e:p.1=j
  ·rw[ZJ e,ZJ e,if_neg (fun z=>hk (e.trans z))]
  ·rw[ZK e,ZK e,ih]
theorem zjJ(kvs:List (κ×V))(k j:κ)(y:V):valV (putK kvs k y) j=if j=k then some y else valV kvs j:=by
 unfold putK
 by_cases a:(kvs.any fun kv=>decide (kv.1=k))=true
 ·rw[if_pos a,zgr]
  rw[zch] at a
  by_cases e:j=k
  ·obtain⟨x,hx⟩:=wX.mp a
   rw[if_pos e,e,hx,wE,if_pos rfl]
  ·rw[if_neg e]
   cases valV kvs j with
   |none=>rfl
   |some x=>rw[wE,if_neg e]
 ·rw[if_neg a]
  refine zeL k j y kvs ?_;rw[zch] at a;cases q:valV kvs k with
  |none=>rfl
  |some x=>rw[q] at a;exact (a rfl).elim
theorem zaC(kvs:List (κ×V))(k:κ)(v:V):(putK kvs k v).length<=kvs.length+1:=by
 unfold putK
 split
 ·rw[yB];lia
 ·rw[yD,yQ,wM];lia
theorem RelO.isSome_eq{o:Option V}{u:Option jA}(r:RelO o u):o.isSome=u.isSome:=by
 cases o with
 |none=>cases u with
  |none=>rfl
  |some _=>exact (show False from r).elim
 |some _=>cases u with
  |none=>exact (show False from r).elim
  |some _=>rfl
theorem RelO.getD{o:Option V}{u:Option jA}{d:V}{d':jA}(r:RelO o u)(rd:RelV d d'):RelV (o.getD d) (u.getD d'):=by
 cases o with
 |none=>cases u with
  |none=>exact rd
  |some _=>exact (show False from r).elim
 |some _=>cases u with
  |none=>exact (show False from r).elim
  |some _=>exact r
theorem KV.val{kvs:List (κ×V)}{vs:List (κ×jA)}(r:KV kvs vs)(k:κ):RelO (valV kvs k) (valueAt vs k):=by
 unfold KV at r
 induction r with
 |nil=>exact True.intro
 | @cons p q ps qs h t ih=>
  obtain⟨h1,h2⟩:=h
  by_cases e:p.1=k
  ·have e':q.1=k:=h1.symm.trans e
   have b:valueAt (q::qs) k=some q.2:=by simp[valueAt,wL,e']
   rw[ZJ e,b];exact h2
  ·have e':¬q.1=k:=fun z=>e (h1.trans z)
   have b:valueAt (q::qs) k=valueAt qs k:=by simp[valueAt,wL,e']
   rw[ZK e,b];exact ih
theorem KV.any{kvs:List (κ×V)}{vs:List (κ×jA)}(r:KV kvs vs)(k:κ):(kvs.any fun kv=>decide (kv.1=k))=vs.any fun kv=>decide (kv.1=k):=by
 unfold KV at r
 induction r with
 |nil=>rfl
 |cons h t ih=>rw[vH,vH,ih,h.1]
theorem KV.repl{kvs:List (κ×V)}{vs:List (κ×jA)}(r:KV kvs vs)(k:κ){y:V}{u:jA}(ry:RelV y u):
  KV (kvs.map fun kv=>if kv.1=k then (kv.1,y) else kv) (vs.map fun kv=>if kv.1=k then (kv.1,u) else kv):=by
 unfold KV at r ⊢
 induction r with
 |nil=>exact .nil
 | @cons p q ps qs h t ih=>
  rw[yW,yW];refine .cons ?_ ih;obtain⟨h1,h2⟩:=h
  by_cases e:p.1=k
  ·rw[if_pos e,if_pos (h1.symm.trans e)];exact⟨h1,ry⟩
  ·rw[if_neg e,if_neg (fun z=>e (h1.trans z))];exact⟨h1,h2⟩
theorem KV.put{kvs:List (κ×V)}{vs:List (κ×jA)}(r:KV kvs vs)(k:κ){y:V}{u:jA}(ry:RelV y u):KV (putK kvs k y) (stored vs k u):=by
 unfold putK stored;rw[r.any k]
 by_cases e:(vs.any fun kv=>decide (kv.1=k))=true
 ·rw[if_pos e,if_pos e];exact r.repl k ry
 ·rw[if_neg e,if_neg e];exact Paired.snoc r ⟨rfl,ry⟩
theorem KV.length{kvs:List (κ×V)}{vs:List (κ×jA)}(r:KV kvs vs):kvs.length=vs.length:=Paired.length r
end
theorem zfC{P:jG}{w:jH}{k:Key}{u:jA}(r:RelV (kV k) u):(Zs P w).is k u=true:=by
 cases k with
 |inl i=>obtain⟨t,e⟩:=(show ∃t,u=Value.int i t from r);subst e;exact zfx P w i t
 |inr x=>obtain⟨t,e⟩:=(show ∃t,u=Value.str x t from r);subst e;exact zbd P w x t
theorem zeM{P:jG}{w:jH}:∀{ks:List Key}{us:List jA},Vals (ks.map kV) us->ItemsAre (Zs P w) ks us
 |[],_,r=>by rw[wT] at r;cases r;exact .nil
 |k::ks,_,r=>by
  rw[yW] at r;cases r with
  |cons h t=>exact .cons (zfC h) (zeM t)
abbrev KT(H:Hp):List (List Key×V)->List (List Key×jC×jA)->Prop:=Paired fun p q=>p.1=q.1/\H q.2.1=some (.tup (p.1.map kV))/\RelV p.2 q.2.2
theorem KT.val{H:Hp}{kvs:List (List Key×V)}{xs:List (List Key×jC×jA)}(r:KT H kvs xs)(k:List Key):RelO (valV kvs k) ((atKey xs k).map (·.2)):=by
 induction r with
 |nil=>exact True.intro
 | @cons p q ps qs h t ih=>
  obtain⟨h1,_,h2⟩:=h
  by_cases e:p.1=k
  ·have e':q.1=k:=h1.symm.trans e
   have b:atKey (q::qs) k=some q.2:=by simp[atKey,wL,e']
   rw[ZJ e,b];exact h2
  ·have e':¬q.1=k:=fun z=>e (h1.trans z)
   have b:atKey (q::qs) k=atKey qs k:=by simp[atKey,wL,e']
   rw[ZK e,b];exact ih
theorem KT.repl{H:Hp}{kvs:List (List Key×V)}{xs:List (List Key×jC×jA)}(r:KT H kvs xs)(k:List Key){y:V}{u:jA}(ry:RelV y u):
  KT H (kvs.map fun kv=>if kv.1=k then (kv.1,y) else kv) (xs.map (putAt k u)):=by
 induction r with
 |nil=>exact .nil
 | @cons p q ps qs h t ih=>
  rw[yW,yW];refine .cons ?_ ih;obtain⟨h1,h2,h3⟩:=h;unfold putAt
  by_cases e:p.1=k
  ·rw[if_pos e,if_pos (h1.symm.trans e)];exact⟨h1,h2,ry⟩
  ·rw[if_neg e,if_neg (fun z=>e (h1.trans z))];exact⟨h1,h2,h3⟩
theorem KT.put{H:Hp}{kvs:List (List Key×V)}{xs:List (List Key×jC×jA)}(r:KT H kvs xs)(k:List Key){b:jC}{y:V}{u:jA}(hb:H b=some (.tup (k.map kV)))(ry:RelV y u):
  KT H (putK kvs k y) (storedH xs k b u):=by
 have e:(kvs.any fun kv=>decide (kv.1=k))=(atKey xs k).isSome:=by
  rw[zch,(r.val k).isSome_eq,Option.isSome_map]
 unfold putK storedH;rw[e]
 by_cases q:(atKey xs k).isSome=true
 ·rw[if_pos q,if_pos q];exact r.repl k ry
 ·rw[if_neg q,if_neg q];exact Paired.snoc r ⟨rfl,hb,ry⟩
theorem KT.keeps{H H':Hp}{kvs:List (List Key×V)}{xs:List (List Key×jC×jA)}(r:KT H kvs xs)(ht:∀b ys,H b=some (.tup ys)->H' b=some (.tup ys)):KT H' kvs xs:=
 Paired.mapP r fun _ _ z=>⟨z.1,ht _ _ z.2.1,z.2.2⟩
section
variable{P:jG}{w:jH}{H:Hp}{h:jD}{a:jC}
theorem zmD{u:HO}(ok:HOk P w H h)(e:Rd H a u):Zu P w H h a u:=e.ok ok
theorem zjK{kvs:List (Key×V)}(ok:HOk P w H h)(e:Rd H a (.dK kvs)):kvs.length<=tI/\(a==sysModules)=false/\∃vs,KV kvs vs/\h.DictOf (Zs P w) a vs:=
 show Zu P w H h a (.dK kvs) from zmD ok e
theorem znE{kvs:List (Key×V)}(ok:HOk P w H h)(e:H a=some (.dK kvs)):kvs.length<=tI/\(a==sysModules)=false/\∃vs,KV kvs vs/\h.DictOf (Zs P w) a vs:=zjK ok (.inl e)
theorem zhT{ks:List Key}(ok:HOk P w H h)(e:H a=some (.tup (ks.map kV))):(tupleKind (Zs P w)).is h ks a:=by
 obtain⟨_,its,r,o,h1,h2,n,h3⟩:=(show Zu P w H h a (.tup (ks.map kV)) from ok a _ e);exact⟨o,its.toArray,n,h1,h2,h3,by simpa using zeM r⟩
theorem zlo{kvs:List (List Key×V)}(ok:HOk P w H h)(e:Rd H a (.dT kvs)):kvs.length<=tI/\(a==sysModules)=false /\
  ∃xs,KT H kvs xs/\h.DictOfH (tupleKind (Zs P w)) a xs:=by
 obtain⟨z,y,xs,r,o,es,ep,h1,h2,h3,h4,h5⟩:=(show Zu P w H h a (.dT kvs) from zmD ok e);refine⟨z,y,xs,r,o,es,ep,h1,h2,h3,h4,fun x hx=>?_,h5⟩;have all:∀{l:List (List Key×V)}{m:List (List Key×jC×jA)},KT H l m->∀x∈m,(tupleKind (Zs P w)).is h x.1 x.2.1:=by
  intro l m q
  induction q with
  |nil=>intro x hx;exact nomatch hx
  | @cons p q ps qs hq t ih=>
   intro x hx;rcases yV.mp hx with e|hx
   ·subst e
    exact zhT ok (by rw[←hq.1];exact hq.2.1)
   ·exact ih x hx
 exact all r x hx
theorem znF{kvs:List (List Key×V)}(ok:HOk P w H h)(e:H a=some (.dT kvs)):kvs.length<=tI/\(a==sysModules)=false /\
  ∃xs,KT H kvs xs/\h.DictOfH (tupleKind (Zs P w)) a xs:=zlo ok (.inl e)
end
def DGet(H:Hp)(a:jC)(y:V)(r:Option V):Prop:=
 (∃kvs k,Rd H a (.dK kvs)/\y=kV k/\r=valV kvs k)\/∃kvs k b,Rd H a (.dT kvs)/\y=.ref b/\H b=some (.tup (k.map kV))/\r=valV kvs k
def DPut(H:Hp)(a:jC)(y v:V)(H':Hp):Prop:=
 (∃kvs k,H a=some (.dK kvs)/\y=kV k/\kvs.length<tI/\H'=upd H a (.dK (putK kvs k v))) \/
 ∃kvs k b,H a=some (.dT kvs)/\y=.ref b/\H b=some (.tup (k.map kV))/\kvs.length<tI/\H'=upd H a (.dT (putK kvs k v))
theorem DGet.k{H:Hp}{a:jC}{kvs:List (Key×V)}{k:Key}(e:H a=some (.dK kvs)):DGet H a (kV k) (valV kvs k):=.inl ⟨kvs,k,.inl e,rfl,rfl⟩
theorem DPut.k{H:Hp}{a:jC}{kvs:List (Key×V)}{k:Key}{v:V}(e:H a=some (.dK kvs))(hl:kvs.length<tI):DPut H a (kV k) v (upd H a (.dK (putK kvs k v))):=.inl ⟨kvs,k,e,rfl,hl,rfl⟩
section
variable{X:Cx}{pins:List (jC×Obj)}{σ:St}{H:Hp}{s:jB}{a:jC}{y v:V}{u r:jA}{o:Option V}{A:jI}{E:jA->jB->Prop}
theorem Inv.big(I:Inv X pins σ H s):sysModules<s.heap.objs.size:=by
 have h:tH<s.heap.objs.size:=(I.mod.glob.keeps I.bk).lt;exact Nat.lt_trans (by decide) h
theorem zhU{Q:jA->jB->Prop}(hu:A.units+1<cLine)(I:Inv X pins σ H s)(g:DGet H a y (some v))(ry:RelV y u)(h:∀w' s',Inv X pins σ H s'->RelV v w'->Q w' s'):
  wpAny (model X.prog X.w) A (getItem (.ref a) u) Q E s:=by
 rcases g with⟨kvs,k,e,ey,l⟩|⟨kvs,k,b,e,ey,eb,l⟩
 ·subst ey
  obtain⟨z,hd,vs,rel,dd⟩:=zjK I.hok e;obtain⟨w',hw,rw'⟩:=RelO.some_of (v:=v) (o:=valueAt vs k) (by rw[l];exact rel.val k);exact wpAny_getItem_of (zfC ry) dd.mapOf hw (h w' _ (I.tok _) rw')
 ·subst ey
  cases (show u=Value.ref b from ry);obtain⟨z,hd,xs,rel,dd⟩:=zlo I.hok e;obtain⟨w',hw,rw'⟩:=RelO.some_of (v:=v) (o:=(atKey xs k).map (·.2)) (by rw[l];exact rel.val k);obtain⟨p,hp,hp2⟩:=yP.mp hw;refine wpAny_getItem_heap (tupleKind_room_in1 hu) (zhT I.hok eb) dd hp ?_;rw[hp2];exact h w' _ (I.tok _) rw'
theorem zhV{h':jD}{t':Nat}{ob:HO}(I:Inv X pins σ H s)(mu:Mut (H a))(hs:Heap.SameBut a s.heap h')(he:∃q,h'.get? a=some q)(new:Zu X.prog X.w (upd H a ob) h' a ob):
  Inv X pins σ (upd H a ob) {s with heap:=h',toks:=t'}:=
 I.write (x:=a) (e:=a) mu (.inl rfl) (fun b q hb z=>(hs.2 b hb).trans z) he new
theorem zkJ{P:jG}{w:jH}{H':Hp}{h':jD}{kvs:List (Key×V)}{vs:List (Key×jA)}(z:kvs.length<=tI)(hd:(a==sysModules)=false)(rel:KV kvs vs)(dd:h'.DictOf (Zs P w) a vs):
  Zu P w H' h' a (.dK kvs):=⟨z,hd,vs,rel,dd⟩
theorem zhW{H':Hp}{Q:Unit->jB->Prop}(hu:A.units+1<cLine)(I:Inv X pins σ H s)(g:DPut H a y v H')(ry:RelV y u)(rv:RelV v r)(h:∀s',Inv X pins σ H' s'->Q () s'):
  wpAny (model X.prog X.w) A (setItem (.ref a) u r) Q E s:=by
 rcases g with⟨kvs,k,e,ey,l,eH⟩|⟨kvs,k,b,e,ey,eb,l,eH⟩
 ·subst ey eH
  obtain⟨z,hd,vs,rel,dd⟩:=znE I.hok e;have hz:vs.length<=tI:=by rw[←rel.length];exact z
  have hl:(putK kvs k v).length<=tI:=by have:=zaC kvs k v;lia
  refine wpAny_setItem_pairs (hsz:=hz) (zfC ry) dd fun h' dd' hs=>h _ ?_;have he:∃q,h'.get? a=some q:=let ⟨q,_,_,hq,_⟩:=dd';⟨q,hq⟩;exact zhV I (by rw[e];exact True.intro) hs he (zkJ hl hd (rel.put k rv) dd')
 ·subst ey eH
  cases (show u=Value.ref b from ry);obtain⟨z,hd,xs,rel,dd⟩:=znF I.hok e;have hz:xs.length<=tI:=by rw[←Paired.length rel];exact z
  have hl:(putK kvs k v).length<=tI:=by have:=zaC kvs k v;lia
  refine wpAny_setItem_heap (hsz:=hz) (tupleKind_room_in1 hu) (zhT I.hok eb) dd fun h' dd' hs=>h _ ?_;obtain⟨q,es,ep,hq,h2,h3,h4,_,h5⟩:=dd';refine zhV I (by rw[e];exact True.intro) hs ⟨q,hq⟩ ⟨hl,hd,_,(rel.put k eb rv).keeps fun c ys ec=>?_,q,es,ep,hq,h2,h3,h4,h5⟩;rw[zH (zk8 ec e (fun z=>nomatch z))];exact ec
end
section
variable{X:Cx}{pins:List (jC×Obj)}{σ:St}{H:Hp}{s:jB}{a:jC}{kvs:List (Key×V)}{k:Key}{u:jA}{A:jI}{E:jA->jB->Prop}
end
def NoSl(i:jE):Prop:=∀ov iv,subscripted i false ov iv=operate [ov,iv] (getItem ov iv)
theorem zlp{prog:jG}{w:jH}{A:jI}{E:jA->jB->Prop}{s:jB}{env:Env}{value slice:jE}{pos:Pos}{T id:String}{Q:jA->jB->Prop}
  (hl:typeLookup (.type T) "__getitem__"=pure (some (.builtin id))) (hs:NoSl slice)
  (h:wpAny (model prog w) A (eval value env) (fun o s₁=>wpAny (model prog w) A (eval slice env) (fun i s₂=>s₂.TypeIs o T/\wpAny (model prog w) A (getItem o i) Q E s₂) E s₁) E s):
  wpAny (model prog w) A (eval (.Subscript value slice pos) env) Q E s:=by
 refine Subscript_ (wpAny_mono h (fun o s₁ h₁=>wpAny_mono h₁ (fun i s₂ h₂=>?_) fun _ _ x=>x) fun _ _ x=>x);obtain⟨hT,h₂⟩:=h₂;unfold subscriptTail;refine uY ?_;rw[getitemInPython_of_ne hT.not_modules];refine uY (wpAny_specialOf hT hl ?_);have fin:wpAny (model prog w) A (subscripted slice false o i) (fun r s₃=>wpAny (model prog w) A (letTemporaryGo value o r>>=fun _=>pure r) Q E s₃) E s₂:=by
  rw[hs o i];exact wpAny_operating (wpAny_mono h₂ (fun r s₃ h₃=>uY (wpAny_letTemporaryGo (uZ h₃))) fun _ _ x=>x)
 first
  |exact uZ (uY fin)
  |exact uY (uZ (uY fin))
  |exact uY fin
theorem zfD{X:Cx}{pins:List (jC×Obj)}{σ:St}{H:Hp}{s:jB}{a:jC}{y:V}{o:Option V}(I:Inv X pins σ H s)(g:DGet H a y o):s.TypeIs (.ref a) "dict":=by
 rcases g with⟨kvs,k,e,_,_⟩|⟨kvs,k,b,e,_,_,_⟩
 ·obtain⟨_,_,vs,_,dd⟩:=zjK I.hok e
  exact dd.typeIs
 ·obtain⟨_,_,xs,_,dd⟩:=zlo I.hok e
  exact dd.typeIs
inductive i_tDGet(Q:VK)(x y:V)(H2:Hp):Prop
 |mk (a v:_) (_:x=.ref a) (_:DGet H2 a y (some v)) (_:Q v H2)
def zmE(td ty:TE):TE:=fun σ H Q=>td σ H fun x H1=>ty σ H1 fun y H2=>i_tDGet Q x y H2
inductive i_sDPut(D:Ends)(σ:St)(v x y:V)(H3:Hp):Prop
 |mk (a H4:_) (_:x=.ref a) (_:DPut H3 a y v H4) (_:D.nx σ H4)
def zmF(td ty tv:TE):TS:=fun D σ H=>tv σ H fun v H1=>td σ H1 fun x H2=>ty σ H2 fun y H3=>i_sDPut D σ v x y H3
section
variable{X:Cx}{o i e value:jE}{pos pos' tpos:Pos}{td ty tv:TE}
theorem zfE(hu:X.A.units+1<cLine)(ho:PE X o td)(hi:PE X i ty)(hs:NoSl i):PE X (.Subscript o i pos) (zmE td ty):=by
 intro pins s σ H Q I h;refine zlp PySem.F.slot_dict_getitem.lookup hs (thn (ho pins s σ H _ I h) fun u s1 ⟨x,H1,I1,rx,q1⟩=>thn (hi pins s1 σ H1 _ I1 q1) fun iv s2 ⟨y,H2,I2,ry,a,v,ex,g,q2⟩=>?_);subst ex;obtain rfl:u=Value.ref a:=rx;exact⟨zfD I2 g,zhU hu I2 g ry fun w' s3 I3 rw'=>⟨v,H2,I3,rw',q2⟩⟩
theorem zfF(hu:X.A.units+1<cLine)(ho:PE X o td)(hi:PE X i ty)(hv:PE X value tv)(hs:swapsWith value (some (.Subscript o i pos')) pos.line X.env=pure false):
  PS X (.Assign [.Subscript o i pos'] value pos) (zmF td ty tv):=by
 intro pins s σ H D I h;refine wpAny_Assign_Subscript (thn (hv pins s σ H _ I h) fun r s1 ⟨v,H1,I1,rv,q1⟩=>thn (ho pins s1 σ H1 _ I1 q1) fun u s2 ⟨x,H2,I2,rx,q2⟩=>thn (hi pins s2 σ H2 _ I2 q2) fun iv s3 ⟨y,H3,I3,ry,a,H4,ex,g,q3⟩=>?_) hs;subst ex;obtain rfl:u=Value.ref a:=rx;exact zhW hu I3 g ry rv fun s4 I4=>⟨σ,H4,I4,q3⟩
end
theorem zjL{P:jG}{w:jH}{H:Hp}(h:jD)(hb:sysModules<h.objs.size):Zu P w H (h.push {cls:=.type "dict",data:=.dict #[]}) h.objs.size (.dK []):=
 ⟨yJ _,beq_eq_false_iff_ne.mpr (Ne.symm (xC hb)),[],.nil,Heap.DictOf.new h⟩
def zkK:TE:=fun _ H Q=>∀p,H p=none->Q (.ref p) (upd H p (.dK []))
section
variable{X:Cx}{pos:Pos}
theorem zdR:PE X (.Dict [] [] pos) zkK:=fun pins s σ H Q I h=>
 wpAny_Dict_empty ⟨.ref s.heap.objs.size,_,I.laid (a:=s.heap.objs.size) (o:=.dK []) (t':=s.toks) (fun _ _ q=>tD _ q) (yG _) (zjL s.heap I.big),rfl,h _ (I.hok.fresh (yG _))⟩
end
structure M2(X:Cx)(o:jE)(m:Str)(apos:Pos)(e f:jE)(cpos:Pos):Prop where
 base:attributeBase o m X.env (eval o X.env)=eval o X.env
 few:((backTo cpos (tK [e,f] X.env)).all (fun x=>!x.1)&&(backToKw cpos (keywordEach [] X.env)).all (fun x=>x.1.isSome)
  && decide (([e,f]:List jE).length+([]:List jK).length+(if ([]:List jK).isEmpty then 0 else 1)<30))=true
 line:(apos.endLine==cpos.line)=true
 trees:backTo cpos (tK [e,f] X.env)=[(false,eval e X.env),(false,eval f X.env)]
section
variable{X:Cx}{pins:List (jC×Obj)}{σ:St}{H:Hp}{s:jB}{a:jC}{y d:V}{u r:jA}{o:Option V}{A:jI}{E:jA->jB->Prop}
end
section
variable{X:Cx}{o e f:jE}{apos cpos:Pos}{td ty tx:TE}
end
section
variable{X:Cx}{pins:List (jC×Obj)}{σ:St}{H:Hp}{s:jB}{a:jC}{kvs:List (Key×V)}{A:jI}{E:jA->jB->Prop}
theorem zjM{Q:jA->jB->Prop}(I:Inv X pins σ H s)(e:Rd H a (.dK kvs))(h:∀p s',H p=none->Inv X pins σ (upd H p (.dK kvs)) s'->Q (.ref p) s'):wpAny (model X.prog X.w) A (call (.type "dict") [.ref a]) Q E s:=by
 obtain⟨z,hd,vs,rel,dd⟩:=zjK I.hok e;refine kt_call_dict hd dd (by rw[←rel.length];exact z) fun h' dd' hs=>?_;refine h _ _ (I.hok.fresh (yG _)) (I.laid (a:=s.heap.objs.size) (o:=.dK kvs) (t':=s.toks) (fun b q hq=>?_) (yG _) (zkJ z (beq_eq_false_iff_ne.mpr (Ne.symm (xC I.big))) rel dd'));exact (hs.2 b (xC (tE hq))).trans (tD _ hq)
end
section
variable{X:Cx}{pins:List (jC×Obj)}{σ:St}{H:Hp}{s:jB}{a:jC}{y:V}{u:jA}{A:jI}{E:jA->jB->Prop}
end
end L2
namespace HT
open PySem PyProof.Rows
section
open PySem.SeqAt
open PySem.AutoSeq1 (wpAny_loadPart')
open PySem.MeetsSeq PySem.MeetsSeq2 PySem.MeetsSeq3
end
section
variable{prog:jG}{w:jH}{A:jI}{E:jA->jB->Prop}{s:jB}
theorem cat_tup{t b:jC}{vs ws:List jA}{Q:jA->jB->Prop}(ht:IsTup s.heap t vs.toArray)(hb:IsTup s.heap b ws.toArray)(hv:vs≠[])
  (h1:ws=[]->Q (.ref t) s) (h2:ws≠[]->Q (.ref s.heap.objs.size) {s with heap:=s.heap.push {cls:=.type "tuple",data:=.seq (vs++ws).toArray}})
  (hsz:vs.length+ws.length<=tI):wpAny (model prog w) A (binaryOp .Add (.ref t) (.ref b)) Q E s:=by
 obtain⟨⟨cls,dd,data,sl⟩,ho,hc,n,hd⟩:=id ht;obtain⟨⟨cls2,dd2,data2,sl2⟩,ho2,hc2,n2,hd2⟩:=id hb;simp only at hc hd hc2 hd2;subst hc hd hc2 hd2;have e:vs.toArray++ws.toArray=(vs++ws).toArray:=by simp
 by_cases hw:ws=[]
 ·exact concat_meets ⟨_,ho,rfl⟩ ⟨_,ho2,rfl⟩ noFill_tuple_add seq_tuple_add PySem.F.slot_tuple_add PySem.F.entry_tuple_add (PySem.F.args_tuple_add_2 _ _)
   (tuple_addW1 t b vs.toArray ws.toArray n n2 dd dd2 sl sl2 (by simpa using hv) (by simp[hw])) ⟨ho,ho2,h1 hw⟩
 ·refine concat_meets ⟨_,ho,rfl⟩ ⟨_,ho2,rfl⟩ noFill_tuple_add seq_tuple_add PySem.F.slot_tuple_add PySem.F.entry_tuple_add (PySem.F.args_tuple_add_2 _ _)
   (tuple_addW2 t b vs.toArray ws.toArray n n2 dd dd2 sl sl2 (by simpa using hv) (by simpa using hw) (by rw[yF,yF];exact hsz)) ⟨ho,ho2,?_⟩
  rw[e];exact h2 hw
noncomputable def sIx(n d:Nat):Option Int->Nat
 |none=>d
 |some v=>if v<0 then (v+(n:Int)).toNat else min v.toNat n
theorem sIx_nat(n d k:Nat):sIx n d (some (k:Int))=min k n:=by
 show (if (k:Int)<0 then ((k:Int)+(n:Int)).toNat else min (k:Int).toNat n)=min k n;rw[if_neg (by lia),wP]
theorem zmG(n d:Nat)(hd:d<=n)(o:Option Int):sIx n d o<=n:=by
 cases o with
 |none=>exact hd
 |some v=>
  show (if v<0 then (v+(n:Int)).toNat else min v.toNat n)<=n
  by_cases hv:v<0
  ·rw[if_pos hv];lia
  ·rw[if_neg hv];exact Nat.min_le_right _ _
theorem zhX(v:Int)(n d:Nat):(if v<0 then max (v+(n:Int)) 0 else min v (n:Int))=((sIx n d (some v):Nat):Int):=by
 show (if v<0 then max (v+(n:Int)) 0 else min v (n:Int))=(((if v<0 then (v+(n:Int)).toNat else min v.toNat n):Nat):Int)
 by_cases hv:v<0
 ·simp only[if_pos hv];lia
 ·simp only[if_neg hv];lia
theorem zgZ(lo hi:Option Int)(n:Nat):Builtin.Slice.sliceAdjust lo hi 1 (n:Int)=(((sIx n 0 lo:Nat):Int),((sIx n n hi:Nat):Int)):=by
 have h1:¬((1:Int)<0):=by lia
 unfold Builtin.Slice.sliceAdjust;simp only[h1,if_false];refine Prod.ext ?_ ?_
 ·cases lo with
  |none=>rfl
  |some v=>exact zhX v n 0
 ·cases hi with
  |none=>rfl
  |some v=>exact zhX v n n
theorem zg0(i j:Nat):Builtin.Slice.slicePlaces (i:Int) (j:Int) 1=j-i:=by
 unfold Builtin.Slice.slicePlaces;have h1:(1:Int) > 0:=by lia
 simp only[h1,if_true,Int.ediv_one]
 split<;>lia
theorem zdp{v:jA}{o:Option Int}{Q:Option Int->jB->Prop}(p:IsPart v o)(h:Q o s):wpAny (model prog w) A (Builtin.Slice.slicePartIndex v) Q E s:=by
 cases p with
 |none=>exact slicePart_none h
 |int i t=>exact slicePart_int h
theorem zcb{sl:jC}{vl vu:jA}{lo hi:Option Int}{n:Nat}{Q:Int×Int×Nat->jB->Prop}(hs:s.heap.IsSliceOf sl vl vu .none)(pl:IsPart vl lo)(pu:IsPart vu hi)
  (h:Q (((sIx n 0 lo:Nat):Int),1,sIx n n hi-sIx n 0 lo) s):wpAny (model prog w) A (Builtin.Slice.sliceApplied (.ref sl) (pure (n:Int))) Q E s:=by
 obtain⟨os,hos,hcs,hds⟩:=id hs;unfold Builtin.Slice.sliceApplied Builtin.Slice.sliceFields;refine uY (uY (wpAny_field hos hds (x:=vl) rfl (uY (wpAny_field hos hds (x:=vu) rfl (uY (wpAny_field hos hds (x:=.none) rfl (uZ ?_)))))));refine uY (slicePart_none ?_);show wpAny _ _ (if ((1:Int)==0)=true then _ else _) _ _ s;rw[if_neg (by decide)];refine uY (zdp pl (uY (zdp pu (uY (uZ ?_)))));show wpAny _ _ (match Builtin.Slice.sliceAdjust lo hi 1 (n:Int) with|(lo,hi)=>pure (lo,(1:Int),Builtin.Slice.slicePlaces lo hi 1)) _ _ s;rw[zgZ lo hi n];show wpAny _ _ (pure (((sIx n 0 lo:Nat):Int),(1:Int),Builtin.Slice.slicePlaces ((sIx n 0 lo:Nat):Int) ((sIx n n hi:Nat):Int) 1)) _ _ s;rw[zg0];exact uZ h
theorem zjN(xs:Array jA)(i k:Nat):((wA k).filterMap fun (m:Nat)=>xs[((i:Int)+(m:Int)*1).toNat]?).toArray=((xs.toList.drop i).take k).toArray:=by
 have e:(fun (m:Nat)=>xs[((i:Int)+(m:Int)*1).toNat]?)=fun m=>xs[i+m]?:=by
  funext m
  have:((i:Int)+(m:Int)*1).toNat=i+m:=by lia
  rw[this]
 rw[e];have:=pick_run xs i k;rw[List.filterMap_map] at this;have e2:((fun x=>xs[x]?)∘fun x=>i+x)=fun m=>xs[i+m]?:=rfl;rw[e2] at this;rw[this]
theorem getItem_tuple_cut{t sl:jC}{items:Array jA}{vl vu:jA}{lo hi:Option Int}{Q:jA->jB->Prop}(ht:IsTup s.heap t items)(hs:s.heap.IsSliceOf sl vl vu .none)(pl:IsPart vl lo)(pu:IsPart vu hi)
  (hw:¬(sIx items.size 0 lo=0/\sIx items.size items.size hi=items.size))
  (h:Q (.ref s.heap.objs.size) {s with heap:=s.heap.push {cls:=.type "tuple",data:=.seq ((items.toList.drop (sIx items.size 0 lo)).take (sIx items.size items.size hi-sIx items.size 0 lo)).toArray}})
  (hsz:items.size<=tI):wpAny (model prog w) A (getItem (.ref t) (.ref sl)) Q E s:=by
 have htake:sizeOk (.seq ((items.toList.drop (sIx items.size 0 lo)).take (sIx items.size items.size hi-sIx items.size 0 lo)).toArray):=by
  show ((items.toList.drop (sIx items.size 0 lo)).take (sIx items.size items.size hi-sIx items.size 0 lo)).toArray.size<=tI;rw[yF,xA,vV,wV];lia
 have hj:sIx items.size items.size hi<=items.size:=zmG _ _ (yG _) hi;obtain⟨os,hos,hcs,hds⟩:=id hs;have hTs:s.TypeIs (.ref sl) "slice":=⟨os,hos,hcs⟩;unfold getItem
 try with_reducible refine wpAny_holding ?_
 first|refine uY (uZ ?_)|skip
 refine uY (wpAny_sequenceKey ht.typeIs (by decide) ?_);refine uY (wpAny_callSpecial?_slot (name:=uX "__getitem__") ht.typeIs PyProof.Rows.slot_tuple_getitem
  (wpAny_call_entry PyProof.Rows.slot_tuple_getitem ht.typeIs entry_tuple_getitem ?_ (args_tuple_getitem _ _)))
 show wpAny _ _ (Builtin.Tuple.tupleItemsOf (.ref t)>>=_) _ _ s;refine uY (tupleItemsOf_ ht ?_);refine uY (wpAny_typeOf hTs ?_);rw[if_pos (by decide)];refine uY (zcb hs pl pu ?_);have hno:¬((((sIx items.size 0 lo:Nat):Int)==0&&(1:Int)==1&&(sIx items.size items.size hi-sIx items.size 0 lo)==items.size)=true):=by
  intro q;rw[xH,xH] at q;have q1:((sIx items.size 0 lo:Nat):Int)=0:=eq_of_beq q.1.1;have q2:sIx items.size items.size hi-sIx items.size 0 lo=items.size:=eq_of_beq q.2;exact hw ⟨by lia,by lia⟩
 show wpAny _ _ (if (((sIx items.size 0 lo:Nat):Int)==0&&(1:Int)==1&&(sIx items.size items.size hi-sIx items.size 0 lo)==items.size)=true then _ else _) _ _ s;rw[if_neg hno,zjN]
 first
  |exact uY (m:=Builtin.Tuple.tupleExact _) (tJ (uZ ⟨_,rfl,uZ h⟩) htake)
  |exact uY (m:=Builtin.Tuple.tupleExact _) (tJ (uY (uZ (uZ ⟨_,rfl,uZ h⟩))) htake)
  |exact uY (uY (m:=Builtin.Tuple.tupleExact _) (tJ (uZ (uZ ⟨_,rfl,uZ h⟩)) htake))
  |exact uY (uY (m:=Builtin.Tuple.tupleExact _) (tJ (uZ ⟨_,rfl,uZ h⟩) htake))
end
end HT
namespace L2
open PySem PySem.Spec PyProof.Rows
abbrev TO:=St->Hp->(Option Int->Hp->Prop)->Prop
def PO(X:Cx)(e:Option jE)(t:TO):Prop:=
 ∀(pins:List (jC×Obj))(s:jB)(σ:St)(H:Hp)(Q:Option Int->Hp->Prop),Inv X pins σ H s->t σ H Q->
  wpAny (model X.prog X.w) X.A (evalPart e X.env) (fun u s'=>∃o H',Inv X pins σ H' s'/\IsPart u o/\Q o H') X.xe s
def zhY:TO:=fun _ H Q=>Q none H
inductive i_tPart(Q:Option Int->Hp->Prop)(x:V)(H1:Hp):Prop
 |mk (i:_) (_:x=.int i) (_:Q (some i) H1)
def zmH(t:TE):TO:=fun σ H Q=>t σ H fun x H1=>i_tPart Q x H1
section
variable{X:Cx}{e:jE}{te:TE}{lo hi:Option jE}{tl th:TO}{pos p2:Pos}
theorem ZX:PO X none zhY:=by
 intro pins s σ H Q I h;rw[evalPart_none];exact uZ ⟨none,H,I,.none,h⟩
theorem ZF(h:PE X e te):PO X (some e) (zmH te):=by
 intro pins s σ H Q I hw;rw[evalPart_some];refine thn (h pins s σ H _ I hw) fun u s1 ⟨x,H1,I1,r1,q1⟩=>?_;obtain⟨i,rfl,q⟩:=q1;obtain⟨t,rfl⟩:=r1;exact⟨some i,H1,I1,.int i t,q⟩
def SlR(X:Cx)(r:V->Option Int->Option Int->Hp->VK->Prop):Prop:=
 ∀(pins:List (jC×Obj))(s:jB)(σ:St)(H:Hp)(x:V)(v vl vu:jA)(lo hi:Option Int)(sl:jC)(Q:VK),Inv X pins σ H s->RelV x v->s.heap.IsSliceOf sl vl vu .none->IsPart vl lo->IsPart vu hi->r x lo hi H Q->
  ∃T id,typeLookup (.type T) "__getitem__"=pure (some (.builtin id))/\s.TypeIs v T/\wpAny (model X.prog X.w) X.A (getItem v (.ref sl)) (EP X pins σ Q) X.xe s
def tSl(r:V->Option Int->Option Int->Hp->VK->Prop)(te:TE)(tl th:TO):TE:=fun σ H Q=>te σ H fun x H1=>tl σ H1 fun l H2=>th σ H2 fun u H3=>r x l u H3 Q
theorem Zr{r:V->Option Int->Option Int->Hp->VK->Prop}(hr:SlR X r)(he:PE X e te)(hl:PO X lo tl)(hu:PO X hi th):PE X (.Subscript e (.Slice lo hi none p2) pos) (tSl r te tl th):=by
 intro pins s σ H Q I h;refine Subscript_ (thn (he pins s σ H _ I h) fun v s1 ⟨x,H1,I1,r1,q1⟩=>?_);refine wpAny_Slice (thn (hl pins s1 σ H1 _ I1 q1) fun vl s2 ⟨l,H2,I2,pl,q2⟩=>thn (hu pins s2 σ H2 _ I2 q2) fun vu s3 ⟨u,H3,I3,pu,q3⟩=>?_);rw[evalPart_none];refine uZ ?_;have I4:Inv X pins σ H3 {s3 with heap:=s3.heap.push {cls:=.type "slice",data:=.fields #[vl,vu,.none]}}:=I3.kept (t':=s3.toks) fun b ob q=>tD _ q;obtain⟨T,id,hT,ht,hg⟩:=hr pins {s3 with heap:=s3.heap.push {cls:=.type "slice",data:=.fields #[vl,vu,.none]}} σ H3 x v vl vu l u s3.heap.objs.size Q I4 r1 (Heap.IsSliceOf.new ..) pl pu q3;show wpAny (model X.prog X.w) X.A (subscriptTail e (.Slice lo hi none p2) v (.ref s3.heap.objs.size)) (EP X pins σ Q) X.xe {s3 with heap:=s3.heap.push {cls:=.type "slice",data:=.fields #[vl,vu,.none]}};exact tail_any (ops:=[.ref s3.heap.objs.size,v]) ht hT hg (by with_unfolding_all rfl)
noncomputable def cutV(xs:List V)(lo hi:Option Int):List V:=(xs.drop (HT.sIx xs.length 0 lo)).take (HT.sIx xs.length xs.length hi-HT.sIx xs.length 0 lo)
theorem zcy(xs:List V)(lo hi:Option Int):(cutV xs lo hi).length<=xs.length:=by
 unfold cutV;rw[xA,vV];lia
inductive rSlT(K:tT)(x:V)(lo hi:Option Int)(H:Hp)(Q:VK):Prop
 |mk (a xs:_) (_:x=.ref a/\SqT K H a xs/\¬(HT.sIx xs.length 0 lo=0/\HT.sIx xs.length xs.length hi=xs.length)/\∀p,H p=none->Q (.ref p) (upd H p (.tup (cutV xs lo hi))))
theorem zkL:SlR X (rSlT X.K):=by
 intro pins s σ H x v vl vu lo hi sl Q I rx hs pl pu h;obtain⟨a,xs,rfl,hx,hw,q⟩:=h;cases rx;obtain⟨its,r,ht,hz⟩:=I.tuple hx;have hlen:its.toArray.size=xs.length:=by rw[yF];exact r.length.symm
 refine⟨"tuple",_,PyProof.Rows.slot_tuple_getitem.lookup,ht.typeIs,?_⟩;refine HT.getItem_tuple_cut ht hs pl pu (by rw[hlen];exact hw) ?_ (by rw[hlen];exact hz);rw[hlen];refine⟨.ref s.heap.objs.size,_,I.laid (t':=s.toks) (o:=.tup (cutV xs lo hi)) (fun b ob q=>tD _ q) (yG _) ?_,rfl,q _ (I.hok.fresh (yG _))⟩;exact⟨yM (zcy xs lo hi) hz,_,(r.drop (HT.sIx xs.length 0 lo)).take (HT.sIx xs.length xs.length hi-HT.sIx xs.length 0 lo),IsTup.new _ _⟩
inductive rCatT(K:tT)(x y:V)(H:Hp)(Q:VK):Prop
 |mk (a b xs ys:_) (_:x=.ref a) (_:y=.ref b) (_:SqT K H a xs) (_:SqT K H b ys) (_:xs≠[]) (_:xs.length+ys.length<=tI) (_:(ys=[]->Q (.ref a) H)) (_:(ys≠[]->∀p,H p=none->Q (.ref p) (upd H p (.tup (xs++ys)))))
theorem Vals.nil_iff{xs:List V}{us:List jA}(r:Vals xs us):us=[] ↔ xs=[]:=by
 cases r with
 |nil=>simp
 |cons _ _=>simp
theorem zbR:OpR X (binaryOp .Add) (rCatT X.K):=by
 intro pins s σ H x y v u Q I rx ry h;obtain⟨a,b,xs,ys,rfl,rfl,ha,hb,hx,hz,q1,q2⟩:=h;cases rx;cases ry;obtain⟨its,r1,p1,_⟩:=I.tuple ha;obtain⟨its2,r2,p2,_⟩:=I.tuple hb;refine HT.cat_tup p1 p2 (fun z=>hx (r1.nil_iff.mp z)) (fun z=>⟨.ref a,H,I,rfl,q1 (r2.nil_iff.mp z)⟩) (fun z=>?_) (by rw[←r1.length,←r2.length];exact hz);refine⟨.ref s.heap.objs.size,_,I.laid (t':=s.toks) (o:=.tup (xs++ys)) (fun b ob q=>tD _ q) (yG _) ?_,rfl,q2 (fun w=>z (r2.nil_iff.mpr w)) _ (I.hok.fresh (yG _))⟩;exact⟨by rw[yD];exact hz,_,r1.append r2,IsTup.new _ _⟩
end
noncomputable def ixN(n:Nat)(i:Int):Option Nat:=if 0<=i then (if i<n then some i.toNat else none) else if -(n:Int)<=i then some (i+n).toNat else none
def atI{α:Type}(xs:List α)(i:Int):Option α:=(ixN xs.length i).bind fun j=>xs[j]?
theorem zhZ{n:Nat}{i:Int}{j:Nat}(h:ixN n i=some j):seqIndex? i n=some j/\j<n/\-(n:Int)<=i/\i<n:=by
 unfold ixN at h
 by_cases h0:0<=i
 ·rw[if_pos h0] at h
  by_cases h1:i<n
  ·rw[if_pos h1] at h
   have e:i.toNat=j:=Option.some.inj h;exact⟨by rw[seqIndex_of h0 h1,e],by lia,by lia,h1⟩
  ·rw[if_neg h1] at h;cases h
 ·rw[if_neg h0] at h
  by_cases h1:-(n:Int)<=i
  ·rw[if_pos h1] at h
   have e:(i+n).toNat=j:=Option.some.inj h;exact⟨by rw[seqIndex_neg (by lia) h1,e],by lia,h1,by lia⟩
  ·rw[if_neg h1] at h;cases h
theorem zfG{α:Type}{xs:List α}{i:Int}{v:α}(h:atI xs i=some v):∃j,seqIndex? i xs.length=some j/\xs[j]?=some v/\j<xs.length/\-(xs.length:Int)<=i/\i<xs.length:=by
 unfold atI at h;cases e:ixN xs.length i with
 |none=>rw[e] at h;cases h
 |some j=>
  rw[e] at h;obtain⟨h1,h2,h3,h4⟩:=zhZ e;exact⟨j,h1,h,h2,h3,h4⟩
theorem zu{α:Type}{xs:List α}{j:Nat}{v:α}(h:xs[j]?=some v):atI xs (j:Int)=some v:=by
 have hj:j<xs.length:=(yC.mp h).1;have e:ixN xs.length (j:Int)=some j:=by
  unfold ixN;rw[if_pos (by lia),if_pos (by lia)];simp
 unfold atI;rw[e];exact h
theorem zci{α:Type}(xs:List α)(v:α):atI (xs++[v]) (-1)=some v:=by
 have hl:(xs++[v]).length=xs.length+1:=by simp
 have e:ixN (xs++[v]).length (-1)=some xs.length:=by
  unfold ixN;rw[hl,if_neg (by decide),if_pos (by lia)]
  congr 1
  lia
 unfold atI;rw[e];show (xs++[v])[xs.length]?=some v;simp
def zh0(b:jE):Prop:=∀o i,subscripted b false o i=operate [o,i] (getItem o i)
def IxR(X:Cx)(r:R2):Prop:=
 ∀(value slice:jE)(pins:List (jC×Obj))(s:jB)(σ:St)(H:Hp)(x y:V)(v u:jA)(Q:VK),Inv X pins σ H s->RelV x v->RelV y u->r x y H Q->
  subscripted slice false v u=operate [v,u] (getItem v u)->wpAny (model X.prog X.w) X.A (subscriptTail value slice v u) (EP X pins σ Q) X.xe s
def MtR(X:Cx)(id:String)(r:V->List V->Hp->VK->Prop):Prop:=
 ∀(pins:List (jC×Obj))(s:jB)(σ:St)(H:Hp)(x:V)(xs:List V)(v:jA)(us:List jA)(Q:VK),Inv X pins σ H s->RelV x v->Vals xs us->r x xs H Q->
  wpAny (model X.prog X.w) X.A (call (.builtin id) (v::us)) (EP X pins σ Q) X.xe s
section
variable{X:Cx}{a b:jE}{ta tb:TE}{pos:Pos}
theorem zF{r:R2}(hr:IxR X r)(ha:PE X a ta)(hb:PE X b tb)(hs:zh0 b):PE X (.Subscript a b pos) (tOp r ta tb):=by
 intro pins s σ H Q I h;exact Subscript_ (binT ha hb I h fun v u s2 x y H2 I2 rx ry q=>hr a b pins s2 σ H2 x y v u Q I2 rx ry q (hs _ _))
inductive rIxL(K:tT)(x y:V)(H:Hp)(Q:VK):Prop
 |mk (p xs i v:_) (_:x=.ref p) (_:y=.int i) (_:SqL K H p xs) (_:atI xs i=some v) (_:Q v H)
inductive rIxT(K:tT)(x y:V)(H:Hp)(Q:VK):Prop
 |mk (p xs i v:_) (_:x=.ref p) (_:y=.int i) (_:SqT K H p xs) (_:atI xs i=some v) (_:Q v H)
inductive rIxS(x y:V)(H:Hp)(Q:VK):Prop
 |mk (z i c:_) (_:x=.str z) (_:y=.int i) (_:z.length<=tI) (_:atI z.cps.toList i=some c) (_:Q (.str ⟨#[c]⟩) H)
theorem zD:IxR X (rIxL X.K):=by
 intro value slice pins s σ H x y v u Q I rx ry h hs;obtain⟨p,xs,i,z,rfl,rfl,hq,he,q⟩:=h;cases rx;obtain⟨t,rfl⟩:=ry;obtain⟨its,r,pl,hz⟩:=I.list hq;obtain⟨j,h1,h2,h3,h4,h5⟩:=zfG he;obtain⟨w,ew,rw'⟩:=r.get h2;have hl:=r.length;have hn:=zeE;have fin:EP X pins σ Q w s:=⟨z,H,I,rw',q⟩
 by_cases h0:0<=i
 ·have hj:i.toNat=j:=by
   rw[seqIndex_of h0 h5] at h1;exact Option.some.inj h1
  exact item_listR pl.isList h0 (by lia) (by rw[hj];simpa using ew) fin hs
 ·have hj:(i+(its.toArray.size:Int)).toNat=j:=by
   rw[seqIndex_neg (by lia) h4] at h1;rw[yF,←hl];exact Option.some.inj h1
  exact subscriptTail_builtinR (x:=w) pl.isList.typeIs slot_list_getitem.lookup
   (wpAny_getItem_list_neg (Q:=fun r s'=>r=w/\EP X pins σ Q r s') pl.isList (by lia) (by rw[yF]<;>lia) (by lia) (by rw[hj];simpa using ew) ⟨rfl,fin⟩) hs
theorem zK:IxR X (rIxT X.K):=by
 intro value slice pins s σ H x y v u Q I rx ry h hs;obtain⟨p,xs,i,z,rfl,rfl,hq,he,q⟩:=h;cases rx;obtain⟨t,rfl⟩:=ry;obtain⟨its,r,pl,hz⟩:=I.tuple hq;obtain⟨j,h1,h2,h3,h4,h5⟩:=zfG he;obtain⟨w,ew,rw'⟩:=r.get h2;have hl:=r.length;have hn:=zeE;have fin:EP X pins σ Q w s:=⟨z,H,I,rw',q⟩;exact subscriptTail_builtinR (x:=w) pl.typeIs slot_tuple_getitem.lookup
  (getItem_tuple (j:=j) (Q:=fun r s'=>r=w/\EP X pins σ Q r s') pl (by lia) (by lia) (by rw[yF,←hl];exact h1) (by simpa using ew) ⟨rfl,fin⟩) hs
theorem zeN:IxR X rIxS:=by
 intro value slice pins s σ H x y v u Q I rx ry h hs;obtain⟨z,i,c,rfl,rfl,hz,he,q⟩:=h;obtain⟨t,rfl⟩:=rx;obtain⟨t',rfl⟩:=ry;obtain⟨j,h1,h2,h3,h4,h5⟩:=zfG he;have hl:z.cps.toList.length=z.length:=by simp[Str.length]
 rw[hl] at h1 h4 h5;have hn:=zeE;exact tail_any (typeIs_str s z t) slot_str_getitem.lookup (getItem_str (c:=c) (by
  have e1:decide (i < -(2 ^ 63:Int))=false:=decide_eq_false (by lia);have e2:decide (i ≥ 2 ^ 63)=false:=decide_eq_false (by lia);rw[e1,e2,Bool.or_false]) (by rw[h1];simpa using h2) ⟨.str ⟨#[c]⟩,H,I.tok _,⟨_,rfl⟩,q⟩) hs
theorem zg1(its:List jA)(n j:Nat)(u:jA):Obj.mapSeq (·.setIfInBounds j u) {cls:=.type "list",data:=.seq its.toArray n}={cls:=.type "list",data:=.seq (its.set j u).toArray n}:=by
 simp[Obj.mapSeq]
theorem Inv.lst{pins:List (jC×Obj)}{σ:St}{H:Hp}{s:jB}{p:jC}{xs:List V}(I:Inv X pins σ H s)(h:H p=some (.lst xs)):
  ∃(its:List jA)(n:Nat),Vals xs its/\s.heap.get? p=some {cls:=.type "list",data:=.seq its.toArray n}/\xs.length<=tI:=by
 obtain⟨z,its,n,r,e⟩:=I.hok p _ h;exact⟨its,n,r,e,z⟩
theorem Inv.lstUpd{pins:List (jC×Obj)}{σ:St}{H:Hp}{s:jB}{p:jC}{xs ys:List V}{its its':List jA}{n n':Nat}{f:Obj->Obj}(I:Inv X pins σ H s)(h:H p=some (.lst xs))
  (ho:s.heap.get? p=some {cls:=.type "list",data:=.seq its.toArray n}) (hf:f {cls:=.type "list",data:=.seq its.toArray n}={cls:=.type "list",data:=.seq its'.toArray n'}) (r:Vals ys its') (hz:ys.length<=tI) (t:Nat):
  Inv X pins σ (upd H p (.lst ys)) {s with heap:=s.heap.update p f,toks:=t}:=by
 have e:(s.heap.update p f).get? p=some {cls:=.type "list",data:=.seq its'.toArray n'}:=by
  rw[Heap.get?_update_self f ho (by rw[hf]<;>rfl),hf]
 refine I.write (x:=p) (e:=p) (by rw[h];trivial) (.inl rfl) (fun b u hb q=>(Heap.get?_update_other _ _ (Ne.symm hb)).trans q) ⟨_,e⟩ ?_;exact⟨hz,its',n',r,e⟩
inductive rSetL(o i v:V)(H:Hp)(Q:(Hp->Prop)):Prop
 |mk (p xs k j:_) (_:o=.ref p) (_:i=.int k) (_:H p=some (.lst xs)) (_:ixN xs.length k=some j) (_:Q (upd H p (.lst (xs.set j v))))
theorem zbv:PSet X rSetL:=by
 intro pins s σ H o i v ov iv u Q I ro ri rv h;obtain⟨p,xs,k,j,rfl,rfl,hp,hj,q⟩:=h;cases ro;obtain⟨t,rfl⟩:=ri;obtain⟨its,n,r,ho,hz⟩:=I.lst hp;obtain⟨h1,h2,h3,h4⟩:=zhZ hj;have hl:=r.length;have hn:=zeE;have I':Inv X pins σ (upd H p (.lst (xs.set j v))) {s with heap:=s.heap.update p (Obj.mapSeq (·.setIfInBounds j u))}:=
  I.lstUpd hp ho (zg1 its n j u) (r.set rv j) (by rw[List.length_set];exact hz) s.toks
 by_cases h0:0<=k
 ·have hk:k.toNat=j:=by
   rw[seqIndex_of h0 h4] at h1;exact Option.some.inj h1
  exact PySem.W.ki_setAt ho h0 (by lia) (by rw[yF,←hl];exact h4) (by rw[hk];exact⟨_,I',q⟩)
 ·have hk:(k+(its.toArray.size:Int)).toNat=j:=by
   rw[seqIndex_neg (by lia) h3] at h1;rw[yF,←hl];exact Option.some.inj h1
  exact PySem.W.ki_setBack ho (by lia) (by rw[yF,←hl];exact h3) (by lia) (by rw[hk];exact⟨_,I',q⟩)
theorem zeO(lo hi:Option Int)(n:Nat):(sliceBounds lo hi none n).1=((HT.sIx n 0 lo:Nat):Int)/\(sliceBounds lo hi none n).2.1=((HT.sIx n n hi:Nat):Int)/\(sliceBounds lo hi none n).2.2=1:=by
 refine⟨?_,?_,rfl⟩
 ·cases lo with
  |none=>simp[sliceBounds,HT.sIx]
  |some i=>
   simp only[sliceBounds,HT.sIx,uT,show (1:Int) > 0 by decide,if_true]
   by_cases h:i<0
   ·simp only[h,if_true]<;>lia
   ·simp only[h,if_false]<;>lia
 ·cases hi with
  |none=>simp[sliceBounds,HT.sIx]
  |some i=>
   simp only[sliceBounds,HT.sIx,uT,show (1:Int) > 0 by decide,if_true]
   by_cases h:i<0
   ·simp only[h,if_true]<;>lia
   ·simp only[h,if_false]<;>lia
theorem zdS(its:List jA)(lo hi:Option Int):slicePick its.toArray lo hi none=((its.drop (HT.sIx its.length 0 lo)).take (HT.sIx its.length its.length hi-HT.sIx its.length 0 lo)).toArray:=by
 obtain⟨h1,h2,h3⟩:=zeO lo hi its.toArray.size;unfold slicePick;rw[h1,h2,h3];simp only[sliceRange_one,pick_run,yF]<;>rfl
inductive rSlL(K:tT)(x:V)(lo hi:Option Int)(H:Hp)(Q:VK):Prop
 |mk (a xs:_) (_:x=.ref a) (_:SqL K H a xs) (_:∀p,H p=none->Q (.ref p) (upd H p (.lst (cutV xs lo hi))))
theorem zbf:SlR X (rSlL X.K):=by
 intro pins s σ H x v vl vu lo hi sl Q I rx hs pl pu h;obtain⟨a,xs,rfl,hx,q⟩:=h;cases rx;obtain⟨its,r,ht,hz⟩:=I.list hx;have hlen:=r.length;refine⟨"list",_,slot_list_getitem.lookup,ht.isList.typeIs,?_⟩;refine wpAny_getItem_list_slice ht.isList hs pl pu .none (by simp) ?_ (by rw[yF]<;>lia);rw[zdS,←hlen];refine⟨.ref s.heap.objs.size,_,I.laid (t':=s.toks) (o:=.lst (cutV xs lo hi)) (fun b ob q=>tD _ q) (yG _) ?_,rfl,q _ (I.hok.fresh (yG _))⟩;exact⟨yM (zcy xs lo hi) hz,_,0,(r.drop (HT.sIx xs.length 0 lo)).take (HT.sIx xs.length xs.length hi-HT.sIx xs.length 0 lo),tF _ rfl⟩
noncomputable def zeP:V->Bool
 |.non=>true
 |.bl _=>true
 |.int _=>true
 |.str _=>true
 |_=>false
noncomputable def eqV:V->V->Bool
 |.non,.non=>true
 |.bl a,.bl b=>a==b
 |.bl a,.int b=>(if a then 1 else 0)==b
 |.int a,.bl b=>a==(if b then 1 else 0)
 |.int a,.int b=>a==b
 |.str a,.str b=>a==b
 |_,_=>false
theorem zmI{A:jI}{s:jB}{y x:V}{u v:jA}(ry:RelV y u)(rx:RelV x v)(fy:zeP y=true)(fx:zeP x=true):SeqAt.EqAt A s u v (eqV y x):=by
 cases y with
 |non=>
  cases ry;cases x with
  |non=>cases rx;exact SeqAt.EqAt.same _
  |bl b=>cases rx;exact SeqAt.EqAt.none_bool b
  |int b=>obtain⟨t,rfl⟩:=rx;exact SeqAt.EqAt.none_int b t
  |str b=>obtain⟨t,rfl⟩:=rx;exact SeqAt.EqAt.none_str b t
  |_=>exact absurd (show false=true from fx) yO
 |bl a=>
  cases ry;cases x with
  |non=>cases rx;exact SeqAt.EqAt.bool_none a
  |bl b=>cases rx;exact SeqAt.EqAt.bool_bool a b
  |int b=>obtain⟨t,rfl⟩:=rx;exact SeqAt.EqAt.bool_int a b t
  |str b=>obtain⟨t,rfl⟩:=rx;exact SeqAt.EqAt.bool_str a b t
  |_=>exact absurd (show false=true from fx) yO
 |int a=>
  obtain⟨t',rfl⟩:=ry;cases x with
  |non=>cases rx;exact SeqAt.EqAt.int_none a t'
  |bl b=>cases rx;exact SeqAt.EqAt.int_bool a t' b
  |int b=>obtain⟨t,rfl⟩:=rx;exact SeqAt.EqAt.int_int a t' b t
  |str b=>obtain⟨t,rfl⟩:=rx;exact SeqAt.EqAt.int_str a t' b t
  |_=>exact absurd (show false=true from fx) yO
 |str a=>
  obtain⟨t',rfl⟩:=ry;cases x with
  |non=>cases rx;exact SeqAt.EqAt.str_none a t'
  |bl b=>cases rx;exact SeqAt.EqAt.str_bool a t' b
  |int b=>obtain⟨t,rfl⟩:=rx;exact SeqAt.EqAt.str_int a t' b t
  |str b=>obtain⟨t,rfl⟩:=rx;exact SeqAt.EqAt.str_str a t' b t
  |_=>exact absurd (show false=true from fx) yO
 |_=>exact absurd (show false=true from fy) yO
def eqU(x:V)(u:jA):Bool:=match u with
 |.none=>eqV .non x
 |.bool b=>eqV (.bl b) x
 |.int i _=>eqV (.int i) x
 |.str z _=>eqV (.str z) x
 |_=>false
theorem zkM{x y:V}{u:jA}(r:RelV y u)(f:zeP y=true):eqU x u=eqV y x:=by
 cases y with
 |non=>cases r;rfl
 |bl b=>cases r;rfl
 |int i=>obtain⟨t,rfl⟩:=r;rfl
 |str z=>obtain⟨t,rfl⟩:=r;rfl
 |_=>exact absurd (show false=true from f) yO
theorem zcz{x:V}:∀{xs:List V}{us:List jA},Vals xs us->xs.all zeP=true->us.any (eqU x)=xs.any fun y=>eqV y x
 |_,_,.nil,_=>rfl
 |y::xs,u::us,.cons r t,f=>by
  rw[vU,xH] at f;rw[vH,vH,zkM r f.1,zcz t f.2]
theorem zbw{A:jI}{s:jB}{x:V}{v:jA}(rx:RelV x v)(fx:zeP x=true):∀{xs:List V}{us:List jA},Vals xs us->xs.all zeP=true->∀u∈us,SeqAt.EqAt A s u v (eqU x u)
 |_,_,.nil,_=>fun u hu=>by cases hu
 |y::xs,u::us,.cons r t,f=>fun u' hu=>by
  rw[vU,xH] at f;rcases yV.mp hu with rfl|hu
  ·rw[zkM r f.1];exact zmI r rx f.1 fx
  ·exact zbw rx fx t f.2 u' hu
def inV(x:V)(xs:List V):Bool:=xs.any fun y=>eqV y x
inductive rIn(K:tT)(neg:Bool)(x y:V)(H:Hp)(Q:VK):Prop
 |mk (p xs:_) (_:y=.ref p) (_:(SqL K H p xs\/SqT K H p xs)) (_:zeP x=true) (_:xs.all zeP=true) (_:Q (.bl (if neg then !inV x xs else inV x xs)) H)
theorem Z7:OpR X (tM .In) (rIn X.K false):=by
 intro pins s σ H x y v u Q I rx ry h;obtain⟨p,xs,rfl,hq,fx,fs,q⟩:=h;cases ry;rcases hq with hq|hq
 ·obtain⟨its,r,pl,hz⟩:=I.list hq
  refine SeqAt.in_listAt (eqU x) pl.isList (fun w hw=>zbw rx fx r fs w (by simpa using hw)) ⟨.bl _,H,I,rfl,?_⟩;rw[show its.toArray.any (eqU x)=its.any (eqU x) by simp,zcz r fs];exact q
 ·obtain⟨its,r,pl,hz⟩:=I.tuple hq
  refine SeqAt.in_tupleAt (eqU x) pl (fun w hw=>zbw rx fx r fs w (by simpa using hw)) ⟨.bl _,H,I,rfl,?_⟩;rw[show its.toArray.any (eqU x)=its.any (eqU x) by simp,zcz r fs];exact q
theorem zeQ:OpR X (tM .NotIn) (rIn X.K true):=by
 intro pins s σ H x y v u Q I rx ry h;obtain⟨p,xs,rfl,hq,fx,fs,q⟩:=h;cases ry;rcases hq with hq|hq
 ·obtain⟨its,r,pl,hz⟩:=I.list hq
  refine SeqAt.notIn_listAt (eqU x) pl.isList (fun w hw=>zbw rx fx r fs w (by simpa using hw)) ⟨.bl _,H,I,rfl,?_⟩;rw[show its.toArray.any (eqU x)=its.any (eqU x) by simp,zcz r fs];exact q
 ·obtain⟨its,r,pl,hz⟩:=I.tuple hq
  refine SeqAt.notIn_tupleAt (eqU x) pl (fun w hw=>zbw rx fx r fs w (by simpa using hw)) ⟨.bl _,H,I,rfl,?_⟩;rw[show its.toArray.any (eqU x)=its.any (eqU x) by simp,zcz r fs];exact q
theorem Zb:zas X (.type "list") (fun xs H Q=>∃p ys,xs=[.ref p]/\(SqL X.K H p ys\/SqT X.K H p ys)/\∀l,H l=none->Q (.ref l) (upd H l (.lst ys))):=by
 intro pins s σ H xs us Q I r h;obtain⟨p,ys,rfl,hq,q⟩:=h;obtain⟨u,rfl,rx⟩:=zbQ r;cases rx;have fin:∀(its:List jA),Vals ys its->ys.length<=tI->∀(h':jD)(c':Nat),(∀b o',s.heap.get? b=some o'->h'.get? b=some o')->
   h'.get? s.heap.objs.size=some {cls:=.type "list",dict:=none,data:=.seq its.toArray c',slots:=#[]}->EP X pins σ Q (.ref s.heap.objs.size) {s with heap:=h'}:=fun its r' hz h' c' kp e=>
  ⟨.ref s.heap.objs.size,_,I.laid (t':=s.toks) kp (yG _) (show Zu X.prog X.w _ h' _ (.lst ys) from⟨hz,its,c',r',e⟩),rfl,q _ (I.hok.fresh (yG _))⟩
 rcases hq with hq|hq
 ·obtain⟨its,r',pl,hz⟩:=I.list hq
  have hlen:=r'.length;obtain⟨o,ho,hc,n,hd⟩:=pl.isList;exact call_list_seq p (.inl rfl) ho hc hd (fun h' c' kp e=>fin its r' hz h' c' kp e) (by simp only[yF]<;>lia)
 ·obtain⟨its,r',pl,hz⟩:=I.tuple hq
  have hlen:=r'.length;obtain⟨o,ho,hc,n,hd⟩:=pl;exact call_list_seq p (.inr rfl) ho hc hd (fun h' c' kp e=>fin its r' hz h' c' kp e) (by simp only[yF]<;>lia)
theorem zP:zas X (.type "tuple") (fun xs H Q=>∃p ys,xs=[.ref p]/\((SqL X.K H p ys/\∀l,H l=none->Q (.ref l) (upd H l (.tup ys)))\/(SqT X.K H p ys/\Q (.ref p) H))):=by
 intro pins s σ H xs us Q I r h;obtain⟨p,ys,rfl,h⟩:=h;obtain⟨u,rfl,rx⟩:=zbQ r;cases rx;rcases h with⟨hq,q⟩|⟨hq,q⟩
 ·obtain⟨its,r',pl,hz⟩:=I.list hq
  have hlen:=r'.length;refine call_tuple_list pl.isList (fun h' kp=>?_) (by simp only[yF]<;>lia);have I1:Inv X pins σ H {s with heap:=h'}:=I.kept (t':=s.toks) kp;have I2:Inv X pins σ (upd H h'.objs.size (.tup ys)) {s with heap:=h'.push {cls:=.type "tuple",data:=.seq its.toArray}}:=
   I1.laid (t':=s.toks) (fun b o e=>tD _ e) (yG _) (show Zu X.prog X.w _ _ _ (.tup ys) from⟨hz,its,r',IsTup.new _ _⟩)
  exact⟨.ref h'.objs.size,_,I2,rfl,q _ (I1.hok.fresh (yG _))⟩
 ·obtain⟨its,r',pl,hz⟩:=I.tuple hq
  exact call_tuple_same pl ⟨.ref p,H,I,rfl,q⟩
def tyV(K:tT)(T:String)(x:V)(H:Hp):Prop:=match x with
 |.str _=>T="str"
 |.int _=>T="int"
 |.ref p=>(T="list"/\∃xs,SqL K H p xs)\/(T="tuple"/\∃o,K.lookup p=some o/\o.cls=.type "tuple"/\o.dict=none) \/
   (T="dict"/\((∃kvs,H p=some (.dK kvs))\/∃kvs,H p=some (.dT kvs)))\/(T="set"/\∃S n,H p=some (.set S n))
 |_=>False
theorem zkN{pins:List (jC×Obj)}{σ:St}{H:Hp}{s:jB}{T:String}{x:V}{v:jA}(I:Inv X pins σ H s)(r:RelV x v)(ty:tyV X.K T x H):
  s.TypeIs v T/\∀a,v=.ref a->∃ob,s.heap.get? a=some ob/\ob.dict=none:=by
 cases x with
 |str z=>
  obtain⟨t,rfl⟩:=r;cases (show T="str" from ty);exact⟨typeIs_str s z t,fun _ e=>nomatch e⟩
 |int i=>
  obtain⟨t,rfl⟩:=r;cases (show T="int" from ty);exact⟨typeIs_int s i t,fun _ e=>nomatch e⟩
 |ref p=>
  cases r;rcases ty with⟨rfl,xs,hq⟩|⟨rfl,o,hk,hc,hd⟩|⟨rfl,hk⟩|⟨rfl,S,n,hk⟩
  ·obtain⟨its,_,pl,_⟩:=I.list hq
   refine⟨pl.isList.typeIs,fun a e=>?_⟩;cases e;obtain⟨o,n,e,c,hd,_⟩:=pl;exact⟨o,e,hd⟩
  ·refine⟨⟨o,I.kIn p o hk,hc⟩,fun a e=>?_⟩
   cases e;exact⟨o,I.kIn _ o hk,hd⟩
  ·have z:∃o,s.heap.get? p=some o/\o.ExactDict:=by
    rcases hk with⟨kvs,hk⟩|⟨kvs,hk⟩
    ·obtain⟨_,_,_,_,o,_,_,e,ex,_⟩:=I.hok p _ hk
     exact⟨o,e,ex⟩
    ·obtain⟨_,_,_,_,o,_,_,e,ex,_⟩:=I.hok p _ hk
     exact⟨o,e,ex⟩
   obtain⟨o,e,ex⟩:=z;refine⟨⟨o,e,ex.1⟩,fun a e2=>?_⟩;cases e2;exact⟨o,e,ex.2.1⟩
  ·obtain⟨o,_,_,_,e,ex,_⟩:=I.hok p _ hk
   refine⟨⟨o,e,ex.1⟩,fun a e2=>?_⟩;cases e2;exact⟨o,e,ex.2.1⟩
 |_=>exact False.elim ty
inductive i_tBM0(K:tT)(T:String)(r:V->List V->Hp->VK->Prop)(Q:VK)(x:V)(H1:Hp):Prop
 |mk (_:tyV K T x H1) (_:r x [] H1 Q)
def tBM0(K:tT)(T:String)(r:V->List V->Hp->VK->Prop)(to:TE):TE:=fun σ H Q=>to σ H fun x H1=>i_tBM0 K T r Q x H1
inductive i_tBM(K:tT)(T:String)(r:V->List V->Hp->VK->Prop)(t:TA)(σ:St)(Q:VK)(x:V)(H1:Hp):Prop
 |mk (_:tyV K T x H1) (_:t σ H1 fun xs H2=>r x xs H2 Q)
def tBM(K:tT)(T:String)(r:V->List V->Hp->VK->Prop)(to:TE)(t:TA):TE:=fun σ H Q=>to σ H fun x H1=>i_tBM K T r t σ Q x H1
variable{o e:jE}{es:List jE}{to:TE}{t:TA}{name:Str}{apos cpos:Pos}{T id:String}{r:V->List V->Hp->VK->Prop}
theorem zmJ(pa:PlainAttrs T)(slot:Slot T name id)(hty:typeOf (.builtin id)=pure (.type "method_descriptor"))(hm:MtR X id r)(ho:PE X o to)
  (hbase:attributeBase o name X.env (eval o X.env)=eval o X.env:=by rfl) (hline:(apos.endLine==cpos.line)=true:=by rfl):PE X (.Call (.Attribute o name apos) [] [] cpos) (tBM0 X.K T r to):=by
 intro pins s σ H Q I h;refine wpAny_Call_method0_late hbase hline (thn (ho pins s σ H _ I h) fun v s1 ⟨x,H1,I1,r1,ty,q1⟩=>?_);obtain⟨h1,h2⟩:=zkN I1 r1 ty;exact⟨T,id,pa,slot,hty,h1,h2,Calls.callWith_builtin rfl (PySem.evalArgs_none (hm pins s1 σ H1 x [] v [] Q I1 r1 .nil q1))⟩
theorem zbx(pa:PlainAttrs T)(slot:Slot T name id)(hty:typeOf (.builtin id)=pure (.type "method_descriptor"))(hm:MtR X id r)(ho:PE X o to)(ha:PA X (e::es) t)
  (hbase:attributeBase o name X.env (eval o X.env)=eval o X.env:=by rfl)
  (hfew:((backTo cpos (tK (e::es) X.env)).all (fun x=>!x.1)&&(backToKw cpos (keywordEach [] X.env)).all (fun x=>x.1.isSome)
   && decide ((e::es).length+([]:List jK).length+(if ([]:List jK).isEmpty then 0 else 1)<30))=true:=by rfl)
  (hline:(apos.endLine==cpos.line)=true:=by rfl) (hs:tK (e::es) X.env=(false,eval e X.env)::tK es X.env:=by rfl) (hplain:(backTo cpos (tK es X.env)).any (·.1)=false:=by rfl):
  PE X (.Call (.Attribute o name apos) (e::es) [] cpos) (tBM X.K T r to t):=by
 intro pins s σ H Q I h;refine wpAny_Call_method_late hbase hfew hline rfl (thn (ho pins s σ H _ I h) fun v s1 ⟨x,H1,I1,r1,ty,q1⟩=>?_);obtain⟨h1,h2⟩:=zkN I1 r1 ty;refine⟨T,id,pa,slot,hty,h1,h2,?_⟩;have hA:=ha cpos pins s1 σ H1 _ I1 q1;rw[hs] at hA ⊢;refine Calls.callWith_builtin (by show (false||(backTo cpos (tK es X.env)).any (·.1))=false;rw[hplain]<;>rfl) (Calls.evalArgs_plain ?_);exact thn hA fun us s2 ⟨vs,H2,I2,r2,q2⟩=>hm pins s2 σ H2 x vs v us Q I2 r1 r2 q2
end
def MtM(X:Cx)(id:String)(r:V->List V->Hp->VK->Prop):Prop:=
 ∀(pins:List (jC×Obj))(s:jB)(σ:St)(H:Hp)(x:V)(xs:List V)(v:jA)(us:List jA)(Q:VK),Inv X pins σ H s->RelV x v->Vals xs us->r x xs H Q->
  wpAny (model X.prog X.w) X.A (call (.builtin id) (v::us)) (EP X pins σ Q) X.xe s
theorem Vals.one:∀{x:V}{us:List jA},Vals [x] us->∃u,us=[u]/\RelV x u
 |_,_,.cons r .nil=>⟨_,rfl,r⟩
theorem Vals.zero:∀{us:List jA},Vals [] us->us=[]
 |_,.nil=>rfl
theorem Vals.dropLast{xs:List V}{us:List jA}(h:Vals xs us):Vals xs.dropLast us.dropLast:=by
 induction h with
 |nil=>exact .nil
 |cons r t ih=>
  cases t with
  |nil=>exact .nil
  |cons q t'=>exact .cons r ih
theorem Vals.rep{xs:List V}{us:List jA}(h:Vals xs us):∀k:Nat,Vals (yH k xs).flatten (yH k us).flatten
 |0=>.nil
 |k+1=>by
  rw[xO,xO,wQ,wQ];exact Vals.append h (Vals.rep h k)
theorem zg2{α:Type}(l:List α):l.eraseIdx (l.length-1)=l.dropLast:=by
 induction l with
 |nil=>rfl
 |cons a r ih=>
  cases r with
  |nil=>rfl
  |cons b r=>
   have e:(a::b::r).length-1=((b::r).length-1)+1:=by
    have h1:(a::b::r).length=r.length+2:=rfl;have h2:(b::r).length=r.length+1:=rfl;lia
   rw[e,List.eraseIdx_cons_succ,ih]
   all_goals rfl
theorem zeR(its:List jA):∀(k:Nat)(acc:List jA),
  uV (fun x1 x2=>x1++x2) acc.toArray (yH k its.toArray)=(acc++(yH k its).flatten).toArray
 |0,acc=>by simp
 |k+1,acc=>by
  have e:acc.toArray++its.toArray=(acc++its).toArray:=by simp
  have e2:(acc++its)++(yH k its).flatten=acc++(yH (k+1) its).flatten:=by
   rw[xO,wQ,vD]
  rw[←e2,←zeR its k (acc++its),←e,xO,List.foldl_cons]
section
variable{X:Cx}{pins:List (jC×Obj)}{σ:St}{H:Hp}{s:jB}{l b:jC}{xs ys zs:List V}
theorem Inv.lset{its its':List jA}{n:Nat}{f:Array jA->Array jA}{t':Nat}(I:Inv X pins σ H s)(hH:H l=some (.lst xs))
  (e:s.heap.get? l=some {cls:=.type "list",data:=.seq its.toArray n}) (hf:f its.toArray=its'.toArray) (hv:Vals ys its') (hz:ys.length<=tI):
  Inv X pins σ (upd H l (.lst ys)) {s with heap:=s.heap.update l (Obj.mapSeq f),toks:=t'}:=by
 have q:=PySem.IsL.update e f;rw[hf] at q;refine I.write (x:=l) (e:=l) (by rw[hH];exact trivial) (.inl rfl) (fun b' u hb hu=>(Heap.get?_update_other s.heap (Obj.mapSeq f) (Ne.symm hb)).trans hu) ⟨_,q⟩ ?_;exact⟨hz,its',_,hv,q⟩
theorem Inv.lnew{its:List jA}{t':Nat}(I:Inv X pins σ H s)(hv:Vals ys its)(hz:ys.length<=tI):
  Inv X pins σ (upd H s.heap.objs.size (.lst ys)) {s with heap:=s.heap.push {cls:=.type "list",data:=.seq its.toArray},toks:=t'}:=
 I.laid (fun _ _ q=>tD _ q) (yG _) ⟨hz,its,0,hv,tF _ rfl⟩
theorem Inv.fresh(I:Inv X pins σ H s):H s.heap.objs.size=none:=I.hok.fresh (yG _)
theorem Inv.lstM(I:Inv X pins σ H s)(hH:H l=some (.lst xs)):xs.length<=tI/\∃(its:List jA)(n:Nat),Vals xs its/\xs.length=its.length/\s.heap.get? l=some {cls:=.type "list",data:=.seq its.toArray n}:=by
 obtain⟨z,its,n,r,e⟩:=I.hok l _ hH;exact⟨z,its,n,r,r.length,e⟩
theorem zgs{n:Nat}(h:n<=tI):Builtin.List.listTooLong n=false:=by
 unfold Builtin.List.listTooLong;exact decide_eq_false (by lia)
end
section
variable{X:Cx}
inductive rAppend(x:V)(vs:List V)(H:Hp)(Q:VK):Prop
 |mk (l xs y:_) (_:x=.ref l) (_:vs=[y]) (_:H l=some (.lst xs)) (_:xs.length<tI) (_:Q .non (upd H l (.lst (xs++[y]))))
theorem ZM:MtM X "list.append" rAppend:=by
 intro pins s σ H x vs v us Q I rx rv h;obtain⟨l,xs,y,rfl,rfl,hH,hz,q⟩:=h;cases rx;obtain⟨u,rfl,ru⟩:=rv.one;obtain⟨z,its,n,r,hl,e⟩:=I.lstM hH;refine call_meets tQ ⟨_,e,rfl⟩ F.entry_list_append (F.args_list_append_2 _ _) (PySem.list_append l its.toArray n u (by rw[yF];lia)) ⟨e,?_⟩;refine⟨.non,_,I.lset (its':=its++[u]) hH e (by simp) (r.append (.cons ru .nil)) ?_,rfl,q⟩;rw[yD,uD];lia
inductive rExtend(x:V)(vs:List V)(H:Hp)(Q:VK):Prop
 |mk (l b xs zs:_) (_:x=.ref l) (_:vs=[.ref b]) (_:H l=some (.lst xs)) (_:H b=some (.lst zs)) (_:xs.length+zs.length<=tI) (_:Q .non (upd H l (.lst (xs++zs))))
theorem zh1:MtM X "list.extend" rExtend:=by
 intro pins s σ H x vs v us Q I rx rv h;obtain⟨l,b,xs,zs,rfl,rfl,hH,hB,hz,q⟩:=h;cases rx;obtain⟨u,rfl,ru⟩:=rv.one;cases ru;obtain⟨z,its,n,r,hl,e⟩:=I.lstM hH;obtain⟨z2,its2,n2,r2,hl2,e2⟩:=I.lstM hB;have hsz:its.toArray.size+its2.toArray.size<=tI:=by rw[yF,yF];lia
 have hlong:¬(!its.toArray.isEmpty&&Builtin.List.listTooLong (its.toArray.size+its2.toArray.size))=true:=by
  rw[zgs hsz,Bool.and_false];exact yO
 refine call_meets F.slot_list_extend ⟨_,e,rfl⟩ F.entry_list_extend (F.args_list_extend_2 _ _)
  (AutoSeq1.list_extend_list_list_0 l its.toArray n b its2.toArray n2 hlong (by rw[yF];lia) (by lia)) ⟨e,e2,?_⟩
 refine⟨.non,_,I.lset (its':=its++its2) hH e (by simp) (r.append r2) ?_,rfl,q⟩;rw[yD];lia
inductive rPop(x:V)(vs:List V)(H:Hp)(Q:VK):Prop
 |mk (l xs y:_) (_:x=.ref l) (_:vs=[]) (_:H l=some (.lst xs)) (_:xs[xs.length-1]?=some y) (_:Q y (upd H l (.lst xs.dropLast)))
theorem zmK:MtM X "list.pop" rPop:=by
 intro pins s σ H x vs v us Q I rx rv h;obtain⟨l,xs,y,rfl,rfl,hH,hy,q⟩:=h;cases rx;have hus:=rv.zero;subst hus;obtain⟨z,its,n,r,hl,e⟩:=I.lstM hH;obtain⟨u,hu,ru⟩:=r.get hy;have hy':its.toArray[its.toArray.size-1]?=some u:=by
  show its.toArray[its.length-1]?=some u;rw[←Array.getElem?_toList,←hl];exact hu
 refine call_meets F.slot_list_pop ⟨_,e,rfl⟩ F.entry_list_pop (F.args_list_pop_1 _) (MeetsSeq.list_pop_last l its.toArray n u hy' (by rw[yF];lia)) ⟨e,?_⟩;refine⟨y,_,I.lset (its':=its.dropLast) hH e ?_ r.dropLast ?_,ru,q⟩
 ·show its.toArray.eraseIdxIfInBounds (its.toArray.size-1)=its.dropLast.toArray
  rw[yF,List.eraseIdxIfInBounds_toArray,zg2]
 ·rw[List.length_dropLast]
  lia
inductive rCat(x y:V)(H:Hp)(Q:VK):Prop
 |mk (l b xs zs:_) (_:x=.ref l) (_:y=.ref b) (_:H l=some (.lst xs)) (_:H b=some (.lst zs)) (_:xs.length+zs.length<=tI) (_:∀p,H p=none->Q (.ref p) (upd H p (.lst (xs++zs))))
theorem zdq:OpR X (binaryOp .Add) rCat:=by
 intro pins s σ H x y v u Q I rx ry h;obtain⟨l,b,xs,zs,rfl,rfl,hH,hB,hz,q⟩:=h;cases rx;cases ry;obtain⟨z,its,n,r,hl,e⟩:=I.lstM hH;obtain⟨z2,its2,n2,r2,hl2,e2⟩:=I.lstM hB;refine PySem.P.add_list e e2 ?_ (by rw[yF,yF];lia);have ea:its.toArray++its2.toArray=(its++its2).toArray:=by simp
 rw[ea];exact⟨.ref _,_,I.lnew (t':=s.toks) (r.append r2) (by rw[yD];lia),rfl,q _ I.fresh⟩
inductive rRep(x y:V)(H:Hp)(Q:VK):Prop
 |mk (l k xs:_) (_:x=.ref l) (_:y=.int k) (_:H l=some (.lst xs)) (_:-(2 ^ 63)<=k) (_:k<2 ^ 63) (_:xs.length*k.toNat<=tI) (_:∀p,H p=none->Q (.ref p) (upd H p (.lst (yH k.toNat xs).flatten)))
theorem zlq{α:Type}(xs:List α)(k:Nat):(yH k xs).flatten.length=k*xs.length:=by
 induction k with
 |zero=>simp
 |succ k ih=>rw[xO,wQ,yD,ih,Nat.succ_mul,wJ]
theorem zh2:OpR X (binaryOp .Mult) rRep:=by
 intro pins s σ H x y v u Q I rx ry h;obtain⟨l,k,xs,rfl,rfl,hH,h1,h2,hz,q⟩:=h;cases rx;obtain⟨t,rfl⟩:=ry;obtain⟨z,its,n,r,hl,e⟩:=I.lstM hH;have hlen:its.toArray.size*k.toNat<=tI:=by rw[yF,←hl];exact hz
 have hcap:¬its.toArray.size*k.toNat > (2 ^ 63-1) / 8:=by
  have:(tI:Nat)<=(2 ^ 63-1) / 8:=by decide
  lia
 have hfit:¬(!Builtin.List.listFitsIndex k)=true:=by
  rw[fitsIndex_both h1 h2];exact yO
 have hlong:¬Builtin.List.listTooLong (its.toArray.size*k.toNat)=true:=by
  rw[zgs hlen];exact yO
 have hnew:uV (fun x1 x2=>x1++x2) #[] (yH (if its.toArray.isEmpty=true then 0 else k.toNat) its.toArray)=(yH k.toNat its).flatten.toArray:=by
  have f0:∀m:Nat,uV (fun x1 x2=>x1++x2) #[] (yH m its.toArray)=(yH m its).flatten.toArray:=fun m=>by
   have:=zeR its m [];rw[vJ] at this;exact this
  rw[f0];cases its with
  |nil=>simp
  |cons a r'=>rw[if_neg (by simp)]
 refine wpAny_binaryOp_repeat_ref (T:="list") (U:="int") (by decide) ⟨_,e,rfl⟩ (fun s'=>typeIs_int s' k t) noFill_list_mul F.fills_int_mul F.slot_int_rmul repeat_list F.slot_int_index.lookup
  (call_meets F.slot_int_rmul (typeIs_int s k t) F.entry_int_rmul (F.args_int_rmul_2 _ _) (int___rmul___int_list k t l its.toArray n)
   ⟨e,rfl,⟨_,e,rfl⟩,call_meets F.slot_list_mul ⟨_,e,rfl⟩ F.entry_list_mul (F.args_list_mul_2 _ _) (AutoListH.list___mul___list_int_3 l its.toArray n k t hfit hcap hlong) ⟨e,?_⟩⟩)
 rw[hnew];exact⟨.ref _,_,I.lnew (t':=s.toks) (r.rep k.toNat) (by rw[zlq,Nat.mul_comm];exact hz),rfl,q _ I.fresh⟩
end
section
variable{prog:jG}{w:jH}{A:jI}{E:jA->jB->Prop}{s:jB}
set_option maxRecDepth 100000 in
end
section
variable{X:Cx}
end
end L2
namespace Att
open PySem PySem.W PySem.Calls PyProof.Rows
theorem zcA{P:Params}{h:jD}:∀(ns:List Int)(vs:List jA),WellAll P h vs (ns.map WData.int)->IntsAre vs ns:=by
 intro ns
 induction ns with
 |nil=>
  intro vs w;rw[wT] at w;cases w;exact .nil
 |cons n ns ih=>
  intro vs w;rw[yW] at w;cases w with
  |cons a b=>
   cases a;exact .cons _ _ (ih _ b)
theorem zh3{l:OpenLaw}{n:Nat}(hn:l.most=some n){P:Params}{h:jD}{args:List WData}{vals:List jA}
  (hpre:l.row.toRowW.claim.pre args=true) (hwl:WellAll P h vals args):
  ∃a vs ns,vals=[Value.ref a]/\args=[WData.list (ns.map WData.int)]/\h.get? a=some {cls:=.type "list",data:=.seq vs.toArray}/\IntsAre vs ns/\ns.length<=n:=by
 have hsh:WShape.hasAll [] args [.list .int]=true:=(pre_splitW hpre).1;have hc:l.pre.holds [] {args:=args}=true:=(pre_splitW hpre).2;obtain⟨d,r,rfl,h1,h2⟩:=hasAllW_cons hsh;obtain rfl:=hasAllW_nil h2;obtain⟨xs,rfl,h3⟩:=hasW_list h1;obtain⟨ns,rfl⟩:=items_int h3;have hlen:ns.length<=n:=by
  unfold OpenLaw.pre at hc;have h4:(WTm.not (.lt (.lit (.int (n:Int))) (.len (.arg 0)))).holds [] {args:=[.list (ns.map .int)]}=true:=by
   have h4:=(holds_andW hc).1;rw[hn] at h4;exact h4
  have h5:=condW_of h4 (w_not (w_lt w_lit (w_len_list (w_arg rfl))));rw[yB] at h5;refine Nat.le_of_not_lt fun q=>?_;have q':(n:Int)<((ns.length:Nat):Int):=by lia
  first
   |(rw[decide_eq_true q'] at h5;exact absurd h5 (by decide))
   |(simp at h5;lia)
 cases hwl with
 |cons w1 w2=>
  cases w2;cases w1 with
  |list ho hall=>exact⟨_,_,ns,rfl,rfl,ho,zcA ns _ hall,hlen⟩
theorem zh4(l:OpenLaw)(args:List WData):l.row.toRowW.claim.post args (.bool true) args=true:=
 postW_of (r:=l.row.toRowW) (X:=(true==true))
  (show WShape.has [] (.bool true) .bool=true by first|rfl|decide|simp[WShape.has,WShape.arms,WShape.armsAll])
  (show (WTm.eq .res (.lit (.bool true))).value [] {args:=args,res:=some (.bool true),after:=args}=some (.bool (true==true)) from w_eq_bool (w_res rfl) w_lit) rfl
theorem attach_call{l:OpenLaw}{n:Nat}{q:jG}{loose:List Str}{XP:(Str->Option jA)->jD->Prop}{YP:jH->jD->Prop}{d:DefRec}
  (hn:l.most=some n) (hdf:d.params.defaults=[])
  (call:∀(w:jH)(s₀ s₁:jB)(mg mb:Str->Option jA)(fa:jC)(o:Obj)(pm cd doc:jA)(a:jC)(vs:List jA)(ns:List Int),
   Ground q loose [] XP w s₀ mg mb s₁.heap->YP w s₁.heap->
   s₁.heap.get? fa=some o->o.data=.func (docDef d.name d.params d.body d.scope pm cd doc)->s₁.heap.CodeRec cd d.name->mg d.name=some (.ref fa)->
   s₁.heap.get? a=some {cls:=.type "list",data:=.seq vs.toArray}->IntsAre vs ns->ns.length<=n->s₁.gens=#[]->
   codeAny (model l.prog w) callerA (.call (.ref fa) ⟨[.ref a],[]⟩) (fun r s'=>r=.ok (.ret (.bool true))/\OldK s₁.heap s'.heap/\s'.os=s₁.os/\AllBare s'.gens) s₁):
  WalkO q loose XP YP l.row.toRowW d [] (fun f vs=>PySem.call f vs):=by
 intro w s₀ s₁ mg mb G Y fa o pm cd doc dV kV ho hd hcd hD hmg hg args vals as hpre hlay hrd hwl hlo;obtain rfl:dV=.none:=Dflts.none hD hdf;obtain rfl:kV=.none:=Dflts.noKw hD;obtain⟨a,vs,ns,rfl,rfl,hobj,hints,hlen⟩:=zh3 hn hpre hwl;refine enter_call (codeAny_mono (call w s₀ s₁ mg mb fa o pm cd doc a vs ns G Y ho (fd_plain hd) hcd hmg hobj hints hlen hg) fun r s' hq=>?_);obtain⟨rfl,h2,h3,h4⟩:=hq;exact⟨.inl ⟨.bool true,.bool true,[],rfl,fun _=>rfl,.bool true,zh4 l _,fun _=>⟨uO.nil,fun _ hm=>(nomatch hm)⟩⟩,h2,h3,h4⟩
section
variable{prog:jG}{w:jH}{A:jI}{E:jA->jB->Prop}{s:jB}{K:Frag}
noncomputable def ledger(h:jD)(L d:jC):List (jC×Obj):=(wA h.objs.size).filterMap fun a=>if a=L\/a=d then none else (h.get? a).map fun o=>(a,o)
end
end Att
namespace L2
open PySem PySem.Spec PyProof.Rows
theorem zeS:∀{vs:List jA}{ns:List Int},IntsAre vs ns->Vals (ns.map V.int) vs
 |_,_,.nil=>.nil
 |_,_,.cons n t h=>.cons ⟨t,rfl⟩ (zeS h)
def Only(H:Hp):Prop:=∀b,H b=none\/∃o xs,H b=some (.frz o (.lst xs))
theorem zjO{P:jG}{w:jH}{K:tT}{mg mb:Str->Option jA}{CX:CXT}{k:Nat}{fa a:jC}{fd:tU}{x:Str}{sp:Sp}{s₁:jB}{vs:List jA}{ns:List Int}
  (KX:K.In s₁.heap) (hns:s₁.heap.Ns tH mg) (hb:s₁.heap.Ns builtinsNs mb) (hbb:∀x:Str,x≠"__name__"->mb x=tL x) (hlim:s₁.heap.NoLimit) (hg:s₁.gens=#[])
  (ha:s₁.heap.get? a=some {cls:=.type "list",data:=.seq vs.toArray}) (hi:IntsAre vs ns) (hl:ns.length<=tI) (hr:Room k callerA)
  (F:∀base:jD,K.In base->base.Ns tH mg->FnOk P w K mg base CX k fa fd [x] sp) (hbind:∀(s:jB)(u:jA),BindsTo s fd ⟨[u],[]⟩ [(x,u)])
  (hsp:∀H:Hp,Only H->SqL K H a (ns.map V.int)->sp [.ref a] H (fun v _=>v=.bl true) fun _ _ _=>False)
  (hCX:∀H e s',CX [] H s₁ (fun _ _ _=>False) e s'->False):
  codeAny (model P w) callerA (.call (.ref fa) ⟨[.ref a],[]⟩) (fun r s'=>r=.ok (.ret (.bool true))/\OldK s₁.heap s'.heap/\s'.os=s₁.os/\AllBare s'.gens) s₁:=by
 have rv:=zeS hi;have lenV:=hi.length;have core:∀H:Hp,Only H->SqL K H a (ns.map V.int)->HOk P w H s₁.heap->(∀b,H b≠none->b=a)->(H a≠none->K.lookup a=none)->
   codeAny (model P w) callerA (.call (.ref fa) ⟨[.ref a],[]⟩) (fun r s'=>r=.ok (.ret (.bool true))/\OldK s₁.heap s'.heap/\s'.os=s₁.os/\AllBare s'.gens) s₁:=by
  intro H hO hS hok hA hK;have base_of:∀{b:jC}{o:Obj},s₁.heap.get? b=some o->H b=none->(hidT s₁.heap H).get? b=some o:=fun e n=>zjz e n;have noA:∀{b:jC}{o:Obj}{es:Array DictEntry}{ep:Nat},s₁.heap.get? b=some o->o.data=.dict es ep->H b=none:=fun {b o es ep} e d=>by
   cases q:H b with
   |none=>rfl
   |some u=>
    have e':b=a:=hA b (by rw[q];simp);subst e';rw[ha] at e;cases e;have d':Data.seq vs.toArray _=Data.dict es ep:=d;cases d'
  have nsK:∀{b:jC}{m:Str->Option jA},s₁.heap.Ns b m->(hidT s₁.heap H).Ns b m:=fun {b m} ⟨o,es,ep,e,d,r⟩=>⟨o,es,ep,base_of e (noA e d),d,r⟩;have hKb:K.In (hidT s₁.heap H):=fun b o e=>base_of (KX b o e) (by
   cases q:H b with
   |none=>rfl
   |some u=>
    have e':b=a:=hA b (by rw[q];simp);subst e';rw[hK (by rw[q];simp)] at e;cases e)
  have hM:Mod K mg (hidT s₁.heap H):=⟨hKb,nsK hns,⟨mb,nsK hb,hbb⟩,let ⟨mc,h1,h2⟩:=hlim;⟨mc,nsK h1,h2⟩⟩;have e0:Env0 P w K mg (hidT s₁.heap H) callerA [] s₁ H:=⟨rfl,hM,fun b o e=>zk9 e,Nat.le_of_eq (zhF _ _),trivial,fun b hb=>absurd (show b∈([]:List jC) from hb) (by simp),hok,.of_eq hg⟩;refine codeAny_mono ((F _ hKb (nsK hns)).run callerA [] s₁ H ⟨[.ref a],[]⟩ [.ref a] [.ref a] _ _ hr e0 (hbind s₁ (.ref a)) (.cons rfl .nil) (hsp H hO hS)) fun r s' h=>?_;cases r with
  |error e=>exact (hCX H e s' h).elim
  |ok fl=>
   cases fl with
   |next=>exact False.elim h
   |brk=>exact False.elim h
   |cont=>exact False.elim h
   |ret u=>
    obtain⟨v,H',os,bare,un,hok',r',q⟩:=h;have q':v=.bl true:=q;subst q';obtain rfl:u=Value.bool true:=r';refine⟨rfl,OldK.of_keep fun b o e=>?_,os,bare⟩;cases q:H b with
    |none=>exact un.keep b o e q (by intro z;exact absurd (show b∈([]:List jC) from z) (by simp)) (by simp)
    |some u=>
     rcases hO b with z|⟨ob,xs,z⟩
     ·rw[q] at z;cases z
     ·have z2:=un.frzs b ob _ z
      obtain⟨e1,_⟩:=hok b _ z;obtain⟨e2,_⟩:=hok' b _ z2;rw[e] at e1;cases e1;exact e2
 cases hk:K.lookup a with
 |some o=>
  have e:=KX a o hk;rw[ha] at e;cases e;refine core (fun _=>none) (fun _=>.inl rfl) (.inr ⟨_,vs.toArray,_,hk,rfl,rfl,rfl,by rw[yF,lenV];exact hl,by simpa using rv⟩) (fun b u z=>by have z':(none:Option HO)=some u:=z;cases z') (fun b z=>absurd rfl z) fun z=>absurd rfl z
 |none=>
  refine core (fun b=>if b=a then some (.frz {cls:=.type "list",data:=.seq vs.toArray} (.lst (ns.map V.int))) else none) (fun b=>?_) (.inl (.inr ⟨{cls:=.type "list",data:=.seq vs.toArray},if_pos rfl⟩)) (fun b u z=>?_) (fun b z=>?_) fun _=>hk
  ·by_cases hb:b=a
   ·exact .inr ⟨_,_,if_pos hb⟩
   ·exact .inl (if_neg hb)
  ·by_cases hb:b=a
   ·have z':=(if_pos hb).symm.trans z
    cases z';subst hb;exact⟨ha,by rw[yB];exact hl,vs,_,rv,ha⟩
   ·have z':=(if_neg hb).symm.trans z
    cases z'
  ·by_cases hb:b=a
   ·exact hb
   ·exact absurd (if_neg hb) z
abbrev KOf{K:tT}{h:jD}(_:K.In h):tT:=K
theorem zlr{l:PySem.W.OpenLaw}{n k:Nat}{q:jG}{loose:List Str}{XP:(Str->Option jA)->jD->Prop}{YP:jH->jD->Prop}{d:DefRec}{K:Params->tT}{CX:jH->CXT}{sp:jH->Sp}{x:Str}
  (hn:l.most=some n) (hn2:n<=tI) (hdf:d.params.defaults=[]) (hr:Room k callerA)
  (hY:∀(w:jH)(h:jD),YP w h->(K w.params).In h)
  (F:∀(w:jH)(mg:Str->Option jA)(fa:jC)(h:jD),(K w.params).In h->h.Ns tH mg->mg d.name=some (.ref fa)->
   ∃fd:tU,(∀(s:jB)(u:jA),BindsTo s fd ⟨[u],[]⟩ [(x,u)]) /\
    ∀base:jD,(K w.params).In base->base.Ns tH mg->FnOk l.prog w (K w.params) mg base (CX w) k fa fd [x] (sp w))
  (hsp:∀(w:jH)(H:Hp)(a:jC)(ns:List Int),ns.length<=n->Only H->SqL (K w.params) H a (ns.map V.int)->sp w [.ref a] H (fun v _=>v=.bl true) fun _ _ _=>False)
  (hCX:∀(w:jH)(H:Hp)(s:jB)(e:jA)(s':jB),CX w [] H s (fun _ _ _=>False) e s'->False):
  PySem.W.WalkO q loose XP YP l.row.toRowW d [] (fun f vs=>PySem.call f vs):=by
 refine Att.attach_call hn hdf fun w s₀ s₁ mg mb fa o pm cd doc a vs ns G Y ho hd hcd hmg hobj hints hlen hg=>?_;have KX:=hY w _ Y;obtain⟨fd,hb,hF⟩:=F w mg fa _ KX G.T.g hmg;exact zjO KX G.T.g G.T.b G.T.builtins G.T.nolimit hg hobj hints (yM hlen hn2) hr hF hb (fun H hO hS=>hsp w H a ns hlen hO hS) fun H e s'=>hCX w H s₁ e s'
end L2
namespace L2
open PySem PySem.Spec PyProof.Rows
noncomputable def zh5(s:jF)(j:Nat):jF:=match s with
 |.ClassDef _ _ _ body _ _ _ _ _ _ _=>body.getD j (.Pass ⟨0,0,0,0⟩)
 |_=>.Pass ⟨0,0,0,0⟩
noncomputable def ZN(s:jF):Arguments:=match s with
 |.FunctionDef _ a _ _ _ _ _ _ _ _=>a
 |_=>{posonlyargs:=[],args:=[],vararg:=none,kwonlyargs:=[],kw_defaults:=[],kwarg:=none,defaults:=[]}
noncomputable def Zx(s:jF):List jF:=match s with
 |.FunctionDef _ _ b _ _ _ _ _ _ _=>b
 |_=>[]
noncomputable def zq(s:jF):jJ:=match s with
 |.FunctionDef _ _ _ _ _ _ sc _ _ _=>sc
 |_=>{kind:=.function,names:=[],isGenerator:=false,isCoroutine:=false}
abbrev CX0:CXT:=fun _ _ _ _ _ _=>False
abbrev E0:XK:=fun _ _ _=>False
theorem zjP{X:Cx}:Passes CX0 X E0:=fun _ _ _ _ _ _ _ h=>h.elim
structure Fun(K:tT)(x qual:Str)(st:jF)(f:jC)(fd:tU):Prop where
 ex:∃(oc:jA)(od:Option jC)(kV doc pm:jA)(an:Option jC)(cdv ct:jA)(osl:Array (Option jA)),
  fd=fnOf x qual (ZN st) (Zx st) (zq st) .none kV doc pm an cdv ct/\K.lookup f=some ⟨oc,od,.func fd,osl⟩/\codeIn K cdv qual=true
 kp:keepIn K (.ref f)=true
section
variable{P:jG}{w:jH}{K:tT}{mg:Str->Option jA}{base:jD}
theorem Fun.ok{x qual:Str}{st:jF}{f:jC}{fd:tU}{N ps:List Str}{k:Nat}{sp:Sp}(F:Fun K x qual st f fd)(S:FnScope N ps (zq st))(len:∀vs H Q E,sp vs H Q E->vs.length=ps.length)
  (hbody:∀(cdv:jA)(A:jI)(outer:List Env)(s:jB)(H:Hp)(vs:List V)(Q:VK)(E:XK),Room k (A.deeper (envOfC qual (zq st) s.heap.objs.size f cdv))->sp vs H Q E->
   ∃t,PSs (cxOf CX0 P w K mg base N qual (zq st) f cdv A outer s H E).nox (Zx st) t/\t {nx:=fun _ H'=>Q .non H',rt:=Q} (start N vs) H):FnOk P w K mg base CX0 (k+1) f fd ps sp:=by
 obtain⟨oc,od,kV,doc,pm,an,cdv,ct,osl,rfl,lk,hcd⟩:=F.ex;refine znD lk hcd S len fun A outer s H vs Q E hr hsp=>?_;obtain⟨t,h,q⟩:=hbody cdv A outer s H vs Q E hr hsp;exact⟨t,h.nox,q⟩
theorem Fun.binds{x qual:Str}{st:jF}{f:jC}{fd:tU}{ps:List Str}(F:Fun K x qual st f fd)
  (h:∀(kV doc pm:jA)(an:Option jC)(cdv ct:jA)(us:List jA),us.length=ps.length->bindArgs (fnOf x qual (ZN st) (Zx st) (zq st) .none kV doc pm an cdv ct) ⟨us,[]⟩=pure (ps.zip us)):Binds K fd ps []:=by
 obtain⟨oc,od,kV,doc,pm,an,cdv,ct,osl,rfl,lk,hcd⟩:=F.ex;exact .all (h kV doc pm an cdv ct)
theorem us_1{us:List jA}(h:us.length=1):∃x0,us=[x0]:=by
 match us,h with
 |[x0],_=>exact⟨x0,rfl⟩
theorem us_2{us:List jA}(h:us.length=2):∃x0 x1,us=[x0,x1]:=by
 match us,h with
 |[x0,x1],_=>exact⟨x0,x1,rfl⟩
theorem us_3{us:List jA}(h:us.length=3):∃x0 x1 x2,us=[x0,x1,x2]:=by
 match us,h with
 |[x0,x1,x2],_=>exact⟨x0,x1,x2,rfl⟩
theorem us_4{us:List jA}(h:us.length=4):∃x0 x1 x2 x3,us=[x0,x1,x2,x3]:=by
 match us,h with
 |[x0,x1,x2,x3],_=>exact⟨x0,x1,x2,x3,rfl⟩
theorem us_5{us:List jA}(h:us.length=5):∃x0 x1 x2 x3 x4,us=[x0,x1,x2,x3,x4]:=by
 match us,h with
 |[x0,x1,x2,x3,x4],_=>exact⟨x0,x1,x2,x3,x4,rfl⟩
theorem us_6{us:List jA}(h:us.length=6):∃x0 x1 x2 x3 x4 x5,us=[x0,x1,x2,x3,x4,x5]:=by
 match us,h with
 |[x0,x1,x2,x3,x4,x5],_=>exact⟨x0,x1,x2,x3,x4,x5,rfl⟩
theorem Fun.b1{x qual:Str}{st:jF}{f:jC}{fd:tU}{z0:Str}(F:Fun K x qual st f fd)(h:∀(kV doc pm:jA) (an:Option jC) (cdv ct:jA) (x0:jA),bindArgs (fnOf x qual (ZN st) (Zx st) (zq st) .none kV doc pm an cdv ct) ⟨[x0],[]⟩=pure ([z0].zip [x0])):Binds K fd [z0] []:=F.binds fun a b c d e g us hl=>by obtain⟨x0,rfl⟩:=us_1 hl;exact h a b c d e g x0
theorem Fun.b2{x qual:Str}{st:jF}{f:jC}{fd:tU}{z0 z1:Str}(F:Fun K x qual st f fd)(h:∀(kV doc pm:jA) (an:Option jC) (cdv ct:jA) (x0 x1:jA),bindArgs (fnOf x qual (ZN st) (Zx st) (zq st) .none kV doc pm an cdv ct) ⟨[x0,x1],[]⟩=pure ([z0,z1].zip [x0,x1])):Binds K fd [z0,z1] []:=F.binds fun a b c d e g us hl=>by obtain⟨x0,x1,rfl⟩:=us_2 hl;exact h a b c d e g x0 x1
theorem Fun.b3{x qual:Str}{st:jF}{f:jC}{fd:tU}{z0 z1 z2:Str}(F:Fun K x qual st f fd)(h:∀(kV doc pm:jA) (an:Option jC) (cdv ct:jA) (x0 x1 x2:jA),bindArgs (fnOf x qual (ZN st) (Zx st) (zq st) .none kV doc pm an cdv ct) ⟨[x0,x1,x2],[]⟩=pure ([z0,z1,z2].zip [x0,x1,x2])):Binds K fd [z0,z1,z2] []:=F.binds fun a b c d e g us hl=>by obtain⟨x0,x1,x2,rfl⟩:=us_3 hl;exact h a b c d e g x0 x1 x2
theorem Fun.b4{x qual:Str}{st:jF}{f:jC}{fd:tU}{z0 z1 z2 z3:Str}(F:Fun K x qual st f fd)(h:∀(kV doc pm:jA) (an:Option jC) (cdv ct:jA) (x0 x1 x2 x3:jA),bindArgs (fnOf x qual (ZN st) (Zx st) (zq st) .none kV doc pm an cdv ct) ⟨[x0,x1,x2,x3],[]⟩=pure ([z0,z1,z2,z3].zip [x0,x1,x2,x3])):Binds K fd [z0,z1,z2,z3] []:=F.binds fun a b c d e g us hl=>by obtain⟨x0,x1,x2,x3,rfl⟩:=us_4 hl;exact h a b c d e g x0 x1 x2 x3
theorem Fun.b5{x qual:Str}{st:jF}{f:jC}{fd:tU}{z0 z1 z2 z3 z4:Str}(F:Fun K x qual st f fd)(h:∀(kV doc pm:jA) (an:Option jC) (cdv ct:jA) (x0 x1 x2 x3 x4:jA),bindArgs (fnOf x qual (ZN st) (Zx st) (zq st) .none kV doc pm an cdv ct) ⟨[x0,x1,x2,x3,x4],[]⟩=pure ([z0,z1,z2,z3,z4].zip [x0,x1,x2,x3,x4])):Binds K fd [z0,z1,z2,z3,z4] []:=F.binds fun a b c d e g us hl=>by obtain⟨x0,x1,x2,x3,x4,rfl⟩:=us_5 hl;exact h a b c d e g x0 x1 x2 x3 x4
theorem Fun.b6{x qual:Str}{st:jF}{f:jC}{fd:tU}{z0 z1 z2 z3 z4 z5:Str}(F:Fun K x qual st f fd)(h:∀(kV doc pm:jA) (an:Option jC) (cdv ct:jA) (x0 x1 x2 x3 x4 x5:jA),bindArgs (fnOf x qual (ZN st) (Zx st) (zq st) .none kV doc pm an cdv ct) ⟨[x0,x1,x2,x3,x4,x5],[]⟩=pure ([z0,z1,z2,z3,z4,z5].zip [x0,x1,x2,x3,x4,x5])):Binds K fd [z0,z1,z2,z3,z4,z5] []:=F.binds fun a b c d e g us hl=>by obtain⟨x0,x1,x2,x3,x4,x5,rfl⟩:=us_6 hl;exact h a b c d e g x0 x1 x2 x3 x4 x5
theorem zgt{x qual:Str}{st:jF}{f:jC}{oc:jA}{od an:Option jC}{osl:Array (Option jA)}{kV doc pm cdv ct:jA}(l:K.lookup f=some ⟨oc,od,.func (fnOf x qual (ZN st) (Zx st) (zq st) .none kV doc pm an cdv ct),osl⟩)
  (c:codeIn K cdv qual=true) (k:keepIn K (.ref f)=true):Fun K x qual st f (fnOf x qual (ZN st) (Zx st) (zq st) .none kV doc pm an cdv ct):=⟨⟨oc,od,kV,doc,pm,an,cdv,ct,osl,rfl,l,c⟩,k⟩
end
theorem zmL{A:jI}{k:Nat}(hr:Room k A):A.units+1<cLine:=yZ (Nat.add_le_add_left (by decide:1<=64) _) hr.units
theorem zan{n:Nat}(h:n<=1000):n<tI:=yZ h (by decide)
section
variable{X:Cx}
theorem pv(i:Nat){x:Str}{pos:Pos}(hN:X.N[i]?=some x:=by rfl)(hv:Vis X.env.scope x:=by first|exact Or.inl rfl|exact Or.inr (Or.inl rfl)|exact Or.inr (Or.inr rfl))(hd:(x==("__debug__":Str))=false:=by decide)
  (hcd:(x==("__classdict__":Str))=false:=by decide):PE X (.Name x pos) (tVar i):=zmv hN hv hd hcd
end
theorem iteF{A B:Prop}(h:B):if false=true then A else B:=by
 rw[if_neg yO];exact h
theorem iteT{A B:Prop}(h:A):if true=true then A else B:=by
 rw[if_pos rfl];exact h
theorem ite2{c A B:Prop}[Decidable c](h1:c->A)(h2:¬c->B):if c then A else B:=by
 by_cases h:c
 ·rw[if_pos h]
  exact h1 h
 ·rw[if_neg h]
  exact h2 h
def Same(H H':Hp):Prop:=∀b o,H b=some o->H' b=some o
theorem Sr(H:Hp):Same H H:=fun _ _ h=>h
theorem Same.trans{H H1 H2:Hp}(a:Same H H1)(b:Same H1 H2):Same H H2:=fun c o h=>b c o (a c o h)
theorem Same.free{H H':Hp}(e:Same H H'){l:jC}(h:H' l=Option.none):H l=Option.none:=by
 cases q:H l with
 |none=>rfl
 |some o=>
  rw[e l o q] at h;cases h
theorem Same.seq{K:tT}{H H':Hp}{a:jC}{xs:List V}(e:Same H H')(h:SqL K H a xs):SqL K H' a xs:=by
 rcases h with (h|⟨o,h⟩)|h
 ·exact .inl (.inl (e _ _ h))
 ·exact .inl (.inr ⟨o,e _ _ h⟩)
 ·exact .inr h
section
variable{κ:Type}[DecidableEq κ]
end
end L2
namespace L2
open PySem
theorem nm2{t1 t2:TS}{D:Ends}{σ:St}{H:Hp}(h:let T1:TS:=t2;tSeq t1 T1 D σ H):(tSeq t1 t2) D σ H:=h
theorem nm3{t1 t2 t3:TS}{D:Ends}{σ:St}{H:Hp}(h:let T2:TS:=t3;let T1:TS:=tSeq t2 T2;tSeq t1 T1 D σ H):(tSeq t1 (tSeq t2 t3)) D σ H:=h
theorem nm4{t1 t2 t3 t4:TS}{D:Ends}{σ:St}{H:Hp}(h:let T3:TS:=t4;let T2:TS:=tSeq t3 T3;let T1:TS:=tSeq t2 T2;tSeq t1 T1 D σ H):(tSeq t1 (tSeq t2 (tSeq t3 t4))) D σ H:=h
theorem nm5{t1 t2 t3 t4 t5:TS}{D:Ends}{σ:St}{H:Hp}(h:let T4:TS:=t5;let T3:TS:=tSeq t4 T4;let T2:TS:=tSeq t3 T3;let T1:TS:=tSeq t2 T2;tSeq t1 T1 D σ H):(tSeq t1 (tSeq t2 (tSeq t3 (tSeq t4 t5)))) D σ H:=h
theorem nm6{t1 t2 t3 t4 t5 t6:TS}{D:Ends}{σ:St}{H:Hp}(h:let T5:TS:=t6;let T4:TS:=tSeq t5 T5;let T3:TS:=tSeq t4 T4;let T2:TS:=tSeq t3 T3;let T1:TS:=tSeq t2 T2;tSeq t1 T1 D σ H):(tSeq t1 (tSeq t2 (tSeq t3 (tSeq t4 (tSeq t5 t6))))) D σ H:=h
theorem nm8{t1 t2 t3 t4 t5 t6 t7 t8:TS}{D:Ends}{σ:St}{H:Hp}(h:let T7:TS:=t8;let T6:TS:=tSeq t7 T7;let T5:TS:=tSeq t6 T6;let T4:TS:=tSeq t5 T5;let T3:TS:=tSeq t4 T4;let T2:TS:=tSeq t3 T3;let T1:TS:=tSeq t2 T2;tSeq t1 T1 D σ H):(tSeq t1 (tSeq t2 (tSeq t3 (tSeq t4 (tSeq t5 (tSeq t6 (tSeq t7 t8))))))) D σ H:=h
theorem nm9{t1 t2 t3 t4 t5 t6 t7 t8 t9:TS}{D:Ends}{σ:St}{H:Hp}(h:let T8:TS:=t9;let T7:TS:=tSeq t8 T8;let T6:TS:=tSeq t7 T7;let T5:TS:=tSeq t6 T6;let T4:TS:=tSeq t5 T5;let T3:TS:=tSeq t4 T4;let T2:TS:=tSeq t3 T3;let T1:TS:=tSeq t2 T2;tSeq t1 T1 D σ H):(tSeq t1 (tSeq t2 (tSeq t3 (tSeq t4 (tSeq t5 (tSeq t6 (tSeq t7 (tSeq t8 t9)))))))) D σ H:=h
theorem nm12{t1 t2 t3 t4 t5 t6 t7 t8 t9 t10 t11 t12:TS}{D:Ends}{σ:St}{H:Hp}(h:let T11:TS:=t12;let T10:TS:=tSeq t11 T11;let T9:TS:=tSeq t10 T10;let T8:TS:=tSeq t9 T9;let T7:TS:=tSeq t8 T8;let T6:TS:=tSeq t7 T7;let T5:TS:=tSeq t6 T6;let T4:TS:=tSeq t5 T5;let T3:TS:=tSeq t4 T4;let T2:TS:=tSeq t3 T3;let T1:TS:=tSeq t2 T2;tSeq t1 T1 D σ H):(tSeq t1 (tSeq t2 (tSeq t3 (tSeq t4 (tSeq t5 (tSeq t6 (tSeq t7 (tSeq t8 (tSeq t9 (tSeq t10 (tSeq t11 t12))))))))))) D σ H:=h
end L2
namespace L2
open PySem PySem.Spec PyProof.Rows
variable{P:jG}{w:jH}{H H3:Hp}{h:jD}{a C D:jC}{elt iter tg:jE}{ifs:List jE}{scope:jJ}{pos py spos px:Pos}{env:Env}{X:Cx}{names:List (Str×NameKind)}{x y:Str}{cl:List (Str×jC)}{g:TG}{tt:TT}{te:TE}{pins:List (jC×Obj)}{σ:St}{vs:List V}{m4:Str->Option jA}{s4:jB}{i:Nat}{wi:TI}
theorem HOk.track{o:HO}(x:HOk P w H h)(hn:H a=none)(new:Zu P w (upd H a o) h a o):HOk P w (upd H a o) h:=fun b u e=>by
 by_cases hb:b=a
 ·subst hb;rw[zj] at e;cases e;exact new
 ·rw[zH hb] at e
  exact (x b u e).stay (fun c v _ q=>q) (fun c q=>by rw[zH (zB q hn)];exact q) fun c xs q=>by rw[zH (zB q hn)];exact q
section
variable{prog:jG}{w:jH}{A:jI}{R:Result->jB->Prop}{s:jB}
theorem zh6{target:jE}{it acc:jA}(I:Nat->jB->Prop)
  (turn:∀n s,I n s->wpAny (model prog w) A (pyNext it) (fun r s₁=>match r with
   |none=>R (.ok .next) s₁
   |some v=>wpAny (model prog w) A (letOwnedTupleGo target it v) (fun _ s₀=>wpAny (model prog w) A (assign target env v) (fun _ s₂=>
     wpAny (model prog w) A (forIn ifs true fun c r=>if r=true then do let ok ←isTrue c env (eval c env);pure (ForInStep.yield ok) else pure (ForInStep.yield r)) (fun ok s₃=>
      if ok=true then wpAny (model prog w) A (eval elt env) (fun x s₄=>
       wpAny (model prog w) A (call (.builtin "list.append") [acc,x]) (fun _ s₅=>∃m,m<n/\I m s₅) (notedBy (model prog w) A env fun e s'=>R (.error e) s') s₄) (notedBy (model prog w) A env fun e s'=>R (.error e) s') s₃
      else ∃m,m<n/\I m s₃) (notedBy (model prog w) A env fun e s'=>R (.error e) s') s₂) (notedBy (model prog w) A env fun e s'=>R (.error e) s') s₀) (notedBy (model prog w) A env fun e s'=>R (.error e) s') s₁) (notedBy (model prog w) A env fun e s'=>R (.error e) s') s)
  (n:Nat) (h:I n s):codeAny (model prog w) A (.compLoop (.ListComp elt [⟨target,iter,ifs,0⟩] scope pos) 0 it acc env) R s:=by
 refine codeAny_loop rfl I (fun n s hI=>?_) n h;show wpAny _ A ((compTurn (.ListComp elt [⟨target,iter,ifs,0⟩] scope pos) 0 it acc env).onRaise (fun x=>do noteFrame x env;theTreesLotGoes x)) _ _ s;refine wpAny_noted ?_;rw[compTurn_list];refine uY (wpAny_standAt (uY (wpAny_mono (turn n s hI) (fun r s₁ h₁=>?_) fun _ _ h'=>h')));cases r with
 |none=>exact uZ h₁
 |some v=>
  refine uY (wpAny_mono h₁ (fun _ s₀ h₀=>?_) fun _ _ h'=>h');refine uY (wpAny_mono h₀ (fun _ s₂ h₂=>uY (wpAny_mono h₂ (fun ok s₃ h₃=>?_) fun _ _ h'=>h')) fun _ _ h'=>h');cases ok with
  |false=>exact uZ ⟨rfl,h₃⟩
  |true=>
   exact uY (uY (wpAny_mono h₃ (fun x s₄ h₄=>uY (wpAny_mono h₄ (fun _ s₅ h₅=>uZ (uZ ⟨rfl,h₅⟩)) fun _ _ h'=>h')) fun _ _ h'=>h'))
end
noncomputable def zT(X:Cx)(scope:jJ)(cl:List (Str×jC))(NY:List Str)(C:jC)(s:jB)(H:Hp)(fp:List jC):Cx where
 prog:=X.prog
 w:=X.w
 K:=X.K
 mg:=X.mg
 base:=X.base
 A:=X.A
 N:=NY
 s₀:=s
 H₀:=H
 env:=compEnvC scope cl C X.env
 outer:=X.stack
 stack:=X.stack
 ex:=fp
 fn:=fun _=>false
 calm:=true
 pn:=[]
 xe:=notedBy (model X.prog X.w) X.A (compEnvC scope cl C X.env) fun e s'=>compPost (model X.prog X.w) X.A X.xe none (fun _ _=>False) .none C (.error e) s'
def ClOk:List (Str×jC)->List (Str×jC)->Prop
 |[],_=>True
 |p::r,cells=>cells.lookup p.1=some p.2/\ClOk r cells
theorem ClOk.mem:∀{cl cells:List (Str×jC)},ClOk cl cells->∀{x:Str}{c:jC},cl.lookup x=some c->cells.lookup x=some c
 |[],_,_,_,_,e=>by simp at e
 |(y,d)::r,cells,h,x,c,e=>by
  rw[vW] at e
  split at e
  ·rename_i q
   have q':x=y:=by simpa using q
   subst q';cases e;exact h.1
  ·exact ClOk.mem h.2 e
def FrOk(X:Cx)(scope:jJ)(cl:List (Str×jC)):List Nat->List Str->Prop
 |[],[]=>True
 |i::r,y::ys=>(X.N[i]?=some y/\scope.names.lookup y=some .free/\Vis X.env.scope y/\X.env.kindOf y≠some .local/\∃c,cl.lookup y=some c)/\FrOk X scope cl r ys
 |_,_=>False
def PIfs(X:Cx)(ifs:List jE)(t:TT):Prop:=
 ∀(pins:List (jC×Obj))(s:jB)(σ:St)(H:Hp)(Q:Bool->Hp->Prop),Inv X pins σ H s->t σ H Q->
  wpAny (model X.prog X.w) X.A (forIn ifs true fun c r=>if r=true then do let ok ←isTrue c X.env (eval c X.env);pure (ForInStep.yield ok) else pure (ForInStep.yield r)) (TP X pins σ Q) X.xe s
theorem Zd:PIfs X [] (fun _ H Q=>Q true H):=fun _ _ _ H _ I h=>wpAny_tests_nil ⟨H,I,h⟩
theorem zcj{c:jE}{t:TT}(h:PT X c t):PIfs X [c] t:=fun pins s σ H Q I q=>wpAny_tests_one (h pins s σ H Q I q)
noncomputable def frees(fr:List Nat)(σ:St):St:=fr.map fun k=>(σ[k]?).join
def zcB(fr:List Nat)(wi:TI)(tt:TT)(te:TE):TE:=fun σ H Q=>wi σ H fun J H1=>∃W:Nat->Nat->List V->Hp->Prop,(∃m,W 0 m [] H1)/\∀i m vs H,W i m vs H->vs.length<=tI /\
 ((J.stop i H/\∀D,H D=none->Q (.ref D) (upd H D (.lst vs))) \/
  (J.go i H/\∀v H',J.yld i H v H'->tt (some v::frees fr σ) H' fun b H2=>if b=true then te (some v::frees fr σ) H2 fun y H3=>∃m',m'<m/\W (i+1) m' (vs++[y]) H3 else ∃m',m'<m/\W (i+1) m' vs H2))
noncomputable def relF(env:Env)(p:Str×NameKind):Str×NameKind:=if (p.2==NameKind.free&&env.scope.kind==.function&&env.kindOf p.1==some .cell)=true then (p.1,NameKind.cell) else (p.1,p.2)
theorem zjQ(env:Env)(p:Str×NameKind):(relF env p).1=p.1:=by unfold relF;split<;>rfl
theorem zbg{env:Env}:∀{names:List (Str×NameKind)}{x:Str},(names.map (relF env)).lookup x=(names.lookup x).map fun k=>(relF env (x,k)).2
 |[],_=>rfl
 |(n,k)::r,x=>by
  have ih:=@zbg env r x;rw[yW];have e:relF env (n,k)=(n,(relF env (n,k)).2):=Prod.ext (zjQ env (n,k)) rfl;rw[e];cases hx:x==n with
  |true=>
   have q':x=n:=by simpa using hx
   subst q';simp only[vW,hx,wE]
  |false=>simp only[vW,hx];exact ih
theorem zbh(h:names.lookup x=some .free):
  (names.map (relF env)).lookup x=some .cell\/(names.map (relF env)).lookup x=some .free:=by
 rw[zbg,h,wE];unfold relF
 split
 ·exact .inl rfl
 ·exact .inr rfl
theorem zby(hn:∀y∈names,y.2≠.cell)(h:(names.map (relF env)).lookup x=some .cell\/(names.map (relF env)).lookup x=some .free):(x,NameKind.free)∈names:=by
 rw[zbg] at h;cases q:names.lookup x with
 |none=>rw[q] at h;simp at h
 |some k=>
  rw[q] at h;have hm:=PySem.mem_of_lookup q;have hk:k=.free:=by
   unfold relF at h;simp only[wE,Option.some.injEq] at h
   split at h
   ·rename_i c
    simp only[xH] at c;simpa using c.1.1
   ·rcases h with h|h
    ·exact absurd h (hn _ hm)
    ·exact h
  rw[←hk];exact hm
theorem zeT{X:Cx}{scope:jJ}{cl:List (Str×jC)}{σ:St}:∀{fr:List Nat}{ys:List Str},FrOk X scope cl fr ys->∀(j:Nat)(y:Str)(v:V),ys[j]?=some y->(frees fr σ)[j]?=some (some v)->
  ∃i:Nat,X.N[i]?=some y/\σ[i]?=some (some v)/\scope.names.lookup y=some .free/\Vis X.env.scope y/\X.env.kindOf y≠some .local/\∃c,cl.lookup y=some c
 |[],[],_,j,y,v,e,_=>by simp at e
 |[],_::_,h,_,_,_,_,_=>h.elim
 |_::_,[],h,_,_,_,_,_=>h.elim
 |i::r,z::ys,h,0,y,v,e1,e2=>by
  have e1':z=y:=by simpa using e1
  subst e1';have e2':(σ[i]?).join=some v:=by simpa [frees] using e2
  have:σ[i]?=some (some v):=by
   cases q:σ[i]? with
   |none=>rw[q] at e2';cases e2'
   |some o=>rw[q] at e2';cases o with
    |none=>cases e2'
    |some u=>cases e2';rfl
  exact⟨i,h.1.1,this,h.1.2.1,h.1.2.2.1,h.1.2.2.2.1,h.1.2.2.2.2⟩
 |i::r,z::ys,h,j+1,y,v,e1,e2=>zeT (fr:=r) (ys:=ys) h.2 j y v (by simpa using e1) (by simpa [frees] using e2)
theorem zcC{X:Cx}{scope:jJ}{cl:List (Str×jC)}{σ:St}:∀{fr:List Nat}{ys:List Str},FrOk X scope cl fr ys->(frees fr σ).length=ys.length
 |[],[],_=>rfl
 |[],_::_,h=>h.elim
 |_::_,[],h=>h.elim
 |i::r,z::ys,h=>by
  have:=zcC (σ:=σ) (fr:=r) (ys:=ys) h.2;simp only[frees,yW,yQ,yB] at *
  lia
def zcD(n:Nat)(fr:List Nat)(wi:TI)(g:TG)(tt:TT)(te:TE):TE:=fun σ H Q=>wi σ H fun J H1=>∃W:Nat->Nat->List V->Hp->Prop,(∃m,W 0 m [] H1)/\∀i m vs H,W i m vs H->vs.length<=tI /\
 ((J.stop i H/\∀D,H D=none->Q (.ref D) (upd H D (.lst vs))) \/
  (J.go i H/\∀v H',J.yld i H v H'->g v (yH n none++frees fr σ) H' fun σ2 H2=>tt σ2 H2 fun b H3=>if b=true then te σ2 H3 fun y H4=>∃m',m'<m/\W (i+1) m' (vs++[y]) H4 else ∃m',m'<m/\W (i+1) m' vs H3))
def Kps(g:TG)(n:Nat):Prop:=∀(fre:St)(v:V)(H:Hp)(k:St->Hp->Prop),g v (yH n none++fre) H k->g v (yH n none++fre) H fun σ' H'=>k σ' H'/\∀(i:Nat)(v':V),(yH n none++fre)[i]?=some (some v')->σ'[i]?=some (some v')
theorem kps1:Kps (zW 0) 1:=fun fre v H k h=>⟨h,fun i v' e=>by
 cases i with
 |zero=>simp at e
 |succ j=>simpa using e⟩
theorem kps2{K:tT}:Kps (gTup K 2 (gCons (zW 0) (gCons (zW 1) gNil))) 2:=fun fre v H k h=>by
 obtain⟨a,xs,rfl,hs,hl,x,r,rfl,y,r',rfl,rfl,q⟩:=h;refine⟨a,_,rfl,hs,hl,x,_,rfl,y,_,rfl,rfl,q,fun i v' e=>?_⟩
 match i,e with
 |0,e=>simp at e
 |1,e=>simp at e
 |j+2,e=>simpa using e
theorem zdr(NY:List Str)(fr:List Nat)(ys:List Str){use:Option (jA->Sem Unit)}{Qp:jA->jB->Prop}{F:jC->Hp->List V->Prop}{itv:jA}{s2:jB}
  (hc:X.calm=true) (hcell:∀y∈scope.names,y.2≠.cell) (hkind:scope.kind=.function)
  (hcl:ClOk cl X.env.cells) (hall:(scope.names.all fun y=>y.2 != .free||(cl.lookup y.1).isSome)=true) (hfr:FrOk X scope cl fr ys) (hgk:fr=[]\/Kps g NY.length)
  (hg:∀C s H fp,PG (zT X scope cl (NY++ys) C s H fp) tg g)
  (hY:∀C s H fp,PIfs (zT X scope cl (NY++ys) C s H fp) ifs tt/\PE (zT X scope cl (NY++ys) C s H fp) elt te)
  (fin':∀(C D:jC)(H3:Hp)(vs:List V)(m4:Str->Option jA)(s4:jB),Inv X pins σ (upd H3 D (.lst vs)) s4->FpOk X pins (upd H3 D (.lst vs)) C->s4.heap.Ns C m4->F D H3 vs->compPost (model X.prog X.w) X.A X.xe use Qp (.ref D) C (.ok .next) s4)
  (h2:PIE X pins σ tg (fun J H1=>∃W:Nat->Nat->List V->Hp->Prop,(∃m,W 0 m [] H1)/\∀i m vs H,W i m vs H->vs.length<=tI /\
   ((J.stop i H/\∀D,H D=none->F D H vs) \/
    (J.go i H/\∀v H',J.yld i H v H'->g v (yH NY.length none++frees fr σ) H' fun σ2 H2=>tt σ2 H2 fun b H3=>if b=true then te σ2 H3 fun y H4=>∃m',m'<m/\W (i+1) m' (vs++[y]) H4 else ∃m',m'<m/\W (i+1) m' vs H3))) itv s2):
  wpAny (model X.prog X.w) X.A (newList []) (fun acc s₃=>wpAny (model X.prog X.w) X.A (newFunctionEnv scope X.env.globals cl [] X.env.qual none Value.none (some X.env))
   (fun cenv s₄=>codeAny (model X.prog X.w) X.A (.compStart (.ListComp elt [⟨tg,iter,ifs,0⟩] scope pos) 0 itv acc {cenv with scope:=relabel scope X.env}) (compPost (model X.prog X.w) X.A X.xe use Qp acc cenv.locals) s₄) X.xe s₃) X.xe s2:=by
 obtain⟨it,fp,tn,J,H2,rfl,I2,T,st2,f2,W,⟨m0,w0⟩,turn⟩:=h2;refine tJ (wpAny_newFunctionEnv hcell (by intro y hy;simp at hy) (fun h₁ hns₁ hsb₁=>?_) hkind);dsimp only at hns₁ hsb₁ ⊢;generalize hP2:s2.heap.push {cls:=.type "list",dict:=none,data:=.seq ([]:List jA).toArray}=P2 at hns₁ hsb₁ ⊢;have hC:P2.objs.size=s2.heap.objs.size+1:=by rw[←hP2,Heap.size_push]
 have hDC:s2.heap.objs.size≠P2.objs.size:=by rw[hC];exact xC (xY _)
 have hCle:s2.heap.objs.size<=P2.objs.size:=by rw[hC];exact uK _
 have below:∀b,b<s2.heap.objs.size->b≠P2.objs.size/\b≠s2.heap.objs.size:=fun b hb=>⟨by rw[hC];exact xC (vS hb),xC hb⟩;have old:∀b o,s2.heap.get? b=some o->h₁.get? b=some o:=fun b o e=>hsb₁.extBut b o (below b (tE e)).1 (tD _ (hP2▸tD _ e));have hacc:h₁.get? s2.heap.objs.size=some {cls:=.type "list",data:=.seq ([]:List jA).toArray}:=hsb₁.extBut _ _ hDC (tD _ (hP2▸tF _ rfl));have fpl:∀b∈fp,b<s2.heap.objs.size:=fun b hb=>by
  obtain⟨o,e,_⟩:=T.obj _ _ st2 b hb;exact tE e
 have tlt:∀b o,H2 b=some o->b<s2.heap.objs.size:=fun b o e=>I2.hok.lt e;generalize hCg:P2.objs.size=C at hns₁ hsb₁ hDC hCle below ⊢;generalize hDg:s2.heap.objs.size=D at hDC below hacc fpl tlt ⊢;have hDle:D<=C:=by rw[←hDg];exact hCle
 have cls:∀y c,cl.lookup y=some c->X.env.cells.lookup y=some c:=fun y c e=>hcl.mem e;have clt:∀y c,cl.lookup y=some c->c<D:=fun y c e=>by
  obtain⟨v,q⟩:=I2.cell y c (cls y c e);rw[←hDg];exact q.lt
 have sub:∀b∈frs X.stack,b<D:=fun b hb=>by
  rcases yV.mp (I2.stkSub b hb) with e|hb
  ·rw[e,←hDg];exact I2.lt
  ·obtain⟨_,o,ho,_⟩:=I2.ok.funs.mem hb
   rw[←hDg];exact yU (tE ho) I2.sz
 obtain⟨YI,YE⟩:=hY C s2 H2 fp;have YG:=hg C s2 H2 fp;have Yok:(zT X scope cl (NY++ys) C s2 H2 fp).Ok:=by
  refine⟨I2.ok.mod,hkind,I2.ok.glob,I2.ok.blt,hCle,?_,?_,?_,fun _=>I2.ok.hd hc,I2.ok.frames,.inl rfl,?_,I2.bs,yM I2.ok.bsz I2.sz,?_,?_,I2.stack,I2.stkFree⟩
  ·exact fun y z c e1 e2=>I2.ok.inj y z c (cls y c e1) (cls z c e2)
  ·intro y hy
   have hm:=zby (env:=X.env) (names:=scope.names) (x:=y) hcell hy;have q:=xZ.mp hall _ hm;show ∃c,cl.lookup y=some c;exact wX.mp (by simpa using q)
  ·intro y c hf _
   exact absurd hf (by show ¬false=true;decide)
  ·intro b hb
   refine⟨(below b (fpl b hb)).1,fun y c e z=>?_⟩;exact (f2 b hb).2.2.2.2.1 y c (cls y c e) z
  ·intro b o e hb
   have hb:b∈fp:=hb;rcases (f2 b hb).2.2.2.1 with z|z
   ·exact I2.ok.noex b o e z
   ·exact absurd (yU (tE e) (yM I2.ok.bsz z)) (xN _)
  ·intro b hb hf
   have hb:b∈fp:=hb;rcases yV.mp (I2.stkSub b hf) with e|hf
   ·exact (f2 b hb).2.1 e
   ·exact (f2 b hb).2.2.1 hf
 have start:∀tk,Inv (zT X scope cl (NY++ys) C s2 H2 fp) [] (yH NY.length none++frees fr σ) H2 {s2 with heap:=h₁,toks:=tk}:=fun tk=>by
  refine⟨Yok,rfl,I2.bare,Un.kept old,⟨_,hns₁,fun i y v e1 e2 e3=>?_⟩,fun y c e=>?_,?_,fun y c e=>?_,fun p hp=>absurd (show p∈([]:List (jC×Obj)) from hp) (by simp),I2.hok.kept old,?_⟩
  ·by_cases hi:i<NY.length
   ·rw[yN (by rw[xP];exact hi),vB] at e2
    split at e2<;>simp at e2
   ·have e1:(NY++ys)[i]?=some y:=e1
    rw[yR (by lia)] at e1;rw[yR (by rw[xP];lia),xP] at e2;obtain⟨i',n1,n2,n3,n4,n5,c,n6⟩:=zeT hfr _ y v e1 e2;obtain⟨m,hn,hl⟩:=I2.loc;obtain⟨u,r,l⟩:=hl i' y v n1 n2 n4;refine⟨u,r,.inr ⟨zbh n3,c,n6,?_⟩⟩;rcases l with⟨k,_⟩|⟨k,c',e,z⟩
    ·exact absurd k n5
    ·rw[cls y c n6] at e
     cases e;obtain⟨o,ho,hd⟩:=z;exact⟨o,old _ _ ho,hd⟩
  ·obtain⟨v,o,ho,hd⟩:=I2.cell y c (cls y c e)
   exact⟨v,o,old _ _ ho,hd⟩
  ·show H2 C=none
   cases q:H2 C with
   |none=>rfl
   |some o=>exact absurd (tlt C o q) (Nat.not_lt.mpr hDle)
  ·exact I2.freeC y c (cls y c e)
  ·show (yH NY.length (none:Option V)++frees fr σ).length=(NY++ys).length
   rw[yD,yD,xP,zcC hfr]
 have fpY:∀{pl:List (jC×Obj)}{H':Hp},(∀b∈fp,H' b=none)->(∀p∈pl,p.1=D)->∀b∈fp,FpOk (zT X scope cl (NY++ys) C s2 H2 fp) pl H' b:=fun {pl H'} hn hpl b hb=>by
  refine⟨hn b hb,(below b (fpl b hb)).1,Yok.exfs b hb,.inl hb,fun y c e z=>(f2 b hb).2.2.2.2.1 y c (cls y c e) z,fun p hp=>?_⟩;have hp:p∈[]++pl:=hp;rw[vJ] at hp;rw[hpl p hp];exact (below b (fpl b hb)).2.symm
 have loop:∀s₃:jB,(∃tk,s₃={s2 with heap:=h₁,toks:=tk})->
   codeAny (model X.prog X.w) X.A (.compLoop (.ListComp elt [⟨tg,iter,ifs,0⟩] scope pos) 0 (.ref it) (.ref D) (compEnvC scope cl C X.env))
    (compPost (model X.prog X.w) X.A X.xe use Qp (.ref D) C) s₃:=by
  rintro s₃ ⟨tk,rfl⟩;refine zh6
   (fun k s'=>∃i vs ws nn H',Inv (zT X scope cl (NY++ys) C s2 H2 fp) [] (yH NY.length none++frees fr σ) H' s'/\tn i s'.heap/\(∀b∈fp,H' b=none)/\H' D=none /\
    s'.heap.get? D=some {cls:=.type "list",data:=.seq (ws:List jA).toArray nn}/\Vals vs ws/\W i k vs H') ?_ m0
   ⟨0,[],[],0,H2,start tk,T.keep _ _ _ st2 fun b _ o e=>old b o e,fun b hb=>(f2 b hb).1,?_,hacc,.nil,w0⟩
  ·rintro n s3 ⟨i,vs,ws,nn,H3,I3,st3,fr3,hD3,ho3,rv3,w3⟩
   have I3':Inv (zT X scope cl (NY++ys) C s2 H2 fp) [(D,{cls:=.type "list",data:=.seq ws.toArray nn})] (yH NY.length none++frees fr σ) H3 s3:=I3.pins_of fun p hp=>by
    have e:p=(D,{cls:=.type "list",data:=.seq ws.toArray nn}):=by simpa using hp
    subst e;refine⟨ho3,hD3,hDC,fun z=>absurd (sub D z) (xN _),fun v z=>?_⟩;have z':Data.seq ws.toArray nn=Data.cell v:=z;cases z'
   have fp3:=fpY (pl:=[(D,{cls:=.type "list",data:=.seq ws.toArray nn})]) fr3 (fun p hp=>by rw[yI.mp hp]);obtain⟨hsz,alt⟩:=turn i n vs H3 w3;rcases alt with⟨stop,fin⟩|⟨go,step⟩
   ·refine thn (T.done (zT X scope cl (NY++ys) C s2 H2 fp) rfl rfl rfl rfl i _ s3 _ H3 _ I3' fp3 st3 stop) fun r s4 ⟨hr,I4⟩=>?_
    subst hr;have pD:=I4.pin (D,{cls:=.type "list",data:=.seq ws.toArray nn}) (by show _∈[]++_;simp);obtain⟨m4,hn4,_⟩:=I4.loc;have hC4:H3 C=none:=I4.free;have hok4:HOk X.prog X.w (upd H3 D (.lst vs)) s4.heap:=HOk.track I4.hok hD3 ⟨hsz,ws,nn,rv3,pD.1⟩;have b4:=I4.base;have un4:Un (frs X.stack) fp H2 (upd H3 D (.lst vs)) s2.heap s4.heap:=by
     have lt:∀b o,s2.heap.get? b=some o->b<D:=fun b o e=>by rw[←hDg];exact tE e
     refine⟨b4.keep,b4.slot,fun b o e n hx=>?_,b4.there,fun b zs e=>?_,fun b o u e=>?_,fun b ps e=>?_⟩
     ·rw[zH (below b (lt b o e)).2];exact b4.free b o e n hx
     ·rw[zH (below b (tlt b _ e)).2];exact b4.tups b zs e
     ·rw[zH (below b (tlt b _ e)).2];exact b4.frzs b o u e
     ·rw[zH (below b (tlt b _ e)).2];exact b4.tbls b ps e
    have I5:Inv X pins σ (upd H3 D (.lst vs)) s4:=I2.call' (ch:=fp) I4.os un4 hok4 I4.bare fun b hb=>⟨(f2 b hb).2.2.2.1,(f2 b hb).2.1,(f2 b hb).2.2.2.2.1,(f2 b hb).2.2.2.2.2⟩;have fC:FpOk X pins (upd H3 D (.lst vs)) C:=I2.fpOk (by rw[hDg];exact hDle) (by rw[zH hDC.symm];exact hC4);exact fin' C D H3 vs _ s4 I5 fC hn4 (fin D hD3)
   ·refine thn (T.item (zT X scope cl (NY++ys) C s2 H2 fp) rfl rfl rfl rfl i _ s3 _ H3 _ I3' fp3 st3 go) fun r s4 ⟨u,hr,h4⟩=>?_
    subst hr;refine thn h4 fun _ s5 ⟨v,H5,I5,r5,y5,st5,fr5⟩=>?_;have fp5:=fpY (pl:=[(D,{cls:=.type "list",data:=.seq ws.toArray nn})]) fr5 (fun p hp=>by rw[yI.mp hp]);have I5':=I5.pinned fp5 (T.obj _ _ st5);have hst:∃k':St->Hp->Prop,g v (yH NY.length none++frees fr σ) H5 k'/\∀σ' H',k' σ' H'->(tt σ' H' fun b H3=>if b=true then te σ' H3 fun y H4=>∃m',m'<n/\W (i+1) m' (vs++[y]) H4 else ∃m',m'<n/\W (i+1) m' vs H3)/\∀(i:Nat)(v':V),(yH NY.length none++frees fr σ)[i]?=some (some v')->σ'[i]?=some (some v'):=by
     rcases hgk with rfl|hgk
     ·refine⟨_,step v H5 y5,fun σ' H' h=>⟨h,fun i v' e=>?_⟩⟩
      rw[show frees [] σ=[] from rfl,xB,vB] at e
      split at e<;>simp at e
     ·exact⟨_,hgk _ v H5 _ (step v H5 y5),fun σ' H' h=>h⟩
    obtain⟨k',hk1,hk2⟩:=hst;refine thn (YG _ s5 _ H5 v u _ I5' r5 hk1) fun _ s6 ⟨σ6,H6,I6,q6⟩=>?_;obtain⟨q6,hkeep⟩:=hk2 _ _ q6;refine thn (YI _ s6 _ _ _ I6 q6) fun b s7 ⟨H7,I7,q7⟩=>?_;have back:∀{H8:Hp}{s8:jB},Inv (zT X scope cl (NY++ys) C s2 H2 fp) ([(D,{cls:=.type "list",data:=.seq ws.toArray nn})]++zeC fp s5.heap) σ6 H8 s8->
      s8.heap.get? D=some {cls:=.type "list",data:=.seq ws.toArray nn}/\H8 D=none/\(∀b∈fp,H8 b=none)/\(∀b∈fp,∀o,s5.heap.get? b=some o->s8.heap.get? b=some o):=fun {H8 s8} I8=>by
     have pD:=I8.pin (D,{cls:=.type "list",data:=.seq ws.toArray nn}) (by show _∈[]++_;simp);refine⟨pD.1,pD.2.1,fun b hb=>?_,fun b hb o e=>?_⟩
     ·obtain⟨o,e,d⟩:=T.obj _ _ st5 b hb
      exact (I8.pin (b,o) (xF _ (xF _ (zaX hb e)))).2.1
     ·exact (I8.pin (b,o) (xF _ (xF _ (zaX hb e)))).1
    have weak:∀{H8:Hp}{s8:jB},Inv (zT X scope cl (NY++ys) C s2 H2 fp) [] σ6 H8 s8->Inv (zT X scope cl (NY++ys) C s2 H2 fp) [] (yH NY.length none++frees fr σ) H8 s8:=fun {H8 s8} I8=>
     I8.weak (by rw[yD,xP,zcC hfr,←yD];exact I8.len.symm) hkeep
    have nopin:∀{H8:Hp}{s8:jB}{pl:List (jC×Obj)},Inv (zT X scope cl (NY++ys) C s2 H2 fp) pl σ6 H8 s8->Inv (zT X scope cl (NY++ys) C s2 H2 fp) [] σ6 H8 s8:=fun {H8 s8 pl} I8=>
     I8.pins_of fun p hp=>absurd hp (by simp)
    cases b with
    |false=>
     rw[if_neg yO] at q7 ⊢;obtain⟨m',hm,w7⟩:=q7;obtain⟨k1,k2,k3,k4⟩:=back I7;exact⟨m',hm,i+1,vs,ws,nn,H7,weak (nopin I7),T.keep _ _ _ st5 k4,k3,k2,k1,rv3,w7⟩
    |true=>
     rw[if_pos rfl] at q7 ⊢;refine thn (YE _ s7 _ _ _ I7 q7) fun u8 s8 ⟨y8,H8,I8,r8,m',hm,w8⟩=>?_;obtain⟨k1,k2,k3,k4⟩:=back I8;refine append_at (hsz:=by rw[yF,←rv3.length];exact hsz) k1 fun h9 hs9 ho9=>?_;have I9:Inv (zT X scope cl (NY++ys) C s2 H2 fp) [] σ6 H8 {s8 with heap:=h9}:=
      (nopin I8).turned (t':=s8.toks) (it:=D) (fun b o hb e=>(hs9.2 b hb).trans e) k2 hDC (.inr (by rw[←hDg];exact yG _)) (fun y c e=>xC (clt y c e)) fun p hp=>absurd (show p∈([]:List (jC×Obj)) from hp) (by simp)
     refine⟨m',hm,i+1,vs++[y8],ws++[u8],nn+1,H8,weak I9,?_,k3,k2,?_,rv3.append (.cons r8 .nil),w8⟩
     ·refine T.keep _ _ _ st5 fun b hb o e=>?_
      exact (hs9.2 b (below b (fpl b hb)).2).trans (k4 b hb o e)
     ·rw[ho9,List.push_toArray]
  ·cases q:H2 D with
   |none=>rfl
   |some o=>exact absurd (tlt D o q) (xN _)
 exact codeAny_compStart_list (loop _ ⟨_,rfl⟩) (T.self _ 0 _ _ _ (T.keep _ _ _ st2 fun b _ o e=>old b o e) (loop _ ⟨_,rfl⟩))
theorem zls{Q:VK}(I5:Inv X pins σ (upd H3 D (.lst vs)) s4)(fC:FpOk X pins (upd H3 D (.lst vs)) C)(hn:s4.heap.Ns C m4)(q:Q (.ref D) (upd H3 D (.lst vs))):
  compPost (model X.prog X.w) X.A X.xe none (EP X pins σ Q) (.ref D) C (.ok .next) s4:=
 ⟨m4,hn,fun h' hs'=>⟨.ref D,upd H3 D (.lst vs),I5.turned (t':=s4.toks) (it:=C) (fun b o hb e=>(hs'.2 b hb).trans e) fC.1 fC.2.1 fC.2.2.2.1 fC.2.2.2.2.1 fC.2.2.2.2.2,rfl,q⟩⟩
theorem zlt{Dn:Ends}(hN:X.N.Nodup)(hiy:X.N[i]?=some y)(hy:Loc X.env.scope y)(hf:X.fn y=true\/X.env.scope.names.lookup y=some .local)
  (I5:Inv X pins σ (upd H3 D (.lst vs)) s4) (fC:FpOk X pins (upd H3 D (.lst vs)) C) (hn:s4.heap.Ns C m4) (q:Dn.nx (σ.set i (some (.ref D))) (upd H3 D (.lst vs))):
  compPost (model X.prog X.w) X.A X.xe (some (assign (.Name y py) X.env)) (fun _ s'=>SP X pins Dn .next s') (.ref D) C (.ok .next) s4:=by
 refine (show wpAny _ X.A (assign (.Name y py) X.env (.ref D)) _ _ s4 from wpAny_assign_Name (zeB I5 hN hiy hy (v:=.ref D) rfl (fun s5 I6 ⟨a,hsa,ha⟩=>?_) hf));have aC:C≠a:=by
  rcases ha with ha|ha
  ·rw[ha];exact fC.2.1
  ·exact (fC.2.2.2.2.1 _ _ ha).symm
 exact⟨m4,hn.sameBut hsa aC,fun h' hs'=>⟨_,upd H3 D (.lst vs),I6.turned (t':=s5.toks) (it:=C) (fun b o hb e=>(hs'.2 b hb).trans e) fC.1 fC.2.1 fC.2.2.2.1 fC.2.2.2.2.1 fC.2.2.2.2.2,q⟩⟩
theorem zeU(NY:List Str)(fr:List Nat)(ys:List Str)
  (hc:X.calm=true) (hclos:closureFor scope X.env=pure cl) (hcell:∀y∈scope.names,y.2≠.cell) (hkind:scope.kind=.function) (hnames:∀y∈scope.names,y.2=.local->scope.names.lookup y.1=some .local)
  (hcl:ClOk cl X.env.cells) (hall:(scope.names.all fun y=>y.2 != .free||(cl.lookup y.1).isSome)=true) (hfr:FrOk X scope cl fr ys) (hgk:fr=[]\/Kps g NY.length)
  (hi:PI X tg iter wi) (hg:∀C s H fp,PG (zT X scope cl (NY++ys) C s H fp) tg g)
  (hY:∀C s H fp,PIfs (zT X scope cl (NY++ys) C s H fp) ifs tt/\PE (zT X scope cl (NY++ys) C s H fp) elt te)
  (hs:∀v,foldedSetIterable iter X.env v=pure v:=by intro _;rfl):
  PE X (.ListComp elt [⟨tg,iter,ifs,0⟩] scope pos) (zcD NY.length fr wi g tt te):=by
 intro pins s σ H Q I h;rw[eval_ListComp];exact wpAny_comprehension_free (use:=none) rfl hs hclos hkind hnames (wpAny_mono (hi pins s σ H _ I h) (fun v s1 h1=>wpAny_mono h1 (fun itv s2 h2=>zdr NY fr ys hc hcell hkind hcl hall hfr hgk hg hY (fun _ _ _ _ _ _=>zls) h2) fun _ _ e=>e) fun _ _ e=>e)
theorem zck(NY:List Str)(fr:List Nat)(ys:List Str)
  (hc:X.calm=true) (hclos:closureFor scope X.env=pure cl) (hcell:∀y∈scope.names,y.2≠.cell) (hkind:scope.kind=.function) (hnames:∀y∈scope.names,y.2=.local->scope.names.lookup y.1=some .local)
  (hcl:ClOk cl X.env.cells) (hall:(scope.names.all fun y=>y.2 != .free||(cl.lookup y.1).isSome)=true) (hfr:FrOk X scope cl fr ys) (hgk:fr=[]\/Kps g NY.length)
  (hi:PI X tg iter wi) (hg:∀C s H fp,PG (zT X scope cl (NY++ys) C s H fp) tg g)
  (hY:∀C s H fp,PIfs (zT X scope cl (NY++ys) C s H fp) ifs tt/\PE (zT X scope cl (NY++ys) C s H fp) elt te)
  (hN:X.N.Nodup) (hiy:X.N[i]?=some y) (hy:Loc X.env.scope y) (hsw:swapsWith (.ListComp elt [⟨tg,iter,ifs,0⟩] scope pos) (some (.Name y py)) spos.line X.env=pure true:=by rfl)
  (hf:X.fn y=true\/X.env.scope.names.lookup y=some .local:=by first|exact .inl rfl|exact .inr rfl|assumption)
  (hs:∀v,foldedSetIterable iter X.env v=pure v:=by intro _;rfl):
  PS X (.Assign [.Name y py] (.ListComp elt [⟨tg,iter,ifs,0⟩] scope pos) spos) (tAsg (zcD NY.length fr wi g tt te) (zW i)):=by
 intro pins s σ H Dn I h;rw[exec_Assign_Name_used _ _ _ _ hsw];refine uY (wpAny_standAt (uY ?_));refine (show wpAny _ X.A (do let _ ←comprehension (.ListComp elt [⟨tg,iter,ifs,0⟩] scope pos) scope X.env _ (newList []) false (eval iter X.env) (some (assign (.Name y py) X.env))) _ _ s from ?_);exact uY (wpAny_mono (wpAny_comprehension_free (use:=some (assign (.Name y py) X.env)) (Q:=fun _ s'=>SP X pins Dn .next s') rfl hs hclos hkind hnames (wpAny_mono (hi pins s σ H _ I h) (fun v s1 h1=>wpAny_mono h1 (fun itv s2 h2=>zdr (σ:=σ) (F:=fun D H vs=>Dn.nx (σ.set i (some (.ref D))) (upd H D (.lst vs))) NY fr ys hc hcell hkind hcl hall hfr hgk hg hY (fun _ _ _ _ _ _=>zlt hN hiy hy hf) h2) fun _ _ e=>e) fun _ _ e=>e)) (fun _ s' hq=>uZ (uZ hq)) fun _ _ e=>e)
theorem zkO{ys:List Str}(hx:scope.names.lookup x=some .local)(hnd:(x::ys).Nodup):∀C s H fp,PG (zT X scope cl ([x]++ys) C s H fp) (.Name x px) (zW 0):=fun C s H fp=>
 zS (X:=zT X scope cl (x::ys) C s H fp) (i:=0) (pos:=px) hnd rfl (.inl (lookup_relabel_local hx)) (.inr (lookup_relabel_local hx))
theorem Zj(fr:List Nat)(ys:List Str)
  (hc:X.calm=true) (hclos:closureFor scope X.env=pure cl) (hcell:∀y∈scope.names,y.2≠.cell) (hkind:scope.kind=.function) (hnames:∀y∈scope.names,y.2=.local->scope.names.lookup y.1=some .local)
  (hx:scope.names.lookup x=some .local) (hnd:(x::ys).Nodup) (hcl:ClOk cl X.env.cells) (hall:(scope.names.all fun y=>y.2 != .free||(cl.lookup y.1).isSome)=true) (hfr:FrOk X scope cl fr ys)
  (hi:PI X (.Name x px) iter wi)
  (hY:∀C s H fp,PIfs (zT X scope cl (x::ys) C s H fp) ifs tt/\PE (zT X scope cl (x::ys) C s H fp) elt te)
  (hs:∀v,foldedSetIterable iter X.env v=pure v:=by intro _;rfl):
  PE X (.ListComp elt [⟨.Name x px,iter,ifs,0⟩] scope pos) (zcB fr wi tt te):=fun pins s σ H Q I h=>
 zeU [x] fr ys hc hclos hcell hkind hnames hcl hall hfr (.inr kps1) hi (zkO hx hnd) hY hs pins s σ H Q I h
theorem zdT(fr:List Nat)(ys:List Str)
  (hc:X.calm=true) (hclos:closureFor scope X.env=pure cl) (hcell:∀y∈scope.names,y.2≠.cell) (hkind:scope.kind=.function) (hnames:∀y∈scope.names,y.2=.local->scope.names.lookup y.1=some .local)
  (hx:scope.names.lookup x=some .local) (hnd:(x::ys).Nodup) (hcl:ClOk cl X.env.cells) (hall:(scope.names.all fun y=>y.2 != .free||(cl.lookup y.1).isSome)=true) (hfr:FrOk X scope cl fr ys)
  (hi:PI X (.Name x px) iter wi)
  (hY:∀C s H fp,PIfs (zT X scope cl (x::ys) C s H fp) ifs tt/\PE (zT X scope cl (x::ys) C s H fp) elt te)
  (hN:X.N.Nodup) (hiy:X.N[i]?=some y) (hy:Loc X.env.scope y) (hsw:swapsWith (.ListComp elt [⟨.Name x px,iter,ifs,0⟩] scope pos) (some (.Name y py)) spos.line X.env=pure true:=by rfl)
  (hf:X.fn y=true\/X.env.scope.names.lookup y=some .local:=by first|exact .inl rfl|exact .inr rfl|assumption)
  (hs:∀v,foldedSetIterable iter X.env v=pure v:=by intro _;rfl):
  PS X (.Assign [.Name y py] (.ListComp elt [⟨.Name x px,iter,ifs,0⟩] scope pos) spos) (tAsg (zcB fr wi tt te) (zW i)):=fun pins s σ H Dn I h=>
 zck [x] fr ys hc hclos hcell hkind hnames hcl hall hfr (.inr kps1) hi (zkO hx hnd) hY hN hiy hy hsw hf hs pins s σ H Dn I h
def zdU(n:Nat)(wi:TI)(g:TG)(tt:TT)(te:TE):TE:=fun σ H Q=>wi σ H fun J H1=>∃W:Nat->Nat->List V->Hp->Prop,(∃m,W 0 m [] H1)/\∀i m vs H,W i m vs H->vs.length<=tI /\
 ((J.stop i H/\∀D,H D=none->Q (.ref D) (upd H D (.lst vs))) \/
  (J.go i H/\∀v H',J.yld i H v H'->g v (yH n none) H' fun σ2 H2=>tt σ2 H2 fun b H3=>if b=true then te σ2 H3 fun y H4=>∃m',m'<m/\W (i+1) m' (vs++[y]) H4 else ∃m',m'<m/\W (i+1) m' vs H3))
theorem zh7(n:Nat)(wi:TI)(g:TG)(tt:TT)(te:TE):zcD n [] wi g tt te=zdU n wi g tt te:=by
 unfold zcD zdU;simp only[show ∀σ,frees [] σ=[] from fun _=>rfl,xB]
theorem zbz(NY:List Str)
  (hc:X.calm=true) (hclos:closureFor scope X.env=pure cl) (hcell:∀y∈scope.names,y.2≠.cell) (hkind:scope.kind=.function) (hnames:∀y∈scope.names,y.2=.local->scope.names.lookup y.1=some .local)
  (hcl:ClOk cl X.env.cells) (hall:(scope.names.all fun y=>y.2 != .free||(cl.lookup y.1).isSome)=true)
  (hi:PI X tg iter wi) (hg:∀C s H fp,PG (zT X scope cl NY C s H fp) tg g)
  (hY:∀C s H fp,PIfs (zT X scope cl NY C s H fp) ifs tt/\PE (zT X scope cl NY C s H fp) elt te)
  (hs:∀v,foldedSetIterable iter X.env v=pure v:=by intro _;rfl):
  PE X (.ListComp elt [⟨tg,iter,ifs,0⟩] scope pos) (zdU NY.length wi g tt te):=by
 rw[←zh7];exact zeU NY [] [] hc hclos hcell hkind hnames hcl hall trivial (.inl rfl) hi (by rw[xB];exact hg) (by rw[xB];exact hY) hs
variable{P prog:jG}{w:jH}{K:tT}{mg:Str->Option jA}{base:jD}{x:Str}{j:Nat}{ps:List Str}{sp:Sp}{A:jI}{E Q:jA->jB->Prop}{s:jB}{d:Int}
def Have(P:jG)(w:jH)(K:tT)(mg:Str->Option jA)(base:jD)(x:Str)(k:Nat)(ps:List Str)(sp:Sp):Prop:=
 ∃(f:jC)(fd:tU),FnOk P w K mg base CX0 k f fd ps sp/\Binds K fd ps []/\keepIn K (.ref f)=true/\mg x=some (.ref f)
theorem Have.mono{k:Nat}(h:Have P w K mg base x j ps sp)(e:j<=k):Have P w K mg base x k ps sp:=
 let ⟨f,fd,F,r⟩:=h;⟨f,fd,F.mono e,r⟩
theorem Have.up{P:jG}{w:jH}{K:tT}{mg:Str->Option jA}{base:jD}{j k:Nat}{ps:List Str}{sp:Sp}{x:Str}(h:Have P w K mg base x j ps sp)(e:Nat.ble j k=true):Have P w K mg base x k ps sp:=h.mono (wN e)
section
variable{X:Cx}{x:Str}{k:Nat}{ps:List Str}{sp:Sp}{e:jE}{es:List jE}{t:TA}{p pos:Pos}
theorem zy(G:Have X.prog X.w X.K X.mg X.base x k ps sp)(hr:Room k X.A)(hg:Gl X x)(ha:PA X (e::es) t)(hdb:(x==("__debug__":Str))=false:=by decide)
  (he:tK (e::es) X.env=(false,eval e X.env)::tK es X.env:=by rfl) (hpl:(backTo pos (tK es X.env)).any (·.1)=false:=by rfl):
  PE X (.Call (.Name x p) (e::es) [] pos) (zhQ sp [] E0 t):=by
 obtain⟨f,fd,F,b,kp,m⟩:=G;exact zll F hr hg m kp b .nil zjP ha hdb he hpl
end
section
variable{X:Cx}
def znG(i j:Int):Prop:=0<j/\j.natAbs.log2<9000
theorem zjR:OpR X (binaryOp .FloorDiv) (rI znG fun i j=>.int (i / j)):=opI fun i j _ _ _ _ _ hc q=>by
 have h1:(0:Int)<j:=hc.1;exact floordiv_int (by lia) (by rw[Int.fdiv_eq_ediv_of_nonneg i (by lia)];exact q) (.inl (PyProof.noPylong_of_log2 hc.2))
noncomputable def zbA:List String:=["NoneType","bool","int","str","list","tuple","dict"]
noncomputable def isi(A T:String):Option Bool:=if zbA.contains A&&zbA.contains T then some (A==T||(A=="bool"&&T=="int")) else none
theorem zh8{A:String}(h:zbA.contains A=true):A="NoneType"\/A="bool"\/A="int"\/A="str"\/A="list"\/A="tuple"\/A="dict":=by
 have:A∈zbA:=by simpa using h
 simpa [zbA] using this
theorem zeV{A T:String}{b:Bool}(h:isi A T=some b):PySem.W.kitOne K (.type A) (.type T)=some b:=by
 unfold isi at h
 split at h
 ·rename_i c
  rw[xH] at c;cases h;rcases zh8 c.1 with rfl|rfl|rfl|rfl|rfl|rfl|rfl<;>rcases zh8 c.2 with rfl|rfl|rfl|rfl|rfl|rfl|rfl<;>kernel_rfl
 ·cases h
theorem Zv:zas X (.builtin "isinstance") (fun xs H Q=>∃v T A b,xs=[v,.ty T]/\TyOf X.K H v (.type A)/\isi A T=some b/\Q (.bl b) H):=by
 intro pins s σ H xs us Q I r h;obtain⟨v,T,A,b,rfl,ty,e,q⟩:=h;obtain⟨u,c,rfl,ru,rc⟩:=zfA r;cases (show c=Value.type T from rc);exact zeG I ru ty (zeV e) fun tk=>⟨.bl b,H,I.tok tk,rfl,q⟩
theorem zfH{xs:List Bool}{its:List jA}(r:Vals (xs.map V.bl) its):TruthOf P w A (fun i v=>its.toArray[i]?=some v) (fun i=>xs.getD i true):=by
 intro i v s Q E hv h;have hv':its[i]?=some v:=by simpa using hv
 have hl:=r.length;rw[yB] at hl;have hi:i<xs.length:=by rw[hl];exact (yC.mp hv').1
 obtain⟨u,hu,ru⟩:=r.get (i:=i) (x:=V.bl xs[i]) (by rw[yE,yA hi];rfl);rw[hv'] at hu;cases hu;cases ru;refine wpAny_truthy_bool ?_;have e:xs.getD i true=xs[i]:=by rw[yX,yA hi];rfl
 have h:Q (xs.getD i true) s:=h;rw[e] at h;exact h
theorem zh9(xs:List Bool):(wA xs.length).all (fun i=>xs.getD i true)=xs.all id:=by
 rw[xL,xZ,xZ]
 constructor
 ·intro h x hx
  obtain⟨i,hi,rfl⟩:=xS.mp hx;have:=h i (uH.mpr hi);rw[yX,yA hi] at this;exact this
 ·intro h i hi
  have hi:=uH.mp hi;rw[yX,yA hi];exact h _ (xD hi)
theorem Z4(hc:X.calm=true):zas X (.builtin "all") (fun xs H Q=>∃(p:jC)(bs:List Bool),xs=[.ref p]/\SqL X.K H p (bs.map V.bl)/\Q (.bl (bs.all id)) H):=by
 intro pins s σ H xs us Q I r h;obtain⟨p,bs,rfl,hq,q⟩:=h;obtain⟨u,rfl,rx⟩:=zbQ r;cases rx;obtain⟨its,r',pl,hz⟩:=I.list hq;have hl:=pl.isList;obtain⟨o,ho,_⟩:=id hl;have hlt:=tE ho;refine call_all_walk (wpAny_pyIter_list hl ?_);refine⟨_,_,_,_,_,_,fun i=>bs.getD i true,rfl,Walks.list (A:=X.A.in1) (I.ok.hd hc) s.heap.objs.size p (xC hlt) its.toArray,⟨⟨_,tF _ rfl,rfl,rfl⟩,hl.push _⟩,zfH r',fun h' tk hk=>?_⟩;have e:(wA its.toArray.size).all (fun i=>bs.getD i true)=bs.all id:=by
  have hl2:=r'.length;rw[yB] at hl2;rw[yF,←hl2];exact zh9 bs
 rw[e];refine⟨.bl (bs.all id),H,I.kept (h':=h') (t':=tk) fun b o e=>?_,rfl,q⟩;exact hk b o (fun hm=>absurd (tE e) (by rw[yI.mp hm];exact xN _)) (tD _ e)
end
section
variable{prog:jG}{w:jH}{A:jI}{R:Result->jB->Prop}{I l:jC}{vs:List jA}{ns:List Int}{d:jA}
end
variable{K:tT}{tg:jE}{T:String}{z x:Str}{X:Cx}{te:TE}{pos:Pos}{H:Hp}{a:jC}{j:Nat}{σ:St}{Q:VK}
noncomputable def Its(z:Str):It:=⟨fun i _=>i<z.cps.size,fun i H x H'=>H'=H/\∃c,z.cps[i]?=some c/\x=.str ⟨#[c]⟩,fun i _=>i=z.cps.size⟩
theorem zjS{P:jG}{w:jH}{it:jC}{t:Tok}
  (W:∀A:jI,A.handled=none->Walks P w A it [it] [it] z.cps.size (SignAt z) (fun i h=>h.IsStrIter it T z t i))
  (hT:["enumerate","zip","dict_itemiterator","dict_reverseitemiterator","odict_iterator","itertools.zip_longest","itertools.pairwise"].contains T=false)
  (self:∀(A:jI)(i:Nat)(s:jB)(Q:jA->jB->Prop)(E:jA->jB->Prop),s.heap.IsStrIter it T z t i->Q (.ref it) s->wpAny (model P w) A (pyIter (.ref it)) Q E s):
  Turn P w K tg (Its z) [it] it (fun i h=>h.IsStrIter it T z t i) where
 mem:=by simp
 obj:=fun i h st b hb=>by
  have e:b=it:=by simpa using hb
  subst e;obtain⟨o,e,c,d⟩:=st;exact⟨o,e,fun v z=>by rw[d] at z;cases z⟩
 keep:=fun i h h' st k=>by
  obtain⟨o,e,c⟩:=st;exact⟨o,k it (by simp) o e,c⟩
 item:=by
  intro X hP hw hK hc i pins s σ H E I hf st hg;subst hP hw hK;obtain⟨f0,f1,f2,f3,f4,f5⟩:=hf it (by simp);refine (W X.A (I.ok.hd hc)).item i s _ _ hg st fun v h' tk hP st' kk=>?_;obtain⟨c,u,hcu,rfl⟩:=hP;have I1:Inv X pins σ H {s with heap:=h',toks:=tk}:=I.turned (fun b o hb e=>kk b o (by simpa using hb) e) f0 f1 f3 f4 f5;obtain⟨o,e,cc,d⟩:=id st';exact⟨_,rfl,zjA (s:={s with heap:=h',toks:=tk}) e cc d hT ⟨.str ⟨#[c]⟩,H,I1,⟨u,rfl⟩,⟨rfl,c,hcu,rfl⟩,st',fun b hb=>(hf b hb).1⟩⟩
 done:=by
  intro X hP hw hK hc i pins s σ H E I hf st hg;subst hP hw hK;obtain⟨f0,f1,f2,f3,f4,f5⟩:=hf it (by simp);have hg:i=z.cps.size:=hg;subst hg;exact (W X.A (I.ok.hd hc)).done s _ _ st fun h' tk kk=>⟨rfl,I.turned (fun b o hb e=>kk b o (by simpa using hb) e) f0 f1 f3 f4 f5⟩
 self:=fun A i s Q E st h=>self A i s Q E st h
inductive i_iStr(R:It->Hp->Prop)(x:V)(H1:Hp):Prop
 |mk (z:_) (_:x=.str z) (_:R (Its z) H1)
def iStr(te:TE):TI:=fun σ H R=>te σ H fun x H1=>i_iStr R x H1
theorem zmM{e:jE}(he:PE X e te):PI X tg e (iStr te):=by
 intro pins s σ H R I h;refine thn (he pins s σ H _ I h) fun v s1 ⟨x,H1,I1,r1,q1⟩=>?_;obtain⟨z,rfl,q⟩:=q1;obtain⟨t,rfl⟩:=r1;have fin:∀(T:String),(∀A:jI,A.handled=none->Walks X.prog X.w A s1.heap.objs.size [s1.heap.objs.size] [s1.heap.objs.size] z.cps.size (SignAt z) (fun i h=>h.IsStrIter s1.heap.objs.size T z t i))->
   ["enumerate","zip","dict_itemiterator","dict_reverseitemiterator","odict_iterator","itertools.zip_longest","itertools.pairwise"].contains T=false->
   (∀(A:jI)(i:Nat)(s:jB)(Q:jA->jB->Prop)(E:jA->jB->Prop),s.heap.IsStrIter s1.heap.objs.size T z t i->Q (.ref s1.heap.objs.size) s->wpAny (model X.prog X.w) A (pyIter (.ref s1.heap.objs.size)) Q E s)->
   PIE X pins σ tg R (.ref s1.heap.objs.size) {s1 with heap:=s1.heap.push {cls:=.type T,data:=.fields #[.str z t,.int 0 0]}}:=fun T W hT self=>by
  refine⟨s1.heap.objs.size,[s1.heap.objs.size],_,_,H1,rfl,I1.kept (t':=s1.toks) fun b o e=>tD _ e,zjS W hT self,⟨_,tF _ rfl,rfl,rfl⟩,fun b hb=>?_,q⟩;have e:b=s1.heap.objs.size:=by simpa using hb
  subst e;exact I1.fpOk (yG _) (I1.hok.fresh (yG _))
 cases ha:z.cps.all (· < 128)
 ·exact wpAny_pyIter_wide ha (fin "str_iterator" (fun A hA=>Walks.strWide hA _ z t) (by decide) fun A i s Q E st h=>wpAny_pyIter_striter_wide st h)
 ·exact wpAny_pyIter_ascii ha (fin "str_ascii_iterator" (fun A hA=>Walks.strAscii hA _ z t) (by decide) fun A i s Q E st h=>wpAny_pyIter_striter_ascii st h)
theorem zeW:OpR X (tM .LtE) (fun x y H Q=>∃i j:Str,x=.str i/\y=.str j/\Q (.bl (!decide (j.cps.toList<i.cps.toList))) H):=by
 intro pins s σ H x y v u Q I rx ry h;obtain⟨i,j,rfl,rfl,q⟩:=h;obtain⟨t,rfl⟩:=rx;obtain⟨t',rfl⟩:=ry;exact PySem.P.le_str ⟨.bl _,H,I,rfl,q⟩
theorem zaf{i:Int}(hg:Gl X x)(hm:∃t,X.mg x=some (.int i t))(hd:(x==("__debug__":Str))=false:=by decide):PE X (.Name x pos) (tC (.int i)):=by
 obtain⟨t,hm⟩:=hm;exact Zf hg hm ⟨t,rfl⟩ hd
theorem znH{op:jM}{r:R2}(h:OpR X (inplaceOp op) r):PIp X op r:=fun pins s σ H x y v u Q I rx ry q=>h pins s σ H x y v u Q I rx ry q
theorem ZY(hg:Gl X x)(hm:X.mg x=none)(hv:tL x=some (.type T))(hn:x≠"__name__":=by decide)(hd:(x==("__debug__":Str))=false:=by decide):PE X (.Name x pos) (tC (.ty T)):=zlb hg hm hv rfl hn hd
theorem Sn{p:jC}{o:HO}(h:H p=none):Same H (upd H p o):=fun b u q=>by rw[zH (zB q h)];exact q
theorem Same.seqT{H':Hp}{xs:List V}(e:Same H H')(h:SqT K H a xs):SqT K H' a xs:=by
 rcases h with (h|⟨o,h⟩)|h
 ·exact .inl (.inl (e _ _ h))
 ·exact .inl (.inr ⟨o,e _ _ h⟩)
 ·exact .inr h
theorem Z8{α:Type}{xs:List α}{i:Nat}{x:α}(h:xs[i]?=some x):xs.take (i+1)=xs.take i++[x]:=by
 rw[List.take_add_one,h];rfl
theorem zlu{fr:List Nat}(outs:List V)(hσ:σ[j]?=some (some (.str z)))(hl:outs.length=z.cps.size)(hz:z.cps.size<=tI)
  (step:∀(i c:Nat)(y:V)(H1:Hp)(R:VK),z.cps[i]?=some c->outs[i]?=some y->Same H H1->(∀H2,Same H1 H2->R y H2)->te (some (.str ⟨#[c]⟩)::frees fr σ) H1 R)
  (fin:∀(H1:Hp)(D:jC),Same H H1->H1 D=none->Q (.ref D) (upd H1 D (.lst outs))):zcB fr (iStr (tVar j)) (fun _ H Q=>Q true H) te σ H Q:=by
 refine⟨_,hσ,z,rfl,fun i m us H1=>i<=z.cps.size/\m=z.cps.size-i/\us=outs.take i/\Same H H1,⟨_,yJ _,rfl,by simp,Sr _⟩,fun i m us H1 hW=>?_⟩;obtain⟨hi,hm,hu,sm⟩:=hW;refine⟨by rw[hu,xA];lia,?_⟩
 by_cases hlt:i<z.cps.size
 ·refine .inr ⟨hlt,fun v H' hy=>?_⟩
  obtain⟨rfl,c,hc,rfl⟩:=hy;have hy:outs[i]?=some outs[i]:=yA (by lia);refine iteT ?_;refine step i c outs[i] H' _ hc hy sm fun H2 s2=>⟨z.cps.size-(i+1),by lia,by lia,rfl,?_,sm.trans s2⟩;rw[hu,Z8 hy]
 ·have e:i=z.cps.size:=by lia
  refine .inl ⟨e,fun D hD=>?_⟩;have e2:us=outs:=by rw[hu,xG (by lia)]
  rw[e2];exact fin H1 D sm hD
theorem zbB:isi "tuple" "tuple"=some true:=by decide
theorem zcE:isi "int" "tuple"=some false:=by decide
theorem zbC:isi "str" "tuple"=some false:=by decide
theorem zkP:isi "bool" "tuple"=some false:=by decide
theorem zia:isi "NoneType" "tuple"=some false:=by decide
theorem zkQ:isi "list" "tuple"=some false:=by decide
theorem zkR:isi "dict" "tuple"=some false:=by decide
theorem zds:isi "tuple" "str"=some false:=by decide
theorem zdt:isi "int" "str"=some false:=by decide
theorem za7:isi "str" "str"=some true:=by decide
theorem zkS:isi "bool" "str"=some false:=by decide
theorem zib:isi "NoneType" "str"=some false:=by decide
theorem zkT:isi "list" "str"=some false:=by decide
theorem zkU:isi "dict" "str"=some false:=by decide
theorem zmN:isi "tuple" "int"=some false:=by decide
theorem zkV:isi "int" "int"=some true:=by decide
theorem zmO:isi "str" "int"=some false:=by decide
theorem zmP:isi "bool" "int"=some true:=by decide
theorem zmQ:isi "NoneType" "int"=some false:=by decide
theorem zmR:isi "list" "int"=some false:=by decide
theorem zmS:isi "dict" "int"=some false:=by decide
theorem zic:isi "int" "bool"=some false:=by decide
theorem zmT:isi "bool" "bool"=some true:=by decide
theorem zM:tL (uX "tuple")=some (.type "tuple"):=by kernel_rfl
theorem ZO:tL (uX "str")=some (.type "str"):=by kernel_rfl
theorem Z9:tL (uX "int")=some (.type "int"):=by kernel_rfl
theorem zaY:tL (uX "bool")=some (.type "bool"):=by kernel_rfl
theorem zU:tL (uX "isinstance")=some (.builtin "isinstance"):=by kernel_rfl
theorem zid:tL (uX "ord")=some (.builtin "ord"):=by kernel_rfl
theorem zie:tL (uX "abs")=some (.builtin "abs"):=by kernel_rfl
theorem zbD:tL (uX "all")=some (.builtin "all"):=by kernel_rfl
end L2
abbrev qF(P:PySem.Program)(w:PySem.World)(K:tT)(mg:PySem.Str->Option PySem.Value)(base:PySem.Heap)(k:Nat)(f:PySem.Addr)(fd:tU)(ps:List PySem.Str)(sp:L2.Sp):Prop:=L2.FnOk P w K mg base L2.CX0 (k+1) f fd ps sp
namespace D
open PySem L2
noncomputable def top(i:Nat):jF:=PySem.Challenge.pw_leastforge_k37_whole_right_papers_are_a.main.body.getD i (.Pass ⟨0,0,0,0⟩)
abbrev zbi:jF:=top 6
abbrev zcF:jF:=top 7
abbrev zaQ:jF:=top 8
abbrev zif:jF:=top 9
abbrev zbS:jF:=top 10
abbrev zig:jF:=top 11
abbrev zih:jF:=top 17
abbrev zfI:jF:=top 18
abbrev zdV:jF:=top 19
abbrev zbj:jF:=top 20
abbrev zaR:jF:=top 21
abbrev zcG:jF:=top 22
abbrev zbT:jF:=top 23
abbrev zcH:jF:=top 24
abbrev zbU:jF:=top 25
abbrev zdW:jF:=top 26
abbrev zdX:jF:=top 27
abbrev zcI:jF:=top 28
abbrev zcJ:jF:=top 29
abbrev zbV:jF:=top 32
abbrev zbk:jF:=top 36
abbrev zao:jF:=top 37
abbrev zbW:jF:=top 38
abbrev Zn:jF:=zh5 (top 41) 0
abbrev zaj:jF:=zh5 (top 41) 1
abbrev zcK:jF:=top 42
abbrev zbX:jF:=top 43
abbrev zcL:jF:=top 44
abbrev zcM:jF:=top 45
abbrev zdY:jF:=top 46
abbrev zdZ:jF:=top 47
abbrev zd0:jF:=top 48
abbrev zfJ:jF:=top 49
abbrev zaD:jF:=top 50
abbrev zcN:jF:=top 51
abbrev zii:jF:=top 52
abbrev zcO:jF:=top 53
abbrev zcP:jF:=top 54
abbrev zd1:jF:=top 55
abbrev zaS:jF:=top 57
abbrev zaE:jF:=top 58
abbrev zbl:jF:=top 59
abbrev zij:jF:=top 60
abbrev zcQ:jF:=top 62
abbrev zbm:jF:=top 63
abbrev ZZ:jF:=top 65
abbrev zaF:jF:=top 66
abbrev ZG:jF:=top 67
abbrev zcR:jF:=top 68
abbrev zlv:jF:=top 70
abbrev sBox:jF:=top 71
abbrev zlw:jF:=top 72
abbrev zlx:jF:=top 73
abbrev zfK:jF:=top 74
abbrev zik:jF:=top 75
abbrev zbn:jF:=top 76
abbrev zil:jF:=top 77
abbrev zd2:jF:=top 78
abbrev zfL:jF:=top 79
abbrev zbo:jF:=top 80
abbrev zim:jF:=top 81
abbrev zd3:jF:=top 82
abbrev zfM:jF:=top 83
abbrev zd4:jF:=top 84
abbrev zd5:jF:=top 85
abbrev zbY:jF:=top 86
abbrev zd6:jF:=top 87
abbrev zd7:jF:=top 88
abbrev zaT:jF:=top 89
abbrev zcS:jF:=top 90
abbrev zd8:jF:=top 91
abbrev zbZ:jF:=top 92
abbrev zb0:jF:=top 93
abbrev zfN:jF:=top 94
abbrev zin:jF:=top 95
abbrev sLaw:jF:=top 96
end D
namespace L2
open PySem PySem.Spec PyProof.Rows
variable{c:Prop}{i j:Int}
theorem seqI{t u:TS}{D:Ends}{σ:St}{H:Hp}(Pv:St->Hp->Prop)(h2:∀σ' H',Pv σ' H'->u D σ' H')(h1:∀ {N:St->Hp->Prop},(∀σ' H',Pv σ' H'->N σ' H')->t {D with nx:=N} σ H):tSeq t u D σ H:=h1 h2
theorem pos(n:Nat):(0:Int)<(((n+1:Nat):Int)):=by lia
end L2
abbrev qL0:List PySem.Str:=["run","expression","bound"]
abbrev qL1:List PySem.Str:=["worths"]
abbrev qL2:List PySem.Str:=["_law_box_here","_law_wide"]
abbrev qL3:List PySem.Str:=["thing"]
abbrev qL4:List PySem.Str:=["record"]
abbrev qL5:List PySem.Str:=["records"]
abbrev qL6:List PySem.Str:=["_law_box_here","_law_names_here"]
abbrev qL7:List PySem.Str:=["_law_box_here"]
abbrev qL8:List PySem.Str:=["_law_one","_law_other"]
abbrev qL9:List PySem.Str:=["_law_box_here","_law_most"]
abbrev qL10:List PySem.Str:=["_law_box_here","_law_room","_law_deep"]
abbrev qL11:List PySem.Str:=["_law_paper"]
abbrev qL12:List PySem.Str:=["_law_script","_law_k"]
abbrev qL13:List PySem.Str:=["one","other"]
abbrev qL14:List PySem.Str:=["paper","founds"]
abbrev qL15:List PySem.Str:=["_law_box_here","_law_rule_here","_law_papers"]
abbrev qL16:List PySem.Str:=["bound","name","worth"]
abbrev qL17:List PySem.Str:=["run","expressions","bound"]
abbrev qL18:List PySem.Str:=["_law_box_here","_law_scope","_law_names_here","_law_spare","_law_floors","_law_rounds"]
abbrev qL19:List PySem.Str:=["_law_box_here","_law_scope","_law_spare","_law_floors","_law_rounds"]
abbrev qL20:List PySem.Str:=["_law_box_here","_law_scopes","_law_names_here","_law_spare","_law_floors","_law_rounds"]
abbrev qL21:List PySem.Str:=["_law_box_here","_law_rule_here","_law_founds_here"]
abbrev qL22:List PySem.Str:=["_law_papers","_law_founds_here"]
abbrev qL23:List PySem.Str:=["_law_box_here","_law_rule_here","_law_papers","_law_founds_here"]
namespace D
open PySem L2
variable{b:jC}{H:Hp}{o:HO}
inductive IsBox(H:Hp)(b:jC):Prop
 |mk (a f m:Int) (_:H b=some (.lst [.int a,.int f,.int m]))
structure Step(b:jC)(H H':Hp):Prop where
 box:IsBox H' b
 keep:∀c o,c≠b->H c=some o->H' c=some o
theorem Step.refl(h:IsBox H b):Step b H H:=⟨h,fun _ _ _ e=>e⟩
theorem Step.trans{H1 H2:Hp}(x:Step b H H1)(y:Step b H1 H2):Step b H H2:=⟨y.box,fun c o hc e=>y.keep c o hc (x.keep c o hc e)⟩
theorem Step.new{p:jC}(h:IsBox H b)(hp:H p=none):Step b H (upd H p o):=by
 obtain⟨a,f,m,e⟩:=h;exact⟨⟨a,f,m,by rw[zH (zB e hp)];exact e⟩,fun c u _ e=>by rw[zH (zB e hp)];exact e⟩
theorem Step.put(a f m:Int):Step b H (upd H b (.lst [.int a,.int f,.int m])):=⟨⟨a,f,m,zj⟩,fun c o hc e=>by rw[zH hc];exact e⟩
theorem Step.keepN{H':Hp}(x:Step b H H'){c:jC}(hb:IsBox H b)(e:H c=some o)(ho:∀a f m:Int,o≠.lst [.int a,.int f,.int m]):H' c=some o:=by
 obtain⟨a,f,m,e'⟩:=hb;exact x.keep c o (zk8 e e' (ho a f m)) e
inductive spCell(K:tT)(vs:List V)(H:Hp)(Q:VK)(z3:XK):Prop
 |mk (a:jC) (ns:List Int) (k:Int) (_:vs=[.ref a,.int k]) (_:SqL K H a (ns.map V.int)) (_:0<=k) (_:∀i:Int,Q (.int i) H)
inductive spBox(K:tT)(vs:List V)(H:Hp)(Q:VK)(z3:XK):Prop
 |mk (a:jC) (ns:List Int) (k:Int) (_:vs=[.ref a,.int k]) (_:SqL K H a (ns.map V.int)) (_:0<=k) (_:∀(x f m:Int)(p:jC),H p=none->Q (.ref p) (upd H p (.lst [.int x,.int f,.int m])))
inductive spTake(vs:List V)(H:Hp)(Q:VK)(z3:XK):Prop
 |mk (b:jC) (n:Int) (_:vs=[.ref b,.int n]) (_:IsBox H b) (_:0<n) (_:n<10 ^ 61) (_:∀(r:Int)(H':Hp),0<=r->r<n->Step b H H'->Q (.int r) H')
def Signs(x:Str):Prop:=∀c∈x.cps.toList,32<=c/\c<=126/\c≠34/\c≠37
inductive spText(vs:List V)(H:Hp)(Q:VK)(z3:XK):Prop
 |mk (b:jC) (n:Int) (_:vs=[.ref b,.int n]) (_:IsBox H b) (_:0<=n) (_:n<10000) (_:∀(x:Str)(H':Hp),(x.length:Int)<=n->Signs x->Step b H H'->Q (.str x) H')
inductive spNumber(vs:List V)(H:Hp)(Q:VK)(z3:XK):Prop
 |mk (b:jC) (_:vs=[.ref b]) (_:IsBox H b) (_:∀(i:Int)(H':Hp),-(10 ^ 60)<i->i<10 ^ 60->Step b H H'->Q (.int i) H')
theorem zmU:FnScope ["_law_script","_law_k"] ["_law_script","_law_k"] (zq zlv):=mkSc rfl (by decide +kernel)
theorem zly(F:Fun K "_law_cell" "_law_cell" zlv f fd)(m_len:mg "len"=none):qF P w K mg base k f fd qL12 (spCell K):=by
 refine F.ok zmU (by rintro _ _ _ _ ⟨_,_,_,rfl,_⟩;rfl) fun _ _ _ _ H vs Q E hr h=>?_;obtain⟨a,ns,j,rfl,hS,h0,q⟩:=h;refine⟨_,(zm (zN (zE zfz (pv 1) (zw zL rfl m_len tG (zc (pv 0) zi)) (nomark _)) (zo (zt (zF zD (pv 0) (pv 1) (fun _ _=>rfl)))) zA)
  (zo (zt (zJ Zi (zJ za5 zn (pv 1)) zn)))),nm2 ?_⟩
 intros;refine⟨_,rfl,_,rfl,_,_,rfl,.inl ⟨_,hS,rfl⟩,_,_,rfl,rfl,_,rfl,?_⟩;refine ite2 (fun c=>?_) (fun c=>?_)
 ·have c':j<(((ns.map V.int).length:Nat):Int):=of_decide_eq_true c
  rw[yB] at c';have hj:j.toNat<ns.length:=by lia
  have ej:j=((j.toNat:Nat):Int):=by lia
  have at1:atI (ns.map V.int) ((j.toNat:Nat):Int)=some (.int ns[j.toNat]):=zu (by rw[yE,yA hj];rfl);rw[←ej] at at1;exact⟨_,rfl,_,rfl,a,_,j,.int ns[j.toNat],rfl,rfl,hS,at1,q _⟩
 ·exact⟨_,rfl,_,_,rfl,rfl,.inl ⟨by decide,by decide⟩,_,_,rfl,rfl,q _⟩
theorem zjT:FnScope ["_law_script","_law_k","_law_cell_here","_law_number_here","_law_mixed"] ["_law_script","_law_k"] (zq sBox):=mkSc rfl (by decide +kernel)
theorem zmV(F:Fun K "_law_box" "_law_box" sBox f fd)(G_lcell:Have P w K mg base "_law_cell" k qL12 (spCell K)):qF P w K mg base k f fd qL12 (spBox K):=by
 refine F.ok zjT (by rintro _ _ _ _ ⟨_,_,_,rfl,_⟩;rfl) fun _ _ _ _ H vs Q E hr h=>?_;obtain⟨a,ns,j,rfl,hS,h0,q⟩:=h;refine⟨_,(zm (zC (i:=2) zjT.nd rfl (Or.inl rfl) (zy G_lcell hr rfl (zc (pv 0) (zc (pv 1) zi))))
  (zm (zC (i:=3) zjT.nd rfl (Or.inl rfl) (zJ zaL (zJ za5 (zJ Zi (zJ zaL (pv 2) zn) zn) zn) zn))
  (zm (zC (i:=4) zjT.nd rfl (Or.inl rfl) (zJ zaL (zJ Zi (zJ za5 (pv 3) (zJ Zi (zJ zaL (pv 3) zn) zn)) (zJ za5 zn (pv 1))) zn))
  (zm (zN (zE zX (zJ zaL (zy G_lcell hr rfl (zc (pv 0) (zc zn zi))) zn) zn (nomark _)) (zo (zt (zO (zc (pv 2) (zc zn (zc (pv 4) zi)))))) zA)
  (zo (zt (zO (zc (pv 4) (zc zn (zc zn zi)))))))))),nm5 ?_⟩
 intros;refine⟨_,rfl,_,rfl,a,ns,j,rfl,hS,h0,fun c=>?_⟩;refine⟨_,rfl,_,_,rfl,rfl,pos _,_,_,rfl,rfl,_,_,rfl,rfl,.inr ⟨by decide,by decide⟩,_,_,rfl,rfl,pos _,?_⟩;have b1:0<=(c % 2147483629+11)*69621 % 2147483629:=wZ _ (by decide);have b2:(c % 2147483629+11)*69621 % 2147483629<2147483629:=wK _ (by decide);refine⟨_,rfl,_,rfl,_,_,rfl,rfl,pos _,_,_,rfl,rfl,_,_,rfl,rfl,.inl ⟨by lia,by lia⟩,_,rfl,_,_,rfl,rfl,.inl ⟨by decide,by decide⟩,_,_,rfl,rfl,_,_,rfl,rfl,pos _,?_⟩;refine⟨_,rfl,a,ns,0,rfl,hS,Int.le_refl 0,fun c0=>?_⟩;refine⟨_,_,rfl,rfl,pos _,rfl,_,rfl,?_⟩;refine ite2 (fun e=>?_) (fun e=>?_)
 ·exact⟨_,rfl,_,rfl,zl3,fun p hp=>q _ _ _ p hp⟩
 ·exact⟨_,rfl,zl3,fun p hp=>q _ _ _ p hp⟩
theorem zgu:FnScope ["_law_box_here","_law_wide","_law_found"] ["_law_box_here","_law_wide"] (zq zlw):=mkSc rfl (by decide +kernel)
theorem zmW{n:Int}(h0:0<n)(h:n<10 ^ 61):n.natAbs.log2<9000:=by
 have h1:n.natAbs<2 ^ 210:=by
  have:(10:Int) ^ 61<=2 ^ 210:=by decide
  lia
 have:=(uU (by lia)).mpr h1;lia
theorem zlz(F:Fun K "_law_take" "_law_take" zlw f fd):qF P w K mg base k f fd qL2 spTake:=by
 refine F.ok zgu (by rintro _ _ _ _ ⟨_,_,rfl,_⟩;rfl) fun _ _ _ _ H vs Q E hr h=>?_;obtain⟨b,n,rfl,⟨a0,f0,m,hb⟩,hn,hn2,q⟩:=h;refine⟨_,(zm (zN (zaO (zE zX (zF zD (pv 0) zn (fun _ _=>rfl)) zn (nomark _)) (zak (zE Z7 (zF zD (pv 0) zn (fun _ _=>rfl)) (zG (zc zn (zc (zca za6 zn) zi))) (by rfl)))).pt (zm (zaK (zF zD (pv 0) zn (fun _ _=>rfl)) (zcs (pv 0) zn zbv))
  (zo (zaK zn (zcs (pv 0) zn zbv)))) zA)
  (zm (zN (zE zX (zF zD (pv 0) zn (fun _ _=>rfl)) zn (nomark _)) (zm (zC (i:=2) zgu.nd rfl (Or.inl rfl) (zJ zaL (zF zD (pv 0) zn (fun _ _=>rfl)) (pv 1)))
  (zm (zaK (zJ zjR (zF zD (pv 0) zn (fun _ _=>rfl)) (pv 1)) (zcs (pv 0) zn zbv))
  (zo (zt (pv 2))))) zA)
  (zm (zaK (zJ zaL (zJ Zi (zJ za5 (zF zD (pv 0) zn (fun _ _=>rfl)) zn) zn) zn) (zcs (pv 0) zn zbv))
  (zm (zC (i:=2) zgu.nd rfl (Or.inl rfl) (zJ zaL (zJ za5 (zF zD (pv 0) zn (fun _ _=>rfl)) (zJ Zi (zJ zaL (zF zD (pv 0) zn (fun _ _=>rfl)) zn) zn)) zn))
  (zm (zN (zE zdP (pv 1) (zJ zcu zn zn) (nomark _)) (zo (zC (i:=2) zgu.nd rfl (Or.inl rfl) (zJ Zi (zJ zcu (pv 2) zn) (pv 2)))) zA)
  (zo (zt (zJ zaL (pv 2) (pv 1))))))))),nm6 ?_⟩
 intros;refine seqI (fun σ' H'=>σ'=[some (.ref b),some (.int n),none]/\Step b H H') (fun σ' H1 h1=>?_) (fun rest=>?_)
 ·obtain⟨rfl,st1⟩:=h1
  obtain⟨a,f,m,hb1⟩:=st1.box;refine⟨_,rfl,b,_,1,.int f,rfl,rfl,Sl hb1,rfl,rfl,_,rfl,?_⟩;refine ite2 (fun e=>?_) (fun e=>?_)
  ·refine⟨_,rfl,b,_,0,.int a,rfl,rfl,Sl hb1,rfl,_,rfl,_,_,rfl,rfl,hn,?_⟩
   refine⟨_,rfl,b,_,0,.int a,rfl,rfl,Sl hb1,rfl,_,rfl,_,_,rfl,rfl,⟨hn,zmW hn hn2⟩,_,rfl,b,_,0,0,rfl,rfl,hb1,rfl,?_⟩;exact⟨_,rfl,q _ _ (wZ _ (by lia)) (wK _ hn) (st1.trans (Step.put _ _ _))⟩
  ·refine⟨_,rfl,b,_,0,.int a,rfl,rfl,Sl hb1,rfl,_,_,rfl,rfl,.inr ⟨by decide,by decide⟩,_,_,rfl,rfl,_,_,rfl,rfl,pos _,_,rfl,b,_,0,0,rfl,rfl,hb1,rfl,?_⟩
   refine⟨_,rfl,b,_,0,_,rfl,rfl,Sl zj,rfl,_,rfl,b,_,0,_,rfl,rfl,Sl zj,rfl,_,_,rfl,rfl,pos _,_,_,rfl,rfl,_,_,rfl,rfl,.inr ⟨?_,?_⟩,_,_,rfl,rfl,pos _,?_⟩
   ·have:=wZ ((a*69621+104729) % 2147483587) (show (16807:Int)≠0 by decide)
    lia
   ·have:=wK ((a*69621+104729) % 2147483587) (show (0:Int)<16807 by decide)
    lia
   dsimp only[zW];refine seqI (t:=tIfS _ _ _) (fun σ' H'=>∃x:Int,σ'=[some (.ref b),some (.int n),some (.int x)]/\Step b H H') (fun σ' H1 h1=>?_) (fun rest=>?_)
   ·obtain⟨x,rfl,st2⟩:=h1
    exact⟨_,rfl,_,rfl,_,_,rfl,rfl,hn,q _ _ (wZ _ (by lia)) (wK _ hn) st2⟩
   ·refine⟨_,rfl,_,_,rfl,rfl,⟨by decide,by decide,by decide⟩,_,_,rfl,rfl,_,rfl,?_⟩
    refine ite2 (fun e=>?_) (fun e=>?_)
    ·refine⟨_,rfl,_,_,rfl,rfl,⟨by decide,by decide,?_⟩,_,rfl,_,_,rfl,rfl,rest _ _ ⟨_,rfl,st1.trans (Step.put _ _ _)⟩⟩
     have l1:=wZ ((a*69621+104729) % 2147483587*((a*69621+104729) % 2147483587 % 16807+1)) (show (2147483579:Int)≠0 by decide);have l2:=wK ((a*69621+104729) % 2147483587*((a*69621+104729) % 2147483587 % 16807+1)) (show (0:Int)<2147483579 by decide);lia
    ·exact rest _ _ ⟨_,rfl,st1.trans (Step.put _ _ _)⟩
 ·refine⟨_,rfl,b,_,1,.int f0,rfl,rfl,Sl hb,rfl,rfl,_,rfl,?_⟩
  refine ite2 (fun e=>?_) (fun e=>?_)
  ·refine⟨_,rfl,b,_,0,.int a0,rfl,rfl,Sl hb,rfl,_,rfl,zl2,fun t ht=>?_⟩
   have hb2:upd H t (.tup [.int 0,.int (-1)]) b=some (.lst [.int a0,.int f0,.int m]):=by rw[zH (zB hb ht)];exact hb
   refine⟨t,_,rfl,.inr (Sq zj),rfl,rfl,_,rfl,?_⟩;refine ite2 (fun e=>?_) (fun e=>?_)
   ·refine⟨_,rfl,b,_,2,.int m,rfl,rfl,Sl hb2,rfl,_,rfl,b,_,0,0,rfl,rfl,hb2,rfl,?_⟩
    refine⟨_,rfl,b,_,1,1,rfl,rfl,zj,rfl,?_⟩;exact rest _ _ ⟨rfl,((Step.new ⟨_,_,_,hb⟩ ht).trans (Step.put _ _ _)).trans (Step.put _ _ _)⟩
   ·exact rest _ _ ⟨rfl,Step.new ⟨_,_,_,hb⟩ ht⟩
  ·refine iteF ?_
   exact rest _ _ ⟨rfl,Step.refl ⟨_,_,_,hb⟩⟩
variable{H H':Hp}{v:V}{vs:List V}{p:jC}{o:HO}{n:Nat}
inductive W where
 |num (i:Int)
 |txt (x:Str)
 |lst (ws:List W)
mutual
noncomputable def W.size:W->Int
 |.num _=>1
 |.txt x=>1+(x.length:Int)
 |.lst ws=>1+sizes ws
noncomputable def sizes:List W->Int
 |[]=>0
 |w::r=>w.size+sizes r
end
mutual
noncomputable def W.depth:W->Nat
 |.num _=>0
 |.txt _=>0
 |.lst ws=>1+depths ws
noncomputable def depths:List W->Nat
 |[]=>0
 |w::r=>max w.depth (depths r)
end
mutual
def W.Ok:W->Prop
 |.num i=>-(10 ^ 60)<i/\i<10 ^ 60
 |.txt x=>x.length<=400/\Signs x
 |.lst ws=>ws.length<=60/\Oks ws
def Oks:List W->Prop
 |[]=>True
 |w::r=>w.Ok/\Oks r
end
theorem zg3(ws:List W)(w:W):sizes (ws++[w])=sizes ws+w.size:=by
 induction ws with
 |nil=>simp[sizes]
 |cons x r ih=>simp only[xJ,sizes,ih];lia
theorem zfO(ws:List W)(w:W):depths (ws++[w])=max (depths ws) w.depth:=by
 induction ws with
 |nil=>simp[depths]
 |cons x r ih=>simp only[xJ,depths,ih];lia
theorem zjU(ws:List W)(w:W):Oks (ws++[w]) ↔ Oks ws/\w.Ok:=by
 induction ws with
 |nil=>simp[Oks]
 |cons x r ih=>simp only[xJ,Oks,ih,and_assoc]
theorem zcT{ws:List W}(h:Oks ws):∀w∈ws,w.Ok:=by
 induction ws with
 |nil=>intro w hw;cases hw
 |cons x r ih=>
  intro w hw;rcases yV.mp hw with rfl|hw
  ·exact h.1
  ·exact ih h.2 w hw
theorem Z0{ws:List W}:∀w∈ws,w.depth<=depths ws:=by
 induction ws with
 |nil=>intro w hw;cases hw
 |cons x r ih=>
  intro w hw;simp only[depths];rcases yV.mp hw with rfl|hw
  ·lia
  ·have:=ih w hw
   lia
inductive RW(H:Hp):V->W->Prop where
 |num (i:Int):RW H (.int i) (.num i)
 |txt (x:Str):RW H (.str x) (.txt x)
 |lst {a:jC}{vs:List V}{ws:List W}:H a=some (.tup vs)->vs.length=ws.length->(∀(i:Nat)(v:V)(w:W),vs[i]?=some v->ws[i]?=some w->RW H v w)->RW H (.ref a) (.lst ws)
structure RWs(H:Hp)(vs:List V)(ws:List W):Prop where
 len:vs.length=ws.length
 at':∀(i:Nat)(v:V)(w:W),vs[i]?=some v->ws[i]?=some w->RW H v w
def Tups(H H':Hp):Prop:=∀a vs,H a=some (.tup vs)->H' a=some (.tup vs)
theorem RW.mono(t:Tups H H'){w:W}(h:RW H v w):RW H' v w:=by
 induction h with
 |num i=>exact .num i
 |txt x=>exact .txt x
 |lst e l _ ih=>exact .lst (t _ _ e) l ih
theorem RWs.mono(t:Tups H H'){ws:List W}(h:RWs H vs ws):RWs H' vs ws:=⟨h.len,fun i v w a b=>(h.at' i v w a b).mono t⟩
theorem RWs.snoc{ws:List W}{w:W}(h:RWs H vs ws)(x:RW H v w):RWs H (vs++[v]) (ws++[w]):=by
 refine⟨by rw[yD,yD,h.len];rfl,fun i v' w' a b=>?_⟩
 by_cases hi:i<vs.length
 ·rw[yN hi] at a
  rw[yN (h.len▸hi)] at b;exact h.at' i v' w' a b
 ·rw[yR (by lia)] at a
  rw[yR (by have:=h.len;lia)] at b;have hi0:i-vs.length=0:=by
   have:=(yC.mp a).1;simp at this;lia
  have hi1:i-ws.length=0:=by have:=h.len;lia
  rw[hi0] at a;rw[hi1] at b;have e1:v=v':=by simpa using a
  have e2:w=w':=by simpa using b
  rw[←e1,←e2];exact x
theorem Step.tups{b:jC}(x:Step b H H')(hb:IsBox H b):Tups H H':=fun a vs e=>x.keepN hb e (fun _ _ _ z=>nomatch z)
theorem zjV(h:H p=none):Tups H (upd H p o):=fun a vs e=>by rw[zH (zB e h)];exact e
theorem zcl{xs:List V}(h:H p=some (.lst xs)):Tups H (upd H p o):=fun a vs e=>by rw[zH (zk8 e h (fun z=>nomatch z))];exact e
noncomputable def zbE:Str:=uX " !#$&'()*+,-./0123456789:;<=>?@ABCDEFGHIJKLMNOPQRSTUVWXYZ"
noncomputable def zbF:Str:=uX "[\\]^_`abcdefghijklmnopqrstuvwxyz{|}~"
theorem zav:(zbE++zbF).length=93:=by decide
theorem zio:∀c∈(zbE++zbF).cps.toList,32<=c/\c<=126/\c≠34/\c≠37:=by decide
theorem Zt(x:Str):x.cps.toList.length=x.length:=by simp[Str.length]
theorem zap(x y:Str):(x++y).cps.toList=x.cps.toList++y.cps.toList:=by
 show (x.cps++y.cps).toList=_;simp
theorem zcU(x y:Str):(x++y).length=x.length+y.length:=by
 rw[←Zt,zap,yD,Zt,Zt]
mutual
theorem zjW:∀w:W,1<=w.size
 |.num _=>by simp[W.size]
 |.txt x=>by simp only[W.size];lia
 |.lst ws=>by have:=sizes_nn ws;simp only[W.size];lia
theorem sizes_nn:∀ws:List W,0<=sizes ws
 |[]=>by simp[sizes]
 |w::r=>by have h1:=zjW w;have h2:=sizes_nn r;simp only[sizes];lia
end
theorem zdu:FnScope ["_law_box_here","_law_most","_law_signs","_law_found","_law_k"] ["_law_box_here","_law_most"] (zq zlx):=mkSc rfl (by decide +kernel)
theorem small(h:n<=1000000):n<=tI:=yM h (by decide)
theorem zlA(F:Fun K "_law_text" "_law_text" zlx f fd)(G_ltake:Have P w K mg base "_law_take" k qL2 spTake)(m_len:mg "len"=none)(m_range:mg "range"=none):
  qF P w K mg base k f fd qL9 spText:=by
 refine F.ok zdu (by rintro _ _ _ _ ⟨_,_,rfl,_⟩;rfl) fun _ _ _ _ H vs Q E hr h=>?_;obtain⟨b,n,rfl,hb,hn,hn2,q⟩:=h;refine⟨_,(zm (zC (i:=2) zdu.nd rfl (Or.inl rfl) zr)
  (zm (zC (i:=2) zdu.nd rfl (Or.inl rfl) (zJ zai (pv 2) zr))
  (zm (zC (i:=3) zdu.nd rfl (Or.inl rfl) zr)
  (zm (Z6 tN rfl (Zc rfl m_range (zc (zy G_ltake hr rfl (zc (pv 0) (zc (zJ Zi (pv 1) zn) zi))) zi)) (zS (i:=4) zdu.nd rfl (Or.inl rfl)) (zo (zC (i:=3) zdu.nd rfl (Or.inl rfl) (zJ zai (pv 3) (zF zeN (pv 2) (zy G_ltake hr rfl (zc (pv 0) (zc (zw zL rfl m_len tG (zc (pv 2) zi)) zi))) (fun _ _=>rfl))))))
  (zo (zt (pv 3))))))),nm5 ?_⟩
 intros;refine⟨_,rfl,zbE,zbF,rfl,rfl,small (by decide),?_⟩;refine⟨_,rfl,_,rfl,_,_,rfl,rfl,b,n+1,rfl,hb,by lia,by lia,fun r H1 h0 h1 st=>?_⟩;refine⟨r,rfl,by lia,by lia,zam (n:=r.toNat) (fun i σ' H'=>∃(x:Str)(o:Option V),σ'=[some (.ref b),some (.int n),some (.str (zbE++zbF)),some (.str x),o]/\x.length=i/\Signs x/\Step b H H')
  ⟨uX "",none,rfl,rfl,?_,st⟩ (fun i σ' H' hi h=>?_) (fun σ' H' h=>?_)⟩
 ·intro c hc
  have e0:(uX "").cps.toList=[]:=by decide
  rw[e0] at hc;cases hc
 ·obtain⟨x,o,rfl,hx,sx,st1⟩:=h
  refine⟨_,rfl,_,rfl,_,rfl,_,rfl,_,_,rfl,⟨small (by rw[zav];decide),rfl⟩,b,_,rfl,st1.box,by rw[zav];decide,by rw[zav];decide,fun r2 H2 r0 r1 st2=>?_⟩;rw[zav] at r1;have hr2:r2.toNat<(zbE++zbF).cps.toList.length:=by rw[Zt,zav];lia
  have er2:r2=((r2.toNat:Nat):Int):=by lia
  have a1:atI (zbE++zbF).cps.toList ((r2.toNat:Nat):Int)=some (zbE++zbF).cps.toList[r2.toNat]:=zu (yA hr2);rw[←er2] at a1;refine⟨_,r2,_,rfl,rfl,small (by rw[zav];decide),a1,x,_,rfl,rfl,small ?_,?_⟩
  ·have:(Str.mk #[(zbE++zbF).cps.toList[r2.toNat]]).length=1:=rfl
   rw[this];lia
  ·refine⟨_,_,rfl,?_,?_,st1.trans st2⟩
   ·rw[zcU,hx]
    rfl
   ·intro c hc
    rw[zap] at hc;rcases yT.mp hc with hc|hc
    ·exact sx c hc
    ·have:c=(zbE++zbF).cps.toList[r2.toNat]:=by simpa using hc
     rw[this];exact zio _ (xD _)
 ·obtain⟨x,o,rfl,hx,sx,st1⟩:=h
  exact⟨_,rfl,q x H' (by lia) sx st1⟩
theorem zgv:FnScope ["_law_box_here","_law_kind"] ["_law_box_here"] (zq zfK):=mkSc rfl (by decide +kernel)
theorem ziq(F:Fun K "_law_number" "_law_number" zfK f fd)(G_ltake:Have P w K mg base "_law_take" k qL2 spTake):
  qF P w K mg base k f fd qL7 spNumber:=by
 refine F.ok zgv (by rintro _ _ _ _ ⟨_,rfl,_⟩;rfl) fun _ _ _ _ H vs Q E hr h=>?_;obtain⟨b,rfl,hb,q⟩:=h;refine⟨_,(zm (zC (i:=1) zgv.nd rfl (Or.inl rfl) (zy G_ltake hr rfl (zc (pv 0) (zc zn zi))))
  (zm (zN (zE zX (pv 1) zn (nomark _)) (zo (zt (zJ Zi (zJ Zk (zy G_ltake hr rfl (zc (pv 0) (zc (zJ Zk (zJ za5 zn (zJ zcu zn zn)) zn) zi))) (zJ zcu zn zn)) zn))) zA)
  (zm (zN (zE zX (pv 1) zn (nomark _)) (zo (zt (zF zD (zO (zc (zJ Zk (zJ zcu zn zn) zn) (zc (zJ Zk zn (zJ zcu zn zn)) (zc zn (zc (zca za6 zn) zi))))) (zy G_ltake hr rfl (zc (pv 0) (zc zn zi))) (fun _ _=>rfl)))) zA)
  (zo (zt (zJ Zk (zy G_ltake hr rfl (zc (pv 0) (zc zn zi))) zn)))))),nm4 ?_⟩
 intros;refine⟨_,rfl,b,4,rfl,hb,by decide,by decide,fun r H1 h0 h1 st=>?_⟩;refine⟨_,rfl,rfl,_,rfl,?_⟩;refine ite2 (fun e=>?_) (fun e=>?_)
 ·refine⟨_,rfl,_,_,rfl,rfl,⟨by decide,by decide,by decide⟩,_,_,rfl,rfl,.inl ⟨by decide,by decide⟩,_,_,rfl,rfl,b,_,rfl,st.box,by decide,by decide,fun r2 H2 r0 r1 st2=>?_⟩
  refine⟨_,_,rfl,rfl,⟨by decide,by decide,by decide⟩,_,_,rfl,rfl,_,_,rfl,rfl,q _ _ ?_ ?_ (st.trans st2)⟩
  ·have:(10:Int) ^ (60:Int).toNat=10 ^ 60:=rfl
   lia
  ·have:(10:Int) ^ (60:Int).toNat=10 ^ 60:=rfl
   have r1:r2<2*10 ^ 60-1:=r1;lia
 ·refine⟨_,rfl,rfl,_,rfl,?_⟩
  refine ite2 (fun e=>?_) (fun e=>?_)
  ·refine⟨_,_,rfl,rfl,⟨by decide,by decide,by decide⟩,_,_,rfl,rfl,_,_,rfl,rfl,⟨by decide,by decide,by decide⟩,_,_,rfl,rfl,_,rfl,zl4,fun p hp=>?_⟩
   have st1:=st.trans (Step.new (o:=.lst [.int (10 ^ 60-1),.int (1-10 ^ 60),.int 0,.int (-1)]) st.box hp);refine⟨_,rfl,b,4,rfl,st1.box,by decide,by decide,fun r2 H2 r0 r1 st2=>?_⟩;have hp2:H2 p=some (.lst [.int (10 ^ 60-1),.int (1-10 ^ 60),.int 0,.int (-1)]):=by
    obtain⟨a',f',m',e'⟩:=st.box;exact st2.keep p _ (zB e' hp).symm zj
   have hcases:r2=0\/r2=1\/r2=2\/r2=3:=by lia
   rcases hcases with rfl|rfl|rfl|rfl
   ·exact⟨p,_,0,_,rfl,rfl,Sl hp2,rfl,q _ _ (by decide) (by decide) (st1.trans st2)⟩
   ·exact⟨p,_,1,_,rfl,rfl,Sl hp2,rfl,q _ _ (by decide) (by decide) (st1.trans st2)⟩
   ·exact⟨p,_,2,_,rfl,rfl,Sl hp2,rfl,q _ _ (by decide) (by decide) (st1.trans st2)⟩
   ·exact⟨p,_,3,_,rfl,rfl,Sl hp2,rfl,q _ _ (by decide) (by decide) (st1.trans st2)⟩
  ·refine⟨_,rfl,b,12,rfl,st.box,by decide,by decide,fun r2 H2 r0 r1 st2=>?_⟩
   exact⟨_,_,rfl,rfl,q _ _ (by have:(3:Int)<10 ^ 60:=(by decide);lia) (by have:(12:Int)<10 ^ 60:=(by decide);lia) (st.trans st2)⟩
inductive spWorth(n:Nat)(vs:List V)(H:Hp)(Q:VK)(z3:XK):Prop
 |mk (b:jC) (room deep:Int) (_:vs=[.ref b,.int room,.int deep]) (_:IsBox H b) (_:1<=room) (_:room<1000) (_:0<=deep) (_:deep<n) (_:∀(v:V)(x:W)(H':Hp),RW H' v x->x.Ok->(x.depth:Int)<=deep->x.size<=16*room->Step b H H'->Q v H')
theorem zaU:FnScope ["_law_box_here","_law_room","_law_deep","_law_kind","_law_wide","_law_left","_law_found","_law_k","_law_share"] ["_law_box_here","_law_room","_law_deep"] (zq zik):=mkSc rfl (by decide +kernel)
theorem zjX(F:Fun K "_law_worth" "_law_worth" zik f fd)(G_ltake:Have P w K mg base "_law_take" k qL2 spTake)(G_ltext:Have P w K mg base "_law_text" k qL9 spText)
  (G_lnumber:Have P w K mg base "_law_number" k qL7 spNumber) (G_lworth:Have P w K mg base "_law_worth" k qL10 (spWorth n))
  (m_min:mg "min"=none) (m_range:mg "range"=none) (m_tuple:mg "tuple"=none):qF P w K mg base k f fd qL10 (spWorth (n+1)):=by
 refine F.ok zaU (by rintro _ _ _ _ ⟨_,_,_,rfl,_⟩;rfl) fun _ _ _ _ H vs Q E hr h=>?_;obtain⟨b,room,deep,rfl,hb,hr1,hr2,hd0,hd1,q⟩:=h;refine⟨_,(zm (zC (i:=3) zaU.nd rfl (Or.inl rfl) (zy G_ltake hr rfl (zc (pv 0) (zc zn zi))))
  (zm (zN (zaM (zE zX (pv 3) zn (nomark _)) (zae (zaO (zE zX (pv 3) zn (nomark _)) (zak (zE zfz (pv 2) zn (nomark _)))).pt)).pt (zo (zt (zy G_lnumber hr rfl (zc (pv 0) zi)))) zA)
  (zm (zN (zE zX (pv 3) zn (nomark _)) (zo (zt (zy G_ltext hr rfl (zc (pv 0) (zc zn zi))))) zA)
  (zm (zC (i:=4) zaU.nd rfl (Or.inl rfl) (zy G_ltake hr rfl (zc (pv 0) (zc (zw (zcv rfl) rfl m_min PyProof.Rows.boot_min (zc (pv 1) (zc zn zi))) zi))))
  (zm (zC (i:=5) zaU.nd rfl (Or.inl rfl) (zJ Zk (pv 1) zn))
  (zm (zC (i:=6) zaU.nd rfl (Or.inl rfl) (zO zi))
  (zm (Z6 tN rfl (Zc rfl m_range (zc (pv 4) zi)) (zS (i:=7) zaU.nd rfl (Or.inl rfl)) (zm (zC (i:=8) zaU.nd rfl (Or.inl rfl) (zJ Zi zn (zy G_ltake hr rfl (zc (pv 0) (zc (zJ Zk (pv 5) (zJ Zk (zJ Zk (pv 4) zn) (pv 7))) zi)))))
  (zm (ZW (zbx tO tQ tP ZM (pv 6) (zc (zy G_lworth hr rfl (zc (pv 0) (zc (pv 8) (zc (zJ Zk (pv 2) zn) zi)))) zi)))
  (zo (zC (i:=5) zaU.nd rfl (Or.inl rfl) (zJ Zk (pv 5) (pv 8)))))))
  (zo (zt (zI zP rfl m_tuple zM (zc (pv 6) zi))))))))))),nm8 ?_⟩
 intros;refine⟨_,rfl,b,3,rfl,hb,by decide,by decide,fun kd H1 k0 k1 st=>?_⟩;dsimp only[zW];refine seqI (t:=tIfS _ _ _) (fun σ' H'=>σ'=[some (.ref b),some (.int room),some (.int deep),some (.int kd),none,none,none,none,none]/\Step b H H'/\(kd=1\/(kd=2/\1<=deep))) (fun σ' H2 h2=>?_) (fun rest=>?_)
 ·obtain⟨rfl,st2,hk⟩:=h2
  refine⟨_,rfl,rfl,_,rfl,?_⟩;refine ite2 (fun e=>?_) (fun e=>?_)
  ·refine⟨_,rfl,b,15,rfl,st2.box,by decide,by decide,fun x H3 hx sx st3=>?_⟩
   refine q _ _ _ (.txt x) ⟨by lia,sx⟩ (by show ((0:Nat):Int)<=deep;lia) ?_ (st2.trans st3);show 1+(x.length:Int)<=16*room;lia
  ·have e':¬V.int kd=V.int 1:=of_decide_eq_false (xM.mpr e)
   have hk2:kd=2/\1<=deep:=by
    rcases hk with hk|hk
    ·exact absurd (by rw[hk]) e'
    ·exact hk
   refine⟨_,rfl,_,rfl,room,61,rfl,b,_,rfl,st2.box,?_,?_,fun wide H3 w0 w1 st3=>?_⟩
   ·split<;>lia
   ·split<;>lia
   have w2:wide<room/\wide<61:=by
    revert w1
    split<;>intro w1<;>lia
   refine⟨_,rfl,_,_,rfl,rfl,zl0,fun l hl=>?_⟩;have st4:=(st2.trans st3).trans (Step.new (o:=.lst []) st3.box hl);have lb:l≠b:=by
    obtain⟨a',f',m',e'⟩:=st3.box;exact (zB e' hl).symm
   have hlH:H l=none:=by
    cases e:H l with
    |none=>rfl
    |some o=>
     have:=(st2.trans st3).keep l o lb e;rw[hl] at this;cases this
   refine⟨_,rfl,wide,rfl,by lia,by lia,zam (n:=wide.toNat) (fun i σ' H'=>∃(left:Int)(vs:List V)(ws:List W)(o1 o2:Option V),
     σ'=[some (.ref b),some (.int room),some (.int deep),some (.int kd),some (.int wide),some (.int left),some (.ref l),o1,o2]/\H' l=some (.lst vs)/\RWs H' vs ws/\ws.length=i/\Oks ws/\(depths ws:Int)<=deep-1 /\
     sizes ws<=16*(room-1-left)/\wide-i<=left/\Step b H H')
    ⟨room-1,[],[],none,none,rfl,zj,⟨rfl,fun i v w e=>by simp at e⟩,rfl,trivial,by show ((0:Nat):Int)<=deep-1;lia,by simp[sizes],by lia,st4⟩ (fun i σ' H' hi h=>?_) (fun σ' H' h=>?_)⟩
   ·obtain⟨left,vs,ws,o1,o2,rfl,hl',hrw,hlen,hok,hdp,hsz,hleft,st5⟩:=h
    have nn:=sizes_nn ws;refine⟨_,rfl,_,rfl,_,rfl,_,_,rfl,rfl,_,rfl,_,_,rfl,rfl,_,_,rfl,rfl,b,_,rfl,st5.box,?_,?_,fun r H5 r0 r1 st6=>?_⟩
    ·lia
    ·have:(2000:Int)<10 ^ 61:=by decide
     lia
    have hl5:H5 l=some (.lst vs):=st6.keep l _ lb hl';refine⟨_,_,rfl,rfl,_,rfl,.inl ⟨rfl,_,Sl hl5⟩,_,rfl,_,rfl,_,rfl,_,_,rfl,rfl,b,_,_,rfl,st6.box,?_,?_,?_,?_,fun v x H6 rx okx dx sx st7=>?_⟩
    ·lia
    ·lia
    ·lia
    ·lia
    have hl6:H6 l=some (.lst vs):=st7.keep l _ lb hl5;have hlv:vs.length<=61:=by have:=hrw.len;lia
    refine⟨l,vs,v,rfl,rfl,hl6,yZ hlv (by decide),?_⟩;refine⟨_,rfl,_,rfl,_,_,rfl,rfl,?_⟩;have t6:Tups H' H6:=fun a us e=>(st7.tups st6.box) a us ((st6.tups st5.box) a us e);have t7:=zcl (o:=.lst (vs++[v])) hl6;refine⟨_,vs++[v],ws++[x],_,_,rfl,zj,((hrw.mono t6).mono t7).snoc (rx.mono t7),?_,(zjU _ _).mpr ⟨hok,okx⟩,?_,?_,?_,?_⟩
    ·rw[yD,hlen];rfl
    ·rw[zfO];lia
    ·rw[zg3];lia
    ·lia
    ·refine⟨?_,fun c o hc e=>?_⟩
     ·obtain⟨a',f',m',e'⟩:=st7.box
      exact⟨a',f',m',by rw[zH lb.symm];exact e'⟩
     ·rw[zH (zB e hlH)]
      exact (st5.trans (st6.trans st7)).keep c o hc e
   ·obtain⟨left,vs,ws,o1,o2,rfl,hl',hrw,hlen,hok,hdp,hsz,hleft,st5⟩:=h
    refine⟨_,rfl,l,vs,rfl,.inl ⟨Sl hl',fun t ht=>?_⟩⟩;have t6:=zjV (o:=.tup vs) ht;refine q _ (.lst ws) _ (.lst zj hrw.len fun i v x a b=>(hrw.at' i v x a b).mono t6) ⟨by lia,hok⟩ ?_ ?_ (st5.trans (Step.new st5.box ht))
    ·show ((1+depths ws:Nat):Int)<=deep
     lia
    ·show 1+sizes ws<=16*room
     lia
 ·refine⟨_,rfl,rfl,_,rfl,?_⟩
  have fin:∀H2,Step b H H2->spNumber [.ref b] H2 Q E0:=fun H2 st2=>⟨b,rfl,st2.box,fun i H3 i0 i1 st3=>q _ (.num i) _ (.num i) ⟨i0,i1⟩ (by show ((0:Nat):Int)<=deep;lia) (by show (1:Int)<=16*room;lia) (st2.trans st3)⟩;refine ite2 (fun e=>?_) (fun e=>?_)
  ·refine iteT ?_
   exact⟨_,rfl,fin H1 st⟩
  ·have e':¬V.int kd=V.int 0:=of_decide_eq_false (xM.mpr e)
   have kne:kd≠0:=fun z=>e' (by rw[z]);refine⟨_,rfl,rfl,_,rfl,?_⟩;refine ite2 (fun e2=>?_) (fun e2=>?_)
   ·have e2':V.int kd=V.int 2:=of_decide_eq_true e2
    have kd2:kd=2:=by injection e2'
    refine⟨_,rfl,_,_,rfl,rfl,_,rfl,?_⟩;refine ite2 (fun e3=>?_) (fun e3=>?_)
    ·exact⟨_,rfl,fin H1 st⟩
    ·have e3':¬deep<1:=of_decide_eq_false (xM.mpr e3)
     exact rest _ _ ⟨rfl,st,.inr ⟨kd2,by lia⟩⟩
   ·have e2':¬V.int kd=V.int 2:=of_decide_eq_false (xM.mpr e2)
    have kne2:kd≠2:=fun z=>e2' (by rw[z]);refine iteF ?_;exact rest _ _ ⟨rfl,st,.inl (by lia)⟩
inductive T where
 |non
 |bl (b:Bool)
 |num (i:Int)
 |txt (x:Str)
 |tup (ts:List T)
 |lst
 |dic
mutual
noncomputable def T.size:T->Int
 |.txt x=>1+(x.length:Int)
 |.tup ts=>1+tsizes ts
 |_=>1
noncomputable def tsizes:List T->Int
 |[]=>0
 |t::r=>t.size+tsizes r
end
mutual
noncomputable def T.nodes:T->Nat
 |.tup ts=>1+tnodes ts
 |_=>1
noncomputable def tnodes:List T->Nat
 |[]=>0
 |t::r=>t.nodes+tnodes r
end
noncomputable def zcc(c:Nat):Bool:=decide (32<=c)&&(decide (c<=126)&&(decide (c≠34)&&decide (c≠37)))
def zbp(x:Str):Bool:=x.cps.toList.all zcc
def zdv(lv:Int):T->Bool
 |.num i=>decide (-(10 ^ 60)<i/\i<10 ^ 60)
 |.txt x=>decide (x.length<=400)&&zbp x
 |.tup ts=>decide (ts.length<=60)&&decide (0<lv)
 |_=>false
mutual
noncomputable def zcV:T->Int->Bool
 |.tup ts,lv=>decide (ts.length<=60)&&decide (0<lv)&&fitsA ts (lv-1)
 |.num i,_=>decide (-(10 ^ 60)<i/\i<10 ^ 60)
 |.txt x,_=>decide (x.length<=400)&&zbp x
 |.non,_=>false
 |.bl _,_=>false
 |.lst,_=>false
 |.dic,_=>false
noncomputable def fitsA:List T->Int->Bool
 |[],_=>true
 |t::r,lv=>zcV t lv&&fitsA r lv
end
def zag(t:T):Bool:=zcV t 12&&decide (t.size<=1000)
mutual
def T.Sm:T->Prop
 |.txt x=>x.length<=100000
 |.tup ts=>ts.length<=100000/\Sms ts
 |_=>True
def Sms:List T->Prop
 |[]=>True
 |t::r=>t.Sm/\Sms r
end
mutual
theorem zeX:∀t:T,1<=t.size
 |.non=>by simp[T.size]
 |.bl _=>by simp[T.size]
 |.num _=>by simp[T.size]
 |.lst=>by simp[T.size]
 |.dic=>by simp[T.size]
 |.txt x=>by simp only[T.size];lia
 |.tup ts=>by have:=tsizes_nn ts;simp only[T.size];lia
theorem tsizes_nn:∀ts:List T,0<=tsizes ts
 |[]=>by simp[tsizes]
 |t::r=>by have h1:=zeX t;have h2:=tsizes_nn r;simp only[tsizes];lia
end
theorem zlB{ts:List T}(h:Sms ts):∀t∈ts,t.Sm:=by
 induction ts with
 |nil=>intro t ht;cases ht
 |cons x r ih=>
  intro t ht;rcases yV.mp ht with rfl|ht
  ·exact h.1
  ·exact ih h.2 t ht
inductive RT(H:Hp):V->T->Prop where
 |non:RT H .non .non
 |bl (b:Bool):RT H (.bl b) (.bl b)
 |num (i:Int):RT H (.int i) (.num i)
 |txt (x:Str):RT H (.str x) (.txt x)
 |tup {a:jC}{vs:List V}{ts:List T}:H a=some (.tup vs)->vs.length=ts.length->(∀(i:Nat)(v:V)(t:T),vs[i]?=some v->ts[i]?=some t->RT H v t)->RT H (.ref a) (.tup ts)
 |lst {a:jC}{vs:List V}:H a=some (.lst vs)->RT H (.ref a) .lst
 |dic {a:jC}{kvs:List (Key×V)}:H a=some (.dK kvs)->RT H (.ref a) .dic
theorem RT.mono{H H':Hp}(s:Same H H'){v:V}{t:T}(h:RT H v t):RT H' v t:=by
 induction h with
 |non=>exact .non
 |bl b=>exact .bl b
 |num i=>exact .num i
 |txt x=>exact .txt x
 |tup e l _ ih=>exact .tup (s _ _ e) l ih
 |lst e=>exact .lst (s _ _ e)
 |dic e=>exact .dic (s _ _ e)
noncomputable def zkW:T->Bool
 |.num _=>true
 |_=>false
inductive spIsNum(vs:List V)(H:Hp)(Q:VK)(z3:XK):Prop
 |mk (v:V) (t:T) (_:vs=[v]) (_:RT H v t) (_:Q (.bl (zkW t)) H)
inductive spIsSign(vs:List V)(H:Hp)(Q:VK)(z3:XK):Prop
 |mk (c:Nat) (_:vs=[.str ⟨#[c]⟩]) (_:Q (.bl (zcc c)) H)
inductive spFits(vs:List V)(H:Hp)(Q:VK)(z3:XK):Prop
 |mk (v:V) (t:T) (lv:Int) (_:vs=[v,.int lv]) (_:RT H v t) (_:t.Sm) (_:∀H',Same H H'->Q (.bl (zdv lv t)) H')
noncomputable def Z2:T->Int
 |.txt x=>1+(x.length:Int)
 |_=>1
inductive spSizeT(vs:List V)(H:Hp)(Q:VK)(z3:XK):Prop
 |mk (v:V) (t:T) (_:vs=[v]) (_:RT H v t) (_:t.Sm) (_:Q (.int (Z2 t)) H)
inductive spIsWorth(vs:List V)(H:Hp)(Q:VK)(z3:XK):Prop
 |mk (v:V) (t:T) (_:vs=[v]) (_:RT H v t) (_:t.Sm) (_:∀H',Same H H'->Q (.bl (zag t)) H')
theorem zkX(a b:Nat):decide (([a]:List Nat)<[b])=decide (a<b):=by
 rw[xL,decide_eq_true_iff,decide_eq_true_iff]
 constructor
 ·intro h
  rcases uE.mp h with h|⟨_,h⟩
  ·exact h
  ·exact absurd h (List.not_lt_nil _)
 ·exact fun h=>uE.mpr (.inl h)
theorem zjY:FnScope ["thing"] ["thing"] (zq zbi):=mkSc rfl (by decide +kernel)
theorem zjZ(F:Fun K "is_number" "is_number" zbi f fd)(m_isi:mg "isinstance"=none)(m_int:mg "int"=none)(m_bool:mg "bool"=none):qF P w K mg base k f fd qL3 spIsNum:=by
 refine F.ok zjY (by rintro _ _ _ _ ⟨_,_,rfl,_⟩;rfl) fun _ _ _ _ H vs Q E hr h=>?_;obtain⟨v,t,rfl,rt,q⟩:=h;refine⟨_,(zo (zt (Z5 (zw Zv rfl m_isi zU (zc (pv 0) (zc (ZY rfl m_int Z9) zi))) (zal (zgo (zw Zv rfl m_isi zU (zc (pv 0) (zc (ZY rfl m_bool zaY) zi)))))))),?_⟩;cases rt with
 |non=>exact⟨_,rfl,_,_,_,_,rfl,.non,zmQ,_,rfl,iteF q⟩
 |bl b=>exact⟨_,rfl,_,_,_,_,rfl,.bl b,zmP,_,rfl,iteT ⟨_,rfl,_,_,_,_,rfl,.bl b,zmT,_,rfl,q⟩⟩
 |num i=>exact⟨_,rfl,_,_,_,_,rfl,.int i,zkV,_,rfl,iteT ⟨_,rfl,_,_,_,_,rfl,.int i,zic,_,rfl,q⟩⟩
 |txt x=>exact⟨_,rfl,_,_,_,_,rfl,.str x,zmO,_,rfl,iteF q⟩
 |tup e _ _=>exact⟨_,rfl,_,_,_,_,rfl,.tup e,zmN,_,rfl,iteF q⟩
 |lst e=>exact⟨_,rfl,_,_,_,_,rfl,.lst e,zmR,_,rfl,iteF q⟩
 |dic e=>exact⟨_,rfl,_,_,_,_,rfl,.dK e,zmS,_,rfl,iteF q⟩
theorem zir:FnScope ["sign"] ["sign"] (zq zcF):=mkSc rfl (by decide +kernel)
theorem zg4(c d:Nat):(!decide (V.str ⟨#[c]⟩=V.str ⟨#[d]⟩))=decide (c≠d):=by
 rw[xL];simp
theorem zis(F:Fun K "is_sign" "is_sign" zcF f fd)(m_ord:mg "ord"=none)(m_PERCENT:∃t,mg "PERCENT"=some (.int 37 t)):qF P w K mg base k f fd ["sign"] spIsSign:=by
 refine F.ok zir (by rintro _ _ _ _ ⟨_,rfl,_⟩;rfl) fun _ _ _ _ H vs Q E hr h=>?_;obtain⟨c,rfl,q⟩:=h;refine⟨_,(zo (zt (Z5 (zjD zeW zeW zr (pv 0) zr) (Z5 (zV zeD (pv 0) zr (nomark _)) (zal (zV zeD (zw (zjF) rfl m_ord zid (zc (pv 0) zi)) (zaf rfl m_PERCENT) (nomark _))))))),?_⟩;have e32:(uX " ").cps.toList=[32]:=by decide
 have e126:(uX "~").cps.toList=[126]:=by decide
 have e34:uX "\""=⟨#[34]⟩:=by decide
 have l1:(!decide ((Str.mk #[c]).cps.toList<(uX " ").cps.toList))=decide (32<=c):=by rw[e32];show (!decide (([c]:List Nat)<[32]))=_;rw[zkX,xL];simp
 have l2:(!decide ((uX "~").cps.toList<(Str.mk #[c]).cps.toList))=decide (c<=126):=by rw[e126];show (!decide (([126]:List Nat)<[c]))=_;rw[zkX,xL];simp
 have l3:(!decide (V.str ⟨#[c]⟩=V.str (uX "\"")))=decide (c≠34):=by rw[e34];exact zg4 c 34
 have l4:(!decide (V.int ((((Str.mk #[c]).cps.getD 0 0:Nat)):Int)=V.int 37))=decide (c≠37):=by
  show (!decide (V.int (c:Int)=V.int 37))=decide (c≠37);rw[xL];simp;lia
 refine⟨_,rfl,_,_,rfl,rfl,_,rfl,?_⟩;have fin:∀b:Bool,zcc c=b->Q (.bl b) H:=fun b e=>by rw[←e];exact q
 refine ite2 (fun e=>?_) (fun e=>?_)
 ·have e1:decide (32<=c)=true:=by rw[←l1];exact e
  refine⟨_,_,rfl,rfl,_,rfl,?_⟩;refine ite2 (fun e=>?_) (fun e=>?_)
  ·have e2:decide (c<=126)=true:=by rw[←l2];exact e
   refine⟨_,rfl,rfl,_,rfl,?_⟩;refine ite2 (fun e=>?_) (fun e=>?_)
   ·have e3:decide (c≠34)=true:=by rw[←l3];exact e
    refine⟨_,rfl,_,rfl,rfl,rfl,fin _ ?_⟩;rw[l4];unfold zcc;rw[e1,e2,e3]
    rfl
   ·have e3:decide (c≠34)=false:=by rw[←l3];exact xM.mpr e
    refine fin _ ?_;unfold zcc;rw[e1,e2,e3]
    rfl
  ·have e2:decide (c<=126)=false:=by rw[←l2];exact xM.mpr e
   refine fin _ ?_;unfold zcc;rw[e1,e2]
   rfl
 ·have e1:decide (32<=c)=false:=by rw[←l1];exact xM.mpr e
  refine⟨_,rfl,iteF (fin _ ?_)⟩;unfold zcc;rw[e1]
  rfl
theorem zlC:FnScope ["thing","levels"] ["thing","levels"] (zq zaQ):=mkSc rfl (by decide +kernel)
theorem all_map{α:Type}(p:α->Bool)(l:List α):(l.map p).all id=l.all p:=by rw[uR];rfl
theorem zlD(F:Fun K "fits_alone" "fits_alone" zaQ f fd)(G_is_number:Have P w K mg base "is_number" k qL3 spIsNum)(G_is_sign:Have P w K mg base "is_sign" k ["sign"] spIsSign)
  (m_isi:mg "isinstance"=none) (m_str:mg "str"=none) (m_tuple:mg "tuple"=none) (m_len:mg "len"=none) (m_all:mg "all"=none) (m_abs:mg "abs"=none) (m_MOST_SIGNS:∃t,mg "MOST_SIGNS"=some (.int 400 t)) (m_MOST_ITEMS:∃t,mg "MOST_ITEMS"=some (.int 60 t)):
  qF P w K mg base k f fd ["thing","levels"] spFits:=by
 refine F.ok zlC (by rintro _ _ _ _ ⟨_,_,_,rfl,_⟩;rfl) fun _ _ _ _ H vs Q E hr h=>?_;obtain⟨v,t,lv,rfl,rt,sm,q⟩:=h;refine⟨_,(zm (zN (zR (zy G_is_number hr rfl (zc (pv 0) zi))) (zo (zt (zV zfz (zw (zjE) rfl m_abs zie (zc (pv 0) zi)) (zJ zcu zn zn) (nomark _)))) zA)
  (zm (zN (zR (zw Zv rfl m_isi zU (zc (pv 0) (zc (ZY rfl m_str ZO) zi)))) (zo (zt (Z5 (zV zlf (zw zL rfl m_len tG (zc (pv 0) zi)) (zaf rfl m_MOST_SIGNS) (nomark _)) (zal (zw (Z4 rfl) rfl m_all zbD (zc (Zj [] [] rfl rfl (by decide) rfl (by decide) rfl (by decide) trivial rfl trivial (zmM (pv 0)) (fun C s H fp=>⟨Zd,(zy G_is_sign hr rfl (zc (pv 0) zi))⟩)) zi)))))) zA)
  (zo (zt (Z5 (zw Zv rfl m_isi zU (zc (pv 0) (zc (ZY rfl m_tuple zM) zi))) (Z5 (zV zlf (zw zL rfl m_len tG (zc (pv 0) zi)) (zaf rfl m_MOST_ITEMS) (nomark _)) (zal (zV zdP (pv 1) zn (nomark _))))))))),nm3 ?_⟩
 intros;have q0:∀b:Bool,zdv lv t=b->Q (.bl b) H:=fun b e=>by rw[←e];exact q H (Sr H)
 refine⟨_,rfl,v,t,rfl,rt,_,rfl,?_⟩;cases rt with
 |non=>exact iteF ⟨_,rfl,_,_,_,_,rfl,.non,zib,_,rfl,iteF ⟨_,rfl,_,_,_,_,rfl,.non,zia,_,rfl,iteF (q0 _ rfl)⟩⟩
 |bl b=>exact iteF ⟨_,rfl,_,_,_,_,rfl,.bl b,zkS,_,rfl,iteF ⟨_,rfl,_,_,_,_,rfl,.bl b,zkP,_,rfl,iteF (q0 _ rfl)⟩⟩
 |lst e=>exact iteF ⟨_,rfl,_,_,_,_,rfl,.lst e,zkT,_,rfl,iteF ⟨_,rfl,_,_,_,_,rfl,.lst e,zkQ,_,rfl,iteF (q0 _ rfl)⟩⟩
 |dic e=>exact iteF ⟨_,rfl,_,_,_,_,rfl,.dK e,zkU,_,rfl,iteF ⟨_,rfl,_,_,_,_,rfl,.dK e,zkR,_,rfl,iteF (q0 _ rfl)⟩⟩
 |num i=>
  refine iteT ⟨_,rfl,i,rfl,_,_,rfl,rfl,⟨by decide,by decide,by decide⟩,_,_,rfl,rfl,q0 _ ?_⟩;show decide (-(10 ^ 60)<i/\i<10 ^ 60)=decide ((if i<0 then -i else i)<10 ^ (60:Int).toNat);have e:(10:Int) ^ (60:Int).toNat=10 ^ 60:=rfl;rw[e,xL,decide_eq_true_iff,decide_eq_true_iff]
  constructor
  ·intro h
   split<;>lia
  ·split<;>intro h<;>lia
 |txt x=>
  refine iteF ⟨_,rfl,_,_,_,_,rfl,.str x,za7,_,rfl,iteT ?_⟩;have hx:x.length<=100000:=sm;refine⟨_,rfl,_,_,rfl,⟨small (by lia),rfl⟩,_,_,rfl,rfl,_,rfl,?_⟩;refine ite2 (fun e=>?_) (fun e=>?_)
  ·have e1:(x.length:Int)<=400:=of_decide_eq_true e
   dsimp +zetaDelta only [tRet,tOp,tC,tCB,zat,tNil];have hsz:x.cps.size=x.length:=rfl;refine zlu (x.cps.toList.map fun c=>V.bl (zcc c)) (by rfl) (by rw[yB];simp) (by rw[hsz];exact small (by lia)) (fun i c y H1 R hc hy s1 hR=>?_) (fun H1 D s1 hD=>?_)
   ·have hc':x.cps.toList[i]?=some c:=by simpa using hc
    rw[yE,hc'] at hy;cases hy;exact⟨_,rfl,c,rfl,hR _ (Sr _)⟩
   ·refine⟨D,x.cps.toList.map zcc,rfl,Sl ?_,?_⟩
    ·rw[zj,wG];rfl
    ·have:=q _ (s1.trans (Sn (o:=.lst (x.cps.toList.map fun c=>V.bl (zcc c))) hD))
     rw[all_map];have e3:zdv lv (.txt x)=x.cps.toList.all zcc:=by
      show (decide (x.length<=400)&&zbp x)=_;rw[decide_eq_true (by lia)]
      rfl
     rw[←e3];exact this
  ·have e1:¬(x.length:Int)<=400:=of_decide_eq_false (xM.mpr e)
   refine q0 _ ?_;show (decide (x.length<=400)&&zbp x)=_;rw[decide_eq_false (by lia)]
   rfl
 | @tup a vs ts e l _=>
  refine iteF ⟨_,rfl,_,_,_,_,rfl,.tup e,zds,_,rfl,iteF ?_⟩;refine⟨_,rfl,_,_,_,_,rfl,.tup e,zbB,_,rfl,iteT ?_⟩;refine⟨_,rfl,_,_,rfl,.inr ⟨_,Sq e,rfl⟩,_,_,rfl,rfl,_,rfl,?_⟩;refine ite2 (fun c=>?_) (fun c=>?_)
  ·have c1:(vs.length:Int)<=60:=of_decide_eq_true c
   refine⟨_,rfl,_,_,rfl,rfl,q0 _ ?_⟩;show (decide (ts.length<=60)&&decide (0<lv))=_;rw[decide_eq_true (by lia),uP]
  ·have c1:¬(vs.length:Int)<=60:=of_decide_eq_false (xM.mpr c)
   refine q0 _ ?_;show (decide (ts.length<=60)&&decide (0<lv))=_;rw[decide_eq_false (by lia),uJ]
theorem zj0:FnScope ["worth"] ["worth"] (zq zif):=mkSc rfl (by decide +kernel)
theorem zj1(F:Fun K "size_alone" "size_alone" zif f fd)(m_isi:mg "isinstance"=none)(m_str:mg "str"=none)(m_len:mg "len"=none):qF P w K mg base k f fd ["worth"] spSizeT:=by
 refine F.ok zj0 (by rintro _ _ _ _ ⟨_,_,rfl,_⟩;rfl) fun _ _ _ _ H vs Q E hr h=>?_;obtain⟨v,t,rfl,rt,sm,q⟩:=h;refine⟨_,zo (zt (ZB (zR (zw Zv rfl m_isi zU (zc (pv 0) (zc (ZY rfl m_str ZO) zi)))) (zJ Zi zn (zw zL rfl m_len tG (zc (pv 0) zi))) zn)),?_⟩;cases rt with
 |non=>exact⟨_,rfl,_,_,_,_,rfl,.non,zib,_,rfl,iteF q⟩
 |bl b=>exact⟨_,rfl,_,_,_,_,rfl,.bl b,zkS,_,rfl,iteF q⟩
 |num i=>exact⟨_,rfl,_,_,_,_,rfl,.int i,zdt,_,rfl,iteF q⟩
 |lst e=>exact⟨_,rfl,_,_,_,_,rfl,.lst e,zkT,_,rfl,iteF q⟩
 |dic e=>exact⟨_,rfl,_,_,_,_,rfl,.dK e,zkU,_,rfl,iteF q⟩
 |tup e _ _=>exact⟨_,rfl,_,_,_,_,rfl,.tup e,zds,_,rfl,iteF q⟩
 |txt x=>
  have hx:x.length<=100000:=sm;refine⟨_,rfl,_,_,_,_,rfl,.str x,za7,_,rfl,iteT ?_⟩;exact⟨_,rfl,_,_,rfl,⟨small (by lia),rfl⟩,_,_,rfl,rfl,q⟩
variable{H0 H H':Hp}{vs:List V}{ps:List (T×Int)}{p:T×Int}{lv:Int}
structure StR(H0 H:Hp)(vs:List V)(ps:List (T×Int)):Prop where
 len:vs.length=ps.length
 at':∀(i:Nat)(v:V)(p:T×Int),vs[i]?=some v->ps[i]?=some p->∃(a:jC)(u:V),v=.ref a/\H a=some (.tup [u,.int p.2])/\RT H0 u p.1
theorem StR.mono(s:Tups H H')(h:StR H0 H vs ps):StR H0 H' vs ps:=
 ⟨h.len,fun i v p e1 e2=>let ⟨a,u,x,y,z⟩:=h.at' i v p e1 e2;⟨a,u,x,s _ _ y,z⟩⟩
theorem StR.nil:StR H0 H [] []:=⟨rfl,fun i v p e=>by simp at e⟩
theorem StR.app{us:List V}{qs:List (T×Int)}(h:StR H0 H vs ps)(g:StR H0 H us qs):StR H0 H (vs++us) (ps++qs):=by
 refine⟨by rw[yD,yD,h.len,g.len],fun i v p e1 e2=>?_⟩
 by_cases hi:i<vs.length
 ·rw[yN hi] at e1
  rw[yN (h.len▸hi)] at e2;exact h.at' i v p e1 e2
 ·rw[yR (by lia)] at e1
  rw[yR (by have:=h.len;lia)] at e2;rw[h.len] at e1;exact g.at' _ v p e1 e2
theorem StR.one{a:jC}{u:V}(e:H a=some (.tup [u,.int p.2]))(r:RT H0 u p.1):StR H0 H [.ref a] [p]:=by
 refine⟨rfl,fun i v' p' e1 e2=>?_⟩;cases i with
 |zero=>
  have q1:V.ref a=v':=by simpa using e1
  have q2:p=p':=by simpa using e2
  subst q1 q2;exact⟨a,u,rfl,e,r⟩
 |succ j=>simp at e1
theorem StR.front{v:V}(h:StR H0 H (vs++[v]) (ps++[p])):StR H0 H vs ps/\∃(a:jC)(u:V),v=.ref a/\H a=some (.tup [u,.int p.2])/\RT H0 u p.1:=by
 have l:=h.len;rw[yD,yD] at l;have l':vs.length=ps.length:=by simpa using l
 refine⟨⟨l',fun i v' p' e1 e2=>?_⟩,?_⟩
 ·have h1:=(yC.mp e1).1
  exact h.at' i v' p' (by rw[yN h1];exact e1) (by rw[yN (l'▸h1)];exact e2)
 ·exact h.at' vs.length v p (by rw[yR (yG _)];simp) (by rw[l',yR (yG _)];simp)
theorem zaw(s:Same H H'):Tups H H':=fun a vs e=>s a _ e
theorem zeY{H1:Hp}{l:jC}{o:HO}(s:Same H H1)(hl:H l=none):Same H (upd H1 l o):=fun c u e=>by rw[zH (zB e hl)];exact s c u e
noncomputable def szs:List (T×Int)->Int
 |[]=>0
 |p::r=>p.1.size+szs r
noncomputable def nds:List (T×Int)->Nat
 |[]=>0
 |p::r=>p.1.nodes+nds r
def fts:List (T×Int)->Bool
 |[]=>true
 |p::r=>zcV p.1 p.2&&fts r
theorem zit(a b:List (T×Int)):szs (a++b)=szs a+szs b:=by
 induction a with
 |nil=>simp[szs]
 |cons p r ih=>simp only[xJ,szs,ih];lia
theorem ziu(a b:List (T×Int)):nds (a++b)=nds a+nds b:=by
 induction a with
 |nil=>simp[nds]
 |cons p r ih=>simp only[xJ,nds,ih];lia
theorem ziv(a b:List (T×Int)):fts (a++b)=(fts a&&fts b):=by
 induction a with
 |nil=>simp[fts]
 |cons p r ih=>simp only[xJ,fts,ih,uL]
theorem zkY:∀ps:List (T×Int),0<=szs ps
 |[]=>by simp[szs]
 |p::r=>by have h1:=zeX p.1;have h2:=zkY r;simp only[szs];lia
theorem zlE(ts:List T)(lv:Int):szs (ts.map fun t=>(t,lv))=tsizes ts:=by
 induction ts with
 |nil=>rfl
 |cons t r ih=>simp only[yW,szs,tsizes,ih]
theorem zlF(ts:List T)(lv:Int):nds (ts.map fun t=>(t,lv))=tnodes ts:=by
 induction ts with
 |nil=>rfl
 |cons t r ih=>simp only[yW,nds,tnodes,ih]
theorem zlG(ts:List T)(lv:Int):fts (ts.map fun t=>(t,lv))=fitsA ts lv:=by
 induction ts with
 |nil=>rfl
 |cons t r ih=>simp only[yW,fts,fitsA,ih]
def valB(ps:List (T×Int))(whole:Int):Bool:=fts ps&&decide (whole+szs ps<=1000)
theorem zg5{t:T}(h:zdv lv t=false):zcV t lv=false:=by
 cases t with
 |tup ts=>
  have h:(decide (ts.length<=60)&&decide (0<lv))=false:=h;simp only[zcV,h,uJ]
 |num i=>exact h
 |txt x=>exact h
 |non=>rfl
 |bl b=>rfl
 |lst=>rfl
 |dic=>rfl
theorem zg6{t:T}(h:zdv lv t=true)(hn:∀ts,t≠.tup ts):zcV t lv=true/\t.size=Z2 t:=by
 cases t with
 |tup ts=>exact absurd rfl (hn ts)
 |num i=>exact⟨h,rfl⟩
 |txt x=>exact⟨h,rfl⟩
 |non=>cases h
 |bl b=>cases h
 |lst=>cases h
 |dic=>cases h
theorem zg7(t:T):Z2 t<=t.size/\1<=Z2 t:=by
 cases t with
 |tup ts=>have:=tsizes_nn ts;simp only[Z2,T.size];lia
 |txt x=>simp only[Z2,T.size];lia
 |_=>simp[Z2,T.size]
theorem Z3:FnScope ["thing","waiting","whole","pair","item","levels"] ["thing"] (zq zbS):=mkSc rfl (by decide +kernel)
theorem zg8(F:Fun K "is_worth" "is_worth" zbS f fd)(G_fits_alone:Have P w K mg base "fits_alone" k ["thing","levels"] spFits)(G_size_alone:Have P w K mg base "size_alone" k ["worth"] spSizeT)
  (m_isi:mg "isinstance"=none) (m_tuple:mg "tuple"=none) (m_len:mg "len"=none) (m_MOST_DEPTH:∃t,mg "MOST_DEPTH"=some (.int 12 t)) (m_MOST_SIZE:∃t,mg "MOST_SIZE"=some (.int 1000 t)):
  qF P w K mg base k f fd qL3 spIsWorth:=by
 refine F.ok Z3 (by rintro _ _ _ _ ⟨_,_,rfl,_⟩;rfl) fun _ _ _ _ H vs Q E hr h=>?_;obtain⟨v,t,rfl,rt,sm,q⟩:=h;refine⟨_,(zm (zC (i:=1) Z3.nd rfl (Or.inl rfl) (zO (zc (zG (zc (pv 0) (zc (zaf rfl m_MOST_DEPTH) zi))) zi)))
  (zm (zC (i:=2) Z3.nd rfl (Or.inl rfl) zn)
  (zm (zbt tN (zE zdP (zw zL rfl m_len tG (zc (pv 1) zi)) zn (nomark _)) (zm (zC (i:=3) Z3.nd rfl (Or.inl rfl) (zmJ tO PySem.F.slot_list_pop PySem.F.type_list_pop zmK (pv 1)))
  (zm (zC (i:=4) Z3.nd rfl (Or.inl rfl) (zF zK (pv 3) zn (fun _ _=>rfl)))
  (zm (zC (i:=5) Z3.nd rfl (Or.inr rfl) (zF zK (pv 3) zn (fun _ _=>rfl)))
  (zm (zN (Zh (zR (zy G_fits_alone hr rfl (zc (pv 4) (zc (pv 5) zi))))) (zo (zt zbe)) zA)
  (zm (zmA (i:=2) Z3.nd rfl (Or.inl rfl) (zy G_size_alone hr rfl (zc (pv 4) zi)) (znH zle))
  (zm (zN (zE zdP (pv 2) (zaf rfl m_MOST_SIZE) (nomark _)) (zo (zt zbe)) zA)
  (zo (zN (zR (zw Zv rfl m_isi zU (zc (pv 4) (zc (ZY rfl m_tuple zM) zi)))) (zo (ZW (zbx tO PySem.F.slot_list_extend PySem.F.type_list_extend zh1 (pv 1) (zc (Zj [5] ["levels"] rfl rfl (by decide) rfl (by decide) rfl (by decide) ⟨rfl,trivial⟩ rfl ⟨⟨rfl,rfl,Or.inr (Or.inl rfl),(by show (some NameKind.cell:Option NameKind)≠some .local;decide),⟨_,rfl⟩⟩,trivial⟩ (zct (pv 4)) (fun C s H fp=>⟨Zd,(zG (zc (pv 0) (zc (zJ Zk (pv 1) zn) zi)))⟩)) zi)))) zA)))))))))
  (zo (zt zbe))))),nm4 ?_⟩
 intros;refine⟨_,rfl,zl2,fun a ha=>?_⟩;refine⟨zl1,fun l hl=>?_⟩;have s1:Same H (upd (upd H a (.tup [v,.int 12])) l (.lst [.ref a])):=(Sn ha).trans (Sn hl);have hlH:H l=none:=by
  cases e:H l with
  |none=>rfl
  |some o=>have:=Sn (o:=.tup [v,.int 12]) ha l o e;rw[hl] at this;cases this
 have ea:upd (upd H a (.tup [v,.int 12])) l (.lst [.ref a]) a=some (.tup [v,.int 12]):=by rw[zH (zB zj hl)];exact zj
 have st0:StR H (upd (upd H a (.tup [v,.int 12])) l (.lst [.ref a])) [.ref a] [(t,12)]:=StR.one (p:=(t,12)) ea rt;refine⟨fun m σ' H'=>∃(vs:List V)(ps:List (T×Int))(whole:Int)(o3 o4 o5:Option V),σ'=[some v,some (.ref l),some (.int whole),o3,o4,o5]/\H' l=some (.lst vs)/\StR H H' vs ps/\m=nds ps/\0<=whole/\whole<=1000 /\
   (vs.length:Int)<=60*whole+1/\(∀p∈ps,p.1.Sm)/\valB ps whole=zag t/\Same H H',
  ⟨_,[.ref a],[(t,12)],0,none,none,none,rfl,zj,st0,rfl,Int.le_refl _,by decide,by simp,fun p hp=>by rw[yI.mp hp];exact sm,?_,s1⟩,fun m σ' H' hW=>?_⟩
 ·unfold valB zag
  simp only[fts,szs,wY]
  congr 2
  rw[eq_iff_iff]
  constructor<;>intro h<;>lia
 obtain⟨vs,ps,whole,o3,o4,o5,rfl,hlv,hst,hm,hw0,hw1,hvl,hsm,hval,sH⟩:=hW;refine⟨_,rfl,_,_,rfl,.inl ⟨_,Sl hlv,rfl⟩,_,_,rfl,rfl,_,rfl,?_⟩;refine ite2 (fun c=>?_) (fun c=>?_)
 ·have c1:(0:Int)<vs.length:=of_decide_eq_true c
  refine⟨_,fun _ _ h=>h,?_⟩;rcases uF vs with rfl|⟨vs',vl,e⟩
  ·simp at c1
  rw[uG] at e;subst e;rcases uF ps with rfl|⟨ps',p,e⟩
  ·have:=hst.len;simp at this
  rw[uG] at e;subst e;obtain⟨hst',ap,u,rfl,hap,rtu⟩:=hst.front;have ed:(vs'++[V.ref ap]).dropLast=vs':=List.dropLast_concat;have smp:p.1.Sm:=hsm p (by simp);refine⟨_,rfl,.inl ⟨rfl,_,Sl hlv⟩,l,_,.ref ap,rfl,rfl,hlv,by simp,?_⟩;rw[ed];have sH1:Same H (upd H' l (.lst vs')):=zeY sH hlH;have hap1:upd H' l (.lst vs') ap=some (.tup [u,.int p.2]):=zcl hlv _ _ hap;refine⟨_,rfl,ap,_,0,u,rfl,rfl,Sq hap1,rfl,?_⟩;refine⟨_,rfl,ap,_,1,.int p.2,rfl,rfl,Sq hap1,rfl,?_⟩;refine⟨_,rfl,_,rfl,u,p.1,p.2,rfl,rtu.mono sH1,smp,fun H2 s2=>⟨_,rfl,?_⟩⟩;have vb:valB (ps'++[p]) whole=((fts ps'&&zcV p.1 p.2)&&decide (whole+(szs ps'+p.1.size)<=1000)):=by
   unfold valB;rw[ziv,zit];simp only[fts,szs,wY]
   congr 2
   rw[eq_iff_iff]
   constructor<;>intro h<;>lia
  have hsn:=zkY ps';have hal:=zg7 p.1;have sH2:=sH1.trans s2;cases hal1:zdv p.2 p.1 with
  |false=>
   refine iteT ?_;have:zag t=false:=by
    rw[←hval,vb,zg5 hal1];simp
   have fin:=q _ sH2;rw[this] at fin;exact fin
  |true=>
   refine iteF ?_;refine⟨_,rfl,_,rfl,u,p.1,rfl,rtu.mono sH2,smp,_,_,rfl,rfl,?_⟩;refine⟨_,rfl,_,_,rfl,rfl,_,rfl,?_⟩;refine ite2 (fun c2=>?_) (fun c2=>?_)
   ·have c3:(1000:Int)<whole+Z2 p.1:=of_decide_eq_true c2
    have:zag t=false:=by
     rw[←hval,vb,decide_eq_false (by lia)];simp
    have fin:=q _ sH2;rw[this] at fin;exact fin
   ·have c3:¬(1000:Int)<whole+Z2 p.1:=of_decide_eq_false (xM.mpr c2)
    have hl2:H2 l=some (.lst vs'):=s2 _ _ zj;have hst2:StR H H2 vs' ps':=(hst'.mono (zcl hlv)).mono (zaw s2);have hvl':((vs'.length:Nat):Int)+1<=60*whole+1:=by
     rw[yD] at hvl;have:([V.ref ap]:List V).length=1:=rfl;lia
    have hnd:nds (ps'++[p])=nds ps'+p.1.nodes:=by rw[ziu];simp[nds]
    have hsm':∀p'∈ps',p'.1.Sm:=fun p' hp'=>hsm p' (wR _ hp');have leaf:∀(t':T),p.1=t'->(∀ts,t'≠.tup ts)->p.1.nodes=1->∃m',m'<m/\∃(vs:List V)(ps:List (T×Int))(whole':Int)(o3 o4 o5:Option V),[some v,some (.ref l),some (.int (whole+Z2 p.1)),some (.ref ap),some u,some (.int p.2)]=[some v,some (.ref l),some (.int whole'),o3,o4,o5]/\H2 l=some (.lst vs)/\StR H H2 vs ps/\m'=nds ps/\0<=whole'/\whole'<=1000 /\
      (vs.length:Int)<=60*whole'+1/\(∀p∈ps,p.1.Sm)/\valB ps whole'=zag t/\Same H H2:=fun t' e hn hnode=>by
     obtain⟨hf,hz⟩:=zg6 hal1 (by rw[e];exact hn);refine⟨nds ps',by lia,vs',ps',whole+Z2 p.1,_,_,_,rfl,hl2,hst2,rfl,by lia,by lia,by lia,hsm',?_,sH2⟩;rw[←hval,vb,hf,hz];unfold valB;rw[wY]
     congr 2
     rw[eq_iff_iff]
     constructor<;>intro h<;>lia
    obtain⟨tt,lv⟩:=p;have rt2:RT H2 u tt:=rtu.mono sH2;cases rt2 with
    |non=>exact⟨_,rfl,_,_,_,_,rfl,.non,zia,_,rfl,iteF (leaf _ rfl (fun _ z=>nomatch z) rfl)⟩
    |bl b=>exact⟨_,rfl,_,_,_,_,rfl,.bl b,zkP,_,rfl,iteF (leaf _ rfl (fun _ z=>nomatch z) rfl)⟩
    |num i=>exact⟨_,rfl,_,_,_,_,rfl,.int i,zcE,_,rfl,iteF (leaf _ rfl (fun _ z=>nomatch z) rfl)⟩
    |txt x=>exact⟨_,rfl,_,_,_,_,rfl,.str x,zbC,_,rfl,iteF (leaf _ rfl (fun _ z=>nomatch z) rfl)⟩
    |lst e=>exact⟨_,rfl,_,_,_,_,rfl,.lst e,zkQ,_,rfl,iteF (leaf _ rfl (fun _ z=>nomatch z) rfl)⟩
    |dic e=>exact⟨_,rfl,_,_,_,_,rfl,.dK e,zkR,_,rfl,iteF (leaf _ rfl (fun _ z=>nomatch z) rfl)⟩
    | @tup a2 us ts e2 l2 at2=>
     refine⟨_,rfl,_,_,_,_,rfl,.tup e2,zbB,_,rfl,iteT ?_⟩;have ha60:ts.length<=60:=by
      have h:(decide (ts.length<=60)&&decide (0<lv))=true:=hal1;rw[xH] at h;exact of_decide_eq_true h.1
     have hlv0:0<lv:=by
      have h:(decide (ts.length<=60)&&decide (0<lv))=true:=hal1;rw[xH] at h;exact of_decide_eq_true h.2
     refine⟨_,rfl,.inl ⟨rfl,_,Sl hl2⟩,?_⟩;have at0:∀(i:Nat)(x:V)(t':T),us[i]?=some x->ts[i]?=some t'->RT H x t':=by
      cases rtu with
      | @tup a3 us3 ts3 e3 l3 at3=>
       have:us3=us:=by
        have h1:=sH2 _ _ e3;rw[e2] at h1;cases h1
        rfl
       subst this;exact at3
     dsimp +zetaDelta only [zat,tNil];refine⟨_,rfl,a2,rfl,⟨us,Sq e2⟩,fun i m2 xs H3=>i<=us.length/\m2=us.length-i/\StR H H3 xs ((ts.take i).map fun t'=>(t',lv-1))/\Same H2 H3,⟨_,yJ _,rfl,by simpa using StR.nil,Sr _⟩,fun i m2 xs H3 hW=>?_⟩;obtain⟨hi,hm2,hxs,s3⟩:=hW;have hxl:xs.length<=60:=by
      have:=hxs.len;rw[yB,xA] at this;lia
     refine⟨small (by lia),?_⟩;have e3:=s3 _ _ e2
     by_cases hlt:i<us.length
     ·refine .inr ⟨⟨us,us[i],Sq e3,yA hlt⟩,fun y H4 hy=>?_⟩
      obtain⟨rfl,hy⟩:=hy;have hy:=hy us (Sq e3);have hti:ts[i]?=some ts[i]:=yA (by lia);refine iteT ?_;refine⟨_,rfl,_,rfl,_,_,rfl,rfl,zl2,fun a5 ha5=>?_⟩;have s5:=Sn (o:=.tup [y,.int (lv-1)]) ha5;refine⟨us.length-(i+1),by lia,by lia,rfl,?_,s3.trans s5⟩;rw[Z8 hti,xK];exact (hxs.mono (zaw s5)).app (StR.one (p:=(ts[i],lv-1)) zj (at0 i y ts[i] hy hti))
     ·have ei:i=us.length:=by lia
      refine .inl ⟨⟨us,Sq e3,by lia⟩,fun D hD=>?_⟩;have et:ts.take i=ts:=xG (by lia);rw[et] at hxs;have hl3:=s3 _ _ hl2;have hl4:upd H3 D (.lst xs) l=some (.lst vs'):=by rw[zH (zB hl3 hD)];exact hl3
      refine⟨l,D,vs',xs,rfl,rfl,hl4,zj,?_,?_⟩
      ·have h60:vs'.length<=60001:=by lia
       exact small (by lia)
      ·have s4:=Sn (o:=.lst xs) hD
       have t5:=zcl (o:=.lst (vs'++xs)) hl4;refine⟨nds ps'+tnodes ts,?_,vs'++xs,ps'++ts.map (fun t'=>(t',lv-1)),whole+1,_,_,_,rfl,zj,?_,?_,by lia,?_,?_,?_,?_,?_⟩
       ·have:(T.tup ts).nodes=1+tnodes ts:=rfl
        have h9:nds (ps'++[(T.tup ts,lv)])=nds ps'+(T.tup ts).nodes:=hnd;lia
       ·exact ((((hst2.mono (zaw s3)).mono (zaw s4)).mono t5)).app ((hxs.mono (zaw s4)).mono t5)
       ·rw[ziu,zlF]
       ·have:Z2 (T.tup ts)=1:=rfl
        have c4:¬(1000:Int)<whole+Z2 (T.tup ts):=c3;lia
       ·rw[yD]
        lia
       ·intro p' hp'
        rcases yT.mp hp' with hp'|hp'
        ·exact hsm' p' hp'
        ·obtain⟨t',ht',rfl⟩:=uB.mp hp'
         exact zlB (show Sms ts from (show ts.length<=100000/\Sms ts from smp).2) t' ht'
       ·rw[←hval,vb]
        unfold valB;rw[ziv,zlG,zit,zlE];have f1:zcV (T.tup ts) lv=fitsA ts (lv-1):=by
         show (decide (ts.length<=60)&&decide (0<lv)&&fitsA ts (lv-1))=_;rw[decide_eq_true ha60,decide_eq_true hlv0]
         rfl
        have f2:(T.tup ts).size=1+tsizes ts:=rfl;show _=((fts ps'&&zcV (T.tup ts) lv)&&decide (whole+(szs ps'+(T.tup ts).size)<=1000));rw[f1,f2]
        congr 2
        rw[eq_iff_iff]
        constructor<;>intro h<;>lia
       ·exact zeY ((sH2.trans s3).trans s4) hlH
 ·have c1:¬(0:Int)<vs.length:=of_decide_eq_false (xM.mpr c)
  have hv0:vs=[]:=xI.mp (by lia);have hp0:ps=[]:=xI.mp (by rw[←hst.len,hv0];rfl);have:zag t=true:=by
   rw[←hval,hp0];unfold valB;simp only[fts,szs,uP];exact decide_eq_true (by lia)
  have fin:=q _ sH;rw[this] at fin;exact fin
end D
namespace L2
open PySem PySem.Spec PyProof.Rows PySem.Builtin
section
variable{prog:jG}{w:jH}{A:jI}{E:jA->jB->Prop}{s:jB}
end
theorem zj2{X:Cx}:OpR X (binaryOp .Add) (fun x y H Q=>∃(a b:jC)(ys:List V),x=.ref a/\y=.ref b/\SqT X.K H a []/\SqT X.K H b ys/\Q (.ref b) H):=by
 intro pins s σ H x y v u Q I rx ry h;obtain⟨a,b,ys,rfl,rfl,ha,hb,q⟩:=h;cases rx;cases ry;obtain⟨its,r1,p1,_⟩:=I.tuple ha;obtain⟨its2,r2,p2,_⟩:=I.tuple hb;have e0:its=[]:=by cases r1;rfl
 subst e0;obtain⟨⟨cls,dd,data,sl⟩,ho,hc,n,hd⟩:=id p1;obtain⟨⟨cls2,dd2,data2,sl2⟩,ho2,hc2,n2,hd2⟩:=id p2;simp only at hc hd hc2 hd2;subst hc hd hc2 hd2;exact concat_meets ⟨_,ho,rfl⟩ ⟨_,ho2,rfl⟩ noFill_tuple_add seq_tuple_add PySem.F.slot_tuple_add PySem.F.entry_tuple_add (PySem.F.args_tuple_add_2 _ _)
  (tuple_addW0 a b #[] its2.toArray n n2 dd dd2 sl sl2 rfl) ⟨ho,ho2,⟨.ref b,H,I,rfl,q⟩⟩
end L2
namespace L2
open PySem PySem.Spec PyProof.Rows
variable{X:Cx}
theorem zg9{ys:List Str}:∀{us:List jA},Vals (ys.map V.str) us->StrsAre us ys:=by
 induction ys with
 |nil=>intro us r;rw[wT] at r;cases r;exact .nil
 |cons n ns ih=>
  intro us r;rw[yW] at r;cases r with
  |cons r1 r2=>
   obtain⟨t,e⟩:=r1;subst e;exact .cons n t (ih r2)
theorem ziw:MtR X "str.join" (fun x xs H Q=>∃(sep:Str)(p:jC)(ys:List Str),x=.str sep/\xs=[.ref p]/\SqL X.K H p (ys.map V.str)/\(ys.map (·.length)).sum+ys.length*sep.length<=16777216/\Q (.str (Txt.join sep ys)) H):=by
 intro pins s σ H x xs v us Q I rx rv h;obtain⟨sep,p,ys,rfl,rfl,hq,hz,q⟩:=h;obtain⟨t,rfl⟩:=rx;obtain⟨u,rfl,ru⟩:=zbQ rv;cases ru;obtain⟨its,r,pl,_⟩:=I.list hq;exact PyProof.Rows.join_list pl.isList (by simpa using zg9 r) hz fun t' k=>⟨.str _,H,I.tok k,⟨t',rfl⟩,q⟩
theorem zdw(cs:List Nat):Txt.join (uX "") (cs.map fun c=>(⟨#[c]⟩:Str))=⟨cs.toArray⟩:=by
 have e0:(uX "").cps=#[]:=by decide
 have fold:∀(r:List Nat)(acc:Array Nat),((r.map fun c=>(⟨#[c]⟩:Str)).foldl (fun acc p=>acc++(uX "").cps++p.cps) acc)=acc++r.toArray:=fun r=>by
  induction r with
  |nil=>intro acc;simp
  |cons c r ih=>
   intro acc;rw[yW,List.foldl_cons,ih,e0];simp
 cases cs with
 |nil=>rfl
 |cons c r=>
  show (⟨(r.map fun c=>(⟨#[c]⟩:Str)).foldl (fun acc p=>acc++(uX "").cps++p.cps) #[c]⟩:Str)=_;rw[fold];simp
end L2
namespace D
open PySem L2
mutual
noncomputable def eqW:W->W->Bool
 |.num i,.num j=>i==j
 |.txt x,.txt y=>x==y
 |.lst ws,.lst zs=>eqWs ws zs
 |.num _,.txt _=>false
 |.num _,.lst _=>false
 |.txt _,.num _=>false
 |.txt _,.lst _=>false
 |.lst _,.num _=>false
 |.lst _,.txt _=>false
noncomputable def eqWs:List W->List W->Bool
 |[],[]=>true
 |w::r,z::s=>eqW w z&&eqWs r s
 |[],_::_=>false
 |_::_,[]=>false
end
mutual
theorem zaZ:∀w:W,eqW w w=true
 |.num i=>by simp[eqW]
 |.txt x=>by simp[eqW]
 |.lst ws=>eqWs_refl ws
theorem eqWs_refl:∀ws:List W,eqWs ws ws=true
 |[]=>rfl
 |w::r=>by simp only[eqWs,zaZ w,eqWs_refl r,Bool.and_self]
end
theorem zgw:∀ws zs:List W,eqWs ws zs=((wA (min ws.length zs.length)).all (fun j=>eqW (ws.getD j (.num 0)) (zs.getD j (.num 0)))&&ws.length==zs.length)
 |[],[]=>rfl
 |[],_::_=>rfl
 |_::_,[]=>rfl
 |w::r,z::s=>by
  rw[eqWs,zgw r s];have e:min (w::r).length (z::s).length=min r.length s.length+1:=by simp only[yQ];lia
  rw[e,List.range_succ_eq_map,vU,uR];have e2:((w::r).length==(z::s).length)=(r.length==s.length):=by simp
  rw[e2,uL]
  rfl
theorem RW.inj{H:Hp}{v:V}{x:W}(h:RW H v x):∀{y:W},RW H v y->x=y:=by
 induction h with
 |num i=>intro y g;cases g;rfl
 |txt z=>intro y g;cases g;rfl
 | @lst a vs ws e l _ ih=>
  intro y g;cases g with
  | @lst _ vs2 zs e2 l2 at2=>
   rw[e] at e2;cases e2
   congr 1
   refine List.ext_getElem (by lia) fun i h1 h2=>?_;exact ih i vs[i] ws[i] (yA (by lia)) (yA h1) (at2 i vs[i] zs[i] (yA (by lia)) (yA h2))
end D
namespace L2
open PySem PySem.Spec PyProof.Rows
theorem zaa{X:Cx}:zas X (.builtin "isinstance") (fun xs H Q=>∃v T A b,xs=[v,.ty T]/\(TyOf X.K H v (.type A)\/(A="tuple"/\∃a ys,v=.ref a/\SqT X.K H a ys))/\isi A T=some b/\Q (.bl b) H):=by
 intro pins s σ H xs us Q I r h;obtain⟨v,T,A,b,rfl,ty,e,q⟩:=h;obtain⟨u,c,rfl,ru,rc⟩:=zfA r;cases (show c=Value.type T from rc);rcases ty with ty|⟨rfl,a,ys,rfl,hs⟩
 ·exact zeG I ru ty (zeV e) fun tk=>⟨.bl b,H,I.tok tk,rfl,q⟩
 ·cases (show u=Value.ref a from ru)
  obtain⟨its,_,p,_⟩:=I.tuple hs;obtain⟨o,h1,h2,_⟩:=p;exact kia_one kitx_tuple I.kIn ⟨o,h1,h2⟩ (zeV e) (fun z=>nomatch z) fun tk=>⟨.bl b,H,I.tok tk,rfl,q⟩
theorem zix(x:Str)(l u:Option Int):∀c∈(Txt.slice x l u).cps.toList,c∈x.cps.toList:=by
 intro c hc;unfold Txt.slice at hc
 split at hc
 ·exact hc
 ·rw[wH] at hc
  obtain⟨i,_,e⟩:=vN.mp hc;have e2:x.cps.toList[i]?=some c:=by simpa using e
  exact yK e2
theorem zfP{X:Cx}:SlR X (fun x lo hi H Q=>∃z:Str,x=.str z/\z.length<=1000000/\∀r:Str,r.length<=z.length->(∀c∈r.cps.toList,c∈z.cps.toList)->Q (.str r) H):=by
 intro pins s σ H x v vl vu lo hi sl Q I rx hs pl pu h;obtain⟨z,rfl,hz,q⟩:=h;obtain⟨t,rfl⟩:=rx;refine⟨"str",_,PySem.F.slot_str_getitem.lookup,typeIs_str _ _ _,?_⟩;have hz':z.length<=tI:=yM hz (by decide);have fin:∀(l u:Option (Int×Tok)),partValue l=vl->partValue u=vu->wpAny (model X.prog X.w) X.A (getItem (.str z t) (.ref sl)) (EP X pins σ Q) X.xe s:=fun l u e1 e2=>by
  obtain⟨o,ho,hc,hd⟩:=hs;refine wpAny_getItem_str_slice (l:=l) (u:=u) (st:=none) ⟨o,ho,hc,by rw[hd,e1,e2];rfl⟩ rfl (post_val_or_str ⟨yM (Txt.slice_le z _ _) hz',fun t' k=>?_⟩);exact⟨.str _,H,I.tok k,⟨t',rfl⟩,q _ (Txt.slice_le z _ _) (zix z _ _)⟩
 cases pl with
 |none=>cases pu with
  |none=>exact fin none none rfl rfl
  |int j tj=>exact fin none (some (j,tj)) rfl rfl
 |int i ti=>cases pu with
  |none=>exact fin (some (i,ti)) none rfl rfl
  |int j tj=>exact fin (some (i,ti)) (some (j,tj)) rfl rfl
theorem Zo:tL (uX "list")=some (.type "list"):=by kernel_rfl
end L2
namespace D
open PySem L2
variable{ws:List W}{x:W}{H H':Hp}{v:V}{K:tT}
mutual
def W.Th:W->Prop
 |.num _=>True
 |.txt x=>x.length<=100000/\Signs x
 |.lst ws=>ws.length<=1000/\Ths ws
def Ths:List W->Prop
 |[]=>True
 |w::r=>w.Th/\Ths r
end
mutual
theorem zd9:∀w:W,w.Ok->w.Th
 |.num _,_=>trivial
 |.txt _,h=>⟨yM h.1 (by decide),h.2⟩
 |.lst ws,h=>⟨yM h.1 (by decide),ths_of ws h.2⟩
theorem ths_of:∀ws:List W,Oks ws->Ths ws
 |[],_=>trivial
 |w::r,h=>⟨zd9 w h.1,ths_of r h.2⟩
end
theorem ziy(h:Ths ws):∀w∈ws,w.Th:=by
 induction ws with
 |nil=>intro w hw;cases hw
 |cons x r ih=>
  intro w hw;rcases yV.mp hw with rfl|hw
  ·exact h.1
  ·exact ih h.2 w hw
theorem zkZ(h:∀w∈ws,w.Th):Ths ws:=by
 induction ws with
 |nil=>trivial
 |cons x r ih=>exact⟨h x yS,ih fun w hw=>h w (yL _ hw)⟩
mutual
noncomputable def zeZ:W->Bool
 |.num i=>decide (-(10 ^ 60)<i/\i<10 ^ 60)
 |.txt x=>decide (x.length<=400)
 |.lst ws=>decide (ws.length<=60)&&fitsWs ws
noncomputable def fitsWs:List W->Bool
 |[]=>true
 |w::r=>zeZ w&&fitsWs r
end
mutual
noncomputable def W.toT:W->T
 |.num i=>.num i
 |.txt x=>.txt x
 |.lst ws=>.tup (toTs ws)
noncomputable def toTs:List W->List T
 |[]=>[]
 |w::r=>w.toT::toTs r
end
theorem zea:∀ws:List W,toTs ws=ws.map W.toT
 |[]=>rfl
 |w::r=>by simp only[toTs,yW,zea r]
theorem zeb(ws:List W):(toTs ws).length=ws.length:=by rw[zea,yB]
mutual
theorem zgx:∀w:W,w.toT.size=w.size
 |.num _=>rfl
 |.txt _=>rfl
 |.lst ws=>by simp only[W.toT,T.size,W.size,sizes_toT ws]
theorem sizes_toT:∀ws:List W,tsizes (toTs ws)=sizes ws
 |[]=>rfl
 |w::r=>by simp only[toTs,tsizes,sizes,zgx w,sizes_toT r]
end
mutual
theorem zk0:∀w:W,w.Th->w.toT.Sm
 |.num _,_=>trivial
 |.txt _,h=>h.1
 |.lst ws,h=>⟨by rw[zeb];exact yM h.1 (by decide),sms_toT ws h.2⟩
theorem sms_toT:∀ws:List W,Ths ws->Sms (toTs ws)
 |[],_=>trivial
 |w::r,h=>⟨zk0 w h.1,sms_toT r h.2⟩
end
theorem zha{x:Str}(h:Signs x):zbp x=true:=by
 unfold zbp;rw[xZ];intro c hc;have:=h c hc;simp[zcc,this]
mutual
theorem zgy:∀(w:W)(lv:Nat),w.Th->zcV w.toT (lv:Int)=(zeZ w&&decide (w.depth<=lv))
 |.num i,lv,_=>by
  show decide (-(10 ^ 60)<i/\i<10 ^ 60)=(decide (-(10 ^ 60)<i/\i<10 ^ 60)&&decide (0<=lv));rw[decide_eq_true (yJ lv),wY]
 |.txt x,lv,h=>by
  show (decide (x.length<=400)&&zbp x)=(decide (x.length<=400)&&decide (0<=lv));rw[zha h.2,decide_eq_true (yJ lv)]
 |.lst ws,lv,h=>by
  show (decide ((toTs ws).length<=60)&&decide (0<(lv:Int))&&fitsA (toTs ws) ((lv:Int)-1))=((decide (ws.length<=60)&&fitsWs ws)&&decide (1+depths ws<=lv));rw[zeb];cases lv with
  |zero=>
   rw[decide_eq_false (show ¬(0:Int)<((0:Nat):Int) by lia),decide_eq_false (show ¬1+depths ws<=0 by lia)];simp
  |succ n=>
   have e:((n+1:Nat):Int)-1=(n:Int):=by lia
   rw[decide_eq_true (show (0:Int)<((n+1:Nat):Int) by lia),e,fits_toTs ws n h.2,wY,←uL]
   congr 2
   rw[eq_iff_iff]
   constructor<;>intro h<;>lia
theorem fits_toTs:∀(ws:List W)(lv:Nat),Ths ws->fitsA (toTs ws) (lv:Int)=(fitsWs ws&&decide (depths ws<=lv))
 |[],lv,_=>by
  show true=(true&&decide (0<=lv));rw[decide_eq_true (yJ lv)]
  rfl
 |w::r,lv,h=>by
  show (zcV w.toT lv&&fitsA (toTs r) lv)=((zeZ w&&fitsWs r)&&decide (max w.depth (depths r)<=lv));rw[zgy w lv h.1,fits_toTs r lv h.2];have e:decide (max w.depth (depths r)<=lv)=(decide (w.depth<=lv)&&decide (depths r<=lv)):=by
   rw[xL,xH,decide_eq_true_iff,decide_eq_true_iff,decide_eq_true_iff];lia
  rw[e];cases zeZ w<;>cases fitsWs r<;>cases decide (w.depth<=lv)<;>cases decide (depths r<=lv)<;>rfl
end
def ziz(x:W):Bool:=zeZ x&&(decide (x.size<=1000)&&decide ((x.depth:Int)<=12))
theorem zfQ(h:x.Th):zag x.toT=ziz x:=by
 unfold zag ziz;have:=zgy x 12 h;rw[show (12:Int)=((12:Nat):Int) from rfl,this,zgx];have e:decide ((x.depth:Int)<=((12:Nat):Int))=decide (x.depth<=12):=by
  rw[xL,decide_eq_true_iff,decide_eq_true_iff];lia
 rw[e];cases zeZ x<;>cases decide (x.depth<=12)<;>cases decide (x.size<=1000)<;>rfl
theorem RW.toRT(h:RW H v x):RT H v x.toT:=by
 induction h with
 |num i=>exact .num i
 |txt x=>exact .txt x
 | @lst a vs ws e l _ ih=>
  refine .tup e (by rw[zeb];exact l) fun i v t hv ht=>?_;rw[zea,yE] at ht;obtain⟨w,hw,rfl⟩:=yP.mp ht;exact ih i v w hv hw
inductive RS(K:tT)(H:Hp):V->W->Prop where
 |num (i:Int):RS K H (.int i) (.num i)
 |txt (x:Str):RS K H (.str x) (.txt x)
 |lst {a:jC}{vs:List V}{ws:List W}:SqT K H a vs->vs.length=ws.length->(∀(i:Nat)(v:V)(w:W),vs[i]?=some v->ws[i]?=some w->RS K H v w)->RS K H (.ref a) (.lst ws)
theorem RS.mono(t:Same H H'){w:W}(h:RS K H v w):RS K H' v w:=by
 induction h with
 |num i=>exact .num i
 |txt x=>exact .txt x
 |lst e l _ ih=>exact .lst (t.seqT e) l ih
theorem RW.toRS{w:W}(h:RW H v w):RS K H v w:=by
 induction h with
 |num i=>exact .num i
 |txt x=>exact .txt x
 |lst e l _ ih=>exact .lst (Sq e) l ih
theorem zx(s:Same H H'):Tups H H':=fun a vs e=>s a _ e
theorem Step.ofSame{b:jC}(hb:IsBox H b)(s:Same H H'):Step b H H':=⟨by obtain⟨x,y,z,e⟩:=hb;exact⟨x,y,z,s _ _ e⟩,fun c o _ e=>s c o e⟩
noncomputable def zmX:W:=.lst [.txt "wrong",.txt "great",.txt ""]
def zad(x:W):W:=if ziz x=true then .lst [.txt "made",x] else zmX
def RM(K:tT)(H:Hp)(v:V)(w:W):Prop:=RS K H v w/\∀m x,w=.lst [m,x]->∃a u,v=.ref a/\SqT K H a [.str "made",u]/\RW H u x
inductive spMade(K:tT)(n:Nat)(vs:List V)(H:Hp)(Q:VK)(z3:XK):Prop
 |mk (v:V) (x:W) (_:vs=[v]) (_:RW H v x) (_:x.Th) (_:x.depth<n) (_:∀(u:V)(H':Hp),Same H H'->RM K H' u (zad x)->Q u H')
variable{K:tT}{H:Hp}{a:jC}{u1 u2 u3:V}{w1 w2 w3:W}
theorem RS.two(e:SqT K H a [u1,u2])(r1:RS K H u1 w1)(r2:RS K H u2 w2):RS K H (.ref a) (.lst [w1,w2]):=
 .lst e rfl fun i v w hv hw=>match i,hv,hw with
  |0,hv,hw=>by
   have a1:u1=v:=by simpa using hv
   have a2:w1=w:=by simpa using hw
   rw[←a1,←a2];exact r1
  |1,hv,hw=>by
   have a1:u2=v:=by simpa using hv
   have a2:w2=w:=by simpa using hw
   rw[←a1,←a2];exact r2
  |j+2,hv,hw=>by simp at hv
theorem RS.three(e:SqT K H a [u1,u2,u3])(r1:RS K H u1 w1)(r2:RS K H u2 w2)(r3:RS K H u3 w3):RS K H (.ref a) (.lst [w1,w2,w3]):=
 .lst e rfl fun i v w hv hw=>match i,hv,hw with
  |0,hv,hw=>by
   have a1:u1=v:=by simpa using hv
   have a2:w1=w:=by simpa using hw
   rw[←a1,←a2];exact r1
  |1,hv,hw=>by
   have a1:u2=v:=by simpa using hv
   have a2:w2=w:=by simpa using hw
   rw[←a1,←a2];exact r2
  |2,hv,hw=>by
   have a1:u3=v:=by simpa using hv
   have a2:w3=w:=by simpa using hw
   rw[←a1,←a2];exact r3
  |j+3,hv,hw=>by simp at hv
theorem RM.three(e:SqT K H a [u1,u2,u3])(r1:RS K H u1 w1)(r2:RS K H u2 w2)(r3:RS K H u3 w3):RM K H (.ref a) (.lst [w1,w2,w3]):=
 ⟨RS.three e r1 r2 r3,fun m x h=>by simp at h⟩
theorem RM.two(e:SqT K H a [.str "made",u2])(r1:RS K H (.str "made") (.txt "made"))(r2:RW H u2 w2):RM K H (.ref a) (.lst [.txt "made",w2]):=
 ⟨RS.two e r1 r2.toRS,fun m x h=>by
  have e2:w2=x:=by simpa using (show _/\w2=x by simpa using h).2
  subst e2;exact⟨a,u2,rfl,e,r2⟩⟩
theorem zlH:FnScope ["thing"] ["thing"] (zq zih):=mkSc rfl (by decide +kernel)
theorem zlI{n:Nat}{g:jC}(F:Fun K "made" "made" zih f fd)(G_is_worth:Have P w K mg base "is_worth" k qL3 spIsWorth)
  (m_GREAT:mg "GREAT"=some (.ref g)) (hg:∀H:Hp,SqT K H g [.str "wrong",.str "great",.str ""]):qF P w K mg base k f fd qL3 (spMade K n):=by
 refine F.ok zlH (by rintro _ _ _ _ ⟨_,_,rfl,_⟩;rfl) fun _ _ _ _ H vs Q E hr h=>?_;obtain⟨v,x,rfl,rw,hth,hn,q⟩:=h;refine⟨_,(zo (zt (ZB (zR (zy G_is_worth hr rfl (zc (pv 0) zi))) (zG (zc zr (zc (pv 0) zi))) (Zf (v:=.ref g) rfl m_GREAT rfl)))),?_⟩;refine⟨_,rfl,v,x.toT,rfl,rw.toRT,zk0 x hth,fun H1 s1=>⟨_,rfl,?_⟩⟩;rw[zfQ hth];cases hgd:ziz x with
 |true=>
  refine iteT ⟨_,rfl,zl2,fun a ha=>?_⟩;have s2:=Sn (o:=.tup [.str "made",v]) ha;refine q _ _ (s1.trans s2) ?_;unfold zad;rw[if_pos hgd];exact RM.two (Sq zj) (.txt _) (rw.mono (zx (s1.trans s2)))
 |false=>
  refine iteF (q _ _ s1 ?_);unfold zad;rw[if_neg (by rw[hgd];decide)];exact RM.three (hg H1) (.txt _) (.txt _) (.txt _)
end D
namespace L2
open PySem PySem.Spec PyProof.Rows
section
variable{prog:jG}{w:jH}{A:jI}{E:jA->jB->Prop}{s:jB}
open HT in
end
end L2
namespace D
open PySem L2
theorem zhb{H:Hp}{ws zs:List W}{its its2:List jA}{vs us:List V}(r1:Vals vs its)(r2:Vals us its2)(l1:vs.length=ws.length)(l2:us.length=zs.length):
  ((wA (min its.toArray.size its2.toArray.size)).all (fun j=>eqW (ws.getD j (.num 0)) (zs.getD j (.num 0)))&&its.toArray.size==its2.toArray.size)=eqW (.lst ws) (.lst zs):=by
 have e1:its.toArray.size=ws.length:=by rw[yF,←r1.length,l1]
 have e2:its2.toArray.size=zs.length:=by rw[yF,←r2.length,l2]
 rw[e1,e2];exact (zgw ws zs).symm
theorem zmY{X:Cx}{pins:List (jC×Obj)}{σ:St}{H:Hp}{s:jB}(I:Inv X pins σ H s):∀(n:Nat)(A:jI)(x y:W)(u v:V)(U V':jA),x.depth<n->RW H u x->RW H v y->RelV u U->RelV v V'->A.units+n+2<cLine->
  SeqAt.EqAt A s U V' (eqW x y):=by
 intro n
 induction n with
 |zero=>intro A x y u v U V' h;lia
 |succ n ih=>
  intro A x y u v U V' hd rx ry r1 r2 hu;have hu0:A.units<cLine:=by lia
  cases rx with
  |num i=>
   obtain⟨t,rfl⟩:=r1;cases ry with
   |num j=>obtain⟨t2,rfl⟩:=r2;exact SeqAt.EqAt.int_int i t j t2
   |txt z=>obtain⟨t2,rfl⟩:=r2;exact SeqAt.EqAt.int_str i t z t2
   |lst e _ _=>
    cases r2;obtain⟨its,_,p,_⟩:=I.tuple (Sq e);exact SeqAt.EqAt.int_tuple i t p hu0
  |txt z=>
   obtain⟨t,rfl⟩:=r1;cases ry with
   |num j=>obtain⟨t2,rfl⟩:=r2;exact SeqAt.EqAt.str_int z t j t2
   |txt z2=>obtain⟨t2,rfl⟩:=r2;exact SeqAt.EqAt.str_str z t z2 t2
   |lst e _ _=>
    cases r2;obtain⟨its,_,p,_⟩:=I.tuple (Sq e);exact SeqAt.EqAt.str_tuple z t p hu0
  | @lst a vs ws e l at1=>
   cases r1;obtain⟨its,rv,p,_⟩:=I.tuple (Sq e);cases ry with
   |num j=>obtain⟨t2,rfl⟩:=r2;exact SeqAt.EqAt.tuple_int j t2 p hu0
   |txt z2=>obtain⟨t2,rfl⟩:=r2;exact SeqAt.EqAt.tuple_str z2 t2 p hu0
   | @lst b us zs e2 l2 at2=>
    cases r2;obtain⟨its2,rv2,p2,_⟩:=I.tuple (Sq e2)
    by_cases hab:a=b
    ·subst hab
     have:W.lst ws=W.lst zs:=RW.inj (.lst e l at1) (.lst e2 l2 at2);rw[this,zaZ];exact SeqAt.EqAt.same _
    ·rw[←zhb (H:=H) rv rv2 l l2]
     refine SeqAt.EqAt.of_refs hab (SeqAt.RcAt.tuples p p2 hu0 fun j h1 h2=>?_);have j1:j<its.length:=by simpa using h1
     have j2:j<its2.length:=by simpa using h2
     have k1:j<vs.length:=by rw[rv.length];exact j1
     have k2:j<us.length:=by rw[rv2.length];exact j2
     have m1:j<ws.length:=by lia
     have m2:j<zs.length:=by lia
     obtain⟨U1,hU1,rU1⟩:=rv.get (yA k1);obtain⟨U2,hU2,rU2⟩:=rv2.get (yA k2);have f1:its.toArray[j]=U1:=by have:=(yC.mp hU1).2;simpa using this
     have f2:its2.toArray[j]=U2:=by have:=(yC.mp hU2).2;simpa using this
     rw[f1,f2];have g1:ws.getD j (.num 0)=ws[j]:=by rw[yX,yA m1];rfl
     have g2:zs.getD j (.num 0)=zs[j]:=by rw[yX,yA m2];rfl
     rw[g1,g2];have hdj:=Z0 ws[j] (xD m1);have hd':1+depths ws<n+1:=hd;have hu1:A.in1.units=A.units+1:=rfl;exact ih A.in1 ws[j] zs[j] vs[j] us[j] U1 U2 (by lia) (at1 j _ _ (yA k1) (yA m1)) (at2 j _ _ (yA k2) (yA m2)) rU1 rU2 (by lia)
theorem zmZ{X:Cx}(hu:X.A.units+64<cLine):OpR X (tM .Eq) (fun x y H Q=>∃wx wy:W,RW H x wx/\RW H y wy/\wx.depth<50/\Q (.bl (eqW wx wy)) H):=by
 intro pins s σ H x y v u Q I rx ry h;obtain⟨wx,wy,hx,hy,hd,q⟩:=h;have hu0:X.A.units<cLine:=by lia
 have fin:EP X pins σ Q (.bool (eqW wx wy)) s:=⟨.bl _,H,I,rfl,q⟩;cases hx with
 |num i=>
  obtain⟨t,rfl⟩:=rx;cases hy with
  |num j=>obtain⟨t2,rfl⟩:=ry;exact SeqAt.RcAt.int_int i t j t2 _ _ _ _ fin
  |txt z=>obtain⟨t2,rfl⟩:=ry;exact SeqAt.RcAt.int_str i t z t2 _ _ _ _ fin
  |lst e _ _=>
   cases ry;obtain⟨its,_,p,_⟩:=I.tuple (Sq e);exact SeqAt.RcAt.int_tuple i t p hu0 _ _ _ _ fin
 |txt z=>
  obtain⟨t,rfl⟩:=rx;cases hy with
  |num j=>obtain⟨t2,rfl⟩:=ry;exact SeqAt.RcAt.str_int z t j t2 _ _ _ _ fin
  |txt z2=>obtain⟨t2,rfl⟩:=ry;exact SeqAt.RcAt.str_str z t z2 t2 _ _ _ _ fin
  |lst e _ _=>
   cases ry;obtain⟨its,_,p,_⟩:=I.tuple (Sq e);exact SeqAt.RcAt.str_tuple z t p hu0 _ _ _ _ fin
 | @lst a vs ws e l at1=>
  cases rx;obtain⟨its,rv,p,_⟩:=I.tuple (Sq e);cases hy with
  |num j=>obtain⟨t2,rfl⟩:=ry;exact SeqAt.RcAt.tuple_int j t2 p hu0 _ _ _ _ fin
  |txt z2=>obtain⟨t2,rfl⟩:=ry;exact SeqAt.RcAt.tuple_str z2 t2 p hu0 _ _ _ _ fin
  | @lst b us zs e2 l2 at2=>
   cases ry;obtain⟨its2,rv2,p2,_⟩:=I.tuple (Sq e2);rw[←zhb (H:=H) rv rv2 l l2] at fin;refine SeqAt.RcAt.tuples p p2 hu0 (fun j h1 h2=>?_) _ _ _ _ fin;have j1:j<its.length:=by simpa using h1
   have j2:j<its2.length:=by simpa using h2
   have k1:j<vs.length:=by rw[rv.length];exact j1
   have k2:j<us.length:=by rw[rv2.length];exact j2
   have m1:j<ws.length:=by lia
   have m2:j<zs.length:=by lia
   obtain⟨U1,hU1,rU1⟩:=rv.get (yA k1);obtain⟨U2,hU2,rU2⟩:=rv2.get (yA k2);have f1:its.toArray[j]=U1:=by have:=(yC.mp hU1).2;simpa using this
   have f2:its2.toArray[j]=U2:=by have:=(yC.mp hU2).2;simpa using this
   rw[f1,f2];have g1:ws.getD j (.num 0)=ws[j]:=by rw[yX,yA m1];rfl
   have g2:zs.getD j (.num 0)=zs[j]:=by rw[yX,yA m2];rfl
   rw[g1,g2];have hdj:=Z0 ws[j] (xD m1);have hd':1+depths ws<50:=hd;have hu1:X.A.in1.units=X.A.units+1:=rfl;exact zmY I 50 X.A.in1 ws[j] zs[j] vs[j] us[j] U1 U2 (by lia) (at1 j _ _ (yA k1) (yA m1)) (at2 j _ _ (yA k2) (yA m2)) rU1 rU2 (by lia)
end D
namespace L2
open PySem PySem.Spec PyProof.Rows
structure QSs(X:Cx)(st:List jF)(t:TS):Prop where
 un:PSs X st t
structure QIfs(X:Cx)(ifs:List jE)(t:TT):Prop where
 un:PIfs X ifs t
structure QGs(X:Cx)(ts:List jE)(t:TGs):Prop where
 un:PGs X ts t
structure QE(X:Cx)(e:jE)(t:TE):Prop where
 un:PE X e t
structure QT(X:Cx)(e:jE)(t:TT):Prop where
 un:PT X e t
structure QW(X:Cx)(e:jE)(t:TT):Prop where
 un:PW X e t
structure QA(X:Cx)(es:List jE)(t:TA):Prop where
 un:PA X es t
structure QS(X:Cx)(st:jF)(t:TS):Prop where
 un:PS X st t
structure QI(X:Cx)(tg iter:jE)(wi:TI):Prop where
 un:PI X tg iter wi
structure QG(X:Cx)(tg:jE)(t:TG):Prop where
 un:PG X tg t
structure QO(X:Cx)(e:Option jE)(t:TO):Prop where
 un:PO X e t
structure QC(X:Cx)(op:jL)(a b:jE)(t:TE):Prop where
 un:PC X op a b t
theorem Fun.okQ{P:jG}{w:jH}{K:tT}{mg:Str->Option jA}{base:jD}{x qual:Str}{st:jF}{f:jC}{fd:tU}{N ps:List Str}{k:Nat}{sp:Sp}(F:Fun K x qual st f fd)(sc:FnScope N ps (zq st))(h1:∀(vs:List V) (H:Hp) (Q:VK) (E:XK),sp vs H Q E->vs.length=ps.length)
  (h2:∀(cdv:jA)(A:jI)(outer:List Env)(s:jB)(H:Hp)(vs:List V)(Q:VK)(E:XK),Room k (A.deeper (PyProof.Rows.envOfC qual (zq st) s.heap.objs.size f cdv))->sp vs H Q E->
   ∃t:TS,QSs (cxOf CX0 P w K mg base N qual (zq st) f cdv A outer s H E).nox (Zx st) t/\t {nx:=fun _ H'=>Q V.non H',rt:=Q} (L2.start N vs) H):qF P w K mg base k f fd ps sp:=
 F.ok sc h1 fun cdv A outer s H vs Q E hr h=>let ⟨t,a,b⟩:=h2 cdv A outer s H vs Q E hr h;⟨t,a.un,b⟩
end L2
namespace D
open PySem L2
variable{X:Cx}{st:jF}{u:TS}{e c a b i tg iter o value l:jE}{te tb ta to tl tv td ty tx:TE}{pos pos' p apos cpos px:Pos}{tc tA tB':TT}{x name:Str}{g:TG}{body:List jF}{wi:TI}{op op':jL}{j:Nat}{T id:String}{r r':R2}{ps:List Str}{sp:Sp}{es:List jE}{trs:List (TE×TE)}{CX:CXT}{C:jC}{fd:tU}{dvs:List V}{ds:List jA}{E:XK}
theorem zA:QSs X [] zld:=⟨L2.zA ⟩
theorem zm{rest:List jF}{t:TS}(h0:QS X st t)(h1:QSs X rest u):QSs X (st::rest) (tSeq t u):=⟨L2.zm h0.un h1.un⟩
theorem zo{t:TS}(h0:QS X st t):QSs X [st] t:=⟨L2.zo h0.un⟩
theorem zt(h0:QE X e te):QS X (Stmt.Return (some e) pos) (tRet te):=⟨L2.zt h0.un⟩
theorem zN{t:TS}{a b:List jF}(h0:QT X c tc)(h1:QSs X a t)(h2:QSs X b u):QS X (Stmt.If c a b pos) (tIfS tc t u):=⟨L2.zN h0.un h1.un h2.un⟩
theorem zC{i:Nat}(h0:X.N.Nodup)(h1:X.N[i]?=some x)(h2:L2.Loc X.env.scope x)(h3:QE X e te)(h4:autoParam (swapsWith e (some (Expr.Name x pos')) pos.line X.env=pure false) L2.zC._auto_1)(h5:autoParam (X.fn x=true\/xW x X.env.scope.names=some NameKind.local) L2.zC._auto_2):QS X (Stmt.Assign [Expr.Name x pos'] e pos) (tAsg te (zW i)):=⟨L2.zC h0 h1 h2 h3.un h4 h5⟩
theorem zaK(h0:QE X e te)(h1:QG X tg g)(h2:autoParam (swapsWithSole [tg] e pos.line X.env=pure false) L2.zaK._auto_1)(h3:autoParam (swappedStores [tg] e X.env=pure none) L2.zaK._auto_2)(h4:autoParam (List.map (fun (x:Bool×(jA->Sem Unit))=>x.snd) (assignEach [tg] X.env)=[assign tg X.env]) L2.zaK._auto_3):QS X (Stmt.Assign [tg] e pos) (tAsg te g):=⟨L2.zaK h0.un h1.un h2 h3 h4⟩
theorem ZW(h0:QE X e te)(h1:autoParam (swapsWith e none pos.line X.env=pure false) L2.ZW._auto_1):QS X (Stmt.Expr e pos) (zmz te):=⟨L2.ZW h0.un h1⟩
theorem Z6{tb:TS}(h0:PassesOwn (model X.prog X.w) X.A X.env X.xe)(h1:X.calm=true)(h2:QI X tg iter wi)(h3:QG X tg g)(h4:QSs X body tb)(h5:autoParam (∀(x:jA),foldedSetIterable iter X.env x=pure x) L2.Z6._auto_1):QS X (Stmt.For tg iter body [] pos) (tFor wi g tb):=⟨L2.Z6 h0 h1 h2.un h3.un h4.un h5⟩
theorem zbt{tb:TS}(h0:PassesOwn (model X.prog X.w) X.A X.env X.xe)(h1:QT X c tc)(h2:QSs X body tb):QS X (Stmt.While c body [] pos) (zkH tc tb):=⟨L2.zbt h0 h1.un h2.un⟩
theorem zn{i:Int}:QE X (Expr.Constant (Const.int i) j pos) (tC (V.int i)):=⟨L2.zn ⟩
theorem zr:QE X (Expr.Constant (Const.str x) j pos) (tC (V.str x)):=⟨L2.zr ⟩
theorem zbe{b:Bool}:QE X (Expr.Constant (Const.bool b) j pos) (tC (V.bl b)):=⟨L2.zbe ⟩
theorem zbs:QE X (Expr.Constant Const.none j pos) (tC V.non):=⟨L2.zbs ⟩
theorem pv(i:Nat)(h0:autoParam (X.N[i]?=some x) L2.pv._auto_1)(h1:autoParam (Vis X.env.scope x) L2.pv._auto_2)(h2:autoParam ((x==uX "__debug__")=false) L2.pv._auto_3)(h3:autoParam ((x==uX "__classdict__")=false) L2.pv._auto_4):QE X (Expr.Name x pos) (tVar i):=⟨L2.pv i h0 h1 h2 h3⟩
theorem Zf{v:V}{u:jA}(h0:Gl X x)(h1:X.mg x=some u)(h2:RelV v u)(h3:autoParam ((x==uX "__debug__")=false) L2.Zf._auto_1):QE X (Expr.Name x pos) (tC v):=⟨L2.Zf h0 h1 h2 h3⟩
theorem zaf{i:Int}(h0:Gl X x)(h1:(∃(t:Tok),X.mg x=some (Value.int i t)))(h2:autoParam ((x==uX "__debug__")=false) L2.zaf._auto_1):QE X (Expr.Name x pos) (tC (V.int i)):=⟨L2.zaf h0 h1 h2⟩
theorem ZY(h0:Gl X x)(h1:X.mg x=none)(h2:tL x=some (Value.type T))(h3:autoParam (x≠uX "__name__") L2.ZY._auto_1)(h4:autoParam ((x==uX "__debug__")=false) L2.ZY._auto_2):QE X (Expr.Name x pos) (tC (V.ty T)):=⟨L2.ZY h0 h1 h2 h3 h4⟩
theorem zJ{op:jM}(h0:OpR X (binaryOp op) r)(h1:QE X a ta)(h2:QE X b tb):QE X (a.BinOp op b pos) (tOp r ta tb):=⟨L2.zJ h0 h1.un h2.un⟩
theorem zca{op:UnaryOp}{r:V->Hp->VK->Prop}(h0:UnR X (unaryOp op) r)(h1:QE X a ta):QE X (Expr.UnaryOp op a pos) (tUn r ta):=⟨L2.zca h0 h1.un⟩
theorem zV(h0:OpR X (tM op) r)(h1:QE X a ta)(h2:QE X b tb)(h3:behindInMarks op b=false):QE X (a.Compare [op] [b] pos) (tOp r ta tb):=⟨L2.zV h0 h1.un h2.un h3⟩
theorem zE(h0:OpR X (tM op) r)(h1:QE X a ta)(h2:QE X b tb)(h3:behindInMarks op b=false):QT X (a.Compare [op] [b] pos) (zjC (tOp r ta tb)):=⟨L2.zE h0 h1.un h2.un h3⟩
theorem zdo{t:TE}(h0:QC X op a b t)(h1:autoParam (behindInMarks op b=false) L2.zdo._auto_1):QE X (a.Compare [op] [b] pos) t:=⟨L2.zdo h0.un h1⟩
theorem zb6{t:TE}(h0:QC X op a b t)(h1:autoParam (behindInMarks op b=false) L2.zb6._auto_1):QT X (a.Compare [op] [b] pos) (tB t):=⟨L2.zb6 h0.un h1⟩
theorem zcg{tc:TE}(h0:OpR X (tM op) r)(h1:OpR X (tM op') r')(h2:QE X a ta)(h3:QE X b tb)(h4:QE X c tc)(h5:autoParam (lastMarks [op,op'] [b,c]=false) L2.zcg._auto_1):QT X (a.Compare [op,op'] [b,c] pos) (zjC (zhN r r' ta tb tc)):=⟨L2.zcg h0 h1 h2.un h3.un h4.un h5⟩
theorem Z5{rest:List jE}(h0:QE X a ta)(h1:QE X (Expr.BoolOp BoolOp.And (b::rest) pos) tb):QE X (Expr.BoolOp BoolOp.And (a::b::rest) pos) (zmx ta tb):=⟨L2.Z5 h0.un h1.un⟩
theorem zlc{rest:List jE}(h0:QE X a ta)(h1:QE X (Expr.BoolOp BoolOp.Or (b::rest) pos) tb):QE X (Expr.BoolOp BoolOp.Or (a::b::rest) pos) (tOrV ta tb):=⟨L2.zlc h0.un h1.un⟩
theorem zal{op:BoolOp}{t:TE}(h0:QE X a t):QE X (Expr.BoolOp op [a] pos) t:=⟨L2.zal h0.un⟩
theorem zgo(h0:QE X a ta):QE X (Expr.UnaryOp UnaryOp.Not a pos) (zmy ta):=⟨L2.zgo h0.un⟩
theorem ZB(h0:QT X c tA)(h1:QE X a ta)(h2:QE X b tb):QE X (c.IfExp a b pos) (tIf tA ta tb):=⟨L2.ZB h0.un h1.un h2.un⟩
theorem zR{t:TE}(h:QE X e t)(he:∀whole,isTrue e X.env whole=(do let v ←whole;standAt e.pos;holding [v] (truthy v)):=by intro _;rfl):QT X e (tB t):=⟨L2.zR h.un he⟩
theorem Zh(h0:QT X a tA):QT X (Expr.UnaryOp UnaryOp.Not a pos) (tNot tA):=⟨L2.Zh h0.un⟩
theorem zaO{rest:List jE}(h0:QT X a tA)(h1:QW X (Expr.BoolOp BoolOp.And (b::rest) pos) tB'):QW X (Expr.BoolOp BoolOp.And (a::b::rest) pos) (tAnd tA tB'):=⟨L2.zaO h0.un h1.un⟩
theorem zak(h0:QT X a tA):QW X (Expr.BoolOp BoolOp.And [a] pos) tA:=⟨L2.zak h0.un⟩
theorem zaM{rest:List jE}(h0:QT X a tA)(h1:QW X (Expr.BoolOp BoolOp.Or (b::rest) pos) tB'):QW X (Expr.BoolOp BoolOp.Or (a::b::rest) pos) (tOr tA tB'):=⟨L2.zaM h0.un h1.un⟩
theorem zae(h0:QT X a tA):QW X (Expr.BoolOp BoolOp.Or [a] pos) tA:=⟨L2.zae h0.un⟩
theorem PW.pt{t:TT}(h0:QW X e t):QT X e t:=⟨L2.PW.pt h0.un⟩
theorem zy{k:Nat}{t:TA}(h0:Have X.prog X.w X.K X.mg X.base x k ps sp)(h1:Room k X.A)(h2:Gl X x)(h3:QA X (e::es) t)(h4:autoParam ((x==uX "__debug__")=false) L2.zy._auto_1)(h5:autoParam (tK (e::es) X.env=(false,eval e X.env)::tK es X.env) L2.zy._auto_2)(h6:autoParam (((backTo pos (tK es X.env)).any fun (x:Bool×Sem jA)=>x.fst)=false) L2.zy._auto_3):QE X ((Expr.Name x p).Call (e::es) [] pos) (zhQ sp [] E0 t):=⟨L2.zy h0 h1 h2 h3.un h4 h5 h6⟩
theorem zw{t:TA}{r:List V->Hp->VK->Prop}(h0:zas X (Value.builtin id) r)(h1:Gl X x)(h2:X.mg x=none)(h3:tL x=some (Value.builtin id))(h4:QA X (e::es) t)(h5:autoParam (x≠uX "__name__") L2.zw._auto_1)(h6:autoParam ((x==uX "__debug__")=false) L2.zw._auto_2)(h7:autoParam (tK (e::es) X.env=(false,eval e X.env)::tK es X.env) L2.zw._auto_3)(h8:autoParam (((backTo pos (tK es X.env)).any fun (x:Bool×Sem jA)=>x.fst)=false) L2.zw._auto_4):QE X ((Expr.Name x p).Call (e::es) [] pos) (tCB r t):=⟨L2.zw h0 h1 h2 h3 h4.un h5 h6 h7 h8⟩
theorem zI{t:TA}{r:List V->Hp->VK->Prop}(h0:zas X (Value.type T) r)(h1:Gl X x)(h2:X.mg x=none)(h3:tL x=some (Value.type T))(h4:QA X (e::es) t)(h5:autoParam (x≠uX "__name__") L2.zI._auto_1)(h6:autoParam ((x==uX "__debug__")=false) L2.zI._auto_2)(h7:autoParam (tK (e::es) X.env=(false,eval e X.env)::tK es X.env) L2.zI._auto_3)(h8:autoParam (((backTo pos (tK es X.env)).any fun (x:Bool×Sem jA)=>x.fst)=false) L2.zI._auto_4):QE X ((Expr.Name x p).Call (e::es) [] pos) (tCB r t):=⟨L2.zI h0 h1 h2 h3 h4.un h5 h6 h7 h8⟩
theorem zbx{t:TA}{r:V->List V->Hp->VK->Prop}(pa:PlainAttrs T)(slot:Slot T name id)(hty:typeOf (.builtin id)=pure (.type "method_descriptor"))(hm:MtR X id r)(ho:QE X o to)(ha:QA X (e::es) t)
  (hbase:attributeBase o name X.env (eval o X.env)=eval o X.env:=by rfl)
  (hfew:((backTo cpos (tK (e::es) X.env)).all (fun x=>!x.1)&&(backToKw cpos (keywordEach [] X.env)).all (fun x=>x.1.isSome)
   && decide ((e::es).length+([]:List jK).length+(if ([]:List jK).isEmpty then 0 else 1)<30))=true:=by rfl)
  (hline:(apos.endLine==cpos.line)=true:=by rfl) (hs:tK (e::es) X.env=(false,eval e X.env)::tK es X.env:=by rfl) (hplain:(backTo cpos (tK es X.env)).any (·.1)=false:=by rfl):
  QE X (.Call (.Attribute o name apos) (e::es) [] cpos) (tBM X.K T r to t):=⟨L2.zbx pa slot hty hm ho.un ha.un hbase hfew hline hs hplain⟩
theorem zF(h0:IxR X r)(h1:QE X a ta)(h2:QE X b tb)(h3:zh0 b):QE X (a.Subscript b pos) (tOp r ta tb):=⟨L2.zF h0 h1.un h2.un h3⟩
theorem Zr{lo hi:Option jE}{tl th:TO}{p2:Pos}{r:V->Option Int->Option Int->Hp->VK->Prop}(h0:SlR X r)(h1:QE X e te)(h2:QO X lo tl)(h3:QO X hi th):QE X (e.Subscript (Expr.Slice lo hi none p2) pos) (tSl r te tl th):=⟨L2.Zr h0 h1.un h2.un h3.un⟩
theorem ZX:QO X none zhY:=⟨L2.ZX ⟩
theorem ZF(h0:QE X e te):QO X (some e) (zmH te):=⟨L2.ZF h0.un⟩
theorem zO{t:TA}(h0:QA X es t):QE X (Expr.List es pos) (tLst t):=⟨L2.zO h0.un⟩
theorem zG{t:TA}{x1:Nat}(h0:QA X es t):QE X (Expr.Tuple es x1 pos) (tTup t):=⟨L2.zG h0.un⟩
theorem zi:QA X [] tNil:=⟨L2.zi ⟩
theorem zc{t:TA}(h0:QE X e te)(h1:QA X es t)(h2:autoParam (tK (e::es) X.env=(false,eval e X.env)::tK es X.env) L2.zc._auto_1):QA X (e::es) (zat te t):=⟨L2.zc h0.un h1.un h2⟩
theorem zdR:QE X (Expr.Dict [] [] pos) zkK:=⟨L2.zdR ⟩
theorem zfE(h0:X.A.units+1<cLine)(h1:QE X o td)(h2:QE X i ty)(h3:NoSl i):QE X (o.Subscript i pos) (zmE td ty):=⟨L2.zfE h0 h1.un h2.un h3⟩
theorem zb5(h0:QE X a ta):QC X CmpOp.Is a (Expr.Constant Const.none j pos') (tIsN ta):=⟨L2.zb5 h0.un⟩
theorem zdN(h0:QE X a ta):QC X CmpOp.IsNot a (Expr.Constant Const.none j pos') (zmw ta):=⟨L2.zdN h0.un⟩
theorem zfF(h0:X.A.units+1<cLine)(h1:QE X o td)(h2:QE X i ty)(h3:QE X value tv)(h4:swapsWith value (some (o.Subscript i pos')) pos.line X.env=pure false):QS X (Stmt.Assign [o.Subscript i pos'] value pos) (zmF td ty tv):=⟨L2.zfF h0 h1.un h2.un h3.un h4⟩
theorem Zj{elt:jE}{ifs:List jE}{scope:jJ}{cl:List (Str×jC)}(fr:List Nat)(ys:List Str){tt:TT}(h0:X.calm=true)(h1:closureFor scope X.env=pure cl)(h2:(∀(y:Str×NameKind),y∈scope.names->y.snd≠NameKind.cell))(h3:scope.kind=ScopeKind.function)(h4:(∀(y:Str×NameKind),y∈scope.names->y.snd=NameKind.local->xW y.fst scope.names=some NameKind.local))(h5:xW x scope.names=some NameKind.local)(h6:(x::ys).Nodup)(h7:ClOk cl X.env.cells)(h8:(scope.names.all fun (y:Str×NameKind)=>y.snd != NameKind.free||(xW y.fst cl).isSome)=true)(h9:FrOk X scope cl fr ys)(h10:QI X (Expr.Name x px) iter wi)(h11:(∀(C:jC) (s:jB) (H:Hp) (fp:List jC),QIfs (zT X scope cl (x::ys) C s H fp) ifs tt/\QE (zT X scope cl (x::ys) C s H fp) elt te))(h12:autoParam (∀(v:jA),foldedSetIterable iter X.env v=pure v) L2.Zj._auto_1):QE X (elt.ListComp [{target:=Expr.Name x px,iter:=iter,ifs:=ifs,is_async:=0}] scope pos) (zcB fr wi tt te):=⟨L2.Zj fr ys h0 h1 h2 h3 h4 h5 h6 h7 h8 h9 h10.un (fun C s H fp=>⟨(h11 C s H fp).1.un,(h11 C s H fp).2.un⟩) h12⟩
theorem Zd:QIfs X [] fun (x:St)(H:Hp)(Q:Bool->Hp->Prop)=>Q true H:=⟨L2.Zd ⟩
theorem zcj{t:TT}(h0:QT X c t):QIfs X [c] t:=⟨L2.zcj h0.un⟩
theorem zac(h0:QE X l tl):QI X tg l (zhH X.K tl):=⟨L2.zac h0.un⟩
theorem zct(h0:QE X l tl):QI X tg l (iTup X.K tl):=⟨L2.zct h0.un⟩
theorem Zc{ta:TA}(h0:Gl X (uX "range"))(h1:X.mg (uX "range")=none)(h2:QA X [a] ta)(h3:autoParam (tK [a] X.env=[(false,eval a X.env)]) L2.Zc._auto_1):QI X tg ((Expr.Name (uX "range") p).Call [a] [] pos) (zmB ta):=⟨L2.Zc h0 h1 h2.un h3⟩
theorem zS{i:Nat}(h0:X.N.Nodup)(h1:X.N[i]?=some x)(h2:L2.Loc X.env.scope x)(h3:autoParam (X.fn x=true\/xW x X.env.scope.names=some NameKind.local) L2.zS._auto_1):QG X (Expr.Name x pos) (zW i):=⟨L2.zS h0 h1 h2 h3⟩
theorem zaJ{k:Nat}{t:TGs}{n:Nat}(h0:X.calm=true)(h1:QGs X es t)(h2:autoParam ((assignEach es X.env).length=n) L2.zaJ._auto_1)(h3:autoParam (List.findIdx? (fun (x:Bool×(jA->Sem Unit))=>x.fst) (assignEach es X.env)=none) L2.zaJ._auto_2):QG X (Expr.Tuple es k pos) (gTup X.K n t):=⟨L2.zaJ h0 h1.un h2 h3⟩
theorem zar:QGs X [] gNil:=⟨L2.zar ⟩
theorem zZ{t:TG}{u:TGs}(h0:QG X e t)(h1:QGs X es u)(h2:autoParam (List.map (fun (x:Bool×(jA->Sem Unit))=>x.snd) (assignEach (e::es) X.env)=assign e X.env::List.map (fun (x:Bool×(jA->Sem Unit))=>x.snd) (assignEach es X.env)) L2.zZ._auto_1):QGs X (e::es) (gCons t u):=⟨L2.zZ h0.un h1.un h2⟩
theorem zcs{ti:TE}{t:TSet}(ho:QE X o to)(hi:QE X i ti)(hs:PSet X t)
  (ha:∀v,assign (.Subscript o i pos) X.env v=(do
   let ov ←holding [v] (eval o X.env)
   let iv ←holding [v,ov] (eval i X.env)
   standAt pos
   holding [v,ov,iv] (setItem ov iv v)
   release [v,ov,iv] []):=by intro _;rfl):QG X (.Subscript o i pos) (gSub to ti t):=⟨L2.zcs ho.un hi.un hs ha⟩
theorem zbu{f:Str}(h0:QE X e ta)(h1:attributeBase e f X.env (eval e X.env)=eval e X.env):QE X (e.Attribute f pos) (tFld X.K ta f):=⟨L2.zbu h0.un h1⟩
theorem zgp{f:Str}(h0:QE X o ta)(h1:QE X value tv)(h2:swapsWith value (some (o.Attribute f pos')) pos.line X.env=pure false):QS X (Stmt.Assign [o.Attribute f pos'] value pos) (sFld X.K ta tv f):=⟨L2.zgp h0.un h1.un h2⟩
end D
namespace L2
open PySem PySem.Spec PyProof.Rows
variable{P:jG}{w:jH}{K:tT}{g:jC}{X:Cx}
def MD(P:jG)(w:jH)(K:tT)(g:jC)(kvs:List (Key×V)):Prop:=
 ∃(o:Obj)(vs:List (Key×jA)),K.lookup g=some o/\PySem.Obj.IsDictOf (Zs P w) o vs/\KV kvs vs/\(g==sysModules)=false
theorem MD.dict{kvs:List (Key×V)}{h:jD}(m:MD P w K g kvs)(x:K.In h):∃vs,KV kvs vs/\h.DictOf (Zs P w) g vs/\(g==sysModules)=false:=by
 obtain⟨o,vs,e,d,r,n⟩:=m;exact⟨vs,r,Heap.dictOf_iff.mpr ⟨o,x _ _ e,d⟩,n⟩
theorem zgz{P:jG}{w:jH}:∀l:List (Str×Tok×V×jA),Pairs (Zs P w) (l.map fun p=>(⟨hashStr w p.1,.str p.1 p.2.1,p.2.2.2⟩:DictEntry)) (l.map fun p=>((Sum.inr p.1:Key),p.2.2.2))
 |[]=>.nil
 |p::r=>.cons (zbd P w p.1 p.2.1) rfl (zgz r)
theorem zm0:∀l:List (Str×Tok×V×jA),(∀p∈l,RelV p.2.2.1 p.2.2.2)->KV (l.map fun p=>((Sum.inr p.1:Key),p.2.2.1)) (l.map fun p=>((Sum.inr p.1:Key),p.2.2.2))
 |[],_=>.nil
 |p::r,h=>.cons ⟨rfl,h p yS⟩ (zm0 r fun q hq=>h q (yL _ hq))
theorem ziA(l:List (Str×Tok×V×jA)){ep:Nat}(e:K.lookup g=some ⟨.type "dict",none,.dict (l.map fun p=>(⟨hashStr w p.1,.str p.1 p.2.1,p.2.2.2⟩:DictEntry)).toArray ep,#[]⟩)
  (n:(g==sysModules)=false) (hr:∀p∈l,RelV p.2.2.1 p.2.2.2) (nd:(l.map (·.1)).Nodup):MD P w K g (l.map fun p=>((Sum.inr p.1:Key),p.2.2.1)):=by
 refine⟨_,l.map fun p=>((Sum.inr p.1:Key),p.2.2.2),e,⟨_,_,⟨rfl,rfl,rfl⟩,rfl,?_,?_,?_⟩,zm0 l hr,n⟩
 ·intro x hx
  have hx':x∈l.map fun p=>(⟨hashStr w p.1,.str p.1 p.2.1,p.2.2.2⟩:DictEntry):=by simpa using hx
  obtain⟨p,_,rfl⟩:=uB.mp hx';exact⟨Sum.inr p.1,zbd P w p.1 p.2.1,rfl⟩
 ·rw[wH]
  exact zgz l
 ·rw[wG]
  have:(l.map ((fun x:Key×jA=>x.1)∘fun p=>((Sum.inr p.1:Key),p.2.2.2)))=(l.map (·.1)).map (Sum.inr:Str->Key):=by rw[wG];rfl
  rw[this];exact List.pairwise_map.mpr (uO.imp (fun {a b} (h:a≠b) (e:(Sum.inr a:Key)=Sum.inr b)=>h (by simpa using e)) nd)
theorem zk1:OpR X (tM .In) (fun x y H Q=>∃(g:jC)(kvs:List (Key×V))(k:Key),x=kV k/\y=.ref g/\MD X.prog X.w X.K g kvs/\Q (.bl (valV kvs k).isSome) H):=by
 intro pins s σ H x y v u Q I rx ry h;obtain⟨g,kvs,k,rfl,rfl,m,q⟩:=h;cases ry;obtain⟨vs,rel,dd,hd⟩:=m.dict I.kIn;refine wpAny_in_of (zfC rx) hd dd.mapOf ?_;rw[←(rel.val k).isSome_eq];exact⟨.bl _,H,I.tok _,rfl,q⟩
theorem ziB:OpR X (tM .NotIn) (fun x y H Q=>∃(g:jC)(kvs:List (Key×V))(k:Key),x=kV k/\y=.ref g/\MD X.prog X.w X.K g kvs/\Q (.bl (!(valV kvs k).isSome)) H):=by
 intro pins s σ H x y v u Q I rx ry h;obtain⟨g,kvs,k,rfl,rfl,m,q⟩:=h;cases ry;obtain⟨vs,rel,dd,hd⟩:=m.dict I.kIn;refine wpAny_notIn_of (zfC rx) hd dd.mapOf ?_;rw[←(rel.val k).isSome_eq];exact⟨.bl _,H,I.tok _,rfl,q⟩
theorem ziC:IxR X (fun x y H Q=>∃(g:jC)(kvs:List (Key×V))(k:Key)(v:V),x=.ref g/\y=kV k/\MD X.prog X.w X.K g kvs/\valV kvs k=some v/\Q v H):=by
 intro value slice pins s σ H x y v u Q I rx ry h hs;obtain⟨g,kvs,k,z,rfl,rfl,m,hv,q⟩:=h;cases rx;obtain⟨vs,rel,dd,hd⟩:=m.dict I.kIn;obtain⟨w',hw,rw'⟩:=RelO.some_of (v:=z) (o:=valueAt vs k) (by rw[←hv];exact rel.val k);exact tail_any dd.typeIs PySem.F.slot_dict_getitem.lookup (wpAny_getItem_of (zfC ry) dd.mapOf hw ⟨z,H,I.tok _,rw',q⟩) hs
def Zp(P:jG)(w:jH)(K:tT)(mg:Str->Option jA)(base:jD)(f:jC)(k:Nat)(ps:List Str)(sp:Sp):Prop:=∃fd:tU,FnOk P w K mg base CX0 k f fd ps sp/\Binds K fd ps []/\keepIn K (.ref f)=true
theorem Zp.mono{mg:Str->Option jA}{base:jD}{f:jC}{j k:Nat}{ps:List Str}{sp:Sp}(h:Zp P w K mg base f j ps sp)(e:j<=k):Zp P w K mg base f k ps sp:=
 let ⟨fd,F,r⟩:=h;⟨fd,F.mono e,r⟩
theorem Zp.up{P:jG}{w:jH}{K:tT}{mg:Str->Option jA}{base:jD}{j k:Nat}{ps:List Str}{sp:Sp}{f:jC}(h:Zp P w K mg base f j ps sp)(e:Nat.ble j k=true):Zp P w K mg base f k ps sp:=h.mono (wN e)
inductive i_tCallF(P:jG)(w:jH)(K:tT)(mg:Str->Option jA)(base:jD)(k:Nat)(t:TA)(σ:St)(Q:VK)(x:V)(H1:Hp):Prop
 |mk (f:jC) (ps:List Str) (sp:Sp) (_:x=.ref f) (_:Zp P w K mg base f k ps sp) (_:t σ H1 fun vs H2=>sp vs H2 Q E0)
def zk2(P:jG)(w:jH)(K:tT)(mg:Str->Option jA)(base:jD)(k:Nat)(tf:TE)(t:TA):TE:=fun σ H Q=>tf σ H fun x H1=>i_tCallF P w K mg base k t σ Q x H1
theorem zbG{k:Nat}{fe e:jE}{es:List jE}{tf:TE}{t:TA}{pos:Pos}(hr:Room k X.A)(hf:PE X fe tf)(ha:PA X (e::es) t)
  (hev:eval (.Call fe (e::es) [] pos) X.env=(do callWith pos (←eval fe X.env) [] (backTo pos (tK (e::es) X.env)) (backToKw pos (keywordEach [] X.env))):=by rfl)
  (he:tK (e::es) X.env=(false,eval e X.env)::tK es X.env:=by rfl) (hpl:(backTo pos (tK es X.env)).any (·.1)=false:=by rfl):
  PE X (.Call fe (e::es) [] pos) (zk2 X.prog X.w X.K X.mg X.base k tf t):=by
 intro pins s σ H Q I h;refine Call_ (thn (hf pins s σ H _ I h) fun fv s1 ⟨x,H1,I1,rx,f,ps,sp,ex,⟨fd,F,b,kp⟩,q1⟩=>?_) hev;subst ex;obtain rfl:fv=Value.ref f:=rx;refine callWith_K (h₀:=X.base) I.ok.mod.kin kp (thn (ha pos pins s1 σ H1 _ I1 q1) fun us s2 ⟨vs,H2,I2,r,q⟩=>⟨I2.kIn,?_⟩) he hpl;exact zhR F hr b .nil zjP I2 r (by rw[xB];exact q)
end L2
namespace D
open PySem L2
theorem zbG{X:Cx}{k:Nat}{fe e:jE}{es:List jE}{tf:TE}{t:TA}{pos:Pos}(hr:Room k X.A)(hf:QE X fe tf)(ha:QA X (e::es) t)
  (hev:eval (.Call fe (e::es) [] pos) X.env=(do callWith pos (←eval fe X.env) [] (backTo pos (tK (e::es) X.env)) (backToKw pos (keywordEach [] X.env))):=by rfl)
  (he:tK (e::es) X.env=(false,eval e X.env)::tK es X.env:=by rfl) (hpl:(backTo pos (tK es X.env)).any (·.1)=false:=by rfl):
  QE X (.Call fe (e::es) [] pos) (zk2 X.prog X.w X.K X.mg X.base k tf t):=⟨L2.zbG hr hf.un ha.un hev he hpl⟩
end D
namespace L2
open PySem PySem.Spec PyProof.Rows PySem.Builtin PySem.Builtin.Str
variable{X:Cx}
theorem zlJ:OpR X (binaryOp .Mult) (rI IntMulOk fun i j=>.int (i*j)):=opI fun _ _ _ _ _ _ _ hc q=>mul_int q hc
def zm1(i j:Int):Prop:=j≠0/\j.natAbs.log2<9000
theorem ziD:OpR X (binaryOp .FloorDiv) (rI zm1 fun i j=>.int (i.fdiv j)):=opI fun _ _ _ _ _ _ _ hc q=>floordiv_int hc.1 q (.inl (PyProof.noPylong_of_log2 hc.2))
def znI(K:tT):R2:=fun x y H Q=>(∃i j,x=.str i/\y=.str j/\i.length+j.length<=tI/\Q (.str (i++j)) H)\/rCatT K x y H Q \/
 ∃(a b:jC)(ys:List V),x=.ref a/\y=.ref b/\SqT K H a []/\SqT K H b ys/\Q (.ref b) H
theorem zlK:OpR X (binaryOp .Add) (znI X.K):=OpR.or zai (OpR.or zbR zj2)
theorem zlL{K:tT}{A T1 T2:String}{b1 b2:Bool}(h1:isi A T1=some b1)(h2:isi A T2=some b2):kitAny K (.type A) [.type T1,.type T2]=some (b1||b2):=by
 unfold kitAny;rw[zeV h1];cases b1 with
 |true=>rfl
 |false=>
  show kitAny K (.type A) [.type T2]=_;unfold kitAny;rw[zeV h2];cases b2<;>rfl
theorem ziE:zas X (.builtin "isinstance") (fun xs H Q=>∃v A p T1 T2 b1 b2,xs=[v,.ref p]/\TyOf X.K H v (.type A)/\H p=some (.tup [.ty T1,.ty T2])/\isi A T1=some b1/\isi A T2=some b2/\Q (.bl (b1||b2)) H):=by
 intro pins s σ H xs us Q I r h;obtain⟨v,A,p,T1,T2,b1,b2,rfl,ty,hp,e1,e2,q⟩:=h;obtain⟨u,c,rfl,rx,rc⟩:=zfA r;cases (show c=Value.ref p from rc);obtain⟨_,its,ri,⟨o,ho,hc,hd⟩⟩:=(show Zu X.prog X.w H s.heap p (.tup [.ty T1,.ty T2]) from I.hok p _ hp);obtain⟨n,hd⟩:=hd;have eits:its=[.type T1,.type T2]:=by
  cases ri with
  |cons r1 r2=>
  cases r2 with
  |cons r3 r4=>
  cases r4;cases (show _=Value.type T1 from r1);cases (show _=Value.type T2 from r3)
  rfl
 have htp:s.heap.get? p=some ⟨.type "tuple",o.dict,.seq its.toArray n,o.slots⟩:=by
  rw[ho];cases o;simp only at hc hd;rw[hc,hd]
 have ha:=zlL (K:=X.K) e1 e2;rw[eits] at htp;have fin:∀tk,EP X pins σ Q (.bool (b1||b2)) {s with toks:=tk}:=fun tk=>⟨.bl _,H,I.tok tk,rfl,q⟩;cases ty with
 |non=>cases (show u=Value.none from rx);exact kia_tup PySem.W.kitx_none I.kIn True.intro htp ha (fun z=>nomatch z) fin
 |bl y=>cases (show u=Value.bool y from rx);exact kia_tup PySem.W.kitx_bool I.kIn True.intro htp ha (fun z=>nomatch z) fin
 |int i=>obtain⟨t,q⟩:=(show ∃t,u=Value.int i t from rx);cases q;exact kia_tup PySem.W.kitx_int I.kIn True.intro htp ha (fun z=>nomatch z) fin
 |str y=>obtain⟨t,q⟩:=(show ∃t,u=Value.str y t from rx);cases q;exact kia_tup PySem.W.kitx_str I.kIn True.intro htp ha (fun z=>nomatch z) fin
 |flt y=>obtain⟨t,q⟩:=(show ∃t,u=Value.float y t from rx);cases q;exact kia_tup PySem.W.kitx_float I.kIn True.intro htp ha (fun z=>nomatch z) fin
 | @lst a xs ea=>
  cases (show u=Value.ref a from rx);obtain⟨_,_,n,_,h1⟩:=(show Zu X.prog X.w H s.heap a (.lst xs) from I.hok a _ ea);exact kia_tup kitx_list I.kIn ⟨_,h1,rfl⟩ htp ha (fun z=>nomatch z) fin
 | @frz a ob xs ea=>
  cases (show u=Value.ref a from rx);obtain⟨_,_,_,n,_,h1⟩:=(show Zu X.prog X.w H s.heap a (.frz ob (.lst xs)) from I.hok a _ ea);exact kia_tup kitx_list I.kIn ⟨_,h1,rfl⟩ htp ha (fun z=>nomatch z) fin
 | @tup a xs ea=>
  cases (show u=Value.ref a from rx);obtain⟨_,_,_,p⟩:=(show Zu X.prog X.w H s.heap a (.tup xs) from I.hok a _ ea);obtain⟨o,h1,h2,_⟩:=p;exact kia_tup kitx_tuple I.kIn ⟨o,h1,h2⟩ htp ha (fun z=>nomatch z) fin
 | @dK a kvs ea=>
  cases (show u=Value.ref a from rx);obtain⟨_,_,vs,_,p⟩:=(show Zu X.prog X.w H s.heap a (.dK kvs) from I.hok a _ ea);obtain⟨o,es,ep,h1,h2,_⟩:=p;exact kia_tup kitx_dict I.kIn ⟨o,h1,h2.1⟩ htp ha (fun z=>nomatch z) fin
 | @dT a kvs ea=>
  cases (show u=Value.ref a from rx);obtain⟨_,_,xs,_,o,es,ep,h1,h2,_⟩:=(show Zu X.prog X.w H s.heap a (.dT kvs) from I.hok a _ ea);exact kia_tup kitx_dict I.kIn ⟨o,h1,h2.1⟩ htp ha (fun z=>nomatch z) fin
end L2
namespace D
open PySem L2
variable{X:Cx}{i:Nat}{y:Str}{py spos pos:Pos}{elt iter tg:jE}{ifs:List jE}{scope:jJ}{cl:List (Str×jC)}{wi:TI}{tt:TT}{te:TE}{g:TG}
theorem zdT{x:Str}{px:Pos}(fr:List Nat)(ys:List Str)
  (hc:X.calm=true) (hclos:closureFor scope X.env=pure cl) (hcell:∀y∈scope.names,y.2≠.cell) (hkind:scope.kind=.function) (hnames:∀y∈scope.names,y.2=.local->scope.names.lookup y.1=some .local)
  (hx:scope.names.lookup x=some .local) (hnd:(x::ys).Nodup) (hcl:ClOk cl X.env.cells) (hall:(scope.names.all fun y=>y.2 != .free||(cl.lookup y.1).isSome)=true) (hfr:FrOk X scope cl fr ys)
  (hi:QI X (.Name x px) iter wi)
  (hY:∀C s H fp,QIfs (zT X scope cl (x::ys) C s H fp) ifs tt/\QE (zT X scope cl (x::ys) C s H fp) elt te)
  (hN:X.N.Nodup) (hiy:X.N[i]?=some y) (hy:L2.Loc X.env.scope y) (hsw:swapsWith (.ListComp elt [⟨.Name x px,iter,ifs,0⟩] scope pos) (some (.Name y py)) spos.line X.env=pure true:=by rfl)
  (hf:X.fn y=true\/X.env.scope.names.lookup y=some .local:=by first|exact .inl rfl|exact .inr rfl|assumption)
  (hs:∀v,foldedSetIterable iter X.env v=pure v:=by intro _;rfl):
  QS X (.Assign [.Name y py] (.ListComp elt [⟨.Name x px,iter,ifs,0⟩] scope pos) spos) (tAsg (zcB fr wi tt te) (zW i)):=
 ⟨L2.zdT fr ys hc hclos hcell hkind hnames hx hnd hcl hall hfr hi.un (fun C s H fp=>⟨(hY C s H fp).1.un,(hY C s H fp).2.un⟩) hN hiy hy hsw hf hs⟩
theorem zck(NY:List Str)(fr:List Nat)(ys:List Str)
  (hc:X.calm=true) (hclos:closureFor scope X.env=pure cl) (hcell:∀y∈scope.names,y.2≠.cell) (hkind:scope.kind=.function) (hnames:∀y∈scope.names,y.2=.local->scope.names.lookup y.1=some .local)
  (hcl:ClOk cl X.env.cells) (hall:(scope.names.all fun y=>y.2 != .free||(cl.lookup y.1).isSome)=true) (hfr:FrOk X scope cl fr ys) (hgk:fr=[]\/Kps g NY.length)
  (hi:QI X tg iter wi) (hg:∀C s H fp,QG (zT X scope cl (NY++ys) C s H fp) tg g)
  (hY:∀C s H fp,QIfs (zT X scope cl (NY++ys) C s H fp) ifs tt/\QE (zT X scope cl (NY++ys) C s H fp) elt te)
  (hN:X.N.Nodup) (hiy:X.N[i]?=some y) (hy:L2.Loc X.env.scope y) (hsw:swapsWith (.ListComp elt [⟨tg,iter,ifs,0⟩] scope pos) (some (.Name y py)) spos.line X.env=pure true:=by rfl)
  (hf:X.fn y=true\/X.env.scope.names.lookup y=some .local:=by first|exact .inl rfl|exact .inr rfl|assumption)
  (hs:∀v,foldedSetIterable iter X.env v=pure v:=by intro _;rfl):
  QS X (.Assign [.Name y py] (.ListComp elt [⟨tg,iter,ifs,0⟩] scope pos) spos) (tAsg (zcD NY.length fr wi g tt te) (zW i)):=
 ⟨L2.zck NY fr ys hc hclos hcell hkind hnames hcl hall hfr hgk hi.un (fun C s H fp=>(hg C s H fp).un) (fun C s H fp=>⟨(hY C s H fp).1.un,(hY C s H fp).2.un⟩) hN hiy hy hsw hf hs⟩
end D
namespace L2
open PySem PySem.Spec PyProof.Rows
theorem ze0{X:Cx}:zas X (.type "dict") (fun xs H Q=>∃(a:jC)(kvs:List (Key×V)),xs=[.ref a]/\H a=some (.dK kvs)/\∀p,H p=none->Q (.ref p) (upd H p (.dK kvs))):=by
 intro pins s σ H xs us Q I r h;obtain⟨a,kvs,rfl,e,q⟩:=h;obtain⟨u,rfl,rx⟩:=zbQ r;cases rx;exact zjM I (.inl e) fun p s' hp I'=>⟨.ref p,_,I',rfl,q p hp⟩
inductive i_tMGet2(P:jG)(w:jH)(K:tT)(ty tx:TE)(σ:St)(Q:VK)(x:V)(H1:Hp):Prop
 |mk (g:jC) (kvs:List (Key×V)) (_:x=.ref g) (_:MD P w K g kvs) (_:ty σ H1 fun y H2=>tx σ H2 fun z H3=>∃k:Key,y=kV k/\Q ((valV kvs k).getD z) H3)
def zk3(P:jG)(w:jH)(K:tT)(td ty tx:TE):TE:=fun σ H Q=>td σ H fun x H1=>i_tMGet2 P w K ty tx σ Q x H1
theorem zec{X:Cx}{o e f:jE}{apos cpos:Pos}{td ty tx:TE}(ho:PE X o td)(he:PE X e ty)(hf:PE X f tx)(m:M2 X o "get" apos e f cpos):PE X (.Call (.Attribute o "get" apos) [e,f] [] cpos) (zk3 X.prog X.w X.K td ty tx):=by
 intro pins s σ H Q I h;refine wpAny_Call_method m.base m.few m.line PySem.F.plainAttrs_dict PySem.F.slot_dict_get PySem.F.type_dict_get (thn (ho pins s σ H _ I h) fun u s1 ⟨x,H1,I1,rx,a,kvs,ex,d,q1⟩=>?_);subst ex;obtain rfl:u=Value.ref a:=rx;obtain⟨vs1,rel1,dd1,hd1⟩:=d.dict I1.kIn;refine⟨dd1.typeIs,fun b q=>?_,?_⟩
 ·cases q
  obtain⟨ob,_,_,h1,h2,_⟩:=dd1;exact⟨ob,h1,h2.2.1⟩
 rw[m.trees];refine Calls.callWith_builtin rfl (Calls.evalArgs_plain (Calls.spliced_cons (thn (he pins s1 σ H1 _ I1 q1) fun iv s2 ⟨y,H2,I2,ry,q2⟩=>
  Calls.spliced_cons (thn (hf pins s2 σ H2 _ I2 q2) fun fv s3 ⟨z,H3,I3,rz,k,ey,q3⟩=>Calls.spliced_nil ?_))))
 subst ey;obtain⟨vs,rel,dd,hd⟩:=d.dict I3.kIn;refine call_meetsIn PySem.F.slot_dict_get dd.typeIs PySem.F.entry_dict_get (PySem.F.args_dict_get_3 _ _ _) (meets_dict_get_default (Zs X.prog X.w) a (zfC ry) hd fv) ⟨_,dd.mapOf,?_⟩;exact⟨_,H3,I3.tok _,(rel.val k).getD rz,q3⟩
end L2
namespace D
open PySem L2
theorem zec{X:Cx}{o e f:jE}{apos cpos:Pos}{td ty tx:TE}(ho:QE X o td)(he:QE X e ty)(hf:QE X f tx)(m:M2 X o "get" apos e f cpos):QE X (.Call (.Attribute o "get" apos) [e,f] [] cpos) (zk3 X.prog X.w X.K td ty tx):=⟨L2.zec ho.un he.un hf.un m⟩
end D
namespace L2
open PySem PySem.Spec PyProof.Rows
variable{P:jG}{w:jH}{K:tT}{mg:Str->Option jA}{base:jD}{C:jC}{m:Str}{j:Nat}{ps:List Str}{sp:Sp}{pl:Sem Bool}
def zdb(P:jG)(w:jH)(K:tT)(mg:Str->Option jA)(base:jD)(C:jC)(m:Str)(k:Nat)(ps:List Str)(sp:Sp):Prop:=
 ∃(f:jC)(fd:tU),FnOk P w K mg base CX0 k f fd ps sp/\Binds K fd ps []/\Meth K C m f/\Cls K C
def zdc(P:jG)(w:jH)(K:tT)(mg:Str->Option jA)(base:jD)(C:jC)(x:Str)(k:Nat)(ps:List Str)(sp:Sp):Prop:=
 ∃(f:jC)(fd:tU)(j:Nat),k=j+1/\FnOk P w K mg base CX0 j f fd ps sp/\Binds K fd ps []/\Mk K C f/\mg x=some (.ref C)
theorem zdb.mono{k:Nat}(h:zdb P w K mg base C m j ps sp)(e:j<=k):zdb P w K mg base C m k ps sp:=
 let ⟨f,fd,F,r⟩:=h;⟨f,fd,F.mono e,r⟩
theorem zdb.up{P:jG}{w:jH}{K:tT}{mg:Str->Option jA}{base:jD}{j k:Nat}{ps:List Str}{sp:Sp}{C:jC}{m:Str}(h:zdb P w K mg base C m j ps sp)(e:Nat.ble j k=true):zdb P w K mg base C m k ps sp:=h.mono (wN e)
theorem zdc.mono{k:Nat}(h:zdc P w K mg base C m j ps sp)(e:j<=k):zdc P w K mg base C m k ps sp:=by
 obtain⟨f,fd,i,rfl,F,r⟩:=h;exact⟨f,fd,k-1,by lia,F.mono (by lia),r⟩
theorem zdc.up{P:jG}{w:jH}{K:tT}{mg:Str->Option jA}{base:jD}{j k:Nat}{ps:List Str}{sp:Sp}{C:jC}{m:Str}(h:zdc P w K mg base C m j ps sp)(e:Nat.ble j k=true):zdc P w K mg base C m k ps sp:=h.mono (wN e)
section
variable{X:Cx}{C:jC}{x m:Str}{k:Nat}{ps:List Str}{sp:Sp}{e o:jE}{es:List jE}{ta:TE}{t:TA}{p pos apos:Pos}
theorem pe_m(G:zdb X.prog X.w X.K X.mg X.base C m k ps sp)(hr:Room k X.A)(ho:PE X o ta)(ha:PA X (e::es) t)
  (hst:tK (e::es) X.env=(false,eval e X.env)::tK es X.env:=by rfl) (hpl:(backTo pos (tK es X.env)).any (·.1)=false:=by rfl)
  (ht:eval (.Call (.Attribute o m apos) (e::es) [] pos) X.env=(do
   let ov ←eval o X.env
   standAt apos.atName
   let (f,first) ←holding [ov] (getMethod ov m pl)
   callWith pos f first (backTo pos (tK (e::es) X.env)) (backToKw pos (keywordEach [] X.env))):=by rfl):
  PE X (.Call (.Attribute o m apos) (e::es) [] pos) (zlj C m sp [] E0 ta t):=by
 obtain⟨f,fd,F,b,mm,c⟩:=G;exact zlm ho c mm F hr b .nil zjP ha hst hpl ht
theorem ziF(G:zdc X.prog X.w X.K X.mg X.base C x k ps sp)(hr:Room k X.A)(hg:Gl X x)(ha:PA X (e::es) t)(hdb:(x==("__debug__":Str))=false:=by decide)
  (he:tK (e::es) X.env=(false,eval e X.env)::tK es X.env:=by rfl) (hpl:(backTo pos (tK es X.env)).any (·.1)=false:=by rfl):
  PE X (.Call (.Name x p) (e::es) [] pos) (zlk C sp [] E0 t):=by
 obtain⟨f,fd,j,rfl,F,b,mk,mg⟩:=G;exact zln mk F hr hg mg b .nil zjP ha hdb he hpl
end
end L2
namespace D
open PySem L2
section
variable{X:Cx}{C:jC}{x m:Str}{k:Nat}{ps:List Str}{sp:Sp}{e o:jE}{es:List jE}{ta:TE}{t:TA}{p pos apos:Pos}
theorem pe_m(G:zdb X.prog X.w X.K X.mg X.base C m k ps sp)(hr:Room k X.A)(ho:QE X o ta)(ha:QA X (e::es) t){pl:Sem Bool}
  (hst:tK (e::es) X.env=(false,eval e X.env)::tK es X.env:=by rfl) (hpl:(backTo pos (tK es X.env)).any (·.1)=false:=by rfl)
  (ht:eval (.Call (.Attribute o m apos) (e::es) [] pos) X.env=(do
   let ov ←eval o X.env
   standAt apos.atName
   let (f,first) ←holding [ov] (getMethod ov m pl)
   callWith pos f first (backTo pos (tK (e::es) X.env)) (backToKw pos (keywordEach [] X.env))):=by rfl):
  QE X (.Call (.Attribute o m apos) (e::es) [] pos) (zlj C m sp [] E0 ta t):=⟨L2.pe_m G hr ho.un ha.un hst hpl ht⟩
theorem ziF(G:zdc X.prog X.w X.K X.mg X.base C x k ps sp)(hr:Room k X.A)(hg:Gl X x)(ha:QA X (e::es) t)(hdb:(x==("__debug__":Str))=false:=by decide)
  (he:tK (e::es) X.env=(false,eval e X.env)::tK es X.env:=by rfl) (hpl:(backTo pos (tK es X.env)).any (·.1)=false:=by rfl):
  QE X (.Call (.Name x p) (e::es) [] pos) (zlk C sp [] E0 t):=⟨L2.ziF G hr hg ha.un hdb he hpl⟩
end
end D
namespace L2
open PySem PySem.Spec PyProof.Rows
variable{X:Cx}{σ:St}{H:Hp}{K:tT}{elts:List jE}{pos:Pos}
theorem Inv.turnedL{pins:List (jC×Obj)}{s:jB}{h':jD}{t':Nat}{fp:List jC}(I:Inv X pins σ H s)(k:∀b o,b ∉ fp->s.heap.get? b=some o->h'.get? b=some o)(hf:∀b∈fp,FpOk X pins H b):
  Inv X pins σ H {s with heap:=h',toks:=t'}:=by
 have nit:∀b u,H b=some u->b ∉ fp:=fun b u e z=>by
  have:=(hf b z).1;rw[e] at this;cases this
 refine I.step (g':=s.gens) (d':=s.drawn) (ch:=fp) (fun b hb=>?_) (fun b o _ _ hc e _=>k b o hc e) (fun b o _ _ hc e _=>⟨o.slots,k b o hc e⟩) (fun _ _ _ _ n=>n)
  (fun b o hc e=>⟨o,k b o hc e⟩) (fun _ _ e=>e) (fun _ _ _ e=>e) (fun b ps e=>⟨#[],by rw[e];simp⟩) (fun m hm=>?_) (fun b u e=>?_) I.bare
 ·obtain⟨f0,f1,f2,f3,f4,f5⟩:=hf b hb
  exact⟨f3,f1,f4,f5⟩
 ·obtain⟨o,es,ep,ho,r⟩:=hm
  exact⟨o,es,ep,k _ o (fun z=>(hf _ z).2.1 rfl) ho,r⟩
 ·refine (I.hok b u e).stay (fun c v hc q=>k c v ?_ q) (fun _ q=>q) fun _ _ q=>q
  rcases hc with z|z
  ·rw[z];exact nit b u e
  ·exact nit c _ z
theorem zed{h:jD}{o u:Obj}{b:jC}(e:(h.push o).get? b=some u)(hb:b<h.objs.size):h.get? b=some u:=by
 rcases Heap.get?_push_cases e with⟨r,_⟩|r
 ·rw[r] at hb
  exact absurd hb (xN _)
 ·exact r
def Ite(K:tT)(a:jC):It:=
 ⟨fun i H=>∃xs x,SqL K H a xs/\xs[i]?=some x,fun i H x H'=>∃t y,H t=none/\x=.ref t/\(∀xs,SqL K H a xs->xs[i]?=some y)/\H'=upd H t (.tup [.int i,y]),fun i H=>∃xs,SqL K H a xs/\xs.length<=i⟩
theorem ziG{P:jG}{w:jH}{k:Nat}(a e it:jC)(hei:e≠it):Turn P w K (.Tuple elts k pos) (Ite K a) [e,it] e (fun i h=>(∃old,IsEnum h e it i old)/\h.IsListIter it a i) where
 mem:=by simp
 obj:=fun i h st b hb=>by
  obtain⟨⟨old,he⟩,hit⟩:=st;have hc:b=e\/b=it:=by simpa using hb
  rcases hc with rfl|rfl
  ·exact⟨_,he,fun v z=>by
    have z':Data.fields _=Data.cell v:=z;cases z'⟩
  ·obtain⟨o,eo,c,d⟩:=hit
   exact⟨o,eo,fun v z=>by rw[d] at z;cases z⟩
 keep:=fun i h h' st kk=>by
  obtain⟨⟨old,he⟩,hit⟩:=st;exact⟨⟨old,kk e (by simp) _ he⟩,hit.at fun o x=>kk it (by simp) o x⟩
 item:=by
  intro X hP hw hK hc i pins s σ H E I hf st hg;subst hP hw hK;obtain⟨⟨old,he⟩,hit⟩:=st;obtain⟨xs,x,hq,hx⟩:=hg;obtain⟨its,rv,p,hz⟩:=I.list hq;obtain⟨u,hu,ru⟩:=rv.get hx;have hfr:H s.heap.objs.size=none:=I.hok.fresh (yG _);have helt:e<s.heap.objs.size:=tE he;have hilt:it<s.heap.objs.size:=by obtain⟨_,z,_⟩:=hit;exact tE z
  refine wpAny_pyNext_enum_item he hit p.isList (x:=u) (by simpa using hu) hei fun h' ho hit' hT hsz hk=>⟨_,rfl,wpAny_letOwnedTupleGo_enum ho fun h2 he2 hs2=>?_⟩;have I1:Inv X pins σ (upd H s.heap.objs.size (.tup [.int i,x])) {s with heap:=s.heap.push {cls:=.type "tuple",data:=.seq #[.int i s.toks,u]},toks:=s.toks}:=
   I.laid (t':=s.toks) (fun b u e=>tD _ e) (yG _) ⟨zl2,[.int i s.toks,u],.cons ⟨_,rfl⟩ (.cons ru .nil),⟨_,tF _ rfl,rfl,_,rfl⟩⟩
  have nn:∀b∈[e,it],upd H s.heap.objs.size (.tup [.int i,x]) b=none:=fun b hb=>by
   rw[zH (fun z=>by
    have hc:b=e\/b=it:=by simpa using hb
    rcases hc with r|r
    ·rw[←r,z] at helt;exact xN _ helt
    ·rw[←r,z] at hilt;exact xN _ hilt)]
   exact (hf b hb).1
  have I2:Inv X pins σ (upd H s.heap.objs.size (.tup [.int i,x])) {s with heap:=h2,toks:=s.toks+1}:=by
   refine Inv.turnedL (s:={s with heap:=s.heap.push {cls:=.type "tuple",data:=.seq #[.int i s.toks,u]},toks:=s.toks}) (h':=h2) (t':=s.toks+1) (fp:=[e,it]) I1 (fun b o hb eb=>?_) (fun b hb=>?_)
   ·have hbe:b≠e:=fun z=>hb (by simp[z])
    have hbi:b≠it:=fun z=>hb (by simp[z]);refine (hs2.2 b hbe).trans ?_
    by_cases hbs:b=s.heap.objs.size
    ·subst hbs
     have e1:(s.heap.push {cls:=.type "tuple",data:=.seq #[.int i s.toks,u]}).get? s.heap.objs.size=some {cls:=.type "tuple",data:=.seq #[.int i s.toks,u]}:=tF _ rfl;have eb:(s.heap.push {cls:=.type "tuple",data:=.seq #[.int i s.toks,u]}).get? s.heap.objs.size=some o:=eb;rw[e1] at eb;cases eb;exact hT
    ·refine hk b o hbe hbi ?_
     have eb:(s.heap.push {cls:=.type "tuple",data:=.seq #[.int i s.toks,u]}).get? b=some o:=eb;have hlt:=tE eb;rw[Heap.size_push] at hlt;exact zed eb (vO (vT hlt) hbs)
   ·obtain⟨f0,f1,f2,f3,f4,f5⟩:=hf b hb
    exact⟨nn b hb,f1,f2,f3,f4,f5⟩
  refine⟨.ref s.heap.objs.size,_,I2,rfl,⟨s.heap.objs.size,x,hfr,rfl,fun ys hy=>by rw[I.list_inj hy hq];exact hx,rfl⟩,⟨⟨_,by simpa using he2⟩,hit'.at fun o y=>(hs2.2 it hei.symm).trans y⟩,nn⟩
 done:=by
  intro X hP hw hK hc i pins s σ H E I hf st hg;subst hP hw hK;obtain⟨⟨old,he⟩,hit⟩:=st;obtain⟨xs,hq,hx⟩:=hg;obtain⟨its,rv,p,hz⟩:=I.list hq;have hl:=rv.length;refine wpAny_pyNext_enum_end (I.ok.hd hc) he hit p.isList (by simp;lia) fun h' eb=>⟨rfl,?_⟩;exact I.turnedL (t':=s.toks) (fp:=[e,it]) (fun b o hb e'=>eb b o (fun z=>hb (by simp[z])) e') hf
 self:=fun _ _ _ _ _ st h=>by
  obtain⟨⟨old,he⟩,_⟩:=st;exact wpAny_pyIter_enum he h
theorem ze1:tL (uX "enumerate")=some (.type "enumerate"):=by kernel_rfl
inductive i_iEnum(K:tT)(R:It->Hp->Prop)(vs:List V)(H1:Hp):Prop
 |mk (a:jC) (xs:List V) (_:vs=[.ref a]) (_:SqL K H1 a xs) (_:R (Ite K a) H1)
def zm2(K:tT)(ta:TA):TI:=fun σ H R=>ta σ H fun vs H1=>i_iEnum K R vs H1
theorem zcW{k:Nat}{ps:Pos}{a:jE}{ta:TA}{p:Pos}(hg:Gl X "enumerate")(hm:X.mg "enumerate"=none)(ha:PA X [a] ta)(hs:tK [a] X.env=[(false,eval a X.env)]:=by rfl):
  PI X (.Tuple elts k ps) (.Call (.Name "enumerate" p) [a] [] pos) (zm2 X.K ta):=by
 intro pins s σ H R I h;refine Call_ (za4 I hg hm ze1 (PyProof.Rows.callWith_type1 (thn (ha pos pins s σ H _ I h) fun us s1 ⟨vs,H1,I1,r1,q1⟩=>?_) hs rfl));obtain⟨b,xs,e,hq,q⟩:=q1;subst e;obtain⟨u,rfl,rx⟩:=zbQ r1;cases rx;obtain⟨its,rv,pl,hz⟩:=I1.list hq;refine call_enumerate_list pl.isList fun h' he hi hsz hk=>?_;have hne:s1.heap.objs.size+1≠s1.heap.objs.size:=Nat.succ_ne_self _;refine wpAny_pyIter_enum he ?_;have I2:Inv X pins σ H1 {s1 with heap:=h',toks:=s1.toks}:=I1.kept (t':=s1.toks) hk;refine⟨s1.heap.objs.size+1,[s1.heap.objs.size+1,s1.heap.objs.size],_,_,H1,rfl,I2,ziG b _ _ hne,⟨⟨_,he⟩,hi⟩,fun c hc=>?_,q⟩;have hcs:c=s1.heap.objs.size+1\/c=s1.heap.objs.size:=by simpa using hc
 have hle:s1.heap.objs.size<=c:=by
  rcases hcs with r|r
  ·rw[r];exact uK _
  ·rw[r];exact yG _
 exact I1.fpOk hle (I1.hok.fresh hle)
theorem zgA{a:jC}{xs:List V}{g:TG}{tb:TS}{D:Ends}(Pv:Nat->St->Hp->Prop)(h0:Pv 0 σ H)(hl:∀i σ H,i<=xs.length->Pv i σ H->SqL K H a xs)
  (hs:∀i x t σ H,xs[i]?=some x->H t=none->Pv i σ H->g (.ref t) σ (upd H t (.tup [.int i,x])) fun σ2 H2=>tb {D with nx:=Pv (i+1),ct:=Pv (i+1),bk:=D.nx} σ2 H2) (hd:∀σ H,Pv xs.length σ H->D.nx σ H):
  ∃W:Nat->Nat->St->Hp->Prop,(∃m,W 0 m σ H)/\∀i m σ H,W i m σ H->
   ((Ite K a).stop i H/\D.nx σ H)\/((Ite K a).go i H/\∃N:St->Hp->Prop,(∀σ' H',N σ' H'->∃m',m'<m/\W (i+1) m' σ' H')/\∀x H',(Ite K a).yld i H x H'->g x σ H' fun σ2 H2=>tb {D with nx:=N,ct:=N,bk:=D.nx} σ2 H2):=by
 refine⟨fun i m σ H=>m=xs.length-i/\i<=xs.length/\Pv i σ H,⟨xs.length,by simp,yJ _,h0⟩,?_⟩;rintro i m σ H ⟨rfl,hi,p⟩;have q:=hl i σ H hi p
 by_cases hlt:i<xs.length
 ·refine .inr ⟨⟨xs,xs[i],q,by simp[hlt]⟩,Pv (i+1),fun σ' H' p'=>⟨xs.length-(i+1),by lia,rfl,hlt,p'⟩,fun x H' y=>?_⟩
  obtain⟨t,y,ht,rfl,hy,rfl⟩:=y;exact hs i y t σ H (hy xs q) ht p
 ·have e:i=xs.length:=by lia
  subst e;exact .inl ⟨⟨xs,q,yG _⟩,hd σ H p⟩
end L2
namespace D
open PySem L2
theorem zcW{X:Cx}{elts:List jE}{k:Nat}{ps:Pos}{a:jE}{ta:TA}{p pos:Pos}(hg:Gl X "enumerate")(hm:X.mg "enumerate"=none)(ha:QA X [a] ta)(hs:tK [a] X.env=[(false,eval a X.env)]:=by rfl):
  QI X (.Tuple elts k ps) (.Call (.Name "enumerate" p) [a] [] pos) (zm2 X.K ta):=⟨L2.zcW hg hm ha.un hs⟩
end D
namespace D
open PySem L2 PySem.Spec PyProof.Rows
theorem ziH{xs:List V}{its:List jA}(r:Vals xs its){j:Nat}{x:V}(h:xs[j]?=some x)(hj:j<its.toArray.size):RelV x its.toArray[j]:=by
 obtain⟨u,hu,ru⟩:=r.get h;have e:its.toArray[j]=u:=by
  have:=(yC.mp hu).2;simpa using this
 rw[e];exact ru
theorem zk4{X:Cx}(hu:X.A.units<cLine):OpR X (tM .NotEq) (fun x y H Q=>∃(a b:jC)(us:List V),x=.ref a/\y=.ref b/\SqL X.K H a us/\SqL X.K H b []/\Q (.bl (!us.isEmpty)) H):=by
 intro pins s σ H x y v u Q I rx ry h;obtain⟨a,b,us,rfl,rfl,ha,hb,q⟩:=h;cases rx;cases ry;obtain⟨its,v1,p1,_⟩:=I.list ha;obtain⟨its2,v2,p2,_⟩:=I.list hb;have l1:=v1.length;have l2:=v2.length;cases us with
 |nil=>
  have key:SeqAt.RcNeAt X.A s (.ref a) (.ref b) (!(wA its.toArray.size).all fun _=>true):=
   SeqAt.RcNeAt.lists p1.isList p2.isList (by rw[yF,yF];lia) hu (fun j h1 h2=>by
    have h3:j<its.length:=by simpa using h1
    exact absurd h3 (by rw[←l1];exact wF _))
  have e:(!(wA its.toArray.size).all fun _=>true)=false:=by simp
  rw[e] at key;exact key X.prog X.w _ _ ⟨.bl false,H,I,rfl,q⟩
 |cons x r=>
  have hsz:(its.toArray.size != its2.toArray.size)=true:=by
   rw[yF,yF,←l1,←l2];simp
  exact SeqAt.RcNeAt.lists_lengths p1.isList p2.isList hsz hu X.prog X.w _ _ ⟨.bl true,H,I,rfl,q⟩
theorem zdx{X:Cx}(hu:X.A.units<cLine):OpR X (tM .Eq) (fun x y H Q=>∃(a b:jC)(us:List V),x=.ref a/\y=.ref b/\SqL X.K H a us/\SqL X.K H b []/\Q (.bl us.isEmpty) H):=by
 intro pins s σ H x y v u Q I rx ry h;obtain⟨a,b,us,rfl,rfl,ha,hb,q⟩:=h;cases rx;cases ry;obtain⟨its,v1,p1,_⟩:=I.list ha;obtain⟨its2,v2,p2,_⟩:=I.list hb;have l1:=v1.length;have l2:=v2.length;cases us with
 |nil=>
  refine SeqAt.eq_listAt (e:=fun _=>true) p1.isList p2.isList (by rw[yF,yF];lia) hu (fun j h1 h2=>?_) ?_
  ·have h3:j<its.length:=by simpa using h1
   exact absurd h3 (by rw[←l1];exact wF _)
  ·have e:((wA its.toArray.size).all fun _=>true)=true:=by simp
   rw[e];exact⟨.bl true,H,I,rfl,q⟩
 |cons x r=>
  have hsz:(its.toArray.size != its2.toArray.size)=true:=by
   rw[yF,yF,←l1,←l2];simp
  exact SeqAt.eq_list_lengthsAt p1.isList p2.isList hsz hu ⟨.bl false,H,I,rfl,q⟩
end D
namespace L2
open PySem PySem.Spec PyProof.Rows
theorem zee{K:tT}{fr:List Nat}{te:TE}{σ:St}{H:Hp}{F:jC->Hp->List V->Prop}{a:jC}{vs:List V}(outs:List V)(hS:SqL K H a vs)(hl:outs.length=vs.length)(hz:vs.length<=tI)
  (step:∀(i:Nat)(v y:V)(H1:Hp)(R:VK),vs[i]?=some v->outs[i]?=some y->Same H H1->(∀H2,Same H1 H2->R y H2)->te (some v::frees fr σ) H1 R)
  (fin:∀(H1:Hp)(D:jC),Same H H1->H1 D=none->F D H1 outs):
  ∃W:Nat->Nat->List V->Hp->Prop,(∃m,W 0 m [] H)/\∀i m vs H,W i m vs H->vs.length<=tI /\
   (((Itl K a).stop i H/\∀D,H D=none->F D H vs) \/
    ((Itl K a).go i H/\∀v H',(Itl K a).yld i H v H'->if true=true then te (some v::frees fr σ) H' fun y H3=>∃m',m'<m/\W (i+1) m' (vs++[y]) H3 else ∃m',m'<m/\W (i+1) m' vs H')):=by
 refine⟨fun i m us H1=>i<=vs.length/\m=vs.length-i/\us=outs.take i/\Same H H1,⟨_,yJ _,rfl,by simp,Sr _⟩,fun i m us H1 hW=>?_⟩;obtain⟨hi,hm,hu,sm⟩:=hW;refine⟨by rw[hu,xA];lia,?_⟩
 by_cases hlt:i<vs.length
 ·refine .inr ⟨⟨vs,vs[i],sm.seq hS,yA hlt⟩,fun v H' hy=>?_⟩
  obtain⟨rfl,hv⟩:=hy;have hv:=hv vs (sm.seq hS);have hy:outs[i]?=some outs[i]:=yA (by lia);refine iteT ?_;refine step i v outs[i] H' _ hv hy sm fun H2 s2=>⟨vs.length-(i+1),by lia,by lia,rfl,?_,sm.trans s2⟩;rw[hu,Z8 hy]
 ·have e:i=vs.length:=by lia
  refine .inl ⟨⟨vs,sm.seq hS,by lia⟩,fun D hD=>?_⟩;have e2:us=outs:=by rw[hu,xG (by lia)]
  rw[e2];exact fin H1 D sm hD
end L2
namespace D
open PySem L2
theorem zbz{X:Cx}{elt iter tg:jE}{pos:Pos}{ifs:List jE}{scope:jJ}{cl:List (Str×jC)}(NY:List Str){wi:TI}{g:TG}{tt:TT}{te:TE}
  (hc:X.calm=true) (hclos:closureFor scope X.env=pure cl) (hcell:∀y∈scope.names,y.2≠.cell) (hkind:scope.kind=.function) (hnames:∀y∈scope.names,y.2=.local->scope.names.lookup y.1=some .local)
  (hcl:ClOk cl X.env.cells) (hall:(scope.names.all fun y=>y.2 != .free||(cl.lookup y.1).isSome)=true)
  (hi:QI X tg iter wi) (hg:∀C s H fp,QG (zT X scope cl NY C s H fp) tg g)
  (hY:∀C s H fp,QIfs (zT X scope cl NY C s H fp) ifs tt/\QE (zT X scope cl NY C s H fp) elt te)
  (hs:∀v,foldedSetIterable iter X.env v=pure v:=by intro _;rfl):
  QE X (.ListComp elt [⟨tg,iter,ifs,0⟩] scope pos) (zdU NY.length wi g tt te):=⟨L2.zbz NY hc hclos hcell hkind hnames hcl hall hi.un (fun C s H fp=>(hg C s H fp).un) (fun C s H fp=>⟨(hY C s H fp).1.un,(hY C s H fp).2.un⟩) hs⟩
end D
namespace L2
open PySem PySem.Spec PyProof.Rows
variable{it l z i1 i2 l1 l2:jC}{i:Nat}{its xs:Array jA}{x:jA}{Q:jA->jB->Prop}
section
variable{prog:jG}{w:jH}{A:jI}{E:jA->jB->Prop}{s:jB}
theorem zdy(st:s.heap.IsTupleIter it l i)(tp:s.heap.IsTuple l its)(ex:its[i]?=some x)
  (q:∀h',h'.IsTupleIter it l (i+1)->Heap.SameBut it s.heap h'->Q x {s with heap:=h'}):wpAny (model prog w) A (Builtin.SmallTypes.nextOf (.ref it)) Q E s:=by
 obtain⟨o,g1,g2,g3⟩:=id st;obtain⟨p,f1,_,n,f3⟩:=tp;unfold Builtin.SmallTypes.nextOf;refine uY (wpAny_callSpecial?_slot (name:=uX "__next__") st.typeIs F.slot_tuple_iterator_next (wpAny_call_entry F.slot_tuple_iterator_next st.typeIs F.entry_tuple_iterator_next ?_ (F.args_tuple_iterator_next_1 _)));show wpAny _ _ (field (.ref it) 0>>=_) _ _ s;refine uY (wpAny_field g1 g3 (x:=.ref l) rfl ?_);show wpAny _ _ (if (Value.ref l==Value.none)=true then _ else _) _ _ s;rw[if_neg (show ¬((Value.ref l==Value.none)=true) from yO)];show wpAny _ _ (field (.ref it) 1>>=_) _ _ s;refine uY (wpAny_field g1 g3 (x:=.int i 0) rfl ?_);show wpAny _ _ (seqItems? (.ref l)>>=_) _ _ s;refine uY (wpAny_seqItems f1 f3 ?_);simp only[wP,ex];refine uY (wpAny_setField g1 g3 (by simp) (uZ ⟨x,rfl,uZ (q _ ?_ (Heap.SameBut.update ..))⟩));refine⟨_,Heap.get?_update_self _ g1 (Obj.isFreed_of_fields (Obj.data_mapFields g3 _)),(Obj.cls_mapFields ..).trans g2,?_⟩;rw[Obj.data_mapFields g3];simp[rawInt]
theorem zdd(hh:A.handled=none)(st:s.heap.IsTupleIter it l i)(tp:s.heap.IsTuple l its)(ex:its[i]?=none)
  (q:∀h' e,Heap.ExtBut it s.heap h'->(∃o,h'.get? e=some o/\o.cls=.type "StopIteration")->E (.ref e) {s with heap:=h'}):wpAny (model prog w) A (Builtin.SmallTypes.nextOf (.ref it)) Q E s:=by
 obtain⟨o,g1,g2,g3⟩:=id st;obtain⟨p,f1,_,n,f3⟩:=tp;unfold Builtin.SmallTypes.nextOf;refine uY (wpAny_callSpecial?_slot (name:=uX "__next__") st.typeIs F.slot_tuple_iterator_next (wpAny_call_entry F.slot_tuple_iterator_next st.typeIs F.entry_tuple_iterator_next ?_ (F.args_tuple_iterator_next_1 _)));show wpAny _ _ (field (.ref it) 0>>=_) _ _ s;refine uY (wpAny_field g1 g3 (x:=.ref l) rfl ?_);show wpAny _ _ (if (Value.ref l==Value.none)=true then _ else _) _ _ s;rw[if_neg (show ¬((Value.ref l==Value.none)=true) from yO)];show wpAny _ _ (field (.ref it) 1>>=_) _ _ s;refine uY (wpAny_field g1 g3 (x:=.int i 0) rfl ?_);show wpAny _ _ (seqItems? (.ref l)>>=_) _ _ s;refine uY (wpAny_seqItems f1 f3 ?_);simp only[wP,ex];refine uY (wpAny_rule (uY (wpAny_setField g1 g3 (by simp) ?_)));show wpAny _ _ (newExc (.type "StopIteration") []>>=_) _ _ _;refine uY ?_;simp only[newExc,newTuple];refine uY (tJ ?_ (by size_fits));refine uY (m:=firstArgMember _ _) (wpAny_of_eq (a:=Value.none) (by first|rfl|(simp only[firstArgMember];rfl)) ?_);refine tJ ?_ (by size_fits);simp only[raiseNew];refine uY (wpAny_handled ?_);first|rw[show A.in1.handled=none from hh]|rw[hh]
 refine uY (uZ (wpAny_throw ?_));exact q _ _ (((Heap.SameBut.update ..).extBut.push _).push _) ⟨_,tF _ rfl,rfl⟩
structure ZT(h:jD)(z TI TO i1 i2 l1 l2:jC)(k:Nat)(f0:jA):Prop where
 zip:IsZip h z TI TO f0
 ti:IsPair h TI (.ref i1) (.ref i2)
 to:∃a b,IsPair h TO a b
 it1:h.IsTupleIter i1 l1 k
 it2:h.IsTupleIter i2 l2 k
theorem zlM{TI TO:jC}{k:Nat}{ys:Array jA}{y:jA}{Q:Option jA->jB->Prop}(D:ZipApart z TI TO i1 i2 l1 l2)(Z:ZT s.heap z TI TO i1 i2 l1 l2 k .none)
  (t1:s.heap.IsTuple l1 xs) (t2:s.heap.IsTuple l2 ys) (e1:xs[k]?=some x) (e2:ys[k]?=some y)
  (q:∀h',ZT h' z TI TO i1 i2 l1 l2 (k+1) (rawInt s.heap.objs.size)->IsPair h' s.heap.objs.size x y->(∀c o,c≠z->c≠TO->c≠i1->c≠i2->s.heap.get? c=some o->h'.get? c=some o)->
   Q (some (.ref s.heap.objs.size)) {s with heap:=h'}):wpAny (model prog w) A (pyNext (.ref z)) Q E s:=by
 obtain⟨hz,hI,⟨a,b,hO⟩,j1,j2⟩:=Z;have ty:s.TypeIs (.ref z) "zip":=⟨_,hz,rfl⟩;unfold pyNext;refine uY (wpAny_attempt (wpAny_callSpecial?_slot (name:=uX "__next__") ty F.slot_zip_next (wpAny_call_entry F.slot_zip_next ty F.entry_zip_next ?_ (F.args_zip_next_1 _))));show wpAny _ _ (field (.ref z) 2>>=_) _ _ _;refine uY (wpAny_field hz rfl (x:=.bool false) rfl ?_);show wpAny _ _ (field (.ref z) 3>>=_) _ _ _;refine uY (wpAny_field hz rfl (x:=.ref TI) rfl ?_);refine uY (wpAny_seqItems hI rfl ?_);show wpAny _ _ (Builtin.SmallTypes.ownedTupleIsFree (.ref z)>>=_) _ _ _;refine uY ?_;unfold Builtin.SmallTypes.ownedTupleIsFree;refine uY (wpAny_field hz rfl (x:=.none) rfl (uZ ?_));simp only[if_true];refine uY (wpAny_rule ?_);refine uY (wpAny_field hz rfl (x:=.ref TO) rfl ?_);refine uY (wpAny_setField_rec hz (by simp) fun ha za sa=>?_)
 replace za:IsZip ha z TI TO .ellipsis:=za
 refine uY ?_;simp only[vF,vK,xX,wC];refine uY (uY (wpAny_onRaise ?_));show wpAny _ _ (Builtin.SmallTypes.nextOf (.ref i1)>>=_) _ _ _;refine uY (zdy (j1.extBut sa.extBut D.i1z) (t1.extBut sa.extBut D.l1z) e1 fun hb jb sb=>uZ ?_);have Ob:IsPair hb TO a b:=sb.extBut _ _ D.TOi1 (sa.extBut _ _ D.TOz hO);refine uY (wpAny_seqItems Ob rfl ?_);refine uY (wpAny_updateSeq_pair Ob fun hc Oc sc=>?_)
 replace Oc:IsPair hc TO x b:=Oc
 refine uY (wpAny_letGo (uZ ?_));refine uY (uY (wpAny_onRaise ?_));show wpAny _ _ (Builtin.SmallTypes.nextOf (.ref i2)>>=_) _ _ _;refine uY (zdy (((j2.extBut sa.extBut D.i2z).extBut sb.extBut D.i12.symm).extBut sc.extBut D.TOi2.symm) (((t2.extBut sa.extBut D.l2z).extBut sb.extBut D.l2i1).extBut sc.extBut D.l2TO) e2 fun hd jd sd=>uZ ?_);have Od:IsPair hd TO x b:=sd.extBut _ _ D.TOi2 Oc;refine uY (wpAny_seqItems Od rfl ?_);refine uY (wpAny_updateSeq_pair Od fun he Oe se=>?_)
 replace Oe:IsPair he TO x y:=Oe
 refine uY (wpAny_letGo (uZ (uZ ?_)));refine uY (wpAny_seqItems Oe rfl ?_);refine uY (wpAny_newTuple ?_);have size:he.objs.size=s.heap.objs.size:=by rw[se.1,sd.1,sc.1,sb.1,sa.1]
 have ze:IsZip he z TI TO .ellipsis:=se.extBut _ _ D.TOz.symm (sd.extBut _ _ D.i2z.symm (sc.extBut _ _ D.TOz.symm (sb.extBut _ _ D.i1z.symm za)));have ke:∀c o,c≠z->c≠TO->c≠i1->c≠i2->s.heap.get? c=some o->he.get? c=some o:=fun c o n1 n2 n3 n4 e=>se.extBut _ _ n2 (sd.extBut _ _ n4 (sc.extBut _ _ n2 (sb.extBut _ _ n3 (sa.extBut _ _ n1 e))));have m1:he.IsTupleIter i1 l1 (k+1):=((jb.extBut sc.extBut D.TOi1.symm).extBut sd.extBut D.i12).extBut se.extBut D.TOi1.symm;have m2:he.IsTupleIter i2 l2 (k+1):=jd.extBut se.extBut D.TOi2.symm;have lz:z<he.objs.size:=tE ze;show wpAny _ _ (Builtin.SmallTypes.ownedTupleHandOut (.ref z) (.ref he.objs.size)>>=_) _ _ _;refine uY ?_;unfold Builtin.SmallTypes.ownedTupleHandOut;have zf:IsZip (he.push {cls:=.type "tuple",data:=.seq #[x,y]}) z TI TO .ellipsis:=tD _ ze;refine uY (wpAny_setField_rec zf (by simp) fun hg zg sg=>?_)
 replace zg:IsZip hg z TI TO (rawInt he.objs.size):=zg
 refine wpAny_setField_rec zg (by simp) fun hk zk sk=>?_
 replace zk:IsZip hk z TI TO (rawInt he.objs.size):=zk
 have up:∀c o,c≠z->he.get? c=some o->hk.get? c=some o:=fun c o n1 e=>sk.extBut _ _ n1 (sg.extBut _ _ n1 (tD _ e));have Tk:IsPair hk he.objs.size x y:=sk.extBut _ _ (xE lz) (sg.extBut _ _ (xE lz) (tF _ rfl));rw[size] at zk Tk;refine uZ ⟨_,rfl,uZ ?_⟩;show Q (some (.ref he.objs.size)) _;rw[size];refine q hk ⟨zk,up _ _ D.TIz (ke _ _ D.TIz D.TITO D.TIi1 D.TIi2 hI),⟨_,_,up _ _ D.TOz Oe⟩,m1.at fun o e=>up _ o D.i1z e,m2.at fun o e=>up _ o D.i2z e⟩ Tk fun c o n1 n2 n3 n4 e=>up c o n1 (ke c o n1 n2 n3 n4 e)
theorem zm3{TI TO:jC}{k:Nat}{Q:Option jA->jB->Prop}(hh:A.handled=none)(D:ZipApart z TI TO i1 i2 l1 l2)(Z:ZT s.heap z TI TO i1 i2 l1 l2 k .none)
  (t1:s.heap.IsTuple l1 xs) (e1:xs[k]?=none) (q:∀h',(∀c o,c≠z->c≠TO->c≠i1->c≠i2->s.heap.get? c=some o->h'.get? c=some o)->Q none {s with heap:=h'}):wpAny (model prog w) A (pyNext (.ref z)) Q E s:=by
 obtain⟨hz,hI,⟨a,b,hO⟩,j1,j2⟩:=Z;have ty:s.TypeIs (.ref z) "zip":=⟨_,hz,rfl⟩;unfold pyNext;refine uY (wpAny_attempt (wpAny_callSpecial?_slot (name:=uX "__next__") ty F.slot_zip_next (wpAny_call_entry F.slot_zip_next ty F.entry_zip_next ?_ (F.args_zip_next_1 _))));show wpAny _ _ (field (.ref z) 2>>=_) _ _ _;refine uY (wpAny_field hz rfl (x:=.bool false) rfl ?_);show wpAny _ _ (field (.ref z) 3>>=_) _ _ _;refine uY (wpAny_field hz rfl (x:=.ref TI) rfl ?_);refine uY (wpAny_seqItems hI rfl ?_);show wpAny _ _ (Builtin.SmallTypes.ownedTupleIsFree (.ref z)>>=_) _ _ _;refine uY ?_;unfold Builtin.SmallTypes.ownedTupleIsFree;refine uY (wpAny_field hz rfl (x:=.none) rfl (uZ ?_));simp only[if_true];refine uY (wpAny_rule ?_);refine uY (wpAny_field hz rfl (x:=.ref TO) rfl ?_);refine uY (wpAny_setField_rec hz (by simp) fun ha za sa=>?_)
 replace za:IsZip ha z TI TO .ellipsis:=za
 refine uY ?_;simp only[vF,vK,xX,wC];refine uY (uY (wpAny_onRaise ?_));show wpAny _ _ (Builtin.SmallTypes.nextOf (.ref i1)>>=_) _ _ _;refine uY (zdd hh (j1.extBut sa.extBut D.i1z) (t1.extBut sa.extBut D.l1z) e1 fun hb e sb ee=>?_);obtain⟨oe,ge,ce⟩:=ee;have zb:IsZip hb z TI TO .ellipsis:=sb _ _ D.i1z.symm za;have nz:e≠z:=fun t=>by subst t;rw[zb] at ge;cases ge;simp at ce
 refine wpAny_setField_rec zb (by simp) fun hc _ sc=>?_;have gc:hc.get? e=some oe:=sc.extBut _ _ nz ge;refine uY (wpAny_isInstance (T:="StopIteration") (b:=true) ⟨oe,gc,ce⟩ isSubtype_stop ?_);exact uZ (q _ fun c o n1 _ n3 _ t=>sc.extBut _ _ n1 (sb _ _ n3 (sa.extBut _ _ n1 t)))
end
variable{elts:List jE}{pos:Pos}
abbrev zt1(h:jD)(a:jC):jD:=h.push {cls:=.type "tuple_iterator",data:=.fields #[.ref a,.int 0 0]}
abbrev zt2(h:jD)(a b:jC):jD:=(zt1 h a).push {cls:=.type "tuple_iterator",data:=.fields #[.ref b,.int 0 0]}
abbrev zt3(h:jD)(a b:jC):jD:=(zt2 h a b).push {cls:=.type "tuple",data:=.seq #[.ref h.objs.size,.ref (zt1 h a).objs.size]}
abbrev zt4(h:jD)(a b:jC):jD:=(zt3 h a b).push {cls:=.type "tuple",data:=.seq #[.none,.none]}
abbrev zt5(h:jD)(a b:jC):jD:=(zt4 h a b).push {cls:=.type "zip",data:=.fields #[.none,.bool false,.bool false,.ref (zt2 h a b).objs.size,.ref (zt3 h a b).objs.size]}
theorem zj3(a b:jC)(xs ys:Array jA):Meets (Builtin.«zip.__new__» ⟨[.type "zip",.ref a,.ref b],[]⟩) (fun _ R s=>s.heap.IsTuple a xs/\s.heap.IsTuple b ys/\R (.ok (.ret (.ref (zt4 s.heap a b).objs.size))) {s with heap:=zt5 s.heap a b}):=
 .of_wp fun prog w A R s h=>by
  obtain⟨hp,g,d,tk,os⟩:=s;obtain⟨h1,h2,h⟩:=h;have hsub:=sub_zip;have L1:Heap.IsTuple (Shared.heap ⟨hp,g,d,tk,os⟩) a xs:=h1;have L2':Heap.IsTuple (Shared.heap ⟨hp.push {cls:=.type "tuple_iterator",data:=.fields #[.ref a,.int 0 0]},g,d,tk,os⟩) b ys:=Heap.IsTuple.push h2 _
  wp_walk using wpAny_pyIter_tuple L1,wpAny_pyIter_tuple L2'
  exact⟨_,rfl,h⟩
section
variable{prog:jG}{w:jH}{A:jI}{E:jA->jB->Prop}{s:jB}
theorem zlN{a b:jC}{xs ys:Array jA}{Q:jA->jB->Prop}(t1:s.heap.IsTuple a xs)(t2:s.heap.IsTuple b ys)
  (h:∀h',ZT h' (s.heap.objs.size+4) (s.heap.objs.size+2) (s.heap.objs.size+3) s.heap.objs.size (s.heap.objs.size+1) a b 0 .none->(∀c o,s.heap.get? c=some o->h'.get? c=some o)->Q (.ref (s.heap.objs.size+4)) {s with heap:=h'}):
  wpAny (model prog w) A (call (.type "zip") [.ref a,.ref b]) Q E s:=by
 refine callType_new F.called_zip (by decide) (F.typeCall_zip_2 _ _) (F.newCall_zip_2 _ _) (fun obj=>F.args_object_init_3 obj _ _) F.entry_zip_new (zj3 a b xs ys) ⟨t1,t2,?_⟩;have n1:(zt1 s.heap a).objs.size=s.heap.objs.size+1:=Heap.size_push ..;have n2:(zt2 s.heap a b).objs.size=s.heap.objs.size+2:=by rw[Heap.size_push,n1]
 have n3:(zt3 s.heap a b).objs.size=s.heap.objs.size+3:=by rw[Heap.size_push,n2]
 have n4:(zt4 s.heap a b).objs.size=s.heap.objs.size+4:=by rw[Heap.size_push,n3]
 have o5:(zt5 s.heap a b).get? (zt4 s.heap a b).objs.size=some _:=tF _ rfl;have o4:(zt5 s.heap a b).get? (zt3 s.heap a b).objs.size=some _:=tD _ (tF _ rfl);have o3:(zt5 s.heap a b).get? (zt2 s.heap a b).objs.size=some _:=tD _ (tD _ (tF _ rfl));have o2:(zt5 s.heap a b).get? (zt1 s.heap a).objs.size=some _:=tD _ (tD _ (tD _ (tF _ rfl)));have o1:(zt5 s.heap a b).get? s.heap.objs.size=some _:=tD _ (tD _ (tD _ (tD _ (tF _ rfl))));show _/\_;rw[n2,n3,n4] at o5;rw[n1,n2] at o3;rw[n3] at o4;rw[n1] at o2;rw[n4];exact⟨⟨_,o5,rfl⟩,h _ ⟨o5,o3,⟨_,_,o4⟩,⟨_,o1,rfl,rfl⟩,⟨_,o2,rfl,rfl⟩⟩ fun c o x=>tD _ (tD _ (tD _ (tD _ (tD _ x))))⟩
end
def Itz(K:tT)(a b:jC):It:=
 ⟨fun i H=>∃xs x ys y,SqT K H a xs/\SqT K H b ys/\xs[i]?=some x/\ys[i]?=some y,
  fun i H v H'=>∃t x y,H t=none/\v=.ref t/\(∀xs,SqT K H a xs->xs[i]?=some x)/\(∀ys,SqT K H b ys->ys[i]?=some y)/\H'=upd H t (.tup [x,y]),
  fun i H=>∃xs,SqT K H a xs/\xs.length<=i⟩
theorem zj4{P:jG}{w:jH}{K:tT}{kk:Nat}(a b z TI TO i1 i2:jC)(D:ZipApart z TI TO i1 i2 a b):Turn P w K (.Tuple elts kk pos) (Itz K a b) [z,TI,TO,i1,i2] z (fun i h=>ZT h z TI TO i1 i2 a b i .none) where
 mem:=by simp
 obj:=fun i h st c hc=>by
  obtain⟨hz,hI,⟨x,y,hO⟩,⟨o1,g1,_,d1⟩,o2,g2,_,d2⟩:=st;have hc:c=z\/c=TI\/c=TO\/c=i1\/c=i2:=by simpa using hc
  rcases hc with rfl|rfl|rfl|rfl|rfl
  ·exact⟨_,hz,fun v q=>by have q':Data.fields _=Data.cell v:=q;cases q'⟩
  ·exact⟨_,hI,fun v q=>by have q':Data.seq _ _=Data.cell v:=q;cases q'⟩
  ·exact⟨_,hO,fun v q=>by have q':Data.seq _ _=Data.cell v:=q;cases q'⟩
  ·exact⟨o1,g1,fun v q=>by rw[d1] at q;cases q⟩
  ·exact⟨o2,g2,fun v q=>by rw[d2] at q;cases q⟩
 keep:=fun i h h' st k=>by
  obtain⟨hz,hI,⟨x,y,hO⟩,j1,j2⟩:=st;exact⟨k z (by simp) _ hz,k TI (by simp) _ hI,⟨x,y,k TO (by simp) _ hO⟩,j1.at fun o e=>k i1 (by simp) o e,j2.at fun o e=>k i2 (by simp) o e⟩
 item:=by
  intro X hP hw hK hc i pins s σ H E I hf st hg;subst hP hw hK;obtain⟨xs,x,ys,y,q1,q2,e1,e2⟩:=hg;obtain⟨as,r1,p1,_⟩:=I.tuple q1;obtain⟨bs,r2,p2,_⟩:=I.tuple q2;obtain⟨u1,m1,v1⟩:=r1.get e1;obtain⟨u2,m2,v2⟩:=r2.get e2;have hfr:H s.heap.objs.size=none:=I.hok.fresh (yG _);have old:∀c∈[z,TI,TO,i1,i2],c<s.heap.objs.size:=fun c hc=>by
   obtain⟨hz,hI,⟨x,y,hO⟩,⟨o1,g1,_⟩,o2,g2,_⟩:=st;have hc:c=z\/c=TI\/c=TO\/c=i1\/c=i2:=by simpa using hc
   rcases hc with rfl|rfl|rfl|rfl|rfl
   ·exact tE hz
   ·exact tE hI
   ·exact tE hO
   ·exact tE g1
   ·exact tE g2
  refine zlM D st (show s.heap.IsTuple a as.toArray from p1) (show s.heap.IsTuple b bs.toArray from p2) (x:=u1) (y:=u2) (by simpa using m1) (by simpa using m2) fun h1 Z1 T1 k1=>⟨_,rfl,wpAny_letOwnedTupleGo_zip Z1.zip fun h2 z2 s2=>?_⟩;have I1:Inv X pins σ (upd H s.heap.objs.size (.tup [x,y])) {s with heap:=s.heap.push {cls:=.type "tuple",data:=.seq #[u1,u2]},toks:=s.toks}:=
   I.laid (t':=s.toks) (fun b u e=>tD _ e) (yG _) ⟨zl2,[u1,u2],.cons v1 (.cons v2 .nil),⟨_,tF _ rfl,rfl,_,rfl⟩⟩
  have nn:∀c∈[z,TI,TO,i1,i2],upd H s.heap.objs.size (.tup [x,y]) c=none:=fun c hc=>by
   rw[zH (xC (old c hc))];exact (hf c hc).1
  have ap:∀c,c ∉ [z,TI,TO,i1,i2]->c≠z/\c≠TO/\c≠i1/\c≠i2:=fun c hc=>⟨fun t=>hc (by simp[t]),fun t=>hc (by simp[t]),fun t=>hc (by simp[t]),fun t=>hc (by simp[t])⟩;have I2:Inv X pins σ (upd H s.heap.objs.size (.tup [x,y])) {s with heap:=h2,toks:=s.toks}:=by
   refine Inv.turnedL (s:={s with heap:=s.heap.push {cls:=.type "tuple",data:=.seq #[u1,u2]},toks:=s.toks}) (h':=h2) (t':=s.toks) (fp:=[z,TI,TO,i1,i2]) I1 (fun c o hc ec=>?_) (fun c hc=>?_)
   ·obtain⟨c1,c2,c3,c4⟩:=ap c hc
    refine (s2.2 c c1).trans ?_
    by_cases hcs:c=s.heap.objs.size
    ·subst hcs
     have f1:(s.heap.push {cls:=.type "tuple",data:=.seq #[u1,u2]}).get? s.heap.objs.size=some {cls:=.type "tuple",data:=.seq #[u1,u2]}:=tF _ rfl;have ec:(s.heap.push {cls:=.type "tuple",data:=.seq #[u1,u2]}).get? s.heap.objs.size=some o:=ec;rw[f1] at ec;cases ec;exact T1
    ·refine k1 c o c1 c2 c3 c4 ?_
     have ec:(s.heap.push {cls:=.type "tuple",data:=.seq #[u1,u2]}).get? c=some o:=ec;have hlt:=tE ec;rw[Heap.size_push] at hlt;exact zed ec (vO (vT hlt) hcs)
   ·obtain⟨f0,f1,f2,f3,f4,f5⟩:=hf c hc
    exact⟨nn c hc,f1,f2,f3,f4,f5⟩
  obtain⟨x5,y5,O5⟩:=Z1.to;refine⟨.ref s.heap.objs.size,_,I2,rfl,⟨s.heap.objs.size,x,y,hfr,rfl,fun zs hy=>by rw[I.tuple_inj hy q1];exact e1,fun zs hy=>by rw[I.tuple_inj hy q2];exact e2,rfl⟩,?_,nn⟩;exact⟨z2,(s2.2 _ D.TIz).trans Z1.ti,⟨x5,y5,(s2.2 _ D.TOz).trans O5⟩,Z1.it1.at fun o e=>(s2.2 _ D.i1z).trans e,Z1.it2.at fun o e=>(s2.2 _ D.i2z).trans e⟩
 done:=by
  intro X hP hw hK hc i pins s σ H E I hf st hg;subst hP hw hK;obtain⟨xs,q1,hx⟩:=hg;obtain⟨as,r1,p1,_⟩:=I.tuple q1;have hl:=r1.length;refine zm3 (I.ok.hd hc) D st (show s.heap.IsTuple a as.toArray from p1) (by simp;lia) fun h' eb=>⟨rfl,?_⟩;exact I.turnedL (t':=s.toks) (fp:=[z,TI,TO,i1,i2]) (fun c o hc e=>eb c o (fun t=>hc (by simp[t])) (fun t=>hc (by simp[t])) (fun t=>hc (by simp[t])) (fun t=>hc (by simp[t])) e) hf
 self:=fun _ _ _ _ _ st h=>wpAny_pyIter_zip st.zip h
theorem zef:tL (uX "zip")=some (.type "zip"):=by kernel_rfl
inductive i_iZip(K:tT)(R:It->Hp->Prop)(vs:List V)(H1:Hp):Prop
 |mk (a b:jC) (xs ys:List V) (_:vs=[.ref a,.ref b]) (_:SqT K H1 a xs) (_:SqT K H1 b ys) (_:(xs.length<=tI->R (Itz K a b) H1))
def iZip(K:tT)(ta:TA):TI:=fun σ H R=>ta σ H fun vs H1=>i_iZip K R vs H1
theorem ziI{X:Cx}{k:Nat}{ps:Pos}{a b:jE}{ta:TA}{p:Pos}(hg:Gl X "zip")(hm:X.mg "zip"=none)(ha:PA X [a,b] ta)(hs:tK [a,b] X.env=(false,eval a X.env)::tK [b] X.env:=by rfl)
  (hpl:(backTo pos (tK [b] X.env)).any (·.1)=false:=by rfl):
  PI X (.Tuple elts k ps) (.Call (.Name "zip" p) [a,b] [] pos) (iZip X.K ta):=by
 intro pins s σ H R I h;refine Call_ (za4 I hg hm zef (PyProof.Rows.callWith_type1 (thn (ha pos pins s σ H _ I h) fun us s1 ⟨vs,H1,I1,r1,q1⟩=>?_) hs hpl));obtain⟨c,d,xs,ys,e,q2,q3,q⟩:=q1;subst e;obtain⟨u,u',rfl,rx,ry⟩:=zfA r1;cases rx;cases ry;obtain⟨as,r2,p1,hz⟩:=I1.tuple q2;obtain⟨bs,r3,p2,_⟩:=I1.tuple q3;obtain⟨oc,gc,_⟩:=id p1;obtain⟨od,gd,_⟩:=id p2;refine zlN (show s1.heap.IsTuple c as.toArray from p1) (show s1.heap.IsTuple d bs.toArray from p2) fun h' Z hk=>?_;refine wpAny_pyIter_zip Z.zip ?_;have I2:Inv X pins σ H1 {s1 with heap:=h',toks:=s1.toks}:=I1.kept (t':=s1.toks) hk;refine⟨s1.heap.objs.size+4,[s1.heap.objs.size+4,s1.heap.objs.size+2,s1.heap.objs.size+3,s1.heap.objs.size,s1.heap.objs.size+1],_,_,H1,rfl,I2,zj4 c d _ _ _ _ _ (zipApart_new (tE gc) (tE gd)),Z,fun e he=>?_,q hz⟩;have hle:s1.heap.objs.size<=e:=by
  have hc:e=s1.heap.objs.size+4\/e=s1.heap.objs.size+2\/e=s1.heap.objs.size+3\/e=s1.heap.objs.size\/e=s1.heap.objs.size+1:=by simpa using he
  rcases hc with r|r|r|r|r<;>rw[r]<;>first|exact yG _|exact yY _ _
 exact I1.fpOk hle (I1.hok.fresh hle)
end L2
namespace D
open PySem L2
theorem ziI{X:Cx}{elts:List jE}{k:Nat}{ps:Pos}{a b:jE}{ta:TA}{p pos:Pos}(hg:Gl X "zip")(hm:X.mg "zip"=none)(ha:QA X [a,b] ta)(hs:tK [a,b] X.env=(false,eval a X.env)::tK [b] X.env:=by rfl)
  (hpl:(backTo pos (tK [b] X.env)).any (·.1)=false:=by rfl):QI X (.Tuple elts k ps) (.Call (.Name "zip" p) [a,b] [] pos) (iZip X.K ta):=⟨L2.ziI hg hm ha.un hs hpl⟩
end D
namespace L2
open PySem PySem.Spec PyProof.Rows
variable{o:Obj}{Q:Option jA->jB->Prop}{z i1 i2 l1 l2:jC}{xs ys:Array jA}
section
variable{prog:jG}{w:jH}{A:jI}{E:jA->jB->Prop}{s:jB}
abbrev ZI(h:jD)(z TI TO:jC)(f0:jA)(f1:Bool):Prop:=
 h.get? z=some {cls:=.type "zip",dict:=none,data:=.fields #[f0,.bool f1,.bool false,.ref TI,.ref TO],slots:=#[]}
structure ZL(h:jD)(z TI TO i1 i2 l1 l2:jC)(k:Nat)(xs ys:Array jA):Prop where
 zip:IsZip h z TI TO .none\/∃(T:jC)(o:Obj)(f:Bool),ZI h z TI TO (rawInt T) f/\h.get? T=some o/\T≠z/\T≠TO/\T≠i1/\T≠i2
 ti:IsPair h TI (.ref i1) (.ref i2)
 to:∃a b,IsPair h TO a b
 it1:h.IsListIter i1 l1 k
 it2:h.IsListIter i2 l2 k
 ls1:h.IsList l1 xs
 ls2:h.IsList l2 ys
theorem alive{a:jC}{Q:Option Obj->jB->Prop}(ho:s.heap.get? a=some o)(h:Q (some o) s):wpAny (model prog w) A (loadIfAlive a) Q E s:=by
 have h':Q (s.heap.get? a) s:=by rw[ho];exact h
 exact fun _ _ _=>h'
theorem zcm{TI TO T:jC}{f:Bool}{Q:Bool->jB->Prop}(hz:ZI s.heap z TI TO (rawInt T) f)(hT:s.heap.get? T=some o)
  (q:∀h1,ZI h1 z TI TO (rawInt T) true->Heap.SameBut z s.heap h1->Q false {s with heap:=h1}):wpAny (model prog w) A (Builtin.SmallTypes.ownedTupleIsFree (.ref z)) Q E s:=by
 unfold Builtin.SmallTypes.ownedTupleIsFree;refine uY (wpAny_field hz rfl (x:=rawInt T) rfl ?_);show wpAny _ _ (loadIfAlive ((T:Int).toNat)>>=_) _ _ _;rw[wP];refine uY (alive hT ?_);simp only[Option.isNone_some,wD,if_false];refine uY (wpAny_field hz rfl (x:=.bool f) rfl ?_);cases f with
 |true=>
  rw[if_neg (show ¬((Value.bool true != Value.bool true)=true) from yO)];exact uZ (q s.heap hz (Heap.SameBut.refl _ _))
 |false=>
  rw[if_pos (show (Value.bool false != Value.bool true)=true from rfl)];refine uY (wpAny_setField_rec hz (by simp) fun h1 z1 s1=>?_);exact uZ (q h1 z1 s1)
theorem zlO{TI TO:jC}{k:Nat}{x y:jA}(D:ZipApart z TI TO i1 i2 l1 l2)(Z:ZL s.heap z TI TO i1 i2 l1 l2 k xs ys)(e1:xs[k]?=some x)(e2:ys[k]?=some y)
  (q:∀h',ZL h' z TI TO i1 i2 l1 l2 (k+1) xs ys->IsPair h' s.heap.objs.size x y->(∀c o,c≠z->c≠TO->c≠i1->c≠i2->s.heap.get? c=some o->h'.get? c=some o)->Q (some (.ref s.heap.objs.size)) {s with heap:=h'}):
  wpAny (model prog w) A (pyNext (.ref z)) Q E s:=by
 obtain⟨zz,hI,⟨a,b,hO⟩,j1,j2,L1,L2⟩:=Z;have lt:∀ {c o},s.heap.get? c=some o->s.heap.objs.size≠c:=fun e=>xE (tE e);have n1:s.heap.objs.size≠i1:=by obtain⟨_,e,_⟩:=j1;exact lt e
 have n2:s.heap.objs.size≠i2:=by obtain⟨_,e,_⟩:=j2;exact lt e
 rcases zz with hz|⟨T,o,f,hz,hT,nz,nO,ni1,ni2⟩
 ·refine wpAny_pyNext_zip_item D hz hI hO j1 j2 L1 L2 e1 e2 fun h' a1 a2 a3 a4 a5 a6 a7=>q h' ⟨.inr ⟨_,_,false,a1,a5,lt hz,lt hO,n1,n2⟩,a7 _ _ D.TIz D.TITO D.TIi1 D.TIi2 hI,⟨_,_,a2⟩,a3,a4,L1.at fun o e=>a7 _ o D.l1z D.l1TO D.l1i1 D.l1i2 e,L2.at fun o e=>a7 _ o D.l2z D.l2TO D.l2i1 D.l2i2 e⟩ a5 a7
 ·have ty:s.TypeIs (.ref z) "zip":=⟨_,hz,rfl⟩
  unfold pyNext;refine uY (wpAny_attempt (wpAny_callSpecial?_slot (name:=uX "__next__") ty F.slot_zip_next (wpAny_call_entry F.slot_zip_next ty F.entry_zip_next ?_ (F.args_zip_next_1 _))));show wpAny _ _ (field (.ref z) 2>>=_) _ _ _;refine uY (wpAny_field hz rfl (x:=.bool false) rfl ?_);show wpAny _ _ (field (.ref z) 3>>=_) _ _ _;refine uY (wpAny_field hz rfl (x:=.ref TI) rfl ?_);refine uY (wpAny_seqItems hI rfl ?_);show wpAny _ _ (Builtin.SmallTypes.ownedTupleIsFree (.ref z)>>=_) _ _ _;refine uY (zcm hz hT fun h1 z1 s1=>?_);simp only[wD,if_false];refine uY ?_;simp only[vA,xX,wC];refine uY (uY (wpAny_holding ?_));show wpAny _ _ (Builtin.SmallTypes.nextOf (.ref i1)>>=_) _ _ _;refine uY (wpAny_nextOf_list_item (j1.extBut s1.extBut D.i1z) (L1.extBut s1.extBut D.l1z) e1 fun h2 j12 s2=>uZ ?_);refine uZ ?_;refine uY (uY (wpAny_holding ?_));show wpAny _ _ (Builtin.SmallTypes.nextOf (.ref i2)>>=_) _ _ _;refine uY (wpAny_nextOf_list_item ((j2.extBut s1.extBut D.i2z).extBut s2.extBut D.i12.symm) ((L2.extBut s1.extBut D.l2z).extBut s2.extBut D.l2i1) e2 fun h3 j23 s3=>uZ ?_);refine uZ (uZ ?_);show wpAny _ _ (newTuple [x,y]>>=_) _ _ _;refine uY (wpAny_newTuple ?_);have size:h3.objs.size=s.heap.objs.size:=by rw[s3.1,s2.1,s1.1]
  have ke:∀c o,c≠z->c≠i1->c≠i2->s.heap.get? c=some o->(h3.push {cls:=.type "tuple",data:=.seq #[x,y]}).get? c=some o:=fun c o n1 n2 n3 e=>tD _ (s3.extBut _ _ n3 (s2.extBut _ _ n2 (s1.extBut _ _ n1 e)));have zz:ZI (h3.push {cls:=.type "tuple",data:=.seq #[x,y]}) z TI TO (rawInt T) true:=tD _ (s3.extBut _ _ D.i2z.symm (s2.extBut _ _ D.i1z.symm z1));refine uZ ⟨_,rfl,uZ ?_⟩;show Q (some (.ref h3.objs.size)) _;have tp:IsPair (h3.push {cls:=.type "tuple",data:=.seq #[x,y]}) h3.objs.size x y:=tF _ rfl;rw[size] at tp ⊢;refine q _ ⟨.inr ⟨T,o,true,zz,ke T o nz ni1 ni2 hT,nz,nO,ni1,ni2⟩,ke _ _ D.TIz D.TIi1 D.TIi2 hI,⟨_,_,ke _ _ D.TOz D.TOi1 D.TOi2 hO⟩,?_,?_,L1.at fun o e=>ke _ o D.l1z D.l1i1 D.l1i2 e,L2.at fun o e=>ke _ o D.l2z D.l2i1 D.l2i2 e⟩ tp fun c o n1 _ n3 n4 e=>ke c o n1 n3 n4 e
  ·exact (j12.extBut s3.extBut D.i12).at fun o e=>tD _ e
  ·exact j23.at fun o e=>tD _ e
theorem zm4{TI TO:jC}{k:Nat}(hh:A.handled=none)(D:ZipApart z TI TO i1 i2 l1 l2)(Z:ZL s.heap z TI TO i1 i2 l1 l2 k xs ys)(he:xs[k]?=none\/ys[k]?=none)
  (q:∀h',(∀c o,c≠z->c≠TO->c≠i1->c≠i2->s.heap.get? c=some o->h'.get? c=some o)->Q none {s with heap:=h'}):wpAny (model prog w) A (pyNext (.ref z)) Q E s:=by
 obtain⟨zz,hI,⟨a,b,hO⟩,j1,j2,L1,L2⟩:=Z;rcases zz with hz|⟨T,o,f,hz,hT,nz,nO,ni1,ni2⟩
 ·exact wpAny_pyNext_zip_end hh D hz hI hO j1 j2 L1 L2 he q
 ·have ty:s.TypeIs (.ref z) "zip":=⟨_,hz,rfl⟩
  unfold pyNext;refine uY (wpAny_attempt (wpAny_callSpecial?_slot (name:=uX "__next__") ty F.slot_zip_next (wpAny_call_entry F.slot_zip_next ty F.entry_zip_next ?_ (F.args_zip_next_1 _))));show wpAny _ _ (field (.ref z) 2>>=_) _ _ _;refine uY (wpAny_field hz rfl (x:=.bool false) rfl ?_);show wpAny _ _ (field (.ref z) 3>>=_) _ _ _;refine uY (wpAny_field hz rfl (x:=.ref TI) rfl ?_);refine uY (wpAny_seqItems hI rfl ?_);show wpAny _ _ (Builtin.SmallTypes.ownedTupleIsFree (.ref z)>>=_) _ _ _;refine uY (zcm hz hT fun h1 z1 s1=>?_);simp only[wD,if_false];refine uY ?_;simp only[vA,xX,wC];refine uY (uY (wpAny_holding ?_));show wpAny _ _ (Builtin.SmallTypes.nextOf (.ref i1)>>=_) _ _ _;cases hx:xs[k]? with
  |none=>
   refine uY (wpAny_nextOf_list_end hh (j1.extBut s1.extBut D.i1z) (L1.extBut s1.extBut D.l1z) hx fun h2 e s2 ee=>?_);obtain⟨oe,ge,ce⟩:=ee;refine uY (wpAny_isInstance (T:="StopIteration") (b:=true) ⟨oe,ge,ce⟩ isSubtype_stop ?_);exact uZ (q _ fun c o n1 _ n3 _ e=>s2 _ _ n3 (s1.extBut _ _ n1 e))
  |some x=>
   have hy:ys[k]?=none:=by rcases he with h|h;rw[hx] at h;cases h;exact h
   refine uY (wpAny_nextOf_list_item (j1.extBut s1.extBut D.i1z) (L1.extBut s1.extBut D.l1z) hx fun h2 j12 s2=>uZ ?_);refine uZ ?_;refine uY (uY (wpAny_holding ?_));show wpAny _ _ (Builtin.SmallTypes.nextOf (.ref i2)>>=_) _ _ _;refine uY (wpAny_nextOf_list_end hh ((j2.extBut s1.extBut D.i2z).extBut s2.extBut D.i12.symm) ((L2.extBut s1.extBut D.l2z).extBut s2.extBut D.l2i1) hy fun h3 e s3 ee=>?_);obtain⟨oe,ge,ce⟩:=ee;refine uY (wpAny_isInstance (T:="StopIteration") (b:=true) ⟨oe,ge,ce⟩ isSubtype_stop ?_);exact uZ (q _ fun c o n1 _ n3 n4 e=>s3 _ _ n4 (s2.extBut _ _ n3 (s1.extBut _ _ n1 e)))
end
def Prs(H:Hp)(xs ys:List V)(ts:List jC):Prop:=∀(j:Nat)(t:jC)(x y:V),ts[j]?=some t->xs[j]?=some x->ys[j]?=some y->H t=some (.tup [x,y])
abbrev ziJ(h:jD)(S:jC)(acc:Array jA)(c:Nat):Prop:=h.get? S=some {cls:=.type "list",dict:=none,data:=.seq acc c,slots:=#[]}
section
variable{X:Cx}{pins:List (jC×Obj)}{σ:St}{A:jI}{R:Result->jB->Prop}{z TI TO i1 i2 l1 l2 S:jC}{xs ys:List V}{as bs:List jA}
theorem zlP(hh:A.handled=none)(D:ZipApart z TI TO i1 i2 l1 l2)(va:Vals xs as)(vb:Vals ys bs)(hS:S ∉ [z,TI,TO,i1,i2])(s1:S≠l1)(s2:S≠l2)(res:jA)(hn:xs.length<=tI):
  ∀(k i:Nat)(s:jB)(H:Hp)(ts:List jC)(acc:Array jA)(c:Nat),min xs.length ys.length-i=k->i<=min xs.length ys.length->Inv X pins σ H s->(∀b∈[S,z,TI,TO,i1,i2],FpOk X pins H b)->
   ZL s.heap z TI TO i1 i2 l1 l2 i as.toArray bs.toArray->ziJ s.heap S acc c->acc.toList=ts.map Value.ref->ts.length=i->Prs H xs ys ts->
   (∀(s':jB)(H':Hp)(ts':List jC)(acc':Array jA)(c':Nat),Inv X pins σ H' s'->(∀b o,H b=some o->H' b=some o)->ziJ s'.heap S acc' c'->acc'.toList=ts'.map Value.ref->ts'.length=min xs.length ys.length->Prs H' xs ys ts'->R (.ok (.ret res)) s')->
   codeAny (model X.prog X.w) A (.builtin "list.extend.loop" ⟨[.ref S,.ref z,res],[]⟩) R s:=by
 intro k;have la:=va.length;have lb:=vb.length
 induction k with
 |zero=>
  intro i s H ts acc c hk hi I hf Z LS ha hl hp q;refine codeAny_builtin PySem.F.entry_extend_loop ?_;rw[Around.under_plainId PySem.F.plain_extend_loop _];show wpAny _ A.in1 (pyNext (.ref z)>>=_) _ _ s;refine uY (zm4 hh D Z ?_ fun h' kp=>?_)
  ·rcases Nat.le_total xs.length ys.length with h|h
   ·exact .inl (by simp;lia)
   ·exact .inr (by simp;lia)
  have nS:S≠z/\S≠TO/\S≠i1/\S≠i2:=by simp at hS;exact⟨hS.1,hS.2.2.1,hS.2.2.2.1,hS.2.2.2.2⟩
  refine uZ (q _ H ts acc c (I.turnedL (t':=s.toks) (fp:=[S,z,TI,TO,i1,i2]) (fun b o hb e=>kp b o (fun t=>hb (by simp[t])) (fun t=>hb (by simp[t])) (fun t=>hb (by simp[t])) (fun t=>hb (by simp[t])) e) hf) (fun b o e=>e) (kp S _ nS.1 nS.2.1 nS.2.2.1 nS.2.2.2 LS) ha (by lia) hp)
 |succ k ih=>
  intro i s H ts acc c hk hi I hf Z LS ha hl hp q;refine codeAny_builtin PySem.F.entry_extend_loop ?_;rw[Around.under_plainId PySem.F.plain_extend_loop _];show wpAny _ A.in1 (pyNext (.ref z)>>=_) _ _ s;have ix:i<xs.length:=by lia
  have iy:i<ys.length:=by lia
  obtain⟨u,eu,ru⟩:=va.get (yA ix);obtain⟨v,ev,rv⟩:=vb.get (yA iy);have old:∀b∈[S,z,TI,TO,i1,i2],b<s.heap.objs.size:=fun b hb=>by
   obtain⟨hz,hI,⟨x,y,hO⟩,⟨o1,g1,_⟩,⟨o2,g2,_⟩,_,_⟩:=id Z;have hc:b=S\/b=z\/b=TI\/b=TO\/b=i1\/b=i2:=by simpa using hb
   rcases hc with rfl|rfl|rfl|rfl|rfl|rfl
   ·exact tE LS
   ·rcases hz with hz|⟨_,_,_,hz,_⟩<;>exact tE hz
   ·exact tE hI
   ·exact tE hO
   ·exact tE g1
   ·exact tE g2
  have nS:S≠z/\S≠TI/\S≠TO/\S≠i1/\S≠i2:=by simp at hS;exact⟨hS.1,hS.2.1,hS.2.2.1,hS.2.2.2.1,hS.2.2.2.2⟩
  refine uY (zlO D Z (x:=u) (y:=v) (by simpa using eu) (by simpa using ev) fun h1 Z1 T1 k1=>?_);have LS1:ziJ h1 S acc c:=k1 S _ nS.1 nS.2.2.1 nS.2.2.2.1 nS.2.2.2.2 LS;have sz:acc.size=i:=by rw[←wV,ha,yB];exact hl
  show wpAny _ A.in1 (updateSeq S (·.push (.ref s.heap.objs.size))>>=_) _ _ _;refine uY ?_;have I1:Inv X pins σ (upd H s.heap.objs.size (.tup [xs[i],ys[i]])) {s with heap:=s.heap.push {cls:=.type "tuple",data:=.seq #[u,v]},toks:=s.toks}:=
   I.laid (t':=s.toks) (fun b u e=>tD _ e) (yG _) ⟨zl2,[u,v],.cons ru (.cons rv .nil),⟨_,tF _ rfl,rfl,_,rfl⟩⟩
  have hf1:∀b∈[S,z,TI,TO,i1,i2],FpOk X pins (upd H s.heap.objs.size (.tup [xs[i],ys[i]])) b:=fun b hb=>by
   obtain⟨f0,f1⟩:=hf b hb;exact⟨by rw[zH (xC (old b hb))];exact f0,f1⟩
  refine wpAny_updateSeq LS1 rfl (uZ ⟨plainId_quiet PySem.F.plain_extend_loop _,?_⟩) (by rw[sz];lia) (by show (acc.push (.ref s.heap.objs.size)).size<=tI+1;rw[Array.size_push,sz];lia);have oth:∀b o,b≠S->h1.get? b=some o->(h1.update S (Obj.mapSeq (·.push (.ref s.heap.objs.size)))).get? b=some o:=fun b o hb e=>(Heap.get?_update_other _ _ (Ne.symm hb)).trans e;refine ih (i+1) _ (upd H s.heap.objs.size (.tup [xs[i],ys[i]])) (ts++[s.heap.objs.size]) (acc.push (.ref s.heap.objs.size)) _ (by lia) (by lia) ?_ hf1 ?_ (Heap.get?_update_self _ LS1 rfl) (by simp[ha]) (by simp[hl]) ?_ fun s' H' ts' acc' c' I' sm LS' ha' hl' hp'=>q s' H' ts' acc' c' I' (fun b o e=>sm b o ?_) LS' ha' hl' hp'
  ·refine Inv.turnedL (s:={s with heap:=s.heap.push {cls:=.type "tuple",data:=.seq #[u,v]},toks:=s.toks}) (t':=s.toks) (fp:=[S,z,TI,TO,i1,i2]) I1 (fun b o hb e=>?_) hf1
   refine oth b o (fun t=>hb (by simp[t])) ?_
   by_cases hcs:b=s.heap.objs.size
   ·subst hcs
    have f1:(s.heap.push {cls:=.type "tuple",data:=.seq #[u,v]}).get? s.heap.objs.size=some {cls:=.type "tuple",data:=.seq #[u,v]}:=tF _ rfl;have e:(s.heap.push {cls:=.type "tuple",data:=.seq #[u,v]}).get? s.heap.objs.size=some o:=e;rw[f1] at e;cases e;exact T1
   ·refine k1 b o (fun t=>hb (by simp[t])) (fun t=>hb (by simp[t])) (fun t=>hb (by simp[t])) (fun t=>hb (by simp[t])) ?_
    have e:(s.heap.push {cls:=.type "tuple",data:=.seq #[u,v]}).get? b=some o:=e;have hlt:=tE e;rw[Heap.size_push] at hlt;exact zed e (vO (vT hlt) hcs)
  ·obtain⟨hz,hI,⟨x,y,hO⟩,j1,j2,L1,L2⟩:=Z1
   have tS:s.heap.objs.size≠S:=xE (old S (by simp));refine⟨?_,oth _ _ nS.2.1.symm hI,⟨x,y,oth _ _ nS.2.2.1.symm hO⟩,j1.at fun o e=>oth _ o nS.2.2.2.1.symm e,j2.at fun o e=>oth _ o nS.2.2.2.2.symm e,L1.at fun o e=>oth _ o s1.symm e,L2.at fun o e=>oth _ o s2.symm e⟩;rcases hz with hz|⟨T,o,f,hz,hT,r⟩
   ·exact .inl (oth _ _ nS.1.symm hz)
   ·by_cases hTS:T=S
    ·subst hTS
     exact .inr ⟨T,_,f,oth _ _ nS.1.symm hz,Heap.get?_update_self _ LS1 rfl,r⟩
    ·exact .inr ⟨T,o,f,oth _ _ nS.1.symm hz,oth _ _ hTS hT,r⟩
  ·intro j t x y ej ex ey
   by_cases hj:j<ts.length
   ·rw[yN hj] at ej
    have:=hp j t x y ej ex ey;rw[zH (fun z=>by rw[z,I.fresh] at this;cases this)];exact this
   ·have hji:j=i:=by
     have:=(yC.mp ej).1;simp only[yD,yQ,wM] at this;lia
    subst hji;rw[←hl,yR (yG _),Nat.sub_self] at ej;cases ej;rw[yA ix] at ex;rw[yA iy] at ey;cases ex;cases ey;exact zj
  ·rw[zH (fun z=>by rw[z,I.fresh] at e;cases e)]
   exact e
end
abbrev nl(h:jD):jD:=h.push {cls:=.type "list",data:=.seq ([]:List jA).toArray}
theorem zhc:typeLookup (.type "zip") "__len__"=pure none:=by rw[typeLookup_type,builtinLookup_eq_fast];kernel_rfl
theorem zfR:typeLookup (.type "zip") "__length_hint__"=pure none:=by rw[typeLookup_type,builtinLookup_eq_fast];kernel_rfl
section
variable{X:Cx}{pins:List (jC×Obj)}{σ:St}{A:jI}{E:jA->jB->Prop}{s:jB}{H:Hp}{z TI TO i1 i2 l1 l2:jC}{xs ys:List V}{as bs:List jA}
theorem ZL.ty{s:jB}{k:Nat}{xs ys:Array jA}(Z:ZL s.heap z TI TO i1 i2 l1 l2 k xs ys):s.TypeIs (.ref z) "zip":=by
 rcases Z.zip with h|⟨_,_,_,h,_⟩<;>exact⟨_,h,rfl⟩
theorem ZL.old{h:jD}{k:Nat}{xs ys:Array jA}(Z:ZL h z TI TO i1 i2 l1 l2 k xs ys):∀b∈[z,TI,TO,i1,i2,l1,l2],b<h.objs.size:=fun b hb=>by
 obtain⟨hz,hI,⟨x,y,hO⟩,⟨o1,g1,_⟩,⟨o2,g2,_⟩,⟨o3,g3,_⟩,⟨o4,g4,_⟩⟩:=Z;have hc:b=z\/b=TI\/b=TO\/b=i1\/b=i2\/b=l1\/b=l2:=by simpa using hb
 rcases hc with rfl|rfl|rfl|rfl|rfl|rfl|rfl
 ·rcases hz with hz|⟨_,_,_,hz,_⟩<;>exact tE hz
 ·exact tE hI
 ·exact tE hO
 ·exact tE g1
 ·exact tE g2
 ·exact tE ‹_›
 ·exact tE ‹_›
theorem ZL.keep{h h':jD}{k:Nat}{xs ys:Array jA}(Z:ZL h z TI TO i1 i2 l1 l2 k xs ys)(e:∀b o,h.get? b=some o->h'.get? b=some o):ZL h' z TI TO i1 i2 l1 l2 k xs ys:=by
 obtain⟨hz,hI,⟨x,y,hO⟩,j1,j2,L1,L2⟩:=Z;refine⟨?_,e _ _ hI,⟨x,y,e _ _ hO⟩,j1.at fun o q=>e _ o q,j2.at fun o q=>e _ o q,L1.at fun o q=>e _ o q,L2.at fun o q=>e _ o q⟩;rcases hz with hz|⟨T,o,f,hz,hT,r⟩
 ·exact .inl (e _ _ hz)
 ·exact .inr ⟨T,o,f,e _ _ hz,e _ _ hT,r⟩
def ZQ(X:Cx)(pins:List (jC×Obj))(σ:St)(H:Hp)(xs ys:List V)(H':Hp)(ts:List jC)(s':jB):Prop:=
 Inv X pins σ H' s'/\(∀b o,H b=some o->H' b=some o)/\ts.length=min xs.length ys.length/\Prs H' xs ys ts
theorem zfS{Q:List jA->jB->Prop}(hh:A.handled=none)(D:ZipApart z TI TO i1 i2 l1 l2)(va:Vals xs as)(vb:Vals ys bs)(hn:xs.length<=tI)(I:Inv X pins σ H s)(hf:∀b∈[z,TI,TO,i1,i2],FpOk X pins H b)
  (Z:ZL s.heap z TI TO i1 i2 l1 l2 0 as.toArray bs.toArray) (q:∀(H':Hp)(ts:List jC)(s':jB),ZQ X pins σ H xs ys H' ts s'->Q (ts.map Value.ref) s'):wpAny (model X.prog X.w) A (collect (.ref z)) Q E s:=by
 have old:=Z.old;have hSI:s.heap.objs.size≠z:=xE (old z (by simp));unfold collect;refine uY (wpAny_runValue (codeAny_builtin PySem.F.entry_proto_collect ?_));rw[Around.under_plainId PySem.F.plain_proto_collect _];show wpAny _ A.in1 (newList []>>=fun l=>again (.builtin "list.__iadd__" ⟨[l,.ref z],[]⟩)) _ _ s;refine uY (tJ ?_);refine uZ ⟨plainId_quiet PySem.F.plain_list_iadd _,codeAny_builtin PySem.F.entry_list_iadd ?_⟩;rw[Around.under_plainId PySem.F.plain_list_iadd _];have Z1:ZL (nl s.heap) z TI TO i1 i2 l1 l2 0 as.toArray bs.toArray:=Z.keep fun b o e=>tD _ e;have ty:Shared.TypeIs {s with heap:=nl s.heap} (.ref z) "zip":=ZL.ty (s:={s with heap:=nl s.heap}) Z1;show wpAny _ A.in1 (Builtin.List.listExtendWith (.ref s.heap.objs.size) (.ref z) (.ref s.heap.objs.size)) _ _ _;unfold Builtin.List.listExtendWith;refine uY (wpAny_typeOf ty ?_);have d1:Builtin.List.listSameRef (.ref s.heap.objs.size) (.ref z)=false:=by simp[Builtin.List.listSameRef,hSI]
 have d2:(Value.type "zip"==Value.type "list")=false:=by decide
 have d3:(Value.type "zip"==Value.type "tuple")=false:=by decide
 simp only[d1,d2,d3,Bool.or_false,wD,if_false];have self:∀{Q':jA->jB->Prop}{E':jA->jB->Prop}{A':jI},Q' (.ref z) {s with heap:=nl s.heap}->wpAny (model X.prog X.w) A' (pyIter (.ref z)) Q' E' {s with heap:=nl s.heap}:=fun h=>by
  refine wpAny_pyIter_slot ty F.slot_zip_iter (wpAny_call_entry F.slot_zip_iter ty F.entry_zip_iter ?_ (F.args_zip_iter_1 _));show wpAny _ _ (ret (.ref z)) _ _ _;exact uZ ⟨_,rfl,"zip",_,ty,F.slot_zip_next.lookup,h⟩
 refine uY (self ?_);refine uY (wpAny_holding ?_);unfold Builtin.List.listLengthHint;refine uY (wpAny_specialOf ty zhc ?_);show wpAny _ A.in1 (specialOf (Value.ref z) (uX "__length_hint__")>>=_) _ _ _;refine uY (wpAny_specialOf ty zfR ?_);refine uZ ?_;show wpAny _ A.in1 (rule "list.extend.makes-room">>=fun _=>Builtin.List.listTouch (.ref s.heap.objs.size)>>=fun _=>
  again (.builtin "list.extend.loop" ⟨[.ref s.heap.objs.size,.ref z,.ref s.heap.objs.size],[]⟩)) _ _ _
 refine uY (wpAny_rule ?_);have g1:(nl s.heap).get? s.heap.objs.size=some {cls:=.type "list",data:=.seq ([]:List jA).toArray}:=tF _ rfl;refine uY ?_;show wpAny _ A.in1 (updateSeq s.heap.objs.size (·.push .none)>>=fun _=>updateSeq s.heap.objs.size (·.pop)) _ _ _;refine uY (wpAny_updateSeq g1 rfl ?_);have g2:=Heap.get?_update_self (Obj.mapSeq (·.push Value.none)) g1 rfl;refine wpAny_updateSeq g2 rfl ?_;have g3:=Heap.get?_update_self (Obj.mapSeq (·.pop)) g2 rfl;have kp:∀b o,s.heap.get? b=some o->
   (((nl s.heap).update s.heap.objs.size (Obj.mapSeq (·.push Value.none))).update s.heap.objs.size (Obj.mapSeq (·.pop))).get? b=some o:=
  fun b o e=>(Heap.get?_update_other _ _ (xE (tE e))).trans ((Heap.get?_update_other _ _ (xE (tE e))).trans (tD _ e))
 refine uZ ⟨plainId_quiet PySem.F.plain_extend_loop _,zlP (X:=X) (pins:=pins) (σ:=σ) (xs:=xs) (ys:=ys) hh D va vb (S:=s.heap.objs.size) (fun hm=>?_) (xE (old l1 (by simp))) (xE (old l2 (by simp))) _ hn _ 0 _ H [] _ _ rfl (yJ _) (I.kept (t':=s.toks) kp) (fun b hb=>?_) (Z.keep kp) g3 rfl rfl (fun j t x y e=>by simp at e) fun s' H' ts' acc' c' I' sm LS' ha' hl' hp'=>?_⟩
 ·have:=old s.heap.objs.size (by simp at hm ⊢;rcases hm with h|h|h|h|h<;>simp[h])
  exact absurd this (xN _)
 ·rcases yV.mp hb with rfl|hb
  ·exact I.fpOk (yG _) I.fresh
  ·exact hf b hb
 show wpAny _ A (load s.heap.objs.size>>=_) _ _ s';refine uY (wpAny_load LS' ?_);refine uZ ?_;show Q acc'.toList s';rw[ha'];exact q H' ts' s' ⟨I',sm,hl',hp'⟩
end
section
variable{X:Cx}{pins:List (jC×Obj)}{σ:St}{A:jI}{E:jA->jB->Prop}{s:jB}{H:Hp}{z TI TO i1 i2 l1 l2:jC}{xs ys:List V}{as bs:List jA}
theorem ze2:∀ts:List jC,Vals (ts.map V.ref) (ts.map Value.ref)
 |[]=>.nil
 |_::ts=>.cons rfl (ze2 ts)
def ZT2(X:Cx)(pins:List (jC×Obj))(σ:St)(H:Hp)(xs ys:List V)(v:jA)(s':jB):Prop:=
 ∃(H2:Hp)(ts:List jC)(t:jC),v=.ref t/\Inv X pins σ H2 s'/\Same H H2/\H t=none/\ts.length=min xs.length ys.length/\Prs H2 xs ys ts/\H2 t=some (.tup (ts.map V.ref))
theorem zde{Q₁:jA->jB->Prop}(hh:A.handled=none)(D:ZipApart z TI TO i1 i2 l1 l2)(va:Vals xs as)(vb:Vals ys bs)(hn:xs.length<=tI)(I:Inv X pins σ H s)(hf:∀b∈[z,TI,TO,i1,i2],FpOk X pins H b)
  (Z:ZL s.heap z TI TO i1 i2 l1 l2 0 as.toArray bs.toArray) (q:∀v s',s'.TypeIs v "tuple"->ZT2 X pins σ H xs ys v s'->Q₁ v s'):
  codeAny (model X.prog X.w) A (.call (.builtin "tuple.__new__") ⟨[.type "tuple",.ref z],[]⟩) (wants Q₁ E) s:=by
 refine codeAny_of_tree ?_;show wpAny _ A.in1 (do checkBuiltinCall "tuple.__new__" ⟨[.type "tuple",.ref z],[]⟩;again (.builtin "tuple.__new__" ⟨[.type "tuple",.ref z],[]⟩)) _ _ s;refine uY (wpAny_of_eq (F.newCall_tuple_1 _) (uZ ⟨plainId_quiet F.plain_tuple_new _,codeAny_builtin F.entry_tuple_new ?_⟩));rw[Around.under_plainId F.plain_tuple_new _];have hsub:=sub_tuple_self;have hinit:=init_tuple_lookup;have hmh:=madeHere_tuple;have hTI:=Z.ty;have hcol:∀{Q:List jA->jB->Prop}{E:jA->jB->Prop},(∀(H':Hp)(ts:List jC)(s':jB),ZQ X pins σ H xs ys H' ts s'->Q (ts.map Value.ref) s')->wpAny (model X.prog X.w) A.in1 (collect (.ref z)) Q E s:=fun {Q E} q=>zfS (A:=A.in1) (by simpa using hh) D va vb hn I hf Z q
 wp_walk using wpAny_typeOf hTI,hcol
 intro H1 ts s1 h;obtain⟨I1,sm,hl,hp⟩:=h;show wpAny _ _ (Builtin.Tuple.tupleExact (ts.map Value.ref).toArray>>=fun v=>ret v) _ _ _;unfold Builtin.Tuple.tupleExact;have hle:ts.length<=tI:=by rw[hl];exact yM (Nat.min_le_left ..) hn
 refine uY (tJ ?_ (by show (ts.map Value.ref).toArray.size<=tI;simpa using hle));refine uZ ?_;have I2:Inv X pins σ (upd H1 s1.heap.objs.size (.tup (ts.map V.ref))) {s1 with heap:=s1.heap.push {cls:=.type "tuple",data:=.seq (ts.map Value.ref).toArray},toks:=s1.toks}:=
  I1.laid (t':=s1.toks) (fun b u e=>tD _ e) (yG _) ⟨by simpa using hle,_,ze2 ts,⟨_,tF _ rfl,rfl,_,rfl⟩⟩
 have fr:=I1.fresh;have up:Same H1 (upd H1 s1.heap.objs.size (.tup (ts.map V.ref))):=fun b o e=>by rw[zH (fun z=>by rw[z,fr] at e;cases e)];exact e
 exact q _ _ ⟨_,tF _ rfl,rfl⟩ ⟨_,ts,_,rfl,I2,Same.trans sm up,Same.free sm fr,hl,fun j t x y e1 e2 e3=>up _ _ (hp j t x y e1 e2 e3),zj⟩
theorem zdf{Q:jA->jB->Prop}(hh:A.handled=none)(D:ZipApart z TI TO i1 i2 l1 l2)(va:Vals xs as)(vb:Vals ys bs)(hn:xs.length<=tI)(I:Inv X pins σ H s)(hf:∀b∈[z,TI,TO,i1,i2],FpOk X pins H b)
  (Z:ZL s.heap z TI TO i1 i2 l1 l2 0 as.toArray bs.toArray) (q:∀v s',ZT2 X pins σ H xs ys v s'->Q v s'):wpAny (model X.prog X.w) A (call (.type "tuple") [.ref z]) Q E s:=by
 refine callType_codes (Q₁:=fun obj s₁=>s₁.TypeIs obj "tuple"/\Q obj s₁) F.called_tuple (F.typeCall_tuple_1 _) F.entry_object_init
  (zde (by simpa using hh) D va vb hn I hf Z fun v s' ty h=>⟨ty,q v s' h⟩) fun obj s₁ h₁=>?_
 exact⟨h₁.1,F.args_object_init_2 obj _,object_init_meets F.called_tuple.init.lookup F.called_tuple.made (by decide) X.prog X.w A.in1 _ s₁ ⟨h₁.1,rfl,h₁.2⟩⟩
end
inductive i_tTZ(K:tT)(Q:VK)(vs:List V)(H1:Hp):Prop
 |mk (a b:jC) (xs ys:List V) (_:vs=[.ref a,.ref b]) (_:SqL K H1 a xs) (_:SqL K H1 b ys) (_:∀(ts:List jC)(t:jC)(H2:Hp),Same H1 H2->H1 t=none->ts.length=min xs.length ys.length->Prs H2 xs ys ts->H2 t=some (.tup (ts.map V.ref))->Q (.ref t) H2)
def tTZ(K:tT)(ta:TA):TE:=fun σ H Q=>ta σ H fun vs H1=>i_tTZ K Q vs H1
theorem zeg{X:Cx}{a b:jE}{ta:TA}{p p2 pos pos2:Pos}(hc:X.calm=true)(hg:Gl X "zip")(hm:X.mg "zip"=none)(hgt:Gl X "tuple")(hmt:X.mg "tuple"=none)(ha:PA X [a,b] ta)(hs:tK [a,b] X.env=(false,eval a X.env)::tK [b] X.env:=by rfl)
  (hpl:(backTo pos2 (tK [b] X.env)).any (·.1)=false:=by rfl) (hs2:tK [.Call (.Name "zip" p2) [a,b] [] pos2] X.env=(false,eval (.Call (.Name "zip" p2) [a,b] [] pos2) X.env)::tK [] X.env:=by rfl) (hpl2:(backTo pos (tK [] X.env)).any (·.1)=false:=by rfl):
  PE X (.Call (.Name "tuple" p) [.Call (.Name "zip" p2) [a,b] [] pos2] [] pos) (tTZ X.K ta):=by
 intro pins s σ H Q I h;refine wpAny_Call_Name_kw (za4 I hgt hmt zM (PyProof.Rows.callWith_type1 ?_ hs2 hpl2));rw[hs2];show wpAny _ _ (spliced ((false,eval (.Call (.Name "zip" p2) [a,b] [] pos2) X.env)::backTo pos (tK [] X.env))) _ _ s;refine Calls.spliced_cons ?_;refine wpAny_Call_Name_kw (za4 I hg hm zef (PyProof.Rows.callWith_type1 (thn (ha pos2 pins s σ H _ I h) fun us s1 ⟨vs,H1,I1,r1,q1⟩=>?_) hs hpl));obtain⟨c,d,xs,ys,e,q2,q3,q⟩:=q1;subst e;obtain⟨u,u',rfl,rx,ry⟩:=zfA r1;cases rx;cases ry;obtain⟨as,r2,p1,hz1⟩:=I1.list q2;obtain⟨bs,r3,p2,hz2⟩:=I1.list q3;obtain⟨oc,_,gc,_⟩:=id p1;obtain⟨od,_,gd,_⟩:=id p2;refine call_zip_2 p1.isList p2.isList fun h' z1 z2 z3 z4 z5 z6 hk=>?_;have I2:Inv X pins σ H1 {s1 with heap:=h',toks:=s1.toks}:=I1.kept (t':=s1.toks) hk;refine Calls.spliced_nil ?_;have fp:∀b∈[s1.heap.objs.size+4,s1.heap.objs.size+2,s1.heap.objs.size+3,s1.heap.objs.size,s1.heap.objs.size+1],FpOk X pins H1 b:=fun e he=>by
  have hle:s1.heap.objs.size<=e:=by
   have hc:e=s1.heap.objs.size+4\/e=s1.heap.objs.size+2\/e=s1.heap.objs.size+3\/e=s1.heap.objs.size\/e=s1.heap.objs.size+1:=by simpa using he
   rcases hc with r|r|r|r|r<;>rw[r]<;>first|exact yG _|exact yY _ _
  exact I1.fpOk hle (I1.hok.fresh hle)
 refine zdf (X:=X) (pins:=pins) (σ:=σ) (H:=H1) (I.ok.hd hc) (zipApart_new (tE gc) (tE gd)) r2 r3 hz1 I2 fp ⟨.inl z1,z2,⟨_,_,z3⟩,z4,z5,p1.isList.at fun o e=>hk _ o e,p2.isList.at fun o e=>hk _ o e⟩ fun v s' hz=>?_;obtain⟨H2,ts,t,rfl,I3,sm,fr,hl,hp,et⟩:=hz;exact⟨.ref t,H2,I3,rfl,q ts t H2 sm fr hl hp et⟩
end L2
namespace D
open PySem L2
theorem zeg{X:Cx}{a b:jE}{ta:TA}{p p2 pos pos2:Pos}(hc:X.calm=true)(hg:Gl X "zip")(hm:X.mg "zip"=none)(hgt:Gl X "tuple")(hmt:X.mg "tuple"=none)(ha:QA X [a,b] ta)(hs:tK [a,b] X.env=(false,eval a X.env)::tK [b] X.env:=by rfl)
  (hpl:(backTo pos2 (tK [b] X.env)).any (·.1)=false:=by rfl) (hs2:tK [.Call (.Name "zip" p2) [a,b] [] pos2] X.env=(false,eval (.Call (.Name "zip" p2) [a,b] [] pos2) X.env)::tK [] X.env:=by rfl) (hpl2:(backTo pos (tK [] X.env)).any (·.1)=false:=by rfl):
  QE X (.Call (.Name "tuple" p) [.Call (.Name "zip" p2) [a,b] [] pos2] [] pos) (tTZ X.K ta):=⟨L2.zeg hc hg hm hgt hmt ha.un hs hpl hs2 hpl2⟩
variable{a b:List Nat}{d:PyData}
mutual
def TB(B:Nat):PyData->Prop
 |.none=>True
 |.bool _=>True
 |.int i=>i.natAbs<B
 |.str x=>x.length<=400/\∀c∈x.cps.toList,c<200
 |.tuple xs=>TBs B xs
 |.list _=>False
 |.dict _=>False
def TBs(B:Nat):List PyData->Prop
 |[]=>True
 |x::xs=>TB B x/\TBs B xs
end
noncomputable def big:Nat:=10 ^ 121
abbrev TOk:=TB big
abbrev TOks:=TBs big
mutual
noncomputable def cnt:PyData->Nat
 |.tuple xs=>cnts xs+1
 |.none=>1
 |.bool _=>1
 |.int _=>1
 |.str _=>1
 |.list _=>1
 |.dict _=>1
noncomputable def cnts:List PyData->Nat
 |[]=>0
 |x::xs=>cnt x+cnts xs
end
mutual
theorem ze3:∀d:PyData,TOk d->d.shown.length+10<=4020*cnt d
 |.none,_=>by decide
 |.bool true,_=>by decide
 |.bool false,_=>by decide
 |.int i,h=>by
  have h:i.natAbs<10 ^ 121:=h;have e:(PyData.int i).shown.length=(toString i).length:=by
   simp only[PyData.shown];exact ofString_length _
  rw[e];have:=int_text_length_le10 (k:=121) (by decide) h;simp only[cnt];lia
 |.str x,h=>by
  have h:x.length<=400/\∀c∈x.cps.toList,c<200:=h;have:=StrLaws.reprText_len x (fun c hc=>yU (h.2 c hc) (by decide));simp only[PyData.shown,cnt];lia
 |.tuple xs,h=>by
  have ih:=piled_len xs h;have e:(tupleText (PyData.shownAll xs)).length<=piled (PyData.shownAll xs)+3:=by
   unfold tupleText;rw[strLen_append,strLen_append];have e1:((("(":String):Str)).length=1:=rfl;have e3:(((if (PyData.shownAll xs).length==1 then ",)" else ")":String):Str)).length<=2:=by split<;>decide
   have e2:(Str.join ", " (PyData.shownAll xs)).length<=piled (PyData.shownAll xs):=by
    cases q:PyData.shownAll xs with
    |nil=>decide
    |cons a b=>have:=join_length_add (a::b) (by simp);lia
   lia
  simp only[PyData.shown,cnt];lia
 |.list _,h=>h.elim
 |.dict _,h=>h.elim
theorem piled_len:∀ds:List PyData,TOks ds->piled (PyData.shownAll ds)<=4020*cnts ds
 |[],_=>by decide
 |x::xs,h=>by
  have a:=ze3 x h.1;have b:=piled_len xs h.2;simp only[PyData.shownAll,piled_cons,cnts];lia
end
theorem zhd{n k:Nat}(hk:0<k)(h:n<2 ^ k):n.log2<k:=by
 by_cases z:n=0
 ·subst z;exact hk
 ·exact (uU z).mpr h
mutual
theorem zcX:∀d:PyData,TOk d->d.showable=true/\d.hasDict=false
 |.none,_=>⟨rfl,rfl⟩
 |.bool _,_=>⟨rfl,rfl⟩
 |.int i,h=>⟨by simp only[PyData.showable,decide_eq_true_eq];exact zhd (by decide) (yU (show i.natAbs<10 ^ 121 from h) (by decide)),rfl⟩
 |.str _,_=>⟨rfl,rfl⟩
 |.tuple xs,h=>by simp only[PyData.showable,PyData.hasDict];exact showables_of xs h
 |.list _,h=>h.elim
 |.dict _,h=>h.elim
theorem showables_of:∀ds:List PyData,TOks ds->PyData.showableAll ds=true/\PyData.hasDictAll ds=false
 |[],_=>⟨rfl,rfl⟩
 |x::xs,h=>by
  obtain⟨a,b⟩:=zcX x h.1;obtain⟨c,d⟩:=showables_of xs h.2;simp only[PyData.showableAll,PyData.hasDictAll,a,b,c,d];exact⟨rfl,rfl⟩
end
variable{H:Hp}{v:V}{d:PyData}{X:Cx}{pins:List (jC×Obj)}{σ:St}{s:jB}
theorem zcY{h:jD}:∀{us:List jA}{ds:List PyData},us.length=ds.length->(∀(i:Nat)(u:jA)(d:PyData),us[i]?=some u->ds[i]?=some d->∃as,Reads h u d as)->∃as,ReadsAll h us ds as
 |[],[],_,_=>⟨_,.nil⟩
 |u::us,d::ds,l,g=>by
  obtain⟨a,r⟩:=g 0 u d rfl rfl;obtain⟨b,rs⟩:=zcY (us:=us) (ds:=ds) (by simpa using l) fun i u d e1 e2=>g (i+1) u d e1 e2;exact⟨_,.cons r rs⟩
theorem ze4:tL (uX "repr")=some (.builtin "repr"):=by kernel_rfl
end D
namespace L2
open PySem
theorem Room.u80{k:Nat}{A:jI}(r:Room k A):A.units+80<cLine:=by have:=r.un;lia
end L2
namespace D
open PySem L2
variable{X:Cx}{pins:List (jC×Obj)}{σ:St}{H:Hp}{s:jB}{K:tT}{vs us:List V}{ws zs:List W}{its its2:List jA}
theorem RS.inj(I:Inv X pins σ H s){u:V}{x:W}(h:RS X.K H u x):∀{y:W},RS X.K H u y->x=y:=by
 induction h with
 |num i=>intro y h;cases h;rfl
 |txt z=>intro y h;cases h;rfl
 | @lst a vs ws e l at1 ih=>
  intro y h;cases h with
  | @lst _ us zs e2 l2 at2=>
   have hv:vs=us:=I.tuple_inj e e2;subst hv
   congr 1
   refine List.ext_getElem (by lia) fun i h1 h2=>?_;have hv:vs[i]?=some vs[i]:=yA (by lia);exact ih i _ _ hv (yA h1) (at2 i _ _ hv (yA h2))
theorem zm5(I:Inv X pins σ H s):∀(n:Nat)(A:jI)(x y:W)(u v:V)(U V':jA),x.depth<n->RS X.K H u x->RS X.K H v y->RelV u U->RelV v V'->A.units+n+2<cLine->SeqAt.EqAt A s U V' (eqW x y):=by
 intro n
 induction n with
 |zero=>intro A x y u v U V' h;lia
 |succ n ih=>
  intro A x y u v U V' hd rx ry r1 r2 hu;have hu0:A.units<cLine:=by lia
  cases rx with
  |num i=>
   obtain⟨t,rfl⟩:=r1;cases ry with
   |num j=>obtain⟨t2,rfl⟩:=r2;exact SeqAt.EqAt.int_int i t j t2
   |txt z=>obtain⟨t2,rfl⟩:=r2;exact SeqAt.EqAt.int_str i t z t2
   |lst e _ _=>
    cases r2;obtain⟨its,_,p,_⟩:=I.tuple e;exact SeqAt.EqAt.int_tuple i t p hu0
  |txt z=>
   obtain⟨t,rfl⟩:=r1;cases ry with
   |num j=>obtain⟨t2,rfl⟩:=r2;exact SeqAt.EqAt.str_int z t j t2
   |txt z2=>obtain⟨t2,rfl⟩:=r2;exact SeqAt.EqAt.str_str z t z2 t2
   |lst e _ _=>
    cases r2;obtain⟨its,_,p,_⟩:=I.tuple e;exact SeqAt.EqAt.str_tuple z t p hu0
  | @lst a vs ws e l at1=>
   cases r1;obtain⟨its,rv,p,_⟩:=I.tuple e;cases ry with
   |num j=>obtain⟨t2,rfl⟩:=r2;exact SeqAt.EqAt.tuple_int j t2 p hu0
   |txt z2=>obtain⟨t2,rfl⟩:=r2;exact SeqAt.EqAt.tuple_str z2 t2 p hu0
   | @lst b us zs e2 l2 at2=>
    cases r2;obtain⟨its2,rv2,p2,_⟩:=I.tuple e2
    by_cases hab:a=b
    ·subst hab
     have:W.lst ws=W.lst zs:=RS.inj I (.lst e l at1) (.lst e2 l2 at2);rw[this,zaZ];exact SeqAt.EqAt.same _
    ·rw[←zhb (H:=H) rv rv2 l l2]
     refine SeqAt.EqAt.of_refs hab (SeqAt.RcAt.tuples p p2 hu0 fun j h1 h2=>?_);have j1:j<its.length:=by simpa using h1
     have j2:j<its2.length:=by simpa using h2
     have k1:j<vs.length:=by rw[rv.length];exact j1
     have k2:j<us.length:=by rw[rv2.length];exact j2
     have m1:j<ws.length:=by lia
     have m2:j<zs.length:=by lia
     obtain⟨U1,hU1,rU1⟩:=rv.get (yA k1);obtain⟨U2,hU2,rU2⟩:=rv2.get (yA k2);have f1:its.toArray[j]=U1:=by have:=(yC.mp hU1).2;simpa using this
     have f2:its2.toArray[j]=U2:=by have:=(yC.mp hU2).2;simpa using this
     rw[f1,f2];have g1:ws.getD j (.num 0)=ws[j]:=by rw[yX,yA m1];rfl
     have g2:zs.getD j (.num 0)=zs[j]:=by rw[yX,yA m2];rfl
     rw[g1,g2];have hdj:=Z0 ws[j] (xD m1);have hd':1+depths ws<n+1:=hd;have hu1:A.in1.units=A.units+1:=rfl;exact ih A.in1 ws[j] zs[j] vs[j] us[j] U1 U2 (by lia) (at1 j _ _ (yA k1) (yA m1)) (at2 j _ _ (yA k2) (yA m2)) rU1 rU2 (by lia)
mutual
theorem zcZ:∀w z:W,eqW w z=true ↔ w=z
 |.num i,.num j=>by simp[eqW]
 |.txt x,.txt y=>by simp[eqW]
 |.lst ws,.lst zs=>by
  rw[eqW,eqWs_iff' ws zs]
  constructor
  ·intro h;rw[h]
  ·intro h;cases h;rfl
 |.num _,.txt _=>by simp[eqW]
 |.num _,.lst _=>by simp[eqW]
 |.txt _,.num _=>by simp[eqW]
 |.txt _,.lst _=>by simp[eqW]
 |.lst _,.num _=>by simp[eqW]
 |.lst _,.txt _=>by simp[eqW]
theorem eqWs_iff':∀ws zs:List W,eqWs ws zs=true ↔ ws=zs
 |[],[]=>by simp[eqWs]
 |w::r,z::s=>by
  rw[eqWs,xH,zcZ w z,eqWs_iff' r s]
  constructor
  ·rintro⟨rfl,rfl⟩;rfl
  ·intro h;cases h;exact⟨rfl,rfl⟩
 |[],_::_=>by simp[eqWs]
 |_::_,[]=>by simp[eqWs]
end
theorem zm6{w z:W}(h:w≠z):eqW w z=false:=by
 cases e:eqW w z with
 |false=>rfl
 |true=>exact absurd ((zcZ w z).mp e) h
structure RSs(K:tT)(H:Hp)(vs:List V)(ws:List W):Prop where
 len:vs.length=ws.length
 at':∀(i:Nat)(v:V)(w:W),vs[i]?=some v->ws[i]?=some w->RS K H v w
theorem RWs.rss(h:RWs H vs ws):RSs K H vs ws:=⟨h.len,fun i v w a b=>(h.at' i v w a b).toRS⟩
theorem RS.parts{v:V}(h:RS K H v (.lst ws)):∃a vs,v=.ref a/\SqT K H a vs/\RSs K H vs ws:=by
 cases h with
 | @lst a vs _ e l at1=>exact⟨a,vs,rfl,e,l,at1⟩
theorem zeh(I:Inv X pins σ H s)(hu:X.A.units+64<cLine)(v1:Vals us its)(v2:Vals vs its2)(r1:RSs X.K H us ws)(r2:RSs X.K H vs zs)(hd:depths ws<50)(j:Nat)(h1:j<its.toArray.size)(h2:j<its2.toArray.size):
  SeqAt.EqAt X.A.in1 s its.toArray[j] its2.toArray[j] (eqW (ws.getD j (.num 0)) (zs.getD j (.num 0))):=by
 have l1:=v1.length;have l2:=v2.length;have m1:=r1.len;have m2:=r2.len;have j1:j<us.length:=by rw[l1];simpa using h1
 have j2:j<vs.length:=by rw[l2];simpa using h2
 have e1:us[j]?=some us[j]:=yA j1;have e2:vs[j]?=some vs[j]:=yA j2;have k1:j<ws.length:=by lia
 have k2:j<zs.length:=by lia
 have e3:ws[j]?=some ws[j]:=yA k1;have e4:zs[j]?=some zs[j]:=yA k2;have g1:ws.getD j (.num 0)=ws[j]:=by rw[yX,e3];rfl
 have g2:zs.getD j (.num 0)=zs[j]:=by rw[yX,e4];rfl
 rw[g1,g2];have hdj:=Z0 ws[j] (xD k1);have hu1:X.A.in1.units=X.A.units+1:=rfl;exact zm5 I 50 X.A.in1 ws[j] zs[j] us[j] vs[j] _ _ (by lia) (r1.at' j _ _ e1 e3) (r2.at' j _ _ e2 e4) (ziH v1 e1 h1) (ziH v2 e2 h2) (by lia)
inductive rTT(K:tT)(g:Bool->Bool)(x y:V)(H:Hp)(Q:VK):Prop
 |mk (ws zs:List W) (_:RS K H x (.lst ws)) (_:RS K H y (.lst zs)) (_:depths ws<50) (_:Q (.bl (g (eqW (.lst ws) (.lst zs)))) H)
inductive rLL(K:tT)(g:Bool->Bool)(x y:V)(H:Hp)(Q:VK):Prop
 |mk (a b:jC) (us vs:List V) (ws zs:List W) (_:x=.ref a) (_:y=.ref b) (_:SqL K H a us) (_:SqL K H b vs) (_:RSs K H us ws) (_:RSs K H vs zs) (_:depths ws<50) (_:Q (.bl (g (eqW (.lst ws) (.lst zs)))) H)
theorem zlQ(hu:X.A.units+64<cLine):OpR X (tM .Eq) (rTT X.K fun b=>b):=by
 intro pins s σ H x y v u Q I rx ry h;obtain⟨ws,zs,hx,hy,hd,q⟩:=h;obtain⟨a,us,rfl,ha,r1⟩:=hx.parts;obtain⟨b,vs,rfl,hb,r2⟩:=hy.parts;cases rx;cases ry;obtain⟨its,v1,p1,_⟩:=I.tuple ha;obtain⟨its2,v2,p2,_⟩:=I.tuple hb;have key:=SeqAt.RcAt.tuples p1 p2 (by lia) (zeh I hu v1 v2 r1 r2 hd);rw[zhb (H:=H) v1 v2 r1.len r2.len] at key;exact key X.prog X.w _ _ ⟨.bl _,H,I,rfl,q⟩
theorem zlR(hu:X.A.units+64<cLine):OpR X (tM .NotEq) (rTT X.K fun b=>!b):=by
 intro pins s σ H x y v u Q I rx ry h;obtain⟨ws,zs,hx,hy,hd,q⟩:=h;obtain⟨a,us,rfl,ha,r1⟩:=hx.parts;obtain⟨b,vs,rfl,hb,r2⟩:=hy.parts;cases rx;cases ry;obtain⟨its,v1,p1,_⟩:=I.tuple ha;obtain⟨its2,v2,p2,_⟩:=I.tuple hb;have key:=SeqAt.RcNeAt.tuples p1 p2 (by lia) (zeh I hu v1 v2 r1 r2 hd);rw[zhb (H:=H) v1 v2 r1.len r2.len] at key;exact key X.prog X.w _ _ ⟨.bl _,H,I,rfl,q⟩
theorem zlS(h:ws.length≠zs.length):eqW (.lst ws) (.lst zs)=false:=zm6 fun z=>h (by injection z with z;rw[z])
theorem zm7(v1:Vals us its)(v2:Vals vs its2)(l1:us.length=ws.length)(l2:vs.length=zs.length)(e:ws.length=zs.length):
  ((wA its.toArray.size).all fun j=>eqW (ws.getD j (.num 0)) (zs.getD j (.num 0)))=eqW (.lst ws) (.lst zs):=by
 rw[←zhb (H:=fun _=>none) v1 v2 l1 l2];have e1:its.toArray.size=ws.length:=by rw[yF,←v1.length,l1]
 have e2:its2.toArray.size=zs.length:=by rw[yF,←v2.length,l2]
 rw[e1,e2,e,Nat.min_self];simp
theorem ziK(hu:X.A.units+64<cLine):OpR X (tM .Eq) (rLL X.K fun b=>b):=by
 intro pins s σ H x y v u Q I rx ry h;obtain⟨a,b,us,vs,ws,zs,rfl,rfl,ha,hb,r1,r2,hd,q⟩:=h;cases rx;cases ry;obtain⟨its,v1,p1,_⟩:=I.list ha;obtain⟨its2,v2,p2,_⟩:=I.list hb;have e1:its.toArray.size=ws.length:=by rw[yF,←v1.length,r1.len]
 have e2:its2.toArray.size=zs.length:=by rw[yF,←v2.length,r2.len]
 by_cases e:ws.length=zs.length
 ·have key:=SeqAt.RcAt.lists p1.isList p2.isList (by rw[e1,e2,e]) (by lia) (zeh I hu v1 v2 r1 r2 hd)
  rw[zm7 v1 v2 r1.len r2.len e] at key;exact key X.prog X.w _ _ ⟨.bl _,H,I,rfl,q⟩
 ·have key:=SeqAt.RcAt.lists_lengths (A:=X.A) p1.isList p2.isList (by rw[e1,e2];simp[e]) (by lia)
  rw[zlS e] at q;exact key X.prog X.w _ _ ⟨.bl _,H,I,rfl,q⟩
end D
namespace L2
open PySem PySem.Spec PyProof.Rows
variable{x qual:Str}{st:jF}{dV:jA}{f:jC}{fd:tU}{ps:List Str}{sp:Sp}
section
variable{P:jG}{w:jH}{K:tT}{mg:Str->Option jA}{base:jD}
end
end L2
namespace D
open PySem L2
variable{pl:Sem Bool}{X:Cx}
section
variable{X:Cx}{C:jC}{x m:Str}{k:Nat}{ps:List Str}{sp:Sp}{e o:jE}{es:List jE}{ta:TE}{t:TA}{p pos apos:Pos}
end
mutual
noncomputable def W.toD:W->PyData
 |.num i=>.int i
 |.txt x=>.str x
 |.lst ws=>.tuple (toDs ws)
noncomputable def toDs:List W->List PyData
 |[]=>[]
 |w::r=>w.toD::toDs r
end
theorem zei:∀ws:List W,toDs ws=ws.map W.toD
 |[]=>rfl
 |w::r=>by simp only[toDs,yW,zei r]
theorem RS.reads{pins:List (jC×Obj)}{σ:St}{H:Hp}{s:jB}(I:Inv X pins σ H s){v:V}{w:W}(h:RS X.K H v w):∀{u:jA},RelV v u->∃as,Reads s.heap u w.toD as:=by
 induction h with
 |num i=>intro u r;obtain⟨t,rfl⟩:=r;exact⟨_,.int i t⟩
 |txt x=>intro u r;obtain⟨t,rfl⟩:=r;exact⟨_,.str x t⟩
 | @lst a vs ws e l _ ih=>
  intro u r;cases r;obtain⟨its,rv,p,_⟩:=I.tuple e;obtain⟨o,g1,g2,n,g3⟩:=p;have hl:=rv.length;obtain⟨as,ra⟩:=zcY (h:=s.heap) (us:=its.toArray.toList) (ds:=toDs ws) (by rw[wH,zei,yB,←hl,l]) fun i u d e1 e2=>by
   rw[wH] at e1;rw[zei,yE] at e2;obtain⟨w,hw,rfl⟩:=yP.mp e2;have hi:i<its.length:=(yC.mp e1).1;have hv:i<vs.length:=by lia
   obtain⟨U,hU,rU⟩:=rv.get (yA hv);rw[e1] at hU;cases hU;exact ih i _ _ (yA hv) hw rU
  exact⟨_,.tuple g1 g2 g3 ra⟩
theorem zdz(hg:X.A.guards=some [])(hu:X.A.units+80<cLine):zas X (.builtin "repr") (fun xs H Q=>∃(v:V)(w:W),xs=[v]/\RS X.K H v w/\TOk w.toD/\w.toD.depth<70/\cnt w.toD<=4100/\Q (.str w.toD.shown) H):=by
 intro pins s σ H xs us Q I r h;obtain⟨v,w,rfl,rs,ok,dp,ct,q⟩:=h;obtain⟨u,rfl,rx⟩:=zbQ r;have hz:w.toD.shown.length<=tI:=by
  have:=ze3 w.toD ok;rw[sizeLine_eq];lia
 obtain⟨sh,nd⟩:=zcX w.toD ok;cases rs with
 |num i=>
  obtain⟨t,rfl⟩:=rx;exact P.repr_of_int (by simpa [W.toD,PyData.showable] using sh) ⟨.str _,H,I.tok _,⟨s.toks,by simp only[W.toD,PyData.shown]⟩,q⟩
 |txt x=>
  obtain⟨t,rfl⟩:=rx;exact P.repr_of_str ⟨.str _,H,I.tok _,⟨s.toks,by simp only[W.toD,PyData.shown]⟩,q⟩ (by simpa only [W.toD,PyData.shown] using hz)
 | @lst a vs ws e l at1=>
  cases rx;obtain⟨as,rd⟩:=RS.reads I (.lst e l at1) (u:=.ref a) rfl;exact repr_of_reads' rd sh (PyData.noDict_hsm nd) hg (by lia) (fun _ _ e=>e) (fun h' u tk hk=>⟨.str _,H,I.kept (h':=h') (t':=tk) hk,⟨_,rfl⟩,q⟩) hz
end D
namespace L2
open PySem PySem.Spec PyProof.Rows
variable{a f0 x y b:jA}{Q:jA->jB->Prop}{z T i1 i2 l1 l2:jC}{xs ys:Array jA}{ot:Obj}
section
variable{prog:jG}{w:jH}{A:jI}{E:jA->jB->Prop}{s:jB}
structure ZS(h:jD)(z TI TO i1 i2 l1 l2:jC)(k:Nat):Prop where
 zip:∃(f0:jA)(f:Bool),ZI h z TI TO f0 f/\((f0=.none)\/∃T:jC,f0=rawInt T)
 ti:IsPair h TI (.ref i1) (.ref i2)
 to:∃a b,IsPair h TO a b
 it1:h.IsListIter i1 l1 k
 it2:h.IsListIter i2 l2 k
theorem dead{a:jC}{Q:Option Obj->jB->Prop}(ho:s.heap.get? a=none)(h:Q none s):wpAny (model prog w) A (loadIfAlive a) Q E s:=by
 have h':Q (s.heap.get? a) s:=by rw[ho];exact h
 exact fun _ _ _=>h'
theorem ze5{TI TO:jC}{f:Bool}{Q:Bool->jB->Prop}(hz:ZI s.heap z TI TO (rawInt T) f)(hT:s.heap.get? T=none)(q:Q true s):wpAny (model prog w) A (Builtin.SmallTypes.ownedTupleIsFree (.ref z)) Q E s:=by
 unfold Builtin.SmallTypes.ownedTupleIsFree;refine uY (wpAny_field hz rfl (x:=rawInt T) rfl ?_);show wpAny _ _ (loadIfAlive ((T:Int).toNat)>>=_) _ _ _;rw[wP];refine uY (dead hT ?_);simp only[Option.isNone_none,if_true];exact uZ q
theorem ze6{TI TO:jC}{f:Bool}{Q:Bool->jB->Prop}(hz:ZI s.heap z TI TO .none f)(q:Q true s):wpAny (model prog w) A (Builtin.SmallTypes.ownedTupleIsFree (.ref z)) Q E s:=by
 unfold Builtin.SmallTypes.ownedTupleIsFree;exact uY (wpAny_field hz rfl (x:=.none) rfl (uZ q))
theorem ziL{f:Bool}{TI TO:jC}{k:Nat}(D:ZipApart z TI TO i1 i2 l1 l2)(hz:ZI s.heap z TI TO f0 f)
  (hfr:∀{Q:Bool->jB->Prop}{E:jA->jB->Prop},Q true s->wpAny (model prog w) A (Builtin.SmallTypes.ownedTupleIsFree (.ref z)) Q E s)
  (hI:IsPair s.heap TI (.ref i1) (.ref i2)) (hO:IsPair s.heap TO a b) (j1:s.heap.IsListIter i1 l1 k) (j2:s.heap.IsListIter i2 l2 k) (L1:s.heap.IsList l1 xs) (L2:s.heap.IsList l2 ys) (e1:xs[k]?=some x) (e2:ys[k]?=some y)
  (q:∀h',ZS h' z TI TO i1 i2 l1 l2 (k+1)->IsPair h' s.heap.objs.size x y->h'.objs.size=s.heap.objs.size+1->(∀c o,c≠z->c≠TO->c≠i1->c≠i2->s.heap.get? c=some o->h'.get? c=some o)->Q (.ref s.heap.objs.size) {s with heap:=h'}):
  wpAny (model prog w) A (Builtin.«zip.__next__» ⟨[.ref z],[]⟩) (fun fin s'=>∃v,fin=.done (.ret v)/\Q v s') E s:=by
 show wpAny _ _ (field (.ref z) 2>>=_) _ _ _;refine uY (wpAny_field hz rfl (x:=.bool false) rfl ?_);show wpAny _ _ (field (.ref z) 3>>=_) _ _ _;refine uY (wpAny_field hz rfl (x:=.ref TI) rfl ?_);refine uY (wpAny_seqItems hI rfl ?_);show wpAny _ _ (Builtin.SmallTypes.ownedTupleIsFree (.ref z)>>=_) _ _ _;refine uY (hfr ?_);simp only[if_true];refine uY (wpAny_rule ?_);refine uY (wpAny_field hz rfl (x:=.ref TO) rfl ?_);refine uY (wpAny_setField_rec hz (by simp) fun ha za sa=>?_);have za':ZI ha z TI TO .ellipsis f:=za;refine uY ?_;simp only[vF,vK,xX,wC];refine uY (uY (wpAny_onRaise ?_));show wpAny _ _ (Builtin.SmallTypes.nextOf (.ref i1)>>=_) _ _ _;refine uY (wpAny_nextOf_list_item (j1.extBut sa.extBut D.i1z) (L1.extBut sa.extBut D.l1z) e1 fun hb jb sb=>uZ ?_);have ob:IsPair hb TO a b:=sb.extBut _ _ D.TOi1 (sa.extBut _ _ D.TOz hO);refine uY (wpAny_seqItems ob rfl ?_);refine uY (wpAny_updateSeq_pair ob fun hc oc sc=>?_);have oc':IsPair hc TO x b:=oc;refine uY (wpAny_letGo (uZ ?_));refine uY (uY (wpAny_onRaise ?_));show wpAny _ _ (Builtin.SmallTypes.nextOf (.ref i2)>>=_) _ _ _;refine uY (wpAny_nextOf_list_item (((j2.extBut sa.extBut D.i2z).extBut sb.extBut D.i12.symm).extBut sc.extBut D.TOi2.symm) (((L2.extBut sa.extBut D.l2z).extBut sb.extBut D.l2i1).extBut sc.extBut D.l2TO) e2 fun hd jd sd=>uZ ?_);have od:IsPair hd TO x b:=sd.extBut _ _ D.TOi2 oc';refine uY (wpAny_seqItems od rfl ?_);refine uY (wpAny_updateSeq_pair od fun he oe se=>?_);have oe':IsPair he TO x y:=oe;refine uY (wpAny_letGo (uZ (uZ ?_)));refine uY (wpAny_seqItems oe' rfl ?_);refine uY (wpAny_newTuple ?_);have sz:he.objs.size=s.heap.objs.size:=by rw[se.1,sd.1,sc.1,sb.1,sa.1]
 have ze:ZI he z TI TO .ellipsis f:=se.extBut _ _ D.TOz.symm (sd.extBut _ _ D.i2z.symm (sc.extBut _ _ D.TOz.symm (sb.extBut _ _ D.i1z.symm za')));have ke:∀c o,c≠z->c≠TO->c≠i1->c≠i2->s.heap.get? c=some o->he.get? c=some o:=fun c o c1 c2 c3 c4 e=>se.extBut _ _ c2 (sd.extBut _ _ c4 (sc.extBut _ _ c2 (sb.extBut _ _ c3 (sa.extBut _ _ c1 e))));have je1:he.IsListIter i1 l1 (k+1):=((jb.extBut sc.extBut D.TOi1.symm).extBut sd.extBut D.i12).extBut se.extBut D.TOi1.symm;have je2:he.IsListIter i2 l2 (k+1):=jd.extBut se.extBut D.TOi2.symm;have zl:z<he.objs.size:=tE ze;show wpAny _ _ (Builtin.SmallTypes.ownedTupleHandOut (.ref z) (.ref he.objs.size)>>=_) _ _ _;refine uY ?_;unfold Builtin.SmallTypes.ownedTupleHandOut;have zp:ZI (he.push {cls:=.type "tuple",data:=.seq #[x,y]}) z TI TO .ellipsis f:=tD _ ze;refine uY (wpAny_setField_rec zp (by simp) fun hg zg sg=>?_);have zg':ZI hg z TI TO (rawInt he.objs.size) f:=zg;refine wpAny_setField_rec zg' (by simp) fun hh zh sh=>?_;have zh':ZI hh z TI TO (rawInt he.objs.size) false:=zh;have up:∀c o,c≠z->he.get? c=some o->hh.get? c=some o:=fun c o c1 e=>sh.extBut _ _ c1 (sg.extBut _ _ c1 (tD _ e));have tp:IsPair hh he.objs.size x y:=sh.extBut _ _ (xE zl) (sg.extBut _ _ (xE zl) (tF _ rfl));have zs:hh.objs.size=he.objs.size+1:=by rw[sh.1,sg.1,Heap.size_push]
 refine uZ ⟨_,rfl,?_⟩;show Q (.ref he.objs.size) _;rw[sz] at tp zs ⊢;exact q hh ⟨⟨_,_,zh',.inr ⟨_,rfl⟩⟩,up _ _ D.TIz (ke _ _ D.TIz D.TITO D.TIi1 D.TIi2 hI),⟨_,_,up _ _ D.TOz oe'⟩,je1.at fun o e=>up _ o D.i1z e,je2.at fun o e=>up _ o D.i2z e⟩ tp zs fun c o c1 c2 c3 c4 e=>up c o c1 (ke c o c1 c2 c3 c4 e)
theorem zlT{f:Bool}{TI TO:jC}{k:Nat}(D:ZipApart z TI TO i1 i2 l1 l2)(hz:ZI s.heap z TI TO (rawInt T) f)(hT:s.heap.get? T=some ot)
  (hI:IsPair s.heap TI (.ref i1) (.ref i2)) (hO:IsPair s.heap TO a b) (j1:s.heap.IsListIter i1 l1 k) (j2:s.heap.IsListIter i2 l2 k) (L1:s.heap.IsList l1 xs) (L2:s.heap.IsList l2 ys) (e1:xs[k]?=some x) (e2:ys[k]?=some y)
  (q:∀h',ZS h' z TI TO i1 i2 l1 l2 (k+1)->IsPair h' s.heap.objs.size x y->h'.objs.size=s.heap.objs.size+1->(∀c o,c≠z->c≠TO->c≠i1->c≠i2->s.heap.get? c=some o->h'.get? c=some o)->Q (.ref s.heap.objs.size) {s with heap:=h'}):
  wpAny (model prog w) A (Builtin.«zip.__next__» ⟨[.ref z],[]⟩) (fun fin s'=>∃v,fin=.done (.ret v)/\Q v s') E s:=by
 show wpAny _ _ (field (.ref z) 2>>=_) _ _ _;refine uY (wpAny_field hz rfl (x:=.bool false) rfl ?_);show wpAny _ _ (field (.ref z) 3>>=_) _ _ _;refine uY (wpAny_field hz rfl (x:=.ref TI) rfl ?_);refine uY (wpAny_seqItems hI rfl ?_);show wpAny _ _ (Builtin.SmallTypes.ownedTupleIsFree (.ref z)>>=_) _ _ _;refine uY (zcm hz hT fun h1 z1 s1=>?_);simp only[wD,if_false];refine uY ?_;simp only[vA,xX,wC];refine uY (uY (wpAny_holding ?_));show wpAny _ _ (Builtin.SmallTypes.nextOf (.ref i1)>>=_) _ _ _;refine uY (wpAny_nextOf_list_item (j1.extBut s1.extBut D.i1z) (L1.extBut s1.extBut D.l1z) e1 fun h2 j12 s2=>uZ ?_);refine uZ ?_;refine uY (uY (wpAny_holding ?_));show wpAny _ _ (Builtin.SmallTypes.nextOf (.ref i2)>>=_) _ _ _;refine uY (wpAny_nextOf_list_item ((j2.extBut s1.extBut D.i2z).extBut s2.extBut D.i12.symm) ((L2.extBut s1.extBut D.l2z).extBut s2.extBut D.l2i1) e2 fun h3 j23 s3=>uZ ?_);refine uZ (uZ ?_);show wpAny _ _ (newTuple [x,y]>>=_) _ _ _;refine uY (wpAny_newTuple ?_);have size:h3.objs.size=s.heap.objs.size:=by rw[s3.1,s2.1,s1.1]
 have ke:∀c o,c≠z->c≠i1->c≠i2->s.heap.get? c=some o->(h3.push {cls:=.type "tuple",data:=.seq #[x,y]}).get? c=some o:=fun c o n1 n2 n3 e=>tD _ (s3.extBut _ _ n3 (s2.extBut _ _ n2 (s1.extBut _ _ n1 e)));have zz:ZI (h3.push {cls:=.type "tuple",data:=.seq #[x,y]}) z TI TO (rawInt T) true:=tD _ (s3.extBut _ _ D.i2z.symm (s2.extBut _ _ D.i1z.symm z1));refine uZ ⟨_,rfl,?_⟩;show Q (.ref h3.objs.size) _;have tp:IsPair (h3.push {cls:=.type "tuple",data:=.seq #[x,y]}) h3.objs.size x y:=tF _ rfl;rw[size] at tp ⊢;refine q _ ⟨⟨_,_,zz,.inr ⟨_,rfl⟩⟩,ke _ _ D.TIz D.TIi1 D.TIi2 hI,⟨_,_,ke _ _ D.TOz D.TOi1 D.TOi2 hO⟩,?_,?_⟩ tp (by rw[Heap.size_push,size]) fun c o n1 _ n3 n4 e=>ke c o n1 n3 n4 e
 ·exact (j12.extBut s3.extBut D.i12).at fun o e=>tD _ e
 ·exact j23.at fun o e=>tD _ e
theorem ZS.ty{s:jB}{TI TO:jC}{k:Nat}(Z:ZS s.heap z TI TO i1 i2 l1 l2 k):s.TypeIs (.ref z) "zip":=by
 obtain⟨_,_,h,_⟩:=Z.zip;exact⟨_,h,rfl⟩
theorem zlU{TI TO:jC}{k:Nat}(D:ZipApart z TI TO i1 i2 l1 l2)(Z:ZS s.heap z TI TO i1 i2 l1 l2 k)(L1:s.heap.IsList l1 xs)(L2:s.heap.IsList l2 ys)(e1:xs[k]?=some x)(e2:ys[k]?=some y)
  (q:∀h',ZS h' z TI TO i1 i2 l1 l2 (k+1)->IsPair h' s.heap.objs.size x y->h'.objs.size=s.heap.objs.size+1->(∀c o,c≠z->c≠TO->c≠i1->c≠i2->s.heap.get? c=some o->h'.get? c=some o)->Q (.ref s.heap.objs.size) {s with heap:=h'}):
  wpAny (model prog w) A (Builtin.SmallTypes.nextOf (.ref z)) Q E s:=by
 have ty:=Z.ty;obtain⟨⟨f0,f,hz,hf⟩,hI,⟨a,b,hO⟩,j1,j2⟩:=Z;unfold Builtin.SmallTypes.nextOf;refine uY (wpAny_callSpecial?_slot (name:=uX "__next__") ty F.slot_zip_next (wpAny_call_entry F.slot_zip_next ty F.entry_zip_next ?_ (F.args_zip_next_1 _)));rcases hf with rfl|⟨T,rfl⟩
 ·exact ziL D hz (fun q=>ze6 hz q) hI hO j1 j2 L1 L2 e1 e2 fun h' a1 a2 a3 a4=>uZ (q h' a1 a2 a3 a4)
 ·cases hT:s.heap.get? T with
  |none=>exact ziL D hz (fun q=>ze5 hz hT q) hI hO j1 j2 L1 L2 e1 e2 fun h' a1 a2 a3 a4=>uZ (q h' a1 a2 a3 a4)
  |some ot=>exact zlT D hz hT hI hO j1 j2 L1 L2 e1 e2 fun h' a1 a2 a3 a4=>uZ (q h' a1 a2 a3 a4)
theorem zk5{f:Bool}{TI TO:jC}{k:Nat}{Q:Fin->jB->Prop}(hh:A.handled=none)(D:ZipApart z TI TO i1 i2 l1 l2)(hz:ZI s.heap z TI TO f0 f)
  (hfr:∀{Q:Bool->jB->Prop}{E:jA->jB->Prop},Q true s->wpAny (model prog w) A (Builtin.SmallTypes.ownedTupleIsFree (.ref z)) Q E s)
  (hI:IsPair s.heap TI (.ref i1) (.ref i2)) (hO:IsPair s.heap TO a b) (j1:s.heap.IsListIter i1 l1 k) (j2:s.heap.IsListIter i2 l2 k) (L1:s.heap.IsList l1 xs) (L2:s.heap.IsList l2 ys) (he:xs[k]?=none\/ys[k]?=none)
  (q:∀h' e,(∀c o,c≠z->c≠TO->c≠i1->c≠i2->s.heap.get? c=some o->h'.get? c=some o)->(∃o,h'.get? e=some o/\o.cls=.type "StopIteration")->E (.ref e) {s with heap:=h'}):
  wpAny (model prog w) A (Builtin.«zip.__next__» ⟨[.ref z],[]⟩) Q E s:=by
 show wpAny _ _ (field (.ref z) 2>>=_) _ _ _;refine uY (wpAny_field hz rfl (x:=.bool false) rfl ?_);show wpAny _ _ (field (.ref z) 3>>=_) _ _ _;refine uY (wpAny_field hz rfl (x:=.ref TI) rfl ?_);refine uY (wpAny_seqItems hI rfl ?_);show wpAny _ _ (Builtin.SmallTypes.ownedTupleIsFree (.ref z)>>=_) _ _ _;refine uY (hfr ?_);simp only[if_true];refine uY (wpAny_rule ?_);refine uY (wpAny_field hz rfl (x:=.ref TO) rfl ?_);refine uY (wpAny_setField_rec hz (by simp) fun ha za sa=>?_);have za':ZI ha z TI TO .ellipsis f:=za;refine uY ?_;simp only[vF,vK,xX,wC];refine uY (uY (wpAny_onRaise ?_));show wpAny _ _ (Builtin.SmallTypes.nextOf (.ref i1)>>=_) _ _ _;cases hx:xs[k]? with
 |none=>
  refine uY (wpAny_nextOf_list_end hh (j1.extBut sa.extBut D.i1z) (L1.extBut sa.extBut D.l1z) hx fun hb e sb ee=>?_);obtain⟨oe,ge,ce⟩:=ee;have zb:ZI hb z TI TO .ellipsis f:=sb _ _ D.i1z.symm za';have ne:e≠z:=fun x=>by subst x;rw[zb] at ge;cases ge;simp at ce
  exact wpAny_setField_rec zb (by simp) fun hc _ sc=>q hc e (fun c o c1 _ c3 _ x=>sc.extBut _ _ c1 (sb _ _ c3 (sa.extBut _ _ c1 x))) ⟨oe,sc.extBut _ _ ne ge,ce⟩
 |some x=>
  have hy:ys[k]?=none:=by rcases he with h|h;rw[hx] at h;cases h;exact h
  refine uY (wpAny_nextOf_list_item (j1.extBut sa.extBut D.i1z) (L1.extBut sa.extBut D.l1z) hx fun hb jb sb=>uZ ?_);have ob:IsPair hb TO a b:=sb.extBut _ _ D.TOi1 (sa.extBut _ _ D.TOz hO);refine uY (wpAny_seqItems ob rfl ?_);refine uY (wpAny_updateSeq_pair ob fun hc oc sc=>?_);refine uY (wpAny_letGo (uZ ?_));refine uY (uY (wpAny_onRaise ?_));show wpAny _ _ (Builtin.SmallTypes.nextOf (.ref i2)>>=_) _ _ _;refine uY (wpAny_nextOf_list_end hh (((j2.extBut sa.extBut D.i2z).extBut sb.extBut D.i12.symm).extBut sc.extBut D.TOi2.symm) (((L2.extBut sa.extBut D.l2z).extBut sb.extBut D.l2i1).extBut sc.extBut D.l2TO) hy fun hd e sd ee=>?_);obtain⟨oe,ge,ce⟩:=ee;have zd:ZI hd z TI TO .ellipsis f:=sd _ _ D.i2z.symm (sc.extBut _ _ D.TOz.symm (sb.extBut _ _ D.i1z.symm za'));have ne:e≠z:=fun x=>by subst x;rw[zd] at ge;cases ge;simp at ce
  exact wpAny_setField_rec zd (by simp) fun hg _ sg=>q hg e (fun c o c1 c2 c3 c4 x=>sg.extBut _ _ c1 (sd _ _ c4 (sc.extBut _ _ c2 (sb.extBut _ _ c3 (sa.extBut _ _ c1 x))))) ⟨oe,sg.extBut _ _ ne ge,ce⟩
theorem zm8{f:Bool}{TI TO:jC}{k:Nat}{Q:Fin->jB->Prop}(hh:A.handled=none)(D:ZipApart z TI TO i1 i2 l1 l2)(hz:ZI s.heap z TI TO (rawInt T) f)(hT:s.heap.get? T=some ot)
  (hI:IsPair s.heap TI (.ref i1) (.ref i2)) (hO:IsPair s.heap TO a b) (j1:s.heap.IsListIter i1 l1 k) (j2:s.heap.IsListIter i2 l2 k) (L1:s.heap.IsList l1 xs) (L2:s.heap.IsList l2 ys) (he:xs[k]?=none\/ys[k]?=none)
  (q:∀h' e,(∀c o,c≠z->c≠TO->c≠i1->c≠i2->s.heap.get? c=some o->h'.get? c=some o)->(∃o,h'.get? e=some o/\o.cls=.type "StopIteration")->E (.ref e) {s with heap:=h'}):
  wpAny (model prog w) A (Builtin.«zip.__next__» ⟨[.ref z],[]⟩) Q E s:=by
 show wpAny _ _ (field (.ref z) 2>>=_) _ _ _;refine uY (wpAny_field hz rfl (x:=.bool false) rfl ?_);show wpAny _ _ (field (.ref z) 3>>=_) _ _ _;refine uY (wpAny_field hz rfl (x:=.ref TI) rfl ?_);refine uY (wpAny_seqItems hI rfl ?_);show wpAny _ _ (Builtin.SmallTypes.ownedTupleIsFree (.ref z)>>=_) _ _ _;refine uY (zcm hz hT fun h1 z1 s1=>?_);simp only[wD,if_false];refine uY ?_;simp only[vA,xX,wC];refine uY (uY (wpAny_holding ?_));show wpAny _ _ (Builtin.SmallTypes.nextOf (.ref i1)>>=_) _ _ _;cases hx:xs[k]? with
 |none=>exact uY (wpAny_nextOf_list_end hh (j1.extBut s1.extBut D.i1z) (L1.extBut s1.extBut D.l1z) hx fun h2 e s2 ee=>q h2 e (fun c o n1 _ n3 _ e=>s2 _ _ n3 (s1.extBut _ _ n1 e)) ee)
 |some x=>
  have hy:ys[k]?=none:=by rcases he with h|h;rw[hx] at h;cases h;exact h
  refine uY (wpAny_nextOf_list_item (j1.extBut s1.extBut D.i1z) (L1.extBut s1.extBut D.l1z) hx fun h2 j12 s2=>uZ ?_);refine uZ ?_;refine uY (uY (wpAny_holding ?_));show wpAny _ _ (Builtin.SmallTypes.nextOf (.ref i2)>>=_) _ _ _;exact uY (wpAny_nextOf_list_end hh ((j2.extBut s1.extBut D.i2z).extBut s2.extBut D.i12.symm) ((L2.extBut s1.extBut D.l2z).extBut s2.extBut D.l2i1) hy fun h3 e s3 ee=>q h3 e (fun c o n1 _ n3 n4 e=>s3 _ _ n4 (s2.extBut _ _ n3 (s1.extBut _ _ n1 e))) ee)
theorem zm9{TI TO:jC}{k:Nat}(hh:A.handled=none)(D:ZipApart z TI TO i1 i2 l1 l2)(Z:ZS s.heap z TI TO i1 i2 l1 l2 k)(L1:s.heap.IsList l1 xs)(L2:s.heap.IsList l2 ys)(he:xs[k]?=none\/ys[k]?=none)
  (q:∀h' e,(∀c o,c≠z->c≠TO->c≠i1->c≠i2->s.heap.get? c=some o->h'.get? c=some o)->(∃o,h'.get? e=some o/\o.cls=.type "StopIteration")->E (.ref e) {s with heap:=h'}):
  wpAny (model prog w) A (Builtin.SmallTypes.nextOf (.ref z)) Q E s:=by
 have ty:=Z.ty;obtain⟨⟨f0,f,hz,hf⟩,hI,⟨a,b,hO⟩,j1,j2⟩:=Z;unfold Builtin.SmallTypes.nextOf;refine uY (wpAny_callSpecial?_slot (name:=uX "__next__") ty F.slot_zip_next (wpAny_call_entry F.slot_zip_next ty F.entry_zip_next ?_ (F.args_zip_next_1 _)));rcases hf with rfl|⟨T,rfl⟩
 ·exact zk5 hh D hz (fun q=>ze6 hz q) hI hO j1 j2 L1 L2 he q
 ·cases hT:s.heap.get? T with
  |none=>exact zk5 hh D hz (fun q=>ze5 hz hT q) hI hO j1 j2 L1 L2 he q
  |some ot=>exact zm8 hh D hz hT hI hO j1 j2 L1 L2 he q
end
variable{z e i1 i2 l1 l2:jC}{Q:jA->jB->Prop}{i:Nat}{xs ys:Array jA}{x y old:jA}{K:tT}{elts:List jE}{pos:Pos}
theorem zdg(z TI TO:jC)(f0:jA):Meets (Builtin.«enumerate.__new__» ⟨[.type "enumerate",.ref z],[]⟩) (fun _ R s=>IsZip s.heap z TI TO f0 /\
   R (.ok (.ret (.ref s.heap.objs.size))) {s with heap:=s.heap.push {cls:=.type "enumerate",data:=.fields #[.none,.bool false,.ref z,rawInt 0,.none,.none]}}):=
 .of_wp fun prog w A R s h=>by
  obtain⟨hp,g,d,tk,os⟩:=s;obtain⟨hl,h⟩:=h;have hsub:=sub_enumerate
  wp_walk using AutoSeq1.wpAny_loadPart' hl
  refine wpAny_stack_any fun st=>uZ ?_
  split
  ·rename_i c _ _ _ _ _
   cases (c==Value.type "enumerate")
   ·wp_walk using AutoSeq1.wpAny_loadPart' hl,wpAny_pyIter_zip hl
    exact⟨_,rfl,h⟩
   ·wp_walk using AutoSeq1.wpAny_loadPart' hl,wpAny_pyIter_zip hl
    exact⟨_,rfl,h⟩
  ·wp_walk using AutoSeq1.wpAny_loadPart' hl,wpAny_pyIter_zip hl
   exact⟨_,rfl,h⟩
section
variable{prog:jG}{w:jH}{A:jI}{E:jA->jB->Prop}{s:jB}
theorem zej{TI TO:jC}{f0:jA}(hz:IsZip s.heap z TI TO f0)
  (h:∀h',IsEnum h' s.heap.objs.size z 0 .none->h'.objs.size=s.heap.objs.size+1->(∀b o,s.heap.get? b=some o->h'.get? b=some o)->Q (.ref s.heap.objs.size) {s with heap:=h'}):
  wpAny (model prog w) A (call (.type "enumerate") [.ref z]) Q E s:=by
 refine callType_new F.called_enumerate (by decide) (F.typeCall_enumerate_1 _) (F.newCall_enumerate_1 _) (fun obj=>F.args_object_init_2 obj _) F.entry_enumerate_new (zdg z TI TO f0) ⟨hz,?_⟩;show _/\_;have he:IsEnum (s.heap.push {cls:=.type "enumerate",data:=.fields #[.none,.bool false,.ref z,rawInt 0,.none,.none]}) s.heap.objs.size z 0 .none:=tF _ rfl;exact⟨⟨_,he,rfl⟩,h _ he (Heap.size_push ..) fun b o x=>tD _ x⟩
theorem zj5{TI TO:jC}(D:ZipApart z TI TO i1 i2 l1 l2)(ne:∀c∈[z,TI,TO,i1,i2,l1,l2],e≠c)(he:IsEnum s.heap e z i old)(Z:ZS s.heap z TI TO i1 i2 l1 l2 i)
  (L1:s.heap.IsList l1 xs) (L2:s.heap.IsList l2 ys) (e1:xs[i]?=some x) (e2:ys[i]?=some y)
  (q:∀h' tk,IsEnumOut h' e z ((i:Int)+1) (.ref s.heap.objs.size) (s.heap.objs.size+1)->ZS h' z TI TO i1 i2 l1 l2 (i+1)->IsPair h' s.heap.objs.size x y->
   h'.get? (s.heap.objs.size+1)=some {cls:=.type "tuple",data:=.seq #[.int i tk,.ref s.heap.objs.size]}->
   (∀c o,c≠e->c≠z->c≠TO->c≠i1->c≠i2->s.heap.get? c=some o->h'.get? c=some o)->Q (.ref (s.heap.objs.size+1)) {s with heap:=h',toks:=tk+1}):
  wpAny (model prog w) A (Builtin.«enumerate.__next__» ⟨[.ref e],[]⟩) (fun fin s'=>∃v,fin=.done (.ret v)/\Q v s') E s:=by
 obtain⟨hp,g,d,tk,os⟩:=s;have nz:e≠z:=ne z (by simp);have nTI:e≠TI:=ne TI (by simp);have nTO:e≠TO:=ne TO (by simp);have n1:e≠i1:=ne i1 (by simp);have n2:e≠i2:=ne i2 (by simp);have elt:e<hp.objs.size:=tE he;have zkeep:∀{h h':jD}{k:Nat},(∀c o,c≠e->h.get? c=some o->h'.get? c=some o)->ZS h z TI TO i1 i2 l1 l2 k->ZS h' z TI TO i1 i2 l1 l2 k:=fun kk Z=>by
  obtain⟨⟨f0,f,a1,a2⟩,b,⟨c,c',d⟩,j1,j2⟩:=Z;exact⟨⟨f0,f,kk _ _ nz.symm a1,a2⟩,kk _ _ nTI.symm b,⟨c,c',kk _ _ nTO.symm d⟩,j1.at fun o q=>kk _ o n1.symm q,j2.at fun o q=>kk _ o n2.symm q⟩
 show wpAny _ _ (field (.ref e) 2>>=_) _ _ _;refine uY (wpAny_field he rfl (x:=.ref z) rfl ?_);refine uY (zlU D Z L1 L2 e1 e2 fun ha Za Ta sa ka=>?_);have Ta:IsPair ha hp.objs.size x y:=Ta;have sa:ha.objs.size=hp.objs.size+1:=sa;have ka:∀c o,c≠z->c≠TO->c≠i1->c≠i2->hp.get? c=some o->ha.get? c=some o:=ka;have ea:IsEnum ha e z i old:=ka _ _ nz nTO n1 n2 he;show wpAny _ _ (field (.ref e) 3>>=_) _ _ ⟨ha,g,d,tk,os⟩;refine uY (wpAny_field ea rfl (x:=rawInt i) rfl ?_);show wpAny _ _ (field (.ref e) 4>>=_) _ _ ⟨ha,g,d,tk,os⟩;refine uY (wpAny_field ea rfl (x:=.none) rfl ?_);show wpAny _ _ (mkInt i>>=_) _ _ ⟨ha,g,d,tk,os⟩;refine uY (wpAny_mkInt ?_);show wpAny _ _ (setField (.ref e) 3 (rawInt ((i:Int)+1))>>=_) _ _ ⟨ha,g,d,tk+1,os⟩;refine uY (wpAny_setField_rec ea (by simp) fun hb eb sb=>?_);have sb:Heap.SameBut e ha hb:=sb;have eb:IsEnum hb e z ((i:Int)+1) old:=eb;show wpAny _ _ (setField (.ref e) 4 .none>>=_) _ _ ⟨hb,g,d,tk+1,os⟩;refine uY (wpAny_setField_rec eb (by simp) fun hc ec sc=>?_);have sc:Heap.SameBut e hb hc:=sc;have ec:IsEnum hc e z ((i:Int)+1) old:=ec;show wpAny _ _ (newTuple [.int i tk,.ref hp.objs.size]>>=_) _ _ ⟨hc,g,d,tk+1,os⟩;refine uY (wpAny_newTuple ?_);have szc:hc.objs.size=hp.objs.size+1:=by rw[sc.1,sb.1,sa]
 have ed:IsEnum (hc.push {cls:=.type "tuple",data:=.seq #[.int i tk,.ref hp.objs.size]}) e z ((i:Int)+1) old:=tD _ ec;have td:(hc.push {cls:=.type "tuple",data:=.seq #[.int i tk,.ref hp.objs.size]}).get? (hp.objs.size+1)=some {cls:=.type "tuple",data:=.seq #[.int i tk,.ref hp.objs.size]}:=by rw[←szc];exact tF _ rfl
 have kd:∀c o,c≠e->ha.get? c=some o->(hc.push {cls:=.type "tuple",data:=.seq #[.int i tk,.ref hp.objs.size]}).get? c=some o:=fun c o n x=>tD _ (sc.extBut _ _ n (sb.extBut _ _ n x));generalize hc.push {cls:=.type "tuple",data:=.seq #[.int i tk,.ref hp.objs.size]}=hd at ed td kd;show wpAny _ _ (Builtin.SmallTypes.ownedTupleIsFree (.ref e)>>=_) _ _ ⟨hd,g,d,tk+1,os⟩;rw[szc];refine uY ?_;unfold Builtin.SmallTypes.ownedTupleIsFree;refine uY (wpAny_field ed rfl (x:=.none) rfl (uZ ?_));simp only[if_true];refine uY (wpAny_rule ?_);refine uY (wpAny_field ed rfl (x:=old) rfl ?_);refine uY (wpAny_setField_rec ed (by simp) fun hE eE sE=>?_);have sE:Heap.SameBut e hd hE:=sE;have eE:IsEnum hE e z ((i:Int)+1) (.ref hp.objs.size):=eE;show wpAny _ _ (Builtin.SmallTypes.ownedTupleHandOut (.ref e) (.ref (hp.objs.size+1))>>=_) _ _ ⟨hE,g,d,tk+1,os⟩;refine uY ?_;unfold Builtin.SmallTypes.ownedTupleHandOut;refine uY (wpAny_setField_rec eE (by simp) fun hF eF sF=>?_);have sF:Heap.SameBut e hE hF:=sF;have eF:IsEnumOut hF e z ((i:Int)+1) (.ref hp.objs.size) (hp.objs.size+1):=eF;refine wpAny_setField_rec eF (by simp) fun hG eG sG=>?_;have sG:Heap.SameBut e hF hG:=sG;have eG:IsEnumOut hG e z ((i:Int)+1) (.ref hp.objs.size) (hp.objs.size+1):=eG;have up:∀c o,c≠e->hd.get? c=some o->hG.get? c=some o:=fun c o n x=>sG.extBut _ _ n (sF.extBut _ _ n (sE.extBut _ _ n x));refine uY (wpAny_letGo (uZ ⟨_,rfl,q hG tk eG (zkeep (fun c o n x=>up c o n (kd c o n x)) Za) (up _ _ (xE elt) (kd _ _ (xE elt) Ta)) (up _ _ (xE (vS elt)) td) fun c o c0 c1 c2 c3 c4 x=>up c o c0 (kd c o c0 (ka c o c1 c2 c3 c4 x))⟩))
theorem zj6{TI TO:jC}{Q:Option jA->jB->Prop}(D:ZipApart z TI TO i1 i2 l1 l2)(ne:∀c∈[z,TI,TO,i1,i2,l1,l2],e≠c)(he:IsEnum s.heap e z i old)(Z:ZS s.heap z TI TO i1 i2 l1 l2 i)
  (L1:s.heap.IsList l1 xs) (L2:s.heap.IsList l2 ys) (e1:xs[i]?=some x) (e2:ys[i]?=some y)
  (q:∀h' tk,IsEnumOut h' e z ((i:Int)+1) (.ref s.heap.objs.size) (s.heap.objs.size+1)->ZS h' z TI TO i1 i2 l1 l2 (i+1)->IsPair h' s.heap.objs.size x y->
   h'.get? (s.heap.objs.size+1)=some {cls:=.type "tuple",data:=.seq #[.int i tk,.ref s.heap.objs.size]}->
   (∀c o,c≠e->c≠z->c≠TO->c≠i1->c≠i2->s.heap.get? c=some o->h'.get? c=some o)->Q (some (.ref (s.heap.objs.size+1))) {s with heap:=h',toks:=tk+1}):
  wpAny (model prog w) A (pyNext (.ref e)) Q E s:=by
 have hT:s.TypeIs (.ref e) "enumerate":=⟨_,he,rfl⟩;unfold pyNext;exact uY (wpAny_attempt (wpAny_callSpecial?_slot (name:=uX "__next__") hT F.slot_enumerate_next (wpAny_call_entry F.slot_enumerate_next hT F.entry_enumerate_next (zj5 D ne he Z L1 L2 e1 e2 fun h' tk a b c d k=>uZ (q h' tk a b c d k)) (F.args_enumerate_next_1 _))))
theorem zlV{TI TO:jC}{Q:Option jA->jB->Prop}(hh:A.handled=none)(D:ZipApart z TI TO i1 i2 l1 l2)(he:IsEnum s.heap e z i old)(Z:ZS s.heap z TI TO i1 i2 l1 l2 i)
  (L1:s.heap.IsList l1 xs) (L2:s.heap.IsList l2 ys) (hn:xs[i]?=none\/ys[i]?=none)
  (q:∀h',(∀c o,c≠z->c≠TO->c≠i1->c≠i2->s.heap.get? c=some o->h'.get? c=some o)->Q none {s with heap:=h'}):wpAny (model prog w) A (pyNext (.ref e)) Q E s:=by
 have hT:s.TypeIs (.ref e) "enumerate":=⟨_,he,rfl⟩;unfold pyNext;refine uY (wpAny_attempt (wpAny_callSpecial?_slot (name:=uX "__next__") hT F.slot_enumerate_next (wpAny_call_entry F.slot_enumerate_next hT F.entry_enumerate_next ?_ (F.args_enumerate_next_1 _))));show wpAny _ _ (field (.ref e) 2>>=_) _ _ _;refine uY (wpAny_field he rfl (x:=.ref z) rfl ?_);refine uY (zm9 (by simpa using hh) D Z L1 L2 hn fun h' x k ex=>?_);obtain⟨o,ho,hc⟩:=ex;exact uY (wpAny_isInstance (T:="StopIteration") (b:=true) ⟨o,ho,hc⟩ isSubtype_stop (uZ (q _ k)))
end
def Itez(K:tT)(a b:jC):It:=
 ⟨fun i H=>∃xs ys x y,SqL K H a xs/\SqL K H b ys/\xs[i]?=some x/\ys[i]?=some y,
  fun i H v H'=>∃(t u:jC)(x y:V),H t=none/\H u=none/\t≠u/\v=.ref u/\(∀xs,SqL K H a xs->xs[i]?=some x)/\(∀ys,SqL K H b ys->ys[i]?=some y)/\H'=upd (upd H t (.tup [x,y])) u (.tup [.int i,.ref t]),
  fun i H=>∃xs ys,SqL K H a xs/\SqL K H b ys/\(xs.length<=i\/ys.length<=i)⟩
theorem zj7{P:jG}{w:jH}{kk:Nat}(a b e z TI TO i1 i2:jC)(D:ZipApart z TI TO i1 i2 a b)(ne:∀c∈[z,TI,TO,i1,i2,a,b],e≠c):
  Turn P w K (.Tuple elts kk pos) (Itez K a b) [e,z,TI,TO,i1,i2] e (fun i h=>(∃old,IsEnum h e z i old)/\ZS h z TI TO i1 i2 a b i) where
 mem:=by simp
 obj:=fun i h st c hc=>by
  obtain⟨⟨old,he⟩,⟨f0,f,hz,_⟩,hI,⟨x,y,hO⟩,⟨o1,g1,_,d1⟩,⟨o2,g2,_,d2⟩⟩:=st;have hc:c=e\/c=z\/c=TI\/c=TO\/c=i1\/c=i2:=by simpa using hc
  rcases hc with rfl|rfl|rfl|rfl|rfl|rfl
  ·exact⟨_,he,fun v z=>nomatch (show Data.fields _=Data.cell v from z)⟩
  ·exact⟨_,hz,fun v z=>nomatch (show Data.fields _=Data.cell v from z)⟩
  ·exact⟨_,hI,fun v z=>nomatch (show Data.seq _ _=Data.cell v from z)⟩
  ·exact⟨_,hO,fun v z=>nomatch (show Data.seq _ _=Data.cell v from z)⟩
  ·exact⟨_,g1,fun v z=>by rw[d1] at z;cases z⟩
  ·exact⟨_,g2,fun v z=>by rw[d2] at z;cases z⟩
 keep:=fun i h h' st kk=>by
  obtain⟨⟨old,he⟩,⟨f0,f,hz,hf⟩,hI,⟨x,y,hO⟩,j1,j2⟩:=st;exact⟨⟨old,kk e (by simp) _ he⟩,⟨f0,f,kk z (by simp) _ hz,hf⟩,kk TI (by simp) _ hI,⟨x,y,kk TO (by simp) _ hO⟩,j1.at fun o q=>kk i1 (by simp) o q,j2.at fun o q=>kk i2 (by simp) o q⟩
 item:=by
  intro X hP hw hK hc i pins s σ H E I hf st hg;subst hP hw hK;obtain⟨⟨old,he⟩,Z⟩:=st;obtain⟨xs,ys,x,y,hq1,hq2,hx,hy⟩:=hg;obtain⟨as,ra,pa,_⟩:=I.list hq1;obtain⟨bs,rb,pb,_⟩:=I.list hq2;obtain⟨u,hu,ru⟩:=ra.get hx;obtain⟨v,hv,rv⟩:=rb.get hy;have nz:e≠z:=ne z (by simp);have nTI:e≠TI:=ne TI (by simp);have nTO:e≠TO:=ne TO (by simp);have n1:e≠i1:=ne i1 (by simp);have n2:e≠i2:=ne i2 (by simp);have old':∀c∈[e,z,TI,TO,i1,i2],c<s.heap.objs.size:=fun c hc=>by
   obtain⟨⟨f0,f,hz,_⟩,hI,⟨x,y,hO⟩,⟨o1,g1,_⟩,⟨o2,g2,_⟩⟩:=Z;have hc:c=e\/c=z\/c=TI\/c=TO\/c=i1\/c=i2:=by simpa using hc
   rcases hc with rfl|rfl|rfl|rfl|rfl|rfl
   ·exact tE he
   ·exact tE hz
   ·exact tE hI
   ·exact tE hO
   ·exact tE g1
   ·exact tE g2
  have fr0:H s.heap.objs.size=none:=I.hok.fresh (yG _);have fr1:H (s.heap.objs.size+1)=none:=I.hok.fresh (uK _);refine zj6 D ne he Z pa.isList pb.isList (by simpa using hu) (by simpa using hv) fun h' tk ho Z' hp hT hk=>⟨_,rfl,wpAny_letOwnedTupleGo_enum ho fun h2 he2 hs2=>?_⟩;have I1:Inv X pins σ (upd H s.heap.objs.size (.tup [x,y])) {s with heap:=s.heap.push {cls:=.type "tuple",data:=.seq #[u,v]},toks:=tk}:=
   I.laid (t':=tk) (fun b u e=>tD _ e) (yG _) ⟨zl2,[u,v],.cons ru (.cons rv .nil),⟨_,tF _ rfl,rfl,_,rfl⟩⟩
  have I2:=I1.laid (t':=tk) (h':=(s.heap.push {cls:=.type "tuple",data:=.seq #[u,v]}).push {cls:=.type "tuple",data:=.seq #[.int i tk,.ref s.heap.objs.size]}) (o:=.tup [.int i,.ref s.heap.objs.size]) (a:=(s.heap.push {cls:=.type "tuple",data:=.seq #[u,v]}).objs.size) (fun b u e=>tD _ e) (yG _) ⟨zl2,[.int i tk,.ref s.heap.objs.size],.cons ⟨_,rfl⟩ (.cons rfl .nil),⟨_,tF _ rfl,rfl,_,rfl⟩⟩;have esz:(s.heap.push {cls:=.type "tuple",data:=.seq #[u,v]}).objs.size=s.heap.objs.size+1:=Heap.size_push ..;rw[esz] at I2;have nn:∀c∈[e,z,TI,TO,i1,i2],upd (upd H s.heap.objs.size (.tup [x,y])) (s.heap.objs.size+1) (.tup [.int i,.ref s.heap.objs.size]) c=none:=fun c hc=>by
   have:=old' c hc;rw[zH (xC (vS this)),zH (xC this)];exact (hf c hc).1
  have I3:Inv X pins σ (upd (upd H s.heap.objs.size (.tup [x,y])) (s.heap.objs.size+1) (.tup [.int i,.ref s.heap.objs.size])) {s with heap:=h2,toks:=tk+1}:=by
   refine Inv.turnedL (s:={s with heap:=(s.heap.push {cls:=.type "tuple",data:=.seq #[u,v]}).push {cls:=.type "tuple",data:=.seq #[.int i tk,.ref s.heap.objs.size]},toks:=tk}) (h':=h2) (t':=tk+1) (fp:=[e,z,TI,TO,i1,i2]) I2 (fun c o hc ec=>?_) (fun c hc=>?_)
   ·have hce:c≠e:=fun z=>hc (by simp[z])
    refine (hs2.2 c hce).trans ?_;have ec:((s.heap.push {cls:=.type "tuple",data:=.seq #[u,v]}).push {cls:=.type "tuple",data:=.seq #[.int i tk,.ref s.heap.objs.size]}).get? c=some o:=ec;rcases Heap.get?_push_cases ec with⟨r,ro⟩|r
    ·rw[r,esz,ro]
     exact hT
    ·rcases Heap.get?_push_cases r with⟨r,ro⟩|r
     ·rw[r,ro]
      exact hp
     ·exact hk c o hce (fun z=>hc (by simp[z])) (fun z=>hc (by simp[z])) (fun z=>hc (by simp[z])) (fun z=>hc (by simp[z])) r
   ·obtain⟨f0,f1,f2,f3,f4,f5⟩:=hf c hc
    exact⟨nn c hc,f1,f2,f3,f4,f5⟩
  refine⟨.ref (s.heap.objs.size+1),_,I3,rfl,⟨s.heap.objs.size,s.heap.objs.size+1,x,y,fr0,fr1,(Nat.succ_ne_self _).symm,rfl,fun zs hz=>by rw[I.list_inj hz hq1];exact hx,fun zs hz=>by rw[I.list_inj hz hq2];exact hy,rfl⟩,⟨⟨_,by simpa using he2⟩,?_⟩,nn⟩;obtain⟨⟨f0,f,a1,a2⟩,b,⟨c,c',d⟩,j1,j2⟩:=Z';have kk:∀c o,c≠e->h'.get? c=some o->h2.get? c=some o:=fun c o n q=>(hs2.2 c n).trans q;exact⟨⟨f0,f,kk _ _ nz.symm a1,a2⟩,kk _ _ nTI.symm b,⟨c,c',kk _ _ nTO.symm d⟩,j1.at fun o q=>kk _ o n1.symm q,j2.at fun o q=>kk _ o n2.symm q⟩
 done:=by
  intro X hP hw hK hc i pins s σ H E I hf st hg;subst hP hw hK;obtain⟨⟨old,he⟩,Z⟩:=st;obtain⟨xs,ys,hq1,hq2,hx⟩:=hg;obtain⟨as,ra,pa,_⟩:=I.list hq1;obtain⟨bs,rb,pb,_⟩:=I.list hq2;have l1:=ra.length;have l2:=rb.length;refine zlV (I.ok.hd hc) D he Z pa.isList pb.isList ?_ fun h' k=>⟨rfl,?_⟩
  ·rcases hx with h|h
   ·exact .inl (by simp;lia)
   ·exact .inr (by simp;lia)
  ·exact I.turnedL (t':=s.toks) (fp:=[e,z,TI,TO,i1,i2]) (fun c o hc ec=>k c o (fun z=>hc (by simp[z])) (fun z=>hc (by simp[z])) (fun z=>hc (by simp[z])) (fun z=>hc (by simp[z])) ec) hf
 self:=fun _ _ _ _ _ st h=>by
  obtain⟨⟨old,he⟩,_⟩:=st;exact wpAny_pyIter_enum he h
inductive i_iEnZ(K:tT)(R:It->Hp->Prop)(vs:List V)(H1:Hp):Prop
 |mk (a b:jC) (xs ys:List V) (_:vs=[.ref a,.ref b]) (_:SqL K H1 a xs) (_:SqL K H1 b ys) (_:R (Itez K a b) H1)
def iEnZ(K:tT)(ta:TA):TI:=fun σ H R=>ta σ H fun vs H1=>i_iEnZ K R vs H1
theorem ziM{X:Cx}{k:Nat}{ps:Pos}{a b:jE}{ta:TA}{p p2 pos2:Pos}(hg:Gl X "zip")(hm:X.mg "zip"=none)(hgt:Gl X "enumerate")(hmt:X.mg "enumerate"=none)(ha:PA X [a,b] ta)(hs:tK [a,b] X.env=(false,eval a X.env)::tK [b] X.env:=by rfl)
  (hpl:(backTo pos2 (tK [b] X.env)).any (·.1)=false:=by rfl) (hs2:tK [.Call (.Name "zip" p2) [a,b] [] pos2] X.env=(false,eval (.Call (.Name "zip" p2) [a,b] [] pos2) X.env)::tK [] X.env:=by rfl) (hpl2:(backTo pos (tK [] X.env)).any (·.1)=false:=by rfl):
  PI X (.Tuple elts k ps) (.Call (.Name "enumerate" p) [.Call (.Name "zip" p2) [a,b] [] pos2] [] pos) (iEnZ X.K ta):=by
 intro pins s σ H R I h;refine wpAny_Call_Name_kw (za4 I hgt hmt ze1 (PyProof.Rows.callWith_type1 ?_ hs2 hpl2));rw[hs2];show wpAny _ _ (spliced ((false,eval (.Call (.Name "zip" p2) [a,b] [] pos2) X.env)::backTo pos (tK [] X.env))) _ _ s;refine Calls.spliced_cons ?_;refine wpAny_Call_Name_kw (za4 I hg hm zef (PyProof.Rows.callWith_type1 (thn (ha pos2 pins s σ H _ I h) fun us s1 ⟨vs,H1,I1,r1,q1⟩=>?_) hs hpl));obtain⟨c,d,xs,ys,e,q2,q3,q⟩:=q1;subst e;obtain⟨u,u',rfl,rx,ry⟩:=zfA r1;cases rx;cases ry;obtain⟨as,r2,p1,hz1⟩:=I1.list q2;obtain⟨bs,r3,p2,hz2⟩:=I1.list q3;obtain⟨oc,_,gc,_⟩:=id p1;obtain⟨od,_,gd,_⟩:=id p2;have lc:=tE gc;have ld:=tE gd;refine call_zip_2 p1.isList p2.isList fun h' z1 z2 z3 z4 z5 z6 hk=>?_;refine Calls.spliced_nil ?_;refine zej (s:={s1 with heap:=h'}) z1 fun h2 he hsz hk2=>?_;have he:IsEnum h2 h'.objs.size (s1.heap.objs.size+4) 0 .none:=he;have hk2:∀b o,h'.get? b=some o->h2.get? b=some o:=hk2;have I2:Inv X pins σ H1 {s1 with heap:=h2,toks:=s1.toks}:=I1.kept (t':=s1.toks) fun b o e=>hk2 b o (hk b o e);refine wpAny_pyIter_enum he ?_;have fp:∀c∈[h'.objs.size,s1.heap.objs.size+4,s1.heap.objs.size+2,s1.heap.objs.size+3,s1.heap.objs.size,s1.heap.objs.size+1],FpOk X pins H1 c:=fun e he=>by
  have hle:s1.heap.objs.size<=e:=by
   have hc:e=h'.objs.size\/e=s1.heap.objs.size+4\/e=s1.heap.objs.size+2\/e=s1.heap.objs.size+3\/e=s1.heap.objs.size\/e=s1.heap.objs.size+1:=by simpa using he
   rcases hc with r|r|r|r|r|r<;>rw[r]<;>first|exact yG _|exact yY _ _|(rw[z6];exact yY _ _)
  exact I1.fpOk hle (I1.hok.fresh hle)
 refine⟨h'.objs.size,[h'.objs.size,s1.heap.objs.size+4,s1.heap.objs.size+2,s1.heap.objs.size+3,s1.heap.objs.size,s1.heap.objs.size+1],_,_,H1,rfl,I2,zj7 c d _ _ _ _ _ _ (zipApart_new lc ld) (fun x hx=>?_),⟨⟨_,he⟩,⟨_,_,hk2 _ _ z1,.inl rfl⟩,hk2 _ _ z2,⟨_,_,hk2 _ _ z3⟩,z4.at fun o q=>hk2 _ o q,z5.at fun o q=>hk2 _ o q⟩,fp,q⟩;have hc:x=s1.heap.objs.size+4\/x=s1.heap.objs.size+2\/x=s1.heap.objs.size+3\/x=s1.heap.objs.size\/x=s1.heap.objs.size+1\/x=c\/x=d:=by simpa using hx
 rw[z6];rcases hc with r|r|r|r|r|r|r<;>rw[r]
 ·exact xE (wW (by decide) _)
 ·exact xE (wW (by decide) _)
 ·exact xE (wW (by decide) _)
 ·exact xE (Nat.lt_add_of_pos_right (by decide))
 ·exact xE (wW (by decide) _)
 ·exact xE (yU lc (yY _ _))
 ·exact xE (yU ld (yY _ _))
theorem zlW{a b:jC}{xs ys:List V}{g:TG}{tb:TS}{D:Ends}{σ:St}{H:Hp}(Pv:Nat->St->Hp->Prop)(h0:Pv 0 σ H)(hl:∀i σ H,i<=min xs.length ys.length->Pv i σ H->SqL K H a xs/\SqL K H b ys)
  (hs:∀i x y t u σ H,xs[i]?=some x->ys[i]?=some y->H t=none->H u=none->t≠u->Pv i σ H->g (.ref u) σ (upd (upd H t (.tup [x,y])) u (.tup [.int i,.ref t])) fun σ2 H2=>tb {D with nx:=Pv (i+1),ct:=Pv (i+1),bk:=D.nx} σ2 H2) (hd:∀σ H,Pv (min xs.length ys.length) σ H->D.nx σ H):
  ∃W:Nat->Nat->St->Hp->Prop,(∃m,W 0 m σ H)/\∀i m σ H,W i m σ H->
   ((Itez K a b).stop i H/\D.nx σ H)\/((Itez K a b).go i H/\∃N:St->Hp->Prop,(∀σ' H',N σ' H'->∃m',m'<m/\W (i+1) m' σ' H')/\∀x H',(Itez K a b).yld i H x H'->g x σ H' fun σ2 H2=>tb {D with nx:=N,ct:=N,bk:=D.nx} σ2 H2):=by
 refine⟨fun i m σ H=>m=min xs.length ys.length-i/\i<=min xs.length ys.length/\Pv i σ H,⟨min xs.length ys.length,(Nat.sub_zero _).symm,yJ _,h0⟩,?_⟩;rintro i m σ H ⟨rfl,hi,p⟩;obtain⟨q1,q2⟩:=hl i σ H hi p
 by_cases hlt:i<min xs.length ys.length
 ·have h1:i<xs.length:=by lia
  have h2:i<ys.length:=by lia
  refine .inr ⟨⟨xs,ys,xs[i],ys[i],q1,q2,by simp[h1],by simp[h2]⟩,Pv (i+1),fun σ' H' p'=>⟨min xs.length ys.length-(i+1),by lia,rfl,hlt,p'⟩,fun x H' y=>?_⟩;obtain⟨t,u,x,y,ht,hu,ntu,rfl,hx,hy,rfl⟩:=y;exact hs i x y t u σ H (hx xs q1) (hy ys q2) ht hu ntu p
 ·have e:i=min xs.length ys.length:=by lia
  subst e;exact .inl ⟨⟨xs,ys,q1,q2,by lia⟩,hd σ H p⟩
end L2
namespace D
open PySem L2
theorem ziM{X:Cx}{elts:List jE}{k:Nat}{ps:Pos}{a b:jE}{ta:TA}{p p2 pos pos2:Pos}(hg:Gl X "zip")(hm:X.mg "zip"=none)(hgt:Gl X "enumerate")(hmt:X.mg "enumerate"=none)(ha:QA X [a,b] ta)(hs:tK [a,b] X.env=(false,eval a X.env)::tK [b] X.env:=by rfl)
  (hpl:(backTo pos2 (tK [b] X.env)).any (·.1)=false:=by rfl) (hs2:tK [.Call (.Name "zip" p2) [a,b] [] pos2] X.env=(false,eval (.Call (.Name "zip" p2) [a,b] [] pos2) X.env)::tK [] X.env:=by rfl) (hpl2:(backTo pos (tK [] X.env)).any (·.1)=false:=by rfl):
  QI X (.Tuple elts k ps) (.Call (.Name "enumerate" p) [.Call (.Name "zip" p2) [a,b] [] pos2] [] pos) (iEnZ X.K ta):=⟨L2.ziM hg hm hgt hmt ha.un hs hpl hs2 hpl2⟩
variable{H:Hp}{us:List V}{x:W}{a b:Int}{ws:List W}
inductive Wd where
 |add|sub|mul|div|less|same|join|list|item|count|figs
noncomputable def zdh:W:=.lst [.txt "wrong",.txt "kind",.txt ""]
noncomputable def zfT:W:=.lst [.txt "wrong",.txt "nought",.txt ""]
noncomputable def zk6:W:=.lst [.txt "wrong",.txt "place",.txt ""]
noncomputable def zgB(b:Bool):W:=.lst [.txt "made",.num (if b then 1 else 0)]
def two(f:Int->Int->W):List W->W
 |[.num a,.num b]=>f a b
 |_=>zdh
def recW:Wd->List W->W
 |.add,ws=>two (fun a b=>zad (.num (a+b))) ws
 |.sub,ws=>two (fun a b=>zad (.num (a-b))) ws
 |.mul,ws=>two (fun a b=>zad (.num (a*b))) ws
 |.div,ws=>two (fun a b=>if b=0 then zfT else zad (.num (a.fdiv b))) ws
 |.less,ws=>two (fun a b=>zgB (decide (a<b))) ws
 |.figs,[.num a]=>zad (.txt (uX (toString a)))
 |.figs,_=>zdh
 |.same,[x,y]=>zgB (eqW x y)
 |.same,_=>zdh
 |.join,[.txt x,.txt y]=>zad (.txt (x++y))
 |.join,[.lst xs,.lst ys]=>zad (.lst (xs++ys))
 |.join,_=>zdh
 |.list,ws=>zad (.lst ws)
 |.item,[.lst xs,.num i]=>if 0<=i/\i<(xs.length:Int) then zad (xs.getD i.toNat (.num 0)) else zk6
 |.item,_=>zdh
 |.count,[.txt x]=>zad (.num x.length)
 |.count,[.lst xs]=>zad (.num xs.length)
 |.count,_=>zdh
inductive spSame(vs:List V)(H:Hp)(Q:VK)(z3:XK):Prop
 |mk (u v:V) (x y:W) (_:vs=[u,v]) (_:RW H u x) (_:RW H v y) (_:x.depth<50) (_:Q (.bl (eqW x y)) H)
inductive spTruth(K:tT)(vs:List V)(H:Hp)(Q:VK)(z3:XK):Prop
 |mk (b:Bool) (_:vs=[.bl b]) (_:∀(u:V)(H':Hp),Same H H'->RM K H' u (zgB b)->Q u H')
inductive spDeed(K:tT)(pre:List W->Prop)(r:List W->W)(vs:List V)(H:Hp)(Q:VK)(z3:XK):Prop
 |mk (l:jC) (us:List V) (ws:List W) (_:vs=[.ref l]) (_:H l=some (.lst us)) (_:RWs H us ws) (_:Oks ws) (_:depths ws<=12) (_:ws.length<=8) (_:pre ws) (_:∀(u:V)(H':Hp),Same H H'->RM K H' u (r ws)->Q u H')
theorem rws1(h:RWs H us [x]):∃u,us=[u]/\RW H u x:=by
 match us,h.len with
 |[u],_=>exact⟨u,rfl,h.at' 0 u x rfl rfl⟩
theorem rws2{y:W}(h:RWs H us [x,y]):∃u v,us=[u,v]/\RW H u x/\RW H v y:=by
 match us,h.len with
 |[u,v],_=>exact⟨u,v,rfl,h.at' 0 u x rfl rfl,h.at' 1 v y rfl rfl⟩
theorem rwn2(h:RWs H us [.num a,.num b]):us=[.int a,.int b]:=by
 obtain⟨u,v,rfl,r1,r2⟩:=rws2 h;cases r1;cases r2
 rfl
theorem zlX(h:ws.length=2):∃x y,ws=[x,y]:=by
 match ws,h with
 |[x,y],_=>exact⟨x,y,rfl⟩
theorem zna(h:ws.length=1):∃x,ws=[x]:=by
 match ws,h with
 |[x],_=>exact⟨x,rfl⟩
theorem ok60(h:(W.num a).Ok):a.natAbs.log2<1920:=by
 have h1:-(10 ^ 60)<a:=h.1;have h2:a<10 ^ 60:=h.2
 by_cases h0:a.natAbs=0
 ·rw[h0];decide
 ·have:=(uU h0).mpr (show a.natAbs<2 ^ 200 by
   have:(10:Int) ^ 60<2 ^ 200:=by decide
   lia)
  lia
theorem ziN(h:a.natAbs.log2<1920):Builtin.Int.intBits a<=1920:=by
 unfold Builtin.Int.intBits
 split<;>lia
theorem znJ(h1:a.natAbs.log2<1920)(h2:b.natAbs.log2<1920):IntMulOk a b:=by
 unfold IntMulOk;have:=ziN h1;have:=ziN h2;have e:Builtin.Int.intTooBig (Builtin.Int.intBits a+Builtin.Int.intBits b)=false:=by
  unfold Builtin.Int.intTooBig;have hb:10000<=bitsLine:=by decide
  exact decide_eq_false (by lia)
 rw[e];simp
theorem ze7(a:Int):Signs (uX (toString a)):=fun c hc=>by
 by_cases h:c=45\/(48<=c/\c<=57)
 ·lia
 ·exact absurd hc (PyProof.Rows.int_text_free' c (by lia) a)
theorem zlY:FnScope ["one","other"] ["one","other"] (zq zig):=mkSc rfl (by decide +kernel)
theorem zlZ(F:Fun K "same" "same" zig f fd):qF P w K mg base k f fd qL13 (spSame):=by
 refine F.okQ zlY (by rintro _ _ _ _ ⟨_,_,_,_,rfl,_⟩;rfl) fun _ _ _ _ H vs Q E hr h=>?_;obtain⟨u,v,x,y,rfl,rx,ry,hd,q⟩:=h;refine⟨_,(zo (zt (zV (zmZ hr.units) (pv 0) (pv 1) (nomark _)))),?_⟩;exact⟨_,rfl,_,rfl,x,y,rx,ry,hd,q⟩
theorem zj8:FnScope ["is_so"] ["is_so"] (zq zfI):=mkSc rfl (by decide +kernel)
theorem zj9(F:Fun K "truth" "truth" zfI f fd):qF P w K mg base k f fd ["is_so"] (spTruth K):=by
 refine F.okQ zj8 (by rintro _ _ _ _ ⟨_,rfl,_⟩;rfl) fun _ _ _ _ H vs Q E hr h=>?_;obtain⟨b,rfl,q⟩:=h;refine⟨_,(zo (zt (zG (zc zr (zc (ZB (zR (pv 0)) zn zn) zi))))),?_⟩;refine⟨_,rfl,_,rfl,?_⟩;cases b with
 |true=>exact iteT ⟨zl2,fun a ha=>q _ _ (Sn ha) (RM.two (Sq zj) (.txt _) (.num _))⟩
 |false=>exact iteF ⟨zl2,fun a ha=>q _ _ (Sn ha) (RM.two (Sq zj) (.txt _) (.num _))⟩
theorem ziO:FnScope ["worths"] ["worths"] (zq zdV):=mkSc rfl (by decide +kernel)
theorem ziP(F:Fun K "summed" "summed" zdV f fd)(G_made:Have P w K mg base "made" k qL3 (spMade K 24)):qF P w K mg base k f fd qL1 (spDeed K (fun ws=>∃a b,ws=[.num a,.num b]) (recW .add)):=by
 refine F.okQ ziO (by rintro _ _ _ _ ⟨_,_,_,rfl,_⟩;rfl) fun _ _ _ _ H vs Q E hr h=>?_;obtain⟨l,us,ws,rfl,hl,hw,ok,hd,hn,⟨a,b,rfl⟩,q⟩:=h;have e:=rwn2 hw;subst e;refine⟨_,(zo (zt (zy G_made hr rfl (zc (zJ Zi (zF zD (pv 0) zn (fun _ _=>rfl)) (zF zD (pv 0) zn (fun _ _=>rfl))) zi)))),?_⟩;refine⟨_,rfl,l,_,0,_,rfl,rfl,Sl hl,rfl,_,rfl,l,_,1,_,rfl,rfl,Sl hl,rfl,_,_,rfl,rfl,?_⟩;exact⟨_,.num (a+b),rfl,.num _,trivial,(by show 0<24;decide),q⟩
theorem ze8:FnScope ["worths"] ["worths"] (zq zbj):=mkSc rfl (by decide +kernel)
theorem ze9(F:Fun K "differing" "differing" zbj f fd)(G_made:Have P w K mg base "made" k qL3 (spMade K 24)):qF P w K mg base k f fd qL1 (spDeed K (fun ws=>∃a b,ws=[.num a,.num b]) (recW .sub)):=by
 refine F.okQ ze8 (by rintro _ _ _ _ ⟨_,_,_,rfl,_⟩;rfl) fun _ _ _ _ H vs Q E hr h=>?_;obtain⟨l,us,ws,rfl,hl,hw,ok,hd,hn,⟨a,b,rfl⟩,q⟩:=h;have e:=rwn2 hw;subst e;refine⟨_,(zo (zt (zy G_made hr rfl (zc (zJ Zk (zF zD (pv 0) zn (fun _ _=>rfl)) (zF zD (pv 0) zn (fun _ _=>rfl))) zi)))),?_⟩;refine⟨_,rfl,l,_,0,_,rfl,rfl,Sl hl,rfl,_,rfl,l,_,1,_,rfl,rfl,Sl hl,rfl,_,_,rfl,rfl,?_⟩;exact⟨_,.num (a-b),rfl,.num _,trivial,(by show 0<24;decide),q⟩
theorem zek:FnScope ["worths"] ["worths"] (zq zaR):=mkSc rfl (by decide +kernel)
theorem zel(F:Fun K "multiplied" "multiplied" zaR f fd)(G_made:Have P w K mg base "made" k qL3 (spMade K 24)):qF P w K mg base k f fd qL1 (spDeed K (fun ws=>∃a b,ws=[.num a,.num b]) (recW .mul)):=by
 refine F.okQ zek (by rintro _ _ _ _ ⟨_,_,_,rfl,_⟩;rfl) fun _ _ _ _ H vs Q E hr h=>?_;obtain⟨l,us,ws,rfl,hl,hw,ok,hd,hn,⟨a,b,rfl⟩,q⟩:=h;have e:=rwn2 hw;subst e;refine⟨_,(zo (zt (zy G_made hr rfl (zc (zJ zlJ (zF zD (pv 0) zn (fun _ _=>rfl)) (zF zD (pv 0) zn (fun _ _=>rfl))) zi)))),?_⟩;refine⟨_,rfl,l,_,0,_,rfl,rfl,Sl hl,rfl,_,rfl,l,_,1,_,rfl,rfl,Sl hl,rfl,_,_,rfl,rfl,znJ (ok60 ok.1) (ok60 ok.2.1),?_⟩;exact⟨_,.num (a*b),rfl,.num _,trivial,(by show 0<24;decide),q⟩
theorem zhe:FnScope ["worths"] ["worths"] (zq zcG):=mkSc rfl (by decide +kernel)
theorem zhf(F:Fun K "divided" "divided" zcG f fd)(G_made:Have P w K mg base "made" k qL3 (spMade K 24)){g_NOUGHT:jC}(m_NOUGHT:mg "NOUGHT"=some (.ref g_NOUGHT))(t_NOUGHT:∀H:Hp,SqT K H g_NOUGHT [.str "wrong",.str "nought",.str ""]):qF P w K mg base k f fd qL1 (spDeed K (fun ws=>∃a b,ws=[.num a,.num b]) (recW .div)):=by
 refine F.okQ zhe (by rintro _ _ _ _ ⟨_,_,_,rfl,_⟩;rfl) fun _ _ _ _ H vs Q E hr h=>?_;obtain⟨l,us,ws,rfl,hl,hw,ok,hd,hn,⟨a,b,rfl⟩,q⟩:=h;have e:=rwn2 hw;subst e;refine⟨_,(zm (zN (zE zX (zF zD (pv 0) zn (fun _ _=>rfl)) zn (nomark _)) (zo (zt (Zf (v:=.ref g_NOUGHT) rfl m_NOUGHT rfl))) zA) (zo (zt (zy G_made hr rfl (zc (zJ ziD (zF zD (pv 0) zn (fun _ _=>rfl)) (zF zD (pv 0) zn (fun _ _=>rfl))) zi))))),nm2 ?_⟩;intros;refine⟨_,rfl,l,_,1,_,rfl,rfl,Sl hl,rfl,rfl,_,rfl,?_⟩;have er:recW .div [.num a,.num b]=if b=0 then zfT else zad (.num (a.fdiv b)):=rfl;rw[er] at q;refine ite2 (fun e=>?_) (fun e=>?_)
 ·have hb:b=0:=by simpa using of_decide_eq_true e
  rw[if_pos hb] at q;exact q _ _ (Sr _) (RM.three (t_NOUGHT H) (.txt _) (.txt _) (.txt _))
 ·have hb:b≠0:=fun z=>e (by rw[z];rfl)
  rw[if_neg hb] at q;refine⟨_,rfl,l,_,0,_,rfl,rfl,Sl hl,rfl,_,rfl,l,_,1,_,rfl,rfl,Sl hl,rfl,_,_,rfl,rfl,⟨hb,?_⟩,?_⟩
  ·have:=ok60 ok.2.1;lia
  ·exact⟨_,.num (a.fdiv b),rfl,.num _,trivial,(by show 0<24;decide),q⟩
theorem zfU:FnScope ["worths"] ["worths"] (zq zbT):=mkSc rfl (by decide +kernel)
theorem zfV(F:Fun K "lessened" "lessened" zbT f fd)(G_truth:Have P w K mg base "truth" k ["is_so"] (spTruth K)):qF P w K mg base k f fd qL1 (spDeed K (fun ws=>∃a b,ws=[.num a,.num b]) (recW .less)):=by
 refine F.okQ zfU (by rintro _ _ _ _ ⟨_,_,_,rfl,_⟩;rfl) fun _ _ _ _ H vs Q E hr h=>?_;obtain⟨l,us,ws,rfl,hl,hw,ok,hd,hn,⟨a,b,rfl⟩,q⟩:=h;have e:=rwn2 hw;subst e;refine⟨_,(zo (zt (zy G_truth hr rfl (zc (zV zfz (zF zD (pv 0) zn (fun _ _=>rfl)) (zF zD (pv 0) zn (fun _ _=>rfl)) (nomark _)) zi)))),?_⟩;refine⟨_,rfl,l,_,0,_,rfl,rfl,Sl hl,rfl,_,rfl,l,_,1,_,rfl,rfl,Sl hl,rfl,_,_,rfl,rfl,?_⟩;exact⟨_,rfl,q⟩
theorem zhg:FnScope ["worths"] ["worths"] (zq zcH):=mkSc rfl (by decide +kernel)
theorem zhh(F:Fun K "figured" "figured" zcH f fd)(G_made:Have P w K mg base "made" k qL3 (spMade K 24))(m_str:mg "str"=none):qF P w K mg base k f fd qL1 (spDeed K (fun ws=>∃a,ws=[.num a]) (recW .figs)):=by
 refine F.okQ zhg (by rintro _ _ _ _ ⟨_,_,_,rfl,_⟩;rfl) fun _ _ _ _ H vs Q E hr h=>?_;obtain⟨l,us,ws,rfl,hl,hw,ok,hd,hn,⟨a,rfl⟩,q⟩:=h;obtain⟨u,rfl,ru⟩:=rws1 hw;cases ru;refine⟨_,(zo (zt (zy G_made hr rfl (zc (zI zeF rfl m_str ZO (zc (zF zD (pv 0) zn (fun _ _=>rfl)) zi)) zi)))),?_⟩;refine⟨_,rfl,l,_,0,_,rfl,rfl,Sl hl,rfl,a,rfl,ok60 ok.1,?_⟩;refine⟨_,.txt (uX (toString a)),rfl,.txt _,⟨?_,ze7 a⟩,(by show 0<24;decide),q⟩;have:=PyProof.Rows.int_text_len_1921 (ok60 ok.1);lia
theorem zfW:FnScope ["worths"] ["worths"] (zq zbU):=mkSc rfl (by decide +kernel)
theorem zfX(F:Fun K "compared" "compared" zbU f fd)(G_truth:Have P w K mg base "truth" k ["is_so"] (spTruth K))(G_same:Have P w K mg base "same" k qL13 (spSame)):qF P w K mg base k f fd qL1 (spDeed K (fun ws=>ws.length=2) (recW .same)):=by
 refine F.okQ zfW (by rintro _ _ _ _ ⟨_,_,_,rfl,_⟩;rfl) fun _ _ _ _ H vs Q E hr h=>?_;obtain⟨l,us,ws,rfl,hl,hw,ok,hd,hn,h2,q⟩:=h;obtain⟨x,y,rfl⟩:=zlX h2;obtain⟨u,v,rfl,ru,rv⟩:=rws2 hw;have hd2:max x.depth (max y.depth 0)<=12:=hd;refine⟨_,(zo (zt (zy G_truth hr rfl (zc (zy G_same hr rfl (zc (zF zD (pv 0) zn (fun _ _=>rfl)) (zc (zF zD (pv 0) zn (fun _ _=>rfl)) zi))) zi)))),?_⟩;refine⟨_,rfl,l,_,0,_,rfl,rfl,Sl hl,rfl,_,rfl,l,_,1,_,rfl,rfl,Sl hl,rfl,u,v,x,y,rfl,ru,rv,by lia,?_⟩;exact⟨_,rfl,q⟩
theorem ziQ:FnScope ["worths"] ["worths"] (zq zdX):=mkSc rfl (by decide +kernel)
theorem ziR(F:Fun K "listed" "listed" zdX f fd)(G_made:Have P w K mg base "made" k qL3 (spMade K 24))(m_tuple:mg "tuple"=none):qF P w K mg base k f fd qL1 (spDeed K (fun _=>True) (recW .list)):=by
 refine F.okQ ziQ (by rintro _ _ _ _ ⟨_,_,_,rfl,_⟩;rfl) fun _ _ _ _ H vs Q E hr h=>?_;obtain⟨l,us,ws,rfl,hl,hw,ok,hd,hn,_,q⟩:=h;refine⟨_,(zo (zt (zy G_made hr rfl (zc (zI zP rfl m_tuple zM (zc (pv 0) zi)) zi)))),?_⟩;refine⟨_,rfl,l,us,rfl,.inl ⟨Sl hl,fun t ht=>?_⟩⟩;have s1:=Sn (o:=.tup us) ht;refine⟨_,.lst ws,rfl,.lst zj hw.len fun i v w a b=>(hw.at' i v w a b).mono (zx s1),⟨by lia,ths_of ws ok⟩,?_,fun u H' s2 r=>q u H' (s1.trans s2) r⟩;show 1+depths ws<24;lia
theorem zhi:FnScope ["worths"] ["worths"] (zq zcJ):=mkSc rfl (by decide +kernel)
theorem zhj(F:Fun K "counted" "counted" zcJ f fd)(G_made:Have P w K mg base "made" k qL3 (spMade K 24))(m_isi:mg "isinstance"=none)(m_len:mg "len"=none)(m_str:mg "str"=none)(m_tuple:mg "tuple"=none){g_KIND:jC}(m_KIND:mg "KIND"=some (.ref g_KIND))(t_KIND:∀H:Hp,SqT K H g_KIND [.str "wrong",.str "kind",.str ""]):qF P w K mg base k f fd qL1 (spDeed K (fun ws=>ws.length=1) (recW .count)):=by
 refine F.okQ zhi (by rintro _ _ _ _ ⟨_,_,_,rfl,_⟩;rfl) fun _ _ _ _ H vs Q E hr h=>?_;obtain⟨l,us,ws,rfl,hl,hw,ok,hd,hn,h1,q⟩:=h;obtain⟨x,rfl⟩:=zna h1;obtain⟨u,rfl,ru⟩:=rws1 hw;refine⟨_,(zo (zt (ZB (zR (zw ziE rfl m_isi zU (zc (zF zD (pv 0) zn (fun _ _=>rfl)) (zc (zG (zc (ZY rfl m_str ZO) (zc (ZY rfl m_tuple zM) zi))) zi)))) (zy G_made hr rfl (zc (zw zL rfl m_len tG (zc (zF zD (pv 0) zn (fun _ _=>rfl)) zi)) zi)) (Zf (v:=.ref g_KIND) rfl m_KIND rfl)))),?_⟩;refine⟨_,rfl,l,_,0,_,rfl,rfl,Sl hl,rfl,zl2,fun p hp=>?_⟩;have s1:=Sn (o:=.tup [.ty "str",.ty "tuple"]) hp;cases ru with
 |num i=>
  refine⟨_,_,p,_,_,_,_,rfl,.int i,zj,zdt,zcE,_,rfl,iteF (q _ _ s1 ?_)⟩;exact RM.three (t_KIND _) (.txt _) (.txt _) (.txt _)
 |txt z=>
  refine⟨_,_,p,_,_,_,_,rfl,.str z,zj,za7,zbC,_,rfl,iteT ?_⟩;have hz:z.length<=400:=ok.1.1;refine⟨_,rfl,l,_,0,_,rfl,rfl,Sl (s1 _ _ hl),rfl,_,_,rfl,⟨small (by lia),rfl⟩,?_⟩;exact⟨_,.num z.length,rfl,.num _,trivial,(by show 0<24;decide),fun u H' s2 r=>q u H' (s1.trans s2) r⟩
 | @lst a vs ws e ll at'=>
  refine⟨_,_,p,_,_,_,_,rfl,.tup (s1 _ _ e),zj,zds,zbB,_,rfl,iteT ?_⟩;refine⟨_,rfl,l,_,0,_,rfl,rfl,Sl (s1 _ _ hl),rfl,_,_,rfl,.inr ⟨_,Sq (s1 _ _ e),rfl⟩,?_⟩;rw[ll];exact⟨_,.num ws.length,rfl,.num _,trivial,(by show 0<24;decide),fun u H' s2 r=>q u H' (s1.trans s2) r⟩
end D
namespace L2
open PySem
theorem zl5{K:tT}{fr:List Nat}{j:Nat}{te:TE}{σ:St}{H:Hp}{Q:VK}{a:jC}{vs:List V}(outs:List V)(hσ:σ[j]?=some (some (.ref a)))(hS:SqL K H a vs)(hl:outs.length=vs.length)(hz:vs.length<=tI)
  (step:∀(i:Nat)(v y:V)(H1:Hp)(R:VK),vs[i]?=some v->outs[i]?=some y->Same H H1->(∀H2,Same H1 H2->R y H2)->te (some v::frees fr σ) H1 R)
  (fin:∀(H1:Hp)(D:jC),Same H H1->H1 D=none->Q (.ref D) (upd H1 D (.lst outs))):zcB fr (zhH K (tVar j)) (fun _ H Q=>Q true H) te σ H Q:=by
 refine⟨_,hσ,a,rfl,⟨vs,hS⟩,fun i m us H1=>i<=vs.length/\m=vs.length-i/\us=outs.take i/\Same H H1,⟨_,yJ _,rfl,by simp,Sr _⟩,fun i m us H1 hW=>?_⟩;obtain⟨hi,hm,hu,sm⟩:=hW;refine⟨by rw[hu,xA];lia,?_⟩
 by_cases hlt:i<vs.length
 ·refine .inr ⟨⟨vs,vs[i],sm.seq hS,yA hlt⟩,fun v H' hy=>?_⟩
  obtain⟨rfl,hv⟩:=hy;have hv:=hv vs (sm.seq hS);have hy:outs[i]?=some outs[i]:=yA (by lia);refine iteT ?_;refine step i v outs[i] H' _ hv hy sm fun H2 s2=>⟨vs.length-(i+1),by lia,by lia,rfl,?_,sm.trans s2⟩;rw[hu,Z8 hy]
 ·have e:i=vs.length:=by lia
  refine .inl ⟨⟨vs,sm.seq hS,by lia⟩,fun D hD=>?_⟩;have e2:us=outs:=by rw[hu,xG (by lia)]
  rw[e2];exact fin H1 D sm hD
end L2
namespace D
open PySem L2
variable{g_KIND:jC}
noncomputable def wdS:Wd->Str
 |.add=>"+"|.sub=>"-"|.mul=>"*"|.div=>"/"|.less=>"less"|.same=>"same"|.join=>"join"|.list=>"list"|.item=>"item"|.count=>"count"|.figs=>"figures"
def arity:Wd->Nat->Prop
 |.list,_=>True
 |.count,n=>n=1
 |.figs,n=>n=1
 |_,n=>n=2
inductive spReck(K:tT)(vs:List V)(H:Hp)(Q:VK)(z3:XK):Prop
 |mk (d:Wd) (l:jC) (us:List V) (ws:List W) (_:vs=[.str (wdS d),.ref l]) (_:H l=some (.lst us)) (_:RWs H us ws) (_:Oks ws) (_:depths ws<=12) (_:ws.length<=8) (_:arity d ws.length) (_:∀(u:V)(H':Hp),Same H H'->RM K H' u (recW d ws)->Q u H')
noncomputable def kvsN(f1 f2 f3 f4 f5 f6:jC):List (Key×V):=[(.inr "+",.ref f1),(.inr "-",.ref f2),(.inr "*",.ref f3),(.inr "/",.ref f4),(.inr "less",.ref f5),(.inr "figures",.ref f6)]
noncomputable def kvsO(f7 f8 f9 f10 f11:jC):List (Key×V):=[(.inr "same",.ref f7),(.inr "join",.ref f8),(.inr "list",.ref f9),(.inr "item",.ref f10),(.inr "count",.ref f11)]
noncomputable def Zw:W->Bool
 |.num _=>true
 |_=>false
theorem zfa(x:W):zkW x.toT=Zw x:=by cases x<;>rfl
theorem zbH(f:Int->Int->W):∀{ws:List W},ws.all Zw=false->two f ws=zdh
 |[],_=>rfl
 |[_],h=>by
  rename_i x;cases x<;>rfl
 |[x,y],h=>by
  cases x with
  |num a=>
   cases y with
   |num b=>simp[Zw] at h
   |txt z=>rfl
   |lst z=>rfl
  |txt z=>rfl
  |lst z=>rfl
 |x::y::z::r,h=>by cases x<;>cases y<;>rfl
theorem ziS:∀{ws:List W},ws.all Zw=true->ws.length=2->∃a b,ws=[.num a,.num b]
 |[x,y],h,_=>by
  cases x with
  |num a=>
   cases y with
   |num b=>exact⟨a,b,rfl⟩
   |txt z=>simp[Zw] at h
   |lst z=>simp[Zw] at h
  |txt z=>simp[Zw] at h
  |lst z=>simp[Zw] at h
theorem znK:∀{ws:List W},ws.all Zw=true->ws.length=1->∃a,ws=[.num a]
 |[x],h,_=>by
  cases x with
  |num a=>exact⟨a,rfl⟩
  |txt z=>simp[Zw] at h
  |lst z=>simp[Zw] at h
theorem zaV:FnScope ["worths","one","other","are_texts","are_lists"] ["worths"] (zq zdW):=mkSc rfl (by decide +kernel)
theorem ziT(F:Fun K "joined" "joined" zdW f fd)(G_made:Have P w K mg base "made" k qL3 (spMade K 24))(m_isi:mg "isinstance"=none)(m_str:mg "str"=none)(m_tuple:mg "tuple"=none)(m_KIND:mg "KIND"=some (.ref g_KIND))(t_KIND:∀H:Hp,SqT K H g_KIND [.str "wrong",.str "kind",.str ""]):qF P w K mg base k f fd qL1 (spDeed K (fun ws=>ws.length=2) (recW .join)):=by
 refine F.okQ zaV (by rintro _ _ _ _ ⟨_,_,_,rfl,_⟩;rfl) fun _ _ _ _ H vs Q E hr h=>?_;obtain⟨l,us,ws,rfl,hl,hw,ok,hd,hn,h2,q⟩:=h;obtain⟨x,y,rfl⟩:=zlX h2;obtain⟨u,v,rfl,ru,rv⟩:=rws2 hw;have hd2:max x.depth (max y.depth 0)<=12:=hd;refine⟨_,(zm (zC (i:=1) zaV.nd rfl (Or.inl rfl) (zF zD (pv 0) zn (fun _ _=>rfl)))
  (zm (zC (i:=2) zaV.nd rfl (Or.inl rfl) (zF zD (pv 0) zn (fun _ _=>rfl)))
  (zm (zC (i:=3) zaV.nd rfl (Or.inl rfl) (Z5 (zw Zv rfl m_isi zU (zc (pv 1) (zc (ZY rfl m_str ZO) zi))) (zal (zw Zv rfl m_isi zU (zc (pv 2) (zc (ZY rfl m_str ZO) zi))))))
  (zm (zC (i:=4) zaV.nd rfl (Or.inl rfl) (Z5 (zw Zv rfl m_isi zU (zc (pv 1) (zc (ZY rfl m_tuple zM) zi))) (zal (zw Zv rfl m_isi zU (zc (pv 2) (zc (ZY rfl m_tuple zM) zi))))))
  (zo (zt (ZB (PW.pt (zaM (zR (pv 3)) (zae (zR (pv 4))))) (zy G_made hr rfl (zc (zJ zlK (pv 1) (pv 2)) zi)) (Zf (v:=.ref g_KIND) rfl m_KIND rfl)))))))),nm5 ?_⟩
 intros;refine⟨_,rfl,l,_,0,_,rfl,rfl,Sl hl,rfl,_,rfl,l,_,1,_,rfl,rfl,Sl hl,rfl,?_⟩;have kd:recW .join [x,y]=zdh->Q (.ref g_KIND) H:=fun e=>q _ _ (Sr _) (by rw[e];exact RM.three (t_KIND _) (.txt _) (.txt _) (.txt _));cases ru with
 |num i=>
  refine⟨_,rfl,_,_,_,_,rfl,.int i,zdt,_,rfl,iteF ⟨_,rfl,_,_,_,_,rfl,.int i,zcE,_,rfl,iteF ?_⟩⟩;exact⟨_,rfl,_,rfl,iteF ⟨_,rfl,_,rfl,iteF (kd (by cases y<;>rfl))⟩⟩
 |txt z=>
  have no:∀(b:Bool),_:=fun (b:Bool)=>(b:Bool);cases rv with
  |num j=>
   refine⟨_,rfl,_,_,_,_,rfl,.str z,za7,_,rfl,iteT ⟨_,rfl,_,_,_,_,rfl,.int j,zdt,_,rfl,_,_,_,_,rfl,.str z,zbC,_,rfl,iteF ?_⟩⟩;exact⟨_,rfl,_,rfl,iteF ⟨_,rfl,_,rfl,iteF (kd rfl)⟩⟩
  |txt z2=>
   refine⟨_,rfl,_,_,_,_,rfl,.str z,za7,_,rfl,iteT ⟨_,rfl,_,_,_,_,rfl,.str z2,za7,_,rfl,_,_,_,_,rfl,.str z,zbC,_,rfl,iteF ?_⟩⟩;have h1:z.length<=400:=ok.1.1;have h3:z2.length<=400:=ok.2.1.1;refine⟨_,rfl,_,rfl,iteT (iteT ⟨_,rfl,_,rfl,.inl ⟨z,z2,rfl,rfl,small (by lia),?_⟩⟩)⟩;refine⟨_,.txt (z++z2),rfl,.txt _,⟨by rw[zcU];lia,fun c hc=>?_⟩,(by show 0<24;decide),q⟩;rw[zap] at hc;rcases yT.mp hc with hc|hc
   ·exact ok.1.2 c hc
   ·exact ok.2.1.2 c hc
  | @lst a vs ws e ll at'=>
   refine⟨_,rfl,_,_,_,_,rfl,.str z,za7,_,rfl,iteT ⟨_,rfl,_,_,_,_,rfl,.tup e,zds,_,rfl,_,_,_,_,rfl,.str z,zbC,_,rfl,iteF ?_⟩⟩;exact⟨_,rfl,_,rfl,iteF ⟨_,rfl,_,rfl,iteF (kd rfl)⟩⟩
 | @lst a vs xs e ll at'=>
  refine⟨_,rfl,_,_,_,_,rfl,.tup e,zds,_,rfl,iteF ⟨_,rfl,_,_,_,_,rfl,.tup e,zbB,_,rfl,iteT ?_⟩⟩;cases rv with
  |num j=>
   refine⟨_,rfl,_,_,_,_,rfl,.int j,zcE,?_⟩;exact⟨_,rfl,_,rfl,iteF ⟨_,rfl,_,rfl,iteF (kd rfl)⟩⟩
  |txt z2=>
   refine⟨_,rfl,_,_,_,_,rfl,.str z2,zbC,?_⟩;exact⟨_,rfl,_,rfl,iteF ⟨_,rfl,_,rfl,iteF (kd rfl)⟩⟩
  | @lst b us2 ys e2 ll2 at2=>
   refine⟨_,rfl,_,_,_,_,rfl,.tup e2,zbB,?_⟩;refine⟨_,rfl,_,rfl,iteF ⟨_,rfl,_,rfl,iteT ?_⟩⟩;have l1:xs.length<=60:=ok.1.1;have l2:ys.length<=60:=ok.2.1.1;have hth:(W.lst (xs++ys)).Th:=⟨by rw[yD];lia,zkZ fun z hz=>by
    rcases yT.mp hz with hz|hz
    ·exact zd9 z (zcT ok.1.2 z hz)
    ·exact zd9 z (zcT ok.2.1.2 z hz)⟩
   have hdp:(W.lst (xs++ys)).depth<24:=by
    have e1:(W.lst xs).depth=1+depths xs:=rfl;have e3:(W.lst ys).depth=1+depths ys:=rfl;have e4:∀(a b:List W),depths (a++b)=max (depths a) (depths b):=fun a b=>by
     induction a with
     |nil=>simp[depths]
     |cons x r ih=>simp only[xJ,depths,ih];lia
    show 1+depths (xs++ys)<24;rw[e4];lia
   by_cases hx:vs=[]
   ·have ex:xs=[]:=xI.mp (by rw[←ll,hx];rfl)
    subst ex;subst hx;refine⟨_,rfl,_,rfl,.inr (.inr ⟨a,b,us2,rfl,rfl,Sq e,Sq e2,?_⟩)⟩;exact⟨_,.lst ([]++ys),rfl,.lst e2 ll2 at2,hth,hdp,q⟩
   ·refine⟨_,rfl,_,rfl,.inr (.inl ⟨a,b,vs,us2,rfl,rfl,Sq e,Sq e2,hx,small (by lia),fun hy=>?_,fun hy p hp=>?_⟩)⟩
    ·have ey:ys=[]:=xI.mp (by rw[←ll2,hy];rfl)
     subst ey;exact⟨_,.lst (xs++[]),rfl,by rw[xB];exact .lst e ll at',hth,hdp,q⟩
    ·have s1:=Sn (o:=.tup (vs++us2)) hp
     refine⟨_,.lst (xs++ys),rfl,.lst zj (by rw[yD,yD,ll,ll2]) fun i v w a1 a2=>?_,hth,hdp,fun u H' s2 r=>q u H' (s1.trans s2) r⟩
     by_cases hi:i<vs.length
     ·rw[yN hi] at a1
      rw[yN (by lia)] at a2;exact (at' i v w a1 a2).mono (zx s1)
     ·rw[yR (by lia)] at a1
      rw[yR (by lia),←ll] at a2;exact (at2 _ v w a1 a2).mono (zx s1)
theorem zb1:FnScope ["worths","items","place"] ["worths"] (zq zcI):=mkSc rfl (by decide +kernel)
theorem zhk(F:Fun K "item_at" "item_at" zcI f fd)(G_made:Have P w K mg base "made" k qL3 (spMade K 24))(G_is_number:Have P w K mg base "is_number" k qL3 (spIsNum))(m_isi:mg "isinstance"=none)(m_len:mg "len"=none)(m_tuple:mg "tuple"=none)(m_KIND:mg "KIND"=some (.ref g_KIND))(t_KIND:∀H:Hp,SqT K H g_KIND [.str "wrong",.str "kind",.str ""]){g_PLACE:jC}(m_PLACE:mg "PLACE"=some (.ref g_PLACE))(t_PLACE:∀H:Hp,SqT K H g_PLACE [.str "wrong",.str "place",.str ""]):qF P w K mg base k f fd qL1 (spDeed K (fun ws=>ws.length=2) (recW .item)):=by
 refine F.okQ zb1 (by rintro _ _ _ _ ⟨_,_,_,rfl,_⟩;rfl) fun _ _ _ _ H vs Q E hr h=>?_;obtain⟨l,us,ws,rfl,hl,hw,ok,hd,hn,h2,q⟩:=h;obtain⟨x,y,rfl⟩:=zlX h2;obtain⟨u,v,rfl,ru,rv⟩:=rws2 hw;have hd2:max x.depth (max y.depth 0)<=12:=hd;refine⟨_,(zm (zC (i:=1) zb1.nd rfl (Or.inl rfl) (zF zD (pv 0) zn (fun _ _=>rfl)))
  (zm (zC (i:=2) zb1.nd rfl (Or.inl rfl) (zF zD (pv 0) zn (fun _ _=>rfl)))
  (zm (zN (PW.pt (zaM (Zh (zR (zw Zv rfl m_isi zU (zc (pv 1) (zc (ZY rfl m_tuple zM) zi))))) (zae (Zh (zR (zy G_is_number hr rfl (zc (pv 2) zi))))))) (zo (zt (Zf (v:=.ref g_KIND) rfl m_KIND rfl))) zA)
  (zo (zt (ZB (zcg zlf zfz zn (pv 2) (zw zL rfl m_len tG (zc (pv 1) zi))) (zy G_made hr rfl (zc (zF zK (pv 1) (pv 2) (fun _ _=>rfl)) zi)) (Zf (v:=.ref g_PLACE) rfl m_PLACE rfl))))))),nm4 ?_⟩
 intros;refine⟨_,rfl,l,_,0,_,rfl,rfl,Sl hl,rfl,_,rfl,l,_,1,_,rfl,rfl,Sl hl,rfl,?_⟩;have kd:recW .item [x,y]=zdh->Q (.ref g_KIND) H:=fun e=>q _ _ (Sr _) (by rw[e];exact RM.three (t_KIND _) (.txt _) (.txt _) (.txt _));cases ru with
 |num i=>exact⟨_,rfl,_,_,_,_,rfl,.int i,zcE,_,rfl,iteT (iteT (kd rfl))⟩
 |txt z=>exact⟨_,rfl,_,_,_,_,rfl,.str z,zbC,_,rfl,iteT (iteT (kd rfl))⟩
 | @lst a vs xs e ll at'=>
  refine⟨_,rfl,_,_,_,_,rfl,.tup e,zbB,_,rfl,iteF ⟨_,rfl,v,y.toT,rfl,rv.toRT,_,rfl,?_⟩⟩;cases rv with
  |txt z=>exact iteT (kd rfl)
  |lst e2 ll2 at2=>exact iteT (kd rfl)
  |num i=>
   refine iteF ?_;have er:recW .item [.lst xs,.num i]=if 0<=i/\i<(xs.length:Int) then zad (xs.getD i.toNat (.num 0)) else zk6:=rfl;rw[er] at q;have pl:¬(0<=i/\i<(xs.length:Int))->Q (.ref g_PLACE) H:=fun hc=>by
    rw[if_neg hc] at q;exact q _ _ (Sr _) (RM.three (t_PLACE _) (.txt _) (.txt _) (.txt _))
   refine⟨_,rfl,_,_,rfl,rfl,_,rfl,?_⟩;refine ite2 (fun c1=>?_) (fun c1=>?_)
   ·have c1':0<=i:=of_decide_eq_true c1
    refine⟨_,rfl,_,_,rfl,.inr ⟨_,Sq e,rfl⟩,_,_,rfl,rfl,_,rfl,?_⟩;refine ite2 (fun c2=>?_) (fun c2=>pl fun hc=>c2 (decide_eq_true (by rw[ll];exact hc.2)));have c2':i<(vs.length:Int):=of_decide_eq_true c2;have hi:i.toNat<xs.length:=by lia
    have hv:vs[i.toNat]?=some vs[i.toNat]:=yA (by lia);have hx:xs[i.toNat]?=some xs[i.toNat]:=yA hi;rw[if_pos ⟨c1',by lia⟩,yX,hx] at q;have hat:atI vs i=some vs[i.toNat]:=by
     have:=zu hv;rw[show ((i.toNat:Nat):Int)=i by lia] at this;exact this
    have hm:=yK hx;have hdm:=Z0 xs[i.toNat] hm;have e1:(W.lst xs).depth=1+depths xs:=rfl;refine⟨_,rfl,_,rfl,a,vs,i,_,rfl,rfl,Sq e,hat,?_⟩;exact⟨_,xs[i.toNat],rfl,at' _ _ _ hv hx,zd9 _ (zcT ok.1.2 _ hm),by lia,q⟩
   ·exact⟨_,rfl,iteF (pl fun hc=>c1 (decide_eq_true hc.1))⟩
theorem zfY:FnScope ["word","worths"] ["word","worths"] (zq zbV):=mkSc rfl (by decide +kernel)
theorem zfZ(F:Fun K "reckoned" "reckoned" zbV f fd)(G_is_number:Have P w K mg base "is_number" k qL3 (spIsNum))(m_all:mg "all"=none)(m_KIND:mg "KIND"=some (.ref g_KIND))(t_KIND:∀H:Hp,SqT K H g_KIND [.str "wrong",.str "kind",.str ""]){g_NUMBER_DEEDS g_OTHER_DEEDS f1 f2 f3 f4 f5 f6 f7 f8 f9 f10 f11:jC}(m_NUMBER_DEEDS:mg "NUMBER_DEEDS"=some (.ref g_NUMBER_DEEDS))(d_NUM:MD P w K g_NUMBER_DEEDS (kvsN f1 f2 f3 f4 f5 f6))(m_OTHER_DEEDS:mg "OTHER_DEEDS"=some (.ref g_OTHER_DEEDS))(d_OTH:MD P w K g_OTHER_DEEDS (kvsO f7 f8 f9 f10 f11))(c1:Zp P w K mg base f1 k qL1 (spDeed K (fun ws=>∃a b,ws=[.num a,.num b]) (recW .add)))(c2:Zp P w K mg base f2 k qL1 (spDeed K (fun ws=>∃a b,ws=[.num a,.num b]) (recW .sub)))(c3:Zp P w K mg base f3 k qL1 (spDeed K (fun ws=>∃a b,ws=[.num a,.num b]) (recW .mul)))(c4:Zp P w K mg base f4 k qL1 (spDeed K (fun ws=>∃a b,ws=[.num a,.num b]) (recW .div)))(c5:Zp P w K mg base f5 k qL1 (spDeed K (fun ws=>∃a b,ws=[.num a,.num b]) (recW .less)))(c6:Zp P w K mg base f6 k qL1 (spDeed K (fun ws=>∃a,ws=[.num a]) (recW .figs)))(c7:Zp P w K mg base f7 k qL1 (spDeed K (fun ws=>ws.length=2) (recW .same)))(c8:Zp P w K mg base f8 k qL1 (spDeed K (fun ws=>ws.length=2) (recW .join)))(c9:Zp P w K mg base f9 k qL1 (spDeed K (fun _=>True) (recW .list)))(c10:Zp P w K mg base f10 k qL1 (spDeed K (fun ws=>ws.length=2) (recW .item)))(c11:Zp P w K mg base f11 k qL1 (spDeed K (fun ws=>ws.length=1) (recW .count))):qF P w K mg base k f fd ["word","worths"] (spReck K):=by
 refine F.okQ zfY (by rintro _ _ _ _ ⟨_,_,_,_,rfl,_⟩;rfl) fun _ _ _ _ H vs Q E hr h=>?_;obtain⟨d,l,us,ws,rfl,hl,hw,ok,hd,hn,ha,q⟩:=h;refine⟨_,(zm (zN (zE ziB (pv 0) (Zf (v:=.ref g_NUMBER_DEEDS) rfl m_NUMBER_DEEDS rfl) (by rfl)) (zo (zt (zbG hr (zF ziC (Zf (v:=.ref g_OTHER_DEEDS) rfl m_OTHER_DEEDS rfl) (pv 0) (fun _ _=>rfl)) (zc (pv 1) zi)))) zA)
  (zm (zN (Zh (zR (zw (Z4 rfl) rfl m_all zbD (zc (Zj [] [] rfl rfl (by decide) rfl (by decide) rfl (by decide) trivial rfl trivial (zac (pv 1)) (fun C s H fp=>⟨Zd,(zy G_is_number hr rfl (zc (pv 0) zi))⟩)) zi)))) (zo (zt (Zf (v:=.ref g_KIND) rfl m_KIND rfl))) zA)
  (zo (zt (zbG hr (zF ziC (Zf (v:=.ref g_NUMBER_DEEDS) rfl m_NUMBER_DEEDS rfl) (pv 0) (fun _ _=>rfl)) (zc (pv 1) zi)))))),nm3 ?_⟩
 intros;refine⟨_,rfl,g_NUMBER_DEEDS,_,.inr (wdS d),rfl,rfl,d_NUM,_,rfl,?_⟩;have facts:(∃(f0:jC)(pre:List W->Prop),valV (kvsN f1 f2 f3 f4 f5 f6) (.inr (wdS d))=some (.ref f0)/\Zp P w K mg base f0 k qL1 (spDeed K pre (recW d))/\(ws.all Zw=true->pre ws)/\(ws.all Zw=false->recW d ws=zdh)) \/
   (valV (kvsN f1 f2 f3 f4 f5 f6) (.inr (wdS d))=none/\∃(f0:jC)(pre:List W->Prop),valV (kvsO f7 f8 f9 f10 f11) (.inr (wdS d))=some (.ref f0)/\Zp P w K mg base f0 k qL1 (spDeed K pre (recW d))/\pre ws):=by
  cases d with
  |add=>exact .inl ⟨f1,_,rfl,c1,fun h=>ziS h ha,zbH _⟩
  |sub=>exact .inl ⟨f2,_,rfl,c2,fun h=>ziS h ha,zbH _⟩
  |mul=>exact .inl ⟨f3,_,rfl,c3,fun h=>ziS h ha,zbH _⟩
  |div=>exact .inl ⟨f4,_,rfl,c4,fun h=>ziS h ha,zbH _⟩
  |less=>exact .inl ⟨f5,_,rfl,c5,fun h=>ziS h ha,zbH _⟩
  |figs=>exact .inl ⟨f6,_,rfl,c6,fun h=>znK h ha,fun h=>by
    obtain⟨x,rfl⟩:=zna ha;cases x with
    |num a=>simp[Zw] at h
    |txt z=>rfl
    |lst z=>rfl⟩
  |same=>exact .inr ⟨rfl,f7,_,rfl,c7,ha⟩
  |join=>exact .inr ⟨rfl,f8,_,rfl,c8,ha⟩
  |list=>exact .inr ⟨rfl,f9,_,rfl,c9,trivial⟩
  |item=>exact .inr ⟨rfl,f10,_,rfl,c10,ha⟩
  |count=>exact .inr ⟨rfl,f11,_,rfl,c11,ha⟩
 rcases facts with⟨f0,pre,hv,hf,h1,h2⟩|⟨hv,f0,pre,hv2,hf,h1⟩
 ·rw[hv]
  refine iteF ?_;dsimp +zetaDelta only [zld,tRet,tOp,tC,tCB,zat,tNil,tB,tNot,tIfS,tSeq];refine zl5 (ws.map fun x=>V.bl (Zw x)) (by rfl) (Sl hl) (by rw[yB,hw.len]) (small (by have:=hw.len;lia)) (fun i v y H1 R hv' hy s1 hR=>?_) (fun H1 D s1 hD=>?_)
  ·rw[yE] at hy
   obtain⟨x,hx,rfl⟩:=yP.mp hy;refine⟨_,rfl,v,x.toT,rfl,((hw.at' i v x hv' hx).mono (zx s1)).toRT,?_⟩;rw[zfa];exact hR _ (Sr _)
  ·have s2:=s1.trans (Sn (o:=.lst (ws.map fun x=>V.bl (Zw x))) hD)
   refine⟨D,ws.map Zw,rfl,Sl ?_,_,rfl,?_⟩
   ·rw[zj,wG];rfl
   have e3:(ws.map Zw).all id=ws.all Zw:=by rw[uR];rfl
   rw[e3];cases hall:ws.all Zw with
   |false=>
    refine iteT (q _ _ s2 ?_);rw[h2 hall];exact RM.three (t_KIND _) (.txt _) (.txt _) (.txt _)
   |true=>
    refine iteF ⟨_,rfl,g_NUMBER_DEEDS,_,.inr (wdS d),.ref f0,rfl,rfl,d_NUM,hv,f0,_,_,rfl,hf,_,rfl,?_⟩;exact⟨l,us,ws,rfl,s2 _ _ hl,hw.mono (zx s2),ok,hd,hn,h1 hall,fun u H' s3 r=>q u H' (s2.trans s3) r⟩
 ·rw[hv]
  refine iteT ⟨_,rfl,g_OTHER_DEEDS,_,.inr (wdS d),.ref f0,rfl,rfl,d_OTH,hv2,f0,_,_,rfl,hf,_,rfl,?_⟩;exact⟨l,us,ws,rfl,hl,hw,ok,hd,hn,h1,q⟩
noncomputable def znb:W->Bool
 |.txt _=>true
 |_=>false
noncomputable def znc:W->Bool
 |.lst _=>true
 |_=>false
noncomputable def tnW:W->String
 |.num _=>"int"
 |.txt _=>"str"
 |.lst _=>"tuple"
theorem isiT(x:W):isi (tnW x) "tuple"=some (znc x):=match x with|.num _=>zcE|.txt _=>zbC|.lst _=>zbB
theorem isiS(x:W):isi (tnW x) "str"=some (znb x):=match x with|.num _=>zdt|.txt _=>za7|.lst _=>zds
variable{K:tT}{H H':Hp}{v:V}{vs:List V}
theorem zhl:tL (uX "dict")=some (.type "dict"):=by kernel_rfl
inductive Res where
 |made (x:W)
 |wrong (ws:List W)
 |stop
inductive R where
 |mk (res:Res) (subs:List R)
noncomputable def R.res:R->Res
 |.mk r _=>r
noncomputable def Res.isMade:Res->Bool
 |.made _=>true
 |.wrong _=>false
 |.stop=>false
noncomputable def Res.toW:Res->W
 |.made x=>.lst [.txt "made",x]
 |.wrong ws=>.lst (.txt "wrong"::ws)
 |.stop=>.lst []
mutual
noncomputable def R.toW:R->W
 |.mk r subs=>.lst [r.toW,.lst (toWs subs)]
noncomputable def toWs:List R->List W
 |[]=>[]
 |r::l=>r.toW::toWs l
end
theorem zgC:∀l:List R,(toWs l).length=l.length
 |[]=>rfl
 |_::l=>by simp only[toWs,yQ,zgC l]
theorem ziU:∀(l:List R)(i:Nat),(toWs l)[i]?=(l[i]?).map R.toW
 |[],_=>by simp[toWs]
 |r::l,0=>by simp[toWs]
 |r::l,i+1=>by simp only[toWs,wI];exact ziU l i
def RRes(K:tT)(H:Hp)(v:V):Res->Prop
 |.made x=>∃a u,v=.ref a/\SqT K H a [.str "made",u]/\RW H u x
 |.wrong ws=>RS K H v (.lst (.txt "wrong"::ws))
 |.stop=>v=.non
theorem RRes.mono{K:tT}{H H':Hp}(t:Same H H'){v:V}:∀{r:Res},RRes K H v r->RRes K H' v r
 |.made _,⟨a,u,e1,e2,e3⟩=>⟨a,u,e1,t.seqT e2,e3.mono (zx t)⟩
 |.wrong _,h=>RS.mono t h
 |.stop,h=>h
theorem RRes.rs{K:tT}{H:Hp}{v:V}:∀{r:Res},r≠.stop->RRes K H v r->RS K H v r.toW
 |.made _,_,⟨a,u,e1,e2,e3⟩=>by rw[e1];exact RS.two e2 (.txt _) e3.toRS
 |.wrong _,_,h=>h
 |.stop,n,_=>absurd rfl n
theorem RRes.word{K:tT}{H:Hp}{v:V}:∀{r:Res},r≠.stop->RRes K H v r->∃a us,v=.ref a/\SqT K H a (.str (if r.isMade then "made" else "wrong")::us)
 |.stop,n,_=>absurd rfl n
 |.made _,_,⟨a,u,e1,e2,e3⟩=>⟨a,[u],e1,e2⟩
 |.wrong ws,_,h=>by
  have h:RS K H v (.lst (.txt "wrong"::ws)):=h;cases h with
  | @lst a vs _ e l at'=>
   match vs,l with
   |u::us,_=>
    have:=at' 0 u _ rfl rfl;cases this;exact⟨a,us,rfl,e⟩
inductive RR(K:tT)(H:Hp):V->R->Prop where
 |mk {a b:jC}{rv:V}{vs:List V}{res:Res}{rs:List R}:H a=some (.tup [rv,.ref b])->RRes K H rv res->H b=some (.tup vs)->vs.length=rs.length->(∀(i:Nat)(v:V)(r:R),vs[i]?=some v->rs[i]?=some r->RR K H v r)->RR K H (.ref a) (.mk res rs)
theorem RR.mono(t:Same H H'){r:R}(h:RR K H v r):RR K H' v r:=by
 induction h with
 |mk e1 e2 e3 l _ ih=>exact .mk (t _ _ e1) (e2.mono t) (t _ _ e3) l ih
structure RRs(K:tT)(H:Hp)(vs:List V)(rs:List R):Prop where
 len:vs.length=rs.length
 at':∀(i:Nat)(v:V)(r:R),vs[i]?=some v->rs[i]?=some r->RR K H v r
theorem RRs.mono(t:Same H H'){rs:List R}(h:RRs K H vs rs):RRs K H' vs rs:=⟨h.len,fun i v r a b=>(h.at' i v r a b).mono t⟩
theorem RRs.nil:RRs K H [] []:=⟨rfl,fun i v r e=>by simp at e⟩
theorem RRs.snoc{rs:List R}{r:R}(h:RRs K H vs rs)(x:RR K H v r):RRs K H (vs++[v]) (rs++[r]):=by
 refine⟨by rw[yD,yD,h.len];rfl,fun i v' r' a b=>?_⟩
 by_cases hi:i<vs.length
 ·rw[yN hi] at a
  rw[yN (by rw[←h.len];exact hi)] at b;exact h.at' i v' r' a b
 ·rw[yR (by lia)] at a
  rw[yR (by rw[←h.len];lia),←h.len] at b;have e0:i-vs.length=0:=by
   have:=(yC.mp a).1;simp at this;lia
  rw[e0] at a b;cases a;cases b;exact x
theorem RRs.one{r:R}(x:RR K H v r):RRs K H [v] [r]:=RRs.nil.snoc x
theorem RRs.two{v2:V}{r r2:R}(x:RR K H v r)(y:RR K H v2 r2):RRs K H [v,v2] [r,r2]:=(RRs.one x).snoc y
theorem RRs.rr{a b:jC}{rv:V}{res:Res}{rs:List R}(h:RRs K H vs rs)(e1:H a=some (.tup [rv,.ref b]))(e2:RRes K H rv res)(e3:H b=some (.tup vs)):RR K H (.ref a) (.mk res rs):=.mk e1 e2 e3 h.len h.at'
theorem RR.res{K:tT}{H:Hp}{v:V}{r:R}(h:RR K H v r):∃a b rv,v=.ref a/\H a=some (.tup [rv,.ref b])/\RRes K H rv r.res:=by
 cases h with
 | @mk a b rv vs res rs e1 e2 e3 l at'=>exact⟨a,b,rv,rfl,e1,e2⟩
noncomputable def kvsB:List (Key×V):=[(.inr "let",.int 1),(.inr "each",.int 1),(.inr "over",.int 2)]
noncomputable def kvsP:List (Key×V):=[(.inr "let",.int 2),(.inr "if",.int 3),(.inr "+",.int 2),(.inr "-",.int 2),(.inr "*",.int 2),(.inr "/",.int 2),(.inr "same",.int 2),(.inr "less",.int 2),(.inr "join",.int 2),(.inr "item",.int 2),(.inr "count",.int 1),(.inr "figures",.int 1),(.inr "each",.int 2),(.inr "over",.int 3),(.inr "look",.int 1),(.inr "else",.int 2),(.inr "cry",.int 1)]
inductive spHasParts(vs:List V)(H:Hp)(Q:VK)(z3:XK):Prop
 |mk (d:Wd) (_:vs=[.str (wdS d)]) (_:Q (.bl true) H)
inductive spBCount(vs:List V)(H:Hp)(Q:VK)(z3:XK):Prop
 |mk (d:Wd) (_:vs=[.str (wdS d)]) (_:Q (.int 0) H)
inductive spPartsOf(vs:List V)(H:Hp)(Q:VK)(z3:XK):Prop
 |mk (a:jC) (d:Wd) (us:List V) (_:vs=[.ref a]) (_:H a=some (.tup (.str (wdS d)::us))) (_:us.length<=100) (_:∀(l:jC)(H':Hp),Same H H'->H' l=some (.lst us)->H l=none->Q (.ref l) H')
inductive spIsMade(K:tT)(vs:List V)(H:Hp)(Q:VK)(z3:XK):Prop
 |mk (v:V) (r:R) (_:vs=[v]) (_:RR K H v r) (_:Q (.bl r.res.isMade) H)
inductive spWorthOf(K:tT)(vs:List V)(H:Hp)(Q:VK)(z3:XK):Prop
 |mk (v:V) (r:R) (x:W) (_:vs=[v]) (_:RR K H v r) (_:r.res=.made x) (_:∀u,RW H u x->Q u H)
inductive spAsLast(K:tT)(vs:List V)(H:Hp)(Q:VK)(z3:XK):Prop
 |mk (l:jC) (us:List V) (rs:List R) (r:R) (_:vs=[.ref l]) (_:H l=some (.lst us)) (_:RRs K H us rs) (_:rs.getLast?=some r) (_:∀(v:V)(H':Hp),Same H H'->RR K H' v (.mk r.res rs)->Q v H')
inductive spBind(vs:List V)(H:Hp)(Q:VK)(z3:XK):Prop
 |mk (bd:jC) (z:Str) (u:V) (kvs:List (Key×V)) (_:vs=[.ref bd,.str z,u]) (_:H bd=some (.dK kvs)) (_:kvs.length<=1000) (_:∀(p:jC)(H':Hp),Same H H'->H' p=some (.dK (putK kvs (.inr z) u))->Q (.ref p) H')
theorem zax{us:List V}(e:us[us.length-1]?=some v)(h:0<us.length):atI us (-1)=some v:=by
 have h1:=Z8 e;rw[show us.length-1+1=us.length by lia,vX] at h1;rw[h1];exact zci _ _
theorem zfb:FnScope ["word"] ["word"] (zq zbk):=mkSc rfl (by decide +kernel)
theorem zfc(F:Fun K "has_parts" "has_parts" zbk f fd){g_PARTS:jC}(m_PARTS:mg "PARTS"=some (.ref g_PARTS))(d_PARTS:MD P w K g_PARTS kvsP):qF P w K mg base k f fd ["word"] (spHasParts):=by
 refine F.okQ zfb (by rintro _ _ _ _ ⟨_,rfl,_⟩;rfl) fun _ _ _ _ H vs Q E hr h=>?_;obtain⟨d,rfl,q⟩:=h;refine⟨_,(zo (zt (zlc (zV zX (pv 0) zr (nomark _)) (zal (zV zk1 (pv 0) (Zf (v:=.ref g_PARTS) rfl m_PARTS rfl) (by rfl)))))),?_⟩;refine⟨_,rfl,rfl,_,rfl,?_⟩;refine ite2 (fun e=>?_) (fun e=>?_)
 ·exact q
 refine⟨_,rfl,g_PARTS,kvsP,.inr (wdS d),rfl,rfl,d_PARTS,?_⟩;have hs:(valV kvsP (.inr (wdS d))).isSome=true:=by
  cases d
  case list=>exact absurd rfl e
  all_goals rfl
 rw[hs];exact q
theorem zcd:FnScope ["word"] ["word"] (zq zao):=mkSc rfl (by decide +kernel)
theorem zce(F:Fun K "binding_count" "binding_count" zao f fd){g_BINDING:jC}(m_BINDING:mg "BINDING"=some (.ref g_BINDING))(d_BINDING:MD P w K g_BINDING kvsB):qF P w K mg base k f fd ["word"] (spBCount):=by
 refine F.okQ zcd (by rintro _ _ _ _ ⟨_,rfl,_⟩;rfl) fun _ _ _ _ H vs Q E hr h=>?_;obtain⟨d,rfl,q⟩:=h;refine⟨_,(zo (zt (zec (Zf (v:=.ref g_BINDING) rfl m_BINDING rfl) (pv 0) zn ⟨rfl,rfl,rfl,rfl⟩))),?_⟩;refine⟨g_BINDING,kvsB,rfl,d_BINDING,_,rfl,.inr (wdS d),rfl,?_⟩;have hs:valV kvsB (.inr (wdS d))=none:=by cases d<;>rfl
 rw[hs];exact q
theorem zc0:FnScope ["expression","word"] ["expression"] (zq zbW):=mkSc rfl (by decide +kernel)
theorem zf0(F:Fun K "parts_of" "parts_of" zbW f fd)(G_binding_count:Have P w K mg base "binding_count" k ["word"] (spBCount))(G_has_parts:Have P w K mg base "has_parts" k ["word"] (spHasParts))(m_list:mg "list"=none):qF P w K mg base k f fd ["expression"] (spPartsOf):=by
 refine F.okQ zc0 (by rintro _ _ _ _ ⟨_,_,_,rfl,_⟩;rfl) fun _ _ _ _ H vs Q E hr h=>?_;obtain⟨a,d,us,rfl,ha,hl,q⟩:=h;refine⟨_,(zm (zC (i:=1) zc0.nd rfl (Or.inl rfl) (zF zK (pv 0) zn (fun _ _=>rfl)))
  (zm (zN (Zh (zR (zy G_has_parts hr rfl (zc (pv 1) zi)))) (zo (zt (zO zi))) zA)
  (zo (zt (zI Zb rfl m_list Zo (zc (Zr zkL (pv 0) (ZF (zJ Zi zn (zy G_binding_count hr rfl (zc (pv 1) zi)))) ZX) zi)))))),nm3 ?_⟩
 intros;refine⟨_,rfl,a,_,0,_,rfl,rfl,Sq ha,zu (j:=0) rfl,?_⟩;refine⟨_,rfl,d,rfl,_,rfl,iteF ?_⟩;refine⟨_,rfl,_,rfl,d,rfl,_,_,rfl,rfl,_,rfl,a,_,rfl,Sq ha,?_,fun p hp=>?_⟩
 ·intro h
  have h1:HT.sIx (V.str (wdS d)::us).length 0 (some ((1:Nat):Int))=0:=h.1;rw[HT.sIx_nat,yQ] at h1;lia
 have e:cutV (V.str (wdS d)::us) (some (1+0)) none=us:=by
  show ((V.str (wdS d)::us).drop (HT.sIx (V.str (wdS d)::us).length 0 (some ((1:Nat):Int)))).take ((V.str (wdS d)::us).length-HT.sIx (V.str (wdS d)::us).length 0 (some ((1:Nat):Int)))=us;rw[HT.sIx_nat,yQ,show min 1 (us.length+1)=1 by lia];simp
 have s1:=Sn (o:=.tup (cutV (V.str (wdS d)::us) (some (1+0)) none)) hp;refine⟨p,us,rfl,.inr (Sq (by rw[zj];exact congrArg _ (congrArg _ e))),fun l hl=>q l _ (s1.trans (Sn hl)) zj (s1.free hl)⟩
theorem zhm:FnScope ["record"] ["record"] (zq zcK):=mkSc rfl (by decide +kernel)
theorem zhn(F:Fun K "is_made" "is_made" zcK f fd):qF P w K mg base k f fd qL4 (spIsMade K):=by
 refine F.okQ zhm (by rintro _ _ _ _ ⟨_,_,rfl,_⟩;rfl) fun _ _ _ _ H vs Q E hr h=>?_;obtain⟨v,r,rfl,rr,q⟩:=h;refine⟨_,(zo (zt (Z5 (zdo (zdN (zF zK (pv 0) zn (fun _ _=>rfl)))) (zal (zV zX (zF zK (zF zK (pv 0) zn (fun _ _=>rfl)) zn (fun _ _=>rfl)) zr (nomark _)))))),?_⟩;obtain⟨a,b,rv,rfl,ea,rres⟩:=rr.res
 by_cases hst:r.res=.stop
 ·rw[hst] at rres q
  obtain rfl:rv=.non:=rres;exact⟨_,rfl,a,_,0,_,rfl,rfl,Sq ea,rfl,_,rfl,iteF q⟩
 obtain⟨c,us,rfl,ec⟩:=rres.word hst;refine⟨_,rfl,a,_,0,_,rfl,rfl,Sq ea,rfl,?_⟩;refine⟨_,rfl,iteT ⟨_,rfl,a,_,0,_,rfl,rfl,Sq ea,rfl,c,_,0,_,rfl,rfl,ec,zu (j:=0) rfl,rfl,?_⟩⟩;cases hm:r.res.isMade with
 |true=>rw[hm] at q;exact q
 |false=>rw[hm] at q;exact q
theorem zf1:FnScope ["record"] ["record"] (zq zbX):=mkSc rfl (by decide +kernel)
theorem zf2(F:Fun K "worth_of" "worth_of" zbX f fd):qF P w K mg base k f fd qL4 (spWorthOf K):=by
 refine F.okQ zf1 (by rintro _ _ _ _ ⟨_,_,_,rfl,_⟩;rfl) fun _ _ _ _ H vs Q E hr h=>?_;obtain⟨v,r,x,rfl,rr,e,q⟩:=h;refine⟨_,(zo (zt (zF zK (zF zK (pv 0) zn (fun _ _=>rfl)) zn (fun _ _=>rfl)))),?_⟩;obtain⟨a,b,rv,rfl,ea,rres⟩:=rr.res;rw[e] at rres;obtain⟨c,u,rfl,ec,ru⟩:=rres;exact⟨_,rfl,a,_,0,_,rfl,rfl,Sq ea,rfl,c,_,1,_,rfl,rfl,ec,rfl,q u ru⟩
theorem zho:FnScope ["records"] ["records"] (zq zcL):=mkSc rfl (by decide +kernel)
theorem zhp(F:Fun K "as_last" "as_last" zcL f fd)(m_tuple:mg "tuple"=none):qF P w K mg base k f fd qL5 (spAsLast K):=by
 refine F.okQ zho (by rintro _ _ _ _ ⟨_,_,_,_,rfl,_⟩;rfl) fun _ _ _ _ H vs Q E hr h=>?_;obtain⟨l,us,rs,r,rfl,hl,hrs,hr',q⟩:=h;refine⟨_,(zo (zt (zG (zc (zF zK (zF zD (pv 0) (zca za6 zn) (fun _ _=>rfl)) zn (fun _ _=>rfl)) (zc (zI zP rfl m_tuple zM (zc (pv 0) zi)) zi))))),?_⟩;have hne:rs≠[]:=fun z=>by rw[z] at hr';cases hr'
 have hn:0<rs.length:=xU.mpr hne;have hl':=hrs.len;have e1:us[us.length-1]?=some us[us.length-1]:=yA (by lia);have e2:rs[us.length-1]?=some r:=by rw[hl',←List.getLast?_eq_getElem?];exact hr'
 have rr:=hrs.at' _ _ _ e1 e2;obtain⟨a,b,rv,ev,ea,rres⟩:=rr.res;refine⟨_,rfl,_,rfl,l,us,-1,us[us.length-1],rfl,rfl,Sl hl,zax e1 (by lia),a,_,0,_,ev,rfl,Sq ea,rfl,_,rfl,l,us,rfl,.inl ⟨Sl hl,fun t ht=>⟨zl2,fun a2 ha2=>?_⟩⟩⟩;have s1:=Sn (o:=.tup us) ht;have s2:=Sn (o:=.tup [rv,.ref t]) ha2;have s3:=s1.trans s2;exact q _ _ s3 ((hrs.mono s3).rr zj (rres.mono s3) (s2 _ _ zj))
theorem zdA:FnScope ["bound","name","worth","inner"] ["bound","name","worth"] (zq zcM):=mkSc rfl (by decide +kernel)
theorem zhq(F:Fun K "binding" "binding" zcM f fd)(m_dict:mg "dict"=none):qF P w K mg base k f fd qL16 (spBind):=by
 refine F.okQ zdA (by rintro _ _ _ _ ⟨_,_,_,_,rfl,_⟩;rfl) fun _ _ _ _ H vs Q E hr h=>?_;obtain⟨bd,z,u,kvs,rfl,hb,hk,q⟩:=h;refine⟨_,(zm (zC (i:=3) zdA.nd rfl (Or.inl rfl) (zI ze0 rfl m_dict zhl (zc (pv 0) zi)))
  (zm (zfF (zmL hr) (pv 3) (pv 1) (pv 2) rfl)
  (zo (zt (pv 3))))),nm3 ?_⟩
 intros;refine⟨_,rfl,bd,kvs,rfl,hb,fun p hp=>?_⟩;refine⟨_,rfl,_,rfl,_,rfl,p,_,rfl,DPut.k (k:=.inr z) zj (yZ hk (by decide)),_,rfl,q _ _ (fun c o e=>?_) zj⟩;rw[zH (zB e hp),zH (zB e hp)];exact e
abbrev Env:=Str->Option W
abbrev Ns:=List Str
noncomputable def put(e:Env)(s:Str)(x:W):Env:=fun t=>if t=s then some x else e t
inductive Ex where
 |lit (x:W)
 |var (s:Str)
 |letE (s:Str) (a b:Ex)
 |ifE (a b c:Ex)
 |elseE (a b:Ex)
 |cryE (a:Ex)
 |lookE (a:Ex)
 |reck (d:Wd) (es:List Ex)
 |eachE (s:Str) (a b:Ex)
mutual
noncomputable def Ex.toW:Ex->W
 |.lit x=>.lst [.txt "lit",x]
 |.var s=>.lst [.txt "var",.txt s]
 |.letE s a b=>.lst [.txt "let",.txt s,a.toW,b.toW]
 |.ifE a b c=>.lst [.txt "if",a.toW,b.toW,c.toW]
 |.elseE a b=>.lst [.txt "else",a.toW,b.toW]
 |.cryE a=>.lst [.txt "cry",a.toW]
 |.lookE a=>.lst [.txt "look",a.toW]
 |.reck d es=>.lst (.txt (wdS d)::exWs es)
 |.eachE s a b=>.lst [.txt "each",.txt s,a.toW,b.toW]
noncomputable def exWs:List Ex->List W
 |[]=>[]
 |e::es=>e.toW::exWs es
end
mutual
noncomputable def Ex.high:Ex->Nat
 |.lit _=>1
 |.var _=>1
 |.letE _ a b=>1+max a.high b.high
 |.ifE a b c=>1+max a.high (max b.high c.high)
 |.elseE a b=>1+max a.high b.high
 |.cryE a=>1+a.high
 |.lookE a=>1+a.high
 |.reck _ es=>1+highs es
 |.eachE _ a b=>1+max a.high b.high
noncomputable def highs:List Ex->Nat
 |[]=>0
 |e::es=>max e.high (highs es)
end
noncomputable def zbq:W->Res
 |.lst [_,x]=>.made x
 |.lst (_::ws)=>.wrong ws
 |_=>.wrong []
noncomputable def R.worth:R->W
 |.mk (.made x) _=>x
 |.mk _ _=>.num 0
noncomputable def zQ(f:W->Ns->R×Ns):List W->Ns->List R×Ns
 |[],ns=>([],ns)
 |w::ws,ns=>if (f w ns).1.res.isMade then ((f w ns).1::(zQ f ws (f w ns).2).1,(zQ f ws (f w ns).2).2) else ([(f w ns).1],(f w ns).2)
def zb7(f:W->Ns->R×Ns)(p:W->Ns->Prop):List W->Ns->Prop
 |[],_=>True
 |w::ws,ns=>p w ns/\((f w ns).1.res.isMade=true->zb7 f p ws (f w ns).2)
noncomputable def zaN(l:List R)(r:R):R:=(l.getLast?).getD r
noncomputable def Zq(l:List R):Bool:=l.all fun r=>r.res.isMade
noncomputable def found(fs:List Res)(n:Nat):Res:=(fs[n]?).getD .stop
section
variable(fs:List Res)
mutual
noncomputable def ev:Ex->Env->Ns->R×Ns
 |.lit x,_,ns=>(.mk (.made x) [],ns)
 |.var s,e,ns=>(.mk (.made ((e s).getD (.num 0))) [],ns)
 |.letE s a b,e,ns=>match (ev a e ns).1.res with
  |.made x=>(.mk (ev b (put e s x) (ev a e ns).2).1.res [(ev a e ns).1,(ev b (put e s x) (ev a e ns).2).1],(ev b (put e s x) (ev a e ns).2).2)
  |r=>(.mk r [(ev a e ns).1],(ev a e ns).2)
 |.ifE a b c,e,ns=>match (ev a e ns).1.res with
  |.made (.num i)=>if i=0 then (.mk (ev c e (ev a e ns).2).1.res [(ev a e ns).1,(ev c e (ev a e ns).2).1],(ev c e (ev a e ns).2).2) else (.mk (ev b e (ev a e ns).2).1.res [(ev a e ns).1,(ev b e (ev a e ns).2).1],(ev b e (ev a e ns).2).2)
  |.made _=>(.mk (.wrong [.txt "kind",.txt ""]) [(ev a e ns).1],(ev a e ns).2)
  |r=>(.mk r [(ev a e ns).1],(ev a e ns).2)
 |.elseE a b,e,ns=>match (ev a e ns).1.res with
  |.wrong _=>(.mk (ev b e (ev a e ns).2).1.res [(ev a e ns).1,(ev b e (ev a e ns).2).1],(ev b e (ev a e ns).2).2)
  |r=>(.mk r [(ev a e ns).1],(ev a e ns).2)
 |.cryE a,e,ns=>match (ev a e ns).1.res with
  |.made x=>(.mk (.wrong [.txt "cried",x]) [(ev a e ns).1],(ev a e ns).2)
  |r=>(.mk r [(ev a e ns).1],(ev a e ns).2)
 |.lookE a,e,ns=>match (ev a e ns).1.res with
  |.made (.txt s)=>(.mk (found fs (ev a e ns).2.length) [(ev a e ns).1],(ev a e ns).2++[s])
  |.made _=>(.mk (.wrong [.txt "kind",.txt ""]) [(ev a e ns).1],(ev a e ns).2)
  |r=>(.mk r [(ev a e ns).1],(ev a e ns).2)
 |.reck d es,e,ns=>if Zq (evs es e ns).1 then (.mk (zbq (recW d ((evs es e ns).1.map R.worth))) (evs es e ns).1,(evs es e ns).2) else (.mk (zaN (evs es e ns).1 (.mk (.made (.num 0)) [])).res (evs es e ns).1,(evs es e ns).2)
 |.eachE s a b,e,ns=>match (ev a e ns).1.res with
  |.made (.lst ws)=>if ws.length > 10 then (.mk (.wrong [.txt "great",.txt ""]) [(ev a e ns).1],(ev a e ns).2) else
    if Zq (zQ (fun w m=>ev b (put e s w) m) ws (ev a e ns).2).1 then (.mk (zbq (zad (.lst ((zQ (fun w m=>ev b (put e s w) m) ws (ev a e ns).2).1.map R.worth)))) ((ev a e ns).1::(zQ (fun w m=>ev b (put e s w) m) ws (ev a e ns).2).1),(zQ (fun w m=>ev b (put e s w) m) ws (ev a e ns).2).2)
    else (.mk (zaN (zQ (fun w m=>ev b (put e s w) m) ws (ev a e ns).2).1 (ev a e ns).1).res ((ev a e ns).1::(zQ (fun w m=>ev b (put e s w) m) ws (ev a e ns).2).1),(zQ (fun w m=>ev b (put e s w) m) ws (ev a e ns).2).2)
  |.made _=>(.mk (.wrong [.txt "kind",.txt ""]) [(ev a e ns).1],(ev a e ns).2)
  |r=>(.mk r [(ev a e ns).1],(ev a e ns).2)
noncomputable def evs:List Ex->Env->Ns->List R×Ns
 |[],_,ns=>([],ns)
 |x::xs,e,ns=>if (ev x e ns).1.res.isMade then ((ev x e ns).1::(evs xs e (ev x e ns).2).1,(evs xs e (ev x e ns).2).2) else ([(ev x e ns).1],(ev x e ns).2)
end
mutual
def Fine:Ex->Env->Ns->Prop
 |.lit _,_,_=>True
 |.var s,e,_=>∃x,e s=some x
 |.letE s a b,e,ns=>Fine a e ns/\∀x,(ev fs a e ns).1.res=.made x->Fine b (put e s x) (ev fs a e ns).2
 |.ifE a b c,e,ns=>Fine a e ns/\∀i,(ev fs a e ns).1.res=.made (.num i)->(i≠0->Fine b e (ev fs a e ns).2)/\(i=0->Fine c e (ev fs a e ns).2)
 |.elseE a b,e,ns=>Fine a e ns/\∀w,(ev fs a e ns).1.res=.wrong w->Fine b e (ev fs a e ns).2
 |.cryE a,e,ns=>Fine a e ns
 |.lookE a,e,ns=>Fine a e ns/\(ev fs a e ns).2.length<=1000
 |.reck d es,e,ns=>es.length<=100/\Fines es e ns/\(Zq (evs fs es e ns).1=true->Oks ((evs fs es e ns).1.map R.worth)/\depths ((evs fs es e ns).1.map R.worth)<=12/\(evs fs es e ns).1.length<=8/\arity d (evs fs es e ns).1.length)
 |.eachE s a b,e,ns=>Fine a e ns/\∀ws,(ev fs a e ns).1.res=.made (.lst ws)->zb7 (fun w m=>ev fs b (put e s w) m) (fun w m=>Fine b (put e s w) m) ws (ev fs a e ns).2/\Ths ((zQ (fun w m=>ev fs b (put e s w) m) ws (ev fs a e ns).2).1.map R.worth)/\depths ((zQ (fun w m=>ev fs b (put e s w) m) ws (ev fs a e ns).2).1.map R.worth)<=12
def Fines:List Ex->Env->Ns->Prop
 |[],_,_=>True
 |x::xs,e,ns=>Fine x e ns/\((ev fs x e ns).1.res.isMade=true->Fines xs e (ev fs x e ns).2)
end
end
def EnvR(H:Hp)(kvs:List (Key×V))(e:Env):Prop:=∀s x,e s=some x->∃v,valV kvs (.inr s)=some v/\RW H v x
theorem EnvR.mono{H H':Hp}{kvs:List (Key×V)}{e:Env}(h:EnvR H kvs e)(s:Same H H'):EnvR H' kvs e:=fun z x hx=>let ⟨v,h1,h2⟩:=h z x hx;⟨v,h1,h2.mono (zx s)⟩
theorem EnvR.put{H:Hp}{kvs:List (Key×V)}{e:Env}(h:EnvR H kvs e){s:Str}{u:V}{x:W}(r:RW H u x):EnvR H (putK kvs (.inr s) u) (put e s x):=fun z y hy=>by
 unfold D.put at hy;rw[zjJ]
 by_cases hz:z=s
 ·rw[if_pos hz] at hy
  cases hy;exact⟨u,by rw[if_pos (by rw[hz])],r⟩
 ·rw[if_neg hz] at hy
  obtain⟨v,h1,h2⟩:=h z y hy;exact⟨v,by rw[if_neg (fun q=>hz (by simpa using q))];exact h1,h2⟩
theorem RW.tup{H:Hp}{u:V}{ws:List W}(h:RW H u (.lst ws)):∃a vs,u=.ref a/\H a=some (.tup vs)/\RWs H vs ws:=by
 cases h with
 | @lst a vs _ e l at'=>exact⟨a,vs,rfl,e,l,at'⟩
theorem RWs.cons{H:Hp}{vs:List V}{x:W}{ws:List W}(h:RWs H vs (x::ws)):∃u us,vs=u::us/\RW H u x/\RWs H us ws:=by
 match vs,h.len with
 |u::us,hl=>exact⟨u,us,rfl,h.at' 0 u x rfl rfl,by simpa using hl,fun i v w a b=>h.at' (i+1) v w a b⟩
theorem RWs.nil'{H:Hp}{vs:List V}(h:RWs H vs []):vs=[]:=xI.mp h.len
theorem RW.str{H:Hp}{u:V}{s:Str}(h:RW H u (.txt s)):u=.str s:=by cases h;rfl
def Kb(p:jC)(H H':Hp):Prop:=∀c o,c≠p->H c=some o->H' c=some o
theorem Kb.put{p:jC}{H:Hp}{o:HO}:Kb p H (upd H p o):=fun c u hc e=>by rw[zH hc];exact e
theorem Kb.seqT{K:tT}{p:jC}{H H':Hp}{ts:List V}(e:Kb p H H')(hp:H p=some (.lst ts)){a:jC}{xs:List V}(h:SqT K H a xs):SqT K H' a xs:=by
 rcases h with (h|⟨o,h⟩)|h
 ·exact .inl (.inl (e _ _ (fun z=>by rw[z,hp] at h;cases h) h))
 ·exact .inl (.inr ⟨o,e _ _ (fun z=>by rw[z,hp] at h;cases h) h⟩)
 ·exact .inr h
theorem Kb.rs{K:tT}{p:jC}{H H':Hp}{ts:List V}(e:Kb p H H')(hp:H p=some (.lst ts)){v:V}{w:W}(h:RS K H v w):RS K H' v w:=by
 induction h with
 |num i=>exact .num i
 |txt x=>exact .txt x
 |lst e1 l _ ih=>exact .lst (e.seqT hp e1) l ih
theorem Kb.tups{p:jC}{H H':Hp}{ts:List V}(e:Kb p H H')(hp:H p=some (.lst ts)):Tups H H':=fun a vs h=>e _ _ (fun z=>by rw[z,hp] at h;cases h) h
theorem Kb.res{K:tT}{p:jC}{H H':Hp}{ts:List V}(e:Kb p H H')(hp:H p=some (.lst ts)){v:V}:∀{r:Res},RRes K H v r->RRes K H' v r
 |.made _,⟨a,u,e1,e2,e3⟩=>⟨a,u,e1,e.seqT hp e2,e3.mono (e.tups hp)⟩
 |.wrong _,h=>Kb.rs e hp h
 |.stop,h=>h
theorem Kb.rr{K:tT}{p:jC}{H H':Hp}{ts:List V}(e:Kb p H H')(hp:H p=some (.lst ts)){v:V}{r:R}(h:RR K H v r):RR K H' v r:=by
 induction h with
 |mk e1 e2 e3 l _ ih=>exact .mk (e.tups hp _ _ e1) (e.res hp e2) (e.tups hp _ _ e3) l ih
theorem Kb.rrs{K:tT}{p:jC}{H H':Hp}{ts:List V}(e:Kb p H H')(hp:H p=some (.lst ts)){vs:List V}{rs:List R}(h:RRs K H vs rs):RRs K H' vs rs:=⟨h.len,fun i v r a b=>e.rr hp (h.at' i v r a b)⟩
def fR(l1 l2:jC):List (Str×V):=putF "names" (.ref l2) (putF "founds" (.ref l1) [])
theorem zbI(l1 l2:jC):(fR l1 l2).lookup ("names":Str)=some (.ref l2):=by
 unfold fR;rw[ZE,if_pos rfl]
theorem zfd(l1 l2:jC):(fR l1 l2).lookup ("founds":Str)=some (.ref l1):=by
 unfold fR;rw[ZE,if_neg (by decide),ZE,if_pos rfl]
theorem zl6(l1 l2:jC):(fR l1 l2).lookup ("look":Str)=none:=by
 unfold fR;rw[ZE,if_neg (by decide),ZE,if_neg (by decide)]
 rfl
structure G(l:jC)(H H':Hp):Prop where
 k:Kb l H H'
 l:∃xs,H l=some (.lst xs)
structure Rn(K:tT)(AR:jC)(fs:List Res)(rp l1 l:jC)(H:Hp)(ns:Ns):Prop where
 ins:∃dx,H rp=some (.ins AR dx (fR l1 l))
 fo:∃us,H l1=some (.lst us)/\us.length=fs.length/\∀(i:Nat)(u:V)(r:Res),us[i]?=some u->fs[i]?=some r->RRes K H u r
 na:H l=some (.lst (ns.map V.str))
 ne:l1≠l
 few:fs.length<=1000
section
variable{K:tT}{AR rp l1 l:jC}{fs:List Res}{H H1 H2:Hp}{ns:Ns}
theorem G.trans(a:G l H H1)(b:G l H1 H2):G l H H2:=⟨fun c o hc e=>b.k c o hc (a.k c o hc e),a.l⟩
theorem G.same(a:G l H H1)(b:Same H1 H2):G l H H2:=⟨fun c o hc e=>b c o (a.k c o hc e),a.l⟩
theorem Rn.g(r:Rn K AR fs rp l1 l H ns)(s:Same H H1):G l H H1:=⟨fun c o _ e=>s c o e,_,r.na⟩
theorem Rn.same(r:Rn K AR fs rp l1 l H ns)(s:Same H H1):Rn K AR fs rp l1 l H1 ns:=by
 obtain⟨dx,e1⟩:=r.ins;obtain⟨us,e2,e3,e4⟩:=r.fo;exact⟨⟨dx,s _ _ e1⟩,⟨us,s _ _ e2,e3,fun i u r a b=>(e4 i u r a b).mono s⟩,s _ _ r.na,r.ne,r.few⟩
theorem G.ts(g:G l H H1):Tups H H1:=let ⟨_,e⟩:=g.l;g.k.tups e
theorem G.t(g:G l H H1){a:jC}{vs:List V}(e:H a=some (.tup vs)):H1 a=some (.tup vs):=g.ts a vs e
theorem G.d(g:G l H H1){a:jC}{kvs:List (Key×V)}(e:H a=some (.dK kvs)):H1 a=some (.dK kvs):=by
 obtain⟨_,e'⟩:=g.l;exact g.k _ _ (fun z=>by rw[z,e'] at e;cases e) e
theorem G.rr(g:G l H H1){v:V}{r:R}(h:RR K H v r):RR K H1 v r:=let ⟨_,e⟩:=g.l;g.k.rr e h
theorem G.rrs(g:G l H H1){vs:List V}{rs:List R}(h:RRs K H vs rs):RRs K H1 vs rs:=let ⟨_,e⟩:=g.l;g.k.rrs e h
theorem G.sq(g:G l H H1){a:jC}{xs:List V}(h:SqT K H a xs):SqT K H1 a xs:=let ⟨_,e⟩:=g.l;g.k.seqT e h
theorem G.env(g:G l H H1){kvs:List (Key×V)}{e:Env}(h:EnvR H kvs e):EnvR H1 kvs e:=fun z x hx=>let ⟨v,h1,h2⟩:=h z x hx;⟨v,h1,h2.mono g.ts⟩
end
inductive spG(K:tT)(AR:jC)(n:Nat)(pre:Ex->Prop)(vs:List V)(H:Hp)(Q:VK)(z3:XK):Prop
 |mk (fs:List Res) (rp l1 l:jC) (u:V) (bd:jC) (kvs:List (Key×V)) (e:Env) (x:Ex) (ns:Ns) (_:vs=[.ref rp,u,.ref bd]) (_:Rn K AR fs rp l1 l H ns) (_:RW H u x.toW) (_:H bd=some (.dK kvs)) (_:kvs.length+2*n<=1000) (_:EnvR H kvs e) (_:x.high<=n) (_:Fine fs x e ns) (_:pre x) (_:∀(v:V)(H':Hp),G l H H'->Rn K AR fs rp l1 l H' (ev fs x e ns).2->RR K H' v (ev fs x e ns).1->Q v H')
inductive spLook(K:tT)(AR:jC)(vs:List V)(H:Hp)(Q:VK)(z3:XK):Prop
 |mk (fs:List Res) (rp l1 l:jC) (z:Str) (ns:Ns) (_:vs=[.ref rp,.str z]) (_:Rn K AR fs rp l1 l H ns) (_:ns.length<=1000) (_:∀(v:V)(H':Hp),G l H H'->Rn K AR fs rp l1 l H' (ns++[z])->RRes K H' v (found fs ns.length)->Q v H')
section
variable{fs:List Res}{s t z:Str}{a b c:Ex}{e:Env}{ns:Ns}{x:W}{w:List W}{i:Int}
theorem zf3(h:(ev fs a e ns).1.res=.made x):ev fs (.letE s a b) e ns=(.mk (ev fs b (put e s x) (ev fs a e ns).2).1.res [(ev fs a e ns).1,(ev fs b (put e s x) (ev fs a e ns).2).1],(ev fs b (put e s x) (ev fs a e ns).2).2):=by rw[ev,h]
theorem zf4(h:(ev fs a e ns).1.res.isMade=false):ev fs (.letE s a b) e ns=(.mk (ev fs a e ns).1.res [(ev fs a e ns).1],(ev fs a e ns).2):=by
 rw[ev];cases hr:(ev fs a e ns).1.res with
 |made x=>rw[hr] at h;cases h
 |wrong ws=>rfl
 |stop=>rfl
theorem ziV(h:(ev fs a e ns).1.res.isMade=false):ev fs (.ifE a b c) e ns=(.mk (ev fs a e ns).1.res [(ev fs a e ns).1],(ev fs a e ns).2):=by
 rw[ev];cases hr:(ev fs a e ns).1.res with
 |made x=>rw[hr] at h;cases h
 |wrong ws=>rfl
 |stop=>rfl
theorem ziW(h:(ev fs a e ns).1.res=.made (.num 0)):ev fs (.ifE a b c) e ns=(.mk (ev fs c e (ev fs a e ns).2).1.res [(ev fs a e ns).1,(ev fs c e (ev fs a e ns).2).1],(ev fs c e (ev fs a e ns).2).2):=by rw[ev,h];rfl
theorem ziX(h:(ev fs a e ns).1.res=.made (.num i))(hi:i≠0):ev fs (.ifE a b c) e ns=(.mk (ev fs b e (ev fs a e ns).2).1.res [(ev fs a e ns).1,(ev fs b e (ev fs a e ns).2).1],(ev fs b e (ev fs a e ns).2).2):=by
 rw[ev,h];exact if_neg hi
theorem zfe(h:(ev fs a e ns).1.res=.made x)(hx:Zw x=false):ev fs (.ifE a b c) e ns=(.mk (.wrong [.txt "kind",.txt ""]) [(ev fs a e ns).1],(ev fs a e ns).2):=by
 rw[ev,h];cases x with
 |num i=>cases hx
 |txt _=>rfl
 |lst _=>rfl
theorem zem(h:(ev fs a e ns).1.res=.wrong w):ev fs (.elseE a b) e ns=(.mk (ev fs b e (ev fs a e ns).2).1.res [(ev fs a e ns).1,(ev fs b e (ev fs a e ns).2).1],(ev fs b e (ev fs a e ns).2).2):=by rw[ev,h]
theorem za0(h:∀w,(ev fs a e ns).1.res≠.wrong w):ev fs (.elseE a b) e ns=(.mk (ev fs a e ns).1.res [(ev fs a e ns).1],(ev fs a e ns).2):=by
 rw[ev];cases hr:(ev fs a e ns).1.res with
 |made x=>rfl
 |wrong ws=>exact absurd hr (h ws)
 |stop=>rfl
theorem zf5(h:(ev fs a e ns).1.res=.made x):ev fs (.cryE a) e ns=(.mk (.wrong [.txt "cried",x]) [(ev fs a e ns).1],(ev fs a e ns).2):=by rw[ev,h]
theorem zf6(h:(ev fs a e ns).1.res.isMade=false):ev fs (.cryE a) e ns=(.mk (ev fs a e ns).1.res [(ev fs a e ns).1],(ev fs a e ns).2):=by
 rw[ev];cases hr:(ev fs a e ns).1.res with
 |made x=>rw[hr] at h;cases h
 |wrong ws=>rfl
 |stop=>rfl
theorem zen(h:(ev fs a e ns).1.res=.made (.txt z)):ev fs (.lookE a) e ns=(.mk (found fs (ev fs a e ns).2.length) [(ev fs a e ns).1],(ev fs a e ns).2++[z]):=by rw[ev,h]
theorem zeo(h:(ev fs a e ns).1.res.isMade=false):ev fs (.lookE a) e ns=(.mk (ev fs a e ns).1.res [(ev fs a e ns).1],(ev fs a e ns).2):=by
 rw[ev];cases hr:(ev fs a e ns).1.res with
 |made x=>rw[hr] at h;cases h
 |wrong ws=>rfl
 |stop=>rfl
theorem zbJ(h:(ev fs a e ns).1.res=.made x)(hx:∀z,x≠.txt z):ev fs (.lookE a) e ns=(.mk (.wrong [.txt "kind",.txt ""]) [(ev fs a e ns).1],(ev fs a e ns).2):=by
 rw[ev,h];cases x with
 |num i=>rfl
 |txt z=>exact absurd rfl (hx z)
 |lst _=>rfl
end
theorem ziY:FnScope ["run","expression","bound"] ["run","expression","bound"] (zq zdY):=mkSc rfl (by decide +kernel)
theorem ziZ(F:Fun K "go_lit" "go_lit" zdY f fd):qF P w K mg base k f fd qL0 (spG K ARun (n+1) (fun x=>∃y,x=.lit y)):=by
 refine F.okQ ziY (by rintro _ _ _ _ ⟨_,_,_,_,_,_,_,_,_,_,rfl,_⟩;rfl) fun _ _ _ _ H vs Q E hr h=>?_;obtain⟨fs,rp,l1,l,u,bd,kvs,e,x,ns,rfl,rn,ru,hb,hk,he,hh,hf,⟨y,rfl⟩,q⟩:=h;obtain⟨a,vs,rfl,ea,hw⟩:=ru.tup;obtain⟨u0,us,rfl,r0,hw⟩:=hw.cons;obtain⟨u1,us,rfl,r1,hw⟩:=hw.cons;cases hw.nil';refine⟨_,(zo (zt (zG (zc (zG (zc zr (zc (zF zK (pv 1) zn (fun _ _=>rfl)) zi))) (zc (zG zi) zi))))),?_⟩;refine⟨_,rfl,a,_,1,_,rfl,rfl,Sq ea,rfl,zl2,fun p hp=>⟨zl0,fun p2 hp2=>⟨zl2,fun p3 hp3=>?_⟩⟩⟩;have s1:=Sn (o:=.tup [.str "made",u1]) hp;have s2:=Sn (o:=.tup []) hp2;have s3:=Sn (o:=.tup [.ref p,.ref p2]) hp3;have s13:=(s1.trans s2).trans s3;exact q _ _ (rn.g s13) (rn.same s13) (RRs.nil.rr zj ⟨p,u1,rfl,Sq ((s2.trans s3) _ _ zj),r1.mono (zx s13)⟩ (s3 _ _ zj))
theorem zi0:FnScope ["run","expression","bound"] ["run","expression","bound"] (zq zdZ):=mkSc rfl (by decide +kernel)
theorem zi1(F:Fun K "go_var" "go_var" zdZ f fd):qF P w K mg base k f fd qL0 (spG K ARun (n+1) (fun x=>∃s,x=.var s)):=by
 refine F.okQ zi0 (by rintro _ _ _ _ ⟨_,_,_,_,_,_,_,_,_,_,rfl,_⟩;rfl) fun _ _ _ _ H vs Q E hr h=>?_;obtain⟨fs,rp,l1,l,u,bd,kvs,e,x,ns,rfl,rn,ru,hb,hk,he,hh,hf,⟨z,rfl⟩,q⟩:=h;obtain⟨x0,hf⟩:∃x,e z=some x:=by simpa only [Fine] using hf
 obtain⟨a,vs,rfl,ea,hw⟩:=ru.tup;obtain⟨u0,us,rfl,r0,hw⟩:=hw.cons;obtain⟨u1,us,rfl,r1,hw⟩:=hw.cons;cases hw.nil';cases r1.str;obtain⟨v,hv,rv⟩:=he z x0 hf;refine⟨_,(zo (zt (zG (zc (zG (zc zr (zc (zfE (zmL hr) (pv 2) (zF zK (pv 1) zn (fun _ _=>rfl)) (fun _ _=>rfl)) zi))) (zc (zG zi) zi))))),?_⟩;refine⟨_,rfl,_,rfl,a,_,1,_,rfl,rfl,Sq ea,rfl,bd,v,rfl,by rw[←hv];exact DGet.k (k:=.inr z) hb,zl2,fun p hp=>⟨zl0,fun p2 hp2=>⟨zl2,fun p3 hp3=>?_⟩⟩⟩;have s1:=Sn (o:=.tup [.str "made",v]) hp;have s2:=Sn (o:=.tup []) hp2;have s3:=Sn (o:=.tup [.ref p,.ref p2]) hp3;have s13:=(s1.trans s2).trans s3;have hev:ev fs (.var z) e ns=(.mk (.made x0) [],ns):=by rw[ev,hf];rfl
 rw[hev] at q;exact q _ _ (rn.g s13) (rn.same s13) (RRs.nil.rr zj ⟨p,v,rfl,Sq ((s2.trans s3) _ _ zj),rv.mono (zx s13)⟩ (s3 _ _ zj))
theorem zc1:FnScope ["run","expression","bound","first","inner"] ["run","expression","bound"] (zq zd0):=mkSc rfl (by decide +kernel)
theorem zi2(F:Fun K "go_let" "go_let" zd0 f fd)(G_as_last:Have P w K mg base "as_last" k qL5 (spAsLast K))(G_record_of:Have P w K mg base "record_of" k qL0 (spG K ARun n (fun _=>True)))(G_binding:Have P w K mg base "binding" k qL16 (spBind))(G_worth_of:Have P w K mg base "worth_of" k qL4 (spWorthOf K))(G_is_made:Have P w K mg base "is_made" k qL4 (spIsMade K)):qF P w K mg base k f fd qL0 (spG K ARun (n+1) (fun x=>∃s a b,x=.letE s a b)):=by
 refine F.okQ zc1 (by rintro _ _ _ _ ⟨_,_,_,_,_,_,_,_,_,_,rfl,_⟩;rfl) fun _ _ _ _ H vs Q E hr h=>?_;obtain⟨fs,rp,l1,l,u,bd,kvs,e,x,ns,rfl,rn,ru,hb,hk,he,hh,hf,⟨z,A1,B1,rfl⟩,q⟩:=h;rw[Ex.toW] at ru;rw[Ex.high] at hh;rw[Fine] at hf;obtain⟨a,vs,rfl,ea,hw⟩:=ru.tup;obtain⟨u0,us,rfl,r0,hw⟩:=hw.cons;obtain⟨u1,us,rfl,r1,hw⟩:=hw.cons;obtain⟨u2,us,rfl,r2,hw⟩:=hw.cons;obtain⟨u3,us,rfl,r3,hw⟩:=hw.cons;cases hw.nil';cases r1.str;refine⟨_,(zm (zC (i:=3) zc1.nd rfl (Or.inl rfl) (zy G_record_of hr rfl (zc (pv 0) (zc (zF zK (pv 1) zn (fun _ _=>rfl)) (zc (pv 2) zi)))))
  (zm (zN (Zh (zR (zy G_is_made hr rfl (zc (pv 3) zi)))) (zo (zt (zy G_as_last hr rfl (zc (zO (zc (pv 3) zi)) zi)))) zA)
  (zm (zC (i:=4) zc1.nd rfl (Or.inl rfl) (zy G_binding hr rfl (zc (pv 2) (zc (zF zK (pv 1) zn (fun _ _=>rfl)) (zc (zy G_worth_of hr rfl (zc (pv 3) zi)) zi)))))
  (zo (zt (zy G_as_last hr rfl (zc (zO (zc (pv 3) (zc (zy G_record_of hr rfl (zc (pv 0) (zc (zF zK (pv 1) zn (fun _ _=>rfl)) (zc (pv 4) zi)))) zi))) zi))))))),nm4 ?_⟩
 intros;refine⟨_,rfl,_,rfl,a,_,2,_,rfl,rfl,Sq ea,rfl,_,rfl,fs,rp,l1,l,u2,bd,kvs,e,A1,ns,rfl,rn,r2,hb,by lia,he,by lia,hf.1,trivial,fun v1 H1 g1 rn1 rr1=>?_⟩;refine⟨_,rfl,v1,(ev fs A1 e ns).1,rfl,rr1,_,rfl,?_⟩;cases hm:(ev fs A1 e ns).1.res.isMade with
 |false=>
  refine iteT ⟨_,rfl,zl1,fun p hp=>?_⟩;have s2:=Sn (o:=.lst [v1]) hp;rw[zf4 hm] at q;exact⟨p,[v1],[(ev fs A1 e ns).1],(ev fs A1 e ns).1,rfl,zj,RRs.one (rr1.mono s2),rfl,fun v H' s3 rr=>q v H' (g1.same (s2.trans s3)) (rn1.same (s2.trans s3)) rr⟩
 |true=>
  obtain⟨x,hres⟩:∃x,(ev fs A1 e ns).1.res=.made x:=by
   cases hr:(ev fs A1 e ns).1.res with
   |made x=>exact⟨x,rfl⟩
   |wrong _=>rw[hr] at hm;cases hm
   |stop=>rw[hr] at hm;cases hm
  rw[zf3 hres] at q;refine iteF ⟨_,rfl,_,rfl,a,_,1,_,rfl,rfl,Sq (g1.t ea),rfl,_,rfl,v1,(ev fs A1 e ns).1,x,rfl,rr1,hres,fun ux rx=>?_⟩;refine⟨bd,z,ux,kvs,rfl,g1.d hb,by lia,fun p H2 s2 hp=>?_⟩;have g12:=g1.same s2;have hl:=zaC kvs (.inr z) ux;refine⟨_,rfl,_,rfl,_,rfl,a,_,3,_,rfl,rfl,Sq (g12.t ea),rfl,_,rfl,fs,rp,l1,l,u3,p,_,put e z x,B1,_,rfl,rn1.same s2,r3.mono g12.ts,hp,by lia,((g12.env he).put (rx.mono (zx s2))),by lia,hf.2 x hres,trivial,fun v2 H3 g3 rn3 rr2=>⟨zl2,fun p4 hp4=>?_⟩⟩;have s4:=Sn (o:=.lst [v1,v2]) hp4;exact⟨p4,[v1,v2],[(ev fs A1 e ns).1,_],_,rfl,zj,RRs.two ((g3.rr (rr1.mono s2)).mono s4) (rr2.mono s4),rfl,fun v H' s5 rr=>q v H' ((g12.trans g3).same (s4.trans s5)) (rn3.same (s4.trans s5)) rr⟩
theorem ZP{r:Res}(h:r.isMade=true):∃x,r=.made x:=by
 cases r with
 |made x=>exact⟨x,rfl⟩
 |wrong _=>cases h
 |stop=>cases h
theorem RW.tyW{K:tT}{H:Hp}{v:V}{x:W}(h:RW H v x):TyOf K H v (.type (tnW x)):=by
 cases h with
 |num i=>exact .int i
 |txt z=>exact .str z
 |lst e _ _=>exact .tup e
theorem zff:FnScope ["run","expression","bound","first"] ["run","expression","bound"] (zq zd1):=mkSc rfl (by decide +kernel)
theorem zi3(F:Fun K "go_cry" "go_cry" zd1 f fd)(G_worth_of:Have P w K mg base "worth_of" k qL4 (spWorthOf K))(G_is_made:Have P w K mg base "is_made" k qL4 (spIsMade K))(G_as_last:Have P w K mg base "as_last" k qL5 (spAsLast K))(G_record_of:Have P w K mg base "record_of" k qL0 (spG K ARun n (fun _=>True))):qF P w K mg base k f fd qL0 (spG K ARun (n+1) (fun x=>∃a,x=.cryE a)):=by
 refine F.okQ zff (by rintro _ _ _ _ ⟨_,_,_,_,_,_,_,_,_,_,rfl,_⟩;rfl) fun _ _ _ _ H vs Q E hr h=>?_;obtain⟨fs,rp,l1,l,u,bd,kvs,e,x,ns,rfl,rn,ru,hb,hk,he,hh,hf,⟨A1,rfl⟩,q⟩:=h;rw[Ex.toW] at ru;rw[Ex.high] at hh;rw[Fine] at hf;obtain⟨a,vs,rfl,ea,hw⟩:=ru.tup;obtain⟨u0,us,rfl,r0,hw⟩:=hw.cons;obtain⟨u1,us,rfl,r1,hw⟩:=hw.cons;cases hw.nil';refine⟨_,(zm (zC (i:=3) zff.nd rfl (Or.inl rfl) (zy G_record_of hr rfl (zc (pv 0) (zc (zF zK (pv 1) zn (fun _ _=>rfl)) (zc (pv 2) zi)))))
  (zm (zN (Zh (zR (zy G_is_made hr rfl (zc (pv 3) zi)))) (zo (zt (zy G_as_last hr rfl (zc (zO (zc (pv 3) zi)) zi)))) zA)
  (zo (zt (zG (zc (zG (zc zr (zc zr (zc (zy G_worth_of hr rfl (zc (pv 3) zi)) zi)))) (zc (zG (zc (pv 3) zi)) zi))))))),nm3 ?_⟩
 intros;refine⟨_,rfl,_,rfl,a,_,1,_,rfl,rfl,Sq ea,rfl,_,rfl,fs,rp,l1,l,u1,bd,kvs,e,A1,ns,rfl,rn,r1,hb,by lia,he,by lia,hf,trivial,fun v1 H1 g1 rn1 rr1=>?_⟩;refine⟨_,rfl,v1,(ev fs A1 e ns).1,rfl,rr1,_,rfl,?_⟩;cases hm:(ev fs A1 e ns).1.res.isMade with
 |false=>
  refine iteT ⟨_,rfl,zl1,fun p hp=>?_⟩;have s2:=Sn (o:=.lst [v1]) hp;rw[zf6 hm] at q;exact⟨p,[v1],[(ev fs A1 e ns).1],(ev fs A1 e ns).1,rfl,zj,RRs.one (rr1.mono s2),rfl,fun v H' s3 rr=>q v H' (g1.same (s2.trans s3)) (rn1.same (s2.trans s3)) rr⟩
 |true=>
  obtain⟨x,hres⟩:=ZP hm;rw[zf5 hres] at q;refine iteF ⟨_,rfl,v1,(ev fs A1 e ns).1,x,rfl,rr1,hres,fun ux rx=>⟨zl3,fun p hp=>⟨_,rfl,zl1,fun p2 hp2=>⟨zl2,fun p3 hp3=>?_⟩⟩⟩⟩;have s2:=Sn (o:=.tup [.str "wrong",.str "cried",ux]) hp;have s3:=Sn (o:=.tup [v1]) hp2;have s4:=Sn (o:=.tup [.ref p,.ref p2]) hp3;have s24:=(s2.trans s3).trans s4;refine q _ _ (g1.same s24) (rn1.same s24) ?_;exact (RRs.one (rr1.mono s24)).rr zj (show RS K _ _ _ from RS.three (Sq ((s3.trans s4) _ _ zj)) (.txt _) (.txt _) (rx.mono (zx s24)).toRS) (s4 _ _ zj)
theorem zdB:FnScope ["run","expression","bound","first"] ["run","expression","bound"] (zq zcP):=mkSc rfl (by decide +kernel)
theorem zhr(F:Fun K "go_else" "go_else" zcP f fd)(G_as_last:Have P w K mg base "as_last" k qL5 (spAsLast K))(G_record_of:Have P w K mg base "record_of" k qL0 (spG K ARun n (fun _=>True)))(G_is_made:Have P w K mg base "is_made" k qL4 (spIsMade K)):qF P w K mg base k f fd qL0 (spG K ARun (n+1) (fun x=>∃a b,x=.elseE a b)):=by
 refine F.okQ zdB (by rintro _ _ _ _ ⟨_,_,_,_,_,_,_,_,_,_,rfl,_⟩;rfl) fun _ _ _ _ H vs Q E hr h=>?_;obtain⟨fs,rp,l1,l,u,bd,kvs,e,x,ns,rfl,rn,ru,hb,hk,he,hh,hf,⟨A1,B1,rfl⟩,q⟩:=h;rw[Ex.toW] at ru;rw[Ex.high] at hh;rw[Fine] at hf;obtain⟨a,vs,rfl,ea,hw⟩:=ru.tup;obtain⟨u0,us,rfl,r0,hw⟩:=hw.cons;obtain⟨u1,us,rfl,r1,hw⟩:=hw.cons;obtain⟨u2,us,rfl,r2,hw⟩:=hw.cons;cases hw.nil';refine⟨_,(zm (zC (i:=3) zdB.nd rfl (Or.inl rfl) (zy G_record_of hr rfl (zc (pv 0) (zc (zF zK (pv 1) zn (fun _ _=>rfl)) (zc (pv 2) zi)))))
  (zm (zN (PW.pt (zaM (zb6 (zb5 (zF zK (pv 3) zn (fun _ _=>rfl)))) (zae (zR (zy G_is_made hr rfl (zc (pv 3) zi)))))) (zo (zt (zy G_as_last hr rfl (zc (zO (zc (pv 3) zi)) zi)))) zA)
  (zo (zt (zy G_as_last hr rfl (zc (zO (zc (pv 3) (zc (zy G_record_of hr rfl (zc (pv 0) (zc (zF zK (pv 1) zn (fun _ _=>rfl)) (zc (pv 2) zi)))) zi))) zi)))))),nm3 ?_⟩
 intros;refine⟨_,rfl,_,rfl,a,_,1,_,rfl,rfl,Sq ea,rfl,_,rfl,fs,rp,l1,l,u1,bd,kvs,e,A1,ns,rfl,rn,r1,hb,by lia,he,by lia,hf.1,trivial,fun v1 H1 g1 rn1 rr1=>?_⟩;obtain⟨a1,b1,rv1,ev1,ea1,rres1⟩:=rr1.res;subst ev1;cases hres:(ev fs A1 e ns).1.res with
 |stop=>
  rw[hres] at rres1;obtain rfl:rv1=.non:=rres1;refine⟨_,rfl,a1,_,0,_,rfl,rfl,Sq ea1,rfl,_,rfl,iteT ?_⟩;refine⟨_,rfl,zl1,fun p hp=>?_⟩;have s2:=Sn (o:=.lst [.ref a1]) hp;rw[za0 (fun w z=>by rw[hres] at z;cases z)] at q;exact⟨p,[.ref a1],[(ev fs A1 e ns).1],(ev fs A1 e ns).1,rfl,zj,RRs.one (rr1.mono s2),rfl,fun v H' s3 rr=>q v H' (g1.same (s2.trans s3)) (rn1.same (s2.trans s3)) rr⟩
 |made x=>
  obtain⟨c1,us1,rfl,ec1⟩:=rres1.word (by rw[hres];exact fun z=>nomatch z);refine⟨_,rfl,a1,_,0,_,rfl,rfl,Sq ea1,rfl,_,rfl,iteF ⟨_,rfl,_,(ev fs A1 e ns).1,rfl,rr1,_,rfl,?_⟩⟩;rw[hres];refine iteT ⟨_,rfl,zl1,fun p hp=>?_⟩;have s2:=Sn (o:=.lst [.ref a1]) hp;rw[za0 (fun w z=>by rw[hres] at z;cases z)] at q;exact⟨p,[.ref a1],[(ev fs A1 e ns).1],(ev fs A1 e ns).1,rfl,zj,RRs.one (rr1.mono s2),rfl,fun v H' s3 rr=>q v H' (g1.same (s2.trans s3)) (rn1.same (s2.trans s3)) rr⟩
 |wrong ws=>
  obtain⟨c1,us1,rfl,ec1⟩:=rres1.word (by rw[hres];exact fun z=>nomatch z);refine⟨_,rfl,a1,_,0,_,rfl,rfl,Sq ea1,rfl,_,rfl,iteF ⟨_,rfl,_,(ev fs A1 e ns).1,rfl,rr1,_,rfl,?_⟩⟩;rw[hres];rw[zem hres] at q;refine iteF ⟨_,rfl,_,rfl,_,rfl,a,_,2,_,rfl,rfl,Sq (g1.t ea),rfl,_,rfl,fs,rp,l1,l,u2,bd,kvs,e,B1,_,rfl,rn1,r2.mono g1.ts,g1.d hb,by lia,g1.env he,by lia,hf.2 ws hres,trivial,fun v2 H3 g3 rn3 rr2=>⟨zl2,fun p hp=>?_⟩⟩;have s4:=Sn (o:=.lst [.ref a1,v2]) hp;exact⟨p,[.ref a1,v2],[(ev fs A1 e ns).1,_],_,rfl,zj,RRs.two ((g3.rr rr1).mono s4) (rr2.mono s4),rfl,fun v H' s5 rr=>q v H' ((g1.trans g3).same (s4.trans s5)) (rn3.same (s4.trans s5)) rr⟩
theorem zep:FnScope ["run","expression","bound","first","branch"] ["run","expression","bound"] (zq zfJ):=mkSc rfl (by decide +kernel)
theorem zka(F:Fun K "go_if" "go_if" zfJ f fd)(G_as_last:Have P w K mg base "as_last" k qL5 (spAsLast K))(G_record_of:Have P w K mg base "record_of" k qL0 (spG K ARun n (fun _=>True)))(G_worth_of:Have P w K mg base "worth_of" k qL4 (spWorthOf K))(G_is_number:Have P w K mg base "is_number" k qL3 (spIsNum))(G_is_made:Have P w K mg base "is_made" k qL4 (spIsMade K)){g_KIND:jC}(m_KIND:mg "KIND"=some (.ref g_KIND))(t_KIND:∀H:Hp,SqT K H g_KIND [.str "wrong",.str "kind",.str ""]):qF P w K mg base k f fd qL0 (spG K ARun (n+1) (fun x=>∃a b c,x=.ifE a b c)):=by
 refine F.okQ zep (by rintro _ _ _ _ ⟨_,_,_,_,_,_,_,_,_,_,rfl,_⟩;rfl) fun _ _ _ _ H vs Q E hr h=>?_;obtain⟨fs,rp,l1,l,u,bd,kvs,e,x,ns,rfl,rn,ru,hb,hk,he,hh,hf,⟨A1,B1,C1,rfl⟩,q⟩:=h;rw[Ex.toW] at ru;rw[Ex.high] at hh;rw[Fine] at hf;obtain⟨a,vs,rfl,ea,hw⟩:=ru.tup;obtain⟨u0,us,rfl,r0,hw⟩:=hw.cons;obtain⟨u1,us,rfl,r1,hw⟩:=hw.cons;obtain⟨u2,us,rfl,r2,hw⟩:=hw.cons;obtain⟨u3,us,rfl,r3,hw⟩:=hw.cons;cases hw.nil';refine⟨_,(zm (zC (i:=3) zep.nd rfl (Or.inl rfl) (zy G_record_of hr rfl (zc (pv 0) (zc (zF zK (pv 1) zn (fun _ _=>rfl)) (zc (pv 2) zi)))))
  (zm (zN (Zh (zR (zy G_is_made hr rfl (zc (pv 3) zi)))) (zo (zt (zy G_as_last hr rfl (zc (zO (zc (pv 3) zi)) zi)))) zA)
  (zm (zN (Zh (zR (zy G_is_number hr rfl (zc (zy G_worth_of hr rfl (zc (pv 3) zi)) zi)))) (zo (zt (zG (zc (Zf (v:=.ref g_KIND) rfl m_KIND rfl) (zc (zG (zc (pv 3) zi)) zi))))) zA)
  (zm (zC (i:=4) zep.nd rfl (Or.inl rfl) (ZB (zE zeD (zy G_worth_of hr rfl (zc (pv 3) zi)) zn (nomark _)) (zF zK (pv 1) zn (fun _ _=>rfl)) (zF zK (pv 1) zn (fun _ _=>rfl))))
  (zo (zt (zy G_as_last hr rfl (zc (zO (zc (pv 3) (zc (zy G_record_of hr rfl (zc (pv 0) (zc (pv 4) (zc (pv 2) zi)))) zi))) zi)))))))),nm5 ?_⟩
 intros;refine⟨_,rfl,_,rfl,a,_,1,_,rfl,rfl,Sq ea,rfl,_,rfl,fs,rp,l1,l,u1,bd,kvs,e,A1,ns,rfl,rn,r1,hb,by lia,he,by lia,hf.1,trivial,fun v1 H1 g1 rn1 rr1=>?_⟩;refine⟨_,rfl,v1,(ev fs A1 e ns).1,rfl,rr1,_,rfl,?_⟩;cases hm:(ev fs A1 e ns).1.res.isMade with
 |false=>
  refine iteT ⟨_,rfl,zl1,fun p hp=>?_⟩;have s2:=Sn (o:=.lst [v1]) hp;rw[ziV hm] at q;exact⟨p,[v1],[(ev fs A1 e ns).1],(ev fs A1 e ns).1,rfl,zj,RRs.one (rr1.mono s2),rfl,fun v H' s3 rr=>q v H' (g1.same (s2.trans s3)) (rn1.same (s2.trans s3)) rr⟩
 |true=>
  obtain⟨x,hres⟩:=ZP hm;refine iteF ⟨_,rfl,v1,(ev fs A1 e ns).1,x,rfl,rr1,hres,fun ux rx=>⟨ux,x.toT,rfl,rx.toRT,_,rfl,?_⟩⟩;rw[zfa];cases hn:Zw x with
  |false=>
   refine iteT ⟨_,rfl,zl1,fun p2 hp2=>⟨zl2,fun p3 hp3=>?_⟩⟩;have s3:=Sn (o:=.tup [v1]) hp2;have s4:=Sn (o:=.tup [.ref g_KIND,.ref p2]) hp3;have s24:=s3.trans s4;rw[zfe hres hn] at q;exact q _ _ (g1.same s24) (rn1.same s24) ((RRs.one (rr1.mono s24)).rr zj (show RS K _ _ _ from RS.three (t_KIND _) (.txt _) (.txt _) (.txt _)) (s4 _ _ zj))
  |true=>
   cases x with
   |txt _=>cases hn
   |lst _=>cases hn
   |num i=>
    have hfi:=hf.2 i hres;refine iteF ⟨_,rfl,v1,(ev fs A1 e ns).1,.num i,rfl,rr1,hres,fun ux2 rx2=>?_⟩;cases rx2;refine⟨rfl,_,rfl,?_⟩;refine ite2 (fun c=>?_) (fun c=>?_)
    ·have hi:i≠0:=fun z=>by rw[z] at c;cases c
     rw[ziX hres hi] at q;refine⟨_,rfl,a,_,2,_,rfl,rfl,Sq (g1.t ea),rfl,?_⟩;refine⟨_,rfl,_,rfl,_,rfl,_,rfl,fs,rp,l1,l,u2,bd,kvs,e,B1,_,rfl,rn1,r2.mono g1.ts,g1.d hb,by lia,g1.env he,by lia,hfi.1 hi,trivial,fun v2 H3 g3 rn3 rr2=>⟨zl2,fun p hp=>?_⟩⟩;have s4:=Sn (o:=.lst [v1,v2]) hp;exact⟨p,[v1,v2],[(ev fs A1 e ns).1,_],_,rfl,zj,RRs.two ((g3.rr rr1).mono s4) (rr2.mono s4),rfl,fun v H' s5 rr=>q v H' ((g1.trans g3).same (s4.trans s5)) (rn3.same (s4.trans s5)) rr⟩
    ·have hi:i=0:=by
      apply Classical.byContradiction;intro z;exact c (by rw[decide_eq_false (by simpa using z)];rfl)
     subst hi;rw[ziW hres] at q;refine⟨_,rfl,a,_,3,_,rfl,rfl,Sq (g1.t ea),rfl,?_⟩;refine⟨_,rfl,_,rfl,_,rfl,_,rfl,fs,rp,l1,l,u3,bd,kvs,e,C1,_,rfl,rn1,r3.mono g1.ts,g1.d hb,by lia,g1.env he,by lia,hfi.2 rfl,trivial,fun v2 H3 g3 rn3 rr2=>⟨zl2,fun p hp=>?_⟩⟩;have s4:=Sn (o:=.lst [v1,v2]) hp;exact⟨p,[v1,v2],[(ev fs A1 e ns).1,_],_,rfl,zj,RRs.two ((g3.rr rr1).mono s4) (rr2.mono s4),rfl,fun v H' s5 rr=>q v H' ((g1.trans g3).same (s4.trans s5)) (rn3.same (s4.trans s5)) rr⟩
theorem zf7:FnScope ["self","name"] ["self","name"] (zq zaj):=mkSc rfl (by decide +kernel)
theorem zf8(F:Fun K "look" "Run.look" zaj f fd)(m_len:mg "len"=none)(clR:Cls K ARun)(nF:zaP K ARun "founds")(nN:zaP K ARun "names"):qF P w K mg base k f fd ["self","name"] (spLook K ARun):=by
 refine F.okQ zf7 (by rintro _ _ _ _ ⟨_,_,_,_,_,_,rfl,_⟩;rfl) fun _ _ _ _ H vs Q E hr h=>?_;obtain⟨fs,rp,l1,l,z,ns,rfl,rn,hns,q⟩:=h;obtain⟨dx,hins⟩:=rn.ins;obtain⟨us,e1,hlen,hres⟩:=rn.fo;have na:=rn.na;refine⟨_,(zm (ZW (zbx tO tQ tP ZM (zbu (pv 0) rfl) (zc (pv 1) zi)))
  (zm (zN (zE zdP (zw zL rfl m_len tG (zc (zbu (pv 0) rfl) zi)) (zw zL rfl m_len tG (zc (zbu (pv 0) rfl) zi)) (nomark _)) (zo (zt zbs)) zA)
  (zo (zt (zF zD (zbu (pv 0) rfl) (zJ Zk (zw zL rfl m_len tG (zc (zbu (pv 0) rfl) zi)) zn) (fun _ _=>rfl)))))),nm3 ?_⟩
 intros;refine⟨_,rfl,rp,ARun,dx,_,_,rfl,hins,clR,nN,zbI _ _,.inl ⟨rfl,_,Sl na⟩,_,rfl,l,_,.str z,rfl,rfl,na,zan (by rw[yB];lia),?_⟩;have kb:Kb l H (upd H l (.lst (ns.map V.str++[.str z]))):=Kb.put;have na1:upd H l (.lst (ns.map V.str++[.str z])) l=some (.lst (ns.map V.str++[.str z])):=zj;have hins1:=kb _ _ (fun c=>by rw[c,na] at hins;cases hins) hins;have e11:=kb _ _ rn.ne e1;have hres1:∀(i:Nat)(u:V)(r:Res),us[i]?=some u->fs[i]?=some r->RRes K (upd H l (.lst (ns.map V.str++[.str z]))) u r:=fun i u r a b=>kb.res na (hres i u r a b);have g:G l H (upd H l (.lst (ns.map V.str++[.str z]))):=⟨kb,_,na⟩;generalize upd H l (.lst (ns.map V.str++[.str z]))=H1 at na1 hins1 e11 hres1 g;have rn1:Rn K ARun fs rp l1 l H1 (ns++[z]):=⟨⟨dx,hins1⟩,⟨us,e11,hlen,hres1⟩,by rw[na1,xK];rfl,rn.ne,rn.few⟩;have hnl:(ns.map V.str++[V.str z]).length=ns.length+1:=by simp
 refine⟨_,rfl,rp,ARun,dx,_,_,rfl,hins1,clR,nN,zbI _ _,_,_,rfl,.inl ⟨_,Sl na1,rfl⟩,_,rfl,rp,ARun,dx,_,_,rfl,hins1,clR,nF,zfd _ _,_,_,rfl,.inl ⟨_,Sl e11,rfl⟩,_,_,rfl,rfl,_,rfl,?_⟩
 by_cases hgt:fs.length<ns.length+1
 ·rw[show decide (((us.length:Nat):Int)<(((ns.map V.str++[V.str z]).length:Nat):Int))=true from decide_eq_true (by rw[hnl];lia)]
  refine iteT (q _ _ g rn1 ?_);unfold found;rw[wO (by lia)]
  rfl
 ·rw[show decide (((us.length:Nat):Int)<(((ns.map V.str++[V.str z]).length:Nat):Int))=false from decide_eq_false (by rw[hnl];lia)]
  have hi:ns.length<us.length:=by lia
  have hi2:ns.length<fs.length:=by lia
  refine iteF ⟨_,rfl,rp,ARun,dx,_,_,rfl,hins1,clR,nF,zfd _ _,_,rfl,rp,ARun,dx,_,_,rfl,hins1,clR,nN,zbI _ _,_,_,rfl,.inl ⟨_,Sl na1,rfl⟩,_,_,rfl,rfl,l1,us,_,us[ns.length],rfl,rfl,Sl e11,?_,q _ _ g rn1 ?_⟩
  ·rw[hnl,show (((ns.length+1:Nat):Int)-1)=(ns.length:Int) by lia]
   exact zu (yA hi)
  ·unfold found
   rw[yA hi2];exact hres1 ns.length _ _ (yA hi) (yA hi2)
theorem zdC:FnScope ["run","expression","bound","first"] ["run","expression","bound"] (zq zcO):=mkSc rfl (by decide +kernel)
theorem zhs(F:Fun K "go_look" "go_look" zcO f fd)(G_Run_look:zdb P w K mg base ARun "look" k ["self","name"] (spLook K ARun))(G_worth_of:Have P w K mg base "worth_of" k qL4 (spWorthOf K))(G_is_made:Have P w K mg base "is_made" k qL4 (spIsMade K))(G_as_last:Have P w K mg base "as_last" k qL5 (spAsLast K))(G_record_of:Have P w K mg base "record_of" k qL0 (spG K ARun n (fun _=>True)))(m_isi:mg "isinstance"=none)(m_str:mg "str"=none){g_KIND:jC}(m_KIND:mg "KIND"=some (.ref g_KIND))(t_KIND:∀H:Hp,SqT K H g_KIND [.str "wrong",.str "kind",.str ""]):qF P w K mg base k f fd qL0 (spG K ARun (n+1) (fun x=>∃a,x=.lookE a)):=by
 refine F.okQ zdC (by rintro _ _ _ _ ⟨_,_,_,_,_,_,_,_,_,_,rfl,_⟩;rfl) fun _ _ _ _ H vs Q E hr h=>?_;obtain⟨fs,rp,l1,l,u,bd,kvs,e,x,ns,rfl,rn,ru,hb,hk,he,hh,hf,⟨A1,rfl⟩,q⟩:=h;rw[Ex.toW] at ru;rw[Ex.high] at hh;rw[Fine] at hf;obtain⟨a,vs,rfl,ea,hw⟩:=ru.tup;obtain⟨u0,us,rfl,r0,hw⟩:=hw.cons;obtain⟨u1,us,rfl,r1,hw⟩:=hw.cons;cases hw.nil';refine⟨_,(zm (zC (i:=3) zdC.nd rfl (Or.inl rfl) (zy G_record_of hr rfl (zc (pv 0) (zc (zF zK (pv 1) zn (fun _ _=>rfl)) (zc (pv 2) zi)))))
  (zm (zN (Zh (zR (zy G_is_made hr rfl (zc (pv 3) zi)))) (zo (zt (zy G_as_last hr rfl (zc (zO (zc (pv 3) zi)) zi)))) zA)
  (zm (zN (Zh (zR (zw Zv rfl m_isi zU (zc (zy G_worth_of hr rfl (zc (pv 3) zi)) (zc (ZY rfl m_str ZO) zi))))) (zo (zt (zG (zc (Zf (v:=.ref g_KIND) rfl m_KIND rfl) (zc (zG (zc (pv 3) zi)) zi))))) zA)
  (zo (zt (zG (zc (pe_m G_Run_look hr (pv 0) (zc (zy G_worth_of hr rfl (zc (pv 3) zi)) zi)) (zc (zG (zc (pv 3) zi)) zi)))))))),nm4 ?_⟩
 intros;refine⟨_,rfl,_,rfl,a,_,1,_,rfl,rfl,Sq ea,rfl,_,rfl,fs,rp,l1,l,u1,bd,kvs,e,A1,ns,rfl,rn,r1,hb,by lia,he,by lia,hf.1,trivial,fun v1 H1 g1 rn1 rr1=>?_⟩;refine⟨_,rfl,v1,(ev fs A1 e ns).1,rfl,rr1,_,rfl,?_⟩;cases hm:(ev fs A1 e ns).1.res.isMade with
 |false=>
  refine iteT ⟨_,rfl,zl1,fun p hp=>?_⟩;have s2:=Sn (o:=.lst [v1]) hp;rw[zeo hm] at q;exact⟨p,[v1],[(ev fs A1 e ns).1],(ev fs A1 e ns).1,rfl,zj,RRs.one (rr1.mono s2),rfl,fun v H' s3 rr=>q v H' (g1.same (s2.trans s3)) (rn1.same (s2.trans s3)) rr⟩
 |true=>
  obtain⟨x,hres⟩:=ZP hm;have kindC:(∀z,x≠.txt z)->∀(p2 p3:jC)(hp2:H1 p2=none)(hp3:upd H1 p2 (.tup [v1]) p3=none),Q (.ref p3) (upd (upd H1 p2 (.tup [v1])) p3 (.tup [.ref g_KIND,.ref p2])):=fun hx p2 p3 hp2 hp3=>by
   have s3:=Sn (o:=.tup [v1]) hp2;have s4:=Sn (o:=.tup [.ref g_KIND,.ref p2]) hp3;have s24:=s3.trans s4;rw[zbJ hres hx] at q;exact q _ _ (g1.same s24) (rn1.same s24) ((RRs.one (rr1.mono s24)).rr zj (show RS K _ _ _ from RS.three (t_KIND _) (.txt _) (.txt _) (.txt _)) (s4 _ _ zj))
  refine iteF ⟨_,rfl,v1,(ev fs A1 e ns).1,x,rfl,rr1,hres,fun ux rx=>⟨_,_,_,_,rfl,rx.tyW,isiS _,_,rfl,?_⟩⟩;cases x with
  |num i=>exact iteT ⟨_,rfl,zl1,fun p2 hp2=>⟨zl2,fun p3 hp3=>kindC (fun z c=>nomatch c) p2 p3 hp2 hp3⟩⟩
  |lst ws=>exact iteT ⟨_,rfl,zl1,fun p2 hp2=>⟨zl2,fun p3 hp3=>kindC (fun z c=>nomatch c) p2 p3 hp2 hp3⟩⟩
  |txt z=>
   rw[zen hres] at q;obtain⟨dx,hins⟩:=rn1.ins;refine iteF ⟨_,rfl,rp,dx,_,rfl,hins,zl6 _ _,_,rfl,v1,(ev fs A1 e ns).1,.txt z,rfl,rr1,hres,fun ux2 rx2=>?_⟩;obtain rfl:=rx2.str;refine⟨fs,rp,l1,l,z,_,rfl,rn1,hf.2,fun v2 H2 g2 rn2 rres=>⟨_,rfl,zl1,fun p2 hp2=>⟨zl2,fun p3 hp3=>?_⟩⟩⟩;have s3:=Sn (o:=.tup [v1]) hp2;have s4:=Sn (o:=.tup [v2,.ref p2]) hp3;have s24:=s3.trans s4;exact q _ _ ((g1.trans g2).same s24) (rn2.same s24) ((RRs.one ((g2.rr rr1).mono s24)).rr zj (rres.mono s24) (s4 _ _ zj))
end D
namespace L2
open PySem
def iSeq(K:tT)(tl:TE):TI:=fun σ H R=>zhH K tl σ H R\/iTup K tl σ H R
theorem zc2{X:Cx}{tg l:jE}{tl:TE}(hl:PE X l tl):PI X tg l (iSeq X.K tl):=fun pins s σ H R I h=>h.elim (fun h=>zac hl pins s σ H R I h) (fun h=>zct hl pins s σ H R I h)
theorem zfg{K:tT}{fr:List Nat}{te:TE}{σ:St}{H:Hp}{F:jC->Hp->List V->Prop}{a:jC}{vs:List V}(Pv:Nat->List V->Hp->Prop)(hS:SqL K H a vs)(hz:vs.length<=tI)(h0:Pv 0 [] H)(hlen:∀i us H1,Pv i us H1->us.length=i)
  (step:∀(i:Nat)(v:V)(us:List V)(H1:Hp)(R:VK),vs[i]?=some v->Pv i us H1->Same H H1->(∀y H2,Same H1 H2->Pv (i+1) (us++[y]) H2->R y H2)->te (some v::frees fr σ) H1 R)
  (fin:∀(us:List V)(H1:Hp)(D:jC),Pv vs.length us H1->Same H H1->H1 D=none->F D H1 us):
  ∃W:Nat->Nat->List V->Hp->Prop,(∃m,W 0 m [] H)/\∀i m vs H,W i m vs H->vs.length<=tI /\
   (((Itl K a).stop i H/\∀D,H D=none->F D H vs) \/
    ((Itl K a).go i H/\∀v H',(Itl K a).yld i H v H'->if true=true then te (some v::frees fr σ) H' fun y H3=>∃m',m'<m/\W (i+1) m' (vs++[y]) H3 else ∃m',m'<m/\W (i+1) m' vs H')):=by
 refine⟨fun i m us H1=>i<=vs.length/\m=vs.length-i/\Pv i us H1/\Same H H1,⟨_,yJ _,rfl,h0,Sr _⟩,fun i m us H1 hW=>?_⟩;obtain⟨hi,hm,hu,sm⟩:=hW;refine⟨by rw[hlen _ _ _ hu];lia,?_⟩
 by_cases hlt:i<vs.length
 ·refine .inr ⟨⟨vs,vs[i],sm.seq hS,yA hlt⟩,fun v H' hy=>?_⟩
  obtain⟨rfl,hv⟩:=hy;have hv:=hv vs (sm.seq hS);refine iteT ?_;exact step i v us H' _ hv hu sm fun y H2 s2 p2=>⟨vs.length-(i+1),by lia,by lia,rfl,p2,sm.trans s2⟩
 ·have e:i=vs.length:=by lia
  subst e;exact .inl ⟨⟨vs,sm.seq hS,by lia⟩,fun D hD=>fin us H1 D hu sm hD⟩
end L2
namespace D
open PySem L2
variable{l p AR rp l1:jC}{K:tT}{H H':Hp}{r:R}{xs:List V}{ns:Ns}
theorem zc2{X:Cx}{tg l:jE}{tl:TE}(hl:QE X l tl):QI X tg l (iSeq X.K tl):=⟨L2.zc2 hl.un⟩
theorem zf9:∀(l:List Ex)(i:Nat),(exWs l)[i]?=(l[i]?).map Ex.toW
 |[],_=>by simp[exWs]
 |r::l,0=>by simp[exWs]
 |r::l,i+1=>by simp only[exWs,wI];exact zf9 l i
theorem zeq:∀l:List Ex,(exWs l).length=l.length
 |[]=>by simp[exWs]
 |_::l=>by simp only[exWs,yQ,zeq l]
theorem zc3{x:Ex}:∀{es:List Ex},x∈es->x.high<=highs es
 |y::ys,h=>by
  rw[highs];rcases yV.mp h with rfl|h
  ·lia
  ·have:=zc3 h;lia
theorem Zm(x:W):(∃y,zad x=.lst [.txt "made",y])\/∃p q,zad x=.lst [.txt "wrong",p,q]:=by
 unfold zad
 split
 ·exact .inl ⟨_,rfl⟩
 ·exact .inr ⟨_,_,rfl⟩
theorem zbK{f:Int->Int->W}(hf:∀a b,(∃y,f a b=.lst [.txt "made",y])\/∃p q,f a b=.lst [.txt "wrong",p,q])(ws:List W):(∃y,two f ws=.lst [.txt "made",y])\/∃p q,two f ws=.lst [.txt "wrong",p,q]:=by
 unfold two
 split
 ·rename_i a b
  exact hf a b
 ·exact .inr ⟨.txt "kind",.txt "",rfl⟩
theorem zkb(d:Wd)(ws:List W):(∃y,recW d ws=.lst [.txt "made",y])\/∃p q,recW d ws=.lst [.txt "wrong",p,q]:=by
 unfold recW
 split
 ·exact zbK (fun _ _=>Zm _) _
 ·exact zbK (fun _ _=>Zm _) _
 ·exact zbK (fun _ _=>Zm _) _
 ·refine zbK (fun _ _=>?_) _
  split
  ·exact .inr ⟨.txt "nought",.txt "",rfl⟩
  ·exact Zm _
 ·exact zbK (fun _ _=>.inl ⟨_,rfl⟩) _
 ·exact Zm _
 ·exact .inr ⟨.txt "kind",.txt "",rfl⟩
 ·exact .inl ⟨_,rfl⟩
 ·exact .inr ⟨.txt "kind",.txt "",rfl⟩
 ·exact Zm _
 ·exact Zm _
 ·exact .inr ⟨.txt "kind",.txt "",rfl⟩
 ·exact Zm _
 ·split
  ·exact Zm _
  ·exact .inr ⟨.txt "place",.txt "",rfl⟩
 ·exact .inr ⟨.txt "kind",.txt "",rfl⟩
 ·exact Zm _
 ·exact Zm _
 ·exact .inr ⟨.txt "kind",.txt "",rfl⟩
theorem RM.res{v:V}{w:W}(h:RM K H v w)(f:(∃y,w=.lst [.txt "made",y])\/∃p q,w=.lst [.txt "wrong",p,q]):RRes K H v (zbq w):=by
 rcases f with⟨y,rfl⟩|⟨p,q,rfl⟩
 ·exact h.2 _ _ rfl
 ·exact h.1
theorem zay:∀{r:R},r.res.isMade=true->r.res=.made r.worth
 |.mk (.made x) _,_=>rfl
 |.mk (.wrong _) _,h=>by cases h
 |.mk .stop _,h=>by cases h
theorem RRs.last{vs:List V}{rs:List R}(h:RRs K H vs rs)(hr:rs.getLast?=some r):∃v,vs[vs.length-1]?=some v/\0<vs.length/\RR K H v r:=by
 have hne:rs≠[]:=fun z=>by rw[z] at hr;cases hr
 have hn:0<rs.length:=xU.mpr hne;have hl:=h.len;have e1:vs[vs.length-1]?=some vs[vs.length-1]:=yA (by lia);exact⟨_,e1,by lia,h.at' _ _ _ e1 (by rw[hl,←List.getLast?_eq_getElem?];exact hr)⟩
theorem zgD{l:List R}{x:R}(h:l.getLast?=some r):zaN l x=r:=by unfold zaN;rw[h];rfl
theorem Kb.seqL{a:jC}(e:Kb p H H')(ne:a≠p)(h:SqL K H a xs):SqL K H' a xs:=by
 rcases h with (h|⟨o,h⟩)|h
 ·exact .inl (.inl (e _ _ ne h))
 ·exact .inl (.inr ⟨o,e _ _ ne h⟩)
 ·exact .inr h
theorem Rn.keep{fs:List Res}(r:Rn K AR fs rp l1 l H ns)(kb:Kb p H H')(ep:H p=some (.lst xs))(n1:l1≠p)(n2:l≠p):Rn K AR fs rp l1 l H' ns:=by
 obtain⟨dx,e1⟩:=r.ins;obtain⟨us,e2,e3,e4⟩:=r.fo;exact⟨⟨dx,kb _ _ (fun z=>by rw[z,ep] at e1;cases e1) e1⟩,⟨us,kb _ _ n1 e2,e3,fun i u r a b=>kb.res ep (e4 i u r a b)⟩,kb _ _ n2 r.na,r.ne,r.few⟩
theorem Rn.fresh{fs:List Res}(r:Rn K AR fs rp l1 l H ns)(hp:H p=none):l1≠p/\l≠p:=by
 obtain⟨us,e2,_⟩:=r.fo;exact⟨zB e2 hp,zB r.na hp⟩
section
variable{fs:List Res}{e:Env}
theorem za8(x:Ex)(xs:List Ex)(ns:Ns):evs fs (x::xs) e ns=if (ev fs x e ns).1.res.isMade then ((ev fs x e ns).1::(evs fs xs e (ev fs x e ns).2).1,(evs fs xs e (ev fs x e ns).2).2) else ([(ev fs x e ns).1],(ev fs x e ns).2):=by rw[evs]
theorem zer:∀{es:List Ex}{ns:Ns}{r:R},(evs fs es e ns).1.getLast?=some r->r.res.isMade=Zq (evs fs es e ns).1
 |[],ns,r,h=>by rw[evs] at h;cases h
 |x::xs,ns,r,h=>by
  rw[evs] at h ⊢;cases hx:(ev fs x e ns).1.res.isMade with
  |false=>
   rw[hx,if_neg (by decide)] at h;rw[if_neg (by decide)];cases h;simp[Zq,hx]
  |true=>
   rw[hx,if_pos rfl] at h;rw[if_pos rfl];unfold Zq;rw[vU,hx,uP];cases hxs:(evs fs xs e (ev fs x e ns).2).1 with
   |nil=>
    have h:((ev fs x e ns).1::(evs fs xs e (ev fs x e ns).2).1).getLast?=some r:=h;rw[hxs] at h;cases h;simpa using hx
   |cons y ys=>
    have h:((ev fs x e ns).1::(evs fs xs e (ev fs x e ns).2).1).getLast?=some r:=h;rw[hxs,vY,←hxs] at h;have:=zer h;rw[hxs] at this;exact this
theorem zi4:∀{es:List Ex}{ns:Ns},(evs fs es e ns).1.length<=es.length
 |[],ns=>by rw[evs];exact yG _
 |x::xs,ns=>by
  rw[evs]
  split
  ·have:=zi4 (es:=xs) (ns:=(ev fs x e ns).2)
   simp only[yQ];lia
  ·simp
end
inductive spThru(K:tT)(AR:jC)(n:Nat)(vs:List V)(H:Hp)(Q:VK)(z3:XK):Prop
 |mk (fs:List Res) (rp l1 l la bd:jC) (us:List V) (kvs:List (Key×V)) (e:Env) (es:List Ex) (ns:Ns) (_:vs=[.ref rp,.ref la,.ref bd]) (_:Rn K AR fs rp l1 l H ns) (_:((SqL K H la us/\la≠l)\/SqT K H la us)) (_:RWs H us (exWs es)) (_:H bd=some (.dK kvs)) (_:kvs.length+2*n<=1000) (_:EnvR H kvs e) (_:highs es<=n) (_:Fines fs es e ns) (_:es.length<=100) (_:∀(p:jC)(vs':List V)(H':Hp),H p=none->G l H H'->Rn K AR fs rp l1 l H' (evs fs es e ns).2->H' p=some (.lst vs')->RRs K H' vs' (evs fs es e ns).1->Q (.ref p) H')
theorem zaG:FnScope ["run","expressions","bound","records","expression"] ["run","expressions","bound"] (zq zaS):=mkSc rfl (by decide +kernel)
theorem zes(F:Fun K "go_through" "go_through" zaS f fd)(G_is_made:Have P w K mg base "is_made" k qL4 (spIsMade K))(G_record_of:Have P w K mg base "record_of" k qL0 (spG K ARun n (fun _=>True))):qF P w K mg base k f fd qL17 (spThru K ARun n):=by
 refine F.okQ zaG (by rintro _ _ _ _ ⟨_,_,_,_,_,_,_,_,_,_,_,rfl,_⟩;rfl) fun _ _ _ _ H vs Q E hr h=>?_;obtain⟨fs,rp,l1,l,la,bd,us,kvs,e,es,ns,rfl,rn,hl,hw,hb,hk,he,hh,hf,hn,q⟩:=h;have hul:=hw.len;rw[zeq] at hul;refine⟨_,(zm (zC (i:=3) zaG.nd rfl (Or.inl rfl) (zO zi))
  (zm (Z6 tN rfl (zc2 (pv 1)) (zS (i:=4) zaG.nd rfl (Or.inl rfl)) (zm (ZW (zbx tO tQ tP ZM (pv 3) (zc (zy G_record_of hr rfl (zc (pv 0) (zc (pv 4) (zc (pv 2) zi)))) zi)))
  (zo (zN (Zh (zR (zy G_is_made hr rfl (zc (zF zD (pv 3) (zca za6 zn) (fun _ _=>rfl)) zi)))) (zo (zt (pv 3))) zA))))
  (zo (zt (pv 3))))),nm3 ?_⟩
 intros;refine⟨zl0,fun p hp=>?_⟩;have sP:Same H (upd H p (.lst [])):=Sn hp;obtain⟨n1,n2⟩:=rn.fresh hp;rcases hl with⟨hl,hla⟩|hl
 ·refine .inl ⟨_,rfl,la,rfl,⟨us,sP.seq hl⟩,zdO (xs:=us) (fun i σ' H'=>∃(o:Option V)(vs':List V)(dn:List R)(nsi:Ns),σ'=[some (.ref rp),some (.ref la),some (.ref bd),some (.ref p),o]/\G l H H'/\Rn K ARun fs rp l1 l H' nsi/\H' p=some (.lst vs')/\RRs K H' vs' dn/\evs fs es e ns=(dn++(evs fs (es.drop i) e nsi).1,(evs fs (es.drop i) e nsi).2)/\Fines fs (es.drop i) e nsi/\dn.length=i)
   ⟨none,[],[],ns,rfl,rn.g sP,rn.same sP,zj,RRs.nil,rfl,hf,rfl⟩ (fun i σ' H' _ h=>?_) (fun i x σ' H' hx h=>?_) (fun σ' H' h=>?_)⟩
  ·obtain⟨o,vs',dn,nsi,_,g,_⟩:=h
   exact g.k.seqL hla hl
  ·obtain⟨o,vs',dn,nsi,rfl,g,rni,ep,rrs,hwk,hfi,hdl⟩:=h
   have hi:i<us.length:=(yC.mp hx).1;have hie:i<es.length:=by lia
   have hy:es[i]?=some es[i]:=yA hie;have hw':RW H x (es[i]).toW:=hw.at' i x _ hx (by rw[zf9,hy];rfl);have hhy:=zc3 (yK hy);have hvl:=rrs.len;rw[xQ hie,za8] at hwk;rw[xQ hie,Fines] at hfi;refine⟨_,rfl,.inl ⟨rfl,_,Sl ep⟩,_,rfl,_,rfl,_,rfl,fs,rp,l1,l,x,bd,kvs,e,es[i],nsi,rfl,rni,hw'.mono g.ts,g.d hb,hk,g.env he,by lia,hfi.1,trivial,fun v H2 g2 rn2 rr=>?_⟩;have ep2:=g2.k p _ n2.symm ep;refine⟨p,vs',v,rfl,rfl,ep2,zan (by lia),?_⟩;have kb:Kb p H2 (upd H2 p (.lst (vs'++[v]))):=Kb.put;have rr3:=kb.rr ep2 rr;have rrs3:=(kb.rrs ep2 (g2.rrs rrs)).snoc rr3;have g3:G l H (upd H2 p (.lst (vs'++[v]))):=⟨fun c o hc ec=>by rw[zH (zB ec hp)];exact g2.k _ _ hc (g.k _ _ hc ec),g.l⟩;have rn3:=rn2.keep kb ep2 n1 n2;have ep3:upd H2 p (.lst (vs'++[v])) p=some (.lst (vs'++[v])):=zj;generalize upd H2 p (.lst (vs'++[v]))=H3 at rr3 rrs3 g3 rn3 ep3;refine⟨_,rfl,_,rfl,p,vs'++[v],-1,v,rfl,rfl,Sl ep3,zci _ _,v,(ev fs es[i] e nsi).1,rfl,rr3,_,rfl,?_⟩;cases hmd:(ev fs es[i] e nsi).1.res.isMade with
   |false=>
    rw[hmd,if_neg (by decide)] at hwk;rw[hwk] at q;exact iteT ⟨_,rfl,q p _ _ hp g3 rn3 ep3 rrs3⟩
   |true=>
    rw[hmd,if_pos rfl] at hwk;exact iteF ⟨_,vs'++[v],dn++[(ev fs es[i] e nsi).1],_,rfl,g3,rn3,ep3,rrs3,by rw[hwk,vD];rfl,hfi.2 hmd,by simp[hdl]⟩
  ·obtain⟨o,vs',dn,nsi,rfl,g,rni,ep,rrs,hwk,hfi,hdl⟩:=h
   rw[hul,vZ,evs,xB] at hwk;rw[hwk] at q;exact⟨_,rfl,q p vs' _ hp g rni ep rrs⟩
 ·refine .inr ⟨_,rfl,la,rfl,⟨us,sP.seqT hl⟩,zhJ (xs:=us) (fun i σ' H'=>∃(o:Option V)(vs':List V)(dn:List R)(nsi:Ns),σ'=[some (.ref rp),some (.ref la),some (.ref bd),some (.ref p),o]/\G l H H'/\Rn K ARun fs rp l1 l H' nsi/\H' p=some (.lst vs')/\RRs K H' vs' dn/\evs fs es e ns=(dn++(evs fs (es.drop i) e nsi).1,(evs fs (es.drop i) e nsi).2)/\Fines fs (es.drop i) e nsi/\dn.length=i)
   ⟨none,[],[],ns,rfl,rn.g sP,rn.same sP,zj,RRs.nil,rfl,hf,rfl⟩ (fun i σ' H' _ h=>?_) (fun i x σ' H' hx h=>?_) (fun σ' H' h=>?_)⟩
  ·obtain⟨o,vs',dn,nsi,_,g,_⟩:=h
   exact g.sq hl
  ·obtain⟨o,vs',dn,nsi,rfl,g,rni,ep,rrs,hwk,hfi,hdl⟩:=h
   have hi:i<us.length:=(yC.mp hx).1;have hie:i<es.length:=by lia
   have hy:es[i]?=some es[i]:=yA hie;have hw':RW H x (es[i]).toW:=hw.at' i x _ hx (by rw[zf9,hy];rfl);have hhy:=zc3 (yK hy);have hvl:=rrs.len;rw[xQ hie,za8] at hwk;rw[xQ hie,Fines] at hfi;refine⟨_,rfl,.inl ⟨rfl,_,Sl ep⟩,_,rfl,_,rfl,_,rfl,fs,rp,l1,l,x,bd,kvs,e,es[i],nsi,rfl,rni,hw'.mono g.ts,g.d hb,hk,g.env he,by lia,hfi.1,trivial,fun v H2 g2 rn2 rr=>?_⟩;have ep2:=g2.k p _ n2.symm ep;refine⟨p,vs',v,rfl,rfl,ep2,zan (by lia),?_⟩;have kb:Kb p H2 (upd H2 p (.lst (vs'++[v]))):=Kb.put;have rr3:=kb.rr ep2 rr;have rrs3:=(kb.rrs ep2 (g2.rrs rrs)).snoc rr3;have g3:G l H (upd H2 p (.lst (vs'++[v]))):=⟨fun c o hc ec=>by rw[zH (zB ec hp)];exact g2.k _ _ hc (g.k _ _ hc ec),g.l⟩;have rn3:=rn2.keep kb ep2 n1 n2;have ep3:upd H2 p (.lst (vs'++[v])) p=some (.lst (vs'++[v])):=zj;generalize upd H2 p (.lst (vs'++[v]))=H3 at rr3 rrs3 g3 rn3 ep3;refine⟨_,rfl,_,rfl,p,vs'++[v],-1,v,rfl,rfl,Sl ep3,zci _ _,v,(ev fs es[i] e nsi).1,rfl,rr3,_,rfl,?_⟩;cases hmd:(ev fs es[i] e nsi).1.res.isMade with
   |false=>
    rw[hmd,if_neg (by decide)] at hwk;rw[hwk] at q;exact iteT ⟨_,rfl,q p _ _ hp g3 rn3 ep3 rrs3⟩
   |true=>
    rw[hmd,if_pos rfl] at hwk;exact iteF ⟨_,vs'++[v],dn++[(ev fs es[i] e nsi).1],_,rfl,g3,rn3,ep3,rrs3,by rw[hwk,vD];rfl,hfi.2 hmd,by simp[hdl]⟩
  ·obtain⟨o,vs',dn,nsi,rfl,g,rni,ep,rrs,hwk,hfi,hdl⟩:=h
   rw[hul,vZ,evs,xB] at hwk;rw[hwk] at q;exact⟨_,rfl,q p vs' _ hp g rni ep rrs⟩
theorem za9:FnScope ["run","expression","bound","records"] ["run","expression","bound"] (zq zaE):=mkSc rfl (by decide +kernel)
theorem zdi(F:Fun K "go_reckoned" "go_reckoned" zaE f fd)(G_reckoned:Have P w K mg base "reckoned" k ["word","worths"] (spReck K))(G_worth_of:Have P w K mg base "worth_of" k qL4 (spWorthOf K))(G_is_made:Have P w K mg base "is_made" k qL4 (spIsMade K))(G_as_last:Have P w K mg base "as_last" k qL5 (spAsLast K))(G_go_through:Have P w K mg base "go_through" k qL17 (spThru K ARun n))(G_parts_of:Have P w K mg base "parts_of" k ["expression"] (spPartsOf))(m_len:mg "len"=none)(m_tuple:mg "tuple"=none):qF P w K mg base k f fd qL0 (spG K ARun (n+1) (fun x=>∃d es,x=.reck d es)):=by
 refine F.okQ za9 (by rintro _ _ _ _ ⟨_,_,_,_,_,_,_,_,_,_,rfl,_⟩;rfl) fun _ _ _ _ H vs Q E hr h=>?_;obtain⟨fs,rp,l1,l,u,bd,kvs,e,x,ns,rfl,rn,ru,hb,hk,he,hh,hf,⟨d,es,rfl⟩,q⟩:=h;rw[Ex.toW] at ru;rw[Ex.high] at hh;rw[Fine] at hf;obtain⟨hlen,hfs,hok⟩:=hf;obtain⟨a,vs,rfl,ea,hw0⟩:=ru.tup;obtain⟨u0,us,rfl,r0,hw⟩:=hw0.cons;obtain rfl:=r0.str;have hul:=hw.len;rw[zeq] at hul;refine⟨_,(zm (zC (i:=3) za9.nd rfl (Or.inl rfl) (zy G_go_through hr rfl (zc (pv 0) (zc (zy G_parts_of hr rfl (zc (pv 1) zi)) (zc (pv 2) zi)))))
  (zm (zN (PW.pt (zaO (zE zdP (zw zL rfl m_len tG (zc (pv 3) zi)) zn (nomark _)) (zak (Zh (zR (zy G_is_made hr rfl (zc (zF zD (pv 3) (zca za6 zn) (fun _ _=>rfl)) zi))))))) (zo (zt (zy G_as_last hr rfl (zc (pv 3) zi)))) zA)
  (zo (zt (zG (zc (zy G_reckoned hr rfl (zc (zF zK (pv 1) zn (fun _ _=>rfl)) (zc (Zj [] [] rfl rfl (by decide) rfl (by decide) rfl (by decide) trivial rfl trivial (zac (pv 3)) (fun C s H fp=>⟨Zd,(zy G_worth_of hr rfl (zc (pv 0) zi))⟩)) zi))) (zc (zI zP rfl m_tuple zM (zc (pv 3) zi)) zi))))))),nm3 ?_⟩
 intros;refine⟨_,rfl,_,rfl,a,d,us,rfl,ea,by lia,fun la H1 s1 el hla=>⟨_,rfl,fs,rp,l1,l,la,bd,us,kvs,e,es,ns,rfl,rn.same s1,.inl ⟨Sl el,fun z=>zB rn.na hla z.symm⟩,hw.mono (zx s1),s1 _ _ hb,by lia,he.mono s1,by lia,hfs,hlen,fun p vs' H2 hp g2 rn2 ep rrs=>?_⟩⟩;have g12:=(rn.g s1).trans g2;have hvl:=rrs.len;have hev:=zi4 (fs:=fs) (e:=e) (es:=es) (ns:=ns);refine⟨_,rfl,_,_,rfl,.inl ⟨_,Sl ep,rfl⟩,_,_,rfl,rfl,_,rfl,?_⟩;have good:Zq (evs fs es e ns).1=true->tTup (zat (zhQ (spReck K) [] E0 (zat (tOp (rIxT K) (tVar 1) (tC (.int 0))) (zat (zcB [] (zhH K (tVar 3)) (fun _ H Q=>Q true H) (zhQ (spWorthOf K) [] E0 (zat (tVar 0) tNil))) tNil))) (zat (tCB (fun xs H Q=>∃p ys,xs=[.ref p]/\((SqL K H p ys/\∀l,H l=none->Q (.ref l) (upd H l (.tup ys)))\/(SqT K H p ys/\Q (.ref p) H))) (zat (tVar 3) tNil)) tNil))
   [some (.ref rp),some (.ref a),some (.ref bd),some (.ref p)] H2 Q:=fun hall=>by
  obtain⟨ok,dep,l8,ar⟩:=hok hall;refine⟨_,rfl,a,_,0,_,rfl,rfl,Sq (g12.t ea),zu (j:=0) rfl,_,rfl,p,rfl,⟨_,Sl ep⟩,?_⟩;refine zfg (K:=K) (vs:=vs') (fun i us H3=>us.length=i/\∀(j:Nat)(y:V)(r:R),us[j]?=some y->(evs fs es e ns).1[j]?=some r->RW H3 y r.worth) (Sl ep) (vC (zan (by lia))) ⟨rfl,fun j y r h=>by simp at h⟩ (fun _ _ _ h=>h.1)
   (fun i v us H3 R hv hP sm r=>?_) (fun us H3 D hP sm hD=>?_)
  ·have hi:=(yC.mp hv).1
   have hi':i<(evs fs es e ns).1.length:=by lia
   have er:(evs fs es e ns).1[i]?=some (evs fs es e ns).1[i]:=yA hi';have hm:((evs fs es e ns).1[i]).res.isMade=true:=xZ.mp hall _ (xD hi');refine⟨_,rfl,v,(evs fs es e ns).1[i],_,rfl,(rrs.at' i v _ hv er).mono sm,zay hm,fun y ry=>?_⟩;refine r y H3 (Sr _) ⟨by simp[hP.1],fun j z rj hz hrj=>?_⟩
   by_cases hj:j<us.length
   ·rw[yN hj] at hz
    exact hP.2 j z rj hz hrj
   ·have hlt:=(yC.mp hz).1
    have ej:j=us.length:=by simp at hlt;lia
    subst ej;obtain rfl:y=z:=by simpa using hz
    rw[hP.1,er] at hrj;cases hrj;exact ry
  ·have s3:=sm.trans (Sn (o:=.lst us) hD)
   have hP1:us.length=vs'.length:=hP.1;refine⟨d,D,us,(evs fs es e ns).1.map R.worth,rfl,zj,⟨by rw[yB];lia,fun j y z hy hz=>?_⟩,ok,dep,by rw[yB];exact l8,by rw[yB];exact ar,fun uu H4 s4 rm=>?_⟩
   ·rw[yE] at hz
    obtain⟨r,hr,rfl⟩:=yP.mp hz;exact (hP.2 j y r hy hr).mono (zx (Sn (o:=.lst us) hD))
   ·have s34:=s3.trans s4
    refine⟨_,rfl,p,vs',rfl,.inl ⟨Sl (s34 _ _ ep),fun t ht=>⟨zl2,fun a2 ha2=>?_⟩⟩⟩;have s5:=Sn (o:=.tup vs') ht;have s6:=Sn (o:=.tup [uu,.ref t]) ha2;have s56:=s5.trans s6;have hE:ev fs (.reck d es) e ns=(.mk (zbq (recW d ((evs fs es e ns).1.map R.worth))) (evs fs es e ns).1,(evs fs es e ns).2):=by rw[ev,if_pos hall]
    rw[hE] at q;exact q _ _ ((g12.same s34).same s56) ((rn2.same s34).same s56) ((rrs.mono (s34.trans s56)).rr zj ((rm.res (zkb _ _)).mono s56) (s6 _ _ zj))
 cases hrs:(evs fs es e ns).1.getLast? with
 |none=>
  have hnil:(evs fs es e ns).1=[]:=List.getLast?_eq_none_iff.mp hrs;have hv0:vs'.length=0:=by rw[hvl,hnil];rfl
  rw[show decide ((0:Int)<((vs'.length:Nat):Int))=false from decide_eq_false (by lia)];exact iteF (iteF (good (by rw[hnil];rfl)))
 |some r=>
  obtain⟨v,ev1,hpos,rr⟩:=rrs.last hrs;rw[show decide ((0:Int)<((vs'.length:Nat):Int))=true from decide_eq_true (by lia)];refine iteT ⟨_,rfl,_,rfl,p,vs',-1,v,rfl,rfl,Sl ep,zax ev1 hpos,v,r,rfl,rr,_,rfl,?_⟩;cases hm:r.res.isMade with
  |true=>
   refine iteF (good ?_);rw[←zer hrs];exact hm
  |false=>
   have hE:ev fs (.reck d es) e ns=(.mk r.res (evs fs es e ns).1,(evs fs es e ns).2):=by rw[ev,if_neg (by rw[←zer hrs,hm];decide),zgD hrs]
   rw[hE] at q;exact iteT ⟨_,rfl,p,vs',(evs fs es e ns).1,r,rfl,ep,rrs,hrs,fun v' H3 s3 rr3=>q _ _ (g12.same s3) (rn2.same s3) rr3⟩
variable{K:tT}{H:Hp}{r:R}{rs:List R}{ws:List W}{s:Str}{a b:Ex}
noncomputable def zkc:Res:=.wrong [.txt "kind",.txt ""]
noncomputable def zi5:Res:=.wrong [.txt "great",.txt ""]
def endR(rs:List R)(r r0:R):Option R:=if r.res.isMade then (match r0.worth with
  |.lst ws=>if ws.length > 10 then some (.mk zi5 rs) else none
  |_=>some (.mk zkc rs)) else some (.mk r.res rs)
def endV(K:tT)(H:Hp)(v:V):Option R->Prop
 |some r=>RR K H v r
 |none=>v=.non
inductive spEnded(K:tT)(vs:List V)(H:Hp)(Q:VK)(z3:XK):Prop
 |mk (l:jC) (us:List V) (rs:List R) (r r0:R) (_:vs=[.ref l]) (_:H l=some (.lst us)) (_:RRs K H us rs) (_:rs.getLast?=some r) (_:rs[0]?=some r0) (_:(r.res.isMade=true->r0.res.isMade=true)) (_:∀(v:V)(H':Hp),Same H H'->endV K H' v (endR rs r r0)->Q v H')
theorem zba:FnScope ["records","walked"] ["records"] (zq zaD):=mkSc rfl (by decide +kernel)
theorem zdj(F:Fun K "ended_ahead" "ended_ahead" zaD f fd)(G_worth_of:Have P w K mg base "worth_of" k qL4 (spWorthOf K))(G_is_made:Have P w K mg base "is_made" k qL4 (spIsMade K))(G_as_last:Have P w K mg base "as_last" k qL5 (spAsLast K))(m_isi:mg "isinstance"=none)(m_len:mg "len"=none)(m_tuple:mg "tuple"=none){g_KIND:jC}(m_KIND:mg "KIND"=some (.ref g_KIND))(t_KIND:∀H:Hp,SqT K H g_KIND [.str "wrong",.str "kind",.str ""])(m_MOST_WALKED:∃t,mg "MOST_WALKED"=some (.int 10 t)){g_GREAT:jC}(m_GREAT:mg "GREAT"=some (.ref g_GREAT))(t_GREAT:∀H:Hp,SqT K H g_GREAT [.str "wrong",.str "great",.str ""]):qF P w K mg base k f fd qL5 (spEnded K):=by
 refine F.okQ zba (by rintro _ _ _ _ ⟨_,_,_,_,_,rfl,_⟩;rfl) fun _ _ _ _ H vs Q E hr h=>?_;obtain⟨l,us,rs,r,r0,rfl,el,rrs,hlast,h0,hmm,q⟩:=h;refine⟨_,(zm (zN (Zh (zR (zy G_is_made hr rfl (zc (zF zD (pv 0) (zca za6 zn) (fun _ _=>rfl)) zi)))) (zo (zt (zy G_as_last hr rfl (zc (pv 0) zi)))) zA)
  (zm (zC (i:=1) zba.nd rfl (Or.inl rfl) (zy G_worth_of hr rfl (zc (zF zD (pv 0) zn (fun _ _=>rfl)) zi)))
  (zm (zN (Zh (zR (zw Zv rfl m_isi zU (zc (pv 1) (zc (ZY rfl m_tuple zM) zi))))) (zo (zt (zG (zc (Zf (v:=.ref g_KIND) rfl m_KIND rfl) (zc (zI zP rfl m_tuple zM (zc (pv 0) zi)) zi))))) zA)
  (zo (zt (ZB (zE zdP (zw zL rfl m_len tG (zc (pv 1) zi)) (zaf rfl m_MOST_WALKED) (nomark _)) (zG (zc (Zf (v:=.ref g_GREAT) rfl m_GREAT rfl) (zc (zI zP rfl m_tuple zM (zc (pv 0) zi)) zi))) zbs)))))),nm4 ?_⟩
 intros;obtain⟨v,e1,hpos,rr⟩:=rrs.last hlast;have e0:us[0]?=some us[0]:=yA hpos;have rr0:=rrs.at' 0 _ _ e0 h0;refine⟨_,rfl,_,rfl,l,us,-1,v,rfl,rfl,Sl el,zax e1 hpos,v,r,rfl,rr,_,rfl,?_⟩;cases hm:r.res.isMade with
 |false=>
  refine iteT ⟨_,rfl,l,us,rs,r,rfl,el,rrs,hlast,fun v' H' s' rr'=>q v' H' s' ?_⟩;unfold endR;rw[hm,if_neg (by decide)];exact rr'
 |true=>
  refine iteF ⟨_,rfl,l,us,0,us[0],rfl,rfl,Sl el,zu (j:=0) e0,us[0],r0,r0.worth,rfl,rr0,zay (hmm hm),fun y ry=>?_⟩;have fin:∀(res:Res)(rv:V)(t a:jC)(H':Hp),Same H H'->H' a=some (.tup [rv,.ref t])->H' t=some (.tup us)->RRes K H' rv res->RR K H' (.ref a) (.mk res rs):=fun res rv t a H' s' ea et rres=>(rrs.mono s').rr ea rres et;refine⟨_,rfl,_,_,_,_,rfl,ry.tyW,isiT _,_,rfl,?_⟩;have eR:endR rs r r0=(match r0.worth with
    |.lst ws=>if ws.length > 10 then some (.mk zi5 rs) else none
    |_=>some (.mk zkc rs)):=by unfold endR;rw[hm,if_pos rfl]
  rw[eR] at q;cases hx:r0.worth with
  |num i=>
   rw[hx] at q;refine iteT ⟨_,rfl,l,us,rfl,.inl ⟨Sl el,fun t ht=>⟨zl2,fun a ha=>?_⟩⟩⟩;have s2:=(Sn (o:=.tup us) ht).trans (Sn (o:=.tup [.ref g_KIND,.ref t]) ha);exact q _ _ s2 (fin zkc _ t a _ s2 zj (Sn ha _ _ zj) (show RS K _ _ _ from RS.three (t_KIND _) (.txt _) (.txt _) (.txt _)))
  |txt z=>
   rw[hx] at q;refine iteT ⟨_,rfl,l,us,rfl,.inl ⟨Sl el,fun t ht=>⟨zl2,fun a ha=>?_⟩⟩⟩;have s2:=(Sn (o:=.tup us) ht).trans (Sn (o:=.tup [.ref g_KIND,.ref t]) ha);exact q _ _ s2 (fin zkc _ t a _ s2 zj (Sn ha _ _ zj) (show RS K _ _ _ from RS.three (t_KIND _) (.txt _) (.txt _) (.txt _)))
  |lst ws=>
   rw[hx] at q ry;obtain⟨b,ys,rfl,eb,hw⟩:=ry.tup;have hwl:=hw.len;refine iteF ⟨_,rfl,_,_,rfl,.inr ⟨_,Sq eb,rfl⟩,_,_,rfl,rfl,_,rfl,?_⟩
   by_cases hgt:ws.length > 10
   ·rw[show decide ((10:Int)<((ys.length:Nat):Int))=true from decide_eq_true (by lia)]
    refine iteT ⟨_,rfl,l,us,rfl,.inl ⟨Sl el,fun t ht=>⟨zl2,fun a ha=>?_⟩⟩⟩;have s2:=(Sn (o:=.tup us) ht).trans (Sn (o:=.tup [.ref g_GREAT,.ref t]) ha);dsimp only at q;rw[if_pos hgt] at q;exact q _ _ s2 (fin zi5 _ t a _ s2 zj (Sn ha _ _ zj) (show RS K _ _ _ from RS.three (t_GREAT _) (.txt _) (.txt _) (.txt _)))
   ·rw[show decide ((10:Int)<((ys.length:Nat):Int))=false from decide_eq_false (by lia)]
    refine iteF ?_;dsimp only at q;rw[if_neg hgt] at q;exact q _ _ (Sr _) rfl
theorem zi6(vs:List V)(h:1<=vs.length):cutV vs (some 1) none=vs.drop 1:=by
 show (vs.drop (HT.sIx vs.length 0 (some ((1:Nat):Int)))).take (vs.length-HT.sIx vs.length 0 (some ((1:Nat):Int)))=_;rw[HT.sIx_nat,Nat.min_eq_left h,xG (by rw[vV];lia)]
theorem RRs.tail{vs:List V}(h:RRs K H vs (r::rs)):∃v us,vs=v::us/\RR K H v r/\RRs K H us rs:=by
 match vs,h.len with
 |v::us,l=>exact⟨v,us,rfl,h.at' 0 _ _ rfl rfl,by simpa using l,fun i w x a b=>h.at' (i+1) w x a b⟩
section
variable{fs:List Res}{e:Env}{ns:Ns}
theorem zl7(a:Ex):evs fs [a] e ns=([(ev fs a e ns).1],(ev fs a e ns).2):=by
 rw[evs]
 split
 ·rw[evs]
 ·rfl
theorem zaH(g:W->Ns->R×Ns){w:W}{ns:Ns}:zQ g (w::ws) ns=if (g w ns).1.res.isMade then ((g w ns).1::(zQ g ws (g w ns).2).1,(zQ g ws (g w ns).2).2) else ([(g w ns).1],(g w ns).2):=by rw[zQ]
theorem zfh{x:W}(h:r.res=.made x):r.worth=x:=by
 have:=zay (r:=r) (by rw[h];rfl);rw[h] at this;exact (Res.made.inj this).symm
theorem znd(h:endR [(ev fs a e ns).1] (ev fs a e ns).1 (ev fs a e ns).1=some r):ev fs (.eachE s a b) e ns=(r,(ev fs a e ns).2):=by
 unfold endR at h;rw[ev];cases hr:(ev fs a e ns).1.res with
 |wrong ws=>
  rw[hr,show (Res.wrong ws).isMade=false from rfl,if_neg (by decide)] at h;exact congrArg (·,(ev fs a e ns).2) (Option.some.inj h)
 |stop=>
  rw[hr,show Res.stop.isMade=false from rfl,if_neg (by decide)] at h;exact congrArg (·,(ev fs a e ns).2) (Option.some.inj h)
 |made x=>
  have hw:=zfh hr;rw[hr,show (Res.made x).isMade=true from rfl,if_pos rfl,hw] at h;cases x with
  |num i=>exact congrArg (·,(ev fs a e ns).2) (Option.some.inj h)
  |txt z=>exact congrArg (·,(ev fs a e ns).2) (Option.some.inj h)
  |lst ws=>
   dsimp only at h ⊢
   by_cases hg:ws.length > 10
   ·rw[if_pos hg] at h ⊢
    exact congrArg (·,(ev fs a e ns).2) (Option.some.inj h)
   ·rw[if_neg hg] at h
    cases h
theorem zi7(h:(ev fs a e ns).1.res=.made (.lst ws))(hl:ws.length<=10):ev fs (.eachE s a b) e ns=if Zq (zQ (fun w m=>ev fs b (put e s w) m) ws (ev fs a e ns).2).1 then (.mk (zbq (zad (.lst ((zQ (fun w m=>ev fs b (put e s w) m) ws (ev fs a e ns).2).1.map R.worth)))) ((ev fs a e ns).1::(zQ (fun w m=>ev fs b (put e s w) m) ws (ev fs a e ns).2).1),(zQ (fun w m=>ev fs b (put e s w) m) ws (ev fs a e ns).2).2)
    else (.mk (zaN (zQ (fun w m=>ev fs b (put e s w) m) ws (ev fs a e ns).2).1 (ev fs a e ns).1).res ((ev fs a e ns).1::(zQ (fun w m=>ev fs b (put e s w) m) ws (ev fs a e ns).2).1),(zQ (fun w m=>ev fs b (put e s w) m) ws (ev fs a e ns).2).2):=by
 rw[ev,h];dsimp only;rw[if_neg (by lia)]
end
theorem zkd{r0:R}(h:endR rs r r0=none):r.res.isMade=true/\∃ws,r0.worth=.lst ws/\ws.length<=10:=by
 unfold endR at h;cases hm:r.res.isMade with
 |false=>rw[hm,if_neg (by decide)] at h;cases h
 |true=>
  rw[hm,if_pos rfl] at h;refine⟨rfl,?_⟩;cases hx:r0.worth with
  |num i=>rw[hx] at h;cases h
  |txt z=>rw[hx] at h;cases h
  |lst ws=>
   rw[hx] at h;dsimp only at h
   by_cases hg:ws.length > 10
   ·rw[if_pos hg] at h;cases h
   ·exact⟨ws,rfl,by lia⟩
theorem RR.ne_non{v:V}(h:RR K H v r):(!decide (v=V.non))=true:=by
 obtain⟨a,b,rv,rfl,_⟩:=h.res
 rfl
theorem zi8{K:tT}{us:List V}(h:us.length=rs.length)(g:∀(j:Nat) (y:V) (r:R),us[j]?=some y->rs[j]?=some r->RW H y r.worth):RWs H us (rs.map R.worth):=
 ⟨by rw[yB];exact h,fun j y z hy hz=>by
  rw[yE] at hz;obtain⟨r,hr,rfl⟩:=yP.mp hz;exact g j y r hy hr⟩
theorem zaz:FnScope ["run","expression","bound","records","ended","walked","item"] ["run","expression","bound"] (zq zcN):=mkSc rfl (by decide +kernel)
theorem zht(F:Fun K "go_each" "go_each" zcN f fd)(G_made:Have P w K mg base "made" k qL3 (spMade K 24))(G_worth_of:Have P w K mg base "worth_of" k qL4 (spWorthOf K))(G_is_made:Have P w K mg base "is_made" k qL4 (spIsMade K))(G_as_last:Have P w K mg base "as_last" k qL5 (spAsLast K))(G_record_of:Have P w K mg base "record_of" k qL0 (spG K ARun n (fun _=>True)))(G_binding:Have P w K mg base "binding" k qL16 (spBind))(G_ended_ahead:Have P w K mg base "ended_ahead" k qL5 (spEnded K))(G_go_through:Have P w K mg base "go_through" k qL17 (spThru K ARun n))(m_tuple:mg "tuple"=none):qF P w K mg base k f fd qL0 (spG K ARun (n+1) (fun x=>∃s a b,x=.eachE s a b)):=by
 refine F.okQ zaz (by rintro _ _ _ _ ⟨_,_,_,_,_,_,_,_,_,_,rfl,_⟩;rfl) fun _ _ _ _ H vs Q E hr h=>?_;obtain⟨fs,rp,l1,l,u,bd,kvs,e,x,ns,rfl,rn,ru,hb,hk,he,hh,hf,⟨z,A1,B1,rfl⟩,q⟩:=h;rw[Ex.toW] at ru;rw[Ex.high] at hh;rw[Fine] at hf;obtain⟨a,vs,rfl,ea,hw0⟩:=ru.tup;obtain⟨u0,us,rfl,r0,hw1⟩:=hw0.cons;obtain⟨u1,us,rfl,r1,hw2⟩:=hw1.cons;obtain⟨u2,us,rfl,r2,hw3⟩:=hw2.cons;obtain⟨u3,us,rfl,r3,hw4⟩:=hw3.cons;obtain rfl:=hw4.nil';obtain rfl:=r1.str;refine⟨_,(zm (zC (i:=3) zaz.nd rfl (Or.inl rfl) (zy G_go_through hr rfl (zc (pv 0) (zc (Zr zkL (pv 1) (ZF zn) (ZF zn)) (zc (pv 2) zi)))))
  (zm (zC (i:=4) zaz.nd rfl (Or.inl rfl) (zy G_ended_ahead hr rfl (zc (pv 3) zi)))
  (zm (zN (zb6 (zdN (pv 4))) (zo (zt (pv 4))) zA)
  (zm (zC (i:=5) zaz.nd rfl (Or.inl rfl) (zy G_worth_of hr rfl (zc (zF zD (pv 3) zn (fun _ _=>rfl)) zi)))
  (zm (Z6 tN rfl (zct (pv 5)) (zS (i:=6) zaz.nd rfl (Or.inl rfl)) (zm (ZW (zbx tO tQ tP ZM (pv 3) (zc (zy G_record_of hr rfl (zc (pv 0) (zc (zF zK (pv 1) zn (fun _ _=>rfl)) (zc (zy G_binding hr rfl (zc (pv 2) (zc (zF zK (pv 1) zn (fun _ _=>rfl)) (zc (pv 6) zi)))) zi)))) zi)))
  (zo (zN (Zh (zR (zy G_is_made hr rfl (zc (zF zD (pv 3) (zca za6 zn) (fun _ _=>rfl)) zi)))) (zo (zt (zy G_as_last hr rfl (zc (pv 3) zi)))) zA))))
  (zo (zt (zG (zc (zy G_made hr rfl (zc (zI zP rfl m_tuple zM (zc (Zj [] [] rfl rfl (by decide) rfl (by decide) rfl (by decide) trivial rfl trivial (zac (Zr zbf (pv 3) (ZF zn) ZX)) (fun C s H fp=>⟨Zd,(zy G_worth_of hr rfl (zc (pv 0) zi))⟩)) zi)) zi)) (zc (zI zP rfl m_tuple zM (zc (pv 3) zi)) zi)))))))))),nm6 ?_⟩
 intros;refine⟨_,rfl,_,rfl,_,rfl,_,rfl,a,_,rfl,Sq ea,(fun z=>absurd (show (2:Nat)=0 from z.1) (by decide)),fun p hp=>?_⟩;have s1:=Sn (o:=.tup (cutV [u0,.str z,u2,u3] (some 2) (some 3))) hp;have ep1:upd H p (.tup (cutV [u0,.str z,u2,u3] (some 2) (some 3))) p=some (.tup [u2]):=zj;generalize upd H p (.tup (cutV [u0,.str z,u2,u3] (some 2) (some 3)))=H1 at s1 ep1;refine⟨_,rfl,fs,rp,l1,l,p,bd,[u2],kvs,e,[A1],ns,rfl,rn.same s1,.inr (Sq ep1),⟨rfl,fun i v w hv hw=>?_⟩,s1 _ _ hb,by lia,he.mono s1,?_,?_,(by show 1<=100;decide),fun p2 vs' H2 hp2 g2 rn2 ep rrs=>?_⟩
 ·match i,hv,hw with
  |0,hv,hw=>
   obtain rfl:u2=v:=by simpa using hv
   obtain rfl:A1.toW=w:=by simpa [exWs] using hw
   exact r2.mono (zx s1)
  |j+1,hv,hw=>simp at hv
 ·simp only[highs]
  lia
 ·simp only[Fines]
  exact⟨hf.1,fun _=>trivial⟩
 rw[zl7] at rrs rn2;have hp20:H p2=none:=s1.free hp2;obtain⟨np1,np2⟩:=rn.fresh hp20;have g12:=(rn.g s1).trans g2;refine⟨_,rfl,p2,vs',[(ev fs A1 e ns).1],(ev fs A1 e ns).1,(ev fs A1 e ns).1,rfl,ep,rrs,rfl,rfl,id,fun v H3 s3 hend=>?_⟩;have g13:=g12.same s3;have rn3:=rn2.same s3;cases hE:endR [(ev fs A1 e ns).1] (ev fs A1 e ns).1 (ev fs A1 e ns).1 with
 |some r=>
  rw[hE] at hend;have hend:RR K H3 v r:=hend;refine⟨_,rfl,_,rfl,?_⟩;rw[hend.ne_non];rw[znd hE] at q;exact iteT ⟨_,rfl,q v H3 g13 rn3 hend⟩
 |none=>
  rw[hE] at hend;obtain rfl:v=.non:=hend;obtain⟨hm,ws,hws,hl10⟩:=zkd hE;have hres:(ev fs A1 e ns).1.res=.made (.lst ws):=by rw[zay hm,hws]
  obtain⟨hfb,hth,hdp⟩:=hf.2 ws hres;rw[zi7 hres hl10] at q;refine⟨_,rfl,_,rfl,iteF ?_⟩;have ep3:=s3 _ _ ep;have rrs3:=rrs.mono s3;obtain⟨v0,us0,rfl,rr0,rn0⟩:=rrs3.tail;refine⟨_,rfl,p2,_,0,v0,rfl,rfl,Sl ep3,zu (j:=0) rfl,v0,(ev fs A1 e ns).1,.lst ws,rfl,rr0,hres,fun y ry=>?_⟩;obtain⟨t,ys,rfl,et,hy⟩:=ry.tup;have hyl:=hy.len;refine⟨_,rfl,t,rfl,⟨_,Sq et⟩,zhJ (xs:=ys) (fun i σ' H'=>∃(o6:Option V)(vs2:List V)(dn:List R)(nsi:Ns),σ'=[some (.ref rp),some (.ref a),some (.ref bd),some (.ref p2),some .non,some (.ref t),o6]/\G l H H'/\Rn K ARun fs rp l1 l H' nsi/\SqT K H' t ys/\RWs H' ys ws/\H' p2=some (.lst vs2)/\RRs K H' vs2 ((ev fs A1 e ns).1::dn)/\(∀r∈dn,r.res.isMade=true) /\
    zQ (fun w m=>ev fs B1 (put e z w) m) ws (ev fs A1 e ns).2=(dn++(zQ (fun w m=>ev fs B1 (put e z w) m) (ws.drop i) nsi).1,(zQ (fun w m=>ev fs B1 (put e z w) m) (ws.drop i) nsi).2)/\zb7 (fun w m=>ev fs B1 (put e z w) m) (fun w m=>Fine fs B1 (put e z w) m) (ws.drop i) nsi/\dn.length=i)
   ⟨none,_,[],_,rfl,g13,rn3,Sq et,hy,ep3,rrs3,fun r h=>by simp at h,rfl,hfb,rfl⟩ (fun i σ' H' _ h=>?_) (fun i x σ' H' hx h=>?_) (fun σ' H' h=>?_)⟩
  ·obtain⟨_,_,_,_,_,_,_,sq,_⟩:=h
   exact sq
  ·obtain⟨o6,vs2,dn,nsi,rfl,g,rni,sq,hyw,ep4,rr4,hdn,hwk,hal,hdl⟩:=h
   have hi:i<ys.length:=(yC.mp hx).1;have hiw:i<ws.length:=by lia
   have hwi:ws[i]?=some ws[i]:=yA hiw;have rx:=hyw.at' i x _ hx hwi;have hrl:=rr4.len;rw[yQ] at hrl;rw[xQ hiw,zaH] at hwk;rw[xQ hiw,zb7] at hal;refine⟨_,rfl,.inl ⟨rfl,_,Sl ep4⟩,_,rfl,_,rfl,a,_,3,_,rfl,rfl,Sq (g.t ea),rfl,_,rfl,_,rfl,a,_,1,_,rfl,rfl,Sq (g.t ea),rfl,_,rfl,bd,z,x,kvs,rfl,g.d hb,by lia,fun pb H5 s5 hpb=>?_⟩;have hlp:=zaC kvs (.inr z) x;have g5:=g.same s5;refine⟨fs,rp,l1,l,u3,pb,_,put e z ws[i],B1,nsi,rfl,rni.same s5,r3.mono g5.ts,hpb,by lia,(g5.env he).put (rx.mono (zx s5)),by lia,hal.1,trivial,fun v6 H6 g6 rn6 rr6=>?_⟩;have g56:=(rni.g s5).trans g6;have ep6:=g6.k p2 _ np2.symm (s5 _ _ ep4);refine⟨p2,vs2,v6,rfl,rfl,ep6,zan (by lia),?_⟩;have kb:Kb p2 H6 (upd H6 p2 (.lst (vs2++[v6]))):=Kb.put;have rr7:=kb.rr ep6 rr6;have rrs7:=(kb.rrs ep6 (g56.rrs rr4)).snoc rr7;have g7:G l H (upd H6 p2 (.lst (vs2++[v6]))):=⟨fun c o hc ec=>by rw[zH (zB ec hp20)];exact g56.k _ _ hc (g.k _ _ hc ec),g.l⟩;have rn7:=rn6.keep kb ep6 np1 np2;have sq7:SqT K (upd H6 p2 (.lst (vs2++[v6]))) t ys:=kb.seqT ep6 (g56.sq sq);have hyw7:RWs (upd H6 p2 (.lst (vs2++[v6]))) ys ws:=⟨hyw.len,fun j v w a b=>((hyw.at' j v w a b).mono g56.ts).mono (kb.tups ep6)⟩;have ep7:upd H6 p2 (.lst (vs2++[v6])) p2=some (.lst (vs2++[v6])):=zj;generalize upd H6 p2 (.lst (vs2++[v6]))=H7 at rr7 rrs7 g7 rn7 sq7 hyw7 ep7;refine⟨_,rfl,_,rfl,p2,vs2++[v6],-1,v6,rfl,rfl,Sl ep7,zci _ _,v6,(ev fs B1 (put e z ws[i]) nsi).1,rfl,rr7,_,rfl,?_⟩;cases hmd:(ev fs B1 (put e z ws[i]) nsi).1.res.isMade with
   |false=>
    rw[hmd,if_neg (by decide)] at hwk;rw[hwk,if_neg (by simp[Zq,hmd]),show zaN (dn++[(ev fs B1 (put e z ws[i]) nsi).1]) (ev fs A1 e ns).1=(ev fs B1 (put e z ws[i]) nsi).1 from zgD (by simp)] at q;exact iteT ⟨_,rfl,p2,vs2++[v6],(ev fs A1 e ns).1::dn++[(ev fs B1 (put e z ws[i]) nsi).1],(ev fs B1 (put e z ws[i]) nsi).1,rfl,ep7,rrs7,List.getLast?_concat,fun v8 H8 s8 rr8=>q _ _ (g7.same s8) (rn7.same s8) rr8⟩
   |true=>
    rw[hmd,if_pos rfl] at hwk;refine iteF ⟨_,vs2++[v6],dn++[(ev fs B1 (put e z ws[i]) nsi).1],_,rfl,g7,rn7,sq7,hyw7,ep7,rrs7,fun r hr=>?_,by rw[hwk,vD];rfl,hal.2 hmd,by simp[hdl]⟩;rcases yT.mp hr with hr|hr
    ·exact hdn r hr
    ·rw[yI.mp hr];exact hmd
  ·obtain⟨o6,vs2,dn,nsi,rfl,g,rni,sq,hyw,ep4,rr4,hdn,hwk,hal,hdl⟩:=h
   rw[hyl,vZ,zQ,xB] at hwk;have hrl:=rr4.len;rw[yQ] at hrl;have hall:Zq dn=true:=xZ.mpr hdn;rw[hwk] at hth hdp;have hdp:depths (dn.map R.worth)<=12:=hdp;rw[hwk,if_pos hall] at q;obtain⟨v9,us9,rfl,rr9,rrn⟩:=rr4.tail;refine⟨_,rfl,_,rfl,p2,_,rfl,Sl ep4,fun p5 hp5=>?_⟩;have s5:=Sn (o:=.lst (cutV (v9::us9) (some 1) none)) hp5;have ep5:upd H' p5 (.lst (cutV (v9::us9) (some 1) none)) p5=some (.lst us9):=by rw[zj,zi6 _ (by simp)];rfl
   generalize upd H' p5 (.lst (cutV (v9::us9) (some 1) none))=H5 at s5 ep5;have rr5:=rrn.mono s5;have hl9:=rrn.len;refine⟨p5,rfl,⟨_,Sl ep5⟩,?_⟩;refine zfg (K:=K) (vs:=us9) (fun i us H6=>us.length=i/\∀(j:Nat)(y:V)(r:R),us[j]?=some y->dn[j]?=some r->RW H6 y r.worth) (Sl ep5) (vC (zan (by lia))) ⟨rfl,fun j y r h=>by simp at h⟩ (fun _ _ _ h=>h.1)
    (fun i v us H6 R hv hP sm6 r=>?_) (fun us H6 D hP sm6 hD=>?_)
   ·have hi:=(yC.mp hv).1
    have hi':i<dn.length:=by lia
    have er:dn[i]?=some dn[i]:=yA hi';refine⟨_,rfl,v,dn[i],_,rfl,(rr5.at' i v _ hv er).mono sm6,zay (hdn _ (xD hi')),fun y ry=>?_⟩;refine r y H6 (Sr _) ⟨by simp[hP.1],fun j zz rj hz hrj=>?_⟩
    by_cases hj:j<us.length
    ·rw[yN hj] at hz
     exact hP.2 j zz rj hz hrj
    ·have hlt:=(yC.mp hz).1
     have ej:j=us.length:=by simp at hlt;lia
     subst ej;obtain rfl:y=zz:=by simpa using hz
     rw[hP.1,er] at hrj;cases hrj;exact ry
   ·have s7:=Sn (o:=.lst us) hD
    have hP1:us.length=us9.length:=hP.1;refine⟨D,us,rfl,.inl ⟨Sl zj,fun t3 ht3=>?_⟩⟩;have s8:=Sn (o:=.tup us) ht3;have s78:=s7.trans s8;have rws:RWs (upd (upd H6 D (.lst us)) t3 (.tup us)) us (dn.map R.worth):=zi8 (K:=K) (by lia) fun j y r a b=>(hP.2 j y r a b).mono (zx s78);refine⟨.ref t3,.lst (dn.map R.worth),rfl,.lst zj rws.len rws.at',⟨?_,hth⟩,?_,fun uu H9 s9 rm=>?_⟩
    ·rw[yB]
     lia
    ·simp only[W.depth]
     lia
    ·have s69:=(sm6.trans s78).trans s9
     have s49:=s5.trans s69;refine⟨_,rfl,p2,_,rfl,.inl ⟨Sl (s49 _ _ ep4),fun t5 ht5=>⟨zl2,fun a5 ha5=>?_⟩⟩⟩;have s10:=(Sn (o:=.tup (v9::us9)) ht5).trans (Sn (o:=.tup [uu,.ref t5]) ha5);exact q _ _ ((g.same s49).same s10) ((rni.same s49).same s10) ((rr4.mono (s49.trans s10)).rr zj ((rm.res (Zm _)).mono s10) (Sn ha5 _ _ zj))
noncomputable def kvsG(f1 f2 f3 f4 f5 f6 f7 f8 f9:jC):List (Key×V):=[(.inr "lit",.ref f1),(.inr "var",.ref f2),(.inr "let",.ref f3),(.inr "if",.ref f4),(.inr "each",.ref f5),(.inr "over",.ref f6),(.inr "look",.ref f7),(.inr "else",.ref f8),(.inr "cry",.ref f9)]
noncomputable def e0:Env:=fun _=>none
inductive spRunI(K:tT)(AR:jC)(vs:List V)(H:Hp)(Q:VK)(z3:XK):Prop
 |mk (p dx fl:jC) (us:List V) (_:vs=[.ref p,.ref fl]) (_:H p=some (.ins AR dx [])) (_:SqL K H fl us) (_:∀l1 l2:jC,H l1=none->H l2=none->l1≠l2->∀H':Hp,H' p=some (.ins AR dx (fR l1 l2))->H' l1=some (.lst us)->H' l2=some (.lst [])->(∀c o,c≠p->H c=some o->H' c=some o)->Q .non H')
inductive spGone(K:tT)(vs:List V)(H:Hp)(Q:VK)(z3:XK):Prop
 |mk (u:V) (fl:jC) (us:List V) (fs:List Res) (x:Ex):vs=[u,.ref fl]->RW H u x.toW->SqL K H fl us->us.length=fs.length->fs.length<=1000->(∀(i:Nat)(v:V)(r:Res),us[i]?=some v->fs[i]?=some r->RRes K H v r)->x.high<=30->Fine fs x e0 []->((ev fs x e0 []).1.res=.stop->∀(a l:jC)(H':Hp),Same H H'->H l=none->H' a=some (.tup [.str "look",.ref l])->H' l=some (.lst ((ev fs x e0 []).2.map V.str))->Q (.ref a) H')->((ev fs x e0 []).1.res≠.stop->∀(a l:jC)(rv:V)(H':Hp),Same H H'->H l=none->H' a=some (.tup [.str "ended",.ref l,rv])->H' l=some (.lst ((ev fs x e0 []).2.map V.str))->RR K H' rv (ev fs x e0 []).1->Q (.ref a) H')->spGone K vs H Q z3
theorem RRes.ne_non{K:tT}{H:Hp}{v:V}{r:Res}(n:r≠.stop)(h:RRes K H v r):decide (v=V.non)=false:=by
 obtain⟨a,us,rfl,_⟩:=h.word n
 rfl
theorem zfi:FnScope ["run","expression","bound"] ["run","expression","bound"] (zq zbl):=mkSc rfl (by decide +kernel)
theorem zfj(F:Fun K "record_of" "record_of" zbl f fd)(G_go_reckoned:Have P w K mg base "go_reckoned" k qL0 (spG K ARun (n+1) (fun x=>∃d es,x=.reck d es))){g_GOING f1 f2 f3 f4 f5 f6 f7 f8 f9:jC}(m_GOING:mg "GOING"=some (.ref g_GOING))(d_GOING:MD P w K g_GOING (kvsG f1 f2 f3 f4 f5 f6 f7 f8 f9))(c1:Zp P w K mg base f1 k qL0 (spG K ARun (n+1) (fun x=>∃y,x=.lit y)))(c2:Zp P w K mg base f2 k qL0 (spG K ARun (n+1) (fun x=>∃s,x=.var s)))(c3:Zp P w K mg base f3 k qL0 (spG K ARun (n+1) (fun x=>∃s a b,x=.letE s a b)))(c4:Zp P w K mg base f4 k qL0 (spG K ARun (n+1) (fun x=>∃a b c,x=.ifE a b c)))(c5:Zp P w K mg base f5 k qL0 (spG K ARun (n+1) (fun x=>∃s a b,x=.eachE s a b)))(c7:Zp P w K mg base f7 k qL0 (spG K ARun (n+1) (fun x=>∃a,x=.lookE a)))(c8:Zp P w K mg base f8 k qL0 (spG K ARun (n+1) (fun x=>∃a b,x=.elseE a b)))(c9:Zp P w K mg base f9 k qL0 (spG K ARun (n+1) (fun x=>∃a,x=.cryE a))):qF P w K mg base k f fd qL0 (spG K ARun (n+1) (fun _=>True)):=by
 refine F.okQ zfi (by rintro _ _ _ _ ⟨_,_,_,_,_,_,_,_,_,_,rfl,_⟩;rfl) fun _ _ _ _ H vs Q E hr h=>?_;obtain⟨fs,rp,l1,l,u,bd,kvs,e,x,ns,rfl,rn,ru,hb,hk,he,hh,hf,_,q⟩:=h;refine⟨_,(zm (zN (zE zk1 (zF zK (pv 1) zn (fun _ _=>rfl)) (Zf (v:=.ref g_GOING) rfl m_GOING rfl) (by rfl)) (zo (zt (zbG hr (zF ziC (Zf (v:=.ref g_GOING) rfl m_GOING rfl) (zF zK (pv 1) zn (fun _ _=>rfl)) (fun _ _=>rfl)) (zc (pv 0) (zc (pv 1) (zc (pv 2) zi)))))) zA)
  (zo (zt (zy G_go_reckoned hr rfl (zc (pv 0) (zc (pv 1) (zc (pv 2) zi))))))),nm2 ?_⟩
 intros;have go:∀(s:Str)(ws:List W),x.toW=.lst (.txt s::ws)->∃(a:jC)(us:List V),u=.ref a/\H a=some (.tup (.str s::us)):=fun s ws hx=>by
  rw[hx] at ru;obtain⟨a,vs,rfl,ea,hw0⟩:=ru.tup;obtain⟨u0,us,rfl,r0,_⟩:=hw0.cons;obtain rfl:=r0.str;exact⟨a,us,rfl,ea⟩
 cases x with
 |lit y=>
  obtain⟨a,us,rfl,ea⟩:=go "lit" _ (by rw[Ex.toW]);refine⟨_,rfl,a,_,0,_,rfl,rfl,Sq ea,zu (j:=0) rfl,g_GOING,_,.inr "lit",rfl,rfl,d_GOING,_,rfl,iteT ?_⟩;refine⟨_,rfl,a,_,0,_,rfl,rfl,Sq ea,zu (j:=0) rfl,g_GOING,_,.inr "lit",.ref f1,rfl,rfl,d_GOING,rfl,f1,_,_,rfl,c1,_,rfl,_,rfl,_,rfl,?_⟩;exact⟨fs,rp,l1,l,_,bd,kvs,e,_,ns,rfl,rn,ru,hb,hk,he,hh,hf,⟨_,rfl⟩,q⟩
 |var z=>
  obtain⟨a,us,rfl,ea⟩:=go "var" _ (by rw[Ex.toW]);refine⟨_,rfl,a,_,0,_,rfl,rfl,Sq ea,zu (j:=0) rfl,g_GOING,_,.inr "var",rfl,rfl,d_GOING,_,rfl,iteT ?_⟩;refine⟨_,rfl,a,_,0,_,rfl,rfl,Sq ea,zu (j:=0) rfl,g_GOING,_,.inr "var",.ref f2,rfl,rfl,d_GOING,rfl,f2,_,_,rfl,c2,_,rfl,_,rfl,_,rfl,?_⟩;exact⟨fs,rp,l1,l,_,bd,kvs,e,_,ns,rfl,rn,ru,hb,hk,he,hh,hf,⟨_,rfl⟩,q⟩
 |letE z a1 b1=>
  obtain⟨a,us,rfl,ea⟩:=go "let" _ (by rw[Ex.toW]);refine⟨_,rfl,a,_,0,_,rfl,rfl,Sq ea,zu (j:=0) rfl,g_GOING,_,.inr "let",rfl,rfl,d_GOING,_,rfl,iteT ?_⟩;refine⟨_,rfl,a,_,0,_,rfl,rfl,Sq ea,zu (j:=0) rfl,g_GOING,_,.inr "let",.ref f3,rfl,rfl,d_GOING,rfl,f3,_,_,rfl,c3,_,rfl,_,rfl,_,rfl,?_⟩;exact⟨fs,rp,l1,l,_,bd,kvs,e,_,ns,rfl,rn,ru,hb,hk,he,hh,hf,⟨_,_,_,rfl⟩,q⟩
 |ifE a1 b1 c1'=>
  obtain⟨a,us,rfl,ea⟩:=go "if" _ (by rw[Ex.toW]);refine⟨_,rfl,a,_,0,_,rfl,rfl,Sq ea,zu (j:=0) rfl,g_GOING,_,.inr "if",rfl,rfl,d_GOING,_,rfl,iteT ?_⟩;refine⟨_,rfl,a,_,0,_,rfl,rfl,Sq ea,zu (j:=0) rfl,g_GOING,_,.inr "if",.ref f4,rfl,rfl,d_GOING,rfl,f4,_,_,rfl,c4,_,rfl,_,rfl,_,rfl,?_⟩;exact⟨fs,rp,l1,l,_,bd,kvs,e,_,ns,rfl,rn,ru,hb,hk,he,hh,hf,⟨_,_,_,rfl⟩,q⟩
 |eachE z a1 b1=>
  obtain⟨a,us,rfl,ea⟩:=go "each" _ (by rw[Ex.toW]);refine⟨_,rfl,a,_,0,_,rfl,rfl,Sq ea,zu (j:=0) rfl,g_GOING,_,.inr "each",rfl,rfl,d_GOING,_,rfl,iteT ?_⟩;refine⟨_,rfl,a,_,0,_,rfl,rfl,Sq ea,zu (j:=0) rfl,g_GOING,_,.inr "each",.ref f5,rfl,rfl,d_GOING,rfl,f5,_,_,rfl,c5,_,rfl,_,rfl,_,rfl,?_⟩;exact⟨fs,rp,l1,l,_,bd,kvs,e,_,ns,rfl,rn,ru,hb,hk,he,hh,hf,⟨_,_,_,rfl⟩,q⟩
 |elseE a1 b1=>
  obtain⟨a,us,rfl,ea⟩:=go "else" _ (by rw[Ex.toW]);refine⟨_,rfl,a,_,0,_,rfl,rfl,Sq ea,zu (j:=0) rfl,g_GOING,_,.inr "else",rfl,rfl,d_GOING,_,rfl,iteT ?_⟩;refine⟨_,rfl,a,_,0,_,rfl,rfl,Sq ea,zu (j:=0) rfl,g_GOING,_,.inr "else",.ref f8,rfl,rfl,d_GOING,rfl,f8,_,_,rfl,c8,_,rfl,_,rfl,_,rfl,?_⟩;exact⟨fs,rp,l1,l,_,bd,kvs,e,_,ns,rfl,rn,ru,hb,hk,he,hh,hf,⟨_,_,rfl⟩,q⟩
 |cryE a1=>
  obtain⟨a,us,rfl,ea⟩:=go "cry" _ (by rw[Ex.toW]);refine⟨_,rfl,a,_,0,_,rfl,rfl,Sq ea,zu (j:=0) rfl,g_GOING,_,.inr "cry",rfl,rfl,d_GOING,_,rfl,iteT ?_⟩;refine⟨_,rfl,a,_,0,_,rfl,rfl,Sq ea,zu (j:=0) rfl,g_GOING,_,.inr "cry",.ref f9,rfl,rfl,d_GOING,rfl,f9,_,_,rfl,c9,_,rfl,_,rfl,_,rfl,?_⟩;exact⟨fs,rp,l1,l,_,bd,kvs,e,_,ns,rfl,rn,ru,hb,hk,he,hh,hf,⟨_,rfl⟩,q⟩
 |lookE a1=>
  obtain⟨a,us,rfl,ea⟩:=go "look" _ (by rw[Ex.toW]);refine⟨_,rfl,a,_,0,_,rfl,rfl,Sq ea,zu (j:=0) rfl,g_GOING,_,.inr "look",rfl,rfl,d_GOING,_,rfl,iteT ?_⟩;refine⟨_,rfl,a,_,0,_,rfl,rfl,Sq ea,zu (j:=0) rfl,g_GOING,_,.inr "look",.ref f7,rfl,rfl,d_GOING,rfl,f7,_,_,rfl,c7,_,rfl,_,rfl,_,rfl,?_⟩;exact⟨fs,rp,l1,l,_,bd,kvs,e,_,ns,rfl,rn,ru,hb,hk,he,hh,hf,⟨_,rfl⟩,q⟩
 |reck d es=>
  obtain⟨a,us,rfl,ea⟩:=go (wdS d) _ (by rw[Ex.toW]);refine⟨_,rfl,a,_,0,_,rfl,rfl,Sq ea,zu (j:=0) rfl,g_GOING,_,.inr (wdS d),rfl,rfl,d_GOING,_,rfl,?_⟩;rw[show valV (kvsG f1 f2 f3 f4 f5 f6 f7 f8 f9) (.inr (wdS d))=none by cases d<;>rfl];exact iteF ⟨_,rfl,_,rfl,_,rfl,fs,rp,l1,l,_,bd,kvs,e,_,ns,rfl,rn,ru,hb,hk,he,hh,hf,⟨_,_,rfl⟩,q⟩
theorem zc4:FnScope ["self","founds"] ["self","founds"] (zq Zn):=mkSc rfl (by decide +kernel)
theorem zc5(F:Fun K "__init__" "Run.__init__" Zn f fd)(m_list:mg "list"=none)(clR:Cls K ARun)(nF:zaP K ARun "founds")(nN:zaP K ARun "names"):qF P w K mg base k f fd ["self","founds"] (spRunI K ARun):=by
 refine F.okQ zc4 (by rintro _ _ _ _ ⟨_,_,_,_,rfl,_⟩;rfl) fun _ _ _ _ H vs Q E hr h=>?_;obtain⟨p,dx,fl,us,rfl,hp,hfl,q⟩:=h;refine⟨_,(zm (zgp (pv 0) (zI Zb rfl m_list Zo (zc (pv 1) zi)) rfl)
  (zo (zgp (pv 0) (zO zi) rfl))),nm2 ?_⟩
 intros;refine⟨_,rfl,fl,us,rfl,.inl hfl,fun l1 hl1=>?_⟩;have n1:p≠l1:=zB hp hl1;refine⟨_,rfl,p,ARun,dx,[],rfl,(by rw[zH n1];exact hp),clR,nF,(by show 0<1000;decide),zl0,fun l2 hl2=>?_⟩;have n2:p≠l2:=by
  intro z;rw[←z,zj] at hl2;cases hl2
 have n12:l1≠l2:=by
  intro z;rw[←z,zH n1.symm,zj] at hl2;cases hl2
 have hl20:H l2=none:=by
  rw[zH n2.symm,zH n12.symm] at hl2;exact hl2
 refine⟨_,rfl,p,ARun,dx,_,rfl,(by rw[zH n2,zj]),clR,nN,(by show 1<1000;decide),?_⟩;refine q l1 l2 hl1 hl20 n12 _ zj (by rw[zH n1.symm,zH n12,zH n1.symm,zj]) (by rw[zH n2.symm,zj]) fun c o hc e=>?_;rw[zH hc,zH (zB e hl20),zH hc,zH (zB e hl1)];exact e
theorem zga:FnScope ["rule","founds","run","record"] ["rule","founds"] (zq zij):=mkSc rfl (by decide +kernel)
theorem zl9(F:Fun K "gone" "gone" zij f fd)(G_record_of:Have P w K mg base "record_of" k qL0 (spG K ARun 30 (fun _=>True)))(G_Run___init__:zdc P w K mg base ARun "Run" k ["self","founds"] (spRunI K ARun))(m_list:mg "list"=none)(clR:Cls K ARun)(nN:zaP K ARun "names"):qF P w K mg base k f fd ["rule","founds"] (spGone K):=by
 refine F.okQ zga (by rintro _ _ _ _ ⟨_,_,_,_,_,rfl,_⟩;rfl) fun _ _ _ _ H vs Q E hr h=>?_;obtain⟨u,fl,us,fs,x,rfl,ru,hfl,hlen,few,hres,hh,hf,q1,q2⟩:=h;refine⟨_,(zm (zC (i:=2) zga.nd rfl (Or.inl rfl) (ziF G_Run___init__ hr rfl (zc (pv 1) zi)))
  (zm (zC (i:=3) zga.nd rfl (Or.inl rfl) (zy G_record_of hr rfl (zc (pv 2) (zc (pv 0) (zc zdR zi)))))
  (zm (zN (zb6 (zb5 (zF zK (pv 3) zn (fun _ _=>rfl)))) (zo (zt (zG (zc zr (zc (zI Zb rfl m_list Zo (zc (zbu (pv 2) rfl) zi)) zi))))) zA)
  (zo (zt (zG (zc zr (zc (zI Zb rfl m_list Zo (zc (zbu (pv 2) rfl) zi)) (zc (pv 3) zi))))))))),nm4 ?_⟩
 intros;refine⟨_,rfl,fun p dx np ndx nxp=>?_⟩;have s1:Same H (upd (upd H dx (.own p)) p (.ins ARun dx [])):=fun c o e=>by
  rw[zH (zB e np),zH (zB e ndx)];exact e
 refine⟨p,dx,fl,us,rfl,zj,s1.seq hfl,fun l1 l2 hl1 hl2 n12 H2 hp2 el1 el2 kp=>⟨rfl,?_⟩⟩;have s2:Same H H2:=fun c o e=>kp c o (zB e np) (s1 c o e);have rn2:Rn K ARun fs p l1 l2 H2 []:=⟨⟨dx,hp2⟩,⟨us,el1,hlen,fun i v r a b=>(hres i v r a b).mono s2⟩,el2,n12,few⟩;have hl20:H l2=none:=s1.free hl2;refine⟨_,rfl,_,rfl,fun d hd=>?_⟩;have s3:=Sn (o:=.dK []) hd;have s23:=s2.trans s3;refine⟨fs,p,l1,l2,u,d,[],e0,x,[],rfl,rn2.same s3,ru.mono (zx s23),zj,by decide,(fun s x hx=>by cases hx),hh,hf,trivial,fun rv H4 g4 rn4 rr=>?_⟩;have s4:Same H H4:=fun c o e=>g4.k c o (zB e hl20) (s23 c o e);obtain⟨dx4,hp4⟩:=rn4.ins;have na:=rn4.na;obtain⟨a,b,rv0,rfl,ea,rres⟩:=rr.res;refine⟨_,rfl,a,_,0,_,rfl,rfl,Sq ea,rfl,_,rfl,?_⟩
 by_cases hst:(ev fs x e0 []).1.res=.stop
 ·rw[hst] at rres
  obtain rfl:rv0=.non:=rres;refine iteT ⟨_,rfl,p,ARun,dx4,_,_,rfl,hp4,clR,nN,zbI _ _,l2,_,rfl,.inl (Sl na),fun l3 hl3=>?_⟩;have s5:=Sn (o:=.lst ((ev fs x e0 []).2.map V.str)) hl3;refine⟨zl2,fun a6 ha6=>?_⟩;have s6:=Sn (o:=.tup [.str "look",.ref l3]) ha6;exact q1 hst a6 l3 _ ((s4.trans s5).trans s6) (s4.free hl3) zj (s6 _ _ zj)
 ·rw[rres.ne_non hst]
  refine iteF ⟨_,rfl,p,ARun,dx4,_,_,rfl,hp4,clR,nN,zbI _ _,l2,_,rfl,.inl (Sl na),fun l3 hl3=>?_⟩;have s5:=Sn (o:=.lst ((ev fs x e0 []).2.map V.str)) hl3;refine⟨_,rfl,zl3,fun a6 ha6=>?_⟩;have s6:=Sn (o:=.tup [.str "ended",.ref l3,.ref a]) ha6;exact q2 hst a6 l3 _ _ ((s4.trans s5).trans s6) (s4.free hl3) zj (s6 _ _ zj) (rr.mono (s5.trans s6))
inductive spVar(vs:List V)(H:Hp)(Q:VK)(z3:XK):Prop
 |mk (b:jC) (_:vs=[.ref b]) (_:IsBox H b) (_:∀(z:Str)(H':Hp),z.length<=8->Signs z->Step b H H'->Q (.str z) H')
noncomputable def abxy:Str:=uX "abxy"
noncomputable def abc:Str:=uX "abcdefghijklmnopqrstuvwxyz"
theorem Step.ofSame'{b:jC}{H H':Hp}(hb:IsBox H b)(s:Same H H'):Step b H H':=⟨by obtain⟨x,y,z,e⟩:=hb;exact⟨x,y,z,s _ _ e⟩,fun c o _ e=>s c o e⟩
theorem zgb{z:Str}{i:Int}(h0:0<=i)(h1:i<z.length):∃c,atI z.cps.toList i=some c/\c∈z.cps.toList:=by
 have hl:i.toNat<z.cps.toList.length:=by rw[←Zt] at h1;lia
 refine⟨z.cps.toList[i.toNat],?_,xD hl⟩;have:=zu (yA hl);rw[show ((i.toNat:Nat):Int)=i by lia] at this;exact this
theorem zhu:Signs abxy:=fun c hc=>by
 have e:abxy.cps.toList=[97,98,120,121]:=by decide
 rw[e] at hc;simp at hc;lia
theorem zi9:∀c∈abc.cps.toList,97<=c/\c<=122:=by decide
theorem zb8:FnScope ["_law_box_here","_law_letters"] ["_law_box_here"] (zq zbn):=mkSc rfl (by decide +kernel)
theorem zfk(F:Fun K "_law_variable" "_law_variable" zbn f fd)(G_ltake:Have P w K mg base "_law_take" k qL2 (spTake))(m_range:mg "range"=none):qF P w K mg base k f fd qL7 (spVar):=by
 refine F.okQ zb8 (by rintro _ _ _ _ ⟨_,rfl,_⟩;rfl) fun _ _ _ _ H vs Q E hr h=>?_;obtain⟨b,rfl,hb,q⟩:=h;refine⟨_,(zm (zN (zE zX (zy G_ltake hr rfl (zc (pv 0) (zc zn zi))) zn (nomark _)) (zo (zt (zF zeN zr (zy G_ltake hr rfl (zc (pv 0) (zc zn zi))) (fun _ _=>rfl)))) zA)
  (zm (zC (i:=1) zb8.nd rfl (Or.inr rfl) zr)
  (zo (zt (zbx PySem.F.plainAttrs_str PySem.F.slot_str_join PySem.F.type_str_join ziw zr (zc (Zj [1,0] ["_law_letters","_law_box_here"] rfl rfl (by decide) rfl (by decide) rfl (by decide) ⟨rfl,rfl,trivial⟩ rfl ⟨⟨rfl,rfl,Or.inr (Or.inl rfl),(by show (some NameKind.cell:Option NameKind)≠some .local;decide),⟨_,rfl⟩⟩,⟨rfl,rfl,Or.inr (Or.inl rfl),(by show (some NameKind.cell:Option NameKind)≠some .local;decide),⟨_,rfl⟩⟩,trivial⟩ (Zc rfl m_range (zc (zJ Zi zn (zy G_ltake hr rfl (zc (pv 0) (zc zn zi)))) zi)) (fun C s H fp=>⟨Zd,(zF zeN (pv 1) (zy G_ltake hr rfl (zc (pv 2) (zc zn zi))) (fun _ _=>rfl))⟩)) zi)))))),nm3 ?_⟩
 intros;refine⟨_,rfl,b,2,rfl,hb,by decide,by decide,fun r H1 r0 r1 st1=>⟨rfl,_,rfl,ite2 (fun _=>?_) (fun _=>?_)⟩⟩
 ·refine⟨_,rfl,b,4,rfl,st1.box,by decide,by decide,fun n H2 n0 n1 st2=>?_⟩
  have h4:abxy.length=4:=by decide
  obtain⟨c,hc,hm⟩:=zgb (z:=abxy) n0 (by lia);refine⟨abxy,n,c,rfl,rfl,by decide,hc,q _ _ (by show 1<=8;decide) (fun d hd=>?_) (st1.trans st2)⟩;have:d=c:=by simpa using hd
  rw[this];exact zhu c hm
 ·refine⟨rfl,_,rfl,b,8,rfl,st1.box,by decide,by decide,fun m H3 m0 m1 st3=>?_⟩
  refine⟨_,_,rfl,rfl,1+m,rfl,by lia,by lia,fun i j us H'=>i<=(1+m).toNat/\j=(1+m).toNat-i/\(∃cs:List Nat,us=(cs.map fun c=>(⟨#[c]⟩:Str)).map V.str/\cs.length=i/\∀c∈cs,97<=c/\c<=122)/\Step b H H',⟨_,yJ _,rfl,⟨[],rfl,rfl,fun c h=>nomatch h⟩,st1.trans st3⟩,fun i j us H' hW=>?_⟩;obtain⟨hi,hj,⟨cs,rfl,hcl,hcs⟩,st4⟩:=hW;refine⟨small (by rw[yB,yB];lia),?_⟩
  by_cases hlt:i<(1+m).toNat
  ·refine .inr ⟨hlt,fun v' H5 hy=>?_⟩
   obtain⟨rfl,rfl⟩:=hy;refine iteT ⟨_,rfl,_,rfl,b,26,rfl,st4.box,by decide,by decide,fun n H6 n0 n1 st6=>?_⟩;have h26:abc.length=26:=by decide
   obtain⟨c,hc,hm⟩:=zgb (z:=abc) n0 (by lia);refine⟨abc,n,c,rfl,rfl,by decide,hc,(1+m).toNat-(i+1),by lia,by lia,rfl,⟨cs++[c],by simp,by rw[yD,hcl];rfl,fun d hd=>?_⟩,st4.trans st6⟩;rcases yT.mp hd with hd|hd
   ·exact hcs d hd
   ·rw[yI.mp hd];exact zi9 c hm
  ·refine .inl ⟨(by show (1+m).toNat<=i;lia),fun D hD=>?_⟩
   have s5:=Sn (o:=.lst ((cs.map fun c=>(⟨#[c]⟩:Str)).map V.str)) hD;refine⟨uX "",D,cs.map fun c=>(⟨#[c]⟩:Str),rfl,rfl,Sl zj,?_,?_⟩
   ·have e0:(uX "").length=0:=by decide
    have e1:((cs.map fun c=>(⟨#[c]⟩:Str)).map (·.length)).sum=cs.length:=by
     rw[wG];clear hcs hcl s5 hD
     induction cs with
     |nil=>rfl
     |cons x r ih=>
      rw[yW,List.sum_cons,yQ];have:((fun z:Str=>z.length)∘fun c=>(⟨#[c]⟩:Str)) x=1:=rfl;lia
    rw[e0,e1];lia
   ·rw[zdw]
    refine q _ _ ?_ (fun c hc=>?_) (st4.trans (Step.ofSame' st4.box s5))
    ·show cs.toArray.size<=8
     rw[yF];lia
    ·have:=hcs c (by simpa using hc)
     lia
inductive spLit(vs:List V)(H:Hp)(Q:VK)(z3:XK):Prop
 |mk (b l:jC) (names:List Str) (_:vs=[.ref b,.ref l]) (_:IsBox H b) (_:H l=some (.lst (names.map V.str))) (_:l≠b) (_:names≠[]) (_:names.length<=100) (_:(∀z∈names,z.length<=400/\Signs z)) (_:∀(v:V)(x:W)(H':Hp),RW H' v (.lst [.txt "lit",x])->x.Ok->x.depth<=3->Step b H H'->Q v H')
theorem RW.pair{H:Hp}{a:jC}{u1 u2:V}{w1 w2:W}(e:H a=some (.tup [u1,u2]))(r1:RW H u1 w1)(r2:RW H u2 w2):RW H (.ref a) (.lst [w1,w2]):=
 .lst e rfl fun i v w hv hw=>match i,hv,hw with
  |0,hv,hw=>by
   have a1:u1=v:=by simpa using hv
   have a2:w1=w:=by simpa using hw
   rw[←a1,←a2];exact r1
  |1,hv,hw=>by
   have a1:u2=v:=by simpa using hv
   have a2:w2=w:=by simpa using hw
   rw[←a1,←a2];exact r2
  |j+2,hv,hw=>by simp at hv
theorem za1{H H':Hp}(s:Same H H'):Tups H H':=fun a vs e=>s a _ e
theorem zma:FnScope ["_law_box_here","_law_names_here"] ["_law_box_here","_law_names_here"] (zq zil):=mkSc rfl (by decide +kernel)
theorem zmb(F:Fun K "_law_lit" "_law_lit" zil f fd)(G_lworth:Have P w K mg base "_law_worth" k qL10 (spWorth 13))(G_ltake:Have P w K mg base "_law_take" k qL2 (spTake))(m_len:mg "len"=none):qF P w K mg base k f fd qL6 (spLit):=by
 refine F.okQ zma (by rintro _ _ _ _ ⟨_,_,_,rfl,_⟩;rfl) fun _ _ _ _ H vs Q E hr h=>?_;obtain⟨b,l,names,rfl,hb,hl,hlb,hne,hn,hz,q⟩:=h;have hpos:0<names.length:=xU.mpr hne;refine⟨_,(zm (zN (PW.pt (zaO (zE (zk4 (yZ (yY _ 64) hr.units)) (pv 1) (zO zi) (nomark _)) (zak (zE zX (zy G_ltake hr rfl (zc (pv 0) (zc zn zi))) zn (nomark _))))) (zo (zt (zG (zc zr (zc (zF zD (pv 1) (zy G_ltake hr rfl (zc (pv 0) (zc (zw zL rfl m_len tG (zc (pv 1) zi)) zi))) (fun _ _=>rfl)) zi))))) zA)
  (zo (zt (zG (zc zr (zc (zy G_lworth hr rfl (zc (pv 0) (zc zn (zc zn zi)))) zi)))))),nm2 ?_⟩
 intros;refine⟨_,rfl,zl0,fun e0 he0=>?_⟩;have s0:=Sn (o:=.lst []) he0;have st0:=Step.ofSame' hb s0;refine⟨l,e0,names.map V.str,rfl,rfl,Sl (s0 _ _ hl),Sl zj,_,rfl,?_⟩;have e1:(!(names.map V.str).isEmpty)=true:=by
  cases names with
  |nil=>exact absurd rfl hne
  |cons x r=>rfl
 rw[e1];refine iteT ⟨_,rfl,b,3,rfl,st0.box,by decide,by decide,fun r H1 r0 r1 st1=>⟨rfl,_,rfl,ite2 (fun _=>?_) (fun _=>?_)⟩⟩
 ·have stA:=st0.trans st1
  have hl1:=stA.keep l _ hlb hl;refine⟨_,rfl,_,rfl,_,rfl,_,_,rfl,.inl ⟨_,Sl hl1,rfl⟩,b,_,rfl,stA.box,by rw[yB];lia,by rw[yB];lia,fun n H2 n0 n1 st2=>?_⟩;rw[yB] at n1;have hi:n.toNat<names.length:=by lia
  have hat:atI (names.map V.str) n=some (.str names[n.toNat]):=by
   have:=zu (xs:=names.map V.str) (j:=n.toNat) (v:=.str names[n.toNat]) (by rw[yE,yA hi];rfl);rw[show ((n.toNat:Nat):Int)=n by lia] at this;exact this
  have stB:=stA.trans st2;refine⟨l,_,n,_,rfl,rfl,Sl (stB.keep l _ hlb hl),hat,zl2,fun a ha=>?_⟩;have s3:=Sn (o:=.tup [.str "lit",.str names[n.toNat]]) ha;exact q _ (.txt names[n.toNat]) _ (RW.pair zj (.txt _) (.txt _)) (hz _ (xD hi)) (by simp[W.depth]) (stB.trans (Step.ofSame' stB.box s3))
 ·have stA:=st0.trans st1
  refine⟨_,rfl,b,6,3,rfl,stA.box,by decide,by decide,by decide,by decide,fun v x H2 rx okx dx sx st2=>⟨zl2,fun a ha=>?_⟩⟩;have stB:=stA.trans st2;have s3:=Sn (o:=.tup [.str "lit",v]) ha;exact q _ x _ (RW.pair zj (.txt _) (rx.mono (za1 s3))) okx (by lia) (stB.trans (Step.ofSame' stB.box s3))
inductive Wo where
 |lit|var|letw|ifw|add|sub|mul|div|same|less|join|list|item|count|figs|each|over|look|elsew|cry
noncomputable def woS:Wo->Str
 |.lit=>"lit"
 |.var=>"var"
 |.letw=>"let"
 |.ifw=>"if"
 |.add=>"+"
 |.sub=>"-"
 |.mul=>"*"
 |.div=>"/"
 |.same=>"same"
 |.less=>"less"
 |.join=>"join"
 |.list=>"list"
 |.item=>"item"
 |.count=>"count"
 |.figs=>"figures"
 |.each=>"each"
 |.over=>"over"
 |.look=>"look"
 |.elsew=>"else"
 |.cry=>"cry"
noncomputable def zdk:List Wo:=[.lit,.var,.letw,.ifw,.add,.sub,.mul,.div,.same,.less,.join,.list,.item,.count,.figs,.each,.over,.look,.elsew,.cry]
noncomputable def w3:Wo->Bool
 |.ifw=>true
 |.over=>true
 |_=>false
noncomputable def w1:Wo->Bool
 |.count=>true
 |.figs=>true
 |.look=>true
 |.cry=>true
 |_=>false
noncomputable def wVL:Wo->Bool
 |.var=>true
 |.list=>true
 |_=>false
noncomputable def wEO:Wo->Bool
 |.each=>true
 |.over=>true
 |_=>false
noncomputable def wLit:Wo->Bool
 |.lit=>true
 |_=>false
noncomputable def wVar:Wo->Bool
 |.var=>true
 |_=>false
def Wo.needs(d:Wo):Int:=if wVL d then 0 else 2+(if w3 d then 1 else 0)-(if w1 d then 1 else 0)
theorem in3(d:Wo):inV (.str (woS d)) [.str "if",.str "over"]=w3 d:=by cases d<;>decide
theorem in1(d:Wo):inV (.str (woS d)) [.str "count",.str "figures",.str "look",.str "cry"]=w1 d:=by cases d<;>decide
theorem inVL(d:Wo):inV (.str (woS d)) [.str "var",.str "list"]=wVL d:=by cases d<;>decide
theorem inEO(d:Wo):inV (.str (woS d)) [.str "each",.str "over"]=wEO d:=by cases d<;>decide
theorem zne(d:Wo):decide (V.str (woS d)=V.str "lit")=wLit d:=by cases d<;>decide
theorem znf(d:Wo):decide (V.str (woS d)=V.str "var")=wVar d:=by cases d<;>decide
inductive spWord(vs:List V)(H:Hp)(Q:VK)(z3:XK):Prop
 |mk (b sc:jC) (us:List V) (spare floors rounds:Int) (_:vs=[.ref b,.ref sc,.int spare,.int floors,.int rounds]) (_:IsBox H b) (_:H sc=some (.lst us)) (_:sc≠b) (_:∀(d:Wo)(H':Hp),Step b H H'->(wLit d=false->d.needs<spare/\(floors=0->wVL d=true)/\(wVar d=true->us≠[])/\(wEO d=true->rounds≠0))->Q (.str (woS d)) H')
theorem za2:FnScope ["_law_box_here","_law_scope","_law_spare","_law_floors","_law_rounds","_law_words","_law_word_here","_law_needs"] ["_law_box_here","_law_scope","_law_spare","_law_floors","_law_rounds"] (zq zfL):=mkSc rfl (by decide +kernel)
theorem zke(F:Fun K "_law_word" "_law_word" zfL f fd)(G_ltake:Have P w K mg base "_law_take" k qL2 (spTake))(m_int:mg "int"=none):qF P w K mg base k f fd qL19 (spWord):=by
 refine F.okQ za2 (by rintro _ _ _ _ ⟨_,_,_,_,_,_,rfl,_⟩;rfl) fun _ _ _ _ H vs Q E hr h=>?_;obtain⟨b,sc,us,spare,floors,rounds,rfl,hb,hsc,hne,q⟩:=h;refine⟨_,(zm (zC (i:=5) za2.nd rfl (Or.inl rfl) (zO (zc zr (zc zr (zc zr (zc zr (zc zr (zc zr (zc zr (zc zr (zc zr (zc zr (zc zr (zc zr zi))))))))))))))
  (zm (zC (i:=5) za2.nd rfl (Or.inl rfl) (zJ zdq (pv 5) (zO (zc zr (zc zr (zc zr (zc zr (zc zr (zc zr (zc zr (zc zr zi)))))))))))
  (zm (zC (i:=6) za2.nd rfl (Or.inl rfl) (zF zD (pv 5) (zy G_ltake hr rfl (zc (pv 0) (zc zn zi))) (fun _ _=>rfl)))
  (zm (zC (i:=7) za2.nd rfl (Or.inl rfl) (zJ Zk (zJ Zi zn (zI zau rfl m_int Z9 (zc (zV Z7 (pv 6) (zG (zc zr (zc zr zi))) (by rfl)) zi))) (zI zau rfl m_int Z9 (zc (zV Z7 (pv 6) (zG (zc zr (zc zr (zc zr (zc zr zi))))) (by rfl)) zi))))
  (zm (zN (zE Z7 (pv 6) (zG (zc zr (zc zr zi))) (by rfl)) (zo (zC (i:=7) za2.nd rfl (Or.inl rfl) zn)) zA)
  (zm (zN (PW.pt (zaM (zE zX (pv 6) zr (nomark _)) (zaM (PW.pt (zaO (zE zX (pv 3) zn (nomark _)) (zak (zE zeQ (pv 6) (zG (zc zr (zc zr zi))) (by rfl))))) (zae (zE zmC (pv 7) (pv 2) (nomark _)))))) (zo (zt zr)) zA)
  (zm (zN (PW.pt (zaM (PW.pt (zaO (zE zX (pv 6) zr (nomark _)) (zak (zE (zdx (yZ (yY _ 64) hr.units)) (pv 1) (zO zi) (nomark _))))) (zae (PW.pt (zaO (zE Z7 (pv 6) (zG (zc zr (zc zr zi))) (by rfl)) (zak (zE zX (pv 4) zn (nomark _)))))))) (zo (zt zr)) zA)
  (zo (zt (pv 6)))))))))),nm8 ?_⟩
 intros;refine⟨zl12,fun p1 h1=>?_⟩;have st1:=Step.new (o:=.lst ((zdk.take 12).map fun d=>V.str (woS d))) hb h1;refine⟨_,rfl,zl8,fun p2 h2=>?_⟩;have s2:=Sn (o:=.lst ((zdk.drop 12).map fun d=>V.str (woS d))) h2;refine⟨p1,p2,(zdk.take 12).map (fun d=>V.str (woS d)),(zdk.drop 12).map (fun d=>V.str (woS d)),rfl,rfl,s2 _ _ zj,zj,(by decide),fun p3 h3=>?_⟩;have st2:=st1.trans (Step.ofSame' st1.box s2);have st3:=st2.trans (Step.new (o:=.lst (zdk.map fun d=>V.str (woS d))) st2.box h3);refine⟨_,rfl,_,rfl,b,20,rfl,st3.box,by decide,by decide,fun r H1 r0 r1 st4=>?_⟩;have hi:r.toNat<zdk.length:=by show r.toNat<20;lia
 obtain⟨d,hat⟩:∃d:Wo,atI (zdk.map fun d=>V.str (woS d)) r=some (.str (woS d)):=⟨zdk[r.toNat],by
  have:=zu (xs:=zdk.map fun d=>V.str (woS d)) (j:=r.toNat) (v:=.str (woS zdk[r.toNat])) (by rw[yE,yA hi];rfl);rw[show ((r.toNat:Nat):Int)=r by lia] at this;exact this⟩
 have stA:=st3.trans st4;refine⟨p3,_,r,_,rfl,rfl,Sl (st4.keep p3 _ (by obtain⟨x,y,z,e⟩:=st2.box;exact (zB e h3).symm) zj),hat,?_⟩;refine⟨_,rfl,zl2,fun q1 hq1=>⟨q1,_,rfl,.inr (Sq zj),rfl,rfl,.inr ⟨_,rfl,_,_,rfl,rfl,_,rfl,zl4,fun q2 hq2=>⟨q2,_,rfl,.inr (Sq zj),rfl,rfl,.inr ⟨_,rfl,_,_,rfl,rfl,?_⟩⟩⟩⟩⟩;have stB:=stA.trans (Step.new (o:=.tup [.str "if",.str "over"]) stA.box hq1);have stC:=stB.trans (Step.new (o:=.tup [.str "count",.str "figures",.str "look",.str "cry"]) stB.box hq2);dsimp only[zW];refine seqI (fun σ' H'=>∃o5,σ'=[some (.ref b),some (.ref sc),some (.int spare),some (.int floors),some (.int rounds),o5,some (.str (woS d)),some (.int d.needs)]/\Step b H H') (fun σ' H' h=>?_) (fun tl=>?_)
 ·obtain⟨o5,rfl,stD⟩:=h
  refine seqI (fun σ' H'=>∃o5,σ'=[some (.ref b),some (.ref sc),some (.int spare),some (.int floors),some (.int rounds),o5,some (.str (woS d)),some (.int d.needs)]/\Step b H H'/\wLit d=false/\d.needs<spare/\(floors=0->wVL d=true)) (fun σ' H' h=>?_) (fun tl=>?_)
  ·obtain⟨o5,rfl,stE,hlit,hneed,hfl⟩:=h
   refine⟨_,rfl,rfl,_,rfl,?_⟩;rw[show uX "var"="var" from rfl,znf];cases hv:wVar d with
   |true=>
    refine iteT ⟨_,rfl,zl0,fun e0 he0=>?_⟩;have stF:=stE.trans (Step.new (o:=.lst []) stE.box he0);refine⟨sc,e0,us,rfl,rfl,Sl (stF.keep sc _ hne hsc),Sl zj,_,rfl,?_⟩;cases hus:us with
    |nil=>exact iteT (iteT (q .lit _ stF (fun h=>nomatch h)))
    |cons x r=>
     have hsv:wVar d=true->us≠[]:=fun _ z=>by rw[hus] at z;cases z
     refine iteF ?_;refine⟨_,rfl,zl2,fun q5 hq5=>⟨q5,_,rfl,.inr (Sq zj),rfl,rfl,_,rfl,?_⟩⟩;have st9:=stF.trans (Step.new (o:=.tup [.str "each",.str "over"]) stF.box hq5);show if inV (.str (woS d)) [.str "each",.str "over"]=true then _ else _;rw[inEO];cases heo:wEO d with
     |true=>
      refine iteT ⟨_,rfl,rfl,_,rfl,ite2 (fun c3=>q .lit _ st9 (fun h=>nomatch h)) (fun c3=>?_)⟩;exact⟨_,rfl,q d _ st9 fun _=>⟨hneed,hfl,hsv,fun _ z=>c3 (by rw[z];rfl)⟩⟩
     |false=>exact iteF (iteF ⟨_,rfl,q d _ st9 fun _=>⟨hneed,hfl,hsv,fun z=>by rw[heo] at z;cases z⟩⟩)
   |false=>
    have hsv:wVar d=true->us≠[]:=fun z=>by rw[hv] at z;cases z
    refine iteF (iteF ?_);refine⟨_,rfl,zl2,fun q5 hq5=>⟨q5,_,rfl,.inr (Sq zj),rfl,rfl,_,rfl,?_⟩⟩;have st9:=stE.trans (Step.new (o:=.tup [.str "each",.str "over"]) stE.box hq5);show if inV (.str (woS d)) [.str "each",.str "over"]=true then _ else _;rw[inEO];cases heo:wEO d with
    |true=>
     refine iteT ⟨_,rfl,rfl,_,rfl,ite2 (fun c3=>q .lit _ st9 (fun h=>nomatch h)) (fun c3=>?_)⟩;exact⟨_,rfl,q d _ st9 fun _=>⟨hneed,hfl,hsv,fun _ z=>c3 (by rw[z];rfl)⟩⟩
    |false=>exact iteF (iteF ⟨_,rfl,q d _ st9 fun _=>⟨hneed,hfl,hsv,fun z=>by rw[heo] at z;cases z⟩⟩)
  ·refine⟨_,rfl,rfl,_,rfl,?_⟩
   rw[show uX "lit"="lit" from rfl,zne];cases hlit:wLit d with
   |true=>exact iteT (iteT (q .lit _ stD (fun h=>nomatch h)))
   |false=>
    refine iteF ⟨_,rfl,rfl,_,rfl,ite2 (fun c=>?_) (fun c=>iteF ?_)⟩
    ·refine⟨_,rfl,zl2,fun q4 hq4=>⟨q4,_,rfl,.inr (Sq zj),rfl,rfl,_,rfl,?_⟩⟩
     have stE:=stD.trans (Step.new (o:=.tup [.str "var",.str "list"]) stD.box hq4);show if (!inV (.str (woS d)) [.str "var",.str "list"])=true then _ else _;rw[inVL];cases hvl:wVL d with
     |false=>exact iteT (iteT (q .lit _ stE (fun h=>nomatch h)))
     |true=>
      refine iteF ?_;refine⟨_,rfl,_,rfl,_,_,rfl,rfl,_,rfl,ite2 (fun c2=>q .lit _ stE (fun h=>nomatch h)) (fun c2=>?_)⟩;exact tl _ _ ⟨_,rfl,stE,hlit,(by
       have:¬spare<=d.needs:=fun z=>c2 (decide_eq_true z);lia),fun _=>hvl⟩
    ·have hf0:floors≠0:=fun z=>c (by rw[z];rfl)
     refine⟨_,rfl,_,rfl,_,_,rfl,rfl,_,rfl,ite2 (fun c2=>q .lit _ stD (fun h=>nomatch h)) (fun c2=>?_)⟩;exact tl _ _ ⟨_,rfl,stD,hlit,(by
      have:¬spare<=d.needs:=fun z=>c2 (decide_eq_true z);lia),fun z=>absurd z hf0⟩
 ·refine⟨_,rfl,zl2,fun q3 hq3=>⟨q3,_,rfl,.inr (Sq zj),rfl,rfl,_,rfl,?_⟩⟩
  have stD:=stC.trans (Step.new (o:=.tup [.str "var",.str "list"]) stC.box hq3);have e3:=in3 d;have e1:=in1 d;show if inV (.str (woS d)) [.str "var",.str "list"]=true then _ else _;rw[inVL];cases hvl:wVL d with
  |true=>exact iteT (tl _ _ ⟨_,by show _=[_,_,_,_,_,_,_,some (V.int d.needs)];unfold Wo.needs;rw[hvl];rfl,stD⟩)
  |false=>exact iteF (tl _ _ ⟨_,by show _=[_,_,_,_,_,_,_,some (V.int d.needs)];unfold Wo.needs;rw[hvl,←e3,←e1];rfl,stD⟩)
inductive Rl where
 |lit (x:W)
 |var (s:Str)
 |op (d:Wo) (bs:List Str) (ps:List Rl)
mutual
noncomputable def Rl.toW:Rl->W
 |.lit x=>.lst [.txt "lit",x]
 |.var s=>.lst [.txt "var",.txt s]
 |.op d bs ps=>.lst (.txt (woS d)::(bs.map W.txt++rlWs ps))
noncomputable def rlWs:List Rl->List W
 |[]=>[]
 |p::r=>p.toW::rlWs r
end
mutual
noncomputable def Rl.many:Rl->Nat
 |.lit _=>1
 |.var _=>1
 |.op _ _ ps=>1+manys ps
noncomputable def manys:List Rl->Nat
 |[]=>0
 |p::r=>p.many+manys r
end
mutual
noncomputable def Rl.high:Rl->Nat
 |.lit _=>0
 |.var _=>0
 |.op _ _ ps=>rhighs ps
noncomputable def rhighs:List Rl->Nat
 |[]=>0
 |p::r=>max (1+p.high) (rhighs r)
end
noncomputable def bcnt:Wo->Nat
 |.letw=>1
 |.each=>1
 |.over=>2
 |_=>0
def Cnt:Wo->Nat->Prop
 |.list,n=>n<=8
 |.ifw,n=>n=3
 |.over,n=>n=3
 |.count,n=>n=1
 |.figs,n=>n=1
 |.look,n=>n=1
 |.cry,n=>n=1
 |_,n=>n=2
mutual
def Rl.Fit:Rl->List Str->Prop
 |.lit x,_=>x.Ok/\x.depth<=3
 |.var s,sc=>s∈sc
 |.op d bs ps,sc=>wLit d=false/\wVar d=false/\wEO d=false/\bs.length=bcnt d/\Cnt d ps.length/\(∀z∈bs,z.length<=8/\Signs z)/\Fits ps sc bs
def Fits:List Rl->List Str->List Str->Prop
 |[],_,_=>True
 |[p],sc,bs=>p.Fit (sc++bs)
 |p::q::r,sc,bs=>p.Fit sc/\Fits (q::r) sc bs
end
theorem zja(l:List Rl)(r:Rl):rlWs (l++[r])=rlWs l++[r.toW]:=by
 induction l with
 |nil=>simp[rlWs]
 |cons p l ih=>simp only[xJ,rlWs,ih]
theorem zet:∀l:List Rl,(rlWs l).length=l.length
 |[]=>by simp[rlWs]
 |_::l=>by simp only[rlWs,yQ,zet l]
theorem zdD(l:List Rl)(r:Rl):manys (l++[r])=manys l+r.many:=by
 induction l with
 |nil=>simp[manys]
 |cons p l ih=>simp only[xJ,manys,ih];lia
def Names(H:Hp)(b l:jC)(names:List Str):Prop:=H l=some (.lst (names.map V.str))/\l≠b/\names≠[]/\names.length<=100/\∀z∈names,z.length<=400/\Signs z
theorem Names.step{H H':Hp}{b l:jC}{names:List Str}(h:Names H b l names)(st:Step b H H'):Names H' b l names:=⟨st.keep l _ h.2.1 h.1,h.2⟩
inductive spAny(n:Nat)(vs:List V)(H:Hp)(Q:VK)(z3:XK):Prop
 |mk (b sc l:jC) (scope names:List Str) (spare floors rounds:Int):vs=[.ref b,.ref sc,.ref l,.int spare,.int floors,.int rounds]->IsBox H b->Names H b l names->H sc=some (.lst (scope.map V.str))->sc≠b->scope.length+2*n<=1000->1<=spare->spare<=100->0<=floors->floors<n->rounds=0->(∀(t:jC)(v:V)(r:Rl)(H':Hp),H' t=some (.tup [v,.int r.many])->RW H' v r.toW->r.Fit scope->(r.many:Int)<=spare->(r.high:Int)<=floors+1->Step b H H'->Q (.ref t) H')->spAny n vs H Q z3
inductive spPartsBy(n:Nat)(vs:List V)(H:Hp)(Q:VK)(z3:XK):Prop
 |mk (b ss l rs:jC) (as:List jC) (scopes:List (List Str)) (names:List Str) (rounds:List Int) (spare floors:Int):vs=[.ref b,.ref ss,.ref l,.int spare,.int floors,.ref rs]->IsBox H b->Names H b l names->H ss=some (.lst (as.map V.ref))->ss≠b->H rs=some (.lst (rounds.map V.int))->rs≠b->as.length=scopes.length->scopes.length<=rounds.length->(∀r∈rounds,r=0)->(∀(i:Nat)(a:jC)(sc:List Str),as[i]?=some a->scopes[i]?=some sc->H a=some (.lst (sc.map V.str))/\a≠b/\sc.length+2*n<=1000)->(scopes.length:Int)<=spare->spare<=100->floors<n->(0<=floors\/scopes=[])->(∀(t t2:jC)(us:List V)(ps:List Rl)(H':Hp),H' t=some (.tup [.ref t2,.int (manys ps)])->H' t2=some (.tup us)->RWs H' us (rlWs ps)->ps.length=scopes.length->(∀(i:Nat)(p:Rl)(sc:List Str),ps[i]?=some p->scopes[i]?=some sc->p.Fit sc/\(p.high:Int)<=floors+1)->(manys ps:Int)<=spare->Step b H H'->Q (.ref t) H')->spPartsBy n vs H Q z3
theorem Zg:FnScope ["_law_box_here","_law_scopes","_law_names_here","_law_spare","_law_floors","_law_rounds","_law_found","_law_used","_law_k","_law_scope","_law_rest","_law_part","_law_more"] ["_law_box_here","_law_scopes","_law_names_here","_law_spare","_law_floors","_law_rounds"] (zq zbo):=mkSc rfl (by decide +kernel)
theorem zb9(F:Fun K "_law_parts_by" "_law_parts_by" zbo f fd)(G_lany:Have P w K mg base "_law_any" k qL18 (spAny n))(m_enumerate:mg "enumerate"=none)(m_len:mg "len"=none)(m_tuple:mg "tuple"=none):qF P w K mg base k f fd qL20 (spPartsBy n):=by
 refine F.okQ Zg (by rintro _ _ _ _ ⟨_,_,_,_,_,_,_,_,_,_,rfl,_⟩;rfl) fun _ _ _ _ H vs Q E hr h=>?_;obtain⟨b,ss,l,rs,as,scopes,names,rounds,spare,floors,rfl,hb,hnm,hss,hsb,hrs,hrb,hal,hrl,hrr,hsc,hsp,hs100,hfn,hf0,q⟩:=h;refine⟨_,(zm (zC (i:=6) Zg.nd rfl (Or.inl rfl) (zO zi))
  (zm (zC (i:=7) Zg.nd rfl (Or.inl rfl) zn)
  (zm (Z6 tN rfl (zcW rfl m_enumerate (zc (pv 1) zi)) (zaJ rfl (zZ (zS (i:=8) Zg.nd rfl (Or.inl rfl)) (zZ (zS (i:=9) Zg.nd rfl (Or.inl rfl)) zar))) (zm (zC (i:=10) Zg.nd rfl (Or.inl rfl) (zJ Zk (zJ Zk (pv 3) (pv 7)) (zJ Zk (zJ Zk (zw zL rfl m_len tG (zc (pv 1) zi)) (pv 8)) zn)))
  (zm (zaK (zy G_lany hr rfl (zc (pv 0) (zc (pv 9) (zc (pv 2) (zc (pv 10) (zc (pv 4) (zc (zF zD (pv 5) (pv 8) (fun _ _=>rfl)) zi))))))) (zaJ rfl (zZ (zS (i:=11) Zg.nd rfl (Or.inl rfl)) (zZ (zS (i:=12) Zg.nd rfl (Or.inl rfl)) zar))))
  (zm (ZW (zbx tO tQ tP ZM (pv 6) (zc (pv 11) zi)))
  (zo (zC (i:=7) Zg.nd rfl (Or.inl rfl) (zJ Zi (pv 7) (pv 12))))))))
  (zo (zt (zG (zc (zI zP rfl m_tuple zM (zc (pv 6) zi)) (zc (pv 7) zi)))))))),nm4 ?_⟩
 intros;refine⟨zl0,fun p hp=>?_⟩;have st0:=Step.new (o:=.lst []) hb hp;have hpb:p≠b:=fun z=>by
  obtain⟨x,y,w',e⟩:=hb;rw[←z,hp] at e;cases e
 refine⟨_,rfl,ss,as.map V.ref,rfl,Sl (st0.keep ss _ hsb hss),zgA (xs:=as.map V.ref) (fun i σ' H'=>∃(o8 o9 o10 o11 o12:Option V)(us:List V)(ps:List Rl),σ'=[some (.ref b),some (.ref ss),some (.ref l),some (.int spare),some (.int floors),some (.ref rs),some (.ref p),some (.int (manys ps)),o8,o9,o10,o11,o12]/\Step b H H'/\H' p=some (.lst us)/\RWs H' us (rlWs ps)/\ps.length=i/\(∀(i:Nat)(p:Rl)(sc:List Str),ps[i]?=some p->scopes[i]?=some sc->p.Fit sc/\(p.high:Int)<=floors+1)/\(manys ps:Int)+(scopes.length-i)<=spare)
  ⟨none,none,none,none,none,[],[],rfl,st0,zj,⟨rfl,fun i v w e=>by simp at e⟩,rfl,fun i p sc e=>by simp at e,by simp[manys];lia⟩ (fun i σ' H' _ h=>?_) (fun i x t σ' H' hx ht h=>?_) (fun σ' H' h=>?_)⟩
 ·obtain⟨_,_,_,_,_,us,ps,_,st,_⟩:=h
  exact Sl (st.keep ss _ hsb hss)
 ·obtain⟨o8,o9,o10,o11,o12,us,ps,rfl,st,ep,hw,hpl,hfit,hm⟩:=h
  rw[yE] at hx;obtain⟨a,ha,rfl⟩:=yP.mp hx;have hi:i<as.length:=(yC.mp ha).1;have hsi:scopes[i]?=some scopes[i]:=yA (by lia);have hri:rounds[i]?=some rounds[i]:=yA (by lia);obtain⟨h1,h2,h3⟩:=hsc i a _ ha hsi;have r0:=hrr _ (yK hri);have hat:atI (rounds.map V.int) (i:Int)=some (.int rounds[i]):=zu (by rw[yE,hri];rfl);have sT:=Sn (o:=.tup [.int i,.ref a]) ht;have stT:=st.trans (Step.ofSame' st.box sT);have hf:0<=floors:=by
   rcases hf0 with h|h
   ·exact h
   ·have h0:as.length=0:=by rw[hal,h];rfl
    lia
  refine⟨t,_,rfl,Sq zj,rfl,_,_,rfl,_,_,rfl,rfl,?_⟩;refine⟨_,rfl,_,rfl,_,_,rfl,rfl,_,rfl,_,_,rfl,.inl ⟨_,Sl (stT.keep ss _ hsb hss),rfl⟩,_,rfl,_,_,rfl,rfl,_,_,rfl,rfl,_,_,rfl,rfl,?_⟩;refine⟨_,rfl,_,rfl,_,rfl,_,rfl,_,rfl,_,rfl,_,rfl,rs,_,_,_,rfl,rfl,Sl (stT.keep rs _ hrb hrs),hat,?_⟩;refine⟨b,a,l,scopes[i],names,_,floors,rounds[i],rfl,stT.box,hnm.step stT,stT.keep a _ h2 h1,h2,h3,?_,?_,hf,hfn,r0,fun t3 v r H3 et rw3 fit hmany hhigh st3=>?_⟩
  ·rw[yB,hal];lia
  ·rw[yB,hal];lia
  rw[yB,hal] at hmany;have st4:=stT.trans st3;have ep3:=(Step.ofSame' st.box sT).trans st3 |>.keep p _ hpb ep;have hul:=hw.len;rw[zet] at hul;refine⟨t3,_,rfl,Sq et,rfl,_,_,rfl,_,_,rfl,rfl,?_⟩;refine⟨_,rfl,.inl ⟨rfl,us,Sl ep3⟩,_,rfl,p,us,v,rfl,rfl,ep3,yZ (show us.length<=100 by lia) (by decide),?_⟩;refine⟨_,rfl,_,rfl,_,_,rfl,rfl,?_⟩;have tq:Tups H3 (upd H3 p (.lst (us++[v]))):=fun c zs ec=>by
   rw[zH (fun z=>by rw[z,ep3] at ec;cases ec)];exact ec
  have stF:Step b H (upd H3 p (.lst (us++[v]))):=⟨by
   obtain⟨x,y,z,e'⟩:=st4.box;exact⟨x,y,z,by rw[zH hpb.symm];exact e'⟩,fun c o hc e'=>by
   rw[zH (zB e' hp)];exact st4.keep c o hc e'⟩
  have tS:Tups H' H3:=fun c zs ec=>st3.tups stT.box c zs (sT _ _ ec);refine⟨some (.int i),some (.ref a),some (.int (spare-manys ps-(((as.map V.ref).length:Int)-i-1))),some v,some (.int r.many),us++[v],ps++[r],?_,stF,zj,?_,by rw[yD,hpl];rfl,fun j p' sc hj hs=>?_,?_⟩
  ·rw[zdD,Int.natCast_add]
   rfl
  ·rw[zja]
   exact ((hw.mono tS).mono tq).snoc (rw3.mono tq)
  ·by_cases hjl:j<ps.length
   ·rw[yN hjl] at hj
    exact hfit j p' sc hj hs
   ·rw[yR (by lia)] at hj
    have hj0:j-ps.length=0:=by
     have:=(yC.mp hj).1;simp at this;lia
    rw[hj0] at hj;cases hj;have hji:j=i:=by lia
    rw[hji,hsi] at hs;cases hs;exact⟨fit,hhigh⟩
  ·rw[zdD]
   lia
 ·obtain⟨o8,o9,o10,o11,o12,us,ps,rfl,st,ep,hw,hpl,hfit,hm⟩:=h
  rw[yB,hal] at hpl hm;refine⟨_,rfl,p,us,rfl,.inl ⟨Sl ep,fun t2 ht2=>⟨_,rfl,zl2,fun t ht=>?_⟩⟩⟩;have s1:=Sn (o:=.tup us) ht2;have s2:=Sn (o:=.tup [.ref t2,.int (manys ps)]) ht;have s3:=s1.trans s2;exact q t t2 us ps _ zj (s2 _ _ zj) (hw.mono (za1 s3)) hpl hfit (by lia) (st.trans (Step.ofSame' st.box s3))
theorem IsBox.ne{H:Hp}{b p:jC}(hb:IsBox H b)(hp:H p=none):p≠b:=fun z=>by
 obtain⟨x,y,w',e⟩:=hb;rw[←z,hp] at e;cases e
noncomputable def wIf:Wo->Bool
 |.ifw=>true
 |_=>false
noncomputable def zeu:Wo->Bool
 |.list=>true
 |_=>false
noncomputable def wB:Wo->Bool
 |.letw=>true
 |.each=>true
 |.over=>true
 |_=>false
noncomputable def zgc:Wo->Bool
 |.each=>true
 |_=>false
noncomputable def zcf:Wo->Bool
 |.over=>true
 |_=>false
theorem eqIf(d:Wo):decide (V.str (woS d)=V.str "if")=wIf d:=by cases d<;>decide
theorem zng(d:Wo):decide (V.str (woS d)=V.str "list")=zeu d:=by cases d<;>decide
theorem znh(d:Wo):decide (V.str (woS d)=V.str "each")=zgc d:=by cases d<;>decide
theorem zni(d:Wo):decide (V.str (woS d)=V.str "over")=zcf d:=by cases d<;>decide
theorem inB(d:Wo):inV (.str (woS d)) [.str "let",.str "each",.str "over"]=wB d:=by cases d<;>decide
def Wo.cnt(d:Wo):Int:=2+(if wIf d then 1 else 0)-(if w1 d then 1 else 0)
theorem znj(d:Wo):1<=d.cnt/\d.cnt<=3:=by cases d<;>decide
theorem zkf(d:Wo)(h:wLit d=false)(h2:wVar d=false)(h3:zeu d=false):d.cnt<=d.needs/\wVL d=false:=by cases d<;>first|(simp_all[wLit,wVar,zeu];done)|decide
theorem znk(d:Wo)(h:wB d=true):2<=d.needs/\wVL d=false:=by cases d<;>first|(simp[wB] at h;done)|decide
theorem znl(d:Wo)(h:zcf d=true):d.needs=3/\wB d=true/\bcnt d=2/\wEO d=true/\zgc d=false:=by cases d<;>first|(simp[zcf] at h;done)|decide
theorem znL(d:Wo)(h:wB d=true)(h2:zcf d=false):bcnt d=1:=by cases d<;>first|(simp[wB] at h;done)|(simp[zcf] at h2;done)|decide
theorem znM(d:Wo)(h:wB d=false):bcnt d=0/\zgc d=false/\zcf d=false:=by cases d<;>first|(simp[wB] at h;done)|decide
theorem znm(d:Wo)(h:zgc d=true):wB d=true/\wEO d=true/\zcf d=false:=by cases d<;>first|(simp[zgc] at h;done)|decide
theorem znN(d:Wo)(h:wB d=true)(h2:zcf d=false):Cnt d 2:=by cases d<;>first|(simp[wB] at h;done)|(simp[zcf] at h2;done)|rfl
theorem zmc(d:Wo)(h1:wLit d=false)(h2:wVar d=false)(h3:zeu d=false)(h4:wB d=false):Cnt d d.cnt.toNat:=by cases d<;>first|(simp[wLit] at h1;done)|(simp[wVar] at h2;done)|(simp[zeu] at h3;done)|(simp[wB] at h4;done)|rfl
theorem zkg(d:Wo)(h:zeu d=true){n:Nat}(hn:n<=8):Cnt d n:=by cases d<;>first|(simp[zeu] at h;done)|exact hn
def Shp(scopes:List (List Str))(scope bs:List Str):Prop:=(bs=[]/\∀s∈scopes,s=scope)\/∃m,scopes=yH m scope++[scope++bs]
theorem zgE{scope:List Str}:∀{ps:List Rl},(∀p∈ps,p.Fit scope)->Fits ps scope []
 |[],_=>by rw[Fits];trivial
 |[p],h=>by rw[Fits,xB];exact h p (by simp)
 |p::q::r,h=>by rw[Fits];exact⟨h p (by simp),zgE fun x hx=>h x (yL _ hx)⟩
theorem zfl{scope bs:List Str}:∀(m:Nat)(ps:List Rl),ps.length=m+1->(∀(i:Nat)(p:Rl)(sc:List Str),ps[i]?=some p->(yH m scope++[scope++bs])[i]?=some sc->p.Fit sc)->Fits ps scope bs
 |0,[p],_,h=>by rw[Fits];exact h 0 p _ rfl rfl
 |m+1,p::q::r,hl,h=>by
  rw[Fits];refine⟨h 0 p _ rfl (by rw[xO];rfl),zfl m (q::r) (by simpa using hl) fun i x sc hx hs=>h (i+1) x sc (by simpa using hx) ?_⟩;rw[xO,xJ,wI];exact hs
 |m+1,[p],hl,_=>by simp at hl
 |0,p::q::r,hl,_=>by simp at hl
theorem Shp.fits{scopes:List (List Str)}{scope bs:List Str}(h:Shp scopes scope bs){ps:List Rl}(hl:ps.length=scopes.length)(hp:∀(i:Nat) (p:Rl) (sc:List Str),ps[i]?=some p->scopes[i]?=some sc->p.Fit sc):Fits ps scope bs:=by
 rcases h with⟨rfl,h⟩|⟨m,rfl⟩
 ·refine zgE fun p hm=>?_
  obtain⟨i,hi,rfl⟩:=uN hm;have e:scopes[i]?=some (scopes[i]'(by lia)):=yA (by lia);have:=hp i _ _ (yA hi) e;rw[h _ (yK e)] at this;exact this
 ·exact zfl m ps (by simpa using hl) hp
theorem zfm{n:Int}:∀{ps:List Rl},0<=n->(∀p∈ps,(p.high:Int)<=n-1)->(rhighs ps:Int)<=n
 |[],h,_=>by simp[rhighs];exact h
 |p::r,h,hp=>by
  have h1:=hp p (by simp);have h2:=zfm h fun q hq=>hp q (yL _ hq);simp only[rhighs];lia
theorem zcn{α:Type}(n:Nat)(x:α):(yH n [x]).flatten=yH n x:=by
 induction n with
 |zero=>rfl
 |succ n ih=>rw[xO,wQ,ih,xO];rfl
def Rd(d:Wo)(b sc l:jC)(scope:List Str)(spare floors rounds:Int)(H0:Hp)(fin:Bool)(σ:St)(H:Hp):Prop:=
 ∃(bn ss rs:jC)(bs:List Str)(as:List jC)(scopes:List (List Str))(rl:List Int)(o10:Option V),σ=[some (.ref b),some (.ref sc),some (.ref l),some (.int spare),some (.int floors),some (.int rounds),some (.str (woS d)),some (.ref bn),some (.ref ss),some (.ref rs),o10,none,none]/\Step b H0 H/\H bn=some (.tup (bs.map V.str)) /\
  H ss=some (.lst (as.map V.ref))/\ss≠b/\H rs=some (.lst (rl.map V.int))/\rs≠b/\as.length=scopes.length/\scopes.length<=rl.length/\(∀r∈rl,r=0) /\
  (∀(i:Nat)(a:jC)(s:List Str),as[i]?=some a->scopes[i]?=some s->H a=some (.lst (s.map V.str))/\a≠b/\s.length<=scope.length+2)/\(∀z∈bs,z.length<=8/\Signs z) /\
  (fin=true->(scopes.length:Int)<=spare-1/\(0<=floors-1\/scopes=[])/\bs.length=bcnt d/\Cnt d scopes.length/\Shp scopes scope bs)/\(fin=false->∃z,bs=[z])/\(zgc d=true->scopes.length<=2)
theorem Zy:FnScope ["_law_box_here","_law_scope","_law_names_here","_law_spare","_law_floors","_law_rounds","_law_word_here","_law_bound","_law_scopes","_law_inner","_law_other","_law_parts","_law_used"] ["_law_box_here","_law_scope","_law_names_here","_law_spare","_law_floors","_law_rounds"] (zq zim):=mkSc rfl (by decide +kernel)
theorem zmd(F:Fun K "_law_any" "_law_any" zim f fd)(G_lparts_by:Have P w K mg base "_law_parts_by" k qL20 (spPartsBy n))(G_lvariable:Have P w K mg base "_law_variable" k qL7 (spVar))(G_ltake:Have P w K mg base "_law_take" k qL2 (spTake))(G_llit:Have P w K mg base "_law_lit" k qL6 (spLit))(G_lword:Have P w K mg base "_law_word" k qL19 (spWord))(m_int:mg "int"=none)(m_len:mg "len"=none)(m_list:mg "list"=none)(m_min:mg "min"=none):qF P w K mg base k f fd qL18 (spAny (n+1)):=by
 refine F.okQ Zy (by rintro _ _ _ _ ⟨_,_,_,_,_,_,_,_,rfl,_⟩;rfl) fun _ _ _ _ H vs Q E hr h=>?_;obtain⟨b,sc,l,scope,names,spare,floors,rounds,rfl,hb,hnm,hsc,hsb,hsl,hs1,hs100,hf0,hfn,hr0,q⟩:=h;refine⟨_,(zm (zC (i:=6) Zy.nd rfl (Or.inl rfl) (zy G_lword hr rfl (zc (pv 0) (zc (pv 1) (zc (pv 3) (zc (pv 4) (zc (pv 5) zi)))))))
  (zm (zN (zE zX (pv 6) zr (nomark _)) (zo (zt (zG (zc (zy G_llit hr rfl (zc (pv 0) (zc (pv 2) zi))) (zc zn zi))))) zA)
  (zm (zN (zE zX (pv 6) zr (nomark _)) (zo (zt (zG (zc (zG (zc zr (zc (zF zD (pv 1) (zy G_ltake hr rfl (zc (pv 0) (zc (zw zL rfl m_len tG (zc (pv 1) zi)) zi))) (fun _ _=>rfl)) zi))) (zc zn zi))))) zA)
  (zm (zC (i:=7) Zy.nd rfl (Or.inl rfl) (zG zi))
  (zm (zC (i:=8) Zy.nd rfl (Or.inl rfl) (zJ zh2 (zO (zc (pv 1) zi)) (zJ Zk (zJ Zi zn (zI zau rfl m_int Z9 (zc (zV zX (pv 6) zr (nomark _)) zi))) (zI zau rfl m_int Z9 (zc (zV Z7 (pv 6) (zG (zc zr (zc zr (zc zr (zc zr zi))))) (by rfl)) zi)))))
  (zm (zC (i:=9) Zy.nd rfl (Or.inl rfl) (zJ zh2 (zO (zc (pv 5) zi)) zn))
  (zm (zN (zE zX (pv 6) zr (nomark _)) (zo (zC (i:=8) Zy.nd rfl (Or.inl rfl) (zJ zh2 (zO (zc (pv 1) zi)) (zw (zcv rfl) rfl m_min PyProof.Rows.boot_min (zc (zy G_ltake hr rfl (zc (pv 0) (zc (zF zD (zO (zc zn (zc zn zi))) (zI zau rfl m_int Z9 (zc (zV zdP (pv 4) zn (nomark _)) zi)) (fun _ _=>rfl)) zi))) (zc (zJ Zk (pv 3) zn) zi)))))) zA)
  (zm (zN (zE Z7 (pv 6) (zG (zc zr (zc zr (zc zr zi)))) (by rfl)) (zm (zC (i:=7) Zy.nd rfl (Or.inl rfl) (zG (zc (zy G_lvariable hr rfl (zc (pv 0) zi)) zi)))
  (zo (zC (i:=8) Zy.nd rfl (Or.inl rfl) (zO (zc (pv 1) (zc (zJ zdq (pv 1) (zI Zb rfl m_list Zo (zc (pv 7) zi))) zi)))))) zA)
  (zm (zN (zE zX (pv 6) zr (nomark _)) (zo (zC (i:=9) Zy.nd rfl (Or.inl rfl) (zO (zc (pv 5) (zc (zJ Zk (pv 5) zn) zi))))) zA)
  (zm (zN (zE zX (pv 6) zr (nomark _)) (zm (zC (i:=10) Zy.nd rfl (Or.inl rfl) (zy G_lvariable hr rfl (zc (pv 0) zi)))
  (zm (zN (zE zX (pv 10) (zF zK (pv 7) zn (fun _ _=>rfl)) (nomark _)) (zo (zC (i:=10) Zy.nd rfl (Or.inl rfl) (zF zD (zO (zc zr (zc zr zi))) (zI zau rfl m_int Z9 (zc (zV zX (pv 10) zr (nomark _)) zi)) (fun _ _=>rfl)))) zA)
  (zm (zC (i:=7) Zy.nd rfl (Or.inl rfl) (zJ zbR (pv 7) (zG (zc (pv 10) zi))))
  (zm (zC (i:=8) Zy.nd rfl (Or.inl rfl) (zO (zc (pv 1) (zc (pv 1) (zc (zJ zdq (pv 1) (zI Zb rfl m_list Zo (zc (pv 7) zi))) zi)))))
  (zo (zC (i:=9) Zy.nd rfl (Or.inl rfl) (zO (zc (pv 5) (zc (pv 5) (zc (zJ Zk (pv 5) zn) zi)))))))))) zA)
  (zm (zaK (zy G_lparts_by hr rfl (zc (pv 0) (zc (pv 8) (zc (pv 2) (zc (zJ Zk (pv 3) zn) (zc (zJ Zk (pv 4) zn) (zc (pv 9) zi))))))) (zaJ rfl (zZ (zS (i:=11) Zy.nd rfl (Or.inl rfl)) (zZ (zS (i:=12) Zy.nd rfl (Or.inl rfl)) zar))))
  (zo (zt (zG (zc (zJ zbR (zJ zbR (zG (zc (pv 6) zi)) (pv 7)) (pv 11)) (zc (zJ Zi (pv 12) zn) zi)))))))))))))))),nm12 ?_⟩
 intros;refine⟨_,rfl,_,rfl,_,rfl,_,rfl,_,rfl,b,sc,_,spare,floors,rounds,rfl,hb,hsc,hsb,fun d H1 st1 hd=>?_⟩;refine⟨_,rfl,rfl,_,rfl,?_⟩;rw[show uX "lit"="lit" from rfl,zne];cases hlit:wLit d with
 |true=>
  refine iteT ⟨_,rfl,_,rfl,b,l,names,rfl,st1.box,(hnm.step st1).1,hnm.2.1,hnm.2.2.1,hnm.2.2.2.1,hnm.2.2.2.2,fun v x H2 rx okx dx st2=>⟨zl2,fun a ha=>?_⟩⟩;have st3:=st1.trans st2;have s3:=Sn (o:=.tup [v,.int 1]) ha;exact q a v (.lit x) _ zj (rx.mono (za1 s3)) (by rw[Rl.Fit];exact⟨okx,dx⟩) (by simp only[Rl.many];lia) (by simp only[Rl.high];lia) (st3.trans (Step.ofSame' st3.box s3))
 |false=>
  obtain⟨hneed,hfl,hsv,heo⟩:=hd hlit;have heo:wEO d=false:=by
   cases h:wEO d with
   |true=>exact absurd hr0 (heo h)
   |false=>rfl
  refine iteF ⟨_,rfl,rfl,_,rfl,?_⟩;rw[show uX "var"="var" from rfl,znf];cases hvar:wVar d with
  |true=>
   have hpos:0<scope.length:=xU.mpr fun z=>hsv hvar (by rw[z];rfl);have hsc1:=st1.keep sc _ hsb hsc;refine iteT ⟨_,rfl,_,rfl,_,rfl,_,_,rfl,.inl ⟨_,Sl hsc1,rfl⟩,b,_,rfl,st1.box,by rw[yB];lia,by rw[yB];lia,fun m H2 m0 m1 st2=>?_⟩;rw[yB] at m1;have hi:m.toNat<scope.length:=by lia
   have hat:atI (scope.map V.str) m=some (.str scope[m.toNat]):=by
    have:=zu (xs:=scope.map V.str) (j:=m.toNat) (v:=.str scope[m.toNat]) (by rw[yE,yA hi];rfl);rw[show ((m.toNat:Nat):Int)=m by lia] at this;exact this
   have st3:=st1.trans st2;refine⟨sc,_,m,_,rfl,rfl,Sl (st3.keep sc _ hsb hsc),hat,zl2,fun a ha=>⟨zl2,fun a2 ha2=>?_⟩⟩;have s4:=Sn (o:=.tup [.str "var",.str scope[m.toNat]]) ha;have s5:=Sn (o:=.tup [.ref a,.int 1]) ha2;have s45:=s4.trans s5;exact q a2 (.ref a) (.var scope[m.toNat]) _ zj (by rw[Rl.toW];exact RW.pair (s5 _ _ zj) (.txt _) (.txt _)) (by rw[Rl.Fit];exact xD hi) (by simp only[Rl.many];lia) (by simp only[Rl.high];lia) (st3.trans (Step.ofSame' st3.box s45))
  |false=>
   refine iteF ?_;have h1:=st1.box;have hsc1:=st1.keep sc _ hsb hsc;refine⟨zl0,fun bn hbn=>?_⟩;have st2:=st1.trans (Step.new (o:=.tup []) h1 hbn);have e1:=in1 d;refine⟨_,rfl,zl1,fun p1 hp1=>⟨_,rfl,rfl,.inr ⟨_,rfl,_,_,rfl,rfl,_,rfl,zl4,fun q2 hq2=>⟨q2,_,rfl,.inr (Sq zj),rfl,rfl,.inr ⟨_,rfl,_,_,rfl,rfl,?_⟩⟩⟩⟩⟩;have st3:=st2.trans (Step.new (o:=.lst [.ref sc]) st2.box hp1);have st4:=st3.trans (Step.new (o:=.tup [.str "count",.str "figures",.str "look",.str "cry"]) st3.box hq2);obtain⟨c0,c3⟩:=znj d;have hcnt:(2+(if wIf d then 1 else 0)-(if w1 d then 1 else 0):Int)=d.cnt:=rfl;have hk1:upd (upd (upd H1 bn (.tup [])) p1 (.lst [.ref sc])) q2 (.tup [.str "count",.str "figures",.str "look",.str "cry"]) p1=some (.lst [.ref sc]):=(Sn hq2) _ _ zj;refine⟨p1,d.cnt,[.ref sc],rfl,?_,hk1,by lia,by lia,by show 1*_<=tI;exact yM (show 1*d.cnt.toNat<=3 by lia) (by decide),fun s1 hs1=>?_⟩
   ·rw[←hcnt,←eqIf,←e1]
    rfl
   have hs1b:=IsBox.ne st4.box hs1;have st5:=st4.trans (Step.new (o:=.lst (yH d.cnt.toNat [V.ref sc]).flatten) st4.box hs1);refine⟨_,rfl,zl1,fun p2 hp2=>⟨p2,8,[.int rounds],rfl,rfl,zj,by decide,by decide,by show 1*8<=tI;decide,fun r1 hr1=>?_⟩⟩;have st6:=st5.trans (Step.new (o:=.lst [.int rounds]) st5.box hp2);have hr1b:=IsBox.ne st6.box hr1;have s67:=Sn (o:=.lst (yH 8 [V.int rounds]).flatten) hr1;have st7:=st6.trans (Step.ofSame' st6.box s67);have ebn:upd (upd (upd (upd (upd (upd H1 bn (.tup [])) p1 (.lst [.ref sc])) q2 (.tup [.str "count",.str "figures",.str "look",.str "cry"])) s1 (.lst (yH d.cnt.toNat [V.ref sc]).flatten)) p2 (.lst [.int rounds])) r1 (.lst (yH 8 [V.int rounds]).flatten) bn=some (.tup []):=s67 _ _ ((Sn hp2) _ _ ((Sn hs1) _ _ ((Sn hq2) _ _ ((Sn hp1) _ _ zj))));have es1:upd (upd (upd (upd (upd (upd H1 bn (.tup [])) p1 (.lst [.ref sc])) q2 (.tup [.str "count",.str "figures",.str "look",.str "cry"])) s1 (.lst (yH d.cnt.toNat [V.ref sc]).flatten)) p2 (.lst [.int rounds])) r1 (.lst (yH 8 [V.int rounds]).flatten) s1=some (.lst (yH d.cnt.toNat [V.ref sc]).flatten):=s67 _ _ ((Sn hp2) _ _ zj)
   replace es1:=es1.trans (by rw[zcn])
   dsimp only[zW];refine seqI (fun σ' H'=>∃(ss:jC)(m:Nat),σ'=[some (.ref b),some (.ref sc),some (.ref l),some (.int spare),some (.int floors),some (.int rounds),some (.str (woS d)),some (.ref bn),some (.ref ss),some (.ref r1),none,none,none]/\Step b H H'/\H' bn=some (.tup [])/\H' ss=some (.lst (yH m (V.ref sc)))/\ss≠b/\H' r1=some (.lst (yH 8 (V.int rounds)))/\m<=8/\(wB d=false->(m:Int)<=spare-1/\(1<=floors\/m=0)/\Cnt d m)) (fun σ' H' h=>?_) (fun tl=>?_)
   ·obtain⟨ss,m,rfl,stA,ebA,esA,hsA,erA,hm,hmf⟩:=h
    refine seqI (fun σ' H'=>Rd d b sc l scope spare floors rounds H (!zcf d) σ' H') (fun σ' H' h=>?_) (fun tl=>?_)
    ·refine seqI (fun σ' H'=>Rd d b sc l scope spare floors rounds H (!zcf d) σ' H') (fun σ' H' h=>?_) (fun tl=>?_)
     ·refine seqI (fun σ' H'=>Rd d b sc l scope spare floors rounds H true σ' H') (fun σ' H' h=>?_) (fun tl=>?_)
      ·
       obtain⟨bn,ss,rs,bs,as,scopes,rl,o10,rfl,stF,ebn,ess,hssb,ers,hrsb,hal,hrl,hrr,hsc',hbs,hfin,_⟩:=h;obtain⟨hsp,hfl0,hbc,hcn,hshp⟩:=hfin rfl;refine⟨_,rfl,_,rfl,_,rfl,_,rfl,_,_,rfl,rfl,_,rfl,_,_,rfl,rfl,_,rfl,?_⟩;refine⟨b,ss,l,rs,as,scopes,names,rl,_,_,rfl,stF.box,hnm.step stF,ess,hssb,ers,hrsb,hal,hrl,hrr,fun i a s0 ha hs0=>?_,by lia,by lia,by lia,hfl0,fun t t2 us ps H9 et et2 hus hpl hfit hmn st9=>?_⟩
       ·obtain⟨x1,x2,x3⟩:=hsc' i a s0 ha hs0
        exact⟨x1,x2,by lia⟩
       have stG:=stF.trans st9;have ebn9:=st9.tups stF.box _ _ ebn;refine⟨t,_,rfl,Sq et,rfl,_,_,rfl,_,_,rfl,rfl,_,rfl,zl1,fun a1 ha1=>⟨_,rfl,?_⟩⟩;have sa1:=Sn (o:=.tup [.str (woS d)]) ha1;have fin:∀(a:jC)(Hx:Hp),Same H9 Hx->Hx a=some (.tup (.str (woS d)::(bs.map V.str++us)))->∀a3,Hx a3=none->Q (.ref a3) (upd Hx a3 (.tup [.ref a,.int (manys ps+1)])):=fun a Hx sx ea a3 ha3=>by
        have s3:=Sn (o:=.tup [.ref a,.int (manys ps+1)]) ha3;refine q a3 (.ref a) (.op d bs ps) _ ?_ ?_ ?_ ?_ ?_ (stG.trans (Step.ofSame' stG.box (sx.trans s3)))
        ·rw[zj]
         simp only[Rl.many];rw[show ((1+manys ps:Nat):Int)=manys ps+1 by lia]
        ·rw[Rl.toW]
         refine .lst (s3 _ _ ea) (by simp;exact hus.len) fun i v x hv hx=>?_
         match i with
         |0=>cases hv;cases hx;exact .txt _
         |i+1=>
          rw[wI] at hv hx
          by_cases hi:i<bs.length
          ·rw[yN (by simpa using hi),yE,yA hi] at hv hx
           cases hv;cases hx;exact .txt _
          ·rw[yR (by simp;lia),yB] at hv hx
           exact (hus.mono (za1 (sx.trans s3))).2 _ v x hv hx
        ·rw[Rl.Fit]
         exact⟨hlit,hvar,heo,hbc,by rw[hpl];exact hcn,hbs,hshp.fits hpl fun i p s0 hp hs=>(hfit i p s0 hp hs).1⟩
        ·simp only[Rl.many];lia
        ·simp only[Rl.high]
         refine zfm (by lia) fun p hp=>?_;obtain⟨i,hi,rfl⟩:=uN hp;have:=(hfit i _ _ (yA hi) (yA (by lia))).2;lia
       have hbl:bs.length<=2:=by rw[hbc];cases d<;>decide
       have hul:us.length<=100:=by
        have:=hus.len;rw[zet] at this;lia
       refine⟨a1,bn,_,_,rfl,rfl,Sq zj,Sq (sa1 _ _ ebn9),(fun z=>nomatch z),by simp;exact yM (show 1+bs.length<=200 by lia) (by decide),fun z=>⟨_,rfl,?_⟩,fun _ p6 hp6=>⟨_,rfl,?_⟩⟩
       ·have ea1:upd H9 a1 (.tup [.str (woS d)]) a1=some (.tup (.str (woS d)::bs.map V.str)):=by rw[zj,z]
        refine⟨a1,t2,_,us,rfl,rfl,Sq ea1,Sq ((sa1) _ _ et2),(fun z=>nomatch z),by simp;exact yM (show bs.length+1+us.length<=200 by lia) (by decide),fun z=>?_,fun _ p7 hp7=>?_⟩
        ·refine⟨_,rfl,_,_,rfl,rfl,zl2,fin a1 _ (sa1) (by rw[ea1,z,xB])⟩
        ·exact⟨_,rfl,_,_,rfl,rfl,zl2,fin p7 _ ((sa1).trans (Sn hp7)) (by rw[zj];rfl)⟩
       ·have ea6:upd (upd H9 a1 (.tup [.str (woS d)])) p6 (.tup ([.str (woS d)]++bs.map V.str)) p6=some (.tup (.str (woS d)::bs.map V.str)):=by rw[zj];rfl
        have s6':=sa1.trans (Sn (o:=.tup ([.str (woS d)]++bs.map V.str)) hp6);refine⟨p6,t2,_,us,rfl,rfl,Sq ea6,Sq ((s6') _ _ et2),(fun z=>nomatch z),by simp;exact yM (show bs.length+1+us.length<=200 by lia) (by decide),fun z=>?_,fun _ p7 hp7=>?_⟩
        ·refine⟨_,rfl,_,_,rfl,rfl,zl2,fin p6 _ (s6') (by rw[ea6,z,xB])⟩
        ·exact⟨_,rfl,_,_,rfl,rfl,zl2,fin p7 _ ((s6').trans (Sn hp7)) (by rw[zj];rfl)⟩
      ·have h0:=h
       obtain⟨bn,ss,rs,bs,as,scopes,rl,o10,rfl,stF,ebn,ess,hssb,ers,hrsb,hal,hrl,hrr,hsc',hbs,hfin,hz,hl2⟩:=h;refine⟨_,rfl,rfl,_,rfl,?_⟩;rw[show uX "over"="over" from rfl,zni];cases hov:zcf d with
       |false=>
        rw[hov] at h0;exact iteF (tl _ _ h0)
       |true=>
        rw[(znl d hov).2.2.2.1] at heo;cases heo
     ·have h0:=h
      obtain⟨bn,ss,rs,bs,as,scopes,rl,o10,rfl,stF,ebn,ess,hssb,ers,hrsb,hal,hrl,hrr,hsc',hbs,hfin,hz,hl2⟩:=h;refine⟨_,rfl,rfl,_,rfl,?_⟩;rw[show uX "each"="each" from rfl,znh];cases hea:zgc d with
      |false=>exact iteF (tl _ _ h0)
      |true=>
       rw[(znm d hea).2.1] at heo;cases heo
    ·refine⟨_,rfl,zl3,fun q3 hq3=>⟨q3,_,rfl,.inr (Sq zj),rfl,rfl,_,rfl,?_⟩⟩
     have sq:=Sn (o:=.tup [.str "let",.str "each",.str "over"]) hq3;have stB:=stA.trans (Step.ofSame' stA.box sq);have hscB:=stB.keep sc _ hsb hsc;show if inV (.str (woS d)) [.str "let",.str "each",.str "over"]=true then _ else _;rw[inB];cases hb0:wB d with
     |false=>
      obtain⟨x1,x2,x3⟩:=znM d hb0;obtain⟨y1,y2,y3⟩:=hmf hb0;refine iteF (tl _ _ ⟨bn,ss,r1,[],yH m sc,yH m scope,yH 8 rounds,none,rfl,stB,sq _ _ ebA,(sq _ _ esA).trans (by rw[vP]),hsA,(sq _ _ erA).trans (by rw[vP]),hr1b,by simp,by simp;lia,fun r hr=>?_,fun i a s0 ha hs0=>?_,fun z hz=>(nomatch hz),fun _=>⟨by rw[xP];exact y1,?_,x1.symm,by rw[xP];exact y3,.inl ⟨rfl,fun s hs=>xV hs⟩⟩,fun z=>(by rw[x3] at z;cases z),fun z=>(by rw[x2] at z;cases z)⟩)
      ·rw[xV hr];exact hr0
      ·rw[xV (yK ha),xV (yK hs0)]
       exact⟨hscB,hsb,by lia⟩
      ·rcases y2 with y|y
       ·left;lia
       ·right;rw[y];rfl
     |true=>
      obtain⟨x1,x2⟩:=znk d hb0;have hf1:1<=floors:=by
       have:floors≠0:=fun z=>by rw[hfl z] at x2;cases x2
       lia
      refine iteT ⟨_,rfl,b,rfl,stB.box,fun z H4 hz8 hzs st4'=>⟨zl1,fun bn2 hbn2=>?_⟩⟩;have stC:=stB.trans st4';have sb2:=Sn (o:=.tup [.str z]) hbn2;refine⟨_,rfl,_,rfl,_,rfl,bn2,[.str z],rfl,.inr (Sq zj),fun l3 hl3=>?_⟩;have sb3:=Sn (o:=.lst [.str z]) hl3;have sb23:=sb2.trans sb3;have hsc3:=sb23 _ _ (stC.keep sc _ hsb hsc);refine⟨sc,l3,_,_,rfl,rfl,hsc3,zj,by rw[yB];exact yM (show scope.length+1<=1000 by lia) (by decide),fun p5 hp5=>⟨zl2,fun s5 hs5=>?_⟩⟩;have sb4:=Sn (o:=.lst (scope.map V.str++[.str z])) hp5;have sb5:=Sn (o:=.lst [.ref sc,.ref p5]) hs5;have sAll:=(sb23.trans sb4).trans sb5;have hboxC:=stC.box;have st34:=Step.ofSame' hboxC (sb23.trans sb4);refine tl _ _ ⟨bn2,s5,r1,[z],[sc,p5],[scope,scope++[z]],yH 8 rounds,none,rfl,stC.trans (Step.ofSame' hboxC sAll),(sb3.trans (sb4.trans sb5)) _ _ zj,zj,IsBox.ne st34.box hs5,(sAll _ _ (st4'.keep _ _ hr1b (sq _ _ erA))).trans (by rw[vP]),hr1b,rfl,by simp,fun r hr=>?_,fun i a s0 ha hs0=>?_,fun y hy=>?_,fun hf=>⟨?_,.inl (by lia),?_,znN d hb0 (by simpa using hf),.inr ⟨1,rfl⟩⟩,fun _=>⟨z,rfl⟩,fun _=>yG _⟩
      ·rw[xV hr];exact hr0
      ·match i with
       |0=>cases ha;cases hs0;exact⟨sAll _ _ (stC.keep sc _ hsb hsc),hsb,by lia⟩
       |1=>
        cases ha;cases hs0;exact⟨(sb5 _ _ zj).trans (by rw[xK];rfl),IsBox.ne (Step.ofSame' hboxC sb23).box hp5,by rw[yD];show _+1<=_;lia⟩
       |i+2=>cases ha
      ·rw[yI.mp hy];exact⟨hz8,hzs⟩
      ·show (2:Int)<=spare-1;lia
      ·show 1=bcnt d
       rw[znL d hb0 (by simpa using hf)]
   ·refine⟨_,rfl,rfl,_,rfl,?_⟩
    rw[show uX "list"="list" from rfl,zng];cases hls:zeu d with
    |false=>
     obtain⟨hcn,hvl⟩:=zkf d hlit hvar hls;have hf1:1<=floors:=by
      have:floors≠0:=fun z=>by rw[hfl z] at hvl;cases hvl
      lia
     exact iteF (tl _ _ ⟨s1,d.cnt.toNat,rfl,st7,ebn,es1,hs1b,zj.trans (by rw[zcn];rfl),by lia,fun hwb=>⟨by lia,.inl hf1,zmc d hlit hvar hls hwb⟩⟩)
    |true=>
     have hwB:wB d=false:=by cases d<;>first|rfl|(simp[zeu] at hls;done)
     refine iteT ⟨_,rfl,zl1,fun p3 hp3=>⟨_,rfl,zl2,fun p4 hp4=>⟨_,rfl,_,_,rfl,rfl,.inr ⟨_,rfl,?_⟩⟩⟩⟩;have s73:=Sn (o:=.lst [.ref sc]) hp3;have s74:=Sn (o:=.lst [.int 1,.int 9]) hp4;have s8:=s73.trans s74;have st8:=st7.trans (Step.ofSame' st7.box s8);have hp3b:=IsBox.ne st7.box hp3;obtain⟨wd,hwd,hw0,hw9,hwf⟩:∃wd:Int,atI [V.int 1,V.int 9] (if (decide (0<floors))=true then 1 else 0)=some (.int wd)/\1<=wd/\wd<=9/\(floors=0->wd=1):=by
      by_cases hf:0<floors
      ·exact⟨9,by rw[decide_eq_true hf];rfl,by decide,by decide,fun z=>by lia⟩
      ·exact⟨1,by rw[decide_eq_false hf];rfl,by decide,by decide,fun z=>rfl⟩
     refine⟨p4,_,_,_,rfl,rfl,Sl zj,hwd,b,wd,rfl,st8.box,by lia,by lia,fun m H2 m0 m1 st9=>?_⟩;refine⟨_,rfl,_,_,rfl,rfl,_,_,rfl,?_⟩;have ep3:H2 p3=some (.lst [.ref sc]):=st9.keep _ _ hp3b (s74 _ _ zj);have hmn:(if spare-1<m then spare-1 else m)<=spare-1/\(if spare-1<m then spare-1 else m)<=m/\0<=(if spare-1<m then spare-1 else m):=by
      split<;>lia
     generalize hmm:(if spare-1<m then spare-1 else m)=mm at hmn;refine⟨p3,mm,[.ref sc],rfl,by rw[←hmm],ep3,by lia,by lia,by show 1*_<=tI;exact yM (show 1*mm.toNat<=9 by lia) (by decide),fun s2 hs2=>?_⟩;have st10:=st8.trans st9;have s11:=Sn (o:=.lst (yH mm.toNat [V.ref sc]).flatten) hs2;have hbnb:bn≠b:=IsBox.ne h1 hbn;refine tl _ _ ⟨s2,mm.toNat,rfl,st10.trans (Step.ofSame' st10.box s11),s11 _ _ (st9.keep _ _ hbnb (s8 _ _ ebn)),zj.trans (by rw[zcn]),IsBox.ne st10.box hs2,s11 _ _ (st9.keep _ _ hr1b (s8 _ _ (zj.trans (by rw[zcn];rfl)))),by lia,fun _=>⟨by lia,?_,zkg d hls (by lia)⟩⟩
     by_cases hf:floors=0
     ·right
      have:=hwf hf;lia
     ·left;lia
structure Cs{α:Type}(st:α->Prop)(C:List Res->Ns->α×Ns)(fs:List Res)(ns:Ns):Prop where
 ge:ns <+: (C fs ns).2
 s1:st (C fs ns).1->(C fs ns).2.length=fs.length+1
 s0:¬st (C fs ns).1->(C fs ns).2.length<=fs.length
 c1:∀j,ns.length<=j->j<fs.length->(C fs ns).2.length<=j->C (fs.take j) ns=C fs ns
 c2:∀j,ns.length<=j->j<fs.length->j<(C fs ns).2.length->st (C (fs.take j) ns).1/\(C (fs.take j) ns).2=(C fs ns).2.take (j+1)
section
variable{α β:Type}{sa:α->Prop}{sb:β->Prop}{fs:List Res}{ns:Ns}
theorem Cs.pure{a:α}(h:¬sa a)(hn:ns.length<=fs.length):Cs sa (fun _ ns=>(a,ns)) fs ns:=
 ⟨vG _,fun z=>absurd z h,fun _=>hn,fun _ _ _ _=>rfl,fun j h1 _ h3=>absurd h3 (by show ¬j<ns.length;lia)⟩
theorem zkh{a b:Ns}(h:a <+: b){j:Nat}(hj:j<=a.length):b.take j=a.take j:=by
 obtain⟨t,rfl⟩:=h;exact List.take_append_of_le_length hj
theorem Cs.bind{A:List Res->Ns->α×Ns}{B:List Res->Ns->β×Ns}{D:List Res->Ns->β×Ns}(hA:Cs sa A fs ns)
  (hs:∀gs,sa (A gs ns).1->sb (D gs ns).1/\(D gs ns).2=(A gs ns).2)
  (hg:∀gs,(A gs ns)=(A fs ns)->¬sa (A fs ns).1->D gs ns=B gs (A fs ns).2)
  (hB:¬sa (A fs ns).1->Cs sb B fs (A fs ns).2):Cs sb D fs ns:=by
 by_cases h:sa (A fs ns).1
 ·obtain⟨d1,d2⟩:=hs fs h
  have l1:=hA.s1 h;refine⟨by rw[d2];exact hA.ge,fun _=>by rw[d2];exact l1,fun z=>absurd d1 z,fun j _ h2 h3=>?_,fun j h1 h2 h3=>?_⟩
  ·rw[d2] at h3;lia
  ·obtain⟨i1,i2⟩:=hA.c2 j h1 h2 (by lia)
   obtain⟨e1,e2⟩:=hs (fs.take j) i1;exact⟨e1,by rw[e2,i2,d2]⟩
 ·have hb:=hB h
  have e:=hg fs rfl h;refine⟨by rw[e];exact hA.ge.trans hb.ge,fun z=>by rw[e] at z ⊢;exact hb.s1 z,fun z=>by rw[e] at z ⊢;exact hb.s0 z,fun j h1 h2 h3=>?_,fun j h1 h2 h3=>?_⟩
  ·rw[e] at h3 ⊢
   have hle:(A fs ns).2.length<=j:=yM hb.ge.length_le h3;have eA:=hA.c1 j h1 h2 hle;rw[hg (fs.take j) eA h];exact hb.c1 j hle h2 h3
  ·rw[e] at h3 ⊢
   by_cases hle:(A fs ns).2.length<=j
   ·have eA:=hA.c1 j h1 h2 hle
    rw[hg (fs.take j) eA h];exact hb.c2 j hle h2 h3
   ·obtain⟨i1,i2⟩:=hA.c2 j h1 h2 (by lia)
    obtain⟨e1,e2⟩:=hs (fs.take j) i1;refine⟨e1,?_⟩;rw[e2,i2,zkh hb.ge (by lia)]
theorem Cs.map{A:List Res->Ns->α×Ns}{D:List Res->Ns->β×Ns}(hA:Cs sa A fs ns)(hd:∀gs,∃b,D gs ns=(b,(A gs ns).2)/\(sb b ↔ sa (A gs ns).1))(he:∀gs,A gs ns=A fs ns->D gs ns=D fs ns):Cs sb D fs ns:=by
 obtain⟨b,eb,ib⟩:=hd fs;refine⟨by rw[eb];exact hA.ge,fun z=>by rw[eb] at z ⊢;exact hA.s1 (ib.mp z),fun z=>by rw[eb] at z ⊢;exact hA.s0 (fun y=>z (ib.mpr y)),fun j h1 h2 h3=>?_,fun j h1 h2 h3=>?_⟩
 ·rw[eb] at h3
  exact he _ (hA.c1 j h1 h2 h3)
 ·rw[eb] at h3
  obtain⟨i1,i2⟩:=hA.c2 j h1 h2 h3;obtain⟨b',eb',ib'⟩:=hd (fs.take j);rw[eb',eb];exact⟨ib'.mpr i1,i2⟩
end
def stR(r:R):Prop:=r.res=.stop
noncomputable def r00:R:=.mk (.made (.num 0)) []
def stL(l:List R):Prop:=(zaN l r00).res=.stop
theorem zgd(x:R)(l:List R)(d:R):zaN (x::l) d=zaN l x:=by
 unfold zaN;cases l with
 |nil=>rfl
 |cons y ys=>
  rw[vY];cases hq:(y::ys).getLast? with
  |none=>simp at hq
  |some r=>rfl
theorem zbL{x:R}{l:List R}(h:x.res≠.stop):stL (x::l) ↔ stL l:=by
 unfold stL;rw[zgd];unfold zaN;cases l with
 |nil=>exact⟨fun z=>absurd z h,fun z=>nomatch z⟩
 |cons y ys=>
  cases hq:(y::ys).getLast? with
  |none=>simp at hq
  |some r=>exact Iff.rfl
theorem zjb{x:R}:stL [x] ↔ x.res=.stop:=Iff.rfl
theorem znn{l:List R}{d:R}(h:d.res≠.stop):(zaN l d).res=.stop ↔ stL l:=by
 unfold stL zaN;cases hq:l.getLast? with
 |none=>exact⟨fun z=>absurd z h,fun z=>nomatch z⟩
 |some r=>exact Iff.rfl
theorem zaq{l:List R}(h:Zq l=true):¬stL l:=by
 unfold stL zaN;cases hq:l.getLast? with
 |none=>exact fun z=>nomatch z
 |some r=>
  have:=(xZ.mp h) r (uM hq);intro z;have z:r.res=.stop:=z;rw[z] at this;cases this
theorem zgF(w:W):zbq w≠.stop:=by
 unfold zbq
 split<;>exact fun z=>nomatch z
section
variable{fs:List Res}(ok:∀r∈fs,r≠Res.stop)
theorem zki{n:Nat}(ok:∀r∈fs,r≠Res.stop)(h:n<fs.length):found fs n≠.stop:=by
 unfold found;rw[yA h];exact ok _ (xD h)
theorem zdE{n:Nat}(h:fs.length<=n):found fs n=.stop:=by
 unfold found;rw[wO h]
 rfl
theorem zkj{n j:Nat}(h:n<j):found (fs.take j) n=found fs n:=by
 unfold found;rw[xR h]
theorem zme(ok:∀r∈fs,r≠Res.stop){ns:Ns}(hn:ns.length<=fs.length)(s:Str)(g:Res->R)(hg:∀r,(g r).res=r):Cs stR (fun fs ns=>(g (found fs ns.length),ns++[s])) fs ns:=by
 have hl:(ns++[s]).length=ns.length+1:=by rw[yD];rfl
 refine⟨List.prefix_append _ _,fun z=>?_,fun z=>?_,fun j h1 h2 h3=>?_,fun j h1 h2 h3=>?_⟩
 ·have z:found fs ns.length=.stop:=(hg _).symm.trans z
  by_cases h:ns.length<fs.length
  ·exact absurd z (zki ok h)
  ·show (ns++[s]).length=_
   lia
 ·show (ns++[s]).length<=_
  by_cases h:ns.length<fs.length
  ·lia
  ·exact absurd ((hg _).trans (zdE (by lia))) z
 ·have h3:(ns++[s]).length<=j:=h3
  show (g (found (fs.take j) ns.length),ns++[s])=_;rw[zkj (by lia)]
 ·have h3:j<(ns++[s]).length:=h3
  have:j=ns.length:=by lia
  subst this;refine⟨(hg _).trans (zdE (by rw[xA];lia)),?_⟩;show ns++[s]=(ns++[s]).take (ns.length+1);rw[←hl,vX]
end
variable{e:Env}{ns:Ns}
noncomputable def Res.isStop:Res->Bool
 |.stop=>true
 |_=>false
theorem zmf{r:Res}(h:r≠.stop):r.isStop=false:=by
 cases r with
 |stop=>exact absurd rfl h
 |made _=>rfl
 |wrong _=>rfl
section
variable{fs:List Res}
theorem zY(r:Res):r=.stop\/(∃x,r=.made x)\/∃w,r=.wrong w:=by
 cases r with
 |made x=>exact .inr (.inl ⟨x,rfl⟩)
 |wrong w=>exact .inr (.inr ⟨w,rfl⟩)
 |stop=>exact .inl rfl
theorem Cs.then{a:Ex}{B:R->List Res->Ns->R×Ns}{D:List Res->Ns->R×Ns}(hA:Cs stR (fun fs ns=>ev fs a e ns) fs ns)(hD:∀gs,D gs ns=if (ev gs a e ns).1.res.isStop then (.mk .stop [(ev gs a e ns).1],(ev gs a e ns).2) else B (ev gs a e ns).1 gs (ev gs a e ns).2)
  (hB:(ev fs a e ns).1.res≠.stop->Cs stR (B (ev fs a e ns).1) fs (ev fs a e ns).2):Cs stR D fs ns:=by
 refine Cs.bind (B:=B (ev fs a e ns).1) hA (fun gs h=>?_) (fun gs e1 h=>?_) hB
 ·have h:(ev gs a e ns).1.res=.stop:=h
  rw[hD gs,if_pos (by rw[h];rfl)];exact⟨rfl,rfl⟩
 ·have h:¬(ev fs a e ns).1.res=.stop:=h
  have e1:ev gs a e ns=ev fs a e ns:=e1;rw[hD gs,e1,if_neg (by rw[zmf h];decide)]
theorem Zz{r:R}(h:r.res≠.stop)(hn:ns.length<=fs.length):Cs stR (fun _ ns=>(r,ns)) fs ns:=Cs.pure h hn
theorem zev{b:Ex}(hB:Cs stR (fun fs ns=>ev fs b e ns) fs ns)(p:R->List R):Cs stR (fun fs ns=>(.mk (ev fs b e ns).1.res (p (ev fs b e ns).1),(ev fs b e ns).2)) fs ns:=
 Cs.map hB (fun gs=>⟨_,rfl,Iff.rfl⟩) fun gs h=>by
  have h:ev gs b e ns=ev fs b e ns:=h;show (R.mk (ev gs b e ns).1.res (p (ev gs b e ns).1),(ev gs b e ns).2)=_;rw[h]
end
section
variable{fs:List Res}
theorem zk7{e:Env}:∀{es:List Ex}{ns:Ns},(∀x∈es,∀ns:Ns,ns.length<=fs.length->Cs stR (fun fs ns=>ev fs x e ns) fs ns)->ns.length<=fs.length->Cs stL (fun fs ns=>evs fs es e ns) fs ns
 |[],ns,_,hn=>by
  have:(fun (fs:List Res)(ns:Ns)=>evs fs [] e ns)=fun _ ns=>([],ns):=by funext fs ns;rw[evs]
  rw[this];exact Cs.pure (fun z=>nomatch z) hn
 |x::xs,ns,h,hn=>by
  have hA:=h x yS ns hn;refine Cs.bind (B:=fun gs m=>if (ev fs x e ns).1.res.isMade then ((ev fs x e ns).1::(evs gs xs e m).1,(evs gs xs e m).2) else ([(ev fs x e ns).1],m)) hA (fun gs z=>?_) (fun gs e1 z=>?_) (fun z=>?_)
  ·have z:(ev gs x e ns).1.res=.stop:=z
   show stL (evs gs (x::xs) e ns).1/\(evs gs (x::xs) e ns).2=_;rw[za8,if_neg (by rw[z];decide)];exact⟨z,rfl⟩
  ·have e1:ev gs x e ns=ev fs x e ns:=e1
   show evs gs (x::xs) e ns=_;rw[za8,e1]
  ·have z:(ev fs x e ns).1.res≠.stop:=z
   have hle:=hA.s0 z;cases hm:(ev fs x e ns).1.res.isMade with
   |true=>
    have ih:=zk7 (es:=xs) (ns:=(ev fs x e ns).2) (fun y hy=>h y (yL _ hy)) hle;refine Cs.map ih (fun gs=>⟨(ev fs x e ns).1::(evs gs xs e (ev fs x e ns).2).1,rfl,zbL z⟩) fun gs h=>?_;have h:evs gs xs e (ev fs x e ns).2=evs fs xs e (ev fs x e ns).2:=h;show (_::(evs gs xs e (ev fs x e ns).2).1,(evs gs xs e (ev fs x e ns).2).2)=(_::(evs fs xs e (ev fs x e ns).2).1,(evs fs xs e (ev fs x e ns).2).2);rw[h]
   |false=>exact Cs.pure z hle
theorem zgG{F:List Res->W->Ns->R×Ns}:∀{ws:List W}{ns:Ns},(∀w∈ws,∀ns:Ns,ns.length<=fs.length->Cs stR (fun fs ns=>F fs w ns) fs ns)->ns.length<=fs.length->Cs stL (fun fs ns=>zQ (F fs) ws ns) fs ns
 |[],ns,_,hn=>by
  have:(fun (fs:List Res)(ns:Ns)=>zQ (F fs) [] ns)=fun _ ns=>([],ns):=by funext fs ns;rw[zQ]
  rw[this];exact Cs.pure (fun z=>nomatch z) hn
 |x::xs,ns,h,hn=>by
  have hA:=h x yS ns hn;refine Cs.bind (B:=fun gs m=>if (F fs x ns).1.res.isMade then ((F fs x ns).1::(zQ (F gs) xs m).1,(zQ (F gs) xs m).2) else ([(F fs x ns).1],m)) hA (fun gs z=>?_) (fun gs e1 z=>?_) (fun z=>?_)
  ·have z:(F gs x ns).1.res=.stop:=z
   show stL (zQ (F gs) (x::xs) ns).1/\(zQ (F gs) (x::xs) ns).2=_;rw[zaH,if_neg (by rw[z];decide)];exact⟨z,rfl⟩
  ·have e1:F gs x ns=F fs x ns:=e1
   show zQ (F gs) (x::xs) ns=_;rw[zaH,e1]
  ·have z:(F fs x ns).1.res≠.stop:=z
   have hle:=hA.s0 z;cases hm:(F fs x ns).1.res.isMade with
   |true=>
    have ih:=zgG (ws:=xs) (ns:=(F fs x ns).2) (fun y hy=>h y (yL _ hy)) hle;refine Cs.map ih (fun gs=>⟨(F fs x ns).1::(zQ (F gs) xs (F fs x ns).2).1,rfl,zbL z⟩) fun gs h=>?_;have h:zQ (F gs) xs (F fs x ns).2=zQ (F fs) xs (F fs x ns).2:=h;show (_::(zQ (F gs) xs (F fs x ns).2).1,(zQ (F gs) xs (F fs x ns).2).2)=(_::(zQ (F fs) xs (F fs x ns).2).1,(zQ (F fs) xs (F fs x ns).2).2);rw[h]
   |false=>exact Cs.pure z hle
mutual
theorem csE(ok:∀r∈fs,r≠Res.stop):∀(x:Ex)(e:Env)(ns:Ns),ns.length<=fs.length->Cs stR (fun fs ns=>ev fs x e ns) fs ns
 |.lit x,e,ns,hn=>by
  have:(fun (fs:List Res)(ns:Ns)=>ev fs (.lit x) e ns)=fun _ ns=>(.mk (.made x) [],ns):=by funext fs ns;rw[ev]
  rw[this];exact Zz (fun z=>nomatch z) hn
 |.var s,e,ns,hn=>by
  have:(fun (fs:List Res)(ns:Ns)=>ev fs (.var s) e ns)=fun _ ns=>(.mk (.made ((e s).getD (.num 0))) [],ns):=by funext fs ns;rw[ev]
  rw[this];exact Zz (fun z=>nomatch z) hn
 |.letE s a b,e,ns,hn=>by
  have hA:=csE ok a e ns hn;refine hA.then (B:=fun r gs m=>match r.res with|.made x=>(.mk (ev gs b (put e s x) m).1.res [r,(ev gs b (put e s x) m).1],(ev gs b (put e s x) m).2)|q=>(.mk q [r],m)) (fun gs=>?_) (fun z=>?_)
  ·show ev gs (.letE s a b) e ns=_
   rw[ev];rcases zY (ev gs a e ns).1.res with h|⟨x,h⟩|⟨w,h⟩<;>rw[h]<;>rfl
  ·have hle:=hA.s0 z
   rcases zY (ev fs a e ns).1.res with h|⟨x,h⟩|⟨w,h⟩
   ·exact absurd h z
   ·rw[h]
    exact zev (csE ok b (put e s x) _ hle) (fun q=>[(ev fs a e ns).1,q])
   ·rw[h]
    exact Zz (fun z=>nomatch z) hle
 |.ifE a b c,e,ns,hn=>by
  have hA:=csE ok a e ns hn;refine hA.then (B:=fun r gs m=>match r.res with
   |.made (.num i)=>if i=0 then (.mk (ev gs c e m).1.res [r,(ev gs c e m).1],(ev gs c e m).2) else (.mk (ev gs b e m).1.res [r,(ev gs b e m).1],(ev gs b e m).2)
   |.made _=>(.mk (.wrong [.txt "kind",.txt ""]) [r],m)
   |q=>(.mk q [r],m)) (fun gs=>?_) (fun z=>?_)
  ·show ev gs (.ifE a b c) e ns=_
   rw[ev];rcases zY (ev gs a e ns).1.res with h|⟨x,h⟩|⟨w,h⟩
   ·rw[h];rfl
   ·rw[h];cases x<;>rfl
   ·rw[h];rfl
  ·have hle:=hA.s0 z
   rcases zY (ev fs a e ns).1.res with h|⟨x,h⟩|⟨w,h⟩
   ·exact absurd h z
   ·rw[h]
    cases x with
    |num i=>
     by_cases hi:i=0
     ·simp only[hi,if_true]
      exact zev (csE ok c e _ hle) (fun q=>[(ev fs a e ns).1,q])
     ·simp only[hi,if_false]
      exact zev (csE ok b e _ hle) (fun q=>[(ev fs a e ns).1,q])
    |txt s=>exact Zz (fun z=>nomatch z) hle
    |lst ws=>exact Zz (fun z=>nomatch z) hle
   ·rw[h]
    exact Zz (fun z=>nomatch z) hle
 |.elseE a b,e,ns,hn=>by
  have hA:=csE ok a e ns hn;refine hA.then (B:=fun r gs m=>match r.res with|.wrong _=>(.mk (ev gs b e m).1.res [r,(ev gs b e m).1],(ev gs b e m).2)|q=>(.mk q [r],m)) (fun gs=>?_) (fun z=>?_)
  ·show ev gs (.elseE a b) e ns=_
   rw[ev];rcases zY (ev gs a e ns).1.res with h|⟨x,h⟩|⟨w,h⟩<;>rw[h]<;>rfl
  ·have hle:=hA.s0 z
   rcases zY (ev fs a e ns).1.res with h|⟨x,h⟩|⟨w,h⟩
   ·exact absurd h z
   ·rw[h]
    exact Zz (fun z=>nomatch z) hle
   ·rw[h]
    exact zev (csE ok b e _ hle) (fun q=>[(ev fs a e ns).1,q])
 |.cryE a,e,ns,hn=>by
  have hA:=csE ok a e ns hn;refine hA.then (B:=fun r gs m=>match r.res with|.made x=>(.mk (.wrong [.txt "cried",x]) [r],m)|q=>(.mk q [r],m)) (fun gs=>?_) (fun z=>?_)
  ·show ev gs (.cryE a) e ns=_
   rw[ev];rcases zY (ev gs a e ns).1.res with h|⟨x,h⟩|⟨w,h⟩<;>rw[h]<;>rfl
  ·have hle:=hA.s0 z
   rcases zY (ev fs a e ns).1.res with h|⟨x,h⟩|⟨w,h⟩
   ·exact absurd h z
   ·rw[h]
    exact Zz (fun z=>nomatch z) hle
   ·rw[h]
    exact Zz (fun z=>nomatch z) hle
 |.lookE a,e,ns,hn=>by
  have hA:=csE ok a e ns hn;refine hA.then (B:=fun r gs m=>match r.res with
   |.made (.txt s)=>(.mk (found gs m.length) [r],m++[s])
   |.made _=>(.mk (.wrong [.txt "kind",.txt ""]) [r],m)
   |q=>(.mk q [r],m)) (fun gs=>?_) (fun z=>?_)
  ·show ev gs (.lookE a) e ns=_
   rw[ev];rcases zY (ev gs a e ns).1.res with h|⟨x,h⟩|⟨w,h⟩
   ·rw[h];rfl
   ·rw[h];cases x<;>rfl
   ·rw[h];rfl
  ·have hle:=hA.s0 z
   rcases zY (ev fs a e ns).1.res with h|⟨x,h⟩|⟨w,h⟩
   ·exact absurd h z
   ·rw[h]
    cases x with
    |num i=>exact Zz (fun z=>nomatch z) hle
    |lst ws=>exact Zz (fun z=>nomatch z) hle
    |txt s=>exact zme ok hle s (fun q=>.mk q [(ev fs a e ns).1]) (fun _=>rfl)
   ·rw[h]
    exact Zz (fun z=>nomatch z) hle
 |.reck d es,e,ns,hn=>by
  have hL:=csL ok es e ns hn;refine Cs.map hL (fun gs=>?_) (fun gs h=>?_)
  ·by_cases hall:Zq (evs gs es e ns).1=true
   ·refine⟨.mk (zbq (recW d ((evs gs es e ns).1.map R.worth))) (evs gs es e ns).1,?_,fun z=>absurd z (zgF _),fun z=>absurd z (zaq hall)⟩
    show ev gs (.reck d es) e ns=_;rw[ev,if_pos hall]
   ·refine⟨.mk (zaN (evs gs es e ns).1 (.mk (.made (.num 0)) [])).res (evs gs es e ns).1,?_,Iff.rfl⟩
    show ev gs (.reck d es) e ns=_;rw[ev,if_neg hall]
  ·have h:evs gs es e ns=evs fs es e ns:=h
   show ev gs (.reck d es) e ns=ev fs (.reck d es) e ns;rw[ev,ev,h]
 |.eachE s a b,e,ns,hn=>by
  have hA:=csE ok a e ns hn;refine hA.then (B:=fun r gs m=>match r.res with
   |.made (.lst ws)=>if ws.length > 10 then (.mk (.wrong [.txt "great",.txt ""]) [r],m) else
     if Zq (zQ (fun w m=>ev gs b (put e s w) m) ws m).1 then (.mk (zbq (zad (.lst ((zQ (fun w m=>ev gs b (put e s w) m) ws m).1.map R.worth)))) (r::(zQ (fun w m=>ev gs b (put e s w) m) ws m).1),(zQ (fun w m=>ev gs b (put e s w) m) ws m).2)
     else (.mk (zaN (zQ (fun w m=>ev gs b (put e s w) m) ws m).1 r).res (r::(zQ (fun w m=>ev gs b (put e s w) m) ws m).1),(zQ (fun w m=>ev gs b (put e s w) m) ws m).2)
   |.made _=>(.mk (.wrong [.txt "kind",.txt ""]) [r],m)
   |q=>(.mk q [r],m)) (fun gs=>?_) (fun z=>?_)
  ·show ev gs (.eachE s a b) e ns=_
   rw[ev];rcases zY (ev gs a e ns).1.res with h|⟨x,h⟩|⟨w,h⟩
   ·rw[h];rfl
   ·rw[h];cases x<;>rfl
   ·rw[h];rfl
  ·have hle:=hA.s0 z
   have z':(ev fs a e ns).1.res≠.stop:=z;rcases zY (ev fs a e ns).1.res with h|⟨x,h⟩|⟨w,h⟩
   ·exact absurd h z
   ·rw[h]
    cases x with
    |num i=>exact Zz (fun z=>nomatch z) hle
    |txt s=>exact Zz (fun z=>nomatch z) hle
    |lst ws=>
     by_cases hl:ws.length > 10
     ·simp only[hl,if_true]
      exact Zz (fun z=>nomatch z) hle
     ·simp only[hl,if_false]
      have hW:=zgG (fs:=fs) (F:=fun gs w m=>ev gs b (put e s w) m) (ws:=ws) (fun w _ m hm=>csE ok b (put e s w) m hm) hle;refine Cs.map hW (fun gs=>?_) (fun gs h=>?_)
      ·by_cases hall:Zq (zQ (fun w m=>ev gs b (put e s w) m) ws (ev fs a e ns).2).1=true
       ·rw[if_pos hall]
        exact⟨_,rfl,fun z=>absurd z (zgF _),fun z=>absurd z (zaq hall)⟩
       ·rw[if_neg hall]
        exact⟨_,rfl,znn z'⟩
      ·have h:zQ (fun w m=>ev gs b (put e s w) m) ws (ev fs a e ns).2=zQ (fun w m=>ev fs b (put e s w) m) ws (ev fs a e ns).2:=h
       rw[h]
   ·rw[h]
    exact Zz (fun z=>nomatch z) hle
theorem csL(ok:∀r∈fs,r≠Res.stop):∀(es:List Ex)(e:Env)(ns:Ns),ns.length<=fs.length->Cs stL (fun fs ns=>evs fs es e ns) fs ns
 |[],e,ns,hn=>zk7 (fun x hx=>nomatch hx) hn
 |x::xs,e,ns,hn=>by
  have hA:=csE ok x e ns hn;refine Cs.bind (B:=fun gs m=>if (ev fs x e ns).1.res.isMade then ((ev fs x e ns).1::(evs gs xs e m).1,(evs gs xs e m).2) else ([(ev fs x e ns).1],m)) hA (fun gs z=>?_) (fun gs e1 z=>?_) (fun z=>?_)
  ·have z:(ev gs x e ns).1.res=.stop:=z
   show stL (evs gs (x::xs) e ns).1/\(evs gs (x::xs) e ns).2=_;rw[za8,if_neg (by rw[z];decide)];exact⟨z,rfl⟩
  ·have e1:ev gs x e ns=ev fs x e ns:=e1
   show evs gs (x::xs) e ns=_;rw[za8,e1]
  ·have z:(ev fs x e ns).1.res≠.stop:=z
   have hle:=hA.s0 z;cases hm:(ev fs x e ns).1.res.isMade with
   |true=>
    have ih:=csL ok xs e (ev fs x e ns).2 hle;refine Cs.map ih (fun gs=>⟨(ev fs x e ns).1::(evs gs xs e (ev fs x e ns).2).1,rfl,zbL z⟩) fun gs h=>?_;have h:evs gs xs e (ev fs x e ns).2=evs fs xs e (ev fs x e ns).2:=h;show (_::(evs gs xs e (ev fs x e ns).2).1,(evs gs xs e (ev fs x e ns).2).2)=(_::(evs fs xs e (ev fs x e ns).2).1,(evs fs xs e (ev fs x e ns).2).2);rw[h]
   |false=>exact Cs.pure z hle
end
end
variable{s:Str}{xs:List W}
mutual
theorem zno:∀w:W,w.Th->zeZ w=true->w.Ok
 |.num i,_,h=>(of_decide_eq_true h:-(10 ^ 60)<i/\i<10 ^ 60)
 |.txt z,t,h=>⟨of_decide_eq_true h,t.2⟩
 |.lst ws,t,h=>by
  have t2:Ths ws:=t.2;simp only[zeZ,xH,decide_eq_true_eq] at h;exact⟨h.1,oks_th ws t2 h.2⟩
theorem oks_th:∀ws:List W,Ths ws->fitsWs ws=true->Oks ws
 |[],_,_=>trivial
 |w::r,t,h=>by
  simp only[fitsWs,xH] at h;exact⟨zno w t.1 h.1,oks_th r t.2 h.2⟩
end
structure Gd(x:W):Prop where
 ok:x.Ok
 dp:x.depth<=12
theorem Gd.th{x:W}(h:Gd x):x.Th:=zd9 x h.ok
theorem gd0:Gd (.num 0):=⟨⟨by decide,by decide⟩,yJ _⟩
theorem gd1:Gd (.num 1):=⟨⟨by decide,by decide⟩,yJ _⟩
theorem Gd.item{ws:List W}(h:Gd (.lst ws)){w:W}(hw:w∈ws):Gd w:=by
 have h2:Oks ws:=h.ok.2;have h3:1+depths ws<=12:=h.dp;have:=Z0 w hw;exact⟨zcT h2 w hw,by lia⟩
def ROk:Res->Prop
 |.made y=>Gd y
 |.wrong ws=>∃c y,ws=[.txt c,y]/\(W.txt c).Th/\y.Th/\y.depth<=12
 |.stop=>True
theorem ZR(h1:s.length<=400)(h2:∀c∈s.cps.toList,32<=c/\c<=126/\c≠34/\c≠37):(W.txt s).Ok:=⟨h1,h2⟩
theorem zdF(h1:s.length<=400)(h2:∀c∈s.cps.toList,32<=c/\c<=126/\c≠34/\c≠37):(W.txt s).Th:=zd9 _ (ZR h1 h2)
theorem zkk:(W.txt "").Th:=zdF (by decide) (by decide)
theorem zkl{c:Str}(h:(W.txt c).Th):ROk (.wrong [.txt c,.txt ""]):=⟨c,_,rfl,h,zkk,yJ _⟩
theorem ZC:ROk (.wrong [.txt "kind",.txt ""]):=zkl (zdF (by decide) (by decide))
theorem zjc:ROk (.wrong [.txt "place",.txt ""]):=zkl (zdF (by decide) (by decide))
theorem zfn:ROk (.wrong [.txt "great",.txt ""]):=zkl (zdF (by decide) (by decide))
theorem zhv:ROk (.wrong [.txt "nought",.txt ""]):=zkl (zdF (by decide) (by decide))
theorem zkm:(W.txt "cried").Th:=zdF (by decide) (by decide)
theorem ROk.dp:∀{r:Res},ROk r->r.toW.depth<=13
 |.made y,h=>by
  have:=Gd.dp h;simp only[Res.toW,W.depth,depths];lia
 |.wrong ws,⟨c,y,e,t,t2,d⟩=>by
  rw[e];simp only[Res.toW,W.depth,depths];lia
 |.stop,_=>by simp only[Res.toW,W.depth,depths];lia
theorem ZD{z:W}(t:z.Th):ROk (zbq (zad z)):=by
 unfold zad
 split
 ·rename_i g
  unfold ziz at g;simp only[xH,decide_eq_true_eq] at g;exact⟨zno z t g.1,by lia⟩
 ·exact zfn
theorem zmg{ys:List W}(h1:Ths xs)(h2:Ths ys):Ths (xs++ys):=zkZ fun w hw=>by
 rcases yT.mp hw with h|h
 ·exact ziy h1 w h
 ·exact ziy h2 w h
theorem zc6{f:Int->Int->W}(hf:∀a b,ROk (zbq (f a b)))(ws:List W):ROk (zbq (two f ws)):=by
 unfold two
 split
 ·exact hf _ _
 ·exact ZC
theorem zfo(b:Bool):ROk (zbq (zgB b)):=by
 cases b
 ·exact gd0
 ·exact gd1
theorem zmh{d:Wd}(ok:Oks xs)(l8:xs.length<=8):ROk (zbq (recW d xs)):=by
 have tx:=ths_of xs ok;unfold recW
 split
 ·exact zc6 (fun a b=>ZD (z:=.num (a+b)) trivial) _
 ·exact zc6 (fun a b=>ZD (z:=.num (a-b)) trivial) _
 ·exact zc6 (fun a b=>ZD (z:=.num (a*b)) trivial) _
 ·refine zc6 (fun a b=>?_) _
  show ROk (zbq (if b=0 then zfT else zad (.num (a.fdiv b))))
  split
  ·exact zhv
  ·exact ZD (z:=.num (a.fdiv b)) trivial
 ·exact zc6 (fun a b=>zfo _) _
 ·rename_i a
  refine ZD ⟨?_,ze7 a⟩;have:=PyProof.Rows.int_text_len_1921 (ok60 ok.1);lia
 ·exact ZC
 ·exact zfo _
 ·exact ZC
 ·rename_i x y
  have o1:x.length<=400/\Signs x:=ok.1;have o2:y.length<=400/\Signs y:=ok.2.1;refine ZD ⟨?_,fun c hc=>?_⟩
  ·rw[PySem.Str.length_append]
   lia
  ·rw[zap] at hc
   rcases yT.mp hc with h|h
   ·exact o1.2 c h
   ·exact o2.2 c h
 ·rename_i xs ys
  have o1:xs.length<=60/\Oks xs:=ok.1;have o2:ys.length<=60/\Oks ys:=ok.2.1;refine ZD ⟨?_,zmg (ths_of _ o1.2) (ths_of _ o2.2)⟩;rw[yD];lia
 ·exact ZC
 ·exact ZD ⟨by lia,tx⟩
 ·rename_i xs i
  have o1:xs.length<=60/\Oks xs:=ok.1
  split
  ·rename_i hi
   have hlt:i.toNat<xs.length:=by lia
   have:xs.getD i.toNat (.num 0)=xs[i.toNat]:=by rw[yX,yA hlt];rfl
   rw[this];exact ZD (zd9 _ (zcT o1.2 _ (xD hlt)))
  ·exact zjc
 ·exact ZC
 ·refine ZD ?_
  trivial
 ·refine ZD ?_
  trivial
 ·exact ZC
theorem zkn:∀{r:R},ROk r.res->Gd r.worth
 |.mk (.made _) _,h=>h
 |.mk (.wrong _) _,_=>gd0
 |.mk .stop _,_=>gd0
theorem zc7{rs:List R}(h:∀r∈rs,ROk r.res):Oks (rs.map R.worth)/\depths (rs.map R.worth)<=12:=by
 induction rs with
 |nil=>exact⟨trivial,yJ _⟩
 |cons r rs ih=>
  have g:=zkn (h r yS);obtain⟨i1,i2⟩:=ih fun x hx=>h x (yL _ hx);refine⟨⟨g.ok,i1⟩,?_⟩;have:=g.dp;simp only[yW,depths];lia
theorem zfp{l:List R}{r:R}{P:R->Prop}(h:∀x∈l,P x)(hr:P r):P (zaN l r):=by
 unfold zaN;cases hl:l.getLast? with
 |none=>exact hr
 |some x=>exact h x (uM hl)
mutual
def Wf:Ex->List Str->Prop
 |.lit x,_=>Gd x
 |.var s,sc=>s∈sc
 |.letE s a b,sc=>Wf a sc/\Wf b (sc++[s])
 |.ifE a b c,sc=>Wf a sc/\Wf b sc/\Wf c sc
 |.elseE a b,sc=>Wf a sc/\Wf b sc
 |.cryE a,sc=>Wf a sc
 |.lookE a,sc=>Wf a sc
 |.reck d es,sc=>es.length<=8/\arity d es.length/\Wfs es sc
 |.eachE s a b,sc=>Wf a sc/\Wf b (sc++[s])
def Wfs:List Ex->List Str->Prop
 |[],_=>True
 |x::xs,sc=>Wf x sc/\Wfs xs sc
end
def EG(sc:List Str)(e:Env):Prop:=∀s∈sc,∃y,e s=some y/\Gd y
theorem EG.put{sc:List Str}{e:Env}(h:EG sc e){y:W}(g:Gd y):EG (sc++[s]) (D.put e s y):=fun t ht=>by
 unfold D.put
 by_cases hts:t=s
 ·rw[if_pos hts];exact⟨y,rfl,g⟩
 ·rw[if_neg hts]
  rcases yT.mp ht with ht|ht
  ·exact h t ht
  ·exact absurd (yI.mp ht) hts
section
variable{fs:List Res}
theorem zdG{F:W->Ns->R×Ns}{p:W->Ns->Prop}:∀{ws:List W}{ns:Ns},(∀w∈ws,∀ns:Ns,ns.length<=fs.length->p w ns/\ROk (F w ns).1.res/\((F w ns).1.res≠.stop->(F w ns).2.length<=fs.length))->ns.length<=fs.length->zb7 F p ws ns/\∀r∈(zQ F ws ns).1,ROk r.res
 |[],ns,_,_=>by rw[zb7,zQ];exact⟨trivial,fun r h=>nomatch h⟩
 |w::ws,ns,h,hn=>by
  obtain⟨h1,h2,h3⟩:=h w yS ns hn;rw[zb7,zaH]
  by_cases hm:(F w ns).1.res.isMade=true
  ·have:=zdG (ws:=ws) (ns:=(F w ns).2) (fun x hx=>h x (yL _ hx)) (h3 (fun z=>by rw[z] at hm;cases hm))
   rw[if_pos hm];refine⟨⟨h1,fun _=>this.1⟩,fun r hr=>?_⟩;rcases yV.mp hr with rfl|hr
   ·exact h2
   ·exact this.2 r hr
  ·rw[if_neg hm]
   exact⟨⟨h1,fun z=>absurd z hm⟩,fun r hr=>by rw[yI.mp hr];exact h2⟩
theorem zgH{f:W->Ns->R×Ns}:∀{ws:List W}{ns:Ns},(zQ f ws ns).1.length<=ws.length
 |[],ns=>by rw[zQ];exact yG _
 |w::ws,ns=>by
  rw[zaH]
  split
  ·have:=zgH (f:=f) (ws:=ws) (ns:=(f w ns).2)
   simp only[yQ];lia
  ·simp only[yQ,wM]
   lia
theorem zjd(okF:∀r∈fs,ROk r)(n:Nat):ROk (found fs n):=by
 unfold found;cases h:fs[n]? with
 |none=>trivial
 |some r=>exact okF r (yK h)
theorem zgI{e:Env}:∀{es:List Ex}{ns:Ns},Zq (evs fs es e ns).1=true->(evs fs es e ns).1.length=es.length
 |[],ns,_=>by rw[evs];rfl
 |x::xs,ns,h=>by
  rw[za8] at h ⊢
  split
  ·rename_i hm
   rw[if_pos hm] at h;have h:((ev fs x e ns).1.res.isMade&&Zq (evs fs xs e (ev fs x e ns).2).1)=true:=h;rw[xH] at h;show ((ev fs x e ns).1::(evs fs xs e (ev fs x e ns).2).1).length=_;rw[yQ,yQ,zgI h.2]
  ·rename_i hm
   rw[if_neg hm] at h;have h:((ev fs x e ns).1.res.isMade&&true)=true:=h;rw[wY] at h;exact absurd h hm
mutual
theorem zab(nst:∀r∈fs,r≠Res.stop)(okF:∀r∈fs,ROk r)(hl:fs.length<=900):∀(x:Ex)(sc:List Str)(e:Env)(ns:Ns),Wf x sc->EG sc e->ns.length<=fs.length->Fine fs x e ns/\ROk (ev fs x e ns).1.res
 |.lit x,sc,e,ns,hw,_,_=>by rw[Wf] at hw;rw[Fine,ev];exact⟨trivial,hw⟩
 |.var s,sc,e,ns,hw,he,_=>by
  rw[Wf] at hw;obtain⟨y,hy,g⟩:=he s hw;rw[Fine,ev,hy];exact⟨⟨y,rfl⟩,g⟩
 |.letE s a b,sc,e,ns,hw,he,hn=>by
  rw[Wf] at hw;obtain⟨f1,r1⟩:=zab nst okF hl a sc e ns hw.1 he hn;have cs:=csE nst a e ns hn;have go:∀x,(ev fs a e ns).1.res=.made x->Fine fs b (put e s x) (ev fs a e ns).2/\ROk (ev fs b (put e s x) (ev fs a e ns).2).1.res:=fun x hx=>by
   rw[hx] at r1;exact zab nst okF hl b (sc++[s]) (put e s x) _ hw.2 (he.put r1) (cs.s0 (fun z=>by have z:(ev fs a e ns).1.res=.stop:=z;rw[hx] at z;cases z))
  rw[Fine];refine⟨⟨f1,fun x hx=>(go x hx).1⟩,?_⟩
  by_cases hm:(ev fs a e ns).1.res.isMade=true
  ·obtain⟨x,hx⟩:=ZP hm
   rw[zf3 hx];exact (go x hx).2
  ·rw[zf4 (by simpa using hm)]
   exact r1
 |.ifE a b c,sc,e,ns,hw,he,hn=>by
  rw[Wf] at hw;obtain⟨f1,r1⟩:=zab nst okF hl a sc e ns hw.1 he hn;have cs:=csE nst a e ns hn;have len:∀x,(ev fs a e ns).1.res=.made x->(ev fs a e ns).2.length<=fs.length:=fun x hx=>cs.s0 (fun z=>by have z:(ev fs a e ns).1.res=.stop:=z;rw[hx] at z;cases z);rw[Fine];refine⟨⟨f1,fun i hi=>⟨fun _=>(zab nst okF hl b sc e _ hw.2.1 he (len _ hi)).1,fun _=>(zab nst okF hl c sc e _ hw.2.2 he (len _ hi)).1⟩⟩,?_⟩
  by_cases hm:(ev fs a e ns).1.res.isMade=true
  ·obtain⟨x,hx⟩:=ZP hm
   cases x with
   |num i=>
    by_cases hi:i=0
    ·subst hi
     rw[ziW hx];exact (zab nst okF hl c sc e _ hw.2.2 he (len _ hx)).2
    ·rw[ziX hx hi]
     exact (zab nst okF hl b sc e _ hw.2.1 he (len _ hx)).2
   |txt z=>rw[zfe hx rfl];exact ZC
   |lst z=>rw[zfe hx rfl];exact ZC
  ·rw[ziV (by simpa using hm)]
   exact r1
 |.elseE a b,sc,e,ns,hw,he,hn=>by
  rw[Wf] at hw;obtain⟨f1,r1⟩:=zab nst okF hl a sc e ns hw.1 he hn;have cs:=csE nst a e ns hn;have go:∀w,(ev fs a e ns).1.res=.wrong w->Fine fs b e (ev fs a e ns).2/\ROk (ev fs b e (ev fs a e ns).2).1.res:=fun w hx=>
   zab nst okF hl b sc e _ hw.2 he (cs.s0 (fun z=>by have z:(ev fs a e ns).1.res=.stop:=z;rw[hx] at z;cases z))
  rw[Fine];refine⟨⟨f1,fun w hx=>(go w hx).1⟩,?_⟩;rcases zY (ev fs a e ns).1.res with h|⟨x,h⟩|⟨w,h⟩
  ·rw[za0 (fun w z=>by rw[h] at z;cases z)];exact r1
  ·rw[za0 (fun w z=>by rw[h] at z;cases z)];exact r1
  ·rw[zem h];exact (go w h).2
 |.cryE a,sc,e,ns,hw,he,hn=>by
  rw[Wf] at hw;obtain⟨f1,r1⟩:=zab nst okF hl a sc e ns hw he hn;rw[Fine];refine⟨f1,?_⟩
  by_cases hm:(ev fs a e ns).1.res.isMade=true
  ·obtain⟨x,hx⟩:=ZP hm
   rw[zf5 hx];rw[hx] at r1;exact⟨"cried",x,rfl,zkm,Gd.th r1,Gd.dp r1⟩
  ·rw[zf6 (by simpa using hm)]
   exact r1
 |.lookE a,sc,e,ns,hw,he,hn=>by
  rw[Wf] at hw;obtain⟨f1,r1⟩:=zab nst okF hl a sc e ns hw he hn;have cs:=csE nst a e ns hn;rw[Fine];refine⟨⟨f1,?_⟩,?_⟩
  ·by_cases h:(ev fs a e ns).1.res=.stop
   ·have:(ev fs a e ns).2.length=fs.length+1:=cs.s1 h
    lia
   ·have:(ev fs a e ns).2.length<=fs.length:=cs.s0 h
    lia
  by_cases hm:(ev fs a e ns).1.res.isMade=true
  ·obtain⟨x,hx⟩:=ZP hm
   cases x with
   |num i=>rw[zbJ hx (fun z h=>nomatch h)];exact ZC
   |lst i=>rw[zbJ hx (fun z h=>nomatch h)];exact ZC
   |txt z=>rw[zen hx];exact zjd okF _
  ·rw[zeo (by simpa using hm)]
   exact r1
 |.reck d es,sc,e,ns,hw,he,hn=>by
  rw[Wf] at hw;obtain⟨f1,r1⟩:=fineL nst okF hl es sc e ns hw.2.2 he hn;have hle:=zi4 (fs:=fs) (e:=e) (es:=es) (ns:=ns);obtain⟨o1,o2⟩:=zc7 r1;have h8:=hw.1;rw[Fine];refine⟨⟨by lia,f1,fun hall=>⟨o1,o2,by lia,by rw[zgI hall];exact hw.2.1⟩⟩,?_⟩;rw[ev]
  split
  ·exact zmh o1 (by rw[yB];lia)
  ·exact zfp (P:=fun r=>ROk r.res) r1 gd0
 |.eachE s a b,sc,e,ns,hw,he,hn=>by
  rw[Wf] at hw;obtain⟨f1,r1⟩:=zab nst okF hl a sc e ns hw.1 he hn;have cs:=csE nst a e ns hn;have go:∀ws,(ev fs a e ns).1.res=.made (.lst ws)->zb7 (fun w m=>ev fs b (put e s w) m) (fun w m=>Fine fs b (put e s w) m) ws (ev fs a e ns).2/\∀r∈(zQ (fun w m=>ev fs b (put e s w) m) ws (ev fs a e ns).2).1,ROk r.res:=fun ws hx=>by
   rw[hx] at r1;have g:Gd (.lst ws):=r1;refine zdG (fs:=fs) (fun w hw' m hm=>?_) (cs.s0 (fun z=>by have z:(ev fs a e ns).1.res=.stop:=z;rw[hx] at z;cases z));obtain⟨i1,i2⟩:=zab nst okF hl b (sc++[s]) (put e s w) m hw.2 (he.put (g.item hw')) hm;exact⟨i1,i2,(csE nst b (put e s w) m hm).s0⟩
  rw[Fine];refine⟨⟨f1,fun ws hx=>?_⟩,?_⟩
  ·obtain⟨g1,g2⟩:=go ws hx
   obtain⟨o1,o2⟩:=zc7 g2;exact⟨g1,ths_of _ o1,o2⟩
  by_cases hm:(ev fs a e ns).1.res.isMade=true
  ·obtain⟨x,hx⟩:=ZP hm
   cases x with
   |num i=>rw[ev,hx];exact ZC
   |txt i=>rw[ev,hx];exact ZC
   |lst ws=>
    obtain⟨g1,g2⟩:=go ws hx;obtain⟨o1,o2⟩:=zc7 g2
    by_cases hlen:ws.length<=10
    ·rw[zi7 hx hlen]
     split
     ·refine ZD ⟨?_,ths_of _ o1⟩
      have:(zQ (fun w m=>ev fs b (put e s w) m) ws (ev fs a e ns).2).1.length<=ws.length:=zgH;rw[yB];lia
     ·exact zfp (P:=fun r=>ROk r.res) g2 r1
    ·rw[ev,hx]
     show ROk (if ws.length > 10 then _ else _:R×Ns).1.res;rw[if_pos (by lia)];exact zfn
  ·rcases zY (ev fs a e ns).1.res with h|⟨x,h⟩|⟨w,h⟩
   ·rw[ev,h];trivial
   ·rw[h] at hm;exact absurd rfl hm
   ·rw[h] at r1
    rw[ev,h];exact r1
theorem fineL(nst:∀r∈fs,r≠Res.stop)(okF:∀r∈fs,ROk r)(hl:fs.length<=900):∀(es:List Ex)(sc:List Str)(e:Env)(ns:Ns),Wfs es sc->EG sc e->ns.length<=fs.length->Fines fs es e ns/\∀r∈(evs fs es e ns).1,ROk r.res
 |[],sc,e,ns,_,_,_=>by rw[Fines,evs];exact⟨trivial,fun r h=>nomatch h⟩
 |x::xs,sc,e,ns,hw,he,hn=>by
  rw[Wfs] at hw;obtain⟨f1,r1⟩:=zab nst okF hl x sc e ns hw.1 he hn;have cs:=csE nst x e ns hn;rw[Fines,za8]
  by_cases hm:(ev fs x e ns).1.res.isMade=true
  ·obtain⟨i1,i2⟩:=fineL nst okF hl xs sc e _ hw.2 he (cs.s0 (fun z=>by have z:(ev fs x e ns).1.res=.stop:=z;rw[z] at hm;cases hm))
   rw[if_pos hm];refine⟨⟨f1,fun _=>i1⟩,fun r hr=>?_⟩;rcases yV.mp hr with rfl|hr
   ·exact r1
   ·exact i2 r hr
  ·rw[if_neg hm]
   exact⟨⟨f1,fun z=>absurd z hm⟩,fun r hr=>by rw[yI.mp hr];exact r1⟩
end
end
noncomputable def mkEx:Wo->List Str->List Ex->Ex
 |.letw,[s],[a,b]=>.letE s a b
 |.ifw,_,[a,b,c]=>.ifE a b c
 |.elsew,_,[a,b]=>.elseE a b
 |.cry,_,[a]=>.cryE a
 |.look,_,[a]=>.lookE a
 |.add,_,es=>.reck .add es
 |.sub,_,es=>.reck .sub es
 |.mul,_,es=>.reck .mul es
 |.div,_,es=>.reck .div es
 |.same,_,es=>.reck .same es
 |.less,_,es=>.reck .less es
 |.join,_,es=>.reck .join es
 |.list,_,es=>.reck .list es
 |.item,_,es=>.reck .item es
 |.count,_,es=>.reck .count es
 |.figs,_,es=>.reck .figs es
 |_,_,_=>.lit (.num 0)
theorem zdH(s:Str)(a b:Ex):mkEx .letw [s] [a,b]=.letE s a b:=rfl
theorem zhw(a b c:Ex):mkEx .ifw [] [a,b,c]=.ifE a b c:=rfl
theorem zb2(a b:Ex):mkEx .elsew [] [a,b]=.elseE a b:=rfl
theorem zdI(a:Ex):mkEx .cry [] [a]=.cryE a:=rfl
theorem zb3(a:Ex):mkEx .look [] [a]=.lookE a:=rfl
mutual
noncomputable def Rl.ex:Rl->Ex
 |.lit x=>.lit x
 |.var s=>.var s
 |.op d bs ps=>mkEx d bs (rlEx ps)
noncomputable def rlEx:List Rl->List Ex
 |[]=>[]
 |p::r=>p.ex::rlEx r
end
theorem zgJ:∀l:List Rl,(rlEx l).length=l.length
 |[]=>by rw[rlEx];rfl
 |p::l=>by rw[rlEx,yQ,yQ,zgJ l]
theorem zco{a b:Rl}{sc bs:List Str}(h:Fits [a,b] sc bs):a.Fit sc/\b.Fit (sc++bs):=by rw[Fits,Fits] at h;exact h
theorem zdJ{a b c:Rl}{sc bs:List Str}(h:Fits [a,b,c] sc bs):a.Fit sc/\b.Fit sc/\c.Fit (sc++bs):=by rw[Fits,Fits,Fits] at h;exact h
theorem zcp{a:Rl}{sc bs:List Str}(h:Fits [a] sc bs):a.Fit (sc++bs):=by rw[Fits] at h;exact h
theorem zew{sc:List Str}:∀{ps:List Rl},Fits ps sc []->∀p∈ps,p.Fit sc
 |[],_,p,hp=>nomatch hp
 |[a],h,p,hp=>by
  rw[Fits,xB] at h;rw[yI.mp hp];exact h
 |a::b::r,h,p,hp=>by
  rw[Fits] at h;rcases yV.mp hp with rfl|hp
  ·exact h.1
  ·exact zew h.2 p hp
theorem zgK{d:Wo}{bs:List Str}{ps:List Rl}(h1:wLit d=false)(h2:wVar d=false)(h3:wEO d=false)(hb:bs.length=bcnt d)(hc:Cnt d ps.length):
  (∃s a b,d=.letw/\bs=[s]/\ps=[a,b])\/(∃a b c,d=.ifw/\bs=[]/\ps=[a,b,c])\/(∃a b,d=.elsew/\bs=[]/\ps=[a,b])\/(∃a,d=.cry/\bs=[]/\ps=[a])\/(∃a,d=.look/\bs=[]/\ps=[a]) \/
  (∃w:Wd,woS d=wdS w/\bs=[]/\ps.length<=8/\arity w ps.length/\∀es,mkEx d [] es=.reck w es):=by
 have l0:∀{α:Type}{l:List α},l.length=0->l=[]:=fun h=>xI.mp h;have l1:∀{α:Type}{l:List α},l.length=1->∃a,l=[a]:=fun {α}{l} h=>match l,h with|[a],_=>⟨a,rfl⟩
 have l2:∀{α:Type}{l:List α},l.length=2->∃a b,l=[a,b]:=fun {α}{l} h=>match l,h with|[a,b],_=>⟨a,b,rfl⟩
 have l3:∀{α:Type}{l:List α},l.length=3->∃a b c,l=[a,b,c]:=fun {α}{l} h=>match l,h with|[a,b,c],_=>⟨a,b,c,rfl⟩
 cases d with
 |lit=>cases h1
 |var=>cases h2
 |letw=>
  obtain⟨s,rfl⟩:=l1 hb;obtain⟨a,b,rfl⟩:=l2 hc;exact .inl ⟨s,a,b,rfl,rfl,rfl⟩
 |ifw=>
  obtain rfl:=l0 hb;obtain⟨a,b,c,rfl⟩:=l3 hc;exact .inr (.inl ⟨a,b,c,rfl,rfl,rfl⟩)
 |elsew=>
  obtain rfl:=l0 hb;obtain⟨a,b,rfl⟩:=l2 hc;exact .inr (.inr (.inl ⟨a,b,rfl,rfl,rfl⟩))
 |cry=>
  obtain rfl:=l0 hb;obtain⟨a,rfl⟩:=l1 hc;exact .inr (.inr (.inr (.inl ⟨a,rfl,rfl,rfl⟩)))
 |look=>
  obtain rfl:=l0 hb;obtain⟨a,rfl⟩:=l1 hc;exact .inr (.inr (.inr (.inr (.inl ⟨a,rfl,rfl,rfl⟩))))
 |each=>cases h3
 |over=>cases h3
 |list=>exact .inr (.inr (.inr (.inr (.inr ⟨.list,rfl,l0 hb,hc,trivial,fun _=>rfl⟩))))
 |add=>exact .inr (.inr (.inr (.inr (.inr ⟨.add,rfl,l0 hb,by have:ps.length=2:=hc;lia,hc,fun _=>rfl⟩))))
 |sub=>exact .inr (.inr (.inr (.inr (.inr ⟨.sub,rfl,l0 hb,by have:ps.length=2:=hc;lia,hc,fun _=>rfl⟩))))
 |mul=>exact .inr (.inr (.inr (.inr (.inr ⟨.mul,rfl,l0 hb,by have:ps.length=2:=hc;lia,hc,fun _=>rfl⟩))))
 |div=>exact .inr (.inr (.inr (.inr (.inr ⟨.div,rfl,l0 hb,by have:ps.length=2:=hc;lia,hc,fun _=>rfl⟩))))
 |same=>exact .inr (.inr (.inr (.inr (.inr ⟨.same,rfl,l0 hb,by have:ps.length=2:=hc;lia,hc,fun _=>rfl⟩))))
 |less=>exact .inr (.inr (.inr (.inr (.inr ⟨.less,rfl,l0 hb,by have:ps.length=2:=hc;lia,hc,fun _=>rfl⟩))))
 |join=>exact .inr (.inr (.inr (.inr (.inr ⟨.join,rfl,l0 hb,by have:ps.length=2:=hc;lia,hc,fun _=>rfl⟩))))
 |item=>exact .inr (.inr (.inr (.inr (.inr ⟨.item,rfl,l0 hb,by have:ps.length=2:=hc;lia,hc,fun _=>rfl⟩))))
 |count=>exact .inr (.inr (.inr (.inr (.inr ⟨.count,rfl,l0 hb,by have:ps.length=1:=hc;lia,hc,fun _=>rfl⟩))))
 |figs=>exact .inr (.inr (.inr (.inr (.inr ⟨.figs,rfl,l0 hb,by have:ps.length=1:=hc;lia,hc,fun _=>rfl⟩))))
theorem zko(a:Rl):rlEx [a]=[a.ex]:=by rw[rlEx,rlEx]
theorem zkp(a b:Rl):rlEx [a,b]=[a.ex,b.ex]:=by rw[rlEx,rlEx,rlEx]
theorem znp(a b c:Rl):rlEx [a,b,c]=[a.ex,b.ex,c.ex]:=by rw[rlEx,rlEx,rlEx,rlEx]
mutual
theorem zmi:∀(r:Rl)(sc:List Str),r.Fit sc->r.ex.toW=r.toW/\Wf r.ex sc/\r.ex.high<=r.high+1
 |.lit x,sc,h=>by
  rw[Rl.Fit] at h;rw[Rl.ex,Ex.toW,Rl.toW,Wf,Ex.high,Rl.high];exact⟨rfl,⟨h.1,by lia⟩,yG _⟩
 |.var s,sc,h=>by
  rw[Rl.Fit] at h;rw[Rl.ex,Ex.toW,Rl.toW,Wf,Ex.high,Rl.high];exact⟨rfl,h,yG _⟩
 |.op d bs ps,sc,h=>by
  rw[Rl.Fit] at h;obtain⟨h1,h2,h3,hb,hc,_,hf⟩:=h;have ih:∀p∈ps,∀sc,p.Fit sc->p.ex.toW=p.toW/\Wf p.ex sc/\p.ex.high<=p.high+1:=fun p hp sc=>ex_okL ps p hp sc;rcases zgK h1 h2 h3 hb hc with⟨s,a,b,rfl,rfl,rfl⟩|⟨a,b,c,rfl,rfl,rfl⟩|⟨a,b,rfl,rfl,rfl⟩|⟨a,rfl,rfl,rfl⟩|⟨a,rfl,rfl,rfl⟩|⟨w,ew,rfl,h8,har,hmk⟩
  ·obtain⟨f1,f2⟩:=zco hf
   obtain⟨a1,a2,a3⟩:=ih a (by simp) sc f1;obtain⟨b1,b2,b3⟩:=ih b (by simp) _ f2;rw[Rl.ex,zkp];simp only[zdH,zhw,zb2,zdI,zb3,Ex.toW,Rl.toW,rlWs,Wf,Ex.high,Rl.high,rhighs,a1,b1];exact⟨rfl,⟨a2,b2⟩,by lia⟩
  ·obtain⟨f1,f2,f3⟩:=zdJ hf
   rw[xB] at f3;obtain⟨a1,a2,a3⟩:=ih a (by simp) sc f1;obtain⟨b1,b2,b3⟩:=ih b (by simp) _ f2;obtain⟨c1,c2,c3⟩:=ih c (by simp) _ f3;rw[Rl.ex,znp];simp only[zdH,zhw,zb2,zdI,zb3,Ex.toW,Rl.toW,rlWs,Wf,Ex.high,Rl.high,rhighs,a1,b1,c1];exact⟨rfl,⟨a2,b2,c2⟩,by lia⟩
  ·obtain⟨f1,f2⟩:=zco hf
   rw[xB] at f2;obtain⟨a1,a2,a3⟩:=ih a (by simp) sc f1;obtain⟨b1,b2,b3⟩:=ih b (by simp) _ f2;rw[Rl.ex,zkp];simp only[zdH,zhw,zb2,zdI,zb3,Ex.toW,Rl.toW,rlWs,Wf,Ex.high,Rl.high,rhighs,a1,b1];exact⟨rfl,⟨a2,b2⟩,by lia⟩
  ·have f1:=zcp hf
   rw[xB] at f1;obtain⟨a1,a2,a3⟩:=ih a (by simp) sc f1;rw[Rl.ex,zko];simp only[zdH,zhw,zb2,zdI,zb3,Ex.toW,Rl.toW,rlWs,Wf,Ex.high,Rl.high,rhighs,a1];exact⟨rfl,a2,by lia⟩
  ·have f1:=zcp hf
   rw[xB] at f1;obtain⟨a1,a2,a3⟩:=ih a (by simp) sc f1;rw[Rl.ex,zko];simp only[zdH,zhw,zb2,zdI,zb3,Ex.toW,Rl.toW,rlWs,Wf,Ex.high,Rl.high,rhighs,a1];exact⟨rfl,a2,by lia⟩
  ·have hm:=zew hf
   obtain⟨e1,e2,e3⟩:=ex_okS ps sc hm;rw[Rl.ex,hmk,Ex.toW,Rl.toW,Wf,Ex.high,Rl.high,zgJ,e1,ew];exact⟨rfl,⟨h8,har,e2⟩,by lia⟩
theorem ex_okL:∀(ps:List Rl),∀p∈ps,∀sc,p.Fit sc->p.ex.toW=p.toW/\Wf p.ex sc/\p.ex.high<=p.high+1
 |[],p,hp=>nomatch hp
 |a::r,p,hp=>by
  rcases yV.mp hp with h|h
  ·intro sc;rw[h];exact zmi a sc
  ·exact ex_okL r p h
theorem ex_okS:∀(ps:List Rl)(sc:List Str),(∀p∈ps,p.Fit sc)->exWs (rlEx ps)=rlWs ps/\Wfs (rlEx ps) sc/\highs (rlEx ps)<=rhighs ps
 |[],sc,_=>by rw[rlEx,exWs,rlWs,Wfs,highs,rhighs];exact⟨rfl,trivial,yG _⟩
 |a::r,sc,h=>by
  obtain⟨a1,a2,a3⟩:=zmi a sc (h a yS);obtain⟨i1,i2,i3⟩:=ex_okS r sc fun p hp=>h p (yL _ hp);rw[rlEx,exWs,rlWs,Wfs,highs,rhighs,a1,i1];exact⟨rfl,⟨a2,i2⟩,by lia⟩
end
end D
namespace L2
open PySem PySem.Spec PyProof.Rows
theorem znq{K:tT}{te:TE}{H:Hp}{F:jC->Hp->List V->Prop}{a b:jC}{xs ys:List V}(outs:List V)(h1:SqT K H a xs)(h2:SqT K H b ys)(hl:xs.length=ys.length)(ho:outs.length=xs.length)(hz:xs.length<=tI)
  (step:∀(i:Nat)(x y z:V)(H1:Hp)(R:VK),xs[i]?=some x->ys[i]?=some y->outs[i]?=some z->Same H H1->(∀H2,Same H1 H2->R z H2)->te [some x,some y] H1 R)
  (sq:∀H1,Same H H1->SqT K H1 a xs/\SqT K H1 b ys)
  (fin:∀(H1:Hp)(D:jC),Same H H1->H1 D=none->F D H1 outs):
  ∃W:Nat->Nat->List V->Hp->Prop,(∃m,W 0 m [] H)/\∀i m vs H,W i m vs H->vs.length<=tI /\
   (((Itz K a b).stop i H/\∀D,H D=none->F D H vs) \/
    ((Itz K a b).go i H/\∀v H',(Itz K a b).yld i H v H'->gTup K 2 (gCons (zW 0) (gCons (zW 1) gNil)) v (yH 2 none) H' fun σ2 H2=>if true=true then te σ2 H2 fun y H3=>∃m',m'<m/\W (i+1) m' (vs++[y]) H3 else ∃m',m'<m/\W (i+1) m' vs H2)):=by
 refine⟨fun i m us H1=>i<=xs.length/\m=xs.length-i/\us=outs.take i/\Same H H1,⟨_,yJ _,rfl,by simp,Sr _⟩,fun i m us H1 hW=>?_⟩;obtain⟨hi,hm,hu,sm⟩:=hW;obtain⟨q1,q2⟩:=sq H1 sm;refine⟨by rw[hu,xA];lia,?_⟩
 by_cases hlt:i<xs.length
 ·have hlt2:i<ys.length:=by lia
  refine .inr ⟨⟨xs,xs[i],ys,ys[i],q1,q2,yA hlt,yA hlt2⟩,fun v H' hy=>?_⟩;obtain⟨t,x,y,ht,rfl,e1,e2,rfl⟩:=hy;have hz:outs[i]?=some outs[i]:=yA (by lia);have s2:Same H1 (upd H1 t (.tup [x,y])):=fun c o e=>by rw[zH (zB e ht)];exact e
  refine⟨t,_,rfl,Sq zj,rfl,_,_,rfl,_,_,rfl,rfl,?_⟩;refine iteT ?_;refine step i x y outs[i] _ _ (e1 xs q1) (e2 ys q2) hz (sm.trans s2) fun H2 s3=>⟨xs.length-(i+1),by lia,by lia,rfl,?_,(sm.trans s2).trans s3⟩;rw[hu,Z8 hz]
 ·have e:i=xs.length:=by lia
  refine .inl ⟨⟨xs,q1,by lia⟩,fun D hD=>?_⟩;have e2:us=outs:=by rw[hu,xG (by lia)]
  rw[e2];exact fin H1 D sm hD
end L2
namespace D
open PySem L2
inductive spAl(K:tT)(n:Nat)(vs:List V)(H:Hp)(Q:VK)(z3:XK):Prop
 |mk (u v:V) (_:vs=[u,v]) (_:((u=.non/\v=.non/\0<n)\/∃x:W,RS K H u x/\RS K H v x/\x.depth<n)) (_:∀H',Same H H'->Q (.bl true) H')
theorem zje:FnScope ["_law_one","_law_other"] ["_law_one","_law_other"] (zq zd7):=mkSc rfl (by decide +kernel)
theorem zjf{n:Nat}(F:Fun K "_law_alike" "_law_alike" zd7 f fd)(G_lalike:Have P w K mg base "_law_alike" k qL8 (spAl K n))(m_all:mg "all"=none)(m_bool:mg "bool"=none)(m_int:mg "int"=none)(m_isi:mg "isinstance"=none)(m_len:mg "len"=none)(m_str:mg "str"=none)(m_tuple:mg "tuple"=none)(m_zip:mg "zip"=none):qF P w K mg base k f fd qL8 (spAl K (n+1)):=by
 refine F.okQ zje (by rintro _ _ _ _ ⟨_,_,rfl,_⟩;rfl) fun _ _ _ _ H vs Q E hr h=>?_;obtain⟨u,v,rfl,h0,q⟩:=h;refine⟨_,(zm (zN (zR (zw zaa rfl m_isi zU (zc (pv 0) (zc (ZY rfl m_tuple zM) zi)))) (zm (zN (PW.pt (zaM (Zh (zR (zw zaa rfl m_isi zU (zc (pv 1) (zc (ZY rfl m_tuple zM) zi))))) (zae (zE zeD (zw zL rfl m_len tG (zc (pv 0) zi)) (zw zL rfl m_len tG (zc (pv 1) zi)) (nomark _))))) (zo (zt zbe)) zA)
  (zo (zt (zw (Z4 rfl) rfl m_all zbD (zc (zbz ["_law_mine","_law_yours"] rfl rfl (by decide) rfl (by decide) trivial rfl (ziI rfl m_zip (zc (pv 0) (zc (pv 1) zi))) (fun C s H fp=>(show QG _ _ (gTup K 2 (gCons (zW 0) (gCons (zW 1) gNil))) from zaJ rfl (zZ (zS (i:=0) (show (["_law_mine","_law_yours"]:List Str).Nodup from by decide) rfl (Or.inl rfl) (Or.inr rfl)) (zZ (zS (i:=1) (show (["_law_mine","_law_yours"]:List Str).Nodup from by decide) rfl (Or.inl rfl) (Or.inr rfl)) zar)))) (fun C s H fp=>⟨Zd,(zy G_lalike hr rfl (zc (pv 0) (zc (pv 1) zi)))⟩)) zi))))) zA)
  (zm (zN (zR (zw zaa rfl m_isi zU (zc (pv 0) (zc (ZY rfl m_str ZO) zi)))) (zo (zt (Z5 (zw zaa rfl m_isi zU (zc (pv 1) (zc (ZY rfl m_str ZO) zi))) (zal (zV zX (pv 0) (pv 1) (nomark _)))))) zA)
  (zm (zN (zb6 (zb5 (pv 0))) (zo (zt (zdo (zb5 (pv 1))))) zA)
  (zm (zN (zR (zw zaa rfl m_isi zU (zc (pv 0) (zc (ZY rfl m_bool zaY) zi)))) (zo (zt (Z5 (zw zaa rfl m_isi zU (zc (pv 1) (zc (ZY rfl m_bool zaY) zi))) (zal (zV zX (pv 0) (pv 1) (nomark _)))))) zA)
  (zo (zt (Z5 (zw zaa rfl m_isi zU (zc (pv 1) (zc (ZY rfl m_int Z9) zi))) (Z5 (zgo (zw zaa rfl m_isi zU (zc (pv 1) (zc (ZY rfl m_bool zaY) zi)))) (zal (zV zX (pv 0) (pv 1) (nomark _))))))))))),nm5 ?_⟩
 intros;have q0:Q (.bl true) H:=q H (Sr H);rcases h0 with⟨rfl,rfl,_⟩|⟨x,r1,r2,hd⟩
 ·exact⟨_,rfl,_,_,_,_,rfl,.inl .non,zia,_,rfl,iteF ⟨_,rfl,_,_,_,_,rfl,.inl .non,zib,_,rfl,iteF ⟨_,rfl,_,rfl,iteT ⟨_,rfl,q0⟩⟩⟩⟩
 cases x with
 |num i=>
  cases r1;cases r2;refine⟨_,rfl,_,_,_,_,rfl,.inl (.int i),zcE,_,rfl,iteF ⟨_,rfl,_,_,_,_,rfl,.inl (.int i),zdt,_,rfl,iteF ⟨_,rfl,_,rfl,iteF ⟨_,rfl,_,_,_,_,rfl,.inl (.int i),zic,_,rfl,iteF ?_⟩⟩⟩⟩;refine⟨_,rfl,_,_,_,_,rfl,.inl (.int i),zkV,_,rfl,iteT ⟨_,rfl,_,_,_,_,rfl,.inl (.int i),zic,_,rfl,_,rfl,iteT ⟨_,rfl,_,rfl,rfl,?_⟩⟩⟩;rw[decide_eq_true (rfl:V.int i=V.int i)];exact q0
 |txt z=>
  cases r1;cases r2;refine⟨_,rfl,_,_,_,_,rfl,.inl (.str z),zbC,_,rfl,iteF ⟨_,rfl,_,_,_,_,rfl,.inl (.str z),za7,_,rfl,iteT ?_⟩⟩;refine⟨_,rfl,_,_,_,_,rfl,.inl (.str z),za7,_,rfl,iteT ⟨_,rfl,_,rfl,rfl,?_⟩⟩;rw[decide_eq_true (rfl:V.str z=V.str z)];exact q0
 |lst ws=>
  cases r1 with
  | @lst t1 us1 _ e1 l1 at1=>
   cases r2 with
   | @lst t2 us2 _ e2 l2 at2=>
    refine⟨_,rfl,_,_,_,_,rfl,.inr ⟨rfl,_,_,rfl,e1⟩,zbB,_,rfl,iteT ?_⟩;refine⟨_,rfl,_,_,_,_,rfl,.inr ⟨rfl,_,_,rfl,e2⟩,zbB,_,rfl,iteF ⟨_,rfl,_,_,rfl,.inr ⟨_,e1,rfl⟩,_,rfl,_,_,rfl,.inr ⟨_,e2,rfl⟩,rfl,_,rfl,?_⟩⟩;rw[show (!decide (V.int ((us1.length:Nat):Int)=V.int ((us2.length:Nat):Int)))=false by rw[l1,l2];simp];have hd':1+depths ws<n+1:=hd;refine iteF ⟨_,rfl,_,rfl,t1,t2,us1,us2,rfl,e1,e2,fun hz=>?_⟩;refine znq (K:=K) (us1.map fun _=>V.bl true) e1 e2 (by lia) (by simp) hz (fun i x y z H1 R hx hy hzz sm r=>?_) (fun H1 sm=>⟨sm.seqT e1,sm.seqT e2⟩) (fun H1 D sm hD=>?_)
    ·rw[yE,hx] at hzz
     cases hzz;have hi:i<ws.length:=by have:=(yC.mp hx).1;lia
     have hw:ws[i]?=some ws[i]:=yA hi;have hdm:=Z0 ws[i] (xD hi);exact⟨_,rfl,_,rfl,x,y,rfl,.inr ⟨ws[i],RS.mono sm (at1 i _ _ hx hw),RS.mono sm (at2 i _ _ hy hw),by lia⟩,r⟩
    ·refine⟨D,us1.map fun _=>true,rfl,Sl ?_,?_⟩
     ·rw[zj,wG];rfl
     ·rw[show ((us1.map fun _=>true).all id)=true by simp]
      exact q _ (sm.trans (Sn hD))
variable{n:Nat}{r a:R}{res:Res}
inductive GR:Nat->R->Prop where
 |mk {n:Nat}{res:Res}{ss:List R}:ROk res->res≠.stop->(∀r∈ss,GR n r)->GR (n+1) (.mk res ss)
theorem GR.up{m:Nat}(h:GR n r)(l:n<=m):GR m r:=by
 induction h generalizing m with
 | @mk n res ss a b _ ih=>
  obtain⟨k,rfl⟩:∃k,m=k+1:=⟨m-1,by lia⟩;exact .mk a b fun r hr=>ih r hr (by lia)
theorem gr1(ok:ROk res)(ns:res≠.stop)(ga:GR n a):GR (n+1) (.mk res [a]):=.mk ok ns fun r hr=>by rw[yI.mp hr];exact ga
theorem gr2{b:R}(ok:ROk res)(ns:res≠.stop)(ga:GR n a)(gb:GR n b):GR (n+1) (.mk res [a,b]):=.mk ok ns fun r hr=>by
 rcases yV.mp hr with rfl|hr
 ·exact ga
 ·rw[yI.mp hr];exact gb
theorem ZH{r:Res}{x:W}(h:r=.made x):r≠.stop:=fun z=>by rw[h] at z;cases z
theorem zex{r:Res}{x:List W}(h:r=.wrong x):r≠.stop:=fun z=>by rw[h] at z;cases z
section
variable{fs:List Res}
theorem zgL{F:W->Ns->R×Ns}{n:Nat}:∀{ws:List W}{ns:Ns},(∀w∈ws,∀ns:Ns,ns.length<=fs.length->(F w ns).1.res≠.stop->GR n (F w ns).1/\(F w ns).2.length<=fs.length)->ns.length<=fs.length->¬stL (zQ F ws ns).1->∀r∈(zQ F ws ns).1,GR n r
 |[],ns,_,_,_,r,hr=>by rw[zQ] at hr;cases hr
 |w::ws,ns,h,hn,hs,r,hr=>by
  rw[zaH] at hs hr
  by_cases hm:(F w ns).1.res.isMade=true
  ·rw[if_pos hm] at hs hr
   obtain⟨x,hx⟩:=ZP hm;obtain⟨g1,g2⟩:=h w yS ns hn (ZH hx);rcases yV.mp hr with rfl|hr
   ·exact g1
   ·exact zgL (fun x hx=>h x (yL _ hx)) g2 (fun z=>hs ((zbL (ZH hx)).mpr z)) r hr
  ·rw[if_neg hm] at hs hr
   rw[yI.mp hr];exact (h w yS ns hn (fun z=>hs (zjb.mpr z))).1
mutual
theorem grE(nst:∀r∈fs,r≠Res.stop)(okF:∀r∈fs,ROk r)(hl:fs.length<=900):∀(x:Ex)(sc:List Str)(e:Env)(ns:Ns),Wf x sc->EG sc e->ns.length<=fs.length->(ev fs x e ns).1.res≠.stop->GR x.high (ev fs x e ns).1
 |.lit x,sc,e,ns,hw,he,hn,hs=>by
  have ok:=(zab nst okF hl _ sc e ns hw he hn).2;rw[ev] at ok hs ⊢;rw[Ex.high];exact .mk ok hs fun r hr=>nomatch hr
 |.var s,sc,e,ns,hw,he,hn,hs=>by
  have ok:=(zab nst okF hl _ sc e ns hw he hn).2;rw[ev] at ok hs ⊢;rw[Ex.high];exact .mk ok hs fun r hr=>nomatch hr
 |.letE s a b,sc,e,ns,hw,he,hn,hs=>by
  have ok:=(zab nst okF hl _ sc e ns hw he hn).2;rw[Wf] at hw;have r1:=(zab nst okF hl a sc e ns hw.1 he hn).2;have cs:=csE nst a e ns hn;rw[Ex.high,wJ]
  by_cases hm:(ev fs a e ns).1.res.isMade=true
  ·obtain⟨x,hx⟩:=ZP hm
   rw[hx] at r1;rw[zf3 hx] at ok hs ⊢;exact gr2 ok hs ((grE nst okF hl a sc e ns hw.1 he hn (ZH hx)).up (by lia)) ((grE nst okF hl b (sc++[s]) (put e s x) _ hw.2 (he.put r1) (cs.s0 (ZH hx)) hs).up (by lia))
  ·rw[zf4 (by simpa using hm)] at ok hs ⊢
   exact gr1 ok hs ((grE nst okF hl a sc e ns hw.1 he hn hs).up (by lia))
 |.ifE a b c,sc,e,ns,hw,he,hn,hs=>by
  have ok:=(zab nst okF hl _ sc e ns hw he hn).2;rw[Wf] at hw;have cs:=csE nst a e ns hn;rw[Ex.high,wJ]
  by_cases hm:(ev fs a e ns).1.res.isMade=true
  ·obtain⟨x,hx⟩:=ZP hm
   have ga:=(grE nst okF hl a sc e ns hw.1 he hn (ZH hx)).up (m:=max a.high (max b.high c.high)) (by lia);cases x with
   |num i=>
    by_cases hi:i=0
    ·subst hi
     rw[ziW hx] at ok hs ⊢;exact gr2 ok hs ga ((grE nst okF hl c sc e _ hw.2.2 he (cs.s0 (ZH hx)) hs).up (by lia))
    ·rw[ziX hx hi] at ok hs ⊢
     exact gr2 ok hs ga ((grE nst okF hl b sc e _ hw.2.1 he (cs.s0 (ZH hx)) hs).up (by lia))
   |txt z=>rw[zfe hx rfl] at ok hs ⊢;exact gr1 ok hs ga
   |lst z=>rw[zfe hx rfl] at ok hs ⊢;exact gr1 ok hs ga
  ·rw[ziV (by simpa using hm)] at ok hs ⊢
   exact gr1 ok hs ((grE nst okF hl a sc e ns hw.1 he hn hs).up (by lia))
 |.elseE a b,sc,e,ns,hw,he,hn,hs=>by
  have ok:=(zab nst okF hl _ sc e ns hw he hn).2;rw[Wf] at hw;have cs:=csE nst a e ns hn;rw[Ex.high,wJ];rcases zY (ev fs a e ns).1.res with h|⟨x,h⟩|⟨w,h⟩
  ·rw[za0 (fun w z=>by rw[h] at z;cases z)] at hs
   exact absurd h hs
  ·rw[za0 (fun w z=>by rw[h] at z;cases z)] at ok hs ⊢
   exact gr1 ok hs ((grE nst okF hl a sc e ns hw.1 he hn hs).up (by lia))
  ·rw[zem h] at ok hs ⊢
   exact gr2 ok hs ((grE nst okF hl a sc e ns hw.1 he hn (zex h)).up (by lia)) ((grE nst okF hl b sc e _ hw.2 he (cs.s0 (zex h)) hs).up (by lia))
 |.cryE a,sc,e,ns,hw,he,hn,hs=>by
  have ok:=(zab nst okF hl _ sc e ns hw he hn).2;rw[Wf] at hw;rw[Ex.high,wJ]
  by_cases hm:(ev fs a e ns).1.res.isMade=true
  ·obtain⟨x,hx⟩:=ZP hm
   rw[zf5 hx] at ok hs ⊢;exact gr1 ok hs (grE nst okF hl a sc e ns hw he hn (ZH hx))
  ·rw[zf6 (by simpa using hm)] at ok hs ⊢
   exact gr1 ok hs (grE nst okF hl a sc e ns hw he hn hs)
 |.lookE a,sc,e,ns,hw,he,hn,hs=>by
  have ok:=(zab nst okF hl _ sc e ns hw he hn).2;rw[Wf] at hw;rw[Ex.high,wJ]
  by_cases hm:(ev fs a e ns).1.res.isMade=true
  ·obtain⟨x,hx⟩:=ZP hm
   have ga:=grE nst okF hl a sc e ns hw he hn (ZH hx);cases x with
   |num i=>rw[zbJ hx (fun z h=>nomatch h)] at ok hs ⊢;exact gr1 ok hs ga
   |lst i=>rw[zbJ hx (fun z h=>nomatch h)] at ok hs ⊢;exact gr1 ok hs ga
   |txt z=>rw[zen hx] at ok hs ⊢;exact gr1 ok hs ga
  ·rw[zeo (by simpa using hm)] at ok hs ⊢
   exact gr1 ok hs (grE nst okF hl a sc e ns hw he hn hs)
 |.reck d es,sc,e,ns,hw,he,hn,hs=>by
  have ok:=(zab nst okF hl _ sc e ns hw he hn).2;rw[Wf] at hw;rw[Ex.high,wJ];rw[ev] at ok hs ⊢
  by_cases hall:Zq (evs fs es e ns).1=true
  ·rw[if_pos hall] at ok hs ⊢
   exact .mk ok hs (grL nst okF hl es sc e ns hw.2.2 he hn (zaq hall))
  ·rw[if_neg hall] at ok hs ⊢
   exact .mk ok hs (grL nst okF hl es sc e ns hw.2.2 he hn hs)
 |.eachE s a b,sc,e,ns,hw,he,hn,hs=>by
  have ok:=(zab nst okF hl _ sc e ns hw he hn).2;rw[Wf] at hw;have r1:=(zab nst okF hl a sc e ns hw.1 he hn).2;have cs:=csE nst a e ns hn;rw[Ex.high,wJ];rcases zY (ev fs a e ns).1.res with h|⟨x,hx⟩|⟨w,h⟩
  ·rw[ev,h] at hs;exact absurd rfl hs
  ·have ga:=(grE nst okF hl a sc e ns hw.1 he hn (ZH hx)).up (m:=max a.high b.high) (by lia)
   cases x with
   |num i=>rw[ev,hx] at ok hs ⊢;exact gr1 ok hs ga
   |txt i=>rw[ev,hx] at ok hs ⊢;exact gr1 ok hs ga
   |lst ws=>
    rw[hx] at r1;have g:Gd (.lst ws):=r1
    by_cases hlen:ws.length<=10
    ·have go:=zgL (fs:=fs) (F:=fun w m=>ev fs b (put e s w) m) (n:=max a.high b.high) (ws:=ws) (ns:=(ev fs a e ns).2) (fun w hw' m hm hm2=>⟨(grE nst okF hl b (sc++[s]) (put e s w) m hw.2 (he.put (g.item hw')) hm hm2).up (by lia),(csE nst b (put e s w) m hm).s0 hm2⟩) (cs.s0 (ZH hx))
     rw[zi7 hx hlen] at ok hs ⊢
     by_cases hall:Zq (zQ (fun w m=>ev fs b (put e s w) m) ws (ev fs a e ns).2).1=true
     ·rw[if_pos hall] at ok hs ⊢
      exact .mk ok hs fun r hr=>by
       rcases yV.mp hr with rfl|hr
       ·exact ga
       ·exact go (zaq hall) r hr
     ·rw[if_neg hall] at ok hs ⊢
      exact .mk ok hs fun r hr=>by
       rcases yV.mp hr with rfl|hr
       ·exact ga
       ·exact go (fun z=>hs ((znn (ZH hx)).mpr z)) r hr
    ·have hc:ev fs (.eachE s a b) e ns=(.mk (.wrong [.txt "great",.txt ""]) [(ev fs a e ns).1],(ev fs a e ns).2):=by
      rw[ev,hx];exact if_pos (by lia)
     rw[hc] at ok hs ⊢;exact gr1 ok hs ga
  ·rw[ev,h] at ok hs ⊢
   exact gr1 ok hs ((grE nst okF hl a sc e ns hw.1 he hn (zex h)).up (by lia))
theorem grL(nst:∀r∈fs,r≠Res.stop)(okF:∀r∈fs,ROk r)(hl:fs.length<=900):∀(es:List Ex)(sc:List Str)(e:Env)(ns:Ns),Wfs es sc->EG sc e->ns.length<=fs.length->¬stL (evs fs es e ns).1->∀r∈(evs fs es e ns).1,GR (highs es) r
 |[],sc,e,ns,hw,he,hn,hs,r,hr=>by rw[evs] at hr;cases hr
 |x::xs,sc,e,ns,hw,he,hn,hs,r,hr=>by
  rw[Wfs] at hw;rw[za8] at hs hr;rw[highs]
  by_cases hm:(ev fs x e ns).1.res.isMade=true
  ·rw[if_pos hm] at hs hr
   obtain⟨y,hx⟩:=ZP hm;rcases yV.mp hr with rfl|hr
   ·exact (grE nst okF hl x sc e ns hw.1 he hn (ZH hx)).up (by lia)
   ·exact (grL nst okF hl xs sc e _ hw.2 he ((csE nst x e ns hn).s0 (ZH hx)) (fun z=>hs ((zbL (ZH hx)).mpr z)) r hr).up (by lia)
  ·rw[if_neg hm] at hs hr
   rw[yI.mp hr];exact (grE nst okF hl x sc e ns hw.1 he hn (fun z=>hs (zjb.mpr z))).up (by lia)
end
end
theorem znr{ss:List R}(h:∀r∈ss,r.toW.depth<=n):depths (toWs ss)<=n:=by
 induction ss with
 |nil=>rw[toWs,depths];lia
 |cons r l ih=>
  rw[toWs,depths];have h1:=h r yS;have h2:=ih fun x hx=>h x (yL _ hx);lia
theorem GR.dp(h:GR n r):r.toW.depth<=2*n+14:=by
 induction h with
 | @mk n res ss a b _ ih=>
  have h1:=ROk.dp a;have h2:=znr ih;rw[R.toW];simp only[W.depth,depths];lia
theorem GR.rs{K:tT}{H:Hp}(g:GR n r):∀{v:V},RR K H v r->RS K H v r.toW:=by
 induction g with
 | @mk n res ss a b _ ih=>
  intro v h;cases h with
  | @mk a1 b1 rv vs _ _ e1 e2 e3 l at'=>
   rw[R.toW];refine RS.two (Sq e1) (e2.rs b) (.lst (Sq e3) (by rw[zgC];exact l) fun i v w hv hw=>?_);rw[ziU] at hw;obtain⟨r,hr,rfl⟩:=yP.mp hw;exact ih r (yK hr) (at' i v r hv hr)
mutual
noncomputable def Ex.lks:Ex->Nat
 |.lit _=>0
 |.var _=>0
 |.letE _ a b=>a.lks+b.lks
 |.ifE a b c=>a.lks+(b.lks+c.lks)
 |.elseE a b=>a.lks+b.lks
 |.cryE a=>a.lks
 |.lookE a=>a.lks+1
 |.reck _ es=>lkss es
 |.eachE _ a b=>a.lks+10*b.lks
noncomputable def lkss:List Ex->Nat
 |[]=>0
 |e::es=>e.lks+lkss es
end
theorem zgM{F:W->Ns->R×Ns}{n:Nat}(h:∀w ns,(F w ns).2.length<=ns.length+n):∀(ws:List W)(ns:Ns),(zQ F ws ns).2.length<=ns.length+ws.length*n
 |[],ns=>by rw[zQ];exact yY _ _
 |w::ws,ns=>by
  have h1:=h w ns;have h2:=zgM h ws (F w ns).2;rw[zaH,yQ,Nat.succ_mul]
  split
  ·show (zQ F ws (F w ns).2).2.length<=_
   lia
  ·show (F w ns).2.length<=_
   lia
section
variable{fs:List Res}
mutual
theorem lksE:∀(x:Ex)(e:Env)(ns:Ns),(ev fs x e ns).2.length<=ns.length+x.lks
 |.lit x,e,ns=>by rw[ev];exact yY _ _
 |.var s,e,ns=>by rw[ev];exact yY _ _
 |.letE s a b,e,ns=>by
  have h1:=lksE a e ns;rw[Ex.lks,ev]
  split
  ·rename_i x _
   have h2:=lksE b (put e s x) (ev fs a e ns).2;show (ev fs b (put e s x) (ev fs a e ns).2).2.length<=_;lia
  ·show (ev fs a e ns).2.length<=_
   lia
 |.ifE a b c,e,ns=>by
  have h1:=lksE a e ns;have h2:=lksE b e (ev fs a e ns).2;have h3:=lksE c e (ev fs a e ns).2;rw[Ex.lks,ev]
  split
  ·split
   ·show (ev fs c e (ev fs a e ns).2).2.length<=_
    lia
   ·show (ev fs b e (ev fs a e ns).2).2.length<=_
    lia
  ·show (ev fs a e ns).2.length<=_
   lia
  ·show (ev fs a e ns).2.length<=_
   lia
 |.elseE a b,e,ns=>by
  have h1:=lksE a e ns;have h2:=lksE b e (ev fs a e ns).2;rw[Ex.lks,ev]
  split
  ·show (ev fs b e (ev fs a e ns).2).2.length<=_
   lia
  ·show (ev fs a e ns).2.length<=_
   lia
 |.cryE a,e,ns=>by
  have h1:=lksE a e ns;rw[Ex.lks,ev]
  split<;>exact h1
 |.lookE a,e,ns=>by
  have h1:=lksE a e ns;rw[Ex.lks,ev]
  split
  ·show ((ev fs a e ns).2++[_]).length<=_
   rw[yD,uD];lia
  ·show (ev fs a e ns).2.length<=_
   lia
  ·show (ev fs a e ns).2.length<=_
   lia
 |.reck d es,e,ns=>by
  have h1:=lksL es e ns;rw[Ex.lks,ev]
  split<;>exact h1
 |.eachE s a b,e,ns=>by
  have h1:=lksE a e ns;rw[Ex.lks,ev]
  split
  ·rename_i ws _
   have h2:=zgM (F:=fun w m=>ev fs b (put e s w) m) (fun w m=>lksE b (put e s w) m) ws (ev fs a e ns).2
   split
   ·show (ev fs a e ns).2.length<=_
    lia
   ·rename_i hl
    have h3:ws.length*b.lks<=10*b.lks:=vQ (by lia) (yG _)
    split
    ·show (zQ (fun w m=>ev fs b (put e s w) m) ws (ev fs a e ns).2).2.length<=_
     lia
    ·show (zQ (fun w m=>ev fs b (put e s w) m) ws (ev fs a e ns).2).2.length<=_
     lia
  ·show (ev fs a e ns).2.length<=_
   lia
  ·show (ev fs a e ns).2.length<=_
   lia
theorem lksL:∀(es:List Ex)(e:Env)(ns:Ns),(evs fs es e ns).2.length<=ns.length+lkss es
 |[],e,ns=>by rw[evs];exact yY _ _
 |x::xs,e,ns=>by
  have h1:=lksE x e ns;have h2:=lksL xs e (ev fs x e ns).2;rw[lkss,za8]
  split
  ·show (evs fs xs e (ev fs x e ns).2).2.length<=_
   lia
  ·show (ev fs x e ns).2.length<=_
   lia
end
end
mutual
theorem zjg:∀(r:Rl)(sc:List Str),r.Fit sc->r.ex.lks<=r.many
 |.lit x,sc,_=>by rw[Rl.ex,Ex.lks];exact yJ _
 |.var s,sc,_=>by rw[Rl.ex,Ex.lks];exact yJ _
 |.op d bs ps,sc,h=>by
  rw[Rl.Fit] at h;obtain⟨h1,h2,h3,hb,hc,_,hf⟩:=h;have ih:=ex_lksL ps;rw[Rl.many];rcases zgK h1 h2 h3 hb hc with⟨s,a,b,rfl,rfl,rfl⟩|⟨a,b,c,rfl,rfl,rfl⟩|⟨a,b,rfl,rfl,rfl⟩|⟨a,rfl,rfl,rfl⟩|⟨a,rfl,rfl,rfl⟩|⟨w,ew,rfl,h8,har,hmk⟩
  ·obtain⟨f1,f2⟩:=zco hf
   have a1:=ih a (by simp) sc f1;have b1:=ih b (by simp) _ f2;rw[Rl.ex,zkp,zdH,Ex.lks,manys,manys,manys];lia
  ·obtain⟨f1,f2,f3⟩:=zdJ hf
   have a1:=ih a (by simp) sc f1;have b1:=ih b (by simp) _ f2;have c1:=ih c (by simp) _ f3;rw[Rl.ex,znp,zhw,Ex.lks,manys,manys,manys,manys];lia
  ·obtain⟨f1,f2⟩:=zco hf
   have a1:=ih a (by simp) sc f1;have b1:=ih b (by simp) _ f2;rw[Rl.ex,zkp,zb2,Ex.lks,manys,manys,manys];lia
  ·have a1:=ih a (by simp) _ (zcp hf)
   rw[Rl.ex,zko,zdI,Ex.lks,manys,manys];lia
  ·have a1:=ih a (by simp) _ (zcp hf)
   rw[Rl.ex,zko,zb3,Ex.lks,manys,manys];lia
  ·have:=ex_lksS ps sc (zew hf)
   rw[Rl.ex,hmk,Ex.lks];lia
theorem ex_lksL:∀(ps:List Rl),∀p∈ps,∀sc,p.Fit sc->p.ex.lks<=p.many
 |[],p,hp=>nomatch hp
 |a::r,p,hp=>by
  rcases yV.mp hp with h|h
  ·intro sc;rw[h];exact zjg a sc
  ·exact ex_lksL r p h
theorem ex_lksS:∀(ps:List Rl)(sc:List Str),(∀p∈ps,p.Fit sc)->lkss (rlEx ps)<=manys ps
 |[],sc,_=>by rw[rlEx,lkss];exact yJ _
 |a::r,sc,h=>by
  have a1:=zjg a sc (h a yS);have i1:=ex_lksS r sc fun p hp=>h p (yL _ hp);rw[rlEx,lkss,manys];lia
end
end D
namespace L2
open PySem PySem.Spec PyProof.Rows
theorem zkq{K:tT}{fr:List Nat}{te:TE}{σ:St}{H:Hp}{F:jC->Hp->List V->Prop}{a:jC}{vs:List V}(outs:List V)(hS:SqT K H a vs)(hl:outs.length=vs.length)(hz:vs.length<=tI)
  (step:∀(i:Nat)(v y:V)(H1:Hp)(R:VK),vs[i]?=some v->outs[i]?=some y->Same H H1->(∀H2,Same H1 H2->R y H2)->te (some v::frees fr σ) H1 R)
  (fin:∀(H1:Hp)(D:jC),Same H H1->H1 D=none->F D H1 outs):
  ∃W:Nat->Nat->List V->Hp->Prop,(∃m,W 0 m [] H)/\∀i m vs H,W i m vs H->vs.length<=tI /\
   (((Itt K a).stop i H/\∀D,H D=none->F D H vs) \/
    ((Itt K a).go i H/\∀v H',(Itt K a).yld i H v H'->if true=true then te (some v::frees fr σ) H' fun y H3=>∃m',m'<m/\W (i+1) m' (vs++[y]) H3 else ∃m',m'<m/\W (i+1) m' vs H')):=by
 refine⟨fun i m us H1=>i<=vs.length/\m=vs.length-i/\us=outs.take i/\Same H H1,⟨_,yJ _,rfl,by simp,Sr _⟩,fun i m us H1 hW=>?_⟩;obtain⟨hi,hm,hu,sm⟩:=hW;refine⟨by rw[hu,xA];lia,?_⟩
 by_cases hlt:i<vs.length
 ·refine .inr ⟨⟨vs,vs[i],sm.seqT hS,yA hlt⟩,fun v H' hy=>?_⟩
  obtain⟨rfl,hv⟩:=hy;have hv:=hv vs (sm.seqT hS);have hy:outs[i]?=some outs[i]:=yA (by lia);refine iteT ?_;refine step i v outs[i] H' _ hv hy sm fun H2 s2=>⟨vs.length-(i+1),by lia,by lia,rfl,?_,sm.trans s2⟩;rw[hu,Z8 hy]
 ·have e:i=vs.length:=by lia
  refine .inl ⟨⟨vs,sm.seqT hS,by lia⟩,fun D hD=>?_⟩;have e2:us=outs:=by rw[hu,xG (by lia)]
  rw[e2];exact fin H1 D sm hD
end L2
namespace D
open PySem L2
structure Pp(H:Hp)(a:jC)(u:V)(ns us:List V)(rv:V):Prop where
 ex:∃(t:jC)(ts:List jC),H a=some (.tup [u,.ref t,rv])/\H t=some (.tup (ts.map V.ref))/\ts.length=ns.length/\Prs H ns us ts
 len:ns.length=us.length
 few:ns.length<=1000
theorem Prs.mono{H H':Hp}{xs ys:List V}{ts:List jC}(h:Prs H xs ys ts)(s:Same H H'):Prs H' xs ys ts:=fun j t x y a b c=>s _ _ (h j t x y a b c)
theorem Pp.mono{H H':Hp}{a:jC}{u rv:V}{ns us:List V}(h:Pp H a u ns us rv)(s:Same H H'):Pp H' a u ns us rv:=by
 obtain⟨⟨t,ts,e1,e2,e3,e4⟩,l,f⟩:=h;exact⟨⟨t,ts,s _ _ e1,s _ _ e2,e3,Prs.mono e4 s⟩,l,f⟩
end D
namespace L2
open PySem
theorem zcq{fr:List Nat}{te:TE}{σ:St}{H:Hp}{F:jC->Hp->List V->Prop}{n:Int}(Pv:Nat->List V->Hp->Prop)(h0:Pv 0 [] H)(hlen:∀i us H1,Pv i us H1->us.length=i)(hn:n.toNat<=1000000)
  (step:∀(i:Nat)(us:List V)(H1:Hp)(R:VK),i<n.toNat->Pv i us H1->(∀y H2,Pv (i+1) (us++[y]) H2->R y H2)->te (some (.int (0+(i:Int)))::frees fr σ) H1 R)
  (fin:∀(us:List V)(H1:Hp)(D:jC),Pv n.toNat us H1->H1 D=none->F D H1 us):
  ∃W:Nat->Nat->List V->Hp->Prop,(∃m,W 0 m [] H)/\∀i m us H,W i m us H->us.length<=tI /\
   (((Itr 0 n.toNat).stop i H/\∀D,H D=none->F D H us) \/
    ((Itr 0 n.toNat).go i H/\∀v H',(Itr 0 n.toNat).yld i H v H'->if true=true then te (some v::frees fr σ) H' fun y H3=>∃m',m'<m/\W (i+1) m' (us++[y]) H3 else ∃m',m'<m/\W (i+1) m' us H')):=by
 refine⟨fun i m us H1=>i<=n.toNat/\m=n.toNat-i/\Pv i us H1,⟨_,yJ _,rfl,h0⟩,fun i m us H1 hW=>?_⟩;obtain⟨hi,hm,hu⟩:=hW;have hz:(1000000:Nat)<=tI:=by decide
 refine⟨by rw[hlen _ _ _ hu];lia,?_⟩
 by_cases hlt:i<n.toNat
 ·refine .inr ⟨hlt,fun v H' hy=>?_⟩
  obtain⟨rfl,rfl⟩:=hy;refine iteT ?_;exact step i us H' _ hlt hu fun y H2 p2=>⟨n.toNat-(i+1),by lia,by lia,rfl,p2⟩
 ·have e:i=n.toNat:=by lia
  subst e;exact .inl ⟨yG _,fun D hD=>fin us H1 D hu hD⟩
end L2
namespace D
open PySem L2
variable{H:Hp}{v:V}{x y:W}{te ta tb:TE}{σ:St}{s:Str}{i:Nat}{ws:List W}
theorem Step.free{b c:jC}{H':Hp}(x:Step b H H')(hc:c≠b)(e:H' c=none):H c=none:=by
 cases hh:H c with
 |none=>rfl
 |some o=>rw[x.keep c o hc hh] at e;cases e
theorem RW.three{p:jC}{u t:V}{z:W}(e:H p=some (.tup [u,v,t]))(h1:RW H u x)(h2:RW H v y)(h3:RW H t z):RW H (.ref p) (.lst [x,y,z]):=.lst e rfl fun i a b ha hb=>match i,ha,hb with
 |0,ha,hb=>by
  obtain rfl:u=a:=by simpa using ha
  obtain rfl:x=b:=by simpa using hb
  exact h1
 |1,ha,hb=>by
  obtain rfl:v=a:=by simpa using ha
  obtain rfl:y=b:=by simpa using hb
  exact h2
 |2,ha,hb=>by
  obtain rfl:t=a:=by simpa using ha
  obtain rfl:z=b:=by simpa using hb
  exact h3
 |j+3,ha,hb=>by simp at ha
def YW(te:TE)(σ:St)(H:Hp)(w:W):Prop:=∀H1,Same H H1->∀Q:VK,(∀v H2,Same H1 H2->RW H2 v w->Q v H2)->te σ H1 Q
def YA(t:TA)(σ:St)(H:Hp)(ws:List W):Prop:=∀H1,Same H H1->∀Q:List V->Hp->Prop,(∀vs H2,Same H1 H2->RWs H2 vs ws->Q vs H2)->t σ H1 Q
theorem YW.run{w:W}{Q:VK}(h:YW te σ H w)(q:∀v H2,Same H H2->RW H2 v w->Q v H2):te σ H Q:=h H (Sr _) Q q
theorem zbb:YW (tC (.str s)) σ H (.txt s):=fun H1 _ Q q=>q _ _ (Sr _) (.txt s)
theorem zns{i:Int}:YW (tC (.int i)) σ H (.num i):=fun H1 _ Q q=>q _ _ (Sr _) (.num i)
theorem zdK{w:W}(e:σ[i]?=some (some v))(r:RW H v w):YW (tVar i) σ H w:=fun H1 s Q q=>⟨v,e,q _ _ (Sr _) (r.mono (zx s))⟩
theorem zjh:YA tNil σ H []:=fun H1 _ Q q=>q [] _ (Sr _) ⟨rfl,fun i v w h=>by simp at h⟩
theorem zaI{t:TA}{w:W}(h1:YW te σ H w)(h2:YA t σ H ws):YA (zat te t) σ H (w::ws):=fun H1 s Q q=>
 h1 H1 s _ fun v H2 s2 r=>h2 H2 (s.trans s2) _ fun vs H3 s3 rs=>q (v::vs) H3 (s2.trans s3) ⟨by rw[yQ,yQ,rs.len],fun i u x a b=>match i,a,b with
  |0,a,b=>by
   obtain rfl:v=u:=by simpa using a
   obtain rfl:w=x:=by simpa using b
   exact r.mono (zx s3)
  |j+1,a,b=>rs.at' j u x (by simpa using a) (by simpa using b)⟩
theorem zji{t:TA}(h:YA t σ H ws)(hl:decide (ws.length<=1000)=true:=by rfl):YW (tTup t) σ H (.lst ws):=fun H1 s Q q=>
 h H1 s _ fun vs H2 s2 rs=>⟨vC (zan (by rw[rs.len];exact of_decide_eq_true hl)),fun p hp=>by
  have s3:=Sn (o:=.tup vs) hp;exact q _ _ (s2.trans s3) (.lst zj rs.len fun i v w a b=>(rs.at' i v w a b).mono (zx s3))⟩
theorem yw1{w:W}(h:YW te σ H w):YW (tTup (zat (tC (.str s)) (zat te tNil))) σ H (.lst [.txt s,w]):=zji (zaI zbb (zaI h zjh))
theorem yw2{w:W}(h:YW ta σ H w)(h2:YW tb σ H x):YW (tTup (zat (tC (.str s)) (zat ta (zat tb tNil)))) σ H (.lst [.txt s,w,x]):=zji (zaI zbb (zaI h (zaI h2 zjh)))
theorem yw3{tc:TE}{w:W}(h:YW ta σ H w)(h2:YW tb σ H x)(h3:YW tc σ H y):YW (tTup (zat (tC (.str s)) (zat ta (zat tb (zat tc tNil))))) σ H (.lst [.txt s,w,x,y]):=zji (zaI zbb (zaI h (zaI h2 (zaI h3 zjh))))
theorem zaA{K:tT}{j:Nat}{l:jC}{us:List V}{w:W}(e:σ[i]?=some (some (.ref l)))(h:H l=some (.lst us))(hv:us[j]?=some v)(r:RW H v w):YW (tOp (rIxL K) (tVar i) (tC (.int (j:Int)))) σ H w:=fun H1 s Q q=>
 ⟨_,e,l,us,_,v,rfl,rfl,Sl (s _ _ h),zu hv,q _ _ (Sr _) (r.mono (zx s))⟩
theorem RW.ref_tup(h:RW H v (.lst ws)):∃a us,v=.ref a/\H a=some (.tup us)/\RWs H us ws:=by
 obtain⟨a,us,rfl,e,r⟩:=h.tup;exact⟨a,us,rfl,e,r⟩
structure Rq(r:Res):Prop where
 tok:TOk r.toW.toD
 ct:cnt r.toW.toD<=200
mutual
theorem zgN:∀w:W,w.Ok->TOk w.toD
 |.num i,h=>by
  have h:-(10 ^ 60)<i/\i<10 ^ 60:=h;show i.natAbs<big;have:(10:Nat) ^ 60<big:=by decide
  have h2:((10:Int) ^ 60)=((10 ^ 60:Nat):Int):=by decide
  lia
 |.txt x,h=>⟨yM h.1 (by decide),fun c hc=>by have:=h.2 c hc;lia⟩
 |.lst ws,h=>oks_toks ws h.2
theorem oks_toks:∀ws:List W,Oks ws->TOks (toDs ws)
 |[],_=>trivial
 |w::r,h=>⟨zgN w h.1,oks_toks r h.2⟩
end
mutual
theorem zey:∀w:W,(cnt w.toD:Int)<=w.size
 |.num i=>by simp only[W.toD,cnt,W.size];lia
 |.txt x=>by simp only[W.toD,cnt,W.size];lia
 |.lst ws=>by
  have:=cnts_sizes ws;simp only[W.toD,cnt,W.size];lia
theorem cnts_sizes:∀ws:List W,(cnts (toDs ws):Int)<=sizes ws
 |[]=>by simp only[toDs,cnts,sizes];lia
 |w::r=>by
  have h1:=zey w;have h2:=cnts_sizes r;simp only[toDs,cnts,sizes];lia
end
theorem zjj(h:s.length<=400/\∀c∈s.cps.toList,c<200):TOk (.str s):=h
theorem zmj(h:x.Ok)(s:x.size<=100):Rq (.made x):=by
 have:=zey x;refine⟨⟨zjj (by decide),zgN x h,trivial⟩,?_⟩;simp only[Res.toW,W.toD,toDs,cnt,cnts];lia
theorem zkr{c:Str}(oc:(W.txt c).Ok)(h:x.Ok)(s:x.size<=100):Rq (.wrong [.txt c,x]):=by
 have:=zey x;refine⟨⟨zjj (by decide),zgN _ oc,zgN x h,trivial⟩,?_⟩;simp only[Res.toW,W.toD,toDs,cnt,cnts];lia
inductive spOut(vs:List V)(H:Hp)(Q:VK)(z3:XK):Prop
 |mk (b:jC) (_:vs=[.ref b]) (_:IsBox H b) (_:∀(v:V)(r:Res)(H':Hp),RW H' v r.toW->ROk r->r≠.stop->Rq r->Step b H H'->Q v H')
def NmOk(names:List Str):Prop:=names≠[]/\names.length<=15/\∀z∈names,1<=z.length/\z.length<=30/\Signs z
structure Rok(x:Ex)(m k:Nat):Prop where
 wf:∀sc,Wf x sc
 hi:x.high<=m/\x.lks<=k
inductive spNamed(vs:List V)(H:Hp)(Q:VK)(z3:XK):Prop
 |mk (b l:jC) (names:List Str) (_:vs=[.ref b,.ref l]) (_:IsBox H b) (_:H l=some (.lst (names.map V.str))) (_:l≠b) (_:NmOk names) (_:∀(v:V)(x:Ex)(H':Hp),RW H' v x.toW->Rok x 2 0->Step b H H'->Q v H')
theorem zcr{names:List Str}{n:Int}(n0:0<=n)(n1:n<names.length):∃z∈names,atI (names.map V.str) n=some (.str z):=by
 have hi:n.toNat<names.length:=by lia
 refine⟨names[n.toNat],xD hi,?_⟩;have:=zu (xs:=names.map V.str) (j:=n.toNat) (v:=.str names[n.toNat]) (by rw[yE,yA hi];rfl);rw[show ((n.toNat:Nat):Int)=n by lia] at this;exact this
theorem zgO{z:Str}(h:z.length<=400)(s:Signs z):Gd (.txt z):=⟨⟨h,s⟩,yJ _⟩
theorem zc8:FnScope ["_law_box_here","_law_kind"] ["_law_box_here"] (zq zbY):=mkSc rfl (by decide +kernel)
theorem zge(F:Fun K "_law_outcome" "_law_outcome" zbY f fd)(G_lworth:Have P w K mg base "_law_worth" k qL10 (spWorth 13))(G_ltext:Have P w K mg base "_law_text" k qL9 (spText))(G_ltake:Have P w K mg base "_law_take" k qL2 (spTake)):qF P w K mg base k f fd qL7 (spOut):=by
 refine F.okQ zc8 (by rintro _ _ _ _ ⟨_,rfl,_⟩;rfl) fun _ _ _ _ H vs Q E hr h=>?_;obtain⟨b,rfl,hb,q⟩:=h;refine⟨_,(zm (zC (i:=1) zc8.nd rfl (Or.inl rfl) (zy G_ltake hr rfl (zc (pv 0) (zc zn zi))))
  (zm (zN (zE zfz (pv 1) zn (nomark _)) (zo (zt (zG (zc zr (zc (zy G_lworth hr rfl (zc (pv 0) (zc zn (zc zn zi)))) zi))))) zA)
  (zm (zN (zE zX (pv 1) zn (nomark _)) (zo (zt (zG (zc zr (zc (zF zD (zO (zc zr (zc zr (zc zr (zc zr zi))))) (zy G_ltake hr rfl (zc (pv 0) (zc zn zi))) (fun _ _=>rfl)) (zc zr zi)))))) zA)
  (zm (zN (zE zX (pv 1) zn (nomark _)) (zo (zt (zG (zc zr (zc (zF zD (zO (zc zr (zc zr zi))) (zy G_ltake hr rfl (zc (pv 0) (zc zn zi))) (fun _ _=>rfl)) (zc (zy G_ltext hr rfl (zc (pv 0) (zc zn zi))) zi)))))) zA)
  (zo (zt (zG (zc zr (zc zr (zc (zy G_lworth hr rfl (zc (pv 0) (zc zn (zc zn zi)))) zi)))))))))),nm5 ?_⟩
 intros;refine⟨_,rfl,b,8,rfl,hb,by decide,by decide,fun kd H1 k0 k1 st1=>?_⟩;have wr:∀(p:jC)(c:Str)(t:V)(y:W)(H2:Hp)(hp:H2 p=none),Step b H H2->RW H2 t y->(W.txt c).Ok->y.Ok->y.depth<=12->y.size<=100->Q (.ref p) (upd H2 p (.tup [.str "wrong",.str c,t])):=fun p c t y H2 hp st rt oc oy dy sy=>by
  have s3:=Sn (o:=.tup [.str "wrong",.str c,t]) hp;exact q _ (.wrong [.txt c,y]) _ (RW.three zj (.txt _) (.txt _) (rt.mono (zx s3))) ⟨c,y,rfl,zd9 _ oc,zd9 _ oy,dy⟩ (fun z=>nomatch z) (zkr oc oy sy) (st.trans (Step.ofSame st.box s3))
 refine⟨_,rfl,_,_,rfl,rfl,_,rfl,ite2 (fun _=>?_) (fun c4=>?_)⟩
 ·refine⟨_,rfl,b,6,3,rfl,st1.box,by decide,by decide,by decide,by decide,fun v x H2 rx okx dx sx st2=>⟨zl2,fun p hp=>?_⟩⟩
  have s3:=Sn (o:=.tup [.str "made",v]) hp;have st:=st1.trans st2;exact q _ (.made x) _ (RW.pair zj (.txt _) (rx.mono (zx s3))) ⟨okx,by lia⟩ (fun z=>nomatch z) (zmj okx (by lia)) (st.trans (Step.ofSame st.box s3))
 refine⟨_,rfl,rfl,_,rfl,ite2 (fun _=>?_) (fun c5=>?_)⟩
 ·refine⟨zl4,fun l hl=>?_⟩
  have st2:=st1.trans (Step.new (o:=.lst [.str "kind",.str "great",.str "nought",.str "place"]) st1.box hl);have el:upd H1 l (.lst [.str "kind",.str "great",.str "nought",.str "place"]) l=some (.lst [.str "kind",.str "great",.str "nought",.str "place"]):=zj;have nlb:l≠b:=IsBox.ne st1.box hl;generalize upd H1 l (.lst [.str "kind",.str "great",.str "nought",.str "place"])=H2 at st2 el;refine⟨_,rfl,b,4,rfl,st2.box,by decide,by decide,fun m H3 m0 m1 st3=>?_⟩;have el3:=st3.keep l _ nlb el;have st:=st2.trans st3;have hm:m=0\/m=1\/m=2\/m=3:=by lia
  rcases hm with rfl|rfl|rfl|rfl
  ·exact⟨l,_,0,.str "kind",rfl,rfl,Sl el3,zu (j:=0) rfl,zl3,fun p hp=>wr p "kind" (.str "") (.txt "") H3 hp st (.txt _) (ZR (by decide) (by decide)) (ZR (by decide) (by decide)) (yJ _) (by decide)⟩
  ·exact⟨l,_,1,.str "great",rfl,rfl,Sl el3,zu (j:=1) rfl,zl3,fun p hp=>wr p "great" (.str "") (.txt "") H3 hp st (.txt _) (ZR (by decide) (by decide)) (ZR (by decide) (by decide)) (yJ _) (by decide)⟩
  ·exact⟨l,_,2,.str "nought",rfl,rfl,Sl el3,zu (j:=2) rfl,zl3,fun p hp=>wr p "nought" (.str "") (.txt "") H3 hp st (.txt _) (ZR (by decide) (by decide)) (ZR (by decide) (by decide)) (yJ _) (by decide)⟩
  ·exact⟨l,_,3,.str "place",rfl,rfl,Sl el3,zu (j:=3) rfl,zl3,fun p hp=>wr p "place" (.str "") (.txt "") H3 hp st (.txt _) (ZR (by decide) (by decide)) (ZR (by decide) (by decide)) (yJ _) (by decide)⟩
 refine⟨_,rfl,rfl,_,rfl,ite2 (fun _=>?_) (fun _=>?_)⟩
 ·refine⟨zl2,fun l hl=>?_⟩
  have st2:=st1.trans (Step.new (o:=.lst [.str "none",.str "shut"]) st1.box hl);have el:upd H1 l (.lst [.str "none",.str "shut"]) l=some (.lst [.str "none",.str "shut"]):=zj;have nlb:l≠b:=IsBox.ne st1.box hl;generalize upd H1 l (.lst [.str "none",.str "shut"])=H2 at st2 el;refine⟨_,rfl,b,2,rfl,st2.box,by decide,by decide,fun m H3 m0 m1 st3=>?_⟩;have el3:=st3.keep l _ nlb el;have st:=st2.trans st3;have hm:m=0\/m=1:=by lia
  rcases hm with rfl|rfl
  ·refine⟨l,_,0,.str "none",rfl,rfl,Sl el3,zu (j:=0) rfl,_,rfl,b,15,rfl,st.box,by decide,by decide,fun x H4 hx sx st4=>⟨zl3,fun p hp=>?_⟩⟩
   exact wr p "none" (.str x) (.txt x) H4 hp (st.trans st4) (.txt x) (ZR (by decide) (by decide)) (ZR (by lia) sx) (yJ _) (by show (1:Int)+(x.length:Int)<=100;lia)
  ·refine⟨l,_,1,.str "shut",rfl,rfl,Sl el3,zu (j:=1) rfl,_,rfl,b,15,rfl,st.box,by decide,by decide,fun x H4 hx sx st4=>⟨zl3,fun p hp=>?_⟩⟩
   exact wr p "shut" (.str x) (.txt x) H4 hp (st.trans st4) (.txt x) (ZR (by decide) (by decide)) (ZR (by lia) sx) (yJ _) (by show (1:Int)+(x.length:Int)<=100;lia)
 ·refine⟨_,rfl,b,6,3,rfl,st1.box,by decide,by decide,by decide,by decide,fun v x H2 rx okx dx sx st2=>⟨zl3,fun p hp=>?_⟩⟩
  exact wr p "cried" v x H2 hp (st1.trans st2) rx (ZR (by decide) (by decide)) okx (by lia) (by lia)
theorem zc9:FnScope ["_law_box_here","_law_names_here","_law_name","_law_spot"] ["_law_box_here","_law_names_here"] (zq zd2):=mkSc rfl (by decide +kernel)
theorem zjk(F:Fun K "_law_named" "_law_named" zd2 f fd)(G_ltake:Have P w K mg base "_law_take" k qL2 (spTake))(m_len:mg "len"=none):qF P w K mg base k f fd qL6 (spNamed):=by
 refine F.okQ zc9 (by rintro _ _ _ _ ⟨_,_,_,rfl,_⟩;rfl) fun _ _ _ _ H vs Q E hr h=>?_;obtain⟨b,l,names,rfl,hb,hl,hlb,hnm,q⟩:=h;obtain⟨hne,hn4,hz⟩:=hnm;have hpos:0<names.length:=xU.mpr hne;refine⟨_,(zm (zC (i:=2) zc9.nd rfl (Or.inl rfl) (zF zD (pv 1) (zy G_ltake hr rfl (zc (pv 0) (zc (zw zL rfl m_len tG (zc (pv 1) zi)) zi))) (fun _ _=>rfl)))
  (zm (zC (i:=3) zc9.nd rfl (Or.inl rfl) (zy G_ltake hr rfl (zc (pv 0) (zc (zJ za5 zn (zw zL rfl m_len tG (zc (pv 2) zi))) zi))))
  (zm (zN (zE zfz (pv 3) (zw zL rfl m_len tG (zc (pv 2) zi)) (nomark _)) (zo (zt (zG (zc zr (zc (zG (zc zr (zc (Zr zfP (pv 2) ZX (ZF (pv 3))) zi))) (zc (zG (zc zr (zc (Zr zfP (pv 2) (ZF (pv 3)) ZX) zi))) zi)))))) zA)
  (zo (zt (zG (zc zr (zc (pv 2) zi)))))))),nm4 ?_⟩
 intros;refine⟨_,rfl,_,rfl,_,rfl,_,_,rfl,.inl ⟨_,Sl hl,rfl⟩,b,_,rfl,hb,by rw[yB];lia,by rw[yB];lia,fun n H1 n0 n1 st1=>?_⟩;rw[yB] at n1;obtain⟨z,hzm,hat⟩:=zcr n0 n1;obtain⟨z1,z10,zs⟩:=hz z hzm;refine⟨l,_,n,_,rfl,rfl,Sl (st1.keep l _ hlb hl),hat,?_⟩;dsimp only[zW];have h61:(10:Int) ^ 61 > 1000:=by decide
 refine⟨_,rfl,_,rfl,_,z.length,rfl,⟨small (by lia),rfl⟩,3,z.length,rfl,rfl,.inl ⟨by decide,by decide⟩,b,3*(z.length:Int),rfl,st1.box,by lia,by lia,fun m H2 m0 m1 st2=>?_⟩;have st:=st1.trans st2;refine⟨_,rfl,_,rfl,_,z.length,rfl,⟨small (by lia),rfl⟩,_,_,rfl,rfl,_,rfl,ite2 (fun _=>?_) (fun _=>?_)⟩
 ·refine⟨_,rfl,_,rfl,_,rfl,z,rfl,by lia,fun r1 h1 g1=>⟨zl2,fun p1 hp1=>?_⟩⟩
  have s1:=Sn (o:=.tup [.str "lit",.str r1]) hp1;refine⟨_,rfl,_,rfl,_,rfl,z,rfl,by lia,fun r2 h2 g2=>⟨zl2,fun p2 hp2=>⟨zl3,fun p3 hp3=>?_⟩⟩⟩;have s2:=Sn (o:=.tup [.str "lit",.str r2]) hp2;have s3:=Sn (o:=.tup [.str "join",.ref p1,.ref p2]) hp3;have d1:Signs r1:=fun c hc=>zs c (g1 c hc);have d2:Signs r2:=fun c hc=>zs c (g2 c hc);refine q _ (.reck .join [.lit (.txt r1),.lit (.txt r2)]) _ ?_ ⟨fun sc=>?_,?_⟩ (st.trans (Step.ofSame' st.box ((s1.trans s2).trans s3)))
  ·rw[Ex.toW,exWs,exWs,exWs,Ex.toW,Ex.toW]
   exact RW.three zj (.txt _) (RW.pair ((s2.trans s3) _ _ zj) (.txt _) (.txt _)) (RW.pair (s3 _ _ zj) (.txt _) (.txt _))
  ·rw[Wf,Wfs,Wfs,Wfs,Wf,Wf]
   exact⟨by show 2<=8;decide,rfl,zgO (by lia) d1,zgO (by lia) d2,trivial⟩
  ·rw[Ex.high,highs,highs,highs,Ex.high,Ex.high,Ex.lks,lkss,lkss,lkss,Ex.lks,Ex.lks];decide
 ·refine⟨_,rfl,zl2,fun p1 hp1=>?_⟩
  have s1:=Sn (o:=.tup [.str "lit",.str z]) hp1;refine q _ (.lit (.txt z)) _ ?_ ⟨fun sc=>?_,?_⟩ (st.trans (Step.ofSame' st.box s1))
  ·rw[Ex.toW]
   exact RW.pair zj (.txt _) (.txt _)
  ·rw[Wf]
   exact zgO (by lia) zs
  ·rw[Ex.high,Ex.lks];decide
variable{x:Ex}{X:List Ex}
inductive spSound(vs:List V)(H:Hp)(Q:VK)(z3:XK):Prop
 |mk (b l:jC) (names:List Str) (_:vs=[.ref b,.ref l]) (_:IsBox H b) (_:H l=some (.lst (names.map V.str))) (_:l≠b) (_:NmOk names) (_:∀(v:V)(x:Ex)(H':Hp),RW H' v x.toW->Rok x 6 11->Step b H H'->Q v H')
theorem gd2:Gd (.num 2):=⟨⟨by decide,by decide⟩,yJ _⟩
def zmk(K:tT)(xs:List V)(H:Hp)(Q:VK):Prop:=∃x n,xs=[x]/\LenV K x H n/\Q (.int n) H
noncomputable def lk(x:Ex):W:=(Ex.lookE x).toW
theorem zks(h:Rok x 2 0)(sc:List Str):Wf (.lookE x) sc:=by rw[Wf];exact h.wf sc
theorem zkt(h:Rok x 2 0):(Ex.lookE x).high<=3/\(Ex.lookE x).lks<=1:=by rw[Ex.high,Ex.lks];have:=h.hi;lia
theorem znt(x:W):(Ex.lit x).high=1/\(Ex.lit x).lks=0:=by rw[Ex.high,Ex.lks];exact⟨rfl,rfl⟩
theorem znu{x:W}(h:Gd x)(sc:List Str):Wf (.lit x) sc:=by rw[Wf];exact h
theorem znv:∀X:List Ex,exWs (X.map .lookE)=X.map lk
 |[]=>by rw[wT,exWs];rfl
 |x::X=>by rw[yW,exWs,znv X];rfl
theorem znw(h:∀x∈X,Rok x 2 0)(sc:List Str):Wfs (X.map .lookE) sc:=by
 induction X with
 |nil=>rw[wT,Wfs];trivial
 |cons x X ih=>
  rw[yW,Wfs];exact⟨zks (h x yS) sc,ih fun y hy=>h y (yL _ hy)⟩
theorem znx(h:∀x∈X,Rok x 2 0):highs (X.map .lookE)<=3/\lkss (X.map .lookE)<=X.length:=by
 induction X with
 |nil=>rw[wT,highs,lkss];exact⟨yJ _,yJ _⟩
 |cons x X ih=>
  rw[yW,highs,lkss,yQ];have h1:=zkt (h x yS);have h2:=ih fun y hy=>h y (yL _ hy);lia
theorem zjl{ss:List Str}(hl:ss.length<=60)(h:∀z∈ss,z.length<=400/\Signs z):Gd (.lst (ss.map W.txt)):=by
 have o:Oks (ss.map W.txt)/\depths (ss.map W.txt)=0:=by
  clear hl
  induction ss with
  |nil=>exact⟨trivial,rfl⟩
  |cons x r ih=>
   obtain⟨i1,i2⟩:=ih fun z hz=>h z (yL _ hz);refine⟨⟨h x yS,i1⟩,?_⟩;rw[yW,depths,i2,W.depth];rfl
 refine⟨⟨by rw[yB];exact hl,o.1⟩,?_⟩;show 1+depths (ss.map W.txt)<=12;lia
theorem zaB:FnScope ["_law_box_here","_law_names_here","_law_looks","_law_plain_one","_law_turn","_law_some","_law_name"] ["_law_box_here","_law_names_here"] (zq zd3):=mkSc rfl (by decide +kernel)
theorem zjm(F:Fun K "_law_sound" "_law_sound" zd3 f fd)(G_ltake:Have P w K mg base "_law_take" k qL2 (spTake))(G_lworth:Have P w K mg base "_law_worth" k qL10 (spWorth 13))(G_lnamed:Have P w K mg base "_law_named" k qL6 (spNamed))(m_len:mg "len"=none)(m_range:mg "range"=none)(m_tuple:mg "tuple"=none):qF P w K mg base k f fd qL6 (spSound):=by
 refine F.okQ zaB (by rintro _ _ _ _ ⟨_,_,_,rfl,_⟩;rfl) fun _ _ _ _ H vs Q E hr h=>?_;obtain⟨b,l,names,rfl,hb,hl,hlb,hnm,q⟩:=h;have hpos:0<names.length:=xU.mpr hnm.1;have hn4:=hnm.2.1;refine⟨_,(zm (zN (zE (zdx (yZ (yY _ 64) hr.units)) (pv 1) (zO zi) (nomark _)) (zo (zt (zG (zc zr (zc (zy G_lworth hr rfl (zc (pv 0) (zc zn (zc zn zi)))) zi))))) zA)
  (zm (zdT (i:=2) [0,1] ["_law_box_here","_law_names_here"] rfl rfl (by decide) rfl (by decide) rfl (by decide) ⟨rfl,rfl,trivial⟩ rfl ⟨⟨rfl,rfl,Or.inr (Or.inl rfl),(by show (some NameKind.cell:Option NameKind)≠some .local;decide),⟨_,rfl⟩⟩,⟨rfl,rfl,Or.inr (Or.inl rfl),(by show (some NameKind.cell:Option NameKind)≠some .local;decide),⟨_,rfl⟩⟩,trivial⟩ (Zc rfl m_range (zc zn zi)) (fun C s H fp=>⟨Zd,(zG (zc zr (zc (zy G_lnamed hr rfl (zc (pv 1) (zc (pv 2) zi))) zi)))⟩) zaB.nd rfl (Or.inl rfl))
  (zm (zC (i:=3) zaB.nd rfl (Or.inl rfl) (zG (zc zr (zc (zy G_lworth hr rfl (zc (pv 0) (zc zn (zc zn zi)))) zi))))
  (zm (zC (i:=4) zaB.nd rfl (Or.inl rfl) (zy G_ltake hr rfl (zc (pv 0) (zc zn zi))))
  (zm (zN (zE zX (pv 4) zn (nomark _)) (zo (zt (zF zD (pv 2) zn (fun _ _=>rfl)))) zA)
  (zm (zN (zE zX (pv 4) zn (nomark _)) (zo (zt (zG (zc zr (zc (zG (zc zr (zc (zF zD (pv 2) zn (fun _ _=>rfl)) (zc (zF zD (pv 2) zn (fun _ _=>rfl)) zi)))) (zc (pv 3) zi)))))) zA)
  (zm (zN (zE zX (pv 4) zn (nomark _)) (zo (zt (zJ zbR (zG (zc zr zi)) (zI zP rfl m_tuple zM (zc (Zr zbf (pv 2) ZX (ZF (zy G_ltake hr rfl (zc (pv 0) (zc zn zi))))) zi))))) zA)
  (zm (zN (zE zX (pv 4) zn (nomark _)) (zo (zt (zG (zc zr (zc (zF zD (pv 2) zn (fun _ _=>rfl)) (zc (zF zD (pv 2) zn (fun _ _=>rfl)) (zc (zF zD (pv 2) zn (fun _ _=>rfl)) zi))))))) zA)
  (zm (zN (zE zX (pv 4) zn (nomark _)) (zm (zC (i:=5) zaB.nd rfl (Or.inl rfl) (zI zP rfl m_tuple zM (zc (Zj [1,0] ["_law_names_here","_law_box_here"] rfl rfl (by decide) rfl (by decide) rfl (by decide) ⟨rfl,rfl,trivial⟩ rfl ⟨⟨rfl,rfl,Or.inr (Or.inl rfl),(by show (some NameKind.cell:Option NameKind)≠some .local;decide),⟨_,rfl⟩⟩,⟨rfl,rfl,Or.inr (Or.inl rfl),(by show (some NameKind.cell:Option NameKind)≠some .local;decide),⟨_,rfl⟩⟩,trivial⟩ (Zc rfl m_range (zc (zy G_ltake hr rfl (zc (pv 0) (zc zn zi))) zi)) (fun C s H fp=>⟨Zd,(zF (show IxR _ (rIxL K) from zD) (pv 1) (zy G_ltake hr rfl (zc (pv 2) (zc (zw (show zas _ (.builtin "len") (zmk K) from zL) rfl m_len tG (zc (pv 1) zi)) zi))) (fun _ _=>rfl))⟩)) zi)))
  (zo (zt (zG (zc zr (zc zr (zc (zG (zc zr (zc (pv 5) zi))) (zc (zG (zc zr (zc (zG (zc zr (zc (zG (zc zr (zc zr zi))) zi))) (zc (pv 3) zi)))) zi)))))))) zA)
  (zm (zN (zE zX (pv 4) zn (nomark _)) (zm (zC (i:=6) zaB.nd rfl (Or.inl rfl) (zF zD (pv 1) (zy G_ltake hr rfl (zc (pv 0) (zc (zw zL rfl m_len tG (zc (pv 1) zi)) zi))) (fun _ _=>rfl)))
  (zo (zt (zG (zc zr (zc (zG (zc zr (zc (zG (zc zr (zc (Zr zfP (pv 6) ZX (ZF (zca za6 zn))) zi))) (zc (zG (zc zr (zc (zF zD (pv 2) zn (fun _ _=>rfl)) zi))) zi)))) zi)))))) zA)
  (zm (zN (zE zX (pv 4) zn (nomark _)) (zo (zt (zG (zc zr (zc (zG (zc zr (zc (zF zD (pv 2) zn (fun _ _=>rfl)) (zc (zG (zc zr (zc (zF zD (pv 2) zn (fun _ _=>rfl)) zi))) (zc (zF zD (pv 2) zn (fun _ _=>rfl)) zi))))) (zc (zG (zc zr (zc (zF zD (pv 2) zn (fun _ _=>rfl)) (zc (pv 3) zi)))) zi)))))) zA)
  (zm (zN (zE zX (pv 4) zn (nomark _)) (zo (zt (zG (zc zr (zc zr (zc (zG (zc zr (zc (zF zD (pv 2) zn (fun _ _=>rfl)) (zc (zG (zc zr (zc zn zi))) zi)))) (zc (zG (zc zr (zc (zG (zc zr (zc (zG (zc zr (zc zr zi))) (zc (zF zD (pv 2) zn (fun _ _=>rfl)) zi)))) (zc (zG (zc zr (zc zr zi))) zi)))) zi))))))) zA)
  (zo (zt (zG (zc (zF zD (zO (zc zr (zc zr (zc zr (zc zr zi))))) (zy G_ltake hr rfl (zc (pv 0) (zc zn zi))) (fun _ _=>rfl)) (zc (zF zD (pv 2) zn (fun _ _=>rfl)) (zc (zG (zc zr (zc (zy G_ltake hr rfl (zc (pv 0) (zc zn zi))) zi))) zi)))))))))))))))))),?_⟩
 refine⟨_,rfl,zl0,fun e0 he0=>?_⟩;have s0:=Sn (o:=.lst []) he0;have st0:=Step.ofSame' hb s0;refine⟨l,e0,names.map V.str,rfl,rfl,Sl (s0 _ _ hl),Sl zj,_,rfl,?_⟩;have e1:(names.map V.str).isEmpty=false:=by
  cases names with
  |nil=>exact absurd rfl hnm.1
  |cons x r=>rfl
 rw[e1];have hl0:=s0 _ _ hl;generalize upd H e0 (.lst [])=H0 at s0 st0 hl0;refine iteF ⟨3,rfl,by lia,by lia,zcq (n:=3) (fun i us H'=>∃xs:List Ex,xs.length=i/\RWs H' us (xs.map lk)/\(∀x∈xs,Rok x 2 0)/\Step b H H') ⟨[],rfl,⟨rfl,fun i v w e=>by simp at e⟩,(fun s h=>nomatch h),st0⟩ (fun i us H' h=>?_) (by decide) (fun i us H' R hi h r=>?_) (fun us H1 D h hD=>?_)⟩
 ·obtain⟨xs,hxl,hw,_⟩:=h
  rw[hw.len,yB];exact hxl
 ·obtain⟨xs,hxl,hw,hok,st⟩:=h
  refine⟨_,rfl,_,rfl,b,l,names,rfl,st.box,st.keep _ _ hlb hl,hlb,hnm,fun v x H3 rv rok st4=>⟨zl2,fun p hp=>?_⟩⟩;have s5:=Sn (o:=.tup [.str "look",v]) hp;have st5:=(st.trans st4).trans (Step.ofSame' st4.box s5);refine r _ _ ⟨xs++[x],by rw[yD,hxl];rfl,?_,fun y hy=>?_,st5⟩
  ·rw[xK]
   refine (hw.mono (fun a vs e=>s5 _ _ (st4.tups st.box a vs e))).snoc ?_;show RW _ _ (lk x);unfold lk;rw[Ex.toW];exact RW.pair zj (.txt _) (rv.mono (zx s5))
  ·rcases yT.mp hy with hy|hy
   ·exact hok y hy
   ·rw[yI.mp hy];exact rok
 obtain⟨xs,hxl,hw1,hok,st1⟩:=h;have t1:=Sn (o:=.lst us) hD;have eD:upd H1 D (.lst us) D=some (.lst us):=zj;have st2:=st1.trans (Step.ofSame' st1.box t1);have nDb:D≠b:=IsBox.ne st1.box hD;have hw2:=hw1.mono (zx t1);generalize upd H1 D (.lst us)=H2 at eD st2 hw2;dsimp only[zW];refine⟨_,rfl,b,6,3,rfl,st2.box,by decide,by decide,by decide,by decide,fun vw pw H3 rx okx dx sx st3=>⟨zl2,fun pp hpp=>?_⟩⟩;have t3:=Sn (o:=.tup [.str "lit",vw]) hpp;have rP:RW (upd H3 pp (.tup [.str "lit",vw])) (.ref pp) (.lst [.txt "lit",pw]):=RW.pair zj (.txt _) (rx.mono (zx t3));have gP:Gd pw:=⟨okx,by lia⟩;have st4:=(st2.trans st3).trans (Step.ofSame' st3.box t3);have eD4:=t3 _ _ (st3.keep _ _ nDb eD);have hw4:=hw2.mono (fun a vs e=>t3 _ _ (st3.tups st2.box a vs e));generalize upd H3 pp (.tup [.str "lit",vw])=H4 at rP st4 eD4 hw4;refine⟨_,rfl,b,9,rfl,st4.box,by decide,by decide,fun t H5 t0 t1 st5=>?_⟩;have stA:=st4.trans st5;have eD5:=st5.keep _ _ nDb eD4;have hw5:=hw4.mono (st5.tups st4.box);have rP5:=rP.mono (st5.tups st4.box);have hl5:=stA.keep _ _ hlb hl;obtain⟨x0,x1,x2,rfl⟩:∃a b c,xs=[a,b,c]:=match xs,hxl with|[a,b,c],_=>⟨a,b,c,rfl⟩
 obtain⟨v0,us,rfl,r0,hw5⟩:=hw5.cons;obtain⟨v1,us,rfl,r1,hw5⟩:=hw5.cons;obtain⟨v2,us,rfl,r2,hw5⟩:=hw5.cons;obtain rfl:=hw5.nil';have k0:=hok x0 (by simp);have k1:=hok x1 (by simp);have k2:=hok x2 (by simp);clear hok hw4 rP hw2 hw1 eD4 eD st5 st4 st3 st2 st1 t3 rx;have fin:∀(X:Ex){te:TE}{σ:St}{w:W},YW te σ H5 w->w=X.toW->Rok X 6 11->te σ H5 Q:=fun X te σ w hy hw rk=>hy.run fun v H6 s6 r6=>q v X H6 (by rw[←hw];exact r6) rk (stA.trans (Step.ofSame' stA.box s6));have w0:=zks k0;have w1:=zks k1;have w2:=zks k2;have g0:=zkt k0;have g1:=zkt k1;have g2:=zkt k2;have gp:=znt pw;have wp:=znu gP;refine⟨_,rfl,rfl,_,rfl,ite2 (fun _=>?_) (fun _=>?_)⟩
 ·exact fin (.lookE x0) (zaA (j:=0) rfl eD5 rfl r0) rfl ⟨w0,by lia⟩
 refine⟨_,rfl,rfl,_,rfl,ite2 (fun _=>?_) (fun _=>?_)⟩
 ·exact fin (.elseE (.reck .add [.lookE x0,.lookE x1]) (.lit pw)) (yw2 (yw2 (zaA (j:=0) rfl eD5 rfl r0) (zaA (j:=1) rfl eD5 rfl r1)) (zdK rfl rP5)) (by simp only[Ex.toW,exWs,wdS,lk]) ⟨fun sc=>by simp only[Wf,Wfs];exact⟨⟨by show 2<=8;decide,rfl,w0 sc,w1 sc,trivial⟩,wp sc⟩,by simp only[Ex.high,highs,Ex.lks,lkss] at *;lia⟩
 refine⟨_,rfl,rfl,_,rfl,ite2 (fun _=>?_) (fun _=>?_)⟩
 ·refine⟨zl1,fun pT hpT=>?_⟩
  have t6:=Sn (o:=.tup [.str "list"]) hpT;have eT:upd H5 pT (.tup [.str "list"]) pT=some (.tup [.str "list"]):=zj;have nTb:pT≠b:=IsBox.ne stA.box hpT;have st6:=Step.ofSame' stA.box t6;generalize upd H5 pT (.tup [.str "list"])=H6 at t6 eT st6;refine⟨_,rfl,_,rfl,b,4,rfl,st6.box,by decide,by decide,fun m H7 m0 m1 st7=>⟨m,rfl,?_⟩⟩;have hw7:∀{v:V}{w:W},RW H5 v w->RW H7 v w:=fun r=>r.mono (fun a vs e=>st7.tups st6.box a vs (t6 _ _ e));obtain⟨X,hX,hXl,hXr⟩:∃X:List Ex,RWs H7 (cutV [v0,v1,v2] none (some m)) (X.map lk)/\X.length<=3/\∀x∈X,Rok x 2 0:=by
   have nn:RWs H7 [] []:=⟨rfl,fun i v w e=>by simp at e⟩;have hm:m=0\/m=1\/m=2\/m=3:=by lia
   rcases hm with rfl|rfl|rfl|rfl
   ·exact⟨[],nn,by decide,fun x h=>nomatch h⟩
   ·exact⟨[x0],nn.snoc (hw7 r0),by show 1<=3;decide,fun x h=>by rw[yI.mp h];exact k0⟩
   ·exact⟨[x0,x1],(nn.snoc (hw7 r0)).snoc (hw7 r1),by show 2<=3;decide,fun x h=>by simp at h;rcases h with rfl|rfl;exact k0;exact k1⟩
   ·exact⟨[x0,x1,x2],((nn.snoc (hw7 r0)).snoc (hw7 r1)).snoc (hw7 r2),by show 3<=3;decide,fun x h=>by simp at h;rcases h with rfl|rfl|rfl;exact k0;exact k1;exact k2⟩
  have eD7:=st7.keep _ _ nDb (t6 _ _ eD5);have eT7:=st7.keep _ _ nTb eT;have stB:=(stA.trans st6).trans st7;have hcl:(cutV [v0,v1,v2] none (some m)).length<=3:=by rw[hX.len,yB];exact hXl
  have rokX:Rok (.reck .list (X.map .lookE)) 6 11:=⟨fun sc=>by rw[Wf,yB];exact⟨by lia,trivial,znw hXr sc⟩,by rw[Ex.high,Ex.lks];have:=znx hXr;lia⟩;have eX:(Ex.reck .list (X.map .lookE)).toW=.lst (.txt "list"::X.map lk):=by rw[Ex.toW,znv];rfl
  refine⟨D,_,rfl,Sl eD7,fun ps hps=>⟨ps,_,rfl,.inl ⟨Sl zj,fun pt hpt=>?_⟩⟩⟩;have s8:=Sn (o:=.lst (cutV [v0,v1,v2] none (some m))) hps;have s9:=Sn (o:=.tup (cutV [v0,v1,v2] none (some m))) hpt;have s89:=s8.trans s9;refine⟨pT,pt,_,_,rfl,rfl,Sq (s89 _ _ eT7),Sq zj,by simp,?_,fun hn=>?_,fun hn p hp=>?_⟩
  ·exact yM (show 1+(cutV [v0,v1,v2] none (some m)).length<=4 by lia) (by decide)
  ·have hX0:X=[]:=by
    have:=hX.len;rw[hn,yB] at this;exact xI.mp this.symm
   subst hX0;refine q _ _ _ ?_ rokX (stB.trans (Step.ofSame' stB.box s89));rw[eX];exact .lst (s89 _ _ eT7) rfl fun i v w hv hw=>match i,hv,hw with
    |0,hv,hw=>by
     obtain rfl:V.str "list"=v:=by simpa using hv
     obtain rfl:W.txt "list"=w:=by simpa using hw
     exact .txt _
    |j+1,hv,hw=>by simp at hv
  ·have s10:=Sn (o:=.tup ([V.str "list"]++cutV [v0,v1,v2] none (some m))) hp
   refine q _ _ _ ?_ rokX (stB.trans (Step.ofSame' stB.box (s89.trans s10)));rw[eX];refine .lst zj (by simp[hX.len]) fun i v w hv hw=>?_
   match i,hv,hw with
   |0,hv,hw=>
    obtain rfl:V.str "list"=v:=by simpa using hv
    obtain rfl:W.txt "list"=w:=by simpa using hw
    exact .txt _
   |j+1,hv,hw=>exact (hX.at' j v w (by simpa using hv) (by simpa using hw)).mono (zx (s89.trans s10))
 refine⟨_,rfl,rfl,_,rfl,ite2 (fun _=>?_) (fun _=>?_)⟩
 ·exact fin (.ifE (.lookE x0) (.lookE x1) (.lookE x2)) (yw3 (zaA (j:=0) rfl eD5 rfl r0) (zaA (j:=1) rfl eD5 rfl r1) (zaA (j:=2) rfl eD5 rfl r2)) (by simp only[Ex.toW,lk]) ⟨fun sc=>by rw[Wf];exact⟨w0 sc,w1 sc,w2 sc⟩,by simp only[Ex.high,highs,Ex.lks,lkss] at *;lia⟩
 refine⟨_,rfl,rfl,_,rfl,ite2 (fun _=>?_) (fun _=>?_)⟩
 ·refine⟨_,rfl,b,4,rfl,stA.box,by decide,by decide,fun m H6 m0 m1 st6=>?_⟩
  refine⟨m,rfl,by lia,by lia,zcq (n:=m) (fun i us H'=>∃ss:List Str,us=ss.map V.str/\ss.length=i/\(∀z∈ss,z∈names)/\Step b H5 H') ⟨[],rfl,rfl,(fun s h=>nomatch h),st6⟩ (fun i us H' h=>?_) (by lia) (fun i us H' R hi h r=>?_) (fun us H7 D2 h hD2=>?_)⟩
  ·obtain⟨ss,rfl,hsl,_⟩:=h
   rw[yB];exact hsl
  ·obtain⟨ss,rfl,hsl,hsn,st⟩:=h
   have hl':=st.keep _ _ hlb hl5;refine⟨_,rfl,_,rfl,_,rfl,_,_,rfl,.inl ⟨_,Sl hl',rfl⟩,b,_,rfl,st.box,by rw[yB];lia,by rw[yB];lia,fun n H8 n0 n1 st8=>?_⟩;rw[yB] at n1;obtain⟨z,hzm,hat⟩:=zcr n0 n1;refine⟨l,_,n,_,rfl,rfl,Sl (st8.keep l _ hlb hl'),hat,r _ _ ⟨ss++[z],by simp,by simp[hsl],fun y hy=>?_,st.trans st8⟩⟩;rcases yT.mp hy with hy|hy
   ·exact hsn y hy
   ·rw[yI.mp hy];exact hzm
  obtain⟨ss,rfl,hsl,hsn,st7⟩:=h;refine⟨D2,_,rfl,.inl ⟨Sl zj,fun pt hpt=>?_⟩⟩;have s8:=Sn (o:=.lst (ss.map V.str)) hD2;have s9:=Sn (o:=.tup (ss.map V.str)) hpt;have s89:=s8.trans s9;have rS:RW (upd (upd H7 D2 (.lst (ss.map V.str))) pt (.tup (ss.map V.str))) (.ref pt) (.lst (ss.map W.txt)):=.lst zj (by simp) fun i v w hv hw=>by
   rw[yE] at hv hw;obtain⟨y,hy,rfl⟩:=yP.mp hv;rw[hy] at hw;cases hw;exact .txt _
  have rP9:=rP5.mono (fun a vs e=>s89 _ _ (st7.tups stA.box a vs e));have stB:=(stA.trans st7).trans (Step.ofSame' st7.box s89);generalize upd (upd H7 D2 (.lst (ss.map V.str))) pt (.tup (ss.map V.str))=H9 at rS rP9 stB;have gS:Gd (.lst (ss.map W.txt)):=zjl (by lia) fun z hz=>by
   obtain⟨y1,y10,ys⟩:=hnm.2.2 z (hsn z hz);exact⟨by lia,ys⟩
  dsimp only[zW];refine YW.run (te:=tTup _) (w:=.lst [.txt "each",.txt "x",.lst [.txt "lit",.lst (ss.map W.txt)],.lst [.txt "else",.lst [.txt "look",.lst [.txt "var",.txt "x"]],.lst [.txt "lit",pw]]]) (yw3 zbb (yw1 (zdK rfl rS)) (yw2 (yw1 (yw1 zbb)) (zdK rfl rP9))) fun v H10 s10 r10=>q v (.eachE "x" (.lit (.lst (ss.map W.txt))) (.elseE (.lookE (.var "x")) (.lit pw))) H10 (by simp only[Ex.toW];exact r10) ⟨fun sc=>by simp only[Wf];exact⟨gS,by simp,gP⟩,by simp only[Ex.high,Ex.lks] at *;lia⟩ (stB.trans (Step.ofSame' stB.box s10))
 refine⟨_,rfl,rfl,_,rfl,ite2 (fun _=>?_) (fun _=>?_)⟩
 ·refine⟨_,rfl,_,rfl,_,rfl,_,_,rfl,.inl ⟨_,Sl hl5,rfl⟩,b,_,rfl,stA.box,by rw[yB];lia,by rw[yB];lia,fun n H6 n0 n1 st6=>?_⟩
  rw[yB] at n1;obtain⟨z,hzm,hat⟩:=zcr n0 n1;obtain⟨z1,z10,zs⟩:=hnm.2.2 z hzm;refine⟨l,_,n,_,rfl,rfl,Sl (st6.keep l _ hlb hl5),hat,?_⟩;dsimp only[zW];have eD6:=st6.keep _ _ nDb eD5;have r06:=r0.mono (st6.tups stA.box);refine⟨_,rfl,_,rfl,_,rfl,z,rfl,by lia,fun r h1 g1=>⟨zl2,fun p1 hp1=>?_⟩⟩;have s7:=Sn (o:=.tup [.str "lit",.str r]) hp1;have e7:upd H6 p1 (.tup [.str "lit",.str r]) p1=some (.tup [.str "lit",.str r]):=zj;have st7:=(stA.trans st6).trans (Step.ofSame' st6.box s7);generalize upd H6 p1 (.tup [.str "lit",.str r])=H7 at s7 e7 st7;refine YW.run (te:=tTup _) (w:=.lst [.txt "figures",lk x0]) (yw1 (zaA (j:=0) rfl (s7 _ _ eD6) rfl (r06.mono (zx s7)))) fun v H8 s8 r8=>⟨zl3,fun p2 hp2=>⟨zl2,fun p3 hp3=>?_⟩⟩;have s9:=Sn (o:=.tup [.str "join",.ref p1,v]) hp2;have s10:=Sn (o:=.tup [.str "look",.ref p2]) hp3;have dr:Signs r:=fun c hc=>zs c (g1 c hc);refine q _ (.lookE (.reck .join [.lit (.txt r),.reck .figs [.lookE x0]])) _ ?_ ⟨fun sc=>?_,?_⟩ (st7.trans (Step.ofSame' st7.box ((s8.trans s9).trans s10)))
  ·simp only[Ex.toW,exWs,wdS]
   refine RW.pair zj (.txt _) (RW.three (s10 _ _ zj) (.txt _) (RW.pair ((s9.trans s10) _ _ (s8 _ _ e7)) (.txt _) (.txt _)) ?_);have:=r8.mono (zx (s9.trans s10));unfold lk at this;rw[Ex.toW] at this;exact this
  ·simp only[Wf,Wfs]
   exact⟨by show 2<=8;decide,rfl,zgO (by lia) dr,⟨by show 1<=8;decide,rfl,w0 sc,trivial⟩,trivial⟩
  ·simp only[Ex.high,highs,Ex.lks,lkss] at *
   lia
 refine⟨_,rfl,rfl,_,rfl,ite2 (fun _=>?_) (fun _=>?_)⟩
 ·exact fin (.elseE (.ifE (.lookE x0) (.cryE (.lookE x1)) (.lookE x2)) (.reck .list [.lookE x1,.lit pw])) (yw2 (yw3 (zaA (j:=0) rfl eD5 rfl r0) (yw1 (zaA (j:=1) rfl eD5 rfl r1)) (zaA (j:=2) rfl eD5 rfl r2)) (yw2 (zaA (j:=1) rfl eD5 rfl r1) (zdK rfl rP5))) (by simp only[Ex.toW,exWs,wdS,lk]) ⟨fun sc=>by simp only[Wf,Wfs];exact⟨⟨w0 sc,w1 sc,w2 sc⟩,by show 2<=8;decide,trivial,w1 sc,wp sc,trivial⟩,by simp only[Ex.high,highs,Ex.lks,lkss] at *;lia⟩
 refine⟨_,rfl,rfl,_,rfl,ite2 (fun _=>?_) (fun _=>?_)⟩
 ·exact fin (.letE "y" (.elseE (.lookE x0) (.lit (.num 2))) (.reck .list [.reck .same [.var "y",.lookE x1],.var "y"])) (yw3 zbb (yw2 (zaA (j:=0) rfl eD5 rfl r0) (yw1 zns)) (yw2 (yw2 (yw1 zbb) (zaA (j:=1) rfl eD5 rfl r1)) (yw1 zbb))) (by simp only[Ex.toW,exWs,wdS,lk]) ⟨fun sc=>by simp only[Wf,Wfs];exact⟨⟨w0 sc,gd2⟩,by show 2<=8;decide,trivial,⟨by show 2<=8;decide,rfl,by simp,w1 _,trivial⟩,by simp,trivial⟩,by simp only[Ex.high,highs,Ex.lks,lkss] at *;lia⟩
 refine⟨zl4,fun lw hlw=>?_⟩;have s6:=Sn (o:=.lst [.str "+",.str "-",.str "*",.str "less"]) hlw;have e6:upd H5 lw (.lst [.str "+",.str "-",.str "*",.str "less"]) lw=some (.lst [.str "+",.str "-",.str "*",.str "less"]):=zj;have nwb:lw≠b:=IsBox.ne stA.box hlw;have st6:=Step.ofSame' stA.box s6;generalize upd H5 lw (.lst [.str "+",.str "-",.str "*",.str "less"])=H6 at s6 e6 st6;refine⟨_,rfl,b,4,rfl,st6.box,by decide,by decide,fun m H7 m0 m1 st7=>?_⟩;obtain⟨d,hat,har⟩:∃d:Wd,atI [V.str "+",.str "-",.str "*",.str "less"] m=some (.str (wdS d))/\arity d 2:=by
  have hm:m=0\/m=1\/m=2\/m=3:=by lia
  rcases hm with rfl|rfl|rfl|rfl
  ·exact⟨.add,zu (j:=0) rfl,rfl⟩
  ·exact⟨.sub,zu (j:=1) rfl,rfl⟩
  ·exact⟨.mul,zu (j:=2) rfl,rfl⟩
  ·exact⟨.less,zu (j:=3) rfl,rfl⟩
 have st67:=st6.trans st7;have r07:=r0.mono (st67.tups stA.box);refine⟨lw,_,m,_,rfl,rfl,Sl (st7.keep _ _ nwb e6),hat,_,rfl,D,_,_,v0,rfl,rfl,Sl (st67.keep _ _ nDb eD5),zu (j:=0) rfl,_,rfl,b,9,rfl,st67.box,by decide,by decide,fun j H8 j0 j1 st8=>⟨zl2,fun p1 hp1=>⟨zl3,fun p2 hp2=>?_⟩⟩⟩;have s9:=Sn (o:=.tup [.str "lit",.int j]) hp1;have s10:=Sn (o:=.tup [.str (wdS d),v0,.ref p1]) hp2;have stB:=(stA.trans st67).trans st8;have h60:(10:Int) ^ 60 > 1000:=by decide
 have gj:Gd (.num j):=⟨⟨by lia,by lia⟩,yJ _⟩;refine q _ (.reck d [.lookE x0,.lit (.num j)]) _ ?_ ⟨fun sc=>?_,?_⟩ (stB.trans (Step.ofSame' stB.box (s9.trans s10)))
 ·have:=r07.mono (fun a vs e=>(s9.trans s10) _ _ (st8.tups st67.box a vs e))
  rw[Ex.toW,exWs,exWs,exWs,Ex.toW.eq_def (.lit (.num j))];exact RW.three zj (.txt _) this (RW.pair (s10 _ _ zj) (.txt _) (.num _))
 ·simp only[Wf,Wfs]
  exact⟨by show 2<=8;decide,har,w0 sc,gj,trivial⟩
 ·simp only[Ex.high,highs,Ex.lks,lkss] at *
  lia
variable{H:Hp}{us:List V}{x:Ex}
inductive spRule(vs:List V)(H:Hp)(Q:VK)(z3:XK):Prop
 |mk (b l:jC) (names:List Str) (_:vs=[.ref b,.ref l]) (_:IsBox H b) (_:H l=some (.lst (names.map V.str))) (_:l≠b) (_:NmOk names) (_:∀(v:V)(x:Ex)(H':Hp),RW H' v x.toW->Wf x []->(x.high<=14/\x.lks<=20)->Step b H H'->Q v H')
theorem zml{K:tT}{H:Hp}{v:V}:∀{r:Res},r≠.stop->RW H v r.toW->RRes K H v r
 |.made x,_,h=>by
  obtain⟨p,vs,rfl,e,hw⟩:=RW.ref_tup h;obtain⟨q,us,rfl,rq,hw⟩:=hw.cons;obtain⟨r,us,rfl,rr,hw⟩:=hw.cons;obtain rfl:=hw.nil';obtain rfl:=rq.str;exact⟨p,r,rfl,Sq e,rr⟩
 |.wrong ws,_,h=>RW.toRS h
 |.stop,n,_=>absurd rfl n
theorem eg0:EG [] e0:=fun s hs=>nomatch hs
structure Fo(H:Hp)(us:List V)(fs:List Res):Prop where
 rs:RWs H us (fs.map Res.toW)
 ok:∀r∈fs,ROk r
 ns:∀r∈fs,r≠Res.stop
 rq:∀r∈fs,Rq r
 few:fs.length<=24
theorem Fo.len{fs:List Res}(h:Fo H us fs):us.length=fs.length:=by rw[h.rs.len,yB]
theorem Fo.mono{H':Hp}{fs:List Res}(h:Fo H us fs)(t:Tups H H'):Fo H' us fs:=⟨h.rs.mono t,h.ok,h.ns,h.rq,h.few⟩
theorem Fo.res{K:tT}{fs:List Res}(h:Fo H us fs):∀(i:Nat)(v:V)(r:Res),us[i]?=some v->fs[i]?=some r->RRes K H v r:=fun i v r hv hr=>zml (h.ns r (yK hr)) (h.rs.at' i v _ hv (by rw[yE,hr];rfl))
theorem Fo.fine{fs:List Res}(h:Fo H us fs)(hw:Wf x []):Fine fs x e0 []:=(zab h.ns h.ok (by have:=h.few;lia) x [] e0 [] hw eg0 (yJ _)).1
theorem Fo.cs{fs:List Res}(h:Fo H us fs)(x:Ex):Cs stR (fun fs ns=>ev fs x e0 ns) fs []:=csE h.ns x e0 [] (yJ _)
structure PO(K:tT)(H:Hp)(p:jC)(u rv:V)(us:List V)(fs:List Res)(x:Ex):Prop where
 ru:RW H u x.toW
 wf:Wf x []
 hi:x.high<=14
 fo:Fo H us fs
 nst:(ev fs x e0 []).1.res≠.stop
 nl:(ev fs x e0 []).2.length=fs.length
 pp:Pp H p u ((ev fs x e0 []).2.map V.str) us rv
 rr:RR K H rv (ev fs x e0 []).1
inductive spGrown(K:tT)(vs:List V)(H:Hp)(Q:VK)(z3:XK):Prop
 |mk (b l0:jC) (u:V) (x:Ex) (us0:List V) (fs0:List Res) (_:vs=[.ref b,u,.ref l0]) (_:IsBox H b) (_:RW H u x.toW) (_:Wf x []) (_:(x.high<=14/\x.lks<=20)) (_:H l0=some (.lst us0)) (_:l0≠b) (_:Fo H us0 fs0) (_:((ev fs0 x e0 []).1.res≠.stop->(ev fs0 x e0 []).2.length=fs0.length)) (_:∀(p:jC)(rv:V)(us:List V)(fs:List Res)(H':Hp),Step b H H'->PO K H' p u rv us fs x->Q (.ref p) H')
def Rp(K:tT)(H:Hp)(a:jC)(fs:List Res)(x:Ex):Prop:=
 ((ev fs x e0 []).1.res=.stop/\∃l:jC,H a=some (.tup [.str "look",.ref l])) \/
 ((ev fs x e0 []).1.res≠.stop/\(ev fs x e0 []).2.length=fs.length/\∃(l:jC)(rv:V),H a=some (.tup [.str "ended",.ref l,rv])/\H l=some (.lst ((ev fs x e0 []).2.map V.str))/\RR K H rv (ev fs x e0 []).1)
structure Lp(K:tT)(G H:Hp)(b fl rp:jC)(us:List V)(fs:List Res)(x:Ex):Prop where
 kp:∀c o,c≠b->c≠fl->G c=some o->H c=some o
 bx:IsBox H b
 fl':H fl=some (.lst us)
 ne:fl≠b
 fo:Fo H us fs
 rp':Rp K H rp fs x
theorem zku{fs:List Res}{r:Res}(h:Fo H us (fs++[r]))(hs:(ev fs x e0 []).1.res=.stop)(hn:(ev (fs++[r]) x e0 []).1.res≠.stop):(ev (fs++[r]) x e0 []).2.length=(fs++[r]).length:=by
 have cs:=h.cs x;have h0:(ev (fs++[r]) x e0 []).2.length<=(fs++[r]).length:=cs.s0 hn;rw[yD] at h0 ⊢;have h0:(ev (fs++[r]) x e0 []).2.length<=fs.length+1:=h0;show _=fs.length+1
 by_cases hle:(ev (fs++[r]) x e0 []).2.length<=fs.length
 ·have e:=cs.c1 fs.length (yJ _) (by rw[yD];exact xY _) hle
  rw[List.take_left'  rfl] at e;have e:ev fs x e0 []=ev (fs++[r]) x e0 []:=e;rw[e] at hs;exact absurd hs hn
 ·lia
theorem zkv:FnScope ["_law_box_here","_law_names_here"] ["_law_box_here","_law_names_here"] (zq zfM):=mkSc rfl (by decide +kernel)
theorem zkw(F:Fun K "_law_rule" "_law_rule" zfM f fd)(G_lsound:Have P w K mg base "_law_sound" k qL6 (spSound))(G_ltake:Have P w K mg base "_law_take" k qL2 (spTake))(G_lany:Have P w K mg base "_law_any" k qL18 (spAny 14)):qF P w K mg base k f fd qL6 (spRule):=by
 refine F.okQ zkv (by rintro _ _ _ _ ⟨_,_,_,rfl,_⟩;rfl) fun _ _ _ _ H vs Q E hr h=>?_;obtain⟨b,l,names,rfl,hb,hl,hlb,hnm,q⟩:=h;refine⟨_,(zm (zN (zE zX (zy G_ltake hr rfl (zc (pv 0) (zc zn zi))) zn (nomark _)) (zo (zt (zF zK (zy G_lany hr rfl (zc (pv 0) (zc (zO zi) (zc (pv 1) (zc (zJ Zi zn (zy G_ltake hr rfl (zc (pv 0) (zc zn zi)))) (zc zn (zc zn zi))))))) zn (fun _ _=>rfl)))) zA)
  (zo (zt (zy G_lsound hr rfl (zc (pv 0) (zc (pv 1) zi)))))),nm2 ?_⟩
 intros;refine⟨_,rfl,b,3,rfl,hb,by decide,by decide,fun r H1 r0 r1 st1=>⟨rfl,_,rfl,ite2 (fun _=>?_) (fun _=>?_)⟩⟩
 ·refine⟨_,rfl,zl0,fun sc hsc=>?_⟩
  have s2:=Sn (o:=.lst []) hsc;have esc:upd H1 sc (.lst []) sc=some (.lst (([]:List Str).map V.str)):=zj;have nsb:sc≠b:=IsBox.ne st1.box hsc;have st2:=st1.trans (Step.ofSame' st1.box s2);generalize upd H1 sc (.lst [])=H2 at s2 esc st2;refine⟨_,rfl,_,rfl,b,18,rfl,st2.box,by decide,by decide,fun m H3 m0 m1 st3=>⟨_,_,rfl,rfl,?_⟩⟩;have stA:=st2.trans st3;refine⟨b,sc,l,[],names,1+m,12,0,rfl,stA.box,⟨stA.keep _ _ hlb hl,hlb,hnm.1,by have:=hnm.2.1;lia,fun z hz=>by have:=hnm.2.2 z hz;exact⟨by lia,this.2.2⟩⟩,st3.keep _ _ nsb esc,nsb,by simp,by lia,by lia,by decide,by decide,rfl,fun t v rl H5 et rv fit hmany hhigh st5=>?_⟩;obtain⟨x1,x2,x3⟩:=zmi rl [] fit;have x4:=zjg rl [] fit;exact⟨t,_,0,_,rfl,rfl,Sq et,zu (j:=0) rfl,q v rl.ex H5 (by rw[x1];exact rv) x2 (by lia) (stA.trans st5)⟩
 ·exact⟨_,rfl,_,rfl,b,l,names,rfl,st1.box,st1.keep _ _ hlb hl,hlb,hnm,fun v x H2 rv rk st2=>q v x H2 rv (rk.wf []) (by have:=rk.hi;lia) (st1.trans st2)⟩
theorem zbM:FnScope ["_law_box_here","_law_rule_here","_law_founds_here","_law_answer"] ["_law_box_here","_law_rule_here","_law_founds_here"] (zq zd6):=mkSc rfl (by decide +kernel)
theorem zjn(F:Fun K "_law_grown" "_law_grown" zd6 f fd)(G_gone:Have P w K mg base "gone" k ["rule","founds"] (spGone K))(G_loutcome:Have P w K mg base "_law_outcome" k qL7 (spOut))(m_list:mg "list"=none)(m_tuple:mg "tuple"=none)(m_zip:mg "zip"=none):qF P w K mg base k f fd qL21 (spGrown K):=by
 refine F.okQ zbM (by rintro _ _ _ _ ⟨_,_,_,_,_,_,rfl,_⟩;rfl) fun _ _ _ _ H vs Q E hr h=>?_;obtain⟨b,l0,u,x,us0,fs0,rfl,hb,ru,wf,⟨hi,hlk⟩,el0,nlb,fo0,hl0,q⟩:=h;refine⟨_,(zm (zC (i:=2) zbM.nd rfl (Or.inl rfl) (zI Zb rfl m_list Zo (zc (pv 2) zi)))
  (zm (zC (i:=3) zbM.nd rfl (Or.inl rfl) (zy G_gone hr rfl (zc (pv 1) (zc (pv 2) zi))))
  (zm (zbt tN (zE zX (zF zK (pv 3) zn (fun _ _=>rfl)) zr (nomark _)) (zm (ZW (zbx tO tQ tP ZM (pv 2) (zc (zy G_loutcome hr rfl (zc (pv 0) zi)) zi)))
  (zo (zC (i:=3) zbM.nd rfl (Or.inl rfl) (zy G_gone hr rfl (zc (pv 1) (zc (pv 2) zi)))))))
  (zo (zt (zG (zc (pv 1) (zc (zeg rfl rfl m_zip rfl m_tuple (zc (zF zK (pv 3) zn (fun _ _=>rfl)) (zc (pv 2) zi))) (zc (zF zK (pv 3) zn (fun _ _=>rfl)) zi))))))))),nm4 ?_⟩
 intros;refine⟨_,rfl,l0,us0,rfl,.inl (Sl el0),fun fl hfl=>?_⟩;have s5:=Sn (o:=.lst us0) hfl;have e5:upd H fl (.lst us0) fl=some (.lst us0):=zj;have nfb:fl≠b:=IsBox.ne hb hfl;have hbox5:IsBox (upd H fl (.lst us0)) b:=by obtain⟨x,y,z,e⟩:=hb;exact⟨x,y,z,s5 _ _ e⟩
 generalize upd H fl (.lst us0)=H5 at s5 e5 hbox5;have ru5:RW H5 u x.toW:=ru.mono (zx s5);have fo5:Fo H5 us0 fs0:=fo0.mono (zx s5);have ask:∀(G:Hp)(us:List V)(fs:List Res)(R:VK){E':XK},RW G u x.toW->G fl=some (.lst us)->Fo G us fs->((ev fs x e0 []).1.res≠.stop->(ev fs x e0 []).2.length=fs.length)->(∀rp G',Same G G'->Rp K G' rp fs x->R (.ref rp) G')->spGone K [u,.ref fl] G R E':=fun G us fs R E' rG eG fo hl r=>by
  refine⟨u,fl,us,fs,x,rfl,rG,Sl eG,fo.len,by have:=fo.few;lia,fo.res,by lia,fo.fine wf,fun hs a l G' sm hl0 ea el=>r a G' sm (.inl ⟨hs,l,ea⟩),fun hs a l rv G' sm hl0 ea el rr=>r a G' sm (.inr ⟨hs,hl hs,l,rv,ea,el,rr⟩)⟩
 have nfl:∀ {c o},H c=some o->c≠fl:=fun {c o} e=>zB e hfl;have stL:∀{G:Hp}{rp:jC}{us:List V}{fs:List Res},Lp K H5 G b fl rp us fs x->Step b H G:=fun lp=>⟨lp.bx,fun c o n e=>lp.kp c o n (nfl e) (s5 _ _ e)⟩;have ruL:∀{G:Hp}{rp:jC}{us:List V}{fs:List Res},Lp K H5 G b fl rp us fs x->RW G u x.toW:=fun lp=>ru5.mono fun c vs e=>lp.kp c _ (fun z=>by obtain⟨_,_,_,e'⟩:=hbox5;rw[z,e'] at e;cases e) (fun z=>by rw[z,e5] at e;cases e) e;dsimp only[zW];refine⟨_,rfl,_,rfl,?_⟩;dsimp +zetaDelta only [tNil,xJ,vJ];refine ask H5 us0 fs0 _ ru5 e5 fo5 hl0 fun rp G sm hrp=>?_;refine⟨fun m σ' G=>∃(rp:jC)(us:List V)(fs:List Res),m=24-fs.length/\σ'=[some (.ref b),some u,some (.ref fl),some (.ref rp)]/\Lp K H5 G b fl rp us fs x,⟨_,rp,us0,fs0,rfl,rfl,⟨fun c o _ _ e=>sm _ _ e,by obtain⟨x,y,z,e⟩:=hbox5;exact⟨x,y,z,sm _ _ e⟩,sm _ _ e5,nfb,fo5.mono (zx sm),hrp⟩⟩,fun m σ' G hW=>?_⟩;obtain⟨rp,us,fs,rfl,rfl,lp⟩:=hW;have hrp:=lp.rp';rcases hrp with⟨hs,l,er⟩|⟨hs,hl,l,rv,er,el,rr⟩
 ·refine⟨_,rfl,rp,_,0,_,rfl,rfl,Sq er,zu (j:=0) rfl,rfl,_,rfl,iteT ?_⟩
  have hfew:fs.length<20:=by
   have h1:(ev fs x e0 []).2.length=fs.length+1:=(lp.fo.cs x).s1 hs;have h2:=lksE (fs:=fs) x e0 [];rw[h1,wM] at h2;lia
  have hul:=lp.fo.len;refine⟨_,fun σ' H' h=>h,?_⟩;refine⟨_,rfl,.inl ⟨rfl,_,Sl lp.fl'⟩,_,rfl,b,rfl,lp.bx,fun v r G2 rv rok rns rrq st2=>?_⟩;have efl2:=st2.keep fl _ lp.ne lp.fl';refine⟨fl,us,v,rfl,rfl,efl2,yZ (show us.length<=1000 by lia) (by decide),_,rfl,_,rfl,?_⟩;have e3:upd G2 fl (.lst (us++[v])) fl=some (.lst (us++[v])):=zj;have k3:∀c o,c≠fl->G2 c=some o->upd G2 fl (.lst (us++[v])) c=some o:=fun c o hc e=>by rw[zH hc];exact e
  generalize upd G2 fl (.lst (us++[v]))=G3 at e3 k3;have t3:Tups G2 G3:=fun c zs ec=>k3 c _ (fun z=>by rw[z,efl2] at ec;cases ec) ec;have t2:Tups G G2:=st2.tups lp.bx;have fo3:Fo G3 (us++[v]) (fs++[r]):=by
   refine⟨?_,fun y hy=>?_,fun y hy=>?_,fun y hy=>?_,by rw[yD];show fs.length+1<=24;lia⟩
   ·rw[xK]
    exact ((lp.fo.rs.mono t2).mono t3).snoc (rv.mono t3)
   ·rcases yT.mp hy with hy|hy
    ·exact lp.fo.ok y hy
    ·rw[yI.mp hy];exact rok
   ·rcases yT.mp hy with hy|hy
    ·exact lp.fo.ns y hy
    ·rw[yI.mp hy];exact rns
   ·rcases yT.mp hy with hy|hy
    ·exact lp.fo.rq y hy
    ·rw[yI.mp hy];exact rrq
  dsimp +zetaDelta only [tNil,xJ,vJ];refine ask G3 (us++[v]) (fs++[r]) _ (((ruL lp).mono t2).mono t3) e3 fo3 (zku fo3 hs) fun rp2 G4 s4' hrp2=>?_;refine⟨24-(fs++[r]).length,by rw[yD];show 24-(fs.length+1)<24-fs.length;lia,rp2,us++[v],fs++[r],rfl,rfl,⟨fun c o c1 c2 e=>s4' _ _ (k3 c o c2 (st2.keep c o c1 (lp.kp c o c1 c2 e))),?_,s4' _ _ e3,lp.ne,fo3.mono (zx s4'),hrp2⟩⟩;obtain⟨x,y,z,e⟩:=st2.box;exact⟨x,y,z,s4' _ _ (k3 _ _ lp.ne.symm e)⟩
 ·refine⟨_,rfl,rp,_,0,_,rfl,rfl,Sq er,zu (j:=0) rfl,rfl,_,rfl,iteF ?_⟩
  refine⟨_,rfl,_,rfl,rp,_,1,_,rfl,rfl,Sq er,zu (j:=1) rfl,_,rfl,l,fl,_,us,rfl,Sl el,Sl lp.fl',fun ts t G2 s2 ht hlt hp et=>?_⟩;refine⟨_,rfl,rp,_,2,_,rfl,rfl,Sq (s2 _ _ er),zu (j:=2) rfl,zl3,fun p hpp=>?_⟩;have s3:=Sn (o:=.tup [u,.ref t,rv]) hpp;have s23:=s2.trans s3;have hul:=lp.fo.len;have hfew:=lp.fo.few;rw[yB] at hlt;have st:=stL lp;exact q p rv us fs _ (st.trans (Step.ofSame' st.box s23)) ⟨(ruL lp).mono (zx s23),wf,hi,lp.fo.mono (zx s23),hs,hl,⟨⟨t,ts,zj,s3 _ _ et,by rw[yB];lia,Prs.mono hp s3⟩,by rw[yB];lia,by rw[yB];lia⟩,rr.mono s23⟩
variable{K:tT}{H:Hp}{p:jC}{u rv:V}{us:List V}{x:Ex}
mutual
theorem zbN:∀(x:Ex)(sc:List Str),Wf x sc->x.toW.depth<=x.high+13
 |.lit x,sc,h=>by
  rw[Wf] at h;have:=h.dp;rw[Ex.toW,Ex.high];simp only[W.depth,depths];lia
 |.var s,sc,h=>by rw[Ex.toW,Ex.high];simp only[W.depth,depths];lia
 |.letE s a b,sc,h=>by
  rw[Wf] at h;have h1:=zbN a _ h.1;have h2:=zbN b _ h.2;rw[Ex.toW,Ex.high];simp only[W.depth,depths];lia
 |.ifE a b c,sc,h=>by
  rw[Wf] at h;have h1:=zbN a _ h.1;have h2:=zbN b _ h.2.1;have h3:=zbN c _ h.2.2;rw[Ex.toW,Ex.high];simp only[W.depth,depths];lia
 |.elseE a b,sc,h=>by
  rw[Wf] at h;have h1:=zbN a _ h.1;have h2:=zbN b _ h.2;rw[Ex.toW,Ex.high];simp only[W.depth,depths];lia
 |.cryE a,sc,h=>by
  rw[Wf] at h;have h1:=zbN a _ h;rw[Ex.toW,Ex.high];simp only[W.depth,depths];lia
 |.lookE a,sc,h=>by
  rw[Wf] at h;have h1:=zbN a _ h;rw[Ex.toW,Ex.high];simp only[W.depth,depths];lia
 |.reck d es,sc,h=>by
  rw[Wf] at h;have h1:=ex_dps es _ h.2.2;rw[Ex.toW,Ex.high];simp only[W.depth,depths];lia
 |.eachE s a b,sc,h=>by
  rw[Wf] at h;have h1:=zbN a _ h.1;have h2:=zbN b _ h.2;rw[Ex.toW,Ex.high];simp only[W.depth,depths];lia
theorem ex_dps:∀(es:List Ex)(sc:List Str),Wfs es sc->depths (exWs es)<=highs es+13
 |[],sc,_=>by rw[exWs,highs,depths];lia
 |x::xs,sc,h=>by
  rw[Wfs] at h;have h1:=zbN x _ h.1;have h2:=ex_dps xs _ h.2;rw[exWs,highs,depths];lia
end
noncomputable def lkW(n:Str)(r:Res):W:=.lst [.txt n,r.toW]
def ppW(fs:List Res)(x:Ex):W:=.lst [x.toW,.lst (List.zipWith lkW (ev fs x e0 []).2 fs),(ev fs x e0 []).1.toW]
theorem zjo:∀(ns:List Str)(fs:List Res),(∀r∈fs,ROk r)->depths (List.zipWith lkW ns fs)<=14
 |[],_,_=>by rw[List.zipWith_nil_left];exact yJ _
 |_::_,[],_=>by rw[List.zipWith_nil_right];exact yJ _
 |n::ns,r::fs,h=>by
  have h1:=(h r yS).dp;have h2:=zjo ns fs fun y hy=>h y (yL _ hy);rw[List.zipWith_cons_cons,depths];have:(lkW n r).depth<=14:=by simp only[lkW,W.depth,depths];lia
  lia
theorem PO.gr{fs:List Res}(h:PO K H p u rv us fs x):GR x.high (ev fs x e0 []).1:=grE h.fo.ns h.fo.ok (by have:=h.fo.few;lia) x [] e0 [] h.wf eg0 (yJ _) h.nst
theorem PO.mono{H':Hp}{fs:List Res}(h:PO K H p u rv us fs x)(s:Same H H'):PO K H' p u rv us fs x:=
 ⟨h.ru.mono (zx s),h.wf,h.hi,h.fo.mono (zx s),h.nst,h.nl,h.pp.mono s,h.rr.mono s⟩
theorem zkx{a:jC}{v t:V}{x y z:W}(e:H a=some (.tup [u,v,t]))(h1:RS K H u x)(h2:RS K H v y)(h3:RS K H t z):RS K H (.ref a) (.lst [x,y,z]):=.lst (Sq e) rfl fun i a b ha hb=>match i,ha,hb with
 |0,ha,hb=>by
  obtain rfl:u=a:=by simpa using ha
  obtain rfl:x=b:=by simpa using hb
  exact h1
 |1,ha,hb=>by
  obtain rfl:v=a:=by simpa using ha
  obtain rfl:y=b:=by simpa using hb
  exact h2
 |2,ha,hb=>by
  obtain rfl:t=a:=by simpa using ha
  obtain rfl:z=b:=by simpa using hb
  exact h3
 |j+3,ha,hb=>by simp at ha
theorem PO.rs{fs:List Res}(h:PO K H p u rv us fs x):RS K H (.ref p) (ppW fs x):=by
 obtain⟨⟨t,ts,e1,e2,e3,e4⟩,l,few⟩:=h.pp;have hul:=h.fo.len;have hnl:=h.nl;rw[yB] at e3 l;refine zkx e1 (RW.toRS h.ru) (.lst (Sq e2) (by rw[yB,List.length_zipWith];lia) fun i v w hv hw=>?_) (h.gr.rs h.rr);rw[yE] at hv;obtain⟨c,hc,rfl⟩:=yP.mp hv;have hi:i<ts.length:=(yC.mp hc).1;have h1:(ev fs x e0 []).2[i]?=some (ev fs x e0 []).2[i]:=yA (by lia);have h2:fs[i]?=some fs[i]:=yA (by lia);have h3:us[i]?=some us[i]:=yA (by lia);rw[List.getElem?_zipWith,h1,h2] at hw;obtain rfl:lkW _ _=w:=by simpa using hw
 exact RS.two (Sq (e4 i c _ _ hc (by rw[yE,h1];rfl) h3)) (.txt _) (RW.toRS (h.fo.rs.at' i _ _ h3 (by rw[yE,h2];rfl)))
end D
namespace L2
open PySem PySem.Spec PyProof.Rows
theorem zky{X:Cx}:OpR X (binaryOp .Mult) (fun x y H Q=>∃(z:Str)(k:Int),x=.str z/\y=.int k/\(k=0\/k=1)/\∀r:Str,(r.cps.toList=[]\/r.cps.toList=z.cps.toList)->Q (.str r) H):=by
 intro pins s σ H x y v u Q I rx ry h;obtain⟨z,k,rfl,rfl,hk,q⟩:=h;obtain⟨t,rfl⟩:=rx;obtain⟨t',rfl⟩:=ry;have hok:MulOk z k:=by
  rcases hk with rfl|rfl
  ·exact⟨by decide,fun h=>absurd (by decide) h,fun h=>absurd (by decide) h⟩
  ·exact⟨by decide,fun _ h=>by simp at h,fun _ h=>by simp at h⟩
 refine PySem.SB.mul hok fun t' tk=>⟨.str _,H,I.tok tk,⟨_,rfl⟩,q _ ?_⟩;rcases hk with rfl|rfl
 ·left
  unfold PySem.Txt.mul;rw[if_pos (by decide)]
  rfl
 ·right
  unfold PySem.Txt.mul;rw[if_neg (by decide),if_pos (by simp)]
end L2
namespace D
open PySem L2
noncomputable def dot:Str:=uX "."
theorem zgf:dot.length=1:=by decide
noncomputable def zda:Str:=uX "abcdefghijklmnopqrstuvwxyz0123456789"
noncomputable def in36(c:Nat):Bool:=decide (c∈zda.cps.toList)
theorem zjp:∀c∈zda.cps.toList,32<=c/\c<=126/\c≠34/\c≠37:=by decide
structure Wn(x:Str):Prop where
 lo:1<=x.length
 hi:x.length<=12
 at':∀c∈x.cps.toList,in36 c=true
theorem Wn.ok{x:Str}(h:Wn x):Signs x:=fun c hc=>zjp c (of_decide_eq_true (h.at' c hc))
def Nm(z:Str):Prop:=1<=z.length/\z.length<=30/\Signs z
theorem Wn.nm{r w:Str}(h1:Wn r)(h2:Wn w):Nm (r++dot++w):=by
 have a1:=h1.hi;have a2:=h2.hi;have a3:=h1.lo;have e:(r++dot++w).length=r.length+1+w.length:=by rw[←Zt,zap,zap,yD,yD,Zt,Zt,Zt,zgf]
 refine⟨by lia,by lia,fun c hc=>?_⟩;rw[zap,zap] at hc;rcases yT.mp hc with hc|hc
 ·rcases yT.mp hc with hc|hc
  ·exact h1.ok c hc
  ·rw[show dot.cps.toList=[46] by decide,yI] at hc
   rw[hc];decide
 ·exact h2.ok c hc
theorem zmm:zda.length=36:=by decide
theorem zkz(cs:List Nat):Txt.join (uX "") (cs.map fun c=>(⟨#[c]⟩:Str))=⟨cs.toArray⟩:=zdw cs
theorem zkA(cs:List Nat):((cs.map fun c=>(⟨#[c]⟩:Str)).map (·.length)).sum=cs.length:=by
 induction cs with
 |nil=>rfl
 |cons c r ih=>
  rw[yW,yW,List.sum_cons,ih,yQ];show 1+r.length=r.length+1;lia
theorem at36{i:Int}(h0:0<=i)(h1:i<36):∃c,atI zda.cps.toList i=some c/\in36 c=true:=by
 obtain⟨c,h,hm⟩:=zgb (z:=zda) h0 (by rw[zmm];exact h1);exact⟨c,h,decide_eq_true hm⟩
inductive spLikes(vs:List V)(H:Hp)(Q:VK)(z3:XK):Prop
 |mk (b:jC) (n:Int) (_:vs=[.ref b,.int n]) (_:IsBox H b) (_:0<=n) (_:n<=100) (_:∀(l:jC)(ws:List Str)(H':Hp),H l=none->Step b H H'->H' l=some (.lst (ws.map V.str))->ws.length=n.toNat->(∀z∈ws,Wn z)->Q (.ref l) H')
theorem ZU:FnScope ["_law_box_here","_law_total","_law_signs","_law_wide","_law_spot","_law_letters","_law_first","_law_more","_law_found","_law_k"] ["_law_box_here","_law_total"] (zq zd4):=mkSc rfl (by decide +kernel)
theorem zjq(F:Fun K "_law_likes" "_law_likes" zd4 f fd)(G_ltake:Have P w K mg base "_law_take" k qL2 (spTake))(m_range:mg "range"=none):qF P w K mg base k f fd ["_law_box_here","_law_total"] (spLikes):=by
 refine F.okQ ZU (by rintro _ _ _ _ ⟨_,_,rfl,_⟩;rfl) fun _ _ _ _ H vs Q E hr h=>?_;obtain⟨b,n,rfl,hb,hn0,hn1,q⟩:=h;refine⟨_,(zm (zC (i:=2) ZU.nd rfl (Or.inr rfl) zr)
  (zm (zC (i:=3) ZU.nd rfl (Or.inl rfl) (zJ Zi zn (zy G_ltake hr rfl (zc (pv 0) (zc zn zi)))))
  (zm (zC (i:=4) ZU.nd rfl (Or.inl rfl) (zy G_ltake hr rfl (zc (pv 0) (zc (pv 3) zi))))
  (zm (zdT (i:=5) [2,0] ["_law_signs","_law_box_here"] rfl rfl (by decide) rfl (by decide) rfl (by decide) ⟨rfl,rfl,trivial⟩ rfl ⟨⟨rfl,rfl,Or.inr (Or.inl rfl),(by show (some NameKind.cell:Option NameKind)≠some .local;decide),⟨_,rfl⟩⟩,⟨rfl,rfl,Or.inr (Or.inl rfl),(by show (some NameKind.cell:Option NameKind)≠some .local;decide),⟨_,rfl⟩⟩,trivial⟩ (Zc rfl m_range (zc (pv 3) zi)) (fun C s H fp=>⟨Zd,(zF zeN (pv 1) (zy G_ltake hr rfl (zc (pv 2) (zc zn zi))) (fun _ _=>rfl))⟩) ZU.nd rfl (Or.inl rfl))
  (zm (zC (i:=6) ZU.nd rfl (Or.inl rfl) (zy G_ltake hr rfl (zc (pv 0) (zc zn zi))))
  (zm (zC (i:=7) ZU.nd rfl (Or.inl rfl) (zy G_ltake hr rfl (zc (pv 0) (zc zn zi))))
  (zm (zC (i:=8) ZU.nd rfl (Or.inl rfl) (zO zi))
  (zm (Z6 tN rfl (Zc rfl m_range (zc (pv 1) zi)) (zS (i:=9) ZU.nd rfl (Or.inl rfl)) (zm (zaK (zF zeN (pv 2) (zJ zaL (zJ Zi (pv 6) (zJ za5 zn (pv 9))) zn) (fun _ _=>rfl)) (zcs (pv 5) (pv 4) zbv))
  (zo (ZW (zbx tO tQ tP ZM (pv 8) (zc (zJ zai (zbx PySem.F.plainAttrs_str PySem.F.slot_str_join PySem.F.type_str_join ziw zr (zc (pv 5) zi)) (zJ zky zr (zJ za5 (pv 7) (zJ zaL (pv 9) zn)))) zi))))))
  (zo (zt (pv 8))))))))))),nm9 ?_⟩
 intros;refine⟨_,rfl,b,11,rfl,hb,by decide,by decide,fun wd H1 w0 w1 st1=>⟨_,_,rfl,rfl,?_⟩⟩;refine⟨_,rfl,_,rfl,b,1+wd,rfl,st1.box,by lia,Int.lt_of_le_of_lt (show 1+wd<=11 by lia) (by decide),fun sp H2 sp0 sp1 st2=>?_⟩;have st12:=st1.trans st2;refine⟨_,rfl,1+wd,rfl,by lia,by lia,zcq (n:=1+wd) (fun i us H'=>∃cs:List Nat,us=cs.map (fun c=>V.str ⟨#[c]⟩)/\cs.length=i/\(∀c∈cs,in36 c=true)/\Step b H H') ⟨[],rfl,rfl,(fun c h=>nomatch h),st12⟩ (fun i us H' h=>?_) (by lia) (fun i us H' R hi h r=>?_) (fun us H' D h hD=>?_)⟩
 ·obtain⟨cs,rfl,hl,_⟩:=h
  rw[yB];exact hl
 ·obtain⟨cs,rfl,hl,hc,st⟩:=h
  refine⟨_,rfl,_,rfl,b,36,rfl,st.box,by decide,by decide,fun r2 H5 a0 a1 st5=>?_⟩;obtain⟨c,ec,hcc⟩:=at36 a0 a1;refine⟨_,r2,c,rfl,rfl,small (by rw[show (uX "abcdefghijklmnopqrstuvwxyz0123456789").length=36 from zmm];decide),ec,r _ _ ⟨cs++[c],by rw[xK];rfl,by rw[yD,hl];rfl,fun x hx=>?_,st.trans st5⟩⟩;rcases yT.mp hx with hx|hx
  ·exact hc x hx
  ·rw[yI.mp hx];exact hcc
 obtain⟨cs,rfl,hl,hc,st3⟩:=h;have eD:upd H' D (.lst (cs.map fun c=>V.str ⟨#[c]⟩)) D=some (.lst (cs.map fun c=>V.str ⟨#[c]⟩)):=zj;have st4:=st3.trans (Step.new (o:=.lst (cs.map fun c=>V.str ⟨#[c]⟩)) st3.box hD);have nDb:D≠b:=IsBox.ne st3.box hD;generalize upd H' D (.lst (cs.map fun c=>V.str ⟨#[c]⟩))=H4 at eD st4;refine⟨_,rfl,b,36,rfl,st4.box,by decide,by decide,fun fi H5 f0 f1 st5=>?_⟩;refine⟨_,rfl,b,2,rfl,st5.box,by decide,by decide,fun mo H6 m0 m1 st6=>?_⟩;refine⟨zl0,fun l hlf=>?_⟩;have st46:=st5.trans st6;have hl6:∀ {c o},c≠b->H4 c=some o->H6 c=some o:=fun h e=>st46.keep _ _ h e;have s7:=Sn (o:=.lst []) hlf;have nlb:l≠b:=IsBox.ne st6.box hlf;have hl0:H l=none:=by
  cases e:H l with
  |none=>rfl
  |some o=>rw[(st4.trans st46).keep l o nlb e] at hlf;cases hlf
 have nDl:D≠l:=zB (hl6 nDb eD) hlf;have e7:upd H6 l (.lst []) l=some (.lst []):=zj;have eD7:=s7 _ _ (hl6 nDb eD);generalize hH7:upd H6 l (.lst [])=H7 at s7 e7 eD7;have hD0:H D=none:=by
  cases e:H D with
  |none=>rfl
  |some o=>rw[st3.keep D o nDb e] at hD;cases hD
 refine⟨_,rfl,n,rfl,by lia,by lia,zam (lo:=0) (n:=n.toNat) (fun i σ' H8=>∃(o9:Option V)(cs':List Nat)(ws:List Str),σ'=[some (.ref b),some (.int n),some (.str "abcdefghijklmnopqrstuvwxyz0123456789"),some (.int (1+wd)),some (.int sp),some (.ref D),some (.int fi),some (.int mo),some (.ref l),o9]/\H8 D=some (.lst (cs'.map fun c=>V.str ⟨#[c]⟩))/\cs'.length=(1+wd).toNat/\(∀c∈cs',in36 c=true)/\H8 l=some (.lst (ws.map V.str))/\ws.length=i/\(∀z∈ws,Wn z)/\∀c o,c≠D->c≠l->H7 c=some o->H8 c=some o)
  ⟨none,cs,[],rfl,eD7,hl,hc,e7,rfl,(fun z h=>nomatch h),fun c o _ _ e=>e⟩ (fun i σ' H8 hi h=>?_) (fun σ' H8 h=>?_)⟩
 ·obtain⟨o9,cs',ws,rfl,eD8,hcl,hcc,el8,hwl,hww,kp⟩:=h
  have hi':(i:Int)<100:=by lia
  have md:0<=(fi+7*(0+(i:Int))) % 36/\(fi+7*(0+(i:Int))) % 36<36:=by lia
  obtain⟨c,ec,hc36⟩:=at36 md.1 md.2;refine⟨_,rfl,_,rfl,_,rfl,_,_,rfl,rfl,.inl ⟨by decide,by decide⟩,_,_,rfl,rfl,_,_,rfl,rfl,(by show (0:Int)<36;decide),_,_,c,rfl,rfl,small (by rw[show (uX "abcdefghijklmnopqrstuvwxyz0123456789").length=36 from zmm];decide),ec,?_⟩;have hsl:sp.toNat<cs'.length:=by lia
  have hix:ixN (cs'.map fun c=>V.str ⟨#[c]⟩).length sp=some sp.toNat:=by
   unfold ixN;rw[yB,if_pos sp0,if_pos (by lia)]
  refine⟨_,rfl,_,rfl,D,_,sp,sp.toNat,rfl,rfl,eD8,hix,?_⟩;have eset:(cs'.map fun c=>V.str ⟨#[c]⟩).set sp.toNat (.str ⟨#[c]⟩)=(cs'.set sp.toNat c).map fun c=>V.str ⟨#[c]⟩:=by rw[List.map_set]
  rw[eset];have hcc':∀x∈cs'.set sp.toNat c,in36 x=true:=fun x hx=>by
   rcases List.mem_or_eq_of_mem_set hx with h|h
   ·exact hcc x h
   ·rw[h];exact hc36
  have hcl':(cs'.set sp.toNat c).length=(1+wd).toNat:=by rw[List.length_set];exact hcl
  generalize cs'.set sp.toNat c=cs2 at hcc' hcl';have el9:upd H8 D (.lst (cs2.map fun c=>V.str ⟨#[c]⟩)) l=some (.lst (ws.map V.str)):=by rw[zH nDl.symm];exact el8
  have eD9:upd H8 D (.lst (cs2.map fun c=>V.str ⟨#[c]⟩)) D=some (.lst ((cs2.map fun c=>(⟨#[c]⟩:Str)).map V.str)):=by rw[zj,wG];rfl
  refine⟨_,rfl,.inl ⟨rfl,_,Sl el9⟩,rfl,_,rfl,_,D,cs2.map fun c=>(⟨#[c]⟩:Str),rfl,rfl,Sl eD9,?_,?_⟩
  ·rw[zkA,yB,show (uX "").length=0 from by decide]
   lia
  rw[zkz];have hmk:mo*((0+(i:Int)) % 2)=0\/mo*((0+(i:Int)) % 2)=1:=by
   have h1:mo=0\/mo=1:=by lia
   rcases h1 with rfl|rfl
   ·left;simp
   ·rw[Int.one_mul];lia
  refine⟨_,rfl,_,rfl,_,_,rfl,rfl,(by show (0:Int)<2;decide),_,_,rfl,rfl,.inl ⟨by lia,by lia⟩,_,_,rfl,rfl,hmk,fun r hr0=>?_⟩;have hrl:r.cps.toList.length<=1/\∀x∈r.cps.toList,in36 x=true:=by
   have e0:(uX "0").cps.toList=[48]:=by decide
   rcases hr0 with h|h
   ·rw[h];exact⟨yJ _,fun x hx=>nomatch hx⟩
   ·rw[h,e0];exact⟨yG _,fun x hx=>by rw[yI.mp hx];decide⟩
  have hcs:(⟨cs2.toArray⟩:Str).cps.toList=cs2:=by show cs2.toArray.toList=cs2;rw[wH]
  have hcl2:(⟨cs2.toArray⟩:Str).length=cs2.length:=by rw[←Zt,hcs]
  have hrl2:r.length<=1:=by rw[←Zt];exact hrl.1
  have hwd:Wn (⟨cs2.toArray⟩++r):=by
   have hl':(⟨cs2.toArray⟩++r:Str).length=cs2.length+r.length:=by rw[←Zt,zap,yD,Zt,Zt,hcl2]
   refine⟨by rw[hl'];lia,by rw[hl'];lia,fun x hx=>?_⟩;rw[zap,hcs] at hx;rcases yT.mp hx with hx|hx
   ·exact hcc' x hx
   ·exact hrl.2 x hx
  refine⟨_,_,rfl,rfl,small (by rw[hcl2];lia),l,ws.map V.str,_,rfl,rfl,el9,small (by rw[yB];lia),?_⟩;refine⟨_,cs2,ws++[⟨cs2.toArray⟩++r],rfl,?_,hcl',hcc',by rw[zj,xK];rfl,by rw[yD,hwl];rfl,fun z hz=>?_,fun c' o h1 h2 e=>?_⟩
  ·rw[zH nDl,zj]
  ·rcases yT.mp hz with hz|hz
   ·exact hww z hz
   ·rw[yI.mp hz];exact hwd
  ·rw[zH h2,zH h1];exact kp c' o h1 h2 e
 ·obtain⟨o9,cs',ws,rfl,eD8,hcl,hcc,el8,hwl,hww,kp⟩:=h
  refine⟨_,rfl,q l ws H8 hl0 ⟨?_,fun c o hc e=>?_⟩ el8 hwl hww⟩
  ·obtain⟨x,y,z,e⟩:=st6.box
   exact⟨x,y,z,kp _ _ nDb.symm nlb.symm (s7 _ _ e)⟩
  ·exact kp _ _ (zB e hD0) (zB e hl0) (s7 _ _ (hl6 hc (st4.keep _ _ hc e)))
theorem zjr{vs:List V}(k:Nat):cutV vs none (some (k:Int))=vs.take k:=by
 show (vs.drop 0).take (HT.sIx vs.length vs.length (some ((k:Nat):Int))-0)=_;rw[HT.sIx_nat,Nat.sub_zero,List.drop_zero]
 by_cases h:k<=vs.length
 ·rw[Nat.min_eq_left h]
 ·rw[Nat.min_eq_right (by lia),xG (yG _),xG (by lia)]
inductive spNames(vs:List V)(H:Hp)(Q:VK)(z3:XK):Prop
 |mk (b:jC) (m:Int) (_:vs=[.ref b,.int m]) (_:IsBox H b) (_:2<=m) (_:m<=100) (_:∀(l:jC)(ns:List Str)(H':Hp),H l=none->Step b H H'->H' l=some (.lst (ns.map V.str))->ns≠[]->ns.length<=15->(∀z∈ns,Nm z)->Q (.ref l) H')
theorem zaW:FnScope ["_law_box_here","_law_most","_law_rooms","_law_names_here","_law_word_here"] ["_law_box_here","_law_most"] (zq zd5):=mkSc rfl (by decide +kernel)
theorem zjs(F:Fun K "_law_names" "_law_names" zd5 f fd)(G_ltake:Have P w K mg base "_law_take" k qL2 (spTake))(G_llikes:Have P w K mg base "_law_likes" k ["_law_box_here","_law_total"] (spLikes)):qF P w K mg base k f fd qL9 (spNames):=by
 refine F.okQ zaW (by rintro _ _ _ _ ⟨_,_,rfl,_⟩;rfl) fun _ _ _ _ H vs Q E hr h=>?_;obtain⟨b,m,rfl,hb,hm0,hm1,q⟩:=h;refine⟨_,(zm (zC (i:=2) zaW.nd rfl (Or.inl rfl) (zy G_llikes hr rfl (zc (pv 0) (zc (zJ Zi zn (zy G_ltake hr rfl (zc (pv 0) (zc zn zi)))) zi))))
  (zm (zC (i:=3) zaW.nd rfl (Or.inl rfl) (zO zi))
  (zm (Z6 tN rfl (zac (zy G_llikes hr rfl (zc (pv 0) (zc (zJ Zi zn (zy G_ltake hr rfl (zc (pv 0) (zc zn zi)))) zi)))) (zS (i:=4) zaW.nd rfl (Or.inr rfl)) (zo (zC (i:=3) zaW.nd rfl (Or.inl rfl) (zJ zdq (pv 3) (Zj [4] ["_law_word_here"] rfl rfl (by decide) rfl (by decide) rfl (by decide) ⟨rfl,trivial⟩ rfl ⟨⟨rfl,rfl,Or.inr (Or.inl rfl),(by show (some NameKind.cell:Option NameKind)≠some .local;decide),⟨_,rfl⟩⟩,trivial⟩ (zac (pv 2)) (fun C s H fp=>⟨Zd,(zJ zai (zJ zai (pv 0) zr) (pv 1))⟩))))))
  (zo (zt (Zr zbf (pv 3) ZX (ZF (zJ Zi zn (zy G_ltake hr rfl (zc (pv 0) (zc (zJ Zk (pv 1) zn) zi))))))))))),nm4 ?_⟩
 intros;refine⟨_,rfl,_,rfl,b,3,rfl,hb,by decide,by decide,fun r1 H1 a0 a1 st1=>⟨_,_,rfl,rfl,b,1+r1,rfl,st1.box,by lia,by lia,fun lr rooms H2 hlr st2 er hrl hrw=>⟨zl0,fun l0 hl0=>?_⟩⟩⟩;have st12:=st1.trans st2;have nrb:lr≠b:=IsBox.ne st1.box hlr;have st3:=st12.trans (Step.new (o:=.lst []) st2.box hl0);have e0:upd H2 l0 (.lst []) l0=some (.lst []):=zj;have er3:=Sn (o:=.lst []) hl0 _ _ er;have n0b:l0≠b:=IsBox.ne st2.box hl0;generalize upd H2 l0 (.lst [])=H3 at st3 e0 er3;refine⟨_,rfl,_,rfl,b,4,rfl,st3.box,by decide,by decide,fun r2 H4 c0 c1 st4=>⟨_,_,rfl,rfl,b,2+r2,rfl,st4.box,by lia,by lia,fun lw words H5 hlw st5 ew hwl hww=>?_⟩⟩;have st45:=st4.trans st5;have st35:=st3.trans st45;have er5:=st45.keep lr _ nrb er3;have e05:=st45.keep l0 _ n0b e0;have hrn:rooms.length<=3/\1<=rooms.length:=by lia
 have hwn:words.length<=5/\2<=words.length:=by lia
 refine⟨lw,rfl,⟨_,Sl ew⟩,zdO (K:=K) (xs:=words.map V.str) (fun i σ' H'=>∃(o4:Option V)(ln:jC)(ns:List Str),σ'=[some (.ref b),some (.int m),some (.ref lr),some (.ref ln),o4]/\H' ln=some (.lst (ns.map V.str))/\(∀z∈ns,Nm z)/\ns.length=i*rooms.length/\Same H5 H')
  ⟨none,l0,[],rfl,e05,(fun z h=>nomatch h),by simp,Sr _⟩ (fun i σ' H' _ h=>?_) (fun i x σ' H' hx h=>?_) (fun σ' H' h=>?_)⟩
 ·obtain⟨_,_,_,_,_,_,_,s6⟩:=h
  exact Sl (s6 _ _ ew)
 ·obtain⟨o4,ln,ns,rfl,en,hnm,hnl,s6⟩:=h
  rw[yE] at hx;obtain⟨wd,hwd,rfl⟩:=yP.mp hx;have hw:=hww wd (yK hwd);have hi:i<words.length:=(yC.mp hwd).1;have hnl':ns.length<=15:=by
   rw[hnl];exact yM (vQ (show i<=5 by lia) hrn.1) (by decide)
  refine⟨_,rfl,_,rfl,lr,rfl,⟨_,Sl (s6 _ _ er5)⟩,zee (K:=K) (rooms.map fun r=>V.str (r++dot++wd)) (Sl (s6 _ _ er5)) (by rw[yB,yB]) (small (by rw[yB];lia)) (fun j v y H7 R hv hy s7 hR=>?_) (fun H7 D s7 hD=>?_)⟩
  ·rw[yE] at hv hy
   obtain⟨ro,hro,rfl⟩:=yP.mp hv;rw[hro] at hy;cases hy;have hr:=hrw ro (yK hro);have h1:=hr.hi;have h2:=hw.hi;have hd1:(ro++dot).length=ro.length+1:=by rw[←Zt,zap,yD,Zt,Zt,zgf]
   refine⟨_,rfl,_,_,rfl,rfl,small (by rw[show (uX ".").length=1 from zgf];lia),_,rfl,_,_,rfl,rfl,small (by rw[show (ro++uX ".").length=ro.length+1 from hd1];lia),hR _ (Sr _)⟩
  ·have s8:=s7.trans (Sn (o:=.lst (rooms.map fun r=>V.str (r++dot++wd))) hD)
   refine⟨ln,D,ns.map V.str,rooms.map fun r=>V.str (r++dot++wd),rfl,rfl,s8 _ _ en,zj,small (by rw[yB,yB];lia),fun p hp=>?_⟩;refine⟨_,p,ns++rooms.map (fun r=>r++dot++wd),rfl,by rw[zj,xK,wG];rfl,fun z hz=>?_,?_,s6.trans (s8.trans (Sn hp))⟩
   ·rcases yT.mp hz with hz|hz
    ·exact hnm z hz
    ·obtain⟨r,hr,rfl⟩:=uB.mp hz
     exact (hrw r hr).nm hw
   ·rw[yD,yB,hnl,Nat.add_mul];lia
 ·obtain⟨o4,ln,ns,rfl,en,hnm,hnl,s6⟩:=h
  rw[yB] at hnl;have hnl2:2<=ns.length:=by
   rw[hnl];exact yM (by decide:2<=2*1) (vQ hwn.2 hrn.2)
  have hnl3:ns.length<=15:=by
   rw[hnl];exact yM (vQ hwn.1 hrn.1) (by decide)
  have st6:=st35.trans (Step.ofSame' st5.box s6);refine⟨_,rfl,_,rfl,_,rfl,_,_,rfl,rfl,b,m-1,rfl,st6.box,by lia,Int.lt_of_le_of_lt (show m-1<=100 by lia) (by decide),fun r3 H7 d0 d1 st7=>⟨_,_,rfl,rfl,_,rfl,?_⟩⟩;have nlb:ln≠b:=fun h=>by
   obtain⟨x,y,z,e⟩:=st6.box;rw[h,e] at en;cases ns with
   |nil=>cases en
   |cons a r=>cases en
  refine⟨ln,_,rfl,Sl (st7.keep ln _ nlb en),fun p hp=>?_⟩;have st8:=st7.trans (Step.new (o:=.lst (cutV (ns.map V.str) none (some (2+r3)))) st7.box hp);have hpb:p≠b:=IsBox.ne st7.box hp;have ecut:cutV (ns.map V.str) none (some (2+r3))=(ns.take (2+r3).toNat).map V.str:=by
   have:=zjr (vs:=ns.map V.str) (2+r3).toNat;rw[show (((2+r3).toNat:Nat):Int)=2+r3 by lia] at this;rw[this,List.map_take]
  have st68:=st6.trans st8;have hpH:H p=none:=by
   cases e:H p with
   |none=>rfl
   |some o=>rw[(st6.trans st7).keep p o hpb e] at hp;cases hp
  refine q p (ns.take (2+r3).toNat) _ hpH st68 (by rw[zj,ecut]) (fun h=>?_) (yM (by rw[xA];lia) (yG 15)) (fun z hz=>hnm z (wS hz));have:=congrArg List.length h;rw[xA,wM] at this;lia
end D
namespace L2
open PySem PySem.Spec PyProof.Rows
theorem zkB{K:tT}{g:TG}{te:TE}{n:Nat}{H:Hp}{F:jC->Hp->List V->Prop}{a:jC}{vs:List V}(Pv:Nat->List V->Hp->Prop)(hz:vs.length<=tI)(h0:Pv 0 [] H)(hlen:∀i us H1,Pv i us H1->us.length=i)(hS:∀i us H1,Pv i us H1->SqT K H1 a vs)
  (step:∀(i:Nat)(v:V)(us:List V)(H1:Hp)(R:VK)(R':Hp->Prop),vs[i]?=some v->Pv i us H1->(∀y H2,Pv (i+1) (us++[y]) H2->R y H2)->g v (yH n none) H1 fun σ2 H2=>if true=true then te σ2 H2 R else R' H2)
  (fin:∀(us:List V)(H1:Hp)(D:jC),Pv vs.length us H1->H1 D=none->F D H1 us):
  ∃W:Nat->Nat->List V->Hp->Prop,(∃m,W 0 m [] H)/\∀i m us H,W i m us H->us.length<=tI /\
   (((Itt K a).stop i H/\∀D,H D=none->F D H us) \/
    ((Itt K a).go i H/\∀v H',(Itt K a).yld i H v H'->g v (yH n none) H' fun σ2 H2=>if true=true then te σ2 H2 fun y H4=>∃m',m'<m/\W (i+1) m' (us++[y]) H4 else ∃m',m'<m/\W (i+1) m' us H2)):=by
 refine⟨fun i m us H1=>i<=vs.length/\m=vs.length-i/\Pv i us H1,⟨_,yJ _,rfl,h0⟩,fun i m us H1 hW=>?_⟩;obtain⟨hi,hm,hu⟩:=hW;have sq:=hS _ _ _ hu;refine⟨by rw[hlen _ _ _ hu];lia,?_⟩
 by_cases hlt:i<vs.length
 ·refine .inr ⟨⟨vs,vs[i],sq,yA hlt⟩,fun v H' hy=>?_⟩
  obtain⟨e,hy⟩:=hy;subst e;exact step i v us _ _ _ (hy vs sq) hu fun y H2 p2=>⟨vs.length-(i+1),by lia,by lia,rfl,p2⟩
 ·have e:i=vs.length:=by lia
  subst e;exact .inl ⟨⟨vs,sq,yG _⟩,fun D hD=>fin us H1 D hu hD⟩
end L2
namespace D
open PySem L2
inductive spFoundsOf(vs:List V)(H:Hp)(Q:VK)(z3:XK):Prop
 |mk (a:jC) (u rv:V) (ns us:List V) (_:vs=[.ref a]) (_:Pp H a u ns us rv) (_:∀(p:jC)(H':Hp),Same H H'->H p=none->H' p=some (.lst us)->Q (.ref p) H')
structure Rep(ws:List W):Prop where
 tok:TOk (W.lst ws).toD
 tdp:(W.lst ws).toD.depth<70
 tct:cnt (W.lst ws).toD<=4100
 dp:depths ws<50
inductive spJust(K:tT)(vs:List V)(H:Hp)(Q:VK)(z3:XK):Prop
 |mk (u v:V) (ws zs:List W) (_:vs=[u,v]) (_:RS K H u (.lst ws)) (_:RS K H v (.lst zs)) (_:Rep ws) (_:Q (.bl (eqW (.lst ws) (.lst zs))) H)
mutual
theorem zjt:∀w:W,w.toD.depth<=w.depth
 |.num _=>yG _
 |.txt _=>yG _
 |.lst ws=>by
  have:=toDs_dep ws;simp only[W.toD,PyData.depth,W.depth];lia
theorem toDs_dep:∀ws:List W,PyData.depthAll (toDs ws)<=depths ws
 |[]=>yG _
 |w::r=>by
  have h1:=zjt w;have h2:=toDs_dep r;simp only[toDs,PyData.depthAll,depths];lia
end
theorem zju{r:Res}(h:r≠.stop):∃ws,r.toW=.lst ws:=by
 cases r with
 |made x=>exact⟨_,rfl⟩
 |wrong ws=>exact⟨_,rfl⟩
 |stop=>exact absurd rfl h
theorem zmn{r:Res}(h:r≠.stop)(hq:Rq r)(ho:ROk r):∃ws,r.toW=.lst ws/\Rep ws:=by
 obtain⟨ws,e⟩:=zju h;have h1:=hq.tok;have h2:=hq.ct;have h3:=zjt r.toW;have h4:=ho.dp;rw[e] at h1 h2 h3 h4;exact⟨ws,e,h1,by lia,by lia,by have:1+depths ws<=13:=h4;lia⟩
theorem zgP{a b:Res}(ha:a≠.stop)(hb:b≠.stop)(h:a.toW=b.toW):a=b:=by
 cases a with
 |stop=>exact absurd rfl ha
 |made x=>
  cases b with
  |stop=>exact absurd rfl hb
  |made y=>injection h with h;injection h with _ h;injection h with h;rw[h]
  |wrong ys=>injection h with h;injection h with h;injection h with h;exact absurd h (by decide)
 |wrong xs=>
  cases b with
  |stop=>exact absurd rfl hb
  |made y=>injection h with h;injection h with h;injection h with h;exact absurd h (by decide)
  |wrong ys=>injection h with h;injection h with _ h;rw[h]
theorem zfq:∀{a b:List Res},(∀r∈a,r≠.stop)->(∀r∈b,r≠.stop)->a.map Res.toW=b.map Res.toW->a=b
 |[],[],_,_,_=>rfl
 |[],_::_,_,_,h=>nomatch h
 |_::_,[],_,_,h=>nomatch h
 |x::a,y::b,ha,hb,h=>by
  rw[yW,yW] at h;injection h with h1 h2;rw[zgP (ha x yS) (hb y yS) h1,zfq (fun r hr=>ha r (yL _ hr)) (fun r hr=>hb r (yL _ hr)) h2]
def Fst(fs gs:List Res)(j:Nat):Prop:=j<fs.length/\j<gs.length/\(∀i,i<j->fs[i]?=gs[i]?)/\fs[j]?≠gs[j]?
def FoIs(fs gs:List Res):Option Nat->Prop
 |some j=>Fst fs gs j
 |none=>∀i,i<fs.length->i<gs.length->fs[i]?=gs[i]?
noncomputable def optV:Option Nat->V
 |some j=>.int j
 |none=>.non
theorem Fo.at{H:Hp}{us:List V}{fs:List Res}(h:Fo H us fs){i:Nat}{v:V}{f:Res}(hv:us[i]?=some v)(hf:fs[i]?=some f):RW H v f.toW:=h.rs.at' i v _ hv (by rw[yE,hf];rfl)
inductive spOther(K:tT)(vs:List V)(H:Hp)(Q:VK)(z3:XK):Prop
 |mk (a fl:jC) (u rv:V) (ns us vs':List V) (fs gs:List Res) (_:vs=[.ref a,.ref fl]) (_:Pp H a u ns us rv) (_:Fo H us fs) (_:SqL K H fl vs') (_:Fo H vs' gs) (_:∀(o:Option Nat)(H':Hp),Same H H'->FoIs fs gs o->Q (optV o) H')
inductive spBegins(K:tT)(vs:List V)(H:Hp)(Q:VK)(z3:XK):Prop
 |mk (a fl:jC) (u rv:V) (ns us vs':List V) (fs gs:List Res) (_:vs=[.ref a,.ref fl]) (_:Pp H a u ns us rv) (_:Fo H us fs) (_:SqL K H fl vs') (_:Fo H vs' gs) (_:∀(b:Bool)(H':Hp),Same H H'->(b=true ↔ gs <+: fs)->Q (.bl b) H')
theorem zny{fs gs:List Res}(hl:gs.length<=fs.length)(h:FoIs fs gs none):gs <+: fs:=by
 rw[xT];apply List.ext_getElem?;intro i
 by_cases hi:i<gs.length
 ·rw[xR hi]
  exact (h i (by lia) hi).symm
 ·rw[wO (by lia),wO (by rw[xA];lia)]
theorem zmo{fs gs:List Res}{j:Nat}(h:Fst fs gs j):¬gs <+: fs:=fun z=>by
 obtain⟨t,rfl⟩:=z;exact h.2.2.2 (by rw[yN h.2.1])
theorem zhx:FnScope ["one","other"] ["one","other"] (zq zcQ):=mkSc rfl (by decide +kernel)
theorem zhy(F:Fun K "just_so" "just_so" zcQ f fd)(m_repr:mg "repr"=none):qF P w K mg base k f fd qL13 (spJust K):=by
 refine F.okQ zhx (by rintro _ _ _ _ ⟨_,_,_,_,rfl,_⟩;rfl) fun _ _ _ _ H vs Q E hr h=>?_;obtain⟨u,v,ws,zs,rfl,ru,rv,rp,q⟩:=h;refine⟨_,(zo (zt (Z5 (zV (zlQ hr.units) (pv 0) (pv 1) (nomark _)) (zal (zV zX (zw (zdz hr.gd hr.u80) rfl m_repr ze4 (zc (pv 0) zi)) (zw (zdz hr.gd hr.u80) rfl m_repr ze4 (zc (pv 1) zi)) (nomark _)))))),?_⟩;refine⟨_,rfl,_,rfl,ws,zs,ru,rv,rp.dp,?_⟩;cases hb:eqW (.lst ws) (.lst zs) with
 |false=>
  rw[hb] at q;exact⟨false,rfl,iteF q⟩
 |true=>
  rw[hb] at q;have e:=(zcZ _ _).mp hb;rw[←e] at rv;refine⟨true,rfl,iteT ⟨_,rfl,u,.lst ws,rfl,ru,rp.tok,rp.tdp,rp.tct,_,rfl,v,.lst ws,rfl,rv,rp.tok,rp.tdp,rp.tct,rfl,?_⟩⟩;rw[decide_eq_true (rfl:V.str (W.lst ws).toD.shown=V.str (W.lst ws).toD.shown)];exact q
theorem zfr:FnScope ["paper"] ["paper"] (zq zbm):=mkSc rfl (by decide +kernel)
theorem zfs(F:Fun K "founds_of" "founds_of" zbm f fd):qF P w K mg base k f fd ["paper"] (spFoundsOf):=by
 refine F.okQ zfr (by rintro _ _ _ _ ⟨_,_,_,_,_,rfl,_⟩;rfl) fun _ _ _ _ H vs Q E hr h=>?_;obtain⟨a,u,rv,ns,us,rfl,pp,q⟩:=h;obtain⟨⟨t,ts,e1,e2,e3,e4⟩,l,few⟩:=pp;refine⟨_,(zo (zt (Zj [] [] rfl rfl (by decide) rfl (by decide) rfl (by decide) trivial rfl trivial (zct (zF zK (pv 0) zn (fun _ _=>rfl))) (fun C s H fp=>⟨Zd,(zF (show IxR _ (rIxT K) from zK) (pv 0) zn (fun _ _=>rfl))⟩)))),?_⟩;refine⟨_,rfl,a,_,1,_,rfl,rfl,Sq e1,zu (j:=1) rfl,t,rfl,⟨_,Sq e2⟩,?_⟩;refine zkq us (Sq e2) (by rw[yB];lia) (by rw[yB];exact yM (show ts.length<=1000 by lia) (by decide)) (fun i v y H1 R hv hy sm r=>?_) (fun H1 D sm hD=>?_)
 ·rw[yE] at hv
  obtain⟨b,hb,rfl⟩:=yP.mp hv;have hi:i<ns.length:=by have:=(yC.mp hb).1;lia
  exact⟨_,rfl,b,_,1,_,rfl,rfl,Sq (sm _ _ (e4 i b _ y hb (yA hi) hy)),zu (j:=1) rfl,r _ (Sr _)⟩
 ·exact q D _ (sm.trans (Sn hD)) (sm.free hD) zj
theorem zhz:FnScope ["_law_paper"] ["_law_paper"] (zq zcS):=mkSc rfl (by decide +kernel)
theorem zhA(F:Fun K "_law_founds" "_law_founds" zcS f fd):qF P w K mg base k f fd qL11 (spFoundsOf):=by
 refine F.okQ zhz (by rintro _ _ _ _ ⟨_,_,_,_,_,rfl,_⟩;rfl) fun _ _ _ _ H vs Q E hr h=>?_;obtain⟨a,u,rv,ns,us,rfl,pp,q⟩:=h;obtain⟨⟨t,ts,e1,e2,e3,e4⟩,l,few⟩:=pp;refine⟨_,(zo (zt (zbz ["_law_name","_law_found"] rfl rfl (by decide) rfl (by decide) trivial rfl (zct (zF zK (pv 0) zn (fun _ _=>rfl))) (fun C s H fp=>(show QG _ _ (gTup K 2 (gCons (zW 0) (gCons (zW 1) gNil))) from zaJ rfl (zZ (zS (i:=0) (show (["_law_name","_law_found"]:List Str).Nodup from by decide) rfl (Or.inl rfl) (Or.inr rfl)) (zZ (zS (i:=1) (show (["_law_name","_law_found"]:List Str).Nodup from by decide) rfl (Or.inl rfl) (Or.inr rfl)) zar)))) (fun C s H fp=>⟨Zd,(pv 1)⟩)))),?_⟩;refine⟨_,rfl,a,_,1,_,rfl,rfl,Sq e1,zu (j:=1) rfl,t,rfl,⟨_,Sq e2⟩,?_⟩;refine zkB (K:=K) (vs:=ts.map V.ref) (fun i ys G=>ys=us.take i/\i<=us.length/\Same H G) (by rw[yB];exact yM (show ts.length<=1000 by lia) (by decide)) ⟨rfl,yJ _,Sr _⟩ (fun i ys _ h=>by rw[h.1,xA];lia) (fun i ys _ h=>Sq (h.2.2 _ _ e2)) (fun i v ys G R R' hv hP r=>?_) (fun ys G D hP hD=>?_)
 ·rw[yE] at hv
  obtain⟨b,hb,rfl⟩:=yP.mp hv;have hi:i<ts.length:=(yC.mp hb).1;have h1:ns[i]?=some ns[i]:=yA (by lia);have h2:us[i]?=some us[i]:=yA (by lia);obtain⟨rfl,_,sm⟩:=hP;refine⟨b,_,rfl,Sq (sm _ _ (e4 i b _ _ hb h1 h2)),rfl,_,_,rfl,_,_,rfl,rfl,iteT ⟨_,rfl,r _ _ ⟨?_,by lia,sm⟩⟩⟩;rw[Z8 h2]
 ·obtain⟨rfl,_,sm⟩:=hP
  rw[yB,e3,l,vX];exact q D _ (sm.trans (Sn hD)) (sm.free hD) zj
theorem ZV:FnScope ["paper","founds","place","pair"] ["paper","founds"] (zq ZZ):=mkSc rfl (by decide +kernel)
theorem zbO(F:Fun K "first_otherwise" "first_otherwise" ZZ f fd)(G_founds_of:Have P w K mg base "founds_of" k ["paper"] (spFoundsOf))(G_just_so:Have P w K mg base "just_so" k qL13 (spJust K))(m_enumerate:mg "enumerate"=none)(m_zip:mg "zip"=none):qF P w K mg base k f fd qL14 (spOther K):=by
 refine F.okQ ZV (by rintro _ _ _ _ ⟨_,_,_,_,_,_,_,_,_,rfl,_⟩;rfl) fun _ _ _ _ H vs Q E hr h=>?_;obtain⟨a,fl,u,rv,ns,us,vs',fs,gs,rfl,pp,fo,hfl,fo2,q⟩:=h;refine⟨_,(zm (Z6 tN rfl (ziM rfl m_zip rfl m_enumerate (zc (zy G_founds_of hr rfl (zc (pv 0) zi)) (zc (pv 1) zi))) (zaJ rfl (zZ (zS (i:=2) ZV.nd rfl (Or.inl rfl)) (zZ (zS (i:=3) ZV.nd rfl (Or.inl rfl)) zar))) (zo (zN (Zh (zR (zy G_just_so hr rfl (zc (zF zK (pv 3) zn (fun _ _=>rfl)) (zc (zF zK (pv 3) zn (fun _ _=>rfl)) zi))))) (zo (zt (pv 2))) zA)))
  (zo (zt zbs))),nm2 ?_⟩
 intros;refine⟨_,rfl,a,u,rv,ns,us,rfl,pp,fun l H1 s1 hl el=>?_⟩;refine⟨_,rfl,l,fl,us,vs',rfl,Sl el,s1.seq hfl,?_⟩;have l1:=fo.len;have l2:=fo2.len;refine zlW (K:=K) (xs:=us) (ys:=vs') (fun i σ' H'=>(∀j,j<i->fs[j]?=gs[j]?)/\∃o2 o3,σ'=[some (.ref a),some (.ref fl),o2,o3]/\Same H1 H') ⟨fun j hj=>absurd hj (wF _),none,none,rfl,Sr _⟩ (fun i σ' H' _ h=>?_) (fun i x y t b σ' H' hx hy ht hb ntb h=>?_) (fun σ' H' h=>?_)
 ·obtain⟨_,_,_,_,sm⟩:=h
  exact⟨Sl (sm _ _ el),sm.seq (s1.seq hfl)⟩
 ·obtain⟨hpre,o2,o3,rfl,sm⟩:=h
  have s2:=Sn (o:=.tup [x,y]) ht;have s3:Same (upd H' t (.tup [x,y])) (upd (upd H' t (.tup [x,y])) b (.tup [.int i,.ref t])):=Sn (by rw[zH ntb.symm];exact hb);have et:upd (upd H' t (.tup [x,y])) b (.tup [.int i,.ref t]) t=some (.tup [x,y]):=s3 _ _ zj;have eb:upd (upd H' t (.tup [x,y])) b (.tup [.int i,.ref t]) b=some (.tup [.int i,.ref t]):=zj;have sA:=sm.trans (s2.trans s3);have sH:=s1.trans sA;generalize upd (upd H' t (.tup [x,y])) b (.tup [.int i,.ref t])=H2 at s3 et eb sA sH;have hi1:=(yC.mp hx).1;have hi2:=(yC.mp hy).1;have f1:fs[i]?=some fs[i]:=yA (by lia);have g1:gs[i]?=some gs[i]:=yA (by lia);have m1:=yK f1;have m2:=yK g1;obtain⟨ws,ew,rp⟩:=zmn (fo.ns _ m1) (fo.rq _ m1) (fo.ok _ m1);obtain⟨zs,ez⟩:=zju (fo2.ns _ m2);have r1:=(fo.mono (zx sH)).at hx f1;have r2:=(fo2.mono (zx sH)).at hy g1;rw[ew] at r1;rw[ez] at r2;refine⟨b,_,rfl,Sq eb,rfl,_,_,rfl,_,_,rfl,rfl,?_⟩;refine⟨_,rfl,t,_,0,_,rfl,rfl,Sq et,zu (j:=0) rfl,_,rfl,t,_,1,_,rfl,rfl,Sq et,zu (j:=1) rfl,x,y,ws,zs,rfl,r1.toRS,r2.toRS,rp,?_⟩;rw[←ew,←ez];cases hb:eqW fs[i].toW gs[i].toW with
  |true=>
   have e:=zgP (fo.ns _ m1) (fo2.ns _ m2) ((zcZ _ _).mp hb);refine⟨true,rfl,iteF ⟨fun j hj=>?_,_,_,rfl,sA⟩⟩
   by_cases hji:j<i
   ·exact hpre j hji
   ·obtain rfl:j=i:=by lia
    rw[f1,g1,e]
  |false=>
   refine⟨false,rfl,iteT ⟨_,rfl,q (some i) _ sH ⟨by lia,by lia,hpre,fun z=>?_⟩⟩⟩;rw[f1,g1] at z;rw[Option.some.inj z,zaZ] at hb;cases hb
 ·obtain⟨hpre,o2,o3,rfl,sm⟩:=h
  exact q none _ (s1.trans sm) fun i h1 h2=>hpre i (by lia)
theorem zdl:FnScope ["paper","founds"] ["paper","founds"] (zq zaF):=mkSc rfl (by decide +kernel)
theorem zdm(F:Fun K "begins_with" "begins_with" zaF f fd)(G_first_otherwise:Have P w K mg base "first_otherwise" k qL14 (spOther K))(m_len:mg "len"=none):qF P w K mg base k f fd qL14 (spBegins K):=by
 refine F.okQ zdl (by rintro _ _ _ _ ⟨_,_,_,_,_,_,_,_,_,rfl,_⟩;rfl) fun _ _ _ _ H vs Q E hr h=>?_;obtain⟨a,fl,u,rv,ns,us,vs',fs,gs,rfl,pp,fo,hfl,fo2,q⟩:=h;refine⟨_,(zo (zt (Z5 (zV zmC (zw zL rfl m_len tG (zc (zF zK (pv 0) zn (fun _ _=>rfl)) zi)) (zw zL rfl m_len tG (zc (pv 1) zi)) (nomark _)) (zal (zdo (zb5 (zy G_first_otherwise hr rfl (zc (pv 0) (zc (pv 1) zi))))))))),?_⟩;have l1:=fo.len;have l2:=fo2.len;obtain⟨⟨t,ts,e1,e2,e3,e4⟩,l,few⟩:=id pp;refine⟨_,rfl,a,_,1,_,rfl,rfl,Sq e1,zu (j:=1) rfl,_,_,rfl,.inr ⟨_,Sq e2,rfl⟩,_,rfl,_,_,rfl,.inl ⟨_,hfl,rfl⟩,_,_,rfl,rfl,_,rfl,?_⟩
 by_cases hle:gs.length<=fs.length
 ·rw[decide_eq_true (show (((vs'.length:Nat)):Int)<=(((ts.map V.ref).length:Nat):Int) by rw[yB];lia)]
  refine iteT ⟨_,rfl,_,rfl,a,fl,u,rv,ns,us,vs',fs,gs,rfl,pp,fo,hfl,fo2,fun o H' sm ho=>?_⟩;cases o with
  |none=>exact q true _ sm ⟨fun _=>zny hle ho,fun _=>rfl⟩
  |some j=>exact q false _ sm ⟨fun z=>(nomatch z),fun z=>absurd z (zmo ho)⟩
 ·rw[decide_eq_false (show ¬(((vs'.length:Nat)):Int)<=(((ts.map V.ref).length:Nat):Int) by rw[yB];lia)]
  exact iteF (q false _ (Sr _) ⟨fun z=>(nomatch z),fun z=>absurd z.length_le hle⟩)
end D
namespace L2
open PySem PySem.Spec PyProof.Rows
theorem zkC{K:tT}{tt:TT}{te:TE}{fre:St}{H:Hp}{F:jC->Hp->List V->Prop}{a:jC}{xs:List V}(Pv:Nat->List V->Prop)(hS:SqL K H a xs)(hz:xs.length<=tI)(h0:Pv 0 [])(hlen:∀i us,Pv i us->us.length<=i)
  (step:∀(i:Nat)(v:V)(us:List V)(H1:Hp)(R:VK)(R':Hp->Prop),xs[i]?=some v->Pv i us->Same H H1->(∀y H2,Pv (i+1) (us++[y])->Same H H2->R y H2)->(∀H2,Pv (i+1) us->Same H H2->R' H2)->tt (some (.int i)::some v::fre) H1 fun b H3=>if b=true then te (some (.int i)::some v::fre) H3 R else R' H3)
  (fin:∀(us:List V)(H1:Hp)(D:jC),Pv xs.length us->Same H H1->H1 D=none->F D H1 us):
  ∃W:Nat->Nat->List V->Hp->Prop,(∃m,W 0 m [] H)/\∀i m us H,W i m us H->us.length<=tI /\
   (((Ite K a).stop i H/\∀D,H D=none->F D H us) \/
    ((Ite K a).go i H/\∀v H',(Ite K a).yld i H v H'->gTup K 2 (gCons (zW 0) (gCons (zW 1) gNil)) v (yH 2 none++fre) H' fun σ2 H2=>tt σ2 H2 fun b H3=>if b=true then te σ2 H3 fun y H4=>∃m',m'<m/\W (i+1) m' (us++[y]) H4 else ∃m',m'<m/\W (i+1) m' us H3)):=by
 refine⟨fun i m us H1=>i<=xs.length/\m=xs.length-i/\Pv i us/\Same H H1,⟨_,yJ _,rfl,h0,Sr _⟩,fun i m us H1 hW=>?_⟩;obtain⟨hi,hm,hu,sm⟩:=hW;have sq:=sm.seq hS;refine⟨by have:=hlen _ _ hu;lia,?_⟩
 by_cases hlt:i<xs.length
 ·refine .inr ⟨⟨xs,xs[i],sq,yA hlt⟩,fun v H' hy=>?_⟩
  obtain⟨t,y,ht,rfl,hy,rfl⟩:=hy;have s2:=sm.trans (Sn (o:=.tup [.int i,y]) ht);exact⟨t,_,rfl,Sq zj,rfl,_,_,rfl,_,_,rfl,rfl,step i y us _ _ _ (hy xs sq) hu s2 (fun y' H2 p2 s3=>⟨xs.length-(i+1),by lia,by lia,rfl,p2,s3⟩) (fun H2 p2 s3=>⟨xs.length-(i+1),by lia,by lia,rfl,p2,s3⟩)⟩
 ·have e:i=xs.length:=by lia
  subst e;exact .inl ⟨⟨xs,sq,yG _⟩,fun D hD=>fin us H1 D hu sm hD⟩
end L2
namespace D
open PySem L2
variable{K:tT}{H:Hp}{u v:V}{x:Ex}{ps:List jC}{fss:List (List Res)}{i j n:Nat}{p:jC}{gs:List Res}{s:Str}{ns:List Nat}
structure Pps(K:tT)(H:Hp)(u:V)(x:Ex)(ps:List jC)(fss:List (List Res)):Prop where
 len:ps.length=fss.length
 po:∀(i:Nat)(p:jC)(fs:List Res),ps[i]?=some p->fss[i]?=some fs->∃rv us,PO K H p u rv us fs x
theorem Pps.mono{H':Hp}(h:Pps K H u x ps fss)(s:Same H H'):Pps K H' u x ps fss:=
 ⟨h.len,fun i p fs a b=>let ⟨rv,us,o⟩:=h.po i p fs a b;⟨rv,us,o.mono s⟩⟩
theorem Pps.get(h:Pps K H u x ps fss)(e:ps[i]?=some p):∃fs rv us,fss[i]?=some fs/\PO K H p u rv us fs x:=by
 have hi:=(yC.mp e).1;have e2:fss[i]?=some (fss[i]'(by have:=h.len;lia)):=yA _;obtain⟨rv,us,o⟩:=h.po i p _ e e2;exact⟨_,rv,us,e2,o⟩
theorem Pps.pick(h:Pps K H u x ps fss){fs:List Res}(e:fss[i]?=some fs):∃p rv us,ps[i]?=some p/\PO K H p u rv us fs x:=by
 have hi:=(yC.mp e).1;have e2:ps[i]?=some (ps[i]'(by have:=h.len;lia)):=yA _;obtain⟨rv,us,o⟩:=h.po i _ _ e2 e;exact⟨_,rv,us,e2,o⟩
def nms(x:Ex)(fs:List Res):List Str:=(ev fs x e0 []).2
noncomputable def zdL(j:Nat):W:=.lst [.txt "whole",.num j]
noncomputable def zjv(z:Str):W:=.lst [.txt "look",.txt z]
noncomputable def zjw:W:=.lst [.txt "none"]
def MB(x:Ex)(fss:List (List Res))(c:Nat)(w:W):Prop:=
 (∃(j:Nat)(fs:List Res),fss[j]?=some fs/\fs.length=c/\(∀i,i<j->∀fs',fss[i]?=some fs'->fs'.length≠c)/\w=zdL j) \/
 ((∀fs∈fss,fs.length≠c)/\∃(fs:List Res)(z:Str),fss[0]?=some fs/\(nms x fs)[c]?=some z/\w=zjv z)\/(fss=[]/\w=zjw)
def Due(x:Ex)(fss:List (List Res))(gs:List Res)(w:W):Prop:=
 (∃j:Nat,fss[j]?=some gs/\(∀i,i<j->fss[i]?≠some gs)/\w=zdL j) \/
 ((∀fs∈fss,fs≠gs)/\∃(j:Nat)(fs:List Res)(z:Str),fss[j]?=some fs/\gs <+: fs/\(∀i,i<j->∀fs',fss[i]?=some fs'->¬gs <+: fs')/\(nms x fs)[gs.length]?=some z/\w=zjv z) \/
 ((∀fs∈fss,¬gs <+: fs)/\w=zjw)
inductive spMatch(K:tT)(vs:List V)(H:Hp)(Q:VK)(z3:XK):Prop
 |mk (l:jC) (ps:List jC) (c:Nat) (u:V) (x:Ex) (fss:List (List Res)) (_:vs=[.ref l,.int c]) (_:H l=some (.lst (ps.map V.ref))) (_:ps.length<=1000) (_:Pps K H u x ps fss) (_:(∀fs∈fss,c<=fs.length)) (_:∀(v:V)(w:W)(H':Hp),Same H H'->MB x fss c w->RW H' v w->Q v H')
inductive spMatched(K:tT)(vs:List V)(H:Hp)(Q:VK)(z3:XK):Prop
 |mk (l fl:jC) (ps:List jC) (u:V) (x:Ex) (fss:List (List Res)) (us:List V) (gs:List Res) (_:vs=[.ref l,.ref fl]) (_:H l=some (.lst (ps.map V.ref))) (_:ps.length<=1000) (_:Pps K H u x ps fss) (_:SqL K H fl us) (_:Fo H us gs) (_:∀(v:V)(w:W)(H':Hp),Same H H'->Due x fss gs w->RW H' v w->Q v H')
theorem RW.one{x:W}(e:H p=some (.tup [u]))(h1:RW H u x):RW H (.ref p) (.lst [x]):=.lst e rfl fun i a b ha hb=>match i,ha,hb with
 |0,ha,hb=>by cases ha;cases hb;exact h1
 |j+1,ha,hb=>by simp at ha
theorem RW.two_inv{y:W}(h:RW H v (.lst [.txt s,y])):∃a v',v=.ref a/\H a=some (.tup [.str s,v'])/\RW H v' y:=by
 obtain⟨a,vs,rfl,e,hw⟩:=h.tup;obtain⟨u0,us,rfl,r0,hw⟩:=hw.cons;obtain⟨u1,us,rfl,r1,hw⟩:=hw.cons;cases hw.nil';cases r0.str;exact⟨a,u1,rfl,e,r1⟩
theorem RW.one_inv(h:RW H v (.lst [.txt s])):∃a,v=.ref a/\H a=some (.tup [.str s]):=by
 obtain⟨a,vs,rfl,e,hw⟩:=h.tup;obtain⟨u0,us,rfl,r0,hw⟩:=hw.cons;cases hw.nil';cases r0.str;exact⟨a,rfl,e⟩
theorem zgg{i j:Int}(h:i≠j):V.int i≠V.int j:=fun z=>h (by injection z)
structure Sel(fss:List (List Res))(gs:List Res)(n:Nat)(ns:List Nat):Prop where
 mem:∀j,j∈ns ↔ j<n/\∃fs,fss[j]?=some fs/\gs <+: fs
 ord:ns.Pairwise (· < ·)
theorem Sel.zero:Sel fss gs 0 []:=⟨fun j=>⟨fun h=>(nomatch h),fun h=>absurd h.1 (wF _)⟩,uO.nil⟩
theorem Sel.yes{fs:List Res}(h:Sel fss gs n ns)(e:fss[n]?=some fs)(p:gs <+: fs):Sel fss gs (n+1) (ns++[n]):=by
 refine⟨fun j=>⟨fun hj=>?_,fun ⟨h1,h2⟩=>?_⟩,?_⟩
 ·rcases yT.mp hj with hj|hj
  ·have:=(h.mem j).mp hj
   exact⟨by lia,this.2⟩
  ·rw[yI.mp hj]
   exact⟨by lia,fs,e,p⟩
 ·by_cases hjn:j=n
  ·rw[hjn];exact xF _ (yI.mpr rfl)
  ·exact wR _ ((h.mem j).mpr ⟨by lia,h2⟩)
 ·rw[List.pairwise_append]
  refine⟨h.ord,List.pairwise_singleton _ _,fun a ha b hb=>?_⟩;rw[yI.mp hb];exact ((h.mem a).mp ha).1
theorem Sel.no{fs:List Res}(h:Sel fss gs n ns)(e:fss[n]?=some fs)(p:¬gs <+: fs):Sel fss gs (n+1) ns:=by
 refine⟨fun j=>⟨fun hj=>?_,fun ⟨h1,fs',e',p'⟩=>?_⟩,h.ord⟩
 ·have:=(h.mem j).mp hj
  exact⟨by lia,this.2⟩
 ·refine (h.mem j).mpr ⟨?_,fs',e',p'⟩
  by_cases hjn:j=n
  ·rw[hjn,e] at e'
   cases e';exact absurd p' p
  ·lia
noncomputable def at2(fss:List (List Res))(ns:List Nat):List (List Res):=ns.map fun j=>(fss[j]?).getD []
theorem Sel.at2(h:Sel fss gs n ns){fs:List Res}(e:(at2 fss ns)[i]?=some fs):∃j:Nat,ns[i]?=some j/\fss[j]?=some fs/\gs <+: fs:=by
 unfold D.at2 at e;rw[yE] at e;obtain⟨j,hj,e⟩:=yP.mp e;obtain⟨_,fs',e',p⟩:=(h.mem j).mp (yK hj);rw[e'] at e;cases e;exact⟨j,hj,e',p⟩
theorem Sel.to2{fs:List Res}(h:Sel fss gs n ns)(hj:j<n)(e:fss[j]?=some fs)(p:gs <+: fs):∃i:Nat,ns[i]?=some j/\(D.at2 fss ns)[i]?=some fs:=by
 obtain⟨i,hi,e2⟩:=xS.mp ((h.mem j).mpr ⟨hj,fs,e,p⟩);have e3:ns[i]?=some j:=by rw[yA hi,e2]
 refine⟨i,e3,?_⟩;unfold D.at2;rw[yE,e3];show some ((fss[j]?).getD [])=_;rw[e]
 rfl
theorem Sel.lt{i' j':Nat}(h:Sel fss gs n ns)(e:ns[i]?=some j)(e':ns[i']?=some j')(l:j<j'):i<i':=by
 obtain⟨h1,e1⟩:=yC.mp e;obtain⟨h2,e2⟩:=yC.mp e'
 by_cases c:i<i'
 ·exact c
 ·by_cases d:i=i'
  ·subst d
   rw[e] at e';cases e';exact absurd l (xN _)
  ·have:=vR.mp h.ord i' i h2 h1 (by lia)
   lia
theorem znz{w:W}(s:Sel fss gs fss.length ns)(h:MB x (at2 fss ns) gs.length w):
  (∃j k,w=zdL j/\ns[j]?=some k/\Due x fss gs (zdL k))\/((∃z,w=zjv z)/\Due x fss gs w)\/(w=zjw/\Due x fss gs w):=by
 have lt:∀{i:Nat}{fs:List Res},fss[i]?=some fs->i<fss.length:=fun e=>(yC.mp e).1;rcases h with⟨j,fs,h1,h2,h3,rfl⟩|⟨h1,fs,z,h2,h3,rfl⟩|⟨h1,rfl⟩
 ·obtain⟨k,e1,e2,p⟩:=s.at2 h1
  obtain rfl:=p.eq_of_length h2.symm;refine .inl ⟨j,k,rfl,e1,.inl ⟨k,e2,fun i hi z=>?_,rfl⟩⟩;obtain⟨j',e3,e4⟩:=s.to2 (lt z) z (vG _);exact h3 j' (s.lt e3 e1 hi) _ e4 rfl
 ·obtain⟨k,e1,e2,p⟩:=s.at2 h2
  refine .inr (.inl ⟨⟨z,rfl⟩,.inr (.inl ⟨fun fs' hf e=>?_,k,fs,z,e2,p,fun i hi fs' e p'=>?_,h3,rfl⟩)⟩)
  ·subst e
   obtain⟨i,hi,e⟩:=xS.mp hf;obtain⟨i',_,e4⟩:=s.to2 hi (by rw[yA hi,e]) (vG _);exact h1 _ (yK e4) rfl
  ·obtain⟨i',e3,_⟩:=s.to2 (lt e) e p'
   exact absurd (s.lt e3 e1 hi) (wF _)
 ·refine .inr (.inr ⟨rfl,.inr (.inr ⟨fun fs hf p=>?_,rfl⟩)⟩)
  obtain⟨i,hi,e⟩:=xS.mp hf;obtain⟨i',_,e4⟩:=s.to2 hi (by rw[yA hi,e]) p;rw[h1] at e4;simp at e4
noncomputable def ps2(ps:List jC)(ns:List Nat):List jC:=ns.map fun j=>(ps[j]?).getD 0
theorem Pps.sel(h:Pps K H u x ps fss)(s:Sel fss gs n ns):Pps K H u x (ps2 ps ns) (at2 fss ns):=by
 refine⟨by simp[ps2,at2],fun i p fs e1 e2=>?_⟩;obtain⟨j,hj,ej,_⟩:=s.at2 e2;obtain⟨p',rv,us,e3,po⟩:=h.pick ej;unfold ps2 at e1;rw[yE,hj] at e1;have e1:some ((ps[j]?).getD 0)=some p:=e1;rw[e3] at e1;cases e1;exact⟨rv,us,po⟩
theorem ZA:FnScope ["papers","count","number","paper"] ["papers","count"] (zq ZG):=mkSc rfl (by decide +kernel)
theorem za3(F:Fun K "matched_beginning" "matched_beginning" ZG f fd)(m_enumerate:mg "enumerate"=none)(m_len:mg "len"=none):qF P w K mg base k f fd ["papers","count"] (spMatch K):=by
 refine F.okQ ZA (by rintro _ _ _ _ ⟨_,_,_,_,_,_,rfl,_⟩;rfl) fun _ _ _ _ H vs Q E hr h=>?_;obtain⟨l,ps,c,u,x,fss,rfl,hl,few,hpp,hc,q⟩:=h;refine⟨_,(zm (Z6 tN rfl (zcW rfl m_enumerate (zc (pv 0) zi)) (zaJ rfl (zZ (zS (i:=2) ZA.nd rfl (Or.inl rfl)) (zZ (zS (i:=3) ZA.nd rfl (Or.inl rfl)) zar))) (zo (zN (zE zX (zw zL rfl m_len tG (zc (zF zK (pv 3) zn (fun _ _=>rfl)) zi)) (pv 1) (nomark _)) (zo (zt (zG (zc zr (zc (pv 2) zi))))) zA)))
  (zo (zt (ZB (zE zdP (zw zL rfl m_len tG (zc (pv 0) zi)) zn (nomark _)) (zG (zc zr (zc (zF zK (zF zK (zF zK (zF zD (pv 0) zn (fun _ _=>rfl)) zn (fun _ _=>rfl)) (pv 1) (fun _ _=>rfl)) zn (fun _ _=>rfl)) zi))) (zG (zc zr zi)))))),nm2 ?_⟩
 intros;refine⟨_,rfl,l,_,rfl,Sl hl,?_⟩;have hlen:=hpp.len;refine zgA (K:=K) (xs:=ps.map V.ref) (fun i σ' H'=>(∀j,j<i->∀fs,fss[j]?=some fs->fs.length≠c)/\∃o2 o3,σ'=[some (.ref l),some (.int c),o2,o3]/\Same H H') ⟨fun j hj=>absurd hj (wF _),none,none,rfl,Sr _⟩ (fun i σ' H' _ h=>by obtain⟨_,_,_,_,sm⟩:=h;exact Sl (sm _ _ hl)) (fun i x' t σ' H' hx ht h=>?_) (fun σ' H' h=>?_)
 ·obtain⟨hpre,o2,o3,rfl,sm⟩:=h
  rw[yE] at hx;obtain⟨p',hp',rfl⟩:=yP.mp hx;have s1:=Sn (o:=.tup [.int (i:Int),.ref p']) ht;obtain⟨fs,rv,us,hfs,po⟩:=hpp.get hp';have sA:=sm.trans s1;obtain⟨⟨t',ts,e1,e2,e3,e4⟩,l',few'⟩:=po.pp;rw[yB] at e3;have hnl:=po.nl;refine⟨t,_,rfl,Sq zj,rfl,_,_,rfl,_,_,rfl,rfl,?_⟩;refine⟨_,rfl,p',_,1,_,rfl,rfl,Sq (sA _ _ e1),zu (j:=1) rfl,_,_,rfl,.inr ⟨_,Sq (sA _ _ e2),rfl⟩,_,rfl,rfl,_,rfl,?_⟩
  by_cases hcl:fs.length=c
  ·rw[decide_eq_true (show V.int (((ts.map V.ref).length:Nat):Int)=V.int ((c:Nat):Int) by rw[yB,e3,hnl,hcl])]
   refine iteT ⟨_,rfl,zl2,fun a ha=>?_⟩;exact q _ (zdL i) _ (sA.trans (Sn ha)) (.inl ⟨i,fs,hfs,hcl,fun j hj fs' hf=>hpre j hj fs' hf,rfl⟩) (RW.pair zj (.txt _) (.num _))
  ·rw[decide_eq_false (show V.int (((ts.map V.ref).length:Nat):Int)≠V.int ((c:Nat):Int) from zgg (by rw[yB,e3];lia))]
   refine iteF ⟨fun j hj fs' hf=>?_,_,_,rfl,sA⟩
   by_cases hji:j<i
   ·exact hpre j hji fs' hf
   ·obtain rfl:j=i:=by lia
    rw[hfs] at hf;cases hf;exact hcl
 ·obtain⟨hpre,o2,o3,rfl,sm⟩:=h
  rw[yB] at hpre;have hno:∀fs∈fss,fs.length≠c:=fun fs hfs=>by
   obtain⟨j,hj,e⟩:=xS.mp hfs;exact hpre j (by lia) fs (by rw[←e];exact yA hj)
  refine⟨_,rfl,_,_,rfl,.inl ⟨_,Sl (sm _ _ hl),rfl⟩,_,_,rfl,rfl,_,rfl,?_⟩;cases ps with
  |nil=>
   obtain rfl:fss=[]:=xI.mp hlen.symm;refine iteF ⟨zl1,fun a ha=>?_⟩;exact q _ zjw _ (sm.trans (Sn ha)) (.inr (.inr ⟨rfl,rfl⟩)) (RW.one zj (.txt _))
  |cons p r=>
   obtain⟨fs,rv,us,hfs,po⟩:=hpp.get (i:=0) (p:=p) rfl;have hm:=yK hfs;have h1:=hc fs hm;have h2:=hno fs hm;obtain⟨⟨t',ts,e1,e2,e3,e4⟩,l',few'⟩:=po.pp;rw[yB] at e3;have hnl:=po.nl;have hul:=po.fo.len;have hz:(nms x fs)[c]?=some ((nms x fs)[c]'(by show c<(ev fs x e0 []).2.length;lia)):=yA _;have hn:((ev fs x e0 []).2.map V.str)[c]?=some (.str ((nms x fs)[c]'(by show c<(ev fs x e0 []).2.length;lia))):=by rw[yE];exact congrArg (uW V.str) hz
   have ht:ts[c]?=some ts[c]:=yA (by lia);have hu:us[c]?=some us[c]:=yA (by lia);rw[decide_eq_true (show (0:Int)<(((((p::r).map V.ref).length:Nat)):Int) by simp)];refine iteT ⟨_,rfl,l,_,0,_,rfl,rfl,Sl (sm _ _ hl),zu (j:=0) rfl,p,_,1,_,rfl,rfl,Sq (sm _ _ e1),zu (j:=1) rfl,_,rfl,t',_,c,.ref ts[c],rfl,rfl,Sq (sm _ _ e2),zu (by rw[yE,ht];rfl),ts[c],_,0,_,rfl,rfl,Sq (sm _ _ (e4 c _ _ _ ht hn hu)),zu (j:=0) rfl,zl2,fun a ha=>?_⟩;exact q _ (zjv _) _ (sm.trans (Sn ha)) (.inr (.inl ⟨hno,fs,_,hfs,hz,rfl⟩)) (RW.pair zj (.txt _) (.txt _))
theorem zb4:FnScope ["papers","founds","numbers","answer"] ["papers","founds"] (zq zcR):=mkSc rfl (by decide +kernel)
theorem zhB(F:Fun K "matched" "matched" zcR f fd)(G_matched_beginning:Have P w K mg base "matched_beginning" k ["papers","count"] (spMatch K))(G_begins_with:Have P w K mg base "begins_with" k qL14 (spBegins K))(m_enumerate:mg "enumerate"=none)(m_len:mg "len"=none):qF P w K mg base k f fd ["papers","founds"] (spMatched K):=by
 refine F.okQ zb4 (by rintro _ _ _ _ ⟨_,_,_,_,_,_,_,_,rfl,_⟩;rfl) fun _ _ _ _ H vs Q E hr h=>?_;obtain⟨l,fl,ps,u,x,fss,us,gs,rfl,hl,few,hpp,hfl,fo,q⟩:=h;refine⟨_,(zm (zck (i:=2) ["number","paper"] [1] ["founds"] rfl rfl (by decide) rfl (by decide) ⟨rfl,trivial⟩ rfl ⟨⟨rfl,rfl,Or.inr (Or.inl rfl),(by show (some NameKind.cell:Option NameKind)≠some .local;decide),⟨_,rfl⟩⟩,trivial⟩ (.inr kps2) (zcW rfl m_enumerate (zc (pv 0) zi)) (fun C s H fp=>(show QG _ _ (gTup K 2 (gCons (zW 0) (gCons (zW 1) gNil))) from zaJ rfl (zZ (zS (i:=0) (show (["number","paper","founds"]:List Str).Nodup from by decide) rfl (Or.inl rfl) (Or.inr rfl)) (zZ (zS (i:=1) (show (["number","paper","founds"]:List Str).Nodup from by decide) rfl (Or.inl rfl) (Or.inr rfl)) zar)))) (fun C s H fp=>⟨(zcj (zR (zy G_begins_with hr rfl (zc (pv 1) (zc (pv 2) zi))))),(pv 0)⟩) zb4.nd rfl (Or.inl rfl))
  (zm (zC (i:=3) zb4.nd rfl (Or.inl rfl) (zy G_matched_beginning hr rfl (zc (Zj [0] ["papers"] rfl rfl (by decide) rfl (by decide) rfl (by decide) ⟨rfl,trivial⟩ rfl ⟨⟨rfl,rfl,Or.inr (Or.inl rfl),(by show (some NameKind.cell:Option NameKind)≠some .local;decide),⟨_,rfl⟩⟩,trivial⟩ (zac (pv 2)) (fun C s H fp=>⟨Zd,(zF (show IxR _ (rIxL K) from zD) (pv 1) (pv 0) (fun _ _=>rfl))⟩)) (zc (zw zL rfl m_len tG (zc (pv 1) zi)) zi))))
  (zo (zt (ZB (zE zX (zF zK (pv 3) zn (fun _ _=>rfl)) zr (nomark _)) (zG (zc zr (zc (zF zD (pv 2) (zF zK (pv 3) zn (fun _ _=>rfl)) (fun _ _=>rfl)) zi))) (pv 3)))))),nm3 ?_⟩
 intros;have hlen:=hpp.len;have hul:=fo.len;refine⟨_,rfl,l,_,rfl,Sl hl,?_⟩;refine zkC (K:=K) (xs:=ps.map V.ref) (fun i us=>∃ns,us=ns.map (fun j:Nat=>V.int j)/\ns.length<=i/\Sel fss gs i ns) (Sl hl) (by rw[yB];exact yM few (by decide)) ⟨[],rfl,yG _,Sel.zero⟩ (fun i us h=>by obtain⟨ns,rfl,h,_⟩:=h;rw[yB];exact h) (fun i v us' H1 R R' hv hP sm r r'=>?_) (fun us' H1 D hP sm hD=>?_)
 ·obtain⟨ns,rfl,hns,sel⟩:=hP
  rw[yE] at hv;obtain⟨p,hp,rfl⟩:=yP.mp hv;obtain⟨fs,rv,us1,hfs,po⟩:=hpp.get hp;have po1:=po.mono sm;refine⟨_,rfl,_,rfl,p,fl,u,rv,_,us1,us,fs,gs,rfl,po1.pp,po1.fo,sm.seq hfl,fo.mono (zx sm),fun b H2 s2 hb=>⟨b,rfl,?_⟩⟩;cases b with
  |true=>exact iteT ⟨_,rfl,r _ _ ⟨ns++[i],by rw[xK];rfl,by rw[yD];exact Nat.succ_le_succ hns,sel.yes hfs (hb.mp rfl)⟩ (sm.trans s2)⟩
  |false=>exact iteF (r' _ ⟨ns,rfl,by lia,sel.no hfs fun z=>(nomatch (hb.mpr z))⟩ (sm.trans s2))
 ·obtain⟨ns,rfl,hns,sel⟩:=hP
  rw[yB,hlen] at sel;rw[yB] at hns;have eD:upd H1 D (.lst (ns.map fun j:Nat=>V.int j)) D=some (.lst (ns.map fun j:Nat=>V.int j)):=zj;have s1:=sm.trans (Sn (o:=.lst (ns.map fun j:Nat=>V.int j)) hD);generalize upd H1 D (.lst (ns.map fun j:Nat=>V.int j))=H2 at eD s1;dsimp only[zW];have hpp2:=(hpp.sel sel).mono s1;refine⟨_,rfl,D,rfl,⟨_,Sl eD⟩,?_⟩;refine zee ((ps2 ps ns).map V.ref) (Sl eD) (by simp[ps2]) (by rw[yB];exact yM (yM hns few) (by decide)) (fun i v y H3 R hv hy sm3 r=>?_) (fun H3 D2 sm3 hD2=>?_)
  ·rw[yE] at hv hy
   obtain⟨j,hj,rfl⟩:=yP.mp hv;obtain⟨p,hp,rfl⟩:=yP.mp hy;unfold ps2 at hp;rw[yE,hj] at hp;obtain⟨_,fs,hfs,_⟩:=(sel.mem j).mp (yK hj);obtain⟨p',rv,us',e3,_⟩:=hpp.pick hfs;have hp:some ((ps[j]?).getD 0)=some p:=hp;rw[e3] at hp;cases hp;exact⟨_,rfl,_,rfl,l,_,j,_,rfl,rfl,Sl (sm3 _ _ (s1 _ _ hl)),zu (by rw[yE,e3];rfl),r _ (Sr _)⟩
  ·have eD2:upd H3 D2 (.lst ((ps2 ps ns).map V.ref)) D2=some (.lst ((ps2 ps ns).map V.ref)):=zj
   have s2:=sm3.trans (Sn (o:=.lst ((ps2 ps ns).map V.ref)) hD2);generalize upd H3 D2 (.lst ((ps2 ps ns).map V.ref))=H4 at eD2 s2;have s4:=s1.trans s2;refine⟨_,rfl,_,_,rfl,.inl ⟨_,s4.seq hfl,rfl⟩,D2,ps2 ps ns,us.length,u,x,at2 fss ns,rfl,eD2,by simp only[ps2,yB];lia,hpp2.mono s2,fun fs hf=>?_,fun v w H5 s5 mb rw5=>?_⟩
   ·obtain⟨i,hi,e⟩:=xS.mp hf
    obtain⟨_,_,_,p⟩:=sel.at2 (show (at2 fss ns)[i]?=some fs by rw[yA hi,e]);have:=p.length_le;lia
   ·rw[hul] at mb
    have sH:=s4.trans s5;dsimp only[zW];rcases znz sel mb with⟨j,k',rfl,hk,due⟩|⟨⟨z,rfl⟩,due⟩|⟨rfl,due⟩
    ·obtain⟨a,v',rfl,ea,rv'⟩:=rw5.two_inv
     cases rv';refine⟨_,rfl,a,_,0,_,rfl,rfl,Sq ea,zu (j:=0) rfl,rfl,_,rfl,iteT ⟨_,rfl,_,rfl,a,_,1,_,rfl,rfl,Sq ea,zu (j:=1) rfl,D,_,j,.int k',rfl,rfl,Sl (s5 _ _ (s2 _ _ eD)),zu (by rw[yE,hk];rfl),zl2,fun b hb=>?_⟩⟩;exact q _ (zdL k') _ (sH.trans (Sn hb)) due (RW.pair zj (.txt _) (.num _))
    ·obtain⟨a,v',rfl,ea,rv'⟩:=rw5.two_inv
     exact⟨_,rfl,a,_,0,_,rfl,rfl,Sq ea,zu (j:=0) rfl,rfl,_,rfl,iteF ⟨_,rfl,q _ _ _ sH due rw5⟩⟩
    ·obtain⟨a,rfl,ea⟩:=rw5.one_inv
     exact⟨_,rfl,a,_,0,_,rfl,rfl,Sq ea,zu (j:=0) rfl,rfl,_,rfl,iteF ⟨_,rfl,q _ _ _ sH due rw5⟩⟩
variable{H H':Hp}{u rv:V}{us:List V}{b p:jC}{K:tT}{x:Ex}{ps:List jC}{fss:List (List Res)}
theorem Pp.tups{a:jC}{ns:List V}(h:Pp H a u ns us rv)(s:Tups H H'):Pp H' a u ns us rv:=by
 obtain⟨⟨t,ts,e1,e2,e3,e4⟩,l,f⟩:=h;exact⟨⟨t,ts,s _ _ e1,s _ _ e2,e3,fun j t x y a b c=>s _ _ (e4 j t x y a b c)⟩,l,f⟩
theorem PO.g{K:tT}{H H':Hp}{p b:jC}{u rv:V}{us:List V}{fs:List Res}{x:Ex}(h:PO K H p u rv us fs x)(g:G b H H'):PO K H' p u rv us fs x:=
 ⟨h.ru.mono g.ts,h.wf,h.hi,h.fo.mono g.ts,h.nst,h.nl,h.pp.tups g.ts,g.rr h.rr⟩
theorem Pps.g{K:tT}{H H':Hp}{b:jC}{u:V}{x:Ex}{ps:List jC}{fss:List (List Res)}(h:Pps K H u x ps fss)(g:G b H H'):Pps K H' u x ps fss:=
 ⟨h.len,fun i p fs a b=>let ⟨rv,us,o⟩:=h.po i p fs a b;⟨rv,us,o.g g⟩⟩
theorem Step.g(hb:IsBox H b)(st:Step b H H'):G b H H':=⟨st.keep,by obtain⟨a,f,m,e⟩:=hb;exact⟨_,e⟩⟩
theorem Pps.step(h:Pps K H u x ps fss)(hb:IsBox H b)(st:Step b H H'):Pps K H' u x ps fss:=h.g (st.g hb)
theorem PO.dp5{fs:List Res}(h:PO K H p u rv us fs x):(ppW fs x).depth<50:=by
 have h1:=h.gr.dp;have h2:=zbN x [] h.wf;have h3:=zjo (ev fs x e0 []).2 fs h.fo.ok;have h4:=h.hi;simp only[ppW,W.depth,depths];lia
theorem zft{n:Nat}(h:0<n):∀ws:List W,(∀w∈ws,w.depth<n)->depths ws<n
 |[],_=>by rw[depths];exact h
 |w::r,hw=>by
  have h1:=hw w yS;have h2:=zft h r fun y hy=>hw y (yL _ hy);rw[depths];lia
theorem Fo.dps{fs:List Res}(h:Fo H us fs):depths (fs.map Res.toW)<50:=zft (by decide) _ fun w hw=>by
 obtain⟨r,hr,rfl⟩:=uB.mp hw;have:=(h.ok r hr).dp;lia
theorem Fo.take{fs:List Res}(h:Fo H us fs)(n:Nat):Fo H (us.take n) (fs.take n):=
 ⟨⟨by rw[xA,yB,xA,h.len],fun i v w a b=>by
   rw[uQ] at a;rw[yE,uQ] at b
   split at a
   ·rw[if_pos (by assumption)] at b
    exact h.rs.at' i v w a (by rw[yE];exact b)
   ·cases a⟩,fun r hr=>h.ok r (wS hr),fun r hr=>h.ns r (wS hr),fun r hr=>h.rq r (wS hr),by have:=h.few;rw[xA];lia⟩
theorem zgh{vs:List V}{fs gs:List Res}(h:Fo H us fs)(h':Fo H' vs gs):eqW (.lst (fs.map Res.toW)) (.lst (gs.map Res.toW))=true ↔ fs=gs:=
 ⟨fun z=>by have:=(zcZ _ _).mp z;injection this with this;exact zfq h.ns h'.ns this,fun z=>by rw[z,zaZ]⟩
inductive spBegin(K:tT)(vs:List V)(H:Hp)(Q:VK)(z3:XK):Prop
 |mk (b l:jC) (u0 u:V) (ps:List jC) (x:Ex) (fss:List (List Res)) (_:vs=[.ref b,u0,.ref l]) (_:IsBox H b) (_:H l=some (.lst (ps.map V.ref))) (_:l≠b) (_:ps.length<=1000) (_:Pps K H u x ps fss) (_:∀(r:jC)(us:List V)(gs:List Res)(H':Hp),Step b H H'->H r=none->r≠b->H' r=some (.lst us)->Fo H' us gs->(gs=[]\/∃fs∈fss,gs <+: fs)->Q (.ref r) H')
theorem zgi:Fo H [] []:=⟨⟨rfl,fun i v w h=>by simp at h⟩,fun _ h=>(nomatch h),fun _ h=>(nomatch h),fun _ h=>(nomatch h),yJ _⟩
theorem zfu:FnScope ["_law_box_here","_law_rule_here","_law_papers","_law_founds_here"] ["_law_box_here","_law_rule_here","_law_papers"] (zq zd8):=mkSc rfl (by decide +kernel)
theorem zjx(F:Fun K "_law_begin" "_law_begin" zd8 f fd)(G_ltake:Have P w K mg base "_law_take" k qL2 (spTake))(G_lfounds:Have P w K mg base "_law_founds" k qL11 (spFoundsOf))(m_len:mg "len"=none):qF P w K mg base k f fd qL15 (spBegin K):=by
 refine F.okQ zfu (by rintro _ _ _ _ ⟨_,_,_,_,_,_,_,rfl,_⟩;rfl) fun _ _ _ _ H vs Q E hr h=>?_;obtain⟨b,l,u0,u,ps,x,fss,rfl,hb,hl,nlb,few,hpp,q⟩:=h;refine⟨_,(zm (zN (PW.pt (zaM (zE (zdx (yZ (yY _ 64) hr.units)) (pv 2) (zO zi) (nomark _)) (zae (zE zX (zy G_ltake hr rfl (zc (pv 0) (zc zn zi))) zn (nomark _))))) (zo (zt (zO zi))) zA)
  (zm (zC (i:=3) zfu.nd rfl (Or.inl rfl) (zy G_lfounds hr rfl (zc (zF zD (pv 2) (zy G_ltake hr rfl (zc (pv 0) (zc (zw zL rfl m_len tG (zc (pv 2) zi)) zi))) (fun _ _=>rfl)) zi)))
  (zo (zt (Zr zbf (pv 3) ZX (ZF (zy G_ltake hr rfl (zc (pv 0) (zc (zJ Zi (zw zL rfl m_len tG (zc (pv 3) zi)) zn) zi))))))))),nm3 ?_⟩
 intros;have hlen:=hpp.len;refine⟨_,rfl,zl0,fun e he=>?_⟩;have s1:=Sn (o:=.lst []) he;have ee:upd H e (.lst []) e=some (.lst []):=zj;have neb:e≠b:=IsBox.ne hb he;generalize upd H e (.lst [])=H1 at s1 ee;have st1:=Step.ofSame' hb s1;refine⟨l,e,_,rfl,rfl,Sl (s1 _ _ hl),Sl ee,_,rfl,?_⟩;cases ps with
 |nil=>
  refine iteT (iteT ⟨zl0,fun r hr=>?_⟩);exact q r [] [] _ (st1.trans (Step.new st1.box hr)) (s1.free hr) (IsBox.ne st1.box hr) zj zgi (.inl rfl)
 |cons p ps=>
  refine iteF ⟨_,rfl,b,5,rfl,st1.box,by decide,by decide,fun m H2 m0 m1 st2=>⟨rfl,_,rfl,?_⟩⟩;have st12:=st1.trans st2;refine ite2 (fun _=>⟨zl0,fun r hr=>?_⟩) (fun _=>?_)
  ·exact q r [] [] _ (st12.trans (Step.new st12.box hr)) (st12.free (IsBox.ne st12.box hr) hr) (IsBox.ne st12.box hr) zj zgi (.inl rfl)
  have hl2:=st12.keep l _ nlb hl;refine⟨_,rfl,_,rfl,_,rfl,_,_,rfl,.inl ⟨_,Sl hl2,rfl⟩,b,_,rfl,st12.box,by rw[yB,yQ];lia,by rw[yB];lia,fun j H3 j0 j1 st3=>?_⟩;rw[yB] at j1;have st13:=st12.trans st3;have hl3:=st13.keep l _ nlb hl;have hj:(p::ps)[j.toNat]?=some ((p::ps)[j.toNat]'(by lia)):=yA _;have hjz:((j.toNat:Nat):Int)=j:=by lia
  obtain⟨fs,rv,us1,hfs,po⟩:=(hpp.step hb st13).get hj;generalize ((p::ps)[j.toNat]'(by lia))=pj at hj po;refine⟨l,_,j,.ref pj,rfl,rfl,Sl hl3,by rw[←hjz];exact zu (by rw[yE,hj];rfl),pj,u,rv,_,us1,rfl,po.pp,fun r H4 s4 hr4 er=>?_⟩;have st14:=st13.trans (Step.ofSame' st13.box s4);have nrb:r≠b:=IsBox.ne st13.box hr4;have hul:=po.fo.len;have hfew:=po.fo.few;dsimp only[zW];refine⟨_,rfl,_,rfl,_,rfl,_,_,rfl,.inl ⟨_,Sl er,rfl⟩,_,_,rfl,rfl,b,_,rfl,st14.box,by lia,by lia,fun m H5 m0 m1 st5=>?_⟩;have st15:=st14.trans st5;refine⟨_,rfl,r,us1,rfl,Sl (st5.keep r _ nrb er),fun r2 hr2=>?_⟩;have hmz:((m.toNat:Nat):Int)=m:=by lia
  rw[←hmz,zjr];have st6:=st15.trans (Step.new (o:=.lst (us1.take m.toNat)) st15.box hr2);have fo6:=((((po.fo.mono (zx s4)).mono (st5.tups st14.box)).mono (zx (Sn (o:=.lst (us1.take m.toNat)) hr2))).take m.toNat);exact q r2 _ _ _ st6 (st15.free (IsBox.ne st15.box hr2) hr2) (IsBox.ne st15.box hr2) zj fo6 (.inr ⟨fs,yK hfs,List.take_prefix _ _⟩)
variable{K:tT}{H H' H2:Hp}{u:V}{x:Ex}{ps:List jC}{fss:List (List Res)}{us:List V}{b1 pl:jC}
noncomputable def zdn(q:List Str×Int):Ex:=.eachE "x" (.lit (.lst (q.1.map W.txt))) (.elseE (.lookE (.var "x")) (.lit (.num q.2)))
structure LqOk(names:List Str)(q:List Str×Int):Prop where
 len:q.1.length=10
 mem:∀z∈q.1,z∈names
 k0:0<=q.2
 k1:q.2<=1
theorem LqOk.wf{names:List Str}(hn:NmOk names){q:List Str×Int}(h:LqOk names q):Wf (zdn q) []:=by
 have gS:Gd (.lst (q.1.map W.txt)):=zjl (by have:=h.len;lia) fun z hz=>by
  obtain⟨y1,y10,ys⟩:=hn.2.2 z (h.mem z hz);exact⟨by lia,ys⟩
 have h0:=h.k0;have h1:=h.k1;unfold zdn;simp only[Wf];exact⟨gS,by simp,⟨⟨by lia,by lia⟩,yJ _⟩⟩
theorem zmp{gs:List Res}(hpp:Pps K H u x ps fss)(fo:Fo H' us gs)(h:gs=[]\/∃fs∈fss,gs <+: fs)(hn:(ev gs x e0 []).1.res≠.stop):(ev gs x e0 []).2.length=gs.length:=by
 rcases h with rfl|⟨fs,hf,pre⟩
 ·have:(ev [] x e0 []).2.length<=0:=(fo.cs x).s0 hn
  simpa using this
 ·obtain⟨i,hi,e⟩:=xS.mp hf
  obtain⟨p,rv,us1,_,po⟩:=hpp.pick (show fss[i]?=some fs by rw[yA hi,e])
  by_cases hl:gs.length<fs.length
  ·have cs:=(po.fo.cs x).c2 gs.length (yJ _) hl (by have:=po.nl;show gs.length<(ev fs x e0 []).2.length;lia)
   rw[←xT.mp pre] at cs;exact absurd cs.1 hn
  ·rw[pre.eq_of_length (vL pre.length_le (by lia))]
   exact po.nl
theorem Fo.snoc{fs:List Res}{v:V}{r:Res}(h:Fo H us fs)(rv:RW H v r.toW)(ok:ROk r)(ns:r≠.stop)(rq:Rq r)(l:fs.length<24):Fo H (us++[v]) (fs++[r]):=by
 refine⟨by rw[xK];exact h.rs.snoc rv,fun y hy=>?_,fun y hy=>?_,fun y hy=>?_,by rw[yD];show fs.length+1<=24;lia⟩<;>rcases yT.mp hy with hy|hy
 ·exact h.ok y hy
 ·rw[yI.mp hy];exact ok
 ·exact h.ns y hy
 ·rw[yI.mp hy];exact ns
 ·exact h.rq y hy
 ·rw[yI.mp hy];exact rq
theorem Pps.nil:Pps K H u x [] []:=⟨rfl,fun i p fs h=>by simp at h⟩
theorem Pps.snoc{rv:V}{p:jC}{fs:List Res}(h:Pps K H u x ps fss)(o:PO K H p u rv us fs x):Pps K H u x (ps++[p]) (fss++[fs]):=by
 refine⟨by rw[yD,yD,h.len];rfl,fun i p' fs' e1 e2=>?_⟩
 by_cases hi:i<ps.length
 ·rw[yN hi] at e1
  rw[yN (by rw[←h.len];exact hi)] at e2;exact h.po i p' fs' e1 e2
 ·have hl:=h.len
  rw[yR (by lia)] at e1;rw[yR (by lia)] at e2;have e0:i-ps.length=0:=by
   have:=(yC.mp e1).1;simpa using this
  rw[e0] at e1;rw[show i-fss.length=0 by lia] at e2;cases e1;cases e2;exact⟨rv,us,o⟩
structure Ls(K:tT)(H H':Hp)(b1 pl:jC)(u:V)(x:Ex)(ps:List jC)(fss:List (List Res)):Prop where
 sm:Same H H'
 bx:IsBox H' b1
 epl:H' pl=some (.lst (ps.map V.ref))
 ru:RW H' u x.toW
 pp:Pps K H' u x ps fss
theorem Ls.same(h:Ls K H H' b1 pl u x ps fss)(s:Same H' H2):Ls K H H2 b1 pl u x ps fss:=
 ⟨h.sm.trans s,by obtain⟨a,f,m,e⟩:=h.bx;exact⟨a,f,m,s _ _ e⟩,s _ _ h.epl,h.ru.mono (zx s),h.pp.mono s⟩
theorem Ls.deed{G:Hp}{b:jC}(h:Ls K H H' b1 pl u x ps fss)(hb:H' b=none)(s:Same H' G)(hg:IsBox G b)(st:Step b G H2):Ls K H H2 b1 pl u x ps fss:=
 have k:Same H' H2:=fun c o e=>st.keep c o (zB e hb) (s _ _ e)
 h.same k
theorem zah:FnScope ["_law_box_here","_law_names_here","_law_lists","_law_k","_law_some"] ["_law_box_here","_law_names_here"] (zq zaT):=mkSc rfl (by decide +kernel)
theorem zez(F:Fun K "_law_long_rule" "_law_long_rule" zaT f fd)(G_ltake:Have P w K mg base "_law_take" k qL2 (spTake))(m_len:mg "len"=none)(m_range:mg "range"=none)(m_tuple:mg "tuple"=none):qF P w K mg base k f fd qL6 (spRule):=by
 refine F.okQ zah (by rintro _ _ _ _ ⟨_,_,_,rfl,_⟩;rfl) fun _ _ _ _ H vs Q E hr h=>?_;obtain⟨b,l,names,rfl,hb,hl,hlb,hnm,q⟩:=h;refine⟨_,(zm (zC (i:=2) zah.nd rfl (Or.inl rfl) (zO zi))
  (zm (Z6 tN rfl (Zc rfl m_range (zc zn zi)) (zS (i:=3) zah.nd rfl (Or.inl rfl)) (zm (zC (i:=4) zah.nd rfl (Or.inl rfl) (zI zP rfl m_tuple zM (zc (Zj [1,0] ["_law_names_here","_law_box_here"] rfl rfl (by decide) rfl (by decide) rfl (by decide) ⟨rfl,rfl,trivial⟩ rfl ⟨⟨rfl,rfl,Or.inr (Or.inl rfl),(by show (some NameKind.cell:Option NameKind)≠some .local;decide),⟨_,rfl⟩⟩,⟨rfl,rfl,Or.inr (Or.inl rfl),(by show (some NameKind.cell:Option NameKind)≠some .local;decide),⟨_,rfl⟩⟩,trivial⟩ (Zc rfl m_range (zc zn zi)) (fun C s H fp=>⟨Zd,(zF (show IxR _ (rIxL K) from zD) (pv 1) (zy G_ltake hr rfl (zc (pv 2) (zc (zw (show zas _ (.builtin "len") (zmk K) from zL) rfl m_len tG (zc (pv 1) zi)) zi))) (fun _ _=>rfl))⟩)) zi)))
  (zo (ZW (zbx tO tQ tP ZM (pv 2) (zc (zG (zc zr (zc zr (zc (zG (zc zr (zc (pv 4) zi))) (zc (zG (zc zr (zc (zG (zc zr (zc (zG (zc zr (zc zr zi))) zi))) (zc (zG (zc zr (zc (pv 3) zi))) zi)))) zi))))) zi))))))
  (zo (zt (zJ zbR (zG (zc zr zi)) (zI zP rfl m_tuple zM (zc (pv 2) zi))))))),nm3 ?_⟩
 intros;refine⟨zl0,fun l2 hl2=>?_⟩;have hpos:0<names.length:=xU.mpr hnm.1;have n2b:l2≠b:=IsBox.ne hb hl2;have st0:=Step.new (o:=.lst []) hb hl2;have e0':upd H l2 (.lst []) l2=some (.lst []):=zj;generalize upd H l2 (.lst [])=H0 at st0 e0';dsimp only[zW];refine⟨2,rfl,by decide,by decide,?_⟩;refine zam (lo:=0) (n:=2) (fun i σ' H'=>∃(o3 o4:Option V)(us:List V)(qs:List (List Str×Int)),σ'=[some (.ref b),some (.ref l),some (.ref l2),o3,o4]/\Step b H H'/\H' l2=some (.lst us)/\RWs H' us (qs.map fun q=>(zdn q).toW)/\qs.length=i/\∀q∈qs,LqOk names q)
  ⟨none,none,[],[],rfl,st0,e0',⟨rfl,fun i v w h=>by simp at h⟩,rfl,fun _ h=>(nomatch h)⟩ (fun i σ' H' hi h=>?_) (fun σ' H' h=>?_)
 ·obtain⟨o3,o4,us,qs,rfl,st,el2,hus,hql,hq⟩:=h
  dsimp only[zW];refine⟨10,rfl,by decide,by decide,zcq (n:=10) (fun i zs G=>∃ss:List Str,zs=ss.map V.str/\ss.length=i/\(∀z∈ss,z∈names)/\Step b H' G) ⟨[],rfl,rfl,(fun s h=>nomatch h),Step.refl st.box⟩ (fun i us H' h=>?_) (by decide) (fun j zs G R hj h r=>?_) (fun zs G D2 h hD2=>?_)⟩
  ·obtain⟨ss,rfl,hsl,_⟩:=h
   rw[yB];exact hsl
  ·obtain⟨ss,rfl,hsl,hsn,sg⟩:=h
   have hl':=(st.trans sg).keep _ _ hlb hl;refine⟨_,rfl,_,rfl,_,rfl,_,_,rfl,.inl ⟨_,Sl hl',rfl⟩,b,_,rfl,sg.box,by rw[yB];lia,by rw[yB];have:=hnm.2.1;lia,fun n H8 n0 n1 st8=>?_⟩;rw[yB] at n1;obtain⟨z,hzm,hat⟩:=zcr n0 n1;refine⟨l,_,n,_,rfl,rfl,Sl (st8.keep l _ hlb hl'),hat,r _ _ ⟨ss++[z],by simp,by simp[hsl],fun y hy=>?_,sg.trans st8⟩⟩;rcases yT.mp hy with hy|hy
   ·exact hsn y hy
   ·rw[yI.mp hy];exact hzm
  obtain⟨ss,rfl,hsl,hsn,sg⟩:=h;refine⟨D2,_,rfl,.inl ⟨Sl zj,fun pt hpt=>?_⟩⟩;have s8:=Sn (o:=.lst (ss.map V.str)) hD2;have s9:=Sn (o:=.tup (ss.map V.str)) hpt;have s89:=s8.trans s9;have rS:RW (upd (upd G D2 (.lst (ss.map V.str))) pt (.tup (ss.map V.str))) (.ref pt) (.lst (ss.map W.txt)):=.lst zj (by simp) fun i v w hv hw=>by
   rw[yE] at hv hw;obtain⟨y,hy,rfl⟩:=yP.mp hv;rw[hy] at hw;cases hw;exact .txt _
  have sg2:=sg.trans (Step.ofSame' sg.box s89);generalize upd (upd G D2 (.lst (ss.map V.str))) pt (.tup (ss.map V.str))=H9 at rS sg2;dsimp only[zW];refine⟨_,rfl,.inl ⟨rfl,_,Sl (sg2.keep l2 _ n2b el2)⟩,?_⟩;refine YW.run (te:=tTup _) (w:=(zdn (ss,(i:Int))).toW) ?_ fun v H10 s10 r10=>?_
  ·unfold zdn
   simp only[Ex.toW];exact yw3 zbb (yw1 (zdK rfl rS)) (yw2 (yw1 (yw1 zbb)) (yw1 (zdK rfl (by rw[Int.zero_add];exact .num _))))
  have el10:=s10 _ _ (sg2.keep l2 _ n2b el2);have hlen:=hus.len;rw[yB] at hlen;refine⟨l2,us,v,rfl,rfl,el10,yZ (show us.length<=10 by lia) (by decide),?_⟩;have st10:=(st.trans sg2).trans (Step.ofSame' sg2.box s10);have t10:Tups H' H10:=fun c vs e=>s10 _ _ (sg2.tups st.box c vs e);have t11:Tups H10 (upd H10 l2 (.lst (us++[v]))):=fun c vs e=>by rw[zH (fun z=>by rw[z,el10] at e;cases e)];exact e
  refine⟨_,_,us++[v],qs++[(ss,(i:Int))],rfl,⟨?_,fun c o hc e=>?_⟩,zj,?_,by rw[yD];show qs.length+1=i+1;lia,fun q' hq'=>?_⟩
  ·obtain⟨x,y,z,e⟩:=st10.box
   exact⟨x,y,z,by rw[zH n2b.symm];exact e⟩
  ·rw[zH (zB e hl2)]
   exact st10.keep c o hc e
  ·rw[xK]
   exact ((hus.mono t10).mono t11).snoc (r10.mono t11)
  ·rcases yT.mp hq' with hq'|hq'
   ·exact hq q' hq'
   ·rw[yI.mp hq']
    exact⟨hsl,hsn,by show (0:Int)<=(i:Int);lia,by show (i:Int)<=1;lia⟩
 ·obtain⟨o3,o4,us,qs,rfl,st,el2,hus,hql,hq⟩:=h
  refine⟨zl1,fun t1 ht1=>?_⟩;have s1:=Sn (o:=.tup [.str "list"]) ht1;have e1:upd H' t1 (.tup [.str "list"]) t1=some (.tup [.str "list"]):=zj;generalize upd H' t1 (.tup [.str "list"])=G1 at s1 e1;refine⟨_,rfl,l2,us,rfl,.inl ⟨Sl (s1 _ _ el2),fun t2 ht2=>?_⟩⟩;have s2:=Sn (o:=.tup us) ht2;have e2:upd G1 t2 (.tup us) t2=some (.tup us):=zj;generalize upd G1 t2 (.tup us)=G2 at s2 e2;have hlen:=hus.len;rw[yB] at hlen;refine⟨t1,t2,_,us,rfl,rfl,Sq (s2 _ _ e1),Sq e2,(fun z=>nomatch z),(yM (show 1+us.length<=10 by lia) (by decide)),fun z=>by rw[z] at hlen;simp at hlen;lia,fun _ t3 ht3=>?_⟩;have s3:=Sn (o:=.tup ([.str "list"]++us)) ht3;have s13:=(s1.trans s2).trans s3;obtain⟨q0,q1,rfl⟩:∃q0 q1,qs=[q0,q1]:=by
   match qs,hql with
   |[a,b],_=>exact⟨a,b,rfl⟩
  have o0:=hq q0 yS;have o1:=hq q1 (yL _ yS);refine q _ (.reck .list [zdn q0,zdn q1]) _ ?_ ?_ ?_ (st.trans (Step.ofSame' st.box s13))
  ·have hus3:=hus.mono (zx s13)
   show RW _ _ (.lst (.txt "list"::[(zdn q0).toW,(zdn q1).toW]));refine .lst zj (by simp[hlen]) fun i v w hv hw=>?_
   match i,hv,hw with
   |0,hv,hw=>cases hv;cases hw;exact .txt _
   |j+1,hv,hw=>exact hus3.at' j v w (by simpa using hv) (by simpa using hw)
  ·simp only[Wf,Wfs]
   exact⟨(show 2<=8 by decide),trivial,o0.wf hnm,o1.wf hnm,trivial⟩
  ·unfold zdn
   simp only[Ex.high,highs,Ex.lks,lkss];lia
theorem znA:∀x:Ex,∃ws,x.toW=.lst ws
 |.lit _=>⟨_,by rw[Ex.toW]⟩
 |.var _=>⟨_,by rw[Ex.toW]⟩
 |.letE _ _ _=>⟨_,by rw[Ex.toW]⟩
 |.ifE _ _ _=>⟨_,by rw[Ex.toW]⟩
 |.elseE _ _=>⟨_,by rw[Ex.toW]⟩
 |.cryE _=>⟨_,by rw[Ex.toW]⟩
 |.lookE _=>⟨_,by rw[Ex.toW]⟩
 |.reck _ _=>⟨_,by rw[Ex.toW]⟩
 |.eachE _ _ _=>⟨_,by rw[Ex.toW]⟩
section
variable{K:tT}{H H':Hp}{p p':jC}{u u' rv rv':V}{us us':List V}{fs fs' gs:List Res}{x:Ex}
theorem PO.cut(h:PO K H p u rv us fs x){k:Nat}(hk:k<fs.length):(ev (fs.take k) x e0 []).1.res=.stop/\nms x (fs.take k)=(nms x fs).take (k+1):=
 (h.fo.cs x).c2 k (yJ _) hk (by have:=h.nl;show k<(ev fs x e0 []).2.length;lia)
theorem zgQ(h:PO K H p u rv us fs x)(h':PO K H' p' u' rv' us' fs' x)(pre:fs <+: fs'):fs=fs':=by
 rcases uS fs.length fs'.length with hl|hl
 ·have:=(h'.cut hl).1
  rw[←xT.mp pre] at this;exact absurd this h.nst
 ·exact pre.eq_of_length (vL pre.length_le hl)
theorem zfv(h:PO K H p u rv us fs x)(h':PO K H' p' u' rv' us' fs' x){k:Nat}(e:fs.take k=fs'.take k)(hk:fs.length=k):fs=fs':=by
 refine zgQ h h' ?_;rw[xG (by lia)] at e;rw[e];exact List.take_prefix _ _
theorem zjy(h:PO K H p u rv us fs x)(h':PO K H' p' u' rv' us' fs' x){k:Nat}(e:fs.take k=fs'.take k)(hk:k<fs.length)(hk':k<fs'.length):(nms x fs)[k]?=(nms x fs')[k]?:=by
 have h1:=(h.cut hk).2;have h2:=(h'.cut hk').2;rw[e,h2] at h1;have h3:=congrArg (fun l=>l[k]?) h1;rw[xR (xY _),xR (xY _)] at h3;exact h3.symm
end
inductive spTree(K:tT)(vs:List V)(H:Hp)(Q:VK)(z3:XK):Prop
 |mk (p p':jC) (u rv rv':V) (us us':List V) (fs fs':List Res) (x:Ex) (_:vs=[.ref p,.ref p']) (_:PO K H p u rv us fs x) (_:PO K H p' u rv' us' fs' x) (_:∀H',Same H H'->Q (.bl true) H')
inductive spFollow(K:tT)(vs:List V)(H:Hp)(Q:VK)(z3:XK):Prop
 |mk (l fl:jC) (ps:List jC) (u:V) (x:Ex) (fss:List (List Res)) (us:List V) (gs:List Res) (_:vs=[.ref l,.ref fl]) (_:H l=some (.lst (ps.map V.ref))) (_:ps.length<=1000) (_:Pps K H u x ps fss) (_:H fl=some (.lst us)) (_:Fo H us gs) (_:∀(r:jC)(ns:List Nat)(H':Hp),Same H H'->H r=none->H' r=some (.lst ((ps2 ps ns).map V.ref))->Sel fss gs fss.length ns->Q (.ref r) H')
theorem zbr:FnScope ["_law_one","_law_other","_law_k","_law_here"] ["_law_one","_law_other"] (zq zbZ):=mkSc rfl (by decide +kernel)
theorem zgj(F:Fun K "_law_is_tree" "_law_is_tree" zbZ f fd)(G_lfounds:Have P w K mg base "_law_founds" k qL11 (spFoundsOf))(G_lalike:Have P w K mg base "_law_alike" k qL8 (spAl K 70))(m_len:mg "len"=none)(m_min:mg "min"=none)(m_range:mg "range"=none):qF P w K mg base k f fd qL8 (spTree K):=by
 refine F.okQ zbr (by rintro _ _ _ _ ⟨_,_,_,_,_,_,_,_,_,_,rfl,_⟩;rfl) fun _ _ _ _ H vs Q E hr h=>?_;obtain⟨p,p',u,rv,rv',us,us',fs,fs',x,rfl,po,po',q⟩:=h;refine⟨_,(zm (zN (zE (zlR hr.units) (zF zK (pv 0) zn (fun _ _=>rfl)) (zF zK (pv 1) zn (fun _ _=>rfl)) (nomark _)) (zo (zt zbe)) zA)
  (zm (Z6 tN rfl (Zc rfl m_range (zc (zJ Zi zn (zw (zcv rfl) rfl m_min PyProof.Rows.boot_min (zc (zw zL rfl m_len tG (zc (zF zK (pv 0) zn (fun _ _=>rfl)) zi)) (zc (zw zL rfl m_len tG (zc (zF zK (pv 1) zn (fun _ _=>rfl)) zi)) zi)))) zi)) (zS (i:=2) zbr.nd rfl (Or.inl rfl)) (zo (zN (zE (ziK hr.units) (Zr zbf (zy G_lfounds hr rfl (zc (pv 0) zi)) ZX (ZF (pv 2))) (Zr zbf (zy G_lfounds hr rfl (zc (pv 1) zi)) ZX (ZF (pv 2))) (nomark _)) (zm (zC (i:=3) zbr.nd rfl (Or.inl rfl) (zO (zc (zV zX (zw zL rfl m_len tG (zc (zF zK (pv 0) zn (fun _ _=>rfl)) zi)) (pv 2) (nomark _)) (zc (zV zX (zw zL rfl m_len tG (zc (zF zK (pv 1) zn (fun _ _=>rfl)) zi)) (pv 2) (nomark _)) zi))))
  (zm (zN (PW.pt (zaM (zE zeD (zF zD (pv 3) zn (fun _ _=>rfl)) (zF zD (pv 3) zn (fun _ _=>rfl)) (nomark _)) (zae (PW.pt (zaO (zR (zF zD (pv 3) zn (fun _ _=>rfl))) (zak (Zh (zR (zy G_lalike hr rfl (zc (pv 0) (zc (pv 1) zi))))))))))) (zo (zt zbe)) zA)
  (zo (zN (PW.pt (zaO (Zh (zR (zF zD (pv 3) zn (fun _ _=>rfl)))) (zak (zE zeD (zF zK (zF zK (zF zK (pv 0) zn (fun _ _=>rfl)) (pv 2) (fun _ _=>rfl)) zn (fun _ _=>rfl)) (zF zK (zF zK (zF zK (pv 1) zn (fun _ _=>rfl)) (pv 2) (fun _ _=>rfl)) zn (fun _ _=>rfl)) (nomark _))))) (zo (zt zbe)) zA)))) zA)))
  (zo (zt zbe)))),nm3 ?_⟩
 intros;obtain⟨⟨t,ts,e1,e2,e3,e4⟩,l,few⟩:=po.pp;obtain⟨⟨t',ts',e1',e2',e3',e4'⟩,l',few'⟩:=po'.pp;rw[yB] at e3 e3';obtain⟨ws,ew⟩:=znA x;have hru:=po.ru;have hdx:=zbN x [] po.wf;have hhi:=po.hi;rw[ew] at hru hdx;have hdx:1+depths ws<=x.high+13:=hdx;have nl:=po.nl;have nl':=po'.nl;have ul:=po.fo.len;have ul':=po'.fo.len;refine⟨_,rfl,p,_,0,_,rfl,rfl,Sq e1,zu (j:=0) rfl,_,rfl,p',_,0,_,rfl,rfl,Sq e1',zu (j:=0) rfl,ws,ws,hru.toRS,hru.toRS,by lia,_,rfl,?_⟩;rw[zaZ];refine iteF ?_;refine⟨_,rfl,p,_,1,_,rfl,rfl,Sq e1,zu (j:=1) rfl,_,_,rfl,.inr ⟨_,Sq e2,rfl⟩,_,rfl,p',_,1,_,rfl,rfl,Sq e1',zu (j:=1) rfl,_,_,rfl,.inr ⟨_,Sq e2',rfl⟩,_,_,rfl,_,_,rfl,rfl,_,rfl,by rw[yB,yB];split<;>lia,by rw[yB,yB];split<;>lia,?_⟩;rw[yB,yB];refine zam (lo:=0) (n:=(1+(if (ts'.length:Int)<(ts.length:Int) then (ts'.length:Int) else (ts.length:Int))).toNat) (fun i σ' H'=>∃o2 o3,σ'=[some (.ref p),some (.ref p'),o2,o3]/\Same H H') ⟨none,none,rfl,Sr _⟩ (fun i σ' H' hi h=>?_) (fun σ' H' h=>?_)
 ·obtain⟨o2,o3,rfl,sm⟩:=h
  have hi1:i<=fs.length:=by split at hi<;>lia
  have hi2:i<=fs'.length:=by split at hi<;>lia
  have po1:=po.mono sm;have po1':=po'.mono sm;dsimp only[zW];refine⟨_,rfl,p,u,rv,_,us,rfl,po1.pp,fun r H1 s1 hr er=>?_⟩;refine⟨_,rfl,_,rfl,r,us,rfl,Sl er,fun r2 hr2=>?_⟩;rw[show (0:Int)+((i:Nat):Int)=((i:Nat):Int) from Int.zero_add _,zjr];have s2:=Sn (o:=.lst (us.take i)) hr2;have er2:upd H1 r2 (.lst (us.take i)) r2=some (.lst (us.take i)):=zj;generalize upd H1 r2 (.lst (us.take i))=H2 at s2 er2;have s12:=s1.trans s2;refine⟨_,rfl,p',u,rv',_,us',rfl,(po1'.mono s12).pp,fun r3 H3 s3 hr3 er3=>?_⟩;refine⟨_,rfl,_,rfl,r3,us',rfl,Sl er3,fun r4 hr4=>?_⟩;rw[zjr];have s4:=Sn (o:=.lst (us'.take i)) hr4;have er4:upd H3 r4 (.lst (us'.take i)) r4=some (.lst (us'.take i)):=zj;generalize upd H3 r4 (.lst (us'.take i))=H4 at s4 er4;have s34:=s3.trans s4;have sA:=s12.trans s34;have sH:=sm.trans sA;have f1:=((po.fo.mono (zx sH)).take i);have f2:=((po'.fo.mono (zx sH)).take i);refine⟨r2,r4,us.take i,us'.take i,_,_,rfl,rfl,Sl (s34 _ _ er2),Sl er4,f1.rs.rss,f2.rs.rss,f1.dps,_,rfl,?_⟩;cases hb:eqW (.lst ((fs.take i).map Res.toW)) (.lst ((fs'.take i).map Res.toW)) with
  |false=>exact iteF ⟨_,_,rfl,sH⟩
  |true=>
   have e:=(zgh f1 f2).mp hb;refine iteT ⟨_,rfl,p,_,1,_,rfl,rfl,Sq (sH _ _ e1),zu (j:=1) rfl,_,_,rfl,.inr ⟨_,Sq (sH _ _ e2),rfl⟩,_,rfl,rfl,_,rfl,p',_,1,_,rfl,rfl,Sq (sH _ _ e1'),zu (j:=1) rfl,_,_,rfl,.inr ⟨_,Sq (sH _ _ e2'),rfl⟩,_,rfl,rfl,zl2,fun lh hlh=>?_⟩;rw[yB,yB]
   by_cases hc:fs.length=i
   ·obtain rfl:=zfv po po' e hc
    rw[decide_eq_true (show V.int ((ts.length:Nat):Int)=V.int ((i:Nat):Int) by rw[e3,nl,hc]),decide_eq_true (show V.int ((ts'.length:Nat):Int)=V.int ((i:Nat):Int) by rw[e3',nl,hc])];have sL:=Sn (o:=.lst [.bl true,.bl true]) hlh;have eL:upd H4 lh (.lst [.bl true,.bl true]) lh=some (.lst [.bl true,.bl true]):=zj;generalize upd H4 lh (.lst [.bl true,.bl true])=H5 at sL eL;have po5:=(po.mono sH).mono sL;have po5':=(po'.mono sH).mono sL;dsimp only[zW];refine⟨_,rfl,lh,_,0,_,rfl,rfl,Sl eL,zu (j:=0) rfl,_,rfl,lh,_,1,_,rfl,rfl,Sl eL,zu (j:=1) rfl,rfl,_,rfl,iteF ?_⟩;refine⟨_,rfl,lh,_,0,_,rfl,rfl,Sl eL,zu (j:=0) rfl,_,rfl,iteT ⟨_,rfl,_,rfl,.ref p,.ref p',rfl,.inr ⟨ppW fs x,po5.rs,po5'.rs,by have:=po.dp5;lia⟩,fun H6 s6=>⟨_,rfl,iteF ?_⟩⟩⟩;exact⟨_,rfl,lh,_,0,_,rfl,rfl,Sl (s6 _ _ eL),zu (j:=0) rfl,_,rfl,iteF (iteF ⟨_,_,rfl,(sH.trans sL).trans s6⟩)⟩
   ·have hc':fs'.length≠i:=fun z=>hc (by rw[←zfv po' po e.symm z];exact z)
    have hk:i<fs.length:=by lia
    have hk':i<fs'.length:=by lia
    rw[decide_eq_false (show V.int ((ts.length:Nat):Int)≠V.int ((i:Nat):Int) from zgg (by lia)),decide_eq_false (show V.int ((ts'.length:Nat):Int)≠V.int ((i:Nat):Int) from zgg (by lia))];have sL:=Sn (o:=.lst [.bl false,.bl false]) hlh;have eL:upd H4 lh (.lst [.bl false,.bl false]) lh=some (.lst [.bl false,.bl false]):=zj;generalize upd H4 lh (.lst [.bl false,.bl false])=H5 at sL eL;have s5:=sH.trans sL;dsimp only[zW];refine⟨_,rfl,lh,_,0,_,rfl,rfl,Sl eL,zu (j:=0) rfl,_,rfl,lh,_,1,_,rfl,rfl,Sl eL,zu (j:=1) rfl,rfl,_,rfl,iteF ?_⟩;refine⟨_,rfl,lh,_,0,_,rfl,rfl,Sl eL,zu (j:=0) rfl,_,rfl,iteF (iteF ?_)⟩;have hz:(nms x fs)[i]?=some ((nms x fs)[i]'(by show i<(ev fs x e0 []).2.length;lia)):=yA _;have hz':=(zjy po po' e hk hk').symm.trans hz;generalize ((nms x fs)[i]'(by show i<(ev fs x e0 []).2.length;lia))=z at hz hz';have hn:((ev fs x e0 []).2.map V.str)[i]?=some (.str z):=by rw[yE];exact congrArg (uW V.str) hz
    have hn':((ev fs' x e0 []).2.map V.str)[i]?=some (.str z):=by rw[yE];exact congrArg (uW V.str) hz'
    have ht:ts[i]?=some ts[i]:=yA (by lia);have ht':ts'[i]?=some ts'[i]:=yA (by lia);have hu:us[i]?=some us[i]:=yA (by lia);have hu':us'[i]?=some us'[i]:=yA (by lia);refine⟨_,rfl,lh,_,0,_,rfl,rfl,Sl eL,zu (j:=0) rfl,_,rfl,iteT ?_⟩;refine⟨_,rfl,p,_,1,_,rfl,rfl,Sq (s5 _ _ e1),zu (j:=1) rfl,_,rfl,t,_,(i:Nat),.ref ts[i],rfl,rfl,Sq (s5 _ _ e2),zu (by rw[yE,ht];rfl),ts[i],_,0,_,rfl,rfl,Sq (s5 _ _ (e4 i _ _ _ ht hn hu)),zu (j:=0) rfl,?_⟩;refine⟨_,rfl,p',_,1,_,rfl,rfl,Sq (s5 _ _ e1'),zu (j:=1) rfl,_,rfl,t',_,(i:Nat),.ref ts'[i],rfl,rfl,Sq (s5 _ _ e2'),zu (by rw[yE,ht'];rfl),ts'[i],_,0,_,rfl,rfl,Sq (s5 _ _ (e4' i _ _ _ ht' hn' hu')),zu (j:=0) rfl,rfl,_,rfl,?_⟩;rw[decide_eq_true (rfl:V.str z=V.str z)];exact iteF ⟨_,_,rfl,s5⟩
 ·obtain⟨o2,o3,rfl,sm⟩:=h
  exact q _ sm
theorem zgk:FnScope ["_law_papers","_law_founds_here"] ["_law_papers","_law_founds_here"] (zq zb0):=mkSc rfl (by decide +kernel)
theorem zgl(F:Fun K "_law_follows" "_law_follows" zb0 f fd)(G_lfounds:Have P w K mg base "_law_founds" k qL11 (spFoundsOf))(m_len:mg "len"=none):qF P w K mg base k f fd qL22 (spFollow K):=by
 refine F.okQ zgk (by rintro _ _ _ _ ⟨_,_,_,_,_,_,_,_,rfl,_⟩;rfl) fun _ _ _ _ H vs Q E hr h=>?_;obtain⟨l,fl,ps,u,x,fss,us,gs,rfl,hl,few,hpp,hfl,fo,q⟩:=h;refine⟨_,(zo (zt (Zj [1] ["_law_founds_here"] rfl rfl (by decide) rfl (by decide) rfl (by decide) ⟨rfl,trivial⟩ rfl ⟨⟨rfl,rfl,Or.inr (Or.inl rfl),(by show (some NameKind.cell:Option NameKind)≠some .local;decide),⟨_,rfl⟩⟩,trivial⟩ (zac (pv 0)) (fun C s H fp=>⟨(zcj (zE (show OpR _ (tM .Eq) (rLL K fun b=>b) from ziK hr.units) (Zr (show SlR _ (rSlL K) from zbf) (zy G_lfounds hr rfl (zc (pv 0) zi)) ZX (ZF (zw (show zas _ (.builtin "len") (zmk K) from zL) rfl m_len tG (zc (pv 1) zi)))) (pv 1) (nomark _))),(pv 0)⟩)))),?_⟩;have hlen:=hpp.len;have hul:=fo.len;refine⟨_,rfl,l,rfl,⟨_,Sl hl⟩,?_⟩;refine⟨fun i m us' G=>m=ps.length-i/\i<=ps.length/\Same H G/\∃ns,us'=(ps2 ps ns).map V.ref/\ns.length<=i/\Sel fss gs i ns,⟨_,rfl,yJ _,Sr _,[],rfl,yG _,Sel.zero⟩,fun i m us' G hW=>?_⟩;obtain⟨rfl,hi,sm,ns,rfl,hns,sel⟩:=hW;have lp:((ps2 ps ns).map V.ref).length=ns.length:=by simp[ps2]
 refine⟨by rw[lp];exact yM (show ns.length<=1000 by lia) (by decide),?_⟩
 by_cases hlt:i<ps.length
 ·have hp:ps[i]?=some ps[i]:=yA hlt
  refine .inr ⟨⟨ps.map V.ref,.ref ps[i],Sl (sm _ _ hl),by rw[yE,hp];rfl⟩,fun v G' hy=>?_⟩;obtain⟨rfl,hv⟩:=hy;have hv:=hv _ (Sl (sm _ _ hl));rw[yE,hp] at hv;cases hv;obtain⟨fs,rv,us1,hfs,po⟩:=hpp.get hp;have po1:=po.mono sm;have hul1:=po.fo.len;generalize ps[i]=p at hp po po1;refine⟨_,rfl,p,u,rv,_,us1,rfl,po1.pp,fun r H1 s1 hr er=>?_⟩;have s2:=sm.trans s1;refine⟨_,rfl,_,_,rfl,.inl ⟨_,Sl (s2 _ _ hfl),rfl⟩,_,rfl,r,us1,rfl,Sl er,fun r2 hr2=>?_⟩;rw[zjr];have s3:=s2.trans (Sn (o:=.lst (us1.take us.length)) hr2);have e3:upd H1 r2 (.lst (us1.take us.length)) r2=some (.lst (us1.take us.length)):=zj;generalize upd H1 r2 (.lst (us1.take us.length))=H2 at s3 e3;have fo3:=((po.fo.mono (zx s3)).take us.length);rw[hul] at fo3;have fo4:=fo.mono (zx s3);refine⟨_,rfl,r2,fl,us1.take us.length,us,_,_,rfl,rfl,Sl e3,Sl (s3 _ _ hfl),by rw[hul];exact fo3.rs.rss,fo4.rs.rss,fo3.dps,_,rfl,?_⟩;cases hb:eqW (.lst ((fs.take gs.length).map Res.toW)) (.lst (gs.map Res.toW)) with
  |true=>
   have pre:gs <+: fs:=xT.mpr ((zgh fo3 fo4).mp hb).symm;refine iteT ⟨_,rfl,ps.length-(i+1),by lia,rfl,hlt,s3,ns++[i],?_,by rw[yD];exact Nat.succ_le_succ hns,sel.yes hfs pre⟩;unfold ps2;rw[xK,xK,yW,wT,hp]
   rfl
  |false=>
   refine iteF ⟨ps.length-(i+1),by lia,rfl,hlt,s3,ns,rfl,by lia,sel.no hfs fun z=>?_⟩;rw[(zgh fo3 fo4).mpr (xT.mp z).symm] at hb;cases hb
 ·obtain rfl:i=ps.length:=by lia
  refine .inl ⟨⟨ps.map V.ref,Sl (sm _ _ hl),by rw[yB];exact yG _⟩,fun D hD=>?_⟩;rw[hlen] at sel;exact q D ns _ (sm.trans (Sn hD)) (sm.free hD) zj sel
def Nxt(H:Hp)(us:List V)(n:Nat):Prop:=
 (n<20/\∃gs,Fo H us gs/\gs.length=n+1)\/∃(t:jC)(s:Str)(ys:List V),us=[.ref t]/\H t=some (.tup (.str s::ys))/\(s="whole"\/s="none")
inductive spStepL(K:tT)(vs:List V)(H:Hp)(Q:VK)(z3:XK):Prop
 |mk (b l fl:jC) (ps:List jC) (u:V) (x:Ex) (fss:List (List Res)) (us:List V) (gs:List Res):vs=[.ref b,u,.ref l,.ref fl]->IsBox H b->RW H u x.toW->Wf x []->(x.high<=14/\x.lks<=20)->H l=some (.lst (ps.map V.ref))->l≠b->ps.length<=1000->Pps K H u x ps fss->H fl=some (.lst us)->fl≠b->Fo H us gs->(∀(r:jC)(us':List V)(H':Hp),Step b H H'->H r=none->r≠b->H' r=some (.lst us')->Nxt H' us' gs.length->Q (.ref r) H')->spStepL K vs H Q z3
inductive spWay(K:tT)(vs:List V)(H:Hp)(Q:VK)(z3:XK):Prop
 |mk (b l:jC) (ps:List jC) (u:V) (x:Ex) (fss:List (List Res)) (_:vs=[.ref b,u,.ref l]) (_:IsBox H b) (_:RW H u x.toW) (_:Wf x []) (_:(x.high<=14/\x.lks<=20)) (_:H l=some (.lst (ps.map V.ref))) (_:l≠b) (_:ps.length<=1000) (_:Pps K H u x ps fss) (_:∀H',Step b H H'->Q (.bl true) H')
inductive spLaw(K:tT)(vs:List V)(H:Hp)(Q:VK)(z3:XK):Prop
 |mk (a:jC) (ns:List Int) (_:vs=[.ref a]) (_:SqL K H a (ns.map V.int)) (_:ns.length<=63) (_:∀H',Q (.bl true) H')
def Rp2(K:tT)(H:Hp)(a:jC)(fs:List Res)(x:Ex):Prop:=
 ((ev fs x e0 []).1.res=.stop/\∃l:jC,H a=some (.tup [.str "look",.ref l])/\H l=some (.lst ((nms x fs).map V.str))) \/
 ((ev fs x e0 []).1.res≠.stop/\∃(l:jC)(rv:V),H a=some (.tup [.str "ended",.ref l,rv])/\H l=some (.lst ((nms x fs).map V.str))/\RR K H rv (ev fs x e0 []).1)
theorem Rp2.mono{K:tT}{H H':Hp}{a:jC}{fs:List Res}{x:Ex}(h:Rp2 K H a fs x)(s:Same H H'):Rp2 K H' a fs x:=by
 rcases h with⟨h,l,e1,e2⟩|⟨h,l,rv,e1,e2,r⟩
 ·exact .inl ⟨h,l,s _ _ e1,s _ _ e2⟩
 ·exact .inr ⟨h,l,rv,s _ _ e1,s _ _ e2,r.mono s⟩
theorem zhC{ps:List jC}{ns:List Nat}:((ps2 ps ns).map V.ref).isEmpty=ns.isEmpty:=by cases ns<;>rfl
theorem Sel.few{fss:List (List Res)}{gs:List Res}{n:Nat}{ns:List Nat}(h:Sel fss gs n ns):ns.length<=n:=by
 have up:∀(i:Nat)(hi:i<ns.length),i<=ns[i]:=fun i=>by
  induction i with
  |zero=>exact fun _=>yJ _
  |succ i ih=>
   intro hi;have h1:=ih (by lia);have h2:=vR.mp h.ord i (i+1) (by lia) hi (by lia);lia
 rcases Nat.eq_zero_or_pos ns.length with e|e
 ·lia
 ·have h1:=up (ns.length-1) (by lia)
  have h2:=((h.mem _).mp (xD (show ns.length-1<ns.length by lia))).1;lia
def WayW(H:Hp)(b l:jC)(u:V):Nat->St->Hp->Prop:=fun m σ' G=>∃(r:jC)(us:List V),σ'=[some (.ref b),some u,some (.ref l),some (.ref r)]/\Step b H G/\G r=some (.lst us)/\r≠b/\((∃gs,Fo G us gs/\m=25-gs.length)\/(m=0/\∃(t:jC)(s:Str)(ys:List V),us=[.ref t]/\G t=some (.tup (.str s::ys))/\(s="whole"\/s="none")))
theorem zkD{H:Hp}{v:V}{r:Res}(h:RW H v r.toW)(ns:r≠.stop):∃(a:jC)(s:Str)(ys:List V),v=.ref a/\H a=some (.tup (.str s::ys))/\(s="made"\/s="wrong"):=by
 cases r with
 |stop=>exact absurd rfl ns
 |made x=>
  obtain⟨a,v',rfl,e,_⟩:=RW.two_inv h;exact⟨a,"made",[v'],rfl,e,.inl rfl⟩
 |wrong ws=>
  obtain⟨a,vs,rfl,e,hw⟩:=h.tup;obtain⟨u0,us,rfl,r0,hw⟩:=hw.cons;cases r0.str;exact⟨a,"wrong",us,rfl,e,.inr rfl⟩
theorem zbP:FnScope ["_law_box_here","_law_rule_here","_law_papers","_law_founds_here","_law_answer","_law_run","_law_here","_law_due"] ["_law_box_here","_law_rule_here","_law_papers","_law_founds_here"] (zq zfN):=mkSc rfl (by decide +kernel)
theorem zkE(F:Fun K "_law_step" "_law_step" zfN f fd)(G_lfounds:Have P w K mg base "_law_founds" k qL11 (spFoundsOf))(G_ltake:Have P w K mg base "_law_take" k qL2 (spTake))(G_loutcome:Have P w K mg base "_law_outcome" k qL7 (spOut))(G_lalike:Have P w K mg base "_law_alike" k qL8 (spAl K 70))(G_lfollows:Have P w K mg base "_law_follows" k qL22 (spFollow K))(G_gone:Have P w K mg base "gone" k ["rule","founds"] (spGone K))(G_matched:Have P w K mg base "matched" k ["papers","founds"] (spMatched K))(m_len:mg "len"=none)(m_list:mg "list"=none)(m_tuple:mg "tuple"=none)(m_zip:mg "zip"=none):qF P w K mg base k f fd qL23 (spStepL K):=by
 refine F.okQ zbP (by rintro _ _ _ _ ⟨_,_,_,_,_,_,_,_,_,rfl,_⟩;rfl) fun _ _ _ _ H vs Q E hr h=>?_;obtain⟨b,l,fl,ps,u,x,fss,us,gs,rfl,hb,ru,wf,hi,hl,nlb,few,hpp,hfl,nfb,fo,q⟩:=h;refine⟨_,(zm (zC (i:=4) zbP.nd rfl (Or.inl rfl) (zy G_matched hr rfl (zc (zI Zb rfl m_list Zo (zc (pv 2) zi)) (zc (zI Zb rfl m_list Zo (zc (pv 3) zi)) zi))))
  (zm (zC (i:=5) zbP.nd rfl (Or.inl rfl) (zy G_gone hr rfl (zc (pv 1) (zc (zI Zb rfl m_list Zo (zc (pv 3) zi)) zi))))
  (zm (zC (i:=6) zbP.nd rfl (Or.inl rfl) (zy G_lfollows hr rfl (zc (pv 2) (zc (pv 3) zi))))
  (zm (zN (zE zX (zF zK (pv 4) zn (fun _ _=>rfl)) zr (nomark _)) (zm (zN (PW.pt (zaM (zE zeD (zF zK (pv 5) zn (fun _ _=>rfl)) zr (nomark _)) (zae (zE (zdx (yZ (yY _ 64) hr.units)) (pv 6) (zO zi) (nomark _))))) (zo (zt zbs)) zA)
  (zm (zC (i:=7) zbP.nd rfl (Or.inl rfl) (zG (zc (pv 1) (zc (zeg rfl rfl m_zip rfl m_tuple (zc (zF zK (pv 5) zn (fun _ _=>rfl)) (zc (pv 3) zi))) (zc (zF zK (pv 5) zn (fun _ _=>rfl)) zi)))))
  (zm (zN (PW.pt (zaM (Zh (zR (zy G_lalike hr rfl (zc (pv 7) (zc (zF zD (pv 2) (zF zK (pv 4) zn (fun _ _=>rfl)) (fun _ _=>rfl)) zi))))) (zae (Zh (zR (zy G_lalike hr rfl (zc (pv 7) (zc (zF zD (pv 6) zn (fun _ _=>rfl)) zi)))))))) (zo (zt zbs)) zA)
  (zo (zt (zO (zc (zG (zc zr (zc (zF zK (pv 4) zn (fun _ _=>rfl)) zi))) zi))))))) zA)
  (zm (zN (zE zX (zF zK (pv 4) zn (fun _ _=>rfl)) zr (nomark _)) (zm (zN (PW.pt (zaM (zE (zk4 (yZ (yY _ 64) hr.units)) (pv 6) (zO zi) (nomark _)) (zae (Zh (zR (zy G_lalike hr rfl (zc (zG (zc zr zi)) (zc (pv 4) zi)))))))) (zo (zt zbs)) zA)
  (zo (zt (zO (zc (pv 4) zi))))) zA)
  (zm (zN (PW.pt (zaM (zE zeD (zF zK (pv 5) zn (fun _ _=>rfl)) zr (nomark _)) (zaM (zE (zdx (yZ (yY _ 64) hr.units)) (pv 6) (zO zi) (nomark _)) (zae (Zh (zR (zy G_lalike hr rfl (zc (zG (zc zr (zc (zF zD (zF zK (pv 5) zn (fun _ _=>rfl)) (zca za6 zn) (fun _ _=>rfl)) zi))) (zc (pv 4) zi))))))))) (zo (zt zbs)) zA)
  (zm (zN (zE zX (zy G_ltake hr rfl (zc (pv 0) (zc zn zi))) zn (nomark _)) (zo (zt (zJ zdq (pv 3) (zO (zc (zy G_loutcome hr rfl (zc (pv 0) zi)) zi))))) zA)
  (zo (zt (zJ zdq (pv 3) (zO (zc (zF zD (zy G_lfounds hr rfl (zc (zF zD (pv 6) (zy G_ltake hr rfl (zc (pv 0) (zc (zw zL rfl m_len tG (zc (pv 6) zi)) zi))) (fun _ _=>rfl)) zi)) (zw zL rfl m_len tG (zc (pv 3) zi)) (fun _ _=>rfl)) zi)))))))))))),nm8 ?_⟩
 intros;have hlen:=hpp.len;have hul:=fo.len;refine⟨_,rfl,l,_,rfl,.inl (Sl hl),fun c1 hc1=>?_⟩;have s1:=Sn (o:=.lst (ps.map V.ref)) hc1;have ec1:upd H c1 (.lst (ps.map V.ref)) c1=some (.lst (ps.map V.ref)):=zj;generalize upd H c1 (.lst (ps.map V.ref))=H1 at s1 ec1;refine⟨_,rfl,fl,_,rfl,.inl (Sl (s1 _ _ hfl)),fun c2 hc2=>?_⟩;have s2':=Sn (o:=.lst us) hc2;have ec2:upd H1 c2 (.lst us) c2=some (.lst us):=zj;generalize upd H1 c2 (.lst us)=H2 at s2' ec2;have s2:=s1.trans s2';refine⟨c1,c2,ps,u,x,fss,us,gs,rfl,s2' _ _ ec1,few,hpp.mono s2,Sl ec2,fo.mono (zx s2),fun va w H3 s3' due ra=>?_⟩;have s3:=s2.trans s3';dsimp only[zW];refine seqI (fun σ' G=>∃rp,σ'=[some (.ref b),some u,some (.ref l),some (.ref fl),some va,some (.ref rp),none,none]/\Same H3 G/\Rp2 K G rp gs x) (fun σ' G h=>?_) (fun nx=>?_)
 ·obtain⟨rp,rfl,s4',hrp⟩:=h
  have s4:=s3.trans s4';refine⟨_,rfl,_,rfl,l,fl,ps,u,x,fss,us,gs,rfl,s4 _ _ hl,few,hpp.mono s4,s4 _ _ hfl,fo.mono (zx s4),fun hr ns G5 s5' hhr ehr sel=>?_⟩;have s5:=s4.trans s5';have ra5:=(ra.mono (zx s4')).mono (zx s5');have hrp5:=hrp.mono s5';have hpp5:=hpp.mono s5;have fo5:=fo.mono (zx s5);have st5:=Step.ofSame' hb s5;have emp:∀{T:Prop}{W:Prop}(c:Bool),ns.isEmpty=c->(if c=true then T else W)->(if ((ps2 ps ns).map V.ref).isEmpty=true then T else W):=fun c e h=>by rw[zhC,e];exact h
  dsimp only[zW];rcases id due with⟨j,d1,d2,rfl⟩|⟨d0,j,fs,z,d1,d2,d3,d4,rfl⟩|⟨d1,rfl⟩
  ·obtain⟨pj,rvj,usj,epj,poj⟩:=hpp5.pick d1
   obtain⟨i0,hi0,_⟩:=sel.to2 (yC.mp d1).1 d1 (vG _);obtain⟨n0,nr,rfl⟩:∃n0 nr,ns=n0::nr:=by cases ns with|nil=>simp at hi0|cons a b=>exact⟨a,b,rfl⟩
   obtain⟨_,fs0,e00,pre0⟩:=(sel.mem n0).mp yS;obtain⟨p0,rv0,us0,ep0,po0⟩:=hpp5.pick e00;obtain rfl:=zgQ poj po0 pre0;have eh0:((ps2 ps (n0::nr)).map V.ref)[0]?=some (.ref p0):=by
    show some (V.ref ((ps[n0]?).getD 0))=_;rw[ep0];rfl
   obtain⟨a,v',rfl,ea,rv'⟩:=ra5.two_inv;cases rv';rcases hrp5 with⟨hs,_⟩|⟨hs,l',rv,erp,el',rr⟩
   ·exact absurd hs poj.nst
   refine⟨_,rfl,a,_,0,_,rfl,rfl,Sq ea,zu (j:=0) rfl,rfl,_,rfl,iteT ?_⟩;refine⟨_,rfl,rp,_,0,_,rfl,rfl,Sq erp,zu (j:=0) rfl,rfl,_,rfl,iteF ⟨_,rfl,zl0,fun e he=>?_⟩⟩;have sE:=Sn (o:=.lst []) he;have eE:upd G5 e (.lst []) e=some (.lst []):=zj;generalize upd G5 e (.lst [])=G6 at sE eE;refine⟨hr,e,_,rfl,rfl,Sl (sE _ _ ehr),Sl eE,_,rfl,iteF ?_⟩;refine⟨_,rfl,_,rfl,rp,_,1,_,rfl,rfl,Sq (sE _ _ erp),zu (j:=1) rfl,_,rfl,l',fl,_,us,rfl,Sl (sE _ _ el'),Sl (sE _ _ (s5 _ _ hfl)),fun ts t G7 s7 ht hlt hp et=>?_⟩;refine⟨_,rfl,rp,_,2,_,rfl,rfl,Sq (s7 _ _ (sE _ _ erp)),zu (j:=2) rfl,zl3,fun p hpp'=>?_⟩;have s8:=Sn (o:=.tup [u,.ref t,rv]) hpp';have e8:upd G7 p (.tup [u,.ref t,rv]) p=some (.tup [u,.ref t,rv]):=zj;generalize upd G7 p (.tup [u,.ref t,rv])=G8 at s8 e8;have s58:=(sE.trans s7).trans s8;have s08:=s5.trans s58;have nlj:(nms x gs).length=gs.length:=poj.nl;rw[yB] at hlt;have fo8:=fo.mono (zx s08);have hfew:=fo.few;have poD:PO K G8 p u rv us gs x:=⟨ru.mono (zx s08),wf,hi.1,fo8,hs,nlj,⟨⟨t,ts,e8,s8 _ _ et,by rw[yB];show ts.length=(nms x gs).length;lia,Prs.mono hp s8⟩,by rw[yB];show (nms x gs).length=us.length;lia,by rw[yB];show (nms x gs).length<=1000;lia⟩,rr.mono s58⟩;dsimp only[zW];refine⟨_,rfl,_,rfl,_,rfl,a,_,1,_,rfl,rfl,Sq (s58 _ _ ea),zu (j:=1) rfl,l,_,j,.ref pj,rfl,rfl,Sl (s08 _ _ hl),zu (by rw[yE,epj];rfl),.ref p,.ref pj,rfl,.inr ⟨ppW gs x,poD.rs,(poj.mono s58).rs,by have:=poD.dp5;lia⟩,fun G9 s9=>⟨_,rfl,iteF ?_⟩⟩;have s59:=s58.trans s9;refine⟨_,rfl,_,rfl,hr,_,0,_,rfl,rfl,Sl (s59 _ _ ehr),zu (j:=0) eh0,.ref p,.ref p0,rfl,.inr ⟨ppW gs x,(poD.mono s9).rs,(po0.mono s59).rs,by have:=poD.dp5;lia⟩,fun G10 s10=>⟨_,rfl,iteF ?_⟩⟩;have s510:=s59.trans s10;refine⟨_,rfl,a,_,1,_,rfl,rfl,Sq (s510 _ _ ea),zu (j:=1) rfl,zl2,fun t1 ht1=>⟨zl1,fun r hr'=>?_⟩⟩;have sT:=Sn (o:=.tup [.str "whole",.int j]) ht1;have sR:=Sn (o:=.lst [.ref t1]) hr';have sZ:=(s5.trans s510).trans (sT.trans sR);exact q r _ _ (Step.ofSame' hb sZ) ((s5.trans (s510.trans sT)).free hr') (IsBox.ne (Step.ofSame' hb (s5.trans (s510.trans sT))).box hr') zj (.inr ⟨t1,"whole",[.int j],rfl,sR _ _ zj,.inl rfl⟩)
  ·obtain⟨pj,rvj,usj,epj,poj⟩:=hpp5.pick d1
   have hlt:gs.length<fs.length:=by
    rcases uS gs.length fs.length with h|h
    ·exact h
    ·exact absurd (d2.eq_of_length (vL d2.length_le h)).symm (d0 fs (yK d1))
   have hcut:=poj.cut hlt;rw[←xT.mp d2] at hcut;obtain⟨i0,hi0,_⟩:=sel.to2 (yC.mp d1).1 d1 d2;obtain⟨n0,nr,rfl⟩:∃n0 nr,ns=n0::nr:=by cases ns with|nil=>simp at hi0|cons a b=>exact⟨a,b,rfl⟩
   obtain⟨a,v',rfl,ea,rv'⟩:=ra5.two_inv;cases rv';rcases hrp5 with⟨hs,l',erp,el'⟩|⟨hs,_⟩
   rotate_left
   ·exact absurd hcut.1 hs
   have hnl:(nms x gs).length=gs.length+1:=(fo.cs x).s1 hs;have hlast:((nms x gs).map V.str)[gs.length]?=some (.str z):=by
    rw[yE,hcut.2,xR (xY _),d4];rfl
   have h20:gs.length<20:=by
    have h2:=lksE (fs:=gs) x e0 [];have h3:(ev gs x e0 []).2.length=gs.length+1:=hnl;rw[h3,wM] at h2;lia
   refine⟨_,rfl,a,_,0,_,rfl,rfl,Sq ea,zu (j:=0) rfl,rfl,_,rfl,iteF ?_⟩;refine⟨_,rfl,a,_,0,_,rfl,rfl,Sq ea,zu (j:=0) rfl,rfl,_,rfl,iteF ?_⟩;refine⟨_,rfl,rp,_,0,_,rfl,rfl,Sq erp,zu (j:=0) rfl,rfl,_,rfl,iteF ⟨_,rfl,zl0,fun e he=>?_⟩⟩;have sE:=Sn (o:=.lst []) he;have eE:upd G5 e (.lst []) e=some (.lst []):=zj;generalize upd G5 e (.lst [])=G6 at sE eE;refine⟨hr,e,_,rfl,rfl,Sl (sE _ _ ehr),Sl eE,_,rfl,iteF ?_⟩;have hat:atI ((nms x gs).map V.str) (-1)=some (.str z):=zax (by rw[yB,hnl,Nat.add_sub_cancel];exact hlast) (by rw[yB,hnl];exact Nat.succ_pos _);refine⟨_,rfl,rp,_,1,_,rfl,rfl,Sq (sE _ _ erp),zu (j:=1) rfl,_,rfl,l',_,-1,.str z,rfl,rfl,Sl (sE _ _ el'),hat,zl2,fun t1 ht1=>?_⟩;have sT:=Sn (o:=.tup [.str "look",.str z]) ht1;have eT:upd G6 t1 (.tup [.str "look",.str z]) t1=some (.tup [.str "look",.str z]):=zj;generalize upd G6 t1 (.tup [.str "look",.str z])=G7 at sT eT;have s57:=sE.trans sT;refine⟨_,rfl,.ref t1,.ref a,rfl,.inr ⟨zjv z,(RW.pair eT (.txt _) (.txt _)).toRS,(RW.pair (s57 _ _ ea) (.txt _) (.txt _)).toRS,(show (1:Nat)<70 by decide)⟩,fun G8 s8=>⟨_,rfl,iteF ?_⟩⟩;have s58:=s57.trans s8;have s08:=s5.trans s58;have st8:=Step.ofSame' hb s08;refine⟨_,rfl,b,4,rfl,st8.box,by decide,by decide,fun m G9 m0 m1 st9=>⟨rfl,_,rfl,ite2 (fun _=>?_) (fun _=>?_)⟩⟩
   ·have st09:=st8.trans st9
    refine⟨_,rfl,_,rfl,b,rfl,st09.box,fun v rr G10 rv rok rns rrq st10=>⟨zl1,fun e2 he2=>?_⟩⟩;have st010:=st09.trans st10;have sF:=Sn (o:=.lst [v]) he2;have ef:=st010.keep fl _ nfb hfl;refine⟨fl,e2,us,[v],rfl,rfl,sF _ _ ef,zj,yM (show us.length+1<=1000 by lia) (by decide),fun r hr'=>?_⟩;have sR:=Sn (o:=.lst (us++[v])) hr';have tR:=zx (sF.trans sR);have stF:=st010.trans (Step.ofSame' st010.box sF);exact q r _ _ (stF.trans (Step.ofSame' stF.box sR)) (stF.free (IsBox.ne stF.box hr') hr') (IsBox.ne stF.box hr') zj (.inl ⟨h20,gs++[rr],((fo.mono (st010.tups hb)).mono tR).snoc (rv.mono tR) rok rns rrq (by lia),by rw[yD];rfl⟩)
   ·have st09:=st8.trans st9
    have nhb:hr≠b:=IsBox.ne (Step.ofSame' hb s4).box hhr;have eh9:=st9.keep hr _ nhb (s58 _ _ ehr);have hps2:((ps2 ps (n0::nr)).map V.ref).length=(n0::nr).length:=by simp[ps2]
    refine⟨_,rfl,_,rfl,_,rfl,_,rfl,_,_,rfl,.inl ⟨_,Sl eh9,rfl⟩,b,_,rfl,st09.box,by rw[hps2,yQ];lia,?_,fun j' G10 j0 j1 st10=>?_⟩
    ·rw[hps2]
     have:=sel.few;lia
    rw[hps2] at j1;have st010:=st09.trans st10;have hjz:((j'.toNat:Nat):Int)=j':=by lia
    have hjn:(n0::nr)[j'.toNat]?=some ((n0::nr)[j'.toNat]'(by lia)):=yA _;generalize ((n0::nr)[j'.toNat]'(by lia))=nj at hjn;obtain⟨_,fsn,en,pren⟩:=(sel.mem nj).mp (yK hjn);obtain⟨pn,rvn,usn,epn,pon⟩:=(hpp.step hb st010).pick en;have hlt2:gs.length<fsn.length:=by
     rcases uS gs.length fsn.length with h|h
     ·exact h
     ·exact absurd (pren.eq_of_length (vL pren.length_le h)).symm (d0 fsn (yK en))
    have hun:=pon.fo.len;have hx2:((ps2 ps (n0::nr)).map V.ref)[j'.toNat]?=some (.ref pn):=by
     unfold ps2;rw[yE,yE,hjn];show some (V.ref ((ps[nj]?).getD 0))=_;rw[epn];rfl
    refine⟨hr,_,j',.ref pn,rfl,rfl,Sl (st10.keep hr _ nhb eh9),by rw[←hjz];exact zu hx2,pn,u,rvn,_,usn,rfl,pon.pp,fun rf G11 s11 hrf erf=>?_⟩;have st011:=st010.trans (Step.ofSame' st010.box s11);have ef:=st011.keep fl _ nfb hfl;have hv:usn[us.length]?=some usn[us.length]:=yA (by lia);have hg:fsn[gs.length]?=some fsn[gs.length]:=yA hlt2;have hm:=yK hg;have po11:=pon.mono s11;refine⟨_,rfl,_,_,rfl,.inl ⟨_,Sl ef,rfl⟩,rf,_,us.length,_,rfl,rfl,Sl erf,zu hv,zl1,fun e2 he2=>?_⟩;have sF:=Sn (o:=.lst [usn[us.length]]) he2;refine⟨fl,e2,us,[usn[us.length]],rfl,rfl,sF _ _ ef,zj,yM (show us.length+1<=1000 by lia) (by decide),fun r hr'=>?_⟩;have sR:=Sn (o:=.lst (us++[usn[us.length]])) hr';have tR:=zx (sF.trans sR);have stF:=st011.trans (Step.ofSame' st011.box sF);have rvF:=(po11.fo.mono tR).at (i:=us.length) hv (by rw[hul];exact hg);exact q r _ _ (stF.trans (Step.ofSame' stF.box sR)) (stF.free (IsBox.ne stF.box hr') hr') (IsBox.ne stF.box hr') zj (.inl ⟨h20,gs++[fsn[gs.length]],((fo.mono (st011.tups hb)).mono tR).snoc rvF (pon.fo.ok _ hm) (pon.fo.ns _ hm) (pon.fo.rq _ hm) (by lia),by rw[yD];rfl⟩)
  ·obtain rfl:ns=[]:=by
    cases ns with
    |nil=>rfl
    |cons a b=>
     obtain⟨_,fs0,e00,pre0⟩:=(sel.mem a).mp yS;exact absurd pre0 (d1 fs0 (yK e00))
   obtain⟨a,rfl,ea⟩:=ra5.one_inv;refine⟨_,rfl,a,_,0,_,rfl,rfl,Sq ea,zu (j:=0) rfl,rfl,_,rfl,iteF ?_⟩;refine⟨_,rfl,a,_,0,_,rfl,rfl,Sq ea,zu (j:=0) rfl,rfl,_,rfl,iteT ?_⟩;refine⟨_,rfl,zl0,fun e he=>?_⟩;have sE:=Sn (o:=.lst []) he;have eE:upd G5 e (.lst []) e=some (.lst []):=zj;generalize upd G5 e (.lst [])=G6 at sE eE;refine⟨hr,e,_,rfl,rfl,Sl (sE _ _ ehr),Sl eE,_,rfl,iteF ⟨zl1,fun t1 ht1=>?_⟩⟩;have sT:=Sn (o:=.tup [.str "none"]) ht1;have eT:upd G6 t1 (.tup [.str "none"]) t1=some (.tup [.str "none"]):=zj;generalize upd G6 t1 (.tup [.str "none"])=G7 at sT eT;have s57:=sE.trans sT;refine⟨_,rfl,.ref t1,.ref a,rfl,.inr ⟨zjw,(RW.one eT (.txt _)).toRS,(RW.one (s57 _ _ ea) (.txt _)).toRS,(show (1:Nat)<70 by decide)⟩,fun G8 s8=>⟨_,rfl,iteF ⟨_,rfl,zl1,fun r hr'=>?_⟩⟩⟩;have s58:=s57.trans s8;have sR:=Sn (o:=.lst [.ref a]) hr';exact q r _ _ (Step.ofSame' hb ((s5.trans s58).trans sR)) ((s5.trans s58).free hr') (IsBox.ne (Step.ofSame' hb (s5.trans s58)).box hr') zj (.inr ⟨a,"none",[],rfl,sR _ _ (s58 _ _ ea),.inr rfl⟩)
 ·refine⟨_,rfl,_,rfl,fl,_,rfl,.inl (Sl (s3 _ _ hfl)),fun c3 hc3=>?_⟩
  have s4':=Sn (o:=.lst us) hc3;have ec3:upd H3 c3 (.lst us) c3=some (.lst us):=zj;generalize upd H3 c3 (.lst us)=H4 at s4' ec3;have s4:=s3.trans s4';have fo4:=fo.mono (zx s4);exact⟨u,c3,us,gs,x,rfl,ru.mono (zx s4),Sl ec3,hul,by have:=fo.few;lia,fo4.res,by lia,fo4.fine wf,fun hs a l' G' sm hl0 ea el=>nx _ _ ⟨a,rfl,s4'.trans sm,.inl ⟨hs,l',ea,el⟩⟩,fun hs a l' rv G' sm hl0 ea el rr=>nx _ _ ⟨a,rfl,s4'.trans sm,.inr ⟨hs,l',rv,ea,el,rr⟩⟩⟩
theorem zgm:FnScope ["_law_box_here","_law_rule_here","_law_papers","_law_founds_here"] ["_law_box_here","_law_rule_here","_law_papers"] (zq zin):=mkSc rfl (by decide +kernel)
theorem zmq(F:Fun K "_law_way" "_law_way" zin f fd)(G_lstep:Have P w K mg base "_law_step" k qL23 (spStepL K)):qF P w K mg base k f fd qL15 (spWay K):=by
 refine F.okQ zgm (by rintro _ _ _ _ ⟨_,_,_,_,_,_,rfl,_⟩;rfl) fun _ _ _ _ H vs Q E hr h=>?_;obtain⟨b,l,ps,u,x,fss,rfl,hb,ru,wf,hi,hl,nlb,few,hpp,q⟩:=h;refine⟨_,(zm (zC (i:=3) zgm.nd rfl (Or.inl rfl) (zO zi))
  (zm (zbt tN (PW.pt (zaM (zE (zdx (yZ (yY _ 64) hr.units)) (pv 3) (zO zi) (nomark _)) (zae (zE Z7 (zF zK (zF zD (pv 3) (zca za6 zn) (fun _ _=>rfl)) zn (fun _ _=>rfl)) (zG (zc zr (zc zr zi))) (by rfl))))) (zm (zC (i:=3) zgm.nd rfl (Or.inl rfl) (zy G_lstep hr rfl (zc (pv 0) (zc (pv 1) (zc (pv 2) (zc (pv 3) zi))))))
  (zo (zN (zb6 (zb5 (pv 3))) (zo (zt zbe)) zA))))
  (zo (zt zbe)))),nm3 ?_⟩
 intros;refine⟨zl0,fun r0 hr0=>?_⟩;have st0:=Step.new (o:=.lst []) hb hr0;have er0:upd H r0 (.lst []) r0=some (.lst []):=zj;have nr0:r0≠b:=IsBox.ne hb hr0;generalize upd H r0 (.lst [])=H0 at st0 er0;dsimp only[zW];refine⟨WayW H b l u,⟨_,r0,[],rfl,st0,er0,nr0,.inl ⟨[],zgi,rfl⟩⟩,fun m σ' G hW=>?_⟩;obtain⟨r,us,rfl,st,er,nrb,hcase⟩:=hW;refine⟨_,rfl,zl0,fun e he=>?_⟩;have sE:=Sn (o:=.lst []) he;have eE:upd G e (.lst []) e=some (.lst []):=zj;generalize upd G e (.lst [])=G1 at sE eE;have st1:=st.trans (Step.ofSame' st.box sE);have er1:=sE _ _ er;refine⟨r,e,us,rfl,rfl,Sl er1,Sl eE,_,rfl,?_⟩;rcases hcase with⟨gs,fo,rfl⟩|⟨rfl,t,s,ys,rfl,et,hs⟩
 ·have fo1:=fo.mono (zx sE)
  have hfew:=fo.few;have hul:=fo.len;rcases Nat.eq_zero_or_pos us.length with hz|hz
  case' inl=>
   rw[show us.isEmpty=true by rw[xI.mp hz];rfl];refine iteT (iteT ?_);obtain⟨G2,s2,eG⟩:∃G2,Same G1 G2/\G1=G2:=⟨G1,Sr _,rfl⟩;rw[eG]
  case' inr=>
   rw[show us.isEmpty=false by cases us with|nil=>simp at hz|cons a b=>rfl];have hu:us[us.length-1]?=some us[us.length-1]:=yA (by lia);have hg:gs[us.length-1]?=some gs[us.length-1]:=yA (by lia);obtain⟨a',s',ys',ev',ea',hs'⟩:=zkD (fo1.at hu hg) (fo.ns _ (yK hg));refine iteF ⟨_,rfl,_,rfl,r,_,-1,us[us.length-1],rfl,rfl,Sl er1,zax hu hz,a',_,0,.str s',ev',rfl,Sq ea',zu (j:=0) rfl,zl2,fun tp htp=>?_⟩;have s2:=Sn (o:=.tup [.str "made",.str "wrong"]) htp;refine⟨tp,_,rfl,.inr (Sq zj),rfl,rfl,_,rfl,?_⟩;have hin:inV (.str s') [.str "made",.str "wrong"]=true:=by rcases hs' with rfl|rfl<;>decide
   dsimp only;rw[if_neg (show ¬(false=true) by decide),hin];generalize upd G1 tp (.tup [.str "made",.str "wrong"])=G2 at s2;refine iteT ?_
  all_goals
   have st2:=st1.trans (Step.ofSame' st1.box s2);refine⟨fun σ' H'=>∃r',σ'=[some (.ref b),some u,some (.ref l),some (.ref r')]/\Step b H H'/\r'≠b/\∃us',H' r'=some (.lst us')/\Nxt H' us' gs.length,fun σ' H' h=>?_,?_⟩
   ·obtain⟨r',rfl,h1,h2,us',h3,h4⟩:=h
    rcases h4 with⟨h5,gs',h6,h7⟩|⟨t,s,ys,h5,h6,h7⟩
    ·exact⟨25-gs'.length,by lia,r',us',rfl,h1,h3,h2,.inl ⟨gs',h6,rfl⟩⟩
    ·exact⟨0,by lia,r',us',rfl,h1,h3,h2,.inr ⟨rfl,t,s,ys,h5,h6,h7⟩⟩
   ·refine⟨_,rfl,_,rfl,_,rfl,_,rfl,b,l,r,ps,u,x,fss,us,gs,rfl,st2.box,ru.mono (st2.tups hb),wf,hi,st2.keep l _ nlb hl,nlb,few,hpp.step hb st2,s2 _ _ er1,nrb,fo1.mono (zx s2),fun r' us' H' st3 hr' nr' er' hx=>?_⟩
    dsimp only[zW];exact⟨_,rfl,_,rfl,iteF ⟨r',rfl,st2.trans st3,nr',us',er',hx⟩⟩
 ·refine iteF ⟨_,rfl,_,rfl,r,_,-1,.ref t,rfl,rfl,Sl er1,zax rfl (by show 0<1;decide),t,_,0,.str s,rfl,rfl,Sq (sE _ _ et),zu (j:=0) rfl,zl2,fun tp htp=>?_⟩
  have sT:=Sn (o:=.tup [.str "made",.str "wrong"]) htp;refine⟨tp,_,rfl,.inr (Sq zj),rfl,rfl,_,rfl,?_⟩;have hin:inV (.str s) [.str "made",.str "wrong"]=false:=by rcases hs with rfl|rfl<;>decide
  dsimp only;rw[if_neg (show ¬(false=true) by decide),hin];exact iteF (q _ (st1.trans (Step.ofSame' st1.box sT)))
theorem zbc:FnScope ["_law_script","_law_box_here","_law_names_here","_law_rule_here","_law_papers","_law_k","_law_deed","_law_one"] ["_law_script"] (zq sLaw):=mkSc rfl (by decide +kernel)
theorem znB(F:Fun K "law" "law" sLaw f fd)(G_lway:Have P w K mg base "_law_way" k qL15 (spWay K))(G_lbox:Have P w K mg base "_law_box" k qL12 (spBox K))(G_lis_tree:Have P w K mg base "_law_is_tree" k qL8 (spTree K))(G_ltake:Have P w K mg base "_law_take" k qL2 (spTake))(G_lgrown:Have P w K mg base "_law_grown" k qL21 (spGrown K))(G_lbegin:Have P w K mg base "_law_begin" k qL15 (spBegin K))(G_llong_rule:Have P w K mg base "_law_long_rule" k qL6 (spRule))(G_lrule:Have P w K mg base "_law_rule" k qL6 (spRule))(G_lnames:Have P w K mg base "_law_names" k qL9 (spNames))(m_all:mg "all"=none)(m_range:mg "range"=none):qF P w K mg base k f fd ["_law_script"] (spLaw K):=by
 refine F.okQ zbc (by rintro _ _ _ _ ⟨_,_,rfl,_⟩;rfl) fun _ _ _ _ H vs Q E hr h=>?_;obtain⟨a,ns,rfl,hS,hns,q⟩:=h;refine⟨_,(zm (zC (i:=1) zbc.nd rfl (Or.inl rfl) (zy G_lbox hr rfl (zc (pv 0) (zc zn zi))))
  (zm (zC (i:=2) zbc.nd rfl (Or.inl rfl) (zy G_lnames hr rfl (zc (pv 1) (zc zn zi))))
  (zm (zC (i:=3) zbc.nd rfl (Or.inl rfl) (zy G_lrule hr rfl (zc (pv 1) (zc (pv 2) zi))))
  (zm (zN (zE zX (zy G_ltake hr rfl (zc (pv 1) (zc zn zi))) zn (nomark _)) (zo (zC (i:=3) zbc.nd rfl (Or.inl rfl) (zy G_llong_rule hr rfl (zc (pv 1) (zc (pv 2) zi))))) zA)
  (zm (zC (i:=4) zbc.nd rfl (Or.inl rfl) (zO zi))
  (zm (Z6 tN rfl (Zc rfl m_range (zc (zy G_ltake hr rfl (zc (pv 1) (zc zn zi))) zi)) (zS (i:=5) zbc.nd rfl (Or.inl rfl)) (zm (zC (i:=6) zbc.nd rfl (Or.inl rfl) (zy G_lbox hr rfl (zc (pv 0) (zc (zJ Zi zn (pv 5)) zi))))
  (zo (ZW (zbx tO tQ tP ZM (pv 4) (zc (zy G_lgrown hr rfl (zc (pv 6) (zc (pv 3) (zc (zy G_lbegin hr rfl (zc (pv 6) (zc (pv 3) (zc (pv 4) zi)))) zi)))) zi))))))
  (zm (Z6 tN rfl (zac (pv 4)) (zS (i:=7) zbc.nd rfl (Or.inr rfl)) (zo (zN (Zh (zR (zw (Z4 rfl) rfl m_all zbD (zc (Zj [7] ["_law_one"] rfl rfl (by decide) rfl (by decide) rfl (by decide) ⟨rfl,trivial⟩ rfl ⟨⟨rfl,rfl,Or.inr (Or.inl rfl),(by show (some NameKind.cell:Option NameKind)≠some .local;decide),⟨_,rfl⟩⟩,trivial⟩ (zac (pv 4)) (fun C s H fp=>⟨Zd,(zy G_lis_tree hr rfl (zc (pv 1) (zc (pv 0) zi)))⟩)) zi)))) (zo (zt zbe)) zA)))
  (zm (Z6 tN rfl (Zc rfl m_range (zc zn zi)) (zS (i:=5) zbc.nd rfl (Or.inl rfl)) (zo (zN (Zh (zR (zy G_lway hr rfl (zc (zy G_lbox hr rfl (zc (pv 0) (zc (zJ Zi zn (pv 5)) zi))) (zc (pv 3) (zc (pv 4) zi)))))) (zo (zt zbe)) zA)))
  (zo (zt zbe)))))))))),nm9 ?_⟩
 intros;refine⟨_,rfl,a,ns,1,rfl,hS,by decide,fun x1 f1 m1 b1 hb1=>?_⟩;have hbox1:IsBox (upd H b1 (.lst [.int x1,.int f1,.int m1])) b1:=⟨_,_,_,zj⟩;have s1:Same H (upd H b1 (.lst [.int x1,.int f1,.int m1])):=Sn hb1;generalize upd H b1 (.lst [.int x1,.int f1,.int m1])=H1 at hbox1 s1;have sS:∀{G:Hp},Step b1 H1 G->Same H G:=fun st c o e=>st.keep c o (zB e hb1) (s1 _ _ e);dsimp only[zW];refine⟨_,rfl,b1,8,rfl,hbox1,by decide,by decide,fun l names H2 hl st2 el hne hnl hnm=>?_⟩;have nlb:l≠b1:=IsBox.ne hbox1 hl;have nm:NmOk names:=⟨hne,hnl,hnm⟩;dsimp only[zW];refine⟨_,rfl,_,rfl,b1,l,names,rfl,st2.box,el,nlb,nm,fun u x H3 ru wf hi st3=>?_⟩;dsimp only[zW];refine seqI (fun σ' G=>∃u x,σ'=[some (.ref a),some (.ref b1),some (.ref l),some u,none,none,none,none]/\RW G u x.toW/\Wf x []/\(x.high<=14/\x.lks<=20)/\Step b1 H1 G) (fun σ' G h=>?_) (fun nx=>?_)
 ·obtain⟨u,x,rfl,ru,wf,hi',st4⟩:=h
  refine⟨zl0,fun pl hpl=>?_⟩;have s5:=Sn (o:=.lst []) hpl;have epl:upd G pl (.lst []) pl=some (.lst (([]:List jC).map V.ref)):=zj;have npb:pl≠b1:=IsBox.ne st4.box hpl;have st5:=st4.trans (Step.ofSame' st4.box s5);have ru5:=ru.mono (zx s5);have hplH:H pl=none:=(sS st4).free hpl;generalize upd G pl (.lst [])=H5 at s5 epl st5 ru5;dsimp only[zW];refine⟨_,rfl,b1,9,rfl,st5.box,by decide,by decide,fun cnt H6 c0 c1 st6=>⟨cnt,rfl,by lia,by lia,?_⟩⟩;have st16:=st5.trans st6;have l0:Ls K H H6 b1 pl u x [] []:=⟨sS st16,st16.box,st6.keep pl _ npb epl,ru5.mono (st6.tups st5.box),Pps.nil⟩;refine zam (lo:=0) (n:=cnt.toNat) (fun i σ' G=>∃(o5 o6:Option V)(ps:List jC)(fss:List (List Res)),σ'=[some (.ref a),some (.ref b1),some (.ref l),some u,some (.ref pl),o5,o6,none]/\Ls K H G b1 pl u x ps fss/\ps.length=i) ⟨none,none,[],[],rfl,l0,rfl⟩ (fun i σ' G hi h=>?_) (fun σ' G h=>?_)
  ·obtain⟨o5,o6,ps,fss,rfl,ls,hps⟩:=h
   dsimp only[zW];refine⟨_,rfl,_,rfl,_,_,rfl,rfl,a,ns,2+(0+(i:Int)),rfl,ls.sm.seq hS,by lia,fun x2 f2 m2 b hb=>?_⟩;have hbox:IsBox (upd G b (.lst [.int x2,.int f2,.int m2])) b:=⟨_,_,_,zj⟩;have sb:Same G (upd G b (.lst [.int x2,.int f2,.int m2])):=Sn hb;generalize upd G b (.lst [.int x2,.int f2,.int m2])=G0 at hbox sb;have nplb:pl≠b:=zB ls.epl hb;have ls0:=ls.same sb;dsimp only[zW];refine⟨_,rfl,.inl ⟨rfl,_,Sl ls0.epl⟩,_,rfl,_,rfl,_,rfl,_,rfl,_,rfl,b,pl,u,u,ps,x,fss,rfl,hbox,ls0.epl,nplb,by lia,ls0.pp,fun r us gs G1 st1 hr nrb er fo hgs=>?_⟩;have ls1:=ls.deed hb sb hbox st1;refine⟨b,r,u,x,us,gs,rfl,st1.box,ls1.ru,wf,hi',er,nrb,fo,zmp ls1.pp fo hgs,fun p rv us2 fs G2 st2 po=>?_⟩;have ls2:=ls.deed hb sb hbox (st1.trans st2);refine⟨pl,_,_,rfl,rfl,ls2.epl,yZ (show (ps.map V.ref).length<=1000 by rw[yB];lia) (by decide),?_⟩;have gpl:D.G pl G2 (upd G2 pl (.lst (ps.map V.ref++[.ref p]))):=⟨fun c o hc e=>by rw[zH hc];exact e,⟨_,ls2.epl⟩⟩;refine⟨_,_,ps++[p],fss++[fs],rfl,⟨fun c o e=>?_,?_,?_,ls2.ru.mono gpl.ts,(ls2.pp.g gpl).snoc (po.g gpl)⟩,by rw[yD];show ps.length+1=i+1;lia⟩
   ·rw[zH (zB e hplH)]
    exact ls2.sm _ _ e
   ·obtain⟨x',y',z',e⟩:=ls2.bx
    exact⟨x',y',z',by rw[zH npb.symm];exact e⟩
   ·rw[zj,xK];rfl
  ·obtain⟨o5,o6,ps,fss,rfl,ls,hps⟩:=h
   have hfew:ps.length<=1000:=by lia
   refine⟨_,rfl,pl,rfl,⟨_,Sl ls.epl⟩,?_⟩;have hlen:=ls.pp.len;refine zdO (xs:=ps.map V.ref) (fun i σ' G=>∃(o5 o6 o7:Option V),σ'=[some (.ref a),some (.ref b1),some (.ref l),some u,some (.ref pl),o5,o6,o7]/\Ls K H G b1 pl u x ps fss) ⟨_,_,_,rfl,ls⟩ (fun i σ' G _ h=>by obtain⟨_,_,_,_,ls⟩:=h;exact Sl ls.epl) (fun i v σ' G hv h=>?_) (fun σ' G h=>?_)
   ·obtain⟨o5,o6,o7,rfl,ls⟩:=h
    rw[yE] at hv;obtain⟨p,hp,rfl⟩:=yP.mp hv;obtain⟨fs,rv,us,hfs,po⟩:=ls.pp.get hp;dsimp only[zW];refine⟨_,rfl,pl,rfl,⟨_,Sl ls.epl⟩,?_⟩;refine zee (ps.map fun _=>V.bl true) (Sl ls.epl) (by simp) (by rw[yB];exact yM hfew (by decide)) (fun j v y G1 R hv hy sm r=>?_) (fun G1 D sm hD=>?_)
    ·rw[yE] at hv hy
     obtain⟨p',hp',rfl⟩:=yP.mp hv;rw[hp'] at hy;cases hy;obtain⟨fs',rv',us',hfs',po'⟩:=ls.pp.get hp';exact⟨_,rfl,_,rfl,p,p',u,rv,rv',us,us',fs,fs',x,rfl,po.mono sm,po'.mono sm,fun H' s'=>r _ s'⟩
    ·have sD:=sm.trans (Sn (o:=.lst (ps.map fun _=>V.bl true)) hD)
     refine⟨D,ps.map fun _=>true,rfl,Sl ?_,?_⟩
     ·rw[zj,wG];rfl
     ·rw[show ((ps.map fun _=>true).all id)=true by simp]
      exact⟨_,rfl,iteF ⟨_,_,_,rfl,ls.same sD⟩⟩
   ·obtain⟨o5,o6,o7,rfl,ls⟩:=h
    refine⟨3,rfl,by decide,by decide,?_⟩;refine zam (lo:=0) (n:=3) (fun i σ' G=>∃(o5:Option V),σ'=[some (.ref a),some (.ref b1),some (.ref l),some u,some (.ref pl),o5,o6,o7]/\Ls K H G b1 pl u x ps fss) ⟨_,rfl,ls⟩ (fun i σ' G hi h=>?_) (fun σ' G h=>?_)
    ·obtain⟨o5,rfl,ls⟩:=h
     dsimp only[zW];refine⟨_,rfl,_,rfl,_,_,rfl,rfl,a,ns,11+(0+(i:Int)),rfl,ls.sm.seq hS,by lia,fun x2 f2 m2 b hb=>?_⟩;have hbox:IsBox (upd G b (.lst [.int x2,.int f2,.int m2])) b:=⟨_,_,_,zj⟩;have sb:Same G (upd G b (.lst [.int x2,.int f2,.int m2])):=Sn hb;generalize upd G b (.lst [.int x2,.int f2,.int m2])=G0 at hbox sb;have nplb:pl≠b:=zB ls.epl hb;have ls0:=ls.same sb;exact⟨_,rfl,_,rfl,b,pl,ps,u,x,fss,rfl,hbox,ls0.ru,wf,hi',ls0.epl,nplb,hfew,ls0.pp,fun G2 st=>⟨_,rfl,iteF ⟨_,rfl,ls.deed hb sb hbox st⟩⟩⟩
    ·obtain⟨o5,rfl,ls⟩:=h
     exact q _
 ·refine⟨_,rfl,b1,8,rfl,st3.box,by decide,by decide,fun m H4 m0 m1 st4=>⟨rfl,_,rfl,?_⟩⟩
  have st14:=(st2.trans st3).trans st4;refine ite2 (fun _=>?_) (fun _=>?_)
  ·refine⟨_,rfl,_,rfl,b1,l,names,rfl,st14.box,(st3.trans st4).keep l _ nlb el,nlb,nm,fun u' x' H5 ru' wf' hi' st5=>?_⟩
   exact nx _ _ ⟨u',x',rfl,ru',wf',hi',st14.trans st5⟩
  ·exact nx _ _ ⟨u,x,rfl,ru.mono (st4.tups st3.box),wf,hi,st14⟩
end D
namespace PySem.W.Fast
def tw6616352427249320064:=Nat
def tw10245460164078905230:=Nat
def tw5226912891872468384:=Nat
def tw6609147636619752307:=Nat
def tw15072533314310499835:=Nat
def tw14114293737613801534:=Nat
def tw11118829428929941272:=Nat
def tw15793908929678556618:=Nat
def tw6113648727932801715:=Nat
def tw13524621558073413852:=Nat
def tw5137304180743900311:=Nat
def tw3719334878223339929:=Nat
def tw16812456736808080846:=Nat
def tw3045444768655480109:=Nat
def tw12409506792948640143:=Nat
def tw6162931676652732090:=Nat
def tw16438590455308798459:=Nat
def tw11301707244399302065:=Nat
def tw9471800591217367875:=Nat
def tw8019700597068509628:=Nat
def tw13574362815118758305:=Nat
def tw13972651175932694991:=Nat
def tw5651328003403675787:=Nat
def tw1357521161141442986:=Nat
def tw8841585820773037326:=Nat
def tw14798314547217908352:=Nat
def tw1025208731077979466:=Nat
def tw9624044497610332558:=Nat
def tw11333615324588717711:=Nat
def tw10196064879519290671:=Nat
def tw16852931108777316527:=Nat
def tw8284182902153342931:=Nat
def tw271062535688326085:=Nat
def tw13446237776372781758:=Nat
def tw2896107723773179927:=Nat
def tw1628255519499956670:=Nat
def tw9457851471439127242:=Nat
def tw6780191975771276381:=Nat
def tw11719380503886933443:=Nat
def tw13137050385550870169:=Nat
def tw15068908863691151129:=Nat
def tw3308567982348212266:=Nat
def tw1352072148853350410:=Nat
def tw5007550524227980700:=Nat
def tw11864546538527831095:=Nat
def tw18371014944102467470:=Nat
def tw16441352101767982680:=Nat
def tw8246344553417384686:=Nat
def tw8509131522669346027:=Nat
def tw13970069676541225997:=Nat
def tw10014419262459710951:=Nat
def tw2513303387395965078:=Nat
def tw11682481601229868138:=Nat
def tw12826049303291682209:=Nat
def tw9185860097259687152:=Nat
def tw3199574996761529727:=Nat
def tw17534716552084974334:=Nat
def tw10277226848190704405:=Nat
def tw9816090910526698494:=Nat
def tw5476501963999262690:=Nat
def tw11639434209489536913:=Nat
def tw15145788788963319597:=Nat
def tw13847658102838364968:=Nat
def tw2794644194545689584:=Nat
def tw14064650531166947407:=Nat
def tw14452859223714823962:=Nat
def tw6475905615334833228:=Nat
def tw6860085781350652837:=Nat
def tw10980774629041925139:=Nat
def tw11846244940890059389:=Nat
def tw7709782899513893925:=Nat
def tw16297633204396337312:=Nat
def tw10363274177969616507:=Nat
def tw12035727119682444072:=Nat
def tw8224811110586773774:=Nat
def tw8896345531258765417:=Nat
def tw4912332631399166554:=Nat
def tw10444855526309382605:=Nat
def tw7823481078778833246:=Nat
def tw7044026549181128806:=Nat
def tw16717663712822164755:=Nat
def tw11036185714206534599:=Nat
def tw5485827294153187353:=Nat
def tw13318651145941077431:=Nat
def tw7162528971247830448:=Nat
def tw4368402821890334398:=Nat
def tw2772381966234118339:=Nat
def tw682530235145502424:=Nat
def tw14270634147373037853:=Nat
def tw143595253662351429:=Nat
def tw7256306999101658313:=Nat
def tw6034718306368510789:=Nat
def tw3642686329505888701:=Nat
def tw2937358016506503938:=Nat
def tw7047834515257534871:=Nat
def tw9747875421669191036:=Nat
def tw4673855845092943671:=Nat
def tw6358253607985449279:=Nat
def tw3571430787668678446:=Nat
def tw3233682273364525790:=Nat
def tw1539857332372233898:=Nat
def tw4698976327251767623:=Nat
def tw8472202458505687308:=Nat
def tw3408020227861538555:=Nat
def tw9138061378005838997:=Nat
def tw12015976012729904922:=Nat
def tw11462206543611765500:=Nat
def tw12847161842075176683:=Nat
def tw349094975511567424:=Nat
def tw9115551521216117679:=Nat
def tw10355718107672367445:=Nat
def tw17505297562476662563:=Nat
def tw15544978843890670088:=Nat
def tw3569443206527377893:=Nat
def tw14976313635764920570:=Nat
def tw8948049676961473803:=Nat
def tw3349948522633302783:=Nat
def tw10766529388688929154:=Nat
def tw14984568148290354378:=Nat
def tw9884946077733308451:=Nat
def tw2679458139086824697:=Nat
def tw450871433620101426:=Nat
def tw10022530673966343956:=Nat
def tw17662722114309780254:=Nat
def tw9687667468469216827:=Nat
def tw15044965315324798914:=Nat
def tw9094293726221420820:=Nat
def tw18304669335983983135:=Nat
def tw5327113636042780908:=Nat
def tw13815032475484426795:=Nat
def tw7167373633767887253:=Nat
def tw10447475095442323785:=Nat
def tw867349852477844960:=Nat
def tw1522455800781048255:=Nat
def tw7129766881396236450:=Nat
def tw8508768828537185109:=Nat
def tw10024604782577093684:=Nat
def tw12193593912534941478:=Nat
def tw2166885427933097147:=Nat
def tw6631648828294846986:=Nat
def tw5833094034599685740:=Nat
def tw7248054829584606386:=Nat
def tw2387648389344946068:=Nat
def tw3654199956795165311:=Nat
def tw3250338815151023835:=Nat
def tw1775828005778312067:=Nat
def tw1156001147767115901:=Nat
def tw16363496394622544528:=Nat
def tw2818198350460634138:=Nat
def tw1656083952664098750:=Nat
def tw15713960975857731336:=Nat
def tw3917447776019369630:=Nat
def tw1329427399747811959:=Nat
def tw7910595311174630556:=Nat
def tw16969818399407838851:=Nat
def tw14884581079250584054:=Nat
def tw16140578135878762867:=Nat
def tw1088960388955797354:=Nat
def tw813718315148651651:=Nat
def tw8604734849909763678:=Nat
def tw8018069651063936865:=Nat
def tw14631495608609463910:=Nat
def tw9349024386729985243:=Nat
def tw9877430365725199012:=Nat
def tw14422981647043585431:=Nat
def tw11801538845860457952:=Nat
def tw271218184986593573:=Nat
def tw16510936857295908427:=Nat
def tw11203826076553064392:=Nat
def tw5217885850255152897:=Nat
def tw3074051974016003977:=Nat
def tw17839581777897756240:=Nat
def tw15660730663807914530:=Nat
def tw15874659974827109191:=Nat
def tw7317401364403332922:=Nat
def tw1344035755828127777:=Nat
def tw11964329482783634052:=Nat
def tw15425774949561768251:=Nat
def tw14275162649608963728:=Nat
def tw1953543101376307902:=Nat
def tw10391060122158982427:=Nat
def tw3761742318925164771:=Nat
def tw5334045860966678832:=Nat
def tw1736310989927825042:=Nat
def tw1950157593349296901:=Nat
def tw10418797945022481617:=Nat
def tw11571297753748521680:=Nat
def tw2259671707639767697:=Nat
def tw4585084721835765714:=Nat
def tw14787930154010309622:=Nat
def tw11364518707697974697:=Nat
def tw2769119754886295435:=Nat
def tw7818371169223094180:=Nat
def tw14390141113677166640:=Nat
def tw3397695038479852380:=Nat
def tw12528764973929432524:=Nat
def tw7603641766308243820:=Nat
def tw196545561692422096:=Nat
def tw17912996246203185018:=Nat
def tw15620372868808129059:=Nat
def tw13853065023904579880:=Nat
def tw14618696156506770006:=Nat
def tw8429594117877186590:=Nat
def tw13179125217150515286:=Nat
def tw18426008187629020209:=Nat
def tw9068175652581824684:=Nat
def tw4210923750231145820:=Nat
def tw16577058853947302556:=Nat
def tw15311608038956468077:=Nat
def tw17147830705450687726:=Nat
def tw10479642724917091406:=Nat
def tw16215005853272604560:=Nat
def tw5709149906886113852:=Nat
def tw3532907431868750611:=Nat
def tw5744420224882259304:=Nat
def tw14298734887137678507:=Nat
def tw14005526430368310351:=Nat
def tw15908552540177008661:=Nat
def tw5753514121848428913:=Nat
def tw7508063204200267314:=Nat
def tw8470172803240957803:=Nat
def tw15149992712963479131:=Nat
def tw209516073012852084:=Nat
def tw15803431580306152084:=Nat
def tw7356230359646794478:=Nat
def tw11278901731863364438:=Nat
def tw14287348377944163602:=Nat
def tw3531076399331464254:=Nat
def tw11921661236089811151:=Nat
def tw13547920333311462578:=Nat
end PySem.W.Fast
namespace D
open PySem L2
theorem zeA{P:jG}{w:jH}{K:tT}{mg:Str->Option jA}{base:jD}{f:jC}{fd:tU}{ps:List Str}{sp:Sp}(no:∀vs H Q E,¬sp vs H Q E)(k:Nat):FnOk P w K mg base CX0 k f fd ps sp:=
 ⟨fun vs H Q E h=>absurd h (no vs H Q E),fun A outer s H args us vs Q E _ _ _ _ h=>absurd h (no vs H Q E)⟩
theorem zkF(x:Ex):1<=x.high:=by cases x<;>simp only[Ex.high]<;>lia
noncomputable def lvP(L:Nat):Nat->Nat
 |0=>L
 |n+1=>lvP L n+2
theorem zfw(L:Nat):∀n:Nat,L<=lvP L n
 |0=>yG _
 |n+1=>yM (zfw L n) (yY _ 2)
abbrev nI(K:tT)(s:Str)(f:jC):Prop:=nsIn K tH s=some (some (.ref f))
abbrev lI(K:tT)(f:jC)(s:Str)(t:jF)(oc:jA)(od:Option jC)(kV dc pm:jA)(an:Option jC)(cd ct:jA)(sl:Array (Option jA)):Prop:=K.lookup f=some ⟨oc,od,.func (fnOf s s (ZN t) (Zx t) (zq t) .none kV dc pm an cd ct),sl⟩
abbrev cI(K:tT)(c:jA)(s:Str):Prop:=codeIn K c s=true
abbrev kI(K:tT)(f:jC):Prop:=keepIn K (.ref f)=true
theorem hv(P:jG)(w:jH){K:tT}{mg:Str->Option jA}(base:jD)(k:Nat){ps:List Str}{sp:Sp}{f:jC}{fd:tU}{x:Str}(F:qF P w K mg base k f fd ps sp)(b:Binds K fd ps [])(c:keepIn K (.ref f)=true)(m:mg x=some (.ref f)):Have P w K mg base x (k+1) ps sp:=⟨_,_,F,b,c,m⟩
theorem hvF(P:jG)(w:jH){K:tT}{mg:Str->Option jA}(base:jD)(k:Nat){ps:List Str}{sp:Sp}{f:jC}{fd:tU}(F:qF P w K mg base k f fd ps sp)(b:Binds K fd ps [])(c:keepIn K (.ref f)=true):Zp P w K mg base f (k+1) ps sp:=⟨_,F,b,c⟩
abbrev gI(K:tT)(f:jC)(s:Str)(t:jF):Prop:=∃fd,Fun K s s t f fd
theorem znC{l:PySem.W.OpenLaw}{w:jH}{K:tT}{h:jD}{mg:Str->Option jA}{fa f0 f1 f2 f3 f4 f5 f6 f7 f8 f9 f10 f11 f12 f13 f14 f15 f16 f17 f18 f19 f20 f21 f22 f23 f24 f25 f26 f27 f28 f29 f30 f31 f32 f33 f34 f35 f36 f37 f38 f39 f40 f41 f42 f43 f44 f45 f46 f47 f48 f49 f50 f51 f52 f53 f54 f55 f56 f57 f58 f59 f60 f61 f62 f63 f64 f65 f66 f67 f68 f69 f70 f71 f72 f73 f74 f75:jC}(X:K.In h)(G:h.Ns tH mg)(hfa:mg "law"=some (.ref fa))
  {od23 an23 od24 an24 od75 an75:Option jC}{sl23 sl24 sl75:Array (Option jA)}{oc23 kV23 dc23 pm23 cd23 ct23 oc24 kV24 dc24 pm24 cd24 ct24 oc75 kV75 dc75 pm75 cd75 ct75:jA}
  {ARun:jC} (aC_Run:nsIn K tH "Run"=some (some (.ref ARun))) (pg_Run:plainGet K ARun Str.empty=true) (hd_Run:hasDictIn K ARun=true) (po_Run:plainOver K ARun=true) (sa_Run:findIn K (.ref ARun) "__setattr__"=some (some (.builtin "object.__setattr__"))) (mk_Run:makesIn K ARun=true) (kc_Run:keepIn K (.ref ARun)=true) (nf_Run_founds:findIn K (.ref ARun) "founds"=some none) (nf_Run_names:findIn K (.ref ARun) "names"=some none)
  (a0:nI K "is_number" f0) (l0:gI K f0 "is_number" zbi)
  (a1:nI K "is_sign" f1) (l1:gI K f1 "is_sign" zcF)
  (a2:nI K "fits_alone" f2) (l2:gI K f2 "fits_alone" zaQ)
  (a3:nI K "size_alone" f3) (l3:gI K f3 "size_alone" zif)
  (a4:nI K "is_worth" f4) (l4:gI K f4 "is_worth" zbS)
  (a5:nI K "same" f5) (l5:gI K f5 "same" zig)
  (a6:nI K "made" f6) (l6:gI K f6 "made" zih)
  (a7:nI K "truth" f7) (l7:gI K f7 "truth" zfI)
  (a8:nI K "summed" f8) (l8:gI K f8 "summed" zdV)
  (a9:nI K "differing" f9) (l9:gI K f9 "differing" zbj)
  (a10:nI K "multiplied" f10) (l10:gI K f10 "multiplied" zaR)
  (a11:nI K "divided" f11) (l11:gI K f11 "divided" zcG)
  (a12:nI K "lessened" f12) (l12:gI K f12 "lessened" zbT)
  (a13:nI K "figured" f13) (l13:gI K f13 "figured" zcH)
  (a14:nI K "compared" f14) (l14:gI K f14 "compared" zbU)
  (a15:nI K "joined" f15) (l15:gI K f15 "joined" zdW)
  (a16:nI K "listed" f16) (l16:gI K f16 "listed" zdX)
  (a17:nI K "item_at" f17) (l17:gI K f17 "item_at" zcI)
  (a18:nI K "counted" f18) (l18:gI K f18 "counted" zcJ)
  (a19:nI K "reckoned" f19) (l19:gI K f19 "reckoned" zbV)
  (a20:nI K "has_parts" f20) (l20:gI K f20 "has_parts" zbk)
  (a21:nI K "binding_count" f21) (l21:gI K f21 "binding_count" zao)
  (a22:nI K "parts_of" f22) (l22:gI K f22 "parts_of" zbW)
  (a23:findIn K (.ref ARun) "__init__"=some (some (.ref f23))) (q23:isFn K (.ref f23)=true) (l23:K.lookup f23=some ⟨oc23,od23,.func (fnOf "__init__" "Run.__init__" (ZN Zn) (Zx Zn) (zq Zn) .none kV23 dc23 pm23 an23 cd23 ct23),sl23⟩) (c23:codeIn K cd23 "Run.__init__"=true) (k23:keepIn K (.ref f23)=true)
  (a24:findIn K (.ref ARun) "look"=some (some (.ref f24))) (q24:isFn K (.ref f24)=true) (l24:K.lookup f24=some ⟨oc24,od24,.func (fnOf "look" "Run.look" (ZN zaj) (Zx zaj) (zq zaj) .none kV24 dc24 pm24 an24 cd24 ct24),sl24⟩) (c24:codeIn K cd24 "Run.look"=true) (k24:keepIn K (.ref f24)=true)
  (a25:nI K "is_made" f25) (l25:gI K f25 "is_made" zcK)
  (a26:nI K "worth_of" f26) (l26:gI K f26 "worth_of" zbX)
  (a27:nI K "as_last" f27) (l27:gI K f27 "as_last" zcL)
  (a28:nI K "binding" f28) (l28:gI K f28 "binding" zcM)
  (a29:nI K "go_lit" f29) (l29:gI K f29 "go_lit" zdY)
  (a30:nI K "go_var" f30) (l30:gI K f30 "go_var" zdZ)
  (a31:nI K "go_let" f31) (l31:gI K f31 "go_let" zd0)
  (a32:nI K "go_if" f32) (l32:gI K f32 "go_if" zfJ)
  (a33:nI K "ended_ahead" f33) (l33:gI K f33 "ended_ahead" zaD)
  (a34:nI K "go_each" f34) (l34:gI K f34 "go_each" zcN)
  (a35:nI K "go_over" f35) (l35:gI K f35 "go_over" zii)
  (a36:nI K "go_look" f36) (l36:gI K f36 "go_look" zcO)
  (a37:nI K "go_else" f37) (l37:gI K f37 "go_else" zcP)
  (a38:nI K "go_cry" f38) (l38:gI K f38 "go_cry" zd1)
  (a39:nI K "go_through" f39) (l39:gI K f39 "go_through" zaS)
  (a40:nI K "go_reckoned" f40) (l40:gI K f40 "go_reckoned" zaE)
  (a41:nI K "record_of" f41) (l41:gI K f41 "record_of" zbl)
  (a42:nI K "gone" f42) (l42:gI K f42 "gone" zij)
  (a43:nI K "just_so" f43) (l43:gI K f43 "just_so" zcQ)
  (a44:nI K "founds_of" f44) (l44:gI K f44 "founds_of" zbm)
  (a45:nI K "first_otherwise" f45) (l45:gI K f45 "first_otherwise" ZZ)
  (a46:nI K "begins_with" f46) (l46:gI K f46 "begins_with" zaF)
  (a47:nI K "matched_beginning" f47) (l47:gI K f47 "matched_beginning" ZG)
  (a48:nI K "matched" f48) (l48:gI K f48 "matched" zcR)
  (a49:nI K "_law_cell" f49) (l49:gI K f49 "_law_cell" zlv)
  (a50:nI K "_law_box" f50) (l50:gI K f50 "_law_box" sBox)
  (a51:nI K "_law_take" f51) (l51:gI K f51 "_law_take" zlw)
  (a52:nI K "_law_text" f52) (l52:gI K f52 "_law_text" zlx)
  (a53:nI K "_law_number" f53) (l53:gI K f53 "_law_number" zfK)
  (a54:nI K "_law_worth" f54) (l54:gI K f54 "_law_worth" zik)
  (a55:nI K "_law_variable" f55) (l55:gI K f55 "_law_variable" zbn)
  (a56:nI K "_law_lit" f56) (l56:gI K f56 "_law_lit" zil)
  (a57:nI K "_law_named" f57) (l57:gI K f57 "_law_named" zd2)
  (a58:nI K "_law_word" f58) (l58:gI K f58 "_law_word" zfL)
  (a59:nI K "_law_parts_by" f59) (l59:gI K f59 "_law_parts_by" zbo)
  (a60:nI K "_law_any" f60) (l60:gI K f60 "_law_any" zim)
  (a61:nI K "_law_sound" f61) (l61:gI K f61 "_law_sound" zd3)
  (a62:nI K "_law_rule" f62) (l62:gI K f62 "_law_rule" zfM)
  (a63:nI K "_law_likes" f63) (l63:gI K f63 "_law_likes" zd4)
  (a64:nI K "_law_names" f64) (l64:gI K f64 "_law_names" zd5)
  (a65:nI K "_law_outcome" f65) (l65:gI K f65 "_law_outcome" zbY)
  (a66:nI K "_law_grown" f66) (l66:gI K f66 "_law_grown" zd6)
  (a67:nI K "_law_alike" f67) (l67:gI K f67 "_law_alike" zd7)
  (a68:nI K "_law_long_rule" f68) (l68:gI K f68 "_law_long_rule" zaT)
  (a69:nI K "_law_founds" f69) (l69:gI K f69 "_law_founds" zcS)
  (a70:nI K "_law_begin" f70) (l70:gI K f70 "_law_begin" zd8)
  (a71:nI K "_law_is_tree" f71) (l71:gI K f71 "_law_is_tree" zbZ)
  (a72:nI K "_law_follows" f72) (l72:gI K f72 "_law_follows" zb0)
  (a73:nI K "_law_step" f73) (l73:gI K f73 "_law_step" zfN)
  (a74:nI K "_law_way" f74) (l74:gI K f74 "_law_way" zin)
  (a75:nI K "law" f75) (l75:lI K f75 "law" sLaw oc75 od75 kV75 dc75 pm75 an75 cd75 ct75 sl75) (c75:cI K cd75 "law") (k75:kI K f75)
  (z0:nsIn K tH "isinstance"=some none)
  (z1:nsIn K tH "int"=some none)
  (z2:nsIn K tH "bool"=some none)
  (z3:nsIn K tH "ord"=some none)
  (z4:nsIn K tH "str"=some none)
  (z5:nsIn K tH "tuple"=some none)
  (z6:nsIn K tH "len"=some none)
  (z7:nsIn K tH "all"=some none)
  (z8:nsIn K tH "abs"=some none)
  (z9:nsIn K tH "list"=some none)
  (z10:nsIn K tH "dict"=some none)
  (z11:nsIn K tH "repr"=some none)
  (z12:nsIn K tH "enumerate"=some none)
  (z13:nsIn K tH "zip"=some none)
  (z14:nsIn K tH "range"=some none)
  (z15:nsIn K tH "min"=some none)
  {t0:Tok} (i0:nsIn K tH "PERCENT"=some (some (.int 37 t0)))
  {t1:Tok} (i1:nsIn K tH "MOST_SIGNS"=some (some (.int 400 t1)))
  {t2:Tok} (i2:nsIn K tH "MOST_ITEMS"=some (some (.int 60 t2)))
  {t3:Tok} (i3:nsIn K tH "MOST_DEPTH"=some (some (.int 12 t3)))
  {t4:Tok} (i4:nsIn K tH "MOST_SIZE"=some (some (.int 1000 t4)))
  {t5:Tok} (i5:nsIn K tH "MOST_WALKED"=some (some (.int 10 t5)))
  {g0:jC}{gd0:Option jC}{gn0:Nat}{gs0:Array (Option jA)}{u0_0 u0_1 u0_2:Tok} (y0:nsIn K tH "GREAT"=some (some (.ref g0))) (x0:K.lookup g0=some ⟨.type "tuple",gd0,.seq #[.str "wrong" u0_0,.str "great" u0_1,.str "" u0_2] gn0,gs0⟩)
  {g1:jC}{gd1:Option jC}{gn1:Nat}{gs1:Array (Option jA)}{u1_0 u1_1 u1_2:Tok} (y1:nsIn K tH "NOUGHT"=some (some (.ref g1))) (x1:K.lookup g1=some ⟨.type "tuple",gd1,.seq #[.str "wrong" u1_0,.str "nought" u1_1,.str "" u1_2] gn1,gs1⟩)
  {g2:jC}{gd2:Option jC}{gn2:Nat}{gs2:Array (Option jA)}{u2_0 u2_1 u2_2:Tok} (y2:nsIn K tH "KIND"=some (some (.ref g2))) (x2:K.lookup g2=some ⟨.type "tuple",gd2,.seq #[.str "wrong" u2_0,.str "kind" u2_1,.str "" u2_2] gn2,gs2⟩)
  {g3:jC}{gd3:Option jC}{gn3:Nat}{gs3:Array (Option jA)}{u3_0 u3_1 u3_2:Tok} (y3:nsIn K tH "PLACE"=some (some (.ref g3))) (x3:K.lookup g3=some ⟨.type "tuple",gd3,.seq #[.str "wrong" u3_0,.str "place" u3_1,.str "" u3_2] gn3,gs3⟩)
  {dg0:jC}{dn0:Nat}{du0_0 du0_1 du0_2 du0_3 du0_4 du0_5:Tok} (dy0:nsIn K tH "NUMBER_DEEDS"=some (some (.ref dg0))) (dx0:K.lookup dg0=some ⟨.type "dict",none,.dict #[⟨hashStr w "+",.str "+" du0_0,.ref f8⟩,⟨hashStr w "-",.str "-" du0_1,.ref f9⟩,⟨hashStr w "*",.str "*" du0_2,.ref f10⟩,⟨hashStr w "/",.str "/" du0_3,.ref f11⟩,⟨hashStr w "less",.str "less" du0_4,.ref f12⟩,⟨hashStr w "figures",.str "figures" du0_5,.ref f13⟩] dn0,#[]⟩) (dz0:(dg0==sysModules)=false)
  {dg1:jC}{dn1:Nat}{du1_0 du1_1 du1_2 du1_3 du1_4:Tok} (dy1:nsIn K tH "OTHER_DEEDS"=some (some (.ref dg1))) (dx1:K.lookup dg1=some ⟨.type "dict",none,.dict #[⟨hashStr w "same",.str "same" du1_0,.ref f14⟩,⟨hashStr w "join",.str "join" du1_1,.ref f15⟩,⟨hashStr w "list",.str "list" du1_2,.ref f16⟩,⟨hashStr w "item",.str "item" du1_3,.ref f17⟩,⟨hashStr w "count",.str "count" du1_4,.ref f18⟩] dn1,#[]⟩) (dz1:(dg1==sysModules)=false)
  {dg2:jC}{dn2:Nat}{du2_0 dv2_0 du2_1 dv2_1 du2_2 dv2_2:Tok} (dy2:nsIn K tH "BINDING"=some (some (.ref dg2))) (dx2:K.lookup dg2=some ⟨.type "dict",none,.dict #[⟨hashStr w "let",.str "let" du2_0,.int 1 dv2_0⟩,⟨hashStr w "each",.str "each" du2_1,.int 1 dv2_1⟩,⟨hashStr w "over",.str "over" du2_2,.int 2 dv2_2⟩] dn2,#[]⟩) (dz2:(dg2==sysModules)=false)
  {dg3:jC}{dn3:Nat}{du3_0 dv3_0 du3_1 dv3_1 du3_2 dv3_2 du3_3 dv3_3 du3_4 dv3_4 du3_5 dv3_5 du3_6 dv3_6 du3_7 dv3_7 du3_8 dv3_8 du3_9 dv3_9 du3_10 dv3_10 du3_11 dv3_11 du3_12 dv3_12 du3_13 dv3_13 du3_14 dv3_14 du3_15 dv3_15 du3_16 dv3_16:Tok} (dy3:nsIn K tH "PARTS"=some (some (.ref dg3))) (dx3:K.lookup dg3=some ⟨.type "dict",none,.dict #[⟨hashStr w "let",.str "let" du3_0,.int 2 dv3_0⟩,⟨hashStr w "if",.str "if" du3_1,.int 3 dv3_1⟩,⟨hashStr w "+",.str "+" du3_2,.int 2 dv3_2⟩,⟨hashStr w "-",.str "-" du3_3,.int 2 dv3_3⟩,⟨hashStr w "*",.str "*" du3_4,.int 2 dv3_4⟩,⟨hashStr w "/",.str "/" du3_5,.int 2 dv3_5⟩,⟨hashStr w "same",.str "same" du3_6,.int 2 dv3_6⟩,⟨hashStr w "less",.str "less" du3_7,.int 2 dv3_7⟩,⟨hashStr w "join",.str "join" du3_8,.int 2 dv3_8⟩,⟨hashStr w "item",.str "item" du3_9,.int 2 dv3_9⟩,⟨hashStr w "count",.str "count" du3_10,.int 1 dv3_10⟩,⟨hashStr w "figures",.str "figures" du3_11,.int 1 dv3_11⟩,⟨hashStr w "each",.str "each" du3_12,.int 2 dv3_12⟩,⟨hashStr w "over",.str "over" du3_13,.int 3 dv3_13⟩,⟨hashStr w "look",.str "look" du3_14,.int 1 dv3_14⟩,⟨hashStr w "else",.str "else" du3_15,.int 2 dv3_15⟩,⟨hashStr w "cry",.str "cry" du3_16,.int 1 dv3_16⟩] dn3,#[]⟩) (dz3:(dg3==sysModules)=false)
  {dg4:jC}{dn4:Nat}{du4_0 du4_1 du4_2 du4_3 du4_4 du4_5 du4_6 du4_7 du4_8:Tok} (dy4:nsIn K tH "GOING"=some (some (.ref dg4))) (dx4:K.lookup dg4=some ⟨.type "dict",none,.dict #[⟨hashStr w "lit",.str "lit" du4_0,.ref f29⟩,⟨hashStr w "var",.str "var" du4_1,.ref f30⟩,⟨hashStr w "let",.str "let" du4_2,.ref f31⟩,⟨hashStr w "if",.str "if" du4_3,.ref f32⟩,⟨hashStr w "each",.str "each" du4_4,.ref f34⟩,⟨hashStr w "over",.str "over" du4_5,.ref f35⟩,⟨hashStr w "look",.str "look" du4_6,.ref f36⟩,⟨hashStr w "else",.str "else" du4_7,.ref f37⟩,⟨hashStr w "cry",.str "cry" du4_8,.ref f38⟩] dn4,#[]⟩) (dz4:(dg4==sysModules)=false)
  : ∃fd:tU,(∀(s:jB)(v:jA),BindsTo s fd ⟨[v],[]⟩ [("_law_script",v)])/\∀base:jD,K.In base->base.Ns tH mg->FnOk l.prog w K mg base CX0 200 fa fd ["_law_script"] (spLaw K):=by
 have e:=hfa.symm.trans (mg_of X G a75);cases e;obtain⟨_,F0⟩:=l0;obtain⟨_,F1⟩:=l1;obtain⟨_,F2⟩:=l2;obtain⟨_,F3⟩:=l3;obtain⟨_,F4⟩:=l4;obtain⟨_,F5⟩:=l5;obtain⟨_,F6⟩:=l6;have b6:=F6.binds (ps:=["thing"]) fun _ _ _ _ _ _ us hl=>by obtain⟨_,rfl⟩:=us_1 hl;rfl
 have n6:=mg_of X G a6;obtain⟨_,F7⟩:=l7;obtain⟨_,F8⟩:=l8;obtain⟨_,F9⟩:=l9;obtain⟨_,F10⟩:=l10;obtain⟨_,F11⟩:=l11;obtain⟨_,F12⟩:=l12;obtain⟨_,F13⟩:=l13;obtain⟨_,F14⟩:=l14;obtain⟨_,F15⟩:=l15;obtain⟨_,F16⟩:=l16;obtain⟨_,F17⟩:=l17;obtain⟨_,F18⟩:=l18;obtain⟨_,F19⟩:=l19;obtain⟨_,F20⟩:=l20;obtain⟨_,F21⟩:=l21;obtain⟨_,F22⟩:=l22;have F23:=zgt (st:=Zn) l23 c23 k23;have b23:=F23.binds (ps:=["self","founds"]) fun _ _ _ _ _ _ us hl=>by obtain⟨_,_,rfl⟩:=us_2 hl;rfl
 have F24:=zgt (st:=zaj) l24 c24 k24;have b24:=F24.binds (ps:=["self","name"]) fun _ _ _ _ _ _ us hl=>by obtain⟨_,_,rfl⟩:=us_2 hl;rfl
 obtain⟨_,F25⟩:=l25;obtain⟨_,F26⟩:=l26;obtain⟨_,F27⟩:=l27;obtain⟨_,F28⟩:=l28;obtain⟨_,F29⟩:=l29;have b29:=F29.binds (ps:=["run","expression","bound"]) fun _ _ _ _ _ _ us hl=>by obtain⟨_,_,_,rfl⟩:=us_3 hl;rfl
 have n29:=mg_of X G a29;obtain⟨_,F30⟩:=l30;have b30:=F30.binds (ps:=["run","expression","bound"]) fun _ _ _ _ _ _ us hl=>by obtain⟨_,_,_,rfl⟩:=us_3 hl;rfl
 have n30:=mg_of X G a30;obtain⟨_,F31⟩:=l31;have b31:=F31.binds (ps:=["run","expression","bound"]) fun _ _ _ _ _ _ us hl=>by obtain⟨_,_,_,rfl⟩:=us_3 hl;rfl
 have n31:=mg_of X G a31;obtain⟨_,F32⟩:=l32;have b32:=F32.binds (ps:=["run","expression","bound"]) fun _ _ _ _ _ _ us hl=>by obtain⟨_,_,_,rfl⟩:=us_3 hl;rfl
 have n32:=mg_of X G a32;obtain⟨_,F33⟩:=l33;obtain⟨_,F34⟩:=l34;have b34:=F34.binds (ps:=["run","expression","bound"]) fun _ _ _ _ _ _ us hl=>by obtain⟨_,_,_,rfl⟩:=us_3 hl;rfl
 have n34:=mg_of X G a34;obtain⟨_,F35⟩:=l35;have b35:=F35.binds (ps:=["run","expression","bound"]) fun _ _ _ _ _ _ us hl=>by obtain⟨_,_,_,rfl⟩:=us_3 hl;rfl
 have n35:=mg_of X G a35;obtain⟨_,F36⟩:=l36;have b36:=F36.binds (ps:=["run","expression","bound"]) fun _ _ _ _ _ _ us hl=>by obtain⟨_,_,_,rfl⟩:=us_3 hl;rfl
 have n36:=mg_of X G a36;obtain⟨_,F37⟩:=l37;have b37:=F37.binds (ps:=["run","expression","bound"]) fun _ _ _ _ _ _ us hl=>by obtain⟨_,_,_,rfl⟩:=us_3 hl;rfl
 have n37:=mg_of X G a37;obtain⟨_,F38⟩:=l38;have b38:=F38.binds (ps:=["run","expression","bound"]) fun _ _ _ _ _ _ us hl=>by obtain⟨_,_,_,rfl⟩:=us_3 hl;rfl
 have n38:=mg_of X G a38;obtain⟨_,F39⟩:=l39;have b39:=F39.binds (ps:=["run","expressions","bound"]) fun _ _ _ _ _ _ us hl=>by obtain⟨_,_,_,rfl⟩:=us_3 hl;rfl
 have n39:=mg_of X G a39;obtain⟨_,F40⟩:=l40;have b40:=F40.binds (ps:=["run","expression","bound"]) fun _ _ _ _ _ _ us hl=>by obtain⟨_,_,_,rfl⟩:=us_3 hl;rfl
 have n40:=mg_of X G a40;obtain⟨_,F41⟩:=l41;have b41:=F41.binds (ps:=["run","expression","bound"]) fun _ _ _ _ _ _ us hl=>by obtain⟨_,_,_,rfl⟩:=us_3 hl;rfl
 have n41:=mg_of X G a41;obtain⟨_,F42⟩:=l42;obtain⟨_,F43⟩:=l43;obtain⟨_,F44⟩:=l44;obtain⟨_,F45⟩:=l45;obtain⟨_,F46⟩:=l46;obtain⟨_,F47⟩:=l47;obtain⟨_,F48⟩:=l48;obtain⟨_,F49⟩:=l49;obtain⟨_,F50⟩:=l50;obtain⟨_,F51⟩:=l51;obtain⟨_,F52⟩:=l52;obtain⟨_,F53⟩:=l53;obtain⟨_,F54⟩:=l54;have b54:=F54.binds (ps:=["_law_box_here","_law_room","_law_deep"]) fun _ _ _ _ _ _ us hl=>by obtain⟨_,_,_,rfl⟩:=us_3 hl;rfl
 have n54:=mg_of X G a54;obtain⟨_,F55⟩:=l55;obtain⟨_,F56⟩:=l56;obtain⟨_,F57⟩:=l57;obtain⟨_,F58⟩:=l58;obtain⟨_,F59⟩:=l59;have b59:=F59.binds (ps:=["_law_box_here","_law_scopes","_law_names_here","_law_spare","_law_floors","_law_rounds"]) fun _ _ _ _ _ _ us hl=>by obtain⟨_,_,_,_,_,_,rfl⟩:=us_6 hl;rfl
 have n59:=mg_of X G a59;obtain⟨_,F60⟩:=l60;have b60:=F60.binds (ps:=["_law_box_here","_law_scope","_law_names_here","_law_spare","_law_floors","_law_rounds"]) fun _ _ _ _ _ _ us hl=>by obtain⟨_,_,_,_,_,_,rfl⟩:=us_6 hl;rfl
 have n60:=mg_of X G a60;obtain⟨_,F61⟩:=l61;obtain⟨_,F62⟩:=l62;obtain⟨_,F63⟩:=l63;obtain⟨_,F64⟩:=l64;obtain⟨_,F65⟩:=l65;obtain⟨_,F66⟩:=l66;obtain⟨_,F67⟩:=l67;have b67:=F67.binds (ps:=["_law_one","_law_other"]) fun _ _ _ _ _ _ us hl=>by obtain⟨_,_,rfl⟩:=us_2 hl;rfl
 have n67:=mg_of X G a67;obtain⟨_,F68⟩:=l68;obtain⟨_,F69⟩:=l69;obtain⟨_,F70⟩:=l70;obtain⟨_,F71⟩:=l71;obtain⟨_,F72⟩:=l72;obtain⟨_,F73⟩:=l73;obtain⟨_,F74⟩:=l74;have F75:=zgt (st:=sLaw) l75 c75 k75;have cl_Run:Cls K ARun:=⟨pg_Run,hd_Run,po_Run,sa_Run⟩;have m_isinstance:=mg_none_of X G z0;have m_int:=mg_none_of X G z1;have m_bool:=mg_none_of X G z2;have m_ord:=mg_none_of X G z3;have m_str:=mg_none_of X G z4;have m_tuple:=mg_none_of X G z5;have m_len:=mg_none_of X G z6;have m_all:=mg_none_of X G z7;have m_abs:=mg_none_of X G z8;have m_list:=mg_none_of X G z9;have m_dict:=mg_none_of X G z10;have m_repr:=mg_none_of X G z11;have m_enumerate:=mg_none_of X G z12;have m_zip:=mg_none_of X G z13;have m_range:=mg_none_of X G z14;have m_min:=mg_none_of X G z15;have m_PERCENT:∃t,mg "PERCENT"=some (.int 37 t):=⟨t0,mg_of X G i0⟩;have m_MOST_SIGNS:∃t,mg "MOST_SIGNS"=some (.int 400 t):=⟨t1,mg_of X G i1⟩;have m_MOST_ITEMS:∃t,mg "MOST_ITEMS"=some (.int 60 t):=⟨t2,mg_of X G i2⟩;have m_MOST_DEPTH:∃t,mg "MOST_DEPTH"=some (.int 12 t):=⟨t3,mg_of X G i3⟩;have m_MOST_SIZE:∃t,mg "MOST_SIZE"=some (.int 1000 t):=⟨t4,mg_of X G i4⟩;have m_MOST_WALKED:∃t,mg "MOST_WALKED"=some (.int 10 t):=⟨t5,mg_of X G i5⟩;have m_GREAT:=mg_of X G y0;have t_GREAT:∀H:Hp,SqT K H g0 [.str "wrong",.str "great",.str ""]:=fun H=>.inr ⟨_,_,_,x0,rfl,rfl,zl3,(.cons ⟨_,rfl⟩ (.cons ⟨_,rfl⟩ (.cons ⟨_,rfl⟩ .nil)))⟩;have m_NOUGHT:=mg_of X G y1;have t_NOUGHT:∀H:Hp,SqT K H g1 [.str "wrong",.str "nought",.str ""]:=fun H=>.inr ⟨_,_,_,x1,rfl,rfl,zl3,(.cons ⟨_,rfl⟩ (.cons ⟨_,rfl⟩ (.cons ⟨_,rfl⟩ .nil)))⟩;have m_KIND:=mg_of X G y2;have t_KIND:∀H:Hp,SqT K H g2 [.str "wrong",.str "kind",.str ""]:=fun H=>.inr ⟨_,_,_,x2,rfl,rfl,zl3,(.cons ⟨_,rfl⟩ (.cons ⟨_,rfl⟩ (.cons ⟨_,rfl⟩ .nil)))⟩;have m_PLACE:=mg_of X G y3;have t_PLACE:∀H:Hp,SqT K H g3 [.str "wrong",.str "place",.str ""]:=fun H=>.inr ⟨_,_,_,x3,rfl,rfl,zl3,(.cons ⟨_,rfl⟩ (.cons ⟨_,rfl⟩ (.cons ⟨_,rfl⟩ .nil)))⟩;have m_NUMBER_DEEDS:=mg_of X G dy0;have d_NUMBER_DEEDS:MD l.prog w K dg0 (kvsN f8 f9 f10 f11 f12 f13):=ziA [("+",du0_0,.ref f8,.ref f8),("-",du0_1,.ref f9,.ref f9),("*",du0_2,.ref f10,.ref f10),("/",du0_3,.ref f11,.ref f11),("less",du0_4,.ref f12,.ref f12),("figures",du0_5,.ref f13,.ref f13)] dx0 dz0 (fun p hp=>by simp only[yV,wU,or_false] at hp;rcases hp with rfl|rfl|rfl|rfl|rfl|rfl<;>first|exact rfl|exact⟨_,rfl⟩) (by show (["+","-","*","/","less","figures"]:List Str).Nodup;decide +kernel);have m_OTHER_DEEDS:=mg_of X G dy1;have d_OTHER_DEEDS:MD l.prog w K dg1 (kvsO f14 f15 f16 f17 f18):=ziA [("same",du1_0,.ref f14,.ref f14),("join",du1_1,.ref f15,.ref f15),("list",du1_2,.ref f16,.ref f16),("item",du1_3,.ref f17,.ref f17),("count",du1_4,.ref f18,.ref f18)] dx1 dz1 (fun p hp=>by simp only[yV,wU,or_false] at hp;rcases hp with rfl|rfl|rfl|rfl|rfl<;>first|exact rfl|exact⟨_,rfl⟩) (by show (["same","join","list","item","count"]:List Str).Nodup;decide +kernel);have m_BINDING:=mg_of X G dy2;have d_BINDING:MD l.prog w K dg2 (kvsB ):=ziA [("let",du2_0,.int 1,.int 1 dv2_0),("each",du2_1,.int 1,.int 1 dv2_1),("over",du2_2,.int 2,.int 2 dv2_2)] dx2 dz2 (fun p hp=>by simp only[yV,wU,or_false] at hp;rcases hp with rfl|rfl|rfl<;>first|exact rfl|exact⟨_,rfl⟩) (by show (["let","each","over"]:List Str).Nodup;decide +kernel);have m_PARTS:=mg_of X G dy3;have d_PARTS:MD l.prog w K dg3 (kvsP ):=ziA [("let",du3_0,.int 2,.int 2 dv3_0),("if",du3_1,.int 3,.int 3 dv3_1),("+",du3_2,.int 2,.int 2 dv3_2),("-",du3_3,.int 2,.int 2 dv3_3),("*",du3_4,.int 2,.int 2 dv3_4),("/",du3_5,.int 2,.int 2 dv3_5),("same",du3_6,.int 2,.int 2 dv3_6),("less",du3_7,.int 2,.int 2 dv3_7),("join",du3_8,.int 2,.int 2 dv3_8),("item",du3_9,.int 2,.int 2 dv3_9),("count",du3_10,.int 1,.int 1 dv3_10),("figures",du3_11,.int 1,.int 1 dv3_11),("each",du3_12,.int 2,.int 2 dv3_12),("over",du3_13,.int 3,.int 3 dv3_13),("look",du3_14,.int 1,.int 1 dv3_14),("else",du3_15,.int 2,.int 2 dv3_15),("cry",du3_16,.int 1,.int 1 dv3_16)] dx3 dz3 (fun p hp=>by simp only[yV,wU,or_false] at hp;rcases hp with rfl|rfl|rfl|rfl|rfl|rfl|rfl|rfl|rfl|rfl|rfl|rfl|rfl|rfl|rfl|rfl|rfl<;>first|exact rfl|exact⟨_,rfl⟩) (by show (["let","if","+","-","*","/","same","less","join","item","count","figures","each","over","look","else","cry"]:List Str).Nodup;decide +kernel);have m_GOING:=mg_of X G dy4;have d_GOING:MD l.prog w K dg4 (kvsG f29 f30 f31 f32 f34 f35 f36 f37 f38):=ziA [("lit",du4_0,.ref f29,.ref f29),("var",du4_1,.ref f30,.ref f30),("let",du4_2,.ref f31,.ref f31),("if",du4_3,.ref f32,.ref f32),("each",du4_4,.ref f34,.ref f34),("over",du4_5,.ref f35,.ref f35),("look",du4_6,.ref f36,.ref f36),("else",du4_7,.ref f37,.ref f37),("cry",du4_8,.ref f38,.ref f38)] dx4 dz4 (fun p hp=>by simp only[yV,wU,or_false] at hp;rcases hp with rfl|rfl|rfl|rfl|rfl|rfl|rfl|rfl|rfl<;>first|exact rfl|exact⟨_,rfl⟩) (by show (["lit","var","let","if","each","over","look","else","cry"]:List Str).Nodup;decide +kernel);refine⟨fnOf "law" "law" (ZN sLaw) (Zx sLaw) (zq sLaw) .none kV75 dc75 pm75 an75 cd75 ct75,fun s v=>.of_eq rfl,fun base _ _=>?_⟩;have h_is_number:=hv l.prog w base 0 (zjZ F0 m_isinstance m_int m_bool) (F0.b1 (by intros;rfl)) F0.2 (mg_of X G a0);have h_is_sign:=hv l.prog w base 0 (zis F1 m_ord m_PERCENT) (F1.b1 (by intros;rfl)) F1.2 (mg_of X G a1);have h_fits_alone:=hv l.prog w base 1 (zlD F2 (h_is_number.up rfl) (h_is_sign.up rfl) m_isinstance m_str m_tuple m_len m_all m_abs m_MOST_SIGNS m_MOST_ITEMS) (F2.b2 (by intros;rfl)) F2.2 (mg_of X G a2);have h_size_alone:=hv l.prog w base 0 (zj1 F3 m_isinstance m_str m_len) (F3.b1 (by intros;rfl)) F3.2 (mg_of X G a3);have h_is_worth:=hv l.prog w base 2 (zg8 F4 (h_fits_alone.up rfl) (h_size_alone.up rfl) m_isinstance m_tuple m_len m_MOST_DEPTH m_MOST_SIZE) (F4.b1 (by intros;rfl)) F4.2 (mg_of X G a4);have h_same:=hv l.prog w base 0 (zlZ F5 ) (F5.b2 (by intros;rfl)) F5.2 (mg_of X G a5);have h_made:Have l.prog w K mg base "made" 4 ["thing"] (spMade K 24):=⟨_,_,(zlI F6 (h_is_worth.up rfl) m_GREAT t_GREAT:FnOk l.prog w K mg base CX0 (3+1) _ _ _ _),b6,F6.2,n6⟩;have h_truth:=hv l.prog w base 0 (zj9 F7 ) (F7.b1 (by intros;rfl)) F7.2 (mg_of X G a7);have hf_summed:=hvF l.prog w base 4 (ziP F8 (h_made.up rfl)) (F8.b1 (by intros;rfl)) F8.2;have hf_differing:=hvF l.prog w base 4 (ze9 F9 (h_made.up rfl)) (F9.b1 (by intros;rfl)) F9.2;have hf_multiplied:=hvF l.prog w base 4 (zel F10 (h_made.up rfl)) (F10.b1 (by intros;rfl)) F10.2;have hf_divided:=hvF l.prog w base 4 (zhf F11 (h_made.up rfl) m_NOUGHT t_NOUGHT) (F11.b1 (by intros;rfl)) F11.2;have hf_lessened:=hvF l.prog w base 1 (zfV F12 (h_truth.up rfl)) (F12.b1 (by intros;rfl)) F12.2;have hf_figured:=hvF l.prog w base 4 (zhh F13 (h_made.up rfl) m_str) (F13.b1 (by intros;rfl)) F13.2;have hf_compared:=hvF l.prog w base 1 (zfX F14 (h_truth.up rfl) (h_same.up rfl)) (F14.b1 (by intros;rfl)) F14.2;have hf_joined:=hvF l.prog w base 4 (ziT F15 (h_made.up rfl) m_isinstance m_str m_tuple m_KIND t_KIND) (F15.b1 (by intros;rfl)) F15.2;have hf_listed:=hvF l.prog w base 4 (ziR F16 (h_made.up rfl) m_tuple) (F16.b1 (by intros;rfl)) F16.2;have hf_item_at:=hvF l.prog w base 4 (zhk F17 (h_made.up rfl) (h_is_number.up rfl) m_isinstance m_len m_tuple m_KIND t_KIND m_PLACE t_PLACE) (F17.b1 (by intros;rfl)) F17.2;have hf_counted:=hvF l.prog w base 4 (zhj F18 (h_made.up rfl) m_isinstance m_len m_str m_tuple m_KIND t_KIND) (F18.b1 (by intros;rfl)) F18.2;have h_reckoned:=hv l.prog w base 5 (zfZ F19 (h_is_number.up rfl) m_all m_KIND t_KIND m_NUMBER_DEEDS d_NUMBER_DEEDS m_OTHER_DEEDS d_OTHER_DEEDS (hf_summed.up rfl) (hf_differing.up rfl) (hf_multiplied.up rfl) (hf_divided.up rfl) (hf_lessened.up rfl) (hf_figured.up rfl) (hf_compared.up rfl) (hf_joined.up rfl) (hf_listed.up rfl) (hf_item_at.up rfl) (hf_counted.up rfl)) (F19.b2 (by intros;rfl)) F19.2 (mg_of X G a19);have h_has_parts:=hv l.prog w base 0 (zfc F20 m_PARTS d_PARTS) (F20.b1 (by intros;rfl)) F20.2 (mg_of X G a20);have h_binding_count:=hv l.prog w base 0 (zce F21 m_BINDING d_BINDING) (F21.b1 (by intros;rfl)) F21.2 (mg_of X G a21);have h_parts_of:=hv l.prog w base 1 (zf0 F22 (h_binding_count.up rfl) (h_has_parts.up rfl) m_list) (F22.b1 (by intros;rfl)) F22.2 (mg_of X G a22);have h_Run___init__:zdc l.prog w K mg base ARun "Run" 2 ["self","founds"] (spRunI K ARun):=⟨_,_,1,rfl,(zc5 F23 m_list cl_Run nf_Run_founds nf_Run_names:FnOk l.prog w K mg base CX0 (0+1) _ _ _ _),b23,⟨mk_Run,a23,q23,kc_Run⟩,mg_of X G aC_Run⟩;have h_Run_look:zdb l.prog w K mg base ARun "look" 1 ["self","name"] (spLook K ARun):=⟨_,_,(zf8 F24 m_len cl_Run nf_Run_founds nf_Run_names:FnOk l.prog w K mg base CX0 (0+1) _ _ _ _),b24,⟨a24,q24,k24⟩,cl_Run⟩;have h_is_made:=hv l.prog w base 0 (zhn F25 ) (F25.b1 (by intros;rfl)) F25.2 (mg_of X G a25);have h_worth_of:=hv l.prog w base 0 (zf2 F26 ) (F26.b1 (by intros;rfl)) F26.2 (mg_of X G a26);have h_as_last:=hv l.prog w base 0 (zhp F27 m_tuple) (F27.b1 (by intros;rfl)) F27.2 (mg_of X G a27);have h_binding:=hv l.prog w base 0 (zhq F28 m_dict) (F28.b3 (by intros;rfl)) F28.2 (mg_of X G a28);have h_ended_ahead:=hv l.prog w base 1 (zdj F33 (h_worth_of.up rfl) (h_is_made.up rfl) (h_as_last.up rfl) m_isinstance m_len m_tuple m_KIND t_KIND m_MOST_WALKED m_GREAT t_GREAT) (F33.b1 (by intros;rfl)) F33.2 (mg_of X G a33);have h_record_of:∀n:Nat,Have l.prog w K mg base "record_of" (3*n+7) ["run","expression","bound"] (spG K ARun n (fun _=>True)):=fun n=>by
  induction n with
  |zero=>exact⟨_,_,zeA (fun vs H Q E h=>by obtain⟨_,_,_,_,_,_,_,_,x,_,_,_,_,_,_,_,hh,_⟩:=h;exact absurd hh (by have:=zkF x;lia)) _,b41,F41.2,n41⟩
  |succ n ih=>
   have h_go_through:Have l.prog w K mg base "go_through" (3*n+7+0+1) ["run","expressions","bound"] (spThru K ARun n):=⟨_,_,(zes F39 (h_is_made.mono (by lia)) (ih.mono (by lia)):FnOk l.prog w K mg base CX0 (3*n+7+0+1) _ _ _ (spThru K ARun n)),b39,F39.2,n39⟩;have hf_go_lit:Zp l.prog w K mg base f29 (3*n+7+0+1) ["run","expression","bound"] (spG K ARun (n+1) (fun x=>∃y,x=.lit y)):=⟨_,(ziZ F29:FnOk l.prog w K mg base CX0 (3*n+7+0+1) _ _ _ (spG K ARun (n+1) (fun x=>∃y,x=.lit y))),b29,F29.2⟩;have hf_go_var:Zp l.prog w K mg base f30 (3*n+7+0+1) ["run","expression","bound"] (spG K ARun (n+1) (fun x=>∃s,x=.var s)):=⟨_,(zi1 F30:FnOk l.prog w K mg base CX0 (3*n+7+0+1) _ _ _ (spG K ARun (n+1) (fun x=>∃s,x=.var s))),b30,F30.2⟩;have hf_go_let:Zp l.prog w K mg base f31 (3*n+7+0+1) ["run","expression","bound"] (spG K ARun (n+1) (fun x=>∃s a b,x=.letE s a b)):=⟨_,(zi2 F31 (h_as_last.mono (by lia)) (ih.mono (by lia)) (h_binding.mono (by lia)) (h_worth_of.mono (by lia)) (h_is_made.mono (by lia)):FnOk l.prog w K mg base CX0 (3*n+7+0+1) _ _ _ (spG K ARun (n+1) (fun x=>∃s a b,x=.letE s a b))),b31,F31.2⟩;have hf_go_if:Zp l.prog w K mg base f32 (3*n+7+0+1) ["run","expression","bound"] (spG K ARun (n+1) (fun x=>∃a b c,x=.ifE a b c)):=⟨_,(zka F32 (h_as_last.mono (by lia)) (ih.mono (by lia)) (h_worth_of.mono (by lia)) (h_is_number.mono (by lia)) (h_is_made.mono (by lia)) m_KIND t_KIND:FnOk l.prog w K mg base CX0 (3*n+7+0+1) _ _ _ (spG K ARun (n+1) (fun x=>∃a b c,x=.ifE a b c))),b32,F32.2⟩;have hf_go_each:Zp l.prog w K mg base f34 (3*n+7+1+1) ["run","expression","bound"] (spG K ARun (n+1) (fun x=>∃s a b,x=.eachE s a b)):=⟨_,(zht F34 (h_made.mono (by lia)) (h_worth_of.mono (by lia)) (h_is_made.mono (by lia)) (h_as_last.mono (by lia)) (ih.mono (by lia)) (h_binding.mono (by lia)) (h_ended_ahead.mono (by lia)) (h_go_through.mono (by lia)) m_tuple:FnOk l.prog w K mg base CX0 (3*n+7+1+1) _ _ _ (spG K ARun (n+1) (fun x=>∃s a b,x=.eachE s a b))),b34,F34.2⟩;have hf_go_look:Zp l.prog w K mg base f36 (3*n+7+0+1) ["run","expression","bound"] (spG K ARun (n+1) (fun x=>∃a,x=.lookE a)):=⟨_,(zhs F36 (h_Run_look.mono (by lia)) (h_worth_of.mono (by lia)) (h_is_made.mono (by lia)) (h_as_last.mono (by lia)) (ih.mono (by lia)) m_isinstance m_str m_KIND t_KIND:FnOk l.prog w K mg base CX0 (3*n+7+0+1) _ _ _ (spG K ARun (n+1) (fun x=>∃a,x=.lookE a))),b36,F36.2⟩;have hf_go_else:Zp l.prog w K mg base f37 (3*n+7+0+1) ["run","expression","bound"] (spG K ARun (n+1) (fun x=>∃a b,x=.elseE a b)):=⟨_,(zhr F37 (h_as_last.mono (by lia)) (ih.mono (by lia)) (h_is_made.mono (by lia)):FnOk l.prog w K mg base CX0 (3*n+7+0+1) _ _ _ (spG K ARun (n+1) (fun x=>∃a b,x=.elseE a b))),b37,F37.2⟩;have hf_go_cry:Zp l.prog w K mg base f38 (3*n+7+0+1) ["run","expression","bound"] (spG K ARun (n+1) (fun x=>∃a,x=.cryE a)):=⟨_,(zi3 F38 (h_worth_of.mono (by lia)) (h_is_made.mono (by lia)) (h_as_last.mono (by lia)) (ih.mono (by lia)):FnOk l.prog w K mg base CX0 (3*n+7+0+1) _ _ _ (spG K ARun (n+1) (fun x=>∃a,x=.cryE a))),b38,F38.2⟩;have h_go_reckoned:Have l.prog w K mg base "go_reckoned" (3*n+7+1+1) ["run","expression","bound"] (spG K ARun (n+1) (fun x=>∃d es,x=.reck d es)):=⟨_,_,(zdi F40 (h_reckoned.mono (by lia)) (h_worth_of.mono (by lia)) (h_is_made.mono (by lia)) (h_as_last.mono (by lia)) (h_go_through.mono (by lia)) (h_parts_of.mono (by lia)) m_len m_tuple:FnOk l.prog w K mg base CX0 (3*n+7+1+1) _ _ _ (spG K ARun (n+1) (fun x=>∃d es,x=.reck d es))),b40,F40.2,n40⟩;have hm:Have l.prog w K mg base "record_of" (3*n+7+2+1) ["run","expression","bound"] (spG K ARun (n+1) (fun _=>True)):=⟨_,_,(zfj F41 (h_go_reckoned.mono (by lia))  m_GOING d_GOING (hf_go_lit.mono (by lia)) (hf_go_var.mono (by lia)) (hf_go_let.mono (by lia)) (hf_go_if.mono (by lia)) (hf_go_each.mono (by lia)) (hf_go_look.mono (by lia)) (hf_go_else.mono (by lia)) (hf_go_cry.mono (by lia)):FnOk l.prog w K mg base CX0 (3*n+7+2+1) _ _ _ (spG K ARun (n+1) (fun _=>True))),b41,F41.2,n41⟩;exact hm.mono (by lia)
 have h_gone:=hv l.prog w base 97 (zl9 F42 ((h_record_of 30).up rfl) (h_Run___init__.up rfl) m_list cl_Run nf_Run_names) (F42.b2 (by intros;rfl)) F42.2 (mg_of X G a42);have h_just_so:=hv l.prog w base 0 (zhy F43 m_repr) (F43.b2 (by intros;rfl)) F43.2 (mg_of X G a43);have h_founds_of:=hv l.prog w base 0 (zfs F44 ) (F44.b1 (by intros;rfl)) F44.2 (mg_of X G a44);have h_first_otherwise:=hv l.prog w base 1 (zbO F45 (h_founds_of.up rfl) (h_just_so.up rfl) m_enumerate m_zip) (F45.b2 (by intros;rfl)) F45.2 (mg_of X G a45);have h_begins_with:=hv l.prog w base 2 (zdm F46 (h_first_otherwise.up rfl) m_len) (F46.b2 (by intros;rfl)) F46.2 (mg_of X G a46);have h_matched_beginning:=hv l.prog w base 0 (za3 F47 m_enumerate m_len) (F47.b2 (by intros;rfl)) F47.2 (mg_of X G a47);have h_matched:=hv l.prog w base 3 (zhB F48 (h_matched_beginning.up rfl) (h_begins_with.up rfl) m_enumerate m_len) (F48.b2 (by intros;rfl)) F48.2 (mg_of X G a48);have h_lcell:=hv l.prog w base 0 (zly F49 m_len) (F49.b2 (by intros;rfl)) F49.2 (mg_of X G a49);have h_lbox:=hv l.prog w base 1 (zmV F50 (h_lcell.up rfl)) (F50.b2 (by intros;rfl)) F50.2 (mg_of X G a50);have h_ltake:=hv l.prog w base 0 (zlz F51 ) (F51.b2 (by intros;rfl)) F51.2 (mg_of X G a51);have h_ltext:=hv l.prog w base 1 (zlA F52 (h_ltake.up rfl) m_len m_range) (F52.b2 (by intros;rfl)) F52.2 (mg_of X G a52);have h_lnumber:=hv l.prog w base 1 (ziq F53 (h_ltake.up rfl)) (F53.b1 (by intros;rfl)) F53.2 (mg_of X G a53);have h_lworth:∀n:Nat,Have l.prog w K mg base "_law_worth" (n+3) ["_law_box_here","_law_room","_law_deep"] (spWorth n):=fun n=>by
  induction n with
  |zero=>exact⟨_,_,zeA (fun vs H Q E h=>by obtain⟨b,room,deep,_,_,_,_,h0,h1,_⟩:=h;lia) _,b54,F54.2,n54⟩
  |succ n ih=>exact⟨_,_,zjX F54 (h_ltake.mono (by lia)) (h_ltext.mono (by lia)) (h_lnumber.mono (by lia)) ih m_min m_range m_tuple,b54,F54.2,n54⟩
 have h_lvariable:=hv l.prog w base 1 (zfk F55 (h_ltake.up rfl) m_range) (F55.b1 (by intros;rfl)) F55.2 (mg_of X G a55);have h_llit:=hv l.prog w base 16 (zmb F56 ((h_lworth 13).up rfl) (h_ltake.up rfl) m_len) (F56.b2 (by intros;rfl)) F56.2 (mg_of X G a56);have h_lnamed:=hv l.prog w base 1 (zjk F57 (h_ltake.up rfl) m_len) (F57.b2 (by intros;rfl)) F57.2 (mg_of X G a57);have h_lword:=hv l.prog w base 1 (zke F58 (h_ltake.up rfl) m_int) (F58.b5 (by intros;rfl)) F58.2 (mg_of X G a58);have h_pair:∀n:Nat,Have l.prog w K mg base "_law_any" (lvP 18 n) ["_law_box_here","_law_scope","_law_names_here","_law_spare","_law_floors","_law_rounds"] (spAny n)/\Have l.prog w K mg base "_law_parts_by" (lvP 18 n+1) ["_law_box_here","_law_scopes","_law_names_here","_law_spare","_law_floors","_law_rounds"] (spPartsBy n):=fun n=>by
  induction n with
  |zero=>
   have A0:Have l.prog w K mg base "_law_any" (lvP 18 0) ["_law_box_here","_law_scope","_law_names_here","_law_spare","_law_floors","_law_rounds"] (spAny 0):=⟨_,_,zeA (fun vs H Q E h=>by obtain⟨_,_,_,_,_,_,_,_,_,_,_,_,_,_,_,_,h0,h1,_⟩:=h;lia) _,b60,F60.2,n60⟩;exact⟨A0,_,_,zb9 F59 A0 m_enumerate m_len m_tuple,b59,F59.2,n59⟩
  |succ n ih=>
   have A1:Have l.prog w K mg base "_law_any" (lvP 18 (n+1)) ["_law_box_here","_law_scope","_law_names_here","_law_spare","_law_floors","_law_rounds"] (spAny (n+1)):=⟨_,_,zmd F60 ih.2 (h_lvariable.mono (yM (by decide) (vE (zfw 18 n)))) (h_ltake.mono (yM (by decide) (vE (zfw 18 n)))) (h_llit.mono (yM (by decide) (vE (zfw 18 n)))) (h_lword.mono (yM (by decide) (vE (zfw 18 n)))) m_int m_len m_list m_min,b60,F60.2,n60⟩;exact⟨A1,_,_,zb9 F59 A1 m_enumerate m_len m_tuple,b59,F59.2,n59⟩
 have h_lsound:=hv l.prog w base 16 (zjm F61 (h_ltake.up rfl) ((h_lworth 13).up rfl) (h_lnamed.up rfl) m_len m_range m_tuple) (F61.b2 (by intros;rfl)) F61.2 (mg_of X G a61);have h_lrule:=hv l.prog w base 48 (zkw F62 (h_lsound.up rfl) (h_ltake.up rfl) ((h_pair 14).1.mono (by decide))) (F62.b2 (by intros;rfl)) F62.2 (mg_of X G a62);have h_llikes:=hv l.prog w base 1 (zjq F63 (h_ltake.up rfl) m_range) (F63.b2 (by intros;rfl)) F63.2 (mg_of X G a63);have h_lnames:=hv l.prog w base 2 (zjs F64 (h_ltake.up rfl) (h_llikes.up rfl)) (F64.b2 (by intros;rfl)) F64.2 (mg_of X G a64);have h_loutcome:=hv l.prog w base 16 (zge F65 ((h_lworth 13).up rfl) (h_ltext.up rfl) (h_ltake.up rfl)) (F65.b1 (by intros;rfl)) F65.2 (mg_of X G a65);have h_lgrown:=hv l.prog w base 98 (zjn F66 (h_gone.up rfl) (h_loutcome.up rfl) m_list m_tuple m_zip) (F66.b3 (by intros;rfl)) F66.2 (mg_of X G a66);have h_lalike:∀n:Nat,Have l.prog w K mg base "_law_alike" (n+1) ["_law_one","_law_other"] (spAl K n):=fun n=>by
  induction n with
  |zero=>exact⟨_,_,zeA (fun vs H Q E h=>by obtain⟨_,_,_,h0,_⟩:=h;rcases h0 with⟨_,_,h0⟩|⟨_,_,_,h0⟩<;>exact absurd h0 (wF _)) _,b67,F67.2,n67⟩
  |succ n ih=>exact⟨_,_,zjf F67 ih m_all m_bool m_int m_isinstance m_len m_str m_tuple m_zip,b67,F67.2,n67⟩
 have h_llong_rule:=hv l.prog w base 1 (zez F68 (h_ltake.up rfl) m_len m_range m_tuple) (F68.b2 (by intros;rfl)) F68.2 (mg_of X G a68);have h_lfounds:=hv l.prog w base 0 (zhA F69 ) (F69.b1 (by intros;rfl)) F69.2 (mg_of X G a69);have h_lbegin:=hv l.prog w base 1 (zjx F70 (h_ltake.up rfl) (h_lfounds.up rfl) m_len) (F70.b3 (by intros;rfl)) F70.2 (mg_of X G a70);have h_lis_tree:=hv l.prog w base 71 (zgj F71 (h_lfounds.up rfl) ((h_lalike 70).up rfl) m_len m_min m_range) (F71.b2 (by intros;rfl)) F71.2 (mg_of X G a71);have h_lfollows:=hv l.prog w base 1 (zgl F72 (h_lfounds.up rfl) m_len) (F72.b2 (by intros;rfl)) F72.2 (mg_of X G a72);have h_lstep:=hv l.prog w base 98 (zkE F73 (h_lfounds.up rfl) (h_ltake.up rfl) (h_loutcome.up rfl) ((h_lalike 70).up rfl) (h_lfollows.up rfl) (h_gone.up rfl) (h_matched.up rfl) m_len m_list m_tuple m_zip) (F73.b4 (by intros;rfl)) F73.2 (mg_of X G a73);have h_lway:=hv l.prog w base 99 (zmq F74 (h_lstep.up rfl)) (F74.b3 (by intros;rfl)) F74.2 (mg_of X G a74);exact (znB F75 (h_lway.up rfl) (h_lbox.up rfl) (h_lis_tree.up rfl) (h_ltake.up rfl) (h_lgrown.up rfl) (h_lbegin.up rfl) (h_llong_rule.up rfl) (h_lrule.up rfl) (h_lnames.up rfl) m_all m_range:FnOk l.prog w K mg base CX0 (199+1) _ _ _ _)
theorem zkG{l:PySem.W.OpenLaw}{q:jG}{loose:List Str}{XP:(Str->Option jA)->jD->Prop}{YP:jH->jD->Prop}{d:DefRec}{K:Params->tT}(hn:l.most=some 63)(hdf:d.params.defaults=[])
  (hY:∀(w:jH)(h:jD),YP w h->(K w.params).In h)
  (F:∀(w:jH)(mg:Str->Option jA)(fa:jC)(h:jD),(K w.params).In h->h.Ns tH mg->mg d.name=some (.ref fa)->
   ∃fd:tU,(∀(s:jB)(u:jA),BindsTo s fd ⟨[u],[]⟩ [("_law_script",u)])/\∀base:jD,(K w.params).In base->base.Ns tH mg->FnOk l.prog w (K w.params) mg base CX0 200 fa fd ["_law_script"] (spLaw (K w.params))):
  PySem.W.WalkO q loose XP YP l.row.toRowW d [] (fun f vs=>PySem.call f vs):=
 L2.zlr (n:=63) (k:=200) (x:="_law_script") (CX:=fun _=>CX0) (sp:=fun w=>spLaw (K w.params)) hn (by decide) hdf ⟨rfl,by decide,by decide,rfl⟩ hY F (fun _ _ a ns hl _ hS=>⟨a,ns,rfl,hS,hl,fun _=>rfl⟩) fun _ _ _ _ _ z=>z
end D
end
open PySem PySem.W PyProof.Rows
set_option maxRecDepth 100000 in
set_option maxHeartbeats 0 in
theorem PySem.Challenge.cw_leastforge_k37_whole_right_papers_are_a_holds : PySem.Challenge.rw_leastforge_k37_whole_right_papers_are_a.Holds := by
 w_on; o_law; k_head; (case hw=>w_witness2)
 k_fill
 refine D.zkG (l:=PySem.Challenge.rw_leastforge_k37_whole_right_papers_are_a) rfl rfl (fun w h Y=>PySem.W.kIn_of Y) ?F
 case F=>
  intro w mg fa h KX G hmg
  apply D.znC KX G hmg
  all_goals try (first | (refine' ⟨_,L2.zgt ?_ ?_ ?_⟩ <;> try first | k_is | rfl) | ((try unfold D.nI); (try unfold D.lI); (try unfold D.cI); (try unfold D.kI); first | k_is | rfl))
