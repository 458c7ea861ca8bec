import PyProof.Rows.All
import Wide.All
import OpenK.AllK
import Wide.FinOn
import Lean
import PyProof.EqAt
import PyProof.EqKinds
import PyProof.TupleCall
import PyProof.EnumMake
import PyProof.WalksEnum
import PyProof.NeKinds
import KE.KRevIter
import KE.KDictList
import KE.KDictLaws
import PySem.Challenge.RW_leastforge_k28_chains_made
open PySem.W (instObj methodObj lookIn plainGet hasDictIn findIn plainGet_of isFn plainOver takerIn makesIn emptyDict keepIn kia_one callWith_K fnOf codeIn nsIn mg_of mg_none_of)
set_option Elab.async false
set_option linter.all false
set_option maxRecDepth 100000
set_option maxHeartbeats 4000000
theorem L2.zl0:0<=PySem.sizeLine:=by decide
theorem L2.zl1:1<=PySem.sizeLine:=by decide
theorem L2.zl2:2<=PySem.sizeLine:=by decide
theorem L2.zl3:3<=PySem.sizeLine:=by decide
namespace L2
open PySem PySem.Spec PyProof.Rows
abbrev Key:=Sum Int Str
def keyIs:Key->Value->Bool
 | .inl k,v=>Value.isInt k v
 | .inr x,v=>Value.isStrOf x v
def keyH (w:World):Key->Int
 | .inl k=>hashInt k
 | .inr x=>hashStr w x
theorem keyIs_shape:∀ {k:Key}{v:Value},keyIs k v = true->(∃ i t,k = Sum.inl i/\v = Value.int i t)\/(∃ x t,k = Sum.inr x/\v = Value.str x t)
 | .inl i,v,h=>by
  obtain ⟨t,e⟩:=Value.isInt_shape (k:=i) (v:=v) h
  exact .inl ⟨i,t,rfl,e⟩
 | .inr x,v,h=>by
  obtain ⟨t,e⟩:=Value.isStrOf_shape (x:=x) (v:=v) h
  exact .inr ⟨x,t,rfl,e⟩
theorem keyIs_int (i:Int) (t:Tok):keyIs (.inl i) (.int i t) = true:=by simp [keyIs,Value.isInt]
theorem keyIs_str (x:Str) (t:Tok):keyIs (.inr x) (.str x t) = true:=by simp [keyIs,Value.isStrOf]
theorem key_ll (a b:Int):decide ((Sum.inl a:Key) = Sum.inl b) = (a == b):=by
 by_cases e:a = b
 ·subst e; simp
 ·have h:¬ (Sum.inl a:Key) = Sum.inl b:=fun q=>e (Sum.inl.inj q)
  rw [decide_eq_false h]
  exact (beq_eq_false_iff_ne.mpr e).symm
theorem key_rr (a b:Str):decide ((Sum.inr a:Key) = Sum.inr b) = decide (a = b):=by
 by_cases e:a = b
 ·subst e; simp
 ·have h:¬ (Sum.inr a:Key) = Sum.inr b:=fun q=>e (Sum.inr.inj q)
  rw [decide_eq_false h,decide_eq_false e]
theorem key_lr (a:Int) (b:Str):decide ((Sum.inl a:Key) = Sum.inr b) = false:=decide_eq_false (fun q=>nomatch q)
theorem key_rl (a:Str) (b:Int):decide ((Sum.inr a:Key) = Sum.inl b) = false:=decide_eq_false (fun q=>nomatch q)
def mixKind (prog:Program) (w:World):PySem.KeyKind prog w Key where
 is:=keyIs
 hash:=keyH w
 inj:=fun v a b ha hb=>by
  rcases keyIs_shape ha with ⟨i,t,rfl,rfl⟩ | ⟨x,t,rfl,rfl⟩
  ·rcases keyIs_shape hb with ⟨j,u,rfl,e⟩ | ⟨y,u,rfl,e⟩
   ·injection e with e1 _; rw [e1]
   ·exact nomatch e
  ·rcases keyIs_shape hb with ⟨j,u,rfl,e⟩ | ⟨y,u,rfl,e⟩
   ·exact nomatch e
   ·injection e with e1 _; rw [e1]
 byValue:=fun k v h=>by
  rcases keyIs_shape h with ⟨i,t,rfl,rfl⟩ | ⟨x,t,rfl,rfl⟩ <;> rfl
 pyHash:=fun hv h=>by
  rcases keyIs_shape hv with ⟨i,t,rfl,rfl⟩ | ⟨x,t,rfl,rfl⟩
  ·exact wpAny_pyHash_int h
  ·exact wpAny_pyHash_str h
 eqBool:=fun hu hv h=>by
  rcases keyIs_shape hu with ⟨i,t,rfl,rfl⟩ | ⟨x,t,rfl,rfl⟩
  ·rcases keyIs_shape hv with ⟨j,u,rfl,rfl⟩ | ⟨y,u,rfl,rfl⟩
   ·rw [key_ll] at h; exact wpAny_eqBool_int h
   ·rw [key_lr] at h; exact SeqAt.EqAt.int_str i t y u _ _ _ _ h
  ·rcases keyIs_shape hv with ⟨j,u,rfl,rfl⟩ | ⟨y,u,rfl,rfl⟩
   ·rw [key_rl] at h; exact SeqAt.EqAt.str_int x t j u _ _ _ _ h
   ·rw [key_rr] at h; exact wpAny_eqBool_str h
 «strs»:=fun k x t v h=>by
  rcases keyIs_shape h with ⟨i,u,rfl,e⟩ | ⟨y,u,rfl,e⟩
  ·exact nomatch e
  ·injection e with e1 _
   subst e1
   cases v <;> rfl
theorem mixKind_is (prog:Program) (w:World) (k:Key) (v:Value):(mixKind prog w).is k v = keyIs k v:=rfl
theorem mixKind_int (prog:Program) (w:World) (i:Int) (t:Tok):(mixKind prog w).is (.inl i) (.int i t) = true:=keyIs_int i t
theorem mixKind_str (prog:Program) (w:World) (x:Str) (t:Tok):(mixKind prog w).is (.inr x) (.str x t) = true:=keyIs_str x t
inductive V where
 | non | bl (b:Bool) | int (i:Int) | str (x:Str) | byt (b:Array UInt8) | flt (b:UInt64) | ref (a:Addr) | ty (n:String)
 deriving DecidableEq
def RelV:V->Value->Prop
 | .non,u=>u = Value.none
 | .bl b,u=>u = Value.bool b
 | .int i,u=>∃ t,u = Value.int i t
 | .str x,u=>∃ t,u = Value.str x t
 | .byt b,u=>∃ t,u = Value.bytes b t
 | .flt b,u=>∃ t,u = Value.float b t
 | .ref a,u=>u = Value.ref a
 | .ty n,u=>u = Value.type n
abbrev Vals:List V->List Value->Prop:=Paired RelV
theorem Vals.length {xs:List V}{us:List Value} (r:Vals xs us):xs.length = us.length:=Paired.length r
theorem Vals.get:∀ {xs:List V}{us:List Value}{i:Nat}{x:V},Vals xs us->xs[i]? = some x->∃ u,us[i]? = some u/\RelV x u
 | _,_,_,_,.nil,e=>by simp at e
 | _,_,0,_,.cons r _,e=>by simp at e; subst e; exact ⟨_,rfl,r⟩
 | _,_,i + 1,x,.cons _ t,e=>by
  obtain ⟨u,h1,h2⟩:=Vals.get (i:=i) (x:=x) t (by simpa using e)
  exact ⟨u,by simpa using h1,h2⟩
theorem Vals.set {x:V}{u:Value} (r:RelV x u):∀ {xs:List V}{us:List Value} (i:Nat),Vals xs us->Vals (xs.set i x) (us.set i u)
 | _,_,_,.nil=>.nil
 | _,_,0,.cons _ t=>.cons r t
 | _,_,i + 1,.cons q t=>.cons q (Vals.set r i t)
theorem Vals.append:∀ {xs ys:List V}{us ws:List Value},Vals xs us->Vals ys ws->Vals (xs ++ ys) (us ++ ws)
 | _,_,_,_,.nil,s=>s
 | _,_,_,_,.cons r t,s=>.cons r (Vals.append t s)
theorem Vals.take:∀ {xs:List V}{us:List Value} (n:Nat),Vals xs us->Vals (xs.take n) (us.take n)
 | _,_,0,_=>.nil
 | _,_,_ + 1,.nil=>.nil
 | _,_,n + 1,.cons r t=>.cons r (Vals.take n t)
theorem Vals.drop:∀ {xs:List V}{us:List Value} (n:Nat),Vals xs us->Vals (xs.drop n) (us.drop n)
 | _,_,0,r=>r
 | _,_,_ + 1,.nil=>.nil
 | _,_,n + 1,.cons _ t=>Vals.drop n t
def RelO:Option V->Option Value->Prop
 | some v,some u=>RelV v u
 | none,none=>True
 | _,_=>False
def KV {κ:Type}:List (κ × V)->List (κ × Value)->Prop:=Paired fun (p:κ × V) (q:κ × Value)=>p.1 = q.1/\RelV p.2 q.2
def kV:Key->V
 | .inl i=>.int i
 | .inr x=>.str x
inductive HO where
 | lst (xs:List V)
 | tup (xs:List V)
 | dK (kvs:List (Key × V)) | dT (kvs:List (List Key × V))
 | set (S:Int->Bool) (n:Nat)
 | ins (C dx:Addr) (fs:List (Str × V))
 | own (x:Addr)
 | xd (fs:List (Str × V))
 | met (f x:Addr)
 | rng (lo hi:Int)
 | frz (o:Obj) (u:HO)
 | tbl (ps:Array Value)
 | ext (φ:Heap->Prop)
abbrev Hp:=Addr->Option HO
def upd (H:Hp) (a:Addr) (o:HO):Hp:=fun b=>if b = a then some o else H b
theorem upd_same {H:Hp}{a:Addr}{o:HO}:upd H a o a = some o:=by unfold upd; rw [if_pos rfl]
theorem upd_ne {H:Hp}{a b:Addr}{o:HO} (h:b≠a):upd H a o b = H b:=by unfold upd; rw [if_neg h]
theorem ne_of {H:Hp}{a b:Addr}{o u:HO} (h:H a = some o) (h':H b = some u) (d:o≠u):a≠b:=by
 intro e; subst e; rw [h] at h'; exact d (Option.some.inj h')
theorem ne_of_none {H:Hp}{a b:Addr}{o:HO} (h:H a = some o) (h':H b = none):a≠b:=by
 intro e; subst e; rw [h] at h'; cases h'
section
variable (P:Program) (w:World)
def ObjOk (H:Hp) (h:Heap) (a:Addr):HO->Prop
 | .lst xs=>xs.length<=sizeLine/\∃ (its:List Value) (n:Nat),Vals xs its/\h.get? a = some { cls:=.type "list",data:=.seq its.toArray n }
 | .tup xs=>xs.length<=sizeLine/\∃ its:List Value,Vals xs its/\IsTup h a its.toArray
 | .dK kvs=>kvs.length<=sizeLine/\(a == sysModules) = false/\∃ vs,KV kvs vs/\h.DictOf (mixKind P w) a vs
 | .dT kvs=>kvs.length<=sizeLine/\(a == sysModules) = false/\∃ xs:List (List Key × Addr × Value),
   Paired (fun (p:List Key × V) (q:List Key × Addr × Value)=>p.1 = q.1/\H q.2.1 = some (.tup (p.1.map kV))/\RelV p.2 q.2.2) kvs xs /\
   ∃ o es ep,h.get? a = some o/\o.ExactDict/\o.data = .dict es ep/\es.toList = xs.map (entryOfKey (tupleKind (mixKind P w)))/\(xs.map (·.1)).Nodup
 | .set S n=>h.SetOf (intKind P w) a S n
 | .ins C dx fs=>H dx = some (.own a)/\fs.length<=1000/\dx≠a/\h.get? a = some (instObj C dx) /\
   ∃ mA,h.Ns1 dx mA/\(∀ f,RelO (fs.lookup f) (mA f))/\PySem.Within mA (fs.map (·.1))
 | .own _=>∃ o,h.get? a = some o
 | .xd fs=>∃ mA,h.Ns1 a mA/\∀ f,RelO (fs.lookup f) (mA f)
 | .rng lo hi=>∃ t u v,h.get? a = some { cls:=.type "range",data:=.fields #[.int lo t,.int hi u,.int 1 v] }
 | .frz o u=>h.get? a = some o/\ObjOk H h a u
 | .tbl ps=>h.get? a = some { cls:=.none,data:=.fields ps }
 | .met f x=>h.get? a = some (methodObj (.ref f) (.ref x))
 | .ext φ=>φ h/\(∃ o,h.get? a = some o)/\∀ h1 h2:Heap,φ h1->(∀ o,h1.get? a = some o->h2.get? a = some o)->φ h2
def HOk (H:Hp) (h:Heap):Prop:=∀ a o,H a = some o->ObjOk P w H h a o
end
section
variable {P:Program}{w:World}{H H':Hp}{h h':Heap}{a:Addr}{o:HO}
theorem ObjOk.lt (x:ObjOk P w H h a o):a < h.objs.size:=by
 cases o with
 | lst xs=>obtain ⟨_,_,_,_,e⟩:=x; exact Heap.lt_size e
 | tup xs=>obtain ⟨_,_,_,p⟩:=x; exact p.lt
 | dK kvs=>obtain ⟨_,_,_,_,o,_,_,e,_⟩:=x; exact Heap.lt_size e
 | dT kvs=>obtain ⟨_,_,_,_,o,_,_,e,_⟩:=x; exact Heap.lt_size e
 | set S n=>obtain ⟨o,_,_,_,e,_⟩:=x; exact Heap.lt_size e
 | ins C dx fs=>obtain ⟨_,_,_,e,_⟩:=x; exact Heap.lt_size e
 | own y=>obtain ⟨_,e⟩:=x; exact Heap.lt_size e
 | xd fs=>obtain ⟨_,⟨_,_,_,e,_⟩,_⟩:=x; exact Heap.lt_size e
 | rng lo hi=>obtain ⟨_,_,_,e⟩:=x; exact Heap.lt_size e
 | frz ob u=>obtain ⟨e,_⟩:=x; exact Heap.lt_size e
 | tbl ps=>exact Heap.lt_size (show h.get? a = some _ from x)
 | met f y=>exact Heap.lt_size (show h.get? a = some _ from x)
 | ext φ=>obtain ⟨_,⟨_,e⟩,_⟩:=x; exact Heap.lt_size e
theorem Paired.mapP {α β:Type}{F G:α->β->Prop}:∀ {l₁:List α}{l₂:List β},Paired F l₁ l₂->(∀ a b,F a b->G a b)->Paired G l₁ l₂
 | _,_,.nil,_=>.nil
 | _,_,.cons r t,f=>.cons (f _ _ r) (Paired.mapP t f)
theorem ObjOk.stay (x:ObjOk P w H h a o) (k:∀ b u,(b = a\/H b = some (.own a))->h.get? b = some u->h'.get? b = some u)
  (ho:∀ b,H b = some (.own a)->H' b = some (.own a)) (ht:∀ b xs,H b = some (.tup xs)->H' b = some (.tup xs)):ObjOk P w H' h' a o:=by
 induction o with
 | lst xs=>obtain ⟨z,its,n,r,e⟩:=x; exact ⟨z,its,n,r,k _ _ (.inl rfl) e⟩
 | tup xs=>obtain ⟨z,its,r,ob,e,c⟩:=x; exact ⟨z,its,r,ob,k _ _ (.inl rfl) e,c⟩
 | dK kvs=>obtain ⟨z,y,vs,r,ob,es,ep,e,c⟩:=x; exact ⟨z,y,vs,r,ob,es,ep,k _ _ (.inl rfl) e,c⟩
 | dT kvs=>
  obtain ⟨z,y,xs,r,ob,es,ep,e,c⟩:=x
  exact ⟨z,y,xs,Paired.mapP r fun p q z=>⟨z.1,ht _ _ z.2.1,z.2.2⟩,ob,es,ep,k _ _ (.inl rfl) e,c⟩
 | set S n=>obtain ⟨ob,es,ep,t,e,c⟩:=x; exact ⟨ob,es,ep,t,k _ _ (.inl rfl) e,c⟩
 | ins C dx fs=>
  obtain ⟨d,z,ne,e,mA,⟨od,es,ep,e2,c⟩,r⟩:=x
  exact ⟨ho _ d,z,ne,k _ _ (.inl rfl) e,mA,⟨od,es,ep,k _ _ (.inr d) e2,c⟩,r⟩
 | own y=>obtain ⟨ob,e⟩:=x; exact ⟨ob,k _ _ (.inl rfl) e⟩
 | xd fs=>obtain ⟨mA,⟨od,es,ep,e,c⟩,r⟩:=x; exact ⟨mA,⟨od,es,ep,k _ _ (.inl rfl) e,c⟩,r⟩
 | rng lo hi=>obtain ⟨t,u,v,e⟩:=x; exact ⟨t,u,v,k _ _ (.inl rfl) e⟩
 | frz ob u ih=>obtain ⟨e,q⟩:=x; exact ⟨k _ _ (.inl rfl) e,ih q⟩
 | tbl ps=>
  have e:h.get? a = some { cls:=.none,data:=.fields ps }:=x
  show h'.get? a = some { cls:=.none,data:=.fields ps }
  exact k a _ (.inl rfl) e
 | met f y=>
  have e:h.get? a = some (methodObj (.ref f) (.ref y)):=x
  show h'.get? a = some (methodObj (.ref f) (.ref y))
  exact k a _ (.inl rfl) e
 | ext φ=>obtain ⟨p,⟨o,e⟩,st⟩:=x; exact ⟨st _ _ p fun o q=>k _ _ (.inl rfl) q,⟨o,k _ _ (.inl rfl) e⟩,st⟩
theorem HOk.lt (x:HOk P w H h) (e:H a = some o):a < h.objs.size:=(x a o e).lt
theorem HOk.fresh (x:HOk P w H h) (e:h.objs.size<=a):H a = none:=by
 cases q:H a with
 | none=>rfl
 | some u=>exact absurd (Nat.lt_of_lt_of_le (x.lt q) e) (Nat.lt_irrefl _)
theorem HOk.kept (x:HOk P w H h) (k:∀ b u,h.get? b = some u->h'.get? b = some u):HOk P w H h':=fun a o e=>
 (x a o e).stay (fun b u _ q=>k b u q) (fun _ q=>q) fun _ _ q=>q
theorem HOk.laid (x:HOk P w H h) (k:∀ b u,h.get? b = some u->h'.get? b = some u) (hp:h.objs.size<=a) (new:ObjOk P w (upd H a o) h' a o):HOk P w (upd H a o) h':=fun b u e=>by
 have hn:=x.fresh hp
 by_cases hb:b = a
 ·subst hb; rw [upd_same] at e; cases e; exact new
 ·rw [upd_ne hb] at e
  exact (x b u e).stay (fun c v _ q=>k c v q) (fun c q=>by rw [upd_ne (ne_of_none q hn)]; exact q) fun c xs q=>by rw [upd_ne (ne_of_none q hn)]; exact q
end
def Rd (H:Hp) (a:Addr) (u:HO):Prop:=H a = some u\/∃ o,H a = some (.frz o u)
theorem Rd.of {H:Hp}{a:Addr}{u:HO} (h:H a = some u):Rd H a u:=.inl h
theorem Rd.ok {P:Program}{w:World}{H:Hp}{h:Heap}{a:Addr}{u:HO} (r:Rd H a u) (x:HOk P w H h):ObjOk P w H h a u:=by
 rcases r with r | ⟨o,r⟩
 ·exact x a u r
 ·obtain ⟨_,q⟩:=x a _ r
  exact q
def Mut:Option HO->Prop
 | some (.lst _)=>True
 | some (.dK _)=>True
 | some (.dT _)=>True
 | some (.set _ _)=>True
 | some (.ins _ _ _)=>True
 | some (.ext _)=>True
 | _=>False
section
variable {P:Program}{w:World}{H:Hp}{h h':Heap}{x e:Addr}{o':HO}
theorem HOk.write (ok:HOk P w H h) (mu:Mut (H x)) (he:e = x\/H e = some (.own x)) (k:∀ b u,b≠e->h.get? b = some u->h'.get? b = some u) (heo:∃ u,h'.get? e = some u)
  (new:ObjOk P w (upd H x o') h' x o'):HOk P w (upd H x o') h':=fun b u q=>by
 have nown:∀ c y,H c = some (.own y)->c≠x:=fun c y r z=>by subst z; rw [r] at mu; exact mu
 have ntup:∀ c xs,H c = some (.tup xs)->c≠x:=fun c xs r z=>by subst z; rw [r] at mu; exact mu
 by_cases hb:b = x
 ·subst hb; rw [upd_same] at q; cases q; exact new
 ·rw [upd_ne hb] at q
  by_cases hbe:b = e
  ·have q':H b = some (.own x):=by
    rcases he with z | z
    ·exact absurd (hbe.trans z) hb
    ·rw [hbe]; exact z
   rw [q] at q'; cases q'
   obtain ⟨v,hv⟩:=heo
   exact ⟨v,by rw [hbe]; exact hv⟩
  ·refine (ok b u q).stay (fun c v hc r=>k c v ?_ r) (fun c r=>by rw [upd_ne (nown c b r)]; exact r) fun c xs r=>by rw [upd_ne (ntup c xs r)]; exact r
   rcases hc with rfl | hc
   ·exact hbe
   ·rintro rfl
    rcases he with z | z
    ·exact nown c b hc z
    ·rw [hc] at z; cases z; exact hb rfl
end
structure Un (fs ex:List Addr) (H H':Hp) (h h':Heap):Prop where
 keep:∀ b o,h.get? b = some o->H b = none->b ∉ fs->b ∉ ex->h'.get? b = some o
 slot:∀ b o,h.get? b = some o->H b = none->b∈fs->b ∉ ex->∃ sl,h'.get? b = some { o with slots:=sl }
 free:∀ b o,h.get? b = some o->H b = none->b ∉ ex->H' b = none
 there:∀ b o,h.get? b = some o->b ∉ ex->∃ o',h'.get? b = some o'
 tups:∀ b xs,H b = some (.tup xs)->H' b = some (.tup xs)
 frzs:∀ b o u,H b = some (.frz o u)->H' b = some (.frz o u)
 tbls:∀ b ps,H b = some (.tbl ps)->∃ more,H' b = some (.tbl (ps ++ more))
section
variable {fs fs' ex ex':List Addr}{H H1 H2:Hp}{h h1 h2 h':Heap}{a x e:Addr}{o:HO}
theorem Un.any (u:Un fs ex H H1 h h1) {b:Addr}{ob:Obj} (q:h.get? b = some ob) (n:H b = none) (hx:b ∉ ex):∃ sl,h1.get? b = some { ob with slots:=sl }:=by
 by_cases hb:b∈fs
 ·exact u.slot b ob q n hb hx
 ·exact ⟨ob.slots,u.keep b ob q n hb hx⟩
theorem Un.kept (k:∀ b u,h.get? b = some u->h'.get? b = some u):Un fs ex H H h h':=
 ⟨fun b ob q _ _ _=>k b ob q,fun b ob q _ _ _=>⟨ob.slots,k b ob q⟩,fun _ _ _ n _=>n,fun b ob q _=>⟨ob,k b ob q⟩,fun _ _ q=>q,fun _ _ _ q=>q,fun _ ps q=>⟨#[],by rw [q]; simp⟩⟩
theorem Un.refl:Un fs ex H H h h:=Un.kept fun _ _ q=>q
theorem Un.laid (k:∀ b u,h.get? b = some u->h'.get? b = some u) (hp:h.objs.size<=a) (hn:H a = none):Un fs ex H (upd H a o) h h' where
 keep:=fun b u q _ _ _=>k b u q
 slot:=fun b u q _ _ _=>⟨u.slots,k b u q⟩
 free:=fun b u q n _=>by rw [upd_ne (Nat.ne_of_lt (Nat.lt_of_lt_of_le (Heap.lt_size q) hp))]; exact n
 there:=fun b u q _=>⟨u,k b u q⟩
 tups:=fun b xs q=>by rw [upd_ne (ne_of_none q hn)]; exact q
 frzs:=fun b u xs q=>by rw [upd_ne (ne_of_none q hn)]; exact q
 tbls:=fun b ps q=>⟨#[],by rw [upd_ne (ne_of_none q hn),q]; simp⟩
theorem Un.write (mu:Mut (H x)) (he:e = x\/H e = some (.own x)) (k:∀ b u,b≠e->h.get? b = some u->h'.get? b = some u) (heo:∃ u,h'.get? e = some u):Un fs ex H (upd H x o) h h':=by
 have hx:∀ b,H b = none->b≠x:=fun b n z=>by subst z; rw [n] at mu; exact mu
 have hb:∀ b,H b = none->b≠e:=fun b n z=>by
  subst z
  rcases he with r | r
  ·exact hx b n r
  ·rw [n] at r; cases r
 have hm:∀ b u,H b = some u->¬ Mut (some u)->b≠x:=fun b u q nm z=>by subst z; rw [q] at mu; exact nm mu
 refine ⟨fun b u q n _ _=>k b u (hb b n) q,fun b u q n _ _=>⟨u.slots,k b u (hb b n) q⟩,fun b u q n _=>by rw [upd_ne (hx b n)]; exact n,fun b u q _=>?_,
  fun b xs q=>by rw [upd_ne (hm b _ q fun z=>z)]; exact q,fun b u xs q=>by rw [upd_ne (hm b _ q fun z=>z)]; exact q,fun b ps q=>⟨#[],by rw [upd_ne (hm b _ q fun z=>z),q]; simp⟩⟩
 by_cases hbe:b = e
 ·subst hbe; exact heo
 ·exact ⟨u,k b u hbe q⟩
end
def trk (h:Heap) (H:Hp):List Addr:=(List.range h.objs.size).filter fun a=>(H a).isSome
def hidT (h:Heap) (H:Hp):Heap:=PySem.W.hideAll h (trk h H)
theorem hidT_size (h:Heap) (H:Hp):(hidT h H).objs.size = h.objs.size:=PySem.W.hideAll_size _ _
theorem hidT_get {h:Heap}{H:Hp}{b:Addr}{o:Obj} (e:h.get? b = some o) (n:H b = none):(hidT h H).get? b = some o:=
 PySem.W.hideAll_get _ e fun hm=>by
  have q:(H b).isSome = true:=(List.mem_filter.mp hm).2
  rw [n] at q; simp at q
theorem of_hidT {h:Heap}{H:Hp}{b:Addr}{o:Obj} (e:(hidT h H).get? b = some o):h.get? b = some o/\H b = none:=by
 have e':h.get? b = some o:=PySem.W.of_hideAll (trk h H) e
 refine ⟨e',?_⟩
 cases q:H b with
 | none=>rfl
 | some x=>
  have hm:b∈trk h H:=List.mem_filter.mpr ⟨List.mem_range.mpr (Heap.lt_size e'),by simp [q]⟩
  have z:(hidT h H).get? b = none:=PySem.W.hideAll_none (trk h H) hm
  rw [z] at e; cases e
def allNews (g h:Heap) (L:Addr):List (Addr × Obj):=(List.range h.objs.size).filterMap fun a=>if a = L\/(g.get? a).isSome = true then none else (h.get? a).map fun o=>(a,o)
def rest (g h:Heap) (L d:Addr):List (Addr × Obj):=(allNews g h L).filter fun p=>decide (p.1≠d)
structure Mod (K:PySem.W.Frag) (mg:Str->Option Value) (base:Heap):Prop where
 kin:K.In base
 glob:base.Ns mainGlobals mg
 blt:∃ mb,base.Ns builtinsNs mb/\∀ x:Str,x≠"__name__"->mb x = bootBuiltins x
 nolimit:base.NoLimit
structure Cx where
 prog:Program
 w:World
 K:PySem.W.Frag
 mg:Str->Option Value
 base:Heap
 A:Around
 N:List Str
 s₀:Shared
 H₀:Hp
 env:Env
 outer:List Env
 stack:List Env
 ex:List Addr
 fn:Str->Bool
 calm:Bool
 pn:List (Addr × Obj)
 xe:Value->Shared->Prop
def frs (l:List Env):List Addr:=l.filterMap (·.frame)
abbrev Cx.fs (X:Cx):List Addr:=frs X.outer
def Vis (sc:Scope) (x:Str):Prop:=sc.names.lookup x = some .local\/sc.names.lookup x = some .cell\/sc.names.lookup x = some .free
def Loc (sc:Scope) (x:Str):Prop:=sc.names.lookup x = some .local\/sc.names.lookup x = some .cell
def Look (env:Env) (h:Heap) (m:Str->Option Value) (x:Str) (u:Value):Prop:=
 (env.kindOf x = some .local/\m x = some u)\/((env.kindOf x = some .cell\/env.kindOf x = some .free)/\∃ c,env.cells.lookup x = some c/\h.IsCell c (some u))
structure Cx.Ok (X:Cx):Prop where
 mod:Mod X.K X.mg X.base
 kind:X.env.scope.kind = .function
 glob:X.env.globals = mainGlobals
 blt:X.env.builtins = builtinsNs
 above:X.s₀.heap.objs.size<=X.env.locals
 inj:∀ x y c,X.env.cells.lookup x = some c->X.env.cells.lookup y = some c->x = y
 has:∀ x,(X.env.kindOf x = some .cell\/X.env.kindOf x = some .free)->∃ c,X.env.cells.lookup x = some c
 cab:∀ x c,X.fn x = true->X.env.cells.lookup x = some c->X.s₀.heap.objs.size<=c
 hd:X.calm = true->X.A.handled = none
 frames:X.A.frames = some X.stack
 stk:X.stack = X.outer\/(X.stack = X.env :: X.outer/\X.env.frame = some X.env.locals)
 exf:∀ b∈X.ex,b≠X.env.locals/\∀ x c,X.env.cells.lookup x = some c->c≠b
 bs:∀ b o,X.base.get? b = some o->X.s₀.heap.get? b = some o/\X.H₀ b = none
 bsz:X.base.objs.size<=X.s₀.heap.objs.size
 noex:∀ b o,X.base.get? b = some o->b ∉ X.ex
 exfs:∀ b∈X.ex,b ∉ X.fs
 funs:X.s₀.heap.FunFrames X.base X.outer
 frf:∀ b∈X.fs,X.H₀ b = none
structure Inv (X:Cx) (zp:List (Addr × Obj)) (σ:List (Option V)) (H:Hp) (s:Shared):Prop where
 ok:X.Ok
 os:s.os = X.s₀.os
 bare:AllBare s.gens
 base:Un X.fs X.ex X.H₀ H X.s₀.heap s.heap
 loc:∃ m,s.heap.Ns X.env.locals m/\∀ (i:Nat) (x:Str) (v:V),X.N[i]? = some x->σ[i]? = some (some v)->Vis X.env.scope x->∃ u,RelV v u/\Look X.env s.heap m x u
 cell:∀ x c,X.env.cells.lookup x = some c->∃ v,s.heap.IsCell c v
 free:H X.env.locals = none
 freeC:∀ x c,X.env.cells.lookup x = some c->H c = none
 pin:∀ p∈X.pn ++ zp,s.heap.get? p.1 = some p.2/\H p.1 = none/\p.1≠X.env.locals/\p.1 ∉ X.fs/\∀ v,p.2.data≠.cell v
 hok:HOk X.prog X.w H s.heap
 len:σ.length = X.N.length
section
variable {X:Cx}{zp:List (Addr × Obj)}{σ:List (Option V)}{H H':Hp}{s:Shared}{h':Heap}
theorem Cx.Ok.nofr (ok:X.Ok) {b:Addr}{o:Obj} (e:X.base.get? b = some o):b ∉ X.fs:=fun hb=>by
 have:=(ok.funs.mem hb).1
 rw [e] at this; cases this
theorem Inv.bs (I:Inv X zp σ H s):∀ b o,X.base.get? b = some o->s.heap.get? b = some o/\H b = none:=fun b o e=>
 ⟨I.base.keep b o (I.ok.bs b o e).1 (I.ok.bs b o e).2 (I.ok.nofr e) (I.ok.noex b o e),I.base.free b o (I.ok.bs b o e).1 (I.ok.bs b o e).2 (I.ok.noex b o e)⟩
theorem Inv.bk (I:Inv X zp σ H s):∀ b o,X.base.get? b = some o->s.heap.get? b = some o:=fun b o e=>(I.bs b o e).1
theorem Inv.mod (I:Inv X zp σ H s):Mod X.K X.mg X.base:=I.ok.mod
theorem Inv.kIn (I:Inv X zp σ H s):X.K.In s.heap:=I.ok.mod.kin.keeps I.bk
theorem Inv.lt (I:Inv X zp σ H s):X.env.locals < s.heap.objs.size:=let ⟨_,hn,_⟩:=I.loc; hn.lt
theorem Inv.sz (I:Inv X zp σ H s):X.s₀.heap.objs.size<=s.heap.objs.size:=Nat.le_trans I.ok.above (Nat.le_of_lt I.lt)
theorem Inv.nofs (I:Inv X zp σ H s) {a:Addr} (h:s.heap.objs.size<=a):a ∉ X.fs:=fun hb=>by
 obtain ⟨_,o,ho,_⟩:=I.ok.funs.mem hb
 exact absurd (Nat.lt_of_lt_of_le (Heap.lt_size ho) (Nat.le_trans I.sz h)) (Nat.lt_irrefl _)
theorem Inv.cne (I:Inv X zp σ H s):∀ x c,X.env.cells.lookup x = some c->c≠X.env.locals:=fun x c e z=>by
 obtain ⟨v,o,ho,hd⟩:=I.cell x c e
 obtain ⟨m,⟨o',es,ep,ho',hd',_⟩,_⟩:=I.loc
 rw [z,ho'] at ho; cases ho; rw [hd'] at hd; cases hd
theorem Inv.funs (I:Inv X zp σ H s):s.heap.FunFrames X.base X.outer:=by
 have all:∀ (l:List Env),(∀ b∈frs l,b∈X.fs)->X.s₀.heap.FunFrames X.base l->s.heap.FunFrames X.base l:=by
  intro l
  induction l with
  | nil=>intro _ _; trivial
  | cons env r ih=>
   intro hs hl
   obtain ⟨hk,⟨L,o,hf,hn,ho,hd⟩,hr⟩:=hl
   have hL:L∈X.fs:=hs L (by unfold frs; rw [List.filterMap_cons,hf]; exact List.mem_cons_self)
   obtain ⟨sl,e⟩:=I.base.slot L o ho (I.ok.frf L hL) hL fun z=>I.ok.exfs L z hL
   exact ⟨hk,⟨L,_,hf,hn,e,hd⟩,ih (fun b hb=>hs b (by unfold frs; rw [List.filterMap_cons,hf]; exact List.mem_cons_of_mem _ hb)) hr⟩
 exact all X.outer (fun _ hb=>hb) I.ok.funs
theorem Inv.stack (I:Inv X zp σ H s):s.heap.FunFrames X.base X.stack:=by
 rcases I.ok.stk with e | ⟨e,hf⟩
 ·rw [e]; exact I.funs
 ·rw [e]
  obtain ⟨m,hn,_⟩:=I.loc
  refine .cons (by rw [I.ok.kind]; decide) hf hn ?_ I.funs
  exact Heap.get?_none_of_le (Nat.le_trans I.ok.bsz I.ok.above)
theorem Inv.stkSub (I:Inv X zp σ H s):∀ b∈frs X.stack,b∈X.env.locals :: X.fs:=fun b hb=>by
 rcases I.ok.stk with e | ⟨e,hf⟩
 ·rw [e] at hb; exact List.mem_cons_of_mem _ hb
 ·rw [e] at hb
  unfold frs at hb
  rw [List.filterMap_cons,hf] at hb
  exact hb
theorem Inv.stkFree (I:Inv X zp σ H s):∀ b∈frs X.stack,H b = none:=fun b hb=>by
 rcases List.mem_cons.mp (I.stkSub b hb) with e | hb
 ·rw [e]; exact I.free
 ·obtain ⟨_,o,ho,_⟩:=I.ok.funs.mem hb
  exact I.base.free b o ho (I.ok.frf b hb) fun z=>I.ok.exfs b z hb
theorem Inv.step {g':Array GenState}{t':Nat}{d':Drawn}{ch:List Addr} (I:Inv X zp σ H s)
  (hch:∀ b∈ch,(b∈X.ex\/X.s₀.heap.objs.size<=b)/\b≠X.env.locals/\(∀ x c,X.env.cells.lookup x = some c->c≠b)/\∀ p∈X.pn ++ zp,p.1≠b)
  (keep:∀ b o,b≠X.env.locals->b ∉ X.fs->b ∉ ch->s.heap.get? b = some o->H b = none->h'.get? b = some o)
  (slot:∀ b o,b≠X.env.locals->b∈X.fs->b ∉ ch->s.heap.get? b = some o->H b = none->∃ sl,h'.get? b = some { o with slots:=sl }) (free:∀ b o,b ∉ ch->s.heap.get? b = some o->H b = none->H' b = none)
  (there:∀ b o,b ∉ ch->s.heap.get? b = some o->∃ o',h'.get? b = some o')
  (tups:∀ b xs,H b = some (.tup xs)->H' b = some (.tup xs)) (frzs:∀ b o u,H b = some (.frz o u)->H' b = some (.frz o u)) (tbls:∀ b ps,H b = some (.tbl ps)->∃ more,H' b = some (.tbl (ps ++ more)))
  (ns:∀ m,s.heap.Ns X.env.locals m->h'.Ns X.env.locals m) (hok:HOk X.prog X.w H' h') (hg:AllBare g'):
  Inv X zp σ H' { s with heap:=h',gens:=g',drawn:=d',toks:=t' }:=by
 have neL:∀ b o,X.s₀.heap.get? b = some o->b≠X.env.locals:=fun b o e=>Nat.ne_of_lt (Nat.lt_of_lt_of_le (Heap.lt_size e) I.ok.above)
 have neC:∀ b o,X.s₀.heap.get? b = some o->b ∉ X.ex->b ∉ ch:=fun b o e hx hb=>by
  rcases (hch b hb).1 with z | z
  ·exact hx z
  ·exact absurd (Nat.lt_of_lt_of_le (Heap.lt_size e) z) (Nat.lt_irrefl _)
 have cellK:∀ x c,X.env.cells.lookup x = some c->∀ v,s.heap.IsCell c v->h'.IsCell c v:=fun x c e v ⟨o,ho,hd⟩=>by
  have nch:c ∉ ch:=fun z=>(hch c z).2.2.1 x c e rfl
  by_cases hc:c∈X.fs
  ·obtain ⟨sl,q⟩:=slot c o (I.cne x c e) hc nch ho (I.freeC x c e)
   exact ⟨_,q,hd⟩
  ·exact ⟨o,keep c o (I.cne x c e) hc nch ho (I.freeC x c e),hd⟩
 refine ⟨I.ok,I.os,hg,⟨fun b o e n hb hx=>?_,fun b o e n hb hx=>?_,fun b o e n hx=>?_,fun b o e hx=>?_,fun b xs e=>tups b xs (I.base.tups b xs e),fun b o xs e=>frzs b o xs (I.base.frzs b o xs e),fun b ps e=>?_⟩,?_,fun x c e=>?_,?_,fun x c e=>?_,fun p hp=>?_,hok,I.len⟩
 ·exact keep b o (neL b o e) hb (neC b o e hx) (I.base.keep b o e n hb hx) (I.base.free b o e n hx)
 ·obtain ⟨sl,e1⟩:=I.base.slot b o e n hb hx
  obtain ⟨sl',e2⟩:=slot b _ (neL b o e) hb (neC b o e hx) e1 (I.base.free b o e n hx)
  exact ⟨sl',e2⟩
 ·obtain ⟨o',e1⟩:=I.base.there b o e hx
  exact free b o' (neC b o e hx) e1 (I.base.free b o e n hx)
 ·obtain ⟨o',e1⟩:=I.base.there b o e hx
  exact there b o' (neC b o e hx) e1
 ·obtain ⟨m1,e1⟩:=I.base.tbls b ps e
  obtain ⟨m2,e2⟩:=tbls b _ e1
  exact ⟨m1 ++ m2,by rw [e2,Array.append_assoc]⟩
 ·obtain ⟨m,hn,hl⟩:=I.loc
  refine ⟨m,ns m hn,fun i x v e1 e2 e3=>?_⟩
  obtain ⟨u,r,l⟩:=hl i x v e1 e2 e3
  refine ⟨u,r,?_⟩
  rcases l with l | ⟨k,c,e,z⟩
  ·exact .inl l
  ·exact .inr ⟨k,c,e,cellK x c e _ z⟩
 ·obtain ⟨v,z⟩:=I.cell x c e
  exact ⟨v,cellK x c e v z⟩
 ·obtain ⟨m,⟨o,_,_,ho,_⟩,_⟩:=I.loc
  exact free _ o (fun z=>(hch _ z).2.1 rfl) ho I.free
 ·obtain ⟨v,o,ho,hd⟩:=I.cell x c e
  exact free c o (fun z=>(hch c z).2.2.1 x c e rfl) ho (I.freeC x c e)
 ·obtain ⟨e,n,ne,nf,d⟩:=I.pin p hp
  have nch:p.1 ∉ ch:=fun z=>(hch p.1 z).2.2.2 p hp rfl
  exact ⟨keep p.1 p.2 ne nf nch e n,free p.1 p.2 nch e n,ne,nf,d⟩
theorem Inv.un {t':Nat} (I:Inv X zp σ H s) (u:Un X.fs [] H H' s.heap h') (hok:HOk X.prog X.w H' h'):Inv X zp σ H' { s with heap:=h',toks:=t' }:=by
 obtain ⟨m,⟨o,es,ep,ho,r⟩,_⟩:=id I.loc
 obtain ⟨sl,hL⟩:=u.any ho I.free (by simp)
 exact I.step (g':=s.gens) (d':=s.drawn) (ch:=[]) (fun _ z=>nomatch z) (fun b o _ hb _ e n=>u.keep b o e n hb (by simp)) (fun b o _ hb _ e n=>u.slot b o e n hb (by simp)) (fun b o _ e n=>u.free b o e n (by simp)) (fun b o _ e=>u.there b o e (by simp)) u.tups u.frzs u.tbls (fun m' hm=>by
  obtain ⟨o',es',ep',ho',r'⟩:=hm
  rw [ho] at ho'; cases ho'
  exact ⟨_,es',ep',hL,r'⟩) hok I.bare
theorem Inv.call {g':Array GenState}{t':Nat}{d':Drawn}{ch:List Addr} (I:Inv X zp σ H s) (u:Un (frs X.stack) ch H H' s.heap h') (hok:HOk X.prog X.w H' h') (hg:AllBare g')
  (hch:∀ b∈ch,(b∈X.ex\/X.s₀.heap.objs.size<=b)/\b≠X.env.locals/\(∀ x c,X.env.cells.lookup x = some c->c≠b)/\∀ p∈X.pn ++ zp,p.1≠b):
  Inv X zp σ H' { s with heap:=h',gens:=g',drawn:=d',toks:=t' }:=by
 obtain ⟨m,⟨o,es,ep,ho,r⟩,_⟩:=id I.loc
 obtain ⟨sl,hL⟩:=u.any ho I.free fun z=>(hch _ z).2.1 rfl
 exact I.step (ch:=ch) hch (fun b o hL hb hc e n=>u.keep b o e n (fun z=>(List.mem_cons.mp (I.stkSub b z)).elim hL hb) hc) (fun b o _ _ hc e n=>u.any e n hc) (fun b o hc e n=>u.free b o e n hc) (fun b o hc e=>u.there b o e hc) u.tups u.frzs u.tbls (fun m' hm=>by
  obtain ⟨o',es',ep',ho',r'⟩:=hm
  rw [ho] at ho'; cases ho'
  exact ⟨_,es',ep',hL,r'⟩) hok hg
theorem Inv.turned {t':Nat}{it:Addr} (I:Inv X zp σ H s) (k:∀ b o,b≠it->s.heap.get? b = some o->h'.get? b = some o) (hn:H it = none) (hL:it≠X.env.locals)
  (h1:it∈X.ex\/X.s₀.heap.objs.size<=it) (h2:∀ x c,X.env.cells.lookup x = some c->c≠it) (h3:∀ p∈X.pn ++ zp,p.1≠it):Inv X zp σ H { s with heap:=h',toks:=t' }:=by
 have nit:∀ b u,H b = some u->b≠it:=fun b u e z=>by rw [z,hn] at e; cases e
 refine I.step (g':=s.gens) (d':=s.drawn) (ch:=[it]) (fun b hb=>?_) (fun b o _ _ hc e _=>k b o (fun z=>hc (by simp [z])) e) (fun b o _ _ hc e _=>⟨o.slots,k b o (fun z=>hc (by simp [z])) e⟩) (fun _ _ _ _ n=>n)
  (fun b o hc e=>⟨o,k b o (fun z=>hc (by simp [z])) e⟩) (fun _ _ e=>e) (fun _ _ _ e=>e) (fun b ps e=>⟨#[],by rw [e]; simp⟩) (fun m hm=>?_) (fun b u e=>?_) I.bare
 ·have e:b = it:=by simpa using hb
  subst e
  exact ⟨h1,hL,h2,h3⟩
 ·obtain ⟨o,es,ep,ho,r⟩:=hm
  exact ⟨o,es,ep,k _ o (Ne.symm hL) ho,r⟩
 ·refine (I.hok b u e).stay (fun c v hc q=>k c v ?_ q) (fun _ q=>q) fun _ _ q=>q
  rcases hc with z | z
  ·rw [z]; exact nit b u e
  ·exact nit c _ z
theorem Inv.tok (I:Inv X zp σ H s) (t:Nat):Inv X zp σ H { s with toks:=t }:=I.un (h':=s.heap) (t':=t) Un.refl I.hok
theorem Inv.kept {t':Nat} (I:Inv X zp σ H s) (k:∀ b u,s.heap.get? b = some u->h'.get? b = some u):Inv X zp σ H { s with heap:=h',toks:=t' }:=I.un (Un.kept k) (I.hok.kept k)
theorem Inv.laid {a:Addr}{o:HO}{t':Nat} (I:Inv X zp σ H s) (k:∀ b u,s.heap.get? b = some u->h'.get? b = some u) (hp:s.heap.objs.size<=a) (new:ObjOk X.prog X.w (upd H a o) h' a o):
  Inv X zp σ (upd H a o) { s with heap:=h',toks:=t' }:=I.un (Un.laid k hp (I.hok.fresh hp)) (I.hok.laid k hp new)
theorem Inv.write {x e:Addr}{o:HO}{t':Nat} (I:Inv X zp σ H s) (mu:Mut (H x)) (he:e = x\/H e = some (.own x)) (k:∀ b u,b≠e->s.heap.get? b = some u->h'.get? b = some u) (heo:∃ u,h'.get? e = some u)
  (new:ObjOk X.prog X.w (upd H x o) h' x o):Inv X zp σ (upd H x o) { s with heap:=h',toks:=t' }:=I.un (Un.write mu he k heo) (I.hok.write mu he k heo new)
theorem Inv.weak {σ':List (Option V)} (I:Inv X zp σ H s) (hl:σ'.length = σ.length) (w:∀ (i:Nat) v,σ'[i]? = some (some v)->σ[i]? = some (some v)):Inv X zp σ' H s:=
 ⟨I.ok,I.os,I.bare,I.base,let ⟨m,hn,hl'⟩:=I.loc; ⟨m,hn,fun i x v e1 e2 e3=>hl' i x v e1 (w i v e2) e3⟩,I.cell,I.free,I.freeC,I.pin,I.hok,hl.trans I.len⟩
theorem Inv.pins_of {pins':List (Addr × Obj)} (I:Inv X zp σ H s) (h:∀ p∈pins',s.heap.get? p.1 = some p.2/\H p.1 = none/\p.1≠X.env.locals/\p.1 ∉ X.fs/\∀ v,p.2.data≠.cell v):Inv X pins' σ H s:=
 ⟨I.ok,I.os,I.bare,I.base,I.loc,I.cell,I.free,I.freeC,fun p hp=>(List.mem_append.mp hp).elim (fun z=>I.pin p (List.mem_append_left _ z)) (h p),I.hok,I.len⟩
theorem nodup_ix {N:List Str} (hN:N.Nodup) {i j:Nat}{x:Str} (a:N[i]? = some x) (b:N[j]? = some x):i = j:=by
 obtain ⟨h1,e1⟩:=List.getElem?_eq_some_iff.mp a
 obtain ⟨h2,e2⟩:=List.getElem?_eq_some_iff.mp b
 exact (List.getElem_inj hN).mp (e1.trans e2.symm)
theorem store_ok2 {M:Model}{A:Around}{E:Value->Shared->Prop}{i:Nat}{x:Str}{v:V}{u:Value}{Q:Unit->Shared->Prop} (I:Inv X zp σ H s) (hN:X.N.Nodup) (hi:X.N[i]? = some x) (hx:Loc X.env.scope x) (r:RelV v u)
  (h:∀ s',Inv X zp (σ.set i (some v)) H s'->(∃ a,Heap.SameBut a s.heap s'.heap/\(a = X.env.locals\/X.env.cells.lookup x = some a))->Q () s') (hf:X.fn x = true\/X.env.scope.names.lookup x = some .local:=by first | exact .inl rfl | exact .inr rfl | assumption):wpAny M A (storeName X.env x u) Q E s:=by
 obtain ⟨m,hn,hl⟩:=id I.loc
 have hcls:(X.env.scope.kind == .class || (X.env.scope.kind == .module && X.env.locals != X.env.globals)) = false:=by rw [I.ok.kind]; rfl
 have hiσ:i < σ.length:=by rw [I.len]; exact (List.getElem?_eq_some_iff.mp hi).1
 have cne:=I.cne
 have tracked:∀ {a:Addr}{h':Heap},(∃ o,s.heap.get? a = some o/\H a = none)->Heap.SameBut a s.heap h'->HOk X.prog X.w H h':=fun {a h'} ha hs b ob e=>by
  obtain ⟨_,_,hfree⟩:=ha
  refine (I.hok b ob e).stay (fun c w' hc q=>(hs.2 c ?_).trans q) (fun _ q=>q) fun _ _ q=>q
  rintro rfl
  rcases hc with rfl | hc
  ·rw [hfree] at e; cases e
  ·rw [hfree] at hc; cases hc
 rcases hx with hk | hk
 ·refine wpAny_storeName_local hk hn (fun h' hn' hs=>?_) hcls
  obtain ⟨oL,_,_,hoL,_⟩:=id hn
  refine h _ ⟨I.ok,I.os,I.bare,⟨fun b o e n hb hx=>?_,fun b o e n hb hx=>?_,I.base.free,fun b o e hx=>?_,I.base.tups,I.base.frzs,I.base.tbls⟩,⟨_,hn',fun j y v' e1 e2 e3=>?_⟩,fun y c e=>?_,I.free,I.freeC,fun p hp=>?_,tracked ⟨oL,hoL,I.free⟩ hs,by simpa using I.len⟩ ⟨_,hs,.inl rfl⟩
  ·exact (hs.2 b (Nat.ne_of_lt (Nat.lt_of_lt_of_le (Heap.lt_size e) I.ok.above))).trans (I.base.keep b o e n hb hx)
  ·obtain ⟨sl,e1⟩:=I.base.slot b o e n hb hx
   exact ⟨sl,(hs.2 b (Nat.ne_of_lt (Nat.lt_of_lt_of_le (Heap.lt_size e) I.ok.above))).trans e1⟩
  ·obtain ⟨o',e1⟩:=I.base.there b o e hx
   exact ⟨o',(hs.2 b (Nat.ne_of_lt (Nat.lt_of_lt_of_le (Heap.lt_size e) I.ok.above))).trans e1⟩
  ·by_cases hj:j = i
   ·subst hj
    rw [hi] at e1; cases e1
    rw [List.getElem?_set_self hiσ] at e2
    cases e2
    exact ⟨u,r,.inl ⟨hk,by simp⟩⟩
   ·rw [List.getElem?_set_ne (Ne.symm hj)] at e2
    obtain ⟨u',r',q⟩:=hl j y v' e1 e2 e3
    refine ⟨u',r',?_⟩
    rcases q with ⟨k,e⟩ | ⟨k,c,e,z⟩
    ·refine .inl ⟨k,?_⟩
     have:y≠x:=fun e=>hj (nodup_ix hN e1 (e ▸ hi))
     simp [this,e]
    ·exact .inr ⟨k,c,e,z.sameBut hs (cne y c e)⟩
  ·obtain ⟨w',z⟩:=I.cell y c e
   exact ⟨w',z.sameBut hs (cne y c e)⟩
  ·obtain ⟨e,n,ne,nf,d⟩:=I.pin p hp
   exact ⟨(hs.2 p.1 ne).trans e,n,ne,nf,d⟩
 ·have hfn:X.fn x = true:=by
   rcases hf with z | z
   ·exact z
   ·rw [z] at hk; cases hk
  obtain ⟨c,hc⟩:=I.ok.has x (.inl hk)
  obtain ⟨w',z⟩:=I.cell x c hc
  refine wpAny_storeName_cell I.ok.kind hk hc z (fun h' hc' hs=>?_)
  obtain ⟨oc,hoc,hocd⟩:=id z
  refine h { s with heap:=h' } ⟨I.ok,I.os,I.bare,⟨fun b o e n hb hx=>?_,fun b o e n hb hx=>?_,I.base.free,fun b o e hx=>?_,I.base.tups,I.base.frzs,I.base.tbls⟩,⟨m,hn.sameBut hs (Ne.symm (cne x c hc)),fun j y v' e1 e2 e3=>?_⟩,fun y c' e=>?_,I.free,I.freeC,fun p hp=>?_,tracked ⟨oc,hoc,I.freeC x c hc⟩ hs,by simpa using I.len⟩ ⟨c,hs,.inr hc⟩
  ·exact (hs.2 b (Nat.ne_of_lt (Nat.lt_of_lt_of_le (Heap.lt_size e) (I.ok.cab x c hfn hc)))).trans (I.base.keep b o e n hb hx)
  ·obtain ⟨sl,e1⟩:=I.base.slot b o e n hb hx
   exact ⟨sl,(hs.2 b (Nat.ne_of_lt (Nat.lt_of_lt_of_le (Heap.lt_size e) (I.ok.cab x c hfn hc)))).trans e1⟩
  ·obtain ⟨o',e1⟩:=I.base.there b o e hx
   exact ⟨o',(hs.2 b (Nat.ne_of_lt (Nat.lt_of_lt_of_le (Heap.lt_size e) (I.ok.cab x c hfn hc)))).trans e1⟩
  ·by_cases hj:j = i
   ·subst hj
    rw [hi] at e1; cases e1
    rw [List.getElem?_set_self hiσ] at e2
    cases e2
    exact ⟨u,r,.inr ⟨.inl hk,c,hc,hc'⟩⟩
   ·rw [List.getElem?_set_ne (Ne.symm hj)] at e2
    obtain ⟨u',r',q⟩:=hl j y v' e1 e2 e3
    refine ⟨u',r',?_⟩
    rcases q with q | ⟨k,c',e,z'⟩
    ·exact .inl q
    ·refine .inr ⟨k,c',e,z'.sameBut hs ?_⟩
     rintro rfl
     exact hj (nodup_ix hN e1 (I.ok.inj _ _ _ e hc ▸ hi))
  ·by_cases hcc:c' = c
   ·subst hcc; exact ⟨_,hc'⟩
   ·obtain ⟨w2,z2⟩:=I.cell y c' e
    exact ⟨w2,z2.sameBut hs hcc⟩
  ·obtain ⟨e,n,ne,nf,d⟩:=I.pin p hp
   refine ⟨(hs.2 p.1 ?_).trans e,n,ne,nf,d⟩
   intro q
   rw [q,hoc] at e
   have q':oc = p.2:=Option.some.inj e
   exact d w' (by rw [← q']; exact hocd)
theorem store_ok {M:Model}{A:Around}{E:Value->Shared->Prop}{i:Nat}{x:Str}{v:V}{u:Value}{Q:Unit->Shared->Prop} (I:Inv X zp σ H s) (hN:X.N.Nodup) (hi:X.N[i]? = some x) (hx:Loc X.env.scope x) (r:RelV v u)
  (h:∀ s',Inv X zp (σ.set i (some v)) H s'->Q () s') (hf:X.fn x = true\/X.env.scope.names.lookup x = some .local:=by first | exact .inl rfl | exact .inr rfl | assumption):wpAny M A (storeName X.env x u) Q E s:=
 store_ok2 I hN hi hx r (fun s' I' _=>h s' I') hf
theorem Inv.call' {s':Shared}{ch:List Addr} (I:Inv X zp σ H s) (ho:s'.os = s.os) (u:Un (frs X.stack) ch H H' s.heap s'.heap) (hok:HOk X.prog X.w H' s'.heap) (hg:AllBare s'.gens)
  (hch:∀ b∈ch,(b∈X.ex\/X.s₀.heap.objs.size<=b)/\b≠X.env.locals/\(∀ x c,X.env.cells.lookup x = some c->c≠b)/\∀ p∈X.pn ++ zp,p.1≠b):Inv X zp σ H' s':=by
 obtain ⟨h',g',d',t',o'⟩:=s'
 have e:o' = s.os:=ho
 subst e
 exact I.call (g':=g') (t':=t') (d':=d') u hok hg hch
end
abbrev XK:=Value->Option Addr->Hp->Prop
abbrev St:=List (Option V)
abbrev VK:=V->Hp->Prop
abbrev TE:=St->Hp->VK->Prop
abbrev TT:=St->Hp->(Bool->Hp->Prop)->Prop
abbrev TA:=St->Hp->(List V->Hp->Prop)->Prop
structure Ends where
 nx:St->Hp->Prop
 rt:VK
 bk:St->Hp->Prop:=fun _ _=>False
 ct:St->Hp->Prop:=fun _ _=>False
abbrev TS:=Ends->St->Hp->Prop
def EP (X:Cx) (zp:List (Addr × Obj)) (σ:St) (Q:VK) (u:Value) (s':Shared):Prop:=∃ v H',Inv X zp σ H' s'/\RelV v u/\Q v H'
def TP (X:Cx) (zp:List (Addr × Obj)) (σ:St) (Q:Bool->Hp->Prop) (b:Bool) (s':Shared):Prop:=∃ H',Inv X zp σ H' s'/\Q b H'
def AP (X:Cx) (zp:List (Addr × Obj)) (σ:St) (Q:List V->Hp->Prop) (us:List Value) (s':Shared):Prop:=∃ vs H',Inv X zp σ H' s'/\Vals vs us/\Q vs H'
def SP (X:Cx) (zp:List (Addr × Obj)) (D:Ends) (f:Flow) (s':Shared):Prop:=
 match f with
 | .next=>∃ σ' H',Inv X zp σ' H' s'/\D.nx σ' H'
 | .brk=>∃ σ' H',Inv X zp σ' H' s'/\D.bk σ' H'
 | .cont=>∃ σ' H',Inv X zp σ' H' s'/\D.ct σ' H'
 | .ret u=>∃ v σ' H',Inv X zp σ' H' s'/\RelV v u/\D.rt v H'
def PE (X:Cx) (e:Expr) (t:TE):Prop:=
 ∀ (zp:List (Addr × Obj)) (s:Shared) (σ:St) (H:Hp) (Q:VK),Inv X zp σ H s->t σ H Q->wpAny (model X.prog X.w) X.A (eval e X.env) (EP X zp σ Q) X.xe s
def PT (X:Cx) (e:Expr) (t:TT):Prop:=
 ∀ (zp:List (Addr × Obj)) (s:Shared) (σ:St) (H:Hp) (Q:Bool->Hp->Prop),Inv X zp σ H s->t σ H Q->wpAny (model X.prog X.w) X.A (isTrue e X.env (eval e X.env)) (TP X zp σ Q) X.xe s
def PW (X:Cx) (e:Expr) (t:TT):Prop:=
 ∀ (whole:Sem Value) (zp:List (Addr × Obj)) (s:Shared) (σ:St) (H:Hp) (Q:Bool->Hp->Prop),Inv X zp σ H s->t σ H Q->wpAny (model X.prog X.w) X.A (isTrue e X.env whole) (TP X zp σ Q) X.xe s
theorem PW.pt {X:Cx}{e:Expr}{t:TT} (h:PW X e t):PT X e t:=h _
def PA (X:Cx) (es:List Expr) (t:TA):Prop:=
 ∀ (pos:Pos) (zp:List (Addr × Obj)) (s:Shared) (σ:St) (H:Hp) (Q:List V->Hp->Prop),Inv X zp σ H s->t σ H Q->wpAny (model X.prog X.w) X.A (spliced (backTo pos (starEach es X.env))) (AP X zp σ Q) X.xe s
def PS (X:Cx) (st:Stmt) (t:TS):Prop:=
 ∀ (zp:List (Addr × Obj)) (s:Shared) (σ:St) (H:Hp) (D:Ends),Inv X zp σ H s->t D σ H->wpAny (model X.prog X.w) X.A (exec st X.env) (SP X zp D) X.xe s
def PSs (X:Cx) (st:List Stmt) (t:TS):Prop:=
 ∀ (zp:List (Addr × Obj)) (s:Shared) (σ:St) (H:Hp) (D:Ends),Inv X zp σ H s->t D σ H->wpAny (model X.prog X.w) X.A (execs st X.env) (SP X zp D) X.xe s
theorem thn {α:Type}{t:Sem α}{Q Q':α->Shared->Prop}{M:Model}{A:Around}{E:Value->Shared->Prop}{s:Shared} (h:wpAny M A t Q E s) (hQ:∀ a s,Q a s->Q' a s):wpAny M A t Q' E s:=wpAny_mono h hQ fun _ _ x=>x
section
variable {X:Cx}
def tVar (i:Nat):TE:=fun σ H Q=>∃ v,σ[i]? = some (some v)/\Q v H
def tC (v:V):TE:=fun _ H Q=>Q v H
theorem pe_var {i:Nat}{x:Str}{pos:Pos} (hN:X.N[i]? = some x) (hv:Vis X.env.scope x) (hd:(x == ("__debug__":Str)) = false:=by decide) (hcd:(x == ("__classdict__":Str)) = false:=by decide):PE X (.Name x pos) (tVar i):=by
 intro zp s σ H Q I h
 obtain ⟨v,e,h⟩:=h
 obtain ⟨m,hn,hl⟩:=I.loc
 obtain ⟨u,r,l⟩:=hl i x v hN e hv
 have fin:EP X zp σ Q u s:=⟨v,H,I,r,h⟩
 rcases l with ⟨hk,hm⟩ | ⟨hk,c,hc,hcell⟩
 ·exact wpAny_Name (wpAny_loadName_local I.ok.kind hk hn hm fin) hd
 ·rcases hk with hk | hk
  ·exact wpAny_Name (wpAny_loadName_cell I.ok.kind hk hc hcell fin) hd
  ·exact wpAny_Name (wpAny_loadName_free I.ok.kind hk hc hcell fin hcd) hd
theorem pe_int {i j pos}:PE X (.Constant (.int i) j pos) (tC (.int i)):=fun _ _ _ H _ I h=>wpAny_Constant_int ⟨.int i,H,I.tok _,⟨_,rfl⟩,h⟩
theorem pe_bl {b j pos}:PE X (.Constant (.bool b) j pos) (tC (.bl b)):=fun _ _ _ H _ I h=>Constant_bool ⟨.bl b,H,I,rfl,h⟩
theorem pe_non {j pos}:PE X (.Constant .none j pos) (tC .non):=fun _ _ _ H _ I h=>Constant_none ⟨.non,H,I,rfl,h⟩
theorem pe_str {x j pos}:PE X (.Constant (.str x) j pos) (tC (.str x)):=fun _ _ _ H _ I h=>Calls.Constant_str ⟨.str x,H,I.tok _,⟨_,rfl⟩,h⟩
def Gl (X:Cx) (x:Str):Prop:=X.env.kindOf x = some .globalImplicit
theorem ld_glob {E:Value->Shared->Prop}{zp:List (Addr × Obj)}{s:Shared}{σ:St}{H:Hp}{x:Str}{u:Value}{pos:Pos}{Q:Value->Shared->Prop} (I:Inv X zp σ H s) (hg:Gl X x) (hm:X.mg x = some u) (h:Q u s)
  (hd:(x == ("__debug__":Str)) = false:=by decide):wpAny (model X.prog X.w) X.A (eval (.Name x pos) X.env) Q E s:=
 Calls.Name_function_global I.ok.kind hg (Calls.loadGlobal_global (by rw [I.ok.glob]; exact I.mod.glob.keeps I.bk) hm h) hd
theorem ld_blt {E:Value->Shared->Prop}{zp:List (Addr × Obj)}{s:Shared}{σ:St}{H:Hp}{x:Str}{u:Value}{pos:Pos}{Q:Value->Shared->Prop} (I:Inv X zp σ H s) (hg:Gl X x) (hm:X.mg x = none) (hv:bootBuiltins x = some u) (h:Q u s)
  (hn:x≠"__name__":=by decide) (hd:(x == ("__debug__":Str)) = false:=by decide):wpAny (model X.prog X.w) X.A (eval (.Name x pos) X.env) Q E s:=by
 obtain ⟨mb,h1,h2⟩:=I.mod.blt
 exact Calls.Name_function_global I.ok.kind hg (Calls.loadGlobal_builtin (by rw [I.ok.glob]; exact I.mod.glob.keeps I.bk) hm (by rw [I.ok.blt]; exact h1.keeps I.bk) ((h2 x hn).trans hv) h) hd
theorem pe_glob {x:Str}{v:V}{u:Value}{pos:Pos} (hg:Gl X x) (hm:X.mg x = some u) (r:RelV v u) (hd:(x == ("__debug__":Str)) = false:=by decide):PE X (.Name x pos) (tC v):=
 fun _ _ _ H _ I h=>ld_glob I hg hm ⟨v,H,I,r,h⟩ hd
theorem pe_bltn {x:Str}{v:V}{u:Value}{pos:Pos} (hg:Gl X x) (hm:X.mg x = none) (hv:bootBuiltins x = some u) (r:RelV v u) (hn:x≠"__name__":=by decide) (hd:(x == ("__debug__":Str)) = false:=by decide):PE X (.Name x pos) (tC v):=
 fun _ _ _ H _ I h=>ld_blt I hg hm hv ⟨v,H,I,r,h⟩ hn hd
variable {a b:Expr}{ta tb:TE}{pos:Pos}
def PC (X:Cx) (op:CmpOp) (a b:Expr) (t:TE):Prop:=
 ∀ (zp:List (Addr × Obj)) (s:Shared) (σ:St) (H:Hp) (Q:VK),Inv X zp σ H s->t σ H Q->
  wpAny (model X.prog X.w) X.A (eval a X.env) (fun v s₁=>wpAny (model X.prog X.w) X.A (eval b X.env) (fun u s₂=>wpAny (model X.prog X.w) X.A (compareOp op v u) (EP X zp σ Q) X.xe s₂) X.xe s₁) X.xe s
theorem nobehind (b:Expr) {op:CmpOp} (h:op≠.In) (h2:op≠.NotIn):behindInMarks op b = false:=by
 have e1:(op == CmpOp.In) = false:=by cases op <;> first | rfl | exact absurd rfl h
 have e2:(op == CmpOp.NotIn) = false:=by cases op <;> first | rfl | exact absurd rfl h2
 cases b <;> simp [behindInMarks,e1,e2]
def tIsN (ta:TE):TE:=fun σ H Q=>ta σ H fun x H1=>Q (.bl (decide (x = .non))) H1
def tNotN (ta:TE):TE:=fun σ H Q=>ta σ H fun x H1=>Q (.bl (!decide (x = .non))) H1
theorem RelV.none_iff {x:V}{v:Value} (r:RelV x v):(v == Value.none) = decide (x = .non):=by
 cases x with
 | non=>cases r; rfl
 | bl _=>cases r; rfl
 | int _=>obtain ⟨t,rfl⟩:=r; rfl
 | str _=>obtain ⟨t,rfl⟩:=r; rfl
 | byt _=>obtain ⟨t,rfl⟩:=r; rfl
 | flt _=>obtain ⟨t,rfl⟩:=r; rfl
 | ref _=>cases r; rfl
 | ty _=>cases r; rfl
theorem pc_isN {j pos'} (ha:PE X a ta):PC X .Is a (.Constant .none j pos') (tIsN ta):=by
 intro zp s σ H Q I h
 refine thn (ha zp s σ H _ I h) fun v s1 ⟨x,H1,I1,r1,q1⟩=>?_
 exact Constant_none (is_none_gen ⟨.bl _,H1,I1,by rw [r1.none_iff]; rfl,q1⟩)
theorem pc_notN {j pos'} (ha:PE X a ta):PC X .IsNot a (.Constant .none j pos') (tNotN ta):=by
 intro zp s σ H Q I h
 refine thn (ha zp s σ H _ I h) fun v s1 ⟨x,H1,I1,r1,q1⟩=>?_
 exact Constant_none (isnot_none_gen ⟨.bl _,H1,I1,by rw [r1.none_iff]; rfl,q1⟩)
def tB (t:TE):TT:=fun σ H Q=>t σ H fun x H1=>∃ c,x = .bl c/\Q c H1
theorem pe_cmp {op:CmpOp}{t:TE} (h:PC X op a b t) (h1:behindInMarks op b = false:=by first | exact nobehind _ (by decide) (by decide) | rfl):PE X (.Compare a [op] [b] pos) t:=fun zp s σ H Q I hw=>wpAny_Compare1 (h zp s σ H Q I hw) h1
theorem pt_cmp {op:CmpOp}{t:TE} (h:PC X op a b t) (h1:behindInMarks op b = false:=by first | exact nobehind _ (by decide) (by decide) | rfl):PT X (.Compare a [op] [b] pos) (tB t):=by
 intro zp s σ H Q I hw
 refine wpAny_isTrue_Compare1 (thn (h zp s σ H _ I hw) fun v s1 h1=>thn h1 fun u s2 h2=>thn h2 fun c s3 ⟨x,H1,I1,r1,q1⟩=>?_) h1
 obtain ⟨d,rfl,q⟩:=q1
 cases r1
 exact wpAny_truthy_bool ⟨H1,I1,q⟩
theorem pt_val {e:Expr}{t:TE} (h:PE X e t) (he:∀ whole,isTrue e X.env whole = (do let v ← whole; standAt e.pos; holding [v] (truthy v)):=by intro _; rfl):PT X e (tB t):=by
 intro zp s σ H Q I hw
 refine isTrue_plain (thn (h zp s σ H _ I hw) fun v s1 ⟨x,H1,I1,r1,q1⟩=>?_) (he _)
 obtain ⟨d,rfl,q⟩:=q1
 cases r1
 exact wpAny_truthy_bool ⟨H1,I1,q⟩
variable {tA tB':TT}{rest:List Expr}
def tAnd (t u:TT):TT:=fun σ H Q=>t σ H fun c H1=>if c = true then u σ H1 Q else Q false H1
def tOr (t u:TT):TT:=fun σ H Q=>t σ H fun c H1=>if c = true then Q true H1 else u σ H1 Q
def tNot (t:TT):TT:=fun σ H Q=>t σ H fun c H1=>Q (!c) H1
theorem pw_and1 (ha:PT X a tA):PW X (.BoolOp .And [a] pos) tA:=by
 intro wh zp s σ H Q I h
 refine isTrue_and (thn (ha zp s σ H Q I h) fun c s1 e=>?_)
 cases c with
 | true=>exact isTrue_and_nil e
 | false=>exact e
theorem pw_or1 (ha:PT X a tA):PW X (.BoolOp .Or [a] pos) tA:=by
 intro wh zp s σ H Q I h
 refine isTrue_or (thn (ha zp s σ H Q I h) fun c s1 e=>?_)
 cases c with
 | false=>exact isTrue_or_nil e
 | true=>exact e
theorem pw_and (ha:PT X a tA) (hb:PW X (.BoolOp .And (b :: rest) pos) tB'):PW X (.BoolOp .And (a :: b :: rest) pos) (tAnd tA tB'):=by
 intro wh zp s σ H Q I h
 refine isTrue_and (thn (ha zp s σ H _ I h) fun c s1 ⟨H1,I1,q1⟩=>?_)
 cases c with
 | true=>exact hb wh zp s1 σ H1 Q I1 q1
 | false=>exact ⟨H1,I1,q1⟩
theorem pw_or (ha:PT X a tA) (hb:PW X (.BoolOp .Or (b :: rest) pos) tB'):PW X (.BoolOp .Or (a :: b :: rest) pos) (tOr tA tB'):=by
 intro wh zp s σ H Q I h
 refine isTrue_or (thn (ha zp s σ H _ I h) fun c s1 ⟨H1,I1,q1⟩=>?_)
 cases c with
 | true=>exact ⟨H1,I1,q1⟩
 | false=>exact hb wh zp s1 σ H1 Q I1 q1
theorem pt_not (ha:PT X a tA):PT X (.UnaryOp .Not a pos) (tNot tA):=by
 intro zp s σ H Q I h
 exact isTrue_not (ha zp s σ H (fun c H1=>Q (!c) H1) I h)
def tAndV (ta tb:TE):TE:=fun σ H Q=>ta σ H fun x H1=>∃ c,x = .bl c/\if c = true then tb σ H1 Q else Q (.bl false) H1
def tOrV (ta tb:TE):TE:=fun σ H Q=>ta σ H fun x H1=>∃ c,x = .bl c/\if c = true then Q (.bl true) H1 else tb σ H1 Q
def tNotV (ta:TE):TE:=fun σ H Q=>ta σ H fun x H1=>∃ c,x = .bl c/\Q (.bl (!c)) H1
theorem pe_one {op}{t:TE} (h:PE X a t):PE X (.BoolOp op [a] pos) t:=fun zp s σ H Q I hw=>BoolOp_one (h zp s σ H Q I hw)
theorem pe_and (ha:PE X a ta) (hb:PE X (.BoolOp .And (b :: rest) pos) tb):PE X (.BoolOp .And (a :: b :: rest) pos) (tAndV ta tb):=by
 intro zp s σ H Q I h
 refine BoolOp_and (thn (ha zp s σ H _ I h) fun v s1 ⟨x,H1,I1,r1,q1⟩=>?_)
 obtain ⟨c,rfl,q1⟩:=q1
 cases r1
 refine wpAny_truthy_bool ?_
 cases c with
 | true=>exact hb zp s1 σ H1 Q I1 q1
 | false=>exact ⟨.bl false,H1,I1,rfl,q1⟩
theorem pe_or (ha:PE X a ta) (hb:PE X (.BoolOp .Or (b :: rest) pos) tb):PE X (.BoolOp .Or (a :: b :: rest) pos) (tOrV ta tb):=by
 intro zp s σ H Q I h
 refine BoolOp_or (thn (ha zp s σ H _ I h) fun v s1 ⟨x,H1,I1,r1,q1⟩=>?_)
 obtain ⟨c,rfl,q1⟩:=q1
 cases r1
 refine wpAny_truthy_bool ?_
 cases c with
 | false=>exact hb zp s1 σ H1 Q I1 q1
 | true=>exact ⟨.bl true,H1,I1,rfl,q1⟩
theorem pe_not (ha:PE X a ta):PE X (.UnaryOp .Not a pos) (tNotV ta):=by
 intro zp s σ H Q I h
 refine UnaryOp_ (thn (ha zp s σ H _ I h) fun v s1 ⟨x,H1,I1,r1,q1⟩=>?_)
 obtain ⟨c,rfl,q1⟩:=q1
 cases r1
 exact not_of (wpAny_truthy_bool ⟨.bl (!c),H1,I1,rfl,q1⟩)
def tIf (t:TT) (ta tb:TE):TE:=fun σ H Q=>t σ H fun c H1=>if c = true then ta σ H1 Q else tb σ H1 Q
theorem pe_ifExp {c:Expr} (hc:PT X c tA) (ha:PE X a ta) (hb:PE X b tb):PE X (.IfExp c a b pos) (tIf tA ta tb):=by
 intro zp s σ H Q I h
 refine wpAny_IfExp (thn (hc zp s σ H _ I h) fun d s1 ⟨H1,I1,q1⟩=>?_)
 cases d with
 | true=>exact ha zp s1 σ H1 Q I1 q1
 | false=>exact hb zp s1 σ H1 Q I1 q1
end
def SqL (K:PySem.W.Frag) (H:Hp) (a:Addr) (xs:List V):Prop:=
 Rd H a (.lst xs) \/
  ∃ (o:Obj) (its:Array Value) (n:Nat),K.lookup a = some o/\o.cls = .type "list"/\o.dict = none/\o.data = .seq its n/\its.size<=sizeLine/\Vals xs its.toList
def SqT (K:PySem.W.Frag) (H:Hp) (a:Addr) (xs:List V):Prop:=
 Rd H a (.tup xs) \/
  ∃ (o:Obj) (its:Array Value) (n:Nat),K.lookup a = some o/\o.cls = .type "tuple"/\o.data = .seq its n/\its.size<=sizeLine/\Vals xs its.toList
def absV:Value->Option V
 | .none=>some .non
 | .bool b=>some (.bl b)
 | .int i _=>some (.int i)
 | .str x _=>some (.str x)
 | .bytes b _=>some (.byt b)
 | .float b _=>some (.flt b)
 | .ref a=>some (.ref a)
 | .type n=>some (.ty n)
 | _=>none
theorem RelV.abs {x:V}{u:Value} (r:RelV x u):absV u = some x:=by
 cases x with
 | non=>cases r; rfl
 | bl _=>cases r; rfl
 | int _=>obtain ⟨t,rfl⟩:=r; rfl
 | str _=>obtain ⟨t,rfl⟩:=r; rfl
 | byt _=>obtain ⟨t,rfl⟩:=r; rfl
 | flt _=>obtain ⟨t,rfl⟩:=r; rfl
 | ref _=>cases r; rfl
 | ty _=>cases r; rfl
theorem RelV.inj {x y:V}{u:Value} (r:RelV x u) (q:RelV y u):x = y:=Option.some.inj (r.abs.symm.trans q.abs)
theorem Vals.inj:∀ {xs ys:List V}{us:List Value},Vals xs us->Vals ys us->xs = ys
 | _,_,_,.nil,.nil=>rfl
 | _,_,_,.cons r t,.cons r' t'=>by rw [r.inj r',Vals.inj t t']
section
variable {X:Cx}{zp:List (Addr × Obj)}{σ:St}{H:Hp}{s:Shared}{a:Addr}{xs ys:List V}
theorem SqL.of {K:PySem.W.Frag} (h:H a = some (.lst xs)):SqL K H a xs:=.inl (.inl h)
theorem SqT.of {K:PySem.W.Frag} (h:H a = some (.tup xs)):SqT K H a xs:=.inl (.inl h)
theorem Inv.list (I:Inv X zp σ H s) (h:SqL X.K H a xs):∃ its:List Value,Vals xs its/\PlainL s.heap a its.toArray/\xs.length<=sizeLine:=by
 rcases h with h | ⟨o,its,n,hk,hc,hd,hs,hz,r⟩
 ·obtain ⟨z,its,n,r,e⟩:=h.ok I.hok
  exact ⟨its,r,⟨_,n,e,rfl,rfl,rfl⟩,z⟩
 ·refine ⟨its.toList,r,⟨o,n,I.kIn a o hk,hc,hd,by simpa using hs⟩,?_⟩
  have e:=r.length
  simp only [Array.length_toList] at e
  omega
theorem Inv.tuple (I:Inv X zp σ H s) (h:SqT X.K H a xs):∃ its:List Value,Vals xs its/\IsTup s.heap a its.toArray/\xs.length<=sizeLine:=by
 rcases h with h | ⟨o,its,n,hk,hc,hs,hz,r⟩
 ·obtain ⟨z,its,r,p⟩:=h.ok I.hok
  exact ⟨its,r,p,z⟩
 ·refine ⟨its.toList,r,⟨o,I.kIn a o hk,hc,n,by simpa using hs⟩,?_⟩
  have e:=r.length
  simp only [Array.length_toList] at e
  omega
theorem Inv.list_inj (I:Inv X zp σ H s) (h:SqL X.K H a xs) (h':SqL X.K H a ys):xs = ys:=by
 obtain ⟨its,r,⟨o,n,e,_,_,d⟩,_⟩:=I.list h
 obtain ⟨its',r',⟨o',n',e',_,_,d'⟩,_⟩:=I.list h'
 rw [e] at e'; cases e'
 rw [d] at d'
 injection d' with d1 _
 have:its = its':=by simpa using congrArg Array.toList d1
 subst this
 exact r.inj r'
theorem Inv.tuple_inj (I:Inv X zp σ H s) (h:SqT X.K H a xs) (h':SqT X.K H a ys):xs = ys:=by
 obtain ⟨its,r,⟨o,e,_,n,d⟩,_⟩:=I.tuple h
 obtain ⟨its',r',⟨o',e',_,n',d'⟩,_⟩:=I.tuple h'
 rw [e] at e'; cases e'
 rw [d] at d'
 injection d' with d1 _
 have:its = its':=by simpa using congrArg Array.toList d1
 subst this
 exact r.inj r'
end
abbrev Cx.wish (X:Cx) (E:Value->Shared->Prop):Cx:={ X with xe:=E }
abbrev Cx.nox (X:Cx):Cx:=X.wish fun _ _=>False
theorem Cx.Ok.wish {X:Cx} (ok:X.Ok) (E:Value->Shared->Prop):(X.wish E).Ok:=
 ⟨ok.mod,ok.kind,ok.glob,ok.blt,ok.above,ok.inj,ok.has,ok.cab,ok.hd,ok.frames,ok.stk,ok.exf,ok.bs,ok.bsz,ok.noex,ok.exfs,ok.funs,ok.frf⟩
theorem Cx.Ok.unwish {X:Cx}{E:Value->Shared->Prop} (ok:(X.wish E).Ok):X.Ok:=
 ⟨ok.mod,ok.kind,ok.glob,ok.blt,ok.above,ok.inj,ok.has,ok.cab,ok.hd,ok.frames,ok.stk,ok.exf,ok.bs,ok.bsz,ok.noex,ok.exfs,ok.funs,ok.frf⟩
section
variable {X:Cx}{zp:List (Addr × Obj)}{σ:St}{H:Hp}{s:Shared}{E:Value->Shared->Prop}
theorem Inv.wish (I:Inv X zp σ H s) (E:Value->Shared->Prop):Inv (X.wish E) zp σ H s:=⟨I.ok.wish E,I.os,I.bare,I.base,I.loc,I.cell,I.free,I.freeC,I.pin,I.hok,I.len⟩
theorem Inv.unwish (I:Inv (X.wish E) zp σ H s):Inv X zp σ H s:=⟨I.ok.unwish,I.os,I.bare,I.base,I.loc,I.cell,I.free,I.freeC,I.pin,I.hok,I.len⟩
theorem SP.unwish {D:Ends}{f:Flow}{s':Shared} (h:SP (X.wish E) zp D f s'):SP X zp D f s':=by
 cases f with
 | next=>obtain ⟨σ',H',I,q⟩:=h; exact ⟨σ',H',I.unwish,q⟩
 | brk=>obtain ⟨σ',H',I,q⟩:=h; exact ⟨σ',H',I.unwish,q⟩
 | cont=>obtain ⟨σ',H',I,q⟩:=h; exact ⟨σ',H',I.unwish,q⟩
 | ret u=>obtain ⟨v,σ',H',I,r,q⟩:=h; exact ⟨v,σ',H',I.unwish,r,q⟩
theorem PSs.nox {st:List Stmt}{t:TS} (h:PSs X.nox st t):PSs X st t:=fun zp s σ H D I hw=>
 wpAny_mono (h zp s σ H D (I.wish _) hw) (fun _ _ q=>q.unwish) fun _ _ z=>False.elim z
end
section
variable {X:Cx}{st:Stmt}{rest:List Stmt}{t u:TS}{e:Expr}{te:TE}{pos:Pos}
def tNext:TS:=fun D σ H=>D.nx σ H
def tSeq (t u:TS):TS:=fun D σ H=>t { D with nx:=u D } σ H
theorem pss_nil:PSs X [] tNext:=fun _ _ σ H _ I h=>wpAny_execs_nil ⟨σ,H,I,h⟩
theorem pss_cons (h1:PS X st t) (h2:PSs X rest u):PSs X (st :: rest) (tSeq t u):=by
 intro zp s σ H D I h
 refine wpAny_execs_cons (thn (h1 zp s σ H { D with nx:=u D } I h) fun f s1 q=>?_)
 cases f with
 | next=>
  obtain ⟨σ',H',I',q⟩:=q
  exact h2 zp s1 σ' H' D I' q
 | ret v=>exact q
 | brk=>exact q
 | cont=>exact q
theorem pss_one (h1:PS X st t):PSs X [st] t:=by
 intro zp s σ H D I h
 refine wpAny_execs_cons (thn (h1 zp s σ H D I h) fun f s1 q=>?_)
 cases f with
 | next=>exact wpAny_execs_nil q
 | ret v=>exact q
 | brk=>exact q
 | cont=>exact q
theorem Inv.quiet {zp:List (Addr × Obj)}{σ:St}{H:Hp}{s:Shared} (I:Inv X zp σ H s):interactive X.env = false:=by simp [interactive,I.ok.kind]
def tDrop (te:TE):TS:=fun D σ H=>te σ H fun _ H1=>D.nx σ H1
theorem ps_expr (he:PE X e te) (hs:swapsWith e none pos.line X.env = pure false:=by rfl):PS X (.Expr e pos) (tDrop te):=by
 intro zp s σ H D I h
 exact wpAny_Expr_any (thn (he zp s σ H _ I h) fun v s1 ⟨x,H1,I1,r1,q1⟩=>⟨σ,H1,I1,q1⟩) I.quiet hs
def tRet (te:TE):TS:=fun D σ H=>te σ H D.rt
theorem ps_ret (he:PE X e te):PS X (.Return (some e) pos) (tRet te):=by
 intro zp s σ H D I h
 exact wpAny_Return_some (thn (he zp s σ H _ I h) fun v s1 ⟨x,H1,I1,r1,q1⟩=>⟨x,σ,H1,I1,r1,q1⟩)
def tIfS (c:TT) (t u:TS):TS:=fun D σ H=>c σ H fun b H1=>if b = true then t D σ H1 else u D σ H1
theorem ps_if {c:Expr}{a b:List Stmt}{tc:TT} (hc:PT X c tc) (ha:PSs X a t) (hb:PSs X b u):PS X (.If c a b pos) (tIfS tc t u):=by
 intro zp s σ H D I h
 refine wpAny_If (thn (hc zp s σ H _ I h) fun d s1 ⟨H1,I1,q1⟩=>?_)
 cases d with
 | true=>exact ha zp s1 σ H1 D I1 q1
 | false=>exact hb zp s1 σ H1 D I1 q1
def tNever:TS:=fun _ _ _=>False
theorem pss_never {sts:List Stmt}:PSs X sts tNever:=fun _ _ _ _ _ _ h=>h.elim
end
abbrev TG:=V->St->Hp->(St->Hp->Prop)->Prop
abbrev TGs:=List V->St->Hp->(St->Hp->Prop)->Prop
def PG (X:Cx) (target:Expr) (t:TG):Prop:=
 ∀ (zp:List (Addr × Obj)) (s:Shared) (σ:St) (H:Hp) (v:V) (u:Value) (Q:St->Hp->Prop),Inv X zp σ H s->RelV v u->t v σ H Q->
  wpAny (model X.prog X.w) X.A (assign target X.env u) (fun _ s'=>∃ σ' H',Inv X zp σ' H' s'/\Q σ' H') X.xe s
def PGs (X:Cx) (ts:List Expr) (t:TGs):Prop:=
 ∀ (zp:List (Addr × Obj)) (s:Shared) (σ:St) (H:Hp) (vs:List V) (us:List Value) (Q:St->Hp->Prop),Inv X zp σ H s->Vals vs us->t vs σ H Q->
  wpAny (model X.prog X.w) X.A (assignInOrder ((assignEach ts X.env).map (·.2)) us) (fun _ s'=>∃ σ' H',Inv X zp σ' H' s'/\Q σ' H') X.xe s
abbrev TSet:=V->V->V->Hp->(Hp->Prop)->Prop
def PSet (X:Cx) (t:TSet):Prop:=
 ∀ (zp:List (Addr × Obj)) (s:Shared) (σ:St) (H:Hp) (o i v:V) (ov iv u:Value) (Q:Hp->Prop),Inv X zp σ H s->RelV o ov->RelV i iv->RelV v u->t o i v H Q->
  wpAny (model X.prog X.w) X.A (setItem ov iv u) (fun _ s'=>∃ H',Inv X zp σ H' s'/\Q H') X.xe s
abbrev TIp:=V->V->Hp->VK->Prop
def PIp (X:Cx) (op:Operator) (t:TIp):Prop:=
 ∀ (zp:List (Addr × Obj)) (s:Shared) (σ:St) (H:Hp) (x y:V) (v u:Value) (Q:VK),Inv X zp σ H s->RelV x v->RelV y u->t x y H Q->
  wpAny (model X.prog X.w) X.A (inplaceOp op v u) (EP X zp σ Q) X.xe s
section
variable {X:Cx}{pos:Pos}
def gName (i:Nat):TG:=fun v σ H Q=>Q (σ.set i (some v)) H
theorem pg_name {i:Nat}{x:Str} (hN:X.N.Nodup) (hi:X.N[i]? = some x) (hx:Loc X.env.scope x) (hf:X.fn x = true\/X.env.scope.names.lookup x = some .local:=by first | exact .inl rfl | exact .inr rfl | assumption):PG X (.Name x pos) (gName i):=by
 intro zp s σ H v u Q I r h
 exact wpAny_assign_Name (store_ok I hN hi hx r (fun s' I'=>⟨_,H,I',h⟩) hf)
def gNil:TGs:=fun vs σ H Q=>vs = []/\Q σ H
def gCons (t:TG) (u:TGs):TGs:=fun vs σ H Q=>∃ v r,vs = v :: r/\t v σ H fun σ' H'=>u r σ' H' Q
theorem pgs_nil:PGs X [] gNil:=by
 intro zp s σ H vs us Q I r h
 obtain ⟨e,h⟩:=h
 subst e
 cases r
 exact assignInOrder_nil ⟨σ,H,I,h⟩
theorem pgs_cons {e:Expr}{es:List Expr}{t:TG}{u:TGs} (h1:PG X e t) (h2:PGs X es u)
  (hs:(assignEach (e :: es) X.env).map (·.2) = assign e X.env :: (assignEach es X.env).map (·.2):=by rfl):PGs X (e :: es) (gCons t u):=by
 intro zp s σ H vs us Q I r h
 obtain ⟨v,vr,e1,h⟩:=h
 subst e1
 cases r with
 | cons r rr=>
  rw [hs]
  refine assignInOrder_cons (thn (h1 zp s σ H _ _ _ I r h) fun _ s1 ⟨σ1,H1,I1,q1⟩=>?_)
  exact h2 zp s1 σ1 H1 _ _ Q I1 rr q1
def gTup (K:PySem.W.Frag) (n:Nat) (t:TGs):TG:=fun v σ H Q=>∃ a xs,v = .ref a/\SqT K H a xs/\xs.length = n/\t xs σ H Q
theorem pg_tup {es:List Expr}{k:Nat}{t:TGs}{n:Nat} (hc:X.calm = true) (h:PGs X es t)
  (hn:(assignEach es X.env).length = n:=by rfl) (hst:(assignEach es X.env).findIdx? (·.1) = none:=by rfl):PG X (.Tuple es k pos) (gTup X.K n t):=by
 intro zp s σ H v u Q I r hw
 obtain ⟨a,xs,e1,hq,hl,hw⟩:=hw
 subst e1
 cases r
 obtain ⟨its,rv,ht,hz⟩:=I.tuple hq
 refine assign_Tuple_tuple (I.ok.hd hc) ht (by simp [hn,← hl,rv.length]) hst fun h' hx=>?_
 have I1:Inv X zp σ H { s with heap:=h' }:=I.kept (t':=s.toks) fun b o e=>hx b o (Nat.ne_of_lt (Heap.lt_size e)) e
 exact h zp _ σ H xs _ Q I1 (by simpa using rv) hw
def gSub (to ti:TE) (t:TSet):TG:=fun v σ H Q=>to σ H fun o H1=>ti σ H1 fun i H2=>t o i v H2 fun H3=>Q σ H3
theorem pg_sub {o i:Expr}{to ti:TE}{t:TSet} (ho:PE X o to) (hi:PE X i ti) (hs:PSet X t)
  (ha:∀ v,assign (.Subscript o i pos) X.env v = (do
   let ov ← holding [v] (eval o X.env)
   let iv ← holding [v,ov] (eval i X.env)
   standAt pos
   holding [v,ov,iv] (setItem ov iv v)
   release [v,ov,iv] []):=by intro _; rfl):PG X (.Subscript o i pos) (gSub to ti t):=by
 intro zp s σ H v u Q I r h
 rw [ha]
 refine wpAny_bind (wpAny_holding (thn (ho zp s σ H _ I h) fun ov s1 ⟨x,H1,I1,r1,q1⟩=>?_))
 refine wpAny_bind (wpAny_holding (thn (hi zp s1 σ H1 _ I1 q1) fun iv s2 ⟨y,H2,I2,r2,q2⟩=>?_))
 refine wpAny_bind (wpAny_standAt (wpAny_bind (wpAny_holding (thn (hs zp s2 σ H2 x y v ov iv u _ I2 r1 r2 r q2) fun _ s3 ⟨H3,I3,q3⟩=>?_))))
 exact wpAny_release ⟨σ,H3,I3,q3⟩
def tAsg (te:TE) (g:TG):TS:=fun D σ H=>te σ H fun x H1=>g x σ H1 D.nx
theorem ps_asg {tg e:Expr}{te:TE}{g:TG} (he:PE X e te) (hg:PG X tg g) (hs:swapsWithSole [tg] e pos.line X.env = pure false:=by rfl) (hw:swappedStores [tg] e X.env = pure none:=by rfl)
  (h1:(assignEach [tg] X.env).map (·.2) = [assign tg X.env]:=by rfl):PS X (.Assign [tg] e pos) (tAsg te g):=by
 intro zp s σ H D I h
 refine wpAny_Assign_stores (thn (he zp s σ H _ I h) fun v s1 ⟨x,H1,I1,r1,q1⟩=>?_) hs hw
 rw [h1]
 exact thn (hg zp s1 σ H1 x v _ I1 r1 q1) fun _ s2 q=>q
theorem ps_set {i:Nat}{x:Str}{e:Expr}{te:TE}{pos':Pos} (hN:X.N.Nodup) (hi:X.N[i]? = some x) (hx:Loc X.env.scope x) (he:PE X e te) (hs:swapsWith e (some (.Name x pos')) pos.line X.env = pure false:=by rfl) (hf:X.fn x = true\/X.env.scope.names.lookup x = some .local:=by first | exact .inl rfl | exact .inr rfl | assumption):
  PS X (.Assign [.Name x pos'] e pos) (tAsg te (gName i)):=by
 intro zp s σ H D I h
 refine wpAny_Assign_Name (thn (he zp s σ H _ I h) fun v s1 ⟨y,H1,I1,r1,q1⟩=>?_) hs
 exact store_ok I1 hN hi hx r1 (fun s2 I2=>⟨_,H1,I2,q1⟩) hf
def tAug (i:Nat) (te:TE) (ti:TIp):TS:=fun D σ H=>∃ x,σ[i]? = some (some x)/\te σ H fun y H1=>ti x y H1 fun z H2=>D.nx (σ.set i (some z)) H2
theorem ps_aug {i:Nat}{x:Str}{e:Expr}{te:TE}{op:Operator}{ti:TIp}{pos':Pos} (hN:X.N.Nodup) (hi:X.N[i]? = some x) (hx:Loc X.env.scope x) (he:PE X e te) (ho:PIp X op ti) (hf:X.fn x = true\/X.env.scope.names.lookup x = some .local:=by first | exact .inl rfl | exact .inr rfl | assumption):
  PS X (.AugAssign (.Name x pos') op e pos) (tAug i te ti):=by
 intro zp s σ H D I h
 obtain ⟨v,e1,h⟩:=h
 obtain ⟨m,hn,hl⟩:=I.loc
 have vis:Vis X.env.scope x:=by rcases hx with k | k; exact .inl k; exact .inr (.inl k)
 obtain ⟨u,r,l⟩:=hl i x v hi e1 vis
 refine wpAny_AugAssign_Name ?_
 have go:wpAny (model X.prog X.w) X.A (eval e X.env) (fun w s₂=>wpAny (model X.prog X.w) X.A (inplaceOp op u w) (fun r s₃=>wpAny (model X.prog X.w) X.A (storeName X.env x r) (fun _=>SP X zp D .next) X.xe s₃) X.xe s₂) X.xe s:=by
  refine thn (he zp s σ H _ I h) fun w s1 ⟨y,H1,I1,r1,q1⟩=>?_
  refine thn (ho zp s1 σ H1 v y u w _ I1 r r1 q1) fun z s2 ⟨zv,H2,I2,r2,q2⟩=>?_
  exact store_ok I2 hN hi hx r2 (fun s3 I3=>⟨_,H2,I3,q2⟩) hf
 rcases l with ⟨hk,hm⟩ | ⟨hk,c,hc,hcell⟩
 ·exact wpAny_loadName_local I.ok.kind hk hn hm go
 ·rcases hk with hk | hk
  ·exact wpAny_loadName_cell I.ok.kind hk hc hcell go
  ·rcases hx with k | k
   ·have:X.env.scope.names.lookup x = some .free:=hk
    rw [k] at this; cases this
   ·have:X.env.scope.names.lookup x = some .free:=hk
    rw [k] at this; cases this
end
section
variable {X:Cx}{pos:Pos}
def tWhile (c:TT) (tb:TS):TS:=fun D σ H=>∃ W:Nat->St->Hp->Prop,(∃ m,W m σ H)/\∀ m σ H,W m σ H->
 c σ H fun b H1=>if b = true then ∃ N:St->Hp->Prop,(∀ σ' H',N σ' H'->∃ m',m' < m/\W m' σ' H')/\tb { D with nx:=N,ct:=N,bk:=D.nx } σ H1 else D.nx σ H1
theorem ps_while {c:Expr}{body:List Stmt}{tc:TT}{tb:TS} (hp:PassesOwn (model X.prog X.w) X.A X.env X.xe) (hc:PT X c tc) (hb:PSs X body tb):PS X (.While c body [] pos) (tWhile tc tb):=by
 intro zp s σ H D I h
 obtain ⟨W,⟨m0,w0⟩,turn⟩:=h
 refine wpAny_While (codeAny_whileLoop (fun n s'=>∃ σ' H',Inv X zp σ' H' s'/\W n σ' H') ?_ m0 ⟨σ,H,I,w0⟩)
 rintro n s1 ⟨σ1,H1,I1,w1⟩
 refine wpAny_passesOwn hp (thn (hc zp s1 σ1 H1 _ I1 (turn n σ1 H1 w1)) fun b s2 ⟨H2,I2,q2⟩=>?_)
 cases b with
 | true=>
  obtain ⟨N,hN,q2⟩:=q2
  rw [if_pos rfl]
  refine wpAny_passesOwn hp (thn (hb zp s2 σ1 H2 _ I2 q2) fun f s3 q3=>?_)
  cases f with
  | next=>
   obtain ⟨σ3,H3,I3,n3⟩:=q3
   obtain ⟨m',hm,w3⟩:=hN σ3 H3 n3
   exact ⟨m',hm,σ3,H3,I3,w3⟩
  | cont=>
   obtain ⟨σ3,H3,I3,n3⟩:=q3
   obtain ⟨m',hm,w3⟩:=hN σ3 H3 n3
   exact ⟨m',hm,σ3,H3,I3,w3⟩
  | brk=>exact q3
  | ret v=>exact q3
 | false=>
  rw [if_neg Bool.false_ne_true]
  exact wpAny_execs_nil ⟨σ1,H2,I2,q2⟩
end
structure It where
 go:Nat->Hp->Prop
 yld:Nat->Hp->V->Hp->Prop
 stop:Nat->Hp->Prop
def FpOk (X:Cx) (zp:List (Addr × Obj)) (H:Hp) (b:Addr):Prop:=
 H b = none/\b≠X.env.locals/\b ∉ X.fs/\(b∈X.ex\/X.s₀.heap.objs.size<=b)/\(∀ x c,X.env.cells.lookup x = some c->c≠b)/\∀ p∈X.pn ++ zp,p.1≠b
theorem Inv.fpOk {X:Cx}{zp:List (Addr × Obj)}{σ:St}{H H':Hp}{s:Shared}{b:Addr} (I:Inv X zp σ H s) (hb:s.heap.objs.size<=b) (hn:H' b = none):FpOk X zp H' b:=by
 refine ⟨hn,Nat.ne_of_gt (Nat.lt_of_lt_of_le I.lt hb),I.nofs hb,.inr (Nat.le_trans I.sz hb),fun x c e z=>?_,fun p hp z=>?_⟩
 ·obtain ⟨v,q⟩:=I.cell x c e
  exact absurd (Nat.lt_of_lt_of_le q.lt (by rw [z]; exact hb)) (Nat.lt_irrefl _)
 ·exact absurd (Nat.lt_of_lt_of_le (Heap.lt_size (I.pin p hp).1) (by rw [z]; exact hb)) (Nat.lt_irrefl _)
structure Turn (P:Program) (w:World) (K:PySem.W.Frag) (tg:Expr) (J:It) (fp:List Addr) (it:Addr) (tn:Nat->Heap->Prop):Prop where
 mem:it∈fp
 obj:∀ i h,tn i h->∀ b∈fp,∃ o,h.get? b = some o/\∀ v,o.data≠.cell v
 keep:∀ i h h',tn i h->(∀ b∈fp,∀ o,h.get? b = some o->h'.get? b = some o)->tn i h'
 item:∀ (X:Cx),X.prog = P->X.w = w->X.K = K->X.calm = true->∀ (i:Nat) (zp:List (Addr × Obj)) (s:Shared) (σ:St) (H:Hp) (E:Value->Shared->Prop),Inv X zp σ H s->(∀ b∈fp,FpOk X zp H b)->tn i s.heap->J.go i H->
  wpAny (model P w) X.A (pyNext (.ref it)) (fun r s1=>∃ u,r = some u /\
   wpAny (model P w) X.A (letOwnedTupleGo tg (.ref it) u) (fun _ s2=>∃ x H',Inv X zp σ H' s2/\RelV x u/\J.yld i H x H'/\tn (i + 1) s2.heap/\∀ b∈fp,H' b = none) E s1) E s
 done:∀ (X:Cx),X.prog = P->X.w = w->X.K = K->X.calm = true->∀ (i:Nat) (zp:List (Addr × Obj)) (s:Shared) (σ:St) (H:Hp) (E:Value->Shared->Prop),Inv X zp σ H s->(∀ b∈fp,FpOk X zp H b)->tn i s.heap->J.stop i H->
  wpAny (model P w) X.A (pyNext (.ref it)) (fun r s1=>r = none/\Inv X zp σ H s1) E s
 self:∀ (A:Around) (i:Nat) (s:Shared) (Q:Value->Shared->Prop) (E:Value->Shared->Prop),tn i s.heap->Q (.ref it) s->wpAny (model P w) A (pyIter (.ref it)) Q E s
abbrev TI:=St->Hp->(It->Hp->Prop)->Prop
def PIE (X:Cx) (zp:List (Addr × Obj)) (σ:St) (tg:Expr) (R:It->Hp->Prop) (itv:Value) (s2:Shared):Prop:=
 ∃ (it:Addr) (fp:List Addr) (tn:Nat->Heap->Prop) (J:It) (H':Hp),itv = .ref it/\Inv X zp σ H' s2/\Turn X.prog X.w X.K tg J fp it tn/\tn 0 s2.heap/\(∀ b∈fp,FpOk X zp H' b)/\R J H'
def PI (X:Cx) (tg iter:Expr) (wi:TI):Prop:=
 ∀ (zp:List (Addr × Obj)) (s:Shared) (σ:St) (H:Hp) (R:It->Hp->Prop),Inv X zp σ H s->wi σ H R->
  wpAny (model X.prog X.w) X.A (eval iter X.env) (fun v s1=>wpAny (model X.prog X.w) X.A (pyIter v) (PIE X zp σ tg R) X.xe s1) X.xe s
theorem go_of {M:Model}{A:Around}{E:Value->Shared->Prop}{s:Shared}{tg:Expr}{it:Addr}{u:Value}{o:Obj}{n:String}{vs:Array Value}{Q:Unit->Shared->Prop} (ho:s.heap.get? it = some o) (hc:o.cls = .type n) (hd:o.data = .fields vs)
  (hn:["enumerate","zip","dict_itemiterator","dict_reverseitemiterator","odict_iterator","itertools.zip_longest","itertools.pairwise"].contains n = false) (hQ:Q () s):wpAny M A (letOwnedTupleGo tg (.ref it) u) Q E s:=by
 unfold letOwnedTupleGo
 cases tg <;> first
  | exact wpAny_pure hQ
  | (
    cases u <;> first
    | exact wpAny_pure hQ
    | (
      refine wpAny_bind (wpAny_load ho ?_)
      rw [hc,hd]
      show wpAny M A (if (["enumerate","zip","dict_itemiterator","dict_reverseitemiterator","odict_iterator","itertools.zip_longest","itertools.pairwise"].contains n && vs[0]? == some (rawInt _)) = true then _ else _) Q E s
      rw [if_neg (by intro h; rw [hn,Bool.false_and] at h; cases h)]
      exact wpAny_pure hQ))
def Itl (K:PySem.W.Frag) (a:Addr):It:=
 ⟨fun i H=>∃ xs x,SqL K H a xs/\xs[i]? = some x,fun i H x H'=>H' = H/\∀ xs,SqL K H a xs->xs[i]? = some x,fun i H=>∃ xs,SqL K H a xs/\xs.length<=i⟩
def Itt (K:PySem.W.Frag) (a:Addr):It:=
 ⟨fun i H=>∃ xs x,SqT K H a xs/\xs[i]? = some x,fun i H x H'=>H' = H/\∀ xs,SqT K H a xs->xs[i]? = some x,fun i H=>∃ xs,SqT K H a xs/\xs.length<=i⟩
def Itr (lo:Int) (n:Nat):It:=⟨fun i _=>i < n,fun i H x H'=>H' = H/\x = .int (lo + i),fun i _=>n<=i⟩
theorem turn_list {P:Program}{w:World}{K:PySem.W.Frag}{tg:Expr} (a it:Addr):Turn P w K tg (Itl K a) [it] it (fun i h=>h.IsListIter it a i) where
 mem:=by simp
 obj:=fun i h st b hb=>by
  have e:b = it:=by simpa using hb
  subst e
  obtain ⟨o,e,c,d⟩:=st
  exact ⟨o,e,fun v z=>by rw [d] at z; cases z⟩
 keep:=fun i h h' st k=>st.at fun o e=>k it (by simp) o e
 item:=by
  intro X hP hw hK hc i zp s σ H E I hf st hg
  subst hP hw hK
  obtain ⟨xs,x,hq,hx⟩:=hg
  obtain ⟨its,rv,p,hz⟩:=I.list hq
  obtain ⟨u,hu,ru⟩:=rv.get hx
  obtain ⟨f0,f1,f2,f3,f4,f5⟩:=hf it (by simp)
  refine wpAny_pyNext_list_item st p.isList (x:=u) (by simpa using hu) fun h' st' sb=>?_
  have I1:Inv X zp σ H { s with heap:=h' }:=I.turned (t':=s.toks) (fun b o hb e=>(sb.2 b hb).trans e) f0 f1 f3 f4 f5
  obtain ⟨o,e,c,d⟩:=id st'
  exact ⟨u,rfl,go_of (s:={ s with heap:=h' }) e c d (by decide) ⟨x,H,I1,ru,⟨rfl,fun ys hy=>by rw [I.list_inj hy hq]; exact hx⟩,st',fun b hb=>(hf b hb).1⟩⟩
 done:=by
  intro X hP hw hK hc i zp s σ H E I hf st hg
  subst hP hw hK
  obtain ⟨xs,hq,hx⟩:=hg
  obtain ⟨its,rv,p,hz⟩:=I.list hq
  obtain ⟨f0,f1,f2,f3,f4,f5⟩:=hf it (by simp)
  have hl:=rv.length
  exact wpAny_pyNext_list_end (I.ok.hd hc) st p.isList (by simp; omega) fun h' eb=>⟨rfl,I.turned (t':=s.toks) (fun b o hb e=>eb b o hb e) f0 f1 f3 f4 f5⟩
 self:=fun _ _ _ _ _ st h=>wpAny_pyIter_listiter st h
theorem turn_tuple {P:Program}{w:World}{K:PySem.W.Frag}{tg:Expr} (a it:Addr):Turn P w K tg (Itt K a) [it] it (fun i h=>h.IsTupleIter it a i) where
 mem:=by simp
 obj:=fun i h st b hb=>by
  have e:b = it:=by simpa using hb
  subst e
  obtain ⟨o,e,c,d⟩:=st
  exact ⟨o,e,fun v z=>by rw [d] at z; cases z⟩
 keep:=fun i h h' st k=>st.at fun o e=>k it (by simp) o e
 item:=by
  intro X hP hw hK hc i zp s σ H E I hf st hg
  subst hP hw hK
  obtain ⟨xs,x,hq,hx⟩:=hg
  obtain ⟨its,rv,p,hz⟩:=I.tuple hq
  obtain ⟨u,hu,ru⟩:=rv.get hx
  obtain ⟨f0,f1,f2,f3,f4,f5⟩:=hf it (by simp)
  refine wpAny_pyNext_tuple_item st (show s.heap.IsTuple a its.toArray from p) (x:=u) (by simpa using hu) fun h' st' sb=>?_
  have I1:Inv X zp σ H { s with heap:=h' }:=I.turned (t':=s.toks) (fun b o hb e=>(sb.2 b hb).trans e) f0 f1 f3 f4 f5
  obtain ⟨o,e,c,d⟩:=id st'
  exact ⟨u,rfl,go_of (s:={ s with heap:=h' }) e c d (by decide) ⟨x,H,I1,ru,⟨rfl,fun ys hy=>by rw [I.tuple_inj hy hq]; exact hx⟩,st',fun b hb=>(hf b hb).1⟩⟩
 done:=by
  intro X hP hw hK hc i zp s σ H E I hf st hg
  subst hP hw hK
  obtain ⟨xs,hq,hx⟩:=hg
  obtain ⟨its,rv,p,hz⟩:=I.tuple hq
  obtain ⟨f0,f1,f2,f3,f4,f5⟩:=hf it (by simp)
  have hl:=rv.length
  exact wpAny_pyNext_tuple_end (I.ok.hd hc) st (show s.heap.IsTuple a its.toArray from p) (by simp; omega) fun h' eb=>⟨rfl,I.turned (t':=s.toks) (fun b o hb e=>eb b o hb e) f0 f1 f3 f4 f5⟩
 self:=fun _ _ _ _ _ st h=>wpAny_pyIter_tupleiter st h
theorem turn_range {P:Program}{w:World}{K:PySem.W.Frag}{tg:Expr} (it:Addr) (lo:Int) (n:Nat):Turn P w K tg (Itr lo n) [it] it (fun i h=>IsRangeIter h it (lo + (i:Nat) * 1) ((n:Int) - (i:Nat)) 1) where
 mem:=by simp
 obj:=fun i h st b hb=>by
  have e:b = it:=by simpa using hb
  subst e
  exact ⟨_,st,fun v z=>by
   have z':Data.fields _ = Data.cell v:=z
   cases z'⟩
 keep:=fun i h h' st k=>k it (by simp) _ st
 item:=by
  intro X hP hw hK hc i zp s σ H E I hf st hg
  subst hP hw hK
  obtain ⟨f0,f1,f2,f3,f4,f5⟩:=hf it (by simp)
  have W:=Walks.range (prog:=X.prog) (w:=X.w) (I.ok.hd hc) it lo 1 n
  refine W.item i s _ _ hg st fun v h' tk hv st' kk=>?_
  obtain ⟨t,rfl⟩:=hv
  have I1:Inv X zp σ H { s with heap:=h',toks:=tk }:=I.turned (fun b o hb e=>kk b o (by simpa using hb) e) f0 f1 f3 f4 f5
  refine ⟨_,rfl,go_of (s:={ s with heap:=h',toks:=tk }) (n:="range_iterator") st' rfl rfl (by decide) ⟨.int (lo + i),H,I1,⟨t,?_⟩,⟨rfl,rfl⟩,st',fun b hb=>(hf b hb).1⟩⟩
  rw [Int.mul_one]
 done:=by
  intro X hP hw hK hc i zp s σ H E I hf st hg
  subst hP hw hK
  obtain ⟨f0,f1,f2,f3,f4,f5⟩:=hf it (by simp)
  exact wpAny_pyNext_range_end (I.ok.hd hc) st (by have:n<=i:=hg; omega) fun h' eb=>⟨rfl,I.turned (t':=s.toks) (fun b o hb e=>eb b o hb e) f0 f1 f3 f4 f5⟩
 self:=fun _ _ _ _ _ st h=>wpAny_pyIter_rangeiter st h
section
variable {X:Cx}{tg:Expr}
def iList (K:PySem.W.Frag) (tl:TE):TI:=fun σ H R=>tl σ H fun x H1=>∃ a,x = .ref a/\(∃ xs,SqL K H1 a xs)/\R (Itl K a) H1
def iTup (K:PySem.W.Frag) (tl:TE):TI:=fun σ H R=>tl σ H fun x H1=>∃ a,x = .ref a/\(∃ xs,SqT K H1 a xs)/\R (Itt K a) H1
theorem pi_list {l:Expr}{tl:TE} (hl:PE X l tl):PI X tg l (iList X.K tl):=by
 intro zp s σ H R I h
 refine thn (hl zp s σ H _ I h) fun v s1 ⟨x,H1,I1,r1,q1⟩=>?_
 obtain ⟨a,e,⟨xs,hq⟩,q⟩:=q1
 subst e
 cases r1
 obtain ⟨its,rv,p,hz⟩:=I1.list hq
 refine wpAny_pyIter_list p.isList ?_
 refine ⟨s1.heap.objs.size,[s1.heap.objs.size],_,_,H1,rfl,I1.kept (t':=s1.toks) fun b o e=>Heap.get?_push_of_some _ e,turn_list a _,⟨_,Heap.get?_push_size _ rfl,rfl,rfl⟩,fun b hb=>?_,q⟩
 have e:b = s1.heap.objs.size:=by simpa using hb
 subst e
 exact I1.fpOk (Nat.le_refl _) (I1.hok.fresh (Nat.le_refl _))
theorem pi_tup {l:Expr}{tl:TE} (hl:PE X l tl):PI X tg l (iTup X.K tl):=by
 intro zp s σ H R I h
 refine thn (hl zp s σ H _ I h) fun v s1 ⟨x,H1,I1,r1,q1⟩=>?_
 obtain ⟨a,e,⟨xs,hq⟩,q⟩:=q1
 subst e
 cases r1
 obtain ⟨its,rv,p,hz⟩:=I1.tuple hq
 refine wpAny_pyIter_tuple (show s1.heap.IsTuple a its.toArray from p) ?_
 refine ⟨s1.heap.objs.size,[s1.heap.objs.size],_,_,H1,rfl,I1.kept (t':=s1.toks) fun b o e=>Heap.get?_push_of_some _ e,turn_tuple a _,⟨_,Heap.get?_push_size _ rfl,rfl,rfl⟩,fun b hb=>?_,q⟩
 have e:b = s1.heap.objs.size:=by simpa using hb
 subst e
 exact I1.fpOk (Nat.le_refl _) (I1.hok.fresh (Nat.le_refl _))
theorem range_it {zp:List (Addr × Obj)}{σ:St}{H:Hp}{s:Shared}{R:It->Hp->Prop}{E:Value->Shared->Prop}{lo hi:Int}{t u v:Tok}{tk:Nat} (I:Inv X zp σ H s) (h1:-(2 ^ 62)<=lo) (h2:lo < 2 ^ 62) (h3:-(2 ^ 62)<=hi) (h4:hi < 2 ^ 62)
  (q:R (Itr lo (hi - lo).toNat) H):wpAny (model X.prog X.w) X.A (pyIter (.ref s.heap.objs.size)) (PIE X zp σ tg R) E { s with heap:=s.heap.push { cls:=.type "range",data:=.fields #[.int lo t,.int hi u,.int 1 v] },toks:=tk }:=by
 refine wpAny_pyIter_range (IsRange.new ..) (small_one h1 h2 h3 h4) ?_
 have I1:Inv X zp σ H { s with heap:=s.heap.push { cls:=.type "range",data:=.fields #[.int lo t,.int hi u,.int 1 v] },toks:=tk }:=I.kept fun b o e=>Heap.get?_push_of_some _ e
 refine ⟨(s.heap.push { cls:=.type "range",data:=.fields #[.int lo t,.int hi u,.int 1 v] }).objs.size,[(s.heap.push { cls:=.type "range",data:=.fields #[.int lo t,.int hi u,.int 1 v] }).objs.size],_,_,H,rfl,
  I1.kept (t':=tk) fun b o e=>Heap.get?_push_of_some _ e,turn_range _ lo (hi - lo).toNat,?_,fun b hb=>?_,q⟩
 ·have e1:lo + ((0:Nat):Int) * 1 = lo:=by simp
  have e2:(((hi - lo).toNat:Nat):Int) - ((0:Nat):Int) = Builtin.Range.rangeSize lo hi 1:=by rw [rangeSize_one]; split <;> omega
  show IsRangeIter _ _ (lo + ((0:Nat):Int) * 1) ((((hi - lo).toNat:Nat):Int) - ((0:Nat):Int)) 1
  rw [e1,e2]
  exact Heap.get?_push_size _ rfl
 ·have e:b = (s.heap.push { cls:=.type "range",data:=.fields #[.int lo t,.int hi u,.int 1 v] }).objs.size:=by simpa using hb
  subst e
  exact I1.fpOk (Nat.le_refl _) (I1.hok.fresh (Nat.le_refl _))
def iRng1 (ta:TA):TI:=fun σ H R=>ta σ H fun vs H1=>∃ j:Int,vs = [.int j]/\-(2 ^ 62)<=j/\j < 2 ^ 62/\R (Itr 0 j.toNat) H1
theorem pi_range1 {a:Expr}{ta:TA}{p pos:Pos} (hg:Gl X "range") (hm:X.mg "range" = none) (ha:PA X [a] ta) (hs:starEach [a] X.env = [(false,eval a X.env)]:=by rfl):PI X tg (.Call (.Name "range" p) [a] [] pos) (iRng1 ta):=by
 intro zp s σ H R I h
 refine Call_ (ld_blt I hg hm boot_range (PyProof.Rows.callWith_type1 (thn (ha pos zp s σ H _ I h) fun us s1 ⟨vs,H1,I1,r1,q1⟩=>?_) hs rfl))
 obtain ⟨j,e,q1,q2,q⟩:=q1
 subst e
 cases r1 with
 | cons r rr=>
  cases rr
  obtain ⟨t,rfl⟩:=r
  exact call_range_1 (range_it I1 (by omega) (by omega) q1 q2 (by simpa using q))
def tFor (wi:TI) (g:TG) (tb:TS):TS:=fun D σ H=>wi σ H fun J H1=>∃ W:Nat->Nat->St->Hp->Prop,(∃ m,W 0 m σ H1)/\∀ i m σ H,W i m σ H->
 (J.stop i H/\D.nx σ H)\/(J.go i H/\∃ N:St->Hp->Prop,(∀ σ' H',N σ' H'->∃ m',m' < m/\W (i + 1) m' σ' H')/\∀ x H',J.yld i H x H'->g x σ H' fun σ2 H2=>tb { D with nx:=N,ct:=N,bk:=D.nx } σ2 H2)
def pinsAt (fp:List Addr) (h:Heap):List (Addr × Obj):=fp.filterMap fun b=>(h.get? b).map fun o=>(b,o)
theorem mem_pinsAt {fp:List Addr}{h:Heap}{b:Addr}{o:Obj} (hb:b∈fp) (e:h.get? b = some o):(b,o)∈pinsAt fp h:=List.mem_filterMap.mpr ⟨b,hb,by rw [e]; rfl⟩
theorem of_pinsAt {fp:List Addr}{h:Heap}{p:Addr × Obj} (hp:p∈pinsAt fp h):p.1∈fp/\h.get? p.1 = some p.2:=by
 obtain ⟨b,hb,e⟩:=List.mem_filterMap.mp hp
 cases q:h.get? b with
 | none=>rw [q] at e; cases e
 | some o=>
  rw [q] at e
  have e':(b,o) = p:=Option.some.inj e
  subst e'
  exact ⟨hb,q⟩
theorem Inv.pinned {zp:List (Addr × Obj)}{σ:St}{H:Hp}{s:Shared}{fp:List Addr} (I:Inv X zp σ H s) (hf:∀ b∈fp,FpOk X zp H b) (ho:∀ b∈fp,∃ o,s.heap.get? b = some o/\∀ v,o.data≠.cell v):Inv X (zp ++ pinsAt fp s.heap) σ H s:=
 I.pins_of fun p hp=>(List.mem_append.mp hp).elim (fun z=>I.pin p (List.mem_append_right _ z)) fun z=>by
  obtain ⟨hb,e⟩:=of_pinsAt z
  obtain ⟨f0,f1,f2,_⟩:=hf p.1 hb
  obtain ⟨o,e',d⟩:=ho p.1 hb
  rw [e] at e'; cases e'
  exact ⟨e,f0,f1,f2,d⟩
theorem Inv.unpinned {zp pl:List (Addr × Obj)}{σ:St}{H:Hp}{s:Shared} (I:Inv X (zp ++ pl) σ H s):Inv X zp σ H s:=I.pins_of fun p hp=>I.pin p (List.mem_append_right _ (List.mem_append_left _ hp))
theorem ps_for {iter:Expr}{body:List Stmt}{wi:TI}{g:TG}{tb:TS}{pos:Pos} (hp:PassesOwn (model X.prog X.w) X.A X.env X.xe) (hc:X.calm = true) (hi:PI X tg iter wi) (hg:PG X tg g) (hb:PSs X body tb)
  (hs:∀ x,foldedSetIterable iter X.env x = pure x:=by intro _; rfl):PS X (.For tg iter body [] pos) (tFor wi g tb):=by
 intro zp s σ H D I h
 refine wpAny_For (thn (hi zp s σ H _ I h) fun v s1 h1=>thn h1 fun itv s2 h2=>?_) hs
 obtain ⟨it,fp,tn,J,H2,e,I2,T,st2,f2,W,⟨m0,w0⟩,turn⟩:=h2
 subst e
 have stat:∀ {H':Hp},(∀ b∈fp,H' b = none)->∀ b∈fp,FpOk X zp H' b:=fun hn b hb=>⟨hn b hb,(f2 b hb).2⟩
 refine codeAny_forLoop_any (fun n s'=>∃ i σ' H',Inv X zp σ' H' s'/\tn i s'.heap/\(∀ b∈fp,H' b = none)/\W i n σ' H') ?_ m0 ⟨0,σ,H2,I2,st2,fun b hb=>(f2 b hb).1,w0⟩
 rintro n s3 ⟨i,σ3,H3,I3,st3,fr3,w3⟩
 rcases turn i n σ3 H3 w3 with ⟨stop,qn⟩ | ⟨go,N,hN,step⟩
 ·refine wpAny_passesOwn hp (thn (T.done X rfl rfl rfl hc i zp s3 σ3 H3 X.xe I3 (stat fr3) st3 stop) fun r s4 ⟨hr,I4⟩=>?_)
  subst hr
  exact wpAny_execs_nil ⟨σ3,H3,I4,qn⟩
 ·refine wpAny_passesOwn hp (thn (T.item X rfl rfl rfl hc i zp s3 σ3 H3 X.xe I3 (stat fr3) st3 go) fun r s4 ⟨u,hr,h4⟩=>?_)
  subst hr
  refine wpAny_passesOwn hp (thn h4 fun _ s5 ⟨x,H5,I5,r5,y5,st5,fr5⟩=>?_)
  have I5':=I5.pinned (stat fr5) (T.obj _ _ st5)
  refine wpAny_passesOwn hp (thn (hg _ s5 σ3 H5 x u _ I5' r5 (step x H5 y5)) fun _ s6 ⟨σ6,H6,I6,q6⟩=>?_)
  refine wpAny_passesOwn hp (thn (hb _ s6 σ6 H6 _ I6 q6) fun f s7 q7=>?_)
  have again:∀ {σ7:St}{H7:Hp},Inv X (zp ++ pinsAt fp s5.heap) σ7 H7 s7->N σ7 H7->∃ m,m < n/\∃ i σ' H',Inv X zp σ' H' s7/\tn i s7.heap/\(∀ b∈fp,H' b = none)/\W i m σ' H':=fun {σ7 H7} I7 n7=>by
   obtain ⟨m',hm,w7⟩:=hN σ7 H7 n7
   refine ⟨m',hm,i + 1,σ7,H7,I7.unpinned,T.keep _ _ _ st5 fun b hb o e=>(I7.pin (b,o) (List.mem_append_right _ (List.mem_append_right _ (mem_pinsAt hb e)))).1,fun b hb=>?_,w7⟩
   obtain ⟨o,e,d⟩:=T.obj _ _ st5 b hb
   exact (I7.pin (b,o) (List.mem_append_right _ (List.mem_append_right _ (mem_pinsAt hb e)))).2.1
  cases f with
  | next=>obtain ⟨σ7,H7,I7,n7⟩:=q7; exact again I7 n7
  | cont=>obtain ⟨σ7,H7,I7,n7⟩:=q7; exact again I7 n7
  | brk=>obtain ⟨σ7,H7,I7,q7⟩:=q7; exact ⟨σ7,H7,I7.unpinned,q7⟩
  | ret v=>obtain ⟨x7,σ7,H7,I7,r7,q7⟩:=q7; exact ⟨x7,σ7,H7,I7.unpinned,r7,q7⟩
end
theorem for_list {K:PySem.W.Frag}{a:Addr}{xs:List V}{g:TG}{tb:TS}{D:Ends}{σ:St}{H:Hp} (Pv:Nat->St->Hp->Prop) (h0:Pv 0 σ H) (hl:∀ i σ H,i<=xs.length->Pv i σ H->SqL K H a xs)
  (hs:∀ i x σ H,xs[i]? = some x->Pv i σ H->g x σ H fun σ2 H2=>tb { D with nx:=Pv (i + 1),ct:=Pv (i + 1),bk:=D.nx } σ2 H2) (hd:∀ σ H,Pv xs.length σ H->D.nx σ H):
  ∃ W:Nat->Nat->St->Hp->Prop,(∃ m,W 0 m σ H)/\∀ i m σ H,W i m σ H->
   ((Itl K a).stop i H/\D.nx σ H)\/((Itl K a).go i H/\∃ N:St->Hp->Prop,(∀ σ' H',N σ' H'->∃ m',m' < m/\W (i + 1) m' σ' H')/\∀ x H',(Itl K a).yld i H x H'->g x σ H' fun σ2 H2=>tb { D with nx:=N,ct:=N,bk:=D.nx } σ2 H2):=by
 refine ⟨fun i m σ H=>m = xs.length - i/\i<=xs.length/\Pv i σ H,⟨xs.length,by simp,Nat.zero_le _,h0⟩,?_⟩
 rintro i m σ H ⟨rfl,hi,p⟩
 have q:=hl i σ H hi p
 by_cases hlt:i < xs.length
 ·refine .inr ⟨⟨xs,xs[i],q,by simp [hlt]⟩,Pv (i + 1),fun σ' H' p'=>⟨xs.length - (i + 1),by omega,rfl,hlt,p'⟩,fun x H' y=>?_⟩
  obtain ⟨e,y⟩:=y
  subst e
  exact hs i x σ _ (y xs q) p
 ·have e:i = xs.length:=by omega
  subst e
  exact .inl ⟨⟨xs,q,Nat.le_refl _⟩,hd σ H p⟩
theorem for_range {lo:Int}{n:Nat}{g:TG}{tb:TS}{D:Ends}{σ:St}{H:Hp} (Pv:Nat->St->Hp->Prop) (h0:Pv 0 σ H)
  (hs:∀ i σ H,i < n->Pv i σ H->g (.int (lo + i)) σ H fun σ2 H2=>tb { D with nx:=Pv (i + 1),ct:=Pv (i + 1),bk:=D.nx } σ2 H2) (hd:∀ σ H,Pv n σ H->D.nx σ H):
  ∃ W:Nat->Nat->St->Hp->Prop,(∃ m,W 0 m σ H)/\∀ i m σ H,W i m σ H->
   ((Itr lo n).stop i H/\D.nx σ H)\/((Itr lo n).go i H/\∃ N:St->Hp->Prop,(∀ σ' H',N σ' H'->∃ m',m' < m/\W (i + 1) m' σ' H')/\∀ x H',(Itr lo n).yld i H x H'->g x σ H' fun σ2 H2=>tb { D with nx:=N,ct:=N,bk:=D.nx } σ2 H2):=by
 refine ⟨fun i m σ H=>m = n - i/\i<=n/\Pv i σ H,⟨n,by simp,Nat.zero_le _,h0⟩,?_⟩
 rintro i m σ H ⟨rfl,hi,p⟩
 by_cases hlt:i < n
 ·refine .inr ⟨hlt,Pv (i + 1),fun σ' H' p'=>⟨n - (i + 1),by omega,rfl,hlt,p'⟩,fun x H' y=>?_⟩
  obtain ⟨e,y⟩:=y
  subst e y
  exact hs i σ _ hlt p
 ·have e:i = n:=by omega
  subst e
  exact .inl ⟨Nat.le_refl _,hd σ H p⟩
abbrev R2:=V->V->Hp->VK->Prop
def OpR (X:Cx) (f:Value->Value->Sem Value) (r:R2):Prop:=
 ∀ (zp:List (Addr × Obj)) (s:Shared) (σ:St) (H:Hp) (x y:V) (v u:Value) (Q:VK),Inv X zp σ H s->RelV x v->RelV y u->r x y H Q->
  wpAny (model X.prog X.w) X.A (f v u) (EP X zp σ Q) X.xe s
def UnR (X:Cx) (f:Value->Sem Value) (r:V->Hp->VK->Prop):Prop:=
 ∀ (zp:List (Addr × Obj)) (s:Shared) (σ:St) (H:Hp) (x:V) (v:Value) (Q:VK),Inv X zp σ H s->RelV x v->r x H Q->
  wpAny (model X.prog X.w) X.A (f v) (EP X zp σ Q) X.xe s
def CallR (X:Cx) (f:Value) (r:List V->Hp->VK->Prop):Prop:=
 ∀ (zp:List (Addr × Obj)) (s:Shared) (σ:St) (H:Hp) (xs:List V) (us:List Value) (Q:VK),Inv X zp σ H s->Vals xs us->r xs H Q->
  wpAny (model X.prog X.w) X.A (call f us) (EP X zp σ Q) X.xe s
def tOp (r:R2) (ta tb:TE):TE:=fun σ H Q=>ta σ H fun x H1=>tb σ H1 fun y H2=>r x y H2 Q
def tUn (r:V->Hp->VK->Prop) (ta:TE):TE:=fun σ H Q=>ta σ H fun x H1=>r x H1 Q
def rI (C:Int->Int->Prop) (g:Int->Int->V):R2:=fun x y H Q=>∃ i j,x = .int i/\y = .int j/\C i j/\Q (g i j) H
def rI0 (g:Int->Int->V):R2:=fun x y H Q=>∃ i j,x = .int i/\y = .int j/\Q (g i j) H
def rU (g:Int->V):V->Hp->VK->Prop:=fun x H Q=>∃ i,x = .int i/\Q (g i) H
section
variable {X:Cx}{a b c:Expr}{ta tb tc:TE}{pos:Pos}
theorem binT (ha:PE X a ta) (hb:PE X b tb) {zp:List (Addr × Obj)}{s:Shared}{σ:St}{H:Hp}{R:V->V->Hp->Prop} (I:Inv X zp σ H s)
  (h:ta σ H fun x H1=>tb σ H1 fun y H2=>R x y H2) {Q:Value->Shared->Prop}{f:Value->Value->Sem Value}
  (hf:∀ v u s2 x y H2,Inv X zp σ H2 s2->RelV x v->RelV y u->R x y H2->wpAny (model X.prog X.w) X.A (f v u) Q X.xe s2):
  wpAny (model X.prog X.w) X.A (eval a X.env) (fun v s₁=>wpAny (model X.prog X.w) X.A (eval b X.env) (fun u s₂=>wpAny (model X.prog X.w) X.A (f v u) Q X.xe s₂) X.xe s₁) X.xe s:=by
 refine thn (ha zp s σ H _ I h) fun v s1 ⟨x,H1,I1,r1,q1⟩=>?_
 refine thn (hb zp s1 σ H1 _ I1 q1) fun u s2 ⟨y,H2,I2,r2,q2⟩=>?_
 exact hf v u s2 x y H2 I2 r1 r2 q2
theorem pe_op {op:Operator}{r:R2} (ho:OpR X (binaryOp op) r) (ha:PE X a ta) (hb:PE X b tb):PE X (.BinOp a op b pos) (tOp r ta tb):=by
 intro zp s σ H Q I h
 exact wpAny_BinOp (binT ha hb I h fun v u s2 x y H2 I2 rx ry q=>ho zp s2 σ H2 x y v u Q I2 rx ry q)
theorem pe_un {op:UnaryOp}{r:V->Hp->VK->Prop} (ho:UnR X (unaryOp op) r) (ha:PE X a ta):PE X (.UnaryOp op a pos) (tUn r ta):=by
 intro zp s σ H Q I h
 exact UnaryOp_ (thn (ha zp s σ H _ I h) fun v s1 ⟨x,H1,I1,r1,q1⟩=>ho zp s1 σ H1 x v Q I1 r1 q1)
theorem opI {f:Value->Value->Sem Value}{C:Int->Int->Prop}{g:Int->Int->Int}
  (rule:∀ (i j:Int) (t u:Tok) (s:Shared) (Q:Value->Shared->Prop) (E:Value->Shared->Prop),C i j->Q (.int (g i j) s.toks) { s with toks:=s.toks + 1 }->wpAny (model X.prog X.w) X.A (f (.int i t) (.int j u)) Q E s):
  OpR X f (rI C fun i j=>.int (g i j)):=by
 intro zp s σ H x y v u Q I rx ry h
 obtain ⟨i,j,rfl,rfl,hc,q⟩:=h
 obtain ⟨t,rfl⟩:=rx
 obtain ⟨t',rfl⟩:=ry
 exact rule i j t t' s _ _ hc ⟨.int (g i j),H,I.tok _,⟨_,rfl⟩,q⟩
theorem opI0 {f:Value->Value->Sem Value}{g:Int->Int->Int}
  (rule:∀ (i j:Int) (t u:Tok) (s:Shared) (Q:Value->Shared->Prop) (E:Value->Shared->Prop),Q (.int (g i j) s.toks) { s with toks:=s.toks + 1 }->wpAny (model X.prog X.w) X.A (f (.int i t) (.int j u)) Q E s):
  OpR X f (rI0 fun i j=>.int (g i j)):=by
 intro zp s σ H x y v u Q I rx ry h
 obtain ⟨i,j,rfl,rfl,q⟩:=h
 obtain ⟨t,rfl⟩:=rx
 obtain ⟨t',rfl⟩:=ry
 exact rule i j t t' s _ _ ⟨.int (g i j),H,I.tok _,⟨_,rfl⟩,q⟩
theorem opB0 {f:Value->Value->Sem Value}{g:Int->Int->Bool}
  (rule:∀ (i j:Int) (t u:Tok) (s:Shared) (Q:Value->Shared->Prop) (E:Value->Shared->Prop),Q (.bool (g i j)) s->wpAny (model X.prog X.w) X.A (f (.int i t) (.int j u)) Q E s):
  OpR X f (rI0 fun i j=>.bl (g i j)):=by
 intro zp s σ H x y v u Q I rx ry h
 obtain ⟨i,j,rfl,rfl,q⟩:=h
 obtain ⟨t,rfl⟩:=rx
 obtain ⟨t',rfl⟩:=ry
 exact rule i j t t' s _ _ ⟨.bl (g i j),H,I,rfl,q⟩
def CPow (i j:Int):Prop:=0<=j/\j<=1000000/\i.natAbs < 2 ^ 64
def CMul (i j:Int):Prop:=(-(2 ^ 64) < i/\i < 2 ^ 64)\/(-(2 ^ 64) < j/\j < 2 ^ 64)
theorem CMul.ok {i j:Int} (h:CMul i j):IntMulOk i j:=by
 rcases h with ⟨h1,h2⟩ | ⟨h1,h2⟩
 ·exact .of_left (intBits_le_64 h1 h2)
 ·exact .of_right (intBits_le_64 h1 h2)
theorem op_add:OpR X (binaryOp .Add) (rI0 fun i j=>.int (i + j)):=opI0 fun _ _ _ _ _ _ _ q=>add_int q
theorem op_sub:OpR X (binaryOp .Sub) (rI0 fun i j=>.int (i - j)):=opI0 fun _ _ _ _ _ _ _ q=>sub_int q
theorem op_mul:OpR X (binaryOp .Mult) (rI CMul fun i j=>.int (i * j)):=opI fun _ _ _ _ _ _ _ hc q=>mul_int q hc.ok
theorem op_mod:OpR X (binaryOp .Mod) (rI (fun _ j=>0 < j) fun i j=>.int (i % j)):=opI fun i j _ _ _ _ _ hc q=>by
 have h1:(0:Int) < j:=hc
 exact mod_int' (by omega) (by rw [Int.fmod_eq_emod_of_nonneg i (by omega)]; exact q)
theorem op_pow:OpR X (binaryOp .Pow) (rI CPow fun i j=>.int (i ^ j.toNat)):=opI fun _ _ _ _ _ _ _ hc q=>pow_int_small hc.1 hc.2.1 hc.2.2 q
theorem iop_add:OpR X (inplaceOp .Add) (rI0 fun i j=>.int (i + j)):=opI0 fun _ _ _ _ _ _ _ q=>iadd_int q
theorem unI {f:Value->Sem Value}{g:Int->Int}
  (rule:∀ (i:Int) (t:Tok) (s:Shared) (Q:Value->Shared->Prop) (E:Value->Shared->Prop),Q (.int (g i) s.toks) { s with toks:=s.toks + 1 }->wpAny (model X.prog X.w) X.A (f (.int i t)) Q E s):
  UnR X f (rU fun i=>.int (g i)):=by
 intro zp s σ H x v Q I rx h
 obtain ⟨i,rfl,q⟩:=h
 obtain ⟨t,rfl⟩:=rx
 exact rule i t s _ _ ⟨.int (g i),H,I.tok _,⟨_,rfl⟩,q⟩
theorem un_neg:UnR X (unaryOp .USub) (rU fun i=>.int (-i)):=unI fun _ _ _ _ _ q=>neg_int q
end
def scal:V->V->Bool
 | .non,.non=>true | .non,.int _=>true | .int _,.non=>true | .non,.bl _=>true | .bl _,.non=>true | .non,.str _=>true | .str _,.non=>true
 | .int _,.int _=>true | .bl _,.bl _=>true | .str _,.str _=>true | .byt _,.byt _=>true
 | .int _,.str _=>true | .str _,.int _=>true | .bl _,.str _=>true | .str _,.bl _=>true
 | _,_=>false
def rEq:R2:=fun x y H Q=>scal x y = true/\Q (.bl (decide (x = y))) H
def rNe:R2:=fun x y H Q=>scal x y = true/\Q (.bl (!decide (x = y))) H
theorem dec_int {i j:Int}:decide (V.int i = V.int j) = (i == j):=by
 rw [Bool.eq_iff_iff]
 simp
theorem dec_bl {i j:Bool}:decide (V.bl i = V.bl j) = (i == j):=by
 rw [Bool.eq_iff_iff]
 simp
theorem dec_str {i j:Str}:decide (V.str i = V.str j) = (i == j):=by
 rw [Bool.eq_iff_iff]
 simp
theorem dec_byt {i j:Array UInt8}:decide (V.byt i = V.byt j) = (i.toList == j.toList):=by
 rw [Bool.eq_iff_iff]
 cases i
 cases j
 simp
section
variable {X:Cx}{a b c:Expr}{ta tb tc:TE}{pos:Pos}
theorem fin_bl {zp:List (Addr × Obj)}{σ:St}{H:Hp}{s:Shared}{Q:VK}{k k':Bool} (I:Inv X zp σ H s) (q:Q (.bl k) H) (e:k = k'):EP X zp σ Q (.bool k') s:=by
 subst e
 exact ⟨.bl k,H,I,rfl,q⟩
theorem op_eq:OpR X (compareOp .Eq) rEq:=by
 intro zp s σ H x y v u Q I rx ry h
 obtain ⟨hs,q⟩:=h
 cases x with
 | non=>
  cases rx
  cases y with
  | non=>cases ry; exact PySem.EqNone.eq_none_none (fin_bl I q (by simp))
  | bl j=>cases ry; exact PySem.EqNone.eq_none_bool (fin_bl I q (by simp))
  | int j=>obtain ⟨t',rfl⟩:=ry; exact PySem.EqNone.eq_none_int (fin_bl I q (by simp))
  | str j=>obtain ⟨t',rfl⟩:=ry; exact PySem.EqNone.eq_none_str (fin_bl I q (by simp))
  | _=>exact absurd (show false = true from hs) Bool.false_ne_true
 | bl i=>
  cases rx
  cases y with
  | non=>cases ry; exact PySem.EqNone.eq_bool_none (fin_bl I q (by simp))
  | bl j=>cases ry; exact eq_bool (fin_bl I q dec_bl)
  | str j=>obtain ⟨t',rfl⟩:=ry; exact PySem.EqMixed.eq_bool_str (fin_bl I q (by simp))
  | _=>exact absurd (show false = true from hs) Bool.false_ne_true
 | int i=>
  obtain ⟨t,rfl⟩:=rx
  cases y with
  | non=>cases ry; exact PySem.EqNone.eq_int_none (fin_bl I q (by simp))
  | int j=>obtain ⟨t',rfl⟩:=ry; exact eq_int (fin_bl I q dec_int)
  | str j=>obtain ⟨t',rfl⟩:=ry; exact PySem.EqMixed.eq_int_str (fin_bl I q (by simp))
  | _=>exact absurd (show false = true from hs) Bool.false_ne_true
 | str i=>
  obtain ⟨t,rfl⟩:=rx
  cases y with
  | non=>cases ry; exact PySem.EqNone.eq_str_none (fin_bl I q (by simp))
  | bl j=>cases ry; exact PySem.EqMixed.eq_str_bool (fin_bl I q (by simp))
  | int j=>obtain ⟨t',rfl⟩:=ry; exact PySem.EqMixed.eq_str_int (fin_bl I q (by simp))
  | str j=>obtain ⟨t',rfl⟩:=ry; exact eq_str (fin_bl I q dec_str)
  | _=>exact absurd (show false = true from hs) Bool.false_ne_true
 | byt i=>
  obtain ⟨t,rfl⟩:=rx
  cases y with
  | byt j=>obtain ⟨t',rfl⟩:=ry; exact PySem.W.eq_bytes (fin_bl I q dec_byt)
  | _=>exact absurd (show false = true from hs) Bool.false_ne_true
 | _=>cases y <;> exact absurd (show false = true from hs) Bool.false_ne_true
theorem op_ne:OpR X (compareOp .NotEq) rNe:=by
 intro zp s σ H x y v u Q I rx ry h
 obtain ⟨hs,q⟩:=h
 cases x with
 | non=>
  cases rx
  cases y with
  | non=>cases ry; exact PySem.EqNone.ne_none_none (fin_bl I q (by simp))
  | bl j=>cases ry; exact PySem.EqNone.ne_none_bool (fin_bl I q (by simp))
  | int j=>obtain ⟨t',rfl⟩:=ry; exact PySem.EqNone.ne_none_int (fin_bl I q (by simp))
  | str j=>obtain ⟨t',rfl⟩:=ry; exact PySem.EqNone.ne_none_str (fin_bl I q (by simp))
  | _=>exact absurd (show false = true from hs) Bool.false_ne_true
 | bl i=>
  cases rx
  cases y with
  | non=>cases ry; exact PySem.EqNone.ne_bool_none (fin_bl I q (by simp))
  | bl j=>cases ry; exact ne_bool (fin_bl I q (congrArg not dec_bl))
  | str j=>obtain ⟨t',rfl⟩:=ry; exact PySem.EqMixed.ne_bool_str (fin_bl I q (by simp))
  | _=>exact absurd (show false = true from hs) Bool.false_ne_true
 | int i=>
  obtain ⟨t,rfl⟩:=rx
  cases y with
  | non=>cases ry; exact PySem.EqNone.ne_int_none (fin_bl I q (by simp))
  | int j=>obtain ⟨t',rfl⟩:=ry; exact ne_int (fin_bl I q (congrArg not dec_int))
  | str j=>obtain ⟨t',rfl⟩:=ry; exact PySem.EqMixed.ne_int_str (fin_bl I q (by simp))
  | _=>exact absurd (show false = true from hs) Bool.false_ne_true
 | str i=>
  obtain ⟨t,rfl⟩:=rx
  cases y with
  | non=>cases ry; exact PySem.EqNone.ne_str_none (fin_bl I q (by simp))
  | bl j=>cases ry; exact PySem.EqMixed.ne_str_bool (fin_bl I q (by simp))
  | int j=>obtain ⟨t',rfl⟩:=ry; exact PySem.EqMixed.ne_str_int (fin_bl I q (by simp))
  | str j=>obtain ⟨t',rfl⟩:=ry; exact ne_str (fin_bl I q (congrArg not dec_str))
  | _=>exact absurd (show false = true from hs) Bool.false_ne_true
 | byt i=>
  obtain ⟨t,rfl⟩:=rx
  cases y with
  | byt j=>obtain ⟨t',rfl⟩:=ry; exact PySem.W.ne_bytes (fin_bl I q (congrArg not dec_byt))
  | _=>exact absurd (show false = true from hs) Bool.false_ne_true
 | _=>cases y <;> exact absurd (show false = true from hs) Bool.false_ne_true
theorem op_lt:OpR X (compareOp .Lt) (rI0 fun i j=>.bl (decide (i < j))):=opB0 fun _ _ _ _ _ _ _ q=>lt_int q
theorem op_le:OpR X (compareOp .LtE) (rI0 fun i j=>.bl (decide (i<=j))):=opB0 fun _ _ _ _ _ _ _ q=>le_int q
theorem op_gt:OpR X (compareOp .Gt) (rI0 fun i j=>.bl (decide (j < i))):=opB0 fun _ _ _ _ _ _ _ q=>gt_int q
theorem op_ge:OpR X (compareOp .GtE) (rI0 fun i j=>.bl (decide (j<=i))):=opB0 fun _ _ _ _ _ _ _ q=>ge_int q
theorem op_in_str:OpR X (compareOp .In) (fun x y H Q=>∃ i j,x = .str i/\y = .str j/\Q (.bl (!(Builtin.Str.occurrences j i 0 j.length 1).isEmpty)) H):=by
 intro zp s σ H x y v u Q I rx ry h
 obtain ⟨i,j,rfl,rfl,q⟩:=h
 obtain ⟨t,rfl⟩:=rx
 obtain ⟨t',rfl⟩:=ry
 exact in_str (fin_bl I q rfl)
theorem OpR.or {f:Value->Value->Sem Value}{r r':R2} (h:OpR X f r) (h':OpR X f r'):OpR X f (fun x y H Q=>r x y H Q\/r' x y H Q):=by
 intro zp s σ H x y v u Q I rx ry q
 rcases q with q | q
 ·exact h zp s σ H x y v u Q I rx ry q
 ·exact h' zp s σ H x y v u Q I rx ry q
theorem nomark (b:Expr) {op:CmpOp} (h:op≠.In:=by decide) (h2:op≠.NotIn:=by decide):behindInMarks op b = false:=by
 have e1:(op == CmpOp.In) = false:=by cases op <;> first | rfl | exact absurd rfl h
 have e2:(op == CmpOp.NotIn) = false:=by cases op <;> first | rfl | exact absurd rfl h2
 cases b <;> simp [behindInMarks,e1,e2]
theorem pe_cmpR {op:CmpOp}{r:R2} (ho:OpR X (compareOp op) r) (ha:PE X a ta) (hb:PE X b tb) (hm:behindInMarks op b = false):PE X (.Compare a [op] [b] pos) (tOp r ta tb):=by
 intro zp s σ H Q I h
 exact wpAny_Compare1 (binT ha hb I h fun v u s2 x y H2 I2 rx ry q=>ho zp s2 σ H2 x y v u Q I2 rx ry q) hm
def tTest (t:TE):TT:=fun σ H Q=>t σ H fun x H'=>∃ k,x = .bl k/\Q k H'
theorem pt_cmpR {op:CmpOp}{r:R2} (ho:OpR X (compareOp op) r) (ha:PE X a ta) (hb:PE X b tb) (hm:behindInMarks op b = false):PT X (.Compare a [op] [b] pos) (tTest (tOp r ta tb)):=by
 intro zp s σ H Q I h
 refine wpAny_isTrue_Compare1 (thn (ha zp s σ H _ I h) fun v s1 ⟨x,H1,I1,r1,q1⟩=>thn (hb zp s1 σ H1 _ I1 q1) fun u s2 ⟨y,H2,I2,r2,q2⟩=>
  thn (ho zp s2 σ H2 x y v u _ I2 r1 r2 q2) fun c s3 ⟨z,H3,I3,r3,k,e,q3⟩=>?_) hm
 subst e
 cases r3
 exact wpAny_truthy_bool ⟨H3,I3,q3⟩
def tChain (r r':R2) (ta tb tc:TE):TE:=fun σ H Q=>ta σ H fun x H1=>tb σ H1 fun y H2=>r x y H2 fun z H3=>∃ k,z = .bl k /\
 (if k = true then tc σ H3 fun w' H4=>r' y w' H4 Q else Q (.bl false) H3)
theorem pe_chain {op op':CmpOp}{r r':R2} (ho:OpR X (compareOp op) r) (ho':OpR X (compareOp op') r') (ha:PE X a ta) (hb:PE X b tb) (hc:PE X c tc)
  (hm:lastMarks [op,op'] [b,c] = false:=by with_unfolding_all rfl):PE X (.Compare a [op,op'] [b,c] pos) (tChain r r' ta tb tc):=by
 intro zp s σ H Q I h
 refine Compare_chain (thn (ha zp s σ H _ I h) fun v s1 ⟨x,H1,I1,r1,q1⟩=>chain_link (thn (hb zp s1 σ H1 _ I1 q1) fun u s2 ⟨y,H2,I2,r2,q2⟩=>
  thn (ho zp s2 σ H2 x y v u _ I2 r1 r2 q2) fun d s3 ⟨z,H3,I3,r3,k,e,q3⟩=>?_)) hm
 subst e
 cases r3
 refine wpAny_truthy_bool ?_
 cases k with
 | false=>exact ite_ff ⟨.bl false,H3,I3,rfl,q3⟩
 | true=>exact ite_tt (chain_last (thn (hc zp s3 σ H3 _ I3 q3) fun w' s4 ⟨z',H4,I4,r4,q4⟩=>ho' zp s4 σ H4 y z' u w' Q I4 r2 r4 q4))
theorem pt_chain {op op':CmpOp}{r r':R2} (ho:OpR X (compareOp op) r) (ho':OpR X (compareOp op') r') (ha:PE X a ta) (hb:PE X b tb) (hc:PE X c tc)
  (hm:lastMarks [op,op'] [b,c] = false:=by with_unfolding_all rfl):PT X (.Compare a [op,op'] [b,c] pos) (tTest (tChain r r' ta tb tc)):=by
 intro zp s σ H Q I h
 refine isTrue_chain (thn (ha zp s σ H _ I h) fun v s1 ⟨x,H1,I1,r1,q1⟩=>test_link (thn (hb zp s1 σ H1 _ I1 q1) fun u s2 ⟨y,H2,I2,r2,q2⟩=>
  thn (ho zp s2 σ H2 x y v u _ I2 r1 r2 q2) fun d s3 ⟨z,H3,I3,r3,k,e,q3⟩=>?_)) hm
 subst e
 cases r3
 refine wpAny_truthy_bool ?_
 cases k with
 | false=>
  obtain ⟨k',e',q'⟩:=q3
  cases e'
  exact ite_ff ⟨H3,I3,q'⟩
 | true=>
  refine ite_tt (test_last (thn (hc zp s3 σ H3 _ I3 q3) fun w' s4 ⟨z',H4,I4,r4,q4⟩=>thn (ho' zp s4 σ H4 y z' u w' _ I4 r2 r4 q4) fun d' s5 ⟨z2,H5,I5,r5,k2,e2,q5⟩=>?_))
  subst e2
  cases r5
  exact wpAny_truthy_bool ⟨H5,I5,q5⟩
theorem line63:(sizeLine:Nat) < 2 ^ 63:=by rw [sizeLine_eq]; decide
theorem op_add_str:OpR X (binaryOp .Add) (fun x y H Q=>∃ i j,x = .str i/\y = .str j/\i.length + j.length<=sizeLine/\Q (.str (i ++ j)) H):=by
 intro zp s σ H x y v u Q I rx ry h
 obtain ⟨i,j,rfl,rfl,hz,q⟩:=h
 obtain ⟨t,rfl⟩:=rx
 obtain ⟨t',rfl⟩:=ry
 exact add_str (fun t' tk=>⟨.str (i ++ j),H,I.tok _,⟨_,rfl⟩,q⟩) hz
theorem vals1 {x:V}{us:List Value} (r:Vals [x] us):∃ u,us = [u]/\RelV x u:=by
 cases r with
 | cons r1 r2=>cases r2; exact ⟨_,rfl,r1⟩
theorem vals2 {x y:V}{us:List Value} (r:Vals [x,y] us):∃ u w',us = [u,w']/\RelV x u/\RelV y w':=by
 cases r with
 | cons r1 r2=>
  cases r2 with
  | cons r3 r4=>cases r4; exact ⟨_,_,rfl,r1,r3⟩
theorem call_abs:CallR X (.builtin "abs") (fun xs H Q=>∃ i,xs = [.int i]/\Q (.int (if i < 0 then -i else i)) H):=by
 intro zp s σ H xs us Q I r h
 obtain ⟨i,rfl,q⟩:=h
 obtain ⟨u,rfl,t,rfl⟩:=vals1 r
 exact call_abs_int fun u tk=>⟨.int (if i < 0 then -i else i),H,I.tok _,⟨_,rfl⟩,q⟩
theorem call_max2 (hc:X.calm = true):CallR X (.builtin "max") (fun xs H Q=>∃ i j,xs = [.int i,.int j]/\Q (.int (if j > i then j else i)) H):=by
 intro zp s σ H xs us Q I r h
 obtain ⟨i,j,rfl,q⟩:=h
 obtain ⟨u,w',rfl,⟨t,rfl⟩,⟨t',rfl⟩⟩:=vals2 r
 refine max_two_ints (I.ok.hd hc) fun h' tk k=>⟨_,H,I.kept k,?_,q⟩
 by_cases hj:j > i
 ·rw [if_pos hj,if_pos hj]; exact ⟨_,rfl⟩
 ·rw [if_neg hj,if_neg hj]; exact ⟨_,rfl⟩
theorem call_int1:CallR X (.type "int") (fun xs H Q=>(∃ i,xs = [.int i]/\Q (.int i) H)\/∃ k,xs = [.bl k]/\Q (.int (if k then 1 else 0)) H):=by
 intro zp s σ H xs us Q I r h
 rcases h with ⟨i,rfl,q⟩ | ⟨k,rfl,q⟩
 ·obtain ⟨u,rfl,t,rfl⟩:=vals1 r
  exact call_int_int ⟨.int i,H,I,⟨_,rfl⟩,q⟩
 ·obtain ⟨u,rfl,r1⟩:=vals1 r
  cases r1
  exact call_int_bool ⟨.int (if k then 1 else 0),H,I.tok _,⟨_,rfl⟩,q⟩
theorem call_ord:CallR X (.builtin "ord") (fun xs H Q=>∃ x,xs = [.str x]/\x.length = 1/\Q (.int (x.cps.getD 0 0:Nat)) H):=by
 intro zp s σ H xs us Q I r h
 obtain ⟨x,rfl,hz,q⟩:=h
 obtain ⟨u,rfl,t,rfl⟩:=vals1 r
 exact ord_of_one hz ⟨.int _,H,I.tok _,⟨_,rfl⟩,q⟩
def LenV (K:PySem.W.Frag) (x:V) (H:Hp) (n:Nat):Prop:=
 match x with
 | .str y=>y.length<=sizeLine/\n = y.length
 | .byt y=>y.size<=sizeLine/\n = y.size
 | .ref p=>(∃ xs,SqL K H p xs/\n = xs.length)\/∃ xs,SqT K H p xs/\n = xs.length
 | _=>False
theorem call_len:CallR X (.builtin "len") (fun xs H Q=>∃ x n,xs = [x]/\LenV X.K x H n/\Q (.int n) H):=by
 intro zp s σ H xs us Q I r h
 obtain ⟨x,n,rfl,e,q⟩:=h
 obtain ⟨u,rfl,rx⟩:=vals1 r
 have hl:=line63
 have hs:sizeLine = 16777216:=sizeLine_eq
 cases x with
 | str y=>
  obtain ⟨t,rfl⟩:=rx
  obtain ⟨hy,e'⟩:y.length<=sizeLine/\n = y.length:=e
  subst e'
  exact len_str (by omega) ⟨.int _,H,I.tok _,⟨_,rfl⟩,q⟩
 | byt y=>
  obtain ⟨t,rfl⟩:=rx
  obtain ⟨hy,e'⟩:y.size<=sizeLine/\n = y.size:=e
  subst e'
  exact PySem.W.len_bytes (by omega) ⟨.int _,H,I.tok _,⟨_,rfl⟩,q⟩
 | ref p=>
  cases rx
  have e':(∃ xs,SqL X.K H p xs/\n = xs.length)\/∃ xs,SqT X.K H p xs/\n = xs.length:=e
  rcases e' with ⟨xs,hx,e'⟩ | ⟨xs,hx,e'⟩
  ·subst e'
   obtain ⟨its,r',pl,hz⟩:=I.list hx
   have hlen:=r'.length
   exact Calls.call_len_list pl.isList (by simp only [List.size_toArray]; omega) ⟨.int xs.length,H,I.tok _,⟨_,by simp only [List.size_toArray]; rw [hlen]⟩,q⟩
  ·subst e'
   obtain ⟨its,r',pl,hz⟩:=I.tuple hx
   have hlen:=r'.length
   exact len_tuple pl (by simp only [List.size_toArray]; omega) ⟨.int xs.length,H,I.tok _,⟨_,by simp only [List.size_toArray]; rw [hlen]⟩,q⟩
 | _=>exact (show False from e).elim
end
structure ObjM (h:Heap) (x dx C:Addr) (mA:Str->Option Value):Prop where
 obj:h.get? x = some (instObj C dx)
 ns:h.Ns1 dx mA
 ne:dx≠x
theorem lookIn_ns {h:Heap}{dx:Addr}{mA:Str->Option Value} (n:h.Ns1 dx mA):∃ od,h.get? dx = some od/\∀ name,lookIn name od = some (mA name):=by
 obtain ⟨o,es,ep,ho,hd,hk,_,hm⟩:=n
 refine ⟨o,ho,fun name=>?_⟩
 have e:=hm name
 unfold nsFind findBy at e
 rw [← Array.find?_toList] at e
 unfold lookIn
 rw [hd]
 dsimp only
 split
 ·rename_i y q
  rw [q] at e
  exact congrArg some e
 ·rename_i q
  rw [q] at e
  have a:es.toList.any (·.refKey) = false:=by
   rw [List.any_eq_false]
   intro y hy
   obtain ⟨z,t,hkey⟩:=hk y (Array.mem_toList_iff.mp hy)
   simp [DictEntry.refKey,hkey]
  have a':¬ es.toList.any (·.refKey) = true:=by rw [a]; exact Bool.false_ne_true
  rw [if_neg a']
  exact congrArg some e
theorem ObjM.look {h:Heap}{x dx C:Addr}{mA:Str->Option Value} (I:ObjM h x dx C mA):∃ od,PySem.W.InstAt h x (instObj C dx) C (some od)/\∀ name,lookIn name od = some (mA name):=
 let ⟨od,ho,hl⟩:=lookIn_ns I.ns
 ⟨od,⟨I.obj,rfl,rfl,ho⟩,hl⟩
section
variable {prog:Program}{w:World}{A:Around}{E:Value->Shared->Prop}{s:Shared}{K:PySem.W.Frag}{x dx C f:Addr}{mA:Str->Option Value}{name:Str}{v:Value}
theorem get_map {expr:Bool}{Q:Value->Shared->Prop} (X:K.In s.heap) (I:ObjM s.heap x dx C mA) (hg:plainGet K C name = true) (hh:hasDictIn K C = true)
  (ha:findIn K (.ref C) name = some none) (hv:mA name = some v) (hv':PySem.W.handedIn v = true) (h:Q v { s with toks:=s.toks + 1 }):
  wpAny (model prog w) A (getAttr (.ref x) name expr) Q E s:=by
 obtain ⟨od,J,hl⟩:=I.look
 exact PySem.W.get_value X J (plainGet_of hg).1 (PySem.W.findObj_own hh ha rfl (by rw [hl,hv])) hv' h
theorem get_meth {pl:Sem Bool}{Q:Value × List Value->Shared->Prop} (X:K.In s.heap) (I:ObjM s.heap x dx C mA) (hg:plainGet K C name = true)
  (hf:findIn K (.ref C) name = some (some (.ref f))) (ht:isFn K (.ref f) = true) (hv:mA name = none) (h:Q (.ref f,[.ref x]) s):
  wpAny (model prog w) A (getMethod (.ref x) name pl) Q E s:=by
 obtain ⟨od,J,hl⟩:=I.look
 exact PySem.W.method_fn X J (plainGet_of hg).1 (plainGet_of hg).2 hf (beq_iff_eq.mp ht) (by show (lookIn name od).map (·.isSome) = some false; rw [hl,hv]; rfl) h
theorem set_map {ns:List Str}{Q:Unit->Shared->Prop} (X:K.In s.heap) (I:ObjM s.heap x dx C mA)
  (hs:findIn K (.ref C) "__setattr__" = some (some (.builtin "object.__setattr__"))) (hp:plainOver K C = true) (ht:takerIn K C name = some none) (hh:hasDictIn K C = true)
  (hw:PySem.Within mA ns) (hsz:ns.length<=sizeLine)
  (h:∀ h',ObjM h' x dx C (fun y=>if y = name then some v else mA y)->Heap.SameBut dx s.heap h'->Q () { s with heap:=h',toks:=s.toks + 2 }):
  wpAny (model prog w) A (setAttr (.ref x) name v) Q E s:=by
 obtain ⟨od,J,hl⟩:=I.look
 refine PySem.W.set_plain X J hs (PySem.W.osa_open (s:={ s with toks:=s.toks + 1 }) (r:=none) X J hp ht fun b=>?_)
 obtain ⟨cd,hc,hd'⟩:=PySem.W.any_some hh
 have hx:s.heap.get? x = some ⟨.ref C,some dx,.plain,#[]⟩:=I.obj
 refine wpAny_bind (wpAny_pure (wpAny_bind (wpAny_bind (wpAny_loadPart hx (wpAny_bind (PySem.W.Looks.here (s:={ s with toks:=s.toks + 1 }) (PySem.W.looks_clsIn X hc) ?_))))))
 rw [hd']
 refine wpAny_pure (a:=some dx) (wpAny_bind (wpAny_pure (wpAny_bind ?_)))
 refine wpAny_nsSet1 (s:={ s with toks:=s.toks + 1 }) I.ns fun h' hn2 hs2=>?_
 obtain ⟨oD,esD,epD,hoD,hdD,hcD⟩:=hn2.count (PySem.Within.cons name v hw)
 refine wpAny_bind (wpAny_lookBehind hoD (by rw [hdD]; exact pastItsLine_dict (Nat.le_trans hcD (by rw [List.length_cons]; omega))) ?_)
 exact wpAny_pure (h _ ⟨(hs2.2 _ (Ne.symm I.ne)).trans I.obj,hn2,I.ne⟩ hs2)
theorem make_map {R:Result->Shared->Prop}{vs:List Value}{kw:List (Str × Value)} (X:K.In s.heap) (hm:makesIn K C = true)
  (hi:findIn K (.ref C) "__init__" = some (some (.ref f))) (hf:PySem.W.typeIn K (.ref f) = some (.type "function"))
  (h:codeAny (model prog w) (A.under (.builtin "type.__call__" ⟨.ref C :: vs,kw⟩)) (.call (.ref f) ⟨.ref (s.heap.objs.size + 1) :: vs,kw⟩) (PySem.W.InitBack (s.heap.objs.size + 1) R)
   { s with heap:=(s.heap.push emptyDict).push (instObj C s.heap.objs.size) }):
  codeAny (model prog w) A (.call (.ref C) ⟨vs,kw⟩) R s:=by
 obtain ⟨hh,g,d,t,os⟩:=s
 exact PySem.W.make_core (PySem.W.makes_of X hm) (PySem.W.looks_findIn X hi) (fun self=>PySem.W.bind_fn X self hf) (.inl rfl) h
end
def putF (f:Str) (v:V):List (Str × V)->List (Str × V)
 | []=>[(f,v)]
 | (g,x) :: r=>if g = f then (g,v) :: r else (g,x) :: putF f v r
theorem lookup_putF (f g:Str) (v:V):∀ fs:List (Str × V),(putF f v fs).lookup g = if g = f then some v else fs.lookup g
 | []=>by
  show List.lookup g [(f,v)] = _
  by_cases h:g = f
  ·have hb:(g == f) = true:=beq_iff_eq.mpr h
   simp only [List.lookup,hb,if_pos h]
  ·have hb:(g == f) = false:=beq_eq_false_iff_ne.mpr h
   simp only [List.lookup,hb,if_neg h]
 | (k,x) :: r=>by
  have ih:=lookup_putF f g v r
  rw [show putF f v ((k,x) :: r) = (if k = f then (k,v) :: r else (k,x) :: putF f v r) from rfl]
  by_cases hk:k = f
  ·rw [if_pos hk]
   by_cases h:g = k
   ·have hb:(g == k) = true:=beq_iff_eq.mpr h
    simp only [List.lookup,hb,if_pos (h.trans hk)]
   ·have hb:(g == k) = false:=beq_eq_false_iff_ne.mpr h
    simp only [List.lookup,hb,if_neg (fun e:g = f=>h (e.trans hk.symm))]
  ·rw [if_neg hk]
   by_cases h:g = k
   ·have hb:(g == k) = true:=beq_iff_eq.mpr h
    simp only [List.lookup,hb,if_neg (fun e:g = f=>hk (h.symm.trans e))]
   ·have hb:(g == k) = false:=beq_eq_false_iff_ne.mpr h
    simp only [List.lookup,hb]
    exact ih
theorem keys_putF (f:Str) (v:V):∀ fs:List (Str × V),f∈(putF f v fs).map (·.1)/\∀ g,g∈fs.map (·.1)->g∈(putF f v fs).map (·.1)
 | []=>⟨by simp [putF],fun g h=>by simp at h⟩
 | (k,x) :: r=>by
  obtain ⟨i1,i2⟩:=keys_putF f v r
  rw [show putF f v ((k,x) :: r) = (if k = f then (k,v) :: r else (k,x) :: putF f v r) from rfl]
  by_cases hk:k = f
  ·rw [if_pos hk]
   subst hk
   exact ⟨by simp,fun g h=>by simpa using h⟩
  ·rw [if_neg hk]
   refine ⟨?_,fun g h=>?_⟩
   ·rw [List.map_cons]
    exact List.mem_cons_of_mem _ i1
   ·rw [List.map_cons] at h ⊢
    rcases List.mem_cons.mp h with e | e
    ·exact List.mem_cons.mpr (.inl e)
    ·exact List.mem_cons_of_mem _ (i2 g e)
theorem length_putF (f:Str) (v:V):∀ fs:List (Str × V),(putF f v fs).length<=fs.length + 1
 | []=>by simp [putF]
 | (k,x) :: r=>by
  have ih:=length_putF f v r
  rw [show putF f v ((k,x) :: r) = (if k = f then (k,v) :: r else (k,x) :: putF f v r) from rfl]
  by_cases hk:k = f
  ·rw [if_pos hk,List.length_cons,List.length_cons]; omega
  ·rw [if_neg hk,List.length_cons,List.length_cons]; omega
theorem RelO.some_of {v:V}{o:Option Value} (r:RelO (some v) o):∃ u,o = some u/\RelV v u:=by
 cases o with
 | none=>exact (show False from r).elim
 | some u=>exact ⟨u,rfl,r⟩
theorem RelO.none_of {o:Option Value} (r:RelO none o):o = none:=by
 cases o with
 | none=>rfl
 | some u=>exact (show False from r).elim
theorem handed_of {v:V}{u:Value} (r:RelV v u):PySem.W.handedIn u = true:=by
 cases v with
 | non=>cases (show u = Value.none from r); rfl
 | bl b=>cases (show u = Value.bool b from r); rfl
 | int i=>obtain ⟨t,e⟩:=(show ∃ t,u = Value.int i t from r); cases e; rfl
 | str x=>obtain ⟨t,e⟩:=(show ∃ t,u = Value.str x t from r); cases e; rfl
 | byt b=>obtain ⟨t,e⟩:=(show ∃ t,u = Value.bytes b t from r); cases e; rfl
 | flt b=>obtain ⟨t,e⟩:=(show ∃ t,u = Value.float b t from r); cases e; rfl
 | ref a=>cases (show u = Value.ref a from r); rfl
 | ty n=>cases (show u = Value.type n from r); rfl
section
variable {P:Program}{w:World}{H H':Hp}{h h':Heap}{a C dx:Addr}{fs fs':List (Str × V)}
theorem ins_get (hok:HOk P w H h) (e:H a = some (.ins C dx fs)):∃ mA,ObjM h a dx C mA/\(∀ f,RelO (fs.lookup f) (mA f))/\PySem.Within mA (fs.map (·.1))/\fs.length<=1000/\H dx = some (.own a):=by
 obtain ⟨d,z,ne,ob,mA,n,r,q⟩:=(show ObjOk P w H h a (.ins C dx fs) from hok a _ e)
 exact ⟨mA,⟨ob,n,ne⟩,r,q,z,d⟩
end
structure Cls (K:PySem.W.Frag) (C:Addr):Prop where
 pg:plainGet K C Str.empty = true
 hd:hasDictIn K C = true
 po:plainOver K C = true
 sa:findIn K (.ref C) "__setattr__" = some (some (.builtin "object.__setattr__"))
theorem Cls.get {K:PySem.W.Frag}{C:Addr} (c:Cls K C) (f:Str):plainGet K C f = true:=c.pg
def NoAttr (K:PySem.W.Frag) (C:Addr) (f:Str):Prop:=findIn K (.ref C) f = some none
theorem NoAttr.taker {K:PySem.W.Frag}{C:Addr}{f:Str} (n:NoAttr K C f):takerIn K C f = some none:=by
 unfold takerIn
 rw [show findIn K (.ref C) f = some none from n]
 rfl
structure Meth (K:PySem.W.Frag) (C:Addr) (m:Str) (f:Addr):Prop where
 at_:findIn K (.ref C) m = some (some (.ref f))
 fn:isFn K (.ref f) = true
 kp:keepIn K (.ref f) = true
section
variable {X:Cx}{zp:List (Addr × Obj)}{σ:St}{H:Hp}{s:Shared}{a C dx:Addr}{fs:List (Str × V)}{f:Str}{v:V}{A:Around}{E:Value->Shared->Prop}
theorem getattr_ok {b:Bool}{Q:Value->Shared->Prop} (I:Inv X zp σ H s) (e:H a = some (.ins C dx fs)) (c:Cls X.K C) (n:NoAttr X.K C f) (l:fs.lookup f = some v)
  (h:∀ u s',Inv X zp σ H s'->RelV v u->Q u s'):wpAny (model X.prog X.w) A (getAttr (.ref a) f b) Q E s:=by
 obtain ⟨mA,O,r,_,_,_⟩:=ins_get I.hok e
 obtain ⟨u,hu,ru⟩:=RelO.some_of (v:=v) (o:=mA f) (by rw [← l]; exact r f)
 exact get_map I.kIn O (c.get f) c.hd n hu (handed_of ru) (h u _ (I.tok _) ru)
theorem getmeth_ok {m:Str}{g:Addr}{pl:Sem Bool}{Q:Value × List Value->Shared->Prop} (I:Inv X zp σ H s) (e:H a = some (.ins C dx fs)) (c:Cls X.K C) (k:Meth X.K C m g) (l:fs.lookup m = none)
  (h:Q (.ref g,[.ref a]) s):wpAny (model X.prog X.w) A (getMethod (.ref a) m pl) Q E s:=by
 obtain ⟨mA,O,r,_,_,_⟩:=ins_get I.hok e
 have hn:mA m = none:=RelO.none_of (by rw [← l]; exact r m)
 exact get_meth I.kIn O (c.get m) k.at_ k.fn hn h
theorem setattr_ok {y:V}{u:Value}{Q:Unit->Shared->Prop} (I:Inv X zp σ H s) (e:H a = some (.ins C dx fs)) (c:Cls X.K C) (n:NoAttr X.K C f) (hl:fs.length < 1000) (ry:RelV y u)
  (h:∀ s',Inv X zp σ (upd H a (.ins C dx (putF f y fs))) s'->Q () s'):wpAny (model X.prog X.w) A (setAttr (.ref a) f u) Q E s:=by
 obtain ⟨mA,O,r,wi,_,ho⟩:=ins_get I.hok e
 have hz:(fs.map (·.1)).length<=sizeLine:=by rw [List.length_map,sizeLine_eq]; omega
 refine set_map I.kIn O c.sa c.po n.taker c.hd wi hz fun h' O' sb=>h _ ?_
 have hd:∃ o,h'.get? dx = some o:=let ⟨o,_,_,e',_⟩:=O'.ns; ⟨o,e'⟩
 refine I.write (x:=a) (e:=dx) (by rw [e]; exact True.intro) (.inr ho) (fun b q hb z=>(sb.2 b hb).trans z) hd ?_
 refine ⟨by rw [upd_ne O.ne]; exact ho,?_,O.ne,O'.obj,_,O'.ns,fun g=>?_,fun g hg=>?_⟩
 ·have:=length_putF f y fs; omega
 ·show RelO ((putF f y fs).lookup g) (if g = f then some u else mA g)
  rw [lookup_putF]
  by_cases q:g = f
  ·rw [if_pos q,if_pos q]; exact ry
  ·rw [if_neg q,if_neg q]; exact r g
 ·by_cases q:g = f
  ·rw [q]; exact (keys_putF f y fs).1
  ·refine (keys_putF f y fs).2 g (wi g fun z=>hg ?_)
   show (if g = f then some u else mA g) = none
   rw [if_neg q]; exact z
theorem Inv.made (I:Inv X zp σ H s):Inv X zp σ (upd (upd H s.heap.objs.size (.own (s.heap.objs.size + 1))) (s.heap.objs.size + 1) (.ins C s.heap.objs.size []))
  { s with heap:=(s.heap.push emptyDict).push (instObj C s.heap.objs.size) }:=by
 have e1:(s.heap.push emptyDict).get? s.heap.objs.size = some emptyDict:=Heap.get?_push_size s.heap rfl
 have e2:((s.heap.push emptyDict).push (instObj C s.heap.objs.size)).get? (s.heap.objs.size + 1) = some (instObj C s.heap.objs.size):=by
  have:=Heap.get?_push_size (s.heap.push emptyDict) (o:=instObj C s.heap.objs.size) rfl
  rwa [Heap.size_push] at this
 have e3:(s.heap.push emptyDict).Ns s.heap.objs.size (fun _=>none):=⟨emptyDict,#[],_,e1,rfl,(fun e he=>absurd he (by simp)),fun _=>rfl⟩
 have I1:=I.laid (a:=s.heap.objs.size) (o:=.own (s.heap.objs.size + 1)) (h':=s.heap.push emptyDict) (t':=s.toks) (fun b u q=>Heap.get?_push_of_some _ q) (Nat.le_refl _) ⟨_,e1⟩
 refine I1.laid (a:=s.heap.objs.size + 1) (o:=.ins C s.heap.objs.size []) (t':=s.toks) (fun b u q=>Heap.get?_push_of_some _ q) (Nat.le_of_eq (Heap.size_push _ _)) ?_
 have ne:s.heap.objs.size≠s.heap.objs.size + 1:=Nat.ne_of_lt (Nat.lt_succ_self _)
 refine ⟨by rw [upd_ne ne,upd_same],Nat.zero_le _,ne,e2,fun _=>none,(Heap.Ns1.of_empty e3).at fun o q=>Heap.get?_push_of_some _ q,fun _=>True.intro,fun y hy=>absurd rfl hy⟩
theorem attr_of {prog:Program}{w:World}{env:Env}{e:Expr}{f:Str}{pos:Pos}{s:Shared}{Q:Value->Shared->Prop} (hb:attributeBase e f env (eval e env) = eval e env)
  (h:wpAny (model prog w) A (eval e env) (fun o s₁=>wpAny (model prog w) A (getAttr o f true) Q E s₁) E s):wpAny (model prog w) A (eval (.Attribute e f pos) env) Q E s:=
 Attribute_any_ h (by rw [arm_eval_Attribute,hb])
end
def tFld (K:PySem.W.Frag) (ta:TE) (f:Str):TE:=fun σ H Q=>ta σ H fun x H1=>∃ a C dx fs v,x = .ref a/\H1 a = some (.ins C dx fs)/\Cls K C/\NoAttr K C f/\fs.lookup f = some v/\Q v H1
def sFld (K:PySem.W.Frag) (ta tv:TE) (f:Str):TS:=fun D σ H=>tv σ H fun y H1=>ta σ H1 fun x H2=>∃ a C dx fs,x = .ref a/\H2 a = some (.ins C dx fs)/\Cls K C/\NoAttr K C f/\fs.length < 1000 /\
 D.nx σ (upd H2 a (.ins C dx (putF f y fs)))
section
variable {X:Cx}{o e value:Expr}{f:Str}{pos pos' tpos:Pos}{ta tv:TE}
theorem pe_fld (he:PE X e ta) (hb:attributeBase e f X.env (eval e X.env) = eval e X.env):PE X (.Attribute e f pos) (tFld X.K ta f):=by
 intro zp s σ H Q I h
 refine attr_of hb (thn (he zp s σ H _ I h) fun u s1 ⟨x,H1,I1,rx,a,C,dx,fs,v,ex,ea,c,n,l,q⟩=>?_)
 subst ex
 obtain rfl:u = Value.ref a:=rx
 exact getattr_ok I1 ea c n l fun u' s2 I2 ru=>⟨v,H1,I2,ru,q⟩
theorem ps_fld (ha:PE X o ta) (hv:PE X value tv) (hs:swapsWith value (some (.Attribute o f pos')) pos.line X.env = pure false):PS X (.Assign [.Attribute o f pos'] value pos) (sFld X.K ta tv f):=by
 intro zp s σ H D I h
 refine plainObj_wpAny_Assign_Attribute (thn (hv zp s σ H _ I h) fun u s1 ⟨y,H1,I1,ry,q⟩=>thn (ha zp s1 σ H1 _ I1 q) fun ov s2 ⟨x,H2,I2,rx,a,C,dx,fs,ex,ea,c,n,l,q2⟩=>?_) hs
 subst ex
 obtain rfl:ov = Value.ref a:=rx
 exact setattr_ok I2 ea c n l ry fun s3 I3=>⟨σ,_,I3,q2⟩
end
section
variable {X:Cx}{zp:List (Addr × Obj)}{σ:St}{H:Hp}{s:Shared}{A:Around}{E:Value->Shared->Prop}{Q:Value->Shared->Prop}{c:Value}{b:Bool}
inductive TyOf (K:PySem.W.Frag) (H:Hp):V->Value->Prop where
 | non:TyOf K H .non (.type "NoneType")
 | bl (x:Bool):TyOf K H (.bl x) (.type "bool")
 | int (i:Int):TyOf K H (.int i) (.type "int")
 | str (x:Str):TyOf K H (.str x) (.type "str")
 | flt (x:UInt64):TyOf K H (.flt x) (.type "float")
 | lst {a:Addr}{xs:List V} (e:H a = some (.lst xs)):TyOf K H (.ref a) (.type "list")
 | frz {a:Addr}{o:Obj}{xs:List V} (e:H a = some (.frz o (.lst xs))):TyOf K H (.ref a) (.type "list")
 | tup {a:Addr}{xs:List V} (e:H a = some (.tup xs)):TyOf K H (.ref a) (.type "tuple")
 | dK {a:Addr}{kvs:List (Key × V)} (e:H a = some (.dK kvs)):TyOf K H (.ref a) (.type "dict")
 | dT {a:Addr}{kvs:List (List Key × V)} (e:H a = some (.dT kvs)):TyOf K H (.ref a) (.type "dict")
 | ins {a C dx:Addr}{fs:List (Str × V)} (e:H a = some (.ins C dx fs)) (cl:Cls K C) (ha:findIn K (.ref C) "__class__" = some (some (.builtin "object.__class__")))
   (hn:PySem.W.specialIn K (.builtin "object.__class__") "__get__" = some (some (.builtin "getset_descriptor.__get__"))) (htk:PySem.W.takesIn K (.builtin "object.__class__") = some true)
   (hm:PySem.W.mroIn K C (.type "object") = some true):TyOf K H (.ref a) (.ref C)
theorem isinst_ok {x:V}{u t:Value} (I:Inv X zp σ H s) (rx:RelV x u) (ty:TyOf X.K H x t) (e:PySem.W.kitOne X.K t c = some b) (h:∀ tk,Q (.bool b) { s with toks:=tk }):
  wpAny (model X.prog X.w) A (call (.builtin "isinstance") [u,c]) Q E s:=by
 cases ty with
 | non=>cases (show u = Value.none from rx); exact kia_one PySem.W.kitx_none I.kIn True.intro e (fun z=>nomatch z) h
 | bl y=>cases (show u = Value.bool y from rx); exact kia_one PySem.W.kitx_bool I.kIn True.intro e (fun z=>nomatch z) h
 | int i=>obtain ⟨t,q⟩:=(show ∃ t,u = Value.int i t from rx); cases q; exact kia_one PySem.W.kitx_int I.kIn True.intro e (fun z=>nomatch z) h
 | str y=>obtain ⟨t,q⟩:=(show ∃ t,u = Value.str y t from rx); cases q; exact kia_one PySem.W.kitx_str I.kIn True.intro e (fun z=>nomatch z) h
 | flt y=>obtain ⟨t,q⟩:=(show ∃ t,u = Value.float y t from rx); cases q; exact kia_one PySem.W.kitx_float I.kIn True.intro e (fun z=>nomatch z) h
 | @lst a xs ea=>
  cases (show u = Value.ref a from rx)
  obtain ⟨_,_,n,_,h1⟩:=(show ObjOk X.prog X.w H s.heap a (.lst xs) from I.hok a _ ea)
  exact kia_one PySem.W.kitx_list I.kIn ⟨_,h1,rfl⟩ e (fun z=>nomatch z) h
 | @frz a ob xs ea=>
  cases (show u = Value.ref a from rx)
  obtain ⟨_,_,_,n,_,h1⟩:=(show ObjOk X.prog X.w H s.heap a (.frz ob (.lst xs)) from I.hok a _ ea)
  exact kia_one PySem.W.kitx_list I.kIn ⟨_,h1,rfl⟩ e (fun z=>nomatch z) h
 | @tup a xs ea=>
  cases (show u = Value.ref a from rx)
  obtain ⟨_,_,_,p⟩:=(show ObjOk X.prog X.w H s.heap a (.tup xs) from I.hok a _ ea)
  obtain ⟨o,h1,h2,_⟩:=p
  exact kia_one PySem.W.kitx_tuple I.kIn ⟨o,h1,h2⟩ e (fun z=>nomatch z) h
 | @dK a kvs ea=>
  cases (show u = Value.ref a from rx)
  obtain ⟨_,_,vs,_,p⟩:=(show ObjOk X.prog X.w H s.heap a (.dK kvs) from I.hok a _ ea)
  obtain ⟨o,es,ep,h1,h2,_⟩:=p
  exact kia_one PySem.W.kitx_dict I.kIn ⟨o,h1,h2.1⟩ e (fun z=>nomatch z) h
 | @dT a kvs ea=>
  cases (show u = Value.ref a from rx)
  obtain ⟨_,_,xs,_,o,es,ep,h1,h2,_⟩:=(show ObjOk X.prog X.w H s.heap a (.dT kvs) from I.hok a _ ea)
  exact kia_one PySem.W.kitx_dict I.kIn ⟨o,h1,h2.1⟩ e (fun z=>nomatch z) h
 | @ins a C dx fs ea cl ha hn htk hm=>
  cases (show u = Value.ref a from rx)
  obtain ⟨mA,O,_⟩:=ins_get I.hok ea
  obtain ⟨od,J,_⟩:=O.look
  exact kia_one (PySem.W.kitx_own (cl.get _) cl.hd ha hn htk hm) I.kIn J e (fun z=>nomatch z) h
end
structure Room (k:Nat) (A:Around):Prop where
 hd:A.handled = none
 dp:A.depth + 3 * k + 5 < recursionLimit
 un:A.units + 16 * k + 200 < cLine
theorem Room.mono {j k:Nat}{A:Around} (r:Room k A) (h:j<=k):Room j A:=⟨r.hd,by have:=r.dp; omega,by have:=r.un; omega⟩
theorem Room.deeper {k:Nat}{A:Around} (r:Room (k + 1) A) (env:Env):Room k (A.deeper env):=
 ⟨r.hd,by have:=r.dp; show A.depth + 1 + 3 * k + 5 < _; omega,by have:=r.un; show A.units + 3 + 16 * k + 200 < _; omega⟩
theorem make_depth {A:Around}{C:Addr}{us:List Value}{kw:List (Str × Value)}:(A.under (.builtin "type.__call__" ⟨.ref C :: us,kw⟩)).depth = A.depth + 1:=by
 first | rfl | simp [Around.under,Code.weight,Code.isCreation,Code.isGuard,Code.isCaller,Code.frames,Code.isFrame,guardIds]
theorem make_units {A:Around}{C:Addr}{us:List Value}{kw:List (Str × Value)}:(A.under (.builtin "type.__call__" ⟨.ref C :: us,kw⟩)).units = A.units + 1:=by
 first | rfl | simp [Around.under,Code.cUnits,Code.frames,Code.isFrame]
theorem Room.make {k:Nat}{A:Around} (r:Room (k + 1) A) (C:Addr) (us:List Value) (kw:List (Str × Value)):Room k (A.under (.builtin "type.__call__" ⟨.ref C :: us,kw⟩)):=
 ⟨r.hd,by have:=r.dp; rw [make_depth]; omega,by have:=r.un; rw [make_units]; omega⟩
theorem Room.depth {k:Nat}{A:Around} (r:Room k A):A.depth < recursionLimit:=by have:=r.dp; omega
theorem Room.units {k:Nat}{A:Around} (r:Room k A):A.units + 64 < cLine:=by have:=r.un; omega
def tNil:TA:=fun _ H Q=>Q [] H
def tCons (ta:TE) (tr:TA):TA:=fun σ H Q=>ta σ H fun x H1=>tr σ H1 fun xs H2=>Q (x :: xs) H2
section
variable {X:Cx}{e:Expr}{es:List Expr}{te:TE}{t:TA}{pos:Pos}
theorem pa_nil:PA X [] tNil:=fun _ _ _ _ H Q I h=>Calls.spliced_nil ⟨[],H,I,.nil,h⟩
theorem pa_cons (ha:PE X e te) (hr:PA X es t) (hs:starEach (e :: es) X.env = (false,eval e X.env) :: starEach es X.env:=by rfl):PA X (e :: es) (tCons te t):=by
 intro pos zp s σ H Q I h
 rw [hs]
 show wpAny _ _ (spliced ((false,eval e X.env) :: backTo pos (starEach es X.env))) _ _ s
 refine Calls.spliced_cons (thn (ha zp s σ H _ I h) fun u s1 ⟨x,H1,I1,r1,q1⟩=>?_)
 exact thn (hr pos zp s1 σ H1 _ I1 q1) fun us s2 ⟨xs,H2,I2,r2,q2⟩=>⟨x :: xs,H2,I2,.cons r1 r2,q2⟩
def tTup (t:TA):TE:=fun σ H Q=>t σ H fun xs H1=>xs.length<=sizeLine/\∀ p,H1 p = none->Q (.ref p) (upd H1 p (.tup xs))
def tLst (t:TA):TE:=fun σ H Q=>t σ H fun xs H1=>xs.length<=sizeLine/\∀ p,H1 p = none->Q (.ref p) (upd H1 p (.lst xs))
theorem pe_tup {x1} (h:PA X es t):PE X (.Tuple es x1 pos) (tTup t):=by
 intro zp s σ H Q I hq
 refine wpAny_Tuple_spliced (thn (h pos zp s σ H _ I hq) fun us s1 ⟨xs,H1,I1,r,z,q⟩=>⟨by rw [← r.length]; exact z,?_⟩)
 have hf:H1 s1.heap.objs.size = none:=I1.hok.fresh (Nat.le_refl _)
 refine ⟨.ref s1.heap.objs.size,upd H1 s1.heap.objs.size (.tup xs),I1.laid (t':=s1.toks) (fun b u e=>Heap.get?_push_of_some _ e) (Nat.le_refl _) ?_,rfl,q _ hf⟩
 exact ⟨z,us,r,⟨_,Heap.get?_push_size _ rfl,rfl,_,rfl⟩⟩
theorem pe_lst (h:PA X es t):PE X (.List es pos) (tLst t):=by
 intro zp s σ H Q I hq
 refine wpAny_List_spliced (thn (h pos zp s σ H _ I hq) fun us s1 ⟨xs,H1,I1,r,z,q⟩=>⟨by rw [← r.length]; exact z,?_⟩)
 have hf:H1 s1.heap.objs.size = none:=I1.hok.fresh (Nat.le_refl _)
 refine ⟨.ref s1.heap.objs.size,upd H1 s1.heap.objs.size (.lst xs),I1.laid (t':=s1.toks) (fun b u e=>Heap.get?_push_of_some _ e) (Nat.le_refl _) ?_,rfl,q _ hf⟩
 exact ⟨z,us,0,r,Heap.get?_push_size _ rfl⟩
end
abbrev Sp:=List V->Hp->VK->XK->Prop
abbrev CXT:=List Env->Hp->Shared->XK->Value->Shared->Prop
structure Env0 (P:Program) (w:World) (K:PySem.W.Frag) (mg:Str->Option Value) (base:Heap) (A:Around) (outer:List Env) (s:Shared) (H:Hp):Prop where
 frames:A.frames = some outer
 mod:Mod K mg base
 bs:∀ b o,base.get? b = some o->s.heap.get? b = some o/\H b = none
 bsz:base.objs.size<=s.heap.objs.size
 funs:s.heap.FunFrames base outer
 frf:∀ b∈frs outer,H b = none
 hok:HOk P w H s.heap
 bare:AllBare s.gens
def CE (outer:List Env) (P:Program) (w:World) (H:Hp) (s:Shared) (Q:VK) (u:Value) (s':Shared):Prop:=
 ∃ v H',s'.os = s.os/\AllBare s'.gens/\Un (frs outer) [] H H' s.heap s'.heap/\HOk P w H' s'.heap/\RelV v u/\Q v H'
def CR (CX:CXT) (outer:List Env) (P:Program) (w:World) (H:Hp) (s:Shared) (Q:VK) (E:XK) (r:Result) (s':Shared):Prop:=
 match r with
 | .ok (.ret u)=>CE outer P w H s Q u s'
 | .ok _=>False
 | .error e=>CX outer H s E e s'
structure FnOk (P:Program) (w:World) (K:PySem.W.Frag) (mg:Str->Option Value) (base:Heap) (CX:CXT) (k:Nat) (f:Addr) (fd:FuncData) (ps:List Str) (sp:Sp):Prop where
 len:∀ vs H Q E,sp vs H Q E->vs.length = ps.length
 run:∀ (A:Around) (outer:List Env) (s:Shared) (H:Hp) (args:Args) (us:List Value) (vs:List V) (Q:VK) (E:XK),Room k A->Env0 P w K mg base A outer s H->BindsTo s fd args (ps.zip us)->Vals vs us->sp vs H Q E->
  codeAny (model P w) A (.call (.ref f) args) (CR CX outer P w H s Q E) s
theorem FnOk.mono {P:Program}{w:World}{K:PySem.W.Frag}{mg:Str->Option Value}{base:Heap}{CX:CXT}{j k:Nat}{f:Addr}{fd:FuncData}{ps:List Str}{sp:Sp} (F:FnOk P w K mg base CX j f fd ps sp) (h:j<=k):
  FnOk P w K mg base CX k f fd ps sp:=⟨F.len,fun A outer s H args us vs Q E hr=>F.run A outer s H args us vs Q E (hr.mono h)⟩
theorem Env0.make {P:Program}{w:World}{K:PySem.W.Frag}{mg:Str->Option Value}{base:Heap}{A:Around}{outer:List Env}{s:Shared}{H:Hp} (e:Env0 P w K mg base A outer s H) (C:Addr) (us:List Value) (kw:List (Str × Value)):
  Env0 P w K mg base (A.under (.builtin "type.__call__" ⟨.ref C :: us,kw⟩)) outer s H:=⟨by first | exact e.frames | (simpa [Around.under,Code.envs,Code.isFrame,pushEnvs] using e.frames),e.mod,e.bs,e.bsz,e.funs,e.frf,e.hok,e.bare⟩
section
variable {X:Cx}{zp:List (Addr × Obj)}{σ:St}{H:Hp}{s s':Shared}
theorem Inv.env0 (I:Inv X zp σ H s):Env0 X.prog X.w X.K X.mg X.base X.A X.stack s H:=
 ⟨I.ok.frames,I.ok.mod,I.bs,Nat.le_trans I.ok.bsz I.sz,I.stack,I.stkFree,I.hok,I.bare⟩
theorem Inv.after {Q:VK}{u:Value} (I:Inv X zp σ H s) (h:CE X.stack X.prog X.w H s Q u s'):EP X zp σ Q u s':=by
 obtain ⟨v,H',os,bare,un,hok,r,q⟩:=h
 obtain ⟨hh,g,d,t,os'⟩:=s'
 obtain rfl:os' = s.os:=os
 exact ⟨v,H',I.call (h':=hh) (g':=g) (d':=d) (t':=t) (ch:=[]) un hok bare (fun b z=>absurd z (by simp)),r,q⟩
end
def tCall (sp:Sp) (dvs:List V) (E:XK) (t:TA):TE:=fun σ H Q=>t σ H fun vs H1=>sp (vs ++ dvs) H1 Q E
def tMeth (C:Addr) (m:Str) (sp:Sp) (dvs:List V) (E:XK) (ta:TE) (t:TA):TE:=fun σ H Q=>ta σ H fun x H1=>∃ a dx fs,x = .ref a/\H1 a = some (.ins C dx fs)/\fs.lookup m = none /\
 t σ H1 fun vs H2=>sp (x :: (vs ++ dvs)) H2 Q E
def tMake (C:Addr) (sp:Sp) (dvs:List V) (E:XK) (t:TA):TE:=fun σ H Q=>t σ H fun vs H1=>∀ x dx,H1 x = none->H1 dx = none->dx≠x->
 sp (.ref x :: (vs ++ dvs)) (upd (upd H1 dx (.own x)) x (.ins C dx [])) (fun v H2=>v = .non/\Q (.ref x) H2) E
def Binds (K:PySem.W.Frag) (fd:FuncData) (ps:List Str) (ds:List Value):Prop:=
 ∀ (s:Shared) (us:List Value),K.In s.heap->(us ++ ds).length = ps.length->BindsTo s fd ⟨us,[]⟩ (ps.zip (us ++ ds))
theorem Binds.all {K:PySem.W.Frag}{fd:FuncData}{ps:List Str} (h:∀ us:List Value,us.length = ps.length->bindArgs fd ⟨us,[]⟩ = pure (ps.zip us)):Binds K fd ps []:=fun s us _ hl=>by
 rw [List.append_nil] at hl ⊢
 exact .of_eq (h us hl)
def Passes (CX:CXT) (X:Cx) (E:XK):Prop:=∀ (zp:List (Addr × Obj)) (σ:St) (H:Hp) (s:Shared) (e:Value) (s':Shared),Inv X zp σ H s->CX X.stack H s E e s'->X.xe e s'
section
variable {X:Cx}{CX:CXT}{k:Nat}{f C:Addr}{fd:FuncData}{ps:List Str}{sp:Sp}{dvs:List V}{ds:List Value}{E:XK}{x m:Str}{p pos apos:Pos}{e o:Expr}{es:List Expr}{ta:TE}{t:TA}
theorem run_fn {zp:List (Addr × Obj)}{σ:St}{H:Hp}{s:Shared}{Q:VK}{us:List Value}{vs:List V} (F:FnOk X.prog X.w X.K X.mg X.base CX k f fd ps sp) (hr:Room k X.A) (hb:Binds X.K fd ps ds) (hd:Vals dvs ds) (hx:Passes CX X E)
  (I:Inv X zp σ H s) (r:Vals vs us) (h:sp (vs ++ dvs) H Q E):wpAny (model X.prog X.w) X.A (call (.ref f) us) (EP X zp σ Q) X.xe s:=by
 have r2:Vals (vs ++ dvs) (us ++ ds):=r.append hd
 have hl:(us ++ ds).length = ps.length:=by rw [← r2.length]; exact F.len _ _ _ _ h
 refine wpAny_call (codeAny_mono (F.run X.A X.stack s H ⟨us,[]⟩ (us ++ ds) (vs ++ dvs) Q E hr I.env0 (hb s us I.kIn hl) r2 h) fun r s' hq=>?_)
 cases r with
 | error e=>exact hx zp σ H s e s' I hq
 | ok fl=>
  cases fl with
  | ret u=>exact I.after hq
  | next=>exact False.elim hq
  | brk=>exact False.elim hq
  | cont=>exact False.elim hq
theorem pe_call (F:FnOk X.prog X.w X.K X.mg X.base CX k f fd ps sp) (hr:Room k X.A) (hg:Gl X x) (hm:X.mg x = some (.ref f)) (hk:keepIn X.K (.ref f) = true) (hb:Binds X.K fd ps ds) (hd:Vals dvs ds) (hx:Passes CX X E)
  (ha:PA X (e :: es) t) (hdb:(x == ("__debug__":Str)) = false:=by decide) (he:starEach (e :: es) X.env = (false,eval e X.env) :: starEach es X.env:=by rfl) (hpl:(backTo pos (starEach es X.env)).any (·.1) = false:=by rfl):
  PE X (.Call (.Name x p) (e :: es) [] pos) (tCall sp dvs E t):=by
 intro zp s σ H Q I h
 refine wpAny_Call_Name_kw (ld_glob I hg hm ?_ hdb)
 refine callWith_K (h₀:=X.base) I.ok.mod.kin hk (thn (ha pos zp s σ H _ I h) fun us s1 ⟨vs,H1,I1,r,q⟩=>⟨I1.kIn,?_⟩) he hpl
 exact run_fn F hr hb hd hx I1 r q
theorem pe_meth {pl:Sem Bool} (he:PE X o ta) (c:Cls X.K C) (hm:Meth X.K C m f) (F:FnOk X.prog X.w X.K X.mg X.base CX k f fd ps sp) (hr:Room k X.A) (hb:Binds X.K fd ps ds) (hd:Vals dvs ds) (hx:Passes CX X E) (ha:PA X (e :: es) t)
  (hst:starEach (e :: es) X.env = (false,eval e X.env) :: starEach es X.env:=by rfl) (hpl:(backTo pos (starEach es X.env)).any (·.1) = false:=by rfl)
  (ht:eval (.Call (.Attribute o m apos) (e :: es) [] pos) X.env = (do
   let ov ← eval o X.env
   standAt apos.atName
   let (f,first) ← holding [ov] (getMethod ov m pl)
   callWith pos f first (backTo pos (starEach (e :: es) X.env)) (backToKw pos (keywordEach [] X.env))):=by rfl):
  PE X (.Call (.Attribute o m apos) (e :: es) [] pos) (tMeth C m sp dvs E ta t):=by
 intro zp s σ H Q I h
 refine PySem.W.methodCall_KW (pl:=pl) (thn (he zp s σ H _ I h) fun u s1 ⟨x,H1,I1,rx,a,dx,fs,ex,ea,l,q⟩=>?_) ht
 subst ex
 obtain rfl:u = Value.ref a:=rx
 refine getmeth_ok I1 ea c hm l ?_
 refine callWith_K (first:=[.ref a]) (h₀:=X.base) I.ok.mod.kin hm.kp (thn (ha pos zp s1 σ H1 _ I1 q) fun us s2 ⟨vs,H2,I2,r,q2⟩=>⟨I2.kIn,?_⟩) hst hpl
 exact run_fn (us:=.ref a :: us) (vs:=.ref a :: vs) F hr hb hd hx I2 (.cons rfl r) q2
theorem pe_meth0 {pl:Sem Bool} (he:PE X o ta) (c:Cls X.K C) (hm:Meth X.K C m f) (F:FnOk X.prog X.w X.K X.mg X.base CX k f fd ps sp) (hr:Room k X.A) (hb:Binds X.K fd ps ds) (hd:Vals dvs ds) (hx:Passes CX X E)
  (ht:eval (.Call (.Attribute o m apos) [] [] pos) X.env = (do
   let ov ← eval o X.env
   standAt apos.atName
   let (f,first) ← holding [ov] (getMethod ov m pl)
   callWith pos f first (backTo pos (starEach [] X.env)) (backToKw pos (keywordEach [] X.env))):=by rfl):
  PE X (.Call (.Attribute o m apos) [] [] pos) (tMeth C m sp dvs E ta tNil):=by
 intro zp s σ H Q I h
 refine PySem.W.methodCall_KW (pl:=pl) (thn (he zp s σ H _ I h) fun u s1 ⟨x,H1,I1,rx,a,dx,fs,ex,ea,l,q⟩=>?_) ht
 subst ex
 obtain rfl:u = Value.ref a:=rx
 refine getmeth_ok I1 ea c hm l ?_
 exact PySem.W.callWith_K0 (first:=[.ref a]) I1.kIn hm.kp (run_fn (us:=[.ref a]) (vs:=[.ref a]) F hr hb hd hx I1 (.cons rfl .nil) q)
structure Mk (K:PySem.W.Frag) (C f:Addr):Prop where
 makes:makesIn K C = true
 init:findIn K (.ref C) "__init__" = some (some (.ref f))
 fn:isFn K (.ref f) = true
 kp:keepIn K (.ref C) = true
theorem run_make {zp:List (Addr × Obj)}{σ:St}{H:Hp}{s:Shared}{Q:VK}{us:List Value}{vs:List V} (M:Mk X.K C f) (F:FnOk X.prog X.w X.K X.mg X.base CX k f fd ps sp) (hr:Room (k + 1) X.A) (hb:Binds X.K fd ps ds) (hd:Vals dvs ds)
  (hx:Passes CX X E) (I:Inv X zp σ H s) (r:Vals vs us)
  (h:∀ x dx,H x = none->H dx = none->dx≠x->sp (.ref x :: (vs ++ dvs)) (upd (upd H dx (.own x)) x (.ins C dx [])) (fun v H2=>v = .non/\Q (.ref x) H2) E):
  wpAny (model X.prog X.w) X.A (call (.ref C) us) (EP X zp σ Q) X.xe s:=by
 have hq:=h (s.heap.objs.size + 1) s.heap.objs.size (I.hok.fresh (Nat.le_succ _)) (I.hok.fresh (Nat.le_refl _)) (Nat.ne_of_lt (Nat.lt_succ_self _))
 have I2:=Inv.made (C:=C) I
 have r2:Vals (V.ref (s.heap.objs.size + 1) :: (vs ++ dvs)) (Value.ref (s.heap.objs.size + 1) :: (us ++ ds)):=.cons rfl (r.append hd)
 have hl:(Value.ref (s.heap.objs.size + 1) :: us ++ ds).length = ps.length:=by
  have e:=r2.length
  rw [F.len _ _ _ _ hq] at e
  exact e.symm
 refine wpAny_call (make_map (f:=f) I.kIn M.makes M.init (beq_iff_eq.mp M.fn) (codeAny_mono (F.run _ X.stack _ _ ⟨Value.ref (s.heap.objs.size + 1) :: us,[]⟩ (Value.ref (s.heap.objs.size + 1) :: (us ++ ds)) _ _ E (hr.make C us [])
  (I2.env0.make C us []) (hb _ (Value.ref (s.heap.objs.size + 1) :: us) I2.kIn hl) r2 hq) fun r s' hq'=>?_))
 cases r with
 | error e=>exact hx zp σ _ _ e s' I2 hq'
 | ok fl=>
  cases fl with
  | ret u=>
   obtain ⟨v,H',I3,rv,ev,q3⟩:=I2.after hq'
   subst ev
   exact ⟨rv,⟨V.ref (s.heap.objs.size + 1),H',I3,rfl,q3⟩⟩
  | next=>exact False.elim hq'
  | brk=>exact False.elim hq'
  | cont=>exact False.elim hq'
theorem pe_make (M:Mk X.K C f) (F:FnOk X.prog X.w X.K X.mg X.base CX k f fd ps sp) (hr:Room (k + 1) X.A) (hg:Gl X x) (hm:X.mg x = some (.ref C)) (hb:Binds X.K fd ps ds) (hd:Vals dvs ds) (hx:Passes CX X E)
  (ha:PA X (e :: es) t) (hdb:(x == ("__debug__":Str)) = false:=by decide) (he:starEach (e :: es) X.env = (false,eval e X.env) :: starEach es X.env:=by rfl) (hpl:(backTo pos (starEach es X.env)).any (·.1) = false:=by rfl):
  PE X (.Call (.Name x p) (e :: es) [] pos) (tMake C sp dvs E t):=by
 intro zp s σ H Q I h
 refine wpAny_Call_Name_kw (ld_glob I hg hm ?_ hdb)
 refine callWith_K (h₀:=X.base) I.ok.mod.kin M.kp (thn (ha pos zp s σ H _ I h) fun us s1 ⟨vs,H1,I1,r,q⟩=>⟨I1.kIn,?_⟩) he hpl
 exact run_make M F hr hb hd hx I1 r q
theorem pe_make0 (M:Mk X.K C f) (F:FnOk X.prog X.w X.K X.mg X.base CX k f fd ps sp) (hr:Room (k + 1) X.A) (hg:Gl X x) (hm:X.mg x = some (.ref C)) (hb:Binds X.K fd ps ds) (hd:Vals dvs ds) (hx:Passes CX X E)
  (hdb:(x == ("__debug__":Str)) = false:=by decide):PE X (.Call (.Name x p) [] [] pos) (tMake C sp dvs E tNil):=by
 intro zp s σ H Q I h
 refine wpAny_Call_Name_kw (ld_glob I hg hm ?_ hdb)
 exact PySem.W.callWith_K0 I.kIn M.kp (run_make (us:=[]) M F hr hb hd hx I .nil h)
end
section
variable {X:Cx}{CX:CXT}{k:Nat}{f C:Addr}{fd:FuncData}{ps ks:List Str}{sp:Sp}{E:XK}{x m:Str}{p pos apos kpos:Pos}{e o:Expr}{es:List Expr}{kws:List Keyword}{te ta:TE}{t tk:TA}{nm:Option Str}
variable {g:List Value->List Value->List Value}{gV:List V->List V->List V}
end
structure FnScope (N P:List Str) (sc:Scope):Prop where
 kind:sc.kind = .function
 co:sc.isCoroutine = false
 gen:sc.isGenerator = false
 nd:N.Nodup
 pre:N.take P.length = P
 par:∀ x∈P,sc.names.lookup x = some .local\/sc.names.lookup x = some .cell
 nofree:∀ y∈sc.names,y.2≠.free
theorem bindL_out {kindOf:Str->Option NameKind}{x:Str}:∀ {binds:List (Str × Value)}{m:Str->Option Value},(∀ v,(x,v) ∉ binds)->bindL kindOf binds m x = m x
 | [],_,_=>rfl
 | (n,v) :: r,m,h=>by
  unfold bindL
  rw [bindL_out fun w hw=>h w (List.mem_cons_of_mem _ hw)]
  split
  ·have:x≠n:=by rintro rfl; exact h v List.mem_cons_self
   simp [this]
  ·rfl
theorem bindC_out {kindOf:Str->Option NameKind}{x:Str}:∀ {binds:List (Str × Value)}{m:Str->Option Value},(∀ v,(x,v) ∉ binds)->bindC kindOf binds m x = m x
 | [],_,_=>rfl
 | (n,v) :: r,m,h=>by
  unfold bindC
  rw [bindC_out fun w hw=>h w (List.mem_cons_of_mem _ hw)]
  split
  ·rfl
  ·have:x≠n:=by rintro rfl; exact h v List.mem_cons_self
   simp [this]
theorem bindL_get {kindOf:Str->Option NameKind}{x:Str}{v:Value}:∀ {P:List Str}{vs:List Value}{i:Nat}{m:Str->Option Value},P.Nodup->P[i]? = some x->vs[i]? = some v->kindOf x = some .local->
  bindL kindOf (P.zip vs) m x = some v
 | [],_,_,_,_,h,_,_=>by simp at h
 | _ :: _,[],_,_,_,_,h,_=>by simp at h
 | p :: P,w :: vs,0,m,nd,h1,h2,hk=>by
  simp at h1 h2; subst h1; subst h2
  show bindL kindOf ((p,w) :: P.zip vs) m p = _
  unfold bindL
  rw [bindL_out fun v hv=>(List.nodup_cons.mp nd).1 (List.of_mem_zip hv).1,if_pos hk]
  simp
 | p :: P,w :: vs,i + 1,m,nd,h1,h2,hk=>by
  show bindL kindOf ((p,w) :: P.zip vs) m x = _
  unfold bindL
  exact bindL_get (i:=i) (List.nodup_cons.mp nd).2 (by simpa using h1) (by simpa using h2) hk
theorem bindC_get {kindOf:Str->Option NameKind}{x:Str}{v:Value}:∀ {P:List Str}{vs:List Value}{i:Nat}{m:Str->Option Value},P.Nodup->P[i]? = some x->vs[i]? = some v->kindOf x≠some .local->
  bindC kindOf (P.zip vs) m x = some v
 | [],_,_,_,_,h,_,_=>by simp at h
 | _ :: _,[],_,_,_,_,h,_=>by simp at h
 | p :: P,w :: vs,0,m,nd,h1,h2,hk=>by
  simp at h1 h2; subst h1; subst h2
  show bindC kindOf ((p,w) :: P.zip vs) m p = _
  unfold bindC
  rw [bindC_out fun v hv=>(List.nodup_cons.mp nd).1 (List.of_mem_zip hv).1,if_neg hk]
  simp
 | p :: P,w :: vs,i + 1,m,nd,h1,h2,hk=>by
  show bindC kindOf ((p,w) :: P.zip vs) m x = _
  unfold bindC
  exact bindC_get (i:=i) (List.nodup_cons.mp nd).2 (by simpa using h1) (by simpa using h2) hk
def start (N:List Str) (vs:List V):St:=vs.map some ++ List.replicate (N.length - vs.length) none
def cxOf (CX:CXT) (P:Program) (w:World) (K:PySem.W.Frag) (mg:Str->Option Value) (base:Heap) (N:List Str) (qual:Str) (scope:Scope) (f:Addr) (cd:Value) (A:Around) (outer:List Env) (s:Shared) (H:Hp) (E:XK):Cx where
 prog:=P
 w:=w
 K:=K
 mg:=mg
 base:=base
 A:=A.deeper (envOfC qual scope s.heap.objs.size f cd)
 N:=N
 s₀:=s
 H₀:=H
 env:=envOfC qual scope s.heap.objs.size f cd
 outer:=outer
 stack:=envOfC qual scope s.heap.objs.size f cd :: outer
 ex:=[]
 calm:=true
 fn:=fun _=>true
 pn:=[]
 xe:=fun e s'=>wpAny (model P w) (A.deeper (envOfC qual scope s.heap.objs.size f cd)) (leaving (envOfC qual scope s.heap.objs.size f cd) e) (fun _ s''=>CX outer H s E e s'') (fun e' s''=>CX outer H s E e' s'') s'
theorem cell_has {sc:Scope}{n:Nat}{x:Str} (h:sc.names.lookup x = some .cell):∃ c,(cellsFrom n sc.names []).lookup x = some c:=by
 have q:=PySem.W.cellsFrom_some sc.names n [] (.inl h)
 exact Option.isSome_iff_exists.mp q
theorem inv_start {CX:CXT}{P:Program}{w:World}{K:PySem.W.Frag}{mg:Str->Option Value}{base:Heap}{N ps:List Str}{qual:Str}{scope:Scope}{f:Addr}{cd:Value}{A:Around}{outer:List Env}{s s1:Shared}{H:Hp}{E:XK}{us:List Value}{vs:List V}
  (S:FnScope N ps scope) (hd:A.handled = none) (e0:Env0 P w K mg base A outer s H) (hl:vs.length = ps.length) (r:Vals vs us)
  (x:InCallC s s.heap.objs.size (bindL (envOfC qual scope s.heap.objs.size f cd).kindOf (ps.zip us) fun _=>none) (cellsFrom (s.heap.objs.size + 1) scope.names []) (bindC (envOfC qual scope s.heap.objs.size f cd).kindOf (ps.zip us) fun _=>none) s1):
  Inv (cxOf CX P w K mg base N qual scope f cd A outer s H E) [] (start N vs) H s1:=by
 have hpl:ps.length<=N.length:=by have:=congrArg List.length S.pre; rw [List.length_take] at this; omega
 obtain ⟨h1,tk,rfl,hk⟩:=x.done
 have noA:∀ b:Addr,b ∉ (cxOf CX P w K mg base N qual scope f cd A outer s H E).ex:=fun b z=>absurd (show b∈([]:List Addr) from z) (by simp)
 refine ⟨⟨e0.mod,S.kind,rfl,rfl,Nat.le_refl _,fun y z c h1 h2=>?_,fun y hy=>?_,fun y c _ h=>?_,fun _=>hd,Around.frames_deeper e0.frames,.inr ⟨rfl,rfl⟩,fun b z=>absurd z (noA b),e0.bs,e0.bsz,fun b _ _=>noA b,fun b z=>absurd z (noA b),e0.funs,e0.frf⟩,
  rfl,e0.bare,Un.kept hk,⟨_,x.toInCall.ns,fun i y v h1 h2 h3=>?_⟩,fun y c h=>⟨_,x.cell y c h⟩,e0.hok.fresh (Nat.le_refl _),fun y c h=>?_,fun p hp=>absurd (show p∈([]:List (Addr × Obj)) from hp) (by simp),e0.hok.kept hk,?_⟩
 ·exact name_of_addr x.apart (PySem.mem_of_lookup h1) (PySem.mem_of_lookup h2)
 ·have hy:scope.names.lookup y = some .cell\/scope.names.lookup y = some .free:=hy
  rcases hy with hy | hy
  ·exact cell_has hy
  ·exact absurd rfl (S.nofree _ (PySem.mem_of_lookup hy))
 ·exact Nat.le_of_lt (x.above y c (PySem.mem_of_lookup h))
 ·have hi:i < vs.length:=by
   unfold start at h2
   by_cases hi:i < vs.length
   ·exact hi
   ·rw [List.getElem?_append_right (by simpa using hi)] at h2
    rw [List.getElem?_replicate] at h2
    split at h2 <;> cases h2
  have ha:vs[i]? = some v:=by
   unfold start at h2
   rw [List.getElem?_append_left (by simpa using hi),List.getElem?_map] at h2
   cases e:vs[i]? with
   | none=>rw [e] at h2; cases h2
   | some a=>rw [e] at h2; cases h2; rfl
  obtain ⟨u,hu,rv⟩:=r.get ha
  have hp:ps[i]? = some y:=by
   rw [← S.pre,List.getElem?_take_of_lt (by omega)]; exact h1
  have ndP:ps.Nodup:=by rw [← S.pre]; exact S.nd.sublist (List.take_sublist _ _)
  refine ⟨u,rv,?_⟩
  rcases S.par y (List.mem_of_getElem? hp) with k | k
  ·exact .inl ⟨k,bindL_get ndP hp hu k⟩
  ·obtain ⟨c,e⟩:=cell_has (n:=s.heap.objs.size + 1) k
   refine .inr ⟨.inl k,c,e,?_⟩
   have q:=x.cell y c e
   rw [bindC_get ndP hp hu (by show scope.names.lookup y≠_; rw [k]; decide)] at q
   exact q
 ·exact e0.hok.fresh (Nat.le_of_lt (x.above y c (PySem.mem_of_lookup h)))
 ·unfold start
  show _ = N.length
  rw [List.length_append,List.length_map,List.length_replicate]
  omega
theorem fn_of {CX:CXT}{P:Program}{w:World}{K:PySem.W.Frag}{mg:Str->Option Value}{base:Heap}{k:Nat}{f:Addr}{name qual:Str}{params:Arguments}{body:List Stmt}{scope:Scope}{dV kV doc pm cdv ct oc:Value}{an od:Option Addr}
  {osl:Array (Option Value)}{N ps:List Str}{sp:Sp} (lk:K.lookup f = some ⟨oc,od,.func (fnOf name qual params body scope dV kV doc pm an cdv ct),osl⟩) (hcd:codeIn K cdv qual = true) (S:FnScope N ps scope)
  (len:∀ vs H Q E,sp vs H Q E->vs.length = ps.length)
  (hbody:∀ (A:Around) (outer:List Env) (s:Shared) (H:Hp) (vs:List V) (Q:VK) (E:XK),Room k (A.deeper (envOfC qual scope s.heap.objs.size f cdv))->sp vs H Q E->
   ∃ t,PSs (cxOf CX P w K mg base N qual scope f cdv A outer s H E) body t/\t { nx:=fun _ H'=>Q .non H',rt:=Q } (start N vs) H):
  FnOk P w K mg base CX (k + 1) f (fnOf name qual params body scope dV kV doc pm an cdv ct) ps sp:=by
 refine ⟨len,fun A outer s H args us vs Q E hr e0 hb r hsp=>?_⟩
 have hl:=len _ _ _ _ hsp
 have KX:K.In s.heap:=e0.mod.kin.keeps fun b o e=>(e0.bs b o e).1
 have lim:s.heap.NoLimit:=e0.mod.nolimit.keeps fun b o e=>(e0.bs b o e).1
 have hkind:∀ y∈ps.zip us,scope.names.lookup y.1 = some .local\/(scope.names.lookup y.1 = some .cell/\((cellsFrom (s.heap.objs.size + 1) scope.names []).lookup y.1).isSome = true):=fun ⟨n,v⟩ hy=>by
  rcases S.par n (List.of_mem_zip hy).1 with q | q
  ·exact .inl q
  ·exact .inr ⟨q,PySem.W.cellsFrom_some _ _ _ (.inl q)⟩
 refine codeAny_call_function hr.depth (KX _ _ lk) rfl S.co S.gen rfl (PySem.W.codeRec_of KX hcd) (hb _ _ _ _ ?_)
 refine wpAny_newFunctionEnv_cells S.kind hkind fun env he s1 x=>?_
 subst he
 refine ⟨lim.keeps x.toInCall.keep,codeAny_func ?_⟩
 obtain ⟨t,ht,hq⟩:=hbody A outer s H vs Q E (hr.deeper _) hsp
 have I:Inv (cxOf CX P w K mg base N qual scope f cdv A outer s H E) [] (start N vs) H s1:=inv_start S hr.hd e0 hl r x
 refine wpAny_mono (ht [] s1 (start N vs) H _ I hq) (fun fl s' hs=>?_) fun e s' hs=>hs
 have fin:∀ {σ':St}{H':Hp}{v:V}{u:Value},Inv (cxOf CX P w K mg base N qual scope f cdv A outer s H E) [] σ' H' s'->RelV v u->Q v H'->CE outer P w H s Q u s':=
  fun {σ' H' v u} J rv q=>⟨v,H',J.os,J.bare,J.base,J.hok,rv,q⟩
 cases fl with
 | ret u=>
  obtain ⟨v,σ',H',J,rv,q⟩:=hs
  exact fin J rv q
 | next=>
  obtain ⟨σ',H',J,q⟩:=hs
  exact fin (v:=V.non) (u:=Value.none) J rfl q
 | brk=>
  obtain ⟨_,_,_,q⟩:=hs
  exact False.elim q
 | cont=>
  obtain ⟨_,_,_,q⟩:=hs
  exact False.elim q
section
variable {X:Cx}{x:Str}{p pos:Pos}{e:Expr}{es:List Expr}{t:TA}{id T:String}{r:List V->Hp->VK->Prop}
def tCB (r:List V->Hp->VK->Prop) (t:TA):TE:=fun σ H Q=>t σ H fun vs H1=>r vs H1 Q
theorem pe_callB (hc:CallR X (.builtin id) r) (hg:Gl X x) (hm:X.mg x = none) (hv:bootBuiltins x = some (.builtin id)) (ha:PA X (e :: es) t) (hn:x≠"__name__":=by decide) (hdb:(x == ("__debug__":Str)) = false:=by decide)
  (he:starEach (e :: es) X.env = (false,eval e X.env) :: starEach es X.env:=by rfl) (hpl:(backTo pos (starEach es X.env)).any (·.1) = false:=by rfl):PE X (.Call (.Name x p) (e :: es) [] pos) (tCB r t):=by
 intro zp s σ H Q I h
 refine wpAny_Call_Name_kw (ld_blt I hg hm hv ?_ hn hdb)
 exact PyProof.Rows.callWith_builtin1 (thn (ha pos zp s σ H _ I h) fun us s1 ⟨vs,H1,I1,r1,q1⟩=>hc zp s1 σ H1 vs us Q I1 r1 q1) he hpl
theorem pe_callTy (hc:CallR X (.type T) r) (hg:Gl X x) (hm:X.mg x = none) (hv:bootBuiltins x = some (.type T)) (ha:PA X (e :: es) t) (hn:x≠"__name__":=by decide) (hdb:(x == ("__debug__":Str)) = false:=by decide)
  (he:starEach (e :: es) X.env = (false,eval e X.env) :: starEach es X.env:=by rfl) (hpl:(backTo pos (starEach es X.env)).any (·.1) = false:=by rfl):PE X (.Call (.Name x p) (e :: es) [] pos) (tCB r t):=by
 intro zp s σ H Q I h
 refine wpAny_Call_Name_kw (ld_blt I hg hm hv ?_ hn hdb)
 exact PyProof.Rows.callWith_type1 (thn (ha pos zp s σ H _ I h) fun us s1 ⟨vs,H1,I1,r1,q1⟩=>hc zp s1 σ H1 vs us Q I1 r1 q1) he hpl
end
section
variable {κ:Type} [DecidableEq κ]
def valV (kvs:List (κ × V)) (k:κ):Option V:=(kvs.find? fun kv=>decide (kv.1 = k)).map (·.2)
def putK (kvs:List (κ × V)) (k:κ) (v:V):List (κ × V):=
 if (kvs.any fun kv=>decide (kv.1 = k)) = true then kvs.map (fun kv=>if kv.1 = k then (kv.1,v) else kv) else kvs ++ [(k,v)]
def dropK (kvs:List (κ × V)) (k:κ):List (κ × V):=kvs.filter fun kv=>decide (kv.1≠k)
theorem valV_pos {p:κ × V}{r:List (κ × V)}{k:κ} (e:p.1 = k):valV (p :: r) k = some p.2:=by simp [valV,List.find?_cons,e]
theorem valV_neg {p:κ × V}{r:List (κ × V)}{k:κ} (e:¬ p.1 = k):valV (p :: r) k = valV r k:=by simp [valV,List.find?_cons,e]
theorem valV_any (k:κ):∀ kvs:List (κ × V),(kvs.any fun kv=>decide (kv.1 = k)) = (valV kvs k).isSome
 | []=>rfl
 | p :: r=>by
  rw [List.any_cons]
  by_cases e:p.1 = k
  ·simp only [valV_pos e,decide_eq_true e,Bool.true_or,Option.isSome_some]
  ·rw [valV_neg e,decide_eq_false e,Bool.false_or]; exact valV_any k r
theorem valV_map (k j:κ) (y:V):∀ kvs:List (κ × V),valV (kvs.map fun kv=>if kv.1 = k then (kv.1,y) else kv) j = (valV kvs j).map fun x=>if j = k then y else x
 | []=>rfl
 | p :: r=>by
  have ih:=valV_map k j y r
  rw [List.map_cons]
  by_cases h:p.1 = k
  ·rw [if_pos h]
   by_cases e:p.1 = j
   ·rw [valV_pos (p:=(p.1,y)) e,valV_pos e,Option.map_some,if_pos (e.symm.trans h)]
   ·rw [valV_neg (p:=(p.1,y)) e,valV_neg e,ih]
  ·rw [if_neg h]
   by_cases e:p.1 = j
   ·rw [valV_pos (p:=p) e,valV_pos e,Option.map_some,if_neg (fun z=>h (e.trans z))]
   ·rw [valV_neg (p:=p) e,valV_neg e,ih]
theorem valV_snoc (k j:κ) (y:V):∀ kvs:List (κ × V),valV kvs k = none->valV (kvs ++ [(k,y)]) j = if j = k then some y else valV kvs j
 | [],_=>by
  by_cases e:k = j
  ·rw [if_pos e.symm]; exact valV_pos (p:=(k,y)) e
  ·rw [if_neg (fun z=>e z.symm)]; exact valV_neg (p:=(k,y)) e
 | p :: r,hn=>by
  rw [List.cons_append]
  have hk:¬ p.1 = k:=fun z=>by rw [valV_pos z] at hn; cases hn
  rw [valV_neg hk] at hn
  have ih:=valV_snoc k j y r hn
  by_cases e:p.1 = j
  ·rw [valV_pos e,valV_pos e,if_neg (fun z=>hk (e.trans z))]
  ·rw [valV_neg e,valV_neg e,ih]
theorem valV_put (kvs:List (κ × V)) (k j:κ) (y:V):valV (putK kvs k y) j = if j = k then some y else valV kvs j:=by
 unfold putK
 by_cases a:(kvs.any fun kv=>decide (kv.1 = k)) = true
 ·rw [if_pos a,valV_map]
  rw [valV_any] at a
  by_cases e:j = k
  ·obtain ⟨x,hx⟩:=Option.isSome_iff_exists.mp a
   rw [if_pos e,e,hx,Option.map_some,if_pos rfl]
  ·rw [if_neg e]
   cases valV kvs j with
   | none=>rfl
   | some x=>rw [Option.map_some,if_neg e]
 ·rw [if_neg a]
  refine valV_snoc k j y kvs ?_
  rw [valV_any] at a
  cases q:valV kvs k with
  | none=>rfl
  | some x=>rw [q] at a; exact (a rfl).elim
theorem length_putK (kvs:List (κ × V)) (k:κ) (v:V):(putK kvs k v).length<=kvs.length + 1:=by
 unfold putK
 split
 ·rw [List.length_map]; omega
 ·rw [List.length_append,List.length_cons,List.length_nil]; omega
theorem putK_new {kvs:List (κ × V)}{k:κ} (v:V) (h:valV kvs k = none):putK kvs k v = kvs ++ [(k,v)]:=by
 unfold putK
 rw [valV_any,h]
 exact if_neg (by decide)
theorem RelO.isSome_eq {o:Option V}{u:Option Value} (r:RelO o u):o.isSome = u.isSome:=by
 cases o with
 | none=>cases u with
  | none=>rfl
  | some _=>exact (show False from r).elim
 | some _=>cases u with
  | none=>exact (show False from r).elim
  | some _=>rfl
theorem RelO.getD {o:Option V}{u:Option Value}{d:V}{d':Value} (r:RelO o u) (rd:RelV d d'):RelV (o.getD d) (u.getD d'):=by
 cases o with
 | none=>cases u with
  | none=>exact rd
  | some _=>exact (show False from r).elim
 | some _=>cases u with
  | none=>exact (show False from r).elim
  | some _=>exact r
theorem KV.val {kvs:List (κ × V)}{vs:List (κ × Value)} (r:KV kvs vs) (k:κ):RelO (valV kvs k) (valueAt vs k):=by
 unfold KV at r
 induction r with
 | nil=>exact True.intro
 | @cons p q ps qs h t ih=>
  obtain ⟨h1,h2⟩:=h
  by_cases e:p.1 = k
  ·have e':q.1 = k:=h1.symm.trans e
   have b:valueAt (q :: qs) k = some q.2:=by simp [valueAt,List.find?_cons,e']
   rw [valV_pos e,b]; exact h2
  ·have e':¬ q.1 = k:=fun z=>e (h1.trans z)
   have b:valueAt (q :: qs) k = valueAt qs k:=by simp [valueAt,List.find?_cons,e']
   rw [valV_neg e,b]; exact ih
theorem KV.any {kvs:List (κ × V)}{vs:List (κ × Value)} (r:KV kvs vs) (k:κ):(kvs.any fun kv=>decide (kv.1 = k)) = vs.any fun kv=>decide (kv.1 = k):=by
 unfold KV at r
 induction r with
 | nil=>rfl
 | cons h t ih=>rw [List.any_cons,List.any_cons,ih,h.1]
theorem KV.repl {kvs:List (κ × V)}{vs:List (κ × Value)} (r:KV kvs vs) (k:κ) {y:V}{u:Value} (ry:RelV y u):
  KV (kvs.map fun kv=>if kv.1 = k then (kv.1,y) else kv) (vs.map fun kv=>if kv.1 = k then (kv.1,u) else kv):=by
 unfold KV at r ⊢
 induction r with
 | nil=>exact .nil
 | @cons p q ps qs h t ih=>
  rw [List.map_cons,List.map_cons]
  refine .cons ?_ ih
  obtain ⟨h1,h2⟩:=h
  by_cases e:p.1 = k
  ·rw [if_pos e,if_pos (h1.symm.trans e)]; exact ⟨h1,ry⟩
  ·rw [if_neg e,if_neg (fun z=>e (h1.trans z))]; exact ⟨h1,h2⟩
theorem KV.put {kvs:List (κ × V)}{vs:List (κ × Value)} (r:KV kvs vs) (k:κ) {y:V}{u:Value} (ry:RelV y u):KV (putK kvs k y) (stored vs k u):=by
 unfold putK stored
 rw [r.any k]
 by_cases e:(vs.any fun kv=>decide (kv.1 = k)) = true
 ·rw [if_pos e,if_pos e]; exact r.repl k ry
 ·rw [if_neg e,if_neg e]; exact Paired.snoc r ⟨rfl,ry⟩
theorem KV.drop {kvs:List (κ × V)}{vs:List (κ × Value)} (r:KV kvs vs) (k:κ):KV (dropK kvs k) (without vs k):=by
 unfold KV at r ⊢
 unfold dropK without
 induction r with
 | nil=>exact .nil
 | @cons p q ps qs h t ih=>
  obtain ⟨h1,h2⟩:=h
  rw [List.filter_cons,List.filter_cons]
  by_cases e:p.1 = k
  ·have a:¬ decide (p.1≠k) = true:=by simp [e]
   have b:¬ decide (q.1≠k) = true:=by simp [h1.symm.trans e]
   rw [if_neg a,if_neg b]; exact ih
  ·have e':¬ q.1 = k:=fun z=>e (h1.trans z)
   have a:decide (p.1≠k) = true:=by simp [e]
   have b:decide (q.1≠k) = true:=by simp [e']
   rw [if_pos a,if_pos b]; exact .cons ⟨h1,h2⟩ ih
theorem KV.length {kvs:List (κ × V)}{vs:List (κ × Value)} (r:KV kvs vs):kvs.length = vs.length:=Paired.length r
theorem dropK_le (kvs:List (κ × V)) (k:κ):(dropK kvs k).length<=kvs.length:=List.length_filter_le _ _
end
theorem kV_is {P:Program}{w:World}{k:Key}{u:Value} (r:RelV (kV k) u):(mixKind P w).is k u = true:=by
 cases k with
 | inl i=>obtain ⟨t,e⟩:=(show ∃ t,u = Value.int i t from r); subst e; exact mixKind_int P w i t
 | inr x=>obtain ⟨t,e⟩:=(show ∃ t,u = Value.str x t from r); subst e; exact mixKind_str P w x t
theorem items_are {P:Program}{w:World}:∀ {ks:List Key}{us:List Value},Vals (ks.map kV) us->ItemsAre (mixKind P w) ks us
 | [],_,r=>by rw [List.map_nil] at r; cases r; exact .nil
 | k :: ks,_,r=>by
  rw [List.map_cons] at r
  cases r with
  | cons h t=>exact .cons (kV_is h) (items_are t)
abbrev KT (H:Hp):List (List Key × V)->List (List Key × Addr × Value)->Prop:=Paired fun p q=>p.1 = q.1/\H q.2.1 = some (.tup (p.1.map kV))/\RelV p.2 q.2.2
theorem KT.val {H:Hp}{kvs:List (List Key × V)}{xs:List (List Key × Addr × Value)} (r:KT H kvs xs) (k:List Key):RelO (valV kvs k) ((atKey xs k).map (·.2)):=by
 induction r with
 | nil=>exact True.intro
 | @cons p q ps qs h t ih=>
  obtain ⟨h1,_,h2⟩:=h
  by_cases e:p.1 = k
  ·have e':q.1 = k:=h1.symm.trans e
   have b:atKey (q :: qs) k = some q.2:=by simp [atKey,List.find?_cons,e']
   rw [valV_pos e,b]; exact h2
  ·have e':¬ q.1 = k:=fun z=>e (h1.trans z)
   have b:atKey (q :: qs) k = atKey qs k:=by simp [atKey,List.find?_cons,e']
   rw [valV_neg e,b]; exact ih
theorem KT.repl {H:Hp}{kvs:List (List Key × V)}{xs:List (List Key × Addr × Value)} (r:KT H kvs xs) (k:List Key) {y:V}{u:Value} (ry:RelV y u):
  KT H (kvs.map fun kv=>if kv.1 = k then (kv.1,y) else kv) (xs.map (putAt k u)):=by
 induction r with
 | nil=>exact .nil
 | @cons p q ps qs h t ih=>
  rw [List.map_cons,List.map_cons]
  refine .cons ?_ ih
  obtain ⟨h1,h2,h3⟩:=h
  unfold putAt
  by_cases e:p.1 = k
  ·rw [if_pos e,if_pos (h1.symm.trans e)]; exact ⟨h1,h2,ry⟩
  ·rw [if_neg e,if_neg (fun z=>e (h1.trans z))]; exact ⟨h1,h2,h3⟩
theorem KT.put {H:Hp}{kvs:List (List Key × V)}{xs:List (List Key × Addr × Value)} (r:KT H kvs xs) (k:List Key) {b:Addr}{y:V}{u:Value} (hb:H b = some (.tup (k.map kV))) (ry:RelV y u):
  KT H (putK kvs k y) (storedH xs k b u):=by
 have e:(kvs.any fun kv=>decide (kv.1 = k)) = (atKey xs k).isSome:=by
  rw [valV_any,(r.val k).isSome_eq,Option.isSome_map]
 unfold putK storedH
 rw [e]
 by_cases q:(atKey xs k).isSome = true
 ·rw [if_pos q,if_pos q]; exact r.repl k ry
 ·rw [if_neg q,if_neg q]; exact Paired.snoc r ⟨rfl,hb,ry⟩
theorem KT.keeps {H H':Hp}{kvs:List (List Key × V)}{xs:List (List Key × Addr × Value)} (r:KT H kvs xs) (ht:∀ b ys,H b = some (.tup ys)->H' b = some (.tup ys)):KT H' kvs xs:=
 Paired.mapP r fun _ _ z=>⟨z.1,ht _ _ z.2.1,z.2.2⟩
section
variable {P:Program}{w:World}{H:Hp}{h:Heap}{a:Addr}
theorem rd_of {u:HO} (ok:HOk P w H h) (e:Rd H a u):ObjOk P w H h a u:=e.ok ok
theorem dk_rd {kvs:List (Key × V)} (ok:HOk P w H h) (e:Rd H a (.dK kvs)):kvs.length<=sizeLine/\(a == sysModules) = false/\∃ vs,KV kvs vs/\h.DictOf (mixKind P w) a vs:=
 show ObjOk P w H h a (.dK kvs) from rd_of ok e
theorem dk_of {kvs:List (Key × V)} (ok:HOk P w H h) (e:H a = some (.dK kvs)):kvs.length<=sizeLine/\(a == sysModules) = false/\∃ vs,KV kvs vs/\h.DictOf (mixKind P w) a vs:=dk_rd ok (.inl e)
theorem key_of {ks:List Key} (ok:HOk P w H h) (e:H a = some (.tup (ks.map kV))):(tupleKind (mixKind P w)).is h ks a:=by
 obtain ⟨_,its,r,o,h1,h2,n,h3⟩:=(show ObjOk P w H h a (.tup (ks.map kV)) from ok a _ e)
 exact ⟨o,its.toArray,n,h1,h2,h3,by simpa using items_are r⟩
theorem dt_rd {kvs:List (List Key × V)} (ok:HOk P w H h) (e:Rd H a (.dT kvs)):kvs.length<=sizeLine/\(a == sysModules) = false /\
  ∃ xs,KT H kvs xs/\h.DictOfH (tupleKind (mixKind P w)) a xs:=by
 obtain ⟨z,y,xs,r,o,es,ep,h1,h2,h3,h4,h5⟩:=(show ObjOk P w H h a (.dT kvs) from rd_of ok e)
 refine ⟨z,y,xs,r,o,es,ep,h1,h2,h3,h4,fun x hx=>?_,h5⟩
 have all:∀ {l:List (List Key × V)}{m:List (List Key × Addr × Value)},KT H l m->∀ x∈m,(tupleKind (mixKind P w)).is h x.1 x.2.1:=by
  intro l m q
  induction q with
  | nil=>intro x hx; exact nomatch hx
  | @cons p q ps qs hq t ih=>
   intro x hx
   rcases List.mem_cons.mp hx with e | hx
   ·subst e
    exact key_of ok (by rw [← hq.1]; exact hq.2.1)
   ·exact ih x hx
 exact all r x hx
theorem dt_of {kvs:List (List Key × V)} (ok:HOk P w H h) (e:H a = some (.dT kvs)):kvs.length<=sizeLine/\(a == sysModules) = false /\
  ∃ xs,KT H kvs xs/\h.DictOfH (tupleKind (mixKind P w)) a xs:=dt_rd ok (.inl e)
end
def DGet (H:Hp) (a:Addr) (y:V) (r:Option V):Prop:=
 (∃ kvs k,Rd H a (.dK kvs)/\y = kV k/\r = valV kvs k)\/∃ kvs k b,Rd H a (.dT kvs)/\y = .ref b/\H b = some (.tup (k.map kV))/\r = valV kvs k
def DPut (H:Hp) (a:Addr) (y v:V) (H':Hp):Prop:=
 (∃ kvs k,H a = some (.dK kvs)/\y = kV k/\kvs.length < sizeLine/\H' = upd H a (.dK (putK kvs k v))) \/
 ∃ kvs k b,H a = some (.dT kvs)/\y = .ref b/\H b = some (.tup (k.map kV))/\kvs.length < sizeLine/\H' = upd H a (.dT (putK kvs k v))
theorem DGet.k {H:Hp}{a:Addr}{kvs:List (Key × V)}{k:Key} (e:H a = some (.dK kvs)):DGet H a (kV k) (valV kvs k):=.inl ⟨kvs,k,.inl e,rfl,rfl⟩
section
variable {X:Cx}{zp:List (Addr × Obj)}{σ:St}{H:Hp}{s:Shared}{a:Addr}{y v:V}{u r:Value}{o:Option V}{A:Around}{E:Value->Shared->Prop}
theorem Inv.big (I:Inv X zp σ H s):sysModules < s.heap.objs.size:=by
 have h:mainGlobals < s.heap.objs.size:=(I.mod.glob.keeps I.bk).lt
 exact Nat.lt_trans (by decide) h
theorem d_getItem {Q:Value->Shared->Prop} (hu:A.units + 1 < cLine) (I:Inv X zp σ H s) (g:DGet H a y (some v)) (ry:RelV y u) (h:∀ w' s',Inv X zp σ H s'->RelV v w'->Q w' s'):
  wpAny (model X.prog X.w) A (getItem (.ref a) u) Q E s:=by
 rcases g with ⟨kvs,k,e,ey,l⟩ | ⟨kvs,k,b,e,ey,eb,l⟩
 ·subst ey
  obtain ⟨z,hd,vs,rel,dd⟩:=dk_rd I.hok e
  obtain ⟨w',hw,rw'⟩:=RelO.some_of (v:=v) (o:=valueAt vs k) (by rw [l]; exact rel.val k)
  exact wpAny_getItem_of (kV_is ry) dd.mapOf hw (h w' _ (I.tok _) rw')
 ·subst ey
  cases (show u = Value.ref b from ry)
  obtain ⟨z,hd,xs,rel,dd⟩:=dt_rd I.hok e
  obtain ⟨w',hw,rw'⟩:=RelO.some_of (v:=v) (o:=(atKey xs k).map (·.2)) (by rw [l]; exact rel.val k)
  obtain ⟨p,hp,hp2⟩:=Option.map_eq_some_iff.mp hw
  refine wpAny_getItem_heap (tupleKind_room_in1 hu) (key_of I.hok eb) dd hp ?_
  rw [hp2]
  exact h w' _ (I.tok _) rw'
theorem d_in {Q:Value->Shared->Prop} (hu:A.units + 1 < cLine) (I:Inv X zp σ H s) (g:DGet H a y o) (ry:RelV y u) (h:∀ s',Inv X zp σ H s'->Q (.bool o.isSome) s'):
  wpAny (model X.prog X.w) A (compareOp .In u (.ref a)) Q E s:=by
 rcases g with ⟨kvs,k,e,ey,l⟩ | ⟨kvs,k,b,e,ey,eb,l⟩
 ·subst ey
  obtain ⟨z,hd,vs,rel,dd⟩:=dk_rd I.hok e
  refine wpAny_in_of (kV_is ry) hd dd.mapOf ?_
  rw [← (rel.val k).isSome_eq,← l]
  exact h _ (I.tok _)
 ·subst ey
  cases (show u = Value.ref b from ry)
  obtain ⟨z,hd,xs,rel,dd⟩:=dt_rd I.hok e
  refine wpAny_in_heap (tupleKind_room_in1 hu) (key_of I.hok eb) hd dd ?_
  have q:=(rel.val k).isSome_eq
  rw [Option.isSome_map] at q
  rw [← q,← l]
  exact h _ (I.tok _)
theorem d_notIn {Q:Value->Shared->Prop} (hu:A.units + 1 < cLine) (I:Inv X zp σ H s) (g:DGet H a y o) (ry:RelV y u) (h:∀ s',Inv X zp σ H s'->Q (.bool (!o.isSome)) s'):
  wpAny (model X.prog X.w) A (compareOp .NotIn u (.ref a)) Q E s:=by
 rcases g with ⟨kvs,k,e,ey,l⟩ | ⟨kvs,k,b,e,ey,eb,l⟩
 ·subst ey
  obtain ⟨z,hd,vs,rel,dd⟩:=dk_rd I.hok e
  refine wpAny_notIn_of (kV_is ry) hd dd.mapOf ?_
  rw [← (rel.val k).isSome_eq,← l]
  exact h _ (I.tok _)
 ·subst ey
  cases (show u = Value.ref b from ry)
  obtain ⟨z,hd,xs,rel,dd⟩:=dt_rd I.hok e
  refine wpAny_notIn_heap (tupleKind_room_in1 hu) (key_of I.hok eb) hd dd ?_
  have q:=(rel.val k).isSome_eq
  rw [Option.isSome_map] at q
  rw [← q,← l]
  exact h _ (I.tok _)
theorem d_write {h':Heap}{t':Nat}{ob:HO} (I:Inv X zp σ H s) (mu:Mut (H a)) (hs:Heap.SameBut a s.heap h') (he:∃ q,h'.get? a = some q) (new:ObjOk X.prog X.w (upd H a ob) h' a ob):
  Inv X zp σ (upd H a ob) { s with heap:=h',toks:=t' }:=
 I.write (x:=a) (e:=a) mu (.inl rfl) (fun b q hb z=>(hs.2 b hb).trans z) he new
theorem dk_new {P:Program}{w:World}{H':Hp}{h':Heap}{kvs:List (Key × V)}{vs:List (Key × Value)} (z:kvs.length<=sizeLine) (hd:(a == sysModules) = false) (rel:KV kvs vs) (dd:h'.DictOf (mixKind P w) a vs):
  ObjOk P w H' h' a (.dK kvs):=⟨z,hd,vs,rel,dd⟩
theorem d_setItem {H':Hp}{Q:Unit->Shared->Prop} (hu:A.units + 1 < cLine) (I:Inv X zp σ H s) (g:DPut H a y v H') (ry:RelV y u) (rv:RelV v r) (h:∀ s',Inv X zp σ H' s'->Q () s'):
  wpAny (model X.prog X.w) A (setItem (.ref a) u r) Q E s:=by
 rcases g with ⟨kvs,k,e,ey,l,eH⟩ | ⟨kvs,k,b,e,ey,eb,l,eH⟩
 ·subst ey eH
  obtain ⟨z,hd,vs,rel,dd⟩:=dk_of I.hok e
  have hz:vs.length<=sizeLine:=by rw [← rel.length]; exact z
  have hl:(putK kvs k v).length<=sizeLine:=by have:=length_putK kvs k v; omega
  refine wpAny_setItem_pairs (hsz:=hz) (kV_is ry) dd fun h' dd' hs=>h _ ?_
  have he:∃ q,h'.get? a = some q:=let ⟨q,_,_,hq,_⟩:=dd'; ⟨q,hq⟩
  exact d_write I (by rw [e]; exact True.intro) hs he (dk_new hl hd (rel.put k rv) dd')
 ·subst ey eH
  cases (show u = Value.ref b from ry)
  obtain ⟨z,hd,xs,rel,dd⟩:=dt_of I.hok e
  have hz:xs.length<=sizeLine:=by rw [← Paired.length rel]; exact z
  have hl:(putK kvs k v).length<=sizeLine:=by have:=length_putK kvs k v; omega
  refine wpAny_setItem_heap (hsz:=hz) (tupleKind_room_in1 hu) (key_of I.hok eb) dd fun h' dd' hs=>h _ ?_
  obtain ⟨q,es,ep,hq,h2,h3,h4,_,h5⟩:=dd'
  refine d_write I (by rw [e]; exact True.intro) hs ⟨q,hq⟩ ⟨hl,hd,_,(rel.put k eb rv).keeps fun c ys ec=>?_,q,es,ep,hq,h2,h3,h4,h5⟩
  rw [upd_ne (ne_of ec e (fun z=>nomatch z))]
  exact ec
end
section
variable {X:Cx}{zp:List (Addr × Obj)}{σ:St}{H:Hp}{s:Shared}{a:Addr}{kvs:List (Key × V)}{k:Key}{u:Value}{A:Around}{E:Value->Shared->Prop}
theorem d_pop {v:V}{more:List Value}{Q:Value->Shared->Prop} (I:Inv X zp σ H s) (e:H a = some (.dK kvs)) (ry:RelV (kV k) u) (l:valV kvs k = some v) (hm:more = []\/∃ x,more = [x])
  (h:∀ w' s',Inv X zp σ (upd H a (.dK (dropK kvs k))) s'->RelV v w'->Q w' s'):wpAny (model X.prog X.w) A (call (.builtin "dict.pop") (.ref a :: u :: more)) Q E s:=by
 obtain ⟨z,hd,vs,rel,dd⟩:=dk_of I.hok e
 obtain ⟨w',hw,rw'⟩:=RelO.some_of (v:=v) (o:=valueAt vs k) (by rw [← l]; exact rel.val k)
 have hp:(keyPart u).isSome = true:=by
  cases k with
  | inl i=>obtain ⟨t,q⟩:=(show ∃ t,u = Value.int i t from ry); subst q; rfl
  | inr x=>obtain ⟨t,q⟩:=(show ∃ t,u = Value.str x t from ry); subst q; rfl
 have ha:argsOk "dict.pop" ⟨.ref a :: u :: more,[]⟩:=by
  rcases hm with q | ⟨x,q⟩
  ·subst q; exact PySem.F.args_dict_pop_2 _ _
  ·subst q; exact PySem.F.args_dict_pop_3 _ _ _
 refine call_meetsIn PySem.F.slot_dict_pop dd.typeIs PySem.F.entry_dict_pop ha (meets_dict_pop_there (mixKind X.prog X.w) a (kV_is ry) more hm hp)
  ⟨vs,w',dd,by rw [← rel.length]; exact z,hw,fun h' dd' hs=>h w' _ ?_ rw'⟩
 have he:∃ q,h'.get? a = some q:=let ⟨q,_,_,hq,_⟩:=dd'; ⟨q,hq⟩
 exact d_write I (by rw [e]; exact True.intro) hs he (dk_new (Nat.le_trans (dropK_le kvs k) z) hd (rel.drop k) dd')
theorem d_popD {r:Value}{Q:Value->Shared->Prop} (I:Inv X zp σ H s) (e:H a = some (.dK kvs)) (ry:RelV (kV k) u) (l:valV kvs k = none) (h:∀ s',Inv X zp σ H s'->Q r s'):
  wpAny (model X.prog X.w) A (call (.builtin "dict.pop") [.ref a,u,r]) Q E s:=by
 obtain ⟨z,hd,vs,rel,dd⟩:=dk_of I.hok e
 have hn:valueAt vs k = none:=RelO.none_of (by rw [← l]; exact rel.val k)
 have hp:(keyPart u).isSome = true:=by
  cases k with
  | inl i=>obtain ⟨t,q⟩:=(show ∃ t,u = Value.int i t from ry); subst q; rfl
  | inr x=>obtain ⟨t,q⟩:=(show ∃ t,u = Value.str x t from ry); subst q; rfl
 exact call_meetsIn PySem.F.slot_dict_pop dd.typeIs PySem.F.entry_dict_pop (PySem.F.args_dict_pop_3 _ _ _) (meets_dict_pop_default (mixKind X.prog X.w) a (kV_is ry) hd hp r) ⟨vs,dd,hn,h _ (I.tok _)⟩
theorem d_clear {Q:Value->Shared->Prop} (I:Inv X zp σ H s) (e:H a = some (.dK kvs)) (h:∀ s',Inv X zp σ (upd H a (.dK [])) s'->Q .none s'):wpAny (model X.prog X.w) A (call (.builtin "dict.clear") [.ref a]) Q E s:=by
 obtain ⟨z,hd,vs,rel,dd⟩:=dk_of I.hok e
 refine call_meetsIn PySem.F.slot_dict_clear dd.typeIs PySem.F.entry_dict_clear (PySem.F.args_dict_clear_1 _) (meets_dict_clear (mixKind X.prog X.w) a) ⟨vs,dd,by rw [← rel.length]; exact z,fun h' dd' hs=>h _ ?_⟩
 have he:∃ q,h'.get? a = some q:=let ⟨q,_,_,hq,_⟩:=dd'; ⟨q,hq⟩
 exact d_write (t':=s.toks) I (by rw [e]; exact True.intro) hs he (dk_new (Nat.zero_le _) hd .nil dd')
theorem d_len {Q:Value->Shared->Prop} (I:Inv X zp σ H s) (e:Rd H a (.dK kvs)) (h:∀ t s',Inv X zp σ H s'->Q (.int kvs.length t) s'):wpAny (model X.prog X.w) A (call (.builtin "len") [.ref a]) Q E s:=by
 obtain ⟨z,hd,vs,rel,dd⟩:=dk_rd I.hok e
 refine call_len_dict hd dd (by rw [← rel.length]; rw [sizeLine_eq] at z; omega) ?_
 rw [← rel.length]
 exact h _ _ (I.tok _)
end
def NoSl (i:Expr):Prop:=∀ ov iv,subscripted i false ov iv = operate [ov,iv] (getItem ov iv)
theorem subD_of {prog:Program}{w:World}{A:Around}{E:Value->Shared->Prop}{s:Shared}{env:Env}{value slice:Expr}{pos:Pos}{T id:String}{Q:Value->Shared->Prop}
  (hl:typeLookup (.type T) "__getitem__" = pure (some (.builtin id))) (hs:NoSl slice)
  (h:wpAny (model prog w) A (eval value env) (fun o s₁=>wpAny (model prog w) A (eval slice env) (fun i s₂=>s₂.TypeIs o T/\wpAny (model prog w) A (getItem o i) Q E s₂) E s₁) E s):
  wpAny (model prog w) A (eval (.Subscript value slice pos) env) Q E s:=by
 refine Subscript_ (wpAny_mono h (fun o s₁ h₁=>wpAny_mono h₁ (fun i s₂ h₂=>?_) fun _ _ x=>x) fun _ _ x=>x)
 obtain ⟨hT,h₂⟩:=h₂
 unfold subscriptTail
 refine wpAny_bind ?_
 rw [getitemInPython_of_ne hT.not_modules]
 refine wpAny_bind (wpAny_specialOf hT hl ?_)
 have fin:wpAny (model prog w) A (subscripted slice false o i) (fun r s₃=>wpAny (model prog w) A (letTemporaryGo value o r >>= fun _=>pure r) Q E s₃) E s₂:=by
  rw [hs o i]
  exact wpAny_operating (wpAny_mono h₂ (fun r s₃ h₃=>wpAny_bind (wpAny_letTemporaryGo (wpAny_pure h₃))) fun _ _ x=>x)
 first
  | exact wpAny_pure (wpAny_bind fin)
  | exact wpAny_bind (wpAny_pure (wpAny_bind fin))
  | exact wpAny_bind fin
theorem dict_typeIs {X:Cx}{zp:List (Addr × Obj)}{σ:St}{H:Hp}{s:Shared}{a:Addr}{y:V}{o:Option V} (I:Inv X zp σ H s) (g:DGet H a y o):s.TypeIs (.ref a) "dict":=by
 rcases g with ⟨kvs,k,e,_,_⟩ | ⟨kvs,k,b,e,_,_,_⟩
 ·obtain ⟨_,_,vs,_,dd⟩:=dk_rd I.hok e
  exact dd.typeIs
 ·obtain ⟨_,_,xs,_,dd⟩:=dt_rd I.hok e
  exact dd.typeIs
def tDGet (td ty:TE):TE:=fun σ H Q=>td σ H fun x H1=>ty σ H1 fun y H2=>∃ a v,x = .ref a/\DGet H2 a y (some v)/\Q v H2
def tDIn (ty td:TE):TE:=fun σ H Q=>ty σ H fun y H1=>td σ H1 fun x H2=>∃ a o,x = .ref a/\DGet H2 a y o/\Q (.bl o.isSome) H2
def tDNotIn (ty td:TE):TE:=fun σ H Q=>ty σ H fun y H1=>td σ H1 fun x H2=>∃ a o,x = .ref a/\DGet H2 a y o/\Q (.bl (!o.isSome)) H2
def sDPut (td ty tv:TE):TS:=fun D σ H=>tv σ H fun v H1=>td σ H1 fun x H2=>ty σ H2 fun y H3=>∃ a H4,x = .ref a/\DPut H3 a y v H4/\D.nx σ H4
section
variable {X:Cx}{o i e value:Expr}{pos pos' tpos:Pos}{td ty tv:TE}
theorem pe_dget (hu:X.A.units + 1 < cLine) (ho:PE X o td) (hi:PE X i ty) (hs:NoSl i):PE X (.Subscript o i pos) (tDGet td ty):=by
 intro zp s σ H Q I h
 refine subD_of PySem.F.slot_dict_getitem.lookup hs (thn (ho zp s σ H _ I h) fun u s1 ⟨x,H1,I1,rx,q1⟩=>thn (hi zp s1 σ H1 _ I1 q1) fun iv s2 ⟨y,H2,I2,ry,a,v,ex,g,q2⟩=>?_)
 subst ex
 obtain rfl:u = Value.ref a:=rx
 exact ⟨dict_typeIs I2 g,d_getItem hu I2 g ry fun w' s3 I3 rw'=>⟨v,H2,I3,rw',q2⟩⟩
theorem pc_din (hu:X.A.units + 1 < cLine) (hi:PE X i ty) (ho:PE X o td):PC X .In i o (tDIn ty td):=by
 intro zp s σ H Q I h
 refine thn (hi zp s σ H _ I h) fun iv s1 ⟨y,H1,I1,ry,q1⟩=>thn (ho zp s1 σ H1 _ I1 q1) fun u s2 ⟨x,H2,I2,rx,a,ov,ex,g,q2⟩=>?_
 subst ex
 obtain rfl:u = Value.ref a:=rx
 exact d_in hu I2 g ry fun s3 I3=>⟨.bl ov.isSome,H2,I3,rfl,q2⟩
theorem pc_dnotin (hu:X.A.units + 1 < cLine) (hi:PE X i ty) (ho:PE X o td):PC X .NotIn i o (tDNotIn ty td):=by
 intro zp s σ H Q I h
 refine thn (hi zp s σ H _ I h) fun iv s1 ⟨y,H1,I1,ry,q1⟩=>thn (ho zp s1 σ H1 _ I1 q1) fun u s2 ⟨x,H2,I2,rx,a,ov,ex,g,q2⟩=>?_
 subst ex
 obtain rfl:u = Value.ref a:=rx
 exact d_notIn hu I2 g ry fun s3 I3=>⟨.bl (!ov.isSome),H2,I3,rfl,q2⟩
theorem ps_dput (hu:X.A.units + 1 < cLine) (ho:PE X o td) (hi:PE X i ty) (hv:PE X value tv) (hs:swapsWith value (some (.Subscript o i pos')) pos.line X.env = pure false):
  PS X (.Assign [.Subscript o i pos'] value pos) (sDPut td ty tv):=by
 intro zp s σ H D I h
 refine wpAny_Assign_Subscript (thn (hv zp s σ H _ I h) fun r s1 ⟨v,H1,I1,rv,q1⟩=>thn (ho zp s1 σ H1 _ I1 q1) fun u s2 ⟨x,H2,I2,rx,q2⟩=>thn (hi zp s2 σ H2 _ I2 q2) fun iv s3 ⟨y,H3,I3,ry,a,H4,ex,g,q3⟩=>?_) hs
 subst ex
 obtain rfl:u = Value.ref a:=rx
 exact d_setItem hu I3 g ry rv fun s4 I4=>⟨σ,H4,I4,q3⟩
end
theorem dk_empty {P:Program}{w:World}{H:Hp} (h:Heap) (hb:sysModules < h.objs.size):ObjOk P w H (h.push { cls:=.type "dict",data:=.dict #[] }) h.objs.size (.dK []):=
 ⟨Nat.zero_le _,beq_eq_false_iff_ne.mpr (Ne.symm (Nat.ne_of_lt hb)),[],.nil,Heap.DictOf.new h⟩
def tDNewK:TE:=fun _ H Q=>∀ p,H p = none->Q (.ref p) (upd H p (.dK []))
section
variable {X:Cx}{pos:Pos}
theorem pe_dnewK:PE X (.Dict [] [] pos) tDNewK:=fun zp s σ H Q I h=>
 wpAny_Dict_empty ⟨.ref s.heap.objs.size,_,I.laid (a:=s.heap.objs.size) (o:=.dK []) (t':=s.toks) (fun _ _ q=>Heap.get?_push_of_some _ q) (Nat.le_refl _) (dk_empty s.heap I.big),rfl,h _ (I.hok.fresh (Nat.le_refl _))⟩
end
structure M1 (X:Cx) (o:Expr) (m:Str) (apos:Pos) (e:Expr) (cpos:Pos):Prop where
 base:attributeBase o m X.env (eval o X.env) = eval o X.env
 few:((backTo cpos (starEach [e] X.env)).all (fun x=>!x.1) && (backToKw cpos (keywordEach [] X.env)).all (fun x=>x.1.isSome)
  && decide (([e]:List Expr).length + ([]:List Keyword).length + (if ([]:List Keyword).isEmpty then 0 else 1) < 30)) = true
 line:(apos.endLine == cpos.line) = true
 trees:backTo cpos (starEach [e] X.env) = [(false,eval e X.env)]
structure M2 (X:Cx) (o:Expr) (m:Str) (apos:Pos) (e f:Expr) (cpos:Pos):Prop where
 base:attributeBase o m X.env (eval o X.env) = eval o X.env
 few:((backTo cpos (starEach [e,f] X.env)).all (fun x=>!x.1) && (backToKw cpos (keywordEach [] X.env)).all (fun x=>x.1.isSome)
  && decide (([e,f]:List Expr).length + ([]:List Keyword).length + (if ([]:List Keyword).isEmpty then 0 else 1) < 30)) = true
 line:(apos.endLine == cpos.line) = true
 trees:backTo cpos (starEach [e,f] X.env) = [(false,eval e X.env),(false,eval f X.env)]
def IsD (H:Hp) (a:Addr):Prop:=(∃ kvs,Rd H a (.dK kvs))\/∃ kvs,Rd H a (.dT kvs)
theorem isD_at {X:Cx}{zp:List (Addr × Obj)}{σ:St}{H:Hp}{s:Shared}{a:Addr} (I:Inv X zp σ H s) (d:IsD H a):
  s.TypeIs (.ref a) "dict"/\(∀ b,Value.ref a = .ref b->∃ ob,s.heap.get? b = some ob/\ob.dict = none)/\(a == sysModules) = false:=by
 rcases d with ⟨kvs,e⟩ | ⟨kvs,e⟩
 ·obtain ⟨_,hd,vs,_,dd⟩:=dk_rd I.hok e
  refine ⟨dd.typeIs,fun b q=>?_,hd⟩
  cases q
  obtain ⟨ob,_,_,h1,h2,_⟩:=dd
  exact ⟨ob,h1,h2.2.1⟩
 ·obtain ⟨_,hd,xs,_,dd⟩:=dt_rd I.hok e
  refine ⟨dd.typeIs,fun b q=>?_,hd⟩
  cases q
  obtain ⟨ob,_,_,h1,h2,_⟩:=dd
  exact ⟨ob,h1,h2.2.1⟩
section
variable {X:Cx}{zp:List (Addr × Obj)}{σ:St}{H:Hp}{s:Shared}{a:Addr}{y d:V}{u r:Value}{o:Option V}{A:Around}{E:Value->Shared->Prop}
theorem d_get1 {Q:Value->Shared->Prop} (hu:A.units + 1 < cLine) (I:Inv X zp σ H s) (g:DGet H a y o) (ry:RelV y u) (h:∀ w' s',Inv X zp σ H s'->RelV (o.getD .non) w'->Q w' s'):
  wpAny (model X.prog X.w) A (call (.builtin "dict.get") [.ref a,u]) Q E s:=by
 rcases g with ⟨kvs,k,e,ey,l⟩ | ⟨kvs,k,b,e,ey,eb,l⟩
 ·subst ey
  obtain ⟨z,hd,vs,rel,dd⟩:=dk_rd I.hok e
  refine call_meetsIn PySem.F.slot_dict_get dd.typeIs PySem.F.entry_dict_get (PySem.F.args_dict_get_2 _ _) (meets_dict_get (mixKind X.prog X.w) a (kV_is ry) hd) ⟨_,dd.mapOf,h _ _ (I.tok _) ?_⟩
  rw [l]
  exact (rel.val k).getD rfl
 ·subst ey
  cases (show u = Value.ref b from ry)
  obtain ⟨z,hd,xs,rel,dd⟩:=dt_rd I.hok e
  refine call_meetsIn PySem.F.slot_dict_get dd.typeIs PySem.F.entry_dict_get (PySem.F.args_dict_get_2 _ _) (meetsH_dict_get (tupleKind (mixKind X.prog X.w)) a b hd) ⟨tupleKind_room_in1 hu,k,xs,key_of I.hok eb,dd,h _ _ (I.tok _) ?_⟩
  rw [l]
  exact (rel.val k).getD rfl
end
def tDGet1 (td ty:TE):TE:=fun σ H Q=>td σ H fun x H1=>∃ a,x = .ref a/\IsD H1 a/\ty σ H1 fun y H2=>∃ o,DGet H2 a y o/\Q (o.getD .non) H2
def tDPop1 (td ty:TE):TE:=fun σ H Q=>td σ H fun x H1=>∃ a,x = .ref a/\IsD H1 a/\ty σ H1 fun y H2=>∃ kvs k v,H2 a = some (.dK kvs)/\y = kV k/\valV kvs k = some v/\Q v (upd H2 a (.dK (dropK kvs k)))
def tDPop2 (td ty tx:TE):TE:=fun σ H Q=>td σ H fun x H1=>∃ a,x = .ref a/\IsD H1 a/\ty σ H1 fun y H2=>tx σ H2 fun z H3=>∃ kvs k,H3 a = some (.dK kvs)/\y = kV k /\
 (∀ v,valV kvs k = some v->Q v (upd H3 a (.dK (dropK kvs k))))/\(valV kvs k = none->Q z H3)
section
variable {X:Cx}{o e f:Expr}{apos cpos:Pos}{td ty tx:TE}
theorem pe_dget1 (hu:X.A.units + 1 < cLine) (ho:PE X o td) (he:PE X e ty) (m:M1 X o "get" apos e cpos):PE X (.Call (.Attribute o "get" apos) [e] [] cpos) (tDGet1 td ty):=by
 intro zp s σ H Q I h
 refine wpAny_Call_method m.base m.few m.line PySem.F.plainAttrs_dict PySem.F.slot_dict_get PySem.F.type_dict_get (thn (ho zp s σ H _ I h) fun u s1 ⟨x,H1,I1,rx,a,ex,d,q1⟩=>?_)
 subst ex
 obtain rfl:u = Value.ref a:=rx
 obtain ⟨t1,t2,_⟩:=isD_at I1 d
 refine ⟨t1,t2,?_⟩
 rw [m.trees]
 refine Calls.callWith_builtin rfl (Calls.evalArgs_plain (Calls.spliced_cons (thn (he zp s1 σ H1 _ I1 q1) fun iv s2 ⟨y,H2,I2,ry,ov,g,q2⟩=>Calls.spliced_nil ?_)))
 exact d_get1 hu I2 g ry fun w' s3 I3 rw'=>⟨_,H2,I3,rw',q2⟩
theorem pe_dpop1 (ho:PE X o td) (he:PE X e ty) (m:M1 X o "pop" apos e cpos):PE X (.Call (.Attribute o "pop" apos) [e] [] cpos) (tDPop1 td ty):=by
 intro zp s σ H Q I h
 refine wpAny_Call_method m.base m.few m.line PySem.F.plainAttrs_dict PySem.F.slot_dict_pop PySem.F.type_dict_pop (thn (ho zp s σ H _ I h) fun u s1 ⟨x,H1,I1,rx,a,ex,d,q1⟩=>?_)
 subst ex
 obtain rfl:u = Value.ref a:=rx
 obtain ⟨t1,t2,_⟩:=isD_at I1 d
 refine ⟨t1,t2,?_⟩
 rw [m.trees]
 refine Calls.callWith_builtin rfl (Calls.evalArgs_plain (Calls.spliced_cons (thn (he zp s1 σ H1 _ I1 q1) fun iv s2 ⟨y,H2,I2,ry,kvs,k,v,ea,ey,l,q2⟩=>Calls.spliced_nil ?_)))
 subst ey
 exact d_pop I2 ea ry l (.inl rfl) fun w' s3 I3 rw'=>⟨v,_,I3,rw',q2⟩
theorem pe_dpop2 (ho:PE X o td) (he:PE X e ty) (hf:PE X f tx) (m:M2 X o "pop" apos e f cpos):PE X (.Call (.Attribute o "pop" apos) [e,f] [] cpos) (tDPop2 td ty tx):=by
 intro zp s σ H Q I h
 refine wpAny_Call_method m.base m.few m.line PySem.F.plainAttrs_dict PySem.F.slot_dict_pop PySem.F.type_dict_pop (thn (ho zp s σ H _ I h) fun u s1 ⟨x,H1,I1,rx,a,ex,d,q1⟩=>?_)
 subst ex
 obtain rfl:u = Value.ref a:=rx
 obtain ⟨t1,t2,_⟩:=isD_at I1 d
 refine ⟨t1,t2,?_⟩
 rw [m.trees]
 refine Calls.callWith_builtin rfl (Calls.evalArgs_plain (Calls.spliced_cons (thn (he zp s1 σ H1 _ I1 q1) fun iv s2 ⟨y,H2,I2,ry,q2⟩=>
  Calls.spliced_cons (thn (hf zp s2 σ H2 _ I2 q2) fun fv s3 ⟨z,H3,I3,rz,kvs,k,ea,ey,q3,q4⟩=>Calls.spliced_nil ?_))))
 subst ey
 cases l:valV kvs k with
 | some v=>exact d_pop I3 ea ry l (.inr ⟨fv,rfl⟩) fun w' s4 I4 rw'=>⟨v,_,I4,rw',q3 v l⟩
 | none=>exact d_popD I3 ea ry l fun s4 I4=>⟨z,H3,I4,rz,q4 l⟩
end
section
variable {X:Cx}{zp:List (Addr × Obj)}{σ:St}{H:Hp}{s:Shared}{a:Addr}{kvs:List (Key × V)}{A:Around}{E:Value->Shared->Prop}
end
section
variable {X:Cx}{zp:List (Addr × Obj)}{σ:St}{H:Hp}{s:Shared}{a:Addr}{y:V}{u:Value}{A:Around}{E:Value->Shared->Prop}
end
end L2
namespace HT
open PySem PyProof.Rows
section
open PySem.SeqAt
open PySem.AutoSeq1 (wpAny_loadPart')
open PySem.MeetsSeq PySem.MeetsSeq2 PySem.MeetsSeq3
end
section
variable {prog:Program}{w:World}{A:Around}{E:Value->Shared->Prop}{s:Shared}
theorem cat_tup {t b:Addr}{vs ws:List Value}{Q:Value->Shared->Prop} (ht:IsTup s.heap t vs.toArray) (hb:IsTup s.heap b ws.toArray) (hv:vs≠[])
  (h1:ws = []->Q (.ref t) s) (h2:ws≠[]->Q (.ref s.heap.objs.size) { s with heap:=s.heap.push { cls:=.type "tuple",data:=.seq (vs ++ ws).toArray } })
  (hsz:vs.length + ws.length<=sizeLine):wpAny (model prog w) A (binaryOp .Add (.ref t) (.ref b)) Q E s:=by
 obtain ⟨⟨cls,dd,data,sl⟩,ho,hc,n,hd⟩:=id ht
 obtain ⟨⟨cls2,dd2,data2,sl2⟩,ho2,hc2,n2,hd2⟩:=id hb
 simp only at hc hd hc2 hd2
 subst hc hd hc2 hd2
 have e:vs.toArray ++ ws.toArray = (vs ++ ws).toArray:=by simp
 by_cases hw:ws = []
 ·exact concat_meets ⟨_,ho,rfl⟩ ⟨_,ho2,rfl⟩ noFill_tuple_add seq_tuple_add PySem.F.slot_tuple_add PySem.F.entry_tuple_add (PySem.F.args_tuple_add_2 _ _)
   (tuple_addW1 t b vs.toArray ws.toArray n n2 dd dd2 sl sl2 (by simpa using hv) (by simp [hw])) ⟨ho,ho2,h1 hw⟩
 ·refine concat_meets ⟨_,ho,rfl⟩ ⟨_,ho2,rfl⟩ noFill_tuple_add seq_tuple_add PySem.F.slot_tuple_add PySem.F.entry_tuple_add (PySem.F.args_tuple_add_2 _ _)
   (tuple_addW2 t b vs.toArray ws.toArray n n2 dd dd2 sl sl2 (by simpa using hv) (by simpa using hw) (by rw [List.size_toArray,List.size_toArray]; exact hsz)) ⟨ho,ho2,?_⟩
  rw [e]
  exact h2 hw
def sIx (n d:Nat):Option Int->Nat
 | none=>d
 | some v=>if v < 0 then (v + (n:Int)).toNat else min v.toNat n
theorem sIx_nat (n d k:Nat):sIx n d (some (k:Int)) = min k n:=by
 show (if (k:Int) < 0 then ((k:Int) + (n:Int)).toNat else min (k:Int).toNat n) = min k n
 rw [if_neg (by omega),Int.toNat_natCast]
theorem sIx_le (n d:Nat) (hd:d<=n) (o:Option Int):sIx n d o<=n:=by
 cases o with
 | none=>exact hd
 | some v=>
  show (if v < 0 then (v + (n:Int)).toNat else min v.toNat n)<=n
  by_cases hv:v < 0
  ·rw [if_pos hv]; omega
  ·rw [if_neg hv]; exact Nat.min_le_right _ _
theorem clip_eq (v:Int) (n d:Nat):(if v < 0 then max (v + (n:Int)) 0 else min v (n:Int)) = ((sIx n d (some v):Nat):Int):=by
 show (if v < 0 then max (v + (n:Int)) 0 else min v (n:Int)) = (((if v < 0 then (v + (n:Int)).toNat else min v.toNat n):Nat):Int)
 by_cases hv:v < 0
 ·simp only [if_pos hv]; omega
 ·simp only [if_neg hv]; omega
theorem adjust_gen (lo hi:Option Int) (n:Nat):Builtin.Slice.sliceAdjust lo hi 1 (n:Int) = (((sIx n 0 lo:Nat):Int),((sIx n n hi:Nat):Int)):=by
 have h1:¬ ((1:Int) < 0):=by omega
 unfold Builtin.Slice.sliceAdjust
 simp only [h1,if_false]
 refine Prod.ext ?_ ?_
 ·cases lo with
  | none=>rfl
  | some v=>exact clip_eq v n 0
 ·cases hi with
  | none=>rfl
  | some v=>exact clip_eq v n n
theorem places_gen (i j:Nat):Builtin.Slice.slicePlaces (i:Int) (j:Int) 1 = j - i:=by
 unfold Builtin.Slice.slicePlaces
 have h1:(1:Int) > 0:=by omega
 simp only [h1,if_true,Int.ediv_one]
 split <;> omega
theorem slicePart_ {v:Value}{o:Option Int}{Q:Option Int->Shared->Prop} (p:IsPart v o) (h:Q o s):wpAny (model prog w) A (Builtin.Slice.slicePartIndex v) Q E s:=by
 cases p with
 | none=>exact slicePart_none h
 | int i t=>exact slicePart_int h
theorem sliceApplied_gen {sl:Addr}{vl vu:Value}{lo hi:Option Int}{n:Nat}{Q:Int × Int × Nat->Shared->Prop} (hs:s.heap.IsSliceOf sl vl vu .none) (pl:IsPart vl lo) (pu:IsPart vu hi)
  (h:Q (((sIx n 0 lo:Nat):Int),1,sIx n n hi - sIx n 0 lo) s):wpAny (model prog w) A (Builtin.Slice.sliceApplied (.ref sl) (pure (n:Int))) Q E s:=by
 obtain ⟨os,hos,hcs,hds⟩:=id hs
 unfold Builtin.Slice.sliceApplied Builtin.Slice.sliceFields
 refine wpAny_bind (wpAny_bind (wpAny_field hos hds (x:=vl) rfl (wpAny_bind (wpAny_field hos hds (x:=vu) rfl (wpAny_bind (wpAny_field hos hds (x:=.none) rfl (wpAny_pure ?_)))))))
 refine wpAny_bind (slicePart_none ?_)
 show wpAny _ _ (if ((1:Int) == 0) = true then _ else _) _ _ s
 rw [if_neg (by decide)]
 refine wpAny_bind (slicePart_ pl (wpAny_bind (slicePart_ pu (wpAny_bind (wpAny_pure ?_)))))
 show wpAny _ _ (match Builtin.Slice.sliceAdjust lo hi 1 (n:Int) with | (lo,hi)=>pure (lo,(1:Int),Builtin.Slice.slicePlaces lo hi 1)) _ _ s
 rw [adjust_gen lo hi n]
 show wpAny _ _ (pure (((sIx n 0 lo:Nat):Int),(1:Int),Builtin.Slice.slicePlaces ((sIx n 0 lo:Nat):Int) ((sIx n n hi:Nat):Int) 1)) _ _ s
 rw [places_gen]
 exact wpAny_pure h
theorem pick_gen (xs:Array Value) (i k:Nat):((List.range k).filterMap fun (m:Nat)=>xs[((i:Int) + (m:Int) * 1).toNat]?).toArray = ((xs.toList.drop i).take k).toArray:=by
 have e:(fun (m:Nat)=>xs[((i:Int) + (m:Int) * 1).toNat]?) = fun m=>xs[i + m]?:=by
  funext m
  have:((i:Int) + (m:Int) * 1).toNat = i + m:=by omega
  rw [this]
 rw [e]
 have:=pick_run xs i k
 rw [List.filterMap_map] at this
 have e2:((fun x=>xs[x]?) ∘ fun x=>i + x) = fun m=>xs[i + m]?:=rfl
 rw [e2] at this
 rw [this]
theorem getItem_tuple_cut {t sl:Addr}{items:Array Value}{vl vu:Value}{lo hi:Option Int}{Q:Value->Shared->Prop} (ht:IsTup s.heap t items) (hs:s.heap.IsSliceOf sl vl vu .none) (pl:IsPart vl lo) (pu:IsPart vu hi)
  (hw:¬ (sIx items.size 0 lo = 0/\sIx items.size items.size hi = items.size))
  (h:Q (.ref s.heap.objs.size) { s with heap:=s.heap.push { cls:=.type "tuple",data:=.seq ((items.toList.drop (sIx items.size 0 lo)).take (sIx items.size items.size hi - sIx items.size 0 lo)).toArray } })
  (hsz:items.size<=sizeLine):wpAny (model prog w) A (getItem (.ref t) (.ref sl)) Q E s:=by
 have htake:sizeOk (.seq ((items.toList.drop (sIx items.size 0 lo)).take (sIx items.size items.size hi - sIx items.size 0 lo)).toArray):=by
  show ((items.toList.drop (sIx items.size 0 lo)).take (sIx items.size items.size hi - sIx items.size 0 lo)).toArray.size<=sizeLine
  rw [List.size_toArray,List.length_take,List.length_drop,Array.length_toList]
  omega
 have hj:sIx items.size items.size hi<=items.size:=sIx_le _ _ (Nat.le_refl _) hi
 obtain ⟨os,hos,hcs,hds⟩:=id hs
 have hTs:s.TypeIs (.ref sl) "slice":=⟨os,hos,hcs⟩
 unfold getItem
 try with_reducible refine wpAny_holding ?_
 first | refine wpAny_bind (wpAny_pure ?_) | skip
 refine wpAny_bind (wpAny_sequenceKey ht.typeIs (by decide) ?_)
 refine wpAny_bind (wpAny_callSpecial?_slot (name:=Str.ofString "__getitem__") ht.typeIs PyProof.Rows.slot_tuple_getitem
  (wpAny_call_entry PyProof.Rows.slot_tuple_getitem ht.typeIs entry_tuple_getitem ?_ (args_tuple_getitem _ _)))
 show wpAny _ _ (Builtin.Tuple.tupleItemsOf (.ref t) >>= _) _ _ s
 refine wpAny_bind (tupleItemsOf_ ht ?_)
 refine wpAny_bind (wpAny_typeOf hTs ?_)
 rw [if_pos (by decide)]
 refine wpAny_bind (sliceApplied_gen hs pl pu ?_)
 have hno:¬ ((((sIx items.size 0 lo:Nat):Int) == 0 && (1:Int) == 1 && (sIx items.size items.size hi - sIx items.size 0 lo) == items.size) = true):=by
  intro q
  rw [Bool.and_eq_true,Bool.and_eq_true] at q
  have q1:((sIx items.size 0 lo:Nat):Int) = 0:=eq_of_beq q.1.1
  have q2:sIx items.size items.size hi - sIx items.size 0 lo = items.size:=eq_of_beq q.2
  exact hw ⟨by omega,by omega⟩
 show wpAny _ _ (if (((sIx items.size 0 lo:Nat):Int) == 0 && (1:Int) == 1 && (sIx items.size items.size hi - sIx items.size 0 lo) == items.size) = true then _ else _) _ _ s
 rw [if_neg hno,pick_gen]
 first
  | exact wpAny_bind (m:=Builtin.Tuple.tupleExact _) (wpAny_newObj_type (wpAny_pure ⟨_,rfl,wpAny_pure h⟩) htake)
  | exact wpAny_bind (m:=Builtin.Tuple.tupleExact _) (wpAny_newObj_type (wpAny_bind (wpAny_pure (wpAny_pure ⟨_,rfl,wpAny_pure h⟩))) htake)
  | exact wpAny_bind (wpAny_bind (m:=Builtin.Tuple.tupleExact _) (wpAny_newObj_type (wpAny_pure (wpAny_pure ⟨_,rfl,wpAny_pure h⟩)) htake))
  | exact wpAny_bind (wpAny_bind (m:=Builtin.Tuple.tupleExact _) (wpAny_newObj_type (wpAny_pure ⟨_,rfl,wpAny_pure h⟩) htake))
end
end HT
namespace L2
open PySem PySem.Spec PyProof.Rows
abbrev TO:=St->Hp->(Option Int->Hp->Prop)->Prop
def PO (X:Cx) (e:Option Expr) (t:TO):Prop:=
 ∀ (zp:List (Addr × Obj)) (s:Shared) (σ:St) (H:Hp) (Q:Option Int->Hp->Prop),Inv X zp σ H s->t σ H Q->
  wpAny (model X.prog X.w) X.A (evalPart e X.env) (fun u s'=>∃ o H',Inv X zp σ H' s'/\IsPart u o/\Q o H') X.xe s
def tNoPart:TO:=fun _ H Q=>Q none H
def tPart (t:TE):TO:=fun σ H Q=>t σ H fun x H1=>∃ i,x = .int i/\Q (some i) H1
theorem intsAre_of {ns:List Int}:∀ {us:List Value},Vals (ns.map V.int) us->IntsAre us ns:=by
 induction ns with
 | nil=>intro us r; rw [List.map_nil] at r; cases r; exact .nil
 | cons n ns ih=>
  intro us r
  rw [List.map_cons] at r
  cases r with
  | cons r1 r2=>
   obtain ⟨t,e⟩:=r1
   subst e
   exact .cons n t (ih r2)
section
variable {X:Cx}{e:Expr}{te:TE}{lo hi:Option Expr}{tl th:TO}{pos p2:Pos}
theorem po_none:PO X none tNoPart:=by
 intro zp s σ H Q I h
 rw [evalPart_none]
 exact wpAny_pure ⟨none,H,I,.none,h⟩
theorem po_some (h:PE X e te):PO X (some e) (tPart te):=by
 intro zp s σ H Q I hw
 rw [evalPart_some]
 refine thn (h zp s σ H _ I hw) fun u s1 ⟨x,H1,I1,r1,q1⟩=>?_
 obtain ⟨i,rfl,q⟩:=q1
 obtain ⟨t,rfl⟩:=r1
 exact ⟨some i,H1,I1,.int i t,q⟩
def SlR (X:Cx) (r:V->Option Int->Option Int->Hp->VK->Prop):Prop:=
 ∀ (zp:List (Addr × Obj)) (s:Shared) (σ:St) (H:Hp) (x:V) (v vl vu:Value) (lo hi:Option Int) (sl:Addr) (Q:VK),Inv X zp σ H s->RelV x v->s.heap.IsSliceOf sl vl vu .none->IsPart vl lo->IsPart vu hi->r x lo hi H Q->
  ∃ T id,typeLookup (.type T) "__getitem__" = pure (some (.builtin id))/\s.TypeIs v T/\wpAny (model X.prog X.w) X.A (getItem v (.ref sl)) (EP X zp σ Q) X.xe s
def tSl (r:V->Option Int->Option Int->Hp->VK->Prop) (te:TE) (tl th:TO):TE:=fun σ H Q=>te σ H fun x H1=>tl σ H1 fun l H2=>th σ H2 fun u H3=>r x l u H3 Q
theorem pe_slice {r:V->Option Int->Option Int->Hp->VK->Prop} (hr:SlR X r) (he:PE X e te) (hl:PO X lo tl) (hu:PO X hi th):PE X (.Subscript e (.Slice lo hi none p2) pos) (tSl r te tl th):=by
 intro zp s σ H Q I h
 refine Subscript_ (thn (he zp s σ H _ I h) fun v s1 ⟨x,H1,I1,r1,q1⟩=>?_)
 refine wpAny_Slice (thn (hl zp s1 σ H1 _ I1 q1) fun vl s2 ⟨l,H2,I2,pl,q2⟩=>thn (hu zp s2 σ H2 _ I2 q2) fun vu s3 ⟨u,H3,I3,pu,q3⟩=>?_)
 rw [evalPart_none]
 refine wpAny_pure ?_
 have I4:Inv X zp σ H3 { s3 with heap:=s3.heap.push { cls:=.type "slice",data:=.fields #[vl,vu,.none] } }:=I3.kept (t':=s3.toks) fun b ob q=>Heap.get?_push_of_some _ q
 obtain ⟨T,id,hT,ht,hg⟩:=hr zp { s3 with heap:=s3.heap.push { cls:=.type "slice",data:=.fields #[vl,vu,.none] } } σ H3 x v vl vu l u s3.heap.objs.size Q I4 r1 (Heap.IsSliceOf.new ..) pl pu q3
 show wpAny (model X.prog X.w) X.A (subscriptTail e (.Slice lo hi none p2) v (.ref s3.heap.objs.size)) (EP X zp σ Q) X.xe { s3 with heap:=s3.heap.push { cls:=.type "slice",data:=.fields #[vl,vu,.none] } }
 exact tail_any (ops:=[.ref s3.heap.objs.size,v]) ht hT hg (by with_unfolding_all rfl)
def cutV (xs:List V) (lo hi:Option Int):List V:=(xs.drop (HT.sIx xs.length 0 lo)).take (HT.sIx xs.length xs.length hi - HT.sIx xs.length 0 lo)
theorem cutV_length (xs:List V) (lo hi:Option Int):(cutV xs lo hi).length<=xs.length:=by
 unfold cutV
 rw [List.length_take,List.length_drop]
 omega
def rSlT (K:PySem.W.Frag):V->Option Int->Option Int->Hp->VK->Prop:=fun x lo hi H Q=>∃ a xs,x = .ref a/\SqT K H a xs /\
 ¬ (HT.sIx xs.length 0 lo = 0/\HT.sIx xs.length xs.length hi = xs.length)/\∀ p,H p = none->Q (.ref p) (upd H p (.tup (cutV xs lo hi)))
theorem sl_tup:SlR X (rSlT X.K):=by
 intro zp s σ H x v vl vu lo hi sl Q I rx hs pl pu h
 obtain ⟨a,xs,rfl,hx,hw,q⟩:=h
 cases rx
 obtain ⟨its,r,ht,hz⟩:=I.tuple hx
 have hlen:its.toArray.size = xs.length:=by rw [List.size_toArray]; exact r.length.symm
 refine ⟨"tuple",_,PyProof.Rows.slot_tuple_getitem.lookup,ht.typeIs,?_⟩
 refine HT.getItem_tuple_cut ht hs pl pu (by rw [hlen]; exact hw) ?_ (by rw [hlen]; exact hz)
 rw [hlen]
 refine ⟨.ref s.heap.objs.size,_,I.laid (t':=s.toks) (o:=.tup (cutV xs lo hi)) (fun b ob q=>Heap.get?_push_of_some _ q) (Nat.le_refl _) ?_,rfl,q _ (I.hok.fresh (Nat.le_refl _))⟩
 exact ⟨Nat.le_trans (cutV_length xs lo hi) hz,_,(r.drop (HT.sIx xs.length 0 lo)).take (HT.sIx xs.length xs.length hi - HT.sIx xs.length 0 lo),IsTup.new _ _⟩
def rCatT (K:PySem.W.Frag):R2:=fun x y H Q=>∃ a b xs ys,x = .ref a/\y = .ref b/\SqT K H a xs/\SqT K H b ys/\xs≠[]/\xs.length + ys.length<=sizeLine /\
 (ys = []->Q (.ref a) H)/\(ys≠[]->∀ p,H p = none->Q (.ref p) (upd H p (.tup (xs ++ ys))))
theorem Vals.nil_iff {xs:List V}{us:List Value} (r:Vals xs us):us = [] ↔ xs = []:=by
 cases r with
 | nil=>simp
 | cons _ _=>simp
theorem op_catT:OpR X (binaryOp .Add) (rCatT X.K):=by
 intro zp s σ H x y v u Q I rx ry h
 obtain ⟨a,b,xs,ys,rfl,rfl,ha,hb,hx,hz,q1,q2⟩:=h
 cases rx
 cases ry
 obtain ⟨its,r1,p1,_⟩:=I.tuple ha
 obtain ⟨its2,r2,p2,_⟩:=I.tuple hb
 refine HT.cat_tup p1 p2 (fun z=>hx (r1.nil_iff.mp z)) (fun z=>⟨.ref a,H,I,rfl,q1 (r2.nil_iff.mp z)⟩) (fun z=>?_) (by rw [← r1.length,← r2.length]; exact hz)
 refine ⟨.ref s.heap.objs.size,_,I.laid (t':=s.toks) (o:=.tup (xs ++ ys)) (fun b ob q=>Heap.get?_push_of_some _ q) (Nat.le_refl _) ?_,rfl,q2 (fun w=>z (r2.nil_iff.mpr w)) _ (I.hok.fresh (Nat.le_refl _))⟩
 exact ⟨by rw [List.length_append]; exact hz,_,r1.append r2,IsTup.new _ _⟩
end
def ixN (n:Nat) (i:Int):Option Nat:=if 0<=i then (if i < n then some i.toNat else none) else if -(n:Int)<=i then some (i + n).toNat else none
def atI {α:Type} (xs:List α) (i:Int):Option α:=(ixN xs.length i).bind fun j=>xs[j]?
theorem ixN_seq {n:Nat}{i:Int}{j:Nat} (h:ixN n i = some j):seqIndex? i n = some j/\j < n/\-(n:Int)<=i/\i < n:=by
 unfold ixN at h
 by_cases h0:0<=i
 ·rw [if_pos h0] at h
  by_cases h1:i < n
  ·rw [if_pos h1] at h
   have e:i.toNat = j:=Option.some.inj h
   exact ⟨by rw [seqIndex_of h0 h1,e],by omega,by omega,h1⟩
  ·rw [if_neg h1] at h; cases h
 ·rw [if_neg h0] at h
  by_cases h1:-(n:Int)<=i
  ·rw [if_pos h1] at h
   have e:(i + n).toNat = j:=Option.some.inj h
   exact ⟨by rw [seqIndex_neg (by omega) h1,e],by omega,h1,by omega⟩
  ·rw [if_neg h1] at h; cases h
theorem atI_get {α:Type}{xs:List α}{i:Int}{v:α} (h:atI xs i = some v):∃ j,seqIndex? i xs.length = some j/\xs[j]? = some v/\j < xs.length/\-(xs.length:Int)<=i/\i < xs.length:=by
 unfold atI at h
 cases e:ixN xs.length i with
 | none=>rw [e] at h; cases h
 | some j=>
  rw [e] at h
  obtain ⟨h1,h2,h3,h4⟩:=ixN_seq e
  exact ⟨j,h1,h,h2,h3,h4⟩
theorem atI_nat {α:Type}{xs:List α}{j:Nat}{v:α} (h:xs[j]? = some v):atI xs (j:Int) = some v:=by
 have hj:j < xs.length:=(List.getElem?_eq_some_iff.mp h).1
 have e:ixN xs.length (j:Int) = some j:=by
  unfold ixN
  rw [if_pos (by omega),if_pos (by omega)]; simp
 unfold atI; rw [e]; exact h
theorem atI_last {α:Type} (xs:List α) (v:α):atI (xs ++ [v]) (-1) = some v:=by
 have hl:(xs ++ [v]).length = xs.length + 1:=by simp
 have e:ixN (xs ++ [v]).length (-1) = some xs.length:=by
  unfold ixN
  rw [hl,if_neg (by decide),if_pos (by omega)]
  congr 1
  omega
 unfold atI
 rw [e]
 show (xs ++ [v])[xs.length]? = some v
 simp
def PlainIx (b:Expr):Prop:=∀ o i,subscripted b false o i = operate [o,i] (getItem o i)
def IxR (X:Cx) (r:R2):Prop:=
 ∀ (value slice:Expr) (zp:List (Addr × Obj)) (s:Shared) (σ:St) (H:Hp) (x y:V) (v u:Value) (Q:VK),Inv X zp σ H s->RelV x v->RelV y u->r x y H Q->
  subscripted slice false v u = operate [v,u] (getItem v u)->wpAny (model X.prog X.w) X.A (subscriptTail value slice v u) (EP X zp σ Q) X.xe s
def MtR (X:Cx) (id:String) (r:V->List V->Hp->VK->Prop):Prop:=
 ∀ (zp:List (Addr × Obj)) (s:Shared) (σ:St) (H:Hp) (x:V) (xs:List V) (v:Value) (us:List Value) (Q:VK),Inv X zp σ H s->RelV x v->Vals xs us->r x xs H Q->
  wpAny (model X.prog X.w) X.A (call (.builtin id) (v :: us)) (EP X zp σ Q) X.xe s
section
variable {X:Cx}{a b:Expr}{ta tb:TE}{pos:Pos}
theorem IxR.or {r r':R2} (h:IxR X r) (h':IxR X r'):IxR X (fun x y H Q=>r x y H Q\/r' x y H Q):=by
 intro value slice zp s σ H x y v u Q I rx ry q hs
 rcases q with q | q
 ·exact h value slice zp s σ H x y v u Q I rx ry q hs
 ·exact h' value slice zp s σ H x y v u Q I rx ry q hs
theorem pe_ix {r:R2} (hr:IxR X r) (ha:PE X a ta) (hb:PE X b tb) (hs:PlainIx b):PE X (.Subscript a b pos) (tOp r ta tb):=by
 intro zp s σ H Q I h
 exact Subscript_ (binT ha hb I h fun v u s2 x y H2 I2 rx ry q=>hr a b zp s2 σ H2 x y v u Q I2 rx ry q (hs _ _))
def rIxL (K:PySem.W.Frag):R2:=fun x y H Q=>∃ p xs i v,x = .ref p/\y = .int i/\SqL K H p xs/\atI xs i = some v/\Q v H
def rIxT (K:PySem.W.Frag):R2:=fun x y H Q=>∃ p xs i v,x = .ref p/\y = .int i/\SqT K H p xs/\atI xs i = some v/\Q v H
def rIxS:R2:=fun x y H Q=>∃ z i c,x = .str z/\y = .int i/\z.length<=sizeLine/\atI z.cps.toList i = some c/\Q (.str ⟨#[c]⟩) H
theorem ix_list:IxR X (rIxL X.K):=by
 intro value slice zp s σ H x y v u Q I rx ry h hs
 obtain ⟨p,xs,i,z,rfl,rfl,hq,he,q⟩:=h
 cases rx
 obtain ⟨t,rfl⟩:=ry
 obtain ⟨its,r,pl,hz⟩:=I.list hq
 obtain ⟨j,h1,h2,h3,h4,h5⟩:=atI_get he
 obtain ⟨w,ew,rw'⟩:=r.get h2
 have hl:=r.length
 have hn:=line63
 have fin:EP X zp σ Q w s:=⟨z,H,I,rw',q⟩
 by_cases h0:0<=i
 ·have hj:i.toNat = j:=by
   rw [seqIndex_of h0 h5] at h1
   exact Option.some.inj h1
  exact item_listR pl.isList h0 (by omega) (by rw [hj]; simpa using ew) fin hs
 ·have hj:(i + (its.toArray.size:Int)).toNat = j:=by
   rw [seqIndex_neg (by omega) h4] at h1
   rw [List.size_toArray,← hl]
   exact Option.some.inj h1
  exact subscriptTail_builtinR (x:=w) pl.isList.typeIs slot_list_getitem.lookup
   (wpAny_getItem_list_neg (Q:=fun r s'=>r = w/\EP X zp σ Q r s') pl.isList (by omega) (by rw [List.size_toArray] <;> omega) (by omega) (by rw [hj]; simpa using ew) ⟨rfl,fin⟩) hs
theorem ix_tup:IxR X (rIxT X.K):=by
 intro value slice zp s σ H x y v u Q I rx ry h hs
 obtain ⟨p,xs,i,z,rfl,rfl,hq,he,q⟩:=h
 cases rx
 obtain ⟨t,rfl⟩:=ry
 obtain ⟨its,r,pl,hz⟩:=I.tuple hq
 obtain ⟨j,h1,h2,h3,h4,h5⟩:=atI_get he
 obtain ⟨w,ew,rw'⟩:=r.get h2
 have hl:=r.length
 have hn:=line63
 have fin:EP X zp σ Q w s:=⟨z,H,I,rw',q⟩
 exact subscriptTail_builtinR (x:=w) pl.typeIs slot_tuple_getitem.lookup
  (getItem_tuple (j:=j) (Q:=fun r s'=>r = w/\EP X zp σ Q r s') pl (by omega) (by omega) (by rw [List.size_toArray,← hl]; exact h1) (by simpa using ew) ⟨rfl,fin⟩) hs
theorem ix_str:IxR X rIxS:=by
 intro value slice zp s σ H x y v u Q I rx ry h hs
 obtain ⟨z,i,c,rfl,rfl,hz,he,q⟩:=h
 obtain ⟨t,rfl⟩:=rx
 obtain ⟨t',rfl⟩:=ry
 obtain ⟨j,h1,h2,h3,h4,h5⟩:=atI_get he
 have hl:z.cps.toList.length = z.length:=by simp [Str.length]
 rw [hl] at h1 h4 h5
 have hn:=line63
 exact tail_any (typeIs_str s z t) slot_str_getitem.lookup (getItem_str (c:=c) (by
  have e1:decide (i < -(2 ^ 63:Int)) = false:=decide_eq_false (by omega)
  have e2:decide (i ≥ 2 ^ 63) = false:=decide_eq_false (by omega)
  rw [e1,e2,Bool.or_false]) (by rw [h1]; simpa using h2) ⟨.str ⟨#[c]⟩,H,I.tok _,⟨_,rfl⟩,q⟩) hs
def rIx (K:PySem.W.Frag):R2:=fun x y H Q=>rIxL K x y H Q\/rIxT K x y H Q\/rIxS x y H Q
theorem ix_seq:IxR X (rIx X.K):=ix_list.or (ix_tup.or ix_str)
theorem mapSeq_set (its:List Value) (n j:Nat) (u:Value):Obj.mapSeq (·.setIfInBounds j u) { cls:=.type "list",data:=.seq its.toArray n } = { cls:=.type "list",data:=.seq (its.set j u).toArray n }:=by
 simp [Obj.mapSeq]
theorem Inv.lst {zp:List (Addr × Obj)}{σ:St}{H:Hp}{s:Shared}{p:Addr}{xs:List V} (I:Inv X zp σ H s) (h:H p = some (.lst xs)):
  ∃ (its:List Value) (n:Nat),Vals xs its/\s.heap.get? p = some { cls:=.type "list",data:=.seq its.toArray n }/\xs.length<=sizeLine:=by
 obtain ⟨z,its,n,r,e⟩:=I.hok p _ h
 exact ⟨its,n,r,e,z⟩
theorem Inv.lstUpd {zp:List (Addr × Obj)}{σ:St}{H:Hp}{s:Shared}{p:Addr}{xs ys:List V}{its its':List Value}{n n':Nat}{f:Obj->Obj} (I:Inv X zp σ H s) (h:H p = some (.lst xs))
  (ho:s.heap.get? p = some { cls:=.type "list",data:=.seq its.toArray n }) (hf:f { cls:=.type "list",data:=.seq its.toArray n } = { cls:=.type "list",data:=.seq its'.toArray n' }) (r:Vals ys its') (hz:ys.length<=sizeLine) (t:Nat):
  Inv X zp σ (upd H p (.lst ys)) { s with heap:=s.heap.update p f,toks:=t }:=by
 have e:(s.heap.update p f).get? p = some { cls:=.type "list",data:=.seq its'.toArray n' }:=by
  rw [Heap.get?_update_self f ho (by rw [hf] <;> rfl),hf]
 refine I.write (x:=p) (e:=p) (by rw [h]; trivial) (.inl rfl) (fun b u hb q=>(Heap.get?_update_other _ _ (Ne.symm hb)).trans q) ⟨_,e⟩ ?_
 exact ⟨hz,its',n',r,e⟩
def rSetL:V->V->V->Hp->(Hp->Prop)->Prop:=fun o i v H Q=>∃ p xs k j,o = .ref p/\i = .int k/\H p = some (.lst xs)/\ixN xs.length k = some j/\Q (upd H p (.lst (xs.set j v)))
theorem set_list:PSet X rSetL:=by
 intro zp s σ H o i v ov iv u Q I ro ri rv h
 obtain ⟨p,xs,k,j,rfl,rfl,hp,hj,q⟩:=h
 cases ro
 obtain ⟨t,rfl⟩:=ri
 obtain ⟨its,n,r,ho,hz⟩:=I.lst hp
 obtain ⟨h1,h2,h3,h4⟩:=ixN_seq hj
 have hl:=r.length
 have hn:=line63
 have I':Inv X zp σ (upd H p (.lst (xs.set j v))) { s with heap:=s.heap.update p (Obj.mapSeq (·.setIfInBounds j u)) }:=
  I.lstUpd hp ho (mapSeq_set its n j u) (r.set rv j) (by rw [List.length_set]; exact hz) s.toks
 by_cases h0:0<=k
 ·have hk:k.toNat = j:=by
   rw [seqIndex_of h0 h4] at h1
   exact Option.some.inj h1
  exact PySem.W.ki_setAt ho h0 (by omega) (by rw [List.size_toArray,← hl]; exact h4) (by rw [hk]; exact ⟨_,I',q⟩)
 ·have hk:(k + (its.toArray.size:Int)).toNat = j:=by
   rw [seqIndex_neg (by omega) h3] at h1
   rw [List.size_toArray,← hl]
   exact Option.some.inj h1
  exact PySem.W.ki_setBack ho (by omega) (by rw [List.size_toArray,← hl]; exact h3) (by omega) (by rw [hk]; exact ⟨_,I',q⟩)
def flatV:V->Bool
 | .non=>true
 | .bl _=>true
 | .int _=>true
 | .str _=>true
 | _=>false
def eqV:V->V->Bool
 | .non,.non=>true
 | .bl a,.bl b=>a == b
 | .bl a,.int b=>(if a then 1 else 0) == b
 | .int a,.bl b=>a == (if b then 1 else 0)
 | .int a,.int b=>a == b
 | .str a,.str b=>a == b
 | _,_=>false
theorem eqAt_V {A:Around}{s:Shared}{y x:V}{u v:Value} (ry:RelV y u) (rx:RelV x v) (fy:flatV y = true) (fx:flatV x = true):SeqAt.EqAt A s u v (eqV y x):=by
 cases y with
 | non=>
  cases ry
  cases x with
  | non=>cases rx; exact SeqAt.EqAt.same _
  | bl b=>cases rx; exact SeqAt.EqAt.none_bool b
  | int b=>obtain ⟨t,rfl⟩:=rx; exact SeqAt.EqAt.none_int b t
  | str b=>obtain ⟨t,rfl⟩:=rx; exact SeqAt.EqAt.none_str b t
  | _=>exact absurd (show false = true from fx) Bool.false_ne_true
 | bl a=>
  cases ry
  cases x with
  | non=>cases rx; exact SeqAt.EqAt.bool_none a
  | bl b=>cases rx; exact SeqAt.EqAt.bool_bool a b
  | int b=>obtain ⟨t,rfl⟩:=rx; exact SeqAt.EqAt.bool_int a b t
  | str b=>obtain ⟨t,rfl⟩:=rx; exact SeqAt.EqAt.bool_str a b t
  | _=>exact absurd (show false = true from fx) Bool.false_ne_true
 | int a=>
  obtain ⟨t',rfl⟩:=ry
  cases x with
  | non=>cases rx; exact SeqAt.EqAt.int_none a t'
  | bl b=>cases rx; exact SeqAt.EqAt.int_bool a t' b
  | int b=>obtain ⟨t,rfl⟩:=rx; exact SeqAt.EqAt.int_int a t' b t
  | str b=>obtain ⟨t,rfl⟩:=rx; exact SeqAt.EqAt.int_str a t' b t
  | _=>exact absurd (show false = true from fx) Bool.false_ne_true
 | str a=>
  obtain ⟨t',rfl⟩:=ry
  cases x with
  | non=>cases rx; exact SeqAt.EqAt.str_none a t'
  | bl b=>cases rx; exact SeqAt.EqAt.str_bool a t' b
  | int b=>obtain ⟨t,rfl⟩:=rx; exact SeqAt.EqAt.str_int a t' b t
  | str b=>obtain ⟨t,rfl⟩:=rx; exact SeqAt.EqAt.str_str a t' b t
  | _=>exact absurd (show false = true from fx) Bool.false_ne_true
 | _=>exact absurd (show false = true from fy) Bool.false_ne_true
def eqU (x:V) (u:Value):Bool:=match u with
 | .none=>eqV .non x
 | .bool b=>eqV (.bl b) x
 | .int i _=>eqV (.int i) x
 | .str z _=>eqV (.str z) x
 | _=>false
theorem eqU_of {x y:V}{u:Value} (r:RelV y u) (f:flatV y = true):eqU x u = eqV y x:=by
 cases y with
 | non=>cases r; rfl
 | bl b=>cases r; rfl
 | int i=>obtain ⟨t,rfl⟩:=r; rfl
 | str z=>obtain ⟨t,rfl⟩:=r; rfl
 | _=>exact absurd (show false = true from f) Bool.false_ne_true
theorem any_eqU {x:V}:∀ {xs:List V}{us:List Value},Vals xs us->xs.all flatV = true->us.any (eqU x) = xs.any fun y=>eqV y x
 | _,_,.nil,_=>rfl
 | y :: xs,u :: us,.cons r t,f=>by
  rw [List.all_cons,Bool.and_eq_true] at f
  rw [List.any_cons,List.any_cons,eqU_of r f.1,any_eqU t f.2]
theorem mem_eqAt {A:Around}{s:Shared}{x:V}{v:Value} (rx:RelV x v) (fx:flatV x = true):∀ {xs:List V}{us:List Value},Vals xs us->xs.all flatV = true->∀ u∈us,SeqAt.EqAt A s u v (eqU x u)
 | _,_,.nil,_=>fun u hu=>by cases hu
 | y :: xs,u :: us,.cons r t,f=>fun u' hu=>by
  rw [List.all_cons,Bool.and_eq_true] at f
  rcases List.mem_cons.mp hu with rfl | hu
  ·rw [eqU_of r f.1]; exact eqAt_V r rx f.1 fx
  ·exact mem_eqAt rx fx t f.2 u' hu
def inV (x:V) (xs:List V):Bool:=xs.any fun y=>eqV y x
def rIn (K:PySem.W.Frag) (neg:Bool):R2:=fun x y H Q=>∃ p xs,y = .ref p/\(SqL K H p xs\/SqT K H p xs)/\flatV x = true/\xs.all flatV = true/\Q (.bl (if neg then !inV x xs else inV x xs)) H
theorem op_in_seq:OpR X (compareOp .In) (rIn X.K false):=by
 intro zp s σ H x y v u Q I rx ry h
 obtain ⟨p,xs,rfl,hq,fx,fs,q⟩:=h
 cases ry
 rcases hq with hq | hq
 ·obtain ⟨its,r,pl,hz⟩:=I.list hq
  refine SeqAt.in_listAt (eqU x) pl.isList (fun w hw=>mem_eqAt rx fx r fs w (by simpa using hw)) ⟨.bl _,H,I,rfl,?_⟩
  rw [show its.toArray.any (eqU x) = its.any (eqU x) by simp,any_eqU r fs]
  exact q
 ·obtain ⟨its,r,pl,hz⟩:=I.tuple hq
  refine SeqAt.in_tupleAt (eqU x) pl (fun w hw=>mem_eqAt rx fx r fs w (by simpa using hw)) ⟨.bl _,H,I,rfl,?_⟩
  rw [show its.toArray.any (eqU x) = its.any (eqU x) by simp,any_eqU r fs]
  exact q
theorem op_notIn_seq:OpR X (compareOp .NotIn) (rIn X.K true):=by
 intro zp s σ H x y v u Q I rx ry h
 obtain ⟨p,xs,rfl,hq,fx,fs,q⟩:=h
 cases ry
 rcases hq with hq | hq
 ·obtain ⟨its,r,pl,hz⟩:=I.list hq
  refine SeqAt.notIn_listAt (eqU x) pl.isList (fun w hw=>mem_eqAt rx fx r fs w (by simpa using hw)) ⟨.bl _,H,I,rfl,?_⟩
  rw [show its.toArray.any (eqU x) = its.any (eqU x) by simp,any_eqU r fs]
  exact q
 ·obtain ⟨its,r,pl,hz⟩:=I.tuple hq
  refine SeqAt.notIn_tupleAt (eqU x) pl (fun w hw=>mem_eqAt rx fx r fs w (by simpa using hw)) ⟨.bl _,H,I,rfl,?_⟩
  rw [show its.toArray.any (eqU x) = its.any (eqU x) by simp,any_eqU r fs]
  exact q
theorem call_list_of:CallR X (.type "list") (fun xs H Q=>∃ p ys,xs = [.ref p]/\(SqL X.K H p ys\/SqT X.K H p ys)/\∀ l,H l = none->Q (.ref l) (upd H l (.lst ys))):=by
 intro zp s σ H xs us Q I r h
 obtain ⟨p,ys,rfl,hq,q⟩:=h
 obtain ⟨u,rfl,rx⟩:=vals1 r
 cases rx
 have fin:∀ (its:List Value),Vals ys its->ys.length<=sizeLine->∀ (h':Heap) (c':Nat),(∀ b o',s.heap.get? b = some o'->h'.get? b = some o')->
   h'.get? s.heap.objs.size = some { cls:=.type "list",dict:=none,data:=.seq its.toArray c',slots:=#[] }->EP X zp σ Q (.ref s.heap.objs.size) { s with heap:=h' }:=fun its r' hz h' c' kp e=>
  ⟨.ref s.heap.objs.size,_,I.laid (t':=s.toks) kp (Nat.le_refl _) (show ObjOk X.prog X.w _ h' _ (.lst ys) from ⟨hz,its,c',r',e⟩),rfl,q _ (I.hok.fresh (Nat.le_refl _))⟩
 rcases hq with hq | hq
 ·obtain ⟨its,r',pl,hz⟩:=I.list hq
  have hlen:=r'.length
  obtain ⟨o,ho,hc,n,hd⟩:=pl.isList
  exact call_list_seq p (.inl rfl) ho hc hd (fun h' c' kp e=>fin its r' hz h' c' kp e) (by simp only [List.size_toArray] <;> omega)
 ·obtain ⟨its,r',pl,hz⟩:=I.tuple hq
  have hlen:=r'.length
  obtain ⟨o,ho,hc,n,hd⟩:=pl
  exact call_list_seq p (.inr rfl) ho hc hd (fun h' c' kp e=>fin its r' hz h' c' kp e) (by simp only [List.size_toArray] <;> omega)
theorem call_tuple_of:CallR X (.type "tuple") (fun xs H Q=>∃ p ys,xs = [.ref p]/\((SqL X.K H p ys/\∀ l,H l = none->Q (.ref l) (upd H l (.tup ys)))\/(SqT X.K H p ys/\Q (.ref p) H))):=by
 intro zp s σ H xs us Q I r h
 obtain ⟨p,ys,rfl,h⟩:=h
 obtain ⟨u,rfl,rx⟩:=vals1 r
 cases rx
 rcases h with ⟨hq,q⟩ | ⟨hq,q⟩
 ·obtain ⟨its,r',pl,hz⟩:=I.list hq
  have hlen:=r'.length
  refine call_tuple_list pl.isList (fun h' kp=>?_) (by simp only [List.size_toArray] <;> omega)
  have I1:Inv X zp σ H { s with heap:=h' }:=I.kept (t':=s.toks) kp
  have I2:Inv X zp σ (upd H h'.objs.size (.tup ys)) { s with heap:=h'.push { cls:=.type "tuple",data:=.seq its.toArray } }:=
   I1.laid (t':=s.toks) (fun b o e=>Heap.get?_push_of_some _ e) (Nat.le_refl _) (show ObjOk X.prog X.w _ _ _ (.tup ys) from ⟨hz,its,r',IsTup.new _ _⟩)
  exact ⟨.ref h'.objs.size,_,I2,rfl,q _ (I1.hok.fresh (Nat.le_refl _))⟩
 ·obtain ⟨its,r',pl,hz⟩:=I.tuple hq
  exact call_tuple_same pl ⟨.ref p,H,I,rfl,q⟩
def tyV (K:PySem.W.Frag) (T:String) (x:V) (H:Hp):Prop:=match x with
 | .str _=>T = "str"
 | .int _=>T = "int"
 | .ref p=>(T = "list"/\∃ xs,SqL K H p xs)\/(T = "tuple"/\∃ o,K.lookup p = some o/\o.cls = .type "tuple"/\o.dict = none) \/
   (T = "dict"/\((∃ kvs,H p = some (.dK kvs))\/∃ kvs,H p = some (.dT kvs)))\/(T = "set"/\∃ S n,H p = some (.set S n))
 | _=>False
theorem tyV_is {zp:List (Addr × Obj)}{σ:St}{H:Hp}{s:Shared}{T:String}{x:V}{v:Value} (I:Inv X zp σ H s) (r:RelV x v) (ty:tyV X.K T x H):
  s.TypeIs v T/\∀ a,v = .ref a->∃ ob,s.heap.get? a = some ob/\ob.dict = none:=by
 cases x with
 | str z=>
  obtain ⟨t,rfl⟩:=r
  cases (show T = "str" from ty)
  exact ⟨typeIs_str s z t,fun _ e=>nomatch e⟩
 | int i=>
  obtain ⟨t,rfl⟩:=r
  cases (show T = "int" from ty)
  exact ⟨typeIs_int s i t,fun _ e=>nomatch e⟩
 | ref p=>
  cases r
  rcases ty with ⟨rfl,xs,hq⟩ | ⟨rfl,o,hk,hc,hd⟩ | ⟨rfl,hk⟩ | ⟨rfl,S,n,hk⟩
  ·obtain ⟨its,_,pl,_⟩:=I.list hq
   refine ⟨pl.isList.typeIs,fun a e=>?_⟩
   cases e
   obtain ⟨o,n,e,c,hd,_⟩:=pl
   exact ⟨o,e,hd⟩
  ·refine ⟨⟨o,I.kIn p o hk,hc⟩,fun a e=>?_⟩
   cases e
   exact ⟨o,I.kIn _ o hk,hd⟩
  ·have z:∃ o,s.heap.get? p = some o/\o.ExactDict:=by
    rcases hk with ⟨kvs,hk⟩ | ⟨kvs,hk⟩
    ·obtain ⟨_,_,_,_,o,_,_,e,ex,_⟩:=I.hok p _ hk
     exact ⟨o,e,ex⟩
    ·obtain ⟨_,_,_,_,o,_,_,e,ex,_⟩:=I.hok p _ hk
     exact ⟨o,e,ex⟩
   obtain ⟨o,e,ex⟩:=z
   refine ⟨⟨o,e,ex.1⟩,fun a e2=>?_⟩
   cases e2
   exact ⟨o,e,ex.2.1⟩
  ·obtain ⟨o,_,_,_,e,ex,_⟩:=I.hok p _ hk
   refine ⟨⟨o,e,ex.1⟩,fun a e2=>?_⟩
   cases e2
   exact ⟨o,e,ex.2.1⟩
 | _=>exact False.elim ty
def tBM0 (K:PySem.W.Frag) (T:String) (r:V->List V->Hp->VK->Prop) (to:TE):TE:=fun σ H Q=>to σ H fun x H1=>tyV K T x H1/\r x [] H1 Q
def tBM (K:PySem.W.Frag) (T:String) (r:V->List V->Hp->VK->Prop) (to:TE) (t:TA):TE:=fun σ H Q=>to σ H fun x H1=>tyV K T x H1/\t σ H1 fun xs H2=>r x xs H2 Q
variable {o e:Expr}{es:List Expr}{to:TE}{t:TA}{name:Str}{apos cpos:Pos}{T id:String}{r:V->List V->Hp->VK->Prop}
theorem pe_bm0 (pa:PlainAttrs T) (slot:Slot T name id) (hty:typeOf (.builtin id) = pure (.type "method_descriptor")) (hm:MtR X id r) (ho:PE X o to)
  (hbase:attributeBase o name X.env (eval o X.env) = eval o X.env:=by rfl) (hline:(apos.endLine == cpos.line) = true:=by rfl):PE X (.Call (.Attribute o name apos) [] [] cpos) (tBM0 X.K T r to):=by
 intro zp s σ H Q I h
 refine wpAny_Call_method0_late hbase hline (thn (ho zp s σ H _ I h) fun v s1 ⟨x,H1,I1,r1,ty,q1⟩=>?_)
 obtain ⟨h1,h2⟩:=tyV_is I1 r1 ty
 exact ⟨T,id,pa,slot,hty,h1,h2,Calls.callWith_builtin rfl (PySem.evalArgs_none (hm zp s1 σ H1 x [] v [] Q I1 r1 .nil q1))⟩
theorem pe_bm (pa:PlainAttrs T) (slot:Slot T name id) (hty:typeOf (.builtin id) = pure (.type "method_descriptor")) (hm:MtR X id r) (ho:PE X o to) (ha:PA X (e :: es) t)
  (hbase:attributeBase o name X.env (eval o X.env) = eval o X.env:=by rfl)
  (hfew:((backTo cpos (starEach (e :: es) X.env)).all (fun x=>!x.1) && (backToKw cpos (keywordEach [] X.env)).all (fun x=>x.1.isSome)
   && decide ((e :: es).length + ([]:List Keyword).length + (if ([]:List Keyword).isEmpty then 0 else 1) < 30)) = true:=by rfl)
  (hline:(apos.endLine == cpos.line) = true:=by rfl) (hs:starEach (e :: es) X.env = (false,eval e X.env) :: starEach es X.env:=by rfl) (hplain:(backTo cpos (starEach es X.env)).any (·.1) = false:=by rfl):
  PE X (.Call (.Attribute o name apos) (e :: es) [] cpos) (tBM X.K T r to t):=by
 intro zp s σ H Q I h
 refine wpAny_Call_method_late hbase hfew hline rfl (thn (ho zp s σ H _ I h) fun v s1 ⟨x,H1,I1,r1,ty,q1⟩=>?_)
 obtain ⟨h1,h2⟩:=tyV_is I1 r1 ty
 refine ⟨T,id,pa,slot,hty,h1,h2,?_⟩
 have hA:=ha cpos zp s1 σ H1 _ I1 q1
 rw [hs] at hA ⊢
 refine Calls.callWith_builtin (by show (false || (backTo cpos (starEach es X.env)).any (·.1)) = false; rw [hplain] <;> rfl) (Calls.evalArgs_plain ?_)
 exact thn hA fun us s2 ⟨vs,H2,I2,r2,q2⟩=>hm zp s2 σ H2 x vs v us Q I2 r1 r2 q2
end
def MtM (X:Cx) (id:String) (r:V->List V->Hp->VK->Prop):Prop:=
 ∀ (zp:List (Addr × Obj)) (s:Shared) (σ:St) (H:Hp) (x:V) (xs:List V) (v:Value) (us:List Value) (Q:VK),Inv X zp σ H s->RelV x v->Vals xs us->r x xs H Q->
  wpAny (model X.prog X.w) X.A (call (.builtin id) (v :: us)) (EP X zp σ Q) X.xe s
theorem Vals.one:∀ {x:V}{us:List Value},Vals [x] us->∃ u,us = [u]/\RelV x u
 | _,_,.cons r .nil=>⟨_,rfl,r⟩
theorem Vals.zero:∀ {us:List Value},Vals [] us->us = []
 | _,.nil=>rfl
theorem Vals.dropLast {xs:List V}{us:List Value} (h:Vals xs us):Vals xs.dropLast us.dropLast:=by
 induction h with
 | nil=>exact .nil
 | cons r t ih=>
  cases t with
  | nil=>exact .nil
  | cons q t'=>exact .cons r ih
theorem erase_last {α:Type} (l:List α):l.eraseIdx (l.length - 1) = l.dropLast:=by
 induction l with
 | nil=>rfl
 | cons a r ih=>
  cases r with
  | nil=>rfl
  | cons b r=>
   have e:(a :: b :: r).length - 1 = ((b :: r).length - 1) + 1:=by
    have h1:(a :: b :: r).length = r.length + 2:=rfl
    have h2:(b :: r).length = r.length + 1:=rfl
    omega
   rw [e,List.eraseIdx_cons_succ,ih]
   all_goals rfl
section
variable {X:Cx}{zp:List (Addr × Obj)}{σ:St}{H:Hp}{s:Shared}{l b:Addr}{xs ys zs:List V}
theorem Inv.lset {its its':List Value}{n:Nat}{f:Array Value->Array Value}{t':Nat} (I:Inv X zp σ H s) (hH:H l = some (.lst xs))
  (e:s.heap.get? l = some { cls:=.type "list",data:=.seq its.toArray n }) (hf:f its.toArray = its'.toArray) (hv:Vals ys its') (hz:ys.length<=sizeLine):
  Inv X zp σ (upd H l (.lst ys)) { s with heap:=s.heap.update l (Obj.mapSeq f),toks:=t' }:=by
 have q:=PySem.IsL.update e f
 rw [hf] at q
 refine I.write (x:=l) (e:=l) (by rw [hH]; exact trivial) (.inl rfl) (fun b' u hb hu=>(Heap.get?_update_other s.heap (Obj.mapSeq f) (Ne.symm hb)).trans hu) ⟨_,q⟩ ?_
 exact ⟨hz,its',_,hv,q⟩
theorem Inv.lstM (I:Inv X zp σ H s) (hH:H l = some (.lst xs)):xs.length<=sizeLine/\∃ (its:List Value) (n:Nat),Vals xs its/\xs.length = its.length/\s.heap.get? l = some { cls:=.type "list",data:=.seq its.toArray n }:=by
 obtain ⟨z,its,n,r,e⟩:=I.hok l _ hH
 exact ⟨z,its,n,r,r.length,e⟩
theorem notLongL {n:Nat} (h:n<=sizeLine):Builtin.List.listTooLong n = false:=by
 unfold Builtin.List.listTooLong
 exact decide_eq_false (by omega)
end
section
variable {X:Cx}
def rAppend:V->List V->Hp->VK->Prop:=fun x vs H Q=>∃ l xs y,x = .ref l/\vs = [y]/\H l = some (.lst xs)/\xs.length < sizeLine/\Q .non (upd H l (.lst (xs ++ [y])))
theorem mt_append:MtM X "list.append" rAppend:=by
 intro zp s σ H x vs v us Q I rx rv h
 obtain ⟨l,xs,y,rfl,rfl,hH,hz,q⟩:=h
 cases rx
 obtain ⟨u,rfl,ru⟩:=rv.one
 obtain ⟨z,its,n,r,hl,e⟩:=I.lstM hH
 refine call_meets F.slot_list_append ⟨_,e,rfl⟩ F.entry_list_append (F.args_list_append_2 _ _) (PySem.list_append l its.toArray n u (by rw [List.size_toArray]; omega)) ⟨e,?_⟩
 refine ⟨.non,_,I.lset (its':=its ++ [u]) hH e (by simp) (r.append (.cons ru .nil)) ?_,rfl,q⟩
 rw [List.length_append,List.length_singleton]
 omega
def rExtend:V->List V->Hp->VK->Prop:=fun x vs H Q=>∃ l b xs zs,x = .ref l/\vs = [.ref b]/\H l = some (.lst xs)/\H b = some (.lst zs)/\xs.length + zs.length<=sizeLine/\Q .non (upd H l (.lst (xs ++ zs)))
theorem mt_extend:MtM X "list.extend" rExtend:=by
 intro zp s σ H x vs v us Q I rx rv h
 obtain ⟨l,b,xs,zs,rfl,rfl,hH,hB,hz,q⟩:=h
 cases rx
 obtain ⟨u,rfl,ru⟩:=rv.one
 cases ru
 obtain ⟨z,its,n,r,hl,e⟩:=I.lstM hH
 obtain ⟨z2,its2,n2,r2,hl2,e2⟩:=I.lstM hB
 have hsz:its.toArray.size + its2.toArray.size<=sizeLine:=by rw [List.size_toArray,List.size_toArray]; omega
 have hlong:¬ (!its.toArray.isEmpty && Builtin.List.listTooLong (its.toArray.size + its2.toArray.size)) = true:=by
  rw [notLongL hsz,Bool.and_false]
  exact Bool.false_ne_true
 refine call_meets F.slot_list_extend ⟨_,e,rfl⟩ F.entry_list_extend (F.args_list_extend_2 _ _)
  (AutoSeq1.list_extend_list_list_0 l its.toArray n b its2.toArray n2 hlong (by rw [List.size_toArray]; omega) (by omega)) ⟨e,e2,?_⟩
 refine ⟨.non,_,I.lset (its':=its ++ its2) hH e (by simp) (r.append r2) ?_,rfl,q⟩
 rw [List.length_append]
 omega
def rPop:V->List V->Hp->VK->Prop:=fun x vs H Q=>∃ l xs y,x = .ref l/\vs = []/\H l = some (.lst xs)/\xs[xs.length - 1]? = some y/\Q y (upd H l (.lst xs.dropLast))
theorem mt_pop:MtM X "list.pop" rPop:=by
 intro zp s σ H x vs v us Q I rx rv h
 obtain ⟨l,xs,y,rfl,rfl,hH,hy,q⟩:=h
 cases rx
 have hus:=rv.zero
 subst hus
 obtain ⟨z,its,n,r,hl,e⟩:=I.lstM hH
 obtain ⟨u,hu,ru⟩:=r.get hy
 have hy':its.toArray[its.toArray.size - 1]? = some u:=by
  show its.toArray[its.length - 1]? = some u
  rw [← Array.getElem?_toList,← hl]
  exact hu
 refine call_meets F.slot_list_pop ⟨_,e,rfl⟩ F.entry_list_pop (F.args_list_pop_1 _) (MeetsSeq.list_pop_last l its.toArray n u hy' (by rw [List.size_toArray]; omega)) ⟨e,?_⟩
 refine ⟨y,_,I.lset (its':=its.dropLast) hH e ?_ r.dropLast ?_,ru,q⟩
 ·show its.toArray.eraseIdxIfInBounds (its.toArray.size - 1) = its.dropLast.toArray
  rw [List.size_toArray,List.eraseIdxIfInBounds_toArray,erase_last]
 ·rw [List.length_dropLast]
  omega
end
section
variable {prog:Program}{w:World}{A:Around}{E:Value->Shared->Prop}{s:Shared}
set_option maxRecDepth 100000 in
end
section
variable {X:Cx}
end
end L2
namespace Att
open PySem PySem.W PySem.Calls PyProof.Rows
theorem ints_of_wellAll {P:Params}{h:Heap}:∀ (ns:List Int) (vs:List Value),WellAll P h vs (ns.map WData.int)->IntsAre vs ns:=by
 intro ns
 induction ns with
 | nil=>
  intro vs w
  rw [List.map_nil] at w
  cases w
  exact .nil
 | cons n ns ih=>
  intro vs w
  rw [List.map_cons] at w
  cases w with
  | cons a b=>
   cases a
   exact .cons _ _ (ih _ b)
theorem script_of {l:OpenLaw}{n:Nat} (hn:l.most = some n) {P:Params}{h:Heap}{args:List WData}{vals:List Value}
  (hpre:l.row.toRowW.claim.pre args = true) (hwl:WellAll P h vals args):
  ∃ a vs ns,vals = [Value.ref a]/\args = [WData.list (ns.map WData.int)]/\h.get? a = some { cls:=.type "list",data:=.seq vs.toArray }/\IntsAre vs ns/\ns.length<=n:=by
 have hsh:WShape.hasAll [] args [.list .int] = true:=(pre_splitW hpre).1
 have hc:l.pre.holds [] { args:=args } = true:=(pre_splitW hpre).2
 obtain ⟨d,r,rfl,h1,h2⟩:=hasAllW_cons hsh
 obtain rfl:=hasAllW_nil h2
 obtain ⟨xs,rfl,h3⟩:=hasW_list h1
 obtain ⟨ns,rfl⟩:=items_int h3
 have hlen:ns.length<=n:=by
  unfold OpenLaw.pre at hc
  have h4:(WTm.not (.lt (.lit (.int (n:Int))) (.len (.arg 0)))).holds [] { args:=[.list (ns.map .int)] } = true:=by
   have h4:=(holds_andW hc).1
   rw [hn] at h4
   exact h4
  have h5:=condW_of h4 (w_not (w_lt w_lit (w_len_list (w_arg rfl))))
  rw [List.length_map] at h5
  refine Nat.le_of_not_lt fun q=>?_
  have q':(n:Int) < ((ns.length:Nat):Int):=by omega
  first
   | (rw [decide_eq_true q'] at h5; exact absurd h5 (by decide))
   | (simp at h5; omega)
 cases hwl with
 | cons w1 w2=>
  cases w2
  cases w1 with
  | list ho hall=>exact ⟨_,_,ns,rfl,rfl,ho,ints_of_wellAll ns _ hall,hlen⟩
theorem post_true (l:OpenLaw) (args:List WData):l.row.toRowW.claim.post args (.bool true) args = true:=
 postW_of (r:=l.row.toRowW) (X:=(true == true))
  (show WShape.has [] (.bool true) .bool = true by first | rfl | decide | simp [WShape.has,WShape.arms,WShape.armsAll])
  (show (WTm.eq .res (.lit (.bool true))).value [] { args:=args,res:=some (.bool true),after:=args } = some (.bool (true == true)) from w_eq_bool (w_res rfl) w_lit) rfl
theorem attach_call {l:OpenLaw}{n:Nat}{q:Program}{loose:List Str}{XP:(Str->Option Value)->Heap->Prop}{YP:World->Heap->Prop}{d:DefRec}
  (hn:l.most = some n) (hdf:d.params.defaults = [])
  (call:∀ (w:World) (s₀ s₁:Shared) (mg mb:Str->Option Value) (fa:Addr) (o:Obj) (pm cd doc:Value) (a:Addr) (vs:List Value) (ns:List Int),
   Ground q loose [] XP w s₀ mg mb s₁.heap->YP w s₁.heap->
   s₁.heap.get? fa = some o->o.data = .func (docDef d.name d.params d.body d.scope pm cd doc)->s₁.heap.CodeRec cd d.name->mg d.name = some (.ref fa)->
   s₁.heap.get? a = some { cls:=.type "list",data:=.seq vs.toArray }->IntsAre vs ns->ns.length<=n->s₁.gens = #[]->
   codeAny (model l.prog w) callerA (.call (.ref fa) ⟨[.ref a],[]⟩) (fun r s'=>r = .ok (.ret (.bool true))/\OldK s₁.heap s'.heap/\s'.os = s₁.os/\AllBare s'.gens) s₁):
  WalkO q loose XP YP l.row.toRowW d [] (fun f vs=>PySem.call f vs):=by
 intro w s₀ s₁ mg mb G Y fa o pm cd doc dV kV ho hd hcd hD hmg hg args vals as hpre hlay hrd hwl hlo
 obtain rfl:dV = .none:=Dflts.none hD hdf
 obtain rfl:kV = .none:=Dflts.noKw hD
 obtain ⟨a,vs,ns,rfl,rfl,hobj,hints,hlen⟩:=script_of hn hpre hwl
 refine enter_call (codeAny_mono (call w s₀ s₁ mg mb fa o pm cd doc a vs ns G Y ho (fd_plain hd) hcd hmg hobj hints hlen hg) fun r s' hq=>?_)
 obtain ⟨rfl,h2,h3,h4⟩:=hq
 exact ⟨.inl ⟨.bool true,.bool true,[],rfl,fun _=>rfl,.bool true,post_true l _,fun _=>⟨List.Pairwise.nil,fun _ hm=>(nomatch hm)⟩⟩,h2,h3,h4⟩
section
variable {prog:Program}{w:World}{A:Around}{E:Value->Shared->Prop}{s:Shared}{K:Frag}
def ledger (h:Heap) (L d:Addr):List (Addr × Obj):=(List.range h.objs.size).filterMap fun a=>if a = L\/a = d then none else (h.get? a).map fun o=>(a,o)
end
end Att
namespace L2
open PySem PySem.Spec PyProof.Rows
theorem vals_ints:∀ {vs:List Value}{ns:List Int},IntsAre vs ns->Vals (ns.map V.int) vs
 | _,_,.nil=>.nil
 | _,_,.cons n t h=>.cons ⟨t,rfl⟩ (vals_ints h)
def Only (H:Hp):Prop:=∀ b,H b = none\/∃ o xs,H b = some (.frz o (.lst xs))
theorem law_call {P:Program}{w:World}{K:PySem.W.Frag}{mg mb:Str->Option Value}{CX:CXT}{k:Nat}{fa a:Addr}{fd:FuncData}{x:Str}{sp:Sp}{s₁:Shared}{vs:List Value}{ns:List Int}
  (KX:K.In s₁.heap) (hns:s₁.heap.Ns mainGlobals mg) (hb:s₁.heap.Ns builtinsNs mb) (hbb:∀ x:Str,x≠"__name__"->mb x = bootBuiltins x) (hlim:s₁.heap.NoLimit) (hg:s₁.gens = #[])
  (ha:s₁.heap.get? a = some { cls:=.type "list",data:=.seq vs.toArray }) (hi:IntsAre vs ns) (hl:ns.length<=sizeLine) (hr:Room k callerA)
  (F:∀ base:Heap,K.In base->base.Ns mainGlobals mg->FnOk P w K mg base CX k fa fd [x] sp) (hbind:∀ (s:Shared) (u:Value),BindsTo s fd ⟨[u],[]⟩ [(x,u)])
  (hsp:∀ H:Hp,Only H->SqL K H a (ns.map V.int)->sp [.ref a] H (fun v _=>v = .bl true) fun _ _ _=>False)
  (hCX:∀ H e s',CX [] H s₁ (fun _ _ _=>False) e s'->False):
  codeAny (model P w) callerA (.call (.ref fa) ⟨[.ref a],[]⟩) (fun r s'=>r = .ok (.ret (.bool true))/\OldK s₁.heap s'.heap/\s'.os = s₁.os/\AllBare s'.gens) s₁:=by
 have rv:=vals_ints hi
 have lenV:=hi.length
 have core:∀ H:Hp,Only H->SqL K H a (ns.map V.int)->HOk P w H s₁.heap->(∀ b,H b≠none->b = a)->(H a≠none->K.lookup a = none)->
   codeAny (model P w) callerA (.call (.ref fa) ⟨[.ref a],[]⟩) (fun r s'=>r = .ok (.ret (.bool true))/\OldK s₁.heap s'.heap/\s'.os = s₁.os/\AllBare s'.gens) s₁:=by
  intro H hO hS hok hA hK
  have base_of:∀ {b:Addr}{o:Obj},s₁.heap.get? b = some o->H b = none->(hidT s₁.heap H).get? b = some o:=fun e n=>hidT_get e n
  have noA:∀ {b:Addr}{o:Obj}{es:Array DictEntry}{ep:Nat},s₁.heap.get? b = some o->o.data = .dict es ep->H b = none:=fun {b o es ep} e d=>by
   cases q:H b with
   | none=>rfl
   | some u=>
    have e':b = a:=hA b (by rw [q]; simp)
    subst e'
    rw [ha] at e; cases e
    have d':Data.seq vs.toArray _ = Data.dict es ep:=d
    cases d'
  have nsK:∀ {b:Addr}{m:Str->Option Value},s₁.heap.Ns b m->(hidT s₁.heap H).Ns b m:=fun {b m} ⟨o,es,ep,e,d,r⟩=>⟨o,es,ep,base_of e (noA e d),d,r⟩
  have hKb:K.In (hidT s₁.heap H):=fun b o e=>base_of (KX b o e) (by
   cases q:H b with
   | none=>rfl
   | some u=>
    have e':b = a:=hA b (by rw [q]; simp)
    subst e'
    rw [hK (by rw [q]; simp)] at e; cases e)
  have hM:Mod K mg (hidT s₁.heap H):=⟨hKb,nsK hns,⟨mb,nsK hb,hbb⟩,let ⟨mc,h1,h2⟩:=hlim; ⟨mc,nsK h1,h2⟩⟩
  have e0:Env0 P w K mg (hidT s₁.heap H) callerA [] s₁ H:=⟨rfl,hM,fun b o e=>of_hidT e,Nat.le_of_eq (hidT_size _ _),trivial,fun b hb=>absurd (show b∈([]:List Addr) from hb) (by simp),hok,.of_eq hg⟩
  refine codeAny_mono ((F _ hKb (nsK hns)).run callerA [] s₁ H ⟨[.ref a],[]⟩ [.ref a] [.ref a] _ _ hr e0 (hbind s₁ (.ref a)) (.cons rfl .nil) (hsp H hO hS)) fun r s' h=>?_
  cases r with
  | error e=>exact (hCX H e s' h).elim
  | ok fl=>
   cases fl with
   | next=>exact False.elim h
   | brk=>exact False.elim h
   | cont=>exact False.elim h
   | ret u=>
    obtain ⟨v,H',os,bare,un,hok',r',q⟩:=h
    have q':v = .bl true:=q
    subst q'
    obtain rfl:u = Value.bool true:=r'
    refine ⟨rfl,OldK.of_keep fun b o e=>?_,os,bare⟩
    cases q:H b with
    | none=>exact un.keep b o e q (by intro z; exact absurd (show b∈([]:List Addr) from z) (by simp)) (by simp)
    | some u=>
     rcases hO b with z | ⟨ob,xs,z⟩
     ·rw [q] at z; cases z
     ·have z2:=un.frzs b ob _ z
      obtain ⟨e1,_⟩:=hok b _ z
      obtain ⟨e2,_⟩:=hok' b _ z2
      rw [e] at e1; cases e1
      exact e2
 cases hk:K.lookup a with
 | some o=>
  have e:=KX a o hk
  rw [ha] at e
  cases e
  refine core (fun _=>none) (fun _=>.inl rfl) (.inr ⟨_,vs.toArray,_,hk,rfl,rfl,rfl,by rw [List.size_toArray,lenV]; exact hl,by simpa using rv⟩) (fun b u z=>by have z':(none:Option HO) = some u:=z; cases z') (fun b z=>absurd rfl z) fun z=>absurd rfl z
 | none=>
  refine core (fun b=>if b = a then some (.frz { cls:=.type "list",data:=.seq vs.toArray } (.lst (ns.map V.int))) else none) (fun b=>?_) (.inl (.inr ⟨{ cls:=.type "list",data:=.seq vs.toArray },if_pos rfl⟩)) (fun b u z=>?_) (fun b z=>?_) fun _=>hk
  ·by_cases hb:b = a
   ·exact .inr ⟨_,_,if_pos hb⟩
   ·exact .inl (if_neg hb)
  ·by_cases hb:b = a
   ·have z':=(if_pos hb).symm.trans z
    cases z'
    subst hb
    exact ⟨ha,by rw [List.length_map]; exact hl,vs,_,rv,ha⟩
   ·have z':=(if_neg hb).symm.trans z
    cases z'
  ·by_cases hb:b = a
   ·exact hb
   ·exact absurd (if_neg hb) z
abbrev KOf {K:PySem.W.Frag}{h:Heap} (_:K.In h):PySem.W.Frag:=K
theorem walk_of {l:PySem.W.OpenLaw}{n k:Nat}{q:Program}{loose:List Str}{XP:(Str->Option Value)->Heap->Prop}{YP:World->Heap->Prop}{d:DefRec}{K:Params->PySem.W.Frag}{CX:World->CXT}{sp:World->Sp}{x:Str}
  (hn:l.most = some n) (hn2:n<=sizeLine) (hdf:d.params.defaults = []) (hr:Room k callerA)
  (hY:∀ (w:World) (h:Heap),YP w h->(K w.params).In h)
  (F:∀ (w:World) (mg:Str->Option Value) (fa:Addr) (h:Heap),(K w.params).In h->h.Ns mainGlobals mg->mg d.name = some (.ref fa)->
   ∃ fd:FuncData,(∀ (s:Shared) (u:Value),BindsTo s fd ⟨[u],[]⟩ [(x,u)]) /\
    ∀ base:Heap,(K w.params).In base->base.Ns mainGlobals mg->FnOk l.prog w (K w.params) mg base (CX w) k fa fd [x] (sp w))
  (hsp:∀ (w:World) (H:Hp) (a:Addr) (ns:List Int),ns.length<=n->Only H->SqL (K w.params) H a (ns.map V.int)->sp w [.ref a] H (fun v _=>v = .bl true) fun _ _ _=>False)
  (hCX:∀ (w:World) (H:Hp) (s:Shared) (e:Value) (s':Shared),CX w [] H s (fun _ _ _=>False) e s'->False):
  PySem.W.WalkO q loose XP YP l.row.toRowW d [] (fun f vs=>PySem.call f vs):=by
 refine Att.attach_call hn hdf fun w s₀ s₁ mg mb fa o pm cd doc a vs ns G Y ho hd hcd hmg hobj hints hlen hg=>?_
 have KX:=hY w _ Y
 obtain ⟨fd,hb,hF⟩:=F w mg fa _ KX G.T.g hmg
 exact law_call KX G.T.g G.T.b G.T.builtins G.T.nolimit hg hobj hints (Nat.le_trans hlen hn2) hr hF hb (fun H hO hS=>hsp w H a ns hlen hO hS) fun H e s'=>hCX w H s₁ e s'
end L2
namespace L2
open PySem PySem.Spec PyProof.Rows
def inClass (s:Stmt) (j:Nat):Stmt:=match s with
 | .ClassDef _ _ _ body _ _ _ _ _ _ _=>body.getD j (.Pass ⟨0,0,0,0⟩)
 | _=>.Pass ⟨0,0,0,0⟩
def defArgs (s:Stmt):Arguments:=match s with
 | .FunctionDef _ a _ _ _ _ _ _ _ _=>a
 | _=>{ posonlyargs:=[],args:=[],vararg:=none,kwonlyargs:=[],kw_defaults:=[],kwarg:=none,defaults:=[] }
def defBody (s:Stmt):List Stmt:=match s with
 | .FunctionDef _ _ b _ _ _ _ _ _ _=>b
 | _=>[]
def defScope (s:Stmt):Scope:=match s with
 | .FunctionDef _ _ _ _ _ _ sc _ _ _=>sc
 | _=>{ kind:=.function,names:=[],isGenerator:=false,isCoroutine:=false }
abbrev CX0:CXT:=fun _ _ _ _ _ _=>False
abbrev E0:XK:=fun _ _ _=>False
theorem pass0 {X:Cx}:Passes CX0 X E0:=fun _ _ _ _ _ _ _ h=>h.elim
structure Fun (K:PySem.W.Frag) (x qual:Str) (st:Stmt) (f:Addr) (fd:FuncData):Prop where
 ex:∃ (oc:Value) (od:Option Addr) (kV doc pm:Value) (an:Option Addr) (cdv ct:Value) (osl:Array (Option Value)),
  fd = fnOf x qual (defArgs st) (defBody st) (defScope st) .none kV doc pm an cdv ct/\K.lookup f = some ⟨oc,od,.func fd,osl⟩/\codeIn K cdv qual = true
 kp:keepIn K (.ref f) = true
section
variable {P:Program}{w:World}{K:PySem.W.Frag}{mg:Str->Option Value}{base:Heap}
theorem Fun.ok {x qual:Str}{st:Stmt}{f:Addr}{fd:FuncData}{N ps:List Str}{k:Nat}{sp:Sp} (F:Fun K x qual st f fd) (S:FnScope N ps (defScope st)) (len:∀ vs H Q E,sp vs H Q E->vs.length = ps.length)
  (hbody:∀ (cdv:Value) (A:Around) (outer:List Env) (s:Shared) (H:Hp) (vs:List V) (Q:VK) (E:XK),Room k (A.deeper (envOfC qual (defScope st) s.heap.objs.size f cdv))->sp vs H Q E->
   ∃ t,PSs (cxOf CX0 P w K mg base N qual (defScope st) f cdv A outer s H E).nox (defBody st) t/\t { nx:=fun _ H'=>Q .non H',rt:=Q } (start N vs) H):FnOk P w K mg base CX0 (k + 1) f fd ps sp:=by
 obtain ⟨oc,od,kV,doc,pm,an,cdv,ct,osl,rfl,lk,hcd⟩:=F.ex
 refine fn_of lk hcd S len fun A outer s H vs Q E hr hsp=>?_
 obtain ⟨t,h,q⟩:=hbody cdv A outer s H vs Q E hr hsp
 exact ⟨t,h.nox,q⟩
theorem Fun.binds {x qual:Str}{st:Stmt}{f:Addr}{fd:FuncData}{ps:List Str} (F:Fun K x qual st f fd)
  (h:∀ (kV doc pm:Value) (an:Option Addr) (cdv ct:Value) (us:List Value),us.length = ps.length->bindArgs (fnOf x qual (defArgs st) (defBody st) (defScope st) .none kV doc pm an cdv ct) ⟨us,[]⟩ = pure (ps.zip us)):Binds K fd ps []:=by
 obtain ⟨oc,od,kV,doc,pm,an,cdv,ct,osl,rfl,lk,hcd⟩:=F.ex
 exact .all (h kV doc pm an cdv ct)
theorem fun_mk {x qual:Str}{st:Stmt}{f:Addr}{oc:Value}{od an:Option Addr}{osl:Array (Option Value)}{kV doc pm cdv ct:Value} (l:K.lookup f = some ⟨oc,od,.func (fnOf x qual (defArgs st) (defBody st) (defScope st) .none kV doc pm an cdv ct),osl⟩)
  (c:codeIn K cdv qual = true) (k:keepIn K (.ref f) = true):Fun K x qual st f (fnOf x qual (defArgs st) (defBody st) (defScope st) .none kV doc pm an cdv ct):=⟨⟨oc,od,kV,doc,pm,an,cdv,ct,osl,rfl,l,c⟩,k⟩
end
theorem hu_of {A:Around}{k:Nat} (hr:Room k A):A.units + 1 < cLine:=Nat.lt_of_le_of_lt (Nat.add_le_add_left (by decide:1<=64) _) hr.units
section
variable {X:Cx}
theorem pv (i:Nat) {x:Str}{pos:Pos} (hN:X.N[i]? = some x:=by rfl) (hv:Vis X.env.scope x:=by first | exact Or.inl rfl | exact Or.inr (Or.inl rfl) | exact Or.inr (Or.inr rfl)) (hd:(x == ("__debug__":Str)) = false:=by decide)
  (hcd:(x == ("__classdict__":Str)) = false:=by decide):PE X (.Name x pos) (tVar i):=pe_var hN hv hd hcd
theorem call_lenD:CallR X (.builtin "len") (fun xs H Q=>∃ a kvs,xs = [V.ref a]/\H a = some (.dK kvs)/\Q (.int kvs.length) H):=by
 intro zp s σ H xs us Q I r h
 obtain ⟨a,kvs,rfl,ha,q⟩:=h
 obtain ⟨u,rfl,ru⟩:=vals1 r
 cases ru
 exact d_len I (.inl ha) fun t s' I'=>⟨.int kvs.length,H,I',⟨t,rfl⟩,q⟩
end
theorem iteF {A B:Prop} (h:B):if false = true then A else B:=by
 rw [if_neg Bool.false_ne_true]
 exact h
theorem iteT {A B:Prop} (h:A):if true = true then A else B:=by
 rw [if_pos rfl]
 exact h
theorem ite2 {c A B:Prop} [Decidable c] (h1:c->A) (h2:¬ c->B):if c then A else B:=by
 by_cases h:c
 ·rw [if_pos h]
  exact h1 h
 ·rw [if_neg h]
  exact h2 h
def Same (H H':Hp):Prop:=∀ b o,H b = some o->H' b = some o
theorem Same.refl (H:Hp):Same H H:=fun _ _ h=>h
theorem Same.trans {H H1 H2:Hp} (a:Same H H1) (b:Same H1 H2):Same H H2:=fun c o h=>b c o (a c o h)
theorem Same.free {H H':Hp} (e:Same H H') {l:Addr} (h:H' l = Option.none):H l = Option.none:=by
 cases q:H l with
 | none=>rfl
 | some o=>
  rw [e l o q] at h
  cases h
theorem Same.seq {K:PySem.W.Frag}{H H':Hp}{a:Addr}{xs:List V} (e:Same H H') (h:SqL K H a xs):SqL K H' a xs:=by
 rcases h with (h | ⟨o,h⟩) | h
 ·exact .inl (.inl (e _ _ h))
 ·exact .inl (.inr ⟨o,e _ _ h⟩)
 ·exact .inr h
section
variable {κ:Type} [DecidableEq κ]
theorem valV_not {kvs:List (κ × V)}{k:κ} (h:valV kvs k = none):¬ k∈kvs.map (·.1):=by
 intro m
 obtain ⟨p,hp,e⟩:=List.mem_map.mp m
 have q:(kvs.any fun kv=>decide (kv.1 = k)) = true:=List.any_eq_true.mpr ⟨p,hp,decide_eq_true e⟩
 rw [valV_any,h] at q
 exact absurd q (by simp)
theorem valV_in {kvs:List (κ × V)}{k:κ}{v:V} (h:valV kvs k = some v):k∈kvs.map (·.1):=by
 have q:(kvs.any fun kv=>decide (kv.1 = k)) = true:=by
  rw [valV_any,h]
  all_goals rfl
 obtain ⟨p,hp,e⟩:=List.any_eq_true.mp q
 exact List.mem_map.mpr ⟨p,hp,of_decide_eq_true e⟩
theorem nd_snoc:∀ {l:List κ}{k:κ},l.Nodup->¬ k∈l->(l ++ [k]).Nodup
 | [],k,_,_=>by simp
 | a :: r,k,h,hk=>by
  obtain ⟨h1,h2⟩:=List.nodup_cons.mp h
  show (a :: (r ++ [k])).Nodup
  refine List.nodup_cons.mpr ⟨fun m=>?_,nd_snoc h2 fun m=>hk (List.mem_cons.mpr (Or.inr m))⟩
  rcases List.mem_append.mp m with q | q
  ·exact h1 q
  ·exact hk (List.mem_cons.mpr (Or.inl (List.mem_singleton.mp q).symm))
theorem nd_putK {kvs:List (κ × V)}{k:κ} (v:V) (hn:(kvs.map (·.1)).Nodup) (h:valV kvs k = none):((putK kvs k v).map (·.1)).Nodup:=by
 rw [putK_new v h,List.map_append]
 exact nd_snoc hn (valV_not h)
theorem dropK_pos {p:κ × V}{r:List (κ × V)}{k:κ} (e:p.1 = k):dropK (p :: r) k = dropK r k:=by
 unfold dropK
 rw [List.filter_cons,if_neg (by simp [e])]
theorem dropK_neg {p:κ × V}{r:List (κ × V)}{k:κ} (e:¬ p.1 = k):dropK (p :: r) k = p :: dropK r k:=by
 unfold dropK
 rw [List.filter_cons,if_pos (by simp [e])]
theorem dropK_mem {kvs:List (κ × V)}{k:κ}{p:κ × V} (h:p∈dropK kvs k):p∈kvs:=(List.mem_filter.mp h).1
theorem nd_dropK:∀ {kvs:List (κ × V)}{k:κ},(kvs.map (·.1)).Nodup->((dropK kvs k).map (·.1)).Nodup
 | [],_,_=>List.nodup_nil
 | p :: r,k,h=>by
  have h:(p.1 :: r.map (·.1)).Nodup:=h
  obtain ⟨h1,h2⟩:=List.nodup_cons.mp h
  by_cases e:p.1 = k
  ·rw [dropK_pos e]
   exact nd_dropK h2
  ·rw [dropK_neg e]
   show (p.1 :: (dropK r k).map (·.1)).Nodup
   refine List.nodup_cons.mpr ⟨fun m=>h1 ?_,nd_dropK h2⟩
   obtain ⟨q,hq,eq⟩:=List.mem_map.mp m
   exact List.mem_map.mpr ⟨q,dropK_mem hq,eq⟩
end
theorem HOk.track {P:Program}{w:World}{H:Hp}{h:Heap}{a:Addr}{o:HO} (x:HOk P w H h) (hn:H a = none) (new:ObjOk P w (upd H a o) h a o):HOk P w (upd H a o) h:=fun b u e=>by
 by_cases hb:b = a
 ·subst hb; rw [upd_same] at e; cases e; exact new
 ·rw [upd_ne hb] at e
  exact (x b u e).stay (fun c v _ q=>q) (fun c q=>by rw [upd_ne (ne_of_none q hn)]; exact q) fun c xs q=>by rw [upd_ne (ne_of_none q hn)]; exact q
theorem HOk.other {P:Program}{w:World}{H:Hp}{h h':Heap}{a:Addr} (x:HOk P w H h) (hn:H a = none) (hs:Heap.SameBut a h h'):HOk P w H h':=fun b u e=>
 (x b u e).stay (fun c v hc q=>(hs.2 c (by
  rintro rfl
  rcases hc with rfl | hc
  ·rw [hn] at e; cases e
  ·rw [hn] at hc; cases hc)).trans q) (fun _ q=>q) fun _ _ q=>q
section
variable {prog:Program}{w:World}{A:Around}{R:Result->Shared->Prop}{s:Shared}
theorem comp_loop {elt target iter:Expr}{ifs:List Expr}{scope:Scope}{pos:Pos}{it acc:Value}{env:Env} (I:Nat->Shared->Prop)
  (turn:∀ n s,I n s->wpAny (model prog w) A (pyNext it) (fun r s₁=>match r with
   | none=>R (.ok .next) s₁
   | some v=>wpAny (model prog w) A (letOwnedTupleGo target it v) (fun _ s₀=>wpAny (model prog w) A (assign target env v) (fun _ s₂=>
     wpAny (model prog w) A (forIn ifs true fun c r=>if r = true then do let ok ← isTrue c env (eval c env); pure (ForInStep.yield ok) else pure (ForInStep.yield r)) (fun ok s₃=>
      if ok = true then wpAny (model prog w) A (eval elt env) (fun x s₄=>
       wpAny (model prog w) A (call (.builtin "list.append") [acc,x]) (fun _ s₅=>∃ m,m < n/\I m s₅) (notedBy (model prog w) A env fun e s'=>R (.error e) s') s₄) (notedBy (model prog w) A env fun e s'=>R (.error e) s') s₃
      else ∃ m,m < n/\I m s₃) (notedBy (model prog w) A env fun e s'=>R (.error e) s') s₂) (notedBy (model prog w) A env fun e s'=>R (.error e) s') s₀) (notedBy (model prog w) A env fun e s'=>R (.error e) s') s₁) (notedBy (model prog w) A env fun e s'=>R (.error e) s') s)
  (n:Nat) (h:I n s):codeAny (model prog w) A (.compLoop (.ListComp elt [⟨target,iter,ifs,0⟩] scope pos) 0 it acc env) R s:=by
 refine codeAny_loop rfl I (fun n s hI=>?_) n h
 show wpAny _ A ((compTurn (.ListComp elt [⟨target,iter,ifs,0⟩] scope pos) 0 it acc env).onRaise (fun x=>do noteFrame x env; theTreesLotGoes x)) _ _ s
 refine wpAny_noted ?_
 rw [compTurn_list]
 refine wpAny_bind (wpAny_standAt (wpAny_bind (wpAny_mono (turn n s hI) (fun r s₁ h₁=>?_) fun _ _ h'=>h')))
 cases r with
 | none=>exact wpAny_pure h₁
 | some v=>
  refine wpAny_bind (wpAny_mono h₁ (fun _ s₀ h₀=>?_) fun _ _ h'=>h')
  refine wpAny_bind (wpAny_mono h₀ (fun _ s₂ h₂=>wpAny_bind (wpAny_mono h₂ (fun ok s₃ h₃=>?_) fun _ _ h'=>h')) fun _ _ h'=>h')
  cases ok with
  | false=>exact wpAny_pure ⟨rfl,h₃⟩
  | true=>
   exact wpAny_bind (wpAny_bind (wpAny_mono h₃ (fun x s₄ h₄=>wpAny_bind (wpAny_mono h₄ (fun _ s₅ h₅=>wpAny_pure (wpAny_pure ⟨rfl,h₅⟩)) fun _ _ h'=>h')) fun _ _ h'=>h'))
end
def cxComp (X:Cx) (scope:Scope) (cl:List (Str × Addr)) (NY:List Str) (C:Addr) (s:Shared) (H:Hp) (fp:List Addr):Cx where
 prog:=X.prog
 w:=X.w
 K:=X.K
 mg:=X.mg
 base:=X.base
 A:=X.A
 N:=NY
 s₀:=s
 H₀:=H
 env:=compEnvC scope cl C X.env
 outer:=X.stack
 stack:=X.stack
 ex:=fp
 fn:=fun _=>false
 calm:=true
 pn:=[]
 xe:=notedBy (model X.prog X.w) X.A (compEnvC scope cl C X.env) fun e s'=>compPost (model X.prog X.w) X.A X.xe none (fun _ _=>False) .none C (.error e) s'
def ClOk:List (Str × Addr)->List (Str × Addr)->Prop
 | [],_=>True
 | p :: r,cells=>cells.lookup p.1 = some p.2/\ClOk r cells
theorem ClOk.mem:∀ {cl cells:List (Str × Addr)},ClOk cl cells->∀ {x:Str}{c:Addr},cl.lookup x = some c->cells.lookup x = some c
 | [],_,_,_,_,e=>by simp at e
 | (y,d) :: r,cells,h,x,c,e=>by
  rw [List.lookup_cons] at e
  split at e
  ·rename_i q
   have q':x = y:=by simpa using q
   subst q'
   cases e
   exact h.1
  ·exact ClOk.mem h.2 e
def FrOk (X:Cx) (scope:Scope) (cl:List (Str × Addr)):List Nat->List Str->Prop
 | [],[]=>True
 | i :: r,y :: ys=>(X.N[i]? = some y/\scope.names.lookup y = some .free/\Vis X.env.scope y/\X.env.kindOf y≠some .local/\∃ c,cl.lookup y = some c)/\FrOk X scope cl r ys
 | _,_=>False
def PIfs (X:Cx) (ifs:List Expr) (t:TT):Prop:=
 ∀ (zp:List (Addr × Obj)) (s:Shared) (σ:St) (H:Hp) (Q:Bool->Hp->Prop),Inv X zp σ H s->t σ H Q->
  wpAny (model X.prog X.w) X.A (forIn ifs true fun c r=>if r = true then do let ok ← isTrue c X.env (eval c X.env); pure (ForInStep.yield ok) else pure (ForInStep.yield r)) (TP X zp σ Q) X.xe s
theorem pifs_nil {X:Cx}:PIfs X [] (fun _ H Q=>Q true H):=fun _ _ _ H _ I h=>wpAny_tests_nil ⟨H,I,h⟩
theorem pifs_one {X:Cx}{c:Expr}{t:TT} (h:PT X c t):PIfs X [c] t:=fun zp s σ H Q I q=>wpAny_tests_one (h zp s σ H Q I q)
def frees (fr:List Nat) (σ:St):St:=fr.map fun k=>(σ[k]?).join
def tLComp (fr:List Nat) (wi:TI) (tt:TT) (te:TE):TE:=fun σ H Q=>wi σ H fun J H1=>∃ W:Nat->Nat->List V->Hp->Prop,(∃ m,W 0 m [] H1)/\∀ i m vs H,W i m vs H->vs.length<=sizeLine /\
 ((J.stop i H/\∀ D,H D = none->Q (.ref D) (upd H D (.lst vs))) \/
  (J.go i H/\∀ v H',J.yld i H v H'->tt (some v :: frees fr σ) H' fun b H2=>if b = true then te (some v :: frees fr σ) H2 fun y H3=>∃ m',m' < m/\W (i + 1) m' (vs ++ [y]) H3 else ∃ m',m' < m/\W (i + 1) m' vs H2))
def relF (env:Env) (p:Str × NameKind):Str × NameKind:=if (p.2 == NameKind.free && env.scope.kind == .function && env.kindOf p.1 == some .cell) = true then (p.1,NameKind.cell) else (p.1,p.2)
theorem relF_fst (env:Env) (p:Str × NameKind):(relF env p).1 = p.1:=by unfold relF; split <;> rfl
theorem lookup_relF {env:Env}:∀ {names:List (Str × NameKind)}{x:Str},(names.map (relF env)).lookup x = (names.lookup x).map fun k=>(relF env (x,k)).2
 | [],_=>rfl
 | (n,k) :: r,x=>by
  have ih:=@lookup_relF env r x
  rw [List.map_cons]
  have e:relF env (n,k) = (n,(relF env (n,k)).2):=Prod.ext (relF_fst env (n,k)) rfl
  rw [e]
  cases hx:x == n with
  | true=>
   have q':x = n:=by simpa using hx
   subst q'
   simp only [List.lookup_cons,hx,Option.map_some]
  | false=>simp only [List.lookup_cons,hx]; exact ih
theorem lookup_relabel_free {env:Env}{names:List (Str × NameKind)}{x:Str} (h:names.lookup x = some .free):
  (names.map (relF env)).lookup x = some .cell\/(names.map (relF env)).lookup x = some .free:=by
 rw [lookup_relF,h,Option.map_some]
 unfold relF
 split
 ·exact .inl rfl
 ·exact .inr rfl
theorem lookup_relabel_inv {env:Env}{names:List (Str × NameKind)}{x:Str} (hn:∀ y∈names,y.2≠.cell) (h:(names.map (relF env)).lookup x = some .cell\/(names.map (relF env)).lookup x = some .free):(x,NameKind.free)∈names:=by
 rw [lookup_relF] at h
 cases q:names.lookup x with
 | none=>rw [q] at h; simp at h
 | some k=>
  rw [q] at h
  have hm:=PySem.mem_of_lookup q
  have hk:k = .free:=by
   unfold relF at h
   simp only [Option.map_some,Option.some.injEq] at h
   split at h
   ·rename_i c
    simp only [Bool.and_eq_true] at c
    simpa using c.1.1
   ·rcases h with h | h
    ·exact absurd h (hn _ hm)
    ·exact h
  rw [← hk]
  exact hm
theorem frees_get {X:Cx}{scope:Scope}{cl:List (Str × Addr)}{σ:St}:∀ {fr:List Nat}{ys:List Str},FrOk X scope cl fr ys->∀ (j:Nat) (y:Str) (v:V),ys[j]? = some y->(frees fr σ)[j]? = some (some v)->
  ∃ i:Nat,X.N[i]? = some y/\σ[i]? = some (some v)/\scope.names.lookup y = some .free/\Vis X.env.scope y/\X.env.kindOf y≠some .local/\∃ c,cl.lookup y = some c
 | [],[],_,j,y,v,e,_=>by simp at e
 | [],_ :: _,h,_,_,_,_,_=>h.elim
 | _ :: _,[],h,_,_,_,_,_=>h.elim
 | i :: r,z :: ys,h,0,y,v,e1,e2=>by
  have e1':z = y:=by simpa using e1
  subst e1'
  have e2':(σ[i]?).join = some v:=by simpa [frees] using e2
  have:σ[i]? = some (some v):=by
   cases q:σ[i]? with
   | none=>rw [q] at e2'; cases e2'
   | some o=>rw [q] at e2'; cases o with
    | none=>cases e2'
    | some u=>cases e2'; rfl
  exact ⟨i,h.1.1,this,h.1.2.1,h.1.2.2.1,h.1.2.2.2.1,h.1.2.2.2.2⟩
 | i :: r,z :: ys,h,j + 1,y,v,e1,e2=>frees_get (fr:=r) (ys:=ys) h.2 j y v (by simpa using e1) (by simpa [frees] using e2)
theorem frees_len {X:Cx}{scope:Scope}{cl:List (Str × Addr)}{σ:St}:∀ {fr:List Nat}{ys:List Str},FrOk X scope cl fr ys->(frees fr σ).length = ys.length
 | [],[],_=>rfl
 | [],_ :: _,h=>h.elim
 | _ :: _,[],h=>h.elim
 | i :: r,z :: ys,h=>by
  have:=frees_len (σ:=σ) (fr:=r) (ys:=ys) h.2
  simp only [frees,List.map_cons,List.length_cons,List.length_map] at *
  omega
theorem pe_lcomp {X:Cx}{elt iter:Expr}{x:Str}{px pos:Pos}{ifs:List Expr}{scope:Scope}{cl:List (Str × Addr)} (fr:List Nat) (ys:List Str) {wi:TI}{tt:TT}{te:TE}
  (hc:X.calm = true) (hclos:closureFor scope X.env = pure cl) (hcell:∀ y∈scope.names,y.2≠.cell) (hkind:scope.kind = .function) (hnames:∀ y∈scope.names,y.2 = .local->scope.names.lookup y.1 = some .local)
  (hx:scope.names.lookup x = some .local) (hnd:(x :: ys).Nodup) (hcl:ClOk cl X.env.cells) (hall:(scope.names.all fun y=>y.2 != .free || (cl.lookup y.1).isSome) = true) (hfr:FrOk X scope cl fr ys)
  (hi:PI X (.Name x px) iter wi)
  (hY:∀ C s H fp,PIfs (cxComp X scope cl (x :: ys) C s H fp) ifs tt/\PE (cxComp X scope cl (x :: ys) C s H fp) elt te)
  (hs:∀ v,foldedSetIterable iter X.env v = pure v:=by intro _; rfl):
  PE X (.ListComp elt [⟨.Name x px,iter,ifs,0⟩] scope pos) (tLComp fr wi tt te):=by
 intro zp s σ H Q I h
 rw [eval_ListComp]
 refine wpAny_comprehension_free (use:=none) rfl hs hclos hkind hnames (wpAny_mono (hi zp s σ H _ I h) (fun v s1 h1=>wpAny_mono h1 (fun itv s2 h2=>?_) fun _ _ e=>e) fun _ _ e=>e)
 obtain ⟨it,fp,tn,J,H2,rfl,I2,T,st2,f2,W,⟨m0,w0⟩,turn⟩:=h2
 refine wpAny_newObj_type (wpAny_newFunctionEnv hcell (by intro y hy; simp at hy) (fun h₁ hns₁ hsb₁=>?_) hkind)
 dsimp only at hns₁ hsb₁ ⊢
 generalize hP2:s2.heap.push { cls:=.type "list",dict:=none,data:=.seq ([]:List Value).toArray } = P2 at hns₁ hsb₁ ⊢
 have hC:P2.objs.size = s2.heap.objs.size + 1:=by rw [← hP2,Heap.size_push]
 have hDC:s2.heap.objs.size≠P2.objs.size:=by rw [hC]; exact Nat.ne_of_lt (Nat.lt_succ_self _)
 have hCle:s2.heap.objs.size<=P2.objs.size:=by rw [hC]; exact Nat.le_succ _
 have below:∀ b,b < s2.heap.objs.size->b≠P2.objs.size/\b≠s2.heap.objs.size:=fun b hb=>⟨by rw [hC]; exact Nat.ne_of_lt (Nat.lt_succ_of_lt hb),Nat.ne_of_lt hb⟩
 have old:∀ b o,s2.heap.get? b = some o->h₁.get? b = some o:=fun b o e=>hsb₁.extBut b o (below b (Heap.lt_size e)).1 (Heap.get?_push_of_some _ (hP2 ▸ Heap.get?_push_of_some _ e))
 have hacc:h₁.get? s2.heap.objs.size = some { cls:=.type "list",data:=.seq ([]:List Value).toArray }:=hsb₁.extBut _ _ hDC (Heap.get?_push_of_some _ (hP2 ▸ Heap.get?_push_size _ rfl))
 have fpl:∀ b∈fp,b < s2.heap.objs.size:=fun b hb=>by
  obtain ⟨o,e,_⟩:=T.obj _ _ st2 b hb
  exact Heap.lt_size e
 have tlt:∀ b o,H2 b = some o->b < s2.heap.objs.size:=fun b o e=>I2.hok.lt e
 generalize hCg:P2.objs.size = C at hns₁ hsb₁ hDC hCle below ⊢
 generalize hDg:s2.heap.objs.size = D at hDC below hacc fpl tlt ⊢
 have hDle:D<=C:=by rw [← hDg]; exact hCle
 have cls:∀ y c,cl.lookup y = some c->X.env.cells.lookup y = some c:=fun y c e=>hcl.mem e
 have clt:∀ y c,cl.lookup y = some c->c < D:=fun y c e=>by
  obtain ⟨v,q⟩:=I2.cell y c (cls y c e)
  rw [← hDg]; exact q.lt
 have sub:∀ b∈frs X.stack,b < D:=fun b hb=>by
  rcases List.mem_cons.mp (I2.stkSub b hb) with e | hb
  ·rw [e,← hDg]; exact I2.lt
  ·obtain ⟨_,o,ho,_⟩:=I2.ok.funs.mem hb
   rw [← hDg]; exact Nat.lt_of_lt_of_le (Heap.lt_size ho) I2.sz
 obtain ⟨YI,YE⟩:=hY C s2 H2 fp
 have Yok:(cxComp X scope cl (x :: ys) C s2 H2 fp).Ok:=by
  refine ⟨I2.ok.mod,hkind,I2.ok.glob,I2.ok.blt,hCle,?_,?_,?_,fun _=>I2.ok.hd hc,I2.ok.frames,.inl rfl,?_,I2.bs,Nat.le_trans I2.ok.bsz I2.sz,?_,?_,I2.stack,I2.stkFree⟩
  ·exact fun y z c e1 e2=>I2.ok.inj y z c (cls y c e1) (cls z c e2)
  ·intro y hy
   have hm:=lookup_relabel_inv (env:=X.env) (names:=scope.names) (x:=y) hcell hy
   have q:=List.all_eq_true.mp hall _ hm
   show ∃ c,cl.lookup y = some c
   exact Option.isSome_iff_exists.mp (by simpa using q)
  ·intro y c hf _
   exact absurd hf (by show ¬ false = true; decide)
  ·intro b hb
   refine ⟨(below b (fpl b hb)).1,fun y c e z=>?_⟩
   exact (f2 b hb).2.2.2.2.1 y c (cls y c e) z
  ·intro b o e hb
   have hb:b∈fp:=hb
   rcases (f2 b hb).2.2.2.1 with z | z
   ·exact I2.ok.noex b o e z
   ·exact absurd (Nat.lt_of_lt_of_le (Heap.lt_size e) (Nat.le_trans I2.ok.bsz z)) (Nat.lt_irrefl _)
  ·intro b hb hf
   have hb:b∈fp:=hb
   rcases List.mem_cons.mp (I2.stkSub b hf) with e | hf
   ·exact (f2 b hb).2.1 e
   ·exact (f2 b hb).2.2.1 hf
 have hvis:Loc (cxComp X scope cl (x :: ys) C s2 H2 fp).env.scope x:=.inl (lookup_relabel_local hx)
 have start:∀ tk,Inv (cxComp X scope cl (x :: ys) C s2 H2 fp) [] (none :: frees fr σ) H2 { s2 with heap:=h₁,toks:=tk }:=fun tk=>by
  refine ⟨Yok,rfl,I2.bare,Un.kept old,⟨_,hns₁,fun i y v e1 e2 e3=>?_⟩,fun y c e=>?_,?_,fun y c e=>?_,fun p hp=>absurd (show p∈([]:List (Addr × Obj)) from hp) (by simp),I2.hok.kept old,?_⟩
  ·cases i with
   | zero=>simp at e2
   | succ j=>
    obtain ⟨i',n1,n2,n3,n4,n5,c,n6⟩:=frees_get hfr j y v (by simpa [cxComp] using e1) (by simpa using e2)
    obtain ⟨m,hn,hl⟩:=I2.loc
    obtain ⟨u,r,l⟩:=hl i' y v n1 n2 n4
    refine ⟨u,r,.inr ⟨lookup_relabel_free n3,c,n6,?_⟩⟩
    rcases l with ⟨k,_⟩ | ⟨k,c',e,z⟩
    ·exact absurd k n5
    ·rw [cls y c n6] at e
     cases e
     obtain ⟨o,ho,hd⟩:=z
     exact ⟨o,old _ _ ho,hd⟩
  ·obtain ⟨v,o,ho,hd⟩:=I2.cell y c (cls y c e)
   exact ⟨v,o,old _ _ ho,hd⟩
  ·show H2 C = none
   cases q:H2 C with
   | none=>rfl
   | some o=>exact absurd (tlt C o q) (Nat.not_lt.mpr hDle)
  ·exact I2.freeC y c (cls y c e)
  ·show (none :: frees fr σ).length = (x :: ys).length
   rw [List.length_cons,List.length_cons,frees_len hfr]
 have fpY:∀ {pl:List (Addr × Obj)}{H':Hp},(∀ b∈fp,H' b = none)->(∀ p∈pl,p.1 = D)->∀ b∈fp,FpOk (cxComp X scope cl (x :: ys) C s2 H2 fp) pl H' b:=fun {pl H'} hn hpl b hb=>by
  refine ⟨hn b hb,(below b (fpl b hb)).1,Yok.exfs b hb,.inl hb,fun y c e z=>(f2 b hb).2.2.2.2.1 y c (cls y c e) z,fun p hp=>?_⟩
  have hp:p∈[] ++ pl:=hp
  rw [List.nil_append] at hp
  rw [hpl p hp]
  exact (below b (fpl b hb)).2.symm
 have loop:∀ s₃:Shared,(∃ tk,s₃ = { s2 with heap:=h₁,toks:=tk })->
   codeAny (model X.prog X.w) X.A (.compLoop (.ListComp elt [⟨.Name x px,iter,ifs,0⟩] scope pos) 0 (.ref it) (.ref D) (compEnvC scope cl C X.env))
    (compPost (model X.prog X.w) X.A X.xe none (EP X zp σ Q) (.ref D) C) s₃:=by
  rintro s₃ ⟨tk,rfl⟩
  refine comp_loop
   (fun k s'=>∃ i vs ws nn H',Inv (cxComp X scope cl (x :: ys) C s2 H2 fp) [] (none :: frees fr σ) H' s'/\tn i s'.heap/\(∀ b∈fp,H' b = none)/\H' D = none /\
    s'.heap.get? D = some { cls:=.type "list",data:=.seq (ws:List Value).toArray nn }/\Vals vs ws/\W i k vs H') ?_ m0
   ⟨0,[],[],0,H2,start tk,T.keep _ _ _ st2 fun b _ o e=>old b o e,fun b hb=>(f2 b hb).1,?_,hacc,.nil,w0⟩
  ·rintro n s3 ⟨i,vs,ws,nn,H3,I3,st3,fr3,hD3,ho3,rv3,w3⟩
   have I3':Inv (cxComp X scope cl (x :: ys) C s2 H2 fp) [(D,{ cls:=.type "list",data:=.seq ws.toArray nn })] (none :: frees fr σ) H3 s3:=I3.pins_of fun p hp=>by
    have e:p = (D,{ cls:=.type "list",data:=.seq ws.toArray nn }):=by simpa using hp
    subst e
    refine ⟨ho3,hD3,hDC,fun z=>absurd (sub D z) (Nat.lt_irrefl _),fun v z=>?_⟩
    have z':Data.seq ws.toArray nn = Data.cell v:=z
    cases z'
   have fp3:=fpY (pl:=[(D,{ cls:=.type "list",data:=.seq ws.toArray nn })]) fr3 (fun p hp=>by rw [List.mem_singleton.mp hp])
   obtain ⟨hsz,alt⟩:=turn i n vs H3 w3
   rcases alt with ⟨stop,fin⟩ | ⟨go,step⟩
   ·refine thn (T.done (cxComp X scope cl (x :: ys) C s2 H2 fp) rfl rfl rfl rfl i _ s3 _ H3 _ I3' fp3 st3 stop) fun r s4 ⟨hr,I4⟩=>?_
    subst hr
    have pD:=I4.pin (D,{ cls:=.type "list",data:=.seq ws.toArray nn }) (by show _∈[] ++ _; simp)
    obtain ⟨m4,hn4,_⟩:=I4.loc
    refine ⟨m4,hn4,fun h' hs'=>?_⟩
    have hC4:H3 C = none:=I4.free
    have hok':HOk X.prog X.w (upd H3 D (.lst vs)) h':=by
     refine HOk.track (I4.hok.other hC4 hs') hD3 ⟨hsz,ws,nn,rv3,(hs'.2 D hDC).trans pD.1⟩
    have b4:=I4.base
    have un:Un (frs X.stack) fp H2 (upd H3 D (.lst vs)) s2.heap h':=by
     have lt:∀ b o,s2.heap.get? b = some o->b < D:=fun b o e=>by rw [← hDg]; exact Heap.lt_size e
     refine ⟨fun b o e n hb hx=>(hs'.2 b (below b (lt b o e)).1).trans (b4.keep b o e n hb hx),fun b o e n hb hx=>?_,fun b o e n hx=>?_,fun b o e hx=>?_,fun b zs e=>?_,fun b o u e=>?_,fun b ps e=>?_⟩
     ·obtain ⟨sl,q⟩:=b4.slot b o e n hb hx
      exact ⟨sl,(hs'.2 b (below b (lt b o e)).1).trans q⟩
     ·rw [upd_ne (below b (lt b o e)).2]; exact b4.free b o e n hx
     ·obtain ⟨o',q⟩:=b4.there b o e hx
      exact ⟨o',(hs'.2 b (below b (lt b o e)).1).trans q⟩
     ·rw [upd_ne (below b (tlt b _ e)).2]; exact b4.tups b zs e
     ·rw [upd_ne (below b (tlt b _ e)).2]; exact b4.frzs b o u e
     ·rw [upd_ne (below b (tlt b _ e)).2]; exact b4.tbls b ps e
    refine ⟨.ref D,upd H3 D (.lst vs),?_,rfl,fin D hD3⟩
    exact I2.call' (s':={ s4 with heap:=h' }) (ch:=fp) I4.os un hok' I4.bare fun b hb=>⟨(f2 b hb).2.2.2.1,(f2 b hb).2.1,(f2 b hb).2.2.2.2.1,(f2 b hb).2.2.2.2.2⟩
   ·refine thn (T.item (cxComp X scope cl (x :: ys) C s2 H2 fp) rfl rfl rfl rfl i _ s3 _ H3 _ I3' fp3 st3 go) fun r s4 ⟨u,hr,h4⟩=>?_
    subst hr
    refine thn h4 fun _ s5 ⟨v,H5,I5,r5,y5,st5,fr5⟩=>?_
    have fp5:=fpY (pl:=[(D,{ cls:=.type "list",data:=.seq ws.toArray nn })]) fr5 (fun p hp=>by rw [List.mem_singleton.mp hp])
    have I5':=I5.pinned fp5 (T.obj _ _ st5)
    refine thn (pg_name (X:=cxComp X scope cl (x :: ys) C s2 H2 fp) (i:=0) (pos:=px) hnd rfl hvis (.inr (lookup_relabel_local hx)) _ s5 _ H5 v u (fun σ' H'=>σ' = some v :: frees fr σ/\H' = H5) I5' r5 ⟨rfl,rfl⟩) fun _ s6 ⟨σ6,H6,I6,e6,e6'⟩=>?_
    subst e6 e6'
    refine thn (YI _ s6 _ _ _ I6 (step v H6 y5)) fun b s7 ⟨H7,I7,q7⟩=>?_
    have back:∀ {H8:Hp}{s8:Shared},Inv (cxComp X scope cl (x :: ys) C s2 H2 fp) ([(D,{ cls:=.type "list",data:=.seq ws.toArray nn })] ++ pinsAt fp s5.heap) (some v :: frees fr σ) H8 s8->
      s8.heap.get? D = some { cls:=.type "list",data:=.seq ws.toArray nn }/\H8 D = none/\(∀ b∈fp,H8 b = none)/\(∀ b∈fp,∀ o,s5.heap.get? b = some o->s8.heap.get? b = some o):=fun {H8 s8} I8=>by
     have pD:=I8.pin (D,{ cls:=.type "list",data:=.seq ws.toArray nn }) (by show _∈[] ++ _; simp)
     refine ⟨pD.1,pD.2.1,fun b hb=>?_,fun b hb o e=>?_⟩
     ·obtain ⟨o,e,d⟩:=T.obj _ _ st5 b hb
      exact (I8.pin (b,o) (List.mem_append_right _ (List.mem_append_right _ (mem_pinsAt hb e)))).2.1
     ·exact (I8.pin (b,o) (List.mem_append_right _ (List.mem_append_right _ (mem_pinsAt hb e)))).1
    have weak:∀ {H8:Hp}{s8:Shared},Inv (cxComp X scope cl (x :: ys) C s2 H2 fp) [] (some v :: frees fr σ) H8 s8->Inv (cxComp X scope cl (x :: ys) C s2 H2 fp) [] (none :: frees fr σ) H8 s8:=fun {H8 s8} I8=>
     I8.weak rfl fun i v' e=>by
      cases i with
      | zero=>simp at e
      | succ j=>simpa using e
    have nopin:∀ {H8:Hp}{s8:Shared}{pl:List (Addr × Obj)},Inv (cxComp X scope cl (x :: ys) C s2 H2 fp) pl (some v :: frees fr σ) H8 s8->Inv (cxComp X scope cl (x :: ys) C s2 H2 fp) [] (some v :: frees fr σ) H8 s8:=fun {H8 s8 pl} I8=>
     I8.pins_of fun p hp=>absurd hp (by simp)
    cases b with
    | false=>
     rw [if_neg Bool.false_ne_true] at q7 ⊢
     obtain ⟨m',hm,w7⟩:=q7
     obtain ⟨k1,k2,k3,k4⟩:=back I7
     exact ⟨m',hm,i + 1,vs,ws,nn,H7,weak (nopin I7),T.keep _ _ _ st5 k4,k3,k2,k1,rv3,w7⟩
    | true=>
     rw [if_pos rfl] at q7 ⊢
     refine thn (YE _ s7 _ _ _ I7 q7) fun u8 s8 ⟨y8,H8,I8,r8,m',hm,w8⟩=>?_
     obtain ⟨k1,k2,k3,k4⟩:=back I8
     refine append_at (hsz:=by rw [List.size_toArray,← rv3.length]; exact hsz) k1 fun h9 hs9 ho9=>?_
     have I9:Inv (cxComp X scope cl (x :: ys) C s2 H2 fp) [] (some v :: frees fr σ) H8 { s8 with heap:=h9 }:=
      (nopin I8).turned (t':=s8.toks) (it:=D) (fun b o hb e=>(hs9.2 b hb).trans e) k2 hDC (.inr (by rw [← hDg]; exact Nat.le_refl _)) (fun y c e=>Nat.ne_of_lt (clt y c e)) fun p hp=>absurd (show p∈([]:List (Addr × Obj)) from hp) (by simp)
     refine ⟨m',hm,i + 1,vs ++ [y8],ws ++ [u8],nn + 1,H8,weak I9,?_,k3,k2,?_,rv3.append (.cons r8 .nil),w8⟩
     ·refine T.keep _ _ _ st5 fun b hb o e=>?_
      exact (hs9.2 b (below b (fpl b hb)).2).trans (k4 b hb o e)
     ·rw [ho9,List.push_toArray]
  ·cases q:H2 D with
   | none=>rfl
   | some o=>exact absurd (tlt D o q) (Nat.lt_irrefl _)
 exact codeAny_compStart_list (loop _ ⟨_,rfl⟩) (T.self _ 0 _ _ _ (T.keep _ _ _ st2 fun b _ o e=>old b o e) (loop _ ⟨_,rfl⟩))
def Have (P:Program) (w:World) (K:PySem.W.Frag) (mg:Str->Option Value) (base:Heap) (x:Str) (k:Nat) (ps:List Str) (sp:Sp):Prop:=
 ∃ (f:Addr) (fd:FuncData),FnOk P w K mg base CX0 k f fd ps sp/\Binds K fd ps []/\keepIn K (.ref f) = true/\mg x = some (.ref f)
theorem Have.mono {P:Program}{w:World}{K:PySem.W.Frag}{mg:Str->Option Value}{base:Heap}{x:Str}{j k:Nat}{ps:List Str}{sp:Sp} (h:Have P w K mg base x j ps sp) (e:j<=k):Have P w K mg base x k ps sp:=
 let ⟨f,fd,F,r⟩:=h; ⟨f,fd,F.mono e,r⟩
section
variable {X:Cx}{x:Str}{k:Nat}{ps:List Str}{sp:Sp}{e:Expr}{es:List Expr}{t:TA}{p pos:Pos}
theorem pe_fn (G:Have X.prog X.w X.K X.mg X.base x k ps sp) (hr:Room k X.A) (hg:Gl X x) (ha:PA X (e :: es) t) (hdb:(x == ("__debug__":Str)) = false:=by decide)
  (he:starEach (e :: es) X.env = (false,eval e X.env) :: starEach es X.env:=by rfl) (hpl:(backTo pos (starEach es X.env)).any (·.1) = false:=by rfl):
  PE X (.Call (.Name x p) (e :: es) [] pos) (tCall sp [] E0 t):=by
 obtain ⟨f,fd,F,b,kp,m⟩:=G
 exact pe_call F hr hg m kp b .nil pass0 ha hdb he hpl
end
section
variable {X:Cx}
def CDivB (i j:Int):Prop:=0 < j/\j.natAbs.log2 < 9000
theorem op_fdivB:OpR X (binaryOp .FloorDiv) (rI CDivB fun i j=>.int (i / j)):=opI fun i j _ _ _ _ _ hc q=>by
 have h1:(0:Int) < j:=hc.1
 exact floordiv_int (by omega) (by rw [Int.fdiv_eq_ediv_of_nonneg i (by omega)]; exact q) (.inl (PyProof.noPylong_of_log2 hc.2))
def isiNames:List String:=["NoneType","bool","int","str","list","tuple","dict"]
def isi (A T:String):Option Bool:=if isiNames.contains A && isiNames.contains T then some (A == T || (A == "bool" && T == "int")) else none
theorem isi_mem {A:String} (h:isiNames.contains A = true):A = "NoneType"\/A = "bool"\/A = "int"\/A = "str"\/A = "list"\/A = "tuple"\/A = "dict":=by
 have:A∈isiNames:=by simpa using h
 simpa [isiNames] using this
theorem isi_ok {K:PySem.W.Frag}{A T:String}{b:Bool} (h:isi A T = some b):PySem.W.kitOne K (.type A) (.type T) = some b:=by
 unfold isi at h
 split at h
 ·rename_i c
  rw [Bool.and_eq_true] at c
  cases h
  rcases isi_mem c.1 with rfl | rfl | rfl | rfl | rfl | rfl | rfl <;> rcases isi_mem c.2 with rfl | rfl | rfl | rfl | rfl | rfl | rfl <;> kernel_rfl
 ·cases h
theorem call_isi:CallR X (.builtin "isinstance") (fun xs H Q=>∃ v T A b,xs = [v,.ty T]/\TyOf X.K H v (.type A)/\isi A T = some b/\Q (.bl b) H):=by
 intro zp s σ H xs us Q I r h
 obtain ⟨v,T,A,b,rfl,ty,e,q⟩:=h
 obtain ⟨u,c,rfl,ru,rc⟩:=vals2 r
 cases (show c = Value.type T from rc)
 exact isinst_ok I ru ty (isi_ok e) fun tk=>⟨.bl b,H,I.tok tk,rfl,q⟩
theorem truth_bools {A:Around}{P:Program}{w:World}{xs:List Bool}{its:List Value} (r:Vals (xs.map V.bl) its):TruthOf P w A (fun i v=>its.toArray[i]? = some v) (fun i=>xs.getD i true):=by
 intro i v s Q E hv h
 have hv':its[i]? = some v:=by simpa using hv
 have hl:=r.length
 rw [List.length_map] at hl
 have hi:i < xs.length:=by rw [hl]; exact (List.getElem?_eq_some_iff.mp hv').1
 obtain ⟨u,hu,ru⟩:=r.get (i:=i) (x:=V.bl xs[i]) (by rw [List.getElem?_map,List.getElem?_eq_getElem hi]; rfl)
 rw [hv'] at hu
 cases hu
 cases ru
 refine wpAny_truthy_bool ?_
 have e:xs.getD i true = xs[i]:=by rw [List.getD_eq_getElem?_getD,List.getElem?_eq_getElem hi]; rfl
 have h:Q (xs.getD i true) s:=h
 rw [e] at h
 exact h
theorem all_range (xs:List Bool):(List.range xs.length).all (fun i=>xs.getD i true) = xs.all id:=by
 rw [Bool.eq_iff_iff,List.all_eq_true,List.all_eq_true]
 constructor
 ·intro h x hx
  obtain ⟨i,hi,rfl⟩:=List.mem_iff_getElem.mp hx
  have:=h i (List.mem_range.mpr hi)
  rw [List.getD_eq_getElem?_getD,List.getElem?_eq_getElem hi] at this
  exact this
 ·intro h i hi
  have hi:=List.mem_range.mp hi
  rw [List.getD_eq_getElem?_getD,List.getElem?_eq_getElem hi]
  exact h _ (List.getElem_mem hi)
theorem call_all_bools (hc:X.calm = true):CallR X (.builtin "all") (fun xs H Q=>∃ (p:Addr) (bs:List Bool),xs = [.ref p]/\SqL X.K H p (bs.map V.bl)/\Q (.bl (bs.all id)) H):=by
 intro zp s σ H xs us Q I r h
 obtain ⟨p,bs,rfl,hq,q⟩:=h
 obtain ⟨u,rfl,rx⟩:=vals1 r
 cases rx
 obtain ⟨its,r',pl,hz⟩:=I.list hq
 have hl:=pl.isList
 obtain ⟨o,ho,_⟩:=id hl
 have hlt:=Heap.lt_size ho
 refine call_all_walk (wpAny_pyIter_list hl ?_)
 refine ⟨_,_,_,_,_,_,fun i=>bs.getD i true,rfl,Walks.list (A:=X.A.in1) (I.ok.hd hc) s.heap.objs.size p (Nat.ne_of_lt hlt) its.toArray,⟨⟨_,Heap.get?_push_size _ rfl,rfl,rfl⟩,hl.push _⟩,truth_bools r',fun h' tk hk=>?_⟩
 have e:(List.range its.toArray.size).all (fun i=>bs.getD i true) = bs.all id:=by
  have hl2:=r'.length
  rw [List.length_map] at hl2
  rw [List.size_toArray,← hl2]
  exact all_range bs
 rw [e]
 refine ⟨.bl (bs.all id),H,I.kept (h':=h') (t':=tk) fun b o e=>?_,rfl,q⟩
 exact hk b o (fun hm=>absurd (Heap.lt_size e) (by rw [List.mem_singleton.mp hm]; exact Nat.lt_irrefl _)) (Heap.get?_push_of_some _ e)
end
section
variable {prog:Program}{w:World}{A:Around}{R:Result->Shared->Prop}{I l:Addr}{vs:List Value}{ns:List Int}{d:Value}
end
def Its (z:Str):It:=⟨fun i _=>i < z.cps.size,fun i H x H'=>H' = H/\∃ c,z.cps[i]? = some c/\x = .str ⟨#[c]⟩,fun i _=>i = z.cps.size⟩
theorem turn_str {P:Program}{w:World}{K:PySem.W.Frag}{tg:Expr}{it:Addr}{T:String}{z:Str}{t:Tok}
  (W:∀ A:Around,A.handled = none->Walks P w A it [it] [it] z.cps.size (SignAt z) (fun i h=>h.IsStrIter it T z t i))
  (hT:["enumerate","zip","dict_itemiterator","dict_reverseitemiterator","odict_iterator","itertools.zip_longest","itertools.pairwise"].contains T = false)
  (self:∀ (A:Around) (i:Nat) (s:Shared) (Q:Value->Shared->Prop) (E:Value->Shared->Prop),s.heap.IsStrIter it T z t i->Q (.ref it) s->wpAny (model P w) A (pyIter (.ref it)) Q E s):
  Turn P w K tg (Its z) [it] it (fun i h=>h.IsStrIter it T z t i) where
 mem:=by simp
 obj:=fun i h st b hb=>by
  have e:b = it:=by simpa using hb
  subst e
  obtain ⟨o,e,c,d⟩:=st
  exact ⟨o,e,fun v z=>by rw [d] at z; cases z⟩
 keep:=fun i h h' st k=>by
  obtain ⟨o,e,c⟩:=st
  exact ⟨o,k it (by simp) o e,c⟩
 item:=by
  intro X hP hw hK hc i zp s σ H E I hf st hg
  subst hP hw hK
  obtain ⟨f0,f1,f2,f3,f4,f5⟩:=hf it (by simp)
  refine (W X.A (I.ok.hd hc)).item i s _ _ hg st fun v h' tk hP st' kk=>?_
  obtain ⟨c,u,hcu,rfl⟩:=hP
  have I1:Inv X zp σ H { s with heap:=h',toks:=tk }:=I.turned (fun b o hb e=>kk b o (by simpa using hb) e) f0 f1 f3 f4 f5
  obtain ⟨o,e,cc,d⟩:=id st'
  exact ⟨_,rfl,go_of (s:={ s with heap:=h',toks:=tk }) e cc d hT ⟨.str ⟨#[c]⟩,H,I1,⟨u,rfl⟩,⟨rfl,c,hcu,rfl⟩,st',fun b hb=>(hf b hb).1⟩⟩
 done:=by
  intro X hP hw hK hc i zp s σ H E I hf st hg
  subst hP hw hK
  obtain ⟨f0,f1,f2,f3,f4,f5⟩:=hf it (by simp)
  have hg:i = z.cps.size:=hg
  subst hg
  exact (W X.A (I.ok.hd hc)).done s _ _ st fun h' tk kk=>⟨rfl,I.turned (fun b o hb e=>kk b o (by simpa using hb) e) f0 f1 f3 f4 f5⟩
 self:=fun A i s Q E st h=>self A i s Q E st h
def iStr (te:TE):TI:=fun σ H R=>te σ H fun x H1=>∃ z,x = .str z/\R (Its z) H1
theorem pi_str {X:Cx}{tg e:Expr}{te:TE} (he:PE X e te):PI X tg e (iStr te):=by
 intro zp s σ H R I h
 refine thn (he zp s σ H _ I h) fun v s1 ⟨x,H1,I1,r1,q1⟩=>?_
 obtain ⟨z,rfl,q⟩:=q1
 obtain ⟨t,rfl⟩:=r1
 have fin:∀ (T:String),(∀ A:Around,A.handled = none->Walks X.prog X.w A s1.heap.objs.size [s1.heap.objs.size] [s1.heap.objs.size] z.cps.size (SignAt z) (fun i h=>h.IsStrIter s1.heap.objs.size T z t i))->
   ["enumerate","zip","dict_itemiterator","dict_reverseitemiterator","odict_iterator","itertools.zip_longest","itertools.pairwise"].contains T = false->
   (∀ (A:Around) (i:Nat) (s:Shared) (Q:Value->Shared->Prop) (E:Value->Shared->Prop),s.heap.IsStrIter s1.heap.objs.size T z t i->Q (.ref s1.heap.objs.size) s->wpAny (model X.prog X.w) A (pyIter (.ref s1.heap.objs.size)) Q E s)->
   PIE X zp σ tg R (.ref s1.heap.objs.size) { s1 with heap:=s1.heap.push { cls:=.type T,data:=.fields #[.str z t,.int 0 0] } }:=fun T W hT self=>by
  refine ⟨s1.heap.objs.size,[s1.heap.objs.size],_,_,H1,rfl,I1.kept (t':=s1.toks) fun b o e=>Heap.get?_push_of_some _ e,turn_str W hT self,⟨_,Heap.get?_push_size _ rfl,rfl,rfl⟩,fun b hb=>?_,q⟩
  have e:b = s1.heap.objs.size:=by simpa using hb
  subst e
  exact I1.fpOk (Nat.le_refl _) (I1.hok.fresh (Nat.le_refl _))
 cases ha:z.cps.all (· < 128)
 ·exact wpAny_pyIter_wide ha (fin "str_iterator" (fun A hA=>Walks.strWide hA _ z t) (by decide) fun A i s Q E st h=>wpAny_pyIter_striter_wide st h)
 ·exact wpAny_pyIter_ascii ha (fin "str_ascii_iterator" (fun A hA=>Walks.strAscii hA _ z t) (by decide) fun A i s Q E st h=>wpAny_pyIter_striter_ascii st h)
theorem op_le_str {X:Cx}:OpR X (compareOp .LtE) (fun x y H Q=>∃ i j:Str,x = .str i/\y = .str j/\Q (.bl (!decide (j.cps.toList < i.cps.toList))) H):=by
 intro zp s σ H x y v u Q I rx ry h
 obtain ⟨i,j,rfl,rfl,q⟩:=h
 obtain ⟨t,rfl⟩:=rx
 obtain ⟨t',rfl⟩:=ry
 exact PySem.P.le_str ⟨.bl _,H,I,rfl,q⟩
theorem pe_globI {X:Cx}{x:Str}{i:Int}{pos:Pos} (hg:Gl X x) (hm:∃ t,X.mg x = some (.int i t)) (hd:(x == ("__debug__":Str)) = false:=by decide):PE X (.Name x pos) (tC (.int i)):=by
 obtain ⟨t,hm⟩:=hm
 exact pe_glob hg hm ⟨t,rfl⟩ hd
theorem ip_of {X:Cx}{op:Operator}{r:R2} (h:OpR X (inplaceOp op) r):PIp X op r:=fun zp s σ H x y v u Q I rx ry q=>h zp s σ H x y v u Q I rx ry q
theorem pe_ty {X:Cx}{x:Str}{T:String}{pos:Pos} (hg:Gl X x) (hm:X.mg x = none) (hv:bootBuiltins x = some (.type T)) (hn:x≠"__name__":=by decide) (hd:(x == ("__debug__":Str)) = false:=by decide):PE X (.Name x pos) (tC (.ty T)):=pe_bltn hg hm hv rfl hn hd
theorem Same.new {H:Hp}{p:Addr}{o:HO} (h:H p = none):Same H (upd H p o):=fun b u q=>by rw [upd_ne (ne_of_none q h)]; exact q
theorem Same.seqT {K:PySem.W.Frag}{H H':Hp}{a:Addr}{xs:List V} (e:Same H H') (h:SqT K H a xs):SqT K H' a xs:=by
 rcases h with (h | ⟨o,h⟩) | h
 ·exact .inl (.inl (e _ _ h))
 ·exact .inl (.inr ⟨o,e _ _ h⟩)
 ·exact .inr h
theorem take_snoc {α:Type}{xs:List α}{i:Nat}{x:α} (h:xs[i]? = some x):xs.take (i + 1) = xs.take i ++ [x]:=by
 rw [List.take_add_one,h]; rfl
theorem rd_mapS {fr:List Nat}{j:Nat}{te:TE}{σ:St}{H:Hp}{Q:VK}{z:Str} (outs:List V) (hσ:σ[j]? = some (some (.str z))) (hl:outs.length = z.cps.size) (hz:z.cps.size<=sizeLine)
  (step:∀ (i c:Nat) (y:V) (H1:Hp) (R:VK),z.cps[i]? = some c->outs[i]? = some y->Same H H1->(∀ H2,Same H1 H2->R y H2)->te (some (.str ⟨#[c]⟩) :: frees fr σ) H1 R)
  (fin:∀ (H1:Hp) (D:Addr),Same H H1->H1 D = none->Q (.ref D) (upd H1 D (.lst outs))):tLComp fr (iStr (tVar j)) (fun _ H Q=>Q true H) te σ H Q:=by
 refine ⟨_,hσ,z,rfl,fun i m us H1=>i<=z.cps.size/\m = z.cps.size - i/\us = outs.take i/\Same H H1,⟨_,Nat.zero_le _,rfl,by simp,Same.refl _⟩,fun i m us H1 hW=>?_⟩
 obtain ⟨hi,hm,hu,sm⟩:=hW
 refine ⟨by rw [hu,List.length_take]; omega,?_⟩
 by_cases hlt:i < z.cps.size
 ·refine .inr ⟨hlt,fun v H' hy=>?_⟩
  obtain ⟨rfl,c,hc,rfl⟩:=hy
  have hy:outs[i]? = some outs[i]:=List.getElem?_eq_getElem (by omega)
  refine iteT ?_
  refine step i c outs[i] H' _ hc hy sm fun H2 s2=>⟨z.cps.size - (i + 1),by omega,by omega,rfl,?_,sm.trans s2⟩
  rw [hu,take_snoc hy]
 ·have e:i = z.cps.size:=by omega
  refine .inl ⟨e,fun D hD=>?_⟩
  have e2:us = outs:=by rw [hu,List.take_of_length_le (by omega)]
  rw [e2]
  exact fin H1 D sm hD
theorem rd_mapT {K:PySem.W.Frag}{fr:List Nat}{j:Nat}{te:TE}{σ:St}{H:Hp}{Q:VK}{a:Addr}{vs:List V} (outs:List V) (hσ:σ[j]? = some (some (.ref a))) (hS:SqT K H a vs) (hl:outs.length = vs.length) (hz:vs.length<=sizeLine)
  (step:∀ (i:Nat) (v y:V) (H1:Hp) (R:VK),vs[i]? = some v->outs[i]? = some y->Same H H1->(∀ H2,Same H1 H2->R y H2)->te (some v :: frees fr σ) H1 R)
  (fin:∀ (H1:Hp) (D:Addr),Same H H1->H1 D = none->Q (.ref D) (upd H1 D (.lst outs))):tLComp fr (iTup K (tVar j)) (fun _ H Q=>Q true H) te σ H Q:=by
 refine ⟨_,hσ,a,rfl,⟨vs,hS⟩,fun i m us H1=>i<=vs.length/\m = vs.length - i/\us = outs.take i/\Same H H1,⟨_,Nat.zero_le _,rfl,by simp,Same.refl _⟩,fun i m us H1 hW=>?_⟩
 obtain ⟨hi,hm,hu,sm⟩:=hW
 refine ⟨by rw [hu,List.length_take]; omega,?_⟩
 by_cases hlt:i < vs.length
 ·refine .inr ⟨⟨vs,vs[i],sm.seqT hS,List.getElem?_eq_getElem hlt⟩,fun v H' hy=>?_⟩
  obtain ⟨rfl,hv⟩:=hy
  have hv:=hv vs (sm.seqT hS)
  have hy:outs[i]? = some outs[i]:=List.getElem?_eq_getElem (by omega)
  refine iteT ?_
  refine step i v outs[i] H' _ hv hy sm fun H2 s2=>⟨vs.length - (i + 1),by omega,by omega,rfl,?_,sm.trans s2⟩
  rw [hu,take_snoc hy]
 ·have e:i = vs.length:=by omega
  refine .inl ⟨⟨vs,sm.seqT hS,by omega⟩,fun D hD=>?_⟩
  have e2:us = outs:=by rw [hu,List.take_of_length_le (by omega)]
  rw [e2]
  exact fin H1 D sm hD
theorem isi_tt:isi "tuple" "tuple" = some true:=by decide +kernel
theorem isi_it:isi "int" "tuple" = some false:=by decide +kernel
theorem isi_st:isi "str" "tuple" = some false:=by decide +kernel
theorem isi_bt:isi "bool" "tuple" = some false:=by decide +kernel
theorem isi_nt:isi "NoneType" "tuple" = some false:=by decide +kernel
theorem isi_lt:isi "list" "tuple" = some false:=by decide +kernel
theorem isi_dt:isi "dict" "tuple" = some false:=by decide +kernel
theorem isi_ts:isi "tuple" "str" = some false:=by decide +kernel
theorem isi_is:isi "int" "str" = some false:=by decide +kernel
theorem isi_ss:isi "str" "str" = some true:=by decide +kernel
theorem isi_bs:isi "bool" "str" = some false:=by decide +kernel
theorem isi_ns:isi "NoneType" "str" = some false:=by decide +kernel
theorem isi_ls:isi "list" "str" = some false:=by decide +kernel
theorem isi_ds:isi "dict" "str" = some false:=by decide +kernel
theorem isi_ti:isi "tuple" "int" = some false:=by decide +kernel
theorem isi_ii:isi "int" "int" = some true:=by decide +kernel
theorem isi_si:isi "str" "int" = some false:=by decide +kernel
theorem isi_bi:isi "bool" "int" = some true:=by decide +kernel
theorem isi_ni:isi "NoneType" "int" = some false:=by decide +kernel
theorem isi_li:isi "list" "int" = some false:=by decide +kernel
theorem isi_di:isi "dict" "int" = some false:=by decide +kernel
theorem isi_ib:isi "int" "bool" = some false:=by decide +kernel
theorem isi_bb:isi "bool" "bool" = some true:=by decide +kernel
theorem boot_tupleT:bootBuiltins (Str.ofString "tuple") = some (.type "tuple"):=by kernel_rfl
theorem boot_strT:bootBuiltins (Str.ofString "str") = some (.type "str"):=by kernel_rfl
theorem boot_intT:bootBuiltins (Str.ofString "int") = some (.type "int"):=by kernel_rfl
theorem boot_boolT:bootBuiltins (Str.ofString "bool") = some (.type "bool"):=by kernel_rfl
theorem boot_isi:bootBuiltins (Str.ofString "isinstance") = some (.builtin "isinstance"):=by kernel_rfl
theorem boot_ordB:bootBuiltins (Str.ofString "ord") = some (.builtin "ord"):=by kernel_rfl
theorem boot_absB:bootBuiltins (Str.ofString "abs") = some (.builtin "abs"):=by kernel_rfl
theorem boot_allB:bootBuiltins (Str.ofString "all") = some (.builtin "all"):=by kernel_rfl
end L2
namespace D
open PySem L2
def top (i:Nat):Stmt:=PySem.Challenge.pw_leastforge_k28_chains_made.main.body.getD i (.Pass ⟨0,0,0,0⟩)
abbrev s_is_number:Stmt:=top 7
abbrev s_is_sign:Stmt:=top 8
abbrev s_fits_alone:Stmt:=top 9
abbrev sSizeA:Stmt:=top 10
abbrev s_is_worth:Stmt:=top 11
abbrev s_made:Stmt:=top 18
abbrev s_summed:Stmt:=top 20
abbrev s_differing:Stmt:=top 21
abbrev s_multiplied:Stmt:=top 22
abbrev s_divided:Stmt:=top 23
abbrev s_lessened:Stmt:=top 24
abbrev s_figured:Stmt:=top 25
abbrev s_compared:Stmt:=top 26
abbrev s_joined:Stmt:=top 27
abbrev s_listed:Stmt:=top 28
abbrev s_item_at:Stmt:=top 29
abbrev s_counted:Stmt:=top 30
abbrev s_reckoned:Stmt:=top 33
abbrev s_is_variable:Stmt:=top 44
abbrev s_has_parts:Stmt:=top 45
abbrev s_binding_count:Stmt:=top 46
abbrev s_variables_of:Stmt:=top 47
abbrev s_parts_of:Stmt:=top 48
abbrev s_are_good_variables:Stmt:=top 49
abbrev s_has_form:Stmt:=top 50
abbrev s_is_formed:Stmt:=top 51
abbrev s_unbound:Stmt:=top 52
abbrev s_free_in:Stmt:=top 53
abbrev s_repeated:Stmt:=top 54
abbrev s_is_rule:Stmt:=top 55
abbrev s_is_made:Stmt:=top 58
abbrev s_worth_of:Stmt:=top 59
abbrev s_as_last:Stmt:=top 60
abbrev s_go_lit:Stmt:=top 62
abbrev s_go_var:Stmt:=top 63
abbrev s_go_let:Stmt:=top 64
abbrev s_go_if:Stmt:=top 65
abbrev s_go_each:Stmt:=top 67
abbrev s_go_over:Stmt:=top 68
abbrev s_go_look:Stmt:=top 69
abbrev s_go_else:Stmt:=top 70
abbrev s_go_cry:Stmt:=top 71
abbrev s_go_through:Stmt:=top 73
abbrev s_go_reckoned:Stmt:=top 74
abbrev s_record_of:Stmt:=top 75
abbrev s_PlainLooks___init__:Stmt:=inClass (top 77) 0
abbrev s_PlainLooks_look:Stmt:=inClass (top 77) 1
abbrev s_Maker___init__:Stmt:=inClass (top 78) 0
abbrev s_Maker_come_to:Stmt:=inClass (top 78) 1
abbrev s_Maker_able:Stmt:=inClass (top 78) 2
abbrev s_Maker_try_rule:Stmt:=inClass (top 78) 3
abbrev s_plain:Stmt:=top 79
abbrev s_is_word:Stmt:=top 88
abbrev s_is_name:Stmt:=top 89
abbrev s_room_of:Stmt:=top 90
abbrev s_ask_for_name:Stmt:=top 92
abbrev s_House___init__:Stmt:=inClass (top 93) 0
abbrev s_House_put:Stmt:=inClass (top 93) 2
abbrev s_House_put_rule:Stmt:=inClass (top 93) 3
abbrev s_House_wish:Stmt:=inClass (top 93) 7
abbrev s_House_may:Stmt:=inClass (top 93) 10
abbrev s_House_found:Stmt:=inClass (top 93) 11
abbrev sCell:Stmt:=top 95
abbrev sBox:Stmt:=top 96
abbrev sTake:Stmt:=top 97
abbrev sText:Stmt:=top 98
abbrev s_lnamed:Stmt:=top 101
abbrev s_ldue:Stmt:=top 102
abbrev sLaw:Stmt:=top 103
end D
namespace L2
open PySem PySem.Spec PyProof.Rows
theorem seqI {t u:TS}{D:Ends}{σ:St}{H:Hp} (Pv:St->Hp->Prop) (h2:∀ σ' H',Pv σ' H'->u D σ' H') (h1:(∀ σ' H',Pv σ' H'->u D σ' H')->t { D with nx:=u D } σ H):tSeq t u D σ H:=h1 h2
theorem pos (n:Nat):(0:Int) < (((n + 1:Nat):Int)):=by omega
end L2
namespace D
open PySem L2
def IsBox (H:Hp) (b:Addr):Prop:=∃ a f m:Int,H b = some (.lst [.int a,.int f,.int m])
structure Step (b:Addr) (H H':Hp):Prop where
 box:IsBox H' b
 keep:∀ c o,c≠b->H c = some o->H' c = some o
theorem Step.refl {b:Addr}{H:Hp} (h:IsBox H b):Step b H H:=⟨h,fun _ _ _ e=>e⟩
theorem Step.trans {b:Addr}{H H1 H2:Hp} (x:Step b H H1) (y:Step b H1 H2):Step b H H2:=⟨y.box,fun c o hc e=>y.keep c o hc (x.keep c o hc e)⟩
theorem Step.new {b p:Addr}{H:Hp}{o:HO} (h:IsBox H b) (hp:H p = none):Step b H (upd H p o):=by
 obtain ⟨a,f,m,e⟩:=h
 exact ⟨⟨a,f,m,by rw [upd_ne (ne_of_none e hp)]; exact e⟩,fun c u _ e=>by rw [upd_ne (ne_of_none e hp)]; exact e⟩
theorem Step.put {b:Addr}{H:Hp} (a f m:Int):Step b H (upd H b (.lst [.int a,.int f,.int m])):=⟨⟨a,f,m,upd_same⟩,fun c o hc e=>by rw [upd_ne hc]; exact e⟩
theorem Step.keepN {b:Addr}{H H':Hp} (x:Step b H H') {c:Addr}{o:HO} (hb:IsBox H b) (e:H c = some o) (ho:∀ a f m:Int,o≠.lst [.int a,.int f,.int m]):H' c = some o:=by
 obtain ⟨a,f,m,e'⟩:=hb
 exact x.keep c o (ne_of e e' (ho a f m)) e
def spCell (K:PySem.W.Frag):Sp:=fun vs H Q _=>∃ (a:Addr) (ns:List Int) (k:Int),vs = [.ref a,.int k]/\SqL K H a (ns.map V.int)/\0<=k/\∀ i:Int,Q (.int i) H
def spBox (K:PySem.W.Frag):Sp:=fun vs H Q _=>∃ (a:Addr) (ns:List Int) (k:Int),vs = [.ref a,.int k]/\SqL K H a (ns.map V.int)/\0<=k/\∀ (x f m:Int) (p:Addr),H p = none->Q (.ref p) (upd H p (.lst [.int x,.int f,.int m]))
def spTake:Sp:=fun vs H Q _=>∃ (b:Addr) (n:Int),vs = [.ref b,.int n]/\IsBox H b/\0 < n/\n < 10 ^ 61/\∀ (r:Int) (H':Hp),0<=r->r < n->Step b H H'->Q (.int r) H'
def Signs (x:Str):Prop:=∀ c∈x.cps.toList,32<=c/\c<=126/\c≠34/\c≠37
def spText:Sp:=fun vs H Q _=>∃ (b:Addr) (n:Int),vs = [.ref b,.int n]/\IsBox H b/\0<=n/\n < 10000/\∀ (x:Str) (H':Hp),(x.length:Int)<=n->Signs x->Step b H H'->Q (.str x) H'
section
variable {P:Program}{w:World}{K:PySem.W.Frag}{mg:Str->Option Value}{base:Heap}{f:Addr}{fd:FuncData}{k n:Nat}{AHouse APlainLooks AMaker:Addr}
theorem scCell:FnScope ["_law_script","_law_k"] ["_law_script","_law_k"] (defScope sCell):=⟨rfl,rfl,rfl,by decide +kernel,rfl,by decide +kernel,by decide +kernel⟩
theorem ok_cell (F:Fun K "_law_cell" "_law_cell" sCell f fd) (m_len:mg "len" = none):FnOk P w K mg base CX0 (k + 1) f fd ["_law_script","_law_k"] (spCell K):=by
 refine F.ok scCell (fun vs H Q E h=>?_) (fun cdv A outer s H vs Q E hr h=>?_)
 ·obtain ⟨a,ns,k,rfl,_⟩:=h
  rfl
 obtain ⟨a,ns,j,rfl,hS,h0,q⟩:=h
 refine ⟨_,(pss_cons (ps_if (pt_cmpR op_lt (pv 1) (pe_callB call_len rfl m_len PySem.boot_len (pa_cons (pv 0) pa_nil)) (nomark _)) (pss_one (ps_ret (pe_ix ix_list (pv 0) (pv 1) (fun _ _=>rfl)))) pss_nil)
  (pss_one (ps_ret (pe_op op_add (pe_op op_mul pe_int (pv 1)) pe_int)))),?_⟩
 refine ⟨_,rfl,_,rfl,_,_,rfl,.inl ⟨_,hS,rfl⟩,_,_,rfl,rfl,_,rfl,?_⟩
 refine ite2 (fun c=>?_) (fun c=>?_)
 ·have c':j < (((ns.map V.int).length:Nat):Int):=of_decide_eq_true c
  rw [List.length_map] at c'
  have hj:j.toNat < ns.length:=by omega
  have ej:j = ((j.toNat:Nat):Int):=by omega
  have at1:atI (ns.map V.int) ((j.toNat:Nat):Int) = some (.int ns[j.toNat]):=atI_nat (by rw [List.getElem?_map,List.getElem?_eq_getElem hj]; rfl)
  rw [← ej] at at1
  exact ⟨_,rfl,_,rfl,a,_,j,.int ns[j.toNat],rfl,rfl,hS,at1,q _⟩
 ·exact ⟨_,rfl,_,_,rfl,rfl,.inl ⟨by decide,by decide⟩,_,_,rfl,rfl,q _⟩
theorem scBox:FnScope ["_law_script","_law_k","_law_cell_here","_law_number_here","_law_mixed"] ["_law_script","_law_k"] (defScope sBox):=⟨rfl,rfl,rfl,by decide +kernel,rfl,by decide +kernel,by decide +kernel⟩
theorem ok_box (F:Fun K "_law_box" "_law_box" sBox f fd) (G_lcell:Have P w K mg base "_law_cell" k ["_law_script","_law_k"] (spCell K)):FnOk P w K mg base CX0 (k + 1) f fd ["_law_script","_law_k"] (spBox K):=by
 refine F.ok scBox (fun vs H Q E h=>?_) (fun cdv A outer s H vs Q E hr h=>?_)
 ·obtain ⟨a,ns,k,rfl,_⟩:=h
  rfl
 obtain ⟨a,ns,j,rfl,hS,h0,q⟩:=h
 refine ⟨_,(pss_cons (ps_set (i:=2) scBox.nd rfl (Or.inl rfl) (pe_fn G_lcell hr rfl (pa_cons (pv 0) (pa_cons (pv 1) pa_nil))))
  (pss_cons (ps_set (i:=3) scBox.nd rfl (Or.inl rfl) (pe_op op_mod (pe_op op_mul (pe_op op_add (pe_op op_mod (pv 2) pe_int) pe_int) pe_int) pe_int))
  (pss_cons (ps_set (i:=4) scBox.nd rfl (Or.inl rfl) (pe_op op_mod (pe_op op_add (pe_op op_mul (pv 3) (pe_op op_add (pe_op op_mod (pv 3) pe_int) pe_int)) (pe_op op_mul pe_int (pv 1))) pe_int))
  (pss_cons (ps_if (pt_cmpR op_eq (pe_op op_mod (pe_fn G_lcell hr rfl (pa_cons (pv 0) (pa_cons pe_int pa_nil))) pe_int) pe_int (nomark _)) (pss_one (ps_ret (pe_lst (pa_cons (pv 2) (pa_cons pe_int (pa_cons (pv 4) pa_nil)))))) pss_nil)
  (pss_one (ps_ret (pe_lst (pa_cons (pv 4) (pa_cons pe_int (pa_cons pe_int pa_nil)))))))))),?_⟩
 refine ⟨_,rfl,_,rfl,a,ns,j,rfl,hS,h0,fun c=>?_⟩
 refine ⟨_,rfl,_,_,rfl,rfl,pos _,_,_,rfl,rfl,_,_,rfl,rfl,.inr ⟨by decide,by decide⟩,_,_,rfl,rfl,pos _,?_⟩
 have b1:0<=(c % 2147483629 + 11) * 69621 % 2147483629:=Int.emod_nonneg _ (by decide)
 have b2:(c % 2147483629 + 11) * 69621 % 2147483629 < 2147483629:=Int.emod_lt_of_pos _ (by decide)
 refine ⟨_,rfl,_,rfl,_,_,rfl,rfl,pos _,_,_,rfl,rfl,_,_,rfl,rfl,.inl ⟨by omega,by omega⟩,_,rfl,_,_,rfl,rfl,.inl ⟨by decide,by decide⟩,_,_,rfl,rfl,_,_,rfl,rfl,pos _,?_⟩
 refine ⟨_,rfl,a,ns,0,rfl,hS,Int.le_refl 0,fun c0=>?_⟩
 refine ⟨_,_,rfl,rfl,pos _,rfl,_,rfl,?_⟩
 refine ite2 (fun e=>?_) (fun e=>?_)
 ·exact ⟨_,rfl,_,rfl,zl3,fun p hp=>q _ _ _ p hp⟩
 ·exact ⟨_,rfl,zl3,fun p hp=>q _ _ _ p hp⟩
theorem scTake:FnScope ["_law_box_here","_law_wide","_law_found"] ["_law_box_here","_law_wide"] (defScope sTake):=⟨rfl,rfl,rfl,by decide +kernel,rfl,by decide +kernel,by decide +kernel⟩
theorem log_lt {n:Int} (h0:0 < n) (h:n < 10 ^ 61):n.natAbs.log2 < 9000:=by
 have h1:n.natAbs < 2 ^ 210:=by
  have:(10:Int) ^ 61<=2 ^ 210:=by decide
  omega
 have:=(Nat.log2_lt (by omega)).mpr h1
 omega
theorem ok_take (F:Fun K "_law_take" "_law_take" sTake f fd):FnOk P w K mg base CX0 (k + 1) f fd ["_law_box_here","_law_wide"] spTake:=by
 refine F.ok scTake (fun vs H Q E h=>?_) (fun cdv A outer s H vs Q E hr h=>?_)
 ·obtain ⟨b,n,rfl,_⟩:=h
  rfl
 obtain ⟨b,n,rfl,⟨a0,f0,m,hb⟩,hn,hn2,q⟩:=h
 refine ⟨_,(pss_cons (ps_if (pw_and (pt_cmpR op_eq (pe_ix ix_list (pv 0) pe_int (fun _ _=>rfl)) pe_int (nomark _)) (pw_and1 (pt_cmpR op_in_seq (pe_ix ix_list (pv 0) pe_int (fun _ _=>rfl)) (pe_tup (pa_cons pe_int (pa_cons (pe_un un_neg pe_int) pa_nil))) (by rfl)))).pt (pss_cons (ps_asg (pe_ix ix_list (pv 0) pe_int (fun _ _=>rfl)) (pg_sub (pv 0) pe_int set_list))
  (pss_one (ps_asg pe_int (pg_sub (pv 0) pe_int set_list)))) pss_nil)
  (pss_cons (ps_if (pt_cmpR op_eq (pe_ix ix_list (pv 0) pe_int (fun _ _=>rfl)) pe_int (nomark _)) (pss_cons (ps_set (i:=2) scTake.nd rfl (Or.inl rfl) (pe_op op_mod (pe_ix ix_list (pv 0) pe_int (fun _ _=>rfl)) (pv 1)))
  (pss_cons (ps_asg (pe_op op_fdivB (pe_ix ix_list (pv 0) pe_int (fun _ _=>rfl)) (pv 1)) (pg_sub (pv 0) pe_int set_list))
  (pss_one (ps_ret (pv 2))))) pss_nil)
  (pss_cons (ps_asg (pe_op op_mod (pe_op op_add (pe_op op_mul (pe_ix ix_list (pv 0) pe_int (fun _ _=>rfl)) pe_int) pe_int) pe_int) (pg_sub (pv 0) pe_int set_list))
  (pss_cons (ps_set (i:=2) scTake.nd rfl (Or.inl rfl) (pe_op op_mod (pe_op op_mul (pe_ix ix_list (pv 0) pe_int (fun _ _=>rfl)) (pe_op op_add (pe_op op_mod (pe_ix ix_list (pv 0) pe_int (fun _ _=>rfl)) pe_int) pe_int)) pe_int))
  (pss_cons (ps_if (pt_cmpR op_gt (pv 1) (pe_op op_pow pe_int pe_int) (nomark _)) (pss_one (ps_set (i:=2) scTake.nd rfl (Or.inl rfl) (pe_op op_add (pe_op op_pow (pv 2) pe_int) (pv 2)))) pss_nil)
  (pss_one (ps_ret (pe_op op_mod (pv 2) (pv 1))))))))),?_⟩
 refine seqI (fun σ' H'=>σ' = [some (.ref b),some (.int n),none]/\Step b H H') (fun σ' H1 h1=>?_) (fun rest=>?_)
 ·obtain ⟨rfl,st1⟩:=h1
  obtain ⟨a,f,m,hb1⟩:=st1.box
  refine ⟨_,rfl,b,_,1,.int f,rfl,rfl,SqL.of hb1,rfl,rfl,_,rfl,?_⟩
  refine ite2 (fun e=>?_) (fun e=>?_)
  ·refine ⟨_,rfl,b,_,0,.int a,rfl,rfl,SqL.of hb1,rfl,_,rfl,_,_,rfl,rfl,hn,?_⟩
   refine ⟨_,rfl,b,_,0,.int a,rfl,rfl,SqL.of hb1,rfl,_,rfl,_,_,rfl,rfl,⟨hn,log_lt hn hn2⟩,_,rfl,b,_,0,0,rfl,rfl,hb1,rfl,?_⟩
   exact ⟨_,rfl,q _ _ (Int.emod_nonneg _ (by omega)) (Int.emod_lt_of_pos _ hn) (st1.trans (Step.put _ _ _))⟩
  ·refine ⟨_,rfl,b,_,0,.int a,rfl,rfl,SqL.of hb1,rfl,_,_,rfl,rfl,.inr ⟨by decide,by decide⟩,_,_,rfl,rfl,_,_,rfl,rfl,pos _,_,rfl,b,_,0,0,rfl,rfl,hb1,rfl,?_⟩
   refine ⟨_,rfl,b,_,0,_,rfl,rfl,SqL.of upd_same,rfl,_,rfl,b,_,0,_,rfl,rfl,SqL.of upd_same,rfl,_,_,rfl,rfl,pos _,_,_,rfl,rfl,_,_,rfl,rfl,.inr ⟨?_,?_⟩,_,_,rfl,rfl,pos _,?_⟩
   ·have:=Int.emod_nonneg ((a * 69621 + 104729) % 2147483587) (show (16807:Int)≠0 by decide)
    omega
   ·have:=Int.emod_lt_of_pos ((a * 69621 + 104729) % 2147483587) (show (0:Int) < 16807 by decide)
    omega
   dsimp only [gName]
   refine seqI (t:=tIfS _ _ _) (fun σ' H'=>∃ x:Int,σ' = [some (.ref b),some (.int n),some (.int x)]/\Step b H H') (fun σ' H1 h1=>?_) (fun rest=>?_)
   ·obtain ⟨x,rfl,st2⟩:=h1
    exact ⟨_,rfl,_,rfl,_,_,rfl,rfl,hn,q _ _ (Int.emod_nonneg _ (by omega)) (Int.emod_lt_of_pos _ hn) st2⟩
   ·refine ⟨_,rfl,_,_,rfl,rfl,⟨by decide,by decide,by decide⟩,_,_,rfl,rfl,_,rfl,?_⟩
    refine ite2 (fun e=>?_) (fun e=>?_)
    ·refine ⟨_,rfl,_,_,rfl,rfl,⟨by decide,by decide,?_⟩,_,rfl,_,_,rfl,rfl,rest _ _ ⟨_,rfl,st1.trans (Step.put _ _ _)⟩⟩
     have l1:=Int.emod_nonneg ((a * 69621 + 104729) % 2147483587 * ((a * 69621 + 104729) % 2147483587 % 16807 + 1)) (show (2147483579:Int)≠0 by decide)
     have l2:=Int.emod_lt_of_pos ((a * 69621 + 104729) % 2147483587 * ((a * 69621 + 104729) % 2147483587 % 16807 + 1)) (show (0:Int) < 2147483579 by decide)
     omega
    ·exact rest _ _ ⟨_,rfl,st1.trans (Step.put _ _ _)⟩
 ·refine ⟨_,rfl,b,_,1,.int f0,rfl,rfl,SqL.of hb,rfl,rfl,_,rfl,?_⟩
  refine ite2 (fun e=>?_) (fun e=>?_)
  ·refine ⟨_,rfl,b,_,0,.int a0,rfl,rfl,SqL.of hb,rfl,_,rfl,zl2,fun t ht=>?_⟩
   have hb2:upd H t (.tup [.int 0,.int (-1)]) b = some (.lst [.int a0,.int f0,.int m]):=by rw [upd_ne (ne_of_none hb ht)]; exact hb
   refine ⟨t,_,rfl,.inr (SqT.of upd_same),rfl,rfl,_,rfl,?_⟩
   refine ite2 (fun e=>?_) (fun e=>?_)
   ·refine ⟨_,rfl,b,_,2,.int m,rfl,rfl,SqL.of hb2,rfl,_,rfl,b,_,0,0,rfl,rfl,hb2,rfl,?_⟩
    refine ⟨_,rfl,b,_,1,1,rfl,rfl,upd_same,rfl,?_⟩
    exact rest _ _ ⟨rfl,((Step.new ⟨_,_,_,hb⟩ ht).trans (Step.put _ _ _)).trans (Step.put _ _ _)⟩
   ·exact rest _ _ ⟨rfl,Step.new ⟨_,_,_,hb⟩ ht⟩
  ·refine iteF ?_
   exact rest _ _ ⟨rfl,Step.refl ⟨_,_,_,hb⟩⟩
inductive W where
 | num (i:Int)
 | txt (x:Str)
 | lst (ws:List W)
mutual
def W.size:W->Int
 | .num _=>1
 | .txt x=>1 + (x.length:Int)
 | .lst ws=>1 + sizes ws
def sizes:List W->Int
 | []=>0
 | w :: r=>w.size + sizes r
end
mutual
def W.depth:W->Nat
 | .num _=>0
 | .txt _=>0
 | .lst ws=>1 + depths ws
def depths:List W->Nat
 | []=>0
 | w :: r=>max w.depth (depths r)
end
mutual
def W.Ok:W->Prop
 | .num i=>-(10 ^ 60) < i/\i < 10 ^ 60
 | .txt x=>x.length<=400/\Signs x
 | .lst ws=>ws.length<=60/\Oks ws
def Oks:List W->Prop
 | []=>True
 | w :: r=>w.Ok/\Oks r
end
theorem depths_mem {ws:List W}:∀ w∈ws,w.depth<=depths ws:=by
 induction ws with
 | nil=>intro w hw; cases hw
 | cons x r ih=>
  intro w hw
  simp only [depths]
  rcases List.mem_cons.mp hw with rfl | hw
  ·omega
  ·have:=ih w hw
   omega
inductive RW (H:Hp):V->W->Prop where
 | num (i:Int):RW H (.int i) (.num i)
 | txt (x:Str):RW H (.str x) (.txt x)
 | lst {a:Addr}{vs:List V}{ws:List W}:H a = some (.tup vs)->vs.length = ws.length->(∀ (i:Nat) (v:V) (w:W),vs[i]? = some v->ws[i]? = some w->RW H v w)->RW H (.ref a) (.lst ws)
structure RWs (H:Hp) (vs:List V) (ws:List W):Prop where
 len:vs.length = ws.length
 at':∀ (i:Nat) (v:V) (w:W),vs[i]? = some v->ws[i]? = some w->RW H v w
def Tups (H H':Hp):Prop:=∀ a vs,H a = some (.tup vs)->H' a = some (.tup vs)
theorem RW.mono {H H':Hp} (t:Tups H H') {v:V}{w:W} (h:RW H v w):RW H' v w:=by
 induction h with
 | num i=>exact .num i
 | txt x=>exact .txt x
 | lst e l _ ih=>exact .lst (t _ _ e) l ih
theorem RWs.mono {H H':Hp} (t:Tups H H') {vs:List V}{ws:List W} (h:RWs H vs ws):RWs H' vs ws:=⟨h.len,fun i v w a b=>(h.at' i v w a b).mono t⟩
theorem Step.tups {b:Addr}{H H':Hp} (x:Step b H H') (hb:IsBox H b):Tups H H':=fun a vs e=>x.keepN hb e (fun _ _ _ z=>nomatch z)
theorem tups_put {H:Hp}{p:Addr}{xs:List V}{o:HO} (h:H p = some (.lst xs)):Tups H (upd H p o):=fun a vs e=>by rw [upd_ne (ne_of e h (fun z=>nomatch z))]; exact e
def signsA:Str:=Str.ofString " !#$&'()*+,-./0123456789:;<=>?@ABCDEFGHIJKLMNOPQRSTUVWXYZ"
def signsB:Str:=Str.ofString "[\\]^_`abcdefghijklmnopqrstuvwxyz{|}~"
theorem signs_len:(signsA ++ signsB).length = 93:=by decide +kernel
theorem signs_all:∀ c∈(signsA ++ signsB).cps.toList,32<=c/\c<=126/\c≠34/\c≠37:=by decide +kernel
theorem str_len (x:Str):x.cps.toList.length = x.length:=by simp [Str.length]
theorem str_app (x y:Str):(x ++ y).cps.toList = x.cps.toList ++ y.cps.toList:=by
 show (x.cps ++ y.cps).toList = _
 simp
theorem str_app_len (x y:Str):(x ++ y).length = x.length + y.length:=by
 rw [← str_len,str_app,List.length_append,str_len,str_len]
mutual
theorem size_pos:∀ w:W,1<=w.size
 | .num _=>by simp [W.size]
 | .txt x=>by simp only [W.size]; omega
 | .lst ws=>by have:=sizes_nn ws; simp only [W.size]; omega
theorem sizes_nn:∀ ws:List W,0<=sizes ws
 | []=>by simp [sizes]
 | w :: r=>by have h1:=size_pos w; have h2:=sizes_nn r; simp only [sizes]; omega
end
theorem scText:FnScope ["_law_box_here","_law_most","_law_signs","_law_found","_law_k"] ["_law_box_here","_law_most"] (defScope sText):=⟨rfl,rfl,rfl,by decide +kernel,rfl,by decide +kernel,by decide +kernel⟩
theorem small {n:Nat} (h:n<=1000000):n<=sizeLine:=Nat.le_trans h (by decide)
theorem ok_text (F:Fun K "_law_text" "_law_text" sText f fd) (G_ltake:Have P w K mg base "_law_take" k ["_law_box_here","_law_wide"] spTake) (m_len:mg "len" = none) (m_range:mg "range" = none):
  FnOk P w K mg base CX0 (k + 1) f fd ["_law_box_here","_law_most"] spText:=by
 refine F.ok scText (fun vs H Q E h=>?_) (fun cdv A outer s H vs Q E hr h=>?_)
 ·obtain ⟨b,n,rfl,_⟩:=h
  rfl
 obtain ⟨b,n,rfl,hb,hn,hn2,q⟩:=h
 refine ⟨_,(pss_cons (ps_set (i:=2) scText.nd rfl (Or.inl rfl) pe_str)
  (pss_cons (ps_set (i:=2) scText.nd rfl (Or.inl rfl) (pe_op op_add_str (pv 2) pe_str))
  (pss_cons (ps_set (i:=3) scText.nd rfl (Or.inl rfl) pe_str)
  (pss_cons (ps_for PassesOwn.never rfl (pi_range1 rfl m_range (pa_cons (pe_fn G_ltake hr rfl (pa_cons (pv 0) (pa_cons (pe_op op_add (pv 1) pe_int) pa_nil))) pa_nil)) (pg_name (i:=4) scText.nd rfl (Or.inl rfl)) (pss_one (ps_set (i:=3) scText.nd rfl (Or.inl rfl) (pe_op op_add_str (pv 3) (pe_ix ix_str (pv 2) (pe_fn G_ltake hr rfl (pa_cons (pv 0) (pa_cons (pe_callB call_len rfl m_len PySem.boot_len (pa_cons (pv 2) pa_nil)) pa_nil))) (fun _ _=>rfl))))))
  (pss_one (ps_ret (pv 3))))))),?_⟩
 refine ⟨_,rfl,signsA,signsB,rfl,rfl,small (by decide +kernel),?_⟩
 refine ⟨_,rfl,_,rfl,_,_,rfl,rfl,b,n + 1,rfl,hb,by omega,by omega,fun r H1 h0 h1 st=>?_⟩
 refine ⟨r,rfl,by omega,by omega,for_range (n:=r.toNat) (fun i σ' H'=>∃ (x:Str) (o:Option V),σ' = [some (.ref b),some (.int n),some (.str (signsA ++ signsB)),some (.str x),o]/\x.length = i/\Signs x/\Step b H H')
  ⟨Str.ofString "",none,rfl,rfl,?_,st⟩ (fun i σ' H' hi h=>?_) (fun σ' H' h=>?_)⟩
 ·intro c hc
  have e0:(Str.ofString "").cps.toList = []:=by decide +kernel
  rw [e0] at hc
  cases hc
 ·obtain ⟨x,o,rfl,hx,sx,st1⟩:=h
  refine ⟨_,rfl,_,rfl,_,rfl,_,rfl,_,_,rfl,⟨small (by rw [signs_len]; decide),rfl⟩,b,_,rfl,st1.box,by rw [signs_len]; decide,by rw [signs_len]; decide,fun r2 H2 r0 r1 st2=>?_⟩
  rw [signs_len] at r1
  have hr2:r2.toNat < (signsA ++ signsB).cps.toList.length:=by rw [str_len,signs_len]; omega
  have er2:r2 = ((r2.toNat:Nat):Int):=by omega
  have a1:atI (signsA ++ signsB).cps.toList ((r2.toNat:Nat):Int) = some (signsA ++ signsB).cps.toList[r2.toNat]:=atI_nat (List.getElem?_eq_getElem hr2)
  rw [← er2] at a1
  refine ⟨_,r2,_,rfl,rfl,small (by rw [signs_len]; decide),a1,x,_,rfl,rfl,small ?_,?_⟩
  ·have:(Str.mk #[(signsA ++ signsB).cps.toList[r2.toNat]]).length = 1:=rfl
   rw [this]
   omega
  ·refine ⟨_,_,rfl,?_,?_,st1.trans st2⟩
   ·rw [str_app_len,hx]
    rfl
   ·intro c hc
    rw [str_app] at hc
    rcases List.mem_append.mp hc with hc | hc
    ·exact sx c hc
    ·have:c = (signsA ++ signsB).cps.toList[r2.toNat]:=by simpa using hc
     rw [this]
     exact signs_all _ (List.getElem_mem _)
 ·obtain ⟨x,o,rfl,hx,sx,st1⟩:=h
  exact ⟨_,rfl,q x H' (by omega) sx st1⟩
inductive T where
 | non
 | bl (b:Bool)
 | num (i:Int)
 | txt (x:Str)
 | tup (ts:List T)
 | lst
 | dic
mutual
def T.size:T->Int
 | .txt x=>1 + (x.length:Int)
 | .tup ts=>1 + tsizes ts
 | _=>1
def tsizes:List T->Int
 | []=>0
 | t :: r=>t.size + tsizes r
end
mutual
def T.nodes:T->Nat
 | .tup ts=>1 + tnodes ts
 | _=>1
def tnodes:List T->Nat
 | []=>0
 | t :: r=>t.nodes + tnodes r
end
def signB (c:Nat):Bool:=decide (32<=c) && (decide (c<=126) && (decide (c≠34) && decide (c≠37)))
def okSigns (x:Str):Bool:=x.cps.toList.all signB
def aloneB (lv:Int):T->Bool
 | .num i=>decide (-(10 ^ 60) < i/\i < 10 ^ 60)
 | .txt x=>decide (x.length<=400) && okSigns x
 | .tup ts=>decide (ts.length<=60) && decide (0 < lv)
 | _=>false
mutual
def fitsB:T->Int->Bool
 | .tup ts,lv=>decide (ts.length<=60) && decide (0 < lv) && fitsA ts (lv - 1)
 | .num i,_=>decide (-(10 ^ 60) < i/\i < 10 ^ 60)
 | .txt x,_=>decide (x.length<=400) && okSigns x
 | .non,_=>false
 | .bl _,_=>false
 | .lst,_=>false
 | .dic,_=>false
def fitsA:List T->Int->Bool
 | [],_=>true
 | t :: r,lv=>fitsB t lv && fitsA r lv
end
def isWorthB (t:T):Bool:=fitsB t 12 && decide (t.size<=1000)
mutual
def T.Sm:T->Prop
 | .txt x=>x.length<=100000
 | .tup ts=>ts.length<=100000/\Sms ts
 | _=>True
def Sms:List T->Prop
 | []=>True
 | t :: r=>t.Sm/\Sms r
end
mutual
theorem tsize_pos:∀ t:T,1<=t.size
 | .non=>by simp [T.size]
 | .bl _=>by simp [T.size]
 | .num _=>by simp [T.size]
 | .lst=>by simp [T.size]
 | .dic=>by simp [T.size]
 | .txt x=>by simp only [T.size]; omega
 | .tup ts=>by have:=tsizes_nn ts; simp only [T.size]; omega
theorem tsizes_nn:∀ ts:List T,0<=tsizes ts
 | []=>by simp [tsizes]
 | t :: r=>by have h1:=tsize_pos t; have h2:=tsizes_nn r; simp only [tsizes]; omega
end
theorem Sms_mem {ts:List T} (h:Sms ts):∀ t∈ts,t.Sm:=by
 induction ts with
 | nil=>intro t ht; cases ht
 | cons x r ih=>
  intro t ht
  rcases List.mem_cons.mp ht with rfl | ht
  ·exact h.1
  ·exact ih h.2 t ht
inductive RT (H:Hp):V->T->Prop where
 | non:RT H .non .non
 | bl (b:Bool):RT H (.bl b) (.bl b)
 | num (i:Int):RT H (.int i) (.num i)
 | txt (x:Str):RT H (.str x) (.txt x)
 | tup {a:Addr}{vs:List V}{ts:List T}:H a = some (.tup vs)->vs.length = ts.length->(∀ (i:Nat) (v:V) (t:T),vs[i]? = some v->ts[i]? = some t->RT H v t)->RT H (.ref a) (.tup ts)
 | lst {a:Addr}{vs:List V}:H a = some (.lst vs)->RT H (.ref a) .lst
 | dic {a:Addr}{kvs:List (Key × V)}:H a = some (.dK kvs)->RT H (.ref a) .dic
theorem RT.mono {H H':Hp} (s:Same H H') {v:V}{t:T} (h:RT H v t):RT H' v t:=by
 induction h with
 | non=>exact .non
 | bl b=>exact .bl b
 | num i=>exact .num i
 | txt x=>exact .txt x
 | tup e l _ ih=>exact .tup (s _ _ e) l ih
 | lst e=>exact .lst (s _ _ e)
 | dic e=>exact .dic (s _ _ e)
def isNumB:T->Bool
 | .num _=>true
 | _=>false
def spIsNum:Sp:=fun vs H Q _=>∃ (v:V) (t:T),vs = [v]/\RT H v t/\Q (.bl (isNumB t)) H
def spIsSign:Sp:=fun vs H Q _=>∃ c:Nat,vs = [.str ⟨#[c]⟩]/\Q (.bl (signB c)) H
def spFits:Sp:=fun vs H Q _=>∃ (v:V) (t:T) (lv:Int),vs = [v,.int lv]/\RT H v t/\t.Sm/\∀ H',Same H H'->Q (.bl (aloneB lv t)) H'
def aloneSz:T->Int
 | .txt x=>1 + (x.length:Int)
 | _=>1
def spSizeT:Sp:=fun vs H Q _=>∃ (v:V) (t:T),vs = [v]/\RT H v t/\t.Sm/\Q (.int (aloneSz t)) H
def spIsWorth:Sp:=fun vs H Q _=>∃ (v:V) (t:T),vs = [v]/\RT H v t/\t.Sm/\∀ H',Same H H'->Q (.bl (isWorthB t)) H'
theorem lt_one (a b:Nat):decide (([a]:List Nat) < [b]) = decide (a < b):=by
 rw [Bool.eq_iff_iff,decide_eq_true_iff,decide_eq_true_iff]
 constructor
 ·intro h
  rcases List.cons_lt_cons_iff.mp h with h | ⟨_,h⟩
  ·exact h
  ·exact absurd h (List.not_lt_nil _)
 ·exact fun h=>List.cons_lt_cons_iff.mpr (.inl h)
theorem sc_isnum:FnScope ["thing"] ["thing"] (defScope s_is_number):=⟨rfl,rfl,rfl,by decide +kernel,rfl,by decide +kernel,by decide +kernel⟩
theorem ok_isnum (F:Fun K "is_number" "is_number" s_is_number f fd) (m_isi:mg "isinstance" = none) (m_int:mg "int" = none) (m_bool:mg "bool" = none):FnOk P w K mg base CX0 (k + 1) f fd ["thing"] spIsNum:=by
 refine F.ok sc_isnum (fun vs H Q E h=>?_) (fun cdv A outer s H vs Q E hr h=>?_)
 ·obtain ⟨v,t,rfl,_⟩:=h
  rfl
 obtain ⟨v,t,rfl,rt,q⟩:=h
 refine ⟨_,(pss_one (ps_ret (pe_and (pe_callB call_isi rfl m_isi boot_isi (pa_cons (pv 0) (pa_cons (pe_ty rfl m_int boot_intT) pa_nil))) (pe_one (pe_not (pe_callB call_isi rfl m_isi boot_isi (pa_cons (pv 0) (pa_cons (pe_ty rfl m_bool boot_boolT) pa_nil)))))))),?_⟩
 cases rt with
 | non=>exact ⟨_,rfl,_,_,_,_,rfl,.non,isi_ni,_,rfl,iteF q⟩
 | bl b=>exact ⟨_,rfl,_,_,_,_,rfl,.bl b,isi_bi,_,rfl,iteT ⟨_,rfl,_,_,_,_,rfl,.bl b,isi_bb,_,rfl,q⟩⟩
 | num i=>exact ⟨_,rfl,_,_,_,_,rfl,.int i,isi_ii,_,rfl,iteT ⟨_,rfl,_,_,_,_,rfl,.int i,isi_ib,_,rfl,q⟩⟩
 | txt x=>exact ⟨_,rfl,_,_,_,_,rfl,.str x,isi_si,_,rfl,iteF q⟩
 | tup e _ _=>exact ⟨_,rfl,_,_,_,_,rfl,.tup e,isi_ti,_,rfl,iteF q⟩
 | lst e=>exact ⟨_,rfl,_,_,_,_,rfl,.lst e,isi_li,_,rfl,iteF q⟩
 | dic e=>exact ⟨_,rfl,_,_,_,_,rfl,.dK e,isi_di,_,rfl,iteF q⟩
theorem sc_issign:FnScope ["sign"] ["sign"] (defScope s_is_sign):=⟨rfl,rfl,rfl,by decide +kernel,rfl,by decide +kernel,by decide +kernel⟩
theorem str_one_ne (c d:Nat):(!decide (V.str ⟨#[c]⟩ = V.str ⟨#[d]⟩)) = decide (c≠d):=by
 rw [Bool.eq_iff_iff]
 simp
theorem ok_issign (F:Fun K "is_sign" "is_sign" s_is_sign f fd) (m_ord:mg "ord" = none) (m_PERCENT:∃ t,mg "PERCENT" = some (.int 37 t)):FnOk P w K mg base CX0 (k + 1) f fd ["sign"] spIsSign:=by
 refine F.ok sc_issign (fun vs H Q E h=>?_) (fun cdv A outer s H vs Q E hr h=>?_)
 ·obtain ⟨c,rfl,_⟩:=h
  rfl
 obtain ⟨c,rfl,q⟩:=h
 refine ⟨_,(pss_one (ps_ret (pe_and (pe_chain op_le_str op_le_str pe_str (pv 0) pe_str) (pe_and (pe_cmpR op_ne (pv 0) pe_str (nomark _)) (pe_one (pe_cmpR op_ne (pe_callB (call_ord) rfl m_ord boot_ordB (pa_cons (pv 0) pa_nil)) (pe_globI rfl m_PERCENT) (nomark _))))))),?_⟩
 have e32:(Str.ofString " ").cps.toList = [32]:=by decide +kernel
 have e126:(Str.ofString "~").cps.toList = [126]:=by decide +kernel
 have e34:Str.ofString "\"" = ⟨#[34]⟩:=by decide +kernel
 have l1:(!decide ((Str.mk #[c]).cps.toList < (Str.ofString " ").cps.toList)) = decide (32<=c):=by rw [e32]; show (!decide (([c]:List Nat) < [32])) = _; rw [lt_one,Bool.eq_iff_iff]; simp
 have l2:(!decide ((Str.ofString "~").cps.toList < (Str.mk #[c]).cps.toList)) = decide (c<=126):=by rw [e126]; show (!decide (([126]:List Nat) < [c])) = _; rw [lt_one,Bool.eq_iff_iff]; simp
 have l3:(!decide (V.str ⟨#[c]⟩ = V.str (Str.ofString "\""))) = decide (c≠34):=by rw [e34]; exact str_one_ne c 34
 have l4:(!decide (V.int ((((Str.mk #[c]).cps.getD 0 0:Nat)):Int) = V.int 37)) = decide (c≠37):=by
  show (!decide (V.int (c:Int) = V.int 37)) = decide (c≠37)
  rw [Bool.eq_iff_iff]
  simp
  omega
 refine ⟨_,rfl,_,_,rfl,rfl,_,rfl,?_⟩
 have fin:∀ b:Bool,signB c = b->Q (.bl b) H:=fun b e=>by rw [← e]; exact q
 refine ite2 (fun e=>?_) (fun e=>?_)
 ·have e1:decide (32<=c) = true:=by rw [← l1]; exact e
  refine ⟨_,_,rfl,rfl,_,rfl,?_⟩
  refine ite2 (fun e=>?_) (fun e=>?_)
  ·have e2:decide (c<=126) = true:=by rw [← l2]; exact e
   refine ⟨_,rfl,rfl,_,rfl,?_⟩
   refine ite2 (fun e=>?_) (fun e=>?_)
   ·have e3:decide (c≠34) = true:=by rw [← l3]; exact e
    refine ⟨_,rfl,_,rfl,rfl,rfl,fin _ ?_⟩
    rw [l4]
    unfold signB
    rw [e1,e2,e3]
    rfl
   ·have e3:decide (c≠34) = false:=by rw [← l3]; exact Bool.eq_false_iff.mpr e
    refine fin _ ?_
    unfold signB
    rw [e1,e2,e3]
    rfl
  ·have e2:decide (c<=126) = false:=by rw [← l2]; exact Bool.eq_false_iff.mpr e
   refine fin _ ?_
   unfold signB
   rw [e1,e2]
   rfl
 ·have e1:decide (32<=c) = false:=by rw [← l1]; exact Bool.eq_false_iff.mpr e
  refine ⟨_,rfl,iteF (fin _ ?_)⟩
  unfold signB
  rw [e1]
  rfl
theorem sc_fits:FnScope ["thing","levels"] ["thing","levels"] (defScope s_fits_alone):=⟨rfl,rfl,rfl,by decide +kernel,rfl,by decide +kernel,by decide +kernel⟩
theorem all_map {α:Type} (p:α->Bool) (l:List α):(l.map p).all id = l.all p:=by rw [List.all_map]; rfl
theorem ok_fits (F:Fun K "fits_alone" "fits_alone" s_fits_alone f fd) (G_is_number:Have P w K mg base "is_number" k ["thing"] spIsNum) (G_is_sign:Have P w K mg base "is_sign" k ["sign"] spIsSign)
  (m_isi:mg "isinstance" = none) (m_str:mg "str" = none) (m_tuple:mg "tuple" = none) (m_len:mg "len" = none) (m_all:mg "all" = none) (m_abs:mg "abs" = none) (m_MOST_SIGNS:∃ t,mg "MOST_SIGNS_worths" = some (.int 400 t)) (m_MOST_ITEMS:∃ t,mg "MOST_ITEMS" = some (.int 60 t)):
  FnOk P w K mg base CX0 (k + 1) f fd ["thing","levels"] spFits:=by
 refine F.ok sc_fits (fun vs H Q E h=>?_) (fun cdv A outer s H vs Q E hr h=>?_)
 ·obtain ⟨v,t,lv,rfl,_⟩:=h
  rfl
 obtain ⟨v,t,lv,rfl,rt,sm,q⟩:=h
 refine ⟨_,(pss_cons (ps_if (pt_val (pe_fn G_is_number hr rfl (pa_cons (pv 0) pa_nil))) (pss_one (ps_ret (pe_cmpR op_lt (pe_callB (call_abs) rfl m_abs boot_absB (pa_cons (pv 0) pa_nil)) (pe_op op_pow pe_int pe_int) (nomark _)))) pss_nil)
  (pss_cons (ps_if (pt_val (pe_callB call_isi rfl m_isi boot_isi (pa_cons (pv 0) (pa_cons (pe_ty rfl m_str boot_strT) pa_nil)))) (pss_one (ps_ret (pe_and (pe_cmpR op_le (pe_callB call_len rfl m_len PySem.boot_len (pa_cons (pv 0) pa_nil)) (pe_globI rfl m_MOST_SIGNS) (nomark _)) (pe_one (pe_callB (call_all_bools rfl) rfl m_all boot_allB (pa_cons (pe_lcomp [] [] rfl rfl (by decide +kernel) rfl (by decide +kernel) rfl (by decide +kernel) trivial rfl trivial (pi_str (pv 0)) (fun C s H fp=>⟨pifs_nil,(pe_fn G_is_sign hr rfl (pa_cons (pv 0) pa_nil))⟩)) pa_nil)))))) pss_nil)
  (pss_one (ps_ret (pe_and (pe_callB call_isi rfl m_isi boot_isi (pa_cons (pv 0) (pa_cons (pe_ty rfl m_tuple boot_tupleT) pa_nil))) (pe_and (pe_cmpR op_le (pe_callB call_len rfl m_len PySem.boot_len (pa_cons (pv 0) pa_nil)) (pe_globI rfl m_MOST_ITEMS) (nomark _)) (pe_one (pe_cmpR op_gt (pv 1) pe_int (nomark _))))))))),?_⟩
 have q0:∀ b:Bool,aloneB lv t = b->Q (.bl b) H:=fun b e=>by rw [← e]; exact q H (Same.refl H)
 refine ⟨_,rfl,v,t,rfl,rt,_,rfl,?_⟩
 cases rt with
 | non=>exact iteF ⟨_,rfl,_,_,_,_,rfl,.non,isi_ns,_,rfl,iteF ⟨_,rfl,_,_,_,_,rfl,.non,isi_nt,_,rfl,iteF (q0 _ rfl)⟩⟩
 | bl b=>exact iteF ⟨_,rfl,_,_,_,_,rfl,.bl b,isi_bs,_,rfl,iteF ⟨_,rfl,_,_,_,_,rfl,.bl b,isi_bt,_,rfl,iteF (q0 _ rfl)⟩⟩
 | lst e=>exact iteF ⟨_,rfl,_,_,_,_,rfl,.lst e,isi_ls,_,rfl,iteF ⟨_,rfl,_,_,_,_,rfl,.lst e,isi_lt,_,rfl,iteF (q0 _ rfl)⟩⟩
 | dic e=>exact iteF ⟨_,rfl,_,_,_,_,rfl,.dK e,isi_ds,_,rfl,iteF ⟨_,rfl,_,_,_,_,rfl,.dK e,isi_dt,_,rfl,iteF (q0 _ rfl)⟩⟩
 | num i=>
  refine iteT ⟨_,rfl,i,rfl,_,_,rfl,rfl,⟨by decide,by decide,by decide⟩,_,_,rfl,rfl,q0 _ ?_⟩
  show decide (-(10 ^ 60) < i/\i < 10 ^ 60) = decide ((if i < 0 then -i else i) < 10 ^ (60:Int).toNat)
  have e:(10:Int) ^ (60:Int).toNat = 10 ^ 60:=rfl
  rw [e,Bool.eq_iff_iff,decide_eq_true_iff,decide_eq_true_iff]
  constructor
  ·intro h
   split <;> omega
  ·split <;> intro h <;> omega
 | txt x=>
  refine iteF ⟨_,rfl,_,_,_,_,rfl,.str x,isi_ss,_,rfl,iteT ?_⟩
  have hx:x.length<=100000:=sm
  refine ⟨_,rfl,_,_,rfl,⟨small (by omega),rfl⟩,_,_,rfl,rfl,_,rfl,?_⟩
  refine ite2 (fun e=>?_) (fun e=>?_)
  ·have e1:(x.length:Int)<=400:=of_decide_eq_true e
   dsimp only [tRet,tOp,tC,tCB,tCons,tNil]
   have hsz:x.cps.size = x.length:=rfl
   refine rd_mapS (x.cps.toList.map fun c=>V.bl (signB c)) (by rfl) (by rw [List.length_map]; simp) (by rw [hsz]; exact small (by omega)) (fun i c y H1 R hc hy s1 hR=>?_) (fun H1 D s1 hD=>?_)
   ·have hc':x.cps.toList[i]? = some c:=by simpa using hc
    rw [List.getElem?_map,hc'] at hy
    cases hy
    exact ⟨_,rfl,c,rfl,hR _ (Same.refl _)⟩
   ·refine ⟨D,x.cps.toList.map signB,rfl,SqL.of ?_,?_⟩
    ·rw [upd_same,List.map_map]; rfl
    ·have:=q _ (s1.trans (Same.new (o:=.lst (x.cps.toList.map fun c=>V.bl (signB c))) hD))
     rw [all_map]
     have e3:aloneB lv (.txt x) = x.cps.toList.all signB:=by
      show (decide (x.length<=400) && okSigns x) = _
      rw [decide_eq_true (by omega)]
      rfl
     rw [← e3]
     exact this
  ·have e1:¬ (x.length:Int)<=400:=of_decide_eq_false (Bool.eq_false_iff.mpr e)
   refine q0 _ ?_
   show (decide (x.length<=400) && okSigns x) = _
   rw [decide_eq_false (by omega)]
   rfl
 | @tup a vs ts e l _=>
  refine iteF ⟨_,rfl,_,_,_,_,rfl,.tup e,isi_ts,_,rfl,iteF ?_⟩
  refine ⟨_,rfl,_,_,_,_,rfl,.tup e,isi_tt,_,rfl,iteT ?_⟩
  refine ⟨_,rfl,_,_,rfl,.inr ⟨_,SqT.of e,rfl⟩,_,_,rfl,rfl,_,rfl,?_⟩
  refine ite2 (fun c=>?_) (fun c=>?_)
  ·have c1:(vs.length:Int)<=60:=of_decide_eq_true c
   refine ⟨_,rfl,_,_,rfl,rfl,q0 _ ?_⟩
   show (decide (ts.length<=60) && decide (0 < lv)) = _
   rw [decide_eq_true (by omega),Bool.true_and]
  ·have c1:¬ (vs.length:Int)<=60:=of_decide_eq_false (Bool.eq_false_iff.mpr c)
   refine q0 _ ?_
   show (decide (ts.length<=60) && decide (0 < lv)) = _
   rw [decide_eq_false (by omega),Bool.false_and]
theorem sc_sizeT:FnScope ["worth"] ["worth"] (defScope sSizeA):=⟨rfl,rfl,rfl,by decide +kernel,rfl,by decide +kernel,by decide +kernel⟩
theorem ok_sizeT (F:Fun K "size_alone" "size_alone" sSizeA f fd) (m_isi:mg "isinstance" = none) (m_str:mg "str" = none) (m_len:mg "len" = none):FnOk P w K mg base CX0 (k + 1) f fd ["worth"] spSizeT:=by
 refine F.ok sc_sizeT (fun vs H Q E h=>?_) (fun cdv A outer s H vs Q E hr h=>?_)
 ·obtain ⟨v,x,rfl,_⟩:=h
  rfl
 obtain ⟨v,t,rfl,rt,sm,q⟩:=h
 refine ⟨_,pss_one (ps_ret (pe_ifExp (pt_val (pe_callB call_isi rfl m_isi boot_isi (pa_cons (pv 0) (pa_cons (pe_ty rfl m_str boot_strT) pa_nil)))) (pe_op op_add pe_int (pe_callB call_len rfl m_len PySem.boot_len (pa_cons (pv 0) pa_nil))) pe_int)),?_⟩
 cases rt with
 | non=>exact ⟨_,rfl,_,_,_,_,rfl,.non,isi_ns,_,rfl,iteF q⟩
 | bl b=>exact ⟨_,rfl,_,_,_,_,rfl,.bl b,isi_bs,_,rfl,iteF q⟩
 | num i=>exact ⟨_,rfl,_,_,_,_,rfl,.int i,isi_is,_,rfl,iteF q⟩
 | lst e=>exact ⟨_,rfl,_,_,_,_,rfl,.lst e,isi_ls,_,rfl,iteF q⟩
 | dic e=>exact ⟨_,rfl,_,_,_,_,rfl,.dK e,isi_ds,_,rfl,iteF q⟩
 | tup e _ _=>exact ⟨_,rfl,_,_,_,_,rfl,.tup e,isi_ts,_,rfl,iteF q⟩
 | txt x=>
  have hx:x.length<=100000:=sm
  refine ⟨_,rfl,_,_,_,_,rfl,.str x,isi_ss,_,rfl,iteT ?_⟩
  exact ⟨_,rfl,_,_,rfl,⟨small (by omega),rfl⟩,_,_,rfl,rfl,q⟩
structure StR (H0 H:Hp) (vs:List V) (ps:List (T × Int)):Prop where
 len:vs.length = ps.length
 at':∀ (i:Nat) (v:V) (p:T × Int),vs[i]? = some v->ps[i]? = some p->∃ (a:Addr) (u:V),v = .ref a/\H a = some (.tup [u,.int p.2])/\RT H0 u p.1
theorem StR.mono {H0 H H':Hp} (s:Tups H H') {vs:List V}{ps:List (T × Int)} (h:StR H0 H vs ps):StR H0 H' vs ps:=
 ⟨h.len,fun i v p e1 e2=>let ⟨a,u,x,y,z⟩:=h.at' i v p e1 e2; ⟨a,u,x,s _ _ y,z⟩⟩
theorem StR.nil {H0 H:Hp}:StR H0 H [] []:=⟨rfl,fun i v p e=>by simp at e⟩
theorem StR.app {H0 H:Hp}{vs us:List V}{ps qs:List (T × Int)} (h:StR H0 H vs ps) (g:StR H0 H us qs):StR H0 H (vs ++ us) (ps ++ qs):=by
 refine ⟨by rw [List.length_append,List.length_append,h.len,g.len],fun i v p e1 e2=>?_⟩
 by_cases hi:i < vs.length
 ·rw [List.getElem?_append_left hi] at e1
  rw [List.getElem?_append_left (h.len ▸ hi)] at e2
  exact h.at' i v p e1 e2
 ·rw [List.getElem?_append_right (by omega)] at e1
  rw [List.getElem?_append_right (by have:=h.len; omega)] at e2
  rw [h.len] at e1
  exact g.at' _ v p e1 e2
theorem StR.one {H0 H:Hp}{a:Addr}{u:V}{p:T × Int} (e:H a = some (.tup [u,.int p.2])) (r:RT H0 u p.1):StR H0 H [.ref a] [p]:=by
 refine ⟨rfl,fun i v' p' e1 e2=>?_⟩
 cases i with
 | zero=>
  have q1:V.ref a = v':=by simpa using e1
  have q2:p = p':=by simpa using e2
  subst q1 q2
  exact ⟨a,u,rfl,e,r⟩
 | succ j=>simp at e1
theorem StR.front {H0 H:Hp}{vs:List V}{ps:List (T × Int)}{v:V}{p:T × Int} (h:StR H0 H (vs ++ [v]) (ps ++ [p])):StR H0 H vs ps/\∃ (a:Addr) (u:V),v = .ref a/\H a = some (.tup [u,.int p.2])/\RT H0 u p.1:=by
 have l:=h.len
 rw [List.length_append,List.length_append] at l
 have l':vs.length = ps.length:=by simpa using l
 refine ⟨⟨l',fun i v' p' e1 e2=>?_⟩,?_⟩
 ·have h1:=(List.getElem?_eq_some_iff.mp e1).1
  exact h.at' i v' p' (by rw [List.getElem?_append_left h1]; exact e1) (by rw [List.getElem?_append_left (l' ▸ h1)]; exact e2)
 ·exact h.at' vs.length v p (by rw [List.getElem?_append_right (Nat.le_refl _)]; simp) (by rw [l',List.getElem?_append_right (Nat.le_refl _)]; simp)
theorem same_tupsD {H H':Hp} (s:Same H H'):Tups H H':=fun a vs e=>s a _ e
theorem same_putD {H H1:Hp}{l:Addr}{o:HO} (s:Same H H1) (hl:H l = none):Same H (upd H1 l o):=fun c u e=>by rw [upd_ne (ne_of_none e hl)]; exact s c u e
def szs:List (T × Int)->Int
 | []=>0
 | p :: r=>p.1.size + szs r
def nds:List (T × Int)->Nat
 | []=>0
 | p :: r=>p.1.nodes + nds r
def fts:List (T × Int)->Bool
 | []=>true
 | p :: r=>fitsB p.1 p.2 && fts r
theorem szs_app (a b:List (T × Int)):szs (a ++ b) = szs a + szs b:=by
 induction a with
 | nil=>simp [szs]
 | cons p r ih=>simp only [List.cons_append,szs,ih]; omega
theorem nds_app (a b:List (T × Int)):nds (a ++ b) = nds a + nds b:=by
 induction a with
 | nil=>simp [nds]
 | cons p r ih=>simp only [List.cons_append,nds,ih]; omega
theorem fts_app (a b:List (T × Int)):fts (a ++ b) = (fts a && fts b):=by
 induction a with
 | nil=>simp [fts]
 | cons p r ih=>simp only [List.cons_append,fts,ih,Bool.and_assoc]
theorem szs_nn:∀ ps:List (T × Int),0<=szs ps
 | []=>by simp [szs]
 | p :: r=>by have h1:=tsize_pos p.1; have h2:=szs_nn r; simp only [szs]; omega
theorem szs_map (ts:List T) (lv:Int):szs (ts.map fun t=>(t,lv)) = tsizes ts:=by
 induction ts with
 | nil=>rfl
 | cons t r ih=>simp only [List.map_cons,szs,tsizes,ih]
theorem nds_map (ts:List T) (lv:Int):nds (ts.map fun t=>(t,lv)) = tnodes ts:=by
 induction ts with
 | nil=>rfl
 | cons t r ih=>simp only [List.map_cons,nds,tnodes,ih]
theorem fts_map (ts:List T) (lv:Int):fts (ts.map fun t=>(t,lv)) = fitsA ts lv:=by
 induction ts with
 | nil=>rfl
 | cons t r ih=>simp only [List.map_cons,fts,fitsA,ih]
def valB (ps:List (T × Int)) (whole:Int):Bool:=fts ps && decide (whole + szs ps<=1000)
theorem alone_fits {t:T}{lv:Int} (h:aloneB lv t = false):fitsB t lv = false:=by
 cases t with
 | tup ts=>
  have h:(decide (ts.length<=60) && decide (0 < lv)) = false:=h
  simp only [fitsB,h,Bool.false_and]
 | num i=>exact h
 | txt x=>exact h
 | non=>rfl
 | bl b=>rfl
 | lst=>rfl
 | dic=>rfl
theorem alone_leaf {t:T}{lv:Int} (h:aloneB lv t = true) (hn:∀ ts,t≠.tup ts):fitsB t lv = true/\t.size = aloneSz t:=by
 cases t with
 | tup ts=>exact absurd rfl (hn ts)
 | num i=>exact ⟨h,rfl⟩
 | txt x=>exact ⟨h,rfl⟩
 | non=>cases h
 | bl b=>cases h
 | lst=>cases h
 | dic=>cases h
theorem aloneSz_le (t:T):aloneSz t<=t.size/\1<=aloneSz t:=by
 cases t with
 | tup ts=>have:=tsizes_nn ts; simp only [aloneSz,T.size]; omega
 | txt x=>simp only [aloneSz,T.size]; omega
 | _=>simp [aloneSz,T.size]
theorem sc_isworth:FnScope ["thing","waiting","whole","pair","item","levels"] ["thing"] (defScope s_is_worth):=⟨rfl,rfl,rfl,by decide +kernel,rfl,by decide +kernel,by decide +kernel⟩
theorem ok_isworth (F:Fun K "is_worth" "is_worth" s_is_worth f fd) (G_fits_alone:Have P w K mg base "fits_alone" k ["thing","levels"] spFits) (G_size_alone:Have P w K mg base "size_alone" k ["worth"] spSizeT)
  (m_isi:mg "isinstance" = none) (m_tuple:mg "tuple" = none) (m_len:mg "len" = none) (m_MOST_DEPTH:∃ t,mg "MOST_DEPTH" = some (.int 12 t)) (m_MOST_SIZE:∃ t,mg "MOST_SIZE" = some (.int 1000 t)):
  FnOk P w K mg base CX0 (k + 1) f fd ["thing"] spIsWorth:=by
 refine F.ok sc_isworth (fun vs H Q E h=>?_) (fun cdv A outer s H vs Q E hr h=>?_)
 ·obtain ⟨v,t,rfl,_⟩:=h
  rfl
 obtain ⟨v,t,rfl,rt,sm,q⟩:=h
 refine ⟨_,(pss_cons (ps_set (i:=1) sc_isworth.nd rfl (Or.inl rfl) (pe_lst (pa_cons (pe_tup (pa_cons (pv 0) (pa_cons (pe_globI rfl m_MOST_DEPTH) pa_nil))) pa_nil)))
  (pss_cons (ps_set (i:=2) sc_isworth.nd rfl (Or.inl rfl) pe_int)
  (pss_cons (ps_while PassesOwn.never (pt_cmpR op_gt (pe_callB call_len rfl m_len PySem.boot_len (pa_cons (pv 1) pa_nil)) pe_int (nomark _)) (pss_cons (ps_set (i:=3) sc_isworth.nd rfl (Or.inl rfl) (pe_bm0 PySem.F.plainAttrs_list PySem.F.slot_list_pop PySem.F.type_list_pop mt_pop (pv 1)))
  (pss_cons (ps_set (i:=4) sc_isworth.nd rfl (Or.inl rfl) (pe_ix ix_tup (pv 3) pe_int (fun _ _=>rfl)))
  (pss_cons (ps_set (i:=5) sc_isworth.nd rfl (Or.inr rfl) (pe_ix ix_tup (pv 3) pe_int (fun _ _=>rfl)))
  (pss_cons (ps_if (pt_not (pt_val (pe_fn G_fits_alone hr rfl (pa_cons (pv 4) (pa_cons (pv 5) pa_nil))))) (pss_one (ps_ret pe_bl)) pss_nil)
  (pss_cons (ps_aug (i:=2) sc_isworth.nd rfl (Or.inl rfl) (pe_fn G_size_alone hr rfl (pa_cons (pv 4) pa_nil)) (ip_of iop_add))
  (pss_cons (ps_if (pt_cmpR op_gt (pv 2) (pe_globI rfl m_MOST_SIZE) (nomark _)) (pss_one (ps_ret pe_bl)) pss_nil)
  (pss_one (ps_if (pt_val (pe_callB call_isi rfl m_isi boot_isi (pa_cons (pv 4) (pa_cons (pe_ty rfl m_tuple boot_tupleT) pa_nil)))) (pss_one (ps_expr (pe_bm PySem.F.plainAttrs_list PySem.F.slot_list_extend PySem.F.type_list_extend mt_extend (pv 1) (pa_cons (pe_lcomp [5] ["levels"] rfl rfl (by decide +kernel) rfl (by decide +kernel) rfl (by decide +kernel) ⟨rfl,trivial⟩ rfl ⟨⟨rfl,rfl,Or.inr (Or.inl rfl),(by show (some NameKind.cell:Option NameKind)≠some .local; decide),⟨_,rfl⟩⟩,trivial⟩ (pi_tup (pv 4)) (fun C s H fp=>⟨pifs_nil,(pe_tup (pa_cons (pv 0) (pa_cons (pe_op op_sub (pv 1) pe_int) pa_nil)))⟩)) pa_nil)))) pss_nil)))))))))
  (pss_one (ps_ret pe_bl))))),?_⟩
 refine ⟨_,rfl,zl2,fun a ha=>?_⟩
 refine ⟨zl1,fun l hl=>?_⟩
 have s1:Same H (upd (upd H a (.tup [v,.int 12])) l (.lst [.ref a])):=(Same.new ha).trans (Same.new hl)
 have hlH:H l = none:=by
  cases e:H l with
  | none=>rfl
  | some o=>have:=Same.new (o:=.tup [v,.int 12]) ha l o e; rw [hl] at this; cases this
 have ea:upd (upd H a (.tup [v,.int 12])) l (.lst [.ref a]) a = some (.tup [v,.int 12]):=by rw [upd_ne (ne_of_none upd_same hl)]; exact upd_same
 have st0:StR H (upd (upd H a (.tup [v,.int 12])) l (.lst [.ref a])) [.ref a] [(t,12)]:=StR.one (p:=(t,12)) ea rt
 refine ⟨fun m σ' H'=>∃ (vs:List V) (ps:List (T × Int)) (whole:Int) (o3 o4 o5:Option V),σ' = [some v,some (.ref l),some (.int whole),o3,o4,o5]/\H' l = some (.lst vs)/\StR H H' vs ps/\m = nds ps/\0<=whole/\whole<=1000 /\
   (vs.length:Int)<=60 * whole + 1/\(∀ p∈ps,p.1.Sm)/\valB ps whole = isWorthB t/\Same H H',
  ⟨_,[.ref a],[(t,12)],0,none,none,none,rfl,upd_same,st0,rfl,Int.le_refl _,by decide,by simp,fun p hp=>by rw [List.mem_singleton.mp hp]; exact sm,?_,s1⟩,fun m σ' H' hW=>?_⟩
 ·unfold valB isWorthB
  simp only [fts,szs,Bool.and_true]
  congr 2
  rw [eq_iff_iff]
  constructor <;> intro h <;> omega
 obtain ⟨vs,ps,whole,o3,o4,o5,rfl,hlv,hst,hm,hw0,hw1,hvl,hsm,hval,sH⟩:=hW
 refine ⟨_,rfl,_,_,rfl,.inl ⟨_,SqL.of hlv,rfl⟩,_,_,rfl,rfl,_,rfl,?_⟩
 refine ite2 (fun c=>?_) (fun c=>?_)
 ·have c1:(0:Int) < vs.length:=of_decide_eq_true c
  refine ⟨_,fun _ _ h=>h,?_⟩
  rcases List.eq_nil_or_concat vs with rfl | ⟨vs',vl,e⟩
  ·simp at c1
  rw [List.concat_eq_append] at e
  subst e
  rcases List.eq_nil_or_concat ps with rfl | ⟨ps',p,e⟩
  ·have:=hst.len; simp at this
  rw [List.concat_eq_append] at e
  subst e
  obtain ⟨hst',ap,u,rfl,hap,rtu⟩:=hst.front
  have ed:(vs' ++ [V.ref ap]).dropLast = vs':=List.dropLast_concat
  have smp:p.1.Sm:=hsm p (by simp)
  refine ⟨_,rfl,.inl ⟨rfl,_,SqL.of hlv⟩,l,_,.ref ap,rfl,rfl,hlv,by simp,?_⟩
  rw [ed]
  have sH1:Same H (upd H' l (.lst vs')):=same_putD sH hlH
  have hap1:upd H' l (.lst vs') ap = some (.tup [u,.int p.2]):=tups_put hlv _ _ hap
  refine ⟨_,rfl,ap,_,0,u,rfl,rfl,SqT.of hap1,rfl,?_⟩
  refine ⟨_,rfl,ap,_,1,.int p.2,rfl,rfl,SqT.of hap1,rfl,?_⟩
  refine ⟨_,rfl,_,rfl,u,p.1,p.2,rfl,rtu.mono sH1,smp,fun H2 s2=>⟨_,rfl,?_⟩⟩
  have vb:valB (ps' ++ [p]) whole = ((fts ps' && fitsB p.1 p.2) && decide (whole + (szs ps' + p.1.size)<=1000)):=by
   unfold valB
   rw [fts_app,szs_app]
   simp only [fts,szs,Bool.and_true]
   congr 2
   rw [eq_iff_iff]
   constructor <;> intro h <;> omega
  have hsn:=szs_nn ps'
  have hal:=aloneSz_le p.1
  have sH2:=sH1.trans s2
  cases hal1:aloneB p.2 p.1 with
  | false=>
   refine iteT ?_
   have:isWorthB t = false:=by
    rw [← hval,vb,alone_fits hal1]
    simp
   have fin:=q _ sH2
   rw [this] at fin
   exact fin
  | true=>
   refine iteF ?_
   refine ⟨_,rfl,_,rfl,u,p.1,rfl,rtu.mono sH2,smp,_,_,rfl,rfl,?_⟩
   refine ⟨_,rfl,_,_,rfl,rfl,_,rfl,?_⟩
   refine ite2 (fun c2=>?_) (fun c2=>?_)
   ·have c3:(1000:Int) < whole + aloneSz p.1:=of_decide_eq_true c2
    have:isWorthB t = false:=by
     rw [← hval,vb,decide_eq_false (by omega)]
     simp
    have fin:=q _ sH2
    rw [this] at fin
    exact fin
   ·have c3:¬ (1000:Int) < whole + aloneSz p.1:=of_decide_eq_false (Bool.eq_false_iff.mpr c2)
    have hl2:H2 l = some (.lst vs'):=s2 _ _ upd_same
    have hst2:StR H H2 vs' ps':=(hst'.mono (tups_put hlv)).mono (same_tupsD s2)
    have hvl':((vs'.length:Nat):Int) + 1<=60 * whole + 1:=by
     rw [List.length_append] at hvl
     have:([V.ref ap]:List V).length = 1:=rfl
     omega
    have hnd:nds (ps' ++ [p]) = nds ps' + p.1.nodes:=by rw [nds_app]; simp [nds]
    have hsm':∀ p'∈ps',p'.1.Sm:=fun p' hp'=>hsm p' (List.mem_append_left _ hp')
    have leaf:∀ (t':T),p.1 = t'->(∀ ts,t'≠.tup ts)->p.1.nodes = 1->∃ m',m' < m/\∃ (vs:List V) (ps:List (T × Int)) (whole':Int) (o3 o4 o5:Option V),[some v,some (.ref l),some (.int (whole + aloneSz p.1)),some (.ref ap),some u,some (.int p.2)] = [some v,some (.ref l),some (.int whole'),o3,o4,o5]/\H2 l = some (.lst vs)/\StR H H2 vs ps/\m' = nds ps/\0<=whole'/\whole'<=1000 /\
      (vs.length:Int)<=60 * whole' + 1/\(∀ p∈ps,p.1.Sm)/\valB ps whole' = isWorthB t/\Same H H2:=fun t' e hn hnode=>by
     obtain ⟨hf,hz⟩:=alone_leaf hal1 (by rw [e]; exact hn)
     refine ⟨nds ps',by omega,vs',ps',whole + aloneSz p.1,_,_,_,rfl,hl2,hst2,rfl,by omega,by omega,by omega,hsm',?_,sH2⟩
     rw [← hval,vb,hf,hz]
     unfold valB
     rw [Bool.and_true]
     congr 2
     rw [eq_iff_iff]
     constructor <;> intro h <;> omega
    obtain ⟨tt,lv⟩:=p
    have rt2:RT H2 u tt:=rtu.mono sH2
    cases rt2 with
    | non=>exact ⟨_,rfl,_,_,_,_,rfl,.non,isi_nt,_,rfl,iteF (leaf _ rfl (fun _ z=>nomatch z) rfl)⟩
    | bl b=>exact ⟨_,rfl,_,_,_,_,rfl,.bl b,isi_bt,_,rfl,iteF (leaf _ rfl (fun _ z=>nomatch z) rfl)⟩
    | num i=>exact ⟨_,rfl,_,_,_,_,rfl,.int i,isi_it,_,rfl,iteF (leaf _ rfl (fun _ z=>nomatch z) rfl)⟩
    | txt x=>exact ⟨_,rfl,_,_,_,_,rfl,.str x,isi_st,_,rfl,iteF (leaf _ rfl (fun _ z=>nomatch z) rfl)⟩
    | lst e=>exact ⟨_,rfl,_,_,_,_,rfl,.lst e,isi_lt,_,rfl,iteF (leaf _ rfl (fun _ z=>nomatch z) rfl)⟩
    | dic e=>exact ⟨_,rfl,_,_,_,_,rfl,.dK e,isi_dt,_,rfl,iteF (leaf _ rfl (fun _ z=>nomatch z) rfl)⟩
    | @tup a2 us ts e2 l2 at2=>
     refine ⟨_,rfl,_,_,_,_,rfl,.tup e2,isi_tt,_,rfl,iteT ?_⟩
     have ha60:ts.length<=60:=by
      have h:(decide (ts.length<=60) && decide (0 < lv)) = true:=hal1
      rw [Bool.and_eq_true] at h
      exact of_decide_eq_true h.1
     have hlv0:0 < lv:=by
      have h:(decide (ts.length<=60) && decide (0 < lv)) = true:=hal1
      rw [Bool.and_eq_true] at h
      exact of_decide_eq_true h.2
     refine ⟨_,rfl,.inl ⟨rfl,_,SqL.of hl2⟩,?_⟩
     have at0:∀ (i:Nat) (x:V) (t':T),us[i]? = some x->ts[i]? = some t'->RT H x t':=by
      cases rtu with
      | @tup a3 us3 ts3 e3 l3 at3=>
       have:us3 = us:=by
        have h1:=sH2 _ _ e3
        rw [e2] at h1
        cases h1
        rfl
       subst this
       exact at3
     dsimp only [tCons,tNil]
     refine ⟨_,rfl,a2,rfl,⟨us,SqT.of e2⟩,fun i m2 xs H3=>i<=us.length/\m2 = us.length - i/\StR H H3 xs ((ts.take i).map fun t'=>(t',lv - 1))/\Same H2 H3,⟨_,Nat.zero_le _,rfl,by simpa using StR.nil,Same.refl _⟩,fun i m2 xs H3 hW=>?_⟩
     obtain ⟨hi,hm2,hxs,s3⟩:=hW
     have hxl:xs.length<=60:=by
      have:=hxs.len
      rw [List.length_map,List.length_take] at this
      omega
     refine ⟨small (by omega),?_⟩
     have e3:=s3 _ _ e2
     by_cases hlt:i < us.length
     ·refine .inr ⟨⟨us,us[i],SqT.of e3,List.getElem?_eq_getElem hlt⟩,fun y H4 hy=>?_⟩
      obtain ⟨rfl,hy⟩:=hy
      have hy:=hy us (SqT.of e3)
      have hti:ts[i]? = some ts[i]:=List.getElem?_eq_getElem (by omega)
      refine iteT ?_
      refine ⟨_,rfl,_,rfl,_,_,rfl,rfl,zl2,fun a5 ha5=>?_⟩
      have s5:=Same.new (o:=.tup [y,.int (lv - 1)]) ha5
      refine ⟨us.length - (i + 1),by omega,by omega,rfl,?_,s3.trans s5⟩
      rw [take_snoc hti,List.map_append]
      exact (hxs.mono (same_tupsD s5)).app (StR.one (p:=(ts[i],lv - 1)) upd_same (at0 i y ts[i] hy hti))
     ·have ei:i = us.length:=by omega
      refine .inl ⟨⟨us,SqT.of e3,by omega⟩,fun D hD=>?_⟩
      have et:ts.take i = ts:=List.take_of_length_le (by omega)
      rw [et] at hxs
      have hl3:=s3 _ _ hl2
      have hl4:upd H3 D (.lst xs) l = some (.lst vs'):=by rw [upd_ne (ne_of_none hl3 hD)]; exact hl3
      refine ⟨l,D,vs',xs,rfl,rfl,hl4,upd_same,?_,?_⟩
      ·have h60:vs'.length<=60001:=by omega
       exact small (by omega)
      ·have s4:=Same.new (o:=.lst xs) hD
       have t5:=tups_put (o:=.lst (vs' ++ xs)) hl4
       refine ⟨nds ps' + tnodes ts,?_,vs' ++ xs,ps' ++ ts.map (fun t'=>(t',lv - 1)),whole + 1,_,_,_,rfl,upd_same,?_,?_,by omega,?_,?_,?_,?_,?_⟩
       ·have:(T.tup ts).nodes = 1 + tnodes ts:=rfl
        have h9:nds (ps' ++ [(T.tup ts,lv)]) = nds ps' + (T.tup ts).nodes:=hnd
        omega
       ·exact ((((hst2.mono (same_tupsD s3)).mono (same_tupsD s4)).mono t5)).app ((hxs.mono (same_tupsD s4)).mono t5)
       ·rw [nds_app,nds_map]
       ·have:aloneSz (T.tup ts) = 1:=rfl
        have c4:¬ (1000:Int) < whole + aloneSz (T.tup ts):=c3
        omega
       ·rw [List.length_append]
        omega
       ·intro p' hp'
        rcases List.mem_append.mp hp' with hp' | hp'
        ·exact hsm' p' hp'
        ·obtain ⟨t',ht',rfl⟩:=List.mem_map.mp hp'
         exact Sms_mem (show Sms ts from (show ts.length<=100000/\Sms ts from smp).2) t' ht'
       ·rw [← hval,vb]
        unfold valB
        rw [fts_app,fts_map,szs_app,szs_map]
        have f1:fitsB (T.tup ts) lv = fitsA ts (lv - 1):=by
         show (decide (ts.length<=60) && decide (0 < lv) && fitsA ts (lv - 1)) = _
         rw [decide_eq_true ha60,decide_eq_true hlv0]
         rfl
        have f2:(T.tup ts).size = 1 + tsizes ts:=rfl
        show _ = ((fts ps' && fitsB (T.tup ts) lv) && decide (whole + (szs ps' + (T.tup ts).size)<=1000))
        rw [f1,f2]
        congr 2
        rw [eq_iff_iff]
        constructor <;> intro h <;> omega
       ·exact same_putD ((sH2.trans s3).trans s4) hlH
 ·have c1:¬ (0:Int) < vs.length:=of_decide_eq_false (Bool.eq_false_iff.mpr c)
  have hv0:vs = []:=List.length_eq_zero_iff.mp (by omega)
  have hp0:ps = []:=List.length_eq_zero_iff.mp (by rw [← hst.len,hv0]; rfl)
  have:isWorthB t = true:=by
   rw [← hval,hp0]
   unfold valB
   simp only [fts,szs,Bool.true_and]
   exact decide_eq_true (by omega)
  have fin:=q _ sH
  rw [this] at fin
  exact fin
end
end D
namespace L2
open PySem PySem.Spec PyProof.Rows PySem.Builtin
section
variable {prog:Program}{w:World}{A:Around}{E:Value->Shared->Prop}{s:Shared}
end
theorem op_catT0 {X:Cx}:OpR X (binaryOp .Add) (fun x y H Q=>∃ (a b:Addr) (ys:List V),x = .ref a/\y = .ref b/\SqT X.K H a []/\SqT X.K H b ys/\Q (.ref b) H):=by
 intro zp s σ H x y v u Q I rx ry h
 obtain ⟨a,b,ys,rfl,rfl,ha,hb,q⟩:=h
 cases rx
 cases ry
 obtain ⟨its,r1,p1,_⟩:=I.tuple ha
 obtain ⟨its2,r2,p2,_⟩:=I.tuple hb
 have e0:its = []:=by cases r1; rfl
 subst e0
 obtain ⟨⟨cls,dd,data,sl⟩,ho,hc,n,hd⟩:=id p1
 obtain ⟨⟨cls2,dd2,data2,sl2⟩,ho2,hc2,n2,hd2⟩:=id p2
 simp only at hc hd hc2 hd2
 subst hc hd hc2 hd2
 exact concat_meets ⟨_,ho,rfl⟩ ⟨_,ho2,rfl⟩ noFill_tuple_add seq_tuple_add PySem.F.slot_tuple_add PySem.F.entry_tuple_add (PySem.F.args_tuple_add_2 _ _)
  (tuple_addW0 a b #[] its2.toArray n n2 dd dd2 sl sl2 rfl) ⟨ho,ho2,⟨.ref b,H,I,rfl,q⟩⟩
end L2
namespace L2
open PySem PySem.Spec PyProof.Rows
theorem strsAre_of {ys:List Str}:∀ {us:List Value},Vals (ys.map V.str) us->StrsAre us ys:=by
 induction ys with
 | nil=>intro us r; rw [List.map_nil] at r; cases r; exact .nil
 | cons n ns ih=>
  intro us r
  rw [List.map_cons] at r
  cases r with
  | cons r1 r2=>
   obtain ⟨t,e⟩:=r1
   subst e
   exact .cons n t (ih r2)
theorem mt_join {X:Cx}:MtR X "str.join" (fun x xs H Q=>∃ (sep:Str) (p:Addr) (ys:List Str),x = .str sep/\xs = [.ref p]/\SqL X.K H p (ys.map V.str)/\(ys.map (·.length)).sum + ys.length * sep.length<=16777216/\Q (.str (Txt.join sep ys)) H):=by
 intro zp s σ H x xs v us Q I rx rv h
 obtain ⟨sep,p,ys,rfl,rfl,hq,hz,q⟩:=h
 obtain ⟨t,rfl⟩:=rx
 obtain ⟨u,rfl,ru⟩:=vals1 rv
 cases ru
 obtain ⟨its,r,pl,_⟩:=I.list hq
 exact PyProof.Rows.join_list pl.isList (by simpa using strsAre_of r) hz fun t' k=>⟨.str _,H,I.tok k,⟨t',rfl⟩,q⟩
theorem join_signs (cs:List Nat):Txt.join (Str.ofString "") (cs.map fun c=>(⟨#[c]⟩:Str)) = ⟨cs.toArray⟩:=by
 have e0:(Str.ofString "").cps = #[]:=by decide +kernel
 have fold:∀ (r:List Nat) (acc:Array Nat),((r.map fun c=>(⟨#[c]⟩:Str)).foldl (fun acc p=>acc ++ (Str.ofString "").cps ++ p.cps) acc) = acc ++ r.toArray:=fun r=>by
  induction r with
  | nil=>intro acc; simp
  | cons c r ih=>
   intro acc
   rw [List.map_cons,List.foldl_cons,ih,e0]
   simp
 cases cs with
 | nil=>rfl
 | cons c r=>
  show (⟨(r.map fun c=>(⟨#[c]⟩:Str)).foldl (fun acc p=>acc ++ (Str.ofString "").cps ++ p.cps) #[c]⟩:Str) = _
  rw [fold]
  simp
end L2
namespace D
open PySem L2
mutual
def eqW:W->W->Bool
 | .num i,.num j=>i == j
 | .txt x,.txt y=>x == y
 | .lst ws,.lst zs=>eqWs ws zs
 | .num _,.txt _=>false
 | .num _,.lst _=>false
 | .txt _,.num _=>false
 | .txt _,.lst _=>false
 | .lst _,.num _=>false
 | .lst _,.txt _=>false
def eqWs:List W->List W->Bool
 | [],[]=>true
 | w :: r,z :: s=>eqW w z && eqWs r s
 | [],_ :: _=>false
 | _ :: _,[]=>false
end
mutual
theorem eqW_refl:∀ w:W,eqW w w = true
 | .num i=>by simp [eqW]
 | .txt x=>by simp [eqW]
 | .lst ws=>eqWs_refl ws
theorem eqWs_refl:∀ ws:List W,eqWs ws ws = true
 | []=>rfl
 | w :: r=>by simp only [eqWs,eqW_refl w,eqWs_refl r,Bool.and_self]
end
mutual
theorem eqW_symm:∀ w z:W,eqW w z = eqW z w
 | .num i,.num j=>by simp only [eqW]; exact BEq.comm
 | .txt x,.txt y=>by simp only [eqW]; exact BEq.comm
 | .lst ws,.lst zs=>by simp only [eqW]; exact eqWs_symm ws zs
 | .num _,.txt _=>rfl
 | .num _,.lst _=>rfl
 | .txt _,.num _=>rfl
 | .txt _,.lst _=>rfl
 | .lst _,.num _=>rfl
 | .lst _,.txt _=>rfl
theorem eqWs_symm:∀ ws zs:List W,eqWs ws zs = eqWs zs ws
 | [],[]=>rfl
 | w :: r,z :: s=>by simp only [eqWs,eqW_symm w z,eqWs_symm r s]
 | [],_ :: _=>rfl
 | _ :: _,[]=>rfl
end
theorem eqWs_iff:∀ ws zs:List W,eqWs ws zs = ((List.range (min ws.length zs.length)).all (fun j=>eqW (ws.getD j (.num 0)) (zs.getD j (.num 0))) && ws.length == zs.length)
 | [],[]=>rfl
 | [],_ :: _=>rfl
 | _ :: _,[]=>rfl
 | w :: r,z :: s=>by
  rw [eqWs,eqWs_iff r s]
  have e:min (w :: r).length (z :: s).length = min r.length s.length + 1:=by simp only [List.length_cons]; omega
  rw [e,List.range_succ_eq_map,List.all_cons,List.all_map]
  have e2:((w :: r).length == (z :: s).length) = (r.length == s.length):=by simp
  rw [e2,Bool.and_assoc]
  rfl
theorem RW.inj {H:Hp}{v:V}{x:W} (h:RW H v x):∀ {y:W},RW H v y->x = y:=by
 induction h with
 | num i=>intro y g; cases g; rfl
 | txt z=>intro y g; cases g; rfl
 | @lst a vs ws e l _ ih=>
  intro y g
  cases g with
  | @lst _ vs2 zs e2 l2 at2=>
   rw [e] at e2
   cases e2
   congr 1
   refine List.ext_getElem (by omega) fun i h1 h2=>?_
   exact ih i vs[i] ws[i] (List.getElem?_eq_getElem (by omega)) (List.getElem?_eq_getElem h1) (at2 i vs[i] zs[i] (List.getElem?_eq_getElem (by omega)) (List.getElem?_eq_getElem h2))
end D
namespace L2
open PySem PySem.Spec PyProof.Rows
theorem boot_listT:bootBuiltins (Str.ofString "list") = some (.type "list"):=by kernel_rfl
end L2
namespace D
open PySem L2
mutual
def W.Th:W->Prop
 | .num _=>True
 | .txt x=>x.length<=100000/\Signs x
 | .lst ws=>ws.length<=1000/\Ths ws
def Ths:List W->Prop
 | []=>True
 | w :: r=>w.Th/\Ths r
end
mutual
theorem th_of:∀ w:W,w.Ok->w.Th
 | .num _,_=>trivial
 | .txt _,h=>⟨Nat.le_trans h.1 (by decide),h.2⟩
 | .lst ws,h=>⟨Nat.le_trans h.1 (by decide),ths_of ws h.2⟩
theorem ths_of:∀ ws:List W,Oks ws->Ths ws
 | [],_=>trivial
 | w :: r,h=>⟨th_of w h.1,ths_of r h.2⟩
end
mutual
def fitsW:W->Bool
 | .num i=>decide (-(10 ^ 60) < i/\i < 10 ^ 60)
 | .txt x=>decide (x.length<=400)
 | .lst ws=>decide (ws.length<=60) && fitsWs ws
def fitsWs:List W->Bool
 | []=>true
 | w :: r=>fitsW w && fitsWs r
end
mutual
def W.toT:W->T
 | .num i=>.num i
 | .txt x=>.txt x
 | .lst ws=>.tup (toTs ws)
def toTs:List W->List T
 | []=>[]
 | w :: r=>w.toT :: toTs r
end
theorem toTs_map:∀ ws:List W,toTs ws = ws.map W.toT
 | []=>rfl
 | w :: r=>by simp only [toTs,List.map_cons,toTs_map r]
theorem toTs_len (ws:List W):(toTs ws).length = ws.length:=by rw [toTs_map,List.length_map]
mutual
theorem size_toT:∀ w:W,w.toT.size = w.size
 | .num _=>rfl
 | .txt _=>rfl
 | .lst ws=>by simp only [W.toT,T.size,W.size,sizes_toT ws]
theorem sizes_toT:∀ ws:List W,tsizes (toTs ws) = sizes ws
 | []=>rfl
 | w :: r=>by simp only [toTs,tsizes,sizes,size_toT w,sizes_toT r]
end
mutual
theorem sm_toT:∀ w:W,w.Th->w.toT.Sm
 | .num _,_=>trivial
 | .txt _,h=>h.1
 | .lst ws,h=>⟨by rw [toTs_len]; exact Nat.le_trans h.1 (by decide),sms_toT ws h.2⟩
theorem sms_toT:∀ ws:List W,Ths ws->Sms (toTs ws)
 | [],_=>trivial
 | w :: r,h=>⟨sm_toT w h.1,sms_toT r h.2⟩
end
theorem okSigns_of {x:Str} (h:Signs x):okSigns x = true:=by
 unfold okSigns
 rw [List.all_eq_true]
 intro c hc
 have:=h c hc
 simp [signB,this]
mutual
theorem fits_toT:∀ (w:W) (lv:Nat),w.Th->fitsB w.toT (lv:Int) = (fitsW w && decide (w.depth<=lv))
 | .num i,lv,_=>by
  show decide (-(10 ^ 60) < i/\i < 10 ^ 60) = (decide (-(10 ^ 60) < i/\i < 10 ^ 60) && decide (0<=lv))
  rw [decide_eq_true (Nat.zero_le lv),Bool.and_true]
 | .txt x,lv,h=>by
  show (decide (x.length<=400) && okSigns x) = (decide (x.length<=400) && decide (0<=lv))
  rw [okSigns_of h.2,decide_eq_true (Nat.zero_le lv)]
 | .lst ws,lv,h=>by
  show (decide ((toTs ws).length<=60) && decide (0 < (lv:Int)) && fitsA (toTs ws) ((lv:Int) - 1)) = ((decide (ws.length<=60) && fitsWs ws) && decide (1 + depths ws<=lv))
  rw [toTs_len]
  cases lv with
  | zero=>
   rw [decide_eq_false (show ¬ (0:Int) < ((0:Nat):Int) by omega),decide_eq_false (show ¬ 1 + depths ws<=0 by omega)]
   simp
  | succ n=>
   have e:((n + 1:Nat):Int) - 1 = (n:Int):=by omega
   rw [decide_eq_true (show (0:Int) < ((n + 1:Nat):Int) by omega),e,fits_toTs ws n h.2,Bool.and_true,← Bool.and_assoc]
   congr 2
   rw [eq_iff_iff]
   constructor <;> intro h <;> omega
theorem fits_toTs:∀ (ws:List W) (lv:Nat),Ths ws->fitsA (toTs ws) (lv:Int) = (fitsWs ws && decide (depths ws<=lv))
 | [],lv,_=>by
  show true = (true && decide (0<=lv))
  rw [decide_eq_true (Nat.zero_le lv)]
  rfl
 | w :: r,lv,h=>by
  show (fitsB w.toT lv && fitsA (toTs r) lv) = ((fitsW w && fitsWs r) && decide (max w.depth (depths r)<=lv))
  rw [fits_toT w lv h.1,fits_toTs r lv h.2]
  have e:decide (max w.depth (depths r)<=lv) = (decide (w.depth<=lv) && decide (depths r<=lv)):=by
   rw [Bool.eq_iff_iff,Bool.and_eq_true,decide_eq_true_iff,decide_eq_true_iff,decide_eq_true_iff]
   omega
  rw [e]
  cases fitsW w <;> cases fitsWs r <;> cases decide (w.depth<=lv) <;> cases decide (depths r<=lv) <;> rfl
end
def goodW (x:W):Bool:=fitsW x && (decide (x.size<=1000) && decide ((x.depth:Int)<=12))
theorem isWorth_toT {x:W} (h:x.Th):isWorthB x.toT = goodW x:=by
 unfold isWorthB goodW
 have:=fits_toT x 12 h
 rw [show (12:Int) = ((12:Nat):Int) from rfl,this,size_toT]
 have e:decide ((x.depth:Int)<=((12:Nat):Int)) = decide (x.depth<=12):=by
  rw [Bool.eq_iff_iff,decide_eq_true_iff,decide_eq_true_iff]
  omega
 rw [e]
 cases fitsW x <;> cases decide (x.depth<=12) <;> cases decide (x.size<=1000) <;> rfl
theorem RW.toRT {H:Hp}{v:V}{x:W} (h:RW H v x):RT H v x.toT:=by
 induction h with
 | num i=>exact .num i
 | txt x=>exact .txt x
 | @lst a vs ws e l _ ih=>
  refine .tup e (by rw [toTs_len]; exact l) fun i v t hv ht=>?_
  rw [toTs_map,List.getElem?_map] at ht
  obtain ⟨w,hw,rfl⟩:=Option.map_eq_some_iff.mp ht
  exact ih i v w hv hw
section
variable {P:Program}{w:World}{K:PySem.W.Frag}{mg:Str->Option Value}{base:Heap}{f:Addr}{fd:FuncData}{k n:Nat}{AHouse APlainLooks AMaker:Addr}
end
end D
namespace L2
open PySem PySem.Spec PyProof.Rows
section
variable {prog:Program}{w:World}{A:Around}{E:Value->Shared->Prop}{s:Shared}
open HT in
end
end L2
namespace D
open PySem L2
theorem eqAll {H:Hp}{ws zs:List W}{its its2:List Value}{vs us:List V} (r1:Vals vs its) (r2:Vals us its2) (l1:vs.length = ws.length) (l2:us.length = zs.length):
  ((List.range (min its.toArray.size its2.toArray.size)).all (fun j=>eqW (ws.getD j (.num 0)) (zs.getD j (.num 0))) && its.toArray.size == its2.toArray.size) = eqW (.lst ws) (.lst zs):=by
 have e1:its.toArray.size = ws.length:=by rw [List.size_toArray,← r1.length,l1]
 have e2:its2.toArray.size = zs.length:=by rw [List.size_toArray,← r2.length,l2]
 rw [e1,e2]
 exact (eqWs_iff ws zs).symm
theorem eqAt_W {X:Cx}{zp:List (Addr × Obj)}{σ:St}{H:Hp}{s:Shared} (I:Inv X zp σ H s):∀ (n:Nat) (A:Around) (x y:W) (u v:V) (U V':Value),x.depth < n->RW H u x->RW H v y->RelV u U->RelV v V'->A.units + n + 2 < cLine->
  SeqAt.EqAt A s U V' (eqW x y):=by
 intro n
 induction n with
 | zero=>intro A x y u v U V' h; omega
 | succ n ih=>
  intro A x y u v U V' hd rx ry r1 r2 hu
  have hu0:A.units < cLine:=by omega
  cases rx with
  | num i=>
   obtain ⟨t,rfl⟩:=r1
   cases ry with
   | num j=>obtain ⟨t2,rfl⟩:=r2; exact SeqAt.EqAt.int_int i t j t2
   | txt z=>obtain ⟨t2,rfl⟩:=r2; exact SeqAt.EqAt.int_str i t z t2
   | lst e _ _=>
    cases r2
    obtain ⟨its,_,p,_⟩:=I.tuple (SqT.of e)
    exact SeqAt.EqAt.int_tuple i t p hu0
  | txt z=>
   obtain ⟨t,rfl⟩:=r1
   cases ry with
   | num j=>obtain ⟨t2,rfl⟩:=r2; exact SeqAt.EqAt.str_int z t j t2
   | txt z2=>obtain ⟨t2,rfl⟩:=r2; exact SeqAt.EqAt.str_str z t z2 t2
   | lst e _ _=>
    cases r2
    obtain ⟨its,_,p,_⟩:=I.tuple (SqT.of e)
    exact SeqAt.EqAt.str_tuple z t p hu0
  | @lst a vs ws e l at1=>
   cases r1
   obtain ⟨its,rv,p,_⟩:=I.tuple (SqT.of e)
   cases ry with
   | num j=>obtain ⟨t2,rfl⟩:=r2; exact SeqAt.EqAt.tuple_int j t2 p hu0
   | txt z2=>obtain ⟨t2,rfl⟩:=r2; exact SeqAt.EqAt.tuple_str z2 t2 p hu0
   | @lst b us zs e2 l2 at2=>
    cases r2
    obtain ⟨its2,rv2,p2,_⟩:=I.tuple (SqT.of e2)
    by_cases hab:a = b
    ·subst hab
     have:W.lst ws = W.lst zs:=RW.inj (.lst e l at1) (.lst e2 l2 at2)
     rw [this,eqW_refl]
     exact SeqAt.EqAt.same _
    ·rw [← eqAll (H:=H) rv rv2 l l2]
     refine SeqAt.EqAt.of_refs hab (SeqAt.RcAt.tuples p p2 hu0 fun j h1 h2=>?_)
     have j1:j < its.length:=by simpa using h1
     have j2:j < its2.length:=by simpa using h2
     have k1:j < vs.length:=by rw [rv.length]; exact j1
     have k2:j < us.length:=by rw [rv2.length]; exact j2
     have m1:j < ws.length:=by omega
     have m2:j < zs.length:=by omega
     obtain ⟨U1,hU1,rU1⟩:=rv.get (List.getElem?_eq_getElem k1)
     obtain ⟨U2,hU2,rU2⟩:=rv2.get (List.getElem?_eq_getElem k2)
     have f1:its.toArray[j] = U1:=by have:=(List.getElem?_eq_some_iff.mp hU1).2; simpa using this
     have f2:its2.toArray[j] = U2:=by have:=(List.getElem?_eq_some_iff.mp hU2).2; simpa using this
     rw [f1,f2]
     have g1:ws.getD j (.num 0) = ws[j]:=by rw [List.getD_eq_getElem?_getD,List.getElem?_eq_getElem m1]; rfl
     have g2:zs.getD j (.num 0) = zs[j]:=by rw [List.getD_eq_getElem?_getD,List.getElem?_eq_getElem m2]; rfl
     rw [g1,g2]
     have hdj:=depths_mem ws[j] (List.getElem_mem m1)
     have hd':1 + depths ws < n + 1:=hd
     have hu1:A.in1.units = A.units + 1:=rfl
     exact ih A.in1 ws[j] zs[j] vs[j] us[j] U1 U2 (by omega) (at1 j _ _ (List.getElem?_eq_getElem k1) (List.getElem?_eq_getElem m1)) (at2 j _ _ (List.getElem?_eq_getElem k2) (List.getElem?_eq_getElem m2)) rU1 rU2 (by omega)
theorem op_eqW {X:Cx} (hu:X.A.units + 64 < cLine):OpR X (compareOp .Eq) (fun x y H Q=>∃ wx wy:W,RW H x wx/\RW H y wy/\wx.depth < 50/\Q (.bl (eqW wx wy)) H):=by
 intro zp s σ H x y v u Q I rx ry h
 obtain ⟨wx,wy,hx,hy,hd,q⟩:=h
 have hu0:X.A.units < cLine:=by omega
 have fin:EP X zp σ Q (.bool (eqW wx wy)) s:=⟨.bl _,H,I,rfl,q⟩
 cases hx with
 | num i=>
  obtain ⟨t,rfl⟩:=rx
  cases hy with
  | num j=>obtain ⟨t2,rfl⟩:=ry; exact SeqAt.RcAt.int_int i t j t2 _ _ _ _ fin
  | txt z=>obtain ⟨t2,rfl⟩:=ry; exact SeqAt.RcAt.int_str i t z t2 _ _ _ _ fin
  | lst e _ _=>
   cases ry
   obtain ⟨its,_,p,_⟩:=I.tuple (SqT.of e)
   exact SeqAt.RcAt.int_tuple i t p hu0 _ _ _ _ fin
 | txt z=>
  obtain ⟨t,rfl⟩:=rx
  cases hy with
  | num j=>obtain ⟨t2,rfl⟩:=ry; exact SeqAt.RcAt.str_int z t j t2 _ _ _ _ fin
  | txt z2=>obtain ⟨t2,rfl⟩:=ry; exact SeqAt.RcAt.str_str z t z2 t2 _ _ _ _ fin
  | lst e _ _=>
   cases ry
   obtain ⟨its,_,p,_⟩:=I.tuple (SqT.of e)
   exact SeqAt.RcAt.str_tuple z t p hu0 _ _ _ _ fin
 | @lst a vs ws e l at1=>
  cases rx
  obtain ⟨its,rv,p,_⟩:=I.tuple (SqT.of e)
  cases hy with
  | num j=>obtain ⟨t2,rfl⟩:=ry; exact SeqAt.RcAt.tuple_int j t2 p hu0 _ _ _ _ fin
  | txt z2=>obtain ⟨t2,rfl⟩:=ry; exact SeqAt.RcAt.tuple_str z2 t2 p hu0 _ _ _ _ fin
  | @lst b us zs e2 l2 at2=>
   cases ry
   obtain ⟨its2,rv2,p2,_⟩:=I.tuple (SqT.of e2)
   rw [← eqAll (H:=H) rv rv2 l l2] at fin
   refine SeqAt.RcAt.tuples p p2 hu0 (fun j h1 h2=>?_) _ _ _ _ fin
   have j1:j < its.length:=by simpa using h1
   have j2:j < its2.length:=by simpa using h2
   have k1:j < vs.length:=by rw [rv.length]; exact j1
   have k2:j < us.length:=by rw [rv2.length]; exact j2
   have m1:j < ws.length:=by omega
   have m2:j < zs.length:=by omega
   obtain ⟨U1,hU1,rU1⟩:=rv.get (List.getElem?_eq_getElem k1)
   obtain ⟨U2,hU2,rU2⟩:=rv2.get (List.getElem?_eq_getElem k2)
   have f1:its.toArray[j] = U1:=by have:=(List.getElem?_eq_some_iff.mp hU1).2; simpa using this
   have f2:its2.toArray[j] = U2:=by have:=(List.getElem?_eq_some_iff.mp hU2).2; simpa using this
   rw [f1,f2]
   have g1:ws.getD j (.num 0) = ws[j]:=by rw [List.getD_eq_getElem?_getD,List.getElem?_eq_getElem m1]; rfl
   have g2:zs.getD j (.num 0) = zs[j]:=by rw [List.getD_eq_getElem?_getD,List.getElem?_eq_getElem m2]; rfl
   rw [g1,g2]
   have hdj:=depths_mem ws[j] (List.getElem_mem m1)
   have hd':1 + depths ws < 50:=hd
   have hu1:X.A.in1.units = X.A.units + 1:=rfl
   exact eqAt_W I 50 X.A.in1 ws[j] zs[j] vs[j] us[j] U1 U2 (by omega) (at1 j _ _ (List.getElem?_eq_getElem k1) (List.getElem?_eq_getElem m1)) (at2 j _ _ (List.getElem?_eq_getElem k2) (List.getElem?_eq_getElem m2)) rU1 rU2 (by omega)
end D
namespace L2
open PySem PySem.Spec PyProof.Rows
structure QSs (X:Cx) (st:List Stmt) (t:TS):Prop where
 un:PSs X st t
structure QIfs (X:Cx) (ifs:List Expr) (t:TT):Prop where
 un:PIfs X ifs t
structure QGs (X:Cx) (ts:List Expr) (t:TGs):Prop where
 un:PGs X ts t
structure QE (X:Cx) (e:Expr) (t:TE):Prop where
 un:PE X e t
structure QT (X:Cx) (e:Expr) (t:TT):Prop where
 un:PT X e t
structure QW (X:Cx) (e:Expr) (t:TT):Prop where
 un:PW X e t
structure QA (X:Cx) (es:List Expr) (t:TA):Prop where
 un:PA X es t
structure QS (X:Cx) (st:Stmt) (t:TS):Prop where
 un:PS X st t
structure QI (X:Cx) (tg iter:Expr) (wi:TI):Prop where
 un:PI X tg iter wi
structure QG (X:Cx) (tg:Expr) (t:TG):Prop where
 un:PG X tg t
structure QO (X:Cx) (e:Option Expr) (t:TO):Prop where
 un:PO X e t
structure QC (X:Cx) (op:CmpOp) (a b:Expr) (t:TE):Prop where
 un:PC X op a b t
theorem Fun.okQ {P:Program}{w:World}{K:PySem.W.Frag}{mg:Str->Option Value}{base:Heap}{x qual:Str}{st:Stmt}{f:Addr}{fd:FuncData}{N ps:List Str}{k:Nat}{sp:Sp} (F:Fun K x qual st f fd) (sc:FnScope N ps (defScope st)) (h1:∀ (vs:List V) (H:Hp) (Q:VK) (E:XK),sp vs H Q E->vs.length = ps.length)
  (h2:∀ (cdv:Value) (A:Around) (outer:List Env) (s:Shared) (H:Hp) (vs:List V) (Q:VK) (E:XK),Room k (A.deeper (PyProof.Rows.envOfC qual (defScope st) s.heap.objs.size f cdv))->sp vs H Q E->
   ∃ t:TS,QSs (cxOf CX0 P w K mg base N qual (defScope st) f cdv A outer s H E).nox (defBody st) t/\t { nx:=fun _ H'=>Q V.non H',rt:=Q } (L2.start N vs) H):FnOk P w K mg base CX0 (k + 1) f fd ps sp:=
 F.ok sc h1 fun cdv A outer s H vs Q E hr h=>let ⟨t,a,b⟩:=h2 cdv A outer s H vs Q E hr h; ⟨t,a.un,b⟩
theorem pe_globS {X:Cx}{x:Str}{z:Str}{pos:Pos} (hg:Gl X x) (hm:∃ t,X.mg x = some (.str z t)) (hd:(x == ("__debug__":Str)) = false:=by decide):PE X (.Name x pos) (tC (.str z)):=by
 obtain ⟨t,hm⟩:=hm
 exact pe_glob hg hm ⟨t,rfl⟩ hd
end L2
namespace D
open PySem L2
theorem pss_nil {X:Cx}:QSs X [] tNext:=⟨L2.pss_nil ⟩
theorem pss_cons {X:Cx}{st:Stmt}{rest:List Stmt}{t u:TS} (h0:QS X st t) (h1:QSs X rest u):QSs X (st :: rest) (tSeq t u):=⟨L2.pss_cons h0.un h1.un⟩
theorem pss_one {X:Cx}{st:Stmt}{t:TS} (h0:QS X st t):QSs X [st] t:=⟨L2.pss_one h0.un⟩
theorem ps_ret {X:Cx}{e:Expr}{te:TE}{pos:Pos} (h0:QE X e te):QS X (Stmt.Return (some e) pos) (tRet te):=⟨L2.ps_ret h0.un⟩
theorem ps_if {X:Cx}{t u:TS}{pos:Pos}{c:Expr}{a b:List Stmt}{tc:TT} (h0:QT X c tc) (h1:QSs X a t) (h2:QSs X b u):QS X (Stmt.If c a b pos) (tIfS tc t u):=⟨L2.ps_if h0.un h1.un h2.un⟩
theorem ps_set {X:Cx}{pos:Pos}{i:Nat}{x:Str}{e:Expr}{te:TE}{pos':Pos} (h0:X.N.Nodup) (h1:X.N[i]? = some x) (h2:L2.Loc X.env.scope x) (h3:QE X e te) (h4:autoParam (swapsWith e (some (Expr.Name x pos')) pos.line X.env = pure false) L2.ps_set._auto_1) (h5:autoParam (X.fn x = true\/List.lookup x X.env.scope.names = some NameKind.local) L2.ps_set._auto_2):QS X (Stmt.Assign [Expr.Name x pos'] e pos) (tAsg te (gName i)):=⟨L2.ps_set h0 h1 h2 h3.un h4 h5⟩
theorem ps_asg {X:Cx}{pos:Pos}{tg e:Expr}{te:TE}{g:TG} (h0:QE X e te) (h1:QG X tg g) (h2:autoParam (swapsWithSole [tg] e pos.line X.env = pure false) L2.ps_asg._auto_1) (h3:autoParam (swappedStores [tg] e X.env = pure none) L2.ps_asg._auto_2) (h4:autoParam (List.map (fun (x:Bool × (Value->Sem Unit))=>x.snd) (assignEach [tg] X.env) = [assign tg X.env]) L2.ps_asg._auto_3):QS X (Stmt.Assign [tg] e pos) (tAsg te g):=⟨L2.ps_asg h0.un h1.un h2 h3 h4⟩
theorem ps_expr {X:Cx}{e:Expr}{te:TE}{pos:Pos} (h0:QE X e te) (h1:autoParam (swapsWith e none pos.line X.env = pure false) L2.ps_expr._auto_1):QS X (Stmt.Expr e pos) (tDrop te):=⟨L2.ps_expr h0.un h1⟩
theorem ps_for {X:Cx}{tg iter:Expr}{body:List Stmt}{wi:TI}{g:TG}{tb:TS}{pos:Pos} (h0:PassesOwn (model X.prog X.w) X.A X.env X.xe) (h1:X.calm = true) (h2:QI X tg iter wi) (h3:QG X tg g) (h4:QSs X body tb) (h5:autoParam (∀ (x:Value),foldedSetIterable iter X.env x = pure x) L2.ps_for._auto_1):QS X (Stmt.For tg iter body [] pos) (tFor wi g tb):=⟨L2.ps_for h0 h1 h2.un h3.un h4.un h5⟩
theorem ps_while {X:Cx}{pos:Pos}{c:Expr}{body:List Stmt}{tc:TT}{tb:TS} (h0:PassesOwn (model X.prog X.w) X.A X.env X.xe) (h1:QT X c tc) (h2:QSs X body tb):QS X (Stmt.While c body [] pos) (tWhile tc tb):=⟨L2.ps_while h0 h1.un h2.un⟩
theorem ps_aug {X:Cx}{pos:Pos}{i:Nat}{x:Str}{e:Expr}{te:TE}{op:Operator}{ti:TIp}{pos':Pos} (h0:X.N.Nodup) (h1:X.N[i]? = some x) (h2:L2.Loc X.env.scope x) (h3:QE X e te) (h4:PIp X op ti) (h5:autoParam (X.fn x = true\/List.lookup x X.env.scope.names = some NameKind.local) L2.ps_aug._auto_1):QS X (Stmt.AugAssign (Expr.Name x pos') op e pos) (tAug i te ti):=⟨L2.ps_aug h0 h1 h2 h3.un h4 h5⟩
theorem pss_never {X:Cx}{sts:List Stmt}:QSs X sts tNever:=⟨L2.pss_never ⟩
theorem pe_int {X:Cx}{i:Int}{j:Nat}{pos:Pos}:QE X (Expr.Constant (Const.int i) j pos) (tC (V.int i)):=⟨L2.pe_int ⟩
theorem pe_str {X:Cx}{x:Str}{j:Nat}{pos:Pos}:QE X (Expr.Constant (Const.str x) j pos) (tC (V.str x)):=⟨L2.pe_str ⟩
theorem pe_bl {X:Cx}{b:Bool}{j:Nat}{pos:Pos}:QE X (Expr.Constant (Const.bool b) j pos) (tC (V.bl b)):=⟨L2.pe_bl ⟩
theorem pe_non {X:Cx}{j:Nat}{pos:Pos}:QE X (Expr.Constant Const.none j pos) (tC V.non):=⟨L2.pe_non ⟩
theorem pv {X:Cx} (i:Nat) {x:Str}{pos:Pos} (h0:autoParam (X.N[i]? = some x) L2.pv._auto_1) (h1:autoParam (Vis X.env.scope x) L2.pv._auto_2) (h2:autoParam ((x == Str.ofString "__debug__") = false) L2.pv._auto_3) (h3:autoParam ((x == Str.ofString "__classdict__") = false) L2.pv._auto_4):QE X (Expr.Name x pos) (tVar i):=⟨L2.pv i h0 h1 h2 h3⟩
theorem pe_glob {X:Cx}{x:Str}{v:V}{u:Value}{pos:Pos} (h0:Gl X x) (h1:X.mg x = some u) (h2:RelV v u) (h3:autoParam ((x == Str.ofString "__debug__") = false) L2.pe_glob._auto_1):QE X (Expr.Name x pos) (tC v):=⟨L2.pe_glob h0 h1 h2 h3⟩
theorem pe_globI {X:Cx}{x:Str}{i:Int}{pos:Pos} (h0:Gl X x) (h1:(∃ (t:Tok),X.mg x = some (Value.int i t))) (h2:autoParam ((x == Str.ofString "__debug__") = false) L2.pe_globI._auto_1):QE X (Expr.Name x pos) (tC (V.int i)):=⟨L2.pe_globI h0 h1 h2⟩
theorem pe_ty {X:Cx}{x:Str}{T:String}{pos:Pos} (h0:Gl X x) (h1:X.mg x = none) (h2:bootBuiltins x = some (Value.type T)) (h3:autoParam (x≠Str.ofString "__name__") L2.pe_ty._auto_1) (h4:autoParam ((x == Str.ofString "__debug__") = false) L2.pe_ty._auto_2):QE X (Expr.Name x pos) (tC (V.ty T)):=⟨L2.pe_ty h0 h1 h2 h3 h4⟩
theorem pe_op {X:Cx}{a b:Expr}{ta tb:TE}{pos:Pos}{op:Operator}{r:R2} (h0:OpR X (binaryOp op) r) (h1:QE X a ta) (h2:QE X b tb):QE X (a.BinOp op b pos) (tOp r ta tb):=⟨L2.pe_op h0 h1.un h2.un⟩
theorem pe_un {X:Cx}{a:Expr}{ta:TE}{pos:Pos}{op:UnaryOp}{r:V->Hp->VK->Prop} (h0:UnR X (unaryOp op) r) (h1:QE X a ta):QE X (Expr.UnaryOp op a pos) (tUn r ta):=⟨L2.pe_un h0 h1.un⟩
theorem pe_cmpR {X:Cx}{a b:Expr}{ta tb:TE}{pos:Pos}{op:CmpOp}{r:R2} (h0:OpR X (compareOp op) r) (h1:QE X a ta) (h2:QE X b tb) (h3:behindInMarks op b = false):QE X (a.Compare [op] [b] pos) (tOp r ta tb):=⟨L2.pe_cmpR h0 h1.un h2.un h3⟩
theorem pt_cmpR {X:Cx}{a b:Expr}{ta tb:TE}{pos:Pos}{op:CmpOp}{r:R2} (h0:OpR X (compareOp op) r) (h1:QE X a ta) (h2:QE X b tb) (h3:behindInMarks op b = false):QT X (a.Compare [op] [b] pos) (tTest (tOp r ta tb)):=⟨L2.pt_cmpR h0 h1.un h2.un h3⟩
theorem pe_cmp {X:Cx}{a b:Expr}{pos:Pos}{op:CmpOp}{t:TE} (h0:QC X op a b t) (h1:autoParam (behindInMarks op b = false) L2.pe_cmp._auto_1):QE X (a.Compare [op] [b] pos) t:=⟨L2.pe_cmp h0.un h1⟩
theorem pt_cmp {X:Cx}{a b:Expr}{pos:Pos}{op:CmpOp}{t:TE} (h0:QC X op a b t) (h1:autoParam (behindInMarks op b = false) L2.pt_cmp._auto_1):QT X (a.Compare [op] [b] pos) (tB t):=⟨L2.pt_cmp h0.un h1⟩
theorem pe_chain {X:Cx}{a b c:Expr}{ta tb tc:TE}{pos:Pos}{op op':CmpOp}{r r':R2} (h0:OpR X (compareOp op) r) (h1:OpR X (compareOp op') r') (h2:QE X a ta) (h3:QE X b tb) (h4:QE X c tc) (h5:autoParam (lastMarks [op,op'] [b,c] = false) L2.pe_chain._auto_1):QE X (a.Compare [op,op'] [b,c] pos) (tChain r r' ta tb tc):=⟨L2.pe_chain h0 h1 h2.un h3.un h4.un h5⟩
theorem pt_chain {X:Cx}{a b c:Expr}{ta tb tc:TE}{pos:Pos}{op op':CmpOp}{r r':R2} (h0:OpR X (compareOp op) r) (h1:OpR X (compareOp op') r') (h2:QE X a ta) (h3:QE X b tb) (h4:QE X c tc) (h5:autoParam (lastMarks [op,op'] [b,c] = false) L2.pt_chain._auto_1):QT X (a.Compare [op,op'] [b,c] pos) (tTest (tChain r r' ta tb tc)):=⟨L2.pt_chain h0 h1 h2.un h3.un h4.un h5⟩
theorem pe_and {X:Cx}{a b:Expr}{ta tb:TE}{pos:Pos}{rest:List Expr} (h0:QE X a ta) (h1:QE X (Expr.BoolOp BoolOp.And (b :: rest) pos) tb):QE X (Expr.BoolOp BoolOp.And (a :: b :: rest) pos) (tAndV ta tb):=⟨L2.pe_and h0.un h1.un⟩
theorem pe_or {X:Cx}{a b:Expr}{ta tb:TE}{pos:Pos}{rest:List Expr} (h0:QE X a ta) (h1:QE X (Expr.BoolOp BoolOp.Or (b :: rest) pos) tb):QE X (Expr.BoolOp BoolOp.Or (a :: b :: rest) pos) (tOrV ta tb):=⟨L2.pe_or h0.un h1.un⟩
theorem pe_one {X:Cx}{a:Expr}{pos:Pos}{op:BoolOp}{t:TE} (h0:QE X a t):QE X (Expr.BoolOp op [a] pos) t:=⟨L2.pe_one h0.un⟩
theorem pe_ifExp {X:Cx}{a b:Expr}{ta tb:TE}{pos:Pos}{tA:TT}{c:Expr} (h0:QT X c tA) (h1:QE X a ta) (h2:QE X b tb):QE X (c.IfExp a b pos) (tIf tA ta tb):=⟨L2.pe_ifExp h0.un h1.un h2.un⟩
theorem pt_val {X:Cx}{e:Expr}{t:TE} (h:QE X e t) (he:∀ whole,isTrue e X.env whole = (do let v ← whole; standAt e.pos; holding [v] (truthy v)):=by intro _; rfl):QT X e (tB t):=⟨L2.pt_val h.un he⟩
theorem pt_not {X:Cx}{a:Expr}{pos:Pos}{tA:TT} (h0:QT X a tA):QT X (Expr.UnaryOp UnaryOp.Not a pos) (tNot tA):=⟨L2.pt_not h0.un⟩
theorem pw_and {X:Cx}{a b:Expr}{pos:Pos}{tA tB':TT}{rest:List Expr} (h0:QT X a tA) (h1:QW X (Expr.BoolOp BoolOp.And (b :: rest) pos) tB'):QW X (Expr.BoolOp BoolOp.And (a :: b :: rest) pos) (tAnd tA tB'):=⟨L2.pw_and h0.un h1.un⟩
theorem pw_and1 {X:Cx}{a:Expr}{pos:Pos}{tA:TT} (h0:QT X a tA):QW X (Expr.BoolOp BoolOp.And [a] pos) tA:=⟨L2.pw_and1 h0.un⟩
theorem pw_or {X:Cx}{a b:Expr}{pos:Pos}{tA tB':TT}{rest:List Expr} (h0:QT X a tA) (h1:QW X (Expr.BoolOp BoolOp.Or (b :: rest) pos) tB'):QW X (Expr.BoolOp BoolOp.Or (a :: b :: rest) pos) (tOr tA tB'):=⟨L2.pw_or h0.un h1.un⟩
theorem pw_or1 {X:Cx}{a:Expr}{pos:Pos}{tA:TT} (h0:QT X a tA):QW X (Expr.BoolOp BoolOp.Or [a] pos) tA:=⟨L2.pw_or1 h0.un⟩
theorem PW.pt {X:Cx}{e:Expr}{t:TT} (h0:QW X e t):QT X e t:=⟨L2.PW.pt h0.un⟩
theorem pe_fn {X:Cx}{x:Str}{k:Nat}{ps:List Str}{sp:Sp}{e:Expr}{es:List Expr}{t:TA}{p pos:Pos} (h0:Have X.prog X.w X.K X.mg X.base x k ps sp) (h1:Room k X.A) (h2:Gl X x) (h3:QA X (e :: es) t) (h4:autoParam ((x == Str.ofString "__debug__") = false) L2.pe_fn._auto_1) (h5:autoParam (starEach (e :: es) X.env = (false,eval e X.env) :: starEach es X.env) L2.pe_fn._auto_2) (h6:autoParam (((backTo pos (starEach es X.env)).any fun (x:Bool × Sem Value)=>x.fst) = false) L2.pe_fn._auto_3):QE X ((Expr.Name x p).Call (e :: es) [] pos) (tCall sp [] E0 t):=⟨L2.pe_fn h0 h1 h2 h3.un h4 h5 h6⟩
theorem pe_callB {X:Cx}{x:Str}{p pos:Pos}{e:Expr}{es:List Expr}{t:TA}{id:String}{r:List V->Hp->VK->Prop} (h0:CallR X (Value.builtin id) r) (h1:Gl X x) (h2:X.mg x = none) (h3:bootBuiltins x = some (Value.builtin id)) (h4:QA X (e :: es) t) (h5:autoParam (x≠Str.ofString "__name__") L2.pe_callB._auto_1) (h6:autoParam ((x == Str.ofString "__debug__") = false) L2.pe_callB._auto_2) (h7:autoParam (starEach (e :: es) X.env = (false,eval e X.env) :: starEach es X.env) L2.pe_callB._auto_3) (h8:autoParam (((backTo pos (starEach es X.env)).any fun (x:Bool × Sem Value)=>x.fst) = false) L2.pe_callB._auto_4):QE X ((Expr.Name x p).Call (e :: es) [] pos) (tCB r t):=⟨L2.pe_callB h0 h1 h2 h3 h4.un h5 h6 h7 h8⟩
theorem pe_callTy {X:Cx}{x:Str}{p pos:Pos}{e:Expr}{es:List Expr}{t:TA}{T:String}{r:List V->Hp->VK->Prop} (h0:CallR X (Value.type T) r) (h1:Gl X x) (h2:X.mg x = none) (h3:bootBuiltins x = some (Value.type T)) (h4:QA X (e :: es) t) (h5:autoParam (x≠Str.ofString "__name__") L2.pe_callTy._auto_1) (h6:autoParam ((x == Str.ofString "__debug__") = false) L2.pe_callTy._auto_2) (h7:autoParam (starEach (e :: es) X.env = (false,eval e X.env) :: starEach es X.env) L2.pe_callTy._auto_3) (h8:autoParam (((backTo pos (starEach es X.env)).any fun (x:Bool × Sem Value)=>x.fst) = false) L2.pe_callTy._auto_4):QE X ((Expr.Name x p).Call (e :: es) [] pos) (tCB r t):=⟨L2.pe_callTy h0 h1 h2 h3 h4.un h5 h6 h7 h8⟩
theorem pe_bm {X:Cx}{o e:Expr}{es:List Expr}{to:TE}{t:TA}{name:Str}{apos cpos:Pos}{T id:String}{r:V->List V->Hp->VK->Prop} (pa:PlainAttrs T) (slot:Slot T name id) (hty:typeOf (.builtin id) = pure (.type "method_descriptor")) (hm:MtR X id r) (ho:QE X o to) (ha:QA X (e :: es) t)
  (hbase:attributeBase o name X.env (eval o X.env) = eval o X.env:=by rfl)
  (hfew:((backTo cpos (starEach (e :: es) X.env)).all (fun x=>!x.1) && (backToKw cpos (keywordEach [] X.env)).all (fun x=>x.1.isSome)
   && decide ((e :: es).length + ([]:List Keyword).length + (if ([]:List Keyword).isEmpty then 0 else 1) < 30)) = true:=by rfl)
  (hline:(apos.endLine == cpos.line) = true:=by rfl) (hs:starEach (e :: es) X.env = (false,eval e X.env) :: starEach es X.env:=by rfl) (hplain:(backTo cpos (starEach es X.env)).any (·.1) = false:=by rfl):
  QE X (.Call (.Attribute o name apos) (e :: es) [] cpos) (tBM X.K T r to t):=⟨L2.pe_bm pa slot hty hm ho.un ha.un hbase hfew hline hs hplain⟩
theorem pe_bm0 {X:Cx}{o:Expr}{to:TE}{name:Str}{apos cpos:Pos}{T id:String}{r:V->List V->Hp->VK->Prop} (h0:PlainAttrs T) (h1:Slot T name id) (h2:typeOf (Value.builtin id) = pure (Value.type "method_descriptor")) (h3:MtR X id r) (h4:QE X o to) (h5:autoParam (attributeBase o name X.env (eval o X.env) = eval o X.env) L2.pe_bm0._auto_1) (h6:autoParam ((apos.endLine == cpos.line) = true) L2.pe_bm0._auto_2):QE X ((o.Attribute name apos).Call [] [] cpos) (tBM0 X.K T r to):=⟨L2.pe_bm0 h0 h1 h2 h3 h4.un h5 h6⟩
theorem pe_ix {X:Cx}{a b:Expr}{ta tb:TE}{pos:Pos}{r:R2} (h0:IxR X r) (h1:QE X a ta) (h2:QE X b tb) (h3:PlainIx b):QE X (a.Subscript b pos) (tOp r ta tb):=⟨L2.pe_ix h0 h1.un h2.un h3⟩
theorem pe_slice {X:Cx}{e:Expr}{te:TE}{lo hi:Option Expr}{tl th:TO}{pos p2:Pos}{r:V->Option Int->Option Int->Hp->VK->Prop} (h0:SlR X r) (h1:QE X e te) (h2:QO X lo tl) (h3:QO X hi th):QE X (e.Subscript (Expr.Slice lo hi none p2) pos) (tSl r te tl th):=⟨L2.pe_slice h0 h1.un h2.un h3.un⟩
theorem po_none {X:Cx}:QO X none tNoPart:=⟨L2.po_none ⟩
theorem po_some {X:Cx}{e:Expr}{te:TE} (h0:QE X e te):QO X (some e) (tPart te):=⟨L2.po_some h0.un⟩
theorem pe_lst {X:Cx}{es:List Expr}{t:TA}{pos:Pos} (h0:QA X es t):QE X (Expr.List es pos) (tLst t):=⟨L2.pe_lst h0.un⟩
theorem pe_tup {X:Cx}{es:List Expr}{t:TA}{pos:Pos}{x1:Nat} (h0:QA X es t):QE X (Expr.Tuple es x1 pos) (tTup t):=⟨L2.pe_tup h0.un⟩
theorem pa_nil {X:Cx}:QA X [] tNil:=⟨L2.pa_nil ⟩
theorem pa_cons {X:Cx}{e:Expr}{es:List Expr}{te:TE}{t:TA} (h0:QE X e te) (h1:QA X es t) (h2:autoParam (starEach (e :: es) X.env = (false,eval e X.env) :: starEach es X.env) L2.pa_cons._auto_1):QA X (e :: es) (tCons te t):=⟨L2.pa_cons h0.un h1.un h2⟩
theorem pe_dnewK {X:Cx}{pos:Pos}:QE X (Expr.Dict [] [] pos) tDNewK:=⟨L2.pe_dnewK ⟩
theorem pe_dget {X:Cx}{o i:Expr}{pos:Pos}{td ty:TE} (h0:X.A.units + 1 < cLine) (h1:QE X o td) (h2:QE X i ty) (h3:NoSl i):QE X (o.Subscript i pos) (tDGet td ty):=⟨L2.pe_dget h0 h1.un h2.un h3⟩
theorem pc_din {X:Cx}{o i:Expr}{td ty:TE} (h0:X.A.units + 1 < cLine) (h1:QE X i ty) (h2:QE X o td):QC X CmpOp.In i o (tDIn ty td):=⟨L2.pc_din h0 h1.un h2.un⟩
theorem pc_dnotin {X:Cx}{o i:Expr}{td ty:TE} (h0:X.A.units + 1 < cLine) (h1:QE X i ty) (h2:QE X o td):QC X CmpOp.NotIn i o (tDNotIn ty td):=⟨L2.pc_dnotin h0 h1.un h2.un⟩
theorem pc_isN {X:Cx}{a:Expr}{ta:TE}{j:Nat}{pos':Pos} (h0:QE X a ta):QC X CmpOp.Is a (Expr.Constant Const.none j pos') (tIsN ta):=⟨L2.pc_isN h0.un⟩
theorem pc_notN {X:Cx}{a:Expr}{ta:TE}{j:Nat}{pos':Pos} (h0:QE X a ta):QC X CmpOp.IsNot a (Expr.Constant Const.none j pos') (tNotN ta):=⟨L2.pc_notN h0.un⟩
theorem ps_dput {X:Cx}{o i value:Expr}{pos pos':Pos}{td ty tv:TE} (h0:X.A.units + 1 < cLine) (h1:QE X o td) (h2:QE X i ty) (h3:QE X value tv) (h4:swapsWith value (some (o.Subscript i pos')) pos.line X.env = pure false):QS X (Stmt.Assign [o.Subscript i pos'] value pos) (sDPut td ty tv):=⟨L2.ps_dput h0 h1.un h2.un h3.un h4⟩
theorem pe_dget1 {X:Cx}{o e:Expr}{apos cpos:Pos}{td ty:TE} (h0:X.A.units + 1 < cLine) (h1:QE X o td) (h2:QE X e ty) (h3:M1 X o (Str.ofString "get") apos e cpos):QE X ((o.Attribute (Str.ofString "get") apos).Call [e] [] cpos) (tDGet1 td ty):=⟨L2.pe_dget1 h0 h1.un h2.un h3⟩
theorem pe_dpop2 {X:Cx}{o e f:Expr}{apos cpos:Pos}{td ty tx:TE} (h0:QE X o td) (h1:QE X e ty) (h2:QE X f tx) (h3:M2 X o (Str.ofString "pop") apos e f cpos):QE X ((o.Attribute (Str.ofString "pop") apos).Call [e,f] [] cpos) (tDPop2 td ty tx):=⟨L2.pe_dpop2 h0.un h1.un h2.un h3⟩
theorem pe_lcomp {X:Cx}{elt iter:Expr}{x:Str}{px pos:Pos}{ifs:List Expr}{scope:Scope}{cl:List (Str × Addr)} (fr:List Nat) (ys:List Str) {wi:TI}{tt:TT}{te:TE} (h0:X.calm = true) (h1:closureFor scope X.env = pure cl) (h2:(∀ (y:Str × NameKind),y∈scope.names->y.snd≠NameKind.cell)) (h3:scope.kind = ScopeKind.function) (h4:(∀ (y:Str × NameKind),y∈scope.names->y.snd = NameKind.local->List.lookup y.fst scope.names = some NameKind.local)) (h5:List.lookup x scope.names = some NameKind.local) (h6:(x :: ys).Nodup) (h7:ClOk cl X.env.cells) (h8:(scope.names.all fun (y:Str × NameKind)=>y.snd != NameKind.free || (List.lookup y.fst cl).isSome) = true) (h9:FrOk X scope cl fr ys) (h10:QI X (Expr.Name x px) iter wi) (h11:(∀ (C:Addr) (s:Shared) (H:Hp) (fp:List Addr),QIfs (cxComp X scope cl (x :: ys) C s H fp) ifs tt/\QE (cxComp X scope cl (x :: ys) C s H fp) elt te)) (h12:autoParam (∀ (v:Value),foldedSetIterable iter X.env v = pure v) L2.pe_lcomp._auto_1):QE X (elt.ListComp [{ target:=Expr.Name x px,iter:=iter,ifs:=ifs,is_async:=0 }] scope pos) (tLComp fr wi tt te):=⟨L2.pe_lcomp fr ys h0 h1 h2 h3 h4 h5 h6 h7 h8 h9 h10.un (fun C s H fp=>⟨(h11 C s H fp).1.un,(h11 C s H fp).2.un⟩) h12⟩
theorem pifs_nil {X:Cx}:QIfs X [] fun (x:St) (H:Hp) (Q:Bool->Hp->Prop)=>Q true H:=⟨L2.pifs_nil ⟩
theorem pifs_one {X:Cx}{c:Expr}{t:TT} (h0:QT X c t):QIfs X [c] t:=⟨L2.pifs_one h0.un⟩
theorem pi_list {X:Cx}{tg l:Expr}{tl:TE} (h0:QE X l tl):QI X tg l (iList X.K tl):=⟨L2.pi_list h0.un⟩
theorem pi_tup {X:Cx}{tg l:Expr}{tl:TE} (h0:QE X l tl):QI X tg l (iTup X.K tl):=⟨L2.pi_tup h0.un⟩
theorem pi_str {X:Cx}{tg e:Expr}{te:TE} (h0:QE X e te):QI X tg e (iStr te):=⟨L2.pi_str h0.un⟩
theorem pi_range1 {X:Cx}{tg a:Expr}{ta:TA}{p pos:Pos} (h0:Gl X (Str.ofString "range")) (h1:X.mg (Str.ofString "range") = none) (h2:QA X [a] ta) (h3:autoParam (starEach [a] X.env = [(false,eval a X.env)]) L2.pi_range1._auto_1):QI X tg ((Expr.Name (Str.ofString "range") p).Call [a] [] pos) (iRng1 ta):=⟨L2.pi_range1 h0 h1 h2.un h3⟩
theorem pg_name {X:Cx}{pos:Pos}{i:Nat}{x:Str} (h0:X.N.Nodup) (h1:X.N[i]? = some x) (h2:L2.Loc X.env.scope x) (h3:autoParam (X.fn x = true\/List.lookup x X.env.scope.names = some NameKind.local) L2.pg_name._auto_1):QG X (Expr.Name x pos) (gName i):=⟨L2.pg_name h0 h1 h2 h3⟩
theorem pg_tup {X:Cx}{pos:Pos}{es:List Expr}{k:Nat}{t:TGs}{n:Nat} (h0:X.calm = true) (h1:QGs X es t) (h2:autoParam ((assignEach es X.env).length = n) L2.pg_tup._auto_1) (h3:autoParam (List.findIdx? (fun (x:Bool × (Value->Sem Unit))=>x.fst) (assignEach es X.env) = none) L2.pg_tup._auto_2):QG X (Expr.Tuple es k pos) (gTup X.K n t):=⟨L2.pg_tup h0 h1.un h2 h3⟩
theorem pgs_nil {X:Cx}:QGs X [] gNil:=⟨L2.pgs_nil ⟩
theorem pgs_cons {X:Cx}{e:Expr}{es:List Expr}{t:TG}{u:TGs} (h0:QG X e t) (h1:QGs X es u) (h2:autoParam (List.map (fun (x:Bool × (Value->Sem Unit))=>x.snd) (assignEach (e :: es) X.env) = assign e X.env :: List.map (fun (x:Bool × (Value->Sem Unit))=>x.snd) (assignEach es X.env)) L2.pgs_cons._auto_1):QGs X (e :: es) (gCons t u):=⟨L2.pgs_cons h0.un h1.un h2⟩
theorem pg_sub {X:Cx}{pos:Pos}{o i:Expr}{to ti:TE}{t:TSet} (ho:QE X o to) (hi:QE X i ti) (hs:PSet X t)
  (ha:∀ v,assign (.Subscript o i pos) X.env v = (do
   let ov ← holding [v] (eval o X.env)
   let iv ← holding [v,ov] (eval i X.env)
   standAt pos
   holding [v,ov,iv] (setItem ov iv v)
   release [v,ov,iv] []):=by intro _; rfl):QG X (.Subscript o i pos) (gSub to ti t):=⟨L2.pg_sub ho.un hi.un hs ha⟩
theorem pe_fld {X:Cx}{e:Expr}{f:Str}{pos:Pos}{ta:TE} (h0:QE X e ta) (h1:attributeBase e f X.env (eval e X.env) = eval e X.env):QE X (e.Attribute f pos) (tFld X.K ta f):=⟨L2.pe_fld h0.un h1⟩
theorem ps_fld {X:Cx}{o value:Expr}{f:Str}{pos pos':Pos}{ta tv:TE} (h0:QE X o ta) (h1:QE X value tv) (h2:swapsWith value (some (o.Attribute f pos')) pos.line X.env = pure false):QS X (Stmt.Assign [o.Attribute f pos'] value pos) (sFld X.K ta tv f):=⟨L2.ps_fld h0.un h1.un h2⟩
theorem pe_globS {X:Cx}{x:Str}{z:Str}{pos:Pos} (hg:Gl X x) (hm:∃ t,X.mg x = some (.str z t)) (hd:(x == ("__debug__":Str)) = false:=by decide):QE X (.Name x pos) (tC (.str z)):=⟨L2.pe_globS hg hm hd⟩
end D
namespace L2
open PySem PySem.Spec PyProof.Rows
def MD (P:Program) (w:World) (K:PySem.W.Frag) (g:Addr) (kvs:List (Key × V)):Prop:=
 ∃ (o:Obj) (vs:List (Key × Value)),K.lookup g = some o/\PySem.Obj.IsDictOf (mixKind P w) o vs/\KV kvs vs/\(g == sysModules) = false
theorem MD.dict {P:Program}{w:World}{K:PySem.W.Frag}{g:Addr}{kvs:List (Key × V)}{h:Heap} (m:MD P w K g kvs) (x:K.In h):∃ vs,KV kvs vs/\h.DictOf (mixKind P w) g vs/\(g == sysModules) = false:=by
 obtain ⟨o,vs,e,d,r,n⟩:=m
 exact ⟨vs,r,Heap.dictOf_iff.mpr ⟨o,x _ _ e,d⟩,n⟩
theorem pairs_of {P:Program}{w:World}:∀ l:List (Str × Tok × V × Value),Pairs (mixKind P w) (l.map fun p=>(⟨hashStr w p.1,.str p.1 p.2.1,p.2.2.2⟩:DictEntry)) (l.map fun p=>((Sum.inr p.1:Key),p.2.2.2))
 | []=>.nil
 | p :: r=>.cons (mixKind_str P w p.1 p.2.1) rfl (pairs_of r)
theorem kv_of:∀ l:List (Str × Tok × V × Value),(∀ p∈l,RelV p.2.2.1 p.2.2.2)->KV (l.map fun p=>((Sum.inr p.1:Key),p.2.2.1)) (l.map fun p=>((Sum.inr p.1:Key),p.2.2.2))
 | [],_=>.nil
 | p :: r,h=>.cons ⟨rfl,h p List.mem_cons_self⟩ (kv_of r fun q hq=>h q (List.mem_cons_of_mem _ hq))
theorem md_of {P:Program}{w:World}{K:PySem.W.Frag}{g:Addr} (l:List (Str × Tok × V × Value)) {ep:Nat} (e:K.lookup g = some ⟨.type "dict",none,.dict (l.map fun p=>(⟨hashStr w p.1,.str p.1 p.2.1,p.2.2.2⟩:DictEntry)).toArray ep,#[]⟩)
  (n:(g == sysModules) = false) (hr:∀ p∈l,RelV p.2.2.1 p.2.2.2) (nd:(l.map (·.1)).Nodup):MD P w K g (l.map fun p=>((Sum.inr p.1:Key),p.2.2.1)):=by
 refine ⟨_,l.map fun p=>((Sum.inr p.1:Key),p.2.2.2),e,⟨_,_,⟨rfl,rfl,rfl⟩,rfl,?_,?_,?_⟩,kv_of l hr,n⟩
 ·intro x hx
  have hx':x∈l.map fun p=>(⟨hashStr w p.1,.str p.1 p.2.1,p.2.2.2⟩:DictEntry):=by simpa using hx
  obtain ⟨p,_,rfl⟩:=List.mem_map.mp hx'
  exact ⟨Sum.inr p.1,mixKind_str P w p.1 p.2.1,rfl⟩
 ·rw [List.toList_toArray]
  exact pairs_of l
 ·rw [List.map_map]
  have:(l.map ((fun x:Key × Value=>x.1) ∘ fun p=>((Sum.inr p.1:Key),p.2.2.2))) = (l.map (·.1)).map (Sum.inr:Str->Key):=by rw [List.map_map]; rfl
  rw [this]
  exact List.pairwise_map.mpr (List.Pairwise.imp (fun {a b} (h:a≠b) (e:(Sum.inr a:Key) = Sum.inr b)=>h (by simpa using e)) nd)
theorem op_inM {X:Cx}:OpR X (compareOp .In) (fun x y H Q=>∃ (g:Addr) (kvs:List (Key × V)) (k:Key),x = kV k/\y = .ref g/\MD X.prog X.w X.K g kvs/\Q (.bl (valV kvs k).isSome) H):=by
 intro zp s σ H x y v u Q I rx ry h
 obtain ⟨g,kvs,k,rfl,rfl,m,q⟩:=h
 cases ry
 obtain ⟨vs,rel,dd,hd⟩:=m.dict I.kIn
 refine wpAny_in_of (kV_is rx) hd dd.mapOf ?_
 rw [← (rel.val k).isSome_eq]
 exact ⟨.bl _,H,I.tok _,rfl,q⟩
theorem op_notInM {X:Cx}:OpR X (compareOp .NotIn) (fun x y H Q=>∃ (g:Addr) (kvs:List (Key × V)) (k:Key),x = kV k/\y = .ref g/\MD X.prog X.w X.K g kvs/\Q (.bl (!(valV kvs k).isSome)) H):=by
 intro zp s σ H x y v u Q I rx ry h
 obtain ⟨g,kvs,k,rfl,rfl,m,q⟩:=h
 cases ry
 obtain ⟨vs,rel,dd,hd⟩:=m.dict I.kIn
 refine wpAny_notIn_of (kV_is rx) hd dd.mapOf ?_
 rw [← (rel.val k).isSome_eq]
 exact ⟨.bl _,H,I.tok _,rfl,q⟩
theorem ix_mod {X:Cx}:IxR X (fun x y H Q=>∃ (g:Addr) (kvs:List (Key × V)) (k:Key) (v:V),x = .ref g/\y = kV k/\MD X.prog X.w X.K g kvs/\valV kvs k = some v/\Q v H):=by
 intro value slice zp s σ H x y v u Q I rx ry h hs
 obtain ⟨g,kvs,k,z,rfl,rfl,m,hv,q⟩:=h
 cases rx
 obtain ⟨vs,rel,dd,hd⟩:=m.dict I.kIn
 obtain ⟨w',hw,rw'⟩:=RelO.some_of (v:=z) (o:=valueAt vs k) (by rw [← hv]; exact rel.val k)
 exact tail_any dd.typeIs PySem.F.slot_dict_getitem.lookup (wpAny_getItem_of (kV_is ry) dd.mapOf hw ⟨z,H,I.tok _,rw',q⟩) hs
def HaveF (P:Program) (w:World) (K:PySem.W.Frag) (mg:Str->Option Value) (base:Heap) (f:Addr) (k:Nat) (ps:List Str) (sp:Sp):Prop:=∃ fd:FuncData,FnOk P w K mg base CX0 k f fd ps sp/\Binds K fd ps []/\keepIn K (.ref f) = true
theorem HaveF.mono {P:Program}{w:World}{K:PySem.W.Frag}{mg:Str->Option Value}{base:Heap}{f:Addr}{j k:Nat}{ps:List Str}{sp:Sp} (h:HaveF P w K mg base f j ps sp) (e:j<=k):HaveF P w K mg base f k ps sp:=
 let ⟨fd,F,r⟩:=h; ⟨fd,F.mono e,r⟩
def tCallF (P:Program) (w:World) (K:PySem.W.Frag) (mg:Str->Option Value) (base:Heap) (k:Nat) (tf:TE) (t:TA):TE:=fun σ H Q=>tf σ H fun x H1=>∃ (f:Addr) (ps:List Str) (sp:Sp),x = .ref f/\HaveF P w K mg base f k ps sp/\t σ H1 fun vs H2=>sp vs H2 Q E0
theorem pe_callF {X:Cx}{k:Nat}{fe e:Expr}{es:List Expr}{tf:TE}{t:TA}{pos:Pos} (hr:Room k X.A) (hf:PE X fe tf) (ha:PA X (e :: es) t)
  (hev:eval (.Call fe (e :: es) [] pos) X.env = (do callWith pos (← eval fe X.env) [] (backTo pos (starEach (e :: es) X.env)) (backToKw pos (keywordEach [] X.env))):=by rfl)
  (he:starEach (e :: es) X.env = (false,eval e X.env) :: starEach es X.env:=by rfl) (hpl:(backTo pos (starEach es X.env)).any (·.1) = false:=by rfl):
  PE X (.Call fe (e :: es) [] pos) (tCallF X.prog X.w X.K X.mg X.base k tf t):=by
 intro zp s σ H Q I h
 refine Call_ (thn (hf zp s σ H _ I h) fun fv s1 ⟨x,H1,I1,rx,f,ps,sp,ex,⟨fd,F,b,kp⟩,q1⟩=>?_) hev
 subst ex
 obtain rfl:fv = Value.ref f:=rx
 refine callWith_K (h₀:=X.base) I.ok.mod.kin kp (thn (ha pos zp s1 σ H1 _ I1 q1) fun us s2 ⟨vs,H2,I2,r,q⟩=>⟨I2.kIn,?_⟩) he hpl
 exact run_fn F hr b .nil pass0 I2 r (by rw [List.append_nil]; exact q)
end L2
namespace D
open PySem L2
theorem pe_callF {X:Cx}{k:Nat}{fe e:Expr}{es:List Expr}{tf:TE}{t:TA}{pos:Pos} (hr:Room k X.A) (hf:QE X fe tf) (ha:QA X (e :: es) t)
  (hev:eval (.Call fe (e :: es) [] pos) X.env = (do callWith pos (← eval fe X.env) [] (backTo pos (starEach (e :: es) X.env)) (backToKw pos (keywordEach [] X.env))):=by rfl)
  (he:starEach (e :: es) X.env = (false,eval e X.env) :: starEach es X.env:=by rfl) (hpl:(backTo pos (starEach es X.env)).any (·.1) = false:=by rfl):
  QE X (.Call fe (e :: es) [] pos) (tCallF X.prog X.w X.K X.mg X.base k tf t):=⟨L2.pe_callF hr hf.un ha.un hev he hpl⟩
end D
namespace L2
open PySem PySem.Spec PyProof.Rows PySem.Builtin PySem.Builtin.Str
def rJoin (K:PySem.W.Frag):R2:=fun x y H Q=>(∃ i j,x = .str i/\y = .str j/\i.length + j.length<=sizeLine/\Q (.str (i ++ j)) H)\/rCatT K x y H Q \/
 ∃ (a b:Addr) (ys:List V),x = .ref a/\y = .ref b/\SqT K H a []/\SqT K H b ys/\Q (.ref b) H
theorem op_join {X:Cx}:OpR X (binaryOp .Add) (rJoin X.K):=OpR.or op_add_str (OpR.or op_catT op_catT0)
theorem vals_strs:∀ (xs:List Str) (k:Nat),Vals (xs.map V.str) (strsFrom k xs)
 | [],_=>.nil
 | x :: r,k=>.cons ⟨_,rfl⟩ (vals_strs r (k + 1))
theorem parts_len (x:Str) (cuts:List Nat) (w:Nat):(partsBetween x cuts w).length = cuts.length + 1:=by
 rw [StrLaws.partsBetween_eq]
 have:∀ (l:List Nat) (a:Nat),(StrLaws.partsFrom x w a l).length = l.length + 1:=fun l=>by
  induction l with
  | nil=>intro a; rfl
  | cons c r ih=>intro a; show (StrLaws.partsFrom x w (c + w) r).length + 1 = _; rw [ih]; rfl
 exact this cuts 0
theorem mt_split {X:Cx}:MtR X "str.split" (fun x xs H Q=>∃ z d:Str,x = .str z/\xs = [.str d]/\d.length = 1/\z.length<=100000/\∀ l,H l = none->Q (.ref l) (upd H l (.lst ((Txt.split z d).map V.str)))):=by
 intro zp s σ H x xs v us Q I rx rv h
 obtain ⟨z,d,rfl,rfl,hd1,hz,q⟩:=h
 obtain ⟨t,rfl⟩:=rx
 obtain ⟨u,rfl,tu,rfl⟩:=vals1 rv
 have hz1:z.length<=sizeLine:=Nat.le_trans hz (by decide)
 have hy:(d.length == 0) = false:=by rw [hd1]; rfl
 have fin:∀ (its:List Value) (tk:Nat),Vals ((Txt.split z d).map V.str) its->(Txt.split z d).length<=sizeLine->EP X zp σ Q (.ref s.heap.objs.size) { s with toks:=tk,heap:=s.heap.push { cls:=.type "list",data:=.seq its.toArray } }:=fun its tk r' hl=>
  ⟨.ref s.heap.objs.size,_,I.laid (t':=tk) (fun b o e=>Heap.get?_push_of_some _ e) (Nat.le_refl _) (show ObjOk X.prog X.w _ _ _ (.lst ((Txt.split z d).map V.str)) from ⟨by rw [List.length_map]; exact hl,its,0,r',Heap.get?_push_size _ rfl⟩),rfl,q _ (I.hok.fresh (Nat.le_refl _))⟩
 cases h1:(decide (z.length < d.length) || decide (strKind z < strKind d))
 ·cases hf:(occurrences z d 0 z.length (z.length + 1)).isEmpty
  ·have e:Txt.split z d = partsBetween z (occurrences z d 0 z.length (z.length + 1)) d.length:=(if_neg (ne_true_of_eq_false h1)).trans (if_neg (ne_true_of_eq_false hf))
   have hl:(partsBetween z (occurrences z d 0 z.length (z.length + 1)) d.length).length<=sizeLine:=by
    rw [parts_len]
    have:=StrLaws.occ_length_le z d 0 z.length (z.length + 1)
    exact Nat.le_trans (show _<=200000 by omega) (by decide)
   refine call_meets F.slot_str_split (typeIs_str _ _ _) F.entry_str_split (F.args_str_split_2 _ _) (meets_str_split_sep z d t tu h1 hy hf hz1 hl) ?_
   exact fin _ _ (by rw [e]; exact vals_strs _ _) (by rw [e]; exact hl)
  ·have e:Txt.split z d = [z]:=(if_neg (ne_true_of_eq_false h1)).trans (if_pos hf)
   exact call_meets F.slot_str_split (typeIs_str _ _ _) F.entry_str_split (F.args_str_split_2 _ _) (meets_str_split_not_found z d t tu h1 hy hf) (fin [.str z t] s.toks (by rw [e]; exact .cons ⟨t,rfl⟩ .nil) (by rw [e]; show 1<=sizeLine; decide))
 ·have e:Txt.split z d = [z]:=if_pos h1
  exact call_meets F.slot_str_split (typeIs_str _ _ _) F.entry_str_split (F.args_str_split_2 _ _) (meets_str_split_cannot_occur z d t tu h1) (fin [.str z t] s.toks (by rw [e]; exact .cons ⟨t,rfl⟩ .nil) (by rw [e]; show 1<=sizeLine; decide))
end L2
namespace L2
open PySem PySem.Spec PyProof.Rows
theorem ps_lset {X:Cx}{i:Nat}{y:Str}{py spos:Pos}{elt iter:Expr}{x:Str}{px pos:Pos}{ifs:List Expr}{scope:Scope}{cl:List (Str × Addr)} (fr:List Nat) (ys:List Str) {wi:TI}{tt:TT}{te:TE}
  (hc:X.calm = true) (hclos:closureFor scope X.env = pure cl) (hcell:∀ y∈scope.names,y.2≠.cell) (hkind:scope.kind = .function) (hnames:∀ y∈scope.names,y.2 = .local->scope.names.lookup y.1 = some .local)
  (hx:scope.names.lookup x = some .local) (hnd:(x :: ys).Nodup) (hcl:ClOk cl X.env.cells) (hall:(scope.names.all fun y=>y.2 != .free || (cl.lookup y.1).isSome) = true) (hfr:FrOk X scope cl fr ys)
  (hi:PI X (.Name x px) iter wi)
  (hY:∀ C s H fp,PIfs (cxComp X scope cl (x :: ys) C s H fp) ifs tt/\PE (cxComp X scope cl (x :: ys) C s H fp) elt te)
  (hN:X.N.Nodup) (hiy:X.N[i]? = some y) (hy:Loc X.env.scope y) (hsw:swapsWith (.ListComp elt [⟨.Name x px,iter,ifs,0⟩] scope pos) (some (.Name y py)) spos.line X.env = pure true:=by rfl)
  (hf:X.fn y = true\/X.env.scope.names.lookup y = some .local:=by first | exact .inl rfl | exact .inr rfl | assumption)
  (hs:∀ v,foldedSetIterable iter X.env v = pure v:=by intro _; rfl):
  PS X (.Assign [.Name y py] (.ListComp elt [⟨.Name x px,iter,ifs,0⟩] scope pos) spos) (tAsg (tLComp fr wi tt te) (gName i)):=by
 intro zp s σ H Dn I h
 rw [exec_Assign_Name_used _ _ _ _ hsw]
 refine wpAny_bind (wpAny_standAt (wpAny_bind ?_))
 refine (show wpAny _ X.A (do let _ ← comprehension (.ListComp elt [⟨.Name x px,iter,ifs,0⟩] scope pos) scope X.env _ (newList []) false (eval iter X.env) (some (assign (.Name y py) X.env))) _ _ s from ?_)
 refine wpAny_bind (wpAny_mono (wpAny_comprehension_free (use:=some (assign (.Name y py) X.env)) (Q:=fun _ s'=>SP X zp Dn .next s') rfl hs hclos hkind hnames (wpAny_mono (hi zp s σ H _ I h) (fun v s1 h1=>wpAny_mono h1 (fun itv s2 h2=>?_) fun _ _ e=>e) fun _ _ e=>e)) (fun _ s' hq=>wpAny_pure (wpAny_pure hq)) fun _ _ e=>e)
 obtain ⟨it,fp,tn,J,H2,rfl,I2,T,st2,f2,W,⟨m0,w0⟩,turn⟩:=h2
 refine wpAny_newObj_type (wpAny_newFunctionEnv hcell (by intro y hy; simp at hy) (fun h₁ hns₁ hsb₁=>?_) hkind)
 dsimp only at hns₁ hsb₁ ⊢
 generalize hP2:s2.heap.push { cls:=.type "list",dict:=none,data:=.seq ([]:List Value).toArray } = P2 at hns₁ hsb₁ ⊢
 have hC:P2.objs.size = s2.heap.objs.size + 1:=by rw [← hP2,Heap.size_push]
 have hDC:s2.heap.objs.size≠P2.objs.size:=by rw [hC]; exact Nat.ne_of_lt (Nat.lt_succ_self _)
 have hCle:s2.heap.objs.size<=P2.objs.size:=by rw [hC]; exact Nat.le_succ _
 have below:∀ b,b < s2.heap.objs.size->b≠P2.objs.size/\b≠s2.heap.objs.size:=fun b hb=>⟨by rw [hC]; exact Nat.ne_of_lt (Nat.lt_succ_of_lt hb),Nat.ne_of_lt hb⟩
 have old:∀ b o,s2.heap.get? b = some o->h₁.get? b = some o:=fun b o e=>hsb₁.extBut b o (below b (Heap.lt_size e)).1 (Heap.get?_push_of_some _ (hP2 ▸ Heap.get?_push_of_some _ e))
 have hacc:h₁.get? s2.heap.objs.size = some { cls:=.type "list",data:=.seq ([]:List Value).toArray }:=hsb₁.extBut _ _ hDC (Heap.get?_push_of_some _ (hP2 ▸ Heap.get?_push_size _ rfl))
 have fpl:∀ b∈fp,b < s2.heap.objs.size:=fun b hb=>by
  obtain ⟨o,e,_⟩:=T.obj _ _ st2 b hb
  exact Heap.lt_size e
 have tlt:∀ b o,H2 b = some o->b < s2.heap.objs.size:=fun b o e=>I2.hok.lt e
 generalize hCg:P2.objs.size = C at hns₁ hsb₁ hDC hCle below ⊢
 generalize hDg:s2.heap.objs.size = D at hDC below hacc fpl tlt ⊢
 have hDle:D<=C:=by rw [← hDg]; exact hCle
 have cls:∀ y c,cl.lookup y = some c->X.env.cells.lookup y = some c:=fun y c e=>hcl.mem e
 have clt:∀ y c,cl.lookup y = some c->c < D:=fun y c e=>by
  obtain ⟨v,q⟩:=I2.cell y c (cls y c e)
  rw [← hDg]; exact q.lt
 have sub:∀ b∈frs X.stack,b < D:=fun b hb=>by
  rcases List.mem_cons.mp (I2.stkSub b hb) with e | hb
  ·rw [e,← hDg]; exact I2.lt
  ·obtain ⟨_,o,ho,_⟩:=I2.ok.funs.mem hb
   rw [← hDg]; exact Nat.lt_of_lt_of_le (Heap.lt_size ho) I2.sz
 obtain ⟨YI,YE⟩:=hY C s2 H2 fp
 have Yok:(cxComp X scope cl (x :: ys) C s2 H2 fp).Ok:=by
  refine ⟨I2.ok.mod,hkind,I2.ok.glob,I2.ok.blt,hCle,?_,?_,?_,fun _=>I2.ok.hd hc,I2.ok.frames,.inl rfl,?_,I2.bs,Nat.le_trans I2.ok.bsz I2.sz,?_,?_,I2.stack,I2.stkFree⟩
  ·exact fun y z c e1 e2=>I2.ok.inj y z c (cls y c e1) (cls z c e2)
  ·intro y hy
   have hm:=lookup_relabel_inv (env:=X.env) (names:=scope.names) (x:=y) hcell hy
   have q:=List.all_eq_true.mp hall _ hm
   show ∃ c,cl.lookup y = some c
   exact Option.isSome_iff_exists.mp (by simpa using q)
  ·intro y c hf _
   exact absurd hf (by show ¬ false = true; decide)
  ·intro b hb
   refine ⟨(below b (fpl b hb)).1,fun y c e z=>?_⟩
   exact (f2 b hb).2.2.2.2.1 y c (cls y c e) z
  ·intro b o e hb
   have hb:b∈fp:=hb
   rcases (f2 b hb).2.2.2.1 with z | z
   ·exact I2.ok.noex b o e z
   ·exact absurd (Nat.lt_of_lt_of_le (Heap.lt_size e) (Nat.le_trans I2.ok.bsz z)) (Nat.lt_irrefl _)
  ·intro b hb hf
   have hb:b∈fp:=hb
   rcases List.mem_cons.mp (I2.stkSub b hf) with e | hf
   ·exact (f2 b hb).2.1 e
   ·exact (f2 b hb).2.2.1 hf
 have hvis:Loc (cxComp X scope cl (x :: ys) C s2 H2 fp).env.scope x:=.inl (lookup_relabel_local hx)
 have start:∀ tk,Inv (cxComp X scope cl (x :: ys) C s2 H2 fp) [] (none :: frees fr σ) H2 { s2 with heap:=h₁,toks:=tk }:=fun tk=>by
  refine ⟨Yok,rfl,I2.bare,Un.kept old,⟨_,hns₁,fun i y v e1 e2 e3=>?_⟩,fun y c e=>?_,?_,fun y c e=>?_,fun p hp=>absurd (show p∈([]:List (Addr × Obj)) from hp) (by simp),I2.hok.kept old,?_⟩
  ·cases i with
   | zero=>simp at e2
   | succ j=>
    obtain ⟨i',n1,n2,n3,n4,n5,c,n6⟩:=frees_get hfr j y v (by simpa [cxComp] using e1) (by simpa using e2)
    obtain ⟨m,hn,hl⟩:=I2.loc
    obtain ⟨u,r,l⟩:=hl i' y v n1 n2 n4
    refine ⟨u,r,.inr ⟨lookup_relabel_free n3,c,n6,?_⟩⟩
    rcases l with ⟨k,_⟩ | ⟨k,c',e,z⟩
    ·exact absurd k n5
    ·rw [cls y c n6] at e
     cases e
     obtain ⟨o,ho,hd⟩:=z
     exact ⟨o,old _ _ ho,hd⟩
  ·obtain ⟨v,o,ho,hd⟩:=I2.cell y c (cls y c e)
   exact ⟨v,o,old _ _ ho,hd⟩
  ·show H2 C = none
   cases q:H2 C with
   | none=>rfl
   | some o=>exact absurd (tlt C o q) (Nat.not_lt.mpr hDle)
  ·exact I2.freeC y c (cls y c e)
  ·show (none :: frees fr σ).length = (x :: ys).length
   rw [List.length_cons,List.length_cons,frees_len hfr]
 have fpY:∀ {pl:List (Addr × Obj)}{H':Hp},(∀ b∈fp,H' b = none)->(∀ p∈pl,p.1 = D)->∀ b∈fp,FpOk (cxComp X scope cl (x :: ys) C s2 H2 fp) pl H' b:=fun {pl H'} hn hpl b hb=>by
  refine ⟨hn b hb,(below b (fpl b hb)).1,Yok.exfs b hb,.inl hb,fun y c e z=>(f2 b hb).2.2.2.2.1 y c (cls y c e) z,fun p hp=>?_⟩
  have hp:p∈[] ++ pl:=hp
  rw [List.nil_append] at hp
  rw [hpl p hp]
  exact (below b (fpl b hb)).2.symm
 have loop:∀ s₃:Shared,(∃ tk,s₃ = { s2 with heap:=h₁,toks:=tk })->
   codeAny (model X.prog X.w) X.A (.compLoop (.ListComp elt [⟨.Name x px,iter,ifs,0⟩] scope pos) 0 (.ref it) (.ref D) (compEnvC scope cl C X.env))
    (compPost (model X.prog X.w) X.A X.xe (some (assign (.Name y py) X.env)) (fun _ s'=>SP X zp Dn .next s') (.ref D) C) s₃:=by
  rintro s₃ ⟨tk,rfl⟩
  refine comp_loop
   (fun k s'=>∃ i vs ws nn H',Inv (cxComp X scope cl (x :: ys) C s2 H2 fp) [] (none :: frees fr σ) H' s'/\tn i s'.heap/\(∀ b∈fp,H' b = none)/\H' D = none /\
    s'.heap.get? D = some { cls:=.type "list",data:=.seq (ws:List Value).toArray nn }/\Vals vs ws/\W i k vs H') ?_ m0
   ⟨0,[],[],0,H2,start tk,T.keep _ _ _ st2 fun b _ o e=>old b o e,fun b hb=>(f2 b hb).1,?_,hacc,.nil,w0⟩
  ·rintro n s3 ⟨i,vs,ws,nn,H3,I3,st3,fr3,hD3,ho3,rv3,w3⟩
   have I3':Inv (cxComp X scope cl (x :: ys) C s2 H2 fp) [(D,{ cls:=.type "list",data:=.seq ws.toArray nn })] (none :: frees fr σ) H3 s3:=I3.pins_of fun p hp=>by
    have e:p = (D,{ cls:=.type "list",data:=.seq ws.toArray nn }):=by simpa using hp
    subst e
    refine ⟨ho3,hD3,hDC,fun z=>absurd (sub D z) (Nat.lt_irrefl _),fun v z=>?_⟩
    have z':Data.seq ws.toArray nn = Data.cell v:=z
    cases z'
   have fp3:=fpY (pl:=[(D,{ cls:=.type "list",data:=.seq ws.toArray nn })]) fr3 (fun p hp=>by rw [List.mem_singleton.mp hp])
   obtain ⟨hsz,alt⟩:=turn i n vs H3 w3
   rcases alt with ⟨stop,fin⟩ | ⟨go,step⟩
   ·refine thn (T.done (cxComp X scope cl (x :: ys) C s2 H2 fp) rfl rfl rfl rfl i _ s3 _ H3 _ I3' fp3 st3 stop) fun r s4 ⟨hr,I4⟩=>?_
    subst hr
    have pD:=I4.pin (D,{ cls:=.type "list",data:=.seq ws.toArray nn }) (by show _∈[] ++ _; simp)
    obtain ⟨m4,hn4,_⟩:=I4.loc
    have hC4:H3 C = none:=I4.free
    have hok4:HOk X.prog X.w (upd H3 D (.lst vs)) s4.heap:=HOk.track I4.hok hD3 ⟨hsz,ws,nn,rv3,pD.1⟩
    have b4:=I4.base
    have un4:Un (frs X.stack) fp H2 (upd H3 D (.lst vs)) s2.heap s4.heap:=by
     have lt:∀ b o,s2.heap.get? b = some o->b < D:=fun b o e=>by rw [← hDg]; exact Heap.lt_size e
     refine ⟨b4.keep,b4.slot,fun b o e n hx=>?_,b4.there,fun b zs e=>?_,fun b o u e=>?_,fun b ps e=>?_⟩
     ·rw [upd_ne (below b (lt b o e)).2]; exact b4.free b o e n hx
     ·rw [upd_ne (below b (tlt b _ e)).2]; exact b4.tups b zs e
     ·rw [upd_ne (below b (tlt b _ e)).2]; exact b4.frzs b o u e
     ·rw [upd_ne (below b (tlt b _ e)).2]; exact b4.tbls b ps e
    have I5:Inv X zp σ (upd H3 D (.lst vs)) s4:=I2.call' (ch:=fp) I4.os un4 hok4 I4.bare fun b hb=>⟨(f2 b hb).2.2.2.1,(f2 b hb).2.1,(f2 b hb).2.2.2.2.1,(f2 b hb).2.2.2.2.2⟩
    have fC:FpOk X zp (upd H3 D (.lst vs)) C:=I2.fpOk (by rw [hDg]; exact hDle) (by rw [upd_ne hDC.symm]; exact hC4)
    refine (show wpAny _ X.A (assign (.Name y py) X.env (.ref D)) _ _ s4 from wpAny_assign_Name (store_ok2 I5 hN hiy hy (v:=.ref D) rfl (fun s5 I6 ⟨a,hsa,ha⟩=>?_) hf))
    have aC:C≠a:=by
     rcases ha with ha | ha
     ·rw [ha]; exact fC.2.1
     ·exact (fC.2.2.2.2.1 _ _ ha).symm
    refine ⟨m4,hn4.sameBut hsa aC,fun h' hs'=>⟨_,upd H3 D (.lst vs),I6.turned (t':=s5.toks) (it:=C) (fun b o hb e=>(hs'.2 b hb).trans e) fC.1 fC.2.1 fC.2.2.2.1 fC.2.2.2.2.1 fC.2.2.2.2.2,fin D hD3⟩⟩
   ·refine thn (T.item (cxComp X scope cl (x :: ys) C s2 H2 fp) rfl rfl rfl rfl i _ s3 _ H3 _ I3' fp3 st3 go) fun r s4 ⟨u,hr,h4⟩=>?_
    subst hr
    refine thn h4 fun _ s5 ⟨v,H5,I5,r5,y5,st5,fr5⟩=>?_
    have fp5:=fpY (pl:=[(D,{ cls:=.type "list",data:=.seq ws.toArray nn })]) fr5 (fun p hp=>by rw [List.mem_singleton.mp hp])
    have I5':=I5.pinned fp5 (T.obj _ _ st5)
    refine thn (pg_name (X:=cxComp X scope cl (x :: ys) C s2 H2 fp) (i:=0) (pos:=px) hnd rfl hvis (.inr (lookup_relabel_local hx)) _ s5 _ H5 v u (fun σ' H'=>σ' = some v :: frees fr σ/\H' = H5) I5' r5 ⟨rfl,rfl⟩) fun _ s6 ⟨σ6,H6,I6,e6,e6'⟩=>?_
    subst e6 e6'
    refine thn (YI _ s6 _ _ _ I6 (step v H6 y5)) fun b s7 ⟨H7,I7,q7⟩=>?_
    have back:∀ {H8:Hp}{s8:Shared},Inv (cxComp X scope cl (x :: ys) C s2 H2 fp) ([(D,{ cls:=.type "list",data:=.seq ws.toArray nn })] ++ pinsAt fp s5.heap) (some v :: frees fr σ) H8 s8->
      s8.heap.get? D = some { cls:=.type "list",data:=.seq ws.toArray nn }/\H8 D = none/\(∀ b∈fp,H8 b = none)/\(∀ b∈fp,∀ o,s5.heap.get? b = some o->s8.heap.get? b = some o):=fun {H8 s8} I8=>by
     have pD:=I8.pin (D,{ cls:=.type "list",data:=.seq ws.toArray nn }) (by show _∈[] ++ _; simp)
     refine ⟨pD.1,pD.2.1,fun b hb=>?_,fun b hb o e=>?_⟩
     ·obtain ⟨o,e,d⟩:=T.obj _ _ st5 b hb
      exact (I8.pin (b,o) (List.mem_append_right _ (List.mem_append_right _ (mem_pinsAt hb e)))).2.1
     ·exact (I8.pin (b,o) (List.mem_append_right _ (List.mem_append_right _ (mem_pinsAt hb e)))).1
    have weak:∀ {H8:Hp}{s8:Shared},Inv (cxComp X scope cl (x :: ys) C s2 H2 fp) [] (some v :: frees fr σ) H8 s8->Inv (cxComp X scope cl (x :: ys) C s2 H2 fp) [] (none :: frees fr σ) H8 s8:=fun {H8 s8} I8=>
     I8.weak rfl fun i v' e=>by
      cases i with
      | zero=>simp at e
      | succ j=>simpa using e
    have nopin:∀ {H8:Hp}{s8:Shared}{pl:List (Addr × Obj)},Inv (cxComp X scope cl (x :: ys) C s2 H2 fp) pl (some v :: frees fr σ) H8 s8->Inv (cxComp X scope cl (x :: ys) C s2 H2 fp) [] (some v :: frees fr σ) H8 s8:=fun {H8 s8 pl} I8=>
     I8.pins_of fun p hp=>absurd hp (by simp)
    cases b with
    | false=>
     rw [if_neg Bool.false_ne_true] at q7 ⊢
     obtain ⟨m',hm,w7⟩:=q7
     obtain ⟨k1,k2,k3,k4⟩:=back I7
     exact ⟨m',hm,i + 1,vs,ws,nn,H7,weak (nopin I7),T.keep _ _ _ st5 k4,k3,k2,k1,rv3,w7⟩
    | true=>
     rw [if_pos rfl] at q7 ⊢
     refine thn (YE _ s7 _ _ _ I7 q7) fun u8 s8 ⟨y8,H8,I8,r8,m',hm,w8⟩=>?_
     obtain ⟨k1,k2,k3,k4⟩:=back I8
     refine append_at (hsz:=by rw [List.size_toArray,← rv3.length]; exact hsz) k1 fun h9 hs9 ho9=>?_
     have I9:Inv (cxComp X scope cl (x :: ys) C s2 H2 fp) [] (some v :: frees fr σ) H8 { s8 with heap:=h9 }:=
      (nopin I8).turned (t':=s8.toks) (it:=D) (fun b o hb e=>(hs9.2 b hb).trans e) k2 hDC (.inr (by rw [← hDg]; exact Nat.le_refl _)) (fun y c e=>Nat.ne_of_lt (clt y c e)) fun p hp=>absurd (show p∈([]:List (Addr × Obj)) from hp) (by simp)
     refine ⟨m',hm,i + 1,vs ++ [y8],ws ++ [u8],nn + 1,H8,weak I9,?_,k3,k2,?_,rv3.append (.cons r8 .nil),w8⟩
     ·refine T.keep _ _ _ st5 fun b hb o e=>?_
      exact (hs9.2 b (below b (fpl b hb)).2).trans (k4 b hb o e)
     ·rw [ho9,List.push_toArray]
  ·cases q:H2 D with
   | none=>rfl
   | some o=>exact absurd (tlt D o q) (Nat.lt_irrefl _)
 exact codeAny_compStart_list (loop _ ⟨_,rfl⟩) (T.self _ 0 _ _ _ (T.keep _ _ _ st2 fun b _ o e=>old b o e) (loop _ ⟨_,rfl⟩))
end L2
namespace D
open PySem L2
theorem ps_lset {X:Cx}{i:Nat}{y:Str}{py spos:Pos}{elt iter:Expr}{x:Str}{px pos:Pos}{ifs:List Expr}{scope:Scope}{cl:List (Str × Addr)} (fr:List Nat) (ys:List Str) {wi:TI}{tt:TT}{te:TE}
  (hc:X.calm = true) (hclos:closureFor scope X.env = pure cl) (hcell:∀ y∈scope.names,y.2≠.cell) (hkind:scope.kind = .function) (hnames:∀ y∈scope.names,y.2 = .local->scope.names.lookup y.1 = some .local)
  (hx:scope.names.lookup x = some .local) (hnd:(x :: ys).Nodup) (hcl:ClOk cl X.env.cells) (hall:(scope.names.all fun y=>y.2 != .free || (cl.lookup y.1).isSome) = true) (hfr:FrOk X scope cl fr ys)
  (hi:QI X (.Name x px) iter wi)
  (hY:∀ C s H fp,QIfs (cxComp X scope cl (x :: ys) C s H fp) ifs tt/\QE (cxComp X scope cl (x :: ys) C s H fp) elt te)
  (hN:X.N.Nodup) (hiy:X.N[i]? = some y) (hy:L2.Loc X.env.scope y) (hsw:swapsWith (.ListComp elt [⟨.Name x px,iter,ifs,0⟩] scope pos) (some (.Name y py)) spos.line X.env = pure true:=by rfl)
  (hf:X.fn y = true\/X.env.scope.names.lookup y = some .local:=by first | exact .inl rfl | exact .inr rfl | assumption)
  (hs:∀ v,foldedSetIterable iter X.env v = pure v:=by intro _; rfl):
  QS X (.Assign [.Name y py] (.ListComp elt [⟨.Name x px,iter,ifs,0⟩] scope pos) spos) (tAsg (tLComp fr wi tt te) (gName i)):=
 ⟨L2.ps_lset fr ys hc hclos hcell hkind hnames hx hnd hcl hall hfr hi.un (fun C s H fp=>⟨(hY C s H fp).1.un,(hY C s H fp).2.un⟩) hN hiy hy hsw hf hs⟩
end D
namespace L2
open PySem PySem.Spec PyProof.Rows
def tMGet2 (P:Program) (w:World) (K:PySem.W.Frag) (td ty tx:TE):TE:=fun σ H Q=>td σ H fun x H1=>∃ (g:Addr) (kvs:List (Key × V)),x = .ref g/\MD P w K g kvs/\ty σ H1 fun y H2=>tx σ H2 fun z H3=>∃ k:Key,y = kV k/\Q ((valV kvs k).getD z) H3
theorem pe_mget2 {X:Cx}{o e f:Expr}{apos cpos:Pos}{td ty tx:TE} (ho:PE X o td) (he:PE X e ty) (hf:PE X f tx) (m:M2 X o "get" apos e f cpos):PE X (.Call (.Attribute o "get" apos) [e,f] [] cpos) (tMGet2 X.prog X.w X.K td ty tx):=by
 intro zp s σ H Q I h
 refine wpAny_Call_method m.base m.few m.line PySem.F.plainAttrs_dict PySem.F.slot_dict_get PySem.F.type_dict_get (thn (ho zp s σ H _ I h) fun u s1 ⟨x,H1,I1,rx,a,kvs,ex,d,q1⟩=>?_)
 subst ex
 obtain rfl:u = Value.ref a:=rx
 obtain ⟨vs1,rel1,dd1,hd1⟩:=d.dict I1.kIn
 refine ⟨dd1.typeIs,fun b q=>?_,?_⟩
 ·cases q
  obtain ⟨ob,_,_,h1,h2,_⟩:=dd1
  exact ⟨ob,h1,h2.2.1⟩
 rw [m.trees]
 refine Calls.callWith_builtin rfl (Calls.evalArgs_plain (Calls.spliced_cons (thn (he zp s1 σ H1 _ I1 q1) fun iv s2 ⟨y,H2,I2,ry,q2⟩=>
  Calls.spliced_cons (thn (hf zp s2 σ H2 _ I2 q2) fun fv s3 ⟨z,H3,I3,rz,k,ey,q3⟩=>Calls.spliced_nil ?_))))
 subst ey
 obtain ⟨vs,rel,dd,hd⟩:=d.dict I3.kIn
 refine call_meetsIn PySem.F.slot_dict_get dd.typeIs PySem.F.entry_dict_get (PySem.F.args_dict_get_3 _ _ _) (meets_dict_get_default (mixKind X.prog X.w) a (kV_is ry) hd fv) ⟨_,dd.mapOf,?_⟩
 exact ⟨_,H3,I3.tok _,(rel.val k).getD rz,q3⟩
end L2
namespace D
open PySem L2
theorem pe_mget2 {X:Cx}{o e f:Expr}{apos cpos:Pos}{td ty tx:TE} (ho:QE X o td) (he:QE X e ty) (hf:QE X f tx) (m:M2 X o "get" apos e f cpos):QE X (.Call (.Attribute o "get" apos) [e,f] [] cpos) (tMGet2 X.prog X.w X.K td ty tx):=⟨L2.pe_mget2 ho.un he.un hf.un m⟩
end D
namespace L2
open PySem PySem.Spec PyProof.Rows
def HaveM (P:Program) (w:World) (K:PySem.W.Frag) (mg:Str->Option Value) (base:Heap) (C:Addr) (m:Str) (k:Nat) (ps:List Str) (sp:Sp):Prop:=
 ∃ (f:Addr) (fd:FuncData),FnOk P w K mg base CX0 k f fd ps sp/\Binds K fd ps []/\Meth K C m f/\Cls K C
def HaveC (P:Program) (w:World) (K:PySem.W.Frag) (mg:Str->Option Value) (base:Heap) (C:Addr) (x:Str) (k:Nat) (ps:List Str) (sp:Sp):Prop:=
 ∃ (f:Addr) (fd:FuncData) (j:Nat),k = j + 1/\FnOk P w K mg base CX0 j f fd ps sp/\Binds K fd ps []/\Mk K C f/\mg x = some (.ref C)
theorem HaveM.mono {P:Program}{w:World}{K:PySem.W.Frag}{mg:Str->Option Value}{base:Heap}{C:Addr}{m:Str}{j k:Nat}{ps:List Str}{sp:Sp} (h:HaveM P w K mg base C m j ps sp) (e:j<=k):HaveM P w K mg base C m k ps sp:=
 let ⟨f,fd,F,r⟩:=h; ⟨f,fd,F.mono e,r⟩
theorem HaveC.mono {P:Program}{w:World}{K:PySem.W.Frag}{mg:Str->Option Value}{base:Heap}{C:Addr}{m:Str}{j k:Nat}{ps:List Str}{sp:Sp} (h:HaveC P w K mg base C m j ps sp) (e:j<=k):HaveC P w K mg base C m k ps sp:=by
 obtain ⟨f,fd,i,rfl,F,r⟩:=h
 exact ⟨f,fd,k - 1,by omega,F.mono (by omega),r⟩
section
variable {X:Cx}{C:Addr}{x m:Str}{k:Nat}{ps:List Str}{sp:Sp}{e o:Expr}{es:List Expr}{ta:TE}{t:TA}{p pos apos:Pos}
theorem pe_m (G:HaveM X.prog X.w X.K X.mg X.base C m k ps sp) (hr:Room k X.A) (ho:PE X o ta) (ha:PA X (e :: es) t) {pl:Sem Bool}
  (hst:starEach (e :: es) X.env = (false,eval e X.env) :: starEach es X.env:=by rfl) (hpl:(backTo pos (starEach es X.env)).any (·.1) = false:=by rfl)
  (ht:eval (.Call (.Attribute o m apos) (e :: es) [] pos) X.env = (do
   let ov ← eval o X.env
   standAt apos.atName
   let (f,first) ← holding [ov] (getMethod ov m pl)
   callWith pos f first (backTo pos (starEach (e :: es) X.env)) (backToKw pos (keywordEach [] X.env))):=by rfl):
  PE X (.Call (.Attribute o m apos) (e :: es) [] pos) (tMeth C m sp [] E0 ta t):=by
 obtain ⟨f,fd,F,b,mm,c⟩:=G
 exact pe_meth ho c mm F hr b .nil pass0 ha hst hpl ht
theorem pe_m0 (G:HaveM X.prog X.w X.K X.mg X.base C m k ps sp) (hr:Room k X.A) (ho:PE X o ta) {pl:Sem Bool}
  (ht:eval (.Call (.Attribute o m apos) [] [] pos) X.env = (do
   let ov ← eval o X.env
   standAt apos.atName
   let (f,first) ← holding [ov] (getMethod ov m pl)
   callWith pos f first (backTo pos (starEach [] X.env)) (backToKw pos (keywordEach [] X.env))):=by rfl):
  PE X (.Call (.Attribute o m apos) [] [] pos) (tMeth C m sp [] E0 ta tNil):=by
 obtain ⟨f,fd,F,b,mm,c⟩:=G
 exact pe_meth0 ho c mm F hr b .nil pass0 ht
theorem pe_new (G:HaveC X.prog X.w X.K X.mg X.base C x k ps sp) (hr:Room k X.A) (hg:Gl X x) (ha:PA X (e :: es) t) (hdb:(x == ("__debug__":Str)) = false:=by decide)
  (he:starEach (e :: es) X.env = (false,eval e X.env) :: starEach es X.env:=by rfl) (hpl:(backTo pos (starEach es X.env)).any (·.1) = false:=by rfl):
  PE X (.Call (.Name x p) (e :: es) [] pos) (tMake C sp [] E0 t):=by
 obtain ⟨f,fd,j,rfl,F,b,mk,mg⟩:=G
 exact pe_make mk F hr hg mg b .nil pass0 ha hdb he hpl
theorem pe_new0 (G:HaveC X.prog X.w X.K X.mg X.base C x k ps sp) (hr:Room k X.A) (hg:Gl X x) (hdb:(x == ("__debug__":Str)) = false:=by decide):
  PE X (.Call (.Name x p) [] [] pos) (tMake C sp [] E0 tNil):=by
 obtain ⟨f,fd,j,rfl,F,b,mk,mg⟩:=G
 exact pe_make0 mk F hr hg mg b .nil pass0 hdb
end
end L2
namespace D
open PySem L2
section
variable {X:Cx}{C:Addr}{x m:Str}{k:Nat}{ps:List Str}{sp:Sp}{e o:Expr}{es:List Expr}{ta:TE}{t:TA}{p pos apos:Pos}
theorem pe_m (G:HaveM X.prog X.w X.K X.mg X.base C m k ps sp) (hr:Room k X.A) (ho:QE X o ta) (ha:QA X (e :: es) t) {pl:Sem Bool}
  (hst:starEach (e :: es) X.env = (false,eval e X.env) :: starEach es X.env:=by rfl) (hpl:(backTo pos (starEach es X.env)).any (·.1) = false:=by rfl)
  (ht:eval (.Call (.Attribute o m apos) (e :: es) [] pos) X.env = (do
   let ov ← eval o X.env
   standAt apos.atName
   let (f,first) ← holding [ov] (getMethod ov m pl)
   callWith pos f first (backTo pos (starEach (e :: es) X.env)) (backToKw pos (keywordEach [] X.env))):=by rfl):
  QE X (.Call (.Attribute o m apos) (e :: es) [] pos) (tMeth C m sp [] E0 ta t):=⟨L2.pe_m G hr ho.un ha.un hst hpl ht⟩
theorem pe_m0 (G:HaveM X.prog X.w X.K X.mg X.base C m k ps sp) (hr:Room k X.A) (ho:QE X o ta) {pl:Sem Bool}
  (ht:eval (.Call (.Attribute o m apos) [] [] pos) X.env = (do
   let ov ← eval o X.env
   standAt apos.atName
   let (f,first) ← holding [ov] (getMethod ov m pl)
   callWith pos f first (backTo pos (starEach [] X.env)) (backToKw pos (keywordEach [] X.env))):=by rfl):
  QE X (.Call (.Attribute o m apos) [] [] pos) (tMeth C m sp [] E0 ta tNil):=⟨L2.pe_m0 G hr ho.un ht⟩
theorem pe_new (G:HaveC X.prog X.w X.K X.mg X.base C x k ps sp) (hr:Room k X.A) (hg:Gl X x) (ha:QA X (e :: es) t) (hdb:(x == ("__debug__":Str)) = false:=by decide)
  (he:starEach (e :: es) X.env = (false,eval e X.env) :: starEach es X.env:=by rfl) (hpl:(backTo pos (starEach es X.env)).any (·.1) = false:=by rfl):
  QE X (.Call (.Name x p) (e :: es) [] pos) (tMake C sp [] E0 t):=⟨L2.pe_new G hr hg ha.un hdb he hpl⟩
theorem pe_fldK {K:PySem.W.Frag}{f:Str} (hK:X.K = K) (he:QE X e ta) (hb:attributeBase e f X.env (eval e X.env) = eval e X.env):QE X (.Attribute e f pos) (tFld K ta f):=hK ▸ pe_fld he hb
theorem pe_new0 (G:HaveC X.prog X.w X.K X.mg X.base C x k ps sp) (hr:Room k X.A) (hg:Gl X x) (hdb:(x == ("__debug__":Str)) = false:=by decide):
  QE X (.Call (.Name x p) [] [] pos) (tMake C sp [] E0 tNil):=⟨L2.pe_new0 G hr hg hdb⟩
end
end D
namespace L2
open PySem PySem.Spec PyProof.Rows
theorem Inv.turnedL {X:Cx}{zp:List (Addr × Obj)}{σ:St}{H:Hp}{s:Shared}{h':Heap}{t':Nat}{fp:List Addr} (I:Inv X zp σ H s) (k:∀ b o,b ∉ fp->s.heap.get? b = some o->h'.get? b = some o) (hf:∀ b∈fp,FpOk X zp H b):
  Inv X zp σ H { s with heap:=h',toks:=t' }:=by
 have nit:∀ b u,H b = some u->b ∉ fp:=fun b u e z=>by
  have:=(hf b z).1
  rw [e] at this
  cases this
 refine I.step (g':=s.gens) (d':=s.drawn) (ch:=fp) (fun b hb=>?_) (fun b o _ _ hc e _=>k b o hc e) (fun b o _ _ hc e _=>⟨o.slots,k b o hc e⟩) (fun _ _ _ _ n=>n)
  (fun b o hc e=>⟨o,k b o hc e⟩) (fun _ _ e=>e) (fun _ _ _ e=>e) (fun b ps e=>⟨#[],by rw [e]; simp⟩) (fun m hm=>?_) (fun b u e=>?_) I.bare
 ·obtain ⟨f0,f1,f2,f3,f4,f5⟩:=hf b hb
  exact ⟨f3,f1,f4,f5⟩
 ·obtain ⟨o,es,ep,ho,r⟩:=hm
  exact ⟨o,es,ep,k _ o (fun z=>(hf _ z).2.1 rfl) ho,r⟩
 ·refine (I.hok b u e).stay (fun c v hc q=>k c v ?_ q) (fun _ q=>q) fun _ _ q=>q
  rcases hc with z | z
  ·rw [z]; exact nit b u e
  ·exact nit c _ z
theorem push_old {h:Heap}{o u:Obj}{b:Addr} (e:(h.push o).get? b = some u) (hb:b < h.objs.size):h.get? b = some u:=by
 rcases Heap.get?_push_cases e with ⟨r,_⟩ | r
 ·rw [r] at hb
  exact absurd hb (Nat.lt_irrefl _)
 ·exact r
def Ite (K:PySem.W.Frag) (a:Addr):It:=
 ⟨fun i H=>∃ xs x,SqL K H a xs/\xs[i]? = some x,fun i H x H'=>∃ t y,H t = none/\x = .ref t/\(∀ xs,SqL K H a xs->xs[i]? = some y)/\H' = upd H t (.tup [.int i,y]),fun i H=>∃ xs,SqL K H a xs/\xs.length<=i⟩
theorem turn_enum {P:Program}{w:World}{K:PySem.W.Frag}{elts:List Expr}{k:Nat}{pos:Pos} (a e it:Addr) (hei:e≠it):Turn P w K (.Tuple elts k pos) (Ite K a) [e,it] e (fun i h=>(∃ old,IsEnum h e it i old)/\h.IsListIter it a i) where
 mem:=by simp
 obj:=fun i h st b hb=>by
  obtain ⟨⟨old,he⟩,hit⟩:=st
  have hc:b = e\/b = it:=by simpa using hb
  rcases hc with rfl | rfl
  ·exact ⟨_,he,fun v z=>by
    have z':Data.fields _ = Data.cell v:=z
    cases z'⟩
  ·obtain ⟨o,eo,c,d⟩:=hit
   exact ⟨o,eo,fun v z=>by rw [d] at z; cases z⟩
 keep:=fun i h h' st kk=>by
  obtain ⟨⟨old,he⟩,hit⟩:=st
  exact ⟨⟨old,kk e (by simp) _ he⟩,hit.at fun o x=>kk it (by simp) o x⟩
 item:=by
  intro X hP hw hK hc i zp s σ H E I hf st hg
  subst hP hw hK
  obtain ⟨⟨old,he⟩,hit⟩:=st
  obtain ⟨xs,x,hq,hx⟩:=hg
  obtain ⟨its,rv,p,hz⟩:=I.list hq
  obtain ⟨u,hu,ru⟩:=rv.get hx
  have hfr:H s.heap.objs.size = none:=I.hok.fresh (Nat.le_refl _)
  have helt:e < s.heap.objs.size:=Heap.lt_size he
  have hilt:it < s.heap.objs.size:=by obtain ⟨_,z,_⟩:=hit; exact Heap.lt_size z
  refine wpAny_pyNext_enum_item he hit p.isList (x:=u) (by simpa using hu) hei fun h' ho hit' hT hsz hk=>⟨_,rfl,wpAny_letOwnedTupleGo_enum ho fun h2 he2 hs2=>?_⟩
  have I1:Inv X zp σ (upd H s.heap.objs.size (.tup [.int i,x])) { s with heap:=s.heap.push { cls:=.type "tuple",data:=.seq #[.int i s.toks,u] },toks:=s.toks }:=
   I.laid (t':=s.toks) (fun b u e=>Heap.get?_push_of_some _ e) (Nat.le_refl _) ⟨zl2,[.int i s.toks,u],.cons ⟨_,rfl⟩ (.cons ru .nil),⟨_,Heap.get?_push_size _ rfl,rfl,_,rfl⟩⟩
  have nn:∀ b∈[e,it],upd H s.heap.objs.size (.tup [.int i,x]) b = none:=fun b hb=>by
   rw [upd_ne (fun z=>by
    have hc:b = e\/b = it:=by simpa using hb
    rcases hc with r | r
    ·rw [← r,z] at helt; exact Nat.lt_irrefl _ helt
    ·rw [← r,z] at hilt; exact Nat.lt_irrefl _ hilt)]
   exact (hf b hb).1
  have I2:Inv X zp σ (upd H s.heap.objs.size (.tup [.int i,x])) { s with heap:=h2,toks:=s.toks + 1 }:=by
   refine Inv.turnedL (s:={ s with heap:=s.heap.push { cls:=.type "tuple",data:=.seq #[.int i s.toks,u] },toks:=s.toks }) (h':=h2) (t':=s.toks + 1) (fp:=[e,it]) I1 (fun b o hb eb=>?_) (fun b hb=>?_)
   ·have hbe:b≠e:=fun z=>hb (by simp [z])
    have hbi:b≠it:=fun z=>hb (by simp [z])
    refine (hs2.2 b hbe).trans ?_
    by_cases hbs:b = s.heap.objs.size
    ·subst hbs
     have e1:(s.heap.push { cls:=.type "tuple",data:=.seq #[.int i s.toks,u] }).get? s.heap.objs.size = some { cls:=.type "tuple",data:=.seq #[.int i s.toks,u] }:=Heap.get?_push_size _ rfl
     have eb:(s.heap.push { cls:=.type "tuple",data:=.seq #[.int i s.toks,u] }).get? s.heap.objs.size = some o:=eb
     rw [e1] at eb
     cases eb
     exact hT
    ·refine hk b o hbe hbi ?_
     have eb:(s.heap.push { cls:=.type "tuple",data:=.seq #[.int i s.toks,u] }).get? b = some o:=eb
     have hlt:=Heap.lt_size eb
     rw [Heap.size_push] at hlt
     exact push_old eb (Nat.lt_of_le_of_ne (Nat.le_of_lt_succ hlt) hbs)
   ·obtain ⟨f0,f1,f2,f3,f4,f5⟩:=hf b hb
    exact ⟨nn b hb,f1,f2,f3,f4,f5⟩
  refine ⟨.ref s.heap.objs.size,_,I2,rfl,⟨s.heap.objs.size,x,hfr,rfl,fun ys hy=>by rw [I.list_inj hy hq]; exact hx,rfl⟩,⟨⟨_,by simpa using he2⟩,hit'.at fun o y=>(hs2.2 it hei.symm).trans y⟩,nn⟩
 done:=by
  intro X hP hw hK hc i zp s σ H E I hf st hg
  subst hP hw hK
  obtain ⟨⟨old,he⟩,hit⟩:=st
  obtain ⟨xs,hq,hx⟩:=hg
  obtain ⟨its,rv,p,hz⟩:=I.list hq
  have hl:=rv.length
  refine wpAny_pyNext_enum_end (I.ok.hd hc) he hit p.isList (by simp; omega) fun h' eb=>⟨rfl,?_⟩
  exact I.turnedL (t':=s.toks) (fp:=[e,it]) (fun b o hb e'=>eb b o (fun z=>hb (by simp [z])) e') hf
 self:=fun _ _ _ _ _ st h=>by
  obtain ⟨⟨old,he⟩,_⟩:=st
  exact wpAny_pyIter_enum he h
theorem boot_enum:bootBuiltins (Str.ofString "enumerate") = some (.type "enumerate"):=by kernel_rfl
def iEnum (K:PySem.W.Frag) (ta:TA):TI:=fun σ H R=>ta σ H fun vs H1=>∃ (a:Addr) (xs:List V),vs = [.ref a]/\SqL K H1 a xs/\R (Ite K a) H1
theorem pi_enum {X:Cx}{elts:List Expr}{k:Nat}{ps:Pos}{a:Expr}{ta:TA}{p pos:Pos} (hg:Gl X "enumerate") (hm:X.mg "enumerate" = none) (ha:PA X [a] ta) (hs:starEach [a] X.env = [(false,eval a X.env)]:=by rfl):
  PI X (.Tuple elts k ps) (.Call (.Name "enumerate" p) [a] [] pos) (iEnum X.K ta):=by
 intro zp s σ H R I h
 refine Call_ (ld_blt I hg hm boot_enum (PyProof.Rows.callWith_type1 (thn (ha pos zp s σ H _ I h) fun us s1 ⟨vs,H1,I1,r1,q1⟩=>?_) hs rfl))
 obtain ⟨b,xs,e,hq,q⟩:=q1
 subst e
 obtain ⟨u,rfl,rx⟩:=vals1 r1
 cases rx
 obtain ⟨its,rv,pl,hz⟩:=I1.list hq
 refine call_enumerate_list pl.isList fun h' he hi hsz hk=>?_
 have hne:s1.heap.objs.size + 1≠s1.heap.objs.size:=Nat.succ_ne_self _
 refine wpAny_pyIter_enum he ?_
 have I2:Inv X zp σ H1 { s1 with heap:=h',toks:=s1.toks }:=I1.kept (t':=s1.toks) hk
 refine ⟨s1.heap.objs.size + 1,[s1.heap.objs.size + 1,s1.heap.objs.size],_,_,H1,rfl,I2,turn_enum b _ _ hne,⟨⟨_,he⟩,hi⟩,fun c hc=>?_,q⟩
 have hcs:c = s1.heap.objs.size + 1\/c = s1.heap.objs.size:=by simpa using hc
 have hle:s1.heap.objs.size<=c:=by
  rcases hcs with r | r
  ·rw [r]; exact Nat.le_succ _
  ·rw [r]; exact Nat.le_refl _
 exact I1.fpOk hle (I1.hok.fresh hle)
theorem for_enum {K:PySem.W.Frag}{a:Addr}{xs:List V}{g:TG}{tb:TS}{D:Ends}{σ:St}{H:Hp} (Pv:Nat->St->Hp->Prop) (h0:Pv 0 σ H) (hl:∀ i σ H,i<=xs.length->Pv i σ H->SqL K H a xs)
  (hs:∀ i x t σ H,xs[i]? = some x->H t = none->Pv i σ H->g (.ref t) σ (upd H t (.tup [.int i,x])) fun σ2 H2=>tb { D with nx:=Pv (i + 1),ct:=Pv (i + 1),bk:=D.nx } σ2 H2) (hd:∀ σ H,Pv xs.length σ H->D.nx σ H):
  ∃ W:Nat->Nat->St->Hp->Prop,(∃ m,W 0 m σ H)/\∀ i m σ H,W i m σ H->
   ((Ite K a).stop i H/\D.nx σ H)\/((Ite K a).go i H/\∃ N:St->Hp->Prop,(∀ σ' H',N σ' H'->∃ m',m' < m/\W (i + 1) m' σ' H')/\∀ x H',(Ite K a).yld i H x H'->g x σ H' fun σ2 H2=>tb { D with nx:=N,ct:=N,bk:=D.nx } σ2 H2):=by
 refine ⟨fun i m σ H=>m = xs.length - i/\i<=xs.length/\Pv i σ H,⟨xs.length,by simp,Nat.zero_le _,h0⟩,?_⟩
 rintro i m σ H ⟨rfl,hi,p⟩
 have q:=hl i σ H hi p
 by_cases hlt:i < xs.length
 ·refine .inr ⟨⟨xs,xs[i],q,by simp [hlt]⟩,Pv (i + 1),fun σ' H' p'=>⟨xs.length - (i + 1),by omega,rfl,hlt,p'⟩,fun x H' y=>?_⟩
  obtain ⟨t,y,ht,rfl,hy,rfl⟩:=y
  exact hs i y t σ H (hy xs q) ht p
 ·have e:i = xs.length:=by omega
  subst e
  exact .inl ⟨⟨xs,q,Nat.le_refl _⟩,hd σ H p⟩
end L2
namespace D
open PySem L2
theorem pi_enum {X:Cx}{elts:List Expr}{k:Nat}{ps:Pos}{a:Expr}{ta:TA}{p pos:Pos} (hg:Gl X "enumerate") (hm:X.mg "enumerate" = none) (ha:QA X [a] ta) (hs:starEach [a] X.env = [(false,eval a X.env)]:=by rfl):
  QI X (.Tuple elts k ps) (.Call (.Name "enumerate" p) [a] [] pos) (iEnum X.K ta):=⟨L2.pi_enum hg hm ha.un hs⟩
end D
namespace D
open PySem L2 PySem.Spec PyProof.Rows
theorem op_eqE {X:Cx} (hu:X.A.units < cLine):OpR X (compareOp .Eq) (fun x y H Q=>∃ (a b:Addr) (us:List V),x = .ref a/\y = .ref b/\SqL X.K H a us/\SqL X.K H b []/\Q (.bl us.isEmpty) H):=by
 intro zp s σ H x y v u Q I rx ry h
 obtain ⟨a,b,us,rfl,rfl,ha,hb,q⟩:=h
 cases rx
 cases ry
 obtain ⟨its,v1,p1,_⟩:=I.list ha
 obtain ⟨its2,v2,p2,_⟩:=I.list hb
 have l1:=v1.length
 have l2:=v2.length
 cases us with
 | nil=>
  refine SeqAt.eq_listAt (e:=fun _=>true) p1.isList p2.isList (by rw [List.size_toArray,List.size_toArray]; omega) hu (fun j h1 h2=>?_) ?_
  ·have h3:j < its.length:=by simpa using h1
   exact absurd h3 (by rw [← l1]; exact Nat.not_lt_zero _)
  ·have e:((List.range its.toArray.size).all fun _=>true) = true:=by simp
   rw [e]
   exact ⟨.bl true,H,I,rfl,q⟩
 | cons x r=>
  have hsz:(its.toArray.size != its2.toArray.size) = true:=by
   rw [List.size_toArray,List.size_toArray,← l1,← l2]
   simp
  exact SeqAt.eq_list_lengthsAt p1.isList p2.isList hsz hu ⟨.bl false,H,I,rfl,q⟩
end D
namespace L2
open PySem PySem.Spec PyProof.Rows
def txOf:Value->Str
 | .str z _=>z
 | _=>Str.ofString ""
def byTx (w:World):Bool:=w.params.followText "set-order"
def Tabled (w:World) (t:SetTable) (n:Nat):Prop:=t.led = !byTx w/\(n = 0\/t.plain = false)
def SetTx (P:Program) (w:World) (a:Addr) (ds:List Str) (h:Heap):Prop:=
 ∃ (o:Obj) (es:Array (Int × Value)) (ep:Nat) (t:SetTable),h.get? a = some o/\o.ExactSet/\o.data = .set es ep t/\ElemsOf (mixKind P w) es.toList/\(∀ e∈es.toList,∃ z tk,e.2 = .str z tk) /\
  (es.toList.map fun e=>txOf e.2).Perm ds/\es.size < scanBound/\t.fits es.size = true/\Tabled w t es.size
def addS (ds:List Str) (z:Str):List Str:=if z∈ds then ds else ds ++ [z]
theorem or_marks (t:SetTable) (n:Nat):(t.orStandIn n).led = t.led/\(t.plain = false->(t.orStandIn n).plain = false):=by
 unfold SetTable.orStandIn
 split
 ·exact ⟨rfl,id⟩
 ·exact ⟨rfl,fun _=>rfl⟩
theorem lay_marks (t:SetTable) (es:Array (Int × Value)) (h:Int) (x:Value):(layNew t es h x).2.1.led = t.led/\(t.plain = false->(layNew t es h x).2.1.plain = false):=by
 unfold layNew
 split
 ·rename_i slot dm _
  obtain ⟨a,b⟩:=or_marks (t.put slot).1 (SetTable.insertAt es (t.put slot).2 (h,x)).size
  exact ⟨a,fun z=>b z⟩
 ·exact ⟨rfl,fun _=>rfl⟩
theorem relaid_marks {t t':SetTable}{hs:Array Int}{n:Nat}{order:Array Nat} (e:t.relaid hs n = some (t',order)):t'.led = t.led/\t'.plain = t.plain:=by
 unfold SetTable.relaid SetTable.laid at e
 cases hc:SetTable.layClean (SetTable.sizeAbove n - 1) hs with
 | none=>rw [hc] at e; cases e
 | some ow=>
  rw [hc] at e
  cases e
  exact ⟨rfl,rfl⟩
theorem relay_marks (t:SetTable) (es:Array (Int × Value)) (n:Nat):(relayAll t es n).2.1.led = t.led/\(t.plain = false->(relayAll t es n).2.1.plain = false):=by
 unfold relayAll
 split
 ·rename_i t' order e
  obtain ⟨a,b⟩:=relaid_marks e
  dsimp only
  split
  ·exact ⟨a,fun z=>b.trans z⟩
  ·exact ⟨rfl,fun _=>rfl⟩
 ·exact ⟨rfl,fun _=>rfl⟩
theorem SetTx.store {P:Program}{w:World}{h:Heap}{a:Addr}{o:Obj}{es es':Array (Int × Value)}{ep:Nat}{t t':SetTable}{ds:List Str} (ho:h.get? a = some o) (hex:o.ExactSet) (hd:o.data = .set es ep t)
  (hel:ElemsOf (mixKind P w) es'.toList) (htx:∀ e∈es'.toList,∃ z tk,e.2 = .str z tk) (hp:(es'.toList.map fun e=>txOf e.2).Perm ds) (hb:es'.size < scanBound) (hf:t'.fits es'.size = true) (hm:Tabled w t' es'.size):
  (h.update a (Obj.putSet es' t')).get? a = some { o with data:=.set es' (ep + 1) t' }/\SetTx P w a ds (h.update a (Obj.putSet es' t')):=by
 have g:(h.update a (Obj.putSet es' t')).get? a = some { o with data:=.set es' (ep + 1) t' }:=by
  rw [← putSet_of es' t' hd]
  exact Heap.get?_update_self _ ho (by rw [putSet_of es' t' hd]; rfl)
 exact ⟨g,_,es',ep + 1,t',g,hex,rfl,hel,htx,hp,hb,hf,hm⟩
section
variable {P:Program}{w:World}{A:Around}{E:Value->Shared->Prop}
theorem set_add_tx {s:Shared}{a:Addr}{ds:List Str}{z:Str}{tk:Tok}{Q:Bool->Shared->Prop} (hS:SetTx P w a ds s.heap) (room:ds.length + 1 < scanBound)
  (h:∀ (b:Bool) (h':Heap),Heap.SameBut a s.heap h'->SetTx P w a (addS ds z) h'->Q b { s with heap:=h' }):
  wpAny (model P w) A (setAddHashed a (.str z tk) ((mixKind P w).hash (.inr z))) Q E s:=by
 have hS0:=hS
 obtain ⟨o,es,ep,t,ho,hex,hd,hel,htx,hpm,hb,hf,hmk⟩:=hS
 have hsz:es.size = ds.length:=by
  have:=hpm.length_eq
  rw [List.length_map,Array.length_toList] at this
  exact this
 have is:=mixKind_str P w z tk
 unfold setAddHashed setAddHashedIn
 refine wpAny_holding (wpAny_bind (wpAny_setState_of ho hd hf ?_))
 dsimp only
 rw [byScan_of (knd:=mixKind P w) (x:=.str z tk) rfl hb hel]
 simp only [↓reduceIte]
 unfold setAddByScan
 refine wpAny_bind (wpAny_bind (wpAny_rule (wpAny_bind (wpAny_setScan_of is ho hd hf hel ?_))))
 cases hr:es.toList.findIdx? (fun e=>(mixKind P w).is (.inr z) e.2) with
 | some j=>
  obtain ⟨hj,hpj,_⟩:=List.findIdx?_eq_some_iff_getElem.mp hr
  have hin:z∈ds:=by
   obtain ⟨y,u,e⟩:=htx _ (List.getElem_mem hj)
   have hzy:z = y:=by
    rw [e] at hpj
    have:=(mixKind P w).inj (.str y u) (.inr z) (.inr y) hpj (mixKind_str P w y u)
    exact Sum.inr.inj this
   refine hpm.mem_iff.mp (List.mem_map.mpr ⟨_,List.getElem_mem hj,?_⟩)
   rw [e,hzy]
   rfl
  have key:=h false s.heap (Heap.SameBut.refl a s.heap) (by unfold addS; rw [if_pos hin]; exact hS0)
  exact wpAny_pure (wpAny_pure key)
 | none=>
  have hout:z ∉ ds:=fun hz=>by
   obtain ⟨e,he,hze⟩:=List.mem_map.mp (hpm.mem_iff.mpr hz)
   obtain ⟨y,u,ey⟩:=htx e he
   have h1:=List.findIdx?_eq_none_iff.mp hr e he
   rw [ey] at h1 hze
   have:y = z:=hze
   subst this
   rw [mixKind_str] at h1
   cases h1
  have ead:addS ds z = ds ++ [z]:=by unfold addS; rw [if_neg hout]
  dsimp only
  have hperm:=layNew_perm t es ((mixKind P w).hash (.inr z)) (.str z tk)
  have hfits:=layNew_fits t es ((mixKind P w).hash (.inr z)) (.str z tk)
  have hmark:=lay_marks t es ((mixKind P w).hash (.inr z)) (.str z tk)
  generalize layNew t es ((mixKind P w).hash (.inr z)) (.str z tk) = L at hperm hfits hmark ⊢
  obtain ⟨es1,t1,dm,gave⟩:=L
  dsimp only at hperm hfits hmark ⊢
  rw [Array.toList_push] at hperm
  have hel1:ElemsOf (mixKind P w) es1.toList:=(hel.push is rfl).perm hperm
  have htx1:∀ e∈es1.toList,∃ z tk,e.2 = .str z tk:=fun e he=>by
   rcases List.mem_append.mp (hperm.mem_iff.mp he) with h1 | h1
   ·exact htx e h1
   ·rw [List.mem_singleton.mp h1]; exact ⟨_,_,rfl⟩
  have hpm1:(es1.toList.map fun e=>txOf e.2).Perm (ds ++ [z]):=by
   refine (hperm.map _).trans ?_
   rw [List.map_append]
   exact hpm.append (List.Perm.refl _)
  have hsz1:es1.size = ds.length + 1:=by
   have:=hpm1.length_eq
   rw [List.length_map,Array.length_toList,List.length_append] at this
   exact this
  have hb1:es1.size < scanBound:=by omega
  have gw:∀ (b:Bool) (s1:Shared) (Q':Unit->Shared->Prop),Q' () s1->wpAny (model P w) A (match b with | true=>rule "set.scan.the-table-gave-way" | false=>pure ()) Q' E s1:=fun b s1 Q' hq=>by
   cases b
   ·exact wpAny_pure hq
   ·exact wpAny_rule hq
  refine wpAny_bind (gw _ _ _ ?_)
  have tail:∀ t2:SetTable,t2.fits es1.size = true->Tabled w t2 es1.size->wpAny (model P w) A (storeSet a es1 t2 >>= fun _=>if (!dm && t2.tooFull) = true then (match (relayAll t2 es1 (SetTable.grown es1.size)).2.2 with | true=>rule "set.scan.the-table-gave-way" | false=>pure ()) >>= fun _=>storeSet a (relayAll t2 es1 (SetTable.grown es1.size)).1 (relayAll t2 es1 (SetTable.grown es1.size)).2.1 >>= fun _=>pure (some true) else pure (some true))
    (fun r s'=>wpAny (model P w) A (match r with | some added=>pure added | none=>setAddHashedIn a (.str z tk) ((mixKind P w).hash (.inr z)) 99999) Q E s') E s:=fun t2 hf2 hm2=>by
   obtain ⟨g1,S1⟩:=SetTx.store (es':=es1) (t':=t2) (ds:=ds ++ [z]) ho hex hd hel1 htx1 hpm1 hb1 hf2 hm2
   refine wpAny_bind (wpAny_storeSet_of ho hd ?_ (fits_of_scanBound hb1))
   have sb1:=Heap.SameBut.update s.heap a (Obj.putSet es1 t2)
   split
   ·have hp:=relayAll_perm t2 es1 (SetTable.grown es1.size)
    have hfr:=relayAll_fits t2 es1 (SetTable.grown es1.size)
    have hmr:=relay_marks t2 es1 (SetTable.grown es1.size)
    generalize relayAll t2 es1 (SetTable.grown es1.size) = Rl at hp hfr hmr ⊢
    obtain ⟨es2,t3,gv⟩:=Rl
    dsimp only at hp hfr hmr ⊢
    have hz2:es2.size = es1.size:=by rw [← Array.length_toList,hp.length_eq,Array.length_toList]
    have hb2:es2.size < scanBound:=by rw [hz2]; exact hb1
    refine wpAny_bind (gw _ _ _ (wpAny_bind (wpAny_storeSet_of g1 rfl ?_ (fits_of_scanBound hb2))))
    obtain ⟨_,S2⟩:=SetTx.store (es':=es2) (t':=t3) (ds:=ds ++ [z]) g1 hex rfl (hel1.perm hp) (fun e he=>htx1 e (hp.mem_iff.mp he)) ((hp.map _).trans hpm1) hb2 hfr ⟨hmr.1.trans hm2.1,.inr (hmr.2 (hm2.2.resolve_left (by omega)))⟩
    exact wpAny_pure (wpAny_pure (h true _ (sb1.trans (Heap.SameBut.update _ a _)) (by rw [ead]; exact S2)))
   ·exact wpAny_pure (wpAny_pure (h true _ sb1 (by rw [ead]; exact S1)))
  split
  ·refine wpAny_bind ?_
   rw [hashByValue_scannable 8 rfl]
   exact wpAny_pure (tail { t1 with plain:=false } (SetTable.fits_plain_off hfits) ⟨hmark.1.trans hmk.1,.inr rfl⟩)
  ·rename_i hpl
   exact wpAny_bind (wpAny_pure (tail t1 hfits ⟨hmark.1.trans hmk.1,.inr (by simpa using hpl)⟩))
def allS (ys:List Str):List Str:=ys.foldl addS []
theorem allS_snoc (ys:List Str) (z:Str):allS (ys ++ [z]) = addS (allS ys) z:=by unfold allS; rw [List.foldl_append]; rfl
theorem addS_len {ds:List Str}{z:Str}:(addS ds z).length<=ds.length + 1:=by
 unfold addS
 split
 ·omega
 ·rw [List.length_append]; exact Nat.le_refl _
theorem foldl_len:∀ (ys ds:List Str),(ys.foldl addS ds).length<=ds.length + ys.length
 | [],ds=>by simp
 | z :: ys,ds=>by
  have h1:=foldl_len ys (addS ds z)
  have h2:=addS_len (ds:=ds) (z:=z)
  rw [List.foldl_cons,List.length_cons]
  omega
theorem allS_len (ys:List Str):(allS ys).length<=ys.length:=by have:=foldl_len ys []; simpa [allS] using this
theorem set_fill_tx {R:Result->Shared->Prop}{I:Addr}{fp wr:List Addr}{G:Array GenState->Array GenState->Prop}{Pi:Nat->Value->Prop}{St:Nat->Shared->Prop} (ys:List Str)
  (Wk:WalksS P w A.in1 I fp wr G ys.length Pi St) (S:Addr) (hSf:S ∉ fp) (hk:∀ i v,Pi i v->∃ z tk,ys[i]? = some z/\v = .str z tk) (hb:ys.length + 1 < scanBound):
  ∀ (m i:Nat) (s:Shared),m + i = ys.length->St i s->SetTx P w S (allS (ys.take i)) s.heap->
   (∀ s',Moved (S :: wr) G s s'->SetTx P w S (allS ys) s'.heap->R (.ok (.ret .none)) s')->codeAny (model P w) A (.builtin "set.update.loop" ⟨[.ref S,.ref I],[]⟩) R s:=by
 have out:S ∉ wr:=fun z=>hSf (Wk.sub _ z)
 have wid:∀ b∈wr,b∈S :: wr:=fun b z=>.tail _ z
 have held:∀ (s s':Shared) (ds:List Str),SetTx P w S ds s.heap->(∀ o,s.heap.get? S = some o->s'.heap.get? S = some o)->SetTx P w S ds s'.heap:=fun s s' ds ⟨o,es,ep,t,ho,rest⟩ k=>⟨o,es,ep,t,k o ho,rest⟩
 intro m
 induction m with
 | zero=>
  intro i s hi st hs fin
  obtain rfl:i = ys.length:=by omega
  rw [List.take_length] at hs
  refine codeAny_builtin PyProof.Rows.F.entry_set_update_loop ?_
  rw [Around.under_plainId PyProof.Rows.F.plain_set_update_loop _]
  refine (show wpAny _ A.in1 (pyNext (.ref I) >>= _) _ _ s from wpAny_bind (Wk.done s _ _ st fun s' mv=>?_))
  exact (show wpAny _ A.in1 (ret Value.none) _ _ s' from wpAny_pure (fin s' (mv.mono wid) (held s s' _ hs fun o e=>mv.heap S o out e)))
 | succ m ih=>
  intro i s hi st hs fin
  have lt:i < ys.length:=by omega
  refine codeAny_builtin PyProof.Rows.F.entry_set_update_loop ?_
  rw [Around.under_plainId PyProof.Rows.F.plain_set_update_loop _]
  refine (show wpAny _ A.in1 (pyNext (.ref I) >>= _) _ _ s from wpAny_bind (Wk.item i s _ _ lt st fun v s' hv st' mv=>?_))
  obtain ⟨z,tk,hz,rfl⟩:=hk i v hv
  have hs':=held s s' _ hs fun o e=>mv.heap S o out e
  refine (show wpAny _ A.in1 (holding [.str z tk] (setAdd S (.str z tk)) >>= _) _ _ s' from wpAny_bind (wpAny_holding ?_))
  unfold setAdd
  refine wpAny_holding (wpAny_bind ((mixKind P w).pyHash (k:=.inr z) (mixKind_str P w z tk) ?_))
  have hl:=allS_len (ys.take i)
  rw [List.length_take] at hl
  refine set_add_tx (s:={ s' with toks:=s'.toks + 1 }) hs' (by omega) fun b h' sb S2=>?_
  rw [← allS_snoc,show ys.take i ++ [z] = ys.take (i + 1) by rw [List.take_succ,hz]; rfl] at S2
  refine wpAny_pure ⟨plainId_quiet PyProof.Rows.F.plain_set_update_loop _,ih (i + 1) _ (by omega) (Wk.frame _ s' _ _ st' (Nat.le_succ _) fun b hb' o e=>?_) S2 fun s'' mv'' z'=>?_⟩
  ·rw [sb.2 b (fun z:b = S=>hSf (by rw [← z]; exact hb'))]; exact e
  ·refine fin s'' (Moved.trans Wk.gtrans ((mv.mono wid).then_heap (Nat.le_succ _) fun b o hb' e=>?_) mv'') z'
   rw [sb.2 b (fun y:b = S=>hb' (by rw [y]; exact List.mem_cons_self))]; exact e
end
section
variable {P:Program}{w:World}{A:Around}{E:Value->Shared->Prop}
abbrev setO (led:Bool):Obj:={ cls:=.type "set",dict:=none,data:=.set #[] 0 (.fresh 0 0 led) }
theorem set_new_tx {s:Shared} (a:Value) {Q₁:Value->Shared->Prop} (h:Q₁ (.ref s.heap.objs.size) { s with heap:=s.heap.push (setO (!byTx w)) }):
  codeAny (model P w) A (.call (.builtin "set.__new__") ⟨[.type "set",a],[]⟩) (wants Q₁ E) s:=by
 refine codeAny_of_tree (show wpAny _ A.in1 (checkBuiltinCall "set.__new__" ⟨[.type "set",a],[]⟩ >>= fun _=>again (.builtin "set.__new__" ⟨[.type "set",a],[]⟩)) _ _ s from ?_)
 refine wpAny_bind (wpAny_of_eq (PySem.F.newCall_set_1 a) (wpAny_pure ⟨plainId_quiet PySem.F.plain_set_new _,codeAny_builtin PySem.F.entry_set_new ?_⟩))
 rw [Around.under_plainId PySem.F.plain_set_new _]
 unfold Builtin.«set.__new__» Builtin.Frozenset.newClass
 have hsub:=PySem.sub_set_self
 obtain ⟨hp,g,d,tk,os⟩:=s
 dsimp only
 wp_walk
 refine wpAny_askSetting (wpAny_pure ?_)
 simp only [newObj]
 exact wpAny_bind (wpAny_alloc (wpAny_pure (wpAny_pure h)))
set_option maxHeartbeats 8000000 in
theorem set_of_tx {s:Shared}{l:Addr}{items:Array Value}{ys:List Str}{Q:Value->Shared->Prop} (hh:A.handled = none) (hl:s.heap.IsList l items) (hz:items.size = ys.length)
  (hk:∀ (i:Nat) (v:Value),items[i]? = some v->∃ z tk,ys[i]? = some z/\v = .str z tk) (hb:ys.length + 1 < scanBound)
  (h:∀ (h':Heap) (tk:Nat),SetTx P w s.heap.objs.size (allS ys) h'->(∀ b o,b < s.heap.objs.size->s.heap.get? b = some o->h'.get? b = some o)->Q (.ref s.heap.objs.size) { s with heap:=h',toks:=tk }):
  wpAny (model P w) A (call (.type "set") [.ref l]) Q E s:=by
 obtain ⟨_,_,hmro⟩:=PySem.F.called_set.mro
 have hmade:=PySem.F.called_set.made
 have hsub:=PySem.F.called_set.sub
 refine wpAny_call (codeAny_of_tree (show wpAny _ _ (callAny (.type "set") _) _ _ _ from wpAny_pure ⟨Code.quiet_builtin _ (by decide +kernel),codeAny_builtin PySem.F.entry_type_call ?_⟩))
 rw [Around.under_plain (weight_type_call_type "set" [.ref l] []) rfl]
 have h1:=PySem.F.called_set.notType
 have h2:=PySem.F.called_set.canCreate
 have hct:=PySem.F.typeCall_set_1 (.ref l)
 repeat any_goals (first | assumption | wp_step)
 refine codeAny_mono (set_new_tx (.ref l) (E:=E) (Q₁:=fun obj s₁=>obj = .ref s.heap.objs.size/\s₁ = { s with heap:=s.heap.push (setO (!byTx w)) }) ⟨rfl,rfl⟩) fun r s₁ hr=>?_
 cases r with
 | error e=>exact hr
 | ok fl=>
  cases fl with
  | ret obj=>
   obtain ⟨rfl,rfl⟩:=hr
   have gS:(s.heap.push (setO (!byTx w))).get? s.heap.objs.size = some (setO (!byTx w)):=Heap.get?_push_size _ rfl
   have tS:Shared.TypeIs { s with heap:=s.heap.push (setO (!byTx w)) } (.ref s.heap.objs.size) "set":=⟨_,gS,rfl⟩
   have hli:=PySem.F.called_set.init.lookup
   have hbi:=PySem.F.called_set.init.bind (.ref s.heap.objs.size)
   repeat any_goals (first | assumption | wp_step)
   refine codeAny_mono (codeAny_call_builtin (R:=wants (fun r s₂=>r = .none/\∃ h' tk,s₂ = { s with heap:=h',toks:=tk }/\SetTx P w s.heap.objs.size (allS ys) h'/\∀ b o,b < s.heap.objs.size->s.heap.get? b = some o->h'.get? b = some o) E)
    PySem.F.called_set.init.plain PySem.F.entry_set_init (check_set_init_1 tS ?_)) fun r₂ s₂ hr₂=>?_
   ·obtain ⟨ol,hol,hcl,nl,hdl⟩:=hl
    obtain ⟨ocls,odict,odata,oslots⟩:=ol
    simp only at hcl hdl
    subst hcl hdl
    have hol':(s.heap.push (setO (!byTx w))).get? l = some { cls:=.type "list",dict:=odict,data:=.seq items nl,slots:=oslots }:=Heap.get?_push_of_some _ hol
    have hsls:=PySem.F.sub_list_set
    have hslf:=PySem.F.sub_list_frozenset
    have hne:(Value.type "list" == Value.type "dict") = false:=by decide
    have hl1:(s.heap.push (setO (!byTx w))).IsList l items:=⟨_,hol',rfl,nl,rfl⟩
    unfold Builtin.«set.__init__» noKeywords Builtin.Frozenset.updateFrom
    generalize hPI:pyIter = PI
    wp_walk
    subst hPI
    refine wpAny_pyIter_list hl1 (wpAny_bind (wpAny_runValue ?_))
    have hlS:l < s.heap.objs.size:=Heap.lt_size hol
    have hh3:A.in1.in1.in1.handled = none:=by simp [hh]
    have sz:(s.heap.push (setO (!byTx w))).objs.size = s.heap.objs.size + 1:=Heap.size_push ..
    have n1:l≠(s.heap.push (setO (!byTx w))).objs.size:=by rw [sz]; exact Nat.ne_of_lt (Nat.lt_succ_of_lt hlS)
    have n2:s.heap.objs.size ∉ [(s.heap.push (setO (!byTx w))).objs.size,l]:=by
     intro z
     rcases List.mem_cons.mp z with z | z
     ·rw [sz] at z
      exact absurd z (Nat.ne_of_lt (Nat.lt_succ_self _))
     ·exact absurd (List.mem_singleton.mp z) (Nat.ne_of_gt hlS)
    have Wl:=(Walks.list (prog:=P) (w:=w) hh3 _ l n1 items).toS
    rw [hz] at Wl
    refine set_fill_tx ys Wl s.heap.objs.size n2 (fun i v hv=>hk i v hv) hb ys.length 0 _ (by omega)
     ⟨⟨_,Heap.get?_push_size _ rfl,rfl,rfl⟩,(hl1.push _)⟩ ?c0 ?cR
    case c0=>
     have hget:=Heap.get?_push_of_some { cls:=.type "list_iterator",data:=.fields #[.ref l,.int 0 0] } gS
     exact ⟨_,#[],0,_,hget,⟨rfl,rfl,rfl⟩,rfl,(fun e he=>by simp at he),(fun e he=>by simp at he),(by simp [allS]),by decide,by rfl,rfl,.inl rfl⟩
    case cR=>
     intro s' hm hS'
     obtain ⟨h',g',d',tk',os'⟩:=s'
     have eg:g' = s.gens:=hm.gens
     have ed:d' = s.drawn:=hm.drawn
     have eo:os' = s.os:=hm.os
     subst eg ed eo
     refine wpAny_pure (show wpAny _ _ (ret Value.none) _ _ _ from wpAny_pure ⟨rfl,h',tk',rfl,hS',fun b o hb e=>?_⟩)
     refine hm.heap b o ?_ (Heap.get?_push_of_some _ (Heap.get?_push_of_some _ e))
     intro z
     rcases List.mem_cons.mp z with z | z
     ·exact absurd z (Nat.ne_of_lt hb)
     ·have z:=List.mem_singleton.mp z
      rw [sz] at z
      exact absurd z (Nat.ne_of_lt (Nat.lt_succ_of_lt hb))
   ·cases r₂ with
    | error e=>exact hr₂
    | ok fl₂=>
     cases fl₂ with
     | ret r=>
      obtain ⟨rfl,h',tk,rfl,hS',hk'⟩:=hr₂
      repeat any_goals (first | assumption | wp_step)
      exact h _ _ hS' hk'
     | _=>exact hr₂.elim
  | _=>exact hr.elim
end
def SetH (P:Program) (w:World) (a:Addr) (ds:List Str):HO:=.ext (SetTx P w a ds)
theorem call_set_tx {X:Cx} (hc:X.calm = true):CallR X (.type "set") (fun xs H Q=>∃ (p:Addr) (ys:List Str),xs = [.ref p]/\SqL X.K H p (ys.map V.str)/\ys.length<=1000/\∀ l,H l = none->Q (.ref l) (upd H l (SetH X.prog X.w l (allS ys)))):=by
 intro zp s σ H xs us Q I r h
 obtain ⟨p,ys,rfl,hq,hz,q⟩:=h
 obtain ⟨u,rfl,rx⟩:=vals1 r
 cases rx
 obtain ⟨its,rv,pl,_⟩:=I.list hq
 have l1:=rv.length
 rw [List.length_map] at l1
 have lz:its.toArray.size = ys.length:=by rw [List.size_toArray,l1]
 refine set_of_tx (I.ok.hd hc) pl.isList lz (fun i v hv=>?_) (by unfold scanBound; omega) (fun h' tk hS kp=>?_)
 ·have hv':its[i]? = some v:=by simpa using hv
  have hi:i < ys.length:=by rw [l1]; exact (List.getElem?_eq_some_iff.mp hv').1
  obtain ⟨u1,hu1,t1,rfl⟩:=rv.get (i:=i) (x:=V.str ys[i]) (by rw [List.getElem?_map,List.getElem?_eq_getElem hi]; rfl)
  rw [hu1] at hv'
  cases hv'
  exact ⟨_,_,List.getElem?_eq_getElem hi,rfl⟩
 ·have kp':∀ b o,s.heap.get? b = some o->h'.get? b = some o:=fun b o e=>kp b o (Heap.lt_size e) e
  refine ⟨.ref s.heap.objs.size,_,I.laid (t':=tk) kp' (Nat.le_refl _) (show ObjOk X.prog X.w _ h' _ (SetH X.prog X.w s.heap.objs.size (allS ys)) from ⟨hS,?_,fun h1 h2 ⟨o,es,ep,t,ho,rest⟩ hk=>⟨o,es,ep,t,hk o ho,rest⟩⟩),rfl,q _ (I.hok.fresh (Nat.le_refl _))⟩
  obtain ⟨o,es,ep,t,ho,rest⟩:=hS
  exact ⟨o,ho⟩
theorem slot_sit_next:Slot "set_iterator" "__next__" "set_iterator.__next__":=
 .of (owner:="set_iterator") (n:="__next__") (by rw [typeLookup_type,builtinLookup_eq_fast]; kernel_rfl)
  (by decide +kernel) (by decide +kernel) (by decide +kernel) (.inl (by decide +kernel)) (by rw [isSubtype_type]; kernel_rfl)
theorem slot_sit_iter:Slot "set_iterator" "__iter__" "set_iterator.__iter__":=
 .of (owner:="set_iterator") (n:="__iter__") (by rw [typeLookup_type,builtinLookup_eq_fast]; kernel_rfl)
  (by decide +kernel) (by decide +kernel) (by decide +kernel) (.inl (by decide +kernel)) (by rw [isSubtype_type]; kernel_rfl)
theorem entry_sit_next:entryFor table "set_iterator.__next__" = some Builtin.«set_iterator.__next__»:=entryFor_of_tree (by kernel_rfl)
theorem entry_sit_iter:entryFor table "set_iterator.__iter__" = some Builtin.«dict_keyiterator.__iter__»:=
 entryFor_alias (id':="dict_keyiterator.__iter__") (by kernel_rfl) (by decide +kernel) (by decide +kernel) (by kernel_rfl)
theorem entry_set_iter:entryFor table "set.__iter__" = some Builtin.«frozenset.__iter__»:=
 entryFor_alias (id':="frozenset.__iter__") (by kernel_rfl) (by decide +kernel) (by decide +kernel) (by kernel_rfl)
theorem owner_sit:Manifest.owners.lookup (String.ofList "rotareti_tes".toList.reverse) = some Manifest.sig_set_iterator:=by kernel_rfl
theorem args_sit_next (a:Value):argsOk "set_iterator.__next__" ⟨[a],[]⟩:=by
 unfold argsOk
 rw [signature?_of (id:="set_iterator.__next__") (n:="__txen__".toList) (o:="rotareti_tes".toList) (by kernel_rfl) owner_sit]
 kernel_rfl
theorem args_sit_iter (a:Value):argsOk "set_iterator.__iter__" ⟨[a],[]⟩:=by
 unfold argsOk
 rw [signature?_of (id:="set_iterator.__iter__") (n:="__reti__".toList) (o:="rotareti_tes".toList) (by kernel_rfl) owner_sit]
 kernel_rfl
theorem erase_perm {α:Type}{l:List α}{i:Nat} (h:i < l.length):(l[i] :: l.eraseIdx i).Perm l:=by
 rw [List.eraseIdx_eq_take_drop_succ]
 refine List.perm_middle.symm.trans ?_
 rw [List.getElem_cons_drop h,List.take_append_drop]
theorem pick_go {α:Type} (nx:Nat->Nat):∀ (fuel k:Nat) (left:List α) (out:Array α),fuel = left.length->(pickOrder.go nx fuel k left out).toList.Perm (out.toList ++ left)
 | 0,k,left,out,h=>by
  have:left = []:=List.length_eq_zero_iff.mp h.symm
  subst this
  unfold pickOrder.go
  simp
 | fuel + 1,k,left,out,h=>by
  have hpos:0 < left.length:=by omega
  have hi:nx k % left.length < left.length:=Nat.mod_lt _ hpos
  unfold pickOrder.go
  rw [List.getElem?_eq_getElem hi]
  refine (pick_go nx fuel (k + 1) _ _ (by rw [List.length_eraseIdx,if_pos hi]; omega)).trans ?_
  rw [Array.toList_push,List.append_assoc]
  exact List.Perm.append_left _ (erase_perm hi)
theorem pick_perm {α:Type} (nx:Nat->Nat) (xs:Array α):(pickOrder nx xs).toList.Perm xs.toList:=by
 have:=pick_go nx xs.size 0 xs.toList #[] (by rw [Array.length_toList])
 simpa [pickOrder] using this
section
variable {P:Program}{w:World}{A:Around}{E:Value->Shared->Prop}
theorem draw_any {α:Type} (n:Nat):∀ (xs:List α) (s:Shared) (Q:List α->Shared->Prop),xs.length = n->(∀ (ys:List α) d',ys.Perm xs->Q ys { s with drawn:=d' })->wpAny (model P w) A (drawOrder n xs) Q E s:=by
 induction n with
 | zero=>
  intro xs s Q h q
  have:xs = []:=List.length_eq_zero_iff.mp h
  subst this
  unfold drawOrder
  exact wpAny_pure (q [] s.drawn .nil)
 | succ n ih=>
  intro xs s Q h q
  cases xs with
  | nil=>cases h
  | cons x xs=>
  unfold drawOrder
  refine wpAny_bind (fun Γ p hΓ=>?_)
  show Sem.wp _ _ (Sem.choose .order (x :: xs).length Sem.pure) _ _ _ _
  rw [Sem.wp_choose]
  refine ⟨by simp,?_⟩
  rw [Sem.wp_pure]
  have hi:(model P w).w.draws .order (s.drawn.get .order) % (x :: xs).length < (x :: xs).length:=Nat.mod_lt _ (by simp)
  generalize (model P w).w.draws .order (s.drawn.get .order) % (x :: xs).length = i at hi ⊢
  show wpAny (model P w) A (match (x :: xs)[i]? with | some y=>drawOrder n ((x :: xs).eraseIdx i) >>= fun l=>pure (y :: l) | none=>unsupported "internal:drawOrder") Q E _
  rw [List.getElem?_eq_getElem hi]
  refine wpAny_bind (ih _ _ _ (by rw [List.length_eraseIdx,if_pos hi]; omega) fun ys d' hp=>wpAny_pure (q _ d' ?_))
  exact (List.Perm.cons _ hp).trans (erase_perm hi)
end
def ItAt (w:World) (I a pl:Addr) (es:Array (Int × Value)) (ep:Nat) (t:SetTable) (ord:List Value) (i:Nat) (h:Heap):Prop:=
 (∃ o,h.get? a = some o/\o.data = .set es ep t)/\∃ (oI:Obj) (first:Value),h.get? I = some oI/\oI.cls = .type "set_iterator"/\oI.data = .fields #[first,rawInt i,.ref a,rawInt es.size,rawInt ep] /\
  ((byTx w = true/\first = rawInt 0/\ord = (pickOrder (w.params.setOrder a ep) es).toList.map (·.2)) \/
   (byTx w = false/\∃ (ps:List Nat) (op:Obj) (c:Nat),first = .ref pl/\h.get? pl = some op/\op.data = .seq (ps.map fun (p:Nat)=>rawInt p).toArray c/\ord.length = ps.length/\∀ (j p:Nat),ps[j]? = some p->∃ e,es[p]? = some e/\ord[j]? = some e.2) \/
   (byTx w = false/\es.size<=1/\t.led = true/\ord = es.toList.map (·.2)/\∃ sl:Nat,first = rawInt sl/\(i = 0->sl = 0)/\(0 < i->∀ j,t.place[0]? = some j->sl = j + 1)))
section
variable {P:Program}{w:World}{A:Around}{E:Value->Shared->Prop}
theorem stop_wp {s:Shared}{Q:PySem.Fin->Shared->Prop}{E':Value->Shared->Prop} (hh:A.handled = none)
  (h:∀ (x:Addr) (h':Heap),(∀ b o,s.heap.get? b = some o->h'.get? b = some o)->(∃ o,h'.get? x = some o/\o.cls = .type "StopIteration")->E' (.ref x) { s with heap:=h' }):
  wpAny (model P w) A (newExc (.type "StopIteration") [] >>= fun e=>raiseNew e) Q E' s:=by
 refine wpAny_bind ?_
 simp only [newExc,newTuple]
 refine wpAny_bind (wpAny_newObj_type ?_ (by size_fits))
 refine wpAny_bind (m:=firstArgMember _ _) (wpAny_of_eq (a:=Value.none) (by first | rfl | (simp only [firstArgMember]; rfl)) ?_)
 refine wpAny_newObj_type ?_ (by size_fits)
 simp only [raiseNew]
 refine wpAny_bind (wpAny_handled ?_)
 rw [hh]
 refine wpAny_bind (wpAny_pure (wpAny_throw (h _ _ (fun b o e=>Heap.get?_push_of_some _ (Heap.get?_push_of_some _ e)) ⟨_,Heap.get?_push_size _ rfl,rfl⟩)))
theorem byText_wp {s:Shared}{Q:Bool->Shared->Prop} (h:Q (byTx w) s):wpAny (model P w) A setsByText Q E s:=by
 unfold setsByText
 exact wpAny_bind (wpAny_askSetting (wpAny_pure h))
theorem setNextA {s:Shared}{a:Addr}{oa:Obj}{es:Array (Int × Value)}{ep sl g:Nat}{t:SetTable}{Q:Option (Value × Nat)->Shared->Prop} (hb:byTx w = true) (hoa:s.heap.get? a = some oa) (hda:oa.data = .set es ep t) (hf:t.fits es.size = true)
  (h:Q (((pickOrder (w.params.setOrder a ep) es)[g]?).map fun e=>(e.2,sl)) s):wpAny (model P w) A (setNext a sl g ep) Q E s:=by
 unfold setNext
 refine wpAny_bind (wpAny_setState_of hoa hda hf (wpAny_bind (byText_wp ?_)))
 rw [hb]
 simp only [↓reduceIte,bne_self_eq_false,Bool.false_eq_true]
 unfold setWalk
 refine wpAny_bind (wpAny_bind (wpAny_setState_of hoa hda hf (wpAny_bind (byText_wp ?_))))
 rw [hb]
 simp only [↓reduceIte]
 exact wpAny_bind (wpAny_askSetting (wpAny_pure (wpAny_pure h)))
theorem setNextC {s:Shared}{a:Addr}{oa:Obj}{es:Array (Int × Value)}{ep sl g:Nat}{t:SetTable}{Q:Option (Value × Nat)->Shared->Prop} (hb:byTx w = false) (hled:t.led = true) (h1:es.size<=1) (hoa:s.heap.get? a = some oa) (hda:oa.data = .set es ep t) (hf:t.fits es.size = true)
  (h:Q (match es[SetTable.below t.place sl]?,t.place[SetTable.below t.place sl]? with | some (_,x),some j=>some (x,j + 1) | _,_=>none) s):wpAny (model P w) A (setNext a sl g ep) Q E s:=by
 unfold setNext
 refine wpAny_bind (wpAny_setState_of hoa hda hf (wpAny_bind (byText_wp ?_)))
 rw [hb]
 simp only [↓reduceIte,Bool.false_eq_true]
 split
 ·rename_i hd
  have hd':(!t.plain && decide (es.size > 1)) = true:=hd
  rw [Bool.and_eq_true,decide_eq_true_eq] at hd'
  omega
 ·refine wpAny_bind (show wpAny _ _ (if (!t.led && !es.isEmpty) = true then unsupported "set:maker-not-led" else pure ()) _ _ s from ?_)
  rw [hled,Bool.not_true,Bool.false_and,if_neg Bool.false_ne_true]
  exact wpAny_pure (wpAny_pure h)
theorem nextDrawn {s:Shared}{a:Addr}{oa:Obj}{es:Array (Int × Value)}{ep p:Nat}{t:SetTable}{e:Int × Value}{Q:Value->Shared->Prop} (hoa:s.heap.get? a = some oa) (hda:oa.data = .set es ep t) (hf:t.fits es.size = true) (he:es[p]? = some e) (h:Q e.2 s):
  wpAny (model P w) A (setNextDrawn a p ep) Q E s:=by
 unfold setNextDrawn
 refine wpAny_bind (wpAny_setState_of hoa hda hf ?_)
 simp only [bne_self_eq_false,Bool.false_eq_true,↓reduceIte]
 rw [he]
 exact wpAny_pure h
theorem one_of {xs:Array Nat} (h:xs.size = 1):∃ j,xs = #[j]:=by
 obtain ⟨l⟩:=xs
 match l,h with
 | [j],_=>exact ⟨j,rfl⟩
theorem below_one {t:SetTable}{j:Nat} (h:t.place = #[j]):SetTable.below t.place 0 = 0/\SetTable.below t.place (j + 1) = 1:=by
 rw [h]
 unfold SetTable.below
 constructor
 ·simp [SetTable.below.go]
 ·simp [SetTable.below.go]
theorem below_nil {t:SetTable}{j:Nat} (h:t.place = #[]):SetTable.below t.place j = 0:=by
 rw [h]
 rfl
theorem fld {h:Heap}{I:Addr}{o:Obj}{vs:Array Value} (ho:h.get? I = some o) (hd:o.data = .fields vs) (k:Nat) (x:Value):
  (∃ o',(h.update I (Obj.mapFields (·.setIfInBounds k x))).get? I = some o'/\o'.cls = o.cls/\o'.data = .fields (vs.setIfInBounds k x))/\∀ b q,b≠I->h.get? b = some q->(h.update I (Obj.mapFields (·.setIfInBounds k x))).get? b = some q:=
 ⟨⟨_,Heap.get?_update_self _ ho (Obj.isFreed_of_fields (Obj.data_mapFields hd _)),Obj.cls_mapFields ..,Obj.data_mapFields hd _⟩,fun b q hb e=>(Heap.get?_update_other _ _ (Ne.symm hb)).trans e⟩
theorem next_set {s:Shared}{I a pl:Addr}{es:Array (Int × Value)}{ep:Nat}{t:SetTable}{ord:List Value}{i:Nat}{Q:Option Value->Shared->Prop} (hh:A.handled = none) (hf:t.fits es.size = true) (hz:ord.length = es.size) (hne:a≠I) (hnp:pl≠I)
  (h:ItAt w I a pl es ep t ord i s.heap)
  (item:∀ (v:Value) (h':Heap),ord[i]? = some v->ItAt w I a pl es ep t ord (i + 1) h'->(∀ b o,b≠I->s.heap.get? b = some o->h'.get? b = some o)->Q (some v) { s with heap:=h' })
  (done:ord[i]? = none->∀ h':Heap,(∀ b o,b≠I->s.heap.get? b = some o->h'.get? b = some o)->Q none { s with heap:=h' }):
  wpAny (model P w) A (pyNext (.ref I)) Q E s:=by
 obtain ⟨⟨oa,hoa,hda⟩,oI,first,hI,hc,hd,mode⟩:=h
 have hT:s.TypeIs (.ref I) "set_iterator":=⟨oI,hI,hc⟩
 unfold pyNext
 refine wpAny_bind (wpAny_attempt (wpAny_callSpecial?_slot (name:=Str.ofString "__next__") hT slot_sit_next (wpAny_call_entry slot_sit_next hT entry_sit_next ?_ (args_sit_next _))))
 unfold Builtin.«set_iterator.__next__»
 refine wpAny_bind (wpAny_pure (wpAny_bind (wpAny_fieldsOf hI hd ?_)))
 have stop:∀ (h2:Heap),ord[i]? = none->(∀ b o,b≠I->s.heap.get? b = some o->h2.get? b = some o)->wpAny (model P w) A.in1 (newExc (.type "StopIteration") [] >>= fun e=>(raiseNew e:Sem PySem.Fin)) (fun fin s'=>∃ v,fin = .done (.ret v)/\wpAny (model P w) A (match (Except.ok (some v):Except Value (Option Value)) with | Except.ok (some v)=>pure (some v) | Except.ok none=>unsupported "iter:the-iterator's-class-has-lost-its-__next__-amid-the-walk" | Except.error e=>do
   let b ← isInstance e (Value.type "StopIteration")
   if b = true then pure none else throw e) Q E s') (fun e s'=>wpAny (model P w) A (match (Except.error e:Except Value (Option Value)) with | Except.ok (some v)=>pure (some v) | Except.ok none=>unsupported "iter:the-iterator's-class-has-lost-its-__next__-amid-the-walk" | Except.error e=>do
   let b ← isInstance e (Value.type "StopIteration")
   if b = true then pure none else throw e) Q E s') { s with heap:=h2 }:=fun h2 hn hk=>by
  refine stop_wp (A:=A.in1) (by simpa using hh) fun x h' hk' hx=>?_
  obtain ⟨ox,hox,hcx⟩:=hx
  refine wpAny_bind (wpAny_isInstance (T:="StopIteration") (b:=true) ⟨ox,hox,hcx⟩ isSubtype_stop ?_)
  exact wpAny_pure (done hn h' fun b o hb e=>hk' b o (hk b o hb e))
 refine wpAny_bind (wpAny_setEntries_of hoa hda hf ?_)
 rw [if_neg (by simp)]
 have hlt:∀ {v},ord[i]? = some v->i < es.size:=fun {v} e=>by rw [← hz]; exact (List.getElem?_eq_some_iff.mp e).1
 rcases mode with ⟨hb,rfl,hord⟩ | ⟨hb,ps,op,c,rfl,hop,hdp,hlen,hps⟩ | ⟨hb,h1,hled,hord,sl,rfl,hs0,hs1⟩
 ·refine wpAny_bind (setNextA hb hoa hda hf ?_)
  have hoi:ord[i]? = ((pickOrder (w.params.setOrder a ep) es)[i]?).map (·.2):=by rw [hord,List.getElem?_map,Array.getElem?_toList]
  show wpAny _ _ (match (((pickOrder (w.params.setOrder a ep) es)[i]?).map fun e=>(e.2,(0:Nat))) with | some (x,next)=>_ | none=>_) _ _ s
  cases hp:(pickOrder (w.params.setOrder a ep) es)[i]? with
  | none=>
   rw [hp] at hoi
   obtain ⟨⟨o1,g1,c1,d1⟩,k1⟩:=fld hI hd 2 .none
   exact wpAny_bind (wpAny_setField hI hd (by simp) (stop _ hoi k1))
  | some e=>
   rw [hp] at hoi
   obtain ⟨⟨o1,g1,c1,d1⟩,k1⟩:=fld hI hd 0 (rawInt (0:Nat))
   obtain ⟨⟨o2,g2,c2,d2⟩,k2⟩:=fld g1 d1 1 (rawInt ((i:Int) + 1))
   refine wpAny_bind (wpAny_setField hI hd (by simp) (wpAny_bind (wpAny_setField g1 d1 (by simp) ?_)))
   have kk:∀ b q,b≠I->s.heap.get? b = some q->_:=fun b q hb e'=>k2 b q hb (k1 b q hb e')
   exact wpAny_pure ⟨_,rfl,wpAny_pure (item _ _ hoi ⟨⟨oa,kk a _ hne hoa,hda⟩,o2,rawInt 0,g2,c2.trans (c1.trans hc),by rw [d2]; simp [rawInt],.inl ⟨hb,rfl,hord⟩⟩ kk)⟩
 ·refine wpAny_bind (wpAny_seqItems hop hdp ?_)
  show wpAny _ _ (match ((ps.map fun (p:Nat)=>rawInt p).toArray)[i]? with | some (Value.int place tok)=>_ | some _=>_ | none=>_) _ _ s
  rw [List.getElem?_toArray,List.getElem?_map]
  cases hp:ps[i]? with
  | none=>
   have hoi:ord[i]? = none:=List.getElem?_eq_none (by rw [hlen]; exact List.getElem?_eq_none_iff.mp hp)
   obtain ⟨⟨o1,g1,c1,d1⟩,k1⟩:=fld hI hd 0 (rawInt 0)
   obtain ⟨⟨o2,g2,c2,d2⟩,k2⟩:=fld g1 d1 2 .none
   exact wpAny_bind (wpAny_setField hI hd (by simp) (wpAny_bind (wpAny_setField g1 d1 (by simp) (stop _ hoi fun b q hb e'=>k2 b q hb (k1 b q hb e')))))
  | some p=>
   obtain ⟨e,he,hoi⟩:=hps i p hp
   obtain ⟨⟨o1,g1,c1,d1⟩,k1⟩:=fld hI hd 1 (rawInt ((i:Int) + 1))
   refine wpAny_bind (show wpAny _ _ (setNextDrawn a p ep) _ _ s from nextDrawn hoa hda hf he (wpAny_bind (wpAny_setField hI hd (by simp) ?_)))
   exact wpAny_pure ⟨_,rfl,wpAny_pure (item _ _ hoi ⟨⟨oa,k1 a _ hne hoa,hda⟩,o1,_,g1,c1.trans hc,by rw [d1]; simp [rawInt],.inr (.inl ⟨hb,ps,op,c,rfl,k1 pl _ hnp hop,hdp,hlen,hps⟩)⟩ k1)⟩
 ·refine wpAny_bind (setNextC hb hled h1 hoa hda hf ?_)
  have hpz:t.place.size = es.size:=by
   have:=hf
   unfold SetTable.fits at this
   rw [Bool.and_eq_true,beq_iff_eq] at this
   exact this.1
  show wpAny _ _ (match (match es[SetTable.below t.place sl]?,t.place[SetTable.below t.place sl]? with | some (_,x),some j=>some (x,j + 1) | _,_=>none) with | some (x,next)=>_ | none=>_) _ _ s
  have fin:ord[i]? = none->wpAny (model P w) A.in1 (setField (.ref I) 2 .none >>= fun _=>newExc (.type "StopIteration") [] >>= fun e=>(raiseNew e:Sem PySem.Fin)) _ _ s:=fun hoi=>by
   obtain ⟨⟨o1,g1,c1,d1⟩,k1⟩:=fld hI hd 2 .none
   exact wpAny_bind (wpAny_setField hI hd (by simp) (stop _ hoi k1))
  by_cases h0:es.size = 0
  ·have hp0:t.place = #[]:=Array.eq_empty_of_size_eq_zero (by omega)
   rw [below_nil hp0,Array.getElem?_eq_none (by omega)]
   exact fin (List.getElem?_eq_none (by omega))
  ·have he1:es.size = 1:=by omega
   obtain ⟨j,hj⟩:∃ j,t.place = #[j]:=by
    have:t.place.size = 1:=by omega
    exact one_of this
   obtain ⟨b0,b1⟩:=below_one hj
   by_cases hi0:i = 0
   ·subst hi0
    rw [hs0 rfl,b0,hj,Array.getElem?_eq_getElem (show 0 < es.size by omega)]
    obtain ⟨⟨o1,g1,c1,d1⟩,k1⟩:=fld hI hd 0 (rawInt ((j + 1:Nat):Int))
    obtain ⟨⟨o2,g2,c2,d2⟩,k2⟩:=fld g1 d1 1 (rawInt (((0:Nat):Int) + 1))
    have hoi:ord[0]? = some es[0].2:=by rw [hord,List.getElem?_map,Array.getElem?_toList,Array.getElem?_eq_getElem (show 0 < es.size by omega)]; rfl
    have kk:∀ b q,b≠I->s.heap.get? b = some q->_:=fun b q hb e'=>k2 b q hb (k1 b q hb e')
    refine wpAny_bind (wpAny_setField hI hd (by simp) (wpAny_bind (wpAny_setField g1 d1 (by simp) ?_)))
    exact wpAny_pure ⟨_,rfl,wpAny_pure (item _ _ hoi ⟨⟨oa,kk a _ hne hoa,hda⟩,o2,rawInt ((j + 1:Nat):Int),g2,c2.trans (c1.trans hc),by rw [d2]; simp [rawInt],.inr (.inr ⟨hb,h1,hled,hord,j + 1,rfl,(fun z=>by omega),fun _ j' hj'=>by rw [hj] at hj'; simpa using hj'⟩)⟩ kk)⟩
   ·rw [hs1 (by omega) j (by rw [hj]; rfl),b1,Array.getElem?_eq_none (by omega)]
    exact fin (List.getElem?_eq_none (by omega))
theorem walk_set (hh:A.handled = none) (I a pl:Addr) {es:Array (Int × Value)}{ep:Nat}{t:SetTable}{ord:List Value} (hf:t.fits es.size = true) (hz:ord.length = es.size) (hne:a≠I) (hnp:pl≠I):
  Walks P w A I [I,a,pl] [I] ord.length (fun i v=>ord[i]? = some v) (fun i h=>ItAt w I a pl es ep t ord i h) where
 sub:=fun b hb=>by rw [List.mem_singleton.mp hb]; exact List.mem_cons_self
 frame:=fun i h h' st hk=>by
  obtain ⟨⟨oa,hoa,hda⟩,oI,first,hI,hc,hd,mode⟩:=st
  refine ⟨⟨oa,hk a (by simp) _ hoa,hda⟩,oI,first,hk I (by simp) _ hI,hc,hd,?_⟩
  rcases mode with m | ⟨hb,ps,op,c,e1,hop,rest⟩ | m
  ·exact .inl m
  ·exact .inr (.inl ⟨hb,ps,op,c,e1,hk pl (by simp) _ hop,rest⟩)
  ·exact .inr (.inr m)
 item:=fun i s Q E hi st hQ=>by
  refine next_set hh hf hz hne hnp st (fun v h' hv st' kp=>hQ v h' s.toks hv st' fun b o hb e=>kp b o (fun z=>hb (by simp [z])) e) (fun hn=>?_)
  rw [List.getElem?_eq_getElem hi] at hn
  cases hn
 done:=fun s Q E st hQ=>by
  refine next_set hh hf hz hne hnp st (fun v h' hv=>?_) (fun hn h' kp=>hQ h' s.toks fun b o hb e=>kp b o (fun z=>hb (by simp [z])) e)
  rw [List.getElem?_eq_none (Nat.le_refl _)] at hv
  cases hv
 self:=fun i s Q E st hQ=>by
  obtain ⟨_,oI,first,hI,hc,_⟩:=st
  have hT:s.TypeIs (.ref I) "set_iterator":=⟨oI,hI,hc⟩
  refine wpAny_pyIter_slot hT slot_sit_iter (wpAny_call_entry slot_sit_iter hT entry_sit_iter ?_ (args_sit_iter _))
  exact (show wpAny _ _ (ret (Value.ref I)) _ _ s from wpAny_pure ⟨_,rfl,"set_iterator",_,hT,slot_sit_next.lookup,hQ⟩)
theorem iter_set {s:Shared}{a:Addr}{ds:List Str}{Q:Value->Shared->Prop} (hS:SetTx P w a ds s.heap)
  (h:∀ (I pl:Addr) (h':Heap) (d':Drawn) (es:Array (Int × Value)) (ep:Nat) (t:SetTable) (ord:List Value),(∀ b o,s.heap.get? b = some o->h'.get? b = some o)->s.heap.objs.size<=I->pl≠I->(pl = a\/s.heap.objs.size<=pl)->t.fits es.size = true->ord.length = es.size->ord.Perm (es.toList.map (·.2))->(∀ v∈ord,∃ z tk,v = .str z tk)->(ord.map txOf).Perm ds->ItAt w I a pl es ep t ord 0 h'->Q (.ref I) { s with heap:=h',drawn:=d' }):
  wpAny (model P w) A (pyIter (.ref a)) Q E s:=by
 obtain ⟨o,es,ep,t,ho,hex,hd,hel,htx,hpm,hb,hf,hmk⟩:=hS
 have hT:s.TypeIs (.ref a) "set":=⟨o,ho,hex.1⟩
 have haI:a < s.heap.objs.size:=Heap.lt_size ho
 refine wpAny_pyIter_slot hT PySem.F.slot_set_iter (wpAny_call_entry PySem.F.slot_set_iter hT entry_set_iter ?_ (PySem.F.args_set_iter_1 _))
 unfold Builtin.«frozenset.__iter__»
 have hvals:∀ ord:List Value,ord.Perm (es.toList.map (·.2))->ord.length = es.size/\(∀ v∈ord,∃ z tk,v = .str z tk)/\(ord.map txOf).Perm ds:=fun ord hp=>by
  refine ⟨by rw [hp.length_eq,List.length_map,Array.length_toList],fun v hv=>?_,?_⟩
  ·obtain ⟨e,he,rfl⟩:=List.mem_map.mp (hp.mem_iff.mp hv)
   exact htx e he
  ·have:=hp.map txOf
   rw [List.map_map] at this
   exact this.trans hpm
 refine wpAny_bind (m:=Builtin.Frozenset.slot0 "__iter__" _) (wpAny_pure ?_)
 refine wpAny_bind (show wpAny _ _ (setEntries a >>= fun x=>pure x.size) _ _ s from wpAny_bind (wpAny_setEntries_of ho hd hf (wpAny_pure ?_)))
 refine wpAny_bind ?_
 unfold setDrawn
 refine wpAny_bind (wpAny_setState_of ho hd hf (wpAny_bind (byText_wp (wpAny_pure ?_))))
 show wpAny _ _ (if (!byTx w && (!t.plain && decide (es.size > 1))) = true then _ else _) _ _ s
 split
 ·rename_i hdr
  rw [Bool.and_eq_true,Bool.and_eq_true,decide_eq_true_eq] at hdr
  have hb0:byTx w = false:=by simpa using hdr.1
  refine wpAny_bind (draw_any es.size (List.range es.size) s _ (by simp) fun ps d' hps=>?_)
  have hpl:ps.length = es.size:=by rw [hps.length_eq,List.length_range]
  refine wpAny_bind (wpAny_newObj_type ?_ (by show (List.map _ ps).toArray.size<=sizeLine; rw [List.size_toArray,List.length_map,hpl]; exact fits_of_scanBound hb))
  have kp1:∀ b q,s.heap.get? b = some q->(s.heap.push { cls:=.type "tuple",data:=.seq (ps.map fun (p:Nat)=>rawInt p).toArray }).get? b = some q:=fun b q e=>Heap.get?_push_of_some _ e
  refine wpAny_bind (wpAny_setEpoch_of (kp1 a _ ho) hd hf (wpAny_bind (wpAny_newObj_type ?_)))
  refine wpAny_pure ⟨_,rfl,"set_iterator",_,⟨_,Heap.get?_push_size _ rfl,rfl⟩,slot_sit_next.lookup,?_⟩
  have kp2:∀ b q,s.heap.get? b = some q->((s.heap.push { cls:=.type "tuple",data:=.seq (ps.map fun (p:Nat)=>rawInt p).toArray }).push { cls:=.type "set_iterator",data:=.fields #[.ref s.heap.objs.size,rawInt 0,.ref a,rawInt es.size,rawInt ep] }).get? b = some q:=fun b q e=>Heap.get?_push_of_some _ (kp1 b q e)
  have hin:∀ p∈ps,p < es.size:=fun p hp=>List.mem_range.mp (hps.mem_iff.mp hp)
  have ho':(ps.map fun p=>(es.toList.map (·.2)).getD p .none).Perm (es.toList.map (·.2)):=by
   refine (hps.map _).trans (List.Perm.of_eq ?_)
   apply List.ext_getElem (by simp)
   intro k h1 h2
   simp at h2
   simp [h2]
  obtain ⟨h1,h2,h3⟩:=hvals _ ho'
  have sz:(s.heap.push { cls:=.type "tuple",data:=.seq (ps.map fun (p:Nat)=>rawInt p).toArray }).objs.size = s.heap.objs.size + 1:=Heap.size_push ..
  refine h _ s.heap.objs.size _ d' es ep t _ kp2 (by rw [sz]; exact Nat.le_succ _) (Nat.ne_of_lt (by rw [sz]; exact Nat.lt_succ_self _)) (.inr (Nat.le_refl _)) hf h1 ho' h2 h3 ⟨⟨o,kp2 a _ ho,hd⟩,_,.ref s.heap.objs.size,Heap.get?_push_size _ rfl,rfl,rfl,.inr (.inl ⟨hb0,ps,_,_,rfl,Heap.get?_push_of_some _ (Heap.get?_push_size _ rfl),rfl,by rw [List.length_map],fun j p hj=>?_⟩)⟩
  have hp:=hin p (List.mem_of_getElem? hj)
  refine ⟨es[p],Array.getElem?_eq_getElem hp,?_⟩
  rw [List.getElem?_map,hj]
  simp [hp]
 ·rename_i hdr
  refine wpAny_bind (wpAny_pure (wpAny_bind (wpAny_setEpoch_of ho hd hf (wpAny_bind (wpAny_newObj_type ?_)))))
  refine wpAny_pure ⟨_,rfl,"set_iterator",_,⟨_,Heap.get?_push_size _ rfl,rfl⟩,slot_sit_next.lookup,?_⟩
  have kp:∀ b o,s.heap.get? b = some o->(s.heap.push { cls:=.type "set_iterator",data:=.fields #[rawInt 0,rawInt 0,.ref a,rawInt es.size,rawInt ep] }).get? b = some o:=fun b o e=>Heap.get?_push_of_some _ e
  cases hbt:byTx w with
  | true=>
   have hp:((pickOrder (w.params.setOrder a ep) es).toList.map (·.2)).Perm (es.toList.map (·.2)):=(pick_perm _ es).map _
   obtain ⟨h1,h2,h3⟩:=hvals _ hp
   exact h s.heap.objs.size a _ s.drawn es ep t _ kp (Nat.le_refl _) (Nat.ne_of_lt haI) (.inl rfl) hf h1 hp h2 h3 ⟨⟨o,kp a _ ho,hd⟩,_,rawInt 0,Heap.get?_push_size _ rfl,rfl,rfl,.inl ⟨hbt,rfl,rfl⟩⟩
  | false=>
   have hsz:es.size<=1:=by
    rw [hbt] at hdr
    rcases hmk.2 with h0 | h0
    ·omega
    ·rw [h0] at hdr
     simp at hdr
     omega
   obtain ⟨h1,h2,h3⟩:=hvals _ (.refl _)
   exact h s.heap.objs.size a _ s.drawn es ep t _ kp (Nat.le_refl _) (Nat.ne_of_lt haI) (.inl rfl) hf h1 (.refl _) h2 h3 ⟨⟨o,kp a _ ho,hd⟩,_,rawInt 0,Heap.get?_push_size _ rfl,rfl,rfl,.inr (.inr ⟨hbt,hsz,by rw [hmk.1,hbt]; rfl,rfl,0,rfl,fun _=>rfl,fun z=>absurd z (Nat.lt_irrefl _)⟩)⟩
end
theorem txOf_strOf (v:Value) (h:∃ z tk,v = .str z tk):txOf v = strOf v:=by
 obtain ⟨z,tk,rfl⟩:=h
 rfl
section
variable {P:Program}{w:World}{A:Around}{E:Value->Shared->Prop}
theorem hint_set {s:Shared}{r:Addr}{Q:Bool->Shared->Prop} (hT:s.TypeIs (.ref r) "set") (h:Q false s):wpAny (model P w) A (Builtin.List.listLengthHint (.ref r)) Q E s:=by
 unfold Builtin.List.listLengthHint
 refine wpAny_bind (wpAny_specialOf hT PySem.F.slot_set_len.lookup ?_)
 generalize hid:("set.__len__":String) = id0
 wp_delta
 rw [show splitId id0 = some ("set","__len__") from by subst hid; decide +kernel]
 subst hid
 refine wpAny_bind (wpAny_isInstance (T:="set") (b:=true) hT PySem.sub_set_self ?_)
 refine wpAny_ite_split (fun hab=>absurd hab (by decide)) (fun _=>?_)
 refine wpAny_ite_split (fun _=>?_) (fun hab=>absurd (by decide +kernel) hab)
 exact wpAny_bind (wpAny_typeOf hT (wpAny_pure h))
abbrev lO (xs:Array Value) (c:Nat):Obj:={ cls:=.type "list",dict:=none,data:=.seq xs c,slots:=#[] }
theorem collect_gen {s:Shared}{a:Addr}{T:String}{oa:Obj}{n:Nat}{Gd:(Nat->Value->Prop)->Prop}{R:List Value->Shared->Prop} (hoa:s.heap.get? a = some oa) (hca:oa.cls = .type T) (hT2:(Value.type T == .type "list" || Value.type T == .type "tuple") = false) (hn1:n<=sizeLine)
  (hnt:∀ (s1:Shared) (Q:Bool->Shared->Prop) (E:Value->Shared->Prop),s1.TypeIs (.ref a) T->Q false s1->wpAny (model P w) A.in1 (Builtin.List.listLengthHint (.ref a)) Q E s1)
  (it:∀ (Q:Value->Shared->Prop) (E:Value->Shared->Prop),(∀ (I:Addr) (fp:List Addr) (h1:Heap) (d1:Drawn) (St:Nat->Heap->Prop) (Pi:Nat->Value->Prop),Gd Pi->(∀ b o,(s.heap.push (lO #[] 0)).get? b = some o->h1.get? b = some o)->s.heap.objs.size < I->s.heap.objs.size ∉ fp->Walks P w A.in1 I fp [I] n Pi St->St 0 h1->Q (.ref I) { s with heap:=h1,drawn:=d1 })->wpAny (model P w) A.in1 (pyIter (.ref a)) Q E { s with heap:=s.heap.push (lO #[] 0) })
  (h:∀ (h':Heap) (tk:Nat) (d':Drawn) (acc:Array Value) (Pi:Nat->Value->Prop),Gd Pi->(∀ b o,s.heap.get? b = some o->h'.get? b = some o)->s.heap.objs.size<=h'.objs.size->ItemsOf Pi acc n->R acc.toList { s with heap:=h',toks:=tk,drawn:=d' }):
  wpAny (model P w) A (collect (.ref a)) R E s:=by
 have haS:a≠s.heap.objs.size:=Nat.ne_of_lt (Heap.lt_size hoa)
 unfold collect
 refine wpAny_bind (wpAny_runValue (codeAny_builtin entry_proto_collect' ?_))
 rw [Around.under_plainId PySem.F.plain_proto_collect _]
 refine (show wpAny _ A.in1 (newList [] >>= fun l=>again (.builtin "list.__iadd__" ⟨[l,.ref a],[]⟩)) _ _ s from wpAny_bind (wpAny_newObj_type (wpAny_pure ⟨plainId_quiet PySem.F.plain_list_iadd _,codeAny_builtin entry_list_iadd' ?_⟩)))
 rw [Around.under_plainId PySem.F.plain_list_iadd _]
 have kp0:∀ b o,s.heap.get? b = some o->(s.heap.push (lO #[] 0)).get? b = some o:=fun b o e=>Heap.get?_push_of_some _ e
 have gS:(s.heap.push (lO #[] 0)).get? s.heap.objs.size = some (lO #[] 0):=Heap.get?_push_size _ rfl
 have hT1:Shared.TypeIs { s with heap:=s.heap.push (lO #[] 0) } (.ref a) T:=⟨oa,kp0 a _ hoa,hca⟩
 refine (show wpAny _ A.in1 (Builtin.List.listExtendWith (.ref s.heap.objs.size) (.ref a) (.ref s.heap.objs.size)) _ _ { s with heap:=s.heap.push (lO #[] 0) } from ?_)
 unfold Builtin.List.listExtendWith
 refine wpAny_bind (wpAny_typeOf hT1 ?_)
 have h1:Builtin.List.listSameRef (.ref s.heap.objs.size) (.ref a) = false:=by simp [Builtin.List.listSameRef,haS.symm]
 rw [if_neg (by rw [h1,Bool.false_or,hT2]; exact Bool.false_ne_true)]
 refine wpAny_bind (it _ _ fun I fp h1 d1 St Pi hgd kp hI hSf Wk0 st=>?_)
 have kp1:∀ b o,s.heap.get? b = some o->h1.get? b = some o:=fun b o e=>kp b o (kp0 b o e)
 have hI':s.heap.objs.size<=I:=Nat.le_of_lt hI
 refine wpAny_bind (wpAny_holding (hnt _ _ _ ⟨oa,kp1 a _ hoa,hca⟩ ?_))
 have gS1:=kp _ _ gS
 have loop:∀ (h2:Heap) (c:Nat),St 0 h2->(∀ b o,b≠s.heap.objs.size->h1.get? b = some o->h2.get? b = some o)->h2.get? s.heap.objs.size = some (lO #[] c)->
   codeAny (model P w) A (.builtin "list.extend.loop" ⟨[.ref s.heap.objs.size,.ref I,.ref s.heap.objs.size],[]⟩) (fun q s'=>∃ (h':Heap) (tk:Nat) (acc:Array Value) (c':Nat),q = .ok (.ret (.ref s.heap.objs.size))/\s' = { s with heap:=h',toks:=tk,drawn:=d1 }/\(∀ b o,s.heap.get? b = some o->h'.get? b = some o)/\h'.get? s.heap.objs.size = some (lO acc c')/\ItemsOf Pi acc n) { s with heap:=h2,drawn:=d1 }:=fun h2 c st2 k2 g2=>by
  refine codeAny_extend_loopS Wk0.toS hn1 s.heap.objs.size hSf (.ref s.heap.objs.size) n 0 { s with heap:=h2,drawn:=d1 } #[] c rfl (Nat.zero_le _) st2 g2 (ItemsOf.nil _) fun s' acc' c' hm gS' hacc=>?_
  obtain ⟨h',g',d',tk',os'⟩:=s'
  have eg:g' = s.gens:=hm.gens
  have ed:d' = d1:=hm.drawn
  have eo:os' = s.os:=hm.os
  subst eg ed eo
  refine ⟨h',tk',acc',c',rfl,rfl,fun b o e=>?_,gS',hacc⟩
  have hb:b < s.heap.objs.size:=Heap.lt_size e
  refine hm.heap b o (fun z=>?_) (k2 b o (Nat.ne_of_lt hb) (kp1 b o e))
  rcases List.mem_cons.mp z with z | z
  ·exact absurd z (Nat.ne_of_lt hb)
  ·exact absurd (List.mem_singleton.mp z) (Nat.ne_of_lt (Nat.lt_of_lt_of_le hb hI'))
 refine wpAny_ite_split (fun _=>?_) (fun _=>?_)
 ·refine wpAny_bind (wpAny_rule (wpAny_bind ?_))
  refine (show wpAny _ _ (updateSeq s.heap.objs.size (·.push .none) >>= fun _=>updateSeq s.heap.objs.size (·.pop)) _ _ _ from wpAny_bind (wpAny_updateSeq gS1 rfl ?_))
  have gS2:=Heap.get?_update_self (Obj.mapSeq (·.push Value.none)) gS1 rfl
  refine wpAny_updateSeq (hz:=by seq_fits) gS2 rfl ?_
  have gS3:=Heap.get?_update_self (Obj.mapSeq (·.pop)) gS2 rfl
  have oth:∀ b o,b≠s.heap.objs.size->h1.get? b = some o->((h1.update s.heap.objs.size (Obj.mapSeq (·.push Value.none))).update s.heap.objs.size (Obj.mapSeq (·.pop))).get? b = some o:=fun b o hb e=>(Heap.get?_update_other _ _ (Ne.symm hb)).trans ((Heap.get?_update_other _ _ (Ne.symm hb)).trans e)
  have st3:=Wk0.frame 0 h1 _ st fun b hb o e=>oth b o (fun z=>hSf (z ▸ hb)) e
  refine wpAny_pure ⟨plainId_quiet PySem.F.plain_extend_loop _,codeAny_mono (loop _ _ st3 oth gS3) fun q s2 y=>?_⟩
  obtain ⟨h',tk,acc,c',rfl,rfl,hk,hS',hacc⟩:=y
  exact (show wpAny _ A (load s.heap.objs.size >>= _) _ _ _ from wpAny_bind (wpAny_load hS' (wpAny_pure (h h' tk d1 acc Pi hgd hk (Nat.le_of_lt (Heap.lt_size hS')) hacc))))
 ·refine wpAny_pure ⟨plainId_quiet PySem.F.plain_extend_loop _,codeAny_mono (loop _ _ st (fun _ _ _ e=>e) gS1) fun q s2 y=>?_⟩
  obtain ⟨h',tk,acc,c',rfl,rfl,hk,hS',hacc⟩:=y
  exact (show wpAny _ A (load s.heap.objs.size >>= _) _ _ _ from wpAny_bind (wpAny_load hS' (wpAny_pure (h h' tk d1 acc Pi hgd hk (Nat.le_of_lt (Heap.lt_size hS')) hacc))))
theorem collect_set {s:Shared}{a:Addr}{ds:List Str}{R:List Value->Shared->Prop} (hh:A.handled = none) (hS:SetTx P w a ds s.heap) (hn:ds.length<=1000)
  (h:∀ (h':Heap) (tk:Nat) (d':Drawn) (vs:List Value),(∀ b o,s.heap.get? b = some o->h'.get? b = some o)->s.heap.objs.size<=h'.objs.size->(∀ v∈vs,∃ z tk,v = .str z tk)->(vs.map txOf).Perm ds->R vs { s with heap:=h',toks:=tk,drawn:=d' }):
  wpAny (model P w) A (collect (.ref a)) R E s:=by
 obtain ⟨oa,hoa,hexa⟩:∃ o,s.heap.get? a = some o/\o.ExactSet:=by
  obtain ⟨o,es,ep,t,ho,hex,_⟩:=hS
  exact ⟨o,ho,hex⟩
 have haS:a < s.heap.objs.size:=Heap.lt_size hoa
 have hS1:SetTx P w a ds (s.heap.push (lO #[] 0)):=by
  obtain ⟨o,es,ep,t,ho,rest⟩:=hS
  exact ⟨o,es,ep,t,Heap.get?_push_of_some _ ho,rest⟩
 have sz:(s.heap.push (lO #[] 0)).objs.size = s.heap.objs.size + 1:=Heap.size_push ..
 have hh2:A.in1.handled = none:=by simpa using hh
 refine collect_gen (n:=ds.length) (Gd:=fun Pi=>∃ ord:List Value,(Pi = fun i v=>ord[i]? = some v)/\(∀ v∈ord,∃ z tk,v = .str z tk)/\(ord.map txOf).Perm ds) hoa hexa.1 (by decide) (Nat.le_trans hn (by decide)) (fun s1 Q E hT q=>hint_set hT q) (fun Q E q=>?_) fun h' tk d' acc Pi hgd kp hle hacc=>?_
 ·refine iter_set (A:=A.in1) hS1 fun I pl h1 d1 es ep t ord kp hI hplI hpla hf hz hpo hst hpm st=>?_
  rw [show ({ s with heap:=s.heap.push (lO #[] 0) }:Shared).heap.objs.size = s.heap.objs.size + 1 from sz] at hI hpla
  have haI:a≠I:=Nat.ne_of_lt (Nat.lt_of_lt_of_le haS (Nat.le_of_succ_le hI))
  have hl:ord.length = ds.length:=by rw [← hpm.length_eq,List.length_map]
  have Wk:=walk_set (P:=P) (w:=w) (A:=A.in1) hh2 I a pl (ep:=ep) hf hz haI hplI
  rw [hl] at Wk
  refine q I [I,a,pl] h1 d1 _ _ ⟨ord,rfl,hst,hpm⟩ kp hI (fun z=>?_) Wk st
  rcases List.mem_cons.mp z with z | z
  ·exact absurd z (Nat.ne_of_lt hI)
  ·rcases List.mem_cons.mp z with z | z
   ·exact absurd z.symm (Nat.ne_of_lt haS)
   ·have e:=List.mem_singleton.mp z
    rcases hpla with e' | e'
    ·rw [e'] at e
     exact absurd e.symm (Nat.ne_of_lt haS)
    ·exact absurd e (Nat.ne_of_lt e')
 ·obtain ⟨ord,rfl,hst,hpm⟩:=hgd
  have hl:ord.length = ds.length:=by rw [← hpm.length_eq,List.length_map]
  have eord:acc.toList = ord:=by
   apply List.ext_getElem?
   intro k
   by_cases hk:k < acc.size
   ·have:=hacc.2 k acc[k] (Array.getElem?_eq_getElem hk)
    rw [Array.getElem?_toList,Array.getElem?_eq_getElem hk,this]
   ·rw [List.getElem?_eq_none (by rw [Array.length_toList]; omega),List.getElem?_eq_none (by rw [hl,← hacc.1]; omega)]
  rw [eord]
  exact h h' tk d' ord kp hle hst hpm
theorem sort_tx {s:Shared}{D:Addr}{vs:List Value}{n:Nat}{Q:Value->Shared->Prop} (ho:s.heap.get? D = some (seqObj "list" vs.toArray n)) (hv:∀ v∈vs,∃ z tk,v = .str z tk) (h64:vs.length < 64)
  (h:∀ (h':Heap) (out:List Value) (ss:List Str) (e:Nat),(∀ b o,b≠D->s.heap.get? b = some o->h'.get? b = some o)->h'.get? D = some (seqObj "list" out.toArray e)->StrsAre out ss->ss.Perm (vs.map txOf)->sortedS ss = true->Q .none { s with heap:=h' }):
  wpAny (model P w) A (call (.builtin "list.sort") [.ref D]) Q E s:=by
 have hS:=strsAre_map vs fun v hm=>hv v hm
 have hm:vs.map strOf = vs.map txOf:=List.map_congr_left fun v hm=>(txOf_strOf v (hv v hm)).symm
 refine wpAny_call_entry slot_list_sort ⟨_,ho,rfl⟩ entry_list_sort (list_sort_treeK strKind_oneLt ho hS.keysOf (fun v₁ v₂ rest e=>keyKind_strs (by rw [← e]; exact hS)) h64 fun st' hp hs=>⟨_,rfl,?_⟩) (args_list_sort _)
 obtain ⟨ss',h1,h2,h3⟩:=sorted_out_str hS hp hs
 obtain ⟨e,he⟩:=sortedHeap_at (out:=(arrOf st').map (·.2)) ho
 exact h _ ((arrOf st').map (·.2)).toList ss' e (fun b o hb eo=>(sortedHeap_old hb (Heap.lt_size eo)).trans eo) he h1 (by rw [← hm]; exact h2) h3
end
section
variable {P:Program}{w:World}{A:Around}{E:Value->Shared->Prop}
theorem sorted_via {s:Shared}{a:Addr}{ds:List Str}{Q:Value->Shared->Prop}
  (hcol:∀ (R:List Value->Shared->Prop),(∀ (h':Heap) (tk:Nat) (d':Drawn) (vs:List Value),(∀ b o,s.heap.get? b = some o->h'.get? b = some o)->s.heap.objs.size<=h'.objs.size->(∀ v∈vs,∃ z tk,v = .str z tk)->(vs.map txOf).Perm ds->R vs { s with heap:=h',toks:=tk,drawn:=d' })->wpAny (model P w) A.in1 (collect (.ref a)) R E s) (h64:ds.length < 64)
  (h:∀ (D:Addr) (h':Heap) (tk:Nat) (d':Drawn) (out:List Value) (ss:List Str) (e:Nat),(∀ b o,s.heap.get? b = some o->h'.get? b = some o)->s.heap.objs.size<=D->h'.get? D = some (seqObj "list" out.toArray e)->StrsAre out ss->ss.Perm ds->sortedS ss = true->Q (.ref D) { s with heap:=h',toks:=tk,drawn:=d' }):
  wpAny (model P w) A (call (.builtin "sorted") [.ref a]) Q E s:=by
 refine Calls.call_function_entry kind_sorted plain_sorted entry_sorted (args_sorted1 _) ?_
 unfold Builtin.«sorted»
 refine wpAny_bind (m:=checkCount "sorted" 1 1 _) (wpAny_pure (wpAny_bind (hcol _ fun h1 tk d1 vs kp hle hst hpm=>?_)))
 have hl:vs.length = ds.length:=by rw [← hpm.length_eq,List.length_map]
 refine wpAny_bind (wpAny_newList ?_ (by rw [hl]; exact Nat.le_trans (Nat.le_of_lt h64) (by decide)))
 have gD:(h1.push (seqObj "list" vs.toArray 0)).get? h1.objs.size = some (seqObj "list" vs.toArray 0):=Heap.get?_push_size _ rfl
 refine wpAny_bind (wpAny_holding (sort_tx gD hst (by omega) fun h2 out ss e k2 g2 hs hp hS=>?_))
 refine wpAny_pure ⟨_,rfl,h h1.objs.size h2 tk d1 out ss e (fun b o eb=>?_) ?_ g2 hs (hp.trans hpm) hS⟩
 ·have hb:=kp b o eb
  exact k2 b o (Nat.ne_of_lt (Heap.lt_size hb)) (Heap.get?_push_of_some _ hb)
 ·exact hle
end
def sortedT (l:List Str):Prop:=sortedS l = true
theorem str_eq {a b:Str} (h:a.cps.toList = b.cps.toList):a = b:=by
 obtain ⟨⟨x⟩⟩:=a
 obtain ⟨⟨y⟩⟩:=b
 have:x = y:=h
 subst this
 rfl
theorem Inv.drawn {X:Cx}{zp:List (Addr × Obj)}{σ:List (Option V)}{H:Hp}{s:Shared} (I:Inv X zp σ H s) (d':Drawn):Inv X zp σ H { s with drawn:=d' }:=⟨I.ok,I.os,I.bare,I.base,I.loc,I.cell,I.free,I.freeC,I.pin,I.hok,I.len⟩
theorem vals_tx:∀ {us:List Value}{ss:List Str},StrsAre us ss->Vals (ss.map V.str) us
 | _,_,.nil=>.nil
 | _,_,.cons y t h=>.cons ⟨t,rfl⟩ (vals_tx h)
theorem call_sorted_set {X:Cx} (hc:X.calm = true):CallR X (.builtin "sorted") (fun xs H Q=>∃ (a:Addr) (ds:List Str),xs = [.ref a]/\H a = some (SetH X.prog X.w a ds)/\ds.length < 64/\∀ (l:Addr) (ss:List Str),H l = none->ss.Perm ds->sortedS ss = true->Q (.ref l) (upd H l (.lst (ss.map V.str)))):=by
 intro zp s σ H xs us Q I r h
 obtain ⟨a,ds,rfl,ea,hn,q⟩:=h
 obtain ⟨u,rfl,rx⟩:=vals1 r
 cases rx
 obtain ⟨hS,_⟩:=(show ObjOk X.prog X.w H s.heap a (SetH X.prog X.w a ds) from I.hok a _ ea)
 refine sorted_via (ds:=ds) (fun R hR=>collect_set (A:=X.A.in1) (by simpa using I.ok.hd hc) hS (by omega) hR) hn fun D h' tk d' out ss e kp hD g hs hp hS'=>?_
 have hl:ss.length < 64:=by rw [hp.length_eq]; exact hn
 exact ⟨.ref D,_,(I.drawn d').laid (t':=tk) kp hD (show ObjOk X.prog X.w _ h' _ (.lst (ss.map V.str)) from ⟨by rw [List.length_map]; exact Nat.le_trans (Nat.le_of_lt hl) (by decide),out,e,vals_tx hs,g⟩),rfl,q D ss (I.hok.fresh hD) hp hS'⟩
end L2
namespace D
open PySem L2
end D
namespace PySem
namespace Rv
section
variable {prog:Program}{w:World}{A:Around}{E:Value->Shared->Prop}{s:Shared}
theorem len_lri:typeLookup (.type "list_reverseiterator") "__len__" = pure none:=by rw [typeLookup_type,builtinLookup_eq_fast]; kernel_rfl
theorem hint_lri:typeLookup (.type "list_reverseiterator") "__length_hint__" = pure (some (.builtin "list_reverseiterator.__length_hint__")):=by rw [typeLookup_type,builtinLookup_eq_fast]; kernel_rfl
theorem hint_rev {r:Addr}{Q:Bool->Shared->Prop} (hT:s.TypeIs (.ref r) "list_reverseiterator") (h:Q false s):wpAny (model prog w) A (Builtin.List.listLengthHint (.ref r)) Q E s:=by
 unfold Builtin.List.listLengthHint
 refine wpAny_bind (wpAny_specialOf hT len_lri ?_)
 refine wpAny_ite_split (fun hab=>absurd hab (by decide +kernel)) (fun _=>?_)
 refine wpAny_ite_split (fun hab=>absurd hab (by decide)) (fun _=>?_)
 refine wpAny_bind (wpAny_specialOf hT hint_lri ?_)
 generalize hid:("list_reverseiterator.__length_hint__":String) = id0
 wp_delta
 rw [show splitId id0 = some ("list_reverseiterator","__length_hint__") from by subst hid; decide +kernel]
 subst hid
 refine wpAny_bind (wpAny_isInstance (T:="list_reverseiterator") (b:=true) hT (by rw [isSubtype_type]; kernel_rfl) ?_)
 refine wpAny_ite_split (fun hab=>absurd hab (by decide)) (fun _=>?_)
 refine wpAny_ite_split (fun _=>?_) (fun hab=>absurd (by decide +kernel) hab)
 refine wpAny_ite_split (fun hab=>absurd hab (by decide +kernel)) (fun _=>?_)
 exact wpAny_pure h
end
end Rv
end PySem
namespace PySem
namespace Rv
open PySem.W PyProof.Rows
section
variable {prog:Program}{w:World}{A:Around}{E:Value->Shared->Prop}{s:Shared}{r d:Addr}{items:Array Value}
theorem rev_extend {R:Result->Shared->Prop} (hh:A.handled = none) (hit:s.heap.IsRevIter r d ((items.size:Int) - 1)) (hl:s.heap.IsList d items) (hne:d≠r) (S:Addr) (hSr:S≠r) (hSd:S≠d) (res:Value) (c₀:Nat) (hS:s.heap.get? S = some { cls:=.type "list",data:=.seq #[] c₀ })
  (hR:∀ h' tk acc' c',(∀ b o,b≠S->b≠r->s.heap.get? b = some o->h'.get? b = some o)->h'.get? S = some { cls:=.type "list",dict:=none,data:=.seq acc' c',slots:=#[] }->ItemsOf (fun i v=>items[items.size - 1 - i]? = some v) acc' items.size->R (.ok (.ret res)) { s with heap:=h',toks:=tk }) (hn:items.size<=sizeLine):
  wpAny (model prog w) A.in1 (Builtin.List.listExtendWith (.ref S) (.ref r) res)
   (fun fin s'=>match fin with | .done f=>R (.ok f) s' | .again c'=>c'.quiet = true/\codeAny (model prog w) A c' R s') (fun e s'=>R (.error e) s') s:=by
 have hSf:S ∉ [r,d]:=by simp only [List.mem_cons,List.not_mem_nil,or_false,not_or]; exact ⟨hSr,hSd⟩
 have W:=Walks.listRev (prog:=prog) (w:=w) (A:=A.in1) hh r d hne items
 have st:(0:Nat)<=items.size/\s.heap.IsRevIter r d ((items.size:Int) - 1 - ((0:Nat):Int))/\s.heap.IsList d items:=⟨Nat.zero_le _,by rw [show (items.size:Int) - 1 - ((0:Nat):Int) = (items.size:Int) - 1 by omega]; exact hit,hl⟩
 have key:∀ (h:Heap) (c₁ tk:Nat),((0:Nat)<=items.size/\h.IsRevIter r d ((items.size:Int) - 1 - ((0:Nat):Int))/\h.IsList d items)->(∀ b o,b≠S->s.heap.get? b = some o->h.get? b = some o)->
   h.get? S = some { cls:=.type "list",data:=.seq #[] c₁ }->codeAny (model prog w) A (.builtin "list.extend.loop" ⟨[.ref S,.ref r,res],[]⟩) R { s with heap:=h,toks:=tk }:=by
  intro h c₁ tk hst hk hS₁
  refine codeAny_extend_loopS W.toS hn S hSf res items.size 0 _ #[] c₁ rfl (Nat.zero_le _) hst hS₁ (ItemsOf.nil _) fun s' acc' c' hm hS' hacc=>?_
  rw [Moved.eq_with hm]
  refine hR s'.heap s'.toks acc' c' (fun b o hb hb2 e=>hm.heap b o (fun hmem=>?_) (hk b o hb e)) hS' hacc
  rcases List.mem_cons.mp hmem with e' | hmem
  ·exact hb e'
  ·exact hb2 (List.mem_singleton.mp hmem)
 have hT:s.TypeIs (.ref r) "list_reverseiterator":=hit.typeIs
 unfold Builtin.List.listExtendWith
 refine wpAny_bind (wpAny_typeOf (T:="list_reverseiterator") hT ?_)
 have h1:Builtin.List.listSameRef (.ref S) (.ref r) = false:=by simp [Builtin.List.listSameRef,hSr]
 have h2:(Value.type "list_reverseiterator" == Value.type "list") = false:=by decide
 have h3:(Value.type "list_reverseiterator" == Value.type "tuple") = false:=by decide
 simp only [h1,h2,h3,Bool.or_false,Bool.false_eq_true,if_false]
 refine wpAny_bind (wpAny_pyIter_revIter hit ?_)
 refine wpAny_bind (wpAny_holding (hint_rev hT ?_))
 refine wpAny_ite_split (fun hab=>?_) (fun _=>wpAny_pure ⟨plainId_quiet PySem.F.plain_extend_loop _,key _ c₀ _ st (fun b o _ e=>e) hS⟩)
 refine wpAny_bind (wpAny_rule ?_)
 refine wpAny_bind ?_
 show wpAny _ _ (updateSeq S (·.push .none) >>= fun _=>updateSeq S (·.pop)) _ _ _
 refine wpAny_bind (wpAny_updateSeq hS rfl ?_)
 have hS₂:=Heap.get?_update_self (Obj.mapSeq (·.push Value.none)) hS rfl
 refine wpAny_updateSeq (hz:=by seq_fits) hS₂ rfl ?_
 have hS₃:=Heap.get?_update_self (Obj.mapSeq (·.pop)) hS₂ rfl
 refine wpAny_pure ⟨plainId_quiet PySem.F.plain_extend_loop _,key _ _ _ ?_ (fun b o hb e=>?_) hS₃⟩
 ·refine W.frame 0 _ _ st fun b hb o e=>?_
  have hbS:b≠S:=fun h=>hSf (h ▸ hb)
  exact (Heap.get?_update_other _ _ (Ne.symm hbS)).trans ((Heap.get?_update_other _ _ (Ne.symm hbS)).trans e)
 ·exact (Heap.get?_update_other _ _ (Ne.symm hb)).trans ((Heap.get?_update_other _ _ (Ne.symm hb)).trans e)
theorem rev_init {R:Result->Shared->Prop} (hh:A.handled = none) (hit:s.heap.IsRevIter r d ((items.size:Int) - 1)) (hl:s.heap.IsList d items) (hne:d≠r) (S:Addr) (hSr:S≠r) (hSd:S≠d) (hS:s.heap.get? S = some { cls:=.type "list",data:=.seq #[] })
  (hR:∀ h' tk acc' c',(∀ b o,b≠S->b≠r->s.heap.get? b = some o->h'.get? b = some o)->h'.get? S = some { cls:=.type "list",dict:=none,data:=.seq acc' c',slots:=#[] }->ItemsOf (fun i v=>items[items.size - 1 - i]? = some v) acc' items.size->R (.ok (.ret .none)) { s with heap:=h',toks:=tk }) (hn:items.size<=sizeLine):
  wpAny (model prog w) A.in1 (Builtin.«list.__init__» ⟨[.ref S,.ref r],[]⟩)
   (fun fin s'=>match fin with | .done f=>R (.ok f) s' | .again c'=>c'.quiet = true/\codeAny (model prog w) A c' R s') (fun e s'=>R (.error e) s') s:=by
 show wpAny _ _ (do let old ← Builtin.List.listItems (.ref S); Builtin.List.listUpdate (.ref S) (fun _=>#[]); letGo old.toList.reverse; Builtin.List.listExtendWith (.ref S) (.ref r) .none) _ _ s
 refine wpAny_bind ?_
 unfold Builtin.List.listItems
 refine wpAny_bind (wpAny_seqItems hS rfl (wpAny_pure ?_))
 show wpAny _ _ (updateSeq S (fun _=>#[]) >>= fun _=>letGo (#[]:Array Value).toList.reverse >>= fun _=>Builtin.List.listExtendWith (.ref S) (.ref r) .none) _ _ s
 refine wpAny_bind (wpAny_updateSeq hS rfl ?_)
 have hS₂:=Heap.get?_update_self (Obj.mapSeq (fun _=>(#[]:Array Value))) hS rfl
 have oth:∀ b o,b≠S->s.heap.get? b = some o->(s.heap.update S (Obj.mapSeq (fun _=>(#[]:Array Value)))).get? b = some o:=
  fun b o hb e=>(Heap.get?_update_other _ _ (Ne.symm hb)).trans e
 refine wpAny_bind (wpAny_letGo ?_)
 refine rev_extend hh (hit.at fun o e=>oth r o hSr.symm e) (hl.at fun o e=>oth d o hSd.symm e) hne S hSr hSd .none _ hS₂ (fun h' tk acc' c' hk hS' hacc=>?_) hn
 exact hR h' tk acc' c' (fun b o hb hb2 e=>hk b o hb hb2 (oth b o hb e)) hS' hacc
theorem rev_list {Q:Value->Shared->Prop} (hh:A.handled = none) (hit:s.heap.IsRevIter r d ((items.size:Int) - 1)) (hl:s.heap.IsList d items) (hne:d≠r) (hn:items.size<=sizeLine)
  (hQ:∀ h' tk acc' c',(∀ b o,b≠r->s.heap.get? b = some o->h'.get? b = some o)->h'.get? s.heap.objs.size = some { cls:=.type "list",dict:=none,data:=.seq acc' c',slots:=#[] }->ItemsOf (fun i v=>items[items.size - 1 - i]? = some v) acc' items.size->Q (.ref s.heap.objs.size) { s with heap:=h',toks:=tk }):
  wpAny (model prog w) A (call (.type "list") [.ref r]) Q E s:=by
 refine callType_codes (Q₁:=fun obj s₁=>obj = .ref s.heap.objs.size/\s₁ = { s with heap:=s.heap.push { cls:=.type "list",data:=.seq #[] } }) PySem.F.called_list (PySem.F.typeCall_list_1 _) PySem.F.entry_list_init
  (code_list_new _ ⟨rfl,rfl⟩) fun obj s₁ h₁=>?_
 obtain ⟨rfl,rfl⟩:=h₁
 have hS:(s.heap.push { cls:=.type "list",data:=.seq #[] }).get? s.heap.objs.size = some { cls:=.type "list",data:=.seq #[] }:=Heap.get?_push_size _ rfl
 have hr:r < s.heap.objs.size:=let ⟨_,e,_⟩:=hit; Heap.lt_size e
 have hd:d < s.heap.objs.size:=let ⟨_,e,_⟩:=hl; Heap.lt_size e
 refine ⟨⟨_,hS,rfl⟩,PySem.F.args_list_init_2 _ _,rev_init (A:=A.in1) hh (hit.at fun o e=>Heap.get?_push_of_some _ e) (hl.at fun o e=>Heap.get?_push_of_some _ e) hne _ (Nat.ne_of_gt hr) (Nat.ne_of_gt hd) hS (fun h' tk acc' c' hk hS' hacc=>?_) hn⟩
 exact ⟨rfl,hQ h' tk acc' c' (fun b o hb e=>hk b o (Nat.ne_of_lt (Heap.lt_size e)) hb (Heap.get?_push_of_some _ e)) hS' hacc⟩
end
end Rv
end PySem
namespace L2
open PySem PySem.Spec PyProof.Rows
theorem vals_of_at:∀ {xs:List V}{us:List Value},xs.length = us.length->(∀ (i:Nat) (x:V) (u:Value),xs[i]? = some x->us[i]? = some u->RelV x u)->Vals xs us
 | [],[],_,_=>.nil
 | x :: xs,u :: us,hl,h=>.cons (h 0 x u rfl rfl) (vals_of_at (Nat.succ.inj hl) fun i y v h1 h2=>h (i + 1) y v h1 h2)
 | [],_ :: _,hl,_=>nomatch hl
 | _ :: _,[],hl,_=>nomatch hl
def Itv (K:PySem.W.Frag) (a:Addr) (xs:List V):It:=⟨fun i H=>i < xs.length/\SqL K H a xs,fun i H x H'=>H' = H/\xs[xs.length - 1 - i]? = some x,fun i _=>i = xs.length⟩
theorem turn_rev {P:Program}{w:World}{K:PySem.W.Frag}{tg:Expr} (a it:Addr) (xs:List V):Turn P w K tg (Itv K a xs) [it] it (fun i h=>h.IsRevIter it a ((xs.length:Int) - 1 - (i:Nat))) where
 mem:=by simp
 obj:=fun i h st b hb=>by
  have e:b = it:=by simpa using hb
  subst e
  obtain ⟨o,e,c,d⟩:=st
  exact ⟨o,e,fun v z=>by rw [d] at z; cases z⟩
 keep:=fun i h h' st k=>st.at fun o e=>k it (by simp) o e
 item:=by
  intro X hP hw hK hc i zp s σ H E I hf st hg
  subst hP hw hK
  obtain ⟨hi,hq⟩:=hg
  obtain ⟨its,rv,p,hz⟩:=I.list hq
  have hx:xs[xs.length - 1 - i]? = some (xs[xs.length - 1 - i]'(by omega)):=List.getElem?_eq_getElem (by omega)
  obtain ⟨u,hu,ru⟩:=rv.get hx
  obtain ⟨f0,f1,f2,f3,f4,f5⟩:=hf it (by simp)
  have e1:(xs.length:Int) - 1 - (i:Nat) = ((xs.length - 1 - i:Nat):Int):=by omega
  rw [e1] at st
  refine wpAny_pyNext_rev_item st p.isList (x:=u) (by simpa using hu) fun h' st' sb=>?_
  have I1:Inv X zp σ H { s with heap:=h' }:=I.turned (t':=s.toks) (fun b o hb e=>(sb.2 b hb).trans e) f0 f1 f3 f4 f5
  rw [show ((xs.length - 1 - i:Nat):Int) - 1 = (xs.length:Int) - 1 - ((i + 1:Nat):Int) by omega] at st'
  obtain ⟨o,e,c,d⟩:=id st'
  exact ⟨u,rfl,go_of (s:={ s with heap:=h' }) e c d (by decide) ⟨_,H,I1,ru,⟨rfl,hx⟩,st',fun b hb=>(hf b hb).1⟩⟩
 done:=by
  intro X hP hw hK hc i zp s σ H E I hf st hg
  subst hP hw hK
  obtain ⟨f0,f1,f2,f3,f4,f5⟩:=hf it (by simp)
  have hg:i = xs.length:=hg
  rw [hg,show (xs.length:Int) - 1 - ((xs.length:Nat):Int) = -1 by omega] at st
  exact wpAny_pyNext_rev_end (I.ok.hd hc) st fun h' eb=>⟨rfl,I.turned (t':=s.toks) (fun b o hb e=>eb b o hb e) f0 f1 f3 f4 f5⟩
 self:=fun _ _ _ _ _ st h=>wpAny_pyIter_revIter st h
section
variable {X:Cx}{tg:Expr}
def iRevL (K:PySem.W.Frag) (ta:TA):TI:=fun σ H R=>ta σ H fun vs H1=>∃ (a:Addr) (xs:List V),vs = [.ref a]/\SqL K H1 a xs/\R (Itv K a xs) H1
theorem pi_revL {a:Expr}{ta:TA}{p pos:Pos} (hg:Gl X "reversed") (hm:X.mg "reversed" = none) (ha:PA X [a] ta) (hs:starEach [a] X.env = [(false,eval a X.env)]:=by rfl):PI X tg (.Call (.Name "reversed" p) [a] [] pos) (iRevL X.K ta):=by
 intro zp s σ H R I h
 refine Call_ (ld_blt I hg hm boot_reversed (PyProof.Rows.callWith_type1 (thn (ha pos zp s σ H _ I h) fun us s1 ⟨vs,H1,I1,r1,q1⟩=>?_) hs rfl))
 obtain ⟨l,xs,e,hl,q⟩:=q1
 subst e
 cases r1 with
 | cons r rr=>
  cases rr
  cases r
  obtain ⟨its,rv,pl,hz⟩:=I1.list hl
  have hlen:=rv.length
  refine call_reversed_list pl.isList ?_
  have st:(s1.heap.push (revObj l ((its.toArray.size:Int) - 1))).IsRevIter s1.heap.objs.size l ((xs.length:Int) - 1 - ((0:Nat):Int)):=by
   refine ⟨_,Heap.get?_push_size _ rfl,rfl,?_⟩
   show Data.fields #[.ref l,rawInt ((its.toArray.size:Int) - 1)] = _
   rw [List.size_toArray,← hlen,show (xs.length:Int) - 1 - ((0:Nat):Int) = (xs.length:Int) - 1 by omega]
  refine wpAny_pyIter_revIter st ?_
  refine ⟨s1.heap.objs.size,[s1.heap.objs.size],_,_,H1,rfl,I1.kept (t':=s1.toks) fun b o e=>Heap.get?_push_of_some _ e,turn_rev l _ xs,st,fun b hb=>?_,q⟩
  obtain rfl:b = s1.heap.objs.size:=List.mem_singleton.mp hb
  exact I1.fpOk (Nat.le_refl _) (I1.hok.fresh (Nat.le_refl _))
def tLRev (K:PySem.W.Frag) (ta:TA):TE:=fun σ H Q=>ta σ H fun vs H1=>∃ (a:Addr) (xs:List V),vs = [.ref a]/\SqL K H1 a xs/\∀ l,H1 l = none->Q (.ref l) (upd H1 l (.lst xs.reverse))
theorem pe_lrev {a:Expr}{ta:TA}{p1 p2 pos1 pos2:Pos} (hc:X.calm = true) (hgr:Gl X "reversed") (hmr:X.mg "reversed" = none) (hgl:Gl X "list") (hml:X.mg "list" = none) (ha:PA X [a] ta) (hs:starEach [a] X.env = [(false,eval a X.env)]:=by rfl)
  (hs2:starEach [.Call (.Name "reversed" p1) [a] [] pos1] X.env = [(false,eval (.Call (.Name "reversed" p1) [a] [] pos1) X.env)]:=by rfl):
  PE X (.Call (.Name "list" p2) [.Call (.Name "reversed" p1) [a] [] pos1] [] pos2) (tLRev X.K ta):=by
 intro zp s σ H Q I h
 refine Call_ (ld_blt I hgl hml boot_listT (PyProof.Rows.callWith_type1 ?_ hs2 rfl))
 rw [hs2]
 show wpAny _ _ (spliced ((false,eval (.Call (.Name "reversed" p1) [a] [] pos1) X.env) :: [])) _ _ s
 refine Calls.spliced_cons (Call_ (ld_blt I hgr hmr boot_reversed (PyProof.Rows.callWith_type1 (thn (ha pos1 zp s σ H _ I h) fun us s1 ⟨vs,H1,I1,r1,q1⟩=>?_) hs rfl)))
 obtain ⟨l,xs,e,hl,q⟩:=q1
 subst e
 cases r1 with
 | cons r rr=>
  cases rr
  cases r
  obtain ⟨its,rv,pl,hz⟩:=I1.list hl
  have hlen:=rv.length
  refine call_reversed_list pl.isList ?_
  refine Calls.spliced_nil ?_
  have lt:l < s1.heap.objs.size:=let ⟨_,e,_⟩:=pl.isList; Heap.lt_size e
  refine PySem.Rv.rev_list (r:=s1.heap.objs.size) (d:=l) (items:=its.toArray) (I1.ok.hd hc) ⟨_,Heap.get?_push_size _ rfl,rfl,rfl⟩ (pl.isList.at fun o e=>Heap.get?_push_of_some _ e) (Nat.ne_of_lt lt) (by rw [List.size_toArray,← hlen]; exact hz) fun h' tk acc' c' hk hD hacc=>?_
  have kp:∀ b o,s1.heap.get? b = some o->h'.get? b = some o:=fun b o e=>hk b o (Nat.ne_of_lt (Heap.lt_size e)) (Heap.get?_push_of_some _ e)
  have hsz:(s1.heap.push (revObj l ((its.toArray.size:Int) - 1))).objs.size = s1.heap.objs.size + 1:=Heap.size_push ..
  rw [hsz] at hD ⊢
  have hlen2:xs.reverse.length = its.length:=List.length_reverse.trans hlen
  have hacc3:acc'.toList.length = its.length:=by
   have h1:=hacc.1
   rw [List.size_toArray] at h1
   exact (Array.length_toList).trans h1
  have hv:Vals xs.reverse acc'.toList:=by
   refine vals_of_at (hlen2.trans hacc3.symm) fun i x u hx hu=>?_
   have hi:i < xs.length:=by have:=(List.getElem?_eq_some_iff.mp hx).1; rwa [List.length_reverse] at this
   rw [List.getElem?_reverse hi] at hx
   have h2:=hacc.2 i u (by rw [← Array.getElem?_toList]; exact hu)
   obtain ⟨u',hu',ru⟩:=rv.get hx
   have h2:its[its.toArray.size - 1 - i]? = some u:=by simpa using h2
   rw [List.size_toArray,← hlen] at h2
   rw [hu'] at h2
   cases h2
   exact ru
  exact ⟨.ref (s1.heap.objs.size + 1),_,I1.laid (t':=tk) kp (Nat.le_succ _) (show ObjOk X.prog X.w _ h' _ (.lst xs.reverse) from ⟨by rw [List.length_reverse]; exact hz,acc'.toList,c',hv,by simpa using hD⟩),rfl,q _ (I1.hok.fresh (Nat.le_succ _))⟩
def tDSetd (td ty tx:TE):TE:=fun σ H Q=>td σ H fun x H1=>∃ a,x = .ref a/\IsD H1 a/\ty σ H1 fun y H2=>tx σ H2 fun z H3=>∃ kvs k,H3 a = some (.dK kvs)/\y = kV k/\kvs.length < 1000000/\(∀ v,valV kvs k = some v->Q v H3)/\(valV kvs k = none->Q z (upd H3 a (.dK (putK kvs k z))))
theorem pe_dsetd {o e f:Expr}{apos cpos:Pos}{td ty tx:TE} (ho:PE X o td) (he:PE X e ty) (hf:PE X f tx) (m:M2 X o "setdefault" apos e f cpos):PE X (.Call (.Attribute o "setdefault" apos) [e,f] [] cpos) (tDSetd td ty tx):=by
 intro zp s σ H Q I h
 refine wpAny_Call_method m.base m.few m.line PySem.F.plainAttrs_dict PySem.F.slot_dict_setdefault PySem.F.type_dict_setdefault (thn (ho zp s σ H _ I h) fun u s1 ⟨x,H1,I1,rx,a,ex,d,q1⟩=>?_)
 subst ex
 obtain rfl:u = Value.ref a:=rx
 obtain ⟨t1,t2,_⟩:=isD_at I1 d
 refine ⟨t1,t2,?_⟩
 rw [m.trees]
 refine Calls.callWith_builtin rfl (Calls.evalArgs_plain (Calls.spliced_cons (thn (he zp s1 σ H1 _ I1 q1) fun iv s2 ⟨y,H2,I2,ry,q2⟩=>
  Calls.spliced_cons (thn (hf zp s2 σ H2 _ I2 q2) fun fv s3 ⟨z,H3,I3,rz,kvs,k,ea,ey,hlt,q3,q4⟩=>Calls.spliced_nil ?_))))
 subst ey
 obtain ⟨hz,hd,vs,rel,dd⟩:=dk_of I3.hok ea
 have hzv:vs.length<=sizeLine:=by rw [← rel.length]; exact hz
 refine call_meetsIn PySem.F.slot_dict_setdefault dd.typeIs PySem.F.entry_dict_setdefault (PySem.F.args_dict_setdefault_3 _ _ _) (kt_meets_setdefault (mixKind X.prog X.w) a (kV_is ry) hd fv) ⟨vs,dd,hzv,fun v hv=>?_,fun hn h' dd' hs=>?_⟩
 ·cases l:valV kvs k with
  | none=>
   have:=RelO.none_of (o:=valueAt vs k) (by rw [← l]; exact rel.val k)
   rw [hv] at this
   cases this
  | some v'=>
   obtain ⟨w',hw,rw'⟩:=RelO.some_of (v:=v') (o:=valueAt vs k) (by rw [← l]; exact rel.val k)
   rw [hv] at hw
   cases hw
   exact ⟨v',H3,I3.tok _,rw',q3 v' l⟩
 ·cases l:valV kvs k with
  | some v'=>
   obtain ⟨w',hw,rw'⟩:=RelO.some_of (v:=v') (o:=valueAt vs k) (by rw [← l]; exact rel.val k)
   rw [hn] at hw
   cases hw
  | none=>
   have hl2:(putK kvs k z).length<=sizeLine:=by
    have:=length_putK kvs k z
    have h6:(1000000:Nat)<=sizeLine:=by decide
    omega
   have heq:∃ q,h'.get? a = some q:=let ⟨q,_,_,hq,_⟩:=dd'; ⟨q,hq⟩
   exact ⟨z,_,d_write I3 (by rw [ea]; exact True.intro) hs heq (dk_new hl2 hd (rel.put k rz) dd'),rz,q4 l⟩
end
theorem call_min_ints {X:Cx} (hc:X.calm = true):CallR X (.builtin "min") (fun xs H Q=>∃ (p:Addr) (ns:List Int),xs = [.ref p]/\SqL X.K H p (ns.map V.int)/\0 < ns.length/\∀ M:Int,M∈ns->(∀ a∈ns,M<=a)->Q (.int M) H):=by
 intro zp s σ H xs us Q I r h
 obtain ⟨p,ns,rfl,hq,hne,q⟩:=h
 obtain ⟨u,rfl,rx⟩:=vals1 r
 cases rx
 obtain ⟨its,r',pl,hz⟩:=I.list hq
 have hi:=intsAre_of r'
 obtain ⟨xs,e⟩:=hi.allInts.items
 have hl:=pl.isList
 have hns:ns = xs.toList.map (·.1):=by
  rw [← hi.numsOf,← nums_intItems,← e]
 have hsz:0 < xs.size:=by
  have h3:=hne; rw [hns,List.length_map,Array.length_toList] at h3; exact h3
 rw [e] at hl
 refine min_intList (I.ok.hd hc) hl hsz fun v h' tk hv hk=>?_
 obtain ⟨t,rfl⟩:=intItems_at hv
 obtain ⟨h1,h2⟩:=argBest_lt (numAt xs) (xs.size - 1)
 refine ⟨.int _,H,I.kept (h':=h') (t':=tk) hk,⟨t,rfl⟩,q _ ?_ fun a ha=>?_⟩
 ·rw [hns,numAt_eq]; exact getD_mem (by rw [List.length_map,Array.length_toList]; omega)
 ·rw [hns] at ha
  obtain ⟨j,hj,rfl⟩:=mem_getD ha
  rw [List.length_map,Array.length_toList] at hj
  rw [← numAt_eq]; exact h2 j (by omega)
end L2
namespace D
open PySem L2
section
variable {X:Cx}{tg:Expr}
theorem pi_revL {a:Expr}{ta:TA}{p pos:Pos} (hg:Gl X "reversed") (hm:X.mg "reversed" = none) (ha:QA X [a] ta) (hs:starEach [a] X.env = [(false,eval a X.env)]:=by rfl):QI X tg (.Call (.Name "reversed" p) [a] [] pos) (iRevL X.K ta):=⟨L2.pi_revL hg hm ha.un hs⟩
theorem pe_lrev {a:Expr}{ta:TA}{p1 p2 pos1 pos2:Pos} (hc:X.calm = true) (hgr:Gl X "reversed") (hmr:X.mg "reversed" = none) (hgl:Gl X "list") (hml:X.mg "list" = none) (ha:QA X [a] ta) (hs:starEach [a] X.env = [(false,eval a X.env)]:=by rfl)
  (hs2:starEach [.Call (.Name "reversed" p1) [a] [] pos1] X.env = [(false,eval (.Call (.Name "reversed" p1) [a] [] pos1) X.env)]:=by rfl):
  QE X (.Call (.Name "list" p2) [.Call (.Name "reversed" p1) [a] [] pos1] [] pos2) (tLRev X.K ta):=⟨L2.pe_lrev hc hgr hmr hgl hml ha.un hs hs2⟩
theorem pe_dsetd {o e f:Expr}{apos cpos:Pos}{td ty tx:TE} (ho:QE X o td) (he:QE X e ty) (hf:QE X f tx) (m:M2 X o "setdefault" apos e f cpos):QE X (.Call (.Attribute o "setdefault" apos) [e,f] [] cpos) (tDSetd td ty tx):=⟨L2.pe_dsetd ho.un he.un hf.un m⟩
theorem pe_dpop1 {o e:Expr}{apos cpos:Pos}{td ty:TE} (ho:QE X o td) (he:QE X e ty) (m:M1 X o "pop" apos e cpos):QE X (.Call (.Attribute o "pop" apos) [e] [] cpos) (tDPop1 td ty):=⟨L2.pe_dpop1 ho.un he.un m⟩
end
end D
namespace L2
open PySem PySem.Spec PyProof.Rows
section
variable {X:Cx}{zp:List (Addr × Obj)}{σ:List (Option V)}{H:Hp}{s:Shared}{a:Addr}{kvs:List (Key × V)}{o:Obj}
theorem Inv.freeze (I:Inv X zp σ H s) (e:H a = some (.dK kvs)) (ho:s.heap.get? a = some o):Inv X zp σ (upd H a (.frz o (.dK kvs))) s:=by
 have hok:=(show ObjOk X.prog X.w H s.heap a (.dK kvs) from I.hok a _ e)
 exact d_write (h':=s.heap) (t':=s.toks) I (by rw [e]; exact True.intro) ⟨rfl,fun _ _=>rfl⟩ ⟨o,ho⟩ ⟨ho,hok⟩
theorem Inv.thaw (I:Inv X zp σ H s) (e:H a = some (.frz o (.dK kvs))) (h0:∀ o u,X.H₀ a≠some (.frz o u)):Inv X zp σ (upd H a (.dK kvs)) s:=by
 have nn:∀ {b},H b = none->upd H a (.dK kvs) b = none:=fun {b} h=>by
  rw [upd_ne (fun z=>by rw [z,e] at h; cases h)]; exact h
 refine ⟨I.ok,I.os,I.bare,⟨I.base.keep,I.base.slot,fun b o q n hx=>nn (I.base.free b o q n hx),I.base.there,fun b xs q=>?_,fun b o u q=>?_,fun b ps q=>?_⟩,I.loc,I.cell,nn I.free,fun x c h=>nn (I.freeC x c h),fun p hp=>?_,fun b u q=>?_,I.len⟩
 ·have:=I.base.tups b xs q
  rw [upd_ne (fun z=>by rw [z,e] at this; cases this)]; exact this
 ·have:=I.base.frzs b o u q
  rw [upd_ne (fun z=>by rw [z] at q; exact h0 _ _ q)]; exact this
 ·obtain ⟨more,this⟩:=I.base.tbls b ps q
  exact ⟨more,by rw [upd_ne (fun z=>by rw [z,e] at this; cases this)]; exact this⟩
 ·obtain ⟨h1,h2,h3⟩:=I.pin p hp
  exact ⟨h1,nn h2,h3⟩
 ·by_cases hb:b = a
  ·subst hb
   rw [upd_same] at q
   cases q
   exact (show ObjOk X.prog X.w H s.heap b (.frz o (.dK kvs)) from I.hok b _ e).2
  ·rw [upd_ne hb] at q
   refine (I.hok b u q).stay (fun _ _ _ r=>r) (fun c r=>?_) (fun c xs r=>?_)
   ·rw [upd_ne (fun z=>by rw [z,e] at r; cases r)]; exact r
   ·rw [upd_ne (fun z=>by rw [z,e] at r; cases r)]; exact r
end
def Itd (a:Addr) (kvs:List (Key × V)) (o:Obj):It:=
 ⟨fun i H=>H a = some (.frz o (.dK kvs))/\i < kvs.length,fun i H x H'=>H' = H/\∃ kv,kvs[i]? = some kv/\x = kV kv.1,fun i H=>H a = some (.frz o (.dK kvs))/\kvs.length<=i⟩
theorem rel_key {P:Program}{w:World}{k:Key}{v:Value} (h:(mixKind P w).is k v = true):RelV (kV k) v:=by
 rw [mixKind_is] at h
 rcases keyIs_shape h with ⟨i,t,e,e'⟩ | ⟨y,t,e,e'⟩
 ·subst e; exact ⟨t,e'⟩
 ·subst e; exact ⟨t,e'⟩
theorem KV.keyAt {kvs:List (Key × V)}{vs:List (Key × Value)} (r:KV kvs vs) {i:Nat}{kv:Key × V} (h:kvs[i]? = some kv):∃ x,vs[i]? = some (kv.1,x):=by
 induction r generalizing i with
 | nil=>simp at h
 | @cons p q ps qs hpq _ ih=>
  cases i with
  | zero=>
   cases h
   obtain ⟨k',v⟩:=q
   exact ⟨v,by rw [hpq.1]; rfl⟩
  | succ i=>exact ih h
theorem turn_dict {P:Program}{w:World}{K:PySem.W.Frag}{tg:Expr} (a it:Addr) {kvs:List (Key × V)}{vs:List (Key × Value)}{o:Obj}{ep:Nat} (rel:KV kvs vs) (hD:∀ h:Heap,h.get? a = some o->h.DictAt (mixKind P w) a vs ep):
  Turn P w K tg (Itd a kvs o) [it] it (fun i h=>h.IsKeyIter it a i vs.length ep) where
 mem:=by simp
 obj:=fun i h st b hb=>by
  have e:b = it:=by simpa using hb
  subst e
  obtain ⟨o,e,c,d⟩:=st
  exact ⟨o,e,fun v z=>by rw [d] at z; cases z⟩
 keep:=fun i h h' st k=>st.at fun o e=>k it (by simp) o e
 item:=by
  intro X hP hw hK hc i zp s σ H E I hf st hg
  subst hP hw hK
  obtain ⟨e,hi⟩:=hg
  have ho:=(show ObjOk X.prog X.w H s.heap a (.frz o (.dK kvs)) from I.hok a _ e).1
  obtain ⟨x,hx⟩:=rel.keyAt (List.getElem?_eq_getElem hi)
  obtain ⟨f0,f1,f2,f3,f4,f5⟩:=hf it (by simp)
  refine wpAny_pyNext_dict_item st (hD _ ho) hx fun key h' hkey st' sb=>?_
  have I1:Inv X zp σ H { s with heap:=h' }:=I.turned (t':=s.toks) (fun b o hb e=>(sb.2 b hb).trans e) f0 f1 f3 f4 f5
  obtain ⟨o',e',c',d'⟩:=id st'
  exact ⟨key,rfl,go_of (s:={ s with heap:=h' }) e' c' d' (by decide) ⟨kV kvs[i].1,H,I1,rel_key hkey,⟨rfl,_,List.getElem?_eq_getElem hi,rfl⟩,st',fun b hb=>(hf b hb).1⟩⟩
 done:=by
  intro X hP hw hK hc i zp s σ H E I hf st hg
  subst hP hw hK
  obtain ⟨e,hi⟩:=hg
  have ho:=(show ObjOk X.prog X.w H s.heap a (.frz o (.dK kvs)) from I.hok a _ e).1
  obtain ⟨f0,f1,f2,f3,f4,f5⟩:=hf it (by simp)
  have hl:=rel.length
  exact wpAny_pyNext_dict_end (I.ok.hd hc) st (hD _ ho) (List.getElem?_eq_none (by omega)) fun h' eb=>⟨rfl,I.turned (t':=s.toks) (fun b o hb e=>eb b o hb e) f0 f1 f3 f4 f5⟩
 self:=fun A i s Q E st h=>wpAny_pyIter_keyiter st h
def iDict (H₀:Hp) (te:TE):TI:=fun σ H R=>te σ H fun x H1=>∃ a kvs,x = .ref a/\H1 a = some (.dK kvs)/\∀ o,(∀ o' u,H₀ a≠some (.frz o' u))->R (Itd a kvs o) (upd H1 a (.frz o (.dK kvs)))
theorem pi_dict {X:Cx}{tg e:Expr}{te:TE} (he:PE X e te):PI X tg e (iDict X.H₀ te):=by
 intro zp s σ H R I h
 refine thn (he zp s σ H _ I h) fun v s1 ⟨x,H1,I1,r1,q1⟩=>?_
 obtain ⟨a,kvs,rfl,ea,q⟩:=q1
 cases r1
 obtain ⟨hz,lo,vs,rel,dd⟩:=dk_of I1.hok ea
 obtain ⟨o,es,ep,ho,r⟩:=dd
 have hat:s1.heap.DictAt (mixKind X.prog X.w) a vs ep:=⟨o,es,ho,r⟩
 refine wpAny_pyIter_dict lo hat ?_
 have I2:=(I1.freeze ea ho).kept (t':=s1.toks) (h':=s1.heap.push { cls:=.type "dict_keyiterator",data:=.fields #[.ref a,.int 0 0,.int vs.length 0,.int ep 0] }) fun b o e=>Heap.get?_push_of_some _ e
 refine ⟨s1.heap.objs.size,[s1.heap.objs.size],_,_,_,rfl,I2,turn_dict a _ rel fun h e=>⟨o,es,e,r⟩,⟨_,Heap.get?_push_size _ rfl,rfl,rfl⟩,fun b hb=>?_,q o fun o' u e=>by
  have:=I1.base.frzs a o' u e
  rw [ea] at this
  cases this⟩
 have e:b = s1.heap.objs.size:=by simpa using hb
 subst e
 refine (I1.freeze ea ho).fpOk (Nat.le_refl _) ((I1.freeze ea ho).hok.fresh (Nat.le_refl _))
end L2
namespace D
open PySem L2
theorem pi_dict {X:Cx}{tg e:Expr}{te:TE} (h0:QE X e te):QI X tg e (iDict X.H₀ te):=⟨L2.pi_dict h0.un⟩
theorem at_sign {z:Str}{i:Int} (h0:0<=i) (h1:i < z.length):∃ c,atI z.cps.toList i = some c/\c∈z.cps.toList:=by
 have hl:i.toNat < z.cps.toList.length:=by rw [← str_len] at h1; omega
 refine ⟨z.cps.toList[i.toNat],?_,List.getElem_mem hl⟩
 have:=atI_nat (List.getElem?_eq_getElem hl)
 rw [show ((i.toNat:Nat):Int) = i by omega] at this
 exact this
theorem same_tups' {H H':Hp} (s:Same H H'):Tups H H':=fun a vs e=>s a _ e
inductive Wo where
 | lit | var | letw | ifw | add | sub | mul | div | same | less | join | list | item | count | figs | each | over | look | elsew | cry
def woS:Wo->Str
 | .lit=>"lit"
 | .var=>"var"
 | .letw=>"let"
 | .ifw=>"if"
 | .add=>"+"
 | .sub=>"-"
 | .mul=>"*"
 | .div=>"/"
 | .same=>"same"
 | .less=>"less"
 | .join=>"join"
 | .list=>"list"
 | .item=>"item"
 | .count=>"count"
 | .figs=>"figures"
 | .each=>"each"
 | .over=>"over"
 | .look=>"look"
 | .elsew=>"else"
 | .cry=>"cry"
def w3:Wo->Bool
 | .ifw=>true
 | .over=>true
 | _=>false
def w1:Wo->Bool
 | .count=>true
 | .figs=>true
 | .look=>true
 | .cry=>true
 | _=>false
def wEO:Wo->Bool
 | .each=>true
 | .over=>true
 | _=>false
def wLit:Wo->Bool
 | .lit=>true
 | _=>false
def wVar:Wo->Bool
 | .var=>true
 | _=>false
theorem inEO (d:Wo):inV (.str (woS d)) [.str "each",.str "over"] = wEO d:=by cases d <;> decide +kernel
theorem eqLit (d:Wo):decide (V.str (woS d) = V.str "lit") = wLit d:=by cases d <;> decide +kernel
theorem eqVar (d:Wo):decide (V.str (woS d) = V.str "var") = wVar d:=by cases d <;> decide +kernel
section
variable {P:Program}{w:World}{K:PySem.W.Frag}{mg:Str->Option Value}{base:Heap}{f:Addr}{fd:FuncData}{k n:Nat}{AHouse APlainLooks AMaker:Addr}
inductive Rl where
 | lit (x:W)
 | var (s:Str)
 | op (d:Wo) (bs:List Str) (ps:List Rl)
mutual
def Rl.toW:Rl->W
 | .lit x=>.lst [.txt "lit",x]
 | .var s=>.lst [.txt "var",.txt s]
 | .op d bs ps=>.lst (.txt (woS d) :: (bs.map W.txt ++ rlWs ps))
def rlWs:List Rl->List W
 | []=>[]
 | p :: r=>p.toW :: rlWs r
end
mutual
def Rl.many:Rl->Nat
 | .lit _=>1
 | .var _=>1
 | .op _ _ ps=>1 + manys ps
def manys:List Rl->Nat
 | []=>0
 | p :: r=>p.many + manys r
end
mutual
def Rl.high:Rl->Nat
 | .lit _=>0
 | .var _=>0
 | .op _ _ ps=>highs ps
def highs:List Rl->Nat
 | []=>0
 | p :: r=>max (1 + p.high) (highs r)
end
def bcnt:Wo->Nat
 | .letw=>1
 | .each=>1
 | .over=>2
 | _=>0
mutual
def Rl.Fit:Rl->List Str->Prop
 | .lit x,_=>x.Ok/\x.depth<=3
 | .var s,sc=>s∈sc
 | .op d bs ps,sc=>wLit d = false/\wVar d = false/\bs.length = bcnt d/\(∀ z∈bs,z.length<=8/\Signs z)/\Fits ps sc bs
def Fits:List Rl->List Str->List Str->Prop
 | [],_,_=>True
 | [p],sc,bs=>p.Fit (sc ++ bs)
 | p :: q :: r,sc,bs=>p.Fit sc/\Fits (q :: r) sc bs
end
theorem rlWs_len:∀ l:List Rl,(rlWs l).length = l.length
 | []=>by simp [rlWs]
 | _ :: l=>by simp only [rlWs,List.length_cons,rlWs_len l]
theorem IsBox.ne {H:Hp}{b p:Addr} (hb:IsBox H b) (hp:H p = none):p≠b:=fun z=>by
 obtain ⟨x,y,w',e⟩:=hb
 rw [← z,hp] at e
 cases e
def wList:Wo->Bool
 | .list=>true
 | _=>false
def wEach:Wo->Bool
 | .each=>true
 | _=>false
theorem eqList (d:Wo):decide (V.str (woS d) = V.str "list") = wList d:=by cases d <;> decide +kernel
def Shp (scopes:List (List Str)) (scope bs:List Str):Prop:=(bs = []/\∀ s∈scopes,s = scope)\/∃ m,scopes = List.replicate m scope ++ [scope ++ bs]
def Rd (d:Wo) (b sc l:Addr) (scope:List Str) (spare floors rounds:Int) (H0:Hp) (fin:Bool) (σ:St) (H:Hp):Prop:=
 ∃ (bn ss rs:Addr) (bs:List Str) (as:List Addr) (scopes:List (List Str)) (rl:List Int) (o10:Option V),σ = [some (.ref b),some (.ref sc),some (.ref l),some (.int spare),some (.int floors),some (.int rounds),some (.str (woS d)),some (.ref bn),some (.ref ss),some (.ref rs),o10,none,none]/\Step b H0 H/\H bn = some (.tup (bs.map V.str)) /\
  H ss = some (.lst (as.map V.ref))/\ss≠b/\H rs = some (.lst (rl.map V.int))/\rs≠b/\as.length = scopes.length/\scopes.length<=rl.length/\(∀ r∈rl,0<=r/\r<=100) /\
  (∀ (i:Nat) (a:Addr) (s:List Str),as[i]? = some a->scopes[i]? = some s->H a = some (.lst (s.map V.str))/\a≠b/\s.length<=scope.length + 2)/\(∀ z∈bs,z.length<=8/\Signs z) /\
  (fin = true->(scopes.length:Int)<=spare - 1/\(0<=floors - 1\/scopes = [])/\bs.length = bcnt d/\Shp scopes scope bs)/\(fin = false->∃ z,bs = [z])/\(wEach d = true->scopes.length<=2)
abbrev Row:=Nat × Rl × List Str
def rlW:Rl->Wo
 | .lit _=>.lit
 | .var _=>.var
 | .op d _ _=>d
def kidsR (n:Nat) (sc bs:List Str):List Rl->List Row
 | []=>[]
 | [p]=>[(n,p,sc ++ bs)]
 | p :: q :: r=>(n,p,sc) :: kidsR n sc bs (q :: r)
mutual
def walk (n:Nat) (sc:List Str):Rl->List Row
 | .lit x=>[(n,.lit x,sc)]
 | .var s=>[(n,.var s,sc)]
 | .op d bs ps=>(n,.op d bs ps,sc) :: walks (n + 1) sc bs ps
def walks (n:Nat) (sc bs:List Str):List Rl->List Row
 | []=>[]
 | [p]=>walk n (sc ++ bs) p
 | p :: q :: r=>walk n sc p ++ walks n sc bs (q :: r)
end
theorem kids_len (n:Nat) (sc bs:List Str):∀ ps:List Rl,(kidsR n sc bs ps).length = ps.length
 | []=>rfl
 | [p]=>rfl
 | p :: q :: r=>by rw [kidsR,List.length_cons,kids_len n sc bs (q :: r)]; rfl
theorem kids_get (n:Nat) (sc bs:List Str):∀ (ps:List Rl) (i:Nat) (p:Rl),ps[i]? = some p->(kidsR n sc bs ps)[i]? = some (n,p,if i + 1 = ps.length then sc ++ bs else sc)
 | [q],0,p,h=>by cases h; rfl
 | q :: r :: l,0,p,h=>by cases h; rw [kidsR]; simp
 | q :: r :: l,i + 1,p,h=>by
  rw [List.getElem?_cons_succ] at h
  rw [kidsR,List.getElem?_cons_succ,kids_get n sc bs (r :: l) i p h]
  congr 3
  simp
 | [q],i + 1,p,h=>by simp at h
mutual
theorem walk_len (n:Nat) (sc:List Str):∀ r:Rl,(walk n sc r).length = r.many
 | .lit x=>by rw [walk,Rl.many]; rfl
 | .var s=>by rw [walk,Rl.many]; rfl
 | .op d bs ps=>by rw [walk,Rl.many,List.length_cons,walks_len (n + 1) sc bs ps]; omega
theorem walks_len (n:Nat) (sc bs:List Str):∀ ps:List Rl,(walks n sc bs ps).length = manys ps
 | []=>by rw [walks,manys]; rfl
 | [p]=>by rw [walks,manys,manys,walk_len n (sc ++ bs) p]; rfl
 | p :: q :: r=>by rw [walks,manys,List.length_append,walk_len n sc p,walks_len n sc bs (q :: r)]
end
theorem fits_mem {sc bs:List Str}:∀ {ps:List Rl},Fits ps sc bs->∀ p∈ps,∃ s,p.Fit s
 | [p],h,q,hq=>by rw [Fits] at h; rw [List.mem_singleton.mp hq]; exact ⟨_,h⟩
 | p :: q :: r,h,x,hx=>by
  rw [Fits] at h
  rcases List.mem_cons.mp hx with rfl | hx
  ·exact ⟨_,h.1⟩
  ·exact fits_mem h.2 x hx
theorem high_mem:∀ {ps:List Rl}{p:Rl},p∈ps->1 + p.high<=highs ps
 | q :: r,p,h=>by
  rw [highs]
  rcases List.mem_cons.mp h with rfl | h
  ·omega
  ·have:=high_mem h; omega
theorem bcnt_le (d:Wo):bcnt d<=2:=by cases d <;> decide
theorem RW.inv_lst {H:Hp}{v:V}{ws:List W} (h:RW H v (.lst ws)):∃ a vs,v = .ref a/\H a = some (.tup vs)/\RWs H vs ws:=by
 cases h with
 | lst e l r=>exact ⟨_,_,rfl,e,l,r⟩
theorem RW.inv_txt {H:Hp}{v:V}{x:Str} (h:RW H v (.txt x)):v = .str x:=by cases h; rfl
theorem RWs.inv_cons {H:Hp}{vs:List V}{w:W}{ws:List W} (h:RWs H vs (w :: ws)):∃ v r,vs = v :: r/\RW H v w/\RWs H r ws:=by
 obtain ⟨l,f⟩:=h
 cases vs with
 | nil=>simp at l
 | cons v r=>exact ⟨v,r,rfl,f 0 v w rfl rfl,by simpa using l,fun i x y hx hy=>f (i + 1) x y (by simpa using hx) (by simpa using hy)⟩
theorem RWs.inv_nil {H:Hp}{vs:List V} (h:RWs H vs []):vs = []:=List.length_eq_zero_iff.mp h.len
theorem RWs.inv_txts {H:Hp}:∀ {bs:List Str}{vs:List V}{ws:List W},RWs H vs (bs.map W.txt ++ ws)->∃ r,vs = bs.map V.str ++ r/\RWs H r ws
 | [],vs,ws,h=>⟨vs,rfl,h⟩
 | b :: bs,vs,ws,h=>by
  obtain ⟨v,r,rfl,h1,h2⟩:=RWs.inv_cons h
  obtain ⟨r',rfl,h3⟩:=RWs.inv_txts h2
  exact ⟨r',by rw [RW.inv_txt h1]; rfl,h3⟩
inductive Opn (H:Hp):Rl->List V->Prop where
 | lit {x:W}{v:V}:RW H v x->Opn H (.lit x) [.str "lit",v]
 | var {s:Str}:Opn H (.var s) [.str "var",.str s]
 | op {d:Wo}{bs:List Str}{ps:List Rl}{vs:List V}:RWs H vs (rlWs ps)->Opn H (.op d bs ps) (.str (woS d) :: (bs.map V.str ++ vs))
theorem opn {H:Hp}{v:V}{r:Rl} (h:RW H v r.toW):∃ a us,v = .ref a/\H a = some (.tup us)/\Opn H r us:=by
 cases r with
 | lit x=>
  rw [Rl.toW] at h
  obtain ⟨a,vs,rfl,e,h⟩:=RW.inv_lst h
  obtain ⟨v1,r1,rfl,h1,h⟩:=RWs.inv_cons h
  obtain ⟨v2,r2,rfl,h2,h⟩:=RWs.inv_cons h
  rw [RW.inv_txt h1,RWs.inv_nil h] at e
  exact ⟨a,_,rfl,e,.lit h2⟩
 | var s=>
  rw [Rl.toW] at h
  obtain ⟨a,vs,rfl,e,h⟩:=RW.inv_lst h
  obtain ⟨v1,r1,rfl,h1,h⟩:=RWs.inv_cons h
  obtain ⟨v2,r2,rfl,h2,h⟩:=RWs.inv_cons h
  rw [RW.inv_txt h1,RW.inv_txt h2,RWs.inv_nil h] at e
  exact ⟨a,_,rfl,e,.var⟩
 | op d bs ps=>
  rw [Rl.toW] at h
  obtain ⟨a,vs,rfl,e,h⟩:=RW.inv_lst h
  obtain ⟨v1,r1,rfl,h1,h⟩:=RWs.inv_cons h
  obtain ⟨r2,rfl,h2⟩:=RWs.inv_txts h
  rw [RW.inv_txt h1] at e
  exact ⟨a,_,rfl,e,.op h2⟩
theorem Opn.head {H:Hp}{r:Rl}{us:List V} (h:Opn H r us):us[0]? = some (.str (woS (rlW r))):=by cases h <;> rfl
theorem cut_mid (x:V) (xs ys:List V) (k:Nat) (hk:k = xs.length):cutV (x :: (xs ++ ys)) (some 1) (some (1 + (k:Int))) = xs:=by
 show ((x :: (xs ++ ys)).drop (HT.sIx (x :: (xs ++ ys)).length 0 (some ((1:Nat):Int)))).take (HT.sIx (x :: (xs ++ ys)).length (x :: (xs ++ ys)).length (some (1 + (k:Int))) - HT.sIx (x :: (xs ++ ys)).length 0 (some ((1:Nat):Int))) = xs
 rw [show (1:Int) + (k:Int) = ((1 + k:Nat):Int) by omega,HT.sIx_nat,HT.sIx_nat,List.length_cons,List.length_append,hk,show min 1 (xs.length + ys.length + 1) = 1 by omega,show min (1 + xs.length) (xs.length + ys.length + 1) - 1 = xs.length by omega]
 simp
theorem cut_rest (x:V) (xs ys:List V) (k:Nat) (hk:k = xs.length):cutV (x :: (xs ++ ys)) (some (1 + (k:Int))) none = ys:=by
 show ((x :: (xs ++ ys)).drop (HT.sIx (x :: (xs ++ ys)).length 0 (some (1 + (k:Int))))).take ((x :: (xs ++ ys)).length - HT.sIx (x :: (xs ++ ys)).length 0 (some (1 + (k:Int)))) = ys
 rw [show (1:Int) + (k:Int) = ((1 + k:Nat):Int) by omega,HT.sIx_nat,List.length_cons,List.length_append,hk,show min (1 + xs.length) (xs.length + ys.length + 1) = xs.length + 1 by omega]
 rw [List.drop_succ_cons,List.drop_left,List.take_of_length_le (by omega)]
theorem not_whole (x:V) (xs:List V) (k:Nat) (hi:Option Int):¬ (HT.sIx (x :: xs).length 0 (some (1 + (k:Int))) = 0/\HT.sIx (x :: xs).length (x :: xs).length hi = (x :: xs).length):=fun h=>by
 have h1:=h.1
 rw [show (1:Int) + (k:Int) = ((1 + k:Nat):Int) by omega,HT.sIx_nat,List.length_cons] at h1
 omega
theorem rlWs_get:∀ {ps:List Rl}{i:Nat}{p:Rl},ps[i]? = some p->(rlWs ps)[i]? = some p.toW
 | q :: r,0,p,h=>by cases h; rw [rlWs]; rfl
 | q :: r,i + 1,p,h=>by rw [rlWs,List.getElem?_cons_succ]; exact rlWs_get (by simpa using h)
theorem boot_setT:bootBuiltins (Str.ofString "set") = some (.type "set"):=by kernel_rfl
def kvsB:List (Key × V):=[(.inr "let",.int 1),(.inr "each",.int 1),(.inr "over",.int 2)]
def kvsP:List (Key × V):=[(.inr "let",.int 2),(.inr "if",.int 3),(.inr "+",.int 2),(.inr "-",.int 2),(.inr "*",.int 2),(.inr "/",.int 2),(.inr "same",.int 2),(.inr "less",.int 2),(.inr "join",.int 2),(.inr "item",.int 2),(.inr "count",.int 1),(.inr "figures",.int 1),(.inr "each",.int 2),(.inr "over",.int 3),(.inr "look",.int 1),(.inr "else",.int 2),(.inr "cry",.int 1)]
def spHasParts:Sp:=fun vs H Q _=>∃ d:Wo,vs = [.str (woS d)]/\Q (.bl (!(wLit d || wVar d))) H
def spBCount:Sp:=fun vs H Q _=>∃ d:Wo,vs = [.str (woS d)]/\Q (.int (bcnt d)) H
def spVarsOf:Sp:=fun vs H Q _=>∃ (a:Addr) (d:Wo) (xs ys:List V),vs = [.ref a]/\H a = some (.tup (.str (woS d) :: (xs ++ ys)))/\xs.length = bcnt d/\∀ (p:Addr) (H':Hp),Same H H'->H' p = some (.tup xs)->Q (.ref p) H'
def kidsOf:Rl->List Rl
 | .op _ _ ps=>ps
 | _=>[]
def spPartsOf:Sp:=fun vs H Q _=>∃ (v:V) (r:Rl),vs = [v]/\RW H v r.toW/\(∃ sc,r.Fit sc)/\r.many<=100/\∀ (l:Addr) (us:List V) (H':Hp),H l = none->Same H H'->H' l = some (.lst us)->RWs H' us (rlWs (kidsOf r))->Q (.ref l) H'
theorem many_len:∀ ps:List Rl,ps.length<=manys ps
 | []=>by simp [manys]
 | p :: r=>by
  have h1:=many_len r
  have h2:1<=p.many:=by cases p <;> simp [Rl.many]
  simp only [manys,List.length_cons]
  omega
theorem sc_has_parts:FnScope ["word"] ["word"] (defScope s_has_parts):=⟨rfl,rfl,rfl,by decide +kernel,rfl,by decide +kernel,by decide +kernel⟩
theorem ok_has_parts (F:Fun K "has_parts" "has_parts" s_has_parts f fd) {g_PARTS:Addr} (m_PARTS:mg "PARTS" = some (.ref g_PARTS)) (d_PARTS:MD P w K g_PARTS kvsP):FnOk P w K mg base CX0 (k + 1) f fd ["word"] (spHasParts):=by
 refine F.okQ sc_has_parts (fun vs H Q E h=>?_) (fun cdv A outer s H vs Q E hr h=>?_)
 ·obtain ⟨d,rfl,_⟩:=h
  rfl
 obtain ⟨d,rfl,q⟩:=h
 refine ⟨_,(pss_one (ps_ret (pe_or (pe_cmpR op_eq (pv 0) pe_str (nomark _)) (pe_one (pe_cmpR op_inM (pv 0) (pe_glob (v:=.ref g_PARTS) rfl m_PARTS rfl) (by rfl)))))),?_⟩
 refine ⟨_,rfl,rfl,_,rfl,?_⟩
 rw [show Str.ofString "list" = "list" from rfl,eqList]
 cases hl:wList d with
 | true=>
  have:(!(wLit d || wVar d)) = true:=by cases d <;> first | rfl | (simp [wList] at hl; done)
  rw [this] at q
  exact iteT q
 | false=>
  refine iteF ⟨_,rfl,g_PARTS,kvsP,.inr (woS d),rfl,rfl,d_PARTS,?_⟩
  have hs:(valV kvsP (.inr (woS d))).isSome = (!(wLit d || wVar d)):=by
   cases d
   case list=>simp [wList] at hl
   all_goals rfl
  rw [hs]
  exact q
theorem sc_binding_count:FnScope ["word"] ["word"] (defScope s_binding_count):=⟨rfl,rfl,rfl,by decide +kernel,rfl,by decide +kernel,by decide +kernel⟩
theorem ok_binding_count (F:Fun K "binding_count" "binding_count" s_binding_count f fd) {g_BINDING:Addr} (m_BINDING:mg "BINDING" = some (.ref g_BINDING)) (d_BINDING:MD P w K g_BINDING kvsB):FnOk P w K mg base CX0 (k + 1) f fd ["word"] (spBCount):=by
 refine F.okQ sc_binding_count (fun vs H Q E h=>?_) (fun cdv A outer s H vs Q E hr h=>?_)
 ·obtain ⟨d,rfl,_⟩:=h
  rfl
 obtain ⟨d,rfl,q⟩:=h
 refine ⟨_,(pss_one (ps_ret (pe_mget2 (pe_glob (v:=.ref g_BINDING) rfl m_BINDING rfl) (pv 0) pe_int ⟨rfl,rfl,rfl,rfl⟩))),?_⟩
 refine ⟨g_BINDING,kvsB,rfl,d_BINDING,_,rfl,.inr (woS d),rfl,?_⟩
 have hs:(valV kvsB (.inr (woS d))).getD (.int 0) = .int (bcnt d):=by cases d <;> rfl
 rw [hs]
 exact q
theorem sc_variables_of:FnScope ["expression"] ["expression"] (defScope s_variables_of):=⟨rfl,rfl,rfl,by decide +kernel,rfl,by decide +kernel,by decide +kernel⟩
theorem ok_variables_of (F:Fun K "variables_of" "variables_of" s_variables_of f fd) (G_binding_count:Have P w K mg base "binding_count" k ["word"] (spBCount)):FnOk P w K mg base CX0 (k + 1) f fd ["expression"] (spVarsOf):=by
 refine F.okQ sc_variables_of (fun vs H Q E h=>?_) (fun cdv A outer s H vs Q E hr h=>?_)
 ·obtain ⟨a,d,xs,ys,rfl,_⟩:=h
  rfl
 obtain ⟨a,d,xs,ys,rfl,ha,hl,q⟩:=h
 refine ⟨_,(pss_one (ps_ret (pe_slice sl_tup (pv 0) (po_some pe_int) (po_some (pe_op op_add pe_int (pe_fn G_binding_count hr rfl (pa_cons (pe_ix ix_tup (pv 0) pe_int (fun _ _=>rfl)) pa_nil))))))),?_⟩
 refine ⟨_,rfl,_,rfl,_,rfl,a,_,0,_,rfl,rfl,SqT.of ha,atI_nat (j:=0) rfl,d,rfl,_,_,rfl,rfl,_,rfl,a,_,rfl,SqT.of ha,not_whole _ _ 0 _,fun p hp=>?_⟩
 refine q p _ (Same.new hp) (upd_same.trans ?_)
 exact congrArg (fun z=>some (HO.tup z)) (cut_mid _ xs ys (bcnt d) hl.symm)
theorem sc_parts_of:FnScope ["expression","word"] ["expression"] (defScope s_parts_of):=⟨rfl,rfl,rfl,by decide +kernel,rfl,by decide +kernel,by decide +kernel⟩
theorem ok_parts_of (F:Fun K "parts_of" "parts_of" s_parts_of f fd) (G_binding_count:Have P w K mg base "binding_count" k ["word"] (spBCount)) (G_has_parts:Have P w K mg base "has_parts" k ["word"] (spHasParts)) (m_list:mg "list" = none):FnOk P w K mg base CX0 (k + 1) f fd ["expression"] (spPartsOf):=by
 refine F.okQ sc_parts_of (fun vs H Q E h=>?_) (fun cdv A outer s H vs Q E hr h=>?_)
 ·obtain ⟨v,r,rfl,_⟩:=h
  rfl
 obtain ⟨v,r,rfl,hv,⟨sc,hfit⟩,hm,q⟩:=h
 refine ⟨_,(pss_cons (ps_set (i:=1) sc_parts_of.nd rfl (Or.inl rfl) (pe_ix ix_tup (pv 0) pe_int (fun _ _=>rfl)))
  (pss_cons (ps_if (pt_not (pt_val (pe_fn G_has_parts hr rfl (pa_cons (pv 1) pa_nil)))) (pss_one (ps_ret (pe_lst pa_nil))) pss_nil)
  (pss_one (ps_ret (pe_callTy call_list_of rfl m_list boot_listT (pa_cons (pe_slice sl_tup (pv 0) (po_some (pe_op op_add pe_int (pe_fn G_binding_count hr rfl (pa_cons (pv 1) pa_nil)))) po_none) pa_nil)))))),?_⟩
 obtain ⟨a,us,rfl,ea,ho⟩:=opn hv
 refine ⟨_,rfl,a,_,0,_,rfl,rfl,SqT.of ea,atI_nat (j:=0) ho.head,?_⟩
 refine ⟨_,rfl,rlW r,rfl,_,rfl,?_⟩
 cases ho with
 | lit _=>exact iteT ⟨zl0,fun l hl=>q l [] _ hl (Same.new hl) upd_same ⟨rfl,fun i v w e=>by simp at e⟩⟩
 | var=>exact iteT ⟨zl0,fun l hl=>q l [] _ hl (Same.new hl) upd_same ⟨rfl,fun i v w e=>by simp at e⟩⟩
 | op hvs=>
  rename_i d bs ps vs
  rw [Rl.Fit] at hfit
  obtain ⟨h1,h2,h3,_,_⟩:=hfit
  have hb:(!(!(wLit (rlW (.op d bs ps)) || wVar (rlW (.op d bs ps))))) = false:=by show (!(!(wLit d || wVar d))) = false; rw [h1,h2]; rfl
  rw [hb]
  refine iteF ⟨_,rfl,_,rfl,d,rfl,_,_,rfl,rfl,_,rfl,a,_,rfl,SqT.of ea,not_whole _ _ (bcnt d) _,fun p hp=>?_⟩
  have s1:=Same.new (o:=.tup (cutV (.str (woS d) :: (bs.map V.str ++ vs)) (some (1 + bcnt d)) none)) hp
  have e:=cut_rest (.str (woS d)) (bs.map V.str) vs (bcnt d) (by rw [List.length_map,h3])
  refine ⟨p,vs,rfl,.inr (SqT.of (by rw [upd_same]; exact congrArg _ (congrArg _ e))),fun l hl=>?_⟩
  have s2:=s1.trans (Same.new (o:=.lst vs) hl)
  exact q l vs _ (s1.free hl) s2 upd_same (hvs.mono (same_tups' s2))
theorem many_mem:∀ {ps:List Rl}{p:Rl},p∈ps->p.many<=manys ps
 | q :: r,p,h=>by
  simp only [manys]
  rcases List.mem_cons.mp h with rfl | h
  ·omega
  ·have:=many_mem h; omega
theorem many_eq (r:Rl):r.many = 1 + manys (kidsOf r):=by cases r <;> simp [Rl.many,kidsOf,manys]
theorem high_eq (r:Rl):r.high = highs (kidsOf r):=by cases r <;> simp [Rl.high,kidsOf,highs]
theorem fit_kids {r:Rl} (h:∃ sc,r.Fit sc):∀ p∈kidsOf r,∃ sc,p.Fit sc:=by
 obtain ⟨sc,h⟩:=h
 cases r with
 | op d bs ps=>rw [Rl.Fit] at h; exact fits_mem h.2.2.2.2
 | lit _=>intro p hp; cases hp
 | var _=>intro p hp; cases hp
mutual
def unb (b:List Str):Rl->List Str
 | .lit _=>[]
 | .var s=>if s∈b then [] else [s]
 | .op _ bs ps=>unbs b bs ps
def unbs (b bs:List Str):List Rl->List Str
 | []=>[]
 | [p]=>unb (b ++ bs) p
 | p :: q :: r=>unb b p ++ unbs b bs (q :: r)
end
def unbR (x:Row):List Str:=unb x.2.2 x.2.1
theorem unbs_kids (b bs:List Str):∀ ps:List Rl,unbs b bs ps = (kidsR 0 b bs ps).flatMap unbR
 | []=>by rw [unbs,kidsR]; rfl
 | [p]=>by rw [unbs,kidsR]; simp [unbR]
 | p :: q :: r=>by rw [unbs,kidsR,List.flatMap_cons,unbs_kids b bs (q :: r)]; rfl
mutual
theorem unb_len (b:List Str):∀ r:Rl,(unb b r).length<=r.many
 | .lit x=>by rw [unb,Rl.many]; exact Nat.zero_le _
 | .var s=>by rw [unb,Rl.many]; split <;> simp
 | .op d bs ps=>by rw [unb,Rl.many]; have:=unbs_len b bs ps; omega
theorem unbs_len (b bs:List Str):∀ ps:List Rl,(unbs b bs ps).length<=manys ps
 | []=>by rw [unbs,manys]; exact Nat.le_refl _
 | [p]=>by rw [unbs,manys,manys]; have:=unb_len (b ++ bs) p; omega
 | p :: q :: r=>by rw [unbs,manys,List.length_append]; have:=unb_len b p; have:=unbs_len b bs (q :: r); omega
end
def bndOf:Rl->List Str
 | .op _ bs _=>bs
 | _=>[]
theorem take_flat_le {α β:Type} (f:α->List β) (l:List α) (i:Nat):((l.take i).flatMap f).length<=(l.flatMap f).length:=by
 have:l.flatMap f = (l.take i).flatMap f ++ (l.drop i).flatMap f:=by rw [← List.flatMap_append,List.take_append_drop]
 rw [this,List.length_append]
 omega
theorem inV_strs (s:Str) (b:List Str):inV (.str s) (b.map V.str) = decide (s∈b):=by
 induction b with
 | nil=>rfl
 | cons x r ih=>
  unfold inV at ih ⊢
  rw [List.map_cons,List.any_cons,ih]
  rw [show eqV (V.str x) (V.str s) = (x == s) from rfl]
  by_cases e:s = x
  ·subst e; simp
  ·have e':¬ x = s:=fun z=>e z.symm
   simp [e,e']
def spUnb (n:Nat):Sp:=fun vs H Q _=>∃ (v:V) (r:Rl) (b:Addr) (bnd:List Str),vs = [v,.ref b]/\RW H v r.toW/\(∃ sc,r.Fit sc)/\r.many<=100/\r.high < n/\H b = some (.tup (bnd.map V.str))/\bnd.length + 2 * n<=1000 /\
 ∀ (l:Addr) (H':Hp),H l = none->Same H H'->H' l = some (.lst ((unb bnd r).map V.str))->Q (.ref l) H'
def spFree:Sp:=fun vs H Q _=>∃ (v:V) (r:Rl),vs = [v]/\RW H v r.toW/\(∃ sc,r.Fit sc)/\r.many < 64/\r.high < 20 /\
 ∀ (l:Addr) (ss:List Str) (H':Hp),H l = none->Same H H'->H' l = some (.lst (ss.map V.str))->L2.sortedT ss->ss.Perm (L2.allS (unb [] r))->Q (.ref l) H'
theorem sc_unbound:FnScope ["expression","bound","parts","names","place","part","is_last"] ["expression","bound"] (defScope s_unbound):=⟨rfl,rfl,rfl,by decide +kernel,rfl,by decide +kernel,by decide +kernel⟩
theorem ok_unbound {n:Nat} (F:Fun K "unbound" "unbound" s_unbound f fd) (G_unbound:Have P w K mg base "unbound" k ["expression","bound"] (spUnb n)) (G_variables_of:Have P w K mg base "variables_of" k ["expression"] (spVarsOf)) (G_parts_of:Have P w K mg base "parts_of" k ["expression"] (spPartsOf)) (m_enumerate:mg "enumerate" = none) (m_len:mg "len" = none):FnOk P w K mg base CX0 (k + 1) f fd ["expression","bound"] (spUnb (n + 1)):=by
 refine F.okQ sc_unbound (fun vs H Q E h=>?_) (fun cdv A outer s H vs Q E hr h=>?_)
 ·obtain ⟨v,r,b,bnd,rfl,_⟩:=h
  rfl
 obtain ⟨v,r,b,bnd,rfl,hv,hfit,hm,hh,hb,hbl,q⟩:=h
 refine ⟨_,(pss_cons (ps_if (pt_cmpR op_eq (pe_ix ix_tup (pv 0) pe_int (fun _ _=>rfl)) pe_str (nomark _)) (pss_one (ps_ret (pe_ifExp (pt_cmpR op_in_seq (pe_ix ix_tup (pv 0) pe_int (fun _ _=>rfl)) (pv 1) (by rfl)) (pe_lst pa_nil) (pe_lst (pa_cons (pe_ix ix_tup (pv 0) pe_int (fun _ _=>rfl)) pa_nil))))) pss_nil)
  (pss_cons (ps_set (i:=2) sc_unbound.nd rfl (Or.inl rfl) (pe_fn G_parts_of hr rfl (pa_cons (pv 0) pa_nil)))
  (pss_cons (ps_set (i:=3) sc_unbound.nd rfl (Or.inl rfl) (pe_lst pa_nil))
  (pss_cons (ps_for PassesOwn.never rfl (pi_enum rfl m_enumerate (pa_cons (pv 2) pa_nil)) (pg_tup rfl (pgs_cons (pg_name (i:=4) sc_unbound.nd rfl (Or.inl rfl)) (pgs_cons (pg_name (i:=5) sc_unbound.nd rfl (Or.inl rfl)) pgs_nil))) (pss_cons (ps_set (i:=6) sc_unbound.nd rfl (Or.inl rfl) (pe_cmpR op_eq (pv 4) (pe_op op_sub (pe_callB call_len rfl m_len PySem.boot_len (pa_cons (pv 2) pa_nil)) pe_int) (nomark _)))
  (pss_one (ps_expr (pe_bm PySem.F.plainAttrs_list PySem.F.slot_list_extend PySem.F.type_list_extend mt_extend (pv 3) (pa_cons (pe_fn G_unbound hr rfl (pa_cons (pv 5) (pa_cons (pe_ifExp (pt_val (pv 6)) (pe_op op_join (pv 1) (pe_fn G_variables_of hr rfl (pa_cons (pv 0) pa_nil))) (pv 1)) pa_nil))) pa_nil))))))
  (pss_one (ps_ret (pv 3))))))),?_⟩
 obtain ⟨a,us0,rfl,ea,ho⟩:=opn hv
 refine ⟨_,rfl,a,_,0,_,rfl,rfl,SqT.of ea,atI_nat (j:=0) ho.head,rfl,_,rfl,?_⟩
 rw [show Str.ofString "var" = "var" from rfl,eqVar]
 cases hw:wVar (rlW r) with
 | true=>
  cases ho with
  | var=>
   rename_i s
   refine iteT ⟨_,rfl,a,_,1,_,rfl,rfl,SqT.of ea,rfl,_,rfl,b,_,rfl,.inr (SqT.of hb),rfl,?_,_,rfl,?_⟩
   ·rw [List.all_map]; simp [flatV]
   ·show if inV (.str s) (bnd.map V.str) = true then _ else _
    rw [inV_strs]
    by_cases hs:s∈bnd
    ·rw [decide_eq_true hs]
     exact iteT ⟨zl0,fun l hl=>q l _ hl (Same.new hl) (by rw [upd_same,unb,if_pos hs]; rfl)⟩
    ·rw [decide_eq_false hs]
     exact iteF ⟨_,rfl,a,_,1,_,rfl,rfl,SqT.of ea,rfl,zl1,fun l hl=>q l _ hl (Same.new hl) (by rw [upd_same,unb,if_neg hs]; rfl)⟩
  | lit _=>cases hw
  | op hvs=>
   obtain ⟨sc,hf⟩:=hfit
   rw [Rl.Fit] at hf
   rw [show wVar (rlW (Rl.op _ _ _)) = false from hf.2.1] at hw
   cases hw
 | false=>
  have hub:unb bnd r = (kidsR 0 bnd (bndOf r) (kidsOf r)).flatMap unbR:=by
   cases r with
   | lit _=>rw [unb]; rfl
   | var _=>cases hw
   | op d bs ps=>rw [unb,unbs_kids]; rfl
  refine iteF ⟨_,rfl,.ref a,r,rfl,hv,hfit,hm,fun l us H1 hl s1 el hus=>⟨zl0,fun nm hnm=>?_⟩⟩
  have hul:=hus.len
  rw [rlWs_len] at hul
  have s2:=Same.new (o:=.lst []) hnm
  have hln:l≠nm:=ne_of_none el hnm
  have nmH:H nm = none:=s1.free hnm
  have ulen:=unb_len bnd r
  refine ⟨_,rfl,l,us,rfl,SqL.of (s2 _ _ el),for_enum (xs:=us) (fun i σ' H'=>∃ (o4 o5 o6:Option V),σ' = [some (.ref a),some (.ref b),some (.ref l),some (.ref nm),o4,o5,o6]/\(∀ c o,c≠nm->upd H1 nm (.lst []) c = some o->H' c = some o)/\H' nm = some (.lst ((((kidsR 0 bnd (bndOf r) (kidsOf r)).take i).flatMap unbR).map V.str)))
   ⟨none,none,none,rfl,fun c o _ e=>e,by rw [upd_same]; rfl⟩ (fun i σ' H' _ h=>?_) (fun i x t σ' H' hx ht h=>?_) (fun σ' H' h=>?_)⟩
  ·obtain ⟨_,_,_,_,kp,_⟩:=h
   exact SqL.of (kp l _ hln (s2 _ _ el))
  ·obtain ⟨o4,o5,o6,rfl,kp,enm⟩:=h
   have hi:i < us.length:=(List.getElem?_eq_some_iff.mp hx).1
   have hki:(kidsOf r)[i]? = some (kidsOf r)[i]:=List.getElem?_eq_getElem (by omega)
   have hkid:=kids_get 0 bnd (bndOf r) (kidsOf r) i _ hki
   have sT:=Same.new (o:=.tup [.int i,x]) ht
   have hpm:=List.getElem_mem (show i < (kidsOf r).length by omega)
   have h1:=many_mem hpm
   have h2:=high_mem hpm
   have hme:=many_eq r
   have hhe:=high_eq r
   have kpT:∀ c o,c≠nm->upd H1 nm (.lst []) c = some o->upd H' t (.tup [.int i,x]) c = some o:=fun c o hc e=>sT _ _ (kp c o hc e)
   have kH:∀ c o,H c = some o->upd H' t (.tup [.int i,x]) c = some o:=fun c o e=>kpT c o (ne_of_none e nmH) (s2 _ _ (s1 _ _ e))
   refine ⟨t,_,rfl,SqT.of upd_same,rfl,_,_,rfl,_,_,rfl,rfl,?_⟩
   refine ⟨_,rfl,_,rfl,_,_,rfl,.inl ⟨_,SqL.of (kpT l _ hln (s2 _ _ el)),rfl⟩,_,_,rfl,rfl,rfl,?_⟩
   refine ⟨_,rfl,.inl ⟨rfl,_,SqL.of (sT _ _ enm)⟩,_,rfl,_,rfl,_,rfl,?_⟩
   have rwx:RW (upd H' t (.tup [.int i,x])) x ((kidsOf r)[i]).toW:=by
    refine (hus.at' i x _ hx (rlWs_get hki)).mono (fun c zs ec=>?_)
    exact kpT c _ (ne_of_none ec hnm) (s2 _ _ ec)
   have F:∀ (l2:Addr) (H6:Hp) (bnd2:List Str),bnd2 = (if i + 1 = (kidsOf r).length then bnd ++ bndOf r else bnd)->Same (upd H' t (.tup [.int i,x])) H6->H6 l2 = some (.lst ((unb bnd2 (kidsOf r)[i]).map V.str))->H6 nm = some (.lst ((((kidsR 0 bnd (bndOf r) (kidsOf r)).take i).flatMap unbR).map V.str)) /\
     ((((kidsR 0 bnd (bndOf r) (kidsOf r)).take i).flatMap unbR).map V.str).length + ((unb bnd2 (kidsOf r)[i]).map V.str).length<=sizeLine /\
     (∀ c o,c≠nm->upd H1 nm (.lst []) c = some o->upd H6 nm (.lst ((((kidsR 0 bnd (bndOf r) (kidsOf r)).take i).flatMap unbR).map V.str ++ (unb bnd2 (kidsOf r)[i]).map V.str)) c = some o) /\
     upd H6 nm (.lst ((((kidsR 0 bnd (bndOf r) (kidsOf r)).take i).flatMap unbR).map V.str ++ (unb bnd2 (kidsOf r)[i]).map V.str)) nm = some (.lst ((((kidsR 0 bnd (bndOf r) (kidsOf r)).take (i + 1)).flatMap unbR).map V.str)):=fun l2 H6 bnd2 hb2 s6 el2=>by
    have t1:=take_flat_le unbR (kidsR 0 bnd (bndOf r) (kidsOf r)) i
    rw [← hub] at t1
    have t2:=unb_len bnd2 (kidsOf r)[i]
    refine ⟨s6 _ _ (sT _ _ enm),?_,fun c o hc e=>?_,?_⟩
    ·rw [List.length_map,List.length_map]
     exact Nat.le_trans (show _<=300 by omega) (by decide)
    ·rw [upd_ne hc]
     exact s6 _ _ (kpT c o hc e)
    ·rw [upd_same,List.take_succ,hkid,List.flatMap_append,List.map_append,← hb2]
     simp [unbR]
   refine ite2 (fun c=>?_) (fun c=>?_)
   ·have hlast:i + 1 = (kidsOf r).length:=by
     have:=of_decide_eq_true c
     injection this with this
     omega
    cases ho with
    | lit _=>simp [kidsOf] at hlast
    | var=>cases hw
    | op hvs=>
     rename_i d bs ps vs
     have hfit':=hfit
     obtain ⟨sc,hf⟩:=hfit
     rw [Rl.Fit] at hf
     have hb2l:=bcnt_le d
     refine ⟨_,rfl,_,rfl,a,d,bs.map V.str,vs,rfl,kH _ _ ea,by rw [List.length_map]; exact hf.2.2.1,fun p H5 s5 ep=>?_⟩
     have hb2:bnd ++ bs = (if i + 1 = (kidsOf (.op d bs ps)).length then bnd ++ bndOf (.op d bs ps) else bnd):=by rw [if_pos hlast]; rfl
     have hbl2:(bnd ++ bs).length + 2 * n<=1000:=by rw [List.length_append]; omega
     have call:∀ (b2:Addr) (H6:Hp),Same H5 H6->H6 b2 = some (.tup ((bnd ++ bs).map V.str))->RW H6 x ((kidsOf (.op d bs ps))[i]).toW:=fun b2 H6 s6 _=>rwx.mono (same_tups' (s5.trans s6))
     cases hbn:bnd with
     | nil=>
      subst hbn
      refine .inr (.inr ⟨b,p,_,rfl,rfl,SqT.of (s5 _ _ (kH _ _ hb)),SqT.of ep,?_⟩)
      exact ⟨x,_,p,[] ++ bs,rfl,rwx.mono (same_tups' s5),fit_kids hfit' _ hpm,by omega,by omega,ep,hbl2,fun l2 H6 hl2 s6 el2=>⟨nm,l2,_,_,rfl,rfl,(F l2 H6 _ hb2 (s5.trans s6) el2).1,el2,(F l2 H6 _ hb2 (s5.trans s6) el2).2.1,_,_,_,rfl,(F l2 H6 _ hb2 (s5.trans s6) el2).2.2.1,(F l2 H6 _ hb2 (s5.trans s6) el2).2.2.2⟩⟩
     | cons z zs=>
      rw [← hbn]
      refine .inr (.inl ⟨b,p,_,_,rfl,rfl,SqT.of (s5 _ _ (kH _ _ hb)),SqT.of ep,(by rw [hbn]; exact fun z=>nomatch z),by rw [List.length_map,List.length_map]; exact Nat.le_trans (show bnd.length + bs.length<=1100 by omega) (by decide),fun hz=>?_,fun _ p6 hp6=>?_⟩)
      ·have hbs:bs = []:=List.map_eq_nil_iff.mp hz
       have eb:H5 b = some (.tup ((bnd ++ bs).map V.str)):=by rw [hbs,List.append_nil]; exact s5 _ _ (kH _ _ hb)
       exact ⟨x,_,b,bnd ++ bs,rfl,rwx.mono (same_tups' s5),fit_kids hfit' _ hpm,by omega,by omega,eb,hbl2,fun l2 H6 hl2 s6 el2=>⟨nm,l2,_,_,rfl,rfl,(F l2 H6 _ hb2 (s5.trans s6) el2).1,el2,(F l2 H6 _ hb2 (s5.trans s6) el2).2.1,_,_,_,rfl,(F l2 H6 _ hb2 (s5.trans s6) el2).2.2.1,(F l2 H6 _ hb2 (s5.trans s6) el2).2.2.2⟩⟩
      ·have s56:=s5.trans (Same.new (o:=.tup (bnd.map V.str ++ bs.map V.str)) hp6)
       exact ⟨x,_,p6,bnd ++ bs,rfl,rwx.mono (same_tups' s56),fit_kids hfit' _ hpm,by omega,by omega,by rw [upd_same,List.map_append],hbl2,fun l2 H6 hl2 s6 el2=>⟨nm,l2,_,_,rfl,rfl,(F l2 H6 _ hb2 (s56.trans s6) el2).1,el2,(F l2 H6 _ hb2 (s56.trans s6) el2).2.1,_,_,_,rfl,(F l2 H6 _ hb2 (s56.trans s6) el2).2.2.1,(F l2 H6 _ hb2 (s56.trans s6) el2).2.2.2⟩⟩
   ·have hlast:¬ i + 1 = (kidsOf r).length:=fun z=>c (decide_eq_true (congrArg V.int (show (i:Int) = (us.length:Int) - 1 by omega)))
    have hb2:bnd = (if i + 1 = (kidsOf r).length then bnd ++ bndOf r else bnd):=by rw [if_neg hlast]
    exact ⟨_,rfl,x,_,b,bnd,rfl,rwx,fit_kids hfit _ hpm,by omega,by omega,kH _ _ hb,by omega,fun l2 H6 hl2 s6 el2=>⟨nm,l2,_,_,rfl,rfl,(F l2 H6 _ hb2 s6 el2).1,el2,(F l2 H6 _ hb2 s6 el2).2.1,_,_,_,rfl,(F l2 H6 _ hb2 s6 el2).2.2.1,(F l2 H6 _ hb2 s6 el2).2.2.2⟩⟩
  ·obtain ⟨o4,o5,o6,rfl,kp,enm⟩:=h
   refine ⟨_,rfl,q nm H' nmH (fun c o e=>kp c o (ne_of_none e nmH) (s2 _ _ (s1 _ _ e))) ?_⟩
   rw [enm,hub,List.take_of_length_le (by rw [kids_len]; omega)]
theorem sc_free_in:FnScope ["expression"] ["expression"] (defScope s_free_in):=⟨rfl,rfl,rfl,by decide +kernel,rfl,by decide +kernel,by decide +kernel⟩
theorem ok_free_in (F:Fun K "free_in" "free_in" s_free_in f fd) (G_unbound:Have P w K mg base "unbound" k ["expression","bound"] (spUnb 20)) (m_set:mg "set" = none) (m_sorted:mg "sorted" = none):FnOk P w K mg base CX0 (k + 1) f fd ["expression"] (spFree):=by
 refine F.okQ sc_free_in (fun vs H Q E h=>?_) (fun cdv A outer s H vs Q E hr h=>?_)
 ·obtain ⟨v,r,rfl,_⟩:=h
  rfl
 obtain ⟨v,r,rfl,hv,hfit,hm,hh,q⟩:=h
 refine ⟨_,(pss_one (ps_ret (pe_callB (call_sorted_set rfl) rfl m_sorted PyProof.Rows.boot_sorted (pa_cons (pe_callTy (call_set_tx rfl) rfl m_set boot_setT (pa_cons (pe_fn G_unbound hr rfl (pa_cons (pv 0) (pa_cons (pe_tup pa_nil) pa_nil))) pa_nil)) pa_nil)))),?_⟩
 refine ⟨_,rfl,zl0,fun p hp=>?_⟩
 have s1:=Same.new (o:=.tup []) hp
 have hul:=unb_len [] r
 have hal:=L2.allS_len (unb [] r)
 refine ⟨v,r,p,[],rfl,hv.mono (same_tups' s1),hfit,by omega,hh,upd_same,by decide,fun l H2 hl s2 el=>⟨l,unb [] r,rfl,SqL.of el,by omega,fun st hst=>⟨st,_,rfl,upd_same,by omega,fun o ss ho hp hs=>?_⟩⟩⟩
 have s3:=Same.new (o:=L2.SetH P w st (L2.allS (unb [] r))) hst
 have s4:=(s1.trans s2).trans s3
 exact q o ss _ (s4.free ho) (s4.trans (Same.new ho)) upd_same hs hp
def fo (x:Row):List Str:=match x.2.1 with
 | .var s=>if s∈x.2.2 then [] else [s]
 | _=>[]
mutual
theorem free_walk (n:Nat) (sc:List Str):∀ r:Rl,(walk n sc r).flatMap fo = unb sc r
 | .lit x=>by rw [walk,unb]; rfl
 | .var s=>by rw [walk,unb]; simp [fo]
 | .op d bs ps=>by rw [walk,unb,List.flatMap_cons,free_walks (n + 1) sc bs ps]; rfl
theorem free_walks (n:Nat) (sc bs:List Str):∀ ps:List Rl,(walks n sc bs ps).flatMap fo = unbs sc bs ps
 | []=>by rw [walks,unbs]; rfl
 | [p]=>by rw [walks,unbs]; exact free_walk n (sc ++ bs) p
 | p :: q :: r=>by rw [walks,unbs,List.flatMap_append,free_walk n sc p,free_walks n sc bs (q :: r)]
end
mutual
theorem walk_fit (n:Nat) (sc:List Str):∀ r:Rl,(∃ s,r.Fit s)->∀ x∈walk n sc r,∃ s,x.2.1.Fit s
 | .lit y,h,x,hx=>by rw [walk] at hx; rw [List.mem_singleton.mp hx]; exact h
 | .var y,h,x,hx=>by rw [walk] at hx; rw [List.mem_singleton.mp hx]; exact h
 | .op d bs ps,h,x,hx=>by
  rw [walk] at hx
  rcases List.mem_cons.mp hx with rfl | hx
  ·exact h
  ·obtain ⟨s,h⟩:=h
   rw [Rl.Fit] at h
   exact walks_fit (n + 1) sc bs ps (fits_mem h.2.2.2.2) x hx
theorem walks_fit (n:Nat) (sc bs:List Str):∀ ps:List Rl,(∀ p∈ps,∃ s,p.Fit s)->∀ x∈walks n sc bs ps,∃ s,x.2.1.Fit s
 | [],_,x,hx=>by rw [walks] at hx; cases hx
 | [p],h,x,hx=>by rw [walks] at hx; exact walk_fit n (sc ++ bs) p (h p (by simp)) x hx
 | p :: q :: r,h,x,hx=>by
  rw [walks] at hx
  rcases List.mem_append.mp hx with hx | hx
  ·exact walk_fit n sc p (h p (by simp)) x hx
  ·exact walks_fit n sc bs (q :: r) (fun z hz=>h z (List.mem_cons_of_mem _ hz)) x hx
end
def abcL:Str:=Str.ofString "abcdefghijklmnopqrstuvwxyz"
def Vr (z:Str):Prop:=1<=z.length/\z.length<=8/\∀ c∈z.cps.toList,97<=c/\c<=122
theorem abcL_mem (c:Nat) (h:97<=c/\c<=122):c∈abcL.cps.toList:=by
 have e:abcL.cps.toList = (List.range 26).map (· + 97):=by decide +kernel
 rw [e]
 exact List.mem_map.mpr ⟨c - 97,List.mem_range.mpr (by omega),by omega⟩
def spIsVar:Sp:=fun vs H Q _=>∃ z:Str,vs = [.str z]/\Vr z/\∀ H',Same H H'->Q (.bl true) H'
def spGoodV:Sp:=fun vs H Q _=>∃ (a:Addr) (bs:List Str),vs = [.ref a]/\H a = some (.tup (bs.map V.str))/\(∀ z∈bs,Vr z)/\bs.Nodup/\bs.length<=2/\∀ H',Same H H'->Q (.bl true) H'
theorem sc_is_variable:FnScope ["thing"] ["thing"] (defScope s_is_variable):=⟨rfl,rfl,rfl,by decide +kernel,rfl,by decide +kernel,by decide +kernel⟩
theorem ok_is_variable (F:Fun K "is_variable" "is_variable" s_is_variable f fd) (m_all:mg "all" = none) (m_isi:mg "isinstance" = none) (m_len:mg "len" = none) (m_str:mg "str" = none) (m_MOST_LETTERS:∃ t,mg "MOST_LETTERS" = some (.int 8 t)) (m_LETTERS:∃ t,mg "LETTERS" = some (.str abcL t)):FnOk P w K mg base CX0 (k + 1) f fd ["thing"] (spIsVar):=by
 refine F.okQ sc_is_variable (fun vs H Q E h=>?_) (fun cdv A outer s H vs Q E hr h=>?_)
 ·obtain ⟨z,rfl,_⟩:=h
  rfl
 obtain ⟨z,rfl,hz,q⟩:=h
 refine ⟨_,(pss_cons (ps_if (PW.pt (pw_or (pt_not (pt_val (pe_callB call_isi rfl m_isi boot_isi (pa_cons (pv 0) (pa_cons (pe_ty rfl m_str boot_strT) pa_nil))))) (pw_or1 (pt_not (pt_chain op_le op_le pe_int (pe_callB call_len rfl m_len PySem.boot_len (pa_cons (pv 0) pa_nil)) (pe_globI rfl m_MOST_LETTERS)))))) (pss_one (ps_ret pe_bl)) pss_nil)
  (pss_one (ps_ret (pe_callB (call_all_bools rfl) rfl m_all boot_allB (pa_cons (pe_lcomp [] [] rfl rfl (by decide +kernel) rfl (by decide +kernel) rfl (by decide +kernel) trivial rfl trivial (pi_str (pv 0)) (fun C s H fp=>⟨pifs_nil,(pe_cmpR op_in_str (pv 0) (pe_globS rfl m_LETTERS) (by rfl))⟩)) pa_nil))))),?_⟩
 have h1:=hz.1
 have h2:=hz.2.1
 refine ⟨_,rfl,_,_,_,_,rfl,.str z,isi_ss,_,rfl,iteF ?_⟩
 refine ⟨_,rfl,_,_,rfl,⟨small (by omega),rfl⟩,_,_,rfl,rfl,_,rfl,?_⟩
 rw [decide_eq_true (show (1:Int)<=(z.length:Int) by omega)]
 refine iteT ⟨_,_,rfl,rfl,_,rfl,?_⟩
 rw [decide_eq_true (show (z.length:Int)<=8 by omega)]
 refine iteF ?_
 have hsz:z.cps.size = z.length:=rfl
 dsimp only [tNext,tRet,tOp,tC,tCB,tCons,tNil]
 refine rd_mapS (z.cps.toList.map fun c=>V.bl true) (by rfl) (by rw [List.length_map]; simp) (by rw [hsz]; exact small (by omega)) (fun i c y H1 R hc hy s1 hR=>?_) (fun H1 D s1 hD=>?_)
 ·have hc':z.cps.toList[i]? = some c:=by simpa using hc
  rw [List.getElem?_map,hc'] at hy
  cases hy
  refine ⟨_,rfl,_,_,rfl,rfl,?_⟩
  rw [show (!(Builtin.Str.occurrences abcL ⟨#[c]⟩ 0 abcL.length 1).isEmpty) = decide (c∈abcL.cps.toList) from StrLaws.found_one abcL c,decide_eq_true (abcL_mem c (hz.2.2 c (List.mem_of_getElem? hc')))]
  exact hR _ (Same.refl _)
 ·refine ⟨D,z.cps.toList.map fun _=>true,rfl,SqL.of ?_,?_⟩
  ·rw [upd_same,List.map_map]; rfl
  ·rw [show ((z.cps.toList.map fun _=>true).all id) = true by simp]
   exact q _ (s1.trans (Same.new hD))
theorem sc_are_good_variables:FnScope ["names"] ["names"] (defScope s_are_good_variables):=⟨rfl,rfl,rfl,by decide +kernel,rfl,by decide +kernel,by decide +kernel⟩
theorem ok_are_good_variables (F:Fun K "are_good_variables" "are_good_variables" s_are_good_variables f fd) (G_is_variable:Have P w K mg base "is_variable" k ["thing"] (spIsVar)) (m_all:mg "all" = none) (m_len:mg "len" = none):FnOk P w K mg base CX0 (k + 1) f fd ["names"] (spGoodV):=by
 refine F.okQ sc_are_good_variables (fun vs H Q E h=>?_) (fun cdv A outer s H vs Q E hr h=>?_)
 ·obtain ⟨a,bs,rfl,_⟩:=h
  rfl
 obtain ⟨a,bs,rfl,ha,hv,hnd,hl,q⟩:=h
 refine ⟨_,(pss_cons (ps_if (pt_not (pt_val (pe_callB (call_all_bools rfl) rfl m_all boot_allB (pa_cons (pe_lcomp [] [] rfl rfl (by decide +kernel) rfl (by decide +kernel) rfl (by decide +kernel) trivial rfl trivial (pi_tup (pv 0)) (fun C s H fp=>⟨pifs_nil,(pe_fn G_is_variable hr rfl (pa_cons (pv 0) pa_nil))⟩)) pa_nil)))) (pss_one (ps_ret pe_bl)) pss_nil)
  (pss_one (ps_ret (pe_or (pe_cmpR op_lt (pe_callB call_len rfl m_len PySem.boot_len (pa_cons (pv 0) pa_nil)) pe_int (nomark _)) (pe_one (pe_cmpR op_ne (pe_ix ix_tup (pv 0) pe_int (fun _ _=>rfl)) (pe_ix ix_tup (pv 0) pe_int (fun _ _=>rfl)) (nomark _))))))),?_⟩
 dsimp only [tNext,tRet,tOp,tC,tCB,tCons,tNil,tB,tNot,tIfS,tSeq]
 refine rd_mapT (K:=K) (bs.map fun _=>V.bl true) (by rfl) (SqT.of ha) (by rw [List.length_map,List.length_map]) (Nat.le_trans (show (bs.map V.str).length<=2 by rw [List.length_map]; exact hl) (by decide)) (fun i v y H1 R hv' hy s1 hR=>?_) (fun H1 D s1 hD=>?_)
 ·rw [List.getElem?_map] at hv' hy
  obtain ⟨z,hz,rfl⟩:=Option.map_eq_some_iff.mp hv'
  rw [hz] at hy
  cases hy
  exact ⟨_,rfl,z,rfl,hv z (List.mem_of_getElem? hz),fun H2 s2=>hR H2 s2⟩
 ·have s2:=s1.trans (Same.new (o:=.lst (bs.map fun _=>V.bl true)) hD)
  refine ⟨D,bs.map fun _=>true,rfl,SqL.of (by rw [upd_same,List.map_map]; rfl),_,rfl,?_⟩
  rw [show ((bs.map fun _=>true).all id) = true by simp]
  refine iteF ⟨_,rfl,_,_,rfl,.inr ⟨_,SqT.of (s2 _ _ ha),rfl⟩,_,_,rfl,rfl,_,rfl,?_⟩
  rw [List.length_map]
  match bs,hnd,hl with
  | [],_,_=>exact iteT (q _ s2)
  | [x],_,_=>exact iteT (q _ s2)
  | [x,y],hnd,_=>
   have hxy:x≠y:=fun z=>by subst z; simp at hnd
   refine iteF ⟨_,rfl,a,_,0,_,rfl,rfl,SqT.of (s2 _ _ ha),atI_nat (j:=0) rfl,_,rfl,a,_,1,_,rfl,rfl,SqT.of (s2 _ _ ha),atI_nat (j:=1) rfl,rfl,?_⟩
   rw [show decide (V.str x = V.str y) = false from decide_eq_false fun z=>hxy (V.str.inj z)]
   exact q _ s2
mutual
theorem fits_ok:∀ x:W,x.Ok->fitsW x = true
 | .num i,h=>decide_eq_true ⟨h.1,h.2⟩
 | .txt z,h=>decide_eq_true h.1
 | .lst ws,h=>by
  have h1:ws.length<=60:=h.1
  have h2:Oks ws:=h.2
  simp only [fitsW,decide_eq_true h1,fitss_ok ws h2,Bool.and_self]
theorem fitss_ok:∀ ws:List W,Oks ws->fitsWs ws = true
 | [],_=>rfl
 | x :: r,h=>by simp only [fitsWs,fits_ok x h.1,fitss_ok r h.2,Bool.and_self]
end
theorem good_ok {x:W} (h:x.Ok) (hs:x.size<=1000) (hd:x.depth<=12):goodW x = true:=by
 unfold goodW
 rw [fits_ok x h,decide_eq_true hs,decide_eq_true (show (x.depth:Int)<=12 by omega)]
 rfl
def pcnt:Wo->Nat
 | .letw=>2
 | .ifw=>3
 | .over=>3
 | .count=>1
 | .figs=>1
 | .look=>1
 | .cry=>1
 | .lit=>0
 | .var=>0
 | .list=>0
 | _=>2
theorem kvsP_get (d:Wo) (h1:wLit d = false) (h2:wVar d = false) (h3:wList d = false):valV kvsP (.inr (woS d)) = some (.int (pcnt d)):=by
 cases d
 case lit=>simp [wLit] at h1
 case var=>simp [wVar] at h2
 case list=>simp [wList] at h3
 all_goals rfl
def Rl.Gd1:Rl->Prop
 | .lit x=>x.Ok/\x.size<=1000/\x.depth<=12
 | .var s=>Vr s
 | .op d bs ps=>wLit d = false/\wVar d = false/\bs.length = bcnt d/\(∀ z∈bs,Vr z)/\bs.Nodup/\(wList d = true->ps.length<=8)/\(wList d = false->ps.length = pcnt d)
def spHasForm:Sp:=fun vs H Q _=>∃ (v:V) (r:Rl),vs = [v]/\RW H v r.toW/\r.Gd1/\r.toW.depth < 50/\∀ H',Same H H'->Q (.bl true) H'
theorem eqW_nil (r:Rl):eqW r.toW (.lst []) = false:=by
 cases r <;> rw [Rl.toW] <;> rfl
theorem sc_has_form:FnScope ["thing","word"] ["thing"] (defScope s_has_form):=⟨rfl,rfl,rfl,by decide +kernel,rfl,by decide +kernel,by decide +kernel⟩
theorem ok_has_form (F:Fun K "has_form" "has_form" s_has_form f fd) (G_are_good_variables:Have P w K mg base "are_good_variables" k ["names"] (spGoodV)) (G_variables_of:Have P w K mg base "variables_of" k ["expression"] (spVarsOf)) (G_binding_count:Have P w K mg base "binding_count" k ["word"] (spBCount)) (G_is_variable:Have P w K mg base "is_variable" k ["thing"] (spIsVar)) (G_is_worth:Have P w K mg base "is_worth" k ["thing"] (spIsWorth)) (m_isi:mg "isinstance" = none) (m_len:mg "len" = none) (m_str:mg "str" = none) (m_tuple:mg "tuple" = none) (m_MOST_LISTED:∃ t,mg "MOST_LISTED" = some (.int 8 t)) {g_PARTS:Addr} (m_PARTS:mg "PARTS" = some (.ref g_PARTS)) (d_PARTS:MD P w K g_PARTS kvsP):FnOk P w K mg base CX0 (k + 1) f fd ["thing"] (spHasForm):=by
 refine F.okQ sc_has_form (fun vs H Q E h=>?_) (fun cdv A outer s H vs Q E hr h=>?_)
 ·obtain ⟨v,r,rfl,_⟩:=h
  rfl
 obtain ⟨v,r,rfl,hv,hg,hd,q⟩:=h
 refine ⟨_,(pss_cons (ps_if (PW.pt (pw_or (pt_not (pt_val (pe_callB call_isi rfl m_isi boot_isi (pa_cons (pv 0) (pa_cons (pe_ty rfl m_tuple boot_tupleT) pa_nil))))) (pw_or (pt_cmpR (op_eqW hr.units) (pv 0) (pe_tup pa_nil) (nomark _)) (pw_or1 (pt_not (pt_val (pe_callB call_isi rfl m_isi boot_isi (pa_cons (pe_ix ix_tup (pv 0) pe_int (fun _ _=>rfl)) (pa_cons (pe_ty rfl m_str boot_strT) pa_nil))))))))) (pss_one (ps_ret pe_bl)) pss_nil)
  (pss_cons (ps_set (i:=1) sc_has_form.nd rfl (Or.inl rfl) (pe_ix ix_tup (pv 0) pe_int (fun _ _=>rfl)))
  (pss_cons (ps_if (pt_cmpR op_eq (pv 1) pe_str (nomark _)) (pss_one (ps_ret (pe_and (pe_cmpR op_eq (pe_callB call_len rfl m_len PySem.boot_len (pa_cons (pv 0) pa_nil)) pe_int (nomark _)) (pe_one (pe_fn G_is_worth hr rfl (pa_cons (pe_ix ix_tup (pv 0) pe_int (fun _ _=>rfl)) pa_nil)))))) pss_nil)
  (pss_cons (ps_if (pt_cmpR op_eq (pv 1) pe_str (nomark _)) (pss_one (ps_ret (pe_and (pe_cmpR op_eq (pe_callB call_len rfl m_len PySem.boot_len (pa_cons (pv 0) pa_nil)) pe_int (nomark _)) (pe_one (pe_fn G_is_variable hr rfl (pa_cons (pe_ix ix_tup (pv 0) pe_int (fun _ _=>rfl)) pa_nil)))))) pss_nil)
  (pss_cons (ps_if (pt_cmpR op_eq (pv 1) pe_str (nomark _)) (pss_one (ps_ret (pe_cmpR op_le (pe_callB call_len rfl m_len PySem.boot_len (pa_cons (pv 0) pa_nil)) (pe_op op_add pe_int (pe_globI rfl m_MOST_LISTED)) (nomark _)))) pss_nil)
  (pss_cons (ps_if (PW.pt (pw_or (pt_cmpR op_notInM (pv 1) (pe_glob (v:=.ref g_PARTS) rfl m_PARTS rfl) (by rfl)) (pw_or1 (pt_cmpR op_ne (pe_callB call_len rfl m_len PySem.boot_len (pa_cons (pv 0) pa_nil)) (pe_op op_add (pe_op op_add pe_int (pe_fn G_binding_count hr rfl (pa_cons (pv 1) pa_nil))) (pe_ix ix_mod (pe_glob (v:=.ref g_PARTS) rfl m_PARTS rfl) (pv 1) (fun _ _=>rfl))) (nomark _))))) (pss_one (ps_ret pe_bl)) pss_nil)
  (pss_one (ps_ret (pe_fn G_are_good_variables hr rfl (pa_cons (pe_fn G_variables_of hr rfl (pa_cons (pv 0) pa_nil)) pa_nil)))))))))),?_⟩
 obtain ⟨a,us,rfl,ea,ho⟩:=opn hv
 have h0:us[0]? = some (.str (woS (rlW r))):=ho.head
 refine ⟨_,rfl,_,_,_,_,rfl,.tup ea,isi_tt,_,rfl,iteF ?_⟩
 refine ⟨_,rfl,zl0,fun e he=>?_⟩
 have s1:=Same.new (o:=.tup []) he
 have ea1:=s1 _ _ ea
 refine ⟨r.toW,.lst [],hv.mono (same_tups' s1),.lst upd_same rfl (fun i v w e=>by simp at e),hd,_,rfl,?_⟩
 rw [eqW_nil]
 refine iteF ⟨_,rfl,a,_,0,_,rfl,rfl,SqT.of ea1,atI_nat (j:=0) h0,_,_,_,_,rfl,.str _,isi_ss,_,rfl,iteF ?_⟩
 refine ⟨_,rfl,a,_,0,_,rfl,rfl,SqT.of ea1,atI_nat (j:=0) h0,?_⟩
 refine ⟨_,rfl,rfl,_,rfl,?_⟩
 rw [show Str.ofString "lit" = "lit" from rfl,eqLit]
 cases ho with
 | lit hx=>
  rename_i x vx
  refine iteT ⟨_,rfl,_,_,rfl,.inr ⟨_,SqT.of ea1,rfl⟩,rfl,_,rfl,iteT ?_⟩
  have hok:=th_of x hg.1
  refine ⟨_,rfl,a,_,1,_,rfl,rfl,SqT.of ea1,rfl,vx,x.toT,rfl,(hx.mono (same_tups' s1)).toRT,sm_toT x hok,fun H2 s2=>?_⟩
  rw [isWorth_toT hok,good_ok hg.1 hg.2.1 hg.2.2]
  exact q _ (s1.trans s2)
 | var=>
  rename_i z
  refine iteF ⟨_,rfl,rfl,_,rfl,?_⟩
  rw [show Str.ofString "var" = "var" from rfl,eqVar]
  refine iteT ⟨_,rfl,_,_,rfl,.inr ⟨_,SqT.of ea1,rfl⟩,rfl,_,rfl,iteT ?_⟩
  exact ⟨_,rfl,a,_,1,_,rfl,rfl,SqT.of ea1,rfl,z,rfl,hg,fun H2 s2=>q _ (s1.trans s2)⟩
 | op hvs=>
  rename_i d bs ps vs
  obtain ⟨g1,g2,g3,g4,g5,g6,g7⟩:=hg
  have hl:=hvs.len
  rw [rlWs_len] at hl
  have hlen:(V.str (woS d) :: (bs.map V.str ++ vs)).length = 1 + bcnt d + ps.length:=by rw [List.length_cons,List.length_append,List.length_map,hl,g3]; omega
  show if wLit d = true then _ else _
  rw [g1]
  refine iteF ⟨_,rfl,rfl,_,rfl,?_⟩
  rw [show Str.ofString "var" = "var" from rfl,eqVar]
  show if wVar d = true then _ else _
  rw [g2]
  refine iteF ⟨_,rfl,rfl,_,rfl,?_⟩
  rw [show Str.ofString "list" = "list" from rfl,eqList]
  show if wList d = true then _ else _
  cases hli:wList d with
  | true=>
   have h8:=g6 hli
   have hb0:bcnt d = 0:=by cases d <;> first | rfl | (simp [wList] at hli; done)
   refine iteT ⟨_,rfl,_,_,rfl,.inr ⟨_,SqT.of ea1,rfl⟩,_,_,rfl,rfl,_,_,rfl,rfl,?_⟩
   show Q (V.bl (decide ((((V.str (woS d) :: (bs.map V.str ++ vs)).length:Nat):Int)<=1 + 8))) _
   rw [decide_eq_true (by omega)]
   exact q _ s1
  | false=>
   have hp:=g7 hli
   refine iteF ⟨_,rfl,g_PARTS,kvsP,.inr (woS d),rfl,rfl,d_PARTS,_,rfl,?_⟩
   rw [kvsP_get d g1 g2 hli]
   refine iteF ⟨_,rfl,_,_,rfl,.inr ⟨_,SqT.of ea1,rfl⟩,?_⟩
   refine ⟨_,rfl,d,rfl,_,_,rfl,rfl,_,rfl,g_PARTS,kvsP,.inr (woS d),_,rfl,rfl,d_PARTS,kvsP_get d g1 g2 hli,_,_,rfl,rfl,rfl,_,rfl,?_⟩
   have en:(!decide (V.int (((V.str (woS d) :: (bs.map V.str ++ vs)).length:Nat):Int) = V.int (1 + (bcnt d:Int) + (pcnt d:Int)))) = false:=by rw [decide_eq_true (congrArg V.int (by rw [hlen]; omega))]; rfl
   show if (!decide (V.int (((V.str (woS d) :: (bs.map V.str ++ vs)).length:Nat):Int) = V.int (1 + (bcnt d:Int) + (pcnt d:Int)))) = true then _ else _
   rw [en]
   refine iteF ?_
   exact ⟨_,rfl,a,d,bs.map V.str,vs,rfl,ea1,by rw [List.length_map]; exact g3,fun p H2 s2 ep=>⟨p,bs,rfl,ep,g4,g5,by rw [g3]; exact bcnt_le d,fun H3 s3=>q _ (s1.trans (s2.trans s3))⟩⟩
end
end D
namespace L2
open PySem
theorem rd_drawR {fr:List Nat}{te:TE}{σ:St}{H:Hp}{F:Addr->Hp->List V->Prop}{n:Int} (Pv:Nat->List V->Hp->Prop) (h0:Pv 0 [] H) (hlen:∀ i us H1,Pv i us H1->us.length = i) (hn:n.toNat<=1000000)
  (step:∀ (i:Nat) (us:List V) (H1:Hp) (R:VK),i < n.toNat->Pv i us H1->(∀ y H2,Pv (i + 1) (us ++ [y]) H2->R y H2)->te (some (.int (0 + (i:Int))) :: frees fr σ) H1 R)
  (fin:∀ (us:List V) (H1:Hp) (D:Addr),Pv n.toNat us H1->H1 D = none->F D H1 us):
  ∃ W:Nat->Nat->List V->Hp->Prop,(∃ m,W 0 m [] H)/\∀ i m us H,W i m us H->us.length<=sizeLine /\
   (((Itr 0 n.toNat).stop i H/\∀ D,H D = none->F D H us) \/
    ((Itr 0 n.toNat).go i H/\∀ v H',(Itr 0 n.toNat).yld i H v H'->if true = true then te (some v :: frees fr σ) H' fun y H3=>∃ m',m' < m/\W (i + 1) m' (us ++ [y]) H3 else ∃ m',m' < m/\W (i + 1) m' us H')):=by
 refine ⟨fun i m us H1=>i<=n.toNat/\m = n.toNat - i/\Pv i us H1,⟨_,Nat.zero_le _,rfl,h0⟩,fun i m us H1 hW=>?_⟩
 obtain ⟨hi,hm,hu⟩:=hW
 have hz:(1000000:Nat)<=sizeLine:=by decide
 refine ⟨by rw [hlen _ _ _ hu]; omega,?_⟩
 by_cases hlt:i < n.toNat
 ·refine .inr ⟨hlt,fun v H' hy=>?_⟩
  obtain ⟨rfl,rfl⟩:=hy
  refine iteT ?_
  exact step i us H' _ hlt hu fun y H2 p2=>⟨n.toNat - (i + 1),by omega,by omega,rfl,p2⟩
 ·have e:i = n.toNat:=by omega
  subst e
  exact .inl ⟨Nat.le_refl _,fun D hD=>fin us H1 D hu hD⟩
theorem rd_drawL {K:PySem.W.Frag}{fr:List Nat}{te:TE}{σ:St}{H:Hp}{F:Addr->Hp->List V->Prop}{a:Addr}{vs:List V} (Pv:Nat->List V->Hp->Prop) (hz:vs.length<=sizeLine) (h0:Pv 0 [] H) (hlen:∀ i us H1,Pv i us H1->us.length = i) (hS:∀ i us H1,Pv i us H1->SqL K H1 a vs)
  (step:∀ (i:Nat) (v:V) (us:List V) (H1:Hp) (R:VK),vs[i]? = some v->Pv i us H1->(∀ y H2,Pv (i + 1) (us ++ [y]) H2->R y H2)->te (some v :: frees fr σ) H1 R)
  (fin:∀ (us:List V) (H1:Hp) (D:Addr),Pv vs.length us H1->H1 D = none->F D H1 us):
  ∃ W:Nat->Nat->List V->Hp->Prop,(∃ m,W 0 m [] H)/\∀ i m vs H,W i m vs H->vs.length<=sizeLine /\
   (((Itl K a).stop i H/\∀ D,H D = none->F D H vs) \/
    ((Itl K a).go i H/\∀ v H',(Itl K a).yld i H v H'->if true = true then te (some v :: frees fr σ) H' fun y H3=>∃ m',m' < m/\W (i + 1) m' (vs ++ [y]) H3 else ∃ m',m' < m/\W (i + 1) m' vs H')):=by
 refine ⟨fun i m us H1=>i<=vs.length/\m = vs.length - i/\Pv i us H1,⟨_,Nat.zero_le _,rfl,h0⟩,fun i m us H1 hW=>?_⟩
 obtain ⟨hi,hm,hu⟩:=hW
 have sq:=hS _ _ _ hu
 refine ⟨by rw [hlen _ _ _ hu]; omega,?_⟩
 by_cases hlt:i < vs.length
 ·refine .inr ⟨⟨vs,vs[i],sq,List.getElem?_eq_getElem hlt⟩,fun v H' hy=>?_⟩
  obtain ⟨rfl,hv⟩:=hy
  have hv:=hv vs sq
  refine iteT ?_
  exact step i v us H' _ hv hu fun y H2 p2=>⟨vs.length - (i + 1),by omega,by omega,rfl,p2⟩
 ·have e:i = vs.length:=by omega
  subst e
  exact .inl ⟨⟨vs,sq,by omega⟩,fun D hD=>fin us H1 D hu hD⟩
end L2
namespace D
open PySem L2
mutual
def Rl.Gd:Rl->Prop
 | .lit x=>(Rl.lit x).Gd1
 | .var s=>(Rl.var s).Gd1
 | .op d bs ps=>(Rl.op d bs ps).Gd1/\Gds ps
def Gds:List Rl->Prop
 | []=>True
 | p :: r=>p.Gd/\Gds r
end
theorem Gds.mem:∀ {ps:List Rl},Gds ps->∀ p∈ps,p.Gd
 | q :: r,h,p,hp=>by
  rw [Gds] at h
  rcases List.mem_cons.mp hp with rfl | hp
  ·exact h.1
  ·exact Gds.mem h.2 p hp
theorem Rl.Gd.one {r:Rl} (h:r.Gd):r.Gd1:=by
 cases r with
 | lit x=>rw [Rl.Gd] at h; exact h
 | var s=>rw [Rl.Gd] at h; exact h
 | op d bs ps=>rw [Rl.Gd] at h; exact h.1
theorem Rl.Gd.kids {r:Rl} (h:r.Gd):∀ p∈kidsOf r,p.Gd:=by
 cases r with
 | lit x=>intro p hp; cases hp
 | var s=>intro p hp; cases hp
 | op d bs ps=>rw [Rl.Gd] at h; exact h.2.mem
theorem rlWs_mem:∀ {ps:List Rl}{p:Rl},p∈ps->p.toW∈rlWs ps
 | q :: r,p,h=>by
  rw [rlWs]
  rcases List.mem_cons.mp h with rfl | h
  ·exact List.mem_cons_self ..
  ·exact List.mem_cons_of_mem _ (rlWs_mem h)
theorem kid_depth {r p:Rl} (h:p∈kidsOf r):p.toW.depth<=r.toW.depth:=by
 cases r with
 | lit x=>cases h
 | var s=>cases h
 | op d bs ps=>
  have h1:=depths_mem (ws:=W.txt (woS d) :: (bs.map W.txt ++ rlWs ps)) p.toW (List.mem_cons_of_mem _ (List.mem_append_right _ (rlWs_mem h)))
  rw [Rl.toW,W.depth]
  omega
structure SkR (H:Hp) (vs:List V) (ps:List (Rl × Nat)):Prop where
 len:vs.length = ps.length
 at':∀ (i:Nat) (v:V) (p:Rl × Nat),vs[i]? = some v->ps[i]? = some p->∃ (a:Addr) (u:V),v = .ref a/\H a = some (.tup [u,.int p.2])/\RW H u p.1.toW
theorem SkR.mono {H H':Hp} (s:Tups H H') {vs:List V}{ps:List (Rl × Nat)} (h:SkR H vs ps):SkR H' vs ps:=
 ⟨h.len,fun i v p e1 e2=>let ⟨a,u,x,y,z⟩:=h.at' i v p e1 e2; ⟨a,u,x,s _ _ y,z.mono s⟩⟩
theorem SkR.nil {H:Hp}:SkR H [] []:=⟨rfl,fun i v p e=>by simp at e⟩
theorem SkR.app {H:Hp}{vs us:List V}{ps qs:List (Rl × Nat)} (h:SkR H vs ps) (g:SkR H us qs):SkR H (vs ++ us) (ps ++ qs):=by
 refine ⟨by rw [List.length_append,List.length_append,h.len,g.len],fun i v p e1 e2=>?_⟩
 by_cases hi:i < vs.length
 ·rw [List.getElem?_append_left hi] at e1
  rw [List.getElem?_append_left (h.len ▸ hi)] at e2
  exact h.at' i v p e1 e2
 ·rw [List.getElem?_append_right (by omega)] at e1
  rw [List.getElem?_append_right (by have:=h.len; omega)] at e2
  rw [h.len] at e1
  exact g.at' _ v p e1 e2
theorem SkR.one {H:Hp}{a:Addr}{u:V}{p:Rl × Nat} (e:H a = some (.tup [u,.int p.2])) (r:RW H u p.1.toW):SkR H [.ref a] [p]:=by
 refine ⟨rfl,fun i v' p' e1 e2=>?_⟩
 cases i with
 | zero=>
  have q1:V.ref a = v':=by simpa using e1
  have q2:p = p':=by simpa using e2
  subst q1 q2
  exact ⟨a,u,rfl,e,r⟩
 | succ j=>simp at e1
theorem SkR.front {H:Hp}{vs:List V}{ps:List (Rl × Nat)}{v:V}{p:Rl × Nat} (h:SkR H (vs ++ [v]) (ps ++ [p])):SkR H vs ps/\∃ (a:Addr) (u:V),v = .ref a/\H a = some (.tup [u,.int p.2])/\RW H u p.1.toW:=by
 have l:=h.len
 rw [List.length_append,List.length_append] at l
 have l':vs.length = ps.length:=by simpa using l
 refine ⟨⟨l',fun i v' p' e1 e2=>?_⟩,?_⟩
 ·have h1:=(List.getElem?_eq_some_iff.mp e1).1
  exact h.at' i v' p' (by rw [List.getElem?_append_left h1]; exact e1) (by rw [List.getElem?_append_left (l' ▸ h1)]; exact e2)
 ·exact h.at' vs.length v p (by rw [List.getElem?_append_right (Nat.le_refl _)]; simp) (by rw [l',List.getElem?_append_right (Nat.le_refl _)]; simp)
def mnR:List (Rl × Nat)->Nat
 | []=>0
 | p :: r=>p.1.many + mnR r
theorem mnR_app (a b:List (Rl × Nat)):mnR (a ++ b) = mnR a + mnR b:=by
 induction a with
 | nil=>simp [mnR]
 | cons p r ih=>simp only [List.cons_append,mnR,ih]; omega
theorem mnR_map (ps:List Rl) (n:Nat):mnR (ps.map fun p=>(p,n)) = manys ps:=by
 induction ps with
 | nil=>simp [mnR,manys]
 | cons p r ih=>simp only [List.map_cons,mnR,manys,ih]
theorem mnR_len:∀ ps:List (Rl × Nat),ps.length<=mnR ps
 | []=>by simp [mnR]
 | p :: r=>by
  have h1:=mnR_len r
  have h2:1<=p.1.many:=by rw [many_eq]; omega
  simp only [mnR,List.length_cons]
  omega
def Wt (p:Rl × Nat):Prop:=(∃ sc,p.1.Fit sc)/\p.1.Gd/\p.1.toW.depth < 50/\p.2 + p.1.high<=12
theorem Wt.kids {r:Rl}{n:Nat} (h:Wt (r,n)):∀ p∈kidsOf r,Wt (p,n + 1):=fun p hp=>by
 obtain ⟨h1,h2,h3,h4⟩:=h
 have d1:=kid_depth hp
 have d2:=high_mem hp
 have d3:=high_eq r
 have h3':r.toW.depth < 50:=h3
 have h4':n + r.high<=12:=h4
 exact ⟨fit_kids h1 p hp,h2.kids p hp,(by show p.toW.depth < 50; omega),(by show n + 1 + p.high<=12; omega)⟩
def spFormed:Sp:=fun vs H Q _=>∃ (v:V) (r:Rl),vs = [v]/\RW H v r.toW/\Wt (r,0)/\r.many<=60/\∀ H',Same H H'->Q (.bl true) H'
section
variable {P:Program}{w:World}{K:PySem.W.Frag}{mg:Str->Option Value}{base:Heap}{f:Addr}{fd:FuncData}{k n:Nat}{AHouse APlainLooks AMaker:Addr}
theorem sc_is_formed:FnScope ["thing","waiting","whole","pair","expression","level"] ["thing"] (defScope s_is_formed):=⟨rfl,rfl,rfl,by decide +kernel,rfl,by decide +kernel,by decide +kernel⟩
theorem ok_is_formed (F:Fun K "is_formed" "is_formed" s_is_formed f fd) (G_parts_of:Have P w K mg base "parts_of" k ["expression"] (spPartsOf)) (G_has_form:Have P w K mg base "has_form" k ["thing"] (spHasForm)) (m_len:mg "len" = none) (m_MOST_MANY:∃ t,mg "MOST_MANY" = some (.int 60 t)) (m_MOST_NESTING:∃ t,mg "MOST_NESTING" = some (.int 12 t)):FnOk P w K mg base CX0 (k + 1) f fd ["thing"] (spFormed):=by
 refine F.okQ sc_is_formed (fun vs H Q E h=>?_) (fun cdv A outer s H vs Q E hr h=>?_)
 ·obtain ⟨v,r,rfl,_⟩:=h
  rfl
 obtain ⟨v,r,rfl,hv,hwt,hmn,q⟩:=h
 refine ⟨_,(pss_cons (ps_set (i:=1) sc_is_formed.nd rfl (Or.inl rfl) (pe_lst (pa_cons (pe_tup (pa_cons (pv 0) (pa_cons pe_int pa_nil))) pa_nil)))
  (pss_cons (ps_set (i:=2) sc_is_formed.nd rfl (Or.inl rfl) pe_int)
  (pss_cons (ps_while PassesOwn.never (pt_cmpR op_gt (pe_callB call_len rfl m_len PySem.boot_len (pa_cons (pv 1) pa_nil)) pe_int (nomark _)) (pss_cons (ps_set (i:=3) sc_is_formed.nd rfl (Or.inl rfl) (pe_bm0 PySem.F.plainAttrs_list PySem.F.slot_list_pop PySem.F.type_list_pop mt_pop (pv 1)))
  (pss_cons (ps_set (i:=4) sc_is_formed.nd rfl (Or.inl rfl) (pe_ix ix_tup (pv 3) pe_int (fun _ _=>rfl)))
  (pss_cons (ps_set (i:=5) sc_is_formed.nd rfl (Or.inr rfl) (pe_ix ix_tup (pv 3) pe_int (fun _ _=>rfl)))
  (pss_cons (ps_aug (i:=2) sc_is_formed.nd rfl (Or.inl rfl) pe_int (ip_of iop_add))
  (pss_cons (ps_if (PW.pt (pw_or (pt_cmpR op_gt (pv 2) (pe_globI rfl m_MOST_MANY) (nomark _)) (pw_or (pt_cmpR op_gt (pv 5) (pe_globI rfl m_MOST_NESTING) (nomark _)) (pw_or1 (pt_not (pt_val (pe_fn G_has_form hr rfl (pa_cons (pv 4) pa_nil)))))))) (pss_one (ps_ret pe_bl)) pss_nil)
  (pss_one (ps_expr (pe_bm PySem.F.plainAttrs_list PySem.F.slot_list_extend PySem.F.type_list_extend mt_extend (pv 1) (pa_cons (pe_lcomp [5] ["level"] rfl rfl (by decide +kernel) rfl (by decide +kernel) rfl (by decide +kernel) ⟨rfl,trivial⟩ rfl ⟨⟨rfl,rfl,Or.inr (Or.inl rfl),(by show (some NameKind.cell:Option NameKind)≠some .local; decide),⟨_,rfl⟩⟩,trivial⟩ (pi_list (pe_fn G_parts_of hr rfl (pa_cons (pv 4) pa_nil))) (fun C s H fp=>⟨pifs_nil,(pe_tup (pa_cons (pv 0) (pa_cons (pe_op op_add (pv 1) pe_int) pa_nil)))⟩)) pa_nil))))))))))
  (pss_one (ps_ret pe_bl))))),?_⟩
 refine ⟨_,rfl,zl2,fun a ha=>?_⟩
 refine ⟨zl1,fun l hl=>?_⟩
 have sa:=Same.new (o:=.tup [v,.int 0]) ha
 have sl:=Same.new (o:=.lst [.ref a]) hl
 have s1:=sa.trans sl
 have hlH:H l = none:=sa.free hl
 refine ⟨fun m σ' H'=>∃ (vs:List V) (ps:List (Rl × Nat)) (whole:Int) (o3 o4 o5:Option V),σ' = [some v,some (.ref l),some (.int whole),o3,o4,o5]/\H' l = some (.lst vs)/\SkR H' vs ps/\m = mnR ps/\0<=whole/\whole + mnR ps<=60/\(∀ p∈ps,Wt p)/\Same H H',
  ⟨_,[.ref a],[(r,0)],0,none,none,none,rfl,upd_same,SkR.one (p:=(r,0)) (sl _ _ upd_same) (hv.mono (same_tups' s1)),rfl,Int.le_refl _,(by simp only [mnR]; omega),fun p hp=>by rw [List.mem_singleton.mp hp]; exact hwt,s1⟩,fun m σ' H' hW=>?_⟩
 obtain ⟨vs,ps,whole,o3,o4,o5,rfl,hlv,hst,hm,hw0,hw1,hall,sH⟩:=hW
 refine ⟨_,rfl,_,_,rfl,.inl ⟨_,SqL.of hlv,rfl⟩,_,_,rfl,rfl,_,rfl,?_⟩
 refine ite2 (fun c=>?_) (fun c=>?_)
 ·have c1:(0:Int) < vs.length:=of_decide_eq_true c
  refine ⟨_,fun _ _ h=>h,?_⟩
  rcases List.eq_nil_or_concat vs with rfl | ⟨vs',vl,e⟩
  ·simp at c1
  rw [List.concat_eq_append] at e
  subst e
  rcases List.eq_nil_or_concat ps with rfl | ⟨ps',p,e⟩
  ·have:=hst.len; simp at this
  rw [List.concat_eq_append] at e
  subst e
  obtain ⟨hst',ap,u,rfl,hap,rwu⟩:=hst.front
  obtain ⟨r1,n1⟩:=p
  have ed:(vs' ++ [V.ref ap]).dropLast = vs':=List.dropLast_concat
  have wp:Wt (r1,n1):=hall _ (by simp)
  have hmp:mnR (ps' ++ [(r1,n1)]) = mnR ps' + r1.many:=by rw [mnR_app]; simp [mnR]
  have hme:=many_eq r1
  have hml:=many_len (kidsOf r1)
  have hpl:=mnR_len ps'
  have hvl:=hst'.len
  refine ⟨_,rfl,.inl ⟨rfl,_,SqL.of hlv⟩,l,_,.ref ap,rfl,rfl,hlv,by simp,?_⟩
  rw [ed]
  have t1:=tups_put (o:=.lst vs') hlv
  have sH1:Same H (upd H' l (.lst vs')):=same_putD sH hlH
  have hap1:upd H' l (.lst vs') ap = some (.tup [u,.int n1]):=t1 _ _ hap
  have rwu1:RW (upd H' l (.lst vs')) u r1.toW:=RW.mono t1 rwu
  refine ⟨_,rfl,ap,_,0,u,rfl,rfl,SqT.of hap1,rfl,?_⟩
  refine ⟨_,rfl,ap,_,1,.int n1,rfl,rfl,SqT.of hap1,rfl,?_⟩
  refine ⟨_,rfl,_,_,rfl,rfl,?_⟩
  have hh:n1 + r1.high<=12:=wp.2.2.2
  refine ⟨_,rfl,_,_,rfl,rfl,_,rfl,?_⟩
  rw [decide_eq_false (show ¬ (60:Int) < whole + 1 by omega)]
  refine iteF ⟨_,rfl,_,_,rfl,rfl,_,rfl,?_⟩
  rw [decide_eq_false (show ¬ (12:Int) < (n1:Int) by omega)]
  refine iteF ⟨_,rfl,u,r1,rfl,rwu1,wp.2.1.one,wp.2.2.1,fun H2 s2=>⟨_,rfl,iteF ?_⟩⟩
  have sH2:=sH1.trans s2
  have hl2:H2 l = some (.lst vs'):=s2 _ _ upd_same
  refine ⟨_,rfl,.inl ⟨rfl,_,SqL.of hl2⟩,?_⟩
  dsimp only [tCons,tNil]
  refine ⟨_,rfl,u,r1,rfl,RW.mono (same_tups' s2) rwu1,wp.1,by omega,fun lp us H3 hlp s3 elp hus=>⟨lp,rfl,⟨us,SqL.of elp⟩,?_⟩⟩
  have hul:=hus.len
  rw [rlWs_len] at hul
  have s23:=s3
  refine rd_drawL (K:=K) (vs:=us) (fun i xs H4=>Same H3 H4/\xs.length = i/\SkR H4 xs (((kidsOf r1).take i).map fun p=>(p,n1 + 1))) (Nat.le_trans (show us.length<=60 by omega) (by decide)) ⟨Same.refl _,rfl,SkR.nil⟩ (fun i us H4 h=>h.2.1) (fun i us H4 h=>SqL.of (h.1 _ _ elp)) (fun i x xs H4 R hx hP hR=>?_) (fun xs H4 D hP hD=>?_)
  ·obtain ⟨s4,hxl,hsk⟩:=hP
   have hi:i < us.length:=(List.getElem?_eq_some_iff.mp hx).1
   have hki:(kidsOf r1)[i]? = some (kidsOf r1)[i]:=List.getElem?_eq_getElem (by omega)
   refine ⟨_,rfl,_,rfl,_,_,rfl,rfl,zl2,fun a5 ha5=>?_⟩
   have s5:=Same.new (o:=.tup [x,.int ((n1:Int) + 1)]) ha5
   refine hR _ _ ⟨s4.trans s5,by rw [List.length_append,hxl]; rfl,?_⟩
   rw [take_snoc hki,List.map_append]
   exact (hsk.mono (same_tups' s5)).app (SkR.one (p:=((kidsOf r1)[i],n1 + 1)) upd_same (RW.mono (same_tups' (s4.trans s5)) (hus.at' i x _ hx (rlWs_get hki))))
  ·obtain ⟨s4,hxl,hsk⟩:=hP
   have s5:=Same.new (o:=.lst xs) hD
   have sA:=s3.trans (s4.trans s5)
   rw [List.take_of_length_le (by omega)] at hsk
   have hl4:upd H4 D (.lst xs) l = some (.lst vs'):=sA _ _ hl2
   have t6:=tups_put (o:=.lst (vs' ++ xs)) hl4
   refine ⟨l,D,vs',xs,rfl,rfl,hl4,upd_same,Nat.le_trans (show vs'.length + xs.length<=120 by omega) (by decide),?_⟩
   refine ⟨mnR (ps' ++ (kidsOf r1).map fun p=>(p,n1 + 1)),?_,vs' ++ xs,ps' ++ (kidsOf r1).map (fun p=>(p,n1 + 1)),whole + 1,_,_,_,rfl,upd_same,?_,rfl,by omega,?_,?_,?_⟩
   ·rw [mnR_app,mnR_map]; omega
   ·exact (((hst'.mono t1).mono (same_tups' (s2.trans sA))).mono t6).app ((hsk.mono (same_tups' s5)).mono t6)
   ·rw [mnR_app,mnR_map]; omega
   ·intro p hp
    rcases List.mem_append.mp hp with hp | hp
    ·exact hall p (List.mem_append_left _ hp)
    ·obtain ⟨p',hp',rfl⟩:=List.mem_map.mp hp
     exact wp.kids p' hp'
   ·exact same_putD (sH2.trans sA) hlH
 ·exact q _ sH
mutual
def Rl.rep:Rl->Nat
 | .lit _=>0
 | .var _=>0
 | .op d _ ps=>reps (wEO d) ps
def reps (b:Bool):List Rl->Nat
 | []=>0
 | [p]=>p.rep + (if b then 1 else 0)
 | p :: q :: r=>max p.rep (reps b (q :: r))
end
theorem reps_get (b:Bool):∀ (ps:List Rl) (i:Nat) (p:Rl),ps[i]? = some p->p.rep<=reps b ps/\(b = true->i + 1 = ps.length->p.rep + 1<=reps b ps)
 | [q],0,p,h=>by
  cases h
  rw [reps]
  exact ⟨by omega,fun hb _=>by rw [hb]; exact Nat.le_refl _⟩
 | q :: r :: l,0,p,h=>by
  cases h
  rw [reps]
  exact ⟨by omega,fun _ h=>by simp at h⟩
 | q :: r :: l,i + 1,p,h=>by
  have:=reps_get b (r :: l) i p (by simpa using h)
  rw [reps]
  refine ⟨by omega,fun hb hl=>?_⟩
  have:=this.2 hb (by simpa using hl)
  omega
 | [q],i + 1,p,h=>by simp at h
def spRep (n:Nat):Sp:=fun vs H Q _=>∃ (v:V) (r:Rl),vs = [v]/\RW H v r.toW/\(∃ sc,r.Fit sc)/\r.many<=100/\r.high < n/\∀ (d:Nat) (H':Hp),d<=r.rep->Same H H'->Q (.int d) H'
def spIsRule:Sp:=fun vs H Q _=>∃ (v:V) (r:Rl),vs = [v]/\RW H v r.toW/\Wt (r,0)/\r.many<=60/\unb [] r = []/\r.rep<=2/\∀ H',Same H H'->Q (.bl true) H'
theorem sc_repeated:FnScope ["expression","parts","deepest","place","part","is_repeated"] ["expression"] (defScope s_repeated):=⟨rfl,rfl,rfl,by decide +kernel,rfl,by decide +kernel,by decide +kernel⟩
theorem ok_repeated {n:Nat} (F:Fun K "repeated" "repeated" s_repeated f fd) (G_repeated:Have P w K mg base "repeated" k ["expression"] (spRep n)) (G_parts_of:Have P w K mg base "parts_of" k ["expression"] (spPartsOf)) (m_enumerate:mg "enumerate" = none) (m_len:mg "len" = none) (m_max:mg "max" = none) {g_REPEATING:Addr} (m_REPEATING:mg "REPEATING" = some (.ref g_REPEATING)) (t_REPEATING:∀ H:Hp,SqT K H g_REPEATING [.str "each",.str "over"]):FnOk P w K mg base CX0 (k + 1) f fd ["expression"] (spRep (n + 1)):=by
 refine F.okQ sc_repeated (fun vs H Q E h=>?_) (fun cdv A outer s H vs Q E hr h=>?_)
 ·obtain ⟨v,r,rfl,_⟩:=h
  rfl
 obtain ⟨v,r,rfl,hv,hfit,hm,hh,q⟩:=h
 refine ⟨_,(pss_cons (ps_set (i:=1) sc_repeated.nd rfl (Or.inl rfl) (pe_fn G_parts_of hr rfl (pa_cons (pv 0) pa_nil)))
  (pss_cons (ps_set (i:=2) sc_repeated.nd rfl (Or.inl rfl) pe_int)
  (pss_cons (ps_for PassesOwn.never rfl (pi_enum rfl m_enumerate (pa_cons (pv 1) pa_nil)) (pg_tup rfl (pgs_cons (pg_name (i:=3) sc_repeated.nd rfl (Or.inl rfl)) (pgs_cons (pg_name (i:=4) sc_repeated.nd rfl (Or.inl rfl)) pgs_nil))) (pss_cons (ps_set (i:=5) sc_repeated.nd rfl (Or.inl rfl) (pe_and (pe_cmpR op_in_seq (pe_ix ix_tup (pv 0) pe_int (fun _ _=>rfl)) (pe_glob (v:=.ref g_REPEATING) rfl m_REPEATING rfl) (by rfl)) (pe_one (pe_cmpR op_eq (pv 3) (pe_op op_sub (pe_callB call_len rfl m_len PySem.boot_len (pa_cons (pv 1) pa_nil)) pe_int) (nomark _)))))
  (pss_one (ps_set (i:=2) sc_repeated.nd rfl (Or.inl rfl) (pe_callB (call_max2 rfl) rfl m_max PyProof.Rows.boot_max (pa_cons (pv 2) (pa_cons (pe_op op_add (pe_fn G_repeated hr rfl (pa_cons (pv 4) pa_nil)) (pe_ifExp (pt_val (pv 5)) pe_int pe_int)) pa_nil)))))))
  (pss_one (ps_ret (pv 2)))))),?_⟩
 obtain ⟨a,us0,rfl,ea,ho⟩:=opn hv
 have h0:us0[0]? = some (.str (woS (rlW r))):=ho.head
 have hrep:r.rep = reps (wEO (rlW r)) (kidsOf r):=by
  cases r with
  | lit _=>rw [Rl.rep]; rfl
  | var _=>rw [Rl.rep]; rfl
  | op d bs ps=>rw [Rl.rep]; rfl
 refine ⟨_,rfl,.ref a,r,rfl,hv,hfit,hm,fun l us H1 hl s1 el hus=>?_⟩
 have hul:=hus.len
 rw [rlWs_len] at hul
 refine ⟨_,rfl,l,us,rfl,SqL.of el,for_enum (xs:=us) (fun i σ' H'=>∃ (o3 o4 o5:Option V) (d:Nat),σ' = [some (.ref a),some (.ref l),some (.int d),o3,o4,o5]/\Same H1 H'/\d<=r.rep)
  ⟨none,none,none,0,rfl,Same.refl _,Nat.zero_le _⟩ (fun i σ' H' _ h=>?_) (fun i x t σ' H' hx ht h=>?_) (fun σ' H' h=>?_)⟩
 ·obtain ⟨_,_,_,_,_,s2,_⟩:=h
  exact SqL.of (s2 _ _ el)
 ·obtain ⟨o3,o4,o5,d,rfl,s2,hd⟩:=h
  have hi:i < us.length:=(List.getElem?_eq_some_iff.mp hx).1
  have hki:(kidsOf r)[i]? = some (kidsOf r)[i]:=List.getElem?_eq_getElem (by omega)
  have hpm:=List.getElem_mem (show i < (kidsOf r).length by omega)
  have sT:=s2.trans (Same.new (o:=.tup [.int i,x]) ht)
  have h1:=many_mem hpm
  have h2:=high_mem hpm
  have hme:=many_eq r
  have hhe:=high_eq r
  have hrg:=reps_get (wEO (rlW r)) (kidsOf r) i _ hki
  rw [← hrep] at hrg
  refine ⟨t,_,rfl,SqT.of upd_same,rfl,_,_,rfl,_,_,rfl,rfl,?_⟩
  have ea1:=sT _ _ (s1 _ _ ea)
  have rwx:RW (upd H' t (.tup [.int i,x])) x ((kidsOf r)[i]).toW:=RW.mono (same_tups' sT) (hus.at' i x _ hx (rlWs_get hki))
  have go:∀ (b:Bool),(b = true->wEO (rlW r) = true/\i + 1 = (kidsOf r).length)->∀ y:Nat,y<=((kidsOf r)[i]).rep->max d (y + if b then 1 else 0)<=r.rep:=fun b hb y hy=>by
   cases b with
   | false=>simp only [Bool.false_eq_true,if_false]; have:=hrg.1; omega
   | true=>have:=hrg.2 (hb rfl).1 (hb rfl).2; simp only [if_true]; omega
  refine ⟨_,rfl,a,us0,0,_,rfl,rfl,SqT.of ea1,atI_nat (j:=0) h0,g_REPEATING,_,rfl,.inr (t_REPEATING _),rfl,rfl,_,rfl,?_⟩
  show if inV (.str (woS (rlW r))) [.str "each",.str "over"] = true then _ else _
  rw [inEO]
  have fin:∀ (b:Bool) (c:Int) (o:Option V),c = (if b = true then 1 else 0)->(b = true->wEO (rlW r) = true/\i + 1 = (kidsOf r).length)->∀ (y:Nat) (H6:Hp),y<=((kidsOf r)[i]).rep->Same (upd H' t (.tup [.int i,x])) H6->∃ (o3 o4 o5:Option V) (d':Nat),[some (.ref a),some (.ref l),some (.int (if (y:Int) + c > (d:Int) then (y:Int) + c else (d:Int))),some (.int i),some x,o] = [some (.ref a),some (.ref l),some (.int d'),o3,o4,o5]/\Same H1 H6/\d'<=r.rep:=fun b c o hc hb y H6 hy s6=>by
   have hg:=go b hb y hy
   refine ⟨_,_,_,max d (y + if b then 1 else 0),congrArg (fun z=>[some (.ref a),some (.ref l),some (V.int z),some (.int i),some x,o]) ?_,sT.trans s6,hg⟩
   subst hc
   cases b <;> simp only [Bool.false_eq_true,if_false,if_true] <;> split <;> omega
  cases he:wEO (rlW r) with
  | false=>
   refine iteF ⟨_,rfl,_,rfl,x,_,rfl,rwx,fit_kids hfit _ hpm,by omega,by omega,fun y H6 hy s6=>?_⟩
   refine ⟨_,rfl,_,rfl,iteF ⟨_,_,rfl,rfl,_,_,rfl,?_⟩⟩
   exact fin false _ _ rfl (fun z=>nomatch z) y H6 hy s6
  | true=>
   refine iteT ⟨_,rfl,_,rfl,_,_,rfl,.inl ⟨_,SqL.of (sT _ _ el),rfl⟩,_,_,rfl,rfl,rfl,?_⟩
   refine ⟨_,rfl,_,rfl,x,_,rfl,rwx,fit_kids hfit _ hpm,by omega,by omega,fun y H6 hy s6=>?_⟩
   refine ⟨_,rfl,_,rfl,?_⟩
   refine ite2 (fun c=>?_) (fun c=>?_)
   ·have hc:i + 1 = (kidsOf r).length:=by
     have:=of_decide_eq_true c
     injection this with this
     omega
    refine ⟨_,_,rfl,rfl,_,_,rfl,?_⟩
    exact fin true _ _ rfl (fun _=>⟨he,hc⟩) y H6 hy s6
   ·refine ⟨_,_,rfl,rfl,_,_,rfl,?_⟩
    exact fin false _ _ rfl (fun z=>nomatch z) y H6 hy s6
 ·obtain ⟨o3,o4,o5,d,rfl,s2,hd⟩:=h
  exact ⟨_,rfl,q d H' hd (s1.trans s2)⟩
theorem sc_is_rule:FnScope ["thing"] ["thing"] (defScope s_is_rule):=⟨rfl,rfl,rfl,by decide +kernel,rfl,by decide +kernel,by decide +kernel⟩
theorem ok_is_rule (F:Fun K "is_rule" "is_rule" s_is_rule f fd) (G_repeated:Have P w K mg base "repeated" k ["expression"] (spRep 20)) (G_free_in:Have P w K mg base "free_in" k ["expression"] (spFree)) (G_is_formed:Have P w K mg base "is_formed" k ["thing"] (spFormed)) (m_MOST_REPEATED:∃ t,mg "MOST_REPEATED" = some (.int 2 t)):FnOk P w K mg base CX0 (k + 1) f fd ["thing"] (spIsRule):=by
 refine F.okQ sc_is_rule (fun vs H Q E h=>?_) (fun cdv A outer s H vs Q E hr h=>?_)
 ·obtain ⟨v,r,rfl,_⟩:=h
  rfl
 obtain ⟨v,r,rfl,hv,hw,hm,hu,hr',q⟩:=h
 refine ⟨_,(pss_one (ps_ret (pe_and (pe_fn G_is_formed hr rfl (pa_cons (pv 0) pa_nil)) (pe_and (pe_cmpR (op_eqE (Nat.lt_of_le_of_lt (Nat.le_add_right _ 64) hr.units)) (pe_fn G_free_in hr rfl (pa_cons (pv 0) pa_nil)) (pe_lst pa_nil) (nomark _)) (pe_one (pe_cmpR op_le (pe_fn G_repeated hr rfl (pa_cons (pv 0) pa_nil)) (pe_globI rfl m_MOST_REPEATED) (nomark _))))))),?_⟩
 have hh:0 + r.high<=12:=hw.2.2.2
 refine ⟨_,rfl,v,r,rfl,hv,hw,hm,fun H1 s1=>⟨_,rfl,iteT ?_⟩⟩
 refine ⟨_,rfl,v,r,rfl,RW.mono (same_tups' s1) hv,hw.1,by omega,by omega,fun l ss H2 hl s2 el hs hp=>?_⟩
 refine ⟨zl0,fun e he=>?_⟩
 have s3:=Same.new (o:=.lst []) he
 have s123:=s1.trans (s2.trans s3)
 have hss:ss = []:=by
  have:=hp.length_eq
  rw [hu] at this
  exact List.length_eq_zero_iff.mp this
 subst hss
 refine ⟨l,e,[],rfl,rfl,SqL.of (s3 _ _ el),SqL.of upd_same,_,rfl,iteT ?_⟩
 refine ⟨_,rfl,v,r,rfl,RW.mono (same_tups' s123) hv,hw.1,by omega,by omega,fun d H4 hd s4=>⟨_,_,rfl,rfl,?_⟩⟩
 show Q (.bl (decide ((d:Int)<=2))) H4
 rw [decide_eq_true (by omega)]
 exact q _ (s123.trans s4)
end
end D
namespace L2
open PySem PySem.Spec PyProof.Rows PySem.Builtin PySem.Builtin.Str
def dot:Str:=Str.ofString "."
theorem dot_eq:dot = ⟨#[46]⟩:=by decide +kernel
theorem dot_len:dot.length = 1:=by decide +kernel
def splitD (x:Str):List Str:=Txt.split x dot
theorem at_iff (z:Str) (i:Nat):StrLaws.At z dot z.length i ↔ z.cps.toList[i]? = some 46:=by
 rw [dot_eq]
 exact StrLaws.subAt_one z 46 i
theorem can_occur {z:Str}{i:Nat} (h:StrLaws.At z dot z.length i):¬ (decide (z.length < dot.length) || decide (strKind z < strKind dot)) = true:=fun hc=>by
 rw [Bool.or_eq_true,decide_eq_true_eq,decide_eq_true_eq] at hc
 rcases hc with hc | hc
 ·have:=h.1
  omega
 ·rw [dot_eq] at hc
  exact StrLaws.kind_free z 46 hc (List.mem_of_getElem? ((at_iff z i).mp h))
theorem split_two {r w:Str} (hr:46 ∉ r.cps.toList) (hw:46 ∉ w.cps.toList):splitD (r ++ dot ++ w) = [r,w]:=by
 have hdl:dot.cps.toList = [46]:=by rw [dot_eq]
 have hz:(r ++ dot ++ w).cps.toList = r.cps.toList ++ 46 :: w.cps.toList:=by
  rw [D.str_app,D.str_app,hdl,List.append_assoc]; rfl
 generalize hzz:r ++ dot ++ w = z at hz ⊢
 have hn:z.cps.toList.length = z.length:=D.str_len z
 have hrl:r.cps.toList.length = r.length:=D.str_len r
 have a0:StrLaws.At z dot z.length r.length:=(at_iff z _).mpr (by rw [hz,← hrl,List.getElem?_append_right (Nat.le_refl _)]; simp)
 have lo:∀ i,i < r.length->¬ StrLaws.At z dot z.length i:=fun i hi ha=>by
  have:=(at_iff z i).mp ha
  rw [hz,List.getElem?_append_left (by omega)] at this
  exact hr (List.mem_of_getElem? this)
 have up:∀ i,r.length + 1<=i->¬ StrLaws.At z dot z.length i:=fun i hi ha=>by
  have:=(at_iff z i).mp ha
  rw [hz,List.getElem?_append_right (by omega)] at this
  obtain ⟨m,hm⟩:∃ m,i - r.cps.toList.length = m + 1:=⟨i - r.cps.toList.length - 1,by omega⟩
  rw [hm,List.getElem?_cons_succ] at this
  exact hw (List.mem_of_getElem? this)
 obtain ⟨f,hG,_⟩:=StrLaws.occ_tight z dot (by rw [dot_len]; exact Nat.le_refl 1)
 have h0:occurrences z dot 0 z.length (z.length + 1) = [r.length]:=by
  rcases StrLaws.occ_head z dot (z.length + 1) (by omega) with ⟨_,hno⟩ | ⟨j,rest,h0,hj,hmin⟩
  ·exact absurd a0 (hno _)
  ·have hij:j = r.length:=by
    rcases Nat.lt_trichotomy j r.length with h | h | h
    ·exact absurd hj (lo j h)
    ·exact h
    ·exact absurd a0 (hmin _ h)
   rw [h0] at hG
   cases rest with
   | nil=>rw [h0,hij]
   | cons c rest'=>
    have h1:=hG.2.2.2
    have h2:j + dot.length<=c:=h1.1
    rw [dot_len] at h2
    exact absurd h1.2.1 (up c (by omega))
 unfold splitD Txt.split
 rw [if_neg (can_occur a0),if_neg (by rw [h0]; simp),StrLaws.partsBetween_eq,h0]
 show [strSub z 0 r.length,strSub z (r.length + dot.length) z.length] = [r,w]
 have e1:strSub z 0 r.length = r:=by
  apply Str.ext'
  apply Array.toList_inj.mp
  rw [StrLaws.strSub_toList,hz,List.drop_zero,Nat.sub_zero,← hrl,List.take_left]
 have e2:strSub z (r.length + dot.length) z.length = w:=by
  apply Str.ext'
  apply Array.toList_inj.mp
  rw [StrLaws.strSub_toList,dot_len]
  have:z.cps.toList.drop (r.length + 1) = w.cps.toList:=by
   rw [hz,← hrl,List.drop_append]
   simp
  rw [this,List.take_of_length_le]
  rw [← hn,hz,List.length_append,List.length_cons]
  omega
 rw [e1,e2]
end L2
namespace D
open PySem L2
def signs36:Str:=Str.ofString "abcdefghijklmnopqrstuvwxyz0123456789"
def in36 (c:Nat):Bool:=decide (c∈signs36.cps.toList)
theorem in36_occ (c:Nat):(!(Builtin.Str.occurrences signs36 ⟨#[c]⟩ 0 signs36.length 1).isEmpty) = in36 c:=StrLaws.found_one signs36 c
theorem no46:in36 46 = false:=by decide +kernel
structure Wd (x:Str):Prop where
 lo:1<=x.length
 hi:x.length<=12
 at':∀ c∈x.cps.toList,in36 c = true
theorem Wd.free {x:Str} (h:Wd x):46 ∉ x.cps.toList:=fun m=>by
 have:=h.at' _ m
 rw [no46] at this
 cases this
def Nm (z:Str):Prop:=∃ r w:Str,z = r ++ dot ++ w/\Wd r/\Wd w
theorem Nm.len {z:Str} (h:Nm z):z.length<=25:=by
 obtain ⟨r,w,rfl,h1,h2⟩:=h
 have a1:=h1.hi
 have a2:=h2.hi
 rw [← str_len,str_app,str_app,List.length_append,List.length_append,str_len,str_len,str_len,dot_len]
 omega
def spIsWordN:Sp:=fun vs H Q _=>∃ x:Str,vs = [.str x]/\Wd x/\∀ H',Same H H'->Q (.bl true) H'
def spIsName:Sp:=fun vs H Q _=>∃ x:Str,vs = [.str x]/\Nm x/\∀ H',Same H H'->Q (.bl true) H'
def spAsk:Sp:=fun vs H Q _=>∃ x:Str,vs = [.str x]/\Nm x/\∀ H',Same H H'->Q .non H'
section
variable {P:Program}{w:World}{K:PySem.W.Frag}{mg:Str->Option Value}{base:Heap}{f:Addr}{fd:FuncData}{k n:Nat}{AHouse APlainLooks AMaker:Addr}
theorem sc_is_word:FnScope ["text"] ["text"] (defScope s_is_word):=⟨rfl,rfl,rfl,by decide +kernel,rfl,by decide +kernel,by decide +kernel⟩
theorem ok_is_word (F:Fun K "is_word" "is_word" s_is_word f fd) (m_all:mg "all" = none) (m_len:mg "len" = none) (m_MOST_SIGNS_names:∃ t,mg "MOST_SIGNS_names" = some (.int 12 t)) (m_SIGNS:∃ t,mg "SIGNS" = some (.str signs36 t)):FnOk P w K mg base CX0 (k + 1) f fd ["text"] (spIsWordN):=by
 refine F.okQ sc_is_word (fun vs H Q E h=>?_) (fun cdv A outer s H vs Q E hr h=>?_)
 ·obtain ⟨x,rfl,_⟩:=h
  rfl
 obtain ⟨x,rfl,hx,q⟩:=h
 refine ⟨_,(pss_one (ps_ret (pe_and (pe_chain op_le op_le pe_int (pe_callB call_len rfl m_len PySem.boot_len (pa_cons (pv 0) pa_nil)) (pe_globI rfl m_MOST_SIGNS_names)) (pe_one (pe_callB (call_all_bools rfl) rfl m_all boot_allB (pa_cons (pe_lcomp [] [] rfl rfl (by decide +kernel) rfl (by decide +kernel) rfl (by decide +kernel) trivial rfl trivial (pi_str (pv 0)) (fun C s H fp=>⟨pifs_nil,(pe_cmpR op_in_str (pv 0) (pe_globS rfl m_SIGNS) (by rfl))⟩)) pa_nil)))))),?_⟩
 have h1:=hx.lo
 have h2:=hx.hi
 have hsz:x.cps.size = x.length:=rfl
 refine ⟨_,rfl,_,_,rfl,⟨small (by omega),rfl⟩,_,_,rfl,rfl,_,rfl,?_⟩
 rw [decide_eq_true (show (1:Int)<=(x.length:Int) by omega)]
 refine iteT ⟨_,_,rfl,rfl,_,rfl,?_⟩
 rw [decide_eq_true (show (x.length:Int)<=12 by omega)]
 refine iteT ?_
 dsimp only [tRet,tOp,tC,tCB,tCons,tNil]
 refine rd_mapS (x.cps.toList.map fun c=>V.bl true) (by rfl) (by rw [List.length_map]; simp) (by rw [hsz]; exact small (by omega)) (fun i c y H1 R hc hy s1 hR=>?_) (fun H1 D s1 hD=>?_)
 ·have hc':x.cps.toList[i]? = some c:=by simpa using hc
  rw [List.getElem?_map,hc'] at hy
  cases hy
  refine ⟨_,rfl,_,_,rfl,rfl,?_⟩
  rw [in36_occ,hx.at' c (List.mem_of_getElem? hc')]
  exact hR _ (Same.refl _)
 ·refine ⟨D,x.cps.toList.map fun _=>true,rfl,SqL.of ?_,?_⟩
  ·rw [upd_same,List.map_map]; rfl
  ·rw [show ((x.cps.toList.map fun _=>true).all id) = true by simp]
   exact q _ (s1.trans (Same.new hD))
theorem sc_is_name:FnScope ["thing","words"] ["thing"] (defScope s_is_name):=⟨rfl,rfl,rfl,by decide +kernel,rfl,by decide +kernel,by decide +kernel⟩
theorem ok_is_name (F:Fun K "is_name" "is_name" s_is_name f fd) (G_is_word:Have P w K mg base "is_word" k ["text"] (spIsWordN)) (m_isi:mg "isinstance" = none) (m_len:mg "len" = none) (m_str:mg "str" = none):FnOk P w K mg base CX0 (k + 1) f fd ["thing"] (spIsName):=by
 refine F.okQ sc_is_name (fun vs H Q E h=>?_) (fun cdv A outer s H vs Q E hr h=>?_)
 ·obtain ⟨x,rfl,_⟩:=h
  rfl
 obtain ⟨x,rfl,hx,q⟩:=h
 refine ⟨_,(pss_cons (ps_if (pt_not (pt_val (pe_callB call_isi rfl m_isi boot_isi (pa_cons (pv 0) (pa_cons (pe_ty rfl m_str boot_strT) pa_nil))))) (pss_one (ps_ret pe_bl)) pss_nil)
  (pss_cons (ps_set (i:=1) sc_is_name.nd rfl (Or.inl rfl) (pe_bm PySem.F.plainAttrs_str PySem.F.slot_str_split PySem.F.type_str_split mt_split (pv 0) (pa_cons pe_str pa_nil)))
  (pss_one (ps_ret (pe_and (pe_cmpR op_eq (pe_callB call_len rfl m_len PySem.boot_len (pa_cons (pv 1) pa_nil)) pe_int (nomark _)) (pe_and (pe_fn G_is_word hr rfl (pa_cons (pe_ix ix_list (pv 1) pe_int (fun _ _=>rfl)) pa_nil)) (pe_one (pe_fn G_is_word hr rfl (pa_cons (pe_ix ix_list (pv 1) pe_int (fun _ _=>rfl)) pa_nil))))))))),?_⟩
 have hxl:=hx.len
 obtain ⟨a,b,rfl,ha,hb⟩:=hx
 refine ⟨_,rfl,_,_,_,_,rfl,.str _,isi_ss,_,rfl,iteF ?_⟩
 refine ⟨_,rfl,rfl,_,dot,rfl,rfl,dot_len,Nat.le_trans hxl (by decide),fun l hl=>?_⟩
 have e2:Txt.split (a ++ dot ++ b) dot = [a,b]:=split_two ha.free hb.free
 have s1:=Same.new (o:=.lst ((Txt.split (a ++ dot ++ b) dot).map V.str)) hl
 have el:upd H l (.lst ((Txt.split (a ++ dot ++ b) dot).map V.str)) l = some (.lst [.str a,.str b]):=by rw [upd_same,e2]; rfl
 refine ⟨_,rfl,_,_,rfl,.inl ⟨_,SqL.of el,rfl⟩,rfl,_,rfl,iteT ?_⟩
 refine ⟨_,rfl,l,_,0,.str a,rfl,rfl,SqL.of el,rfl,a,rfl,ha,fun H2 s2=>⟨_,rfl,iteT ?_⟩⟩
 exact ⟨_,rfl,l,_,1,.str b,rfl,rfl,SqL.of (s2 _ _ el),rfl,b,rfl,hb,fun H3 s3=>q _ ((s1.trans s2).trans s3)⟩
theorem sc_ask_for_name:FnScope ["name"] ["name"] (defScope s_ask_for_name):=⟨rfl,rfl,rfl,by decide +kernel,rfl,by decide +kernel,by decide +kernel⟩
theorem ok_ask_for_name (F:Fun K "ask_for_name" "ask_for_name" s_ask_for_name f fd) (G_is_name:Have P w K mg base "is_name" k ["thing"] (spIsName)):FnOk P w K mg base CX0 (k + 1) f fd ["name"] (spAsk):=by
 refine F.okQ sc_ask_for_name (fun vs H Q E h=>?_) (fun cdv A outer s H vs Q E hr h=>?_)
 ·obtain ⟨x,rfl,_⟩:=h
  rfl
 obtain ⟨x,rfl,hx,q⟩:=h
 refine ⟨_,(pss_one (ps_if (pt_not (pt_val (pe_fn G_is_name hr rfl (pa_cons (pv 0) pa_nil)))) pss_never pss_nil)),?_⟩
 exact ⟨_,rfl,x,rfl,hx,fun H1 s1=>⟨_,rfl,iteF (q _ s1)⟩⟩
abbrev Kvs:=List (Key × V)
def fH (s r o w:Addr):List (Str × V):=[("sources",.ref s),("rules",.ref r),("opened",.ref o),("wishes",.ref w)]
structure Hd where
 p:Addr
 s:Addr
 r:Addr
 o:Addr
 w:Addr
def Hd.all (a:Hd):List Addr:=[a.p,a.s,a.r,a.o,a.w]
structure Hs (AH:Addr) (a:Hd) (H:Hp) (S R:Kvs) (O W:List Str):Prop where
 ins:∃ dx,H a.p = some (.ins AH dx (fH a.s a.r a.o a.w))
 so:H a.s = some (.dK S)
 ru:H a.r = some (.dK R)
 op:H a.o = some (.lst (O.map V.str))
 wi:H a.w = some (.lst (W.map V.str))
 sr:a.s≠a.r
 ow:a.o≠a.w
 fs:S.length<=1000
 fr:R.length<=1000
 fo:O.length<=1000
 fw:W.length<=1000
def Kb (N:List Addr) (H H':Hp):Prop:=∀ c o,c ∉ N->H c = some o->H' c = some o
theorem Kb.ofSame {N:List Addr}{H H':Hp} (s:Same H H'):Kb N H H':=fun c o _ e=>s c o e
theorem Kb.trans {N:List Addr}{H H1 H2:Hp} (a:Kb N H H1) (b:Kb N H1 H2):Kb N H H2:=fun c o h e=>b c o h (a c o h e)
theorem Kb.upd {N:List Addr}{H:Hp}{a:Addr}{o:HO} (h:a∈N):Kb N H (upd H a o):=fun c o' hc e=>by rw [upd_ne (fun z=>hc (by rw [z]; exact h))]; exact e
section
variable {AH:Addr}{a:Hd}{H H':Hp}{S R:Kvs}{O W:List Str}
theorem Hs.same (h:Hs AH a H S R O W) (s:Same H H'):Hs AH a H' S R O W:=
 ⟨let ⟨dx,e⟩:=h.ins; ⟨dx,s _ _ e⟩,s _ _ h.so,s _ _ h.ru,s _ _ h.op,s _ _ h.wi,h.sr,h.ow,h.fs,h.fr,h.fo,h.fw⟩
theorem Hs.setS (h:Hs AH a H S R O W) (S':Kvs) (hf:S'.length<=1000):Hs AH a (upd H a.s (.dK S')) S' R O W:=by
 obtain ⟨⟨dx,hi⟩,so,ru,op,wi,sr,ow,_,fr,fo,fw⟩:=h
 have n1:a.p≠a.s:=fun z=>by rw [z,so] at hi; cases hi
 have n2:a.o≠a.s:=fun z=>by rw [z,so] at op; cases op
 have n3:a.w≠a.s:=fun z=>by rw [z,so] at wi; cases wi
 exact ⟨⟨dx,by rw [upd_ne n1]; exact hi⟩,upd_same,by rw [upd_ne sr.symm]; exact ru,by rw [upd_ne n2]; exact op,by rw [upd_ne n3]; exact wi,sr,ow,hf,fr,fo,fw⟩
theorem Hs.setR (h:Hs AH a H S R O W) (R':Kvs) (hf:R'.length<=1000):Hs AH a (upd H a.r (.dK R')) S R' O W:=by
 obtain ⟨⟨dx,hi⟩,so,ru,op,wi,sr,ow,fs,_,fo,fw⟩:=h
 have n1:a.p≠a.r:=fun z=>by rw [z,ru] at hi; cases hi
 have n2:a.o≠a.r:=fun z=>by rw [z,ru] at op; cases op
 have n3:a.w≠a.r:=fun z=>by rw [z,ru] at wi; cases wi
 exact ⟨⟨dx,by rw [upd_ne n1]; exact hi⟩,by rw [upd_ne sr]; exact so,upd_same,by rw [upd_ne n2]; exact op,by rw [upd_ne n3]; exact wi,sr,ow,fs,hf,fo,fw⟩
theorem Hs.setW (h:Hs AH a H S R O W) (W':List Str) (hf:W'.length<=1000):Hs AH a (upd H a.w (.lst (W'.map V.str))) S R O W':=by
 obtain ⟨⟨dx,hi⟩,so,ru,op,wi,sr,ow,fs,fr,fo,_⟩:=h
 have n1:a.p≠a.w:=fun z=>by rw [z,wi] at hi; cases hi
 have n2:a.s≠a.w:=fun z=>by rw [z,wi] at so; cases so
 have n3:a.r≠a.w:=fun z=>by rw [z,wi] at ru; cases ru
 exact ⟨⟨dx,by rw [upd_ne n1]; exact hi⟩,by rw [upd_ne n2]; exact so,by rw [upd_ne n3]; exact ru,by rw [upd_ne ow]; exact op,upd_same,sr,ow,fs,fr,fo,hf⟩
end
theorem dropK_none {kvs:Kvs}{k:Key} (h:valV kvs k = none):dropK kvs k = kvs:=by
 unfold dropK
 refine List.filter_eq_self.mpr fun kv hm=>decide_eq_true fun hk=>?_
 have h1:=valV_any k kvs
 rw [h] at h1
 have h2:(kvs.any fun kv=>decide (kv.1 = k)) = true:=List.any_eq_true.mpr ⟨kv,hm,decide_eq_true hk⟩
 rw [h2] at h1
 cases h1
theorem dropK_len (kvs:Kvs) (k:Key):(dropK kvs k).length<=kvs.length:=List.length_filter_le _ _
theorem putK_len (kvs:Kvs) (k:Key) (v:V):(putK kvs k v).length<=kvs.length + 1:=by
 unfold putK
 split
 ·rw [List.length_map]; omega
 ·rw [List.length_append]; exact Nat.le_refl _
def spPut (AH:Addr):Sp:=fun vs H Q _=>∃ (a:Hd) (S R:Kvs) (O W:List Str) (z:Str) (v:V) (x:D.W),vs = [.ref a.p,.str z,v]/\Hs AH a H S R O W/\Nm z/\RW H v x/\x.Ok/\x.size<=1000/\x.depth<=12/\S.length < 1000 /\
 ∀ H',Hs AH a H' (putK S (.inr z) v) (dropK R (.inr z)) O W->Kb a.all H H'->Q .non H'
def spPutR (AH:Addr):Sp:=fun vs H Q _=>∃ (a:Hd) (S R:Kvs) (O W:List Str) (z:Str) (v:V) (x:Rl),vs = [.ref a.p,.str z,v]/\Hs AH a H S R O W/\Nm z/\RW H v x.toW/\Wt (x,0)/\x.many<=60/\unb [] x = []/\x.rep<=2/\R.length < 1000 /\
 ∀ H',Hs AH a H' (dropK S (.inr z)) (putK R (.inr z) v) O W->Kb a.all H H'->Q .non H'
theorem sc_House_put:FnScope ["self","name","worth"] ["self","name","worth"] (defScope s_House_put):=⟨rfl,rfl,rfl,by decide +kernel,rfl,by decide +kernel,by decide +kernel⟩
theorem ok_House_put (F:Fun K "put" "House.put" s_House_put f fd) (G_is_worth:Have P w K mg base "is_worth" k ["thing"] (spIsWorth)) (G_ask_for_name:Have P w K mg base "ask_for_name" k ["name"] (spAsk)) (clH:Cls K AHouse) (nS:NoAttr K AHouse "sources") (nR:NoAttr K AHouse "rules"):FnOk P w K mg base CX0 (k + 1) f fd ["self","name","worth"] (spPut AHouse):=by
 refine F.okQ sc_House_put (fun vs H Q E h=>?_) (fun cdv A outer s H vs Q E hr h=>?_)
 ·obtain ⟨a,S,R,O,W,z,v,x,rfl,_⟩:=h
  rfl
 obtain ⟨a,S,R,O,W,z,v,x,rfl,hs,hz,hv,hok,hsz,hdp,hl,q⟩:=h
 refine ⟨_,(pss_cons (ps_expr (pe_fn G_ask_for_name hr rfl (pa_cons (pv 1) pa_nil)))
  (pss_cons (ps_if (pt_not (pt_val (pe_fn G_is_worth hr rfl (pa_cons (pv 2) pa_nil)))) pss_never pss_nil)
  (pss_cons (ps_expr (pe_dpop2 (pe_fld (pv 0) rfl) (pv 1) pe_non ⟨rfl,rfl,rfl,rfl⟩))
  (pss_one (ps_dput (hu_of hr) (pe_fld (pv 0) rfl) (pv 1) (pv 2) rfl))))),?_⟩
 refine ⟨_,rfl,z,rfl,hz,fun H1 s1=>?_⟩
 have hth:=th_of x hok
 refine ⟨_,rfl,v,x.toT,rfl,(hv.mono (same_tups' s1)).toRT,sm_toT x hth,fun H2 s2=>⟨_,rfl,?_⟩⟩
 rw [isWorth_toT hth,good_ok hok hsz hdp]
 refine iteF ?_
 have h2:=hs.same (s1.trans s2)
 have kb:Kb a.all H H2:=.ofSame (s1.trans s2)
 obtain ⟨dx,ei⟩:=h2.ins
 dsimp only [tNext]
 refine seqI (fun σ' H3=>σ' = [some (.ref a.p),some (.str z),some v]/\Hs AHouse a H3 S (dropK R (.inr z)) O W/\Kb a.all H H3) (fun σ' H3 h3=>?_) (fun tl=>?_)
 ·obtain ⟨rfl,h3,k3⟩:=h3
  obtain ⟨dx3,ei3⟩:=h3.ins
  refine ⟨_,rfl,_,rfl,a.p,AHouse,dx3,_,.ref a.s,rfl,ei3,clH,nS,rfl,_,rfl,a.s,_,rfl,.inl ⟨S,.inr z,h3.so,rfl,Nat.lt_trans hl (by decide),rfl⟩,?_⟩
  exact q _ (h3.setS _ (Nat.le_trans (putK_len S (.inr z) v) hl)) (k3.trans (Kb.upd (by simp [Hd.all])))
 ·refine ⟨_,rfl,a.p,AHouse,dx,_,.ref a.r,rfl,ei,clH,nR,rfl,a.r,rfl,.inl ⟨R,.of h2.ru⟩,_,rfl,R,.inr z,h2.ru,rfl,fun v' _=>tl _ _ ⟨rfl,h2.setR _ (Nat.le_trans (dropK_len R (.inr z)) h2.fr),kb.trans (Kb.upd (by simp [Hd.all]))⟩,fun hn=>tl _ _ ⟨rfl,?_,kb⟩⟩
  rw [dropK_none hn]
  exact h2
theorem sc_House_put_rule:FnScope ["self","name","rule"] ["self","name","rule"] (defScope s_House_put_rule):=⟨rfl,rfl,rfl,by decide +kernel,rfl,by decide +kernel,by decide +kernel⟩
theorem ok_House_put_rule (F:Fun K "put_rule" "House.put_rule" s_House_put_rule f fd) (G_is_rule:Have P w K mg base "is_rule" k ["thing"] (spIsRule)) (G_ask_for_name:Have P w K mg base "ask_for_name" k ["name"] (spAsk)) (clH:Cls K AHouse) (nS:NoAttr K AHouse "sources") (nR:NoAttr K AHouse "rules"):FnOk P w K mg base CX0 (k + 1) f fd ["self","name","rule"] (spPutR AHouse):=by
 refine F.okQ sc_House_put_rule (fun vs H Q E h=>?_) (fun cdv A outer s H vs Q E hr h=>?_)
 ·obtain ⟨a,S,R,O,W,z,v,x,rfl,_⟩:=h
  rfl
 obtain ⟨a,S,R,O,W,z,v,x,rfl,hs,hz,hv,hw,hm,hu,hrp,hl,q⟩:=h
 refine ⟨_,(pss_cons (ps_expr (pe_fn G_ask_for_name hr rfl (pa_cons (pv 1) pa_nil)))
  (pss_cons (ps_if (pt_not (pt_val (pe_fn G_is_rule hr rfl (pa_cons (pv 2) pa_nil)))) pss_never pss_nil)
  (pss_cons (ps_expr (pe_dpop2 (pe_fld (pv 0) rfl) (pv 1) pe_non ⟨rfl,rfl,rfl,rfl⟩))
  (pss_one (ps_dput (hu_of hr) (pe_fld (pv 0) rfl) (pv 1) (pv 2) rfl))))),?_⟩
 refine ⟨_,rfl,z,rfl,hz,fun H1 s1=>?_⟩
 refine ⟨_,rfl,v,x,rfl,RW.mono (same_tups' s1) hv,hw,hm,hu,hrp,fun H2 s2=>⟨_,rfl,iteF ?_⟩⟩
 have h2:=hs.same (s1.trans s2)
 have kb:Kb a.all H H2:=.ofSame (s1.trans s2)
 obtain ⟨dx,ei⟩:=h2.ins
 dsimp only [tNext]
 refine seqI (fun σ' H3=>σ' = [some (.ref a.p),some (.str z),some v]/\Hs AHouse a H3 (dropK S (.inr z)) R O W/\Kb a.all H H3) (fun σ' H3 h3=>?_) (fun tl=>?_)
 ·obtain ⟨rfl,h3,k3⟩:=h3
  obtain ⟨dx3,ei3⟩:=h3.ins
  refine ⟨_,rfl,_,rfl,a.p,AHouse,dx3,_,.ref a.r,rfl,ei3,clH,nR,rfl,_,rfl,a.r,_,rfl,.inl ⟨R,.inr z,h3.ru,rfl,Nat.lt_trans hl (by decide),rfl⟩,?_⟩
  exact q _ (h3.setR _ (Nat.le_trans (putK_len R (.inr z) v) hl)) (k3.trans (Kb.upd (by simp [Hd.all])))
 ·refine ⟨_,rfl,a.p,AHouse,dx,_,.ref a.s,rfl,ei,clH,nS,rfl,a.s,rfl,.inl ⟨S,.of h2.so⟩,_,rfl,S,.inr z,h2.so,rfl,fun v' _=>tl _ _ ⟨rfl,h2.setS _ (Nat.le_trans (dropK_len S (.inr z)) h2.fs),kb.trans (Kb.upd (by simp [Hd.all]))⟩,fun hn=>tl _ _ ⟨rfl,?_,kb⟩⟩
  rw [dropK_none hn]
  exact h2
def addL (z:Str) (l:List Str):List Str:=if z∈l then l else l ++ [z]
theorem addL_len (z:Str) (l:List Str):(addL z l).length<=l.length + 1:=by
 unfold addL
 split
 ·omega
 ·rw [List.length_append]; exact Nat.le_refl _
theorem flat_strs (l:List Str):(l.map V.str).all flatV = true:=by rw [List.all_map]; simp [flatV]
def spWish (AH:Addr):Sp:=fun vs H Q _=>∃ (a:Hd) (S R:Kvs) (O W:List Str) (z:Str),vs = [.ref a.p,.str z]/\Hs AH a H S R O W/\Nm z/\W.length < 1000 /\
 ∀ H',Hs AH a H' S R O (addL z W)->Kb a.all H H'->Q .non H'
theorem sc_House_wish:FnScope ["self","name"] ["self","name"] (defScope s_House_wish):=⟨rfl,rfl,rfl,by decide +kernel,rfl,by decide +kernel,by decide +kernel⟩
theorem ok_House_wish (F:Fun K "wish" "House.wish" s_House_wish f fd) (G_ask_for_name:Have P w K mg base "ask_for_name" k ["name"] (spAsk)) (clH:Cls K AHouse) (nW:NoAttr K AHouse "wishes"):FnOk P w K mg base CX0 (k + 1) f fd ["self","name"] (spWish AHouse):=by
 refine F.okQ sc_House_wish (fun vs H Q E h=>?_) (fun cdv A outer s H vs Q E hr h=>?_)
 ·obtain ⟨a,S,R,O,W,z,rfl,_⟩:=h
  rfl
 obtain ⟨a,S,R,O,W,z,rfl,hs,hz,hl,q⟩:=h
 refine ⟨_,(pss_cons (ps_expr (pe_fn G_ask_for_name hr rfl (pa_cons (pv 1) pa_nil)))
  (pss_one (ps_if (pt_cmpR op_notIn_seq (pv 1) (pe_fld (pv 0) rfl) (by rfl)) (pss_one (ps_expr (pe_bm PySem.F.plainAttrs_list PySem.F.slot_list_append PySem.F.type_list_append mt_append (pe_fld (pv 0) rfl) (pa_cons (pv 1) pa_nil)))) pss_nil))),?_⟩
 refine ⟨_,rfl,z,rfl,hz,fun H1 s1=>?_⟩
 have h1:=hs.same s1
 have kb:Kb a.all H H1:=.ofSame s1
 obtain ⟨dx,ei⟩:=h1.ins
 refine ⟨_,rfl,_,rfl,a.p,AHouse,dx,_,.ref a.w,rfl,ei,clH,nW,rfl,a.w,_,rfl,.inl (SqL.of h1.wi),rfl,flat_strs W,_,rfl,?_⟩
 show if (!inV (.str z) (W.map V.str)) = true then _ else _
 rw [inV_strs]
 by_cases hm:z∈W
 ·rw [decide_eq_true hm]
  exact iteF (q _ (by rw [addL,if_pos hm]; exact h1) kb)
 ·rw [decide_eq_false hm]
  refine iteT ⟨_,rfl,a.p,AHouse,dx,_,.ref a.w,rfl,ei,clH,nW,rfl,.inl ⟨rfl,_,SqL.of h1.wi⟩,_,rfl,a.w,W.map V.str,.str z,rfl,rfl,h1.wi,Nat.lt_of_lt_of_le (show (W.map V.str).length < 1000 by rw [List.length_map]; exact hl) (by decide),?_⟩
  refine q _ ?_ (kb.trans (Kb.upd (by simp [Hd.all])))
  have:=h1.setW (addL z W) (Nat.le_trans (addL_len z W) hl)
  rw [addL,if_neg hm,List.map_append] at this
  rw [addL,if_neg hm]
  exact this
def spHI (AH:Addr):Sp:=fun vs H Q _=>∃ (p dx:Addr),vs = [.ref p]/\H p = some (.ins AH dx [])/\∀ (a:Hd) (H':Hp),a.p = p->Hs AH a H' [] [] [] []->(∀ c o,c≠p->H c = some o->H' c = some o)->H a.s = none->H a.r = none->H a.o = none->H a.w = none->Q .non H'
theorem fH_put (s r o w:Addr):putF "wishes" (.ref w) (putF "opened" (.ref o) (putF "rules" (.ref r) (putF "sources" (.ref s) []))) = fH s r o w:=by
 with_unfolding_all rfl
theorem sc_House___init__:FnScope ["self"] ["self"] (defScope s_House___init__):=⟨rfl,rfl,rfl,by decide +kernel,rfl,by decide +kernel,by decide +kernel⟩
theorem ok_House___init__ (F:Fun K "__init__" "House.__init__" s_House___init__ f fd) (clH:Cls K AHouse) (nS:NoAttr K AHouse "sources") (nR:NoAttr K AHouse "rules") (nO:NoAttr K AHouse "opened") (nW:NoAttr K AHouse "wishes"):FnOk P w K mg base CX0 (k + 1) f fd ["self"] (spHI AHouse):=by
 refine F.okQ sc_House___init__ (fun vs H Q E h=>?_) (fun cdv A outer s H vs Q E hr h=>?_)
 ·obtain ⟨p,dx,rfl,_⟩:=h
  rfl
 obtain ⟨p,dx,rfl,hp,q⟩:=h
 refine ⟨_,(pss_cons (ps_fld (pv 0) pe_dnewK rfl)
  (pss_cons (ps_fld (pv 0) pe_dnewK rfl)
  (pss_cons (ps_fld (pv 0) (pe_lst pa_nil) rfl)
  (pss_one (ps_fld (pv 0) (pe_lst pa_nil) rfl))))),?_⟩
 refine fun s hs=>⟨_,rfl,p,AHouse,dx,[],rfl,?_,clH,nS,(by show 0 < 1000; decide),?_⟩
 ·rw [upd_ne (ne_of_none hp hs)]; exact hp
 have ns:p≠s:=ne_of_none hp hs
 refine fun r hr'=>?_
 have n1:p≠r:=fun z=>by rw [← z,upd_same] at hr'; cases hr'
 have n2:s≠r:=fun z=>by rw [← z,upd_ne ns.symm,upd_same] at hr'; cases hr'
 have hr0:H r = none:=by rw [upd_ne n1.symm,upd_ne n2.symm] at hr'; exact hr'
 refine ⟨_,rfl,p,AHouse,dx,_,rfl,(by rw [upd_ne n1,upd_same]),clH,nR,(by show 1 < 1000; decide),?_⟩
 refine ⟨zl0,fun o ho=>?_⟩
 have n3:p≠o:=fun z=>by rw [← z,upd_same] at ho; cases ho
 have n4:r≠o:=fun z=>by rw [← z,upd_ne n1.symm,upd_same] at ho; cases ho
 have n5:s≠o:=fun z=>by rw [← z,upd_ne ns.symm,upd_ne n2,upd_ne ns.symm,upd_same] at ho; cases ho
 have ho0:H o = none:=by rw [upd_ne n3.symm,upd_ne n4.symm,upd_ne n3.symm,upd_ne n5.symm] at ho; exact ho
 refine ⟨_,rfl,p,AHouse,dx,_,rfl,(by rw [upd_ne n3,upd_same]),clH,nO,(by show 2 < 1000; decide),?_⟩
 refine ⟨zl0,fun w' hw=>?_⟩
 have n6:p≠w':=fun z=>by rw [← z,upd_same] at hw; cases hw
 have n7:o≠w':=fun z=>by rw [← z,upd_ne n3.symm,upd_same] at hw; cases hw
 have n8:r≠w':=fun z=>by rw [← z,upd_ne n1.symm,upd_ne n4,upd_ne n1.symm,upd_same] at hw; cases hw
 have n9:s≠w':=fun z=>by rw [← z,upd_ne ns.symm,upd_ne n5,upd_ne ns.symm,upd_ne n2,upd_ne ns.symm,upd_same] at hw; cases hw
 have hw0:H w' = none:=by rw [upd_ne n6.symm,upd_ne n7.symm,upd_ne n6.symm,upd_ne n8.symm,upd_ne n6.symm,upd_ne n9.symm] at hw; exact hw
 refine ⟨_,rfl,p,AHouse,dx,_,rfl,(by rw [upd_ne n6,upd_same]),clH,nW,(by show 3 < 1000; decide),?_⟩
 refine q ⟨p,s,r,o,w'⟩ _ rfl ⟨⟨dx,upd_same.trans (congrArg (fun z=>some (HO.ins AHouse dx z)) (fH_put s r o w'))⟩,?_,?_,?_,?_,n2,n7,Nat.zero_le _,Nat.zero_le _,Nat.zero_le _,Nat.zero_le _⟩ (fun c u hc e=>?_) hs hr0 ho0 hw0
 ·show upd _ p _ s = _
  rw [upd_ne ns.symm,upd_ne n9,upd_ne ns.symm,upd_ne n5,upd_ne ns.symm,upd_ne n2,upd_ne ns.symm,upd_same]
 ·show upd _ p _ r = _
  rw [upd_ne n1.symm,upd_ne n8,upd_ne n1.symm,upd_ne n4,upd_ne n1.symm,upd_same]
 ·show upd _ p _ o = _
  rw [upd_ne n3.symm,upd_ne n7,upd_ne n3.symm,upd_same]; rfl
 ·show upd _ p _ w' = _
  rw [upd_ne n6.symm,upd_same]; rfl
 ·rw [upd_ne hc,upd_ne (ne_of_none e hw0),upd_ne hc,upd_ne (ne_of_none e ho0),upd_ne hc,upd_ne (ne_of_none e hr0),upd_ne hc,upd_ne (ne_of_none e hs)]
  exact e
theorem dk {a b:Str} (h:a≠b):decide (V.str a = V.str b) = false:=decide_eq_false fun z=>h (V.str.inj z)
theorem dy {a b:Str} (h:a = b):decide (V.str a = V.str b) = true:=decide_eq_true (congrArg V.str h)
def roomOf (z:Str):Str:=(splitD z).headD z
theorem room_eq {r w:Str} (hr:Wd r) (hw:Wd w):roomOf (r ++ dot ++ w) = r:=by
 unfold roomOf
 rw [split_two hr.free hw.free]
 rfl
theorem Nm.room {z:Str} (h:Nm z):∃ w,z = roomOf z ++ dot ++ w/\Wd (roomOf z)/\Wd w:=by
 obtain ⟨r,w,rfl,h1,h2⟩:=h
 rw [room_eq h1 h2]
 exact ⟨w,rfl,h1,h2⟩
def lkV:Option Str->V
 | none=>.non
 | some y=>.str y
def mayB (lk:Option Str) (z:Str) (O:List Str):Bool:=
 match lk with
 | none=>true
 | some y=>decide (roomOf y = roomOf z) || decide (z∈O)
def spRoomOf:Sp:=fun vs H Q _=>∃ z:Str,vs = [.str z]/\Nm z/\∀ H',Same H H'->Q (.str (roomOf z)) H'
def spMay (AH:Addr):Sp:=fun vs H Q _=>∃ (a:Hd) (S R:Kvs) (O W:List Str) (lk:Option Str) (z:Str),vs = [.ref a.p,lkV lk,.str z]/\Hs AH a H S R O W/\Nm z/\(∀ y,lk = some y->Nm y)/\∀ H',Same H H'->Q (.bl (mayB lk z O)) H'
def spFound (AH:Addr):Sp:=fun vs H Q _=>∃ (a:Hd) (S R:Kvs) (O W:List Str) (lk z:Str) (oc:Addr) (kvs:Kvs),vs = [.ref a.p,.str lk,.str z,.ref oc]/\Hs AH a H S R O W/\Nm lk/\Nm z/\roomOf lk = roomOf z/\H oc = some (.dK kvs) /\
 ((∃ v,valV S (.inr z) = some v/\∀ p H',Same H H'->H' p = some (.tup [.str "made",v])->Q (.ref p) H') \/
  (valV S (.inr z) = none/\(valV R (.inr z)).isSome = true/\∀ H',Same H H'->Q ((valV kvs (.inr z)).getD .non) H'))
theorem sc_room_of:FnScope ["name"] ["name"] (defScope s_room_of):=⟨rfl,rfl,rfl,by decide +kernel,rfl,by decide +kernel,by decide +kernel⟩
theorem ok_room_of (F:Fun K "room_of" "room_of" s_room_of f fd):FnOk P w K mg base CX0 (k + 1) f fd ["name"] (spRoomOf):=by
 refine F.okQ sc_room_of (fun vs H Q E h=>?_) (fun cdv A outer s H vs Q E hr h=>?_)
 ·obtain ⟨z,rfl,_⟩:=h
  rfl
 obtain ⟨z,rfl,hz,q⟩:=h
 refine ⟨_,(pss_one (ps_ret (pe_ix ix_seq (pe_bm PySem.F.plainAttrs_str PySem.F.slot_str_split PySem.F.type_str_split mt_split (pv 0) (pa_cons pe_str pa_nil)) pe_int (fun _ _=>rfl)))),?_⟩
 have hzl:=hz.len
 obtain ⟨b,e,hr1,hb⟩:=hz.room
 refine ⟨_,rfl,rfl,z,dot,rfl,rfl,dot_len,Nat.le_trans hzl (by decide),fun l hl=>?_⟩
 have e2:Txt.split z dot = [roomOf z,b]:=by
  have:=split_two hr1.free hb.free
  rw [← e] at this
  exact this
 have s1:=Same.new (o:=.lst ((Txt.split z dot).map V.str)) hl
 have el:upd H l (.lst ((Txt.split z dot).map V.str)) l = some (.lst [.str (roomOf z),.str b]):=by rw [upd_same,e2]; rfl
 exact .inl ⟨l,_,0,.str (roomOf z),rfl,rfl,SqL.of el,rfl,q _ s1⟩
theorem sc_House_may:FnScope ["self","looker","name"] ["self","looker","name"] (defScope s_House_may):=⟨rfl,rfl,rfl,by decide +kernel,rfl,by decide +kernel,by decide +kernel⟩
theorem ok_House_may (F:Fun K "may" "House.may" s_House_may f fd) (G_room_of:Have P w K mg base "room_of" k ["name"] (spRoomOf)) (G_is_name:Have P w K mg base "is_name" k ["thing"] (spIsName)) (clH:Cls K AHouse) (nO:NoAttr K AHouse "opened"):FnOk P w K mg base CX0 (k + 1) f fd ["self","looker","name"] (spMay AHouse):=by
 refine F.okQ sc_House_may (fun vs H Q E h=>?_) (fun cdv A outer s H vs Q E hr h=>?_)
 ·obtain ⟨a,S,R,O,W,lk,z,rfl,_⟩:=h
  rfl
 obtain ⟨a,S,R,O,W,lk,z,rfl,hs,hz,hlk,q⟩:=h
 refine ⟨_,(pss_cons (ps_if (pt_not (pt_val (pe_fn G_is_name hr rfl (pa_cons (pv 2) pa_nil)))) (pss_one (ps_ret pe_bl)) pss_nil)
  (pss_one (ps_ret (pe_or (pe_cmp (pc_isN (pv 1))) (pe_or (pe_cmpR op_eq (pe_fn G_room_of hr rfl (pa_cons (pv 1) pa_nil)) (pe_fn G_room_of hr rfl (pa_cons (pv 2) pa_nil)) (nomark _)) (pe_one (pe_cmpR op_in_seq (pv 2) (pe_fld (pv 0) rfl) (by rfl)))))))),?_⟩
 refine ⟨_,rfl,z,rfl,hz,fun H1 s1=>⟨_,rfl,iteF ?_⟩⟩
 have h1:=hs.same s1
 cases lk with
 | none=>exact ⟨_,rfl,_,rfl,iteT (q _ s1)⟩
 | some y=>
  have hy:=hlk y rfl
  refine ⟨_,rfl,_,rfl,iteF ⟨_,rfl,y,rfl,hy,fun H2 s2=>⟨_,rfl,z,rfl,hz,fun H3 s3=>⟨rfl,_,rfl,?_⟩⟩⟩⟩
  have s123:=s1.trans (s2.trans s3)
  have h3:=hs.same s123
  obtain ⟨dx,ei⟩:=h3.ins
  have q3:Q (.bl (decide (roomOf y = roomOf z) || decide (z∈O))) H3:=q _ s123
  by_cases e:roomOf y = roomOf z
  ·rw [dy e]
   rw [decide_eq_true e,Bool.true_or] at q3
   exact iteT q3
  ·rw [dk e]
   rw [decide_eq_false e,Bool.false_or] at q3
   refine iteF ⟨_,rfl,_,rfl,a.p,AHouse,dx,_,.ref a.o,rfl,ei,clH,nO,rfl,a.o,_,rfl,.inl (SqL.of h3.op),rfl,flat_strs _,?_⟩
   show Q (.bl (inV (.str z) (O.map V.str))) H3
   rw [inV_strs]
   exact q3
theorem sc_House_found:FnScope ["self","looker","name","outcomes"] ["self","looker","name","outcomes"] (defScope s_House_found):=⟨rfl,rfl,rfl,by decide +kernel,rfl,by decide +kernel,by decide +kernel⟩
theorem ok_House_found (F:Fun K "found" "House.found" s_House_found f fd) (G_House_may:HaveM P w K mg base AHouse "may" k ["self","looker","name"] (spMay AHouse)) (G_is_name:Have P w K mg base "is_name" k ["thing"] (spIsName)) (clH:Cls K AHouse) (nS:NoAttr K AHouse "sources") (nR:NoAttr K AHouse "rules"):FnOk P w K mg base CX0 (k + 1) f fd ["self","looker","name","outcomes"] (spFound AHouse):=by
 refine F.okQ sc_House_found (fun vs H Q E h=>?_) (fun cdv A outer s H vs Q E hr h=>?_)
 ·obtain ⟨a,S,R,O,W,lk,z,oc,kvs,rfl,_⟩:=h
  rfl
 obtain ⟨a,S,R,O,W,lk,z,oc,kvs,rfl,hs,hl,hz,hr',ho,hd⟩:=h
 refine ⟨_,(pss_cons (ps_if (pt_not (pt_val (pe_fn G_is_name hr rfl (pa_cons (pv 2) pa_nil)))) (pss_one (ps_ret (pe_tup (pa_cons pe_str (pa_cons pe_str (pa_cons (pv 2) pa_nil)))))) pss_nil)
  (pss_cons (ps_if (pt_not (pt_val (pe_m G_House_may hr (pv 0) (pa_cons (pv 1) (pa_cons (pv 2) pa_nil))))) (pss_one (ps_ret (pe_tup (pa_cons pe_str (pa_cons pe_str (pa_cons (pv 2) pa_nil)))))) pss_nil)
  (pss_cons (ps_if (pt_cmp (pc_din (hu_of hr) (pv 2) (pe_fld (pv 0) rfl)) rfl) (pss_one (ps_ret (pe_tup (pa_cons pe_str (pa_cons (pe_dget (hu_of hr) (pe_fld (pv 0) rfl) (pv 2) (fun _ _=>rfl)) pa_nil))))) pss_nil)
  (pss_cons (ps_if (pt_cmp (pc_din (hu_of hr) (pv 2) (pe_fld (pv 0) rfl)) rfl) (pss_one (ps_ret (pe_dget1 (hu_of hr) (pv 3) (pv 2) ⟨rfl,rfl,rfl,rfl⟩))) pss_nil)
  (pss_one (ps_ret (pe_tup (pa_cons pe_str (pa_cons pe_str (pa_cons (pv 2) pa_nil)))))))))),?_⟩
 refine ⟨_,rfl,z,rfl,hz,fun H1 s1=>⟨_,rfl,iteF ?_⟩⟩
 have hs1:=hs.same s1
 obtain ⟨dx,ei⟩:=hs1.ins
 have hm:mayB (some lk) z O = true:=by
  show (decide (roomOf lk = roomOf z) || decide (z∈O)) = true
  rw [decide_eq_true hr']; rfl
 refine ⟨_,rfl,a.p,dx,_,rfl,ei,rfl,_,rfl,_,rfl,a,S,R,O,W,some lk,z,rfl,hs1,hz,fun y hy=>by cases hy; exact hl,fun H2 s2=>⟨_,rfl,?_⟩⟩
 rw [hm]
 refine iteF ?_
 have s12:=s1.trans s2
 have hs2:=hs.same s12
 obtain ⟨dx2,ei2⟩:=hs2.ins
 have dg:=DGet.k (k:=.inr z) hs2.so
 refine ⟨_,rfl,_,rfl,a.p,AHouse,dx2,_,.ref a.s,rfl,ei2,clH,nS,rfl,a.s,_,rfl,dg,_,rfl,?_⟩
 rcases hd with ⟨u,hv,q⟩ | ⟨hv,hR,q⟩
 ·rw [hv] at dg ⊢
  exact iteT ⟨_,rfl,a.p,AHouse,dx2,_,.ref a.s,rfl,ei2,clH,nS,rfl,_,rfl,a.s,u,rfl,dg,zl2,fun t ht=>q t _ (s12.trans (Same.new ht)) upd_same⟩
 ·rw [hv]
  refine iteF ⟨_,rfl,_,rfl,a.p,AHouse,dx2,_,.ref a.r,rfl,ei2,clH,nR,rfl,a.r,_,rfl,DGet.k (k:=.inr z) hs2.ru,_,rfl,?_⟩
  rw [hR]
  have ho2:=s12 _ _ ho
  exact iteT ⟨_,rfl,oc,rfl,.inl ⟨kvs,.of ho2⟩,_,rfl,_,DGet.k (k:=.inr z) ho2,q _ s12⟩
end
end D
namespace L2
open PySem
theorem rd_mapL {K:PySem.W.Frag}{fr:List Nat}{j:Nat}{te:TE}{σ:St}{H:Hp}{Q:VK}{a:Addr}{vs:List V} (outs:List V) (hσ:σ[j]? = some (some (.ref a))) (hS:SqL K H a vs) (hl:outs.length = vs.length) (hz:vs.length<=sizeLine)
  (step:∀ (i:Nat) (v y:V) (H1:Hp) (R:VK),vs[i]? = some v->outs[i]? = some y->Same H H1->(∀ H2,Same H1 H2->R y H2)->te (some v :: frees fr σ) H1 R)
  (fin:∀ (H1:Hp) (D:Addr),Same H H1->H1 D = none->Q (.ref D) (upd H1 D (.lst outs))):tLComp fr (iList K (tVar j)) (fun _ H Q=>Q true H) te σ H Q:=by
 refine ⟨_,hσ,a,rfl,⟨vs,hS⟩,fun i m us H1=>i<=vs.length/\m = vs.length - i/\us = outs.take i/\Same H H1,⟨_,Nat.zero_le _,rfl,by simp,Same.refl _⟩,fun i m us H1 hW=>?_⟩
 obtain ⟨hi,hm,hu,sm⟩:=hW
 refine ⟨by rw [hu,List.length_take]; omega,?_⟩
 by_cases hlt:i < vs.length
 ·refine .inr ⟨⟨vs,vs[i],sm.seq hS,List.getElem?_eq_getElem hlt⟩,fun v H' hy=>?_⟩
  obtain ⟨rfl,hv⟩:=hy
  have hv:=hv vs (sm.seq hS)
  have hy:outs[i]? = some outs[i]:=List.getElem?_eq_getElem (by omega)
  refine iteT ?_
  refine step i v outs[i] H' _ hv hy sm fun H2 s2=>⟨vs.length - (i + 1),by omega,by omega,rfl,?_,sm.trans s2⟩
  rw [hu,take_snoc hy]
 ·have e:i = vs.length:=by omega
  refine .inl ⟨⟨vs,sm.seq hS,by omega⟩,fun D hD=>?_⟩
  have e2:us = outs:=by rw [hu,List.take_of_length_le (by omega)]
  rw [e2]
  exact fin H1 D sm hD
end L2
namespace D
open PySem L2
inductive Oc where
 | made (x:W)
 | kind
 | stop
def Oc.isMade:Oc->Bool
 | .made _=>true
 | _=>false
def SqU (K:PySem.W.Frag) (H:Hp) (a:Addr) (xs:List V):Prop:=H a = some (.tup xs)\/∀ G:Hp,SqT K G a xs
theorem SqU.sq {K:PySem.W.Frag}{H:Hp}{a:Addr}{xs:List V} (h:SqU K H a xs):SqT K H a xs:=h.elim SqT.of fun g=>g H
def RO (K:PySem.W.Frag) (H:Hp) (v:V):Oc->Prop
 | .made x=>∃ a u,v = .ref a/\SqU K H a [.str "made",u]/\RW H u x
 | .kind=>∃ a,v = .ref a/\SqU K H a [.str "wrong",.str "kind",.str ""]
 | .stop=>v = .non
theorem SqU.tups {K:PySem.W.Frag}{H H':Hp} (t:Tups H H') {a:Addr}{xs:List V} (h:SqU K H a xs):SqU K H' a xs:=h.imp (fun e=>t _ _ e) id
theorem RO.tups {K:PySem.W.Frag}{H H':Hp} (t:Tups H H') {v:V}:∀ {o:Oc},RO K H v o->RO K H' v o
 | .made _,⟨a,u,e1,e2,e3⟩=>⟨a,u,e1,SqU.tups t e2,e3.mono t⟩
 | .kind,⟨a,e1,e2⟩=>⟨a,e1,SqU.tups t e2⟩
 | .stop,h=>h
theorem RO.mono {K:PySem.W.Frag}{H H':Hp} (s:Same H H') {v:V}{o:Oc} (h:RO K H v o):RO K H' v o:=h.tups (same_tups' s)
def kvsN (f1 f2 f3 f4 f5 f6:Addr):List (Key × V):=[(.inr "+",.ref f1),(.inr "-",.ref f2),(.inr "*",.ref f3),(.inr "/",.ref f4),(.inr "less",.ref f5),(.inr "figures",.ref f6)]
def kvsO (f7 f8 f9 f10 f11:Addr):List (Key × V):=[(.inr "same",.ref f7),(.inr "join",.ref f8),(.inr "list",.ref f9),(.inr "item",.ref f10),(.inr "count",.ref f11)]
def Big (i:Int):Prop:=-(10 ^ 60) < i/\i < 10 ^ 60
def MadeI (H:Hp) (i:Int) (Q:VK):Prop:=∀ p H',Same H H'->H' p = some (.tup [.str "made",.int i])->Q (.ref p) H'
def spMade28:Sp:=fun vs H Q _=>∃ i:Int,vs = [.int i]/\Big i/\MadeI H i Q
def spSum28:Sp:=fun vs H Q _=>∃ (l:Addr) (i j:Int),vs = [.ref l]/\H l = some (.lst [.int i,.int j])/\Big (i + j)/\MadeI H (i + j) Q
def spReck28 (K:PySem.W.Frag):Sp:=fun vs H Q _=>∃ (l:Addr) (u:V) (j:Int),vs = [.str "+",.ref l]/\H l = some (.lst [u,.int j]) /\
 ((∃ i,u = .int i/\Big (i + j)/\MadeI H (i + j) Q)\/(∃ x,u = .str x/\∀ v H',Same H H'->RO K H' v .kind->Q v H'))
def spIsMade (K:PySem.W.Frag):Sp:=fun vs H Q _=>∃ (a:Addr) (ov sv:V) (o:Oc),vs = [.ref a]/\H a = some (.tup [ov,sv])/\RO K H ov o/\Q (.bl o.isMade) H
def spWorthOf (K:PySem.W.Frag):Sp:=fun vs H Q _=>∃ (a:Addr) (ov sv:V) (x:W),vs = [.ref a]/\H a = some (.tup [ov,sv])/\RO K H ov (.made x)/\∀ u,RW H u x->Q u H
def spAsLast:Sp:=fun vs H Q _=>∃ (l a:Addr) (us:List V) (ov sv:V),vs = [.ref l]/\H l = some (.lst us)/\us.length<=10/\atI us (-1) = some (.ref a)/\H a = some (.tup [ov,sv])/\∀ (p:Addr) (sv':V) (H':Hp),Same H H'->H' p = some (.tup [ov,sv'])->Q (.ref p) H'
def FO (K:PySem.W.Frag) (H:Hp) (S R kvs:Kvs) (z:Str) (fo:Oc):Prop:=
 (∃ v x,valV S (.inr z) = some v/\RW H v x/\fo = .made x)\/(valV S (.inr z) = none/\(valV R (.inr z)).isSome = true/\RO K H ((valV kvs (.inr z)).getD .non) fo)
theorem FO.tups {K:PySem.W.Frag}{H H':Hp}{S R kvs:Kvs}{z:Str}{fo:Oc} (h:FO K H S R kvs z fo) (t:Tups H H'):FO K H' S R kvs z fo:=by
 rcases h with ⟨v,x,a,b,c⟩ | ⟨a,b,c⟩
 ·exact .inl ⟨v,x,a,b.mono t,c⟩
 ·exact .inr ⟨a,b,c.tups t⟩
def fP (a:Hd) (lk:Str) (oc nl:Addr):List (Str × V):=[("house",.ref a.p),("looker",.str lk),("outcomes",.ref oc),("names",.ref nl)]
structure Pk (K:PySem.W.Frag) (AP AH:Addr) (H:Hp) (r:Addr) (a:Hd) (oc nl:Addr) (lk z:Str) (ns:List Str) (kvs S R:Kvs) (O W:List Str) (fo:Oc):Prop where
 ins:∃ dx,H r = some (.ins AP dx (fP a lk oc nl))
 nm:H nl = some (.lst (ns.map V.str))
 hs:Hs AH a H S R O W
 oc:H oc = some (.dK kvs)
 few:ns.length < 1000
 na:nl ∉ a.all
 lkn:Nm lk
 zn:Nm z
 rm:roomOf lk = roomOf z
 fo:FO K H S R kvs z fo
theorem Pk.same {K:PySem.W.Frag}{AP AH:Addr}{H H':Hp}{r:Addr}{a:Hd}{oc nl:Addr}{lk z:Str}{ns:List Str}{kvs S R:Kvs}{O W:List Str}{fo:Oc} (h:Pk K AP AH H r a oc nl lk z ns kvs S R O W fo) (s:Same H H'):Pk K AP AH H' r a oc nl lk z ns kvs S R O W fo:=
 ⟨let ⟨dx,e⟩:=h.ins; ⟨dx,s _ _ e⟩,s _ _ h.nm,h.hs.same s,s _ _ h.oc,h.few,h.na,h.lkn,h.zn,h.rm,h.fo.tups (same_tups' s)⟩
def spLook (K:PySem.W.Frag) (AP AH:Addr):Sp:=fun vs H Q _=>∃ (r:Addr) (a:Hd) (oc nl:Addr) (lk z:Str) (ns:List Str) (kvs S R:Kvs) (O W:List Str) (fo:Oc),vs = [.ref r,.str z]/\Pk K AP AH H r a oc nl lk z ns kvs S R O W fo /\
 ∀ v H',H' nl = some (.lst ((ns ++ [z]).map V.str))->Kb [nl] H H'->RO K H' v fo->Q v H'
theorem Hs.kb {AH:Addr}{a:Hd}{H H':Hp}{S R:Kvs}{O W:List Str}{N:List Addr} (h:Hs AH a H S R O W) (k:Kb N H H') (hn:∀ c∈a.all,c ∉ N):Hs AH a H' S R O W:=by
 obtain ⟨dx,e⟩:=h.ins
 have m:∀ c,c∈[a.p,a.s,a.r,a.o,a.w]->c ∉ N:=hn
 exact ⟨⟨dx,k _ _ (m _ (by simp)) e⟩,k _ _ (m _ (by simp)) h.so,k _ _ (m _ (by simp)) h.ru,k _ _ (m _ (by simp)) h.op,k _ _ (m _ (by simp)) h.wi,h.sr,h.ow,h.fs,h.fr,h.fo,h.fw⟩
theorem Kb.tups {H H':Hp}{l:Addr}{xs:List V} (k:Kb [l] H H') (e:H l = some (.lst xs)):Tups H H':=fun a vs h=>k a _ (fun m=>by rw [List.mem_singleton.mp m,e] at h; cases h) h
section
variable {P:Program}{w:World}{K:PySem.W.Frag}{mg:Str->Option Value}{base:Heap}{f:Addr}{fd:FuncData}{k n:Nat}{AHouse APlainLooks AMaker:Addr}
theorem sc_made:FnScope ["thing"] ["thing"] (defScope s_made):=⟨rfl,rfl,rfl,by decide +kernel,rfl,by decide +kernel,by decide +kernel⟩
theorem ok_made (F:Fun K "made" "made" s_made f fd) (G_is_worth:Have P w K mg base "is_worth" k ["thing"] (spIsWorth)) {g_GREAT:Addr} (m_GREAT:mg "GREAT" = some (.ref g_GREAT)) (t_GREAT:∀ H:Hp,SqT K H g_GREAT [.str "wrong",.str "great",.str ""]):FnOk P w K mg base CX0 (k + 1) f fd ["thing"] (spMade28):=by
 refine F.okQ sc_made (fun vs H Q E h=>?_) (fun cdv A outer s H vs Q E hr h=>?_)
 ·obtain ⟨i,rfl,_⟩:=h
  rfl
 obtain ⟨i,rfl,hb,q⟩:=h
 refine ⟨_,(pss_one (ps_ret (pe_ifExp (pt_val (pe_fn G_is_worth hr rfl (pa_cons (pv 0) pa_nil))) (pe_tup (pa_cons pe_str (pa_cons (pv 0) pa_nil))) (pe_glob (v:=.ref g_GREAT) rfl m_GREAT rfl)))),?_⟩
 refine ⟨_,rfl,_,.num i,rfl,.num i,trivial,fun H1 s1=>⟨_,rfl,?_⟩⟩
 have hw:isWorthB (.num i) = true:=by
  show (decide (-(10 ^ 60) < i/\i < 10 ^ 60) && decide ((1:Int)<=1000)) = true
  rw [decide_eq_true (show -(10 ^ 60) < i/\i < 10 ^ 60 from hb)]
  rfl
 rw [hw]
 exact iteT ⟨_,rfl,zl2,fun p hp=>q p _ (s1.trans (Same.new hp)) upd_same⟩
theorem sc_summed:FnScope ["worths"] ["worths"] (defScope s_summed):=⟨rfl,rfl,rfl,by decide +kernel,rfl,by decide +kernel,by decide +kernel⟩
theorem ok_summed (F:Fun K "summed" "summed" s_summed f fd) (G_made:Have P w K mg base "made" k ["thing"] (spMade28)):FnOk P w K mg base CX0 (k + 1) f fd ["worths"] (spSum28):=by
 refine F.okQ sc_summed (fun vs H Q E h=>?_) (fun cdv A outer s H vs Q E hr h=>?_)
 ·obtain ⟨l,i,j,rfl,_⟩:=h
  rfl
 obtain ⟨l,i,j,rfl,hl,hb,q⟩:=h
 refine ⟨_,(pss_one (ps_ret (pe_fn G_made hr rfl (pa_cons (pe_op op_add (pe_ix ix_list (pv 0) pe_int (fun _ _=>rfl)) (pe_ix ix_list (pv 0) pe_int (fun _ _=>rfl))) pa_nil)))),?_⟩
 refine ⟨_,rfl,l,_,0,_,rfl,rfl,SqL.of hl,rfl,_,rfl,l,_,1,_,rfl,rfl,SqL.of hl,rfl,_,_,rfl,rfl,?_⟩
 exact ⟨_,rfl,hb,q⟩
theorem sc_reckoned:FnScope ["word","worths"] ["word","worths"] (defScope s_reckoned):=⟨rfl,rfl,rfl,by decide +kernel,rfl,by decide +kernel,by decide +kernel⟩
theorem ok_reckoned (F:Fun K "reckoned" "reckoned" s_reckoned f fd) (G_is_number:Have P w K mg base "is_number" k ["thing"] (spIsNum)) (m_all:mg "all" = none) {g_KIND:Addr} (m_KIND:mg "KIND" = some (.ref g_KIND)) (t_KIND:∀ H:Hp,SqT K H g_KIND [.str "wrong",.str "kind",.str ""]) {g_NUMBER_DEEDS f1 f2 f3 f4 f5 f6:Addr} (m_NUMBER_DEEDS:mg "NUMBER_DEEDS" = some (.ref g_NUMBER_DEEDS)) (d_NUM:MD P w K g_NUMBER_DEEDS (kvsN f1 f2 f3 f4 f5 f6)) {g_OTHER_DEEDS f7 f8 f9 f10 f11:Addr} (m_OTHER_DEEDS:mg "OTHER_DEEDS" = some (.ref g_OTHER_DEEDS)) (d_OTH:MD P w K g_OTHER_DEEDS (kvsO f7 f8 f9 f10 f11)) (c1:HaveF P w K mg base f1 k ["worths"] spSum28):FnOk P w K mg base CX0 (k + 1) f fd ["word","worths"] (spReck28 K):=by
 refine F.okQ sc_reckoned (fun vs H Q E h=>?_) (fun cdv A outer s H vs Q E hr h=>?_)
 ·obtain ⟨l,u,j,rfl,_⟩:=h
  rfl
 obtain ⟨l,u,j,rfl,hl,h⟩:=h
 refine ⟨_,(pss_cons (ps_if (pt_cmpR op_notInM (pv 0) (pe_glob (v:=.ref g_NUMBER_DEEDS) rfl m_NUMBER_DEEDS rfl) (by rfl)) (pss_one (ps_ret (pe_callF hr (pe_ix ix_mod (pe_glob (v:=.ref g_OTHER_DEEDS) rfl m_OTHER_DEEDS rfl) (pv 0) (fun _ _=>rfl)) (pa_cons (pv 1) pa_nil)))) pss_nil)
  (pss_cons (ps_if (pt_not (pt_val (pe_callB (call_all_bools rfl) rfl m_all boot_allB (pa_cons (pe_lcomp [] [] rfl rfl (by decide +kernel) rfl (by decide +kernel) rfl (by decide +kernel) trivial rfl trivial (pi_list (pv 1)) (fun C s H fp=>⟨pifs_nil,(pe_fn G_is_number hr rfl (pa_cons (pv 0) pa_nil))⟩)) pa_nil)))) (pss_one (ps_ret (pe_glob (v:=.ref g_KIND) rfl m_KIND rfl))) pss_nil)
  (pss_one (ps_ret (pe_callF hr (pe_ix ix_mod (pe_glob (v:=.ref g_NUMBER_DEEDS) rfl m_NUMBER_DEEDS rfl) (pv 0) (fun _ _=>rfl)) (pa_cons (pv 1) pa_nil)))))),?_⟩
 refine ⟨_,rfl,g_NUMBER_DEEDS,_,.inr "+",rfl,rfl,d_NUM,_,rfl,iteF ?_⟩
 have rt:∃ t:T,(∀ G,RT G u t)/\((∃ i,u = .int i/\isNumB t = true)\/(∃ x,u = .str x/\isNumB t = false)):=by
  rcases h with ⟨i,rfl,_⟩ | ⟨x,rfl,_⟩
  ·exact ⟨.num i,fun G=>.num i,.inl ⟨i,rfl,rfl⟩⟩
  ·exact ⟨.txt x,fun G=>.txt x,.inr ⟨x,rfl,rfl⟩⟩
 obtain ⟨t,hrt,hb⟩:=rt
 dsimp only [tNext,tRet,tOp,tC,tCB,tCons,tNil,tB,tNot,tIfS,tSeq]
 refine rd_mapL [.bl (isNumB t),.bl true] (by rfl) (SqL.of hl) rfl zl2 (fun i v y H1 R hv hy s1 hR=>?_) (fun H1 D s1 hD=>?_)
 ·match i,hv,hy with
  | 0,hv,hy=>
   cases hv
   cases hy
   exact ⟨_,rfl,_,t,rfl,hrt _,hR _ (Same.refl _)⟩
  | 1,hv,hy=>
   cases hv
   cases hy
   exact ⟨_,rfl,_,.num j,rfl,.num j,hR _ (Same.refl _)⟩
 ·have s2:=s1.trans (Same.new (o:=.lst [.bl (isNumB t),.bl true]) hD)
  refine ⟨D,[isNumB t,true],rfl,SqL.of upd_same,_,rfl,?_⟩
  rcases h with ⟨i,rfl,hbg,q⟩ | ⟨x,rfl,q⟩
  ·rcases hb with ⟨_,_,hb⟩ | ⟨_,hx,_⟩
   ·rw [hb] at s2 ⊢
    refine iteF ⟨_,rfl,g_NUMBER_DEEDS,_,.inr "+",.ref f1,rfl,rfl,d_NUM,rfl,f1,_,_,rfl,c1,_,rfl,?_⟩
    exact ⟨l,i,j,rfl,s2 _ _ hl,hbg,fun p H' s3 e=>q p H' (s2.trans s3) e⟩
   ·cases hx
  ·rcases hb with ⟨_,hx,_⟩ | ⟨_,_,hb⟩
   ·cases hx
   ·rw [hb] at s2 ⊢
    exact iteT (q _ _ s2 ⟨_,rfl,.inr t_KIND⟩)
theorem sc_is_made:FnScope ["record"] ["record"] (defScope s_is_made):=⟨rfl,rfl,rfl,by decide +kernel,rfl,by decide +kernel,by decide +kernel⟩
theorem ok_is_made (F:Fun K "is_made" "is_made" s_is_made f fd):FnOk P w K mg base CX0 (k + 1) f fd ["record"] (spIsMade K):=by
 refine F.okQ sc_is_made (fun vs H Q E h=>?_) (fun cdv A outer s H vs Q E hr h=>?_)
 ·obtain ⟨a,ov,sv,o,rfl,_⟩:=h
  rfl
 obtain ⟨a,ov,sv,o,rfl,ea,ro,q⟩:=h
 refine ⟨_,(pss_one (ps_ret (pe_and (pe_cmp (pc_notN (pe_ix ix_tup (pv 0) pe_int (fun _ _=>rfl)))) (pe_one (pe_cmpR op_eq (pe_ix ix_tup (pe_ix ix_tup (pv 0) pe_int (fun _ _=>rfl)) pe_int (fun _ _=>rfl)) pe_str (nomark _)))))),?_⟩
 refine ⟨_,rfl,a,_,0,_,rfl,rfl,SqT.of ea,rfl,_,rfl,?_⟩
 cases o with
 | stop=>
  obtain rfl:ov = .non:=ro
  exact iteF q
 | kind=>
  obtain ⟨b,rfl,e⟩:=ro
  refine iteT ⟨_,rfl,a,_,0,_,rfl,rfl,SqT.of ea,rfl,b,_,0,_,rfl,rfl,e.sq,rfl,rfl,?_⟩
  rw [dk (by decide +kernel)]
  exact q
 | made x=>
  obtain ⟨b,u,rfl,e,rx⟩:=ro
  refine iteT ⟨_,rfl,a,_,0,_,rfl,rfl,SqT.of ea,rfl,b,_,0,_,rfl,rfl,e.sq,rfl,rfl,?_⟩
  rw [dy rfl]
  exact q
theorem sc_worth_of:FnScope ["record"] ["record"] (defScope s_worth_of):=⟨rfl,rfl,rfl,by decide +kernel,rfl,by decide +kernel,by decide +kernel⟩
theorem ok_worth_of (F:Fun K "worth_of" "worth_of" s_worth_of f fd):FnOk P w K mg base CX0 (k + 1) f fd ["record"] (spWorthOf K):=by
 refine F.okQ sc_worth_of (fun vs H Q E h=>?_) (fun cdv A outer s H vs Q E hr h=>?_)
 ·obtain ⟨a,ov,sv,x,rfl,_⟩:=h
  rfl
 obtain ⟨a,ov,sv,x,rfl,ea,⟨b,u,rfl,e,rx⟩,q⟩:=h
 refine ⟨_,(pss_one (ps_ret (pe_ix ix_tup (pe_ix ix_tup (pv 0) pe_int (fun _ _=>rfl)) pe_int (fun _ _=>rfl)))),?_⟩
 exact ⟨_,rfl,a,_,0,_,rfl,rfl,SqT.of ea,rfl,b,_,1,_,rfl,rfl,e.sq,rfl,q u rx⟩
theorem sc_as_last:FnScope ["records"] ["records"] (defScope s_as_last):=⟨rfl,rfl,rfl,by decide +kernel,rfl,by decide +kernel,by decide +kernel⟩
theorem ok_as_last (F:Fun K "as_last" "as_last" s_as_last f fd) (m_tuple:mg "tuple" = none):FnOk P w K mg base CX0 (k + 1) f fd ["records"] (spAsLast):=by
 refine F.okQ sc_as_last (fun vs H Q E h=>?_) (fun cdv A outer s H vs Q E hr h=>?_)
 ·obtain ⟨l,a,us,ov,sv,rfl,_⟩:=h
  rfl
 obtain ⟨l,a,us,ov,sv,rfl,hl,hn,ha,ea,q⟩:=h
 refine ⟨_,(pss_one (ps_ret (pe_tup (pa_cons (pe_ix ix_tup (pe_ix ix_list (pv 0) (pe_un un_neg pe_int) (fun _ _=>rfl)) pe_int (fun _ _=>rfl)) (pa_cons (pe_callTy call_tuple_of rfl m_tuple boot_tupleT (pa_cons (pv 0) pa_nil)) pa_nil))))),?_⟩
 refine ⟨_,rfl,_,rfl,l,_,-1,_,rfl,rfl,SqL.of hl,ha,a,_,0,_,rfl,rfl,SqT.of ea,rfl,_,rfl,l,us,rfl,.inl ⟨SqL.of hl,fun t ht=>?_⟩⟩
 exact ⟨zl2,fun p hp=>q p _ _ ((Same.new ht).trans (Same.new hp)) upd_same⟩
theorem sc_PlainLooks_look:FnScope ["self","name"] ["self","name"] (defScope s_PlainLooks_look):=⟨rfl,rfl,rfl,by decide +kernel,rfl,by decide +kernel,by decide +kernel⟩
theorem ok_PlainLooks_look (F:Fun K "look" "PlainLooks.look" s_PlainLooks_look f fd) (G_House_found:HaveM P w K mg base AHouse "found" k ["self","looker","name","outcomes"] (spFound AHouse)) (clP:Cls K APlainLooks) (nH:NoAttr K APlainLooks "house") (nL:NoAttr K APlainLooks "looker") (nC:NoAttr K APlainLooks "outcomes") (nN:NoAttr K APlainLooks "names"):FnOk P w K mg base CX0 (k + 1) f fd ["self","name"] (spLook K APlainLooks AHouse):=by
 refine F.okQ sc_PlainLooks_look (fun vs H Q E h=>?_) (fun cdv A outer s H vs Q E hr h=>?_)
 ·obtain ⟨r,a,oc,nl,lk,z,ns,kvs,S,R,O,W,fo,rfl,_⟩:=h
  rfl
 obtain ⟨r,a,oc,nl,lk,z,ns,kvs,S,R,O,W,fo,rfl,pk,q⟩:=h
 refine ⟨_,(pss_cons (ps_expr (pe_bm PySem.F.plainAttrs_list PySem.F.slot_list_append PySem.F.type_list_append mt_append (pe_fld (pv 0) rfl) (pa_cons (pv 1) pa_nil)))
  (pss_one (ps_ret (pe_m G_House_found hr (pe_fld (pv 0) rfl) (pa_cons (pe_fld (pv 0) rfl) (pa_cons (pv 1) (pa_cons (pe_fld (pv 0) rfl) pa_nil))))))),?_⟩
 obtain ⟨dx,ei⟩:=pk.ins
 have hfew:=pk.few
 refine ⟨_,rfl,r,APlainLooks,dx,_,.ref nl,rfl,ei,clP,nN,rfl,.inl ⟨rfl,_,SqL.of pk.nm⟩,_,rfl,nl,ns.map V.str,.str z,rfl,rfl,pk.nm,Nat.lt_of_le_of_lt (show (ns.map V.str).length<=1000 by rw [List.length_map]; omega) (by decide),?_⟩
 have k1:Kb [nl] H (upd H nl (.lst (ns.map V.str ++ [.str z]))):=Kb.upd (by simp)
 have t1:=k1.tups pk.nm
 have e1:upd H nl (.lst (ns.map V.str ++ [.str z])) nl = some (.lst ((ns ++ [z]).map V.str)):=by rw [upd_same,List.map_append]; rfl
 have nr:r ∉ [nl]:=fun m=>by rw [List.mem_singleton.mp m,pk.nm] at ei; cases ei
 have no:oc ∉ [nl]:=fun m=>by have:=pk.oc; rw [List.mem_singleton.mp m,pk.nm] at this; cases this
 have ei1:=k1 _ _ nr ei
 have h1:=pk.hs.kb k1 fun c hc m=>pk.na (by rw [← List.mem_singleton.mp m]; exact hc)
 have o1:=k1 _ _ no pk.oc
 have f1:=pk.fo.tups t1
 generalize upd H nl (.lst (ns.map V.str ++ [.str z])) = H1 at k1 t1 e1 ei1 h1 o1 f1
 obtain ⟨dxh,eih⟩:=h1.ins
 refine ⟨_,rfl,r,APlainLooks,dx,_,.ref a.p,rfl,ei1,clP,nH,rfl,a.p,dxh,_,rfl,eih,rfl,_,rfl,r,APlainLooks,dx,_,.str lk,rfl,ei1,clP,nL,rfl,_,rfl,_,rfl,r,APlainLooks,dx,_,.ref oc,rfl,ei1,clP,nC,rfl,?_⟩
 refine ⟨a,S,R,O,W,lk,z,oc,kvs,rfl,h1,pk.lkn,pk.zn,pk.rm,o1,?_⟩
 rcases f1 with ⟨v,x,hv,rx,rfl⟩ | ⟨hv,hR,ro⟩
 ·exact .inl ⟨v,hv,fun p H' s e=>q _ H' (s _ _ e1) (k1.trans (Kb.ofSame s)) ⟨p,v,rfl,.inl e,rx.mono (same_tups' s)⟩⟩
 ·exact .inr ⟨hv,hR,fun H' s=>q _ H' (s _ _ e1) (k1.trans (Kb.ofSame s)) (ro.mono s)⟩
def lookR (z:Str):Rl:=.op .look [] [.lit (.txt z)]
def plusR (z:Str) (i:Int):Rl:=.op .add [] [lookR z,.lit (.num i)]
theorem lookR_toW (z:Str):(lookR z).toW = .lst [.txt "look",.lst [.txt "lit",.txt z]]:=by
 unfold lookR
 rw [Rl.toW]
 simp only [List.map_nil,List.nil_append,rlWs]
 rw [Rl.toW]
 rfl
theorem plusR_toW (z:Str) (i:Int):(plusR z i).toW = .lst [.txt "+",(lookR z).toW,.lst [.txt "lit",.num i]]:=by
 unfold plusR
 rw [Rl.toW]
 simp only [List.map_nil,List.nil_append,rlWs]
 rw [show (Rl.lit (.num i)).toW = .lst [.txt "lit",.num i] by rw [Rl.toW]]
 rfl
theorem RW.two_inv {H:Hp}{v:V}{s:Str}{x:W} (h:RW H v (.lst [.txt s,x])):∃ a u,v = .ref a/\H a = some (.tup [.str s,u])/\RW H u x:=by
 obtain ⟨a,vs,rfl,e,r⟩:=h.inv_lst
 obtain ⟨v1,r1,rfl,h1,h2⟩:=r.inv_cons
 obtain ⟨v2,r2,rfl,h3,h4⟩:=h2.inv_cons
 obtain rfl:=h4.inv_nil
 cases h1.inv_txt
 exact ⟨a,v2,rfl,e,h3⟩
theorem RW.three_inv {H:Hp}{v:V}{s:Str}{x y:W} (h:RW H v (.lst [.txt s,x,y])):∃ a u1 u2,v = .ref a/\H a = some (.tup [.str s,u1,u2])/\RW H u1 x/\RW H u2 y:=by
 obtain ⟨a,vs,rfl,e,r⟩:=h.inv_lst
 obtain ⟨v1,r1,rfl,h1,h2⟩:=r.inv_cons
 obtain ⟨v2,r2,rfl,h3,h4⟩:=h2.inv_cons
 obtain ⟨v3,r3,rfl,h5,h6⟩:=h4.inv_cons
 obtain rfl:=h6.inv_nil
 cases h1.inv_txt
 exact ⟨a,v2,v3,rfl,e,h3,h5⟩
def kvsG (f1 f2 f3 f4 f5 f6 f7 f8 f9:Addr):List (Key × V):=[(.inr "lit",.ref f1),(.inr "var",.ref f2),(.inr "let",.ref f3),(.inr "if",.ref f4),(.inr "each",.ref f5),(.inr "over",.ref f6),(.inr "look",.ref f7),(.inr "else",.ref f8),(.inr "cry",.ref f9)]
def RcTo (K:PySem.W.Frag) (o:Oc) (H':Hp) (Q:VK):Prop:=∀ (p:Addr) (ov sv:V),H' p = some (.tup [ov,sv])->RO K H' ov o->Q (.ref p) H'
def addO (i:Int):Oc->Oc
 | .made (.num j)=>.made (.num (j + i))
 | .made _=>.kind
 | .kind=>.kind
 | .stop=>.stop
def Nt (i:Int):Oc->Prop
 | .made (.num j)=>Big (j + i)
 | .made (.txt _)=>True
 | .made (.lst _)=>False
 | _=>True
def LitTo (K:PySem.W.Frag) (H:Hp) (ev:V) (Q:VK):Prop:=∃ x,RW H ev (Rl.lit x).toW/\∀ H',Same H H'->RcTo K (.made x) H' Q
def LookTo (K:PySem.W.Frag) (AP AH:Addr) (H:Hp) (rv ev:V) (Q:VK):Prop:=∃ (r:Addr) (a:Hd) (oc nl:Addr) (lk z:Str) (ns:List Str) (kvs S R:Kvs) (O W:List Str) (fo:Oc),rv = .ref r/\RW H ev (lookR z).toW/\Pk K AP AH H r a oc nl lk z ns kvs S R O W fo /\
 ∀ H',H' nl = some (.lst ((ns ++ [z]).map V.str))->Kb [nl] H H'->RcTo K fo H' Q
def PlusTo (K:PySem.W.Frag) (AP AH:Addr) (H:Hp) (rv ev:V) (Q:VK):Prop:=∃ (r:Addr) (a:Hd) (oc nl:Addr) (lk z:Str) (ns:List Str) (kvs S R:Kvs) (O W:List Str) (fo:Oc) (i:Int),rv = .ref r/\RW H ev (plusR z i).toW/\(∃ sc,(plusR z i).Fit sc)/\Nt i fo/\Pk K AP AH H r a oc nl lk z ns kvs S R O W fo /\
 ∀ H',H' nl = some (.lst ((ns ++ [z]).map V.str))->Kb [nl] H H'->RcTo K (addO i fo) H' Q
def spLitG (K:PySem.W.Frag):Sp:=fun vs H Q _=>∃ rv ev bv,vs = [rv,ev,bv]/\LitTo K H ev Q
def spLookG (K:PySem.W.Frag) (AP AH:Addr) (n:Nat):Sp:=fun vs H Q _=>∃ rv ev bv,vs = [rv,ev,bv]/\1<=n/\LookTo K AP AH H rv ev Q
def spPlusG (K:PySem.W.Frag) (AP AH:Addr) (n:Nat):Sp:=fun vs H Q _=>∃ rv ev bv,vs = [rv,ev,bv]/\2<=n/\PlusTo K AP AH H rv ev Q
def spRec (K:PySem.W.Frag) (AP AH:Addr) (n:Nat):Sp:=fun vs H Q _=>∃ rv ev bv,vs = [rv,ev,bv]/\((1<=n/\LitTo K H ev Q)\/(2<=n/\LookTo K AP AH H rv ev Q)\/(3<=n/\PlusTo K AP AH H rv ev Q))
def spThru (K:PySem.W.Frag) (AP AH:Addr) (n:Nat):Sp:=fun vs H Q _=>∃ (r:Addr) (a:Hd) (oc nl:Addr) (lk z:Str) (ns:List Str) (kvs S R:Kvs) (O W:List Str) (fo:Oc) (i:Int) (pl:Addr) (e1 e2 bv:V),vs = [.ref r,.ref pl,bv]/\2<=n/\H pl = some (.lst [e1,e2])/\RW H e1 (lookR z).toW/\RW H e2 (Rl.lit (.num i)).toW/\pl≠nl/\Pk K AP AH H r a oc nl lk z ns kvs S R O W fo /\
 ∀ (l:Addr) (H':Hp),H l = none->H' nl = some (.lst ((ns ++ [z]).map V.str))->Kb [nl] H H'->
  (fo.isMade = false->∀ p ov sv,H' l = some (.lst [.ref p])->H' p = some (.tup [ov,sv])->RO K H' ov fo->Q (.ref l) H') /\
  (fo.isMade = true->∀ p ov sv p2 ov2 sv2,H' l = some (.lst [.ref p,.ref p2])->H' p = some (.tup [ov,sv])->RO K H' ov fo->H' p2 = some (.tup [ov2,sv2])->RO K H' ov2 (.made (.num i))->Q (.ref l) H')
theorem sc_go_lit:FnScope ["run","expression","bound"] ["run","expression","bound"] (defScope s_go_lit):=⟨rfl,rfl,rfl,by decide +kernel,rfl,by decide +kernel,by decide +kernel⟩
theorem ok_go_lit (F:Fun K "go_lit" "go_lit" s_go_lit f fd):FnOk P w K mg base CX0 (k + 1) f fd ["run","expression","bound"] (spLitG K):=by
 refine F.okQ sc_go_lit (fun vs H Q E h=>?_) (fun cdv A outer s H vs Q E hr h=>?_)
 ·obtain ⟨rv,ev,bv,rfl,_⟩:=h
  rfl
 obtain ⟨rv,ev,bv,rfl,x,re,q⟩:=h
 refine ⟨_,(pss_one (ps_ret (pe_tup (pa_cons (pe_tup (pa_cons pe_str (pa_cons (pe_ix ix_tup (pv 1) pe_int (fun _ _=>rfl)) pa_nil))) (pa_cons (pe_tup pa_nil) pa_nil))))),?_⟩
 rw [Rl.toW] at re
 obtain ⟨a,u,rfl,ea,ru⟩:=re.two_inv
 refine ⟨_,rfl,a,_,1,_,rfl,rfl,SqT.of ea,rfl,zl2,fun p hp=>⟨zl0,fun t ht=>⟨zl2,fun p2 hp2=>?_⟩⟩⟩
 have s1:=Same.new (o:=.tup [.str "made",u]) hp
 have e1:=upd_same (H:=H) (a:=p) (o:=.tup [.str "made",u])
 have s2:=Same.new (o:=.tup []) ht
 have s3:=Same.new (o:=.tup [.ref p,.ref t]) hp2
 exact q _ (s1.trans (s2.trans s3)) p2 _ _ upd_same ⟨p,u,rfl,.inl (s3 _ _ (s2 _ _ e1)),ru.mono (same_tups' (s1.trans (s2.trans s3)))⟩
theorem sc_go_look:FnScope ["run","expression","bound","first"] ["run","expression","bound"] (defScope s_go_look):=⟨rfl,rfl,rfl,by decide +kernel,rfl,by decide +kernel,by decide +kernel⟩
theorem ok_go_look (F:Fun K "go_look" "go_look" s_go_look f fd) (G_PlainLooks_look:HaveM P w K mg base APlainLooks "look" k ["self","name"] (spLook K APlainLooks AHouse)) (G_worth_of:Have P w K mg base "worth_of" k ["record"] (spWorthOf K)) (G_is_made:Have P w K mg base "is_made" k ["record"] (spIsMade K)) (G_as_last:Have P w K mg base "as_last" k ["records"] (spAsLast)) (G_record_of:Have P w K mg base "record_of" k ["run","expression","bound"] (spRec K APlainLooks AHouse n)) (m_isi:mg "isinstance" = none) (m_str:mg "str" = none) {g_KIND:Addr} (m_KIND:mg "KIND" = some (.ref g_KIND)) (t_KIND:∀ H:Hp,SqT K H g_KIND [.str "wrong",.str "kind",.str ""]):FnOk P w K mg base CX0 (k + 1) f fd ["run","expression","bound"] (spLookG K APlainLooks AHouse n):=by
 refine F.okQ sc_go_look (fun vs H Q E h=>?_) (fun cdv A outer s H vs Q E hr h=>?_)
 ·obtain ⟨rv,ev,bv,rfl,_⟩:=h
  rfl
 obtain ⟨rv,ev,bv,rfl,hn,r,a,oc,nl,lk,z,ns,kvs,S,R,O,W,fo,rfl,re,pk,q⟩:=h
 refine ⟨_,(pss_cons (ps_set (i:=3) sc_go_look.nd rfl (Or.inl rfl) (pe_fn G_record_of hr rfl (pa_cons (pv 0) (pa_cons (pe_ix ix_tup (pv 1) pe_int (fun _ _=>rfl)) (pa_cons (pv 2) pa_nil)))))
  (pss_cons (ps_if (pt_not (pt_val (pe_fn G_is_made hr rfl (pa_cons (pv 3) pa_nil)))) (pss_one (ps_ret (pe_fn G_as_last hr rfl (pa_cons (pe_lst (pa_cons (pv 3) pa_nil)) pa_nil)))) pss_nil)
  (pss_cons (ps_if (pt_not (pt_val (pe_callB call_isi rfl m_isi boot_isi (pa_cons (pe_fn G_worth_of hr rfl (pa_cons (pv 3) pa_nil)) (pa_cons (pe_ty rfl m_str boot_strT) pa_nil))))) (pss_one (ps_ret (pe_tup (pa_cons (pe_glob (v:=.ref g_KIND) rfl m_KIND rfl) (pa_cons (pe_tup (pa_cons (pv 3) pa_nil)) pa_nil))))) pss_nil)
  (pss_one (ps_ret (pe_tup (pa_cons (pe_m G_PlainLooks_look hr (pv 0) (pa_cons (pe_fn G_worth_of hr rfl (pa_cons (pv 3) pa_nil)) pa_nil)) (pa_cons (pe_tup (pa_cons (pv 3) pa_nil)) pa_nil)))))))),?_⟩
 rw [lookR_toW] at re
 obtain ⟨e,u,rfl,ee,ru⟩:=re.two_inv
 refine ⟨_,rfl,_,rfl,e,_,1,_,rfl,rfl,SqT.of ee,rfl,_,rfl,_,_,_,rfl,.inl ⟨hn,.txt z,by rw [Rl.toW]; exact ru,fun H1 s1 p ov sv ep ro=>?_⟩⟩
 have pk1:=pk.same s1
 dsimp only [gName]
 refine ⟨_,rfl,p,ov,sv,_,rfl,ep,ro,_,rfl,iteF ⟨_,rfl,p,ov,sv,_,rfl,ep,ro,fun u' ru'=>?_⟩⟩
 cases ru'
 refine ⟨_,_,"str",true,rfl,.str z,isi_ss,_,rfl,iteF ?_⟩
 obtain ⟨dx,ei⟩:=pk1.ins
 refine ⟨_,rfl,r,dx,_,rfl,ei,rfl,_,rfl,p,ov,sv,_,rfl,ep,ro,fun u'' ru''=>?_⟩
 cases ru''
 refine ⟨r,a,oc,nl,lk,z,ns,kvs,S,R,O,W,fo,rfl,pk1,fun v H2 en k2 ro2=>?_⟩
 refine ⟨_,rfl,zl1,fun t ht=>⟨zl2,fun p2 hp2=>?_⟩⟩
 have s3:=Same.new (o:=.tup [.ref p]) ht
 have s4:=Same.new (o:=.tup [v,.ref t]) hp2
 exact q _ ((s3.trans s4) _ _ en) ((Kb.ofSame s1).trans (k2.trans (Kb.ofSame (s3.trans s4)))) p2 _ _ upd_same (ro2.mono (s3.trans s4))
theorem sc_go_through:FnScope ["run","expressions","bound","records","expression"] ["run","expressions","bound"] (defScope s_go_through):=⟨rfl,rfl,rfl,by decide +kernel,rfl,by decide +kernel,by decide +kernel⟩
theorem ok_go_through (F:Fun K "go_through" "go_through" s_go_through f fd) (G_is_made:Have P w K mg base "is_made" k ["record"] (spIsMade K)) (G_record_of:Have P w K mg base "record_of" k ["run","expression","bound"] (spRec K APlainLooks AHouse n)):FnOk P w K mg base CX0 (k + 1) f fd ["run","expressions","bound"] (spThru K APlainLooks AHouse n):=by
 refine F.okQ sc_go_through (fun vs H Q E h=>?_) (fun cdv A outer s H vs Q E hr h=>?_)
 ·obtain ⟨r,a,oc,nl,lk,z,ns,kvs,S,R,O,W,fo,i,pl,e1,e2,bv,rfl,_⟩:=h
  rfl
 obtain ⟨r,a,oc,nl,lk,z,ns,kvs,S,R,O,W,fo,i,pl,e1,e2,bv,rfl,hn,epl,r1,r2,npl,pk,q⟩:=h
 refine ⟨_,(pss_cons (ps_set (i:=3) sc_go_through.nd rfl (Or.inl rfl) (pe_lst pa_nil))
  (pss_cons (ps_for PassesOwn.never rfl (pi_list (pv 1)) (pg_name (i:=4) sc_go_through.nd rfl (Or.inl rfl)) (pss_cons (ps_expr (pe_bm PySem.F.plainAttrs_list PySem.F.slot_list_append PySem.F.type_list_append mt_append (pv 3) (pa_cons (pe_fn G_record_of hr rfl (pa_cons (pv 0) (pa_cons (pv 4) (pa_cons (pv 2) pa_nil)))) pa_nil)))
  (pss_one (ps_if (pt_not (pt_val (pe_fn G_is_made hr rfl (pa_cons (pe_ix ix_list (pv 3) (pe_un un_neg pe_int) (fun _ _=>rfl)) pa_nil)))) (pss_one (ps_ret (pv 3))) pss_nil))))
  (pss_one (ps_ret (pv 3))))),?_⟩
 refine ⟨zl0,fun l hl=>?_⟩
 have s1:=Same.new (o:=.lst []) hl
 have el:upd H l (.lst []) l = some (.lst []):=upd_same
 have nln:l≠nl:=(ne_of_none pk.nm hl).symm
 have npl':pl≠l:=ne_of_none epl hl
 have pk1:=pk.same s1
 have r11:=r1.mono (same_tups' s1)
 have r21:=r2.mono (same_tups' s1)
 have epl1:=s1 _ _ epl
 generalize upd H l (.lst []) = H1 at s1 el pk1 r11 r21 epl1
 dsimp only [gName]
 refine ⟨_,rfl,pl,rfl,⟨_,SqL.of epl1⟩,for_list (K:=K) (xs:=[e1,e2]) (fun j σ' H'=>∃ o4:Option V,σ' = [some (.ref r),some (.ref pl),some bv,some (.ref l),o4]/\H' pl = some (.lst [e1,e2])/\((j = 0/\H' = H1)\/(H' nl = some (.lst ((ns ++ [z]).map V.str))/\Kb [nl] H H'/\fo.isMade = true/\∃ p ov sv,H' p = some (.tup [ov,sv])/\RO K H' ov fo/\((j = 1/\H' l = some (.lst [.ref p])/\RW H' e2 (Rl.lit (.num i)).toW)\/(j = 2/\∃ p2 ov2 sv2,H' l = some (.lst [.ref p,.ref p2])/\H' p2 = some (.tup [ov2,sv2])/\RO K H' ov2 (.made (.num i)))))))
  ⟨none,rfl,epl1,.inl ⟨rfl,rfl⟩⟩ (fun j σ' H' _ h=>?_) (fun j x σ' H' hx h=>?_) (fun σ' H' h=>?_)⟩
 ·obtain ⟨_,_,e,_⟩:=h
  exact SqL.of e
 ·obtain ⟨o4,rfl,ep',h⟩:=h
  rcases h with ⟨rfl,rfl⟩ | ⟨en,kb,hm,p,ov,sv,ep,ro,h⟩
  ·cases hx
   refine ⟨_,rfl,.inl ⟨rfl,_,SqL.of el⟩,_,rfl,_,rfl,_,rfl,_,_,_,rfl,.inr (.inl ⟨hn,r,a,oc,nl,lk,z,ns,kvs,S,R,O,W,fo,rfl,r11,pk1,fun H2 en k2 p ov sv ep ro=>?_⟩)⟩
   have el2:=k2 _ _ (fun m=>nln (List.mem_singleton.mp m)) el
   refine ⟨l,[],.ref p,rfl,rfl,el2,(by show 0 < sizeLine; decide),?_⟩
   have t3:=tups_put (o:=.lst ([] ++ [.ref p])) el2
   have ep3:=t3 _ _ ep
   have ro3:=ro.tups t3
   have en3:upd H2 l (.lst ([] ++ [.ref p])) nl = some (.lst ((ns ++ [z]).map V.str)):=by rw [upd_ne nln.symm]; exact en
   have k3:Kb [nl] H (upd H2 l (.lst ([] ++ [.ref p]))):=fun c o hc e=>by
    rw [upd_ne (ne_of_none e hl)]
    exact k2 c o hc (s1 _ _ e)
   have epl3:upd H2 l (.lst ([] ++ [.ref p])) pl = some (.lst [e1,e2]):=by rw [upd_ne npl']; exact k2 _ _ (fun m=>npl (List.mem_singleton.mp m)) epl1
   have r23:=(r21.mono (k2.tups pk1.nm)).mono t3
   have el3:upd H2 l (.lst ([] ++ [.ref p])) l = some (.lst [.ref p]):=upd_same
   generalize upd H2 l (.lst ([] ++ [.ref p])) = H3 at t3 ep3 ro3 en3 k3 epl3 r23 el3
   refine ⟨_,rfl,_,rfl,l,_,-1,_,rfl,rfl,SqL.of el3,rfl,p,ov,sv,fo,rfl,ep3,ro3,_,rfl,?_⟩
   cases hm:fo.isMade with
   | false=>exact iteT ⟨_,rfl,(q l H3 hl en3 k3).1 hm p ov sv el3 ep3 ro3⟩
   | true=>exact iteF ⟨_,rfl,epl3,.inr ⟨en3,k3,rfl,p,ov,sv,ep3,ro3,.inl ⟨rfl,el3,r23⟩⟩⟩
  ·rcases h with ⟨rfl,el',r2'⟩ | ⟨rfl,_⟩
   rotate_left
   ·cases hx
   cases hx
   refine ⟨_,rfl,.inl ⟨rfl,_,SqL.of el'⟩,_,rfl,_,rfl,_,rfl,_,_,_,rfl,.inl ⟨by omega,_,r2',fun H2 s2 p2 ov2 sv2 ep2 ro2=>?_⟩⟩
   have el2:=s2 _ _ el'
   refine ⟨l,[.ref p],.ref p2,rfl,rfl,el2,(by show 1 < sizeLine; decide),?_⟩
   have t3:=tups_put (o:=.lst ([.ref p] ++ [.ref p2])) el2
   have en3:upd H2 l (.lst ([.ref p] ++ [.ref p2])) nl = some (.lst ((ns ++ [z]).map V.str)):=by rw [upd_ne nln.symm]; exact s2 _ _ en
   have k3:Kb [nl] H (upd H2 l (.lst ([.ref p] ++ [.ref p2]))):=fun c o hc e=>by
    rw [upd_ne (ne_of_none e hl)]
    exact s2 _ _ (kb c o hc e)
   have epl3:upd H2 l (.lst ([.ref p] ++ [.ref p2])) pl = some (.lst [e1,e2]):=by rw [upd_ne npl']; exact s2 _ _ ep'
   have el3:upd H2 l (.lst ([.ref p] ++ [.ref p2])) l = some (.lst [.ref p,.ref p2]):=upd_same
   have ep3:=t3 _ _ (s2 _ _ ep)
   have ro3:=(ro.mono s2).tups t3
   have ep23:=t3 _ _ ep2
   have ro23:=ro2.tups t3
   generalize upd H2 l (.lst ([.ref p] ++ [.ref p2])) = H3 at t3 en3 k3 epl3 el3 ep3 ro3 ep23 ro23
   refine ⟨_,rfl,_,rfl,l,_,-1,_,rfl,rfl,SqL.of el3,rfl,p2,ov2,sv2,_,rfl,ep23,ro23,_,rfl,iteF ?_⟩
   exact ⟨_,rfl,epl3,.inr ⟨en3,k3,hm,p,ov,sv,ep3,ro3,.inr ⟨rfl,p2,ov2,sv2,el3,ep23,ro23⟩⟩⟩
 ·obtain ⟨o4,rfl,ep',h⟩:=h
  rcases h with ⟨h0,_⟩ | ⟨en,kb,hm,p,ov,sv,ep,ro,h⟩
  ·cases h0
  ·rcases h with ⟨h1,_⟩ | ⟨_,p2,ov2,sv2,el3,ep2,ro2⟩
   ·cases h1
   ·exact ⟨_,rfl,(q l H' hl en kb).2 hm p ov sv p2 ov2 sv2 el3 ep ro ep2 ro2⟩
theorem sc_go_reckoned:FnScope ["run","expression","bound","records"] ["run","expression","bound"] (defScope s_go_reckoned):=⟨rfl,rfl,rfl,by decide +kernel,rfl,by decide +kernel,by decide +kernel⟩
theorem ok_go_reckoned (F:Fun K "go_reckoned" "go_reckoned" s_go_reckoned f fd) (G_reckoned:Have P w K mg base "reckoned" k ["word","worths"] (spReck28 K)) (G_worth_of:Have P w K mg base "worth_of" k ["record"] (spWorthOf K)) (G_is_made:Have P w K mg base "is_made" k ["record"] (spIsMade K)) (G_as_last:Have P w K mg base "as_last" k ["records"] (spAsLast)) (G_go_through:Have P w K mg base "go_through" k ["run","expressions","bound"] (spThru K APlainLooks AHouse n)) (G_parts_of:Have P w K mg base "parts_of" k ["expression"] (spPartsOf)) (m_len:mg "len" = none) (m_tuple:mg "tuple" = none):FnOk P w K mg base CX0 (k + 1) f fd ["run","expression","bound"] (spPlusG K APlainLooks AHouse n):=by
 refine F.okQ sc_go_reckoned (fun vs H Q E h=>?_) (fun cdv A outer s H vs Q E hr h=>?_)
 ·obtain ⟨rv,ev,bv,rfl,_⟩:=h
  rfl
 obtain ⟨rv,ev,bv,rfl,hn,r,a,oc,nl,lk,z,ns,kvs,S,R,O,W,fo,i,rfl,re,hfit,hnt,pk,q⟩:=h
 refine ⟨_,(pss_cons (ps_set (i:=3) sc_go_reckoned.nd rfl (Or.inl rfl) (pe_fn G_go_through hr rfl (pa_cons (pv 0) (pa_cons (pe_fn G_parts_of hr rfl (pa_cons (pv 1) pa_nil)) (pa_cons (pv 2) pa_nil)))))
  (pss_cons (ps_if (PW.pt (pw_and (pt_cmpR op_gt (pe_callB call_len rfl m_len PySem.boot_len (pa_cons (pv 3) pa_nil)) pe_int (nomark _)) (pw_and1 (pt_not (pt_val (pe_fn G_is_made hr rfl (pa_cons (pe_ix ix_list (pv 3) (pe_un un_neg pe_int) (fun _ _=>rfl)) pa_nil))))))) (pss_one (ps_ret (pe_fn G_as_last hr rfl (pa_cons (pv 3) pa_nil)))) pss_nil)
  (pss_one (ps_ret (pe_tup (pa_cons (pe_fn G_reckoned hr rfl (pa_cons (pe_ix ix_tup (pv 1) pe_int (fun _ _=>rfl)) (pa_cons (pe_lcomp [] [] rfl rfl (by decide +kernel) rfl (by decide +kernel) rfl (by decide +kernel) trivial rfl trivial (pi_list (pv 3)) (fun C s H fp=>⟨pifs_nil,(pe_fn G_worth_of hr rfl (pa_cons (pv 0) pa_nil))⟩)) pa_nil))) (pa_cons (pe_callTy call_tuple_of rfl m_tuple boot_tupleT (pa_cons (pv 3) pa_nil)) pa_nil))))))),?_⟩
 have hmany:(plusR z i).many<=100:=by
  unfold plusR lookR
  simp only [Rl.many,manys]
  omega
 refine ⟨_,rfl,_,rfl,ev,plusR z i,rfl,re,hfit,hmany,fun pl us H1 hpl s1 epl hus=>?_⟩
 have re1:=re.mono (same_tups' s1)
 rw [plusR_toW] at re1
 obtain ⟨e,u1,u2,rfl,ee,_,_⟩:=re1.three_inv
 have hk:rlWs (kidsOf (plusR z i)) = [(lookR z).toW,(Rl.lit (.num i)).toW]:=by
  unfold plusR
  simp only [kidsOf,rlWs]
 rw [hk] at hus
 obtain ⟨v1,r1,rfl,h1,h2⟩:=hus.inv_cons
 obtain ⟨v2,r2,rfl,h3,h4⟩:=h2.inv_cons
 obtain rfl:=h4.inv_nil
 have pk1:=pk.same s1
 refine ⟨_,rfl,r,a,oc,nl,lk,z,ns,kvs,S,R,O,W,fo,i,pl,v1,v2,bv,rfl,hn,epl,h1,h3,(ne_of_none pk.nm hpl).symm,pk1,fun l H2 hl en k2=>⟨fun hm p ov sv el ep ro=>?_,fun hm p ov sv p2 ov2 sv2 el ep ro ep2 ro2=>?_⟩⟩
 ·dsimp only [gName]
  refine ⟨_,rfl,_,_,rfl,.inl ⟨_,SqL.of el,rfl⟩,_,_,rfl,rfl,_,rfl,iteT ⟨_,rfl,_,rfl,l,_,-1,_,rfl,rfl,SqL.of el,rfl,p,ov,sv,fo,rfl,ep,ro,_,rfl,?_⟩⟩
  rw [hm]
  refine iteT ⟨_,rfl,l,p,_,ov,sv,rfl,el,(by show 1<=10; decide),rfl,ep,fun p3 sv' H3 s3 e3=>?_⟩
  have ha:addO i fo = fo:=by
   cases fo with
   | made x=>cases hm
   | kind=>rfl
   | stop=>rfl
  rw [ha] at q
  exact q H3 (s3 _ _ en) ((Kb.ofSame s1).trans (k2.trans (Kb.ofSame s3))) p3 ov sv' e3 (ro.mono s3)
 ·dsimp only [gName]
  refine ⟨_,rfl,_,_,rfl,.inl ⟨_,SqL.of el,rfl⟩,_,_,rfl,rfl,_,rfl,iteT ⟨_,rfl,_,rfl,l,_,-1,_,rfl,rfl,SqL.of el,rfl,p2,ov2,sv2,_,rfl,ep2,ro2,_,rfl,iteF ?_⟩⟩
  have ee2:=k2 _ _ (fun m=>by rw [List.mem_singleton.mp m,pk1.nm] at ee; cases ee) ee
  obtain ⟨x,rfl⟩:∃ x,fo = .made x:=by
   cases fo with
   | made x=>exact ⟨x,rfl⟩
   | kind=>cases hm
   | stop=>cases hm
  obtain ⟨b1,w1,rfl,sq1,rx1⟩:=id ro
  obtain ⟨b2,w2,rfl,sq2,rx2⟩:=id ro2
  obtain rfl:w2 = .int i:=by cases rx2; rfl
  have hw1:∀ (G:Hp) (u':V),RW G u' x->u' = w1:=fun G u' h=>by
   cases x with
   | num j'=>cases h; cases rx1; rfl
   | txt z'=>cases h; cases rx1; rfl
   | lst ws=>exact hnt.elim
  refine ⟨_,rfl,e,_,0,_,rfl,rfl,SqT.of ee2,rfl,?_⟩
  refine rd_mapL [w1,.int i] (by rfl) (SqL.of el) rfl zl2 (fun j v y G R hv hy s1' hR=>?_) (fun G D s3 hD=>?_)
  ·match j,hv,hy with
   | 0,hv,hy=>
    cases hv
    cases hy
    refine ⟨_,rfl,p,_,sv,x,rfl,s1' _ _ ep,ro.mono s1',fun u' ru'=>?_⟩
    rw [hw1 _ _ ru']
    exact hR _ (Same.refl _)
   | 1,hv,hy=>
    cases hv
    cases hy
    refine ⟨_,rfl,p2,_,sv2,_,rfl,s1' _ _ ep2,ro2.mono s1',fun u' ru'=>?_⟩
    cases ru'
    exact hR _ (Same.refl _)
  have s4:=s3.trans (Same.new (o:=.lst [w1,.int i]) hD)
  have eD:upd G D (.lst [w1,.int i]) D = some (.lst [w1,.int i]):=upd_same
  generalize upd G D (.lst [w1,.int i]) = G4 at s4 eD
  have fin:∀ (ov3:V) (G5:Hp),Same G4 G5->RO K G5 ov3 (addO i (.made x))->∀ t,G5 t = none->2<=sizeLine/\∀ p3,upd G5 t (.tup [.ref p,.ref p2]) p3 = none->Q (.ref p3) (upd (upd G5 t (.tup [.ref p,.ref p2])) p3 (.tup [ov3,.ref t])):=fun ov3 G5 s5 ro5 t ht=>⟨by decide,fun p3 hp3=>by
   have s6:=Same.new (o:=.tup [.ref p,.ref p2]) ht
   have s7:=Same.new (o:=.tup [ov3,.ref t]) hp3
   have sA:=(s4.trans s5).trans (s6.trans s7)
   exact q _ (sA _ _ en) ((Kb.ofSame s1).trans (k2.trans (Kb.ofSame sA))) p3 _ _ upd_same (ro5.mono (s6.trans s7))⟩
  cases x with
  | lst ws=>exact hnt.elim
  | num j'=>
   obtain rfl:w1 = .int j':=by cases rx1; rfl
   refine ⟨D,_,i,rfl,eD,.inl ⟨j',rfl,hnt,fun p3 G5 s5 e5=>?_⟩⟩
   exact ⟨_,rfl,l,_,rfl,.inl ⟨SqL.of (s5 _ _ (s4 _ _ el)),fun t ht=>fin _ G5 s5 ⟨p3,_,rfl,.inl e5,.num _⟩ t ht⟩⟩
  | txt z'=>
   obtain rfl:w1 = .str z':=by cases rx1; rfl
   refine ⟨D,_,i,rfl,eD,.inr ⟨z',rfl,fun v3 G5 s5 r5=>?_⟩⟩
   exact ⟨_,rfl,l,_,rfl,.inl ⟨SqL.of (s5 _ _ (s4 _ _ el)),fun t ht=>fin _ G5 s5 r5 t ht⟩⟩
theorem sc_record_of:FnScope ["run","expression","bound"] ["run","expression","bound"] (defScope s_record_of):=⟨rfl,rfl,rfl,by decide +kernel,rfl,by decide +kernel,by decide +kernel⟩
theorem ok_record_of (F:Fun K "record_of" "record_of" s_record_of f fd) (G_go_reckoned:Have P w K mg base "go_reckoned" k ["run","expression","bound"] (spPlusG K APlainLooks AHouse n)) {g_GOING f1 f2 f3 f4 f5 f6 f7 f8 f9:Addr} (m_GOING:mg "GOING" = some (.ref g_GOING)) (d_GOING:MD P w K g_GOING (kvsG f1 f2 f3 f4 f5 f6 f7 f8 f9)) (c1:HaveF P w K mg base f1 k ["run","expression","bound"] (spLitG K)) (c7:HaveF P w K mg base f7 k ["run","expression","bound"] (spLookG K APlainLooks AHouse n)):FnOk P w K mg base CX0 (k + 1) f fd ["run","expression","bound"] (spRec K APlainLooks AHouse (n + 1)):=by
 refine F.okQ sc_record_of (fun vs H Q E h=>?_) (fun cdv A outer s H vs Q E hr h=>?_)
 ·obtain ⟨rv,ev,bv,rfl,_⟩:=h
  rfl
 obtain ⟨rv,ev,bv,rfl,h⟩:=h
 refine ⟨_,(pss_cons (ps_if (pt_cmpR op_inM (pe_ix ix_tup (pv 1) pe_int (fun _ _=>rfl)) (pe_glob (v:=.ref g_GOING) rfl m_GOING rfl) (by rfl)) (pss_one (ps_ret (pe_callF hr (pe_ix ix_mod (pe_glob (v:=.ref g_GOING) rfl m_GOING rfl) (pe_ix ix_tup (pv 1) pe_int (fun _ _=>rfl)) (fun _ _=>rfl)) (pa_cons (pv 0) (pa_cons (pv 1) (pa_cons (pv 2) pa_nil)))))) pss_nil)
  (pss_one (ps_ret (pe_fn G_go_reckoned hr rfl (pa_cons (pv 0) (pa_cons (pv 1) (pa_cons (pv 2) pa_nil))))))),?_⟩
 rcases h with ⟨h1,hl⟩ | ⟨h1,hl⟩ | ⟨h1,hl⟩
 ·obtain ⟨x,re,_⟩:=id hl
  rw [Rl.toW] at re
  obtain ⟨e,u,rfl,ee,_⟩:=re.two_inv
  refine ⟨_,rfl,e,_,0,_,rfl,rfl,SqT.of ee,rfl,g_GOING,_,.inr "lit",rfl,rfl,d_GOING,_,rfl,iteT ?_⟩
  refine ⟨_,rfl,e,_,0,_,rfl,rfl,SqT.of ee,rfl,g_GOING,_,.inr "lit",.ref f1,rfl,rfl,d_GOING,rfl,f1,_,_,rfl,c1,_,rfl,_,rfl,_,rfl,?_⟩
  exact ⟨_,_,_,rfl,hl⟩
 ·obtain ⟨r,a,oc,nl,lk,z,ns,kvs,S,R,O,W,fo,rfl,re,_⟩:=id hl
  rw [lookR_toW] at re
  obtain ⟨e,u,rfl,ee,_⟩:=re.two_inv
  refine ⟨_,rfl,e,_,0,_,rfl,rfl,SqT.of ee,rfl,g_GOING,_,.inr "look",rfl,rfl,d_GOING,_,rfl,iteT ?_⟩
  refine ⟨_,rfl,e,_,0,_,rfl,rfl,SqT.of ee,rfl,g_GOING,_,.inr "look",.ref f7,rfl,rfl,d_GOING,rfl,f7,_,_,rfl,c7,_,rfl,_,rfl,_,rfl,?_⟩
  exact ⟨_,_,_,rfl,by omega,hl⟩
 ·obtain ⟨r,a,oc,nl,lk,z,ns,kvs,S,R,O,W,fo,i,rfl,re,_⟩:=id hl
  rw [plusR_toW] at re
  obtain ⟨e,u1,u2,rfl,ee,_,_⟩:=re.three_inv
  refine ⟨_,rfl,e,_,0,_,rfl,rfl,SqT.of ee,rfl,g_GOING,_,.inr "+",rfl,rfl,d_GOING,_,rfl,?_⟩
  rw [show valV (kvsG f1 f2 f3 f4 f5 f6 f7 f8 f9) (.inr "+") = none by rfl]
  exact iteF ⟨_,rfl,_,rfl,_,rfl,_,_,_,rfl,by omega,hl⟩
def spPI (AP:Addr):Sp:=fun vs H Q _=>∃ (p dx oc:Addr) (a:Hd) (lk:Str),vs = [.ref p,.ref a.p,.str lk,.ref oc]/\H p = some (.ins AP dx [])/\∀ (nl:Addr) (H':Hp),H nl = none->H' p = some (.ins AP dx (fP a lk oc nl))->H' nl = some (.lst [])->(∀ c o,c≠p->H c = some o->H' c = some o)->Q .non H'
def fM (hp oc wt:Addr):List (Str × V):=[("house",.ref hp),("outcomes",.ref oc),("waits",.ref wt)]
def spMI (AM:Addr):Sp:=fun vs H Q _=>∃ (p dx hp:Addr),vs = [.ref p,.ref hp]/\H p = some (.ins AM dx [])/\∀ (oc wt:Addr) (H':Hp),H oc = none->H wt = none->oc≠wt->H' p = some (.ins AM dx (fM hp oc wt))->H' oc = some (.dK [])->H' wt = some (.dK [])->(∀ c o,c≠p->H c = some o->H' c = some o)->Q .non H'
theorem fP_put (a:Hd) (lk:Str) (oc nl:Addr):putF "names" (.ref nl) (putF "outcomes" (.ref oc) (putF "looker" (.str lk) (putF "house" (.ref a.p) []))) = fP a lk oc nl:=by
 with_unfolding_all rfl
theorem fM_put (hp oc wt:Addr):putF "waits" (.ref wt) (putF "outcomes" (.ref oc) (putF "house" (.ref hp) [])) = fM hp oc wt:=by
 with_unfolding_all rfl
structure Cn (m:Nat) (nA:Nat->Str) (wA:Nat->Int) (dA:Nat->Oc) (x:W):Prop where
 few:m<=39
 inj:∀ j k,j<=m->k<=m->nA j = nA k->j = k
 nm:∀ k,k<=m->Nm (nA k)
 rm:∀ j k,j<=m->k<=m->roomOf (nA j) = roomOf (nA k)
 dm:dA m = .made x
 dk:∀ k,k < m->dA k = addO (wA k) (dA (k + 1))
 nt:∀ k,k < m->Nt (wA k) (dA (k + 1))
theorem addO_stop {i:Int}{o:Oc} (h:addO i o = .stop):o = .stop:=by
 cases o with
 | made x=>cases x <;> cases h
 | kind=>cases h
 | stop=>rfl
theorem Cn.go {m:Nat}{nA:Nat->Str}{wA:Nat->Int}{dA:Nat->Oc}{x:W} (h:Cn m nA wA dA x):∀ (d k:Nat),k + d = m->dA k≠.stop
 | 0,k,e,z=>by rw [show k = m by omega,h.dm] at z; cases z
 | d + 1,k,e,z=>by
  rw [h.dk k (by omega)] at z
  exact h.go d (k + 1) (by omega) (addO_stop z)
structure Hc (AH:Addr) (H:Hp) (a:Hd) (S R:Kvs) (O W:List Str) (m:Nat) (nA:Nat->Str) (wA:Nat->Int) (x:D.W):Prop where
 hs:Hs AH a H S R O W
 so:∃ v,valV S (.inr (nA m)) = some v/\RW H v x
 ru:∀ k,k < m->valV S (.inr (nA k)) = none/\∃ rv,valV R (.inr (nA k)) = some rv/\RW H rv (plusR (nA (k + 1)) (wA k)).toW/\∃ sc,(plusR (nA (k + 1)) (wA k)).Fit sc
theorem Hc.kb {AH:Addr}{H H':Hp}{a:Hd}{S R:Kvs}{O W:List Str}{m:Nat}{nA:Nat->Str}{wA:Nat->Int}{x:D.W}{N:List Addr} (h:Hc AH H a S R O W m nA wA x) (k:Kb N H H') (hn:∀ c∈a.all,c ∉ N) (t:Tups H H'):Hc AH H' a S R O W m nA wA x:=
 ⟨h.hs.kb k hn,let ⟨v,e,r⟩:=h.so; ⟨v,e,r.mono t⟩,fun j hj=>let ⟨e,rv,e2,r,f⟩:=h.ru j hj; ⟨e,rv,e2,r.mono t,f⟩⟩
theorem Hc.same {AH:Addr}{H H':Hp}{a:Hd}{S R:Kvs}{O W:List Str}{m:Nat}{nA:Nat->Str}{wA:Nat->Int}{x:D.W} (h:Hc AH H a S R O W m nA wA x) (s:Same H H'):Hc AH H' a S R O W m nA wA x:=
 h.kb (N:=[]) (Kb.ofSame s) (fun _ _ z=>nomatch z) (same_tups' s)
structure CI (K:PySem.W.Frag) (H:Hp) (kvs wv:Kvs) (m:Nat) (nA:Nat->Str) (dA:Nat->Oc) (lo:Nat) (st:Nat->Nat):Prop where
 top:st m = 0\/st m = 3
 le:∀ k,k<=m->st k<=3
 dn:∀ k,k<=m->st k = 3->∃ v,valV kvs (.inr (nA k)) = some v/\RO K H v (dA k)
 nd:∀ k,k<=m->st k≠3->valV kvs (.inr (nA k)) = none
 w1:∀ k,k<=m->st k = 1->valV wv (.inr (nA k)) = some .non
 w2:∀ k,k<=m->st k = 2->valV wv (.inr (nA k)) = some (.str (nA (k + 1)))
 w0:∀ k,k<=m->(st k = 0\/st k = 3)->valV wv (.inr (nA k)) = none
 nx:∀ k,k < m->st k = 2->st (k + 1)≠0
 up:∀ k,k < m->st k = 3->st (k + 1) = 3
 ko:∀ key:Key,(∀ k,k<=m->key≠.inr (nA k))->valV kvs key = none/\valV wv key = none
 kn:(kvs.map (·.1)).Nodup
 wn:(wv.map (·.1)).Nodup
 low:∀ k,k<=m->st k≠0->lo<=k
theorem CI.mono {K:PySem.W.Frag}{H H':Hp}{kvs wv:Kvs}{m:Nat}{nA:Nat->Str}{dA:Nat->Oc}{lo:Nat}{st:Nat->Nat} (h:CI K H kvs wv m nA dA lo st) (t:Tups H H'):CI K H' kvs wv m nA dA lo st:=
 ⟨h.top,h.le,fun k hk e=>let ⟨v,a,b⟩:=h.dn k hk e; ⟨v,a,b.tups t⟩,h.nd,h.w1,h.w2,h.w0,h.nx,h.up,h.ko,h.kn,h.wn,h.low⟩
structure MkS (AM:Addr) (H:Hp) (mk:Addr) (a:Hd) (oc wt:Addr) (kvs wv:Kvs):Prop where
 ins:∃ dx,H mk = some (.ins AM dx (fM a.p oc wt))
 eo:H oc = some (.dK kvs)
 ew:H wt = some (.dK wv)
 ne:oc≠wt
 na:oc ∉ a.all/\wt ∉ a.all
theorem MkS.same {AM:Addr}{H H':Hp}{mk:Addr}{a:Hd}{oc wt:Addr}{kvs wv:Kvs} (h:MkS AM H mk a oc wt kvs wv) (s:Same H H'):MkS AM H' mk a oc wt kvs wv:=
 ⟨let ⟨dx,e⟩:=h.ins; ⟨dx,s _ _ e⟩,s _ _ h.eo,s _ _ h.ew,h.ne,h.na⟩
theorem MkS.setO {AM:Addr}{H:Hp}{mk:Addr}{a:Hd}{oc wt:Addr}{kvs wv:Kvs} (h:MkS AM H mk a oc wt kvs wv) (kv':Kvs):MkS AM (upd H oc (.dK kv')) mk a oc wt kv' wv:=by
 obtain ⟨dx,e⟩:=h.ins
 exact ⟨⟨dx,by rw [upd_ne (fun z=>by rw [z,h.eo] at e; cases e)]; exact e⟩,upd_same,by rw [upd_ne h.ne.symm]; exact h.ew,h.ne,h.na⟩
theorem MkS.setW {AM:Addr}{H:Hp}{mk:Addr}{a:Hd}{oc wt:Addr}{kvs wv:Kvs} (h:MkS AM H mk a oc wt kvs wv) (wv':Kvs):MkS AM (upd H wt (.dK wv')) mk a oc wt kvs wv':=by
 obtain ⟨dx,e⟩:=h.ins
 exact ⟨⟨dx,by rw [upd_ne (fun z=>by rw [z,h.ew] at e; cases e)]; exact e⟩,by rw [upd_ne h.ne]; exact h.eo,upd_same,h.ne,h.na⟩
theorem tupsD {H:Hp}{c:Addr}{kv kv':Kvs} (e:H c = some (.dK kv)):Tups H (upd H c (.dK kv')):=fun b vs h=>by rw [upd_ne (fun z=>by rw [z,e] at h; cases h)]; exact h
def come (m k:Nat) (st:Nat->Nat):Nat->Nat:=fun j=>if j = k/\st k = 0 then (if k = m then 3 else 1) else st j
theorem valV_drop (k j:Key):∀ S:Kvs,valV (dropK S k) j = if j = k then none else valV S j
 | []=>by
  split
  ·rfl
  ·rfl
 | p :: r=>by
  have ih:=valV_drop k j r
  by_cases e:p.1 = k
  ·rw [dropK_pos e,ih]
   by_cases h:j = k
   ·rw [if_pos h,if_pos h]
   ·rw [if_neg h,if_neg h,valV_neg (fun z=>h (z.symm.trans e))]
  ·rw [dropK_neg e]
   by_cases h:p.1 = j
   ·rw [valV_pos h,valV_pos h,if_neg (fun z=>e (h.trans z))]
   ·rw [valV_neg h,valV_neg h,ih]
theorem nd_put {S:Kvs} (k:Key) (v:V) (h:(S.map (·.1)).Nodup):((putK S k v).map (·.1)).Nodup:=by
 cases e:valV S k with
 | none=>exact nd_putK v h e
 | some y=>
  unfold putK
  rw [if_pos (by rw [valV_any,e]; rfl),List.map_map]
  rw [show ((fun x:Key × V=>x.1) ∘ fun kv:Key × V=>if kv.1 = k then (kv.1,v) else kv) = (·.1) from funext fun kv=>by
   show (if kv.1 = k then (kv.1,v) else kv).1 = kv.1
   split <;> rfl]
  exact h
theorem come_same {m k:Nat}{st:Nat->Nat} (h:st k≠0):come m k st = st:=funext fun j=>if_neg fun z=>h z.2
theorem nd_few {α:Type} [DecidableEq α] {l:List α}:∀ {m:List α},l.Nodup->(∀ z∈l,z∈m)->l.length<=m.length:=by
 induction l with
 | nil=>intro m _ _; exact Nat.zero_le _
 | cons a r ih=>
  intro m nd hs
  obtain ⟨h1,h2⟩:=List.nodup_cons.mp nd
  have ha:a∈m:=hs a List.mem_cons_self
  have:=ih (m:=m.erase a) h2 fun z hz=>(List.mem_erase_of_ne (fun e=>h1 (by rw [← e]; exact hz))).mpr (hs z (List.mem_cons_of_mem _ hz))
  rw [List.length_erase_of_mem ha] at this
  have hp:=List.length_pos_of_mem ha
  rw [List.length_cons]
  omega
theorem keys_few {S:Kvs}{m:Nat}{nA:Nat->Str} (hm:m<=39) (nd:(S.map (·.1)).Nodup) (h:∀ key:Key,(∀ k,k<=m->key≠.inr (nA k))->valV S key = none):S.length<=100:=by
 have:=nd_few (m:=(List.range (m + 1)).map fun k=>(Sum.inr (nA k):Key)) nd fun key hk=>by
  by_cases he:∃ k,k<=m/\key = .inr (nA k)
  ·obtain ⟨k,hk',rfl⟩:=he
   exact List.mem_map.mpr ⟨k,List.mem_range.mpr (by omega),rfl⟩
  ·exact absurd hk (valV_not (h key fun k hk' e=>he ⟨k,hk',e⟩))
 rw [List.length_map,List.length_map,List.length_range] at this
 omega
section
variable {K:PySem.W.Frag}{H:Hp}{kvs wv:Kvs}{m:Nat}{nA:Nat->Str}{wA:Nat->Int}{dA:Nat->Oc}{x:W}{lo:Nat}{st:Nat->Nat}
theorem CI.few (h:CI K H kvs wv m nA dA lo st) (cn:Cn m nA wA dA x):kvs.length<=100/\wv.length<=100:=⟨keys_few cn.few h.kn fun key hk=>(h.ko key hk).1,keys_few cn.few h.wn fun key hk=>(h.ko key hk).2⟩
theorem Cn.key (cn:Cn m nA wA dA x) {j k:Nat} (hj:j<=m) (hk:k<=m):((Sum.inr (nA j):Key) = .inr (nA k)) ↔ j = k:=⟨fun e=>cn.inj j k hj hk (Sum.inr.inj e),fun e=>by rw [e]⟩
theorem Cn.put (cn:Cn m nA wA dA x) (S:Kvs) {j k:Nat} (hj:j<=m) (hk:k<=m) (v:V):valV (putK S (.inr (nA k)) v) (.inr (nA j)) = if j = k then some v else valV S (.inr (nA j)):=by
 rw [valV_put]
 by_cases e:j = k
 ·rw [if_pos e,if_pos (by rw [e])]
 ·rw [if_neg e,if_neg (fun z=>e ((cn.key hj hk).mp z))]
theorem Cn.drop (cn:Cn m nA wA dA x) (S:Kvs) {j k:Nat} (hj:j<=m) (hk:k<=m):valV (dropK S (.inr (nA k))) (.inr (nA j)) = if j = k then none else valV S (.inr (nA j)):=by
 rw [valV_drop]
 by_cases e:j = k
 ·rw [if_pos e,if_pos (by rw [e])]
 ·rw [if_neg e,if_neg (fun z=>e ((cn.key hj hk).mp z))]
theorem come_at (m k:Nat) (st:Nat->Nat) (h0:st k = 0):come m k st k = if k = m then 3 else 1:=by unfold come; rw [if_pos ⟨rfl,h0⟩]
theorem come_ne {m k j:Nat}{st:Nat->Nat} (h:j≠k):come m k st j = st j:=by unfold come; rw [if_neg (fun z=>h z.1)]
theorem CI.source (h:CI K H kvs wv m nA dA lo st) (cn:Cn m nA wA dA x) {v:V} (ro:RO K H v (dA m)) (hlo:lo<=m):CI K H (putK kvs (.inr (nA m)) v) wv m nA dA lo (come m m st):=by
 have hm:come m m st m = 3:=by
  by_cases h0:st m = 0
  ·rw [come_at m m st h0,if_pos rfl]
  ·rw [come_same h0]; exact h.top.resolve_left h0
 have hne:∀ j,j < m->come m m st j = st j:=fun j hj=>come_ne (by omega)
 refine ⟨.inr hm,fun j hj=>?_,fun j hj e=>?_,fun j hj e=>?_,fun j hj e=>?_,fun j hj e=>?_,fun j hj e=>?_,fun j hj e=>?_,fun j hj e=>?_,fun key hk=>?_,nd_put _ _ h.kn,h.wn,fun j hj e=>?_⟩
 ·by_cases ej:j = m
  ·rw [ej,hm]; exact Nat.le_refl 3
  ·rw [hne j (by omega)]; exact h.le j hj
 ·rw [cn.put kvs hj (Nat.le_refl m)]
  by_cases ej:j = m
  ·rw [if_pos ej,ej]; exact ⟨v,rfl,ro⟩
  ·rw [if_neg ej]; rw [hne j (by omega)] at e; exact h.dn j hj e
 ·by_cases ej:j = m
  ·rw [ej,hm] at e; exact absurd rfl e
  ·rw [cn.put kvs hj (Nat.le_refl m),if_neg ej]; rw [hne j (by omega)] at e; exact h.nd j hj e
 ·by_cases ej:j = m
  ·rw [ej,hm] at e; cases e
  ·rw [hne j (by omega)] at e; exact h.w1 j hj e
 ·by_cases ej:j = m
  ·rw [ej,hm] at e; cases e
  ·rw [hne j (by omega)] at e; exact h.w2 j hj e
 ·by_cases ej:j = m
  ·rw [ej]; exact h.w0 m (Nat.le_refl m) h.top
  ·rw [hne j (by omega)] at e; exact h.w0 j hj e
 ·rw [hne j hj] at e
  by_cases ej:j + 1 = m
  ·rw [ej,hm]; decide
  ·rw [hne (j + 1) (by omega)]; exact h.nx j hj e
 ·rw [hne j hj] at e
  by_cases ej:j + 1 = m
  ·rw [ej,hm]
  ·rw [hne (j + 1) (by omega)]; exact h.up j hj e
 ·refine ⟨?_,(h.ko key hk).2⟩
  rw [valV_put,if_neg (hk m (Nat.le_refl m))]
  exact (h.ko key hk).1
 ·by_cases ej:j = m
  ·rw [ej]; exact hlo
  ·rw [hne j (by omega)] at e; exact h.low j hj e
theorem CI.wait (h:CI K H kvs wv m nA dA lo st) (cn:Cn m nA wA dA x) {k:Nat} (hk:k < m) (h0:st k = 0) (hlo:lo<=k):CI K H kvs (putK wv (.inr (nA k)) .non) m nA dA lo (come m k st):=by
 have hc:come m k st k = 1:=by rw [come_at m k st h0,if_neg (by omega)]
 have hne:∀ j,j≠k->come m k st j = st j:=fun j hj=>come_ne hj
 have hkm:k<=m:=by omega
 refine ⟨by rw [hne m (by omega)]; exact h.top,fun j hj=>?_,fun j hj e=>?_,fun j hj e=>?_,fun j hj e=>?_,fun j hj e=>?_,fun j hj e=>?_,fun j hj e=>?_,fun j hj e=>?_,fun key hk'=>?_,h.kn,nd_put _ _ h.wn,fun j hj e=>?_⟩
 ·by_cases ej:j = k
  ·rw [ej,hc]; decide
  ·rw [hne j ej]; exact h.le j hj
 ·by_cases ej:j = k
  ·rw [ej,hc] at e; cases e
  ·rw [hne j ej] at e; exact h.dn j hj e
 ·by_cases ej:j = k
  ·rw [ej]; exact h.nd k hkm (by omega)
  ·rw [hne j ej] at e; exact h.nd j hj e
 ·rw [cn.put wv hj hkm]
  by_cases ej:j = k
  ·rw [if_pos ej]
  ·rw [if_neg ej]; rw [hne j ej] at e; exact h.w1 j hj e
 ·rw [cn.put wv hj hkm]
  by_cases ej:j = k
  ·rw [ej,hc] at e; cases e
  ·rw [if_neg ej]; rw [hne j ej] at e; exact h.w2 j hj e
 ·rw [cn.put wv hj hkm]
  by_cases ej:j = k
  ·rw [ej,hc] at e; omega
  ·rw [if_neg ej]; rw [hne j ej] at e; exact h.w0 j hj e
 ·by_cases ej:j = k
  ·rw [ej,hc] at e; cases e
  ·rw [hne j ej] at e
   by_cases e2:j + 1 = k
   ·rw [e2,hc]; decide
   ·rw [hne _ e2]; exact h.nx j hj e
 ·by_cases ej:j = k
  ·rw [ej,hc] at e; cases e
  ·rw [hne j ej] at e
   have:=h.up j hj e
   by_cases e2:j + 1 = k
   ·rw [e2,h0] at this; cases this
   ·rw [hne _ e2]; exact this
 ·refine ⟨(h.ko key hk').1,?_⟩
  rw [valV_put,if_neg (hk' k hkm)]
  exact (h.ko key hk').2
 ·by_cases ej:j = k
  ·rw [ej]; exact hlo
  ·rw [hne j ej] at e; exact h.low j hj e
end
def spCome (K:PySem.W.Frag) (AM AH:Addr):Sp:=fun vs H Q _=>∃ (mk:Addr) (a:Hd) (oc wt:Addr) (kvs wv S R:Kvs) (O W:List Str) (m:Nat) (nA:Nat->Str) (wA:Nat->Int) (dA:Nat->Oc) (x:D.W) (lo:Nat) (st:Nat->Nat) (k:Nat),vs = [.ref mk,.str (nA k)]/\MkS AM H mk a oc wt kvs wv/\Cn m nA wA dA x/\Hc AH H a S R O W m nA wA x/\CI K H kvs wv m nA dA lo st/\k<=m/\lo<=k /\
 ∀ kv' wv' H',MkS AM H' mk a oc wt kv' wv'->Hc AH H' a S R O W m nA wA x->CI K H' kv' wv' m nA dA lo (come m k st)->Kb [oc,wt] H H'->Tups H H'->Q .non H'
theorem sc_PlainLooks___init__:FnScope ["self","house","looker","outcomes"] ["self","house","looker","outcomes"] (defScope s_PlainLooks___init__):=⟨rfl,rfl,rfl,by decide +kernel,rfl,by decide +kernel,by decide +kernel⟩
theorem ok_PlainLooks___init__ (F:Fun K "__init__" "PlainLooks.__init__" s_PlainLooks___init__ f fd) (clP:Cls K APlainLooks) (nH:NoAttr K APlainLooks "house") (nL:NoAttr K APlainLooks "looker") (nC:NoAttr K APlainLooks "outcomes") (nN:NoAttr K APlainLooks "names"):FnOk P w K mg base CX0 (k + 1) f fd ["self","house","looker","outcomes"] (spPI APlainLooks):=by
 refine F.okQ sc_PlainLooks___init__ (fun vs H Q E h=>?_) (fun cdv A outer s H vs Q E hr h=>?_)
 ·obtain ⟨p,dx,oc,a,lk,rfl,_⟩:=h
  rfl
 obtain ⟨p,dx,oc,a,lk,rfl,hp,q⟩:=h
 refine ⟨_,(pss_cons (ps_fld (pv 0) (pv 1) rfl)
  (pss_cons (ps_fld (pv 0) (pv 2) rfl)
  (pss_cons (ps_fld (pv 0) (pv 3) rfl)
  (pss_one (ps_fld (pv 0) (pe_lst pa_nil) rfl))))),?_⟩
 refine ⟨_,rfl,_,rfl,p,APlainLooks,dx,[],rfl,hp,clP,nH,(by show 0 < 1000; decide),?_⟩
 have h1:upd H p (.ins APlainLooks dx (putF "house" (.ref a.p) [])) p = some (.ins APlainLooks dx (putF "house" (.ref a.p) [])):=upd_same
 refine ⟨_,rfl,_,rfl,p,APlainLooks,dx,_,rfl,h1,clP,nL,(by show 1 < 1000; decide),?_⟩
 refine ⟨_,rfl,_,rfl,p,APlainLooks,dx,_,rfl,upd_same,clP,nC,(by show 2 < 1000; decide),?_⟩
 have g3:=upd_same (H:=upd (upd H p (.ins APlainLooks dx (putF "house" (.ref a.p) []))) p (.ins APlainLooks dx (putF "looker" (.str lk) (putF "house" (.ref a.p) [])))) (a:=p) (o:=.ins APlainLooks dx (putF "outcomes" (.ref oc) (putF "looker" (.str lk) (putF "house" (.ref a.p) []))))
 have k3:∀ c,c≠p->upd (upd (upd H p (.ins APlainLooks dx (putF "house" (.ref a.p) []))) p (.ins APlainLooks dx (putF "looker" (.str lk) (putF "house" (.ref a.p) [])))) p (.ins APlainLooks dx (putF "outcomes" (.ref oc) (putF "looker" (.str lk) (putF "house" (.ref a.p) [])))) c = H c:=fun c hc=>by rw [upd_ne hc,upd_ne hc,upd_ne hc]
 generalize upd (upd (upd H p (.ins APlainLooks dx (putF "house" (.ref a.p) []))) p (.ins APlainLooks dx (putF "looker" (.str lk) (putF "house" (.ref a.p) [])))) p (.ins APlainLooks dx (putF "outcomes" (.ref oc) (putF "looker" (.str lk) (putF "house" (.ref a.p) [])))) = G3 at g3 k3
 refine ⟨zl0,fun nl hnl=>?_⟩
 have np:p≠nl:=ne_of_none g3 hnl
 refine ⟨_,rfl,p,APlainLooks,dx,putF "outcomes" (.ref oc) (putF "looker" (.str lk) (putF "house" (.ref a.p) [])),rfl,by rw [upd_ne np]; exact g3,clP,nN,(by show 3 < 1000; decide),?_⟩
 refine q nl _ (by rw [← k3 nl np.symm]; exact hnl) (by rw [upd_same,fP_put]) (by rw [upd_ne np.symm,upd_same]) fun c o hc e=>?_
 rw [← k3 c hc] at e
 rw [upd_ne hc,upd_ne (ne_of_none e hnl)]
 exact e
theorem sc_Maker___init__:FnScope ["self","house"] ["self","house"] (defScope s_Maker___init__):=⟨rfl,rfl,rfl,by decide +kernel,rfl,by decide +kernel,by decide +kernel⟩
theorem ok_Maker___init__ (F:Fun K "__init__" "Maker.__init__" s_Maker___init__ f fd) (clM:Cls K AMaker) (mH:NoAttr K AMaker "house") (mC:NoAttr K AMaker "outcomes") (mW:NoAttr K AMaker "waits"):FnOk P w K mg base CX0 (k + 1) f fd ["self","house"] (spMI AMaker):=by
 refine F.okQ sc_Maker___init__ (fun vs H Q E h=>?_) (fun cdv A outer s H vs Q E hr h=>?_)
 ·obtain ⟨p,dx,hp,rfl,_⟩:=h
  rfl
 obtain ⟨p,dx,hp,rfl,ep,q⟩:=h
 refine ⟨_,(pss_cons (ps_fld (pv 0) (pv 1) rfl)
  (pss_cons (ps_fld (pv 0) pe_dnewK rfl)
  (pss_one (ps_fld (pv 0) pe_dnewK rfl)))),?_⟩
 refine ⟨_,rfl,_,rfl,p,AMaker,dx,[],rfl,ep,clM,mH,(by show 0 < 1000; decide),?_⟩
 have g1:=upd_same (H:=H) (a:=p) (o:=.ins AMaker dx (putF "house" (.ref hp) []))
 have k1:∀ c,c≠p->upd H p (.ins AMaker dx (putF "house" (.ref hp) [])) c = H c:=fun c hc=>upd_ne hc
 generalize upd H p (.ins AMaker dx (putF "house" (.ref hp) [])) = G1 at g1 k1
 refine fun oc hoc=>⟨_,rfl,p,AMaker,dx,putF "house" (.ref hp) [],rfl,?_,clM,mC,(by show 1 < 1000; decide),fun wt hwt=>?_⟩
 ·rw [upd_ne (ne_of_none g1 hoc)]; exact g1
 have n1:p≠oc:=ne_of_none g1 hoc
 have g2:=upd_same (H:=upd G1 oc (.dK [])) (a:=p) (o:=.ins AMaker dx (putF "outcomes" (.ref oc) (putF "house" (.ref hp) [])))
 have n2:p≠wt:=ne_of_none g2 hwt
 have e2:upd (upd G1 oc (.dK [])) p (.ins AMaker dx (putF "outcomes" (.ref oc) (putF "house" (.ref hp) []))) oc = some (.dK []):=by rw [upd_ne n1.symm,upd_same]
 have n3:oc≠wt:=ne_of_none e2 hwt
 refine ⟨_,rfl,p,AMaker,dx,putF "outcomes" (.ref oc) (putF "house" (.ref hp) []),rfl,by rw [upd_ne n2]; exact g2,clM,mW,(by show 2 < 1000; decide),?_⟩
 have hw0:H wt = none:=by
  rw [upd_ne n2.symm,upd_ne n3.symm,k1 wt n2.symm] at hwt
  exact hwt
 refine q oc wt _ (by rw [← k1 oc n1.symm]; exact hoc) hw0 n3 (by rw [upd_same,fM_put]) (by rw [upd_ne n1.symm,upd_ne n3]; exact e2) (by rw [upd_ne n2.symm,upd_same]) fun c o hc e=>?_
 have e1:G1 c = some o:=by rw [k1 c hc]; exact e
 rw [upd_ne hc,upd_ne (ne_of_none e hw0),upd_ne hc,upd_ne (ne_of_none e1 hoc)]
 exact e1
theorem sc_Maker_come_to:FnScope ["self","name"] ["self","name"] (defScope s_Maker_come_to):=⟨rfl,rfl,rfl,by decide +kernel,rfl,by decide +kernel,by decide +kernel⟩
theorem ok_Maker_come_to (F:Fun K "come_to" "Maker.come_to" s_Maker_come_to f fd) (clH:Cls K AHouse) (nS:NoAttr K AHouse "sources") (nR:NoAttr K AHouse "rules") (clM:Cls K AMaker) (mH:NoAttr K AMaker "house") (mC:NoAttr K AMaker "outcomes") (mW:NoAttr K AMaker "waits"):FnOk P w K mg base CX0 (k + 1) f fd ["self","name"] (spCome K AMaker AHouse):=by
 refine F.okQ sc_Maker_come_to (fun vs H Q E h=>?_) (fun cdv A outer s H vs Q E hr h=>?_)
 ·obtain ⟨mk,a,oc,wt,kvs,wv,S,R,O,W,m,nA,wA,dA,x,lo,st,k,rfl,_⟩:=h
  rfl
 obtain ⟨mk,a,oc,wt,kvs,wv,S,R,O,W,m,nA,wA,dA,x,lo,st,k,rfl,ms,cn,hc,ci,hk,hlo,q⟩:=h
 refine ⟨_,(pss_cons (ps_if (pt_cmp (pc_din (hu_of hr) (pv 1) (pe_fld (pe_fld (pv 0) rfl) rfl)) rfl) (pss_one (ps_dput (hu_of hr) (pe_fld (pv 0) rfl) (pv 1) (pe_tup (pa_cons pe_str (pa_cons (pe_dget (hu_of hr) (pe_fld (pe_fld (pv 0) rfl) rfl) (pv 1) (fun _ _=>rfl)) pa_nil))) rfl)) pss_nil)
  (pss_one (ps_if (PW.pt (pw_and (pt_cmp (pc_din (hu_of hr) (pv 1) (pe_fld (pe_fld (pv 0) rfl) rfl)) rfl) (pw_and1 (pt_cmp (pc_dnotin (hu_of hr) (pv 1) (pe_fld (pv 0) rfl)) rfl)))) (pss_one (ps_expr (pe_dsetd (pe_fld (pv 0) rfl) (pv 1) pe_non ⟨rfl,rfl,rfl,rfl⟩))) pss_nil))),?_⟩
 obtain ⟨dx,ei⟩:=ms.ins
 obtain ⟨dxh,eih⟩:=hc.hs.ins
 have dg:=DGet.k (k:=.inr (nA k)) hc.hs.so
 refine ⟨_,rfl,_,rfl,mk,AMaker,dx,_,.ref a.p,rfl,ei,clM,mH,rfl,a.p,AHouse,dxh,_,.ref a.s,rfl,eih,clH,nS,rfl,a.s,_,rfl,dg,_,rfl,?_⟩
 by_cases hkm:k = m
 ·subst hkm
  obtain ⟨v,hv,rv⟩:=hc.so
  rw [hv] at dg ⊢
  refine iteT ⟨_,rfl,mk,AMaker,dx,_,.ref a.p,rfl,ei,clM,mH,rfl,a.p,AHouse,dxh,_,.ref a.s,rfl,eih,clH,nS,rfl,_,rfl,a.s,v,rfl,dg,zl2,fun t ht=>?_⟩
  have s1:=Same.new (o:=.tup [.str "made",v]) ht
  have e1:upd H t (.tup [.str "made",v]) t = some (.tup [.str "made",v]):=upd_same
  have ms1:=ms.same s1
  have hc1:=hc.same s1
  have ci1:=ci.mono (same_tups' s1)
  have rv1:=rv.mono (same_tups' s1)
  generalize upd H t (.tup [.str "made",v]) = H1 at s1 e1 ms1 hc1 ci1 rv1
  obtain ⟨dx1,ei1⟩:=ms1.ins
  refine ⟨_,rfl,mk,AMaker,dx1,_,.ref oc,rfl,ei1,clM,mC,rfl,_,rfl,oc,_,rfl,.inl ⟨kvs,.inr (nA k),ms1.eo,rfl,Nat.lt_of_le_of_lt (ci.few cn).1 (by decide),rfl⟩,?_⟩
  have t2:=tupsD (kv':=putK kvs (.inr (nA k)) (.ref t)) ms1.eo
  have ms2:=ms1.setO (putK kvs (.inr (nA k)) (.ref t))
  have k2:Kb [oc,wt] H1 (upd H1 oc (.dK (putK kvs (.inr (nA k)) (.ref t)))):=Kb.upd (by simp)
  have hc2:=hc1.kb k2 (fun c hc' m=>by rcases List.mem_cons.mp m with e | m; exact ms.na.1 (by rw [← e]; exact hc'); exact ms.na.2 (by rw [← List.mem_singleton.mp m]; exact hc')) t2
  have ci2:=ci1.mono t2
  have ro2:RO K (upd H1 oc (.dK (putK kvs (.inr (nA k)) (.ref t)))) (.ref t) (dA k):=by
   rw [cn.dm]
   exact ⟨t,v,rfl,.inl (t2 _ _ e1),rv1.mono t2⟩
  generalize upd H1 oc (.dK (putK kvs (.inr (nA k)) (.ref t))) = H2 at t2 ms2 k2 hc2 ci2 ro2
  obtain ⟨dx2,ei2⟩:=ms2.ins
  obtain ⟨dxh2,eih2⟩:=hc2.hs.ins
  have ci3:=ci2.source cn ro2 hlo
  have fin:=q _ _ H2 ms2 hc2 ci3 ((Kb.ofSame s1).trans k2) (fun b vs e=>t2 _ _ (s1 _ _ e))
  refine ⟨_,rfl,_,rfl,mk,AMaker,dx2,_,.ref a.p,rfl,ei2,clM,mH,rfl,a.p,AHouse,dxh2,_,.ref a.r,rfl,eih2,clH,nR,rfl,a.r,_,rfl,DGet.k (k:=.inr (nA k)) hc2.hs.ru,_,rfl,?_⟩
  cases (valV R (.inr (nA k))).isSome with
  | false=>exact iteF (iteF fin)
  | true=>
   refine iteT ⟨_,rfl,_,rfl,mk,AMaker,dx2,_,.ref oc,rfl,ei2,clM,mC,rfl,oc,_,rfl,DGet.k (k:=.inr (nA k)) ms2.eo,_,rfl,?_⟩
   rw [valV_put,if_pos rfl]
   exact iteF fin
 ·have hlt:k < m:=by omega
  obtain ⟨hv,rv,hr2,rr⟩:=hc.ru k hlt
  rw [hv]
  refine iteF ⟨_,rfl,_,rfl,mk,AMaker,dx,_,.ref a.p,rfl,ei,clM,mH,rfl,a.p,AHouse,dxh,_,.ref a.r,rfl,eih,clH,nR,rfl,a.r,_,rfl,DGet.k (k:=.inr (nA k)) hc.hs.ru,_,rfl,?_⟩
  rw [hr2]
  refine iteT ⟨_,rfl,_,rfl,mk,AMaker,dx,_,.ref oc,rfl,ei,clM,mC,rfl,oc,_,rfl,DGet.k (k:=.inr (nA k)) ms.eo,_,rfl,?_⟩
  by_cases h3:st k = 3
  ·obtain ⟨v,hv3,_⟩:=ci.dn k hk h3
   rw [hv3]
   refine iteF (q kvs wv H ms hc ?_ (Kb.ofSame (Same.refl _)) (fun _ _ e=>e))
   rw [come_same (by omega)]
   exact ci
  ·rw [ci.nd k hk h3]
   refine iteT ⟨_,rfl,mk,AMaker,dx,_,.ref wt,rfl,ei,clM,mW,rfl,wt,rfl,.inl ⟨wv,.of ms.ew⟩,_,rfl,wv,.inr (nA k),ms.ew,rfl,Nat.lt_of_le_of_lt (ci.few cn).2 (by decide),fun u hu=>?_,fun hu=>?_⟩
   ·have h0:st k≠0:=fun z=>by rw [ci.w0 k hk (.inl z)] at hu; cases hu
    refine q kvs wv H ms hc ?_ (Kb.ofSame (Same.refl _)) (fun _ _ e=>e)
    rw [come_same h0]
    exact ci
   ·have h0:st k = 0:=by
     have hle:=ci.le k hk
     have n1:st k≠1:=fun z=>by rw [ci.w1 k hk z] at hu; cases hu
     have n2:st k≠2:=fun z=>by rw [ci.w2 k hk z] at hu; cases hu
     omega
    have t2:=tupsD (kv':=putK wv (.inr (nA k)) .non) ms.ew
    have k2:Kb [oc,wt] H (upd H wt (.dK (putK wv (.inr (nA k)) .non))):=Kb.upd (by simp)
    exact q kvs _ _ (ms.setW _) (hc.kb k2 (fun c hc' m=>by rcases List.mem_cons.mp m with e | m; exact ms.na.1 (by rw [← e]; exact hc'); exact ms.na.2 (by rw [← List.mem_singleton.mp m]; exact hc')) t2) ((ci.mono t2).wait cn hlt h0 hlo) k2 t2
end
end D
namespace L2
open PySem
def tThawR (H₀:Hp) (t:TS):TS:=fun D σ H=>t { D with rt:=fun v H'=>∃ a o kvs,H' a = some (.frz o (.dK kvs))/\(∀ o u,H₀ a≠some (.frz o u))/\D.rt v (upd H' a (.dK kvs)) } σ H
theorem ps_thawR {X:Cx}{st:Stmt}{t:TS} (h:PS X st t):PS X st (tThawR X.H₀ t):=by
 intro zp s σ H D I ht
 refine thn (h zp s σ H _ I ht) fun f s' hs=>?_
 cases f with
 | next=>exact hs
 | brk=>exact hs
 | cont=>exact hs
 | ret u=>
  obtain ⟨v,σ',H',I',r,a,o,kvs,e,h0,q⟩:=hs
  exact ⟨v,σ',_,I'.thaw e h0,r,q⟩
theorem rd_filtD {fr:List Nat}{tt:TT}{σ:St}{H:Hp}{F:Addr->Hp->List V->Prop}{a:Addr}{kvs:List (Key × V)}{o:Obj} (pr:Key->Bool) (hz:kvs.length<=sizeLine) (hS:H a = some (.frz o (.dK kvs)))
  (step:∀ (kv:Key × V) (H1:Hp) (R:Bool->Hp->Prop),kv∈kvs->Same H H1->(∀ H2,Same H1 H2->R (pr kv.1) H2)->tt (some (kV kv.1) :: frees fr σ) H1 R)
  (fin:∀ (H1:Hp) (D:Addr),Same H H1->H1 D = none->F D H1 (((kvs.map (·.1)).filter pr).map kV)):
  ∃ W:Nat->Nat->List V->Hp->Prop,(∃ m,W 0 m [] H)/\∀ i m vs H,W i m vs H->vs.length<=sizeLine /\
   (((Itd a kvs o).stop i H/\∀ D,H D = none->F D H vs) \/
    ((Itd a kvs o).go i H/\∀ v H',(Itd a kvs o).yld i H v H'->tt (some v :: frees fr σ) H' fun b H2=>if b = true then tVar 0 (some v :: frees fr σ) H2 fun y H3=>∃ m',m' < m/\W (i + 1) m' (vs ++ [y]) H3 else ∃ m',m' < m/\W (i + 1) m' vs H2)):=by
 refine ⟨fun i m us H1=>i<=kvs.length/\m = kvs.length - i/\us = (((kvs.take i).map (·.1)).filter pr).map kV/\Same H H1,⟨_,Nat.zero_le _,rfl,rfl,Same.refl _⟩,fun i m us H1 hW=>?_⟩
 obtain ⟨hi,hm,rfl,sm⟩:=hW
 refine ⟨?_,?_⟩
 ·rw [List.length_map]
  refine Nat.le_trans (List.length_filter_le _ _) ?_
  rw [List.length_map,List.length_take]
  omega
 by_cases hlt:i < kvs.length
 ·refine .inr ⟨⟨sm _ _ hS,hlt⟩,fun v H' hy=>?_⟩
  obtain ⟨rfl,kv,hkv,rfl⟩:=hy
  refine step kv H' _ (List.mem_of_getElem? hkv) sm fun H2 s2=>?_
  cases hp:pr kv.1 with
  | true=>
   refine iteT ⟨_,rfl,kvs.length - (i + 1),by omega,by omega,rfl,?_,sm.trans s2⟩
   rw [take_snoc hkv,List.map_append,List.filter_append,List.map_append,List.map_cons,List.filter_cons,if_pos hp]
   rfl
  | false=>
   refine iteF ⟨kvs.length - (i + 1),by omega,by omega,rfl,?_,sm.trans s2⟩
   rw [take_snoc hkv,List.map_append,List.filter_append,List.map_append,List.map_cons,List.filter_cons,if_neg (by rw [hp]; decide),List.map_nil,List.filter_nil,List.map_nil,List.append_nil]
 ·have e:i = kvs.length:=by omega
  subst e
  exact .inl ⟨⟨sm _ _ hS,Nat.le_refl _⟩,fun D hD=>by rw [List.take_length]; exact fin H1 D sm hD⟩
end L2
namespace D
open PySem L2
theorem ps_thawR {X:Cx}{st:Stmt}{t:TS} (h:QS X st t):QS X st (tThawR X.H₀ t):=⟨L2.ps_thawR h.un⟩
def ableB (st:Nat->Nat) (k:Nat):Bool:=decide (st k = 1) || (decide (st k = 2) && decide (st (k + 1) = 3))
def ablP (kvs wv:Kvs) (key:Key):Bool:=match valV wv key with
 | some .non=>true
 | some (.str s)=>(valV kvs (.inr s)).isSome
 | _=>false
def spAble (K:PySem.W.Frag) (AM:Addr):Sp:=fun vs H Q _=>∃ (mk:Addr) (a:Hd) (oc wt:Addr) (kvs wv:Kvs) (m:Nat) (nA:Nat->Str) (wA:Nat->Int) (dA:Nat->Oc) (x:D.W) (lo:Nat) (st:Nat->Nat),vs = [.ref mk]/\MkS AM H mk a oc wt kvs wv/\Cn m nA wA dA x/\CI K H kvs wv m nA dA lo st /\
 ∀ (l:Addr) (js:List Nat) (H':Hp),Same H H'->H l = none->H' l = some (.lst (js.map fun k=>.str (nA k)))->js.Nodup->(∀ k,k∈js ↔ (k < m/\ableB st k = true))->Q (.ref l) H'
theorem keys_of {m:Nat}{nA:Nat->Str}:∀ {ks:List Key},(∀ key∈ks,∃ k,k<=m/\key = .inr (nA k))->∃ js:List Nat,ks = js.map (fun k=>.inr (nA k))/\∀ k∈js,k<=m
 | [],_=>⟨[],rfl,fun k h=>nomatch h⟩
 | key :: r,h=>by
  obtain ⟨k,hk,e⟩:=h key (by simp)
  obtain ⟨js,e2,h2⟩:=keys_of (ks:=r) fun y hy=>h y (List.mem_cons_of_mem _ hy)
  refine ⟨k :: js,by rw [e,e2]; rfl,fun j hj=>?_⟩
  rcases List.mem_cons.mp hj with rfl | hj
  ·exact hk
  ·exact h2 j hj
theorem CI.keys {K:PySem.W.Frag}{H:Hp}{kvs wv:Kvs}{m:Nat}{nA:Nat->Str}{wA:Nat->Int}{dA:Nat->Oc}{x:W}{lo:Nat}{st:Nat->Nat} (h:CI K H kvs wv m nA dA lo st) (cn:Cn m nA wA dA x):
  ∃ js:List Nat,wv.map (·.1) = js.map (fun k=>.inr (nA k))/\(∀ k∈js,k<=m)/\js.Nodup/\∀ k,k∈js ↔ (k<=m/\(st k = 1\/st k = 2)):=by
 obtain ⟨js,e,hle⟩:=keys_of (m:=m) (nA:=nA) (ks:=wv.map (·.1)) fun key hk=>by
  by_cases he:∃ k,k<=m/\key = .inr (nA k)
  ·exact he
  ·exact absurd hk (valV_not (h.ko key fun k hk' e=>he ⟨k,hk',e⟩).2)
 have nd:js.Nodup:=by
  have:=h.wn
  rw [e] at this
  exact List.Pairwise.of_map _ (fun a b h e=>h (by rw [e])) this
 refine ⟨js,e,hle,nd,fun k=>⟨fun hk=>⟨hle k hk,?_⟩,fun ⟨hk,hs⟩=>?_⟩⟩
 ·have hm:(Sum.inr (nA k):Key)∈wv.map (·.1):=by rw [e]; exact List.mem_map.mpr ⟨k,hk,rfl⟩
  have hl:=h.le k (hle k hk)
  by_cases h0:st k = 0\/st k = 3
  ·exact absurd hm (valV_not (h.w0 k (hle k hk) h0))
  ·omega
 ·have hv:∃ v,valV wv (.inr (nA k)) = some v:=by
   rcases hs with hs | hs
   ·exact ⟨_,h.w1 k hk hs⟩
   ·exact ⟨_,h.w2 k hk hs⟩
  obtain ⟨v,hv⟩:=hv
  have hm:=valV_in hv
  rw [e] at hm
  obtain ⟨j,hj,ej⟩:=List.mem_map.mp hm
  rw [← (cn.key (hle j hj) hk).mp ej]
  exact hj
theorem CI.kn_is {K:PySem.W.Frag}{H:Hp}{kvs wv:Kvs}{m:Nat}{nA:Nat->Str}{dA:Nat->Oc}{lo:Nat}{st:Nat->Nat} (h:CI K H kvs wv m nA dA lo st) {k:Nat} (hk:k<=m):decide (st k = 3) = (valV kvs (.inr (nA k))).isSome:=by
 by_cases h3:st k = 3
 ·obtain ⟨v,e,_⟩:=h.dn k hk h3
  rw [e,h3]
  rfl
 ·rw [h.nd k hk h3]
  exact decide_eq_false h3
section
variable {P:Program}{w:World}{K:PySem.W.Frag}{mg:Str->Option Value}{base:Heap}{f:Addr}{fd:FuncData}{k n:Nat}{AHouse APlainLooks AMaker:Addr}
theorem sc_Maker_able:FnScope ["self"] ["self"] (defScope s_Maker_able):=⟨rfl,rfl,rfl,by decide +kernel,rfl,by decide +kernel,by decide +kernel⟩
theorem ok_Maker_able (F:Fun K "able" "Maker.able" s_Maker_able f fd) (clM:Cls K AMaker) (mC:NoAttr K AMaker "outcomes") (mW:NoAttr K AMaker "waits"):FnOk P w K mg base CX0 (k + 1) f fd ["self"] (spAble K AMaker):=by
 refine F.okQ sc_Maker_able (fun vs H Q E h=>?_) (fun cdv A outer s H vs Q E hr h=>?_)
 ·obtain ⟨mk,a,oc,wt,kvs,wv,m,nA,wA,dA,x,lo,st,rfl,_⟩:=h
  rfl
 obtain ⟨mk,a,oc,wt,kvs,wv,m,nA,wA,dA,x,lo,st,rfl,ms,cn,ci,q⟩:=h
 refine ⟨_,(pss_one (ps_thawR (ps_ret (pe_lcomp [0] ["self"] rfl rfl (by decide +kernel) rfl (by decide +kernel) rfl (by decide +kernel) ⟨rfl,trivial⟩ rfl ⟨⟨rfl,rfl,Or.inr (Or.inl rfl),(by show (some NameKind.cell:Option NameKind)≠some .local; decide),⟨_,rfl⟩⟩,trivial⟩ (pi_dict (pe_fld (pv 0) rfl)) (fun C s H fp=>⟨(pifs_one (PW.pt (pw_or (pt_cmp (pc_isN (pe_dget (hu_of hr) (pe_fldK (K:=K) rfl (pv 1) rfl) (pv 0) (fun _ _=>rfl)))) (pw_or1 (pt_cmp (pc_din (hu_of hr) (pe_dget (hu_of hr) (pe_fldK (K:=K) rfl (pv 1) rfl) (pv 0) (fun _ _=>rfl)) (pe_fldK (K:=K) rfl (pv 1) rfl)) rfl))))),(pv 0)⟩))))),?_⟩
 obtain ⟨dx,ei⟩:=ms.ins
 obtain ⟨js,ek,hle,nd,hjs⟩:=ci.keys cn
 refine ⟨_,rfl,mk,AMaker,dx,_,.ref wt,rfl,ei,clM,mW,rfl,wt,wv,rfl,ms.ew,fun o hfz=>?_⟩
 have ef:upd H wt (.frz o (.dK wv)) wt = some (.frz o (.dK wv)):=upd_same
 have nwm:mk≠wt:=fun z=>by rw [z,ms.ew] at ei; cases ei
 have ei':upd H wt (.frz o (.dK wv)) mk = some (.ins AMaker dx (fM a.p oc wt)):=by rw [upd_ne nwm]; exact ei
 have eo':upd H wt (.frz o (.dK wv)) oc = some (.dK kvs):=by rw [upd_ne ms.ne]; exact ms.eo
 have back:∀ {G:Hp},Same (upd H wt (.frz o (.dK wv))) G->Same H (upd G wt (.dK wv)):=fun {G} s c o' e=>by
  by_cases ec:c = wt
  ·rw [ec,ms.ew] at e
   cases e
   rw [ec]
   exact upd_same
  ·rw [upd_ne ec]
   exact s _ _ (by rw [upd_ne ec]; exact e)
 have free:∀ {l:Addr},upd H wt (.frz o (.dK wv)) l = none->H l = none/\l≠wt:=fun {l} e=>by
  have hn:l≠wt:=fun z=>by rw [z,ef] at e; cases e
  exact ⟨by rw [upd_ne hn] at e; exact e,hn⟩
 generalize upd H wt (.frz o (.dK wv)) = H1 at ef ei' eo' back free
 have hpr:∀ k∈js,ablP kvs wv (.inr (nA k)) = ableB st k:=fun k hk=>?_
 refine rd_filtD (a:=wt) (o:=o) (kvs:=wv) (ablP kvs wv) (Nat.le_trans (ci.few cn).2 (by decide)) ef (fun kv H2 R hkv s2 go=>?_) fun H2 D s2 hD=>?_
 ·have hmem:kv.1∈wv.map (·.1):=List.mem_map.mpr ⟨kv,hkv,rfl⟩
  rw [ek] at hmem
  obtain ⟨k,hk,e⟩:=List.mem_map.mp hmem
  have dg:∀ v,valV wv kv.1 = some v->DGet H2 wt (kV kv.1) (some v):=fun v hv=>.inl ⟨wv,kv.1,.inr ⟨o,s2 _ _ ef⟩,rfl,hv.symm⟩
  have gt:ablP kvs wv kv.1 = ableB st k:=by rw [← e]; exact hpr k hk
  rw [gt] at go
  have ei2:=s2 _ _ ei'
  have eo2:=s2 _ _ eo'
  rw [← e] at dg ⊢
  rcases (hjs k).mp hk with ⟨hkm,h1 | h2⟩
  ·refine ⟨_,rfl,mk,AMaker,dx,_,.ref wt,rfl,ei2,clM,mW,rfl,_,rfl,wt,.non,rfl,dg _ (ci.w1 k hkm h1),_,rfl,iteT ?_⟩
   have:ableB st k = true:=by unfold ableB; rw [h1]; rfl
   rw [this] at go
   exact go _ (Same.refl _)
  ·refine ⟨_,rfl,mk,AMaker,dx,_,.ref wt,rfl,ei2,clM,mW,rfl,_,rfl,wt,.str (nA (k + 1)),rfl,dg _ (ci.w2 k hkm h2),_,rfl,iteF ?_⟩
   have hlt:k < m:=by
    rcases Nat.lt_or_ge k m with h | h
    ·exact h
    ·have:k = m:=by omega
     rw [this] at h2
     rcases ci.top with t | t <;> rw [t] at h2 <;> cases h2
   refine ⟨_,rfl,mk,AMaker,dx,_,.ref wt,rfl,ei2,clM,mW,rfl,_,rfl,wt,.str (nA (k + 1)),rfl,dg _ (ci.w2 k hkm h2),_,rfl,mk,AMaker,dx,_,.ref oc,rfl,ei2,clM,mC,rfl,oc,_,rfl,DGet.k (k:=.inr (nA (k + 1))) eo2,_,rfl,?_⟩
   rw [← ci.kn_is (by omega)]
   have:ableB st k = decide (st (k + 1) = 3):=by unfold ableB; rw [h2]; rfl
   rw [this] at go
   exact go _ (Same.refl _)
 ·refine ⟨wt,o,wv,by rw [upd_ne (ne_of_none (s2 _ _ ef) hD)]; exact s2 _ _ ef,hfz,?_⟩
  have hD0:H1 D = none:=by
   cases e:H1 D with
   | none=>rfl
   | some o'=>rw [s2 _ _ e] at hD; cases hD
  obtain ⟨hf,hn⟩:=free hD0
  refine q D (js.filter fun k=>ableB st k) _ (back (s2.trans (Same.new hD))) hf ?_ (nd.filter _) fun k=>?_
  ·rw [upd_ne hn,upd_same,ek,List.filter_map,List.map_map]
   rw [List.filter_congr (p:=ablP kvs wv ∘ fun k=>Sum.inr (nA k)) (q:=fun k=>ableB st k) fun k hk=>hpr k hk]
   rfl
  ·rw [List.mem_filter,hjs]
   refine ⟨fun h=>⟨?_,h.2⟩,fun h=>⟨⟨by omega,?_⟩,h.2⟩⟩
   ·rcases Nat.lt_or_ge k m with h' | h'
    ·exact h'
    ·have e:k = m:=by omega
     have:=h.1.2
     rw [e] at this
     rcases ci.top with t | t <;> omega
   ·have:=h.2
    unfold ableB at this
    rw [Bool.or_eq_true,Bool.and_eq_true,decide_eq_true_iff,decide_eq_true_iff] at this
    rcases this with h | h
    ·exact .inl h
    ·exact .inr h.1
 ·rcases (hjs k).mp hk with ⟨hkm,h1 | h2⟩
  ·unfold ablP ableB
   rw [ci.w1 k hkm h1,h1]
   rfl
  ·have hlt:k < m:=by
    rcases Nat.lt_or_ge k m with h | h
    ·exact h
    ·have:k = m:=by omega
     rw [this] at h2
     rcases ci.top with t | t <;> rw [t] at h2 <;> cases h2
   unfold ablP ableB
   rw [ci.w2 k hkm h2,h2]
   show (valV kvs (.inr (nA (k + 1)))).isSome = _
   rw [← ci.kn_is (by omega)]
   rfl
def tr (m k:Nat) (st:Nat->Nat):Nat->Nat:=fun j=>if j = k then (if come m (k + 1) st (k + 1) = 3 then 3 else 2) else come m (k + 1) st j
theorem nd_drop {S:Kvs} (k:Key) (h:(S.map (·.1)).Nodup):((dropK S k).map (·.1)).Nodup:=nd_dropK h
section
variable {K:PySem.W.Frag}{H:Hp}{kvs wv:Kvs}{m:Nat}{nA:Nat->Str}{wA:Nat->Int}{dA:Nat->Oc}{x:W}{lo:Nat}{st:Nat->Nat}
theorem CI.done (h:CI K H kvs wv m nA dA lo st) (cn:Cn m nA wA dA x) {k:Nat}{v:V} (ro:RO K H v (dA k)) (hk:k < m) (hs:st k = 1\/st k = 2) (hn:st (k + 1) = 3):
  CI K H (putK kvs (.inr (nA k)) v) (dropK wv (.inr (nA k))) m nA dA lo (fun j=>if j = k then 3 else st j):=by
 have hkm:k<=m:=by omega
 have hc:(fun j=>if j = k then 3 else st j) k = 3:=if_pos rfl
 have hne:∀ j,j≠k->(fun j=>if j = k then 3 else st j) j = st j:=fun j hj=>if_neg hj
 generalize (fun j=>if j = k then 3 else st j) = s' at hc hne
 refine ⟨by rw [hne m (by omega)]; exact h.top,fun j hj=>?_,fun j hj e=>?_,fun j hj e=>?_,fun j hj e=>?_,fun j hj e=>?_,fun j hj e=>?_,fun j hj e=>?_,fun j hj e=>?_,fun key hk'=>?_,nd_put _ _ h.kn,nd_drop _ h.wn,fun j hj e=>?_⟩
 ·by_cases ej:j = k
  ·rw [ej,hc]; exact Nat.le_refl 3
  ·rw [hne j ej]; exact h.le j hj
 ·rw [cn.put kvs hj hkm]
  by_cases ej:j = k
  ·rw [if_pos ej,ej]; exact ⟨v,rfl,ro⟩
  ·rw [if_neg ej]; rw [hne j ej] at e; exact h.dn j hj e
 ·by_cases ej:j = k
  ·rw [ej,hc] at e; exact absurd rfl e
  ·rw [cn.put kvs hj hkm,if_neg ej]; rw [hne j ej] at e; exact h.nd j hj e
 ·by_cases ej:j = k
  ·rw [ej,hc] at e; cases e
  ·rw [cn.drop wv hj hkm,if_neg ej]; rw [hne j ej] at e; exact h.w1 j hj e
 ·by_cases ej:j = k
  ·rw [ej,hc] at e; cases e
  ·rw [cn.drop wv hj hkm,if_neg ej]; rw [hne j ej] at e; exact h.w2 j hj e
 ·rw [cn.drop wv hj hkm]
  by_cases ej:j = k
  ·rw [if_pos ej]
  ·rw [if_neg ej]; rw [hne j ej] at e; exact h.w0 j hj e
 ·by_cases ej:j = k
  ·rw [ej,hc] at e; cases e
  ·rw [hne j ej] at e
   by_cases e2:j + 1 = k
   ·rw [e2,hc]; decide
   ·rw [hne _ e2]; exact h.nx j hj e
 ·by_cases ej:j = k
  ·rw [ej,hne _ (by omega)]; exact hn
  ·rw [hne j ej] at e
   have:=h.up j hj e
   by_cases e2:j + 1 = k
   ·rw [e2,hc]
   ·rw [hne _ e2]; exact this
 ·refine ⟨?_,?_⟩
  ·rw [valV_put,if_neg (hk' k hkm)]
   exact (h.ko key hk').1
  ·rw [valV_drop,if_neg (hk' k hkm)]
   exact (h.ko key hk').2
 ·by_cases ej:j = k
  ·rw [ej]; exact h.low k hkm (by omega)
  ·rw [hne j ej] at e; exact h.low j hj e
theorem CI.held (h:CI K H kvs wv m nA dA lo st) (cn:Cn m nA wA dA x) {k:Nat} (hk:k < m) (hs:st k = 1\/st k = 2) (hn:st (k + 1)≠0):
  CI K H kvs (putK wv (.inr (nA k)) (.str (nA (k + 1)))) m nA dA lo (fun j=>if j = k then 2 else st j):=by
 have hkm:k<=m:=by omega
 have hc:(fun j=>if j = k then 2 else st j) k = 2:=if_pos rfl
 have hne:∀ j,j≠k->(fun j=>if j = k then 2 else st j) j = st j:=fun j hj=>if_neg hj
 generalize (fun j=>if j = k then 2 else st j) = s' at hc hne
 refine ⟨by rw [hne m (by omega)]; exact h.top,fun j hj=>?_,fun j hj e=>?_,fun j hj e=>?_,fun j hj e=>?_,fun j hj e=>?_,fun j hj e=>?_,fun j hj e=>?_,fun j hj e=>?_,fun key hk'=>?_,h.kn,nd_put _ _ h.wn,fun j hj e=>?_⟩
 ·by_cases ej:j = k
  ·rw [ej,hc]; decide
  ·rw [hne j ej]; exact h.le j hj
 ·by_cases ej:j = k
  ·rw [ej,hc] at e; cases e
  ·rw [hne j ej] at e; exact h.dn j hj e
 ·by_cases ej:j = k
  ·rw [ej]; exact h.nd k hkm (by omega)
  ·rw [hne j ej] at e; exact h.nd j hj e
 ·rw [cn.put wv hj hkm]
  by_cases ej:j = k
  ·rw [ej,hc] at e; cases e
  ·rw [if_neg ej]; rw [hne j ej] at e; exact h.w1 j hj e
 ·rw [cn.put wv hj hkm]
  by_cases ej:j = k
  ·rw [if_pos ej,ej]
  ·rw [if_neg ej]; rw [hne j ej] at e; exact h.w2 j hj e
 ·rw [cn.put wv hj hkm]
  by_cases ej:j = k
  ·rw [ej,hc] at e; omega
  ·rw [if_neg ej]; rw [hne j ej] at e; exact h.w0 j hj e
 ·by_cases ej:j = k
  ·rw [ej,hne _ (by omega)]; exact hn
  ·rw [hne j ej] at e
   by_cases e2:j + 1 = k
   ·rw [e2,hc]; decide
   ·rw [hne _ e2]; exact h.nx j hj e
 ·by_cases ej:j = k
  ·rw [ej,hc] at e; cases e
  ·rw [hne j ej] at e
   have:=h.up j hj e
   by_cases e2:j + 1 = k
   ·rw [e2] at this; omega
   ·rw [hne _ e2]; exact this
 ·refine ⟨(h.ko key hk').1,?_⟩
  rw [valV_put,if_neg (hk' k hkm)]
  exact (h.ko key hk').2
 ·by_cases ej:j = k
  ·rw [ej]; exact h.low k hkm (by omega)
  ·rw [hne j ej] at e; exact h.low j hj e
def foN (m k:Nat) (st:Nat->Nat) (dA:Nat->Oc):Oc:=if come m (k + 1) st (k + 1) = 3 then dA (k + 1) else .stop
theorem CI.come3 (h:CI K H kvs wv m nA dA lo st) {k:Nat} (hk:k < m):come m (k + 1) st (k + 1) = 3 ↔ (k + 1 = m\/st (k + 1) = 3):=by
 by_cases h0:st (k + 1) = 0
 ·rw [come_at _ _ _ h0]
  by_cases e:k + 1 = m
  ·rw [if_pos e]; exact ⟨fun _=>.inl e,fun _=>rfl⟩
  ·rw [if_neg e]
   exact ⟨fun z=>by omega,fun z=>by omega⟩
 ·rw [come_same h0]
  refine ⟨.inr,fun z=>z.elim (fun e=>?_) id⟩
  rw [e] at h0 ⊢
  exact h.top.resolve_left h0
theorem CI.fo {AH:Addr}{a:Hd}{S R:Kvs}{O Ws:List Str} (h:CI K H kvs wv m nA dA lo st) (cn:Cn m nA wA dA x) (hc:Hc AH H a S R O Ws m nA wA x) {k:Nat} (hk:k < m):FO K H S R kvs (nA (k + 1)) (foN m k st dA):=by
 unfold foN
 by_cases e:k + 1 = m
 ·rw [if_pos ((h.come3 hk).mpr (.inl e)),e,cn.dm]
  obtain ⟨v,hv,rv⟩:=hc.so
  exact .inl ⟨v,x,hv,rv,rfl⟩
 ·obtain ⟨hv,rv,hr,_⟩:=hc.ru (k + 1) (by omega)
  refine .inr ⟨hv,by rw [hr]; rfl,?_⟩
  by_cases h3:st (k + 1) = 3
  ·rw [if_pos ((h.come3 hk).mpr (.inr h3))]
   obtain ⟨v,hv3,ro⟩:=h.dn (k + 1) (by omega) h3
   rw [hv3]
   exact ro
  ·rw [if_neg (fun z=>((h.come3 hk).mp z).elim e h3),h.nd (k + 1) (by omega) h3]
   rfl
theorem Cn.ntF (cn:Cn m nA wA dA x) {k:Nat} (hk:k < m):Nt (wA k) (foN m k st dA):=by
 unfold foN
 split
 ·exact cn.nt k hk
 ·trivial
theorem Cn.addF (cn:Cn m nA wA dA x) {k:Nat} (hk:k < m):addO (wA k) (foN m k st dA) = if come m (k + 1) st (k + 1) = 3 then dA k else .stop:=by
 unfold foN
 split
 ·exact (cn.dk k hk).symm
 ·rfl
theorem RO.ref {v:V}:∀ {o:Oc},RO K H v o->o≠.stop->v≠.non
 | .made _,⟨a,u,e,_⟩,_,z=>by rw [e] at z; cases z
 | .kind,⟨a,e,_⟩,_,z=>by rw [e] at z; cases z
 | .stop,_,h,_=>h rfl
end
theorem Hs.old {AH:Addr}{a:Hd}{H:Hp}{S R:Kvs}{O W:List Str} (h:Hs AH a H S R O W) {c:Addr} (hc:c∈a.all):∃ o,H c = some o:=by
 obtain ⟨dx,e⟩:=h.ins
 have m:c∈[a.p,a.s,a.r,a.o,a.w]:=hc
 rcases List.mem_cons.mp m with rfl | m
 ·exact ⟨_,e⟩
 rcases List.mem_cons.mp m with rfl | m
 ·exact ⟨_,h.so⟩
 rcases List.mem_cons.mp m with rfl | m
 ·exact ⟨_,h.ru⟩
 rcases List.mem_cons.mp m with rfl | m
 ·exact ⟨_,h.op⟩
 rw [List.mem_singleton.mp m]
 exact ⟨_,h.wi⟩
def spTry (K:PySem.W.Frag) (AM AH:Addr):Sp:=fun vs H Q _=>∃ (mk:Addr) (a:Hd) (oc wt:Addr) (kvs wv S R:Kvs) (O W:List Str) (m:Nat) (nA:Nat->Str) (wA:Nat->Int) (dA:Nat->Oc) (x:D.W) (lo:Nat) (st:Nat->Nat) (k:Nat),vs = [.ref mk,.str (nA k)]/\MkS AM H mk a oc wt kvs wv/\Cn m nA wA dA x/\Hc AH H a S R O W m nA wA x/\CI K H kvs wv m nA dA lo st/\k < m/\(st k = 1\/st k = 2) /\
 ∀ kv' wv' H',MkS AM H' mk a oc wt kv' wv'->Hc AH H' a S R O W m nA wA x->CI K H' kv' wv' m nA dA lo (tr m k st)->Kb [oc,wt] H H'->Tups H H'->Q .non H'
theorem sc_Maker_try_rule:FnScope ["self","name","looks","outcome","other"] ["self","name"] (defScope s_Maker_try_rule):=⟨rfl,rfl,rfl,by decide +kernel,rfl,by decide +kernel,by decide +kernel⟩
theorem ok_Maker_try_rule (F:Fun K "try_rule" "Maker.try_rule" s_Maker_try_rule f fd) (G_House_may:HaveM P w K mg base AHouse "may" k ["self","looker","name"] (spMay AHouse)) (G_Maker_come_to:HaveM P w K mg base AMaker "come_to" k ["self","name"] (spCome K AMaker AHouse)) (G_record_of:Have P w K mg base "record_of" k ["run","expression","bound"] (spRec K APlainLooks AHouse 3)) (G_PlainLooks___init__:HaveC P w K mg base APlainLooks "PlainLooks" k ["self","house","looker","outcomes"] (spPI APlainLooks)) (clH:Cls K AHouse) (nR:NoAttr K AHouse "rules") (clM:Cls K AMaker) (mH:NoAttr K AMaker "house") (mC:NoAttr K AMaker "outcomes") (mW:NoAttr K AMaker "waits") (clP:Cls K APlainLooks) (nN:NoAttr K APlainLooks "names"):FnOk P w K mg base CX0 (k + 1) f fd ["self","name"] (spTry K AMaker AHouse):=by
 refine F.okQ sc_Maker_try_rule (fun vs H Q E h=>?_) (fun cdv A outer s H vs Q E hr h=>?_)
 ·obtain ⟨mk,a,oc,wt,kvs,wv,S,R,O,W,m,nA,wA,dA,x,lo,st,k,rfl,_⟩:=h
  rfl
 obtain ⟨mk,a,oc,wt,kvs,wv,S,R,O,W,m,nA,wA,dA,x,lo,st,k,rfl,ms,cn,hc,ci,hk,hs,q⟩:=h
 refine ⟨_,(pss_cons (ps_set (i:=2) sc_Maker_try_rule.nd rfl (Or.inl rfl) (pe_new G_PlainLooks___init__ hr rfl (pa_cons (pe_fld (pv 0) rfl) (pa_cons (pv 1) (pa_cons (pe_fld (pv 0) rfl) pa_nil)))))
  (pss_cons (ps_set (i:=3) sc_Maker_try_rule.nd rfl (Or.inl rfl) (pe_ix ix_tup (pe_fn G_record_of hr rfl (pa_cons (pv 2) (pa_cons (pe_dget (hu_of hr) (pe_fld (pe_fld (pv 0) rfl) rfl) (pv 1) (fun _ _=>rfl)) (pa_cons pe_dnewK pa_nil)))) pe_int (fun _ _=>rfl)))
  (pss_cons (ps_for PassesOwn.never rfl (pi_list (pe_fld (pv 2) rfl)) (pg_name (i:=4) sc_Maker_try_rule.nd rfl (Or.inl rfl)) (pss_one (ps_if (pt_val (pe_m G_House_may hr (pe_fld (pv 0) rfl) (pa_cons (pv 1) (pa_cons (pv 4) pa_nil)))) (pss_one (ps_expr (pe_m G_Maker_come_to hr (pv 0) (pa_cons (pv 4) pa_nil)))) pss_nil)))
  (pss_one (ps_if (pt_cmp (pc_isN (pv 3))) (pss_one (ps_dput (hu_of hr) (pe_fld (pv 0) rfl) (pv 1) (pe_ix ix_list (pe_fld (pv 2) rfl) (pe_un un_neg pe_int) (fun _ _=>rfl)) rfl)) (pss_cons (ps_expr (pe_dpop1 (pe_fld (pv 0) rfl) (pv 1) ⟨rfl,rfl,rfl,rfl⟩))
  (pss_one (ps_dput (hu_of hr) (pe_fld (pv 0) rfl) (pv 1) (pv 3) rfl)))))))),?_⟩
 obtain ⟨dx,ei⟩:=ms.ins
 obtain ⟨dxh,eih⟩:=hc.hs.ins
 obtain ⟨hsn,rv,hrv,rwv,fit⟩:=hc.ru k hk
 refine ⟨_,rfl,mk,AMaker,dx,_,.ref a.p,rfl,ei,clM,mH,rfl,_,rfl,_,rfl,mk,AMaker,dx,_,.ref oc,rfl,ei,clM,mC,rfl,fun r dr hr hdr hne=>?_⟩
 refine ⟨r,dr,oc,a,nA k,rfl,upd_same,fun nl H1 hnl er enl keep=>⟨rfl,?_⟩⟩
 have s1:Same H H1:=fun c o e=>keep c o (ne_of_none e hr) (by rw [upd_ne (ne_of_none e hr),upd_ne (ne_of_none e hdr)]; exact e)
 have nrl:nl≠r:=fun z=>by rw [z,upd_same] at hnl; cases hnl
 have hnl0:H nl = none:=by
  rw [upd_ne nrl] at hnl
  by_cases e:nl = dr
  ·rw [e]; exact hdr
  ·rw [upd_ne e] at hnl; exact hnl
 have ms1:=ms.same s1
 have hc1:=hc.same s1
 have ci1:=ci.mono (same_tups' s1)
 obtain ⟨dx1,ei1⟩:=ms1.ins
 obtain ⟨dxh1,eih1⟩:=hc1.hs.ins
 have dg:=DGet.k (k:=.inr (nA k)) hc1.hs.ru
 rw [hrv] at dg
 refine ⟨_,rfl,_,rfl,mk,AMaker,dx1,_,.ref a.p,rfl,ei1,clM,mH,rfl,a.p,AHouse,dxh1,_,.ref a.r,rfl,eih1,clH,nR,rfl,_,rfl,a.r,rv,rfl,dg,fun dp hdp=>?_⟩
 have s2:=Same.new (o:=.dK []) hdp
 have nll:nl ∉ a.all:=fun z=>by
  obtain ⟨o,e⟩:=hc.hs.old z
  rw [hnl0] at e
  cases e
 have pk:Pk K APlainLooks AHouse (upd H1 dp (.dK [])) r a oc nl (nA k) (nA (k + 1)) [] kvs S R O W (foN m k st dA):=
  ⟨⟨dr,s2 _ _ er⟩,s2 _ _ enl,hc1.hs.same s2,s2 _ _ ms1.eo,by decide,nll,cn.nm k (by omega),cn.nm (k + 1) (by omega),cn.rm k (k + 1) (by omega) (by omega),(ci1.fo cn hc1 hk).tups (same_tups' s2)⟩
 refine ⟨_,_,_,rfl,.inr (.inr ⟨Nat.le_refl 3,r,a,oc,nl,nA k,nA (k + 1),[],kvs,S,R,O,W,foN m k st dA,wA k,rfl,rwv.mono (same_tups' (s1.trans s2)),fit,cn.ntF hk,pk,fun H3 enl3 kb3 p ov sv ep ro=>?_⟩)⟩
 have s3:Same H H3:=fun c o e=>kb3 c o (fun z=>by rw [List.mem_singleton.mp z,hnl0] at e; cases e) ((s1.trans s2) _ _ e)
 have er3:=kb3 r _ (fun z=>nrl (List.mem_singleton.mp z).symm) (s2 _ _ er)
 have ms3:=ms.same s3
 have hc3:=hc.same s3
 have ci3:=ci.mono (same_tups' s3)
 rw [cn.addF hk] at ro
 clear pk kb3 dg
 refine ⟨p,_,0,ov,rfl,rfl,SqT.of ep,atI_nat (j:=0) rfl,?_⟩
 have nlo:nl ∉ [oc,wt]:=fun m=>by
  rcases List.mem_cons.mp m with z | m
  ·rw [z,ms.eo] at hnl0; cases hnl0
  ·rw [List.mem_singleton.mp m,ms.ew] at hnl0; cases hnl0
 have nro:r ∉ [oc,wt]:=fun m=>by
  rcases List.mem_cons.mp m with z | m
  ·rw [z,ms3.eo] at er3; cases er3
  ·rw [List.mem_singleton.mp m,ms3.ew] at er3; cases er3
 have ks:∀ {N:List Addr}{G:Hp},Kb N H3 G->Kb N H G:=fun k=>(Kb.ofSame s3).trans k
 clear s2 s1 ms1 hc1 ci1 ei1 eih1 er enl keep hdp
 dsimp only [gName]
 refine ⟨_,rfl,r,APlainLooks,dr,_,.ref nl,rfl,er3,clP,nN,rfl,nl,rfl,⟨_,SqL.of enl3⟩,for_list (K:=K) (xs:=[.str (nA (k + 1))]) (fun j σ' H'=>∃ o4:Option V,σ' = [some (.ref mk),some (.str (nA k)),some (.ref r),some ov,o4]/\H' nl = some (.lst [.str (nA (k + 1))])/\((j = 0/\H' = H3)\/(j = 1/\∃ kv1 wv1,MkS AMaker H' mk a oc wt kv1 wv1/\Hc AHouse H' a S R O W m nA wA x/\CI K H' kv1 wv1 m nA dA lo (come m (k + 1) st)/\Kb [oc,wt] H3 H'/\Tups H3 H')))
  ⟨none,rfl,enl3,.inl ⟨rfl,rfl⟩⟩ (fun j σ' H' _ h=>?_) (fun j y σ' H' hy h=>?_) (fun σ' H' h=>?_)⟩
 ·obtain ⟨_,_,e,_⟩:=h
  exact SqL.of e
 ·obtain ⟨o4,rfl,en',h⟩:=h
  rcases h with ⟨rfl,rfl⟩ | ⟨rfl,_⟩
  ·cases hy
   obtain ⟨dx3,ei3⟩:=ms3.ins
   obtain ⟨dxh3,eih3⟩:=hc3.hs.ins
   refine ⟨_,rfl,mk,AMaker,dx3,_,.ref a.p,rfl,ei3,clM,mH,rfl,a.p,dxh3,_,rfl,eih3,rfl,_,rfl,_,rfl,a,S,R,O,W,some (nA k),nA (k + 1),rfl,hc3.hs,cn.nm (k + 1) (by omega),fun y e=>by cases e; exact cn.nm k (by omega),fun H4 s4=>⟨_,rfl,?_⟩⟩
   have hb:mayB (some (nA k)) (nA (k + 1)) O = true:=by
    show (decide (roomOf (nA k) = roomOf (nA (k + 1))) || decide (nA (k + 1)∈O)) = true
    rw [decide_eq_true (cn.rm k (k + 1) (by omega) (by omega))]
    rfl
   rw [hb]
   obtain ⟨dx4,ei4⟩:=(ms3.same s4).ins
   refine iteT ⟨_,rfl,mk,dx4,_,rfl,ei4,rfl,_,rfl,mk,a,oc,wt,kvs,wv,S,R,O,W,m,nA,wA,dA,x,lo,st,k + 1,rfl,ms3.same s4,cn,hc3.same s4,ci3.mono (same_tups' s4),(by omega),Nat.le_succ_of_le (ci.low k (by omega) (by omega)),fun kv1 wv1 H5 ms5 hc5 ci5 kb5 t5=>?_⟩
   exact ⟨_,rfl,kb5 _ _ nlo (s4 _ _ en'),.inr ⟨rfl,kv1,wv1,ms5,hc5,ci5,(Kb.ofSame s4).trans kb5,fun _ _ e=>t5 _ _ (s4 _ _ e)⟩⟩
  ·cases hy
 ·obtain ⟨o4,rfl,en5,h⟩:=h
  rcases h with ⟨h,_⟩ | ⟨_,kv1,wv1,ms5,hc5,ci5,kb5,t5⟩
  ·cases h
  have ro5:=ro.tups t5
  have er5:=kb5 _ _ nro er3
  have tt:Tups H H':=fun _ _ e=>t5 _ _ (s3 _ _ e)
  have ck:come m (k + 1) st k = st k:=come_ne (by omega)
  have fall:∀ c∈a.all,c ∉ [oc,wt]:=fun c hc' m=>by rcases List.mem_cons.mp m with e | m; exact ms.na.1 (by rw [← e]; exact hc'); exact ms.na.2 (by rw [← List.mem_singleton.mp m]; exact hc')
  obtain ⟨dx5,ei5⟩:=ms5.ins
  refine ⟨_,rfl,_,rfl,?_⟩
  by_cases c3:come m (k + 1) st (k + 1) = 3
  ·rw [if_pos c3] at ro5
   rw [decide_eq_false (ro5.ref (cn.go (m - k) k (by omega)))]
   obtain ⟨v,hv⟩:∃ v,valV wv1 (.inr (nA k)) = some v:=by
    rcases hs with h | h
    ·exact ⟨_,ci5.w1 k (by omega) (by rw [ck]; exact h)⟩
    ·exact ⟨_,ci5.w2 k (by omega) (by rw [ck]; exact h)⟩
   refine iteF ⟨_,rfl,mk,AMaker,dx5,_,.ref wt,rfl,ei5,clM,mW,rfl,wt,rfl,.inl ⟨wv1,.of ms5.ew⟩,_,rfl,wv1,.inr (nA k),v,ms5.ew,rfl,hv,?_⟩
   have t6:=tupsD (kv':=dropK wv1 (.inr (nA k))) ms5.ew
   have k6:Kb [oc,wt] H' (upd H' wt (.dK (dropK wv1 (.inr (nA k))))):=Kb.upd (by simp)
   have ms6:=ms5.setW (dropK wv1 (.inr (nA k)))
   have hc6:=hc5.kb k6 fall t6
   have ci6:=ci5.mono t6
   have ro6:=ro5.tups t6
   generalize upd H' wt (.dK (dropK wv1 (.inr (nA k)))) = H6 at t6 k6 ms6 hc6 ci6 ro6
   obtain ⟨dx6,ei6⟩:=ms6.ins
   refine ⟨_,rfl,_,rfl,mk,AMaker,dx6,_,.ref oc,rfl,ei6,clM,mC,rfl,_,rfl,oc,_,rfl,.inl ⟨kv1,.inr (nA k),ms6.eo,rfl,Nat.lt_of_le_of_lt (ci6.few cn).1 (by decide),rfl⟩,?_⟩
   have t7:=tupsD (kv':=putK kv1 (.inr (nA k)) ov) ms6.eo
   have k7:Kb [oc,wt] H6 (upd H6 oc (.dK (putK kv1 (.inr (nA k)) ov))):=Kb.upd (by simp)
   have es:tr m k st = fun j=>if j = k then 3 else come m (k + 1) st j:=funext fun j=>by unfold tr; rw [if_pos c3]
   refine q _ _ _ (ms6.setO _) (hc6.kb k7 fall t7) ?_ (((ks kb5).trans k6).trans k7) (fun _ _ e=>t7 _ _ (t6 _ _ (tt _ _ e)))
   rw [es]
   exact (ci6.mono t7).done cn (ro6.tups t7) hk (by rw [ck]; exact hs) c3
  ·rw [if_neg c3] at ro5
   have eov:ov = .non:=ro5
   rw [decide_eq_true eov]
   refine iteT ⟨_,rfl,r,APlainLooks,dr,_,.ref nl,rfl,er5,clP,nN,rfl,1,rfl,nl,_,-1,.str (nA (k + 1)),rfl,rfl,SqL.of en5,atI_last [] _,_,rfl,mk,AMaker,dx5,_,.ref wt,rfl,ei5,clM,mW,rfl,_,rfl,wt,_,rfl,.inl ⟨wv1,.inr (nA k),ms5.ew,rfl,Nat.lt_of_le_of_lt (ci5.few cn).2 (by decide),rfl⟩,?_⟩
   have t6:=tupsD (kv':=putK wv1 (.inr (nA k)) (.str (nA (k + 1)))) ms5.ew
   have k6:Kb [oc,wt] H' (upd H' wt (.dK (putK wv1 (.inr (nA k)) (.str (nA (k + 1)))))):=Kb.upd (by simp)
   have es:tr m k st = fun j=>if j = k then 2 else come m (k + 1) st j:=funext fun j=>by unfold tr; rw [if_neg c3]
   refine q _ _ _ (ms5.setW _) (hc5.kb k6 fall t6) ?_ ((ks kb5).trans k6) (fun _ _ e=>t6 _ _ (tt _ _ e))
   rw [es]
   refine (ci5.mono t6).held cn hk (by rw [ck]; exact hs) fun z=>?_
   by_cases h0:st (k + 1) = 0
   ·rw [come_at _ _ _ h0] at z
    split at z <;> cases z
   ·rw [come_same h0] at z
    exact h0 z
structure Due (K:PySem.W.Frag) (H:Hp) (kvs:Kvs) (m:Nat) (nA:Nat->Str) (dA:Nat->Oc) (lo:Nat):Prop where
 nd:(kvs.map (·.1)).Nodup
 has:∀ k,lo<=k->k<=m->∃ v,valV kvs (.inr (nA k)) = some v/\RO K H v (dA k)
 no:∀ key:Key,(∀ k,lo<=k->k<=m->key≠.inr (nA k))->valV kvs key = none
def spPlain (K:PySem.W.Frag) (AH:Addr):Sp:=fun vs H Q _=>∃ (a:Hd) (S R:Kvs) (O W:List Str) (m:Nat) (nA:Nat->Str) (wA:Nat->Int) (dA:Nat->Oc) (x:D.W) (lo:Nat) (js:List Nat),vs = [.ref a.p]/\Cn m nA wA dA x/\Hc AH H a S R O W m nA wA x/\W = js.map nA/\(∀ j∈js,lo<=j/\j<=m)/\lo∈js /\
 ∀ (t oc wt:Addr) (kvs:Kvs) (H':Hp),Same H H'->H oc = none->H wt = none->oc≠wt->H' t = some (.tup [.ref oc,.ref wt])->H' oc = some (.dK kvs)->H' wt = some (.dK [])->Due K H' kvs m nA dA lo->Q (.ref t) H'
theorem come_up (m k:Nat) (st:Nat->Nat) (j:Nat):st j<=come m k st j:=by
 unfold come
 split
 ·next h=>rw [h.1,h.2]; exact Nat.zero_le _
 ·exact Nat.le_refl _
theorem come_ne0 (m k:Nat) (st:Nat->Nat):come m k st k≠0:=by
 by_cases h:st k = 0
 ·rw [come_at m k st h]; split <;> decide
 ·rw [come_same h]; exact h
theorem come_keep {m k j:Nat}{st:Nat->Nat} (h:st j≠0):come m k st j = st j:=by
 unfold come
 rw [if_neg]
 intro z
 exact h (by rw [z.1]; exact z.2)
theorem tr_up {m k:Nat}{st:Nat->Nat} (hs:st k = 1\/st k = 2) (j:Nat):st j<=tr m k st j:=by
 unfold tr
 split
 ·next h=>rw [h]; split <;> omega
 ·exact come_up m (k + 1) st j
theorem tr_keep {m k j:Nat}{st:Nat->Nat} (hj:j≠k) (h:st j≠0):tr m k st j = st j:=by
 unfold tr
 rw [if_neg hj,come_keep h]
theorem able_12 {st:Nat->Nat}{k:Nat} (h:ableB st k = true):st k = 1\/st k = 2:=by
 unfold ableB at h
 rw [Bool.or_eq_true,Bool.and_eq_true,decide_eq_true_iff,decide_eq_true_iff] at h
 exact h.imp id And.left
theorem able_keep {m k j:Nat}{st:Nat->Nat} (hk:st k = 1\/st k = 2) (hj:j≠k) (h:ableB st j = true):ableB (tr m k st) j = true:=by
 have h12:=able_12 h
 unfold ableB at h ⊢
 rw [Bool.or_eq_true,Bool.and_eq_true,decide_eq_true_iff,decide_eq_true_iff,decide_eq_true_iff] at h ⊢
 rw [tr_keep hj (by omega)]
 refine h.imp id fun z=>⟨z.1,?_⟩
 rw [tr_keep (by intro e; rw [e] at z; omega) (by omega)]
 exact z.2
theorem tr_more {m k:Nat}{st:Nat->Nat} (h:ableB st k = true):st k < tr m k st k:=by
 unfold ableB at h
 rw [Bool.or_eq_true,Bool.and_eq_true,decide_eq_true_iff,decide_eq_true_iff,decide_eq_true_iff] at h
 unfold tr
 rw [if_pos rfl]
 rcases h with h | h
 ·rw [h]; split <;> decide
 ·rw [come_keep (by omega),if_pos h.2,h.1]; decide
def mu (st:Nat->Nat):Nat->Nat
 | 0=>3 - st 0
 | m + 1=>mu st m + (3 - st (m + 1))
theorem mu_le {st st':Nat->Nat} (h:∀ j,st j<=st' j):∀ m,mu st' m<=mu st m
 | 0=>by unfold mu; have:=h 0; omega
 | m + 1=>by unfold mu; have:=h (m + 1); have:=mu_le h m; omega
theorem mu_lt {st st':Nat->Nat} (h:∀ j,st j<=st' j) {k:Nat} (hk:st k < st' k) (h3:st' k<=3):∀ {m},k<=m->mu st' m < mu st m
 | 0,e=>by
  have:k = 0:=by omega
  subst this
  unfold mu
  omega
 | m + 1,e=>by
  unfold mu
  have:=h (m + 1)
  by_cases e2:k = m + 1
  ·have:=mu_le h m
   rw [← e2]
   omega
  ·have:=mu_lt h hk h3 (m:=m) (by omega)
   omega
section
variable {K:PySem.W.Frag}{H:Hp}{kvs wv:Kvs}{m:Nat}{nA:Nat->Str}{wA:Nat->Int}{dA:Nat->Oc}{x:W}{lo:Nat}{st:Nat->Nat}
theorem CI.nil:CI K H [] [] m nA dA lo fun _=>0:=
 ⟨.inl rfl,fun _ _=>Nat.zero_le _,fun _ _ e=>(nomatch e),fun _ _ _=>rfl,fun _ _ e=>(nomatch e),fun _ _ e=>(nomatch e),fun _ _ _=>rfl,fun _ _ e=>(nomatch e),fun _ _ e=>(nomatch e),fun _ _=>⟨rfl,rfl⟩,List.nodup_nil,List.nodup_nil,fun _ _ e=>absurd rfl e⟩
theorem CI.rest (h:CI K H kvs wv m nA dA lo st) (hn:∀ k,¬ (k < m/\ableB st k = true)):∀ (d k:Nat),k + d = m->¬ (st k = 1\/st k = 2)
 | 0,k,e,z=>by
  rw [show k = m by omega] at z
  rcases h.top with t | t <;> rw [t] at z <;> omega
 | d + 1,k,e,z=>by
  refine hn k ⟨by omega,?_⟩
  unfold ableB
  rw [Bool.or_eq_true,Bool.and_eq_true,decide_eq_true_iff,decide_eq_true_iff,decide_eq_true_iff]
  refine z.imp id fun z=>⟨z,?_⟩
  have h1:=h.nx k (by omega) z
  have h2:=h.le (k + 1) (by omega)
  have h3:=h.rest hn d (k + 1) (by omega)
  omega
theorem CI.all (h:CI K H kvs wv m nA dA lo st) (h3:st lo = 3):∀ d,lo + d<=m->st (lo + d) = 3
 | 0,_=>h3
 | d + 1,e=>h.up (lo + d) (by omega) (h.all h3 d (by omega))
theorem CI.due (h:CI K H kvs wv m nA dA lo st) (cn:Cn m nA wA dA x) (hn:∀ k,¬ (k < m/\ableB st k = true)) (h0:st lo≠0) (hl:lo<=m):Due K H kvs m nA dA lo/\wv = []:=by
 have h12:∀ k,k<=m->¬ (st k = 1\/st k = 2):=fun k hk=>h.rest hn (m - k) k (by omega)
 have h3:st lo = 3:=by
  have:=h.le lo hl
  have:=h12 lo hl
  omega
 refine ⟨⟨h.kn,fun k h1 h2=>?_,fun key hk=>?_⟩,?_⟩
 ·refine h.dn k h2 ?_
  have:=h.all h3 (k - lo) (by omega)
  rwa [show lo + (k - lo) = k by omega] at this
 ·by_cases he:∃ k,k<=m/\key = .inr (nA k)
  ·obtain ⟨k,hk',rfl⟩:=he
   refine h.nd k hk' fun z=>?_
   exact hk k (h.low k hk' (by omega)) hk' rfl
  ·exact (h.ko key fun k hk' e=>he ⟨k,hk',e⟩).1
 ·obtain ⟨js,ek,hle,_,hj⟩:=h.keys cn
  cases js with
  | nil=>exact List.map_eq_nil_iff.mp ek
  | cons j r=>
   have:=(hj j).mp List.mem_cons_self
   exact absurd this.2 (h12 j this.1)
end
def PM (K:PySem.W.Frag) (AM AH:Addr) (mk:Addr) (a:Hd) (oc wt:Addr) (S R:Kvs) (O W:List Str) (m:Nat) (nA:Nat->Str) (wA:Nat->Int) (dA:Nat->Oc) (x:D.W) (lo:Nat) (H1:Hp) (st:Nat->Nat) (H':Hp):Prop:=
 ∃ kvs wv,MkS AM H' mk a oc wt kvs wv/\Hc AH H' a S R O W m nA wA x/\CI K H' kvs wv m nA dA lo st/\Kb [oc,wt] H1 H'
def PA (m:Nat) (nA:Nat->Str) (st:Nat->Nat) (la:Addr) (js:List Nat) (H':Hp):Prop:=
 H' la = some (.lst (js.map fun k=>.str (nA k)))/\js.Nodup/\∀ k,k∈js ↔ (k < m/\ableB st k = true)
theorem rdAble {K:PySem.W.Frag}{AM AH:Addr}{mk:Addr}{a:Hd}{oc wt:Addr}{S R:Kvs}{O W:List Str}{m:Nat}{nA:Nat->Str}{wA:Nat->Int}{dA:Nat->Oc}{x:D.W}{lo:Nat}{H1:Hp}{st:Nat->Nat}{H':Hp}{σ:St}{Q:VK}
  (cn:Cn m nA wA dA x) (h:PM K AM AH mk a oc wt S R O W m nA wA dA x lo H1 st H') (hσ:σ[1]? = some (some (.ref mk)))
  (q:∀ la js H2,PM K AM AH mk a oc wt S R O W m nA wA dA x lo H1 st H2->PA m nA st la js H2->la ∉ [oc,wt]->Q (.ref la) H2):tMeth AM "able" (spAble K AM) [] E0 (tVar 1) tNil σ H' Q:=by
 obtain ⟨kvs,wv,ms,hc,ci,kb⟩:=h
 obtain ⟨dx,ei⟩:=ms.ins
 refine ⟨_,hσ,mk,dx,_,rfl,ei,rfl,mk,a,oc,wt,kvs,wv,m,nA,wA,dA,x,lo,st,rfl,ms,cn,ci,fun l js H2 s2 hl el nd hj=>?_⟩
 refine q l js H2 ⟨kvs,wv,ms.same s2,hc.same s2,ci.mono (same_tups' s2),kb.trans (Kb.ofSame s2)⟩ ⟨el,nd,hj⟩ fun z=>?_
 rcases List.mem_cons.mp z with z | z
 ·rw [z,ms.eo] at hl; cases hl
 ·rw [List.mem_singleton.mp z,ms.ew] at hl; cases hl
theorem sc_plain:FnScope ["house","maker","name","able"] ["house"] (defScope s_plain):=⟨rfl,rfl,rfl,by decide +kernel,rfl,by decide +kernel,by decide +kernel⟩
theorem ok_plain (F:Fun K "plain" "plain" s_plain f fd) (G_Maker_able:HaveM P w K mg base AMaker "able" k ["self"] (spAble K AMaker)) (G_Maker_try_rule:HaveM P w K mg base AMaker "try_rule" k ["self","name"] (spTry K AMaker AHouse)) (G_Maker_come_to:HaveM P w K mg base AMaker "come_to" k ["self","name"] (spCome K AMaker AHouse)) (G_Maker___init__:HaveC P w K mg base AMaker "Maker" k ["self","house"] (spMI AMaker)) (m_len:mg "len" = none) (clH:Cls K AHouse) (nW:NoAttr K AHouse "wishes") (clM:Cls K AMaker) (mC:NoAttr K AMaker "outcomes") (mW:NoAttr K AMaker "waits"):FnOk P w K mg base CX0 (k + 1) f fd ["house"] (spPlain K AHouse):=by
 refine F.okQ sc_plain (fun vs H Q E h=>?_) (fun cdv A outer s H vs Q E hr h=>?_)
 ·obtain ⟨a,S,R,O,W,m,nA,wA,dA,x,lo,js,rfl,_⟩:=h
  rfl
 obtain ⟨a,S,R,O,W,m,nA,wA,dA,x,lo,js,rfl,cn,hc,rfl,hjs,hlo,q⟩:=h
 refine ⟨_,(pss_cons (ps_set (i:=1) sc_plain.nd rfl (Or.inl rfl) (pe_new G_Maker___init__ hr rfl (pa_cons (pv 0) pa_nil)))
  (pss_cons (ps_for PassesOwn.never rfl (pi_list (pe_fld (pv 0) rfl)) (pg_name (i:=2) sc_plain.nd rfl (Or.inl rfl)) (pss_one (ps_expr (pe_m G_Maker_come_to hr (pv 1) (pa_cons (pv 2) pa_nil)))))
  (pss_cons (ps_set (i:=3) sc_plain.nd rfl (Or.inl rfl) (pe_m0 G_Maker_able hr (pv 1)))
  (pss_cons (ps_while PassesOwn.never (pt_cmpR op_gt (pe_callB call_len rfl m_len PySem.boot_len (pa_cons (pv 3) pa_nil)) pe_int (nomark _)) (pss_cons (ps_for PassesOwn.never rfl (pi_list (pv 3)) (pg_name (i:=2) sc_plain.nd rfl (Or.inl rfl)) (pss_one (ps_expr (pe_m G_Maker_try_rule hr (pv 1) (pa_cons (pv 2) pa_nil)))))
  (pss_one (ps_set (i:=3) sc_plain.nd rfl (Or.inl rfl) (pe_m0 G_Maker_able hr (pv 1))))))
  (pss_one (ps_ret (pe_tup (pa_cons (pe_fld (pv 1) rfl) (pa_cons (pe_fld (pv 1) rfl) pa_nil))))))))),?_⟩
 obtain ⟨dxh,eih⟩:=hc.hs.ins
 refine ⟨_,rfl,fun mk dm hmk hdm hne=>?_⟩
 refine ⟨mk,dm,a.p,rfl,upd_same,fun oc wt H1 hoc hwt now emk eoc ewt keep=>⟨rfl,?_⟩⟩
 have s1:Same H H1:=fun c o e=>keep c o (ne_of_none e hmk) (by rw [upd_ne (ne_of_none e hmk),upd_ne (ne_of_none e hdm)]; exact e)
 have fr:∀ {c:Addr},upd (upd H dm (.own mk)) mk (.ins AMaker dm []) c = none->H c = none:=fun {c} h=>by
  have n1:c≠mk:=fun z=>by rw [z,upd_same] at h; cases h
  rw [upd_ne n1] at h
  have n2:c≠dm:=fun z=>by rw [z,upd_same] at h; cases h
  rw [upd_ne n2] at h
  exact h
 have hoc0:=fr hoc
 have hwt0:=fr hwt
 have hc1:=hc.same s1
 have ms1:MkS AMaker H1 mk a oc wt [] []:=⟨⟨dm,emk⟩,eoc,ewt,now,(fun z=>by obtain ⟨o,e⟩:=hc.hs.old z; rw [hoc0] at e; cases e),(fun z=>by obtain ⟨o,e⟩:=hc.hs.old z; rw [hwt0] at e; cases e)⟩
 have fin:∀ {G:Hp},Kb [oc,wt] H1 G->Same H G:=fun k c o e=>k c o (fun z=>by
  rcases List.mem_cons.mp z with z | z
  ·rw [z,hoc0] at e; cases e
  ·rw [List.mem_singleton.mp z,hwt0] at e; cases e) (s1 _ _ e)
 clear keep hoc hwt hmk hdm fr
 obtain ⟨dxh1,eih1⟩:=hc1.hs.ins
 dsimp only [gName]
 refine ⟨_,rfl,a.p,AHouse,dxh1,_,.ref a.w,rfl,eih1,clH,nW,rfl,a.w,rfl,⟨_,SqL.of hc1.hs.wi⟩,for_list (K:=K) (xs:=(js.map nA).map V.str) (fun i σ' H'=>∃ (o2:Option V) (st:Nat->Nat),σ' = [some (.ref a.p),some (.ref mk),o2,none]/\PM K AMaker AHouse mk a oc wt S R O (js.map nA) m nA wA dA x lo H1 st H'/\∀ j∈js.take i,st j≠0)
  ⟨none,fun _=>0,rfl,⟨[],[],ms1,hc1,CI.nil,Kb.ofSame (Same.refl _)⟩,fun j z=>nomatch z⟩ (fun i σ' H' _ h=>?_) (fun i y σ' H' hy h=>?_) (fun σ' H' h=>?_)⟩
 ·obtain ⟨_,_,_,⟨_,_,_,h,_⟩,_⟩:=h
  exact SqL.of h.hs.wi
 ·obtain ⟨o2,st,rfl,⟨kvs,wv,ms,hc,ci,kb⟩,hz⟩:=h
  obtain ⟨dx,ei⟩:=ms.ins
  rw [List.getElem?_map,List.getElem?_map] at hy
  cases hj:js[i]? with
  | none=>rw [hj] at hy; cases hy
  | some j=>
   rw [hj] at hy
   cases hy
   have hm:=hjs j (List.mem_of_getElem? hj)
   refine ⟨_,rfl,mk,dx,_,rfl,ei,rfl,_,rfl,mk,a,oc,wt,kvs,wv,S,R,O,js.map nA,m,nA,wA,dA,x,lo,st,j,rfl,ms,cn,hc,ci,hm.2,hm.1,fun kv1 wv1 H5 ms5 hc5 ci5 kb5 t5=>?_⟩
   refine ⟨_,_,rfl,⟨kv1,wv1,ms5,hc5,ci5,kb.trans kb5⟩,fun l hl=>?_⟩
   rw [take_snoc hj] at hl
   rcases List.mem_append.mp hl with hl | hl
   ·have:=come_up m j st l
    have:=hz l hl
    omega
   ·rw [List.mem_singleton.mp hl]
    exact come_ne0 m j st
 ·obtain ⟨o2,st,rfl,pm,hz⟩:=h
  rw [List.length_map,List.length_map,List.take_length] at hz
  have hz0:=hz lo hlo
  have hlm:=(hjs lo hlo).2
  refine rdAble cn pm rfl fun la ks H2 pm' pa nla=>?_
  clear pm
  dsimp only [gName]
  refine ⟨fun n σ' H'=>∃ (o2:Option V) (la:Addr) (ks:List Nat) (st:Nat->Nat),σ' = [some (.ref a.p),some (.ref mk),o2,some (.ref la)]/\PM K AMaker AHouse mk a oc wt S R O (js.map nA) m nA wA dA x lo H1 st H'/\PA m nA st la ks H'/\la ∉ [oc,wt]/\st lo≠0/\n = mu st m,⟨_,_,la,ks,st,rfl,pm',pa,nla,hz0,rfl⟩,fun n σ' H' hW=>?_⟩
  clear pm' pa nla hz0 hz la ks st
  obtain ⟨o2,la,ks,st,rfl,pm,pa,nla,hz,rfl⟩:=hW
  refine ⟨_,rfl,.ref la,ks.length,rfl,.inl ⟨_,SqL.of pa.1,by rw [List.length_map]⟩,((ks.length:Nat):Int),0,rfl,rfl,_,rfl,?_⟩
  cases ks with
  | nil=>
   refine iteF ?_
   obtain ⟨kvs,wv,ms,hc,ci,kb⟩:=pm
   obtain ⟨due,rfl⟩:=ci.due cn (fun k hk=>by cases (pa.2.2 k).mpr hk) hz hlm
   obtain ⟨dx,ei⟩:=ms.ins
   refine ⟨_,rfl,mk,AMaker,dx,_,.ref oc,rfl,ei,clM,mC,rfl,_,rfl,mk,AMaker,dx,_,.ref wt,rfl,ei,clM,mW,rfl,zl2,fun t ht=>?_⟩
   have s2:=Same.new (o:=.tup [.ref oc,.ref wt]) ht
   exact q t oc wt kvs _ ((fin kb).trans s2) hoc0 hwt0 now upd_same (s2 _ _ ms.eo) (s2 _ _ ms.ew) ⟨due.nd,fun k h1 h2=>let ⟨v,e,r⟩:=due.has k h1 h2; ⟨v,e,r.mono s2⟩,due.no⟩
  | cons k0 ks=>
   rw [decide_eq_true (show (0:Int) < (((k0 :: ks).length:Nat):Int) by rw [List.length_cons]; omega)]
   refine iteT ⟨fun σ' H'=>∃ (o2:Option V) (la:Addr) (ks:List Nat) (st':Nat->Nat),σ' = [some (.ref a.p),some (.ref mk),o2,some (.ref la)]/\PM K AMaker AHouse mk a oc wt S R O (js.map nA) m nA wA dA x lo H1 st' H'/\PA m nA st' la ks H'/\la ∉ [oc,wt]/\st' lo≠0/\mu st' m < mu st m,fun σ' H' ⟨o2,la,ks,st',h1,h2,h3,h4,h5,h6⟩=>⟨_,h6,o2,la,ks,st',h1,h2,h3,h4,h5,rfl⟩,?_⟩
   obtain ⟨el,nd,hk⟩:=pa
   refine ⟨_,rfl,la,rfl,⟨_,SqL.of el⟩,for_list (K:=K) (xs:=(k0 :: ks).map fun k=>.str (nA k)) (fun i σ' H'=>∃ (o2:Option V) (st':Nat->Nat),σ' = [some (.ref a.p),some (.ref mk),o2,some (.ref la)]/\H' la = some (.lst ((k0 :: ks).map fun k=>.str (nA k)))/\PM K AMaker AHouse mk a oc wt S R O (js.map nA) m nA wA dA x lo H1 st' H'/\(∀ j,st j<=st' j)/\(∀ k∈(k0 :: ks).drop i,ableB st' k = true)/\(0 < i->mu st' m < mu st m))
    ⟨_,st,rfl,el,pm,fun _=>Nat.le_refl _,fun k z=>((hk k).mp z).2,fun z=>absurd z (by decide)⟩ (fun i σ' H' _ h=>?_) (fun i y σ' H' hy h=>?_) (fun σ' H' h=>?_)⟩
   ·obtain ⟨_,_,_,e,_⟩:=h
    exact SqL.of e
   ·obtain ⟨o2,st',rfl,el',⟨kvs,wv,ms,hc,ci,kb⟩,hup,hab,hmu⟩:=h
    obtain ⟨dx,ei⟩:=ms.ins
    rw [List.getElem?_map] at hy
    cases hj:(k0 :: ks)[i]? with
    | none=>rw [hj] at hy; cases hy
    | some j=>
     rw [hj] at hy
     cases hy
     have hjm:=((hk j).mp (List.mem_of_getElem? hj)).1
     have hd:=List.drop_eq_getElem?_toList_append (l:=k0 :: ks) (i:=i)
     rw [hj] at hd
     have hja:ableB st' j = true:=hab j (by rw [hd]; exact List.mem_append_left _ (List.mem_singleton.mpr rfl))
     have h12:=able_12 hja
     refine ⟨_,rfl,mk,dx,_,rfl,ei,rfl,_,rfl,mk,a,oc,wt,kvs,wv,S,R,O,js.map nA,m,nA,wA,dA,x,lo,st',j,rfl,ms,cn,hc,ci,hjm,h12,fun kv1 wv1 H5 ms5 hc5 ci5 kb5 t5=>?_⟩
     have up':∀ l,st' l<=tr m j st' l:=tr_up h12
     refine ⟨_,_,rfl,kb5 _ _ nla el',⟨kv1,wv1,ms5,hc5,ci5,kb.trans kb5⟩,fun l=>Nat.le_trans (hup l) (up' l),fun l hl=>?_,fun _=>?_⟩
     ·refine able_keep h12 (fun e=>?_) (hab l (by rw [hd]; exact List.mem_append_right _ hl))
      have nd':=nd.sublist (List.drop_sublist i _)
      rw [hd] at nd'
      rw [e] at hl
      exact (List.nodup_cons.mp nd').1 hl
     ·refine Nat.lt_of_lt_of_le (mu_lt up' (tr_more hja) (ci5.le j (by omega)) (by omega)) (mu_le hup m)
   ·obtain ⟨o2,st',rfl,el',pm',hup,_,hmu⟩:=h
    rw [List.length_map] at hmu
    refine rdAble cn pm' rfl fun la ks H2 pm pa nla=>?_
    refine ⟨_,la,ks,st',rfl,pm,pa,nla,?_,hmu (by rw [List.length_cons]; omega)⟩
    have:=hup lo
    omega
end
end D
namespace L2
open PySem PySem.Spec PyProof.Rows
theorem op_repB {X:Cx}:OpR X (binaryOp .Mult) (fun x y H Q=>∃ (z:Str) (k:Int),x = .str z/\y = .int k/\(k = 0\/k = 1)/\∀ r:Str,r.cps.toList = (if k = 0 then [] else z.cps.toList)->Q (.str r) H):=by
 intro zp s σ H x y v u Q I rx ry h
 obtain ⟨z,k,rfl,rfl,hk,q⟩:=h
 obtain ⟨t,rfl⟩:=rx
 obtain ⟨t',rfl⟩:=ry
 have hok:MulOk z k:=by
  rcases hk with rfl | rfl
  ·exact ⟨by decide,fun h=>absurd (by decide) h,fun h=>absurd (by decide) h⟩
  ·exact ⟨by decide,fun _ h=>by simp at h,fun _ h=>by simp at h⟩
 refine PySem.SB.mul hok fun t' tk=>⟨.str _,H,I.tok tk,⟨_,rfl⟩,q _ ?_⟩
 rcases hk with rfl | rfl
 ·rw [if_pos rfl]
  unfold PySem.Txt.mul
  rw [if_pos (by decide)]
  rfl
 ·rw [if_neg (by decide)]
  unfold PySem.Txt.mul
  rw [if_neg (by decide),if_pos (by simp)]
end L2
namespace D
open PySem L2
theorem len36:signs36.length = 36:=by decide +kernel
theorem join_one (cs:List Nat):Txt.join (Str.ofString "") (cs.map fun c=>(⟨#[c]⟩:Str)) = ⟨cs.toArray⟩:=join_signs cs
theorem sum_ones (cs:List Nat):((cs.map fun c=>(⟨#[c]⟩:Str)).map (·.length)).sum = cs.length:=by
 induction cs with
 | nil=>rfl
 | cons c r ih=>
  rw [List.map_cons,List.map_cons,List.sum_cons,ih,List.length_cons]
  show 1 + r.length = r.length + 1
  omega
theorem at36 {i:Int} (h0:0<=i) (h1:i < 36):∃ c,atI signs36.cps.toList i = some c/\in36 c = true:=by
 obtain ⟨c,h,hm⟩:=at_sign (z:=signs36) h0 (by rw [len36]; exact h1)
 exact ⟨c,h,decide_eq_true hm⟩
theorem signs_nd:signs36.cps.toList.Nodup:=by decide +kernel
theorem signs_inj {i j:Nat}{c:Nat} (h:signs36.cps.toList[i]? = signs36.cps.toList[j]?) (hc:signs36.cps.toList[i]? = some c):i = j:=by
 have h1:=(List.getElem?_eq_some_iff.mp hc).1
 have h2:=(List.getElem?_eq_some_iff.mp (h.symm.trans hc)).1
 rw [List.getElem?_eq_getElem h1,List.getElem?_eq_getElem h2] at h
 exact (List.getElem_inj signs_nd).mp (Option.some.inj h)
theorem slen_app (x y:Str):(x ++ y).length = x.length + y.length:=by rw [← str_len,str_app,List.length_append,str_len,str_len]
def letters:Str:=Str.ofString "abcdefghijklmnopqrstuvwxyz0123456789"
theorem drawJ {b:Addr}{σ:St}{H H1:Hp}{F:Addr->Hp->List V->Prop}{n:Int} (h2:frees [2,0] σ = [some (.str letters),some (.ref b)]) (st:Step b H H1) (hn:n<=12) (fin:∀ (cs:List Nat) (H':Hp) (D:Addr),cs.length = n.toNat->(∀ c∈cs,in36 c = true)->Step b H H'->H' D = none->F D H' (cs.map fun c=>V.str ⟨#[c]⟩)):
  ∃ W:Nat->Nat->List V->Hp->Prop,(∃ m,W 0 m [] H1)/\∀ i m us H,W i m us H->us.length<=sizeLine /\
   (((Itr 0 n.toNat).stop i H/\∀ D,H D = none->F D H us) \/
    ((Itr 0 n.toNat).go i H/\∀ v H',(Itr 0 n.toNat).yld i H v H'->if true = true then (tOp rIxS (tVar 1) (tCall spTake [] E0 (tCons (tVar 2) (tCons (tC (V.int 36)) tNil)))) (some v :: frees [2,0] σ) H' fun y H3=>∃ m',m' < m/\W (i + 1) m' (us ++ [y]) H3 else ∃ m',m' < m/\W (i + 1) m' us H')):=by
 refine rd_drawR (n:=n) (fun i us H'=>∃ cs:List Nat,us = cs.map (fun c=>V.str ⟨#[c]⟩)/\cs.length = i/\(∀ c∈cs,in36 c = true)/\Step b H H') ⟨[],rfl,rfl,(fun c h=>nomatch h),st⟩ (fun i us H' h=>?_) (by omega) (fun i us H' R hi h r=>?_) (fun us H' D h hD=>?_)
 ·obtain ⟨cs,rfl,hl,_⟩:=h
  rw [List.length_map]; exact hl
 ·obtain ⟨cs,rfl,hl,hc,st⟩:=h
  rw [h2]
  refine ⟨_,rfl,_,rfl,b,36,rfl,st.box,by decide,by decide,fun r2 H5 a0 a1 st5=>?_⟩
  obtain ⟨c,ec,hcc⟩:=at36 a0 a1
  refine ⟨_,r2,c,rfl,rfl,small (by rw [show letters.length = 36 from len36]; decide),ec,r _ _ ⟨cs ++ [c],by rw [List.map_append]; rfl,by rw [List.length_append,hl]; rfl,fun x hx=>?_,st.trans st5⟩⟩
  rcases List.mem_append.mp hx with hx | hx
  ·exact hc x hx
  ·rw [List.mem_singleton.mp hx]; exact hcc
 ·obtain ⟨cs,rfl,hl,hc,st3⟩:=h
  exact fin cs H' D hl hc st3 hD
theorem sumJ {cs:List Nat} (hl:cs.length<=12):((cs.map fun c=>(⟨#[c]⟩:Str)).map fun x=>x.length).sum + (cs.map fun c=>(⟨#[c]⟩:Str)).length * (Str.ofString "").length<=16777216:=by
 rw [sum_ones,List.length_map,show (Str.ofString "").length = 0 from by decide +kernel]
 omega
theorem strJ (cs:List Nat):(⟨cs.toArray⟩:Str).cps.toList = cs:=by show cs.toArray.toList = cs; rw [List.toList_toArray]
theorem lenJ (cs:List Nat):(⟨cs.toArray⟩:Str).length = cs.length:=by rw [← str_len,strJ]
structure Nms (ro wo:Str) (ns:List Str):Prop where
 at':∀ (j:Nat) (z:Str),ns[j]? = some z->Nm z/\roomOf z = ro/\∃ c mo,signs36.cps.toList[j % 36]? = some c/\z.cps.toList = ro.cps.toList ++ 46 :: (wo.cps.toList ++ c :: mo)/\mo.length = if j < 36 then 0 else 1
theorem Nms.inj {ro wo:Str}{ns:List Str} (h:Nms ro wo ns) {i j:Nat}{z:Str} (hi:ns[i]? = some z) (hj:ns[j]? = some z) (li:i < 72) (lj:j < 72):i = j:=by
 obtain ⟨_,_,c,mo,hc,e,l⟩:=h.at' i z hi
 obtain ⟨_,_,c',mo',hc',e',l'⟩:=h.at' j z hj
 rw [e] at e'
 have e2:=List.append_cancel_left e'
 injection e2 with _ e2
 have e3:=List.append_cancel_left e2
 injection e3 with e4 e5
 rw [e4,← hc'] at hc
 have:=signs_inj hc (by rw [hc]; exact hc')
 rw [e5,l'] at l
 split at l <;> split at l <;> omega
def spNamed:Sp:=fun vs H Q _=>∃ (b:Addr) (n:Int),vs = [.ref b,.int n]/\IsBox H b/\0<=n/\n<=40/\∀ (l:Addr) (ro wo:Str) (ns:List Str) (H':Hp),H l = none->Step b H H'->H' l = some (.lst (ns.map V.str))->ns.length = n.toNat->Nms ro wo ns->Q (.ref l) H'
section
variable {P:Program}{w:World}{K:PySem.W.Frag}{mg:Str->Option Value}{base:Heap}{f:Addr}{fd:FuncData}{k n:Nat}{AHouse APlainLooks AMaker:Addr}
theorem sc_lnamed:FnScope ["_law_box_here","_law_wide","_law_letters","_law_room","_law_word","_law_names","_law_k","_law_more"] ["_law_box_here","_law_wide"] (defScope s_lnamed):=⟨rfl,rfl,rfl,by decide +kernel,rfl,by decide +kernel,by decide +kernel⟩
theorem ok_lnamed (F:Fun K "_law_named" "_law_named" s_lnamed f fd) (G_ltake:Have P w K mg base "_law_take" k ["_law_box_here","_law_wide"] (spTake)) (m_int:mg "int" = none) (m_range:mg "range" = none):FnOk P w K mg base CX0 (k + 1) f fd ["_law_box_here","_law_wide"] (spNamed):=by
 refine F.okQ sc_lnamed (fun vs H Q E h=>?_) (fun cdv A outer s H vs Q E hr h=>?_)
 ·obtain ⟨b,n,rfl,_⟩:=h
  rfl
 obtain ⟨b,n,rfl,hb,hn0,hn1,q⟩:=h
 refine ⟨_,(pss_cons (ps_set (i:=2) sc_lnamed.nd rfl (Or.inr rfl) pe_str)
  (pss_cons (ps_set (i:=3) sc_lnamed.nd rfl (Or.inl rfl) (pe_bm PySem.F.plainAttrs_str PySem.F.slot_str_join PySem.F.type_str_join mt_join pe_str (pa_cons (pe_lcomp [2,0] ["_law_letters","_law_box_here"] rfl rfl (by decide +kernel) rfl (by decide +kernel) rfl (by decide +kernel) ⟨rfl,rfl,trivial⟩ rfl ⟨⟨rfl,rfl,Or.inr (Or.inl rfl),(by show (some NameKind.cell:Option NameKind)≠some .local; decide),⟨_,rfl⟩⟩,⟨rfl,rfl,Or.inr (Or.inl rfl),(by show (some NameKind.cell:Option NameKind)≠some .local; decide),⟨_,rfl⟩⟩,trivial⟩ (pi_range1 rfl m_range (pa_cons (pe_op op_add pe_int (pe_fn G_ltake hr rfl (pa_cons (pv 0) (pa_cons pe_int pa_nil)))) pa_nil)) (fun C s H fp=>⟨pifs_nil,(pe_ix ix_str (pv 1) (pe_fn G_ltake hr rfl (pa_cons (pv 2) (pa_cons pe_int pa_nil))) (fun _ _=>rfl))⟩)) pa_nil)))
  (pss_cons (ps_set (i:=4) sc_lnamed.nd rfl (Or.inl rfl) (pe_bm PySem.F.plainAttrs_str PySem.F.slot_str_join PySem.F.type_str_join mt_join pe_str (pa_cons (pe_lcomp [2,0] ["_law_letters","_law_box_here"] rfl rfl (by decide +kernel) rfl (by decide +kernel) rfl (by decide +kernel) ⟨rfl,rfl,trivial⟩ rfl ⟨⟨rfl,rfl,Or.inr (Or.inl rfl),(by show (some NameKind.cell:Option NameKind)≠some .local; decide),⟨_,rfl⟩⟩,⟨rfl,rfl,Or.inr (Or.inl rfl),(by show (some NameKind.cell:Option NameKind)≠some .local; decide),⟨_,rfl⟩⟩,trivial⟩ (pi_range1 rfl m_range (pa_cons (pe_fn G_ltake hr rfl (pa_cons (pv 0) (pa_cons pe_int pa_nil))) pa_nil)) (fun C s H fp=>⟨pifs_nil,(pe_ix ix_str (pv 1) (pe_fn G_ltake hr rfl (pa_cons (pv 2) (pa_cons pe_int pa_nil))) (fun _ _=>rfl))⟩)) pa_nil)))
  (pss_cons (ps_set (i:=5) sc_lnamed.nd rfl (Or.inl rfl) (pe_lst pa_nil))
  (pss_cons (ps_for PassesOwn.never rfl (pi_range1 rfl m_range (pa_cons (pv 1) pa_nil)) (pg_name (i:=6) sc_lnamed.nd rfl (Or.inl rfl)) (pss_cons (ps_set (i:=7) sc_lnamed.nd rfl (Or.inl rfl) (pe_op op_repB (pe_ix ix_str (pv 2) (pe_fn G_ltake hr rfl (pa_cons (pv 0) (pa_cons pe_int pa_nil))) (fun _ _=>rfl)) (pe_callTy call_int1 rfl m_int boot_intT (pa_cons (pe_cmpR op_gt (pv 6) pe_int (nomark _)) pa_nil))))
  (pss_one (ps_expr (pe_bm PySem.F.plainAttrs_list PySem.F.slot_list_append PySem.F.type_list_append mt_append (pv 5) (pa_cons (pe_op op_add_str (pe_op op_add_str (pe_op op_add_str (pe_op op_add_str (pv 3) pe_str) (pv 4)) (pe_ix ix_str (pv 2) (pe_op op_mod (pv 6) pe_int) (fun _ _=>rfl))) (pv 7)) pa_nil))))))
  (pss_one (ps_ret (pv 5)))))))),?_⟩
 have l36:(Str.ofString "abcdefghijklmnopqrstuvwxyz0123456789").length = 36:=len36
 refine ⟨rfl,_,rfl,b,12,rfl,hb,by decide,by decide,fun wd H1 w0 w1 st1=>⟨_,_,rfl,rfl,1 + wd,rfl,by omega,by omega,drawJ (n:=1 + wd) rfl st1 (by omega) fun cs H' D hl hc st hD=>?_⟩⟩
 have eD:upd H' D (.lst (cs.map fun c=>V.str ⟨#[c]⟩)) D = some (.lst ((cs.map fun c=>(⟨#[c]⟩:Str)).map V.str)):=by rw [upd_same,List.map_map]; rfl
 have st2:=st.trans (Step.new (o:=.lst (cs.map fun c=>V.str ⟨#[c]⟩)) st.box hD)
 generalize upd H' D (.lst (cs.map fun c=>V.str ⟨#[c]⟩)) = H2 at eD st2
 refine ⟨_,D,cs.map fun c=>(⟨#[c]⟩:Str),rfl,rfl,SqL.of eD,sumJ (by omega),?_⟩
 rw [join_one]
 have hro:=lenJ cs
 rw [hl] at hro
 have hrc:∀ c∈(⟨cs.toArray⟩:Str).cps.toList,in36 c = true:=by rw [strJ]; exact hc
 generalize (⟨cs.toArray⟩:Str) = ro at hro hrc
 clear hl hc st hD eD
 dsimp only [gName]
 refine ⟨rfl,_,rfl,b,11,rfl,st2.box,by decide,by decide,fun wd2 H3 w20 w21 st3=>⟨wd2,rfl,by omega,by omega,drawJ (n:=wd2) rfl (st2.trans st3) (by omega) fun cs H' D hl hc st hD=>?_⟩⟩
 have eD:upd H' D (.lst (cs.map fun c=>V.str ⟨#[c]⟩)) D = some (.lst ((cs.map fun c=>(⟨#[c]⟩:Str)).map V.str)):=by rw [upd_same,List.map_map]; rfl
 have st4:=st.trans (Step.new (o:=.lst (cs.map fun c=>V.str ⟨#[c]⟩)) st.box hD)
 generalize upd H' D (.lst (cs.map fun c=>V.str ⟨#[c]⟩)) = H4 at eD st4
 refine ⟨_,D,cs.map fun c=>(⟨#[c]⟩:Str),rfl,rfl,SqL.of eD,sumJ (by omega),?_⟩
 rw [join_one]
 have hwo:=lenJ cs
 rw [hl] at hwo
 have hwc:∀ c∈(⟨cs.toArray⟩:Str).cps.toList,in36 c = true:=by rw [strJ]; exact hc
 generalize (⟨cs.toArray⟩:Str) = wo at hwo hwc
 clear hl hc st hD eD
 dsimp only [gName]
 have wro:Wd ro:=⟨by omega,by omega,hrc⟩
 have hwl:wo.length<=10:=by omega
 refine ⟨zl0,fun l hl=>?_⟩
 have nlb:l≠b:=IsBox.ne st4.box hl
 have hl0:H l = none:=by
  cases e:H l with
  | none=>rfl
  | some o=>rw [st4.keep l o nlb e] at hl; cases hl
 have st5:=st4.trans (Step.new (o:=.lst []) st4.box hl)
 have e5:upd H4 l (.lst []) l = some (.lst []):=upd_same
 generalize upd H4 l (.lst []) = H5 at st5 e5
 dsimp only [gName]
 refine ⟨_,rfl,n,rfl,by omega,by omega,for_range (lo:=0) (n:=n.toNat) (fun i σ' H'=>∃ (o6 o7:Option V) (ns:List Str),σ' = [some (.ref b),some (.int n),some (.str letters),some (.str ro),some (.str wo),some (.ref l),o6,o7]/\H' l = some (.lst (ns.map V.str))/\ns.length = i/\Nms ro wo ns/\Step b H H')
  ⟨none,none,[],rfl,e5,rfl,⟨fun j z h=>by rw [List.getElem?_nil] at h; cases h⟩,st5⟩ (fun i σ' H' hi h=>?_) (fun σ' H' h=>?_)⟩
 ·obtain ⟨o6,o7,ns,rfl,el,hnl,nms,st⟩:=h
  refine ⟨_,rfl,_,rfl,b,36,rfl,st.box,by decide,by decide,fun r6 H6 a0 a1 st6=>?_⟩
  obtain ⟨c6,e6,h6⟩:=at36 a0 a1
  refine ⟨_,r6,c6,rfl,rfl,small (by rw [show letters.length = 36 from len36]; decide),e6,_,rfl,_,_,rfl,rfl,.inr ⟨_,rfl,_,_,rfl,rfl,?_,fun mo hmo=>?_⟩⟩
  ·split
   ·exact .inr rfl
   ·exact .inl rfl
  have hml:mo.cps.toList.length = if i < 36 then 0 else 1:=by
   rw [hmo]
   by_cases h:i < 36
   ·rw [if_pos h,decide_eq_false (by omega)]
    rfl
   ·rw [if_neg h,decide_eq_true (by omega)]
    rfl
  have hmc:∀ c∈mo.cps.toList,in36 c = true:=fun c hc=>by
   rw [hmo] at hc
   by_cases h:i < 36
   ·rw [decide_eq_false (by omega)] at hc
    cases hc
   ·rw [decide_eq_true (by omega)] at hc
    have:c∈[c6]:=hc
    rw [List.mem_singleton.mp this]; exact h6
  have hml1:mo.length<=1:=by rw [← str_len,hml]; split <;> decide
  have el6:=st6.keep l _ nlb el
  have st7:=st.trans st6
  clear hmo e6
  obtain ⟨ck,ek,hk⟩:=at36 (i:=(0 + (i:Int)) % 36) (by omega) (by omega)
  have ek':signs36.cps.toList[i % 36]? = some ck:=by
   have h36:i % 36 < signs36.cps.toList.length:=by rw [str_len,len36]; omega
   have:=atI_nat (xs:=signs36.cps.toList) (j:=i % 36) (List.getElem?_eq_getElem h36)
   rw [show ((i % 36:Nat):Int) = (0 + (i:Int)) % 36 by omega,ek] at this
   rw [List.getElem?_eq_getElem h36]
   exact this.symm
  have lk:(⟨#[ck]⟩:Str).length = 1:=rfl
  have ld:(Str.ofString ".").length = 1:=dot_len
  have hrl:=wro.hi
  have s1:(ro ++ Str.ofString ".").length = ro.length + 1:=by rw [slen_app,ld]
  have s2:(ro ++ Str.ofString "." ++ wo).length = ro.length + 1 + wo.length:=by rw [slen_app,s1]
  have s3:(ro ++ Str.ofString "." ++ wo ++ ⟨#[ck]⟩).length = ro.length + 1 + wo.length + 1:=by rw [slen_app,s2,lk]
  refine ⟨_,rfl,.inl ⟨rfl,_,SqL.of el6⟩,_,rfl,_,_,rfl,rfl,small (by rw [ld]; omega),_,rfl,_,_,rfl,rfl,small (by rw [s1]; omega),_,rfl,_,rfl,_,_,rfl,rfl,(by show (0:Int) < 36; decide),_,_,ck,rfl,rfl,small (by rw [show letters.length = 36 from len36]; decide),ek,_,_,rfl,rfl,small (by rw [s2,lk]; omega),_,rfl,_,_,rfl,rfl,small (by rw [s3]; omega),l,_,_,rfl,rfl,el6,small (by rw [List.length_map]; omega),?_⟩
  have wdw:Wd (wo ++ ⟨#[ck]⟩ ++ mo):=⟨by rw [slen_app,slen_app,lk]; omega,by rw [slen_app,slen_app,lk]; omega,fun c hc=>by
   rw [str_app,str_app] at hc
   rcases List.mem_append.mp hc with hc | hc
   ·rcases List.mem_append.mp hc with hc | hc
    ·exact hwc c hc
    ·have:c∈[ck]:=hc
     rw [List.mem_singleton.mp this]; exact hk
   ·exact hmc c hc⟩
  have ez:ro ++ Str.ofString "." ++ wo ++ ⟨#[ck]⟩ ++ mo = ro ++ dot ++ (wo ++ ⟨#[ck]⟩ ++ mo):=by
   apply str_eq
   simp only [str_app,List.append_assoc]
   rfl
  refine ⟨_,_,ns ++ [_],rfl,by rw [upd_same,List.map_append]; rfl,by rw [List.length_append,hnl]; rfl,⟨fun j z hj=>?_⟩,⟨?_,fun c o hc e=>?_⟩⟩
  rotate_left
  ·obtain ⟨x,y,z,e⟩:=st7.box
   exact ⟨x,y,z,by rw [upd_ne nlb.symm]; exact e⟩
  ·rw [upd_ne (ne_of_none e hl0)]
   exact st7.keep c o hc e
  by_cases hji:j < ns.length
  ·rw [List.getElem?_append_left hji] at hj
   exact nms.at' j z hj
  ·rw [List.getElem?_append_right (by omega)] at hj
   have e:=List.mem_singleton.mp (List.mem_of_getElem? hj)
   have hj0:j - ns.length < 1:=(List.getElem?_eq_some_iff.mp hj).1
   have ej:j = i:=by omega
   rw [e,ej]
   refine ⟨by rw [ez]; exact ⟨_,_,rfl,wro,wdw⟩,by rw [ez]; exact room_eq wro wdw,ck,mo.cps.toList,ek',?_,hml⟩
   rw [ez,str_app,str_app,str_app,str_app,show dot.cps.toList = [46] by rw [dot_eq],List.append_assoc,List.append_assoc]
   rfl
 ·obtain ⟨o6,o7,ns,rfl,el,hnl,nms,st⟩:=h
  exact ⟨_,rfl,q l ro wo ns H' hl0 st el hnl nms⟩
end
end D
namespace L2
open PySem PySem.Spec PyProof.Rows
theorem for_rev {K:PySem.W.Frag}{a:Addr}{xs:List V}{g:TG}{tb:TS}{D:Ends}{σ:St}{H:Hp} (Pv:Nat->St->Hp->Prop) (h0:Pv 0 σ H) (hl:∀ i σ H,i<=xs.length->Pv i σ H->SqL K H a xs)
  (hs:∀ i x σ H,i < xs.length->xs[xs.length - 1 - i]? = some x->Pv i σ H->g x σ H fun σ2 H2=>tb { D with nx:=Pv (i + 1),ct:=Pv (i + 1),bk:=D.nx } σ2 H2) (hd:∀ σ H,Pv xs.length σ H->D.nx σ H):
  ∃ W:Nat->Nat->St->Hp->Prop,(∃ m,W 0 m σ H)/\∀ i m σ H,W i m σ H->
   ((Itv K a xs).stop i H/\D.nx σ H)\/((Itv K a xs).go i H/\∃ N:St->Hp->Prop,(∀ σ' H',N σ' H'->∃ m',m' < m/\W (i + 1) m' σ' H')/\∀ x H',(Itv K a xs).yld i H x H'->g x σ H' fun σ2 H2=>tb { D with nx:=N,ct:=N,bk:=D.nx } σ2 H2):=by
 refine ⟨fun i m σ H=>m = xs.length - i/\i<=xs.length/\Pv i σ H,⟨xs.length,by simp,Nat.zero_le _,h0⟩,?_⟩
 rintro i m σ H ⟨rfl,hi,p⟩
 have q:=hl i σ H hi p
 by_cases hlt:i < xs.length
 ·refine .inr ⟨⟨hlt,q⟩,Pv (i + 1),fun σ' H' p'=>⟨xs.length - (i + 1),by omega,rfl,by omega,p'⟩,?_⟩
  rintro x H' ⟨rfl,hx⟩
  exact hs i x σ _ hlt hx p
 ·have e:i = xs.length:=by omega
  subst e
  exact .inl ⟨rfl,hd σ H p⟩
end L2
namespace D
open PySem L2
structure Wts (K:PySem.W.Frag) (H:Hp) (us:List V) (m:Nat) (wA:Nat->Int) (dA:Nat->Oc) (x:W):Prop where
 len:us.length = m + 1
 lst:∃ v,us[m]? = some v/\RW H v x
 num:∀ k,k < m->us[k]? = some (.int (wA k))
 dm:dA m = .made x
 dk:∀ k,k < m->dA k = addO (wA k) (dA (k + 1))
 kd:(∃ i,x = .num i)\/∃ z,x = .txt z
theorem Wts.shape {K:PySem.W.Frag}{H:Hp}{us:List V}{m:Nat}{wA:Nat->Int}{dA:Nat->Oc}{x:W} (h:Wts K H us m wA dA x):∀ d k,k + d = m->(∃ i,dA k = .made (.num i))\/(∃ z,dA k = .made (.txt z))\/dA k = .kind
 | 0,k,e=>by
  rw [show k = m by omega,h.dm]
  rcases h.kd with ⟨i,rfl⟩ | ⟨z,rfl⟩
  ·exact .inl ⟨i,rfl⟩
  ·exact .inr (.inl ⟨z,rfl⟩)
 | d + 1,k,e=>by
  rw [h.dk k (by omega)]
  rcases h.shape d (k + 1) (by omega) with ⟨i,e⟩ | ⟨z,e⟩ | e
  ·rw [e]; exact .inl ⟨_,rfl⟩
  ·rw [e]; exact .inr (.inr rfl)
  ·rw [e]; exact .inr (.inr rfl)
def spDueL (K:PySem.W.Frag):Sp:=fun vs H Q _=>∃ (l:Addr) (us:List V) (m:Nat) (wA:Nat->Int) (dA:Nat->Oc) (x:W),vs = [.ref l,.non]/\H l = some (.lst us)/\Wts K H us m wA dA x/\m<=39 /\
 ∀ (d:Addr) (ds:List V) (H':Hp),H d = none->Same H H'->H' d = some (.lst ds)->ds.length = m + 1->(∀ k,k<=m->∃ v,ds[k]? = some v/\RO K H' v (dA k))->Q (.ref d) H'
section
variable {P:Program}{w:World}{K:PySem.W.Frag}{mg:Str->Option Value}{base:Heap}{f:Addr}{fd:FuncData}{k n:Nat}{AHouse APlainLooks AMaker:Addr}
theorem sc_ldue:FnScope ["_law_worths","_law_first","_law_due_here","_law_last","_law_worth_here"] ["_law_worths","_law_first"] (defScope s_ldue):=⟨rfl,rfl,rfl,by decide +kernel,rfl,by decide +kernel,by decide +kernel⟩
theorem ok_ldue (F:Fun K "_law_due" "_law_due" s_ldue f fd) (m_int:mg "int" = none) (m_isi:mg "isinstance" = none) (m_list:mg "list" = none) (m_reversed:mg "reversed" = none):FnOk P w K mg base CX0 (k + 1) f fd ["_law_worths","_law_first"] (spDueL K):=by
 refine F.okQ sc_ldue (fun vs H Q E h=>?_) (fun cdv A outer s H vs Q E hr h=>?_)
 ·obtain ⟨l,us,m,wA,dA,x,rfl,_⟩:=h
  rfl
 obtain ⟨l,us,m,wA,dA,x,rfl,el,wt,hm,q⟩:=h
 refine ⟨_,(pss_cons (ps_set (i:=2) sc_ldue.nd rfl (Or.inl rfl) (pe_lst pa_nil))
  (pss_cons (ps_set (i:=3) sc_ldue.nd rfl (Or.inl rfl) pe_non)
  (pss_cons (ps_for PassesOwn.never rfl (pi_revL rfl m_reversed (pa_cons (pv 0) pa_nil)) (pg_name (i:=4) sc_ldue.nd rfl (Or.inl rfl)) (pss_cons (ps_if (pt_cmp (pc_isN (pv 3))) (pss_one (ps_set (i:=3) sc_ldue.nd rfl (Or.inl rfl) (pe_tup (pa_cons pe_str (pa_cons (pv 4) pa_nil))))) (pss_one (ps_if (PW.pt (pw_and (pt_cmpR op_eq (pe_ix ix_tup (pv 3) pe_int (fun _ _=>rfl)) pe_str (nomark _)) (pw_and1 (pt_val (pe_callB call_isi rfl m_isi boot_isi (pa_cons (pe_ix ix_tup (pv 3) pe_int (fun _ _=>rfl)) (pa_cons (pe_ty rfl m_int boot_intT) pa_nil))))))) (pss_one (ps_set (i:=3) sc_ldue.nd rfl (Or.inl rfl) (pe_tup (pa_cons pe_str (pa_cons (pe_op op_add (pe_ix ix_tup (pv 3) pe_int (fun _ _=>rfl)) (pv 4)) pa_nil))))) (pss_one (ps_set (i:=3) sc_ldue.nd rfl (Or.inl rfl) (pe_tup (pa_cons pe_str (pa_cons pe_str (pa_cons pe_str pa_nil)))))))))
  (pss_one (ps_expr (pe_bm PySem.F.plainAttrs_list PySem.F.slot_list_append PySem.F.type_list_append mt_append (pv 2) (pa_cons (pv 3) pa_nil))))))
  (pss_one (ps_ret (pe_lrev rfl rfl m_reversed rfl m_list (pa_cons (pv 2) pa_nil))))))),?_⟩
 refine ⟨zl0,fun d hd=>?_⟩
 have s1:=Same.new (o:=.lst []) hd
 have e1:upd H d (.lst []) d = some (.lst []):=upd_same
 have el1:=s1 _ _ el
 have nld:l≠d:=ne_of_none el hd
 generalize upd H d (.lst []) = H1 at s1 e1 el1
 dsimp only [gName]
 refine ⟨_,rfl,l,us,rfl,SqL.of el1,for_rev (K:=K) (xs:=us) (fun i σ' H'=>∃ (lv:V) (o4:Option V) (ds:List V),σ' = [some (.ref l),some .non,some (.ref d),some lv,o4]/\H' d = some (.lst ds)/\ds.length = i/\(∀ j,j < i->∃ v,ds[j]? = some v/\RO K H' v (dA (m - j)))/\(∀ c o,c≠d->H1 c = some o->H' c = some o)/\(i = 0->lv = .non)/\(0 < i->RO K H' lv (dA (m - (i - 1)))))
  ⟨.non,none,[],rfl,e1,rfl,(fun j z=>absurd z (Nat.not_lt_zero _)),(fun _ _ _ e=>e),(fun _=>rfl),(fun z=>absurd z (Nat.lt_irrefl _))⟩ (fun i σ' H' _ h=>?_) (fun i y σ' H' hi hy h=>?_) (fun σ' H' h=>?_)⟩
 ·obtain ⟨_,_,_,_,_,_,_,kp,_⟩:=h
  exact SqL.of (kp _ _ nld el1)
 ·obtain ⟨lv,o4,ds,rfl,ed,hdl,hds,kp,h0,h1⟩:=h
  have hlen:=wt.len
  rw [show us.length - 1 - i = m - i by omega] at hy
  have go:∀ (lv':V) (H2:Hp),Same H' H2->RO K H2 lv' (dA (m - i))->∀ (o4:Option V),tDrop (tBM K "list" rAppend (tVar 2) (tCons (tVar 3) tNil)) { nx:=fun σ' H'=>∃ (lv:V) (o4:Option V) (ds:List V),σ' = [some (.ref l),some .non,some (.ref d),some lv,o4]/\H' d = some (.lst ds)/\ds.length = i + 1/\(∀ j,j < i + 1->∃ v,ds[j]? = some v/\RO K H' v (dA (m - j)))/\(∀ c o,c≠d->H1 c = some o->H' c = some o)/\(i + 1 = 0->lv = .non)/\(0 < i + 1->RO K H' lv (dA (m - (i + 1 - 1)))),rt:=Q } [some (.ref l),some .non,some (.ref d),some lv',o4] H2:=fun lv' H2 s2 ro o4=>by
   have ed2:=s2 _ _ ed
   refine ⟨_,rfl,.inl ⟨rfl,_,SqL.of ed2⟩,_,rfl,d,ds,lv',rfl,rfl,ed2,Nat.lt_of_le_of_lt (show ds.length<=1000 by omega) (by decide),?_⟩
   have t3:=tups_put (o:=.lst (ds ++ [lv'])) ed2
   refine ⟨lv',o4,ds ++ [lv'],rfl,upd_same,by rw [List.length_append,hdl]; rfl,fun j hj=>?_,fun c o hc e=>by rw [upd_ne hc]; exact s2 _ _ (kp c o hc e),fun z=>absurd z (by omega),fun _=>?_⟩
   ·by_cases hji:j < i
    ·obtain ⟨v,e,r⟩:=hds j hji
     exact ⟨v,by rw [List.getElem?_append_left (by omega)]; exact e,(r.mono s2).tups t3⟩
    ·have:j = i:=by omega
     rw [this]
     exact ⟨lv',by rw [← hdl,List.getElem?_concat_length],ro.tups t3⟩
   ·exact ro.tups t3
  refine ⟨_,rfl,_,rfl,?_⟩
  by_cases hi0:i = 0
  ·subst hi0
   rw [h0 rfl]
   obtain ⟨v,ev,rv⟩:=wt.lst
   obtain rfl:y = v:=Option.some.inj (hy.symm.trans ev)
   refine iteT ⟨_,rfl,zl2,fun t ht=>go _ _ (Same.new ht) ?_ _⟩
   rw [show m - 0 = m from rfl,wt.dm]
   have t1:Tups H (upd H' t (.tup [.str "made",y])):=fun a vs e=>by
    rw [upd_ne (ne_of_none (kp a _ (ne_of_none e hd) (s1 _ _ e)) ht)]
    exact kp a _ (ne_of_none e hd) (s1 _ _ e)
   exact ⟨t,y,rfl,.inl upd_same,rv.mono t1⟩
  ·have r1:=h1 (by omega)
   have hk:m - i < m:=by omega
   rw [show m - (i - 1) = m - i + 1 by omega] at r1
   have ey:y = .int (wA (m - i)):=Option.some.inj (hy.symm.trans (wt.num _ hk))
   have hdk:=wt.dk _ hk
   rcases wt.shape (i - 1) (m - i + 1) (by omega) with ⟨j,ej⟩ | ⟨z,ej⟩ | ej
   ·rw [ej] at r1 hdk
    obtain ⟨a,u,rfl,sq,ru⟩:=r1
    cases ru
    refine iteF ⟨_,rfl,a,_,0,_,rfl,rfl,sq.sq,rfl,rfl,_,rfl,iteT ?_⟩
    refine ⟨_,rfl,a,_,1,_,rfl,rfl,sq.sq,rfl,_,_,_,true,rfl,.int _,(by decide +kernel),_,rfl,iteT ?_⟩
    refine ⟨_,rfl,a,_,1,_,rfl,rfl,sq.sq,rfl,_,rfl,_,_,rfl,ey,zl2,fun t ht=>go _ _ (Same.new ht) ?_ _⟩
    rw [hdk]
    exact ⟨t,_,rfl,.inl upd_same,.num _⟩
   ·rw [ej] at r1 hdk
    obtain ⟨a,u,rfl,sq,ru⟩:=r1
    cases ru
    refine iteF ⟨_,rfl,a,_,0,_,rfl,rfl,sq.sq,rfl,rfl,_,rfl,iteT ?_⟩
    refine ⟨_,rfl,a,_,1,_,rfl,rfl,sq.sq,rfl,_,_,_,false,rfl,.str _,(by decide +kernel),_,rfl,iteF ?_⟩
    refine ⟨zl3,fun t ht=>go _ _ (Same.new ht) ?_ _⟩
    rw [hdk]
    exact ⟨t,rfl,.inl upd_same⟩
   ·rw [ej] at r1 hdk
    obtain ⟨a,rfl,sq⟩:=r1
    refine iteF ⟨_,rfl,a,_,0,_,rfl,rfl,sq.sq,rfl,rfl,_,rfl,?_⟩
    rw [dk (by decide +kernel)]
    refine iteF ⟨zl3,fun t ht=>go _ _ (Same.new ht) ?_ _⟩
    rw [hdk]
    exact ⟨t,rfl,.inl upd_same⟩
 ·obtain ⟨lv,o4,ds,rfl,ed,hdl,hds,kp,_,_⟩:=h
  have hlen:=wt.len
  refine ⟨_,rfl,d,ds,rfl,SqL.of ed,fun r hr=>?_⟩
  have s2:=Same.new (o:=.lst ds.reverse) hr
  have ed2:=s2 _ _ ed
  refine q r ds.reverse _ ?_ (fun c o e=>?_) upd_same (by rw [List.length_reverse,hdl,hlen]) fun k hk=>?_
  ·cases e:H r with
   | none=>rfl
   | some o=>rw [kp r o (ne_of_none e hd) (s1 _ _ e)] at hr; cases hr
  ·exact s2 _ _ (kp c o (ne_of_none e hd) (s1 _ _ e))
  ·obtain ⟨v,e,r⟩:=hds (m - k) (by omega)
   rw [show m - (m - k) = k by omega] at r
   refine ⟨v,?_,r.mono s2⟩
   rw [List.getElem?_reverse (by omega),show ds.length - 1 - k = m - k by omega]
   exact e
theorem sq_eq {X:Cx}{zp:List (Addr × Obj)}{σ:St}{H:Hp}{s:Shared} (I:Inv X zp σ H s) {A:Around}{a b:Addr}{us vs:List V}{ws:List W} (e1:SqT X.K H a us) (e2:SqT X.K H b vs) (r1:RWs H us ws) (r2:RWs H vs ws) (hd:depths ws < 5) (hu:A.units + 50 < cLine):SeqAt.EqAt A s (.ref a) (.ref b) true:=by
 by_cases hab:a = b
 ·subst hab
  exact SeqAt.EqAt.same _
 obtain ⟨its,rv,p,_⟩:=I.tuple e1
 obtain ⟨its2,rv2,p2,_⟩:=I.tuple e2
 have l1:=rv.length
 have l2:=rv2.length
 have m1:=r1.len
 have m2:=r2.len
 have key:=SeqAt.EqAt.of_refs hab (SeqAt.RcAt.tuples (e:=fun _=>true) p p2 (A:=A) (by omega) fun j h1 h2=>?_)
 ·rw [show ((List.range (min its.toArray.size its2.toArray.size)).all (fun _=>true) && its.toArray.size == its2.toArray.size) = true by
   rw [List.size_toArray,List.size_toArray,← l1,← l2,m1,m2]
   simp] at key
  exact key
 have j1:j < its.length:=by simpa using h1
 have j2:j < its2.length:=by simpa using h2
 have k1:j < us.length:=by omega
 have k2:j < vs.length:=by omega
 have k3:j < ws.length:=by omega
 obtain ⟨U1,hU1,rU1⟩:=rv.get (List.getElem?_eq_getElem k1)
 obtain ⟨U2,hU2,rU2⟩:=rv2.get (List.getElem?_eq_getElem k2)
 have f1:its.toArray[j] = U1:=by have:=(List.getElem?_eq_some_iff.mp hU1).2; simpa using this
 have f2:its2.toArray[j] = U2:=by have:=(List.getElem?_eq_some_iff.mp hU2).2; simpa using this
 rw [f1,f2]
 have hdj:=depths_mem ws[j] (List.getElem_mem k3)
 have hu1:A.in1.units = A.units + 1:=rfl
 have:=eqAt_W I 6 A.in1 ws[j] ws[j] us[j] vs[j] U1 U2 (by omega) (r1.at' j _ _ (List.getElem?_eq_getElem k1) (List.getElem?_eq_getElem k3)) (r2.at' j _ _ (List.getElem?_eq_getElem k2) (List.getElem?_eq_getElem k3)) rU1 rU2 (by omega)
 rw [eqW_refl] at this
 exact this
def Flat:Oc->Prop
 | .made (.lst _)=>False
 | .stop=>False
 | _=>True
theorem RWs.two {H:Hp}{u v:V}{x y:W} (h1:RW H u x) (h2:RW H v y):RWs H [u,v] [x,y]:=⟨rfl,fun i a b ha hb=>by
 match i with
 | 0=>cases ha; cases hb; exact h1
 | 1=>cases ha; cases hb; exact h2
 | n + 2=>cases ha⟩
theorem RWs.three {H:Hp}{u v t:V}{x y z:W} (h1:RW H u x) (h2:RW H v y) (h3:RW H t z):RWs H [u,v,t] [x,y,z]:=⟨rfl,fun i a b ha hb=>by
 match i with
 | 0=>cases ha; cases hb; exact h1
 | 1=>cases ha; cases hb; exact h2
 | 2=>cases ha; cases hb; exact h3
 | n + 3=>cases ha⟩
theorem ro_eq {X:Cx}{zp:List (Addr × Obj)}{σ:St}{H:Hp}{s:Shared} (I:Inv X zp σ H s) {A:Around}{o:Oc}{v u:V}{x y:Value} (fl:Flat o) (hu:A.units + 50 < cLine) (h1:RO X.K H v o) (h2:RO X.K H u o) (r1:RelV v x) (r2:RelV u y):SeqAt.EqAt A s x y true:=by
 cases o with
 | stop=>exact fl.elim
 | kind=>
  obtain ⟨a,rfl,e1⟩:=h1
  obtain ⟨b,rfl,e2⟩:=h2
  cases r1
  cases r2
  have rr:RWs H [.str "wrong",.str "kind",.str ""] [.txt "wrong",.txt "kind",.txt ""]:=RWs.three (.txt _) (.txt _) (.txt _)
  exact sq_eq I e1.sq e2.sq rr rr (by decide +kernel) hu
 | made w=>
  obtain ⟨a,u1,rfl,e1,w1⟩:=h1
  obtain ⟨b,u2,rfl,e2,w2⟩:=h2
  cases r1
  cases r2
  refine sq_eq I e1.sq e2.sq (RWs.two (.txt "made") w1) (RWs.two (.txt "made") w2) ?_ hu
  cases w with
  | num i=>show depths [.txt "made",.num i] < 5; simp [depths,W.depth]
  | txt z=>show depths [.txt "made",.txt z] < 5; simp [depths,W.depth]
  | lst l=>exact fl.elim
theorem hitsO {X:Cx}{zp:List (Addr × Obj)}{σ:St}{H:Hp}{s:Shared} (I:Inv X zp σ H s) {A:Around} (hu:A.units + 50 < cLine) {kb:Kvs}{vs2:List (Key × Value)} (r2:KV kb vs2):
  ∀ {sub:Kvs}{us:List (Key × Value)},KV sub us->(∀ p∈sub,∃ u o,valV kb p.1 = some u/\Flat o/\RO X.K H p.2 o/\RO X.K H u o)->PySem.W.KeqHits A s vs2 us true:=by
 intro sub us r
 induction r with
 | nil=>intro _; exact .nil
 | @cons p q ps qs hpq _ ih=>
  intro hs
  obtain ⟨k,x⟩:=p
  obtain ⟨k',v⟩:=q
  obtain ⟨e1,rv⟩:=hpq
  cases e1
  obtain ⟨u,o,hm,fl,a1,a2⟩:=hs _ (List.mem_cons_self)
  have hv:=r2.val k
  rw [hm] at hv
  cases hy:valueAt vs2 k with
  | none=>rw [hy] at hv; exact hv.elim
  | some y=>
   rw [hy] at hv
   have:=PySem.W.KeqHits.hit hy (ro_eq I fl hu a1 a2 rv hv) (ih fun p hp=>hs p (List.mem_cons_of_mem _ hp))
   rw [Bool.true_and] at this
   exact this
def SameO (K:PySem.W.Frag) (H:Hp) (ka kb:Kvs):Prop:=ka.length = kb.length/\∀ p∈ka,∃ u o,valV kb p.1 = some u/\Flat o/\RO K H p.2 o/\RO K H u o
theorem SameO.nil {K:PySem.W.Frag}{H:Hp}:SameO K H [] []:=⟨rfl,fun p h=>nomatch h⟩
theorem eq_dicts {X:Cx}{zp:List (Addr × Obj)}{σ:St}{H:Hp}{s:Shared} (I:Inv X zp σ H s) {A:Around}{E:Value->Shared->Prop}{R:Bool->Shared->Prop}{a b:Addr}{ka kb:Kvs} (ea:H a = some (.dK ka)) (eb:H b = some (.dK kb)) (hu:A.units + 52 < cLine) (m:SameO X.K H ka kb) (h:R true s):wpAny (model X.prog X.w) A (eqBool (.ref a) (.ref b)) R E s:=by
 obtain ⟨_,sa,va,ra,da⟩:=dk_of I.hok ea
 obtain ⟨_,sb,vb,rb,db⟩:=dk_of I.hok eb
 have l1:=ra.length
 have l2:=rb.length
 have hu1:A.in1.units = A.units + 1:=rfl
 by_cases ne:a = b
 ·subst ne
  exact SeqAt.EqAt.same _ _ _ _ _ h
 unfold eqBool
 refine wpAny_holding (wpAny_ite_split (fun hab=>?_) (fun _=>wpAny_bind (PySem.W.keq_eq sa sb da db (by omega) (fun _=>hitsO I (by omega) rb ra m.2) ?_)))
 ·exact absurd (Value.ref.inj (eq_of_beq hab)) ne
 ·have e:(va.length == vb.length && true) = true:=by rw [← l1,← l2,m.1]; simp
  rw [e]
  exact wpAny_truthy_bool h
def rDD (K:PySem.W.Frag) (b:Bool):R2:=fun x y H Q=>∃ (t t' a b' a' c':Addr) (ka kb ka' kb':Kvs),x = .ref t/\y = .ref t'/\H t = some (.tup [.ref a,.ref b'])/\H t' = some (.tup [.ref a',.ref c'])/\H a = some (.dK ka)/\H b' = some (.dK kb)/\H a' = some (.dK ka')/\H c' = some (.dK kb')/\SameO K H ka ka'/\SameO K H kb kb'/\Q (.bl b) H
theorem op_eqDD {X:Cx} (hu:X.A.units + 64 < cLine):OpR X (compareOp .Eq) (rDD X.K true):=by
 intro zp s σ H x y v u Q I rx ry h
 obtain ⟨t,t',a,b,a',b',ka,kb,ka',kb',rfl,rfl,et,et',ea,eb,ea',eb',m1,m2,q⟩:=h
 cases rx
 cases ry
 have hu1:X.A.in1.units = X.A.units + 1:=rfl
 have k1:∀ {E':Value->Shared->Prop}{R:Bool->Shared->Prop},R true s->wpAny (model X.prog X.w) X.A.in1 (eqBool (.ref a) (.ref a')) R E' s:=fun h=>eq_dicts I ea ea' (by omega) m1 h
 have k2:∀ {E':Value->Shared->Prop}{R:Bool->Shared->Prop},R true s->wpAny (model X.prog X.w) X.A.in1 (eqBool (.ref b) (.ref b')) R E' s:=fun h=>eq_dicts I eb eb' (by omega) m2 h
 obtain ⟨_,its,r1,p1⟩:=(show ObjOk X.prog X.w H s.heap t (.tup [.ref a,.ref b]) from I.hok t _ et)
 obtain ⟨_,its2,r2,p2⟩:=(show ObjOk X.prog X.w H s.heap t' (.tup [.ref a',.ref b']) from I.hok t' _ et')
 obtain ⟨u1,u2,rfl,q1,q2⟩:=vals2 r1
 obtain ⟨u3,u4,rfl,q3,q4⟩:=vals2 r2
 cases q1
 cases q2
 cases q3
 cases q4
 obtain ⟨o1,g1,c1,n1,d1⟩:=p1
 obtain ⟨o2,g2,c2,n2,d2⟩:=p2
 refine wpAny_richCompare_same_room (op:=.Eq) ⟨o1,g1,c1⟩ ⟨o2,g2,c2⟩ PySem.F.slot_tuple_eq (wpAny_call_entry PySem.F.slot_tuple_eq ⟨o1,g1,c1⟩ PySem.F.entry_tuple_eq ?_ (PySem.F.args_tuple_eq_2 _ _)) (by omega)
 obtain ⟨cl1,de1,da1,sl1⟩:=o1
 obtain ⟨cl2,de2,da2,sl2⟩:=o2
 simp only at c1 d1 c2 d2
 subst c1 d1 c2 d2
 obtain ⟨hp,gs,dr,tk,os⟩:=s
 unfold Builtin.«tuple.__eq__»
 have sub:=AutoSeq1.sub_tuple_tuple
 wp_walk using AutoSeq1.wpAny_loadPart' g1,AutoSeq1.wpAny_loadPart' g2,k1,k2
 exact ⟨.bool true,rfl,(fun h=>nomatch h),.bl true,H,I,rfl,q⟩
theorem op_neDD {X:Cx} (hu:X.A.units + 64 < cLine):OpR X (compareOp .NotEq) (rDD X.K false):=by
 intro zp s σ H x y v u Q I rx ry h
 obtain ⟨t,t',a,b,a',b',ka,kb,ka',kb',rfl,rfl,et,et',ea,eb,ea',eb',m1,m2,q⟩:=h
 cases rx
 cases ry
 have hu1:X.A.in1.units = X.A.units + 1:=rfl
 have k1:∀ {E':Value->Shared->Prop}{R:Bool->Shared->Prop},R true s->wpAny (model X.prog X.w) X.A.in1 (eqBool (.ref a) (.ref a')) R E' s:=fun h=>eq_dicts I ea ea' (by omega) m1 h
 have k2:∀ {E':Value->Shared->Prop}{R:Bool->Shared->Prop},R true s->wpAny (model X.prog X.w) X.A.in1 (eqBool (.ref b) (.ref b')) R E' s:=fun h=>eq_dicts I eb eb' (by omega) m2 h
 obtain ⟨_,its,r1,p1⟩:=(show ObjOk X.prog X.w H s.heap t (.tup [.ref a,.ref b]) from I.hok t _ et)
 obtain ⟨_,its2,r2,p2⟩:=(show ObjOk X.prog X.w H s.heap t' (.tup [.ref a',.ref b']) from I.hok t' _ et')
 obtain ⟨u1,u2,rfl,q1,q2⟩:=vals2 r1
 obtain ⟨u3,u4,rfl,q3,q4⟩:=vals2 r2
 cases q1
 cases q2
 cases q3
 cases q4
 obtain ⟨o1,g1,c1,n1,d1⟩:=p1
 obtain ⟨o2,g2,c2,n2,d2⟩:=p2
 refine wpAny_richCompare_same_room (op:=.NotEq) ⟨o1,g1,c1⟩ ⟨o2,g2,c2⟩ PySem.F.slot_tuple_ne (wpAny_call_entry PySem.F.slot_tuple_ne ⟨o1,g1,c1⟩ PySem.F.entry_tuple_ne ?_ (PySem.F.args_tuple_ne_2 _ _)) (by omega)
 obtain ⟨cl1,de1,da1,sl1⟩:=o1
 obtain ⟨cl2,de2,da2,sl2⟩:=o2
 simp only at c1 d1 c2 d2
 subst c1 d1 c2 d2
 obtain ⟨hp,gs,dr,tk,os⟩:=s
 unfold Builtin.«tuple.__ne__»
 have sub:=AutoSeq1.sub_tuple_tuple
 wp_walk using AutoSeq1.wpAny_loadPart' g1,AutoSeq1.wpAny_loadPart' g2,k1,k2
 exact ⟨.bool false,rfl,(fun h=>nomatch h),.bl false,H,I,rfl,q⟩
end
end D
namespace L2
open PySem PySem.Spec PyProof.Rows
theorem boot_dictT:bootBuiltins (Str.ofString "dict") = some (.type "dict"):=by kernel_rfl
def tDClear (td:TE):TE:=fun σ H Q=>td σ H fun x H1=>∃ a kvs,x = .ref a/\H1 a = some (.dK kvs)/\Q .non (upd H1 a (.dK []))
theorem pe_dclear {X:Cx}{o:Expr}{td:TE}{apos cpos:Pos} (ho:PE X o td)
  (hbase:attributeBase o "clear" X.env (eval o X.env) = eval o X.env:=by rfl) (hline:(apos.endLine == cpos.line) = true:=by rfl):PE X (.Call (.Attribute o "clear" apos) [] [] cpos) (tDClear td):=by
 intro zp s σ H Q I h
 refine wpAny_Call_method0_late hbase hline (thn (ho zp s σ H _ I h) fun v s1 ⟨x,H1,I1,r1,a,kvs,ex,e,q1⟩=>?_)
 subst ex
 obtain rfl:v = Value.ref a:=r1
 obtain ⟨t1,t2,_⟩:=isD_at I1 (.inl ⟨kvs,.of e⟩)
 exact ⟨"dict",_,PySem.F.plainAttrs_dict,PySem.F.slot_dict_clear,PySem.F.type_dict_clear,t1,t2,Calls.callWith_builtin rfl (PySem.evalArgs_none (d_clear I1 e fun s2 I2=>⟨.non,_,I2,rfl,q1⟩))⟩
end L2
namespace D
open PySem L2
theorem pe_dclear {X:Cx}{o:Expr}{td:TE}{apos cpos:Pos} (ho:QE X o td)
  (hbase:attributeBase o "clear" X.env (eval o X.env) = eval o X.env:=by rfl) (hline:(apos.endLine == cpos.line) = true:=by rfl):QE X (.Call (.Attribute o "clear" apos) [] [] cpos) (tDClear td):=⟨L2.pe_dclear ho.un hbase hline⟩
theorem in36_sign:∀ c∈signs36.cps.toList,32<=c/\c<=126/\c≠34/\c≠37:=by decide +kernel
theorem Nm.ok {z:Str} (h:Nm z):(W.txt z).Ok:=by
 have hl:=h.len
 obtain ⟨r,w,rfl,h1,h2⟩:=h
 refine ⟨by omega,fun c hc=>?_⟩
 rw [str_app,str_app] at hc
 rcases List.mem_append.mp hc with hc | hc
 ·rcases List.mem_append.mp hc with hc | hc
  ·exact in36_sign c (of_decide_eq_true (h1.at' c hc))
  ·rw [dot_eq] at hc
   have:c = 46:=by simpa using hc
   subst this
   decide
 ·exact in36_sign c (of_decide_eq_true (h2.at' c hc))
def RuOk (x:Rl):Prop:=Wt (x,0)/\x.many<=60/\unb [] x = []/\x.rep<=2
def litG (x:W):Prop:=x.Ok/\x.size<=1000/\x.depth<=3
theorem litG.fit {x:W} (h:litG x) (sc:List Str):(Rl.lit x).Fit sc:=by rw [Rl.Fit]; exact ⟨h.1,h.2.2⟩
theorem litG.gd {x:W} (h:litG x):(Rl.lit x).Gd:=by rw [Rl.Gd]; exact ⟨h.1,h.2.1,Nat.le_trans h.2.2 (by decide)⟩
theorem litG.dp {x:W} (h:litG x):(Rl.lit x).toW.depth<=4:=by
 have:=h.2.2
 rw [Rl.toW]
 simp only [W.depth,depths]
 omega
theorem Nm.lit {z:Str} (h:Nm z):litG (.txt z):=⟨h.ok,by have:=h.len; simp only [W.size]; omega,Nat.zero_le _⟩
theorem look_fit {z:Str} (h:Nm z) (sc:List Str):(lookR z).Fit sc:=by
 unfold lookR
 rw [Rl.Fit,Fits]
 exact ⟨rfl,rfl,rfl,(fun z h=>nomatch h),h.lit.fit _⟩
theorem look_gd {z:Str} (h:Nm z):(lookR z).Gd:=by
 unfold lookR
 rw [Rl.Gd,Gds,Gds]
 exact ⟨⟨rfl,rfl,rfl,(fun z h=>nomatch h),List.nodup_nil,(fun h=>nomatch h),fun _=>rfl⟩,h.lit.gd,trivial⟩
theorem look_dp {z:Str} (h:Nm z):(lookR z).toW.depth<=5:=by
 have:=h.lit.dp
 unfold lookR
 rw [Rl.toW]
 simp only [List.map_nil,List.nil_append,rlWs,W.depth,depths]
 omega
theorem look_high (z:Str):(lookR z).high = 1:=by unfold lookR; rw [Rl.high,highs,highs,Rl.high]; rfl
theorem look_many (z:Str):(lookR z).many = 2:=by unfold lookR; rw [Rl.many,manys,manys,Rl.many]
theorem look_unb (z:Str) (b:List Str):unb b (lookR z) = []:=by unfold lookR; rw [unb,unbs,unb]
theorem look_rep (z:Str):(lookR z).rep = 0:=by unfold lookR; rw [Rl.rep,reps,Rl.rep]; rfl
theorem ru_two {d:Wo}{p q:Rl} (hd:wLit d = false/\wVar d = false/\bcnt d = 0/\(wList d = false->pcnt d = 2)/\wEO d = false) (fp:∀ sc,p.Fit sc) (fq:∀ sc,q.Fit sc) (gp:p.Gd) (gq:q.Gd) (dp:p.toW.depth<=5) (dq:q.toW.depth<=5) (hp:p.high<=1) (hq:q.high<=1) (mp:p.many<=2) (mq:q.many<=2) (up:∀ b,unb b p = []) (uq:∀ b,unb b q = []) (rp:p.rep = 0) (rq:q.rep = 0):RuOk (.op d [] [p,q]):=by
 refine ⟨⟨⟨[],?_⟩,?_,?_,?_⟩,?_,?_,?_⟩
 ·rw [Rl.Fit,Fits,Fits]
  exact ⟨hd.1,hd.2.1,hd.2.2.1.symm,(fun z h=>nomatch h),fp _,fq _⟩
 ·rw [Rl.Gd,Gds,Gds,Gds]
  exact ⟨⟨hd.1,hd.2.1,hd.2.2.1.symm,(fun z h=>nomatch h),List.nodup_nil,(fun _=>by show 2<=8; decide),fun h=>(hd.2.2.2.1 h).symm⟩,gp,gq,trivial⟩
 ·show (Rl.op d [] [p,q]).toW.depth < 50
  rw [Rl.toW]
  simp only [List.map_nil,List.nil_append,rlWs,W.depth,depths]
  omega
 ·show 0 + (Rl.op d [] [p,q]).high<=12
  rw [Rl.high,highs,highs,highs]
  omega
 ·rw [Rl.many,manys,manys,manys]
  omega
 ·rw [unb,unbs,unbs,up,uq]
  rfl
 ·rw [Rl.rep,reps,reps,rp,rq,hd.2.2.2.2]
  decide
theorem RW.tri {H:Hp}{a:Addr}{u1 u2 u3:V}{w1 w2 w3:W} (e:H a = some (.tup [u1,u2,u3])) (r1:RW H u1 w1) (r2:RW H u2 w2) (r3:RW H u3 w3):RW H (.ref a) (.lst [w1,w2,w3]):=
 .lst e rfl fun i v w hv hw=>match i,hv,hw with
  | 0,hv,hw=>by
   have a1:u1 = v:=by simpa using hv
   have a2:w1 = w:=by simpa using hw
   rw [← a1,← a2]; exact r1
  | 1,hv,hw=>by
   have a1:u2 = v:=by simpa using hv
   have a2:w2 = w:=by simpa using hw
   rw [← a1,← a2]; exact r2
  | 2,hv,hw=>by
   have a1:u3 = v:=by simpa using hv
   have a2:w3 = w:=by simpa using hw
   rw [← a1,← a2]; exact r3
  | j + 3,hv,hw=>by simp at hv
theorem ru_plus {z:Str}{i:Int} (h:Nm z) (hi:-(10 ^ 60) < i/\i < 10 ^ 60):RuOk (plusR z i):=by
 have lg:litG (.num i):=⟨hi,by simp only [W.size]; omega,Nat.zero_le _⟩
 exact ru_two ⟨rfl,rfl,rfl,fun _=>rfl,rfl⟩ (fun sc=>look_fit h sc) (fun sc=>lg.fit sc) (look_gd h) lg.gd (look_dp h) (Nat.le_trans lg.dp (by decide)) (by rw [look_high]; exact Nat.le_refl _) (by rw [Rl.high]; decide) (by rw [look_many]; exact Nat.le_refl _) (by rw [Rl.many]; decide) (look_unb z) (fun b=>by rw [unb]) (look_rep z) (by rw [Rl.rep])
def dOf (wA:Nat->Int) (x:W):Nat->Nat->Oc
 | 0,_=>.made x
 | d + 1,k=>addO (wA k) (dOf wA x d (k + 1))
def Fl (x:W):Prop:=(∃ i,x = .num i/\-(10 ^ 31) < i/\i < 10 ^ 31)\/∃ z,x = .txt z
theorem dOf_shape {wA:Nat->Int}{x:W} (hx:Fl x) (hw:∀ k,-(10 ^ 31) < wA k/\wA k < 10 ^ 31):∀ (d k:Nat),(∃ i:Int,dOf wA x d k = .made (.num i)/\-((d:Int) + 1) * 10 ^ 31 < i/\i < ((d:Int) + 1) * 10 ^ 31)\/(∃ z,dOf wA x d k = .made (.txt z))\/dOf wA x d k = .kind
 | 0,k=>by
  rcases hx with ⟨i,rfl,h1,h2⟩ | ⟨z,rfl⟩
  ·exact .inl ⟨i,rfl,by omega,by omega⟩
  ·exact .inr (.inl ⟨z,rfl⟩)
 | d + 1,k=>by
  have hwk:=hw k
  rw [dOf]
  rcases dOf_shape hx hw d (k + 1) with ⟨i,e,h1,h2⟩ | ⟨z,e⟩ | e
  ·rw [e]
   refine .inl ⟨i + wA k,rfl,?_,?_⟩
   ·push_cast; omega
   ·push_cast; omega
  ·rw [e]; exact .inr (.inr rfl)
  ·rw [e]; exact .inr (.inr rfl)
theorem cn_of {m:Nat}{nA:Nat->Str}{wA:Nat->Int}{x:W} (hm:m<=39) (hx:Fl x) (hw:∀ k,-(10 ^ 31) < wA k/\wA k < 10 ^ 31) (hi:∀ j k,j<=m->k<=m->nA j = nA k->j = k) (hn:∀ k,k<=m->Nm (nA k)) (hr:∀ j k,j<=m->k<=m->roomOf (nA j) = roomOf (nA k)):Cn m nA wA (fun k=>dOf wA x (m - k) k) x:=by
 have dk:∀ k,k < m->dOf wA x (m - k) k = addO (wA k) (dOf wA x (m - (k + 1)) (k + 1)):=fun k hk=>by
  rw [show m - k = (m - (k + 1)) + 1 by omega,dOf]
 refine ⟨hm,hi,hn,hr,by show dOf wA x (m - m) m = _; rw [Nat.sub_self,dOf],dk,fun k hk=>?_⟩
 show Nt (wA k) (dOf wA x (m - (k + 1)) (k + 1))
 have hwk:=hw k
 rcases dOf_shape hx hw (m - (k + 1)) (k + 1) with ⟨i,e,h1,h2⟩ | ⟨z,e⟩ | e
 ·rw [e]
  have hd:((m - (k + 1):Nat):Int)<=38:=by omega
  show Big (i + wA k)
  generalize ((m - (k + 1):Nat):Int) = d at h1 h2 hd
  exact ⟨by omega,by omega⟩
 ·rw [e]; trivial
 ·rw [e]; trivial
theorem flat_of {wA:Nat->Int}{x:W} (hx:Fl x) (hw:∀ k,-(10 ^ 31) < wA k/\wA k < 10 ^ 31) (d k:Nat):Flat (dOf wA x d k):=by
 rcases dOf_shape hx hw d k with ⟨i,e,_⟩ | ⟨z,e⟩ | e <;> rw [e] <;> trivial
theorem valV_mem' {k:Key}{v:V}:∀ {kvs:List (Key × V)},(kvs.map (·.1)).Nodup->(k,v)∈kvs->valV kvs k = some v
 | [],_,h=>by cases h
 | p :: r,nd,h=>by
  rw [List.map_cons,List.nodup_cons] at nd
  rcases List.mem_cons.mp h with h | h
  ·subst h; exact valV_pos rfl
  ·rw [valV_neg (fun e=>nd.1 (by rw [e]; exact List.mem_map_of_mem (f:=(·.1)) h))]
   exact valV_mem' nd.2 h
theorem Due.key {K:PySem.W.Frag}{H:Hp}{ka:Kvs}{m lo:Nat}{nA:Nat->Str}{dA:Nat->Oc} (h:Due K H ka m nA dA lo) (p:Key × V) (hp:p∈ka):∃ k,lo<=k/\k<=m/\p.1 = .inr (nA k):=by
 by_cases he:∃ k,lo<=k/\k<=m/\p.1 = .inr (nA k)
 ·exact he
 ·have:=h.no p.1 fun k h1 h2 e=>he ⟨k,h1,h2,e⟩
  rw [valV_mem' (k:=p.1) (v:=p.2) h.nd hp] at this
  cases this
theorem Due.le {K:PySem.W.Frag}{H:Hp}{ka kb:Kvs}{m lo:Nat}{nA:Nat->Str}{dA:Nat->Oc} (h1:Due K H ka m nA dA lo) (h2:Due K H kb m nA dA lo):ka.length<=kb.length:=by
 have:=nd_few (m:=kb.map (·.1)) h1.nd fun key hk=>by
  obtain ⟨p,hp,e⟩:=List.mem_map.mp hk
  obtain ⟨k,k1,k2,ek⟩:=h1.key p hp
  obtain ⟨v,hv,_⟩:=h2.has k k1 k2
  rw [← e,ek]
  exact valV_in hv
 rw [List.length_map,List.length_map] at this
 exact this
theorem Due.same {K:PySem.W.Frag}{H:Hp}{ka kb:Kvs}{m lo:Nat}{nA:Nat->Str}{dA:Nat->Oc} (fl:∀ k,Flat (dA k)) (h1:Due K H ka m nA dA lo) (h2:Due K H kb m nA dA lo):SameO K H ka kb:=by
 refine ⟨Nat.le_antisymm (h1.le h2) (h2.le h1),fun p hp=>?_⟩
 obtain ⟨k,k1,k2,ek⟩:=h1.key p hp
 obtain ⟨v,hv,rv⟩:=h1.has k k1 k2
 obtain ⟨u,hu,ru⟩:=h2.has k k1 k2
 have:=valV_mem' (k:=p.1) (v:=p.2) h1.nd hp
 rw [ek,hv] at this
 cases this
 exact ⟨u,dA k,by rw [ek]; exact hu,fl k,rv,ru⟩
theorem Due.mono {K:PySem.W.Frag}{H H':Hp}{ka:Kvs}{m lo:Nat}{nA:Nat->Str}{dA:Nat->Oc} (h:Due K H ka m nA dA lo) (t:Tups H H'):Due K H' ka m nA dA lo:=⟨h.nd,fun k h1 h2=>let ⟨v,e,r⟩:=h.has k h1 h2; ⟨v,e,r.tups t⟩,h.no⟩
def spLaw (K:PySem.W.Frag):Sp:=fun vs H Q _=>∃ (a:Addr) (ns:List Int),vs = [.ref a]/\SqL K H a (ns.map V.int)/\ns.length<=63/\∀ H',Q (.bl true) H'
theorem seqMk {te:TE}{g:TG}{t:TS}{D:Ends}{σ:St}{H:Hp} (h:te σ H (fun v H'=>g v σ H' (fun σ' H''=>t D σ' H''))):tSeq (tAsg te g) t D σ H:=h
theorem rdMake {AH:Addr}{σ:St}{H:Hp}{Q:VK} (q:∀ (a:Hd) (H':Hp),Hs AH a H' [] [] [] []->Same H H'->(∀ c∈a.all,H c = none)->Q (.ref a.p) H'):tMake AH (spHI AH) [] E0 tNil σ H Q:=by
 intro x dx hx hdx ne
 refine ⟨x,dx,rfl,upd_same,fun a H' ea hs kp e1 e2 e3 e4=>⟨rfl,?_⟩⟩
 subst ea
 have fr:∀ c,upd (upd H dx (.own a.p)) a.p (.ins AH dx []) c = none->H c = none:=fun c h=>by
  have n1:c≠a.p:=fun z=>by rw [z,upd_same] at h; cases h
  rw [upd_ne n1] at h
  have n2:c≠dx:=fun z=>by rw [z,upd_same] at h; cases h
  rw [upd_ne n2] at h
  exact h
 refine q a H' hs (fun c o e=>?_) (fun c hc=>?_)
 ·have n1:c≠a.p:=ne_of_none e hx
  refine kp c o n1 ?_
  rw [upd_ne n1,upd_ne (ne_of_none e hdx)]
  exact e
 ·have m:c∈[a.p,a.s,a.r,a.o,a.w]:=hc
  simp only [List.mem_cons,List.not_mem_nil,or_false] at m
  rcases m with rfl | rfl | rfl | rfl | rfl
  ·exact hx
  ·exact fr _ e1
  ·exact fr _ e2
  ·exact fr _ e3
  ·exact fr _ e4
structure LA (H0 H:Hp) (b ln lw:Addr) (ns:List Str) (us:List V) (m:Nat) (nA:Nat->Str) (wA:Nat->Int) (x:W):Prop where
 same:Same H0 H
 en:H ln = some (.lst (ns.map V.str))
 nl:ns.length = m + 1
 na:∀ k,k<=m->ns[k]? = some (nA k)
 ew:H lw = some (.lst us)
 ul:us.length = m + 1
 un:∀ k,k < m->us[k]? = some (.int (wA k))
 ux:∃ v,us[m]? = some v/\RW H v x
 f0:H0 b = none/\H0 ln = none/\H0 lw = none
 ne:ln≠b/\lw≠b/\ln≠lw
structure LC (m:Nat) (nA:Nat->Str) (wA:Nat->Int) (x:W):Prop where
 cn:Cn m nA wA (fun k=>dOf wA x (m - k) k) x
 fl:Fl x
 ok:x.Ok
 bd:∀ k,-(10 ^ 31) < wA k/\wA k < 10 ^ 31
theorem LA.kb {H0 H H':Hp}{b ln lw:Addr}{ns:List Str}{us:List V}{m:Nat}{nA:Nat->Str}{wA:Nat->Int}{x:W}{N:List Addr} (h:LA H0 H b ln lw ns us m nA wA x) (k:Kb N H H') (hn:∀ c∈N,H0 c = none/\c≠ln/\c≠lw) (t:Tups H H'):LA H0 H' b ln lw ns us m nA wA x:=
 ⟨fun c o e=>k c o (fun m=>by rw [(hn c m).1] at e; cases e) (h.same c o e),k _ _ (fun m=>(hn _ m).2.1 rfl) h.en,h.nl,h.na,k _ _ (fun m=>(hn _ m).2.2 rfl) h.ew,h.ul,h.un,let ⟨v,e,r⟩:=h.ux; ⟨v,e,r.mono t⟩,h.f0,h.ne⟩
theorem LA.sm {H0 H H':Hp}{b ln lw:Addr}{ns:List Str}{us:List V}{m:Nat}{nA:Nat->Str}{wA:Nat->Int}{x:W} (h:LA H0 H b ln lw ns us m nA wA x) (s:Same H H'):LA H0 H' b ln lw ns us m nA wA x:=
 h.kb (N:=[]) (Kb.ofSame s) (fun _ z=>nomatch z) (same_tups' s)
theorem LA.step {H0 H H':Hp}{b ln lw:Addr}{ns:List Str}{us:List V}{m:Nat}{nA:Nat->Str}{wA:Nat->Int}{x:W} (h:LA H0 H b ln lw ns us m nA wA x) (hb:IsBox H b) (s:Step b H H'):LA H0 H' b ln lw ns us m nA wA x:=
 h.kb (N:=[b]) (fun c o hc e=>s.keep c o (fun z=>hc (by rw [z]; exact List.mem_singleton.mpr rfl)) e) (fun c hc=>by rw [List.mem_singleton.mp hc]; exact ⟨h.f0.1,h.ne.1.symm,h.ne.2.1.symm⟩) (s.tups hb)
theorem LA.nix {H0 H:Hp}{b ln lw:Addr}{ns:List Str}{us:List V}{m:Nat}{nA:Nat->Str}{wA:Nat->Int}{x:W} (h:LA H0 H b ln lw ns us m nA wA x) {k:Nat} (hk:k<=m):atI (ns.map V.str) ((k:Nat):Int) = some (.str (nA k)):=
 atI_nat (by rw [List.getElem?_map,h.na k hk]; rfl)
theorem Hs.out {AH:Addr}{a:Hd}{H:Hp}{S R:Kvs}{O W:List Str} (h:Hs AH a H S R O W) {t:Addr}{us:List V} (e:H t = some (.tup us)):t ∉ a.all:=fun m=>by
 obtain ⟨dx,ei⟩:=h.ins
 have m:t∈[a.p,a.s,a.r,a.o,a.w]:=m
 simp only [List.mem_cons,List.not_mem_nil,or_false] at m
 rcases m with rfl | rfl | rfl | rfl | rfl
 ·rw [ei] at e; cases e
 ·rw [h.so] at e; cases e
 ·rw [h.ru] at e; cases e
 ·rw [h.op] at e; cases e
 ·rw [h.wi] at e; cases e
theorem Hs.tups {AH:Addr}{a:Hd}{H H':Hp}{S R:Kvs}{O W:List Str} (h:Hs AH a H S R O W) (k:Kb a.all H H'):Tups H H':=fun t us e=>k t _ (h.out e) e
theorem atI_m1 {xs:List V}{m:Nat}{v:V} (hl:xs.length = m + 1) (h:xs[m]? = some v):atI xs (-1) = some v:=by
 unfold atI ixN
 rw [if_neg (by decide),if_pos (by omega)]
 show xs[_]? = some v
 rw [show (-1 + (xs.length:Int)).toNat = m by omega]
 exact h
theorem Fl.sz {x:W} (h:Fl x) (hk:x.Ok):x.size<=1000/\x.depth<=12:=by
 rcases h with ⟨i,rfl,_⟩ | ⟨z,rfl⟩
 ·exact ⟨by simp only [W.size]; omega,Nat.zero_le _⟩
 ·have:=hk.1
  exact ⟨by simp only [W.size]; omega,Nat.zero_le _⟩
theorem put_len {kvs:Kvs}{k:Key}{v:V} (h:valV kvs k = none):(putK kvs k v).length = kvs.length + 1:=by
 unfold putK
 rw [if_neg (by rw [valV_any,h]; decide),List.length_append]
 rfl
structure LB (AH:Addr) (H:Hp) (a:Hd) (S R:Kvs) (m:Nat) (nA:Nat->Str) (wA:Nat->Int) (x:W) (i:Nat):Prop where
 hs:Hs AH a H S R [] []
 so:∃ v,valV S (.inr (nA m)) = some v/\RW H v x
 no:∀ k,k < m->valV S (.inr (nA k)) = none
 ru:∀ k,k < i->∃ rv,valV R (.inr (nA k)) = some rv/\RW H rv (plusR (nA (k + 1)) (wA k)).toW
 un:∀ k,i<=k->k<=m->valV R (.inr (nA k)) = none
 len:R.length = i
theorem LB.same {AH:Addr}{H H':Hp}{a:Hd}{S R:Kvs}{m:Nat}{nA:Nat->Str}{wA:Nat->Int}{x:W}{i:Nat} (h:LB AH H a S R m nA wA x i) (s:Same H H'):LB AH H' a S R m nA wA x i:=
 ⟨h.hs.same s,let ⟨v,e,r⟩:=h.so; ⟨v,e,r.mono (same_tups' s)⟩,h.no,fun k hk=>let ⟨v,e,r⟩:=h.ru k hk; ⟨v,e,r.mono (same_tups' s)⟩,h.un,h.len⟩
theorem lc_of {ro wo:Str}{ns:List Str}{is:List Int}{x:W}{m:Nat} (hm:m<=39) (hl:ns.length = m + 1) (nms:Nms ro wo ns) (hi:∀ i∈is,-(10 ^ 31) < i/\i < 10 ^ 31) (fl:Fl x) (ok:x.Ok):LC m (fun k=>(ns[k]?).getD "") (fun k=>(is[k]?).getD 0) x:=by
 have bd:∀ k:Nat,-(10 ^ 31) < (is[k]?).getD 0/\(is[k]?).getD 0 < 10 ^ 31:=fun k=>by
  cases e:is[k]? with
  | none=>exact ⟨by decide,by decide⟩
  | some i=>exact hi i (List.mem_of_getElem? e)
 have na:∀ k:Nat,k<=m->ns[k]? = some ((ns[k]?).getD ""):=fun k hk=>by
  rw [List.getElem?_eq_getElem (show k < ns.length by omega)]; rfl
 refine ⟨cn_of hm fl bd (fun j k hj hk e=>?_) (fun k hk=>(nms.at' k _ (na k hk)).1) (fun j k hj hk=>?_),fl,ok,bd⟩
 ·have e':(ns[j]?).getD "" = (ns[k]?).getD "":=e
  have:=na k hk
  rw [← e'] at this
  exact nms.inj (na j hj) this (by omega) (by omega)
 ·exact (nms.at' j _ (na j hj)).2.1.trans (nms.at' k _ (na k hk)).2.1.symm
theorem Hc.wish {AH:Addr}{H H':Hp}{a:Hd}{S R:Kvs}{O W W':List Str}{m:Nat}{nA:Nat->Str}{wA:Nat->Int}{x:D.W} (h:Hc AH H a S R O W m nA wA x) (h':Hs AH a H' S R O W') (t:Tups H H'):Hc AH H' a S R O W' m nA wA x:=
 ⟨h',let ⟨v,e,r⟩:=h.so; ⟨v,e,r.mono t⟩,fun k hk=>let ⟨e,rv,e2,r,f⟩:=h.ru k hk; ⟨e,rv,e2,r.mono t,f⟩⟩
theorem min_of:∀ (l:List Int),l≠[]->∃ M∈l,∀ a∈l,M<=a
 | [a],_=>⟨a,List.mem_singleton.mpr rfl,fun b hb=>by rw [List.mem_singleton.mp hb]; exact Int.le_refl _⟩
 | a :: b :: r,_=>by
  obtain ⟨M,h1,h2⟩:=min_of (b :: r) (by simp)
  by_cases h:a<=M
  ·refine ⟨a,List.mem_cons_self,fun c hc=>?_⟩
   rcases List.mem_cons.mp hc with rfl | hc
   ·exact Int.le_refl _
   ·exact Int.le_trans h (h2 c hc)
  ·refine ⟨M,List.mem_cons_of_mem _ h1,fun c hc=>?_⟩
   rcases List.mem_cons.mp hc with rfl | hc
   ·omega
   ·exact h2 c hc
structure DP (K:PySem.W.Frag) (H:Hp) (av:Kvs) (nA:Nat->Str) (dA:Nat->Oc) (lo i:Nat):Prop where
 nd:(av.map (·.1)).Nodup
 has:∀ k,lo<=k->k < i->∃ v,valV av (.inr (nA k)) = some v/\RO K H v (dA k)
 no:∀ key:Key,(∀ k,lo<=k->k < i->key≠.inr (nA k))->valV av key = none
theorem DP.mono {K:PySem.W.Frag}{H H':Hp}{av:Kvs}{nA:Nat->Str}{dA:Nat->Oc}{lo i:Nat} (h:DP K H av nA dA lo i) (t:Tups H H'):DP K H' av nA dA lo i:=⟨h.nd,fun k h1 h2=>let ⟨v,e,r⟩:=h.has k h1 h2; ⟨v,e,r.tups t⟩,h.no⟩
theorem DP.skip {K:PySem.W.Frag}{H:Hp}{av:Kvs}{nA:Nat->Str}{dA:Nat->Oc}{lo i:Nat} (h:DP K H av nA dA lo i) (hi:i < lo):DP K H av nA dA lo (i + 1):=⟨h.nd,fun k h1 h2=>absurd h2 (by omega),fun key hk=>h.no key fun k h1 h2=>absurd h2 (by omega)⟩
theorem DP.put {K:PySem.W.Frag}{H:Hp}{av:Kvs}{m:Nat}{nA:Nat->Str}{wA:Nat->Int}{x:W}{dA:Nat->Oc}{lo i:Nat} (h:DP K H av nA dA lo i) (cn:Cn m nA wA dA x) (hi:lo<=i) (him:i<=m) {v:V} (ro:RO K H v (dA i)):DP K H (putK av (.inr (nA i)) v) nA dA lo (i + 1):=by
 refine ⟨nd_put _ _ h.nd,fun k h1 h2=>?_,fun key hk=>?_⟩
 ·rw [cn.put av (by omega) him]
  by_cases e:k = i
  ·rw [if_pos e,e]; exact ⟨v,rfl,ro⟩
  ·rw [if_neg e]; exact h.has k h1 (by omega)
 ·rw [valV_put,if_neg (hk i hi (by omega))]
  exact h.no key fun k h1 h2=>hk k h1 (by omega)
structure LW (m:Nat) (nA:Nat->Str) (W:List Str) (sp:List Int) (js:List Nat):Prop where
 eq:W = js.map nA
 len:js.length<=sp.length
 at':∀ j:Nat,j∈js ↔ ((j:Int)∈sp)
 le:∀ j∈js,j<=m
theorem LW.add {m:Nat}{nA:Nat->Str}{W:List Str}{sp:List Int}{js:List Nat} (h:LW m nA W sp js) (inj:∀ j k,j<=m->k<=m->nA j = nA k->j = k) {j:Nat} (hj:j<=m):∃ js',LW m nA (addL (nA j) W) (sp ++ [(j:Int)]) js':=by
 unfold addL
 by_cases hm:nA j∈W
 ·rw [if_pos hm]
  refine ⟨js,h.eq,by rw [List.length_append]; exact Nat.le_trans h.len (Nat.le_add_right _ _),fun k=>?_,h.le⟩
  rw [h.at' k,List.mem_append,List.mem_singleton]
  refine ⟨.inl,fun z=>z.elim id fun e=>?_⟩
  have:k = j:=by omega
  subst this
  rw [h.eq] at hm
  obtain ⟨j',hj',e'⟩:=List.mem_map.mp hm
  rw [← inj j' k (h.le j' hj') hj e']
  exact (h.at' j').mp hj'
 ·rw [if_neg hm]
  refine ⟨js ++ [j],by rw [h.eq,List.map_append]; rfl,by rw [List.length_append,List.length_append]; exact Nat.add_le_add_right h.len 1,fun k=>?_,fun k hk=>?_⟩
  ·rw [List.mem_append,List.mem_append,List.mem_singleton,List.mem_singleton,h.at' k]
   exact or_congr Iff.rfl ⟨fun e=>by omega,fun e=>by omega⟩
  ·rcases List.mem_append.mp hk with hk | hk
   ·exact h.le k hk
   ·rw [List.mem_singleton.mp hk]; exact hj
section
variable {P:Program}{w:World}{K:PySem.W.Frag}{mg:Str->Option Value}{base:Heap}{f:Addr}{fd:FuncData}{k n:Nat}{AHouse APlainLooks AMaker:Addr}
theorem sc_law:FnScope ["_law_script","_law_box_here","_law_names","_law_worths","_law_house","_law_k","_law_look","_law_spots","_law_spot","_law_due_here","_law_outcome","_law_found"] ["_law_script"] (defScope sLaw):=⟨rfl,rfl,rfl,by decide +kernel,rfl,by decide +kernel,by decide +kernel⟩
theorem ok_law (F:Fun K "law" "law" sLaw f fd) (G_plain:Have P w K mg base "plain" k ["house"] (spPlain K AHouse)) (G_ldue:Have P w K mg base "_law_due" k ["_law_worths","_law_first"] (spDueL K)) (G_House_wish:HaveM P w K mg base AHouse "wish" k ["self","name"] (spWish AHouse)) (G_ltake:Have P w K mg base "_law_take" k ["_law_box_here","_law_wide"] (spTake)) (G_lbox:Have P w K mg base "_law_box" k ["_law_script","_law_k"] (spBox K)) (G_House_put_rule:HaveM P w K mg base AHouse "put_rule" k ["self","name","rule"] (spPutR AHouse)) (G_House_put:HaveM P w K mg base AHouse "put" k ["self","name","worth"] (spPut AHouse)) (G_House___init__:HaveC P w K mg base AHouse "House" k ["self"] (spHI AHouse)) (G_ltext:Have P w K mg base "_law_text" k ["_law_box_here","_law_most"] (spText)) (G_lnamed:Have P w K mg base "_law_named" k ["_law_box_here","_law_wide"] (spNamed)) (m_dict:mg "dict" = none) (m_enumerate:mg "enumerate" = none) (m_isi:mg "isinstance" = none) (m_len:mg "len" = none) (m_min:mg "min" = none) (m_range:mg "range" = none) (m_tuple:mg "tuple" = none) (clH:Cls K AHouse) (nR:NoAttr K AHouse "rules"):FnOk P w K mg base CX0 (k + 1) f fd ["_law_script"] (spLaw K):=by
 refine F.okQ sc_law (fun vs H Q E h=>?_) (fun cdv A outer s H vs Q E hr h=>?_)
 ·obtain ⟨a,ns,rfl,_⟩:=h
  rfl
 obtain ⟨sc,sn,rfl,hsc,hsn,q⟩:=h
 refine ⟨_,(pss_cons (ps_set (i:=1) sc_law.nd rfl (Or.inr rfl) (pe_fn G_lbox hr rfl (pa_cons (pv 0) (pa_cons pe_int pa_nil))))
  (pss_cons (ps_set (i:=2) sc_law.nd rfl (Or.inl rfl) (pe_fn G_lnamed hr rfl (pa_cons (pv 1) (pa_cons (pe_op op_add pe_int (pe_fn G_ltake hr rfl (pa_cons (pv 1) (pa_cons pe_int pa_nil)))) pa_nil))))
  (pss_cons (ps_lset (i:=3) [1] ["_law_box_here"] rfl rfl (by decide +kernel) rfl (by decide +kernel) rfl (by decide +kernel) ⟨rfl,trivial⟩ rfl ⟨⟨rfl,rfl,Or.inr (Or.inl rfl),(by show (some NameKind.cell:Option NameKind)≠some .local; decide),⟨_,rfl⟩⟩,trivial⟩ (pi_range1 rfl m_range (pa_cons (pe_callB call_len rfl m_len PySem.boot_len (pa_cons (pv 2) pa_nil)) pa_nil)) (fun C s H fp=>⟨pifs_nil,(pe_op op_sub (pe_fn G_ltake hr rfl (pa_cons (pv 1) (pa_cons (pe_op op_mul pe_int (pe_op op_pow pe_int pe_int)) pa_nil))) (pe_op op_pow pe_int pe_int))⟩) sc_law.nd rfl (Or.inl rfl))
  (pss_cons (ps_if (pt_cmpR op_eq (pe_fn G_ltake hr rfl (pa_cons (pv 1) (pa_cons pe_int pa_nil))) pe_int (nomark _)) (pss_one (ps_asg (pe_fn G_ltext hr rfl (pa_cons (pv 1) (pa_cons pe_int pa_nil))) (pg_sub (pv 3) (pe_un un_neg pe_int) set_list))) pss_nil)
  (pss_cons (ps_set (i:=4) sc_law.nd rfl (Or.inl rfl) (pe_new0 G_House___init__ hr rfl))
  (pss_cons (ps_expr (pe_m G_House_put hr (pv 4) (pa_cons (pe_ix ix_list (pv 2) (pe_un un_neg pe_int) (fun _ _=>rfl)) (pa_cons (pe_ix ix_list (pv 3) (pe_un un_neg pe_int) (fun _ _=>rfl)) pa_nil))))
  (pss_cons (ps_for PassesOwn.never rfl (pi_range1 rfl m_range (pa_cons (pe_op op_sub (pe_callB call_len rfl m_len PySem.boot_len (pa_cons (pv 2) pa_nil)) pe_int) pa_nil)) (pg_name (i:=5) sc_law.nd rfl (Or.inl rfl)) (pss_cons (ps_set (i:=6) sc_law.nd rfl (Or.inl rfl) (pe_tup (pa_cons pe_str (pa_cons (pe_tup (pa_cons pe_str (pa_cons (pe_ix ix_list (pv 2) (pe_op op_add (pv 5) pe_int) (fun _ _=>rfl)) pa_nil))) pa_nil))))
  (pss_one (ps_expr (pe_m G_House_put_rule hr (pv 4) (pa_cons (pe_ix ix_list (pv 2) (pv 5) (fun _ _=>rfl)) (pa_cons (pe_tup (pa_cons pe_str (pa_cons (pv 6) (pa_cons (pe_tup (pa_cons pe_str (pa_cons (pe_ix ix_list (pv 3) (pv 5) (fun _ _=>rfl)) pa_nil))) pa_nil)))) pa_nil)))))))
  (pss_cons (ps_set (i:=7) sc_law.nd rfl (Or.inl rfl) (pe_lst pa_nil))
  (pss_cons (ps_for PassesOwn.never rfl (pi_range1 rfl m_range (pa_cons (pe_op op_add pe_int (pe_fn G_ltake hr rfl (pa_cons (pv 1) (pa_cons pe_int pa_nil)))) pa_nil)) (pg_name (i:=5) sc_law.nd rfl (Or.inl rfl)) (pss_one (ps_expr (pe_bm PySem.F.plainAttrs_list PySem.F.slot_list_append PySem.F.type_list_append mt_append (pv 7) (pa_cons (pe_fn G_ltake hr rfl (pa_cons (pe_fn G_lbox hr rfl (pa_cons (pv 0) (pa_cons (pe_op op_add pe_int (pv 5)) pa_nil))) (pa_cons (pe_callB call_len rfl m_len PySem.boot_len (pa_cons (pv 2) pa_nil)) pa_nil))) pa_nil)))))
  (pss_cons (ps_for PassesOwn.never rfl (pi_list (pv 7)) (pg_name (i:=8) sc_law.nd rfl (Or.inl rfl)) (pss_one (ps_expr (pe_m G_House_wish hr (pv 4) (pa_cons (pe_ix ix_list (pv 2) (pv 8) (fun _ _=>rfl)) pa_nil)))))
  (pss_cons (ps_set (i:=9) sc_law.nd rfl (Or.inl rfl) pe_dnewK)
  (pss_cons (ps_for PassesOwn.never rfl (pi_enum rfl m_enumerate (pa_cons (pe_fn G_ldue hr rfl (pa_cons (pv 3) (pa_cons pe_non pa_nil))) pa_nil)) (pg_tup rfl (pgs_cons (pg_name (i:=5) sc_law.nd rfl (Or.inl rfl)) (pgs_cons (pg_name (i:=10) sc_law.nd rfl (Or.inl rfl)) pgs_nil))) (pss_one (ps_if (pt_cmpR op_ge (pv 5) (pe_callB (call_min_ints rfl) rfl m_min PyProof.Rows.boot_min (pa_cons (pv 7) pa_nil)) (nomark _)) (pss_one (ps_dput (hu_of hr) (pv 9) (pe_ix ix_list (pv 2) (pv 5) (fun _ _=>rfl)) (pv 10) rfl)) pss_nil)))
  (pss_cons (ps_set (i:=11) sc_law.nd rfl (Or.inl rfl) (pe_fn G_plain hr rfl (pa_cons (pv 4) pa_nil)))
  (pss_cons (ps_if (PW.pt (pw_or (pt_not (pt_val (pe_callB call_isi rfl m_isi boot_isi (pa_cons (pv 11) (pa_cons (pe_ty rfl m_tuple boot_tupleT) pa_nil))))) (pw_or (pt_cmpR op_ne (pe_callB call_len rfl m_len PySem.boot_len (pa_cons (pv 11) pa_nil)) pe_int (nomark _)) (pw_or1 (pt_cmpR (op_neDD hr.units) (pv 11) (pe_tup (pa_cons (pv 9) (pa_cons pe_dnewK pa_nil))) (nomark _)))))) (pss_one (ps_ret pe_bl)) pss_nil)
  (pss_cons (ps_if (PW.pt (pw_or (pt_not (pt_val (pe_callB call_isi rfl m_isi boot_isi (pa_cons (pe_ix ix_tup (pv 11) pe_int (fun _ _=>rfl)) (pa_cons (pe_ty rfl m_dict boot_dictT) pa_nil))))) (pw_or1 (pt_not (pt_val (pe_callB call_isi rfl m_isi boot_isi (pa_cons (pe_ix ix_tup (pv 11) pe_int (fun _ _=>rfl)) (pa_cons (pe_ty rfl m_dict boot_dictT) pa_nil)))))))) (pss_one (ps_ret pe_bl)) pss_nil)
  (pss_cons (ps_expr (pe_dclear (pe_ix ix_tup (pv 11) pe_int (fun _ _=>rfl))))
  (pss_one (ps_ret (pe_and (pe_cmpR (op_eqDD hr.units) (pe_fn G_plain hr rfl (pa_cons (pv 4) pa_nil)) (pe_tup (pa_cons (pv 9) (pa_cons pe_dnewK pa_nil))) (nomark _)) (pe_one (pe_cmpR op_eq (pe_callB call_lenD rfl m_len PySem.boot_len (pa_cons (pe_fld (pv 4) rfl) pa_nil)) (pe_op op_sub (pe_callB call_len rfl m_len PySem.boot_len (pa_cons (pv 2) pa_nil)) pe_int) (nomark _)))))))))))))))))))))),?_⟩
 refine ⟨_,rfl,sc,sn,1,rfl,hsc,by decide,fun x1 x2 x3 b hb=>?_⟩
 have hbox:IsBox (upd H b (.lst [.int x1,.int x2,.int x3])) b:=⟨_,_,_,upd_same⟩
 have sb:Same H (upd H b (.lst [.int x1,.int x2,.int x3])):=Same.new hb
 generalize upd H b (.lst [.int x1,.int x2,.int x3]) = H0 at hbox sb
 dsimp only [gName]
 refine ⟨_,rfl,_,rfl,b,40,rfl,hbox,by decide,by decide,fun r1 H1 a0 a1 st1=>⟨_,_,rfl,rfl,b,1 + r1,rfl,st1.box,by omega,by omega,fun ln ro wo ns H2 hln st2 en hnl nms=>?_⟩⟩
 have nlb:ln≠b:=IsBox.ne st1.box hln
 have st02:=st1.trans st2
 have kk:∀ {G:Hp},Step b H0 G->Same H G:=fun st c o e=>st.keep c o (ne_of_none e hb) (sb c o e)
 have hln0:H ln = none:=by
  cases e:H ln with
  | none=>rfl
  | some o=>rw [kk st1 _ _ e] at hln; cases hln
 obtain ⟨m,hm⟩:∃ m:Nat,ns.length = m + 1:=⟨ns.length - 1,by omega⟩
 have hm39:m<=39:=by omega
 dsimp only [gName]
 refine ⟨_,rfl,.ref ln,ns.length,rfl,.inl ⟨_,SqL.of en,by rw [List.length_map]⟩,_,rfl,?_,?_,rd_drawR (n:=(ns.length:Int)) (fun i us H'=>∃ is:List Int,us = is.map V.int/\is.length = i/\(∀ j∈is,-(10 ^ 31) < j/\j < 10 ^ 31)/\Step b H0 H'/\H' ln = some (.lst (ns.map V.str))) ⟨[],rfl,rfl,(fun j z=>nomatch z),st02,en⟩ (fun i us H' h=>?_) (by omega) (fun i us H' R hi h r=>?_) (fun us H' D h hD=>?_)⟩
 ·omega
 ·omega
 ·obtain ⟨is,rfl,hl,_⟩:=h
  rw [List.length_map]; exact hl
 ·obtain ⟨is,rfl,hl,hj,st,en'⟩:=h
  refine ⟨_,rfl,_,_,rfl,rfl,⟨by decide,by decide,by decide⟩,_,_,rfl,rfl,.inl ⟨by decide,by decide⟩,b,_,rfl,st.box,by decide,by decide,fun r2 H5 c0 c1 st5=>⟨_,_,rfl,rfl,⟨by decide,by decide,by decide⟩,_,_,rfl,rfl,r _ _ ⟨is ++ [_],by rw [List.map_append]; rfl,by rw [List.length_append,hl]; rfl,fun j hjj=>?_,st.trans st5,st5.keep ln _ nlb en'⟩⟩⟩
  rcases List.mem_append.mp hjj with hjj | hjj
  ·exact hj j hjj
  ·rw [List.mem_singleton.mp hjj]
   have e1:(10:Int) ^ (30:Int).toNat = 10 ^ 30:=by decide
   rw [e1] at c1 ⊢
   omega
 obtain ⟨is,rfl,hl,hj,st3,en3⟩:=h
 have hlw0:H D = none:=by
  cases e:H D with
  | none=>rfl
  | some o=>rw [kk st3 _ _ e] at hD; cases hD
 have nDb:D≠b:=IsBox.ne st3.box hD
 have nDl:ln≠D:=ne_of_none en3 hD
 rw [Int.toNat_natCast] at hl
 have s4:=Same.new (o:=.lst (is.map V.int)) hD
 have ew4:upd H' D (.lst (is.map V.int)) D = some (.lst (is.map V.int)):=upd_same
 have en4:=s4 _ _ en3
 have st4:=st3.trans (Step.new (o:=.lst (is.map V.int)) st3.box hD)
 have sm4:=(kk st3).trans s4
 generalize upd H' D (.lst (is.map V.int)) = H4 at s4 ew4 en4 st4 sm4
 have nag:∀ k:Nat,k<=m->ns[k]? = some ((ns[k]?).getD ""):=fun k hk=>by
  rw [List.getElem?_eq_getElem (show k < ns.length by omega)]; rfl
 have wag:∀ k:Nat,k<=m->is[k]? = some ((is[k]?).getD 0):=fun k hk=>by
  rw [List.getElem?_eq_getElem (show k < is.length by omega)]; rfl
 have bdg:∀ k:Nat,-(10 ^ 31) < (is[k]?).getD 0/\(is[k]?).getD 0 < 10 ^ 31:=fun k=>by
  cases e:is[k]? with
  | none=>exact ⟨by decide,by decide⟩
  | some i=>exact hj i (List.mem_of_getElem? e)
 have lc:=fun x=>lc_of (x:=x) hm39 hm nms hj
 generalize hnA:(fun k:Nat=>(ns[k]?).getD "") = nA at lc
 generalize hwA:(fun k:Nat=>(is[k]?).getD 0) = wA at lc
 have nag':∀ k:Nat,k<=m->ns[k]? = some (nA k):=fun k hk=>by rw [← hnA]; exact nag k hk
 have wag':∀ k:Nat,k<=m->is[k]? = some (wA k):=fun k hk=>by rw [← hwA]; exact wag k hk
 have bdg':∀ k:Nat,-(10 ^ 31) < wA k/\wA k < 10 ^ 31:=fun k=>by rw [← hwA]; exact bdg k
 clear nag wag bdg hnA hwA
 dsimp only [gName]
 refine seqI (fun σ' H'=>∃ (us:List V) (x:W),σ' = [some (.ref sc),some (.ref b),some (.ref ln),some (.ref D),none,none,none,none,none,none,none,none]/\LA H H' b ln D ns us m nA wA x/\IsBox H' b/\LC m nA wA x) (fun σ' H5 h=>?_) (fun tl=>?_)
 rotate_left
 ·refine ⟨_,rfl,b,4,rfl,st4.box,by decide,by decide,fun r5 H5 d0 d1 st5=>⟨rfl,_,rfl,?_⟩⟩
  have la:LA H H5 b ln D ns (is.map V.int) m nA wA (.num (wA m)):=⟨fun c o e=>st5.keep c o (ne_of_none e hb) (sm4 c o e),st5.keep _ _ nlb en4,hm,nag',st5.keep _ _ nDb ew4,by rw [List.length_map]; omega,fun k hk=>by rw [List.getElem?_map,wag' k (by omega)]; rfl,⟨.int (wA m),by rw [List.getElem?_map,wag' m (Nat.le_refl m)]; rfl,.num _⟩,⟨hb,hln0,hlw0⟩,⟨nlb,nDb,nDl⟩⟩
  have bm:=bdg' m
  by_cases hz:r5 = 0
  ·rw [decide_eq_true (by rw [hz]:V.int r5 = V.int 0)]
   refine iteT ⟨_,rfl,b,12,rfl,st5.box,by decide,by decide,fun z H6 hzl hzs st6=>?_⟩
   have la6:=la.step st5.box st6
   have hix:ixN (is.map V.int).length (-1) = some m:=by
    unfold ixN
    rw [List.length_map,if_neg (by decide),if_pos (by omega)]
    congr 1
    omega
   refine ⟨_,rfl,1,rfl,D,_,-1,m,rfl,rfl,la6.ew,hix,tl _ _ ⟨(is.map V.int).set m (.str z),.txt z,rfl,?_,?_,lc _ (.inr ⟨z,rfl⟩) ⟨by omega,hzs⟩⟩⟩
   ·have k7:Kb [D] H6 (upd H6 D (.lst ((is.map V.int).set m (.str z)))):=Kb.upd (by simp)
    exact ⟨fun c o e=>k7 c o (fun mm=>by rw [List.mem_singleton.mp mm,hlw0] at e; cases e) (la6.same c o e),by rw [upd_ne nDl]; exact la6.en,hm,nag',upd_same,by rw [List.length_set,List.length_map]; omega,fun k hk=>by rw [List.getElem?_set_ne (by omega),List.getElem?_map,wag' k (by omega)]; rfl,⟨.str z,by rw [List.getElem?_set_self (by rw [List.length_map]; omega)],.txt z⟩,⟨hb,hln0,hlw0⟩,⟨nlb,nDb,nDl⟩⟩
   ·obtain ⟨y1,y2,y3,e⟩:=st6.box
    exact ⟨y1,y2,y3,by rw [upd_ne nDb.symm]; exact e⟩
  ·rw [decide_eq_false (fun e:V.int r5 = V.int 0=>hz (V.int.inj e))]
   exact iteF (tl _ _ ⟨_,_,rfl,la,st5.box,lc _ (.inl ⟨_,rfl,bm.1,bm.2⟩) ⟨by omega,by omega⟩⟩)
 obtain ⟨us,x,rfl,la,bx,lc⟩:=h
 clear nag' wag' bdg' st4 sm4 s4 ew4 en4 nms hj hl is st3 st02 st1 st2 en hbox sb kk en3 hD hln
 refine seqMk (rdMake fun a H6 h6 s6 f6=>?_)
 have hn:∀ c∈a.all,H c = none/\c≠ln/\c≠D:=fun c hc=>by
  have e:=f6 c hc
  refine ⟨?_,fun z=>?_,fun z=>?_⟩
  ·cases e2:H c with
   | none=>rfl
   | some o=>rw [la.same _ _ e2] at e; cases e
  ·rw [z,la.en] at e; cases e
  ·rw [z,la.ew] at e; cases e
 have hnb:b ∉ a.all:=fun z=>by
  obtain ⟨y1,y2,y3,e⟩:=bx
  rw [f6 _ z] at e; cases e
 have bk:∀ {G G':Hp},IsBox G b->Kb a.all G G'->IsBox G' b:=fun ⟨y1,y2,y3,e⟩ k=>⟨y1,y2,y3,k _ _ hnb e⟩
 have bs:∀ {G G':Hp},IsBox G b->Same G G'->IsBox G' b:=fun ⟨y1,y2,y3,e⟩ k=>⟨y1,y2,y3,k _ _ e⟩
 have la6:=la.sm s6
 have bx6:=bs bx s6
 obtain ⟨v,ev,rv⟩:=la6.ux
 obtain ⟨dxh,eih⟩:=h6.ins
 obtain ⟨z1,z2⟩:=lc.fl.sz lc.ok
 dsimp only [gName]
 refine ⟨_,rfl,a.p,dxh,_,rfl,eih,rfl,_,rfl,1,rfl,ln,_,-1,.str (nA m),rfl,rfl,SqL.of la6.en,atI_m1 (by rw [List.length_map]; exact la6.nl) (by rw [List.getElem?_map,la6.na m (Nat.le_refl m)]; rfl),_,rfl,1,rfl,D,us,-1,v,rfl,rfl,SqL.of la6.ew,atI_m1 la6.ul ev,a,[],[],[],[],nA m,v,x,rfl,h6,lc.cn.nm m (Nat.le_refl m),rv,lc.ok,z1,z2,by decide,fun H7 h7 k7=>?_⟩
 have t7:=h6.tups k7
 have la7:=la6.kb k7 hn t7
 have bx7:=bk bx6 k7
 have lb7:LB AHouse H7 a (putK [] (.inr (nA m)) v) (dropK [] (.inr (nA m))) m nA wA x 0:=
  ⟨h7,⟨v,by rw [valV_put,if_pos rfl],rv.mono t7⟩,fun k hk=>by rw [lc.cn.put [] (by omega) (Nat.le_refl m),if_neg (by omega)]; rfl,fun k hk=>absurd hk (Nat.not_lt_zero _),fun k _ _=>rfl,rfl⟩
 generalize putK [] (Sum.inr (nA m):Key) v = S7 at h7 lb7
 generalize dropK ([]:Kvs) (Sum.inr (nA m)) = R7 at h7 lb7
 dsimp only
 refine seqI (fun σ' H'=>∃ (o5 o6:Option V) (S R:Kvs),σ' = [some (.ref sc),some (.ref b),some (.ref ln),some (.ref D),some (.ref a.p),o5,o6,none,none,none,none,none]/\LA H H' b ln D ns us m nA wA x/\IsBox H' b/\LB AHouse H' a S R m nA wA x m) (fun σ' H8 h=>?_) (fun tl=>?_)
 rotate_left
 ·refine ⟨_,rfl,.ref ln,ns.length,rfl,.inl ⟨_,SqL.of la7.en,by rw [List.length_map]⟩,_,_,rfl,rfl,(ns.length:Int) - 1,rfl,by omega,by omega,for_range (lo:=0) (n:=((ns.length:Int) - 1).toNat) (fun i σ' H'=>∃ (o5 o6:Option V) (S R:Kvs),σ' = [some (.ref sc),some (.ref b),some (.ref ln),some (.ref D),some (.ref a.p),o5,o6,none,none,none,none,none]/\LA H H' b ln D ns us m nA wA x/\IsBox H' b/\LB AHouse H' a S R m nA wA x i)
   ⟨none,none,S7,R7,rfl,la7,bx7,lb7⟩ (fun i σ' H' hi h=>?_) (fun σ' H' h=>?_)⟩
  ·obtain ⟨o5,o6,S,R,rfl,la8,bx8,lb8⟩:=h
   have him:i < m:=by omega
   have ix1:=la8.nix (k:=i + 1) him
   rw [show ((i + 1:Nat):Int) = 0 + (i:Int) + 1 by omega] at ix1
   refine ⟨_,rfl,_,rfl,_,_,rfl,rfl,ln,_,_,.str (nA (i + 1)),rfl,rfl,SqL.of la8.en,ix1,zl2,fun t1 ht1=>⟨zl2,fun t2 ht2=>?_⟩⟩
   have s9a:=Same.new (o:=.tup [.str "lit",.str (nA (i + 1))]) ht1
   have s9:=s9a.trans (Same.new (o:=.tup [.str "look",.ref t1]) ht2)
   have e91:=Same.new (o:=.tup [.str "look",.ref t1]) ht2 t1 _ (upd_same (H:=H') (a:=t1) (o:=.tup [.str "lit",.str (nA (i + 1))]))
   have e92:=upd_same (H:=upd H' t1 (.tup [.str "lit",.str (nA (i + 1))])) (a:=t2) (o:=.tup [.str "look",.ref t1])
   generalize upd (upd H' t1 (.tup [.str "lit",.str (nA (i + 1))])) t2 (.tup [.str "look",.ref t1]) = H9 at s9 e91 e92
   have la9:=la8.sm s9
   have bx9:=bs bx8 s9
   have lb9:=lb8.same s9
   obtain ⟨dxh,eih⟩:=lb9.hs.ins
   have ix0:=la9.nix (k:=i) (by omega)
   rw [show ((i:Nat):Int) = 0 + (i:Int) by omega] at ix0
   have ixw:atI us (0 + (i:Int)) = some (.int (wA i)):=by
    have:=atI_nat (la9.un i him)
    rw [show ((i:Nat):Int) = 0 + (i:Int) by omega] at this
    exact this
   dsimp only [gName]
   refine ⟨_,rfl,a.p,dxh,_,rfl,eih,rfl,_,rfl,_,rfl,ln,_,_,.str (nA i),rfl,rfl,SqL.of la9.en,ix0,_,rfl,_,rfl,_,rfl,D,us,_,.int (wA i),rfl,rfl,SqL.of la9.ew,ixw,zl2,fun t3 ht3=>⟨zl3,fun t4 ht4=>?_⟩⟩
   have s10a:=Same.new (o:=.tup [.str "lit",.int (wA i)]) ht3
   have s10b:=Same.new (o:=.tup [.str "+",.ref t2,.ref t3]) ht4
   have s10:=s10a.trans s10b
   have e3:=s10b t3 _ (upd_same (H:=H9) (a:=t3) (o:=.tup [.str "lit",.int (wA i)]))
   have e4:=upd_same (H:=upd H9 t3 (.tup [.str "lit",.int (wA i)])) (a:=t4) (o:=.tup [.str "+",.ref t2,.ref t3])
   generalize upd (upd H9 t3 (.tup [.str "lit",.int (wA i)])) t4 (.tup [.str "+",.ref t2,.ref t3]) = H10 at s10 e3 e4
   have la10:=la9.sm s10
   have bx10:=bs bx9 s10
   have lb10:=lb9.same s10
   have rr:RW H10 (.ref t4) (plusR (nA (i + 1)) (wA i)).toW:=by
    rw [plusR_toW,lookR_toW]
    refine RW.tri e4 (.txt _) (.lst (s10 _ _ e92) rfl (RWs.two (.txt _) (.lst (s10 _ _ e91) rfl (RWs.two (.txt _) (.txt _)).at')).at') (.lst e3 rfl (RWs.two (.txt _) (.num _)).at')
   have bdi:=lc.bd i
   have ru:=ru_plus (z:=nA (i + 1)) (i:=wA i) (lc.cn.nm (i + 1) him) ⟨by omega,by omega⟩
   have hlen:=lb10.len
   refine ⟨a,S,R,[],[],nA i,.ref t4,plusR (nA (i + 1)) (wA i),rfl,lb10.hs,lc.cn.nm i (by omega),rr,ru.1,ru.2.1,ru.2.2.1,ru.2.2.2,by omega,fun H11 h11 k11=>?_⟩
   have t11:=lb10.hs.tups k11
   refine ⟨_,_,_,_,rfl,la10.kb k11 hn t11,bk bx10 k11,h11,?_,fun k hk=>?_,fun k hk=>?_,fun k hk hkm=>?_,?_⟩
   ·obtain ⟨v,e,r⟩:=lb10.so
    exact ⟨v,by rw [lc.cn.drop S (Nat.le_refl m) (by omega),if_neg (by omega)]; exact e,r.mono t11⟩
   ·rw [lc.cn.drop S (by omega) (by omega)]
    split
    ·rfl
    ·exact lb10.no k hk
   ·rw [lc.cn.put R (by omega) (by omega)]
    by_cases ek:k = i
    ·rw [if_pos ek,ek]
     exact ⟨_,rfl,rr.mono t11⟩
    ·rw [if_neg ek]
     obtain ⟨rv,e,r⟩:=lb10.ru k (by omega)
     exact ⟨rv,e,r.mono t11⟩
   ·rw [lc.cn.put R hkm (by omega),if_neg (by omega)]
    exact lb10.un k (by omega) hkm
   ·rw [put_len (lb10.un i (Nat.le_refl i) (by omega)),hlen]
  ·obtain ⟨o5,o6,S,R,rfl,la8,bx8,lb8⟩:=h
   rw [show ((ns.length:Int) - 1).toNat = m by omega] at lb8
   exact tl _ _ ⟨o5,o6,S,R,rfl,la8,bx8,lb8⟩
 obtain ⟨o5,o6,S,R,rfl,la8,bx8,lb8⟩:=h
 clear la7 lb7 la6 bx6 bx7 t7 k7 h7 h6 la bx s6
 have hc8:Hc AHouse H8 a S R [] [] m nA wA x:=⟨lb8.hs,lb8.so,fun k hk=>⟨lb8.no k hk,let ⟨rv,e,r⟩:=lb8.ru k hk; ⟨rv,e,r,(ru_plus (lc.cn.nm (k + 1) hk) (by have:=lc.bd k; constructor <;> omega)).1.1⟩⟩⟩
 have hRl:=lb8.len
 clear lb8
 refine ⟨zl0,fun ls hls=>?_⟩
 have s9:=Same.new (o:=.lst []) hls
 have els9:upd H8 ls (.lst []) ls = some (.lst []):=upd_same
 have hls0:H ls = none:=by
  cases e:H ls with
  | none=>rfl
  | some o=>rw [la8.same _ _ e] at hls; cases hls
 have nsl:ls≠ln:=fun z=>by rw [z,la8.en] at hls; cases hls
 have nsD:ls≠D:=fun z=>by rw [z,la8.ew] at hls; cases hls
 have nsb:ls≠b:=IsBox.ne bx8 hls
 have nsa:ls ∉ a.all:=fun z=>by obtain ⟨o,e⟩:=hc8.hs.old z; rw [hls] at e; cases e
 have la9:=la8.sm s9
 have hc9:=hc8.same s9
 have bx9:=bs bx8 s9
 generalize upd H8 ls (.lst []) = H9 at s9 els9 la9 hc9 bx9
 clear la8 hc8 bx8 hls
 dsimp only [gName]
 refine seqI (fun σ' H'=>∃ (o5 o6:Option V) (sp:List Int),σ' = [some (.ref sc),some (.ref b),some (.ref ln),some (.ref D),some (.ref a.p),o5,o6,some (.ref ls),none,none,none,none]/\LA H H' b ln D ns us m nA wA x/\Hc AHouse H' a S R [] [] m nA wA x/\H' ls = some (.lst (sp.map V.int))/\sp.length<=4/\sp≠[]/\∀ j∈sp,0<=j/\j<=(m:Int)) (fun σ' H10 h=>?_) (fun tl=>?_)
 rotate_left
 ·refine ⟨_,rfl,b,4,rfl,bx9,by decide,by decide,fun r10 H10 g0 g1 st10=>⟨_,_,rfl,rfl,1 + r10,rfl,by omega,by omega,for_range (lo:=0) (n:=(1 + r10).toNat) (fun i σ' H'=>∃ (o5:Option V) (sp:List Int),σ' = [some (.ref sc),some (.ref b),some (.ref ln),some (.ref D),some (.ref a.p),o5,o6,some (.ref ls),none,none,none,none]/\LA H H' b ln D ns us m nA wA x/\Hc AHouse H' a S R [] [] m nA wA x/\H' ls = some (.lst (sp.map V.int))/\sp.length = i/\∀ j∈sp,0<=j/\j<=(m:Int))
   ⟨o5,[],rfl,la9.step bx9 st10,hc9.kb (N:=[b]) (fun c o hc e=>st10.keep c o (fun z=>hc (List.mem_singleton.mpr z)) e) (fun c hc z=>hnb (by rw [← List.mem_singleton.mp z]; exact hc)) (st10.tups bx9),st10.keep _ _ nsb els9,rfl,fun j z=>nomatch z⟩ (fun i σ' H' hi h=>?_) (fun σ' H' h=>?_)⟩⟩
  ·obtain ⟨o5,sp,rfl,la,hc,els,hspl,hsp⟩:=h
   refine ⟨_,rfl,.inl ⟨rfl,_,SqL.of els⟩,_,rfl,_,rfl,_,_,rfl,rfl,sc,sn,_,rfl,la.same.seq hsc,by omega,fun y1 y2 y3 b2 hb2=>?_⟩
   have hbox2:IsBox (upd H' b2 (.lst [.int y1,.int y2,.int y3])) b2:=⟨_,_,_,upd_same⟩
   have sb2:Same H' (upd H' b2 (.lst [.int y1,.int y2,.int y3])):=Same.new hb2
   generalize upd H' b2 (.lst [.int y1,.int y2,.int y3]) = H11 at hbox2 sb2
   refine ⟨_,rfl,.ref ln,ns.length,rfl,.inl ⟨_,SqL.of (sb2 _ _ la.en),by rw [List.length_map]⟩,b2,_,rfl,hbox2,by omega,Int.lt_of_le_of_lt (show (ns.length:Int)<=40 by omega) (by decide),fun r12 H12 c0 c1 st12=>?_⟩
   have sm12:Same H' H12:=fun c o e=>st12.keep c o (ne_of_none e hb2) (sb2 c o e)
   have els12:=sm12 _ _ els
   refine ⟨ls,_,.int r12,rfl,rfl,els12,Nat.lt_of_le_of_lt (show (sp.map V.int).length<=4 by rw [List.length_map]; omega) (by decide),?_⟩
   have t13:=tups_put (o:=.lst (sp.map V.int ++ [.int r12])) els12
   have k13:Kb [ls] H12 (upd H12 ls (.lst (sp.map V.int ++ [.int r12]))):=Kb.upd (by simp)
   refine ⟨_,sp ++ [r12],rfl,(la.sm sm12).kb k13 (fun c hc=>by rw [List.mem_singleton.mp hc]; exact ⟨hls0,nsl,nsD⟩) t13,(hc.same sm12).kb k13 (fun c hc z=>nsa (by rw [← List.mem_singleton.mp z]; exact hc)) t13,by rw [upd_same,List.map_append]; rfl,by rw [List.length_append,hspl]; rfl,fun j hj=>?_⟩
   rcases List.mem_append.mp hj with hj | hj
   ·exact hsp j hj
   ·rw [List.mem_singleton.mp hj]; omega
  ·obtain ⟨o5,sp,rfl,la,hc,els,hspl,hsp⟩:=h
   exact tl _ _ ⟨o5,o6,sp,rfl,la,hc,els,by omega,fun z=>by rw [z] at hspl; simp only [List.length_nil] at hspl; omega,hsp⟩
 clear la9 hc9 bx9 els9 s9 bs bk
 obtain ⟨o5',o6',sp,rfl,la10,hc10,els10,hspl,hsp0,hsp⟩:=h
 refine seqI (fun σ' H'=>∃ (o8:Option V) (W:List Str) (js:List Nat),σ' = [some (.ref sc),some (.ref b),some (.ref ln),some (.ref D),some (.ref a.p),o5',o6',some (.ref ls),o8,none,none,none]/\LA H H' b ln D ns us m nA wA x/\Hc AHouse H' a S R [] W m nA wA x/\H' ls = some (.lst (sp.map V.int))/\LW m nA W sp js) (fun σ' H11 h=>?_) (fun tl=>?_)
 rotate_left
 ·refine ⟨_,rfl,ls,rfl,⟨_,SqL.of els10⟩,for_list (K:=K) (xs:=sp.map V.int) (fun i σ' H'=>∃ (o8:Option V) (W:List Str) (js:List Nat),σ' = [some (.ref sc),some (.ref b),some (.ref ln),some (.ref D),some (.ref a.p),o5',o6',some (.ref ls),o8,none,none,none]/\LA H H' b ln D ns us m nA wA x/\Hc AHouse H' a S R [] W m nA wA x/\H' ls = some (.lst (sp.map V.int))/\LW m nA W (sp.take i) js)
   ⟨none,[],[],rfl,la10,hc10,els10,⟨rfl,Nat.zero_le _,fun j=>⟨fun z=>(nomatch z),fun z=>(nomatch z)⟩,fun j z=>(nomatch z)⟩⟩ (fun i σ' H' _ h=>?_) (fun i y σ' H' hy h=>?_) (fun σ' H' h=>?_)⟩
  ·obtain ⟨_,_,_,_,_,_,e,_⟩:=h
   exact SqL.of e
  ·obtain ⟨o8,W,js,rfl,la,hc,els,lw⟩:=h
   rw [List.getElem?_map] at hy
   obtain ⟨r,hr,rfl⟩:=Option.map_eq_some_iff.mp hy
   have hrm:=hsp r (List.mem_of_getElem? hr)
   obtain ⟨j,rfl⟩:∃ j:Nat,r = (j:Int):=⟨r.toNat,by omega⟩
   obtain ⟨dxh,eih⟩:=hc.hs.ins
   have hjm:j<=m:=by omega
   have hjl:=lw.len
   have hWl:W.length<=4:=by
    rw [lw.eq,List.length_map]
    exact Nat.le_trans hjl (by rw [List.length_take]; omega)
   refine ⟨_,rfl,a.p,dxh,_,rfl,eih,rfl,_,rfl,_,rfl,ln,_,_,.str (nA j),rfl,rfl,SqL.of la.en,la.nix hjm,a,S,R,[],W,nA j,rfl,hc.hs,lc.cn.nm j hjm,by omega,fun H12 h12 k12=>?_⟩
   have t12:=hc.hs.tups k12
   obtain ⟨js',lw'⟩:=lw.add lc.cn.inj hjm
   refine ⟨_,addL (nA j) W,js',rfl,la.kb k12 hn t12,hc.wish h12 t12,k12 _ _ nsa els,?_⟩
   rw [take_snoc hr]
   exact lw'
  ·obtain ⟨o8,W,js,rfl,la,hc,els,lw⟩:=h
   rw [List.length_map,List.take_length] at lw
   exact tl _ _ ⟨o8,W,js,rfl,la,hc,els,lw⟩
 clear la10 hc10 els10
 obtain ⟨o8,W,js,rfl,la11,hc11,els11,lw⟩:=h
 obtain ⟨M,hM1,hM2⟩:=min_of sp hsp0
 obtain ⟨lo,rfl⟩:∃ lo:Nat,M = (lo:Int):=⟨M.toNat,by have:=hsp M hM1; omega⟩
 have hlo:lo∈js:=(lw.at' lo).mpr hM1
 have hlm:=lw.le lo hlo
 have hjs:∀ j∈js,lo<=j/\j<=m:=fun j hj=>⟨by have:=hM2 _ ((lw.at' j).mp hj); omega,lw.le j hj⟩
 have hfl:∀ k,Flat (dOf wA x (m - k) k):=fun k=>flat_of lc.fl lc.bd _ _
 have cn:=lc.cn
 generalize hdA:(fun k=>dOf wA x (m - k) k) = dA at cn
 have hfl':∀ k,Flat (dA k):=fun k=>by rw [← hdA]; exact hfl k
 have kd:(∃ i,x = .num i)\/∃ z,x = .txt z:=lc.fl.imp (fun ⟨i,e,_⟩=>⟨i,e⟩) id
 clear hfl hdA
 refine fun dd hdd=>?_
 have s12:=Same.new (o:=.dK []) hdd
 have edd:upd H11 dd (.dK []) dd = some (.dK []):=upd_same
 have hdd0:H dd = none:=by
  cases e:H dd with
  | none=>rfl
  | some o=>rw [la11.same _ _ e] at hdd; cases hdd
 have ndl:dd≠ln:=fun z=>by rw [z,la11.en] at hdd; cases hdd
 have ndD:dd≠D:=fun z=>by rw [z,la11.ew] at hdd; cases hdd
 have nda:dd ∉ a.all:=fun z=>by obtain ⟨o,e⟩:=hc11.hs.old z; rw [hdd] at e; cases e
 have nds:ls≠dd:=ne_of_none els11 hdd
 have la12:=la11.sm s12
 have hc12:=hc11.same s12
 have els12:=s12 _ _ els11
 generalize upd H11 dd (.dK []) = H12 at s12 edd la12 hc12 els12
 clear la11 hc11 els11 hdd
 dsimp only [gName]
 refine seqI (fun σ' H'=>∃ (o5 o10:Option V) (av:Kvs),σ' = [some (.ref sc),some (.ref b),some (.ref ln),some (.ref D),some (.ref a.p),o5,o6',some (.ref ls),o8,some (.ref dd),o10,none]/\LA H H' b ln D ns us m nA wA x/\Hc AHouse H' a S R [] W m nA wA x/\H' dd = some (.dK av)/\Due K H' av m nA dA lo) (fun σ' H13 h=>?_) (fun tl=>?_)
 rotate_left
 ·refine ⟨_,rfl,D,us,m,wA,dA,x,rfl,la12.ew,⟨la12.ul,la12.ux,la12.un,cn.dm,cn.dk,kd⟩,hm39,fun dl ds H13 hdl s13 edl hdsl hds=>?_⟩
  have ndd:dl≠dd:=(ne_of_none edd hdl).symm
  refine ⟨dl,ds,rfl,SqL.of edl,for_enum (K:=K) (xs:=ds) (fun i σ' H'=>∃ (o5 o10:Option V) (av:Kvs),σ' = [some (.ref sc),some (.ref b),some (.ref ln),some (.ref D),some (.ref a.p),o5,o6',some (.ref ls),o8,some (.ref dd),o10,none]/\LA H H' b ln D ns us m nA wA x/\Hc AHouse H' a S R [] W m nA wA x/\H' dd = some (.dK av)/\H' dl = some (.lst ds)/\H' ls = some (.lst (sp.map V.int))/\Tups H13 H'/\DP K H' av nA dA lo i)
   ⟨o5',none,[],rfl,la12.sm s13,hc12.same s13,s13 _ _ edd,edl,s13 _ _ els12,fun _ _ e=>e,⟨List.nodup_nil,fun k h1 h2=>absurd h2 (Nat.not_lt_zero _),fun _ _=>rfl⟩⟩ (fun i σ' H' _ h=>?_) (fun i y t σ' H' hy ht h=>?_) (fun σ' H' h=>?_)⟩
  ·obtain ⟨_,_,_,_,_,_,_,e,_⟩:=h
   exact SqL.of e
  ·obtain ⟨o5,o10,av,rfl,la,hc,ed,el,es,tu,dp⟩:=h
   have hi:i < ds.length:=(List.getElem?_eq_some_iff.mp hy).1
   have him:i<=m:=by omega
   have sT:=Same.new (o:=.tup [.int i,y]) ht
   have eT:upd H' t (.tup [.int i,y]) t = some (.tup [.int i,y]):=upd_same
   have la':=la.sm sT
   have hc':=hc.same sT
   have dp':=dp.mono (same_tups' sT)
   have tu':Tups H13 (upd H' t (.tup [.int i,y])):=fun _ _ e=>sT _ _ (tu _ _ e)
   generalize upd H' t (.tup [.int i,y]) = HT at sT eT la' hc' dp' tu'
   have ed':=sT _ _ ed
   have el':=sT _ _ el
   have es':=sT _ _ es
   refine ⟨t,_,rfl,SqT.of eT,rfl,_,_,rfl,_,_,rfl,rfl,?_⟩
   refine ⟨_,rfl,_,rfl,ls,sp,rfl,SqL.of es',List.length_pos_iff.mpr hsp0,fun M2 h1 h2=>⟨_,_,rfl,rfl,_,rfl,?_⟩⟩
   have eM:M2 = (lo:Int):=Int.le_antisymm (h2 _ hM1) (hM2 _ h1)
   rw [eM]
   obtain ⟨v,hv,ro⟩:=hds i him
   obtain rfl:y = v:=Option.some.inj (hy.symm.trans hv)
   by_cases hli:lo<=i
   ·rw [decide_eq_true (show (lo:Int)<=((i:Nat):Int) by omega)]
    have hfew:=keys_few cn.few dp'.nd fun key hk=>dp'.no key fun k h1 h2 e=>hk k (by omega) e
    refine iteT ⟨_,rfl,_,rfl,_,rfl,_,rfl,ln,_,_,.str (nA i),rfl,rfl,SqL.of la'.en,la'.nix him,dd,_,rfl,.inl ⟨av,.inr (nA i),ed',rfl,Nat.lt_of_le_of_lt hfew (by decide),rfl⟩,?_⟩
    have tP:=tupsD (kv':=putK av (.inr (nA i)) y) ed'
    have kP:Kb [dd] HT (upd HT dd (.dK (putK av (.inr (nA i)) y))):=Kb.upd (by simp)
    exact ⟨_,_,putK av (.inr (nA i)) y,rfl,la'.kb kP (fun c hc=>by rw [List.mem_singleton.mp hc]; exact ⟨hdd0,ndl,ndD⟩) tP,hc'.kb kP (fun c hc z=>nda (by rw [← List.mem_singleton.mp z]; exact hc)) tP,upd_same,by rw [upd_ne ndd]; exact el',by rw [upd_ne nds]; exact es',fun _ _ e=>tP _ _ (tu' _ _ e),(dp'.mono tP).put cn hli him ((ro.tups tu').tups tP)⟩
   ·rw [decide_eq_false (show ¬ (lo:Int)<=((i:Nat):Int) by omega)]
    exact iteF ⟨_,_,av,rfl,la',hc',ed',el',es',tu',dp'.skip (by omega)⟩
  ·obtain ⟨o5,o10,av,rfl,la,hc,ed,el,es,tu,dp⟩:=h
   rw [hdsl] at dp
   exact tl _ _ ⟨o5,o10,av,rfl,la,hc,ed,⟨dp.nd,fun k h1 h2=>dp.has k h1 (by omega),fun key hk=>dp.no key fun k h1 h2=>hk k h1 (by omega)⟩⟩
 clear la12 hc12 els12 edd s12
 obtain ⟨o5,o10,av,rfl,la,hc,ed,due⟩:=h
 refine ⟨_,rfl,a,S,R,[],W,m,nA,wA,dA,x,lo,js,rfl,cn,hc,lw.eq,hjs,hlo,fun t oc wt kvs H14 s14 hoc hwt now et eoc ewt due14=>?_⟩
 have la14:=la.sm s14
 have hc14:=hc.same s14
 have ed14:=s14 _ _ ed
 have dueA:=due.mono (same_tups' s14)
 have nco:dd≠oc:=ne_of_none ed hoc
 have nca:oc ∉ a.all:=fun z=>by obtain ⟨o,e⟩:=hc.hs.old z; rw [hoc] at e; cases e
 have nct:t≠oc:=fun z=>by rw [z,eoc] at et; cases et
 have noln:oc≠ln:=fun z=>by rw [z,la.en] at hoc; cases hoc
 have noD:oc≠D:=fun z=>by rw [z,la.ew] at hoc; cases hoc
 have hoc0:H oc = none:=by
  cases e:H oc with
  | none=>rfl
  | some o=>rw [la.same _ _ e] at hoc; cases hoc
 clear la hc ed due s14
 dsimp only [gName]
 refine ⟨_,rfl,_,_,_,true,rfl,.tup et,isi_tt,_,rfl,iteF ?_⟩
 refine ⟨_,rfl,.ref t,2,rfl,.inr ⟨_,SqT.of et,rfl⟩,rfl,_,rfl,iteF ?_⟩
 refine ⟨_,rfl,_,rfl,fun d2 hd2=>⟨zl2,fun t2 ht2=>?_⟩⟩
 have s15:=(Same.new (o:=.dK []) hd2).trans (Same.new (o:=.tup [.ref dd,.ref d2]) ht2)
 have e15:=Same.new (o:=.tup [.ref dd,.ref d2]) ht2 d2 _ (upd_same (H:=H14) (a:=d2) (o:=.dK []))
 have f15:=upd_same (H:=upd H14 d2 (.dK [])) (a:=t2) (o:=.tup [.ref dd,.ref d2])
 generalize upd (upd H14 d2 (.dK [])) t2 (.tup [.ref dd,.ref d2]) = H15 at s15 e15 f15
 have tt15:=same_tups' s15
 refine ⟨t,t2,oc,wt,dd,d2,kvs,[],av,[],rfl,rfl,s15 _ _ et,f15,s15 _ _ eoc,s15 _ _ ewt,s15 _ _ ed14,e15,(due14.mono tt15).same hfl' (dueA.mono tt15),SameO.nil,_,rfl,iteF ?_⟩
 have et15:=s15 _ _ et
 have eoc15:=s15 _ _ eoc
 have ewt15:=s15 _ _ ewt
 have ed15:=s15 _ _ ed14
 have la15:=la14.sm s15
 have hc15:=hc14.same s15
 have due15:=dueA.mono tt15
 clear la14 hc14 dueA due14 s15 tt15 et eoc ewt ed14 e15 f15 hd2 ht2
 refine ⟨_,rfl,t,_,0,_,rfl,rfl,SqT.of et15,atI_nat (j:=0) rfl,_,_,_,true,rfl,.dK eoc15,(by decide +kernel),_,rfl,iteF ?_⟩
 refine ⟨_,rfl,t,_,1,_,rfl,rfl,SqT.of et15,atI_nat (j:=1) rfl,_,_,_,true,rfl,.dK ewt15,(by decide +kernel),_,rfl,iteF ?_⟩
 refine ⟨_,rfl,t,_,0,_,rfl,rfl,SqT.of et15,atI_nat (j:=0) rfl,oc,kvs,rfl,eoc15,?_⟩
 have k16:Kb [oc] H15 (upd H15 oc (.dK [])):=Kb.upd (by simp)
 have t16:=tupsD (kv':=[]) eoc15
 have la16:=la15.kb k16 (fun c hc=>by rw [List.mem_singleton.mp hc]; exact ⟨hoc0,noln,noD⟩) t16
 have hc16:=hc15.kb k16 (fun c hc z=>nca (by rw [← List.mem_singleton.mp z]; exact hc)) t16
 have ed16:upd H15 oc (.dK []) dd = some (.dK av):=by rw [upd_ne nco]; exact ed15
 have due16:=due15.mono t16
 generalize upd H15 oc (.dK []) = H16 at k16 t16 la16 hc16 ed16 due16
 refine ⟨_,rfl,a,S,R,[],W,m,nA,wA,dA,x,lo,js,rfl,cn,hc16,lw.eq,hjs,hlo,fun t' oc' wt' kvs' H17 s17 hoc' hwt' now' et' eoc' ewt' due17=>?_⟩
 refine ⟨_,rfl,fun d3 hd3=>⟨zl2,fun t3 ht3=>?_⟩⟩
 have s18:=(Same.new (o:=.dK []) hd3).trans (Same.new (o:=.tup [.ref dd,.ref d3]) ht3)
 have e18:=Same.new (o:=.tup [.ref dd,.ref d3]) ht3 d3 _ (upd_same (H:=H17) (a:=d3) (o:=.dK []))
 have f18:=upd_same (H:=upd H17 d3 (.dK [])) (a:=t3) (o:=.tup [.ref dd,.ref d3])
 generalize upd (upd H17 d3 (.dK [])) t3 (.tup [.ref dd,.ref d3]) = H18 at s18 e18 f18
 have tt18:=same_tups' s18
 refine ⟨t',t3,oc',wt',dd,d3,kvs',[],av,[],rfl,rfl,s18 _ _ et',f18,s18 _ _ eoc',s18 _ _ ewt',s18 _ _ (s17 _ _ ed16),e18,(due17.mono tt18).same hfl' ((due16.mono (same_tups' s17)).mono tt18),SameO.nil,_,rfl,iteT ?_⟩
 have hc18:=hc16.same (s17.trans s18)
 have la18:=la16.sm (s17.trans s18)
 obtain ⟨dxh,eih⟩:=hc18.hs.ins
 refine ⟨_,rfl,a.p,AHouse,dxh,_,.ref a.r,rfl,eih,clH,nR,rfl,a.r,R,rfl,hc18.hs.ru,_,rfl,.ref ln,ns.length,rfl,.inl ⟨_,SqL.of la18.en,by rw [List.length_map]⟩,_,_,rfl,rfl,rfl,?_⟩
 rw [decide_eq_true (show V.int (R.length:Int) = V.int ((ns.length:Int) - 1) by rw [hRl,hm]; congr 1; omega)]
 exact q _
end
end D
namespace PySem.W.Fast
def tw17755284903681395015:=0
def tw1316853456976814393:=0
def tw15423262651705996442:=0
def tw11963312339063253899:=0
def tw10801422521314733943:=0
def tw18354415373466469364:=0
def tw2955422354370640791:=0
def tw10161944373530579279:=0
def tw9996904492849344588:=0
def tw9972370405326511452:=0
def tw9330018284551532803:=0
def tw2822454655783129604:=0
def tw9808289815565917890:=0
def tw5065450506082612976:=0
def tw5763714474707041544:=0
def tw10719270492485410992:=0
def tw12637545740098905522:=0
def tw17427608604801104770:=0
def tw11418875941372385329:=0
def tw5978156158745307168:=0
def tw16093100755315057793:=0
def tw12119930045087575029:=0
def tw262983089503054343:=0
def tw4772925666963154667:=0
def tw3661071637114348759:=0
def tw5041123191859198351:=0
def tw4282025428433557369:=0
def tw8907248695525183965:=0
def tw13188617002085042352:=0
def tw6802180283360101888:=0
def tw9810405694217523792:=0
def tw8326791814751808916:=0
def tw14999928972588349313:=0
def tw9241972112590461483:=0
def tw15371533120214564215:=0
def tw16061621224642622562:=0
def tw4612474019977733746:=0
def tw4207837840961943861:=0
def tw3281551749128364080:=0
def tw9222619643106990947:=0
def tw12846899796490862697:=0
def tw1315814755231421508:=0
def tw5438319549308860970:=0
def tw12219640523107984533:=0
def tw7377048365446687965:=0
def tw26239399590271779:=0
def tw4558482633014753988:=0
def tw1987459520825528698:=0
def tw9117723962575712572:=0
def tw4496234218506179312:=0
def tw7133074286597065700:=0
def tw17273280337521149205:=0
def tw11346511437776857108:=0
def tw17434192823072113750:=0
def tw762251982731034789:=0
def tw538388810457494596:=0
def tw11849769792260207687:=0
def tw2523717591807227591:=0
def tw12360997543969336655:=0
def tw13432012988729178404:=0
def tw7750950488358705920:=0
def tw16733771916734786758:=0
def tw15311370601873123428:=0
def tw2587915923774630877:=0
def tw9218779815055356669:=0
def tw16884768958516793308:=0
def tw18035905334171520123:=0
def tw15849797195713272334:=0
def tw7799122901399176807:=0
def tw15281888299099850086:=0
def tw5819763479140447750:=0
def tw6126581691956724511:=0
def tw11502311887724318334:=0
def tw17560450873694955877:=0
def tw4061851855039666730:=0
def tw13060449191150211797:=0
def tw7445579038080782668:=0
def tw9460326031282451421:=0
def tw843077758119864201:=0
def tw16550892788437288541:=0
def tw1505940213331904105:=0
def tw6957022128951991034:=0
def tw4943356043841906334:=0
def tw13257246116116745369:=0
def tw10226362193793843129:=0
def tw5056753961793897181:=0
def tw4371009778817484540:=0
def tw8447211834589144201:=0
def tw7919264111280811738:=0
def tw5274771282089050490:=0
def tw16069964638104676006:=0
def tw12816154553763933413:=0
def tw7521850579739424460:=0
def tw6207919126146819350:=0
def tw3062656785445871776:=0
def tw2241784137603592199:=0
def tw11181229862422106305:=0
def tw3762463952128118579:=0
def tw3311069214609600433:=0
def tw17823894337588371180:=0
def tw10123826091337997326:=0
def tw9357524104647500308:=0
def tw18163850590805984518:=0
def tw12436958395181047392:=0
def tw2468788739715471321:=0
def tw14456835909029774584:=0
def tw14850987173082746870:=0
def tw13652794340402189216:=0
def tw2349516583629165186:=0
def tw16002703847492696981:=0
def tw3179621647037740733:=0
def tw9819444038627512553:=0
def tw2657268969235036946:=0
def tw3867500634494293351:=0
def tw17561351567884927239:=0
def tw5464444655013477698:=0
def tw15500087243165590035:=0
def tw4471741832140187:=0
def tw2844373540590960061:=0
def tw11947359066175520554:=0
def tw6494144515931110889:=0
def tw12269344390320604111:=0
def tw17201616729110078469:=0
def tw17492764660544293028:=0
def tw10830744058860402323:=0
def tw10464388260271016243:=0
def tw13823087278837320846:=0
def tw3906519660619864701:=0
def tw16208364859230814027:=0
def tw4518573858343958017:=0
def tw14814666803774829262:=0
def tw3284450061349813471:=0
def tw9310772600863182271:=0
def tw5954584785450846801:=0
def tw7784500344749482556:=0
def tw9988223376310349816:=0
def tw6929249738712244388:=0
def tw6045721839522065119:=0
def tw8967447722676719535:=0
def tw1672351939278153159:=0
def tw3171123791413532406:=0
def tw9071160703122863873:=0
def tw6289952527218826234:=0
def tw5788451294435524325:=0
def tw13288338756754587249:=0
def tw14234507764288202160:=0
def tw832815836502876687:=0
def tw17126435688397330410:=0
def tw1484776860332243732:=0
def tw15799018323230039975:=0
def tw1118708014735123349:=0
def tw13834726862160545311:=0
def tw11404884023959427158:=0
def tw16338798894281580891:=0
def tw5601355502865374:=0
def tw14065197139332947920:=0
def tw15795036175922440706:=0
def tw4189109871863834624:=0
def tw10794975160309509670:=0
def tw120803070324071273:=0
def tw4028101017184535480:=0
def tw2776374442497963481:=0
def tw11288586253789824118:=0
def tw11332032282308148348:=0
def tw12427164180185865905:=0
def tw13927878307586480363:=0
def tw311749658978585702:=0
def tw4133460490297402775:=0
def tw15739808871519304440:=0
def tw1139414583216833390:=0
def tw17625612598393394683:=0
def tw11929360202381061279:=0
def tw626039973365002347:=0
def tw10317316894421641383:=0
def tw4470466253428173032:=0
def tw15629815142035955802:=0
def tw5887564505173116990:=0
def tw4626253208048014062:=0
def tw8908370790767151858:=0
def tw12941374869225796734:=0
def tw13102491845906295835:=0
def tw5680854988694415590:=0
def tw3289191379873493438:=0
def tw16860327565801399431:=0
def tw4819334933789096046:=0
def tw7417032477344374148:=0
def tw16223498964232738436:=0
def tw2399407804958361039:=0
def tw14547745270878858061:=0
def tw4591259348404415835:=0
def tw2615983148052697101:=0
def tw4479230627294052890:=0
def tw18444847726699696357:=0
def tw13329502458294816877:=0
def tw2094233695588807237:=0
def tw11287620076525763370:=0
def tw8037965416630689287:=0
def tw10588909412897050674:=0
def tw10483444268043808986:=0
def tw9444681213018373445:=0
def tw11711500405672602307:=0
def tw3826557413985456564:=0
def tw5545636359449171343:=0
def tw10628659093745099541:=0
def tw1298633201864803994:=0
def tw2947414260525021671:=0
def tw18033829862461379500:=0
def tw11042309893287484803:=0
def tw9736338159736181824:=0
def tw15992005488027327325:=0
def tw9798527548346788388:=0
def tw16248339562860958286:=0
def tw7193014571076422308:=0
def tw2966051756169372631:=0
def tw6030139765424072531:=0
def tw17777190186050707450:=0
def tw2880905674459357282:=0
def tw2373546199711611532:=0
def tw2591209186546595901:=0
def tw10702754586011063244:=0
def tw14761339793846477726:=0
def tw11677212824766308897:=0
def tw10484637492221380188:=0
def tw12419899894098010367:=0
def tw12936665002948611594:=0
def tw8608848828679795374:=0
def tw4491027378533789688:=0
def tw8267635232274586927:=0
def tw13577450880371018310:=0
def tw13363893940657990138:=0
def tw1911579141237628670:=0
def tw5346369732242542312:=0
def tw487821533231201364:=0
def tw15514063851268144410:=0
def tw5372663394279657555:=0
def tw16035115837249348284:=0
def tw14838615094654162117:=0
def tw9171662907413985322:=0
def tw6981442533462711621:=0
def tw2060688490728148068:=0
def tw8844194338330547554:=0
def tw669352516181824738:=0
def tw8082498645217524808:=0
def tw14016214742330326385:=0
def tw17929117291760218187:=0
def tw5890394277576018539:=0
def tw12541718051824449055:=0
def tw18368662477099203836:=0
def tw17729339455423164448:=0
def tw2724388225156349039:=0
end PySem.W.Fast
namespace D
open PySem L2
theorem none_ok {P:Program}{w:World}{K:PySem.W.Frag}{mg:Str->Option Value}{base:Heap}{f:Addr}{fd:FuncData}{ps:List Str}{sp:Sp}{CX:CXT} (no:∀ vs H Q E,¬ sp vs H Q E) (k:Nat):FnOk P w K mg base CX k f fd ps sp:=
 ⟨fun vs H Q E h=>absurd h (no vs H Q E),fun A outer s H args us vs Q E _ _ _ _ h=>absurd h (no vs H Q E)⟩
theorem us_1 {us:List Value} (h:us.length = 1):∃ x0,us = [x0]:=by
 match us,h with
 | [x0],_=>exact ⟨x0,rfl⟩
theorem us_2 {us:List Value} (h:us.length = 2):∃ x0 x1,us = [x0,x1]:=by
 match us,h with
 | [x0,x1],_=>exact ⟨x0,x1,rfl⟩
theorem us_3 {us:List Value} (h:us.length = 3):∃ x0 x1 x2,us = [x0,x1,x2]:=by
 match us,h with
 | [x0,x1,x2],_=>exact ⟨x0,x1,x2,rfl⟩
theorem us_4 {us:List Value} (h:us.length = 4):∃ x0 x1 x2 x3,us = [x0,x1,x2,x3]:=by
 match us,h with
 | [x0,x1,x2,x3],_=>exact ⟨x0,x1,x2,x3,rfl⟩
abbrev nI (K:PySem.W.Frag) (s:Str) (f:Addr):Prop:=nsIn K mainGlobals s = some (some (.ref f))
abbrev lI (K:PySem.W.Frag) (f:Addr) (s:Str) (t:Stmt) (oc:Value) (od:Option Addr) (kV dc pm:Value) (an:Option Addr) (cd ct:Value) (sl:Array (Option Value)):Prop:=K.lookup f = some ⟨oc,od,.func (fnOf s s (defArgs t) (defBody t) (defScope t) .none kV dc pm an cd ct),sl⟩
abbrev cI (K:PySem.W.Frag) (c:Value) (s:Str):Prop:=codeIn K c s = true
abbrev kI (K:PySem.W.Frag) (f:Addr):Prop:=keepIn K (.ref f) = true
theorem all_mk {l:PySem.W.OpenLaw}{w:World}{K:PySem.W.Frag}{h:Heap}{mg:Str->Option Value}{fa f0 f1 f2 f3 f4 f5 f6 f7 f8 f9 f10 f11 f12 f13 f14 f15 f16 f17 f18 f19 f20 f21 f22 f23 f24 f25 f26 f27 f28 f29 f30 f31 f32 f33 f34 f35 f36 f37 f38 f39 f40 f41 f42 f43 f44 f45 f46 f47 f48 f49 f50 f51 f52 f53 f54 f55 f56 f57 f58 f59 f60 f61 f62 f63 f64 f65 f66 f67 f68:Addr} (X:K.In h) (G:h.Ns mainGlobals mg) (hfa:mg "law" = some (.ref fa))
  {od0 an0 od1 an1 od2 an2 od3 an3 od4 an4 od5 an5 od6 an6 od7 an7 od8 an8 od9 an9 od10 an10 od11 an11 od12 an12 od13 an13 od14 an14 od15 an15 od16 an16 od17 an17 od18 an18 od19 an19 od20 an20 od21 an21 od22 an22 od23 an23 od24 an24 od25 an25 od26 an26 od27 an27 od28 an28 od29 an29 od30 an30 od31 an31 od32 an32 od33 an33 od34 an34 od35 an35 od36 an36 od37 an37 od38 an38 od39 an39 od40 an40 od41 an41 od42 an42 od43 an43 od44 an44 od45 an45 od46 an46 od47 an47 od48 an48 od49 an49 od50 an50 od51 an51 od52 an52 od53 an53 od54 an54 od55 an55 od56 an56 od57 an57 od58 an58 od59 an59 od60 an60 od61 an61 od62 an62 od63 an63 od64 an64 od65 an65 od66 an66 od67 an67 od68 an68:Option Addr}{sl0 sl1 sl2 sl3 sl4 sl5 sl6 sl7 sl8 sl9 sl10 sl11 sl12 sl13 sl14 sl15 sl16 sl17 sl18 sl19 sl20 sl21 sl22 sl23 sl24 sl25 sl26 sl27 sl28 sl29 sl30 sl31 sl32 sl33 sl34 sl35 sl36 sl37 sl38 sl39 sl40 sl41 sl42 sl43 sl44 sl45 sl46 sl47 sl48 sl49 sl50 sl51 sl52 sl53 sl54 sl55 sl56 sl57 sl58 sl59 sl60 sl61 sl62 sl63 sl64 sl65 sl66 sl67 sl68:Array (Option Value)}{oc0 kV0 dc0 pm0 cd0 ct0 oc1 kV1 dc1 pm1 cd1 ct1 oc2 kV2 dc2 pm2 cd2 ct2 oc3 kV3 dc3 pm3 cd3 ct3 oc4 kV4 dc4 pm4 cd4 ct4 oc5 kV5 dc5 pm5 cd5 ct5 oc6 kV6 dc6 pm6 cd6 ct6 oc7 kV7 dc7 pm7 cd7 ct7 oc8 kV8 dc8 pm8 cd8 ct8 oc9 kV9 dc9 pm9 cd9 ct9 oc10 kV10 dc10 pm10 cd10 ct10 oc11 kV11 dc11 pm11 cd11 ct11 oc12 kV12 dc12 pm12 cd12 ct12 oc13 kV13 dc13 pm13 cd13 ct13 oc14 kV14 dc14 pm14 cd14 ct14 oc15 kV15 dc15 pm15 cd15 ct15 oc16 kV16 dc16 pm16 cd16 ct16 oc17 kV17 dc17 pm17 cd17 ct17 oc18 kV18 dc18 pm18 cd18 ct18 oc19 kV19 dc19 pm19 cd19 ct19 oc20 kV20 dc20 pm20 cd20 ct20 oc21 kV21 dc21 pm21 cd21 ct21 oc22 kV22 dc22 pm22 cd22 ct22 oc23 kV23 dc23 pm23 cd23 ct23 oc24 kV24 dc24 pm24 cd24 ct24 oc25 kV25 dc25 pm25 cd25 ct25 oc26 kV26 dc26 pm26 cd26 ct26 oc27 kV27 dc27 pm27 cd27 ct27 oc28 kV28 dc28 pm28 cd28 ct28 oc29 kV29 dc29 pm29 cd29 ct29 oc30 kV30 dc30 pm30 cd30 ct30 oc31 kV31 dc31 pm31 cd31 ct31 oc32 kV32 dc32 pm32 cd32 ct32 oc33 kV33 dc33 pm33 cd33 ct33 oc34 kV34 dc34 pm34 cd34 ct34 oc35 kV35 dc35 pm35 cd35 ct35 oc36 kV36 dc36 pm36 cd36 ct36 oc37 kV37 dc37 pm37 cd37 ct37 oc38 kV38 dc38 pm38 cd38 ct38 oc39 kV39 dc39 pm39 cd39 ct39 oc40 kV40 dc40 pm40 cd40 ct40 oc41 kV41 dc41 pm41 cd41 ct41 oc42 kV42 dc42 pm42 cd42 ct42 oc43 kV43 dc43 pm43 cd43 ct43 oc44 kV44 dc44 pm44 cd44 ct44 oc45 kV45 dc45 pm45 cd45 ct45 oc46 kV46 dc46 pm46 cd46 ct46 oc47 kV47 dc47 pm47 cd47 ct47 oc48 kV48 dc48 pm48 cd48 ct48 oc49 kV49 dc49 pm49 cd49 ct49 oc50 kV50 dc50 pm50 cd50 ct50 oc51 kV51 dc51 pm51 cd51 ct51 oc52 kV52 dc52 pm52 cd52 ct52 oc53 kV53 dc53 pm53 cd53 ct53 oc54 kV54 dc54 pm54 cd54 ct54 oc55 kV55 dc55 pm55 cd55 ct55 oc56 kV56 dc56 pm56 cd56 ct56 oc57 kV57 dc57 pm57 cd57 ct57 oc58 kV58 dc58 pm58 cd58 ct58 oc59 kV59 dc59 pm59 cd59 ct59 oc60 kV60 dc60 pm60 cd60 ct60 oc61 kV61 dc61 pm61 cd61 ct61 oc62 kV62 dc62 pm62 cd62 ct62 oc63 kV63 dc63 pm63 cd63 ct63 oc64 kV64 dc64 pm64 cd64 ct64 oc65 kV65 dc65 pm65 cd65 ct65 oc66 kV66 dc66 pm66 cd66 ct66 oc67 kV67 dc67 pm67 cd67 ct67 oc68 kV68 dc68 pm68 cd68 ct68:Value}
  {APlainLooks:Addr} (aC_PlainLooks:nsIn K mainGlobals "PlainLooks" = some (some (.ref APlainLooks))) (pg_PlainLooks:plainGet K APlainLooks Str.empty = true) (hd_PlainLooks:hasDictIn K APlainLooks = true) (po_PlainLooks:plainOver K APlainLooks = true) (sa_PlainLooks:findIn K (.ref APlainLooks) "__setattr__" = some (some (.builtin "object.__setattr__"))) (mk_PlainLooks:makesIn K APlainLooks = true) (kc_PlainLooks:keepIn K (.ref APlainLooks) = true) (nf_PlainLooks_house:findIn K (.ref APlainLooks) "house" = some none) (nf_PlainLooks_looker:findIn K (.ref APlainLooks) "looker" = some none) (nf_PlainLooks_outcomes:findIn K (.ref APlainLooks) "outcomes" = some none) (nf_PlainLooks_names:findIn K (.ref APlainLooks) "names" = some none)
  {AMaker:Addr} (aC_Maker:nsIn K mainGlobals "Maker" = some (some (.ref AMaker))) (pg_Maker:plainGet K AMaker Str.empty = true) (hd_Maker:hasDictIn K AMaker = true) (po_Maker:plainOver K AMaker = true) (sa_Maker:findIn K (.ref AMaker) "__setattr__" = some (some (.builtin "object.__setattr__"))) (mk_Maker:makesIn K AMaker = true) (kc_Maker:keepIn K (.ref AMaker) = true) (nf_Maker_house:findIn K (.ref AMaker) "house" = some none) (nf_Maker_outcomes:findIn K (.ref AMaker) "outcomes" = some none) (nf_Maker_waits:findIn K (.ref AMaker) "waits" = some none)
  {AHouse:Addr} (aC_House:nsIn K mainGlobals "House" = some (some (.ref AHouse))) (pg_House:plainGet K AHouse Str.empty = true) (hd_House:hasDictIn K AHouse = true) (po_House:plainOver K AHouse = true) (sa_House:findIn K (.ref AHouse) "__setattr__" = some (some (.builtin "object.__setattr__"))) (mk_House:makesIn K AHouse = true) (kc_House:keepIn K (.ref AHouse) = true) (nf_House_sources:findIn K (.ref AHouse) "sources" = some none) (nf_House_rules:findIn K (.ref AHouse) "rules" = some none) (nf_House_opened:findIn K (.ref AHouse) "opened" = some none) (nf_House_wishes:findIn K (.ref AHouse) "wishes" = some none)
  (a0:nI K "is_number" f0) (l0:lI K f0 "is_number" s_is_number oc0 od0 kV0 dc0 pm0 an0 cd0 ct0 sl0) (c0:cI K cd0 "is_number") (k0:kI K f0)
  (a1:nI K "is_sign" f1) (l1:lI K f1 "is_sign" s_is_sign oc1 od1 kV1 dc1 pm1 an1 cd1 ct1 sl1) (c1:cI K cd1 "is_sign") (k1:kI K f1)
  (a2:nI K "fits_alone" f2) (l2:lI K f2 "fits_alone" s_fits_alone oc2 od2 kV2 dc2 pm2 an2 cd2 ct2 sl2) (c2:cI K cd2 "fits_alone") (k2:kI K f2)
  (a3:nI K "size_alone" f3) (l3:lI K f3 "size_alone" sSizeA oc3 od3 kV3 dc3 pm3 an3 cd3 ct3 sl3) (c3:cI K cd3 "size_alone") (k3:kI K f3)
  (a4:nI K "is_worth" f4) (l4:lI K f4 "is_worth" s_is_worth oc4 od4 kV4 dc4 pm4 an4 cd4 ct4 sl4) (c4:cI K cd4 "is_worth") (k4:kI K f4)
  (a5:nI K "made" f5) (l5:lI K f5 "made" s_made oc5 od5 kV5 dc5 pm5 an5 cd5 ct5 sl5) (c5:cI K cd5 "made") (k5:kI K f5)
  (a6:nI K "summed" f6) (l6:lI K f6 "summed" s_summed oc6 od6 kV6 dc6 pm6 an6 cd6 ct6 sl6) (c6:cI K cd6 "summed") (k6:kI K f6)
  (a7:nI K "differing" f7) (l7:lI K f7 "differing" s_differing oc7 od7 kV7 dc7 pm7 an7 cd7 ct7 sl7) (c7:cI K cd7 "differing") (k7:kI K f7)
  (a8:nI K "multiplied" f8) (l8:lI K f8 "multiplied" s_multiplied oc8 od8 kV8 dc8 pm8 an8 cd8 ct8 sl8) (c8:cI K cd8 "multiplied") (k8:kI K f8)
  (a9:nI K "divided" f9) (l9:lI K f9 "divided" s_divided oc9 od9 kV9 dc9 pm9 an9 cd9 ct9 sl9) (c9:cI K cd9 "divided") (k9:kI K f9)
  (a10:nI K "lessened" f10) (l10:lI K f10 "lessened" s_lessened oc10 od10 kV10 dc10 pm10 an10 cd10 ct10 sl10) (c10:cI K cd10 "lessened") (k10:kI K f10)
  (a11:nI K "figured" f11) (l11:lI K f11 "figured" s_figured oc11 od11 kV11 dc11 pm11 an11 cd11 ct11 sl11) (c11:cI K cd11 "figured") (k11:kI K f11)
  (a12:nI K "compared" f12) (l12:lI K f12 "compared" s_compared oc12 od12 kV12 dc12 pm12 an12 cd12 ct12 sl12) (c12:cI K cd12 "compared") (k12:kI K f12)
  (a13:nI K "joined" f13) (l13:lI K f13 "joined" s_joined oc13 od13 kV13 dc13 pm13 an13 cd13 ct13 sl13) (c13:cI K cd13 "joined") (k13:kI K f13)
  (a14:nI K "listed" f14) (l14:lI K f14 "listed" s_listed oc14 od14 kV14 dc14 pm14 an14 cd14 ct14 sl14) (c14:cI K cd14 "listed") (k14:kI K f14)
  (a15:nI K "item_at" f15) (l15:lI K f15 "item_at" s_item_at oc15 od15 kV15 dc15 pm15 an15 cd15 ct15 sl15) (c15:cI K cd15 "item_at") (k15:kI K f15)
  (a16:nI K "counted" f16) (l16:lI K f16 "counted" s_counted oc16 od16 kV16 dc16 pm16 an16 cd16 ct16 sl16) (c16:cI K cd16 "counted") (k16:kI K f16)
  (a17:nI K "reckoned" f17) (l17:lI K f17 "reckoned" s_reckoned oc17 od17 kV17 dc17 pm17 an17 cd17 ct17 sl17) (c17:cI K cd17 "reckoned") (k17:kI K f17)
  (a18:nI K "is_variable" f18) (l18:lI K f18 "is_variable" s_is_variable oc18 od18 kV18 dc18 pm18 an18 cd18 ct18 sl18) (c18:cI K cd18 "is_variable") (k18:kI K f18)
  (a19:nI K "has_parts" f19) (l19:lI K f19 "has_parts" s_has_parts oc19 od19 kV19 dc19 pm19 an19 cd19 ct19 sl19) (c19:cI K cd19 "has_parts") (k19:kI K f19)
  (a20:nI K "binding_count" f20) (l20:lI K f20 "binding_count" s_binding_count oc20 od20 kV20 dc20 pm20 an20 cd20 ct20 sl20) (c20:cI K cd20 "binding_count") (k20:kI K f20)
  (a21:nI K "variables_of" f21) (l21:lI K f21 "variables_of" s_variables_of oc21 od21 kV21 dc21 pm21 an21 cd21 ct21 sl21) (c21:cI K cd21 "variables_of") (k21:kI K f21)
  (a22:nI K "parts_of" f22) (l22:lI K f22 "parts_of" s_parts_of oc22 od22 kV22 dc22 pm22 an22 cd22 ct22 sl22) (c22:cI K cd22 "parts_of") (k22:kI K f22)
  (a23:nI K "are_good_variables" f23) (l23:lI K f23 "are_good_variables" s_are_good_variables oc23 od23 kV23 dc23 pm23 an23 cd23 ct23 sl23) (c23:cI K cd23 "are_good_variables") (k23:kI K f23)
  (a24:nI K "has_form" f24) (l24:lI K f24 "has_form" s_has_form oc24 od24 kV24 dc24 pm24 an24 cd24 ct24 sl24) (c24:cI K cd24 "has_form") (k24:kI K f24)
  (a25:nI K "is_formed" f25) (l25:lI K f25 "is_formed" s_is_formed oc25 od25 kV25 dc25 pm25 an25 cd25 ct25 sl25) (c25:cI K cd25 "is_formed") (k25:kI K f25)
  (a26:nI K "unbound" f26) (l26:lI K f26 "unbound" s_unbound oc26 od26 kV26 dc26 pm26 an26 cd26 ct26 sl26) (c26:cI K cd26 "unbound") (k26:kI K f26)
  (a27:nI K "free_in" f27) (l27:lI K f27 "free_in" s_free_in oc27 od27 kV27 dc27 pm27 an27 cd27 ct27 sl27) (c27:cI K cd27 "free_in") (k27:kI K f27)
  (a28:nI K "repeated" f28) (l28:lI K f28 "repeated" s_repeated oc28 od28 kV28 dc28 pm28 an28 cd28 ct28 sl28) (c28:cI K cd28 "repeated") (k28:kI K f28)
  (a29:nI K "is_rule" f29) (l29:lI K f29 "is_rule" s_is_rule oc29 od29 kV29 dc29 pm29 an29 cd29 ct29 sl29) (c29:cI K cd29 "is_rule") (k29:kI K f29)
  (a30:nI K "is_made" f30) (l30:lI K f30 "is_made" s_is_made oc30 od30 kV30 dc30 pm30 an30 cd30 ct30 sl30) (c30:cI K cd30 "is_made") (k30:kI K f30)
  (a31:nI K "worth_of" f31) (l31:lI K f31 "worth_of" s_worth_of oc31 od31 kV31 dc31 pm31 an31 cd31 ct31 sl31) (c31:cI K cd31 "worth_of") (k31:kI K f31)
  (a32:nI K "as_last" f32) (l32:lI K f32 "as_last" s_as_last oc32 od32 kV32 dc32 pm32 an32 cd32 ct32 sl32) (c32:cI K cd32 "as_last") (k32:kI K f32)
  (a33:nI K "go_lit" f33) (l33:lI K f33 "go_lit" s_go_lit oc33 od33 kV33 dc33 pm33 an33 cd33 ct33 sl33) (c33:cI K cd33 "go_lit") (k33:kI K f33)
  (a34:nI K "go_var" f34) (l34:lI K f34 "go_var" s_go_var oc34 od34 kV34 dc34 pm34 an34 cd34 ct34 sl34) (c34:cI K cd34 "go_var") (k34:kI K f34)
  (a35:nI K "go_let" f35) (l35:lI K f35 "go_let" s_go_let oc35 od35 kV35 dc35 pm35 an35 cd35 ct35 sl35) (c35:cI K cd35 "go_let") (k35:kI K f35)
  (a36:nI K "go_if" f36) (l36:lI K f36 "go_if" s_go_if oc36 od36 kV36 dc36 pm36 an36 cd36 ct36 sl36) (c36:cI K cd36 "go_if") (k36:kI K f36)
  (a37:nI K "go_each" f37) (l37:lI K f37 "go_each" s_go_each oc37 od37 kV37 dc37 pm37 an37 cd37 ct37 sl37) (c37:cI K cd37 "go_each") (k37:kI K f37)
  (a38:nI K "go_over" f38) (l38:lI K f38 "go_over" s_go_over oc38 od38 kV38 dc38 pm38 an38 cd38 ct38 sl38) (c38:cI K cd38 "go_over") (k38:kI K f38)
  (a39:nI K "go_look" f39) (l39:lI K f39 "go_look" s_go_look oc39 od39 kV39 dc39 pm39 an39 cd39 ct39 sl39) (c39:cI K cd39 "go_look") (k39:kI K f39)
  (a40:nI K "go_else" f40) (l40:lI K f40 "go_else" s_go_else oc40 od40 kV40 dc40 pm40 an40 cd40 ct40 sl40) (c40:cI K cd40 "go_else") (k40:kI K f40)
  (a41:nI K "go_cry" f41) (l41:lI K f41 "go_cry" s_go_cry oc41 od41 kV41 dc41 pm41 an41 cd41 ct41 sl41) (c41:cI K cd41 "go_cry") (k41:kI K f41)
  (a42:nI K "go_through" f42) (l42:lI K f42 "go_through" s_go_through oc42 od42 kV42 dc42 pm42 an42 cd42 ct42 sl42) (c42:cI K cd42 "go_through") (k42:kI K f42)
  (a43:nI K "go_reckoned" f43) (l43:lI K f43 "go_reckoned" s_go_reckoned oc43 od43 kV43 dc43 pm43 an43 cd43 ct43 sl43) (c43:cI K cd43 "go_reckoned") (k43:kI K f43)
  (a44:nI K "record_of" f44) (l44:lI K f44 "record_of" s_record_of oc44 od44 kV44 dc44 pm44 an44 cd44 ct44 sl44) (c44:cI K cd44 "record_of") (k44:kI K f44)
  (a45:findIn K (.ref APlainLooks) "__init__" = some (some (.ref f45))) (q45:isFn K (.ref f45) = true) (l45:K.lookup f45 = some ⟨oc45,od45,.func (fnOf "__init__" "PlainLooks.__init__" (defArgs s_PlainLooks___init__) (defBody s_PlainLooks___init__) (defScope s_PlainLooks___init__) .none kV45 dc45 pm45 an45 cd45 ct45),sl45⟩) (c45:codeIn K cd45 "PlainLooks.__init__" = true) (k45:keepIn K (.ref f45) = true)
  (a46:findIn K (.ref APlainLooks) "look" = some (some (.ref f46))) (q46:isFn K (.ref f46) = true) (l46:K.lookup f46 = some ⟨oc46,od46,.func (fnOf "look" "PlainLooks.look" (defArgs s_PlainLooks_look) (defBody s_PlainLooks_look) (defScope s_PlainLooks_look) .none kV46 dc46 pm46 an46 cd46 ct46),sl46⟩) (c46:codeIn K cd46 "PlainLooks.look" = true) (k46:keepIn K (.ref f46) = true)
  (a47:findIn K (.ref AMaker) "__init__" = some (some (.ref f47))) (q47:isFn K (.ref f47) = true) (l47:K.lookup f47 = some ⟨oc47,od47,.func (fnOf "__init__" "Maker.__init__" (defArgs s_Maker___init__) (defBody s_Maker___init__) (defScope s_Maker___init__) .none kV47 dc47 pm47 an47 cd47 ct47),sl47⟩) (c47:codeIn K cd47 "Maker.__init__" = true) (k47:keepIn K (.ref f47) = true)
  (a48:findIn K (.ref AMaker) "come_to" = some (some (.ref f48))) (q48:isFn K (.ref f48) = true) (l48:K.lookup f48 = some ⟨oc48,od48,.func (fnOf "come_to" "Maker.come_to" (defArgs s_Maker_come_to) (defBody s_Maker_come_to) (defScope s_Maker_come_to) .none kV48 dc48 pm48 an48 cd48 ct48),sl48⟩) (c48:codeIn K cd48 "Maker.come_to" = true) (k48:keepIn K (.ref f48) = true)
  (a49:findIn K (.ref AMaker) "able" = some (some (.ref f49))) (q49:isFn K (.ref f49) = true) (l49:K.lookup f49 = some ⟨oc49,od49,.func (fnOf "able" "Maker.able" (defArgs s_Maker_able) (defBody s_Maker_able) (defScope s_Maker_able) .none kV49 dc49 pm49 an49 cd49 ct49),sl49⟩) (c49:codeIn K cd49 "Maker.able" = true) (k49:keepIn K (.ref f49) = true)
  (a50:findIn K (.ref AMaker) "try_rule" = some (some (.ref f50))) (q50:isFn K (.ref f50) = true) (l50:K.lookup f50 = some ⟨oc50,od50,.func (fnOf "try_rule" "Maker.try_rule" (defArgs s_Maker_try_rule) (defBody s_Maker_try_rule) (defScope s_Maker_try_rule) .none kV50 dc50 pm50 an50 cd50 ct50),sl50⟩) (c50:codeIn K cd50 "Maker.try_rule" = true) (k50:keepIn K (.ref f50) = true)
  (a51:nI K "plain" f51) (l51:lI K f51 "plain" s_plain oc51 od51 kV51 dc51 pm51 an51 cd51 ct51 sl51) (c51:cI K cd51 "plain") (k51:kI K f51)
  (a52:nI K "is_word" f52) (l52:lI K f52 "is_word" s_is_word oc52 od52 kV52 dc52 pm52 an52 cd52 ct52 sl52) (c52:cI K cd52 "is_word") (k52:kI K f52)
  (a53:nI K "is_name" f53) (l53:lI K f53 "is_name" s_is_name oc53 od53 kV53 dc53 pm53 an53 cd53 ct53 sl53) (c53:cI K cd53 "is_name") (k53:kI K f53)
  (a54:nI K "room_of" f54) (l54:lI K f54 "room_of" s_room_of oc54 od54 kV54 dc54 pm54 an54 cd54 ct54 sl54) (c54:cI K cd54 "room_of") (k54:kI K f54)
  (a55:nI K "ask_for_name" f55) (l55:lI K f55 "ask_for_name" s_ask_for_name oc55 od55 kV55 dc55 pm55 an55 cd55 ct55 sl55) (c55:cI K cd55 "ask_for_name") (k55:kI K f55)
  (a56:findIn K (.ref AHouse) "__init__" = some (some (.ref f56))) (q56:isFn K (.ref f56) = true) (l56:K.lookup f56 = some ⟨oc56,od56,.func (fnOf "__init__" "House.__init__" (defArgs s_House___init__) (defBody s_House___init__) (defScope s_House___init__) .none kV56 dc56 pm56 an56 cd56 ct56),sl56⟩) (c56:codeIn K cd56 "House.__init__" = true) (k56:keepIn K (.ref f56) = true)
  (a57:findIn K (.ref AHouse) "put" = some (some (.ref f57))) (q57:isFn K (.ref f57) = true) (l57:K.lookup f57 = some ⟨oc57,od57,.func (fnOf "put" "House.put" (defArgs s_House_put) (defBody s_House_put) (defScope s_House_put) .none kV57 dc57 pm57 an57 cd57 ct57),sl57⟩) (c57:codeIn K cd57 "House.put" = true) (k57:keepIn K (.ref f57) = true)
  (a58:findIn K (.ref AHouse) "put_rule" = some (some (.ref f58))) (q58:isFn K (.ref f58) = true) (l58:K.lookup f58 = some ⟨oc58,od58,.func (fnOf "put_rule" "House.put_rule" (defArgs s_House_put_rule) (defBody s_House_put_rule) (defScope s_House_put_rule) .none kV58 dc58 pm58 an58 cd58 ct58),sl58⟩) (c58:codeIn K cd58 "House.put_rule" = true) (k58:keepIn K (.ref f58) = true)
  (a59:findIn K (.ref AHouse) "wish" = some (some (.ref f59))) (q59:isFn K (.ref f59) = true) (l59:K.lookup f59 = some ⟨oc59,od59,.func (fnOf "wish" "House.wish" (defArgs s_House_wish) (defBody s_House_wish) (defScope s_House_wish) .none kV59 dc59 pm59 an59 cd59 ct59),sl59⟩) (c59:codeIn K cd59 "House.wish" = true) (k59:keepIn K (.ref f59) = true)
  (a60:findIn K (.ref AHouse) "may" = some (some (.ref f60))) (q60:isFn K (.ref f60) = true) (l60:K.lookup f60 = some ⟨oc60,od60,.func (fnOf "may" "House.may" (defArgs s_House_may) (defBody s_House_may) (defScope s_House_may) .none kV60 dc60 pm60 an60 cd60 ct60),sl60⟩) (c60:codeIn K cd60 "House.may" = true) (k60:keepIn K (.ref f60) = true)
  (a61:findIn K (.ref AHouse) "found" = some (some (.ref f61))) (q61:isFn K (.ref f61) = true) (l61:K.lookup f61 = some ⟨oc61,od61,.func (fnOf "found" "House.found" (defArgs s_House_found) (defBody s_House_found) (defScope s_House_found) .none kV61 dc61 pm61 an61 cd61 ct61),sl61⟩) (c61:codeIn K cd61 "House.found" = true) (k61:keepIn K (.ref f61) = true)
  (a62:nI K "_law_cell" f62) (l62:lI K f62 "_law_cell" sCell oc62 od62 kV62 dc62 pm62 an62 cd62 ct62 sl62) (c62:cI K cd62 "_law_cell") (k62:kI K f62)
  (a63:nI K "_law_box" f63) (l63:lI K f63 "_law_box" sBox oc63 od63 kV63 dc63 pm63 an63 cd63 ct63 sl63) (c63:cI K cd63 "_law_box") (k63:kI K f63)
  (a64:nI K "_law_take" f64) (l64:lI K f64 "_law_take" sTake oc64 od64 kV64 dc64 pm64 an64 cd64 ct64 sl64) (c64:cI K cd64 "_law_take") (k64:kI K f64)
  (a65:nI K "_law_text" f65) (l65:lI K f65 "_law_text" sText oc65 od65 kV65 dc65 pm65 an65 cd65 ct65 sl65) (c65:cI K cd65 "_law_text") (k65:kI K f65)
  (a66:nI K "_law_named" f66) (l66:lI K f66 "_law_named" s_lnamed oc66 od66 kV66 dc66 pm66 an66 cd66 ct66 sl66) (c66:cI K cd66 "_law_named") (k66:kI K f66)
  (a67:nI K "_law_due" f67) (l67:lI K f67 "_law_due" s_ldue oc67 od67 kV67 dc67 pm67 an67 cd67 ct67 sl67) (c67:cI K cd67 "_law_due") (k67:kI K f67)
  (a68:nI K "law" f68) (l68:lI K f68 "law" sLaw oc68 od68 kV68 dc68 pm68 an68 cd68 ct68 sl68) (c68:cI K cd68 "law") (k68:kI K f68)
  (z0:nsIn K mainGlobals "isinstance" = some none)
  (z1:nsIn K mainGlobals "int" = some none)
  (z2:nsIn K mainGlobals "bool" = some none)
  (z3:nsIn K mainGlobals "ord" = some none)
  (z4:nsIn K mainGlobals "str" = some none)
  (z5:nsIn K mainGlobals "tuple" = some none)
  (z6:nsIn K mainGlobals "len" = some none)
  (z7:nsIn K mainGlobals "all" = some none)
  (z8:nsIn K mainGlobals "abs" = some none)
  (z9:nsIn K mainGlobals "list" = some none)
  (z10:nsIn K mainGlobals "enumerate" = some none)
  (z11:nsIn K mainGlobals "set" = some none)
  (z12:nsIn K mainGlobals "sorted" = some none)
  (z13:nsIn K mainGlobals "max" = some none)
  (z14:nsIn K mainGlobals "range" = some none)
  (z15:nsIn K mainGlobals "reversed" = some none)
  (z16:nsIn K mainGlobals "dict" = some none)
  (z17:nsIn K mainGlobals "min" = some none)
  {t0:Tok} (i0:nsIn K mainGlobals "PERCENT" = some (some (.int 37 t0)))
  {t1:Tok} (i1:nsIn K mainGlobals "MOST_SIGNS_worths" = some (some (.int 400 t1)))
  {t2:Tok} (i2:nsIn K mainGlobals "MOST_ITEMS" = some (some (.int 60 t2)))
  {t3:Tok} (i3:nsIn K mainGlobals "MOST_DEPTH" = some (some (.int 12 t3)))
  {t4:Tok} (i4:nsIn K mainGlobals "MOST_SIZE" = some (some (.int 1000 t4)))
  {t5:Tok} (i5:nsIn K mainGlobals "MOST_LETTERS" = some (some (.int 8 t5)))
  {t6:Tok} (i6:nsIn K mainGlobals "MOST_LISTED" = some (some (.int 8 t6)))
  {t7:Tok} (i7:nsIn K mainGlobals "MOST_MANY" = some (some (.int 60 t7)))
  {t8:Tok} (i8:nsIn K mainGlobals "MOST_NESTING" = some (some (.int 12 t8)))
  {t9:Tok} (i9:nsIn K mainGlobals "MOST_REPEATED" = some (some (.int 2 t9)))
  {t10:Tok} (i10:nsIn K mainGlobals "MOST_SIGNS_names" = some (some (.int 12 t10)))
  {v0:Tok} (s0:nsIn K mainGlobals "LETTERS" = some (some (.str "abcdefghijklmnopqrstuvwxyz" v0)))
  {v1:Tok} (s1:nsIn K mainGlobals "SIGNS" = some (some (.str "abcdefghijklmnopqrstuvwxyz0123456789" v1)))
  {g0:Addr}{gd0:Option Addr}{gn0:Nat}{gs0:Array (Option Value)}{u0_0 u0_1 u0_2:Tok} (y0:nsIn K mainGlobals "GREAT" = some (some (.ref g0))) (x0:K.lookup g0 = some ⟨.type "tuple",gd0,.seq #[.str "wrong" u0_0,.str "great" u0_1,.str "" u0_2] gn0,gs0⟩)
  {g1:Addr}{gd1:Option Addr}{gn1:Nat}{gs1:Array (Option Value)}{u1_0 u1_1 u1_2:Tok} (y1:nsIn K mainGlobals "KIND" = some (some (.ref g1))) (x1:K.lookup g1 = some ⟨.type "tuple",gd1,.seq #[.str "wrong" u1_0,.str "kind" u1_1,.str "" u1_2] gn1,gs1⟩)
  {g2:Addr}{gd2:Option Addr}{gn2:Nat}{gs2:Array (Option Value)}{u2_0 u2_1:Tok} (y2:nsIn K mainGlobals "REPEATING" = some (some (.ref g2))) (x2:K.lookup g2 = some ⟨.type "tuple",gd2,.seq #[.str "each" u2_0,.str "over" u2_1] gn2,gs2⟩)
  {dg0:Addr}{dn0:Nat}{du0_0 dv0_0 du0_1 dv0_1 du0_2 dv0_2:Tok} (dy0:nsIn K mainGlobals "BINDING" = some (some (.ref dg0))) (dx0:K.lookup dg0 = some ⟨.type "dict",none,.dict #[⟨hashStr w "let",.str "let" du0_0,.int 1 dv0_0⟩,⟨hashStr w "each",.str "each" du0_1,.int 1 dv0_1⟩,⟨hashStr w "over",.str "over" du0_2,.int 2 dv0_2⟩] dn0,#[]⟩) (dz0:(dg0 == sysModules) = false)
  {dg1:Addr}{dn1:Nat}{du1_0 dv1_0 du1_1 dv1_1 du1_2 dv1_2 du1_3 dv1_3 du1_4 dv1_4 du1_5 dv1_5 du1_6 dv1_6 du1_7 dv1_7 du1_8 dv1_8 du1_9 dv1_9 du1_10 dv1_10 du1_11 dv1_11 du1_12 dv1_12 du1_13 dv1_13 du1_14 dv1_14 du1_15 dv1_15 du1_16 dv1_16:Tok} (dy1:nsIn K mainGlobals "PARTS" = some (some (.ref dg1))) (dx1:K.lookup dg1 = some ⟨.type "dict",none,.dict #[⟨hashStr w "let",.str "let" du1_0,.int 2 dv1_0⟩,⟨hashStr w "if",.str "if" du1_1,.int 3 dv1_1⟩,⟨hashStr w "+",.str "+" du1_2,.int 2 dv1_2⟩,⟨hashStr w "-",.str "-" du1_3,.int 2 dv1_3⟩,⟨hashStr w "*",.str "*" du1_4,.int 2 dv1_4⟩,⟨hashStr w "/",.str "/" du1_5,.int 2 dv1_5⟩,⟨hashStr w "same",.str "same" du1_6,.int 2 dv1_6⟩,⟨hashStr w "less",.str "less" du1_7,.int 2 dv1_7⟩,⟨hashStr w "join",.str "join" du1_8,.int 2 dv1_8⟩,⟨hashStr w "item",.str "item" du1_9,.int 2 dv1_9⟩,⟨hashStr w "count",.str "count" du1_10,.int 1 dv1_10⟩,⟨hashStr w "figures",.str "figures" du1_11,.int 1 dv1_11⟩,⟨hashStr w "each",.str "each" du1_12,.int 2 dv1_12⟩,⟨hashStr w "over",.str "over" du1_13,.int 3 dv1_13⟩,⟨hashStr w "look",.str "look" du1_14,.int 1 dv1_14⟩,⟨hashStr w "else",.str "else" du1_15,.int 2 dv1_15⟩,⟨hashStr w "cry",.str "cry" du1_16,.int 1 dv1_16⟩] dn1,#[]⟩) (dz1:(dg1 == sysModules) = false)
  {dg2:Addr}{dn2:Nat}{du2_0 du2_1 du2_2 du2_3 du2_4 du2_5:Tok} (dy2:nsIn K mainGlobals "NUMBER_DEEDS" = some (some (.ref dg2))) (dx2:K.lookup dg2 = some ⟨.type "dict",none,.dict #[⟨hashStr w "+",.str "+" du2_0,.ref f6⟩,⟨hashStr w "-",.str "-" du2_1,.ref f7⟩,⟨hashStr w "*",.str "*" du2_2,.ref f8⟩,⟨hashStr w "/",.str "/" du2_3,.ref f9⟩,⟨hashStr w "less",.str "less" du2_4,.ref f10⟩,⟨hashStr w "figures",.str "figures" du2_5,.ref f11⟩] dn2,#[]⟩) (dz2:(dg2 == sysModules) = false)
  {dg3:Addr}{dn3:Nat}{du3_0 du3_1 du3_2 du3_3 du3_4:Tok} (dy3:nsIn K mainGlobals "OTHER_DEEDS" = some (some (.ref dg3))) (dx3:K.lookup dg3 = some ⟨.type "dict",none,.dict #[⟨hashStr w "same",.str "same" du3_0,.ref f12⟩,⟨hashStr w "join",.str "join" du3_1,.ref f13⟩,⟨hashStr w "list",.str "list" du3_2,.ref f14⟩,⟨hashStr w "item",.str "item" du3_3,.ref f15⟩,⟨hashStr w "count",.str "count" du3_4,.ref f16⟩] dn3,#[]⟩) (dz3:(dg3 == sysModules) = false)
  {dg4:Addr}{dn4:Nat}{du4_0 du4_1 du4_2 du4_3 du4_4 du4_5 du4_6 du4_7 du4_8:Tok} (dy4:nsIn K mainGlobals "GOING" = some (some (.ref dg4))) (dx4:K.lookup dg4 = some ⟨.type "dict",none,.dict #[⟨hashStr w "lit",.str "lit" du4_0,.ref f33⟩,⟨hashStr w "var",.str "var" du4_1,.ref f34⟩,⟨hashStr w "let",.str "let" du4_2,.ref f35⟩,⟨hashStr w "if",.str "if" du4_3,.ref f36⟩,⟨hashStr w "each",.str "each" du4_4,.ref f37⟩,⟨hashStr w "over",.str "over" du4_5,.ref f38⟩,⟨hashStr w "look",.str "look" du4_6,.ref f39⟩,⟨hashStr w "else",.str "else" du4_7,.ref f40⟩,⟨hashStr w "cry",.str "cry" du4_8,.ref f41⟩] dn4,#[]⟩) (dz4:(dg4 == sysModules) = false)
  : ∃ fd:FuncData,(∀ (s:Shared) (v:Value),BindsTo s fd ⟨[v],[]⟩ [("_law_script",v)])/\∀ base:Heap,K.In base->base.Ns mainGlobals mg->FnOk l.prog w K mg base CX0 100 fa fd ["_law_script"] (spLaw K):=by
 have e:=hfa.symm.trans (mg_of X G a68)
 cases e
 have F0:=fun_mk (st:=s_is_number) l0 c0 k0
 have b0:=F0.binds (ps:=["thing"]) fun _ _ _ _ _ _ us hl=>by obtain ⟨_,rfl⟩:=us_1 hl; rfl
 have n0:=mg_of X G a0
 have F1:=fun_mk (st:=s_is_sign) l1 c1 k1
 have b1:=F1.binds (ps:=["sign"]) fun _ _ _ _ _ _ us hl=>by obtain ⟨_,rfl⟩:=us_1 hl; rfl
 have n1:=mg_of X G a1
 have F2:=fun_mk (st:=s_fits_alone) l2 c2 k2
 have b2:=F2.binds (ps:=["thing","levels"]) fun _ _ _ _ _ _ us hl=>by obtain ⟨_,_,rfl⟩:=us_2 hl; rfl
 have n2:=mg_of X G a2
 have F3:=fun_mk (st:=sSizeA) l3 c3 k3
 have b3:=F3.binds (ps:=["worth"]) fun _ _ _ _ _ _ us hl=>by obtain ⟨_,rfl⟩:=us_1 hl; rfl
 have n3:=mg_of X G a3
 have F4:=fun_mk (st:=s_is_worth) l4 c4 k4
 have b4:=F4.binds (ps:=["thing"]) fun _ _ _ _ _ _ us hl=>by obtain ⟨_,rfl⟩:=us_1 hl; rfl
 have n4:=mg_of X G a4
 have F5:=fun_mk (st:=s_made) l5 c5 k5
 have b5:=F5.binds (ps:=["thing"]) fun _ _ _ _ _ _ us hl=>by obtain ⟨_,rfl⟩:=us_1 hl; rfl
 have n5:=mg_of X G a5
 have F6:=fun_mk (st:=s_summed) l6 c6 k6
 have b6:=F6.binds (ps:=["worths"]) fun _ _ _ _ _ _ us hl=>by obtain ⟨_,rfl⟩:=us_1 hl; rfl
 have n6:=mg_of X G a6
 have F7:=fun_mk (st:=s_differing) l7 c7 k7
 have b7:=F7.binds (ps:=["worths"]) fun _ _ _ _ _ _ us hl=>by obtain ⟨_,rfl⟩:=us_1 hl; rfl
 have n7:=mg_of X G a7
 have F8:=fun_mk (st:=s_multiplied) l8 c8 k8
 have b8:=F8.binds (ps:=["worths"]) fun _ _ _ _ _ _ us hl=>by obtain ⟨_,rfl⟩:=us_1 hl; rfl
 have n8:=mg_of X G a8
 have F9:=fun_mk (st:=s_divided) l9 c9 k9
 have b9:=F9.binds (ps:=["worths"]) fun _ _ _ _ _ _ us hl=>by obtain ⟨_,rfl⟩:=us_1 hl; rfl
 have n9:=mg_of X G a9
 have F10:=fun_mk (st:=s_lessened) l10 c10 k10
 have b10:=F10.binds (ps:=["worths"]) fun _ _ _ _ _ _ us hl=>by obtain ⟨_,rfl⟩:=us_1 hl; rfl
 have n10:=mg_of X G a10
 have F11:=fun_mk (st:=s_figured) l11 c11 k11
 have b11:=F11.binds (ps:=["worths"]) fun _ _ _ _ _ _ us hl=>by obtain ⟨_,rfl⟩:=us_1 hl; rfl
 have n11:=mg_of X G a11
 have F12:=fun_mk (st:=s_compared) l12 c12 k12
 have b12:=F12.binds (ps:=["worths"]) fun _ _ _ _ _ _ us hl=>by obtain ⟨_,rfl⟩:=us_1 hl; rfl
 have n12:=mg_of X G a12
 have F13:=fun_mk (st:=s_joined) l13 c13 k13
 have b13:=F13.binds (ps:=["worths"]) fun _ _ _ _ _ _ us hl=>by obtain ⟨_,rfl⟩:=us_1 hl; rfl
 have n13:=mg_of X G a13
 have F14:=fun_mk (st:=s_listed) l14 c14 k14
 have b14:=F14.binds (ps:=["worths"]) fun _ _ _ _ _ _ us hl=>by obtain ⟨_,rfl⟩:=us_1 hl; rfl
 have n14:=mg_of X G a14
 have F15:=fun_mk (st:=s_item_at) l15 c15 k15
 have b15:=F15.binds (ps:=["worths"]) fun _ _ _ _ _ _ us hl=>by obtain ⟨_,rfl⟩:=us_1 hl; rfl
 have n15:=mg_of X G a15
 have F16:=fun_mk (st:=s_counted) l16 c16 k16
 have b16:=F16.binds (ps:=["worths"]) fun _ _ _ _ _ _ us hl=>by obtain ⟨_,rfl⟩:=us_1 hl; rfl
 have n16:=mg_of X G a16
 have F17:=fun_mk (st:=s_reckoned) l17 c17 k17
 have b17:=F17.binds (ps:=["word","worths"]) fun _ _ _ _ _ _ us hl=>by obtain ⟨_,_,rfl⟩:=us_2 hl; rfl
 have n17:=mg_of X G a17
 have F18:=fun_mk (st:=s_is_variable) l18 c18 k18
 have b18:=F18.binds (ps:=["thing"]) fun _ _ _ _ _ _ us hl=>by obtain ⟨_,rfl⟩:=us_1 hl; rfl
 have n18:=mg_of X G a18
 have F19:=fun_mk (st:=s_has_parts) l19 c19 k19
 have b19:=F19.binds (ps:=["word"]) fun _ _ _ _ _ _ us hl=>by obtain ⟨_,rfl⟩:=us_1 hl; rfl
 have n19:=mg_of X G a19
 have F20:=fun_mk (st:=s_binding_count) l20 c20 k20
 have b20:=F20.binds (ps:=["word"]) fun _ _ _ _ _ _ us hl=>by obtain ⟨_,rfl⟩:=us_1 hl; rfl
 have n20:=mg_of X G a20
 have F21:=fun_mk (st:=s_variables_of) l21 c21 k21
 have b21:=F21.binds (ps:=["expression"]) fun _ _ _ _ _ _ us hl=>by obtain ⟨_,rfl⟩:=us_1 hl; rfl
 have n21:=mg_of X G a21
 have F22:=fun_mk (st:=s_parts_of) l22 c22 k22
 have b22:=F22.binds (ps:=["expression"]) fun _ _ _ _ _ _ us hl=>by obtain ⟨_,rfl⟩:=us_1 hl; rfl
 have n22:=mg_of X G a22
 have F23:=fun_mk (st:=s_are_good_variables) l23 c23 k23
 have b23:=F23.binds (ps:=["names"]) fun _ _ _ _ _ _ us hl=>by obtain ⟨_,rfl⟩:=us_1 hl; rfl
 have n23:=mg_of X G a23
 have F24:=fun_mk (st:=s_has_form) l24 c24 k24
 have b24:=F24.binds (ps:=["thing"]) fun _ _ _ _ _ _ us hl=>by obtain ⟨_,rfl⟩:=us_1 hl; rfl
 have n24:=mg_of X G a24
 have F25:=fun_mk (st:=s_is_formed) l25 c25 k25
 have b25:=F25.binds (ps:=["thing"]) fun _ _ _ _ _ _ us hl=>by obtain ⟨_,rfl⟩:=us_1 hl; rfl
 have n25:=mg_of X G a25
 have F26:=fun_mk (st:=s_unbound) l26 c26 k26
 have b26:=F26.binds (ps:=["expression","bound"]) fun _ _ _ _ _ _ us hl=>by obtain ⟨_,_,rfl⟩:=us_2 hl; rfl
 have n26:=mg_of X G a26
 have F27:=fun_mk (st:=s_free_in) l27 c27 k27
 have b27:=F27.binds (ps:=["expression"]) fun _ _ _ _ _ _ us hl=>by obtain ⟨_,rfl⟩:=us_1 hl; rfl
 have n27:=mg_of X G a27
 have F28:=fun_mk (st:=s_repeated) l28 c28 k28
 have b28:=F28.binds (ps:=["expression"]) fun _ _ _ _ _ _ us hl=>by obtain ⟨_,rfl⟩:=us_1 hl; rfl
 have n28:=mg_of X G a28
 have F29:=fun_mk (st:=s_is_rule) l29 c29 k29
 have b29:=F29.binds (ps:=["thing"]) fun _ _ _ _ _ _ us hl=>by obtain ⟨_,rfl⟩:=us_1 hl; rfl
 have n29:=mg_of X G a29
 have F30:=fun_mk (st:=s_is_made) l30 c30 k30
 have b30:=F30.binds (ps:=["record"]) fun _ _ _ _ _ _ us hl=>by obtain ⟨_,rfl⟩:=us_1 hl; rfl
 have n30:=mg_of X G a30
 have F31:=fun_mk (st:=s_worth_of) l31 c31 k31
 have b31:=F31.binds (ps:=["record"]) fun _ _ _ _ _ _ us hl=>by obtain ⟨_,rfl⟩:=us_1 hl; rfl
 have n31:=mg_of X G a31
 have F32:=fun_mk (st:=s_as_last) l32 c32 k32
 have b32:=F32.binds (ps:=["records"]) fun _ _ _ _ _ _ us hl=>by obtain ⟨_,rfl⟩:=us_1 hl; rfl
 have n32:=mg_of X G a32
 have F33:=fun_mk (st:=s_go_lit) l33 c33 k33
 have b33:=F33.binds (ps:=["run","expression","bound"]) fun _ _ _ _ _ _ us hl=>by obtain ⟨_,_,_,rfl⟩:=us_3 hl; rfl
 have n33:=mg_of X G a33
 have F34:=fun_mk (st:=s_go_var) l34 c34 k34
 have b34:=F34.binds (ps:=["run","expression","bound"]) fun _ _ _ _ _ _ us hl=>by obtain ⟨_,_,_,rfl⟩:=us_3 hl; rfl
 have n34:=mg_of X G a34
 have F35:=fun_mk (st:=s_go_let) l35 c35 k35
 have b35:=F35.binds (ps:=["run","expression","bound"]) fun _ _ _ _ _ _ us hl=>by obtain ⟨_,_,_,rfl⟩:=us_3 hl; rfl
 have n35:=mg_of X G a35
 have F36:=fun_mk (st:=s_go_if) l36 c36 k36
 have b36:=F36.binds (ps:=["run","expression","bound"]) fun _ _ _ _ _ _ us hl=>by obtain ⟨_,_,_,rfl⟩:=us_3 hl; rfl
 have n36:=mg_of X G a36
 have F37:=fun_mk (st:=s_go_each) l37 c37 k37
 have b37:=F37.binds (ps:=["run","expression","bound"]) fun _ _ _ _ _ _ us hl=>by obtain ⟨_,_,_,rfl⟩:=us_3 hl; rfl
 have n37:=mg_of X G a37
 have F38:=fun_mk (st:=s_go_over) l38 c38 k38
 have b38:=F38.binds (ps:=["run","expression","bound"]) fun _ _ _ _ _ _ us hl=>by obtain ⟨_,_,_,rfl⟩:=us_3 hl; rfl
 have n38:=mg_of X G a38
 have F39:=fun_mk (st:=s_go_look) l39 c39 k39
 have b39:=F39.binds (ps:=["run","expression","bound"]) fun _ _ _ _ _ _ us hl=>by obtain ⟨_,_,_,rfl⟩:=us_3 hl; rfl
 have n39:=mg_of X G a39
 have F40:=fun_mk (st:=s_go_else) l40 c40 k40
 have b40:=F40.binds (ps:=["run","expression","bound"]) fun _ _ _ _ _ _ us hl=>by obtain ⟨_,_,_,rfl⟩:=us_3 hl; rfl
 have n40:=mg_of X G a40
 have F41:=fun_mk (st:=s_go_cry) l41 c41 k41
 have b41:=F41.binds (ps:=["run","expression","bound"]) fun _ _ _ _ _ _ us hl=>by obtain ⟨_,_,_,rfl⟩:=us_3 hl; rfl
 have n41:=mg_of X G a41
 have F42:=fun_mk (st:=s_go_through) l42 c42 k42
 have b42:=F42.binds (ps:=["run","expressions","bound"]) fun _ _ _ _ _ _ us hl=>by obtain ⟨_,_,_,rfl⟩:=us_3 hl; rfl
 have n42:=mg_of X G a42
 have F43:=fun_mk (st:=s_go_reckoned) l43 c43 k43
 have b43:=F43.binds (ps:=["run","expression","bound"]) fun _ _ _ _ _ _ us hl=>by obtain ⟨_,_,_,rfl⟩:=us_3 hl; rfl
 have n43:=mg_of X G a43
 have F44:=fun_mk (st:=s_record_of) l44 c44 k44
 have b44:=F44.binds (ps:=["run","expression","bound"]) fun _ _ _ _ _ _ us hl=>by obtain ⟨_,_,_,rfl⟩:=us_3 hl; rfl
 have n44:=mg_of X G a44
 have F45:=fun_mk (st:=s_PlainLooks___init__) l45 c45 k45
 have b45:=F45.binds (ps:=["self","house","looker","outcomes"]) fun _ _ _ _ _ _ us hl=>by obtain ⟨_,_,_,_,rfl⟩:=us_4 hl; rfl
 have F46:=fun_mk (st:=s_PlainLooks_look) l46 c46 k46
 have b46:=F46.binds (ps:=["self","name"]) fun _ _ _ _ _ _ us hl=>by obtain ⟨_,_,rfl⟩:=us_2 hl; rfl
 have F47:=fun_mk (st:=s_Maker___init__) l47 c47 k47
 have b47:=F47.binds (ps:=["self","house"]) fun _ _ _ _ _ _ us hl=>by obtain ⟨_,_,rfl⟩:=us_2 hl; rfl
 have F48:=fun_mk (st:=s_Maker_come_to) l48 c48 k48
 have b48:=F48.binds (ps:=["self","name"]) fun _ _ _ _ _ _ us hl=>by obtain ⟨_,_,rfl⟩:=us_2 hl; rfl
 have F49:=fun_mk (st:=s_Maker_able) l49 c49 k49
 have b49:=F49.binds (ps:=["self"]) fun _ _ _ _ _ _ us hl=>by obtain ⟨_,rfl⟩:=us_1 hl; rfl
 have F50:=fun_mk (st:=s_Maker_try_rule) l50 c50 k50
 have b50:=F50.binds (ps:=["self","name"]) fun _ _ _ _ _ _ us hl=>by obtain ⟨_,_,rfl⟩:=us_2 hl; rfl
 have F51:=fun_mk (st:=s_plain) l51 c51 k51
 have b51:=F51.binds (ps:=["house"]) fun _ _ _ _ _ _ us hl=>by obtain ⟨_,rfl⟩:=us_1 hl; rfl
 have n51:=mg_of X G a51
 have F52:=fun_mk (st:=s_is_word) l52 c52 k52
 have b52:=F52.binds (ps:=["text"]) fun _ _ _ _ _ _ us hl=>by obtain ⟨_,rfl⟩:=us_1 hl; rfl
 have n52:=mg_of X G a52
 have F53:=fun_mk (st:=s_is_name) l53 c53 k53
 have b53:=F53.binds (ps:=["thing"]) fun _ _ _ _ _ _ us hl=>by obtain ⟨_,rfl⟩:=us_1 hl; rfl
 have n53:=mg_of X G a53
 have F54:=fun_mk (st:=s_room_of) l54 c54 k54
 have b54:=F54.binds (ps:=["name"]) fun _ _ _ _ _ _ us hl=>by obtain ⟨_,rfl⟩:=us_1 hl; rfl
 have n54:=mg_of X G a54
 have F55:=fun_mk (st:=s_ask_for_name) l55 c55 k55
 have b55:=F55.binds (ps:=["name"]) fun _ _ _ _ _ _ us hl=>by obtain ⟨_,rfl⟩:=us_1 hl; rfl
 have n55:=mg_of X G a55
 have F56:=fun_mk (st:=s_House___init__) l56 c56 k56
 have b56:=F56.binds (ps:=["self"]) fun _ _ _ _ _ _ us hl=>by obtain ⟨_,rfl⟩:=us_1 hl; rfl
 have F57:=fun_mk (st:=s_House_put) l57 c57 k57
 have b57:=F57.binds (ps:=["self","name","worth"]) fun _ _ _ _ _ _ us hl=>by obtain ⟨_,_,_,rfl⟩:=us_3 hl; rfl
 have F58:=fun_mk (st:=s_House_put_rule) l58 c58 k58
 have b58:=F58.binds (ps:=["self","name","rule"]) fun _ _ _ _ _ _ us hl=>by obtain ⟨_,_,_,rfl⟩:=us_3 hl; rfl
 have F59:=fun_mk (st:=s_House_wish) l59 c59 k59
 have b59:=F59.binds (ps:=["self","name"]) fun _ _ _ _ _ _ us hl=>by obtain ⟨_,_,rfl⟩:=us_2 hl; rfl
 have F60:=fun_mk (st:=s_House_may) l60 c60 k60
 have b60:=F60.binds (ps:=["self","looker","name"]) fun _ _ _ _ _ _ us hl=>by obtain ⟨_,_,_,rfl⟩:=us_3 hl; rfl
 have F61:=fun_mk (st:=s_House_found) l61 c61 k61
 have b61:=F61.binds (ps:=["self","looker","name","outcomes"]) fun _ _ _ _ _ _ us hl=>by obtain ⟨_,_,_,_,rfl⟩:=us_4 hl; rfl
 have F62:=fun_mk (st:=sCell) l62 c62 k62
 have b62:=F62.binds (ps:=["_law_script","_law_k"]) fun _ _ _ _ _ _ us hl=>by obtain ⟨_,_,rfl⟩:=us_2 hl; rfl
 have n62:=mg_of X G a62
 have F63:=fun_mk (st:=sBox) l63 c63 k63
 have b63:=F63.binds (ps:=["_law_script","_law_k"]) fun _ _ _ _ _ _ us hl=>by obtain ⟨_,_,rfl⟩:=us_2 hl; rfl
 have n63:=mg_of X G a63
 have F64:=fun_mk (st:=sTake) l64 c64 k64
 have b64:=F64.binds (ps:=["_law_box_here","_law_wide"]) fun _ _ _ _ _ _ us hl=>by obtain ⟨_,_,rfl⟩:=us_2 hl; rfl
 have n64:=mg_of X G a64
 have F65:=fun_mk (st:=sText) l65 c65 k65
 have b65:=F65.binds (ps:=["_law_box_here","_law_most"]) fun _ _ _ _ _ _ us hl=>by obtain ⟨_,_,rfl⟩:=us_2 hl; rfl
 have n65:=mg_of X G a65
 have F66:=fun_mk (st:=s_lnamed) l66 c66 k66
 have b66:=F66.binds (ps:=["_law_box_here","_law_wide"]) fun _ _ _ _ _ _ us hl=>by obtain ⟨_,_,rfl⟩:=us_2 hl; rfl
 have n66:=mg_of X G a66
 have F67:=fun_mk (st:=s_ldue) l67 c67 k67
 have b67:=F67.binds (ps:=["_law_worths","_law_first"]) fun _ _ _ _ _ _ us hl=>by obtain ⟨_,_,rfl⟩:=us_2 hl; rfl
 have n67:=mg_of X G a67
 have F68:=fun_mk (st:=sLaw) l68 c68 k68
 have cl_PlainLooks:Cls K APlainLooks:=⟨pg_PlainLooks,hd_PlainLooks,po_PlainLooks,sa_PlainLooks⟩
 have cl_Maker:Cls K AMaker:=⟨pg_Maker,hd_Maker,po_Maker,sa_Maker⟩
 have cl_House:Cls K AHouse:=⟨pg_House,hd_House,po_House,sa_House⟩
 have m_isinstance:=mg_none_of X G z0
 have m_int:=mg_none_of X G z1
 have m_bool:=mg_none_of X G z2
 have m_ord:=mg_none_of X G z3
 have m_str:=mg_none_of X G z4
 have m_tuple:=mg_none_of X G z5
 have m_len:=mg_none_of X G z6
 have m_all:=mg_none_of X G z7
 have m_abs:=mg_none_of X G z8
 have m_list:=mg_none_of X G z9
 have m_enumerate:=mg_none_of X G z10
 have m_set:=mg_none_of X G z11
 have m_sorted:=mg_none_of X G z12
 have m_max:=mg_none_of X G z13
 have m_range:=mg_none_of X G z14
 have m_reversed:=mg_none_of X G z15
 have m_dict:=mg_none_of X G z16
 have m_min:=mg_none_of X G z17
 have m_PERCENT:∃ t,mg "PERCENT" = some (.int 37 t):=⟨t0,mg_of X G i0⟩
 have m_MOST_SIGNS_worths:∃ t,mg "MOST_SIGNS_worths" = some (.int 400 t):=⟨t1,mg_of X G i1⟩
 have m_MOST_ITEMS:∃ t,mg "MOST_ITEMS" = some (.int 60 t):=⟨t2,mg_of X G i2⟩
 have m_MOST_DEPTH:∃ t,mg "MOST_DEPTH" = some (.int 12 t):=⟨t3,mg_of X G i3⟩
 have m_MOST_SIZE:∃ t,mg "MOST_SIZE" = some (.int 1000 t):=⟨t4,mg_of X G i4⟩
 have m_MOST_LETTERS:∃ t,mg "MOST_LETTERS" = some (.int 8 t):=⟨t5,mg_of X G i5⟩
 have m_MOST_LISTED:∃ t,mg "MOST_LISTED" = some (.int 8 t):=⟨t6,mg_of X G i6⟩
 have m_MOST_MANY:∃ t,mg "MOST_MANY" = some (.int 60 t):=⟨t7,mg_of X G i7⟩
 have m_MOST_NESTING:∃ t,mg "MOST_NESTING" = some (.int 12 t):=⟨t8,mg_of X G i8⟩
 have m_MOST_REPEATED:∃ t,mg "MOST_REPEATED" = some (.int 2 t):=⟨t9,mg_of X G i9⟩
 have m_MOST_SIGNS_names:∃ t,mg "MOST_SIGNS_names" = some (.int 12 t):=⟨t10,mg_of X G i10⟩
 have m_LETTERS:∃ t,mg "LETTERS" = some (.str abcL t):=⟨v0,mg_of X G s0⟩
 have m_SIGNS:∃ t,mg "SIGNS" = some (.str signs36 t):=⟨v1,mg_of X G s1⟩
 have m_GREAT:=mg_of X G y0
 have t_GREAT:∀ H:Hp,SqT K H g0 [.str "wrong",.str "great",.str ""]:=fun H=>.inr ⟨_,_,_,x0,rfl,rfl,zl3,(.cons ⟨_,rfl⟩ (.cons ⟨_,rfl⟩ (.cons ⟨_,rfl⟩ .nil)))⟩
 have m_KIND:=mg_of X G y1
 have t_KIND:∀ H:Hp,SqT K H g1 [.str "wrong",.str "kind",.str ""]:=fun H=>.inr ⟨_,_,_,x1,rfl,rfl,zl3,(.cons ⟨_,rfl⟩ (.cons ⟨_,rfl⟩ (.cons ⟨_,rfl⟩ .nil)))⟩
 have m_REPEATING:=mg_of X G y2
 have t_REPEATING:∀ H:Hp,SqT K H g2 [.str "each",.str "over"]:=fun H=>.inr ⟨_,_,_,x2,rfl,rfl,zl2,(.cons ⟨_,rfl⟩ (.cons ⟨_,rfl⟩ .nil))⟩
 have m_BINDING:=mg_of X G dy0
 have d_BINDING:MD l.prog w K dg0 (kvsB ):=md_of [("let",du0_0,.int 1,.int 1 dv0_0),("each",du0_1,.int 1,.int 1 dv0_1),("over",du0_2,.int 2,.int 2 dv0_2)] dx0 dz0 (fun p hp=>by simp only [List.mem_cons,List.not_mem_nil,or_false] at hp; rcases hp with rfl | rfl | rfl <;> first | exact rfl | exact ⟨_,rfl⟩) (by show (["let","each","over"]:List Str).Nodup; decide +kernel)
 have m_PARTS:=mg_of X G dy1
 have d_PARTS:MD l.prog w K dg1 (kvsP ):=md_of [("let",du1_0,.int 2,.int 2 dv1_0),("if",du1_1,.int 3,.int 3 dv1_1),("+",du1_2,.int 2,.int 2 dv1_2),("-",du1_3,.int 2,.int 2 dv1_3),("*",du1_4,.int 2,.int 2 dv1_4),("/",du1_5,.int 2,.int 2 dv1_5),("same",du1_6,.int 2,.int 2 dv1_6),("less",du1_7,.int 2,.int 2 dv1_7),("join",du1_8,.int 2,.int 2 dv1_8),("item",du1_9,.int 2,.int 2 dv1_9),("count",du1_10,.int 1,.int 1 dv1_10),("figures",du1_11,.int 1,.int 1 dv1_11),("each",du1_12,.int 2,.int 2 dv1_12),("over",du1_13,.int 3,.int 3 dv1_13),("look",du1_14,.int 1,.int 1 dv1_14),("else",du1_15,.int 2,.int 2 dv1_15),("cry",du1_16,.int 1,.int 1 dv1_16)] dx1 dz1 (fun p hp=>by simp only [List.mem_cons,List.not_mem_nil,or_false] at hp; rcases hp with rfl | rfl | rfl | rfl | rfl | rfl | rfl | rfl | rfl | rfl | rfl | rfl | rfl | rfl | rfl | rfl | rfl <;> first | exact rfl | exact ⟨_,rfl⟩) (by show (["let","if","+","-","*","/","same","less","join","item","count","figures","each","over","look","else","cry"]:List Str).Nodup; decide +kernel)
 have m_NUMBER_DEEDS:=mg_of X G dy2
 have d_NUMBER_DEEDS:MD l.prog w K dg2 (kvsN f6 f7 f8 f9 f10 f11):=md_of [("+",du2_0,.ref f6,.ref f6),("-",du2_1,.ref f7,.ref f7),("*",du2_2,.ref f8,.ref f8),("/",du2_3,.ref f9,.ref f9),("less",du2_4,.ref f10,.ref f10),("figures",du2_5,.ref f11,.ref f11)] dx2 dz2 (fun p hp=>by simp only [List.mem_cons,List.not_mem_nil,or_false] at hp; rcases hp with rfl | rfl | rfl | rfl | rfl | rfl <;> first | exact rfl | exact ⟨_,rfl⟩) (by show (["+","-","*","/","less","figures"]:List Str).Nodup; decide +kernel)
 have m_OTHER_DEEDS:=mg_of X G dy3
 have d_OTHER_DEEDS:MD l.prog w K dg3 (kvsO f12 f13 f14 f15 f16):=md_of [("same",du3_0,.ref f12,.ref f12),("join",du3_1,.ref f13,.ref f13),("list",du3_2,.ref f14,.ref f14),("item",du3_3,.ref f15,.ref f15),("count",du3_4,.ref f16,.ref f16)] dx3 dz3 (fun p hp=>by simp only [List.mem_cons,List.not_mem_nil,or_false] at hp; rcases hp with rfl | rfl | rfl | rfl | rfl <;> first | exact rfl | exact ⟨_,rfl⟩) (by show (["same","join","list","item","count"]:List Str).Nodup; decide +kernel)
 have m_GOING:=mg_of X G dy4
 have d_GOING:MD l.prog w K dg4 (kvsG f33 f34 f35 f36 f37 f38 f39 f40 f41):=md_of [("lit",du4_0,.ref f33,.ref f33),("var",du4_1,.ref f34,.ref f34),("let",du4_2,.ref f35,.ref f35),("if",du4_3,.ref f36,.ref f36),("each",du4_4,.ref f37,.ref f37),("over",du4_5,.ref f38,.ref f38),("look",du4_6,.ref f39,.ref f39),("else",du4_7,.ref f40,.ref f40),("cry",du4_8,.ref f41,.ref f41)] dx4 dz4 (fun p hp=>by simp only [List.mem_cons,List.not_mem_nil,or_false] at hp; rcases hp with rfl | rfl | rfl | rfl | rfl | rfl | rfl | rfl | rfl <;> first | exact rfl | exact ⟨_,rfl⟩) (by show (["lit","var","let","if","each","over","look","else","cry"]:List Str).Nodup; decide +kernel)
 refine ⟨fnOf "law" "law" (defArgs sLaw) (defBody sLaw) (defScope sLaw) .none kV68 dc68 pm68 an68 cd68 ct68,fun s v=>.of_eq rfl,fun base _ _=>?_⟩
 have h_is_number:Have l.prog w K mg base "is_number" 1 ["thing"] (spIsNum):=⟨_,_,(ok_isnum F0 m_isinstance m_int m_bool:FnOk l.prog w K mg base CX0 (0 + 1) _ _ _ _),b0,k0,n0⟩
 have h_is_sign:Have l.prog w K mg base "is_sign" 1 ["sign"] (spIsSign):=⟨_,_,(ok_issign F1 m_ord m_PERCENT:FnOk l.prog w K mg base CX0 (0 + 1) _ _ _ _),b1,k1,n1⟩
 have h_size_alone:Have l.prog w K mg base "size_alone" 1 ["worth"] (spSizeT):=⟨_,_,(ok_sizeT F3 m_isinstance m_str m_len:FnOk l.prog w K mg base CX0 (0 + 1) _ _ _ _),b3,k3,n3⟩
 have h_is_variable:Have l.prog w K mg base "is_variable" 1 ["thing"] (spIsVar):=⟨_,_,(ok_is_variable F18 m_all m_isinstance m_len m_str m_MOST_LETTERS m_LETTERS:FnOk l.prog w K mg base CX0 (0 + 1) _ _ _ _),b18,k18,n18⟩
 have h_has_parts:Have l.prog w K mg base "has_parts" 1 ["word"] (spHasParts):=⟨_,_,(ok_has_parts F19 m_PARTS d_PARTS:FnOk l.prog w K mg base CX0 (0 + 1) _ _ _ _),b19,k19,n19⟩
 have h_binding_count:Have l.prog w K mg base "binding_count" 1 ["word"] (spBCount):=⟨_,_,(ok_binding_count F20 m_BINDING d_BINDING:FnOk l.prog w K mg base CX0 (0 + 1) _ _ _ _),b20,k20,n20⟩
 have h_is_made:Have l.prog w K mg base "is_made" 1 ["record"] (spIsMade K):=⟨_,_,(ok_is_made F30:FnOk l.prog w K mg base CX0 (0 + 1) _ _ _ _),b30,k30,n30⟩
 have h_worth_of:Have l.prog w K mg base "worth_of" 1 ["record"] (spWorthOf K):=⟨_,_,(ok_worth_of F31:FnOk l.prog w K mg base CX0 (0 + 1) _ _ _ _),b31,k31,n31⟩
 have h_as_last:Have l.prog w K mg base "as_last" 1 ["records"] (spAsLast):=⟨_,_,(ok_as_last F32 m_tuple:FnOk l.prog w K mg base CX0 (0 + 1) _ _ _ _),b32,k32,n32⟩
 have h_Maker_come_to:HaveM l.prog w K mg base AMaker "come_to" 1 ["self","name"] (spCome K AMaker AHouse):=⟨_,_,(ok_Maker_come_to F48 cl_House nf_House_sources nf_House_rules cl_Maker nf_Maker_house nf_Maker_outcomes nf_Maker_waits:FnOk l.prog w K mg base CX0 (0 + 1) _ _ _ _),b48,⟨a48,q48,k48⟩,cl_Maker⟩
 have h_Maker_able:HaveM l.prog w K mg base AMaker "able" 1 ["self"] (spAble K AMaker):=⟨_,_,(ok_Maker_able F49 cl_Maker nf_Maker_outcomes nf_Maker_waits:FnOk l.prog w K mg base CX0 (0 + 1) _ _ _ _),b49,⟨a49,q49,k49⟩,cl_Maker⟩
 have h_is_word:Have l.prog w K mg base "is_word" 1 ["text"] (spIsWordN):=⟨_,_,(ok_is_word F52 m_all m_len m_MOST_SIGNS_names m_SIGNS:FnOk l.prog w K mg base CX0 (0 + 1) _ _ _ _),b52,k52,n52⟩
 have h_room_of:Have l.prog w K mg base "room_of" 1 ["name"] (spRoomOf):=⟨_,_,(ok_room_of F54:FnOk l.prog w K mg base CX0 (0 + 1) _ _ _ _),b54,k54,n54⟩
 have h_lcell:Have l.prog w K mg base "_law_cell" 1 ["_law_script","_law_k"] (spCell K):=⟨_,_,(ok_cell F62 m_len:FnOk l.prog w K mg base CX0 (0 + 1) _ _ _ _),b62,k62,n62⟩
 have h_ltake:Have l.prog w K mg base "_law_take" 1 ["_law_box_here","_law_wide"] (spTake):=⟨_,_,(ok_take F64:FnOk l.prog w K mg base CX0 (0 + 1) _ _ _ _),b64,k64,n64⟩
 have h_ldue:Have l.prog w K mg base "_law_due" 1 ["_law_worths","_law_first"] (spDueL K):=⟨_,_,(ok_ldue F67 m_int m_isinstance m_list m_reversed:FnOk l.prog w K mg base CX0 (0 + 1) _ _ _ _),b67,k67,n67⟩
 have h_fits_alone:Have l.prog w K mg base "fits_alone" 2 ["thing","levels"] (spFits):=⟨_,_,(ok_fits F2 (h_is_number.mono (by omega)) (h_is_sign.mono (by omega)) m_isinstance m_str m_tuple m_len m_all m_abs m_MOST_SIGNS_worths m_MOST_ITEMS:FnOk l.prog w K mg base CX0 (1 + 1) _ _ _ _),b2,k2,n2⟩
 have h_variables_of:Have l.prog w K mg base "variables_of" 2 ["expression"] (spVarsOf):=⟨_,_,(ok_variables_of F21 (h_binding_count.mono (by omega)):FnOk l.prog w K mg base CX0 (1 + 1) _ _ _ _),b21,k21,n21⟩
 have h_parts_of:Have l.prog w K mg base "parts_of" 2 ["expression"] (spPartsOf):=⟨_,_,(ok_parts_of F22 (h_binding_count.mono (by omega)) (h_has_parts.mono (by omega)) m_list:FnOk l.prog w K mg base CX0 (1 + 1) _ _ _ _),b22,k22,n22⟩
 have h_are_good_variables:Have l.prog w K mg base "are_good_variables" 2 ["names"] (spGoodV):=⟨_,_,(ok_are_good_variables F23 (h_is_variable.mono (by omega)) m_all m_len:FnOk l.prog w K mg base CX0 (1 + 1) _ _ _ _),b23,k23,n23⟩
 have h_PlainLooks___init__:HaveC l.prog w K mg base APlainLooks "PlainLooks" 2 ["self","house","looker","outcomes"] (spPI APlainLooks):=⟨_,_,1,rfl,(ok_PlainLooks___init__ F45 cl_PlainLooks nf_PlainLooks_house nf_PlainLooks_looker nf_PlainLooks_outcomes nf_PlainLooks_names:FnOk l.prog w K mg base CX0 (0 + 1) _ _ _ _),b45,⟨mk_PlainLooks,a45,q45,kc_PlainLooks⟩,mg_of X G aC_PlainLooks⟩
 have h_Maker___init__:HaveC l.prog w K mg base AMaker "Maker" 2 ["self","house"] (spMI AMaker):=⟨_,_,1,rfl,(ok_Maker___init__ F47 cl_Maker nf_Maker_house nf_Maker_outcomes nf_Maker_waits:FnOk l.prog w K mg base CX0 (0 + 1) _ _ _ _),b47,⟨mk_Maker,a47,q47,kc_Maker⟩,mg_of X G aC_Maker⟩
 have h_is_name:Have l.prog w K mg base "is_name" 2 ["thing"] (spIsName):=⟨_,_,(ok_is_name F53 (h_is_word.mono (by omega)) m_isinstance m_len m_str:FnOk l.prog w K mg base CX0 (1 + 1) _ _ _ _),b53,k53,n53⟩
 have h_House___init__:HaveC l.prog w K mg base AHouse "House" 2 ["self"] (spHI AHouse):=⟨_,_,1,rfl,(ok_House___init__ F56 cl_House nf_House_sources nf_House_rules nf_House_opened nf_House_wishes:FnOk l.prog w K mg base CX0 (0 + 1) _ _ _ _),b56,⟨mk_House,a56,q56,kc_House⟩,mg_of X G aC_House⟩
 have h_lbox:Have l.prog w K mg base "_law_box" 2 ["_law_script","_law_k"] (spBox K):=⟨_,_,(ok_box F63 (h_lcell.mono (by omega)):FnOk l.prog w K mg base CX0 (1 + 1) _ _ _ _),b63,k63,n63⟩
 have h_ltext:Have l.prog w K mg base "_law_text" 2 ["_law_box_here","_law_most"] (spText):=⟨_,_,(ok_text F65 (h_ltake.mono (by omega)) m_len m_range:FnOk l.prog w K mg base CX0 (1 + 1) _ _ _ _),b65,k65,n65⟩
 have h_lnamed:Have l.prog w K mg base "_law_named" 2 ["_law_box_here","_law_wide"] (spNamed):=⟨_,_,(ok_lnamed F66 (h_ltake.mono (by omega)) m_int m_range:FnOk l.prog w K mg base CX0 (1 + 1) _ _ _ _),b66,k66,n66⟩
 have h_is_worth:Have l.prog w K mg base "is_worth" 3 ["thing"] (spIsWorth):=⟨_,_,(ok_isworth F4 (h_fits_alone.mono (by omega)) (h_size_alone.mono (by omega)) m_isinstance m_tuple m_len m_MOST_DEPTH m_MOST_SIZE:FnOk l.prog w K mg base CX0 (2 + 1) _ _ _ _),b4,k4,n4⟩
 have h_unbound:∀ n:Nat,Have l.prog w K mg base "unbound" (n + 3) ["expression","bound"] (spUnb n):=fun n=>by
  induction n with
  | zero=>exact ⟨_,_,none_ok (fun vs H Q E h=>by obtain ⟨_,_,_,_,_,_,_,_,h0,_⟩:=h; omega) _,b26,k26,n26⟩
  | succ n ih=>exact ⟨_,_,ok_unbound F26 ih (h_variables_of.mono (by omega)) (h_parts_of.mono (by omega)) m_enumerate m_len,b26,k26,n26⟩
 have h_repeated:∀ n:Nat,Have l.prog w K mg base "repeated" (n + 3) ["expression"] (spRep n):=fun n=>by
  induction n with
  | zero=>exact ⟨_,_,none_ok (fun vs H Q E h=>by obtain ⟨_,_,_,_,_,_,h0,_⟩:=h; omega) _,b28,k28,n28⟩
  | succ n ih=>exact ⟨_,_,ok_repeated F28 ih (h_parts_of.mono (by omega)) m_enumerate m_len m_max m_REPEATING t_REPEATING,b28,k28,n28⟩
 have h_ask_for_name:Have l.prog w K mg base "ask_for_name" 3 ["name"] (spAsk):=⟨_,_,(ok_ask_for_name F55 (h_is_name.mono (by omega)):FnOk l.prog w K mg base CX0 (2 + 1) _ _ _ _),b55,k55,n55⟩
 have h_House_may:HaveM l.prog w K mg base AHouse "may" 3 ["self","looker","name"] (spMay AHouse):=⟨_,_,(ok_House_may F60 (h_room_of.mono (by omega)) (h_is_name.mono (by omega)) cl_House nf_House_opened:FnOk l.prog w K mg base CX0 (2 + 1) _ _ _ _),b60,⟨a60,q60,k60⟩,cl_House⟩
 have h_made:Have l.prog w K mg base "made" 4 ["thing"] (spMade28):=⟨_,_,(ok_made F5 (h_is_worth.mono (by omega)) m_GREAT t_GREAT:FnOk l.prog w K mg base CX0 (3 + 1) _ _ _ _),b5,k5,n5⟩
 have h_has_form:Have l.prog w K mg base "has_form" 4 ["thing"] (spHasForm):=⟨_,_,(ok_has_form F24 (h_are_good_variables.mono (by omega)) (h_variables_of.mono (by omega)) (h_binding_count.mono (by omega)) (h_is_variable.mono (by omega)) (h_is_worth.mono (by omega)) m_isinstance m_len m_str m_tuple m_MOST_LISTED m_PARTS d_PARTS:FnOk l.prog w K mg base CX0 (3 + 1) _ _ _ _),b24,k24,n24⟩
 have h_House_put:HaveM l.prog w K mg base AHouse "put" 4 ["self","name","worth"] (spPut AHouse):=⟨_,_,(ok_House_put F57 (h_is_worth.mono (by omega)) (h_ask_for_name.mono (by omega)) cl_House nf_House_sources nf_House_rules:FnOk l.prog w K mg base CX0 (3 + 1) _ _ _ _),b57,⟨a57,q57,k57⟩,cl_House⟩
 have h_House_wish:HaveM l.prog w K mg base AHouse "wish" 4 ["self","name"] (spWish AHouse):=⟨_,_,(ok_House_wish F59 (h_ask_for_name.mono (by omega)) cl_House nf_House_wishes:FnOk l.prog w K mg base CX0 (3 + 1) _ _ _ _),b59,⟨a59,q59,k59⟩,cl_House⟩
 have h_House_found:HaveM l.prog w K mg base AHouse "found" 4 ["self","looker","name","outcomes"] (spFound AHouse):=⟨_,_,(ok_House_found F61 (h_House_may.mono (by omega)) (h_is_name.mono (by omega)) cl_House nf_House_sources nf_House_rules:FnOk l.prog w K mg base CX0 (3 + 1) _ _ _ _),b61,⟨a61,q61,k61⟩,cl_House⟩
 have hf_summed:HaveF l.prog w K mg base f6 5 ["worths"] (spSum28):=⟨_,(ok_summed F6 (h_made.mono (by omega)):FnOk l.prog w K mg base CX0 (4 + 1) _ _ _ _),b6,k6⟩
 have h_is_formed:Have l.prog w K mg base "is_formed" 5 ["thing"] (spFormed):=⟨_,_,(ok_is_formed F25 (h_parts_of.mono (by omega)) (h_has_form.mono (by omega)) m_len m_MOST_MANY m_MOST_NESTING:FnOk l.prog w K mg base CX0 (4 + 1) _ _ _ _),b25,k25,n25⟩
 have h_PlainLooks_look:HaveM l.prog w K mg base APlainLooks "look" 5 ["self","name"] (spLook K APlainLooks AHouse):=⟨_,_,(ok_PlainLooks_look F46 (h_House_found.mono (by omega)) cl_PlainLooks nf_PlainLooks_house nf_PlainLooks_looker nf_PlainLooks_outcomes nf_PlainLooks_names:FnOk l.prog w K mg base CX0 (4 + 1) _ _ _ _),b46,⟨a46,q46,k46⟩,cl_PlainLooks⟩
 have h_reckoned:Have l.prog w K mg base "reckoned" 6 ["word","worths"] (spReck28 K):=⟨_,_,(ok_reckoned F17 (h_is_number.mono (by omega)) m_all m_KIND t_KIND m_NUMBER_DEEDS d_NUMBER_DEEDS m_OTHER_DEEDS d_OTHER_DEEDS (hf_summed.mono (by omega)):FnOk l.prog w K mg base CX0 (5 + 1) _ _ _ _),b17,k17,n17⟩
 have h_record_of:∀ n:Nat,Have l.prog w K mg base "record_of" (3 * n + 7) ["run","expression","bound"] (spRec K APlainLooks AHouse n):=fun n=>by
  induction n with
  | zero=>exact ⟨_,_,none_ok (fun vs H Q E h=>by obtain ⟨_,_,_,_,h⟩:=h; rcases h with ⟨h,_⟩ | ⟨h,_⟩ | ⟨h,_⟩ <;> exact absurd h (by omega)) _,b44,k44,n44⟩
  | succ n ih=>
   have h_go_through:Have l.prog w K mg base "go_through" (3 * n + 7 + 0 + 1) ["run","expressions","bound"] (spThru K APlainLooks AHouse n):=⟨_,_,(ok_go_through F42 (h_is_made.mono (by omega)) (ih.mono (by omega)):FnOk l.prog w K mg base CX0 (3 * n + 7 + 0 + 1) _ _ _ (spThru K APlainLooks AHouse n)),b42,k42,n42⟩
   have hf_go_lit:HaveF l.prog w K mg base f33 (3 * n + 7 + 0 + 1) ["run","expression","bound"] (spLitG K):=⟨_,(ok_go_lit F33:FnOk l.prog w K mg base CX0 (3 * n + 7 + 0 + 1) _ _ _ (spLitG K)),b33,k33⟩
   have hf_go_look:HaveF l.prog w K mg base f39 (3 * n + 7 + 0 + 1) ["run","expression","bound"] (spLookG K APlainLooks AHouse n):=⟨_,(ok_go_look F39 (h_PlainLooks_look.mono (by omega)) (h_worth_of.mono (by omega)) (h_is_made.mono (by omega)) (h_as_last.mono (by omega)) (ih.mono (by omega)) m_isinstance m_str m_KIND t_KIND:FnOk l.prog w K mg base CX0 (3 * n + 7 + 0 + 1) _ _ _ (spLookG K APlainLooks AHouse n)),b39,k39⟩
   have h_go_reckoned:Have l.prog w K mg base "go_reckoned" (3 * n + 7 + 1 + 1) ["run","expression","bound"] (spPlusG K APlainLooks AHouse n):=⟨_,_,(ok_go_reckoned F43 (h_reckoned.mono (by omega)) (h_worth_of.mono (by omega)) (h_is_made.mono (by omega)) (h_as_last.mono (by omega)) (h_go_through.mono (by omega)) (h_parts_of.mono (by omega)) m_len m_tuple:FnOk l.prog w K mg base CX0 (3 * n + 7 + 1 + 1) _ _ _ (spPlusG K APlainLooks AHouse n)),b43,k43,n43⟩
   have hm:Have l.prog w K mg base "record_of" (3 * n + 7 + 2 + 1) ["run","expression","bound"] (spRec K APlainLooks AHouse (n + 1)):=⟨_,_,(ok_record_of F44 (h_go_reckoned.mono (by omega))  m_GOING d_GOING (hf_go_lit.mono (by omega)) (hf_go_look.mono (by omega)):FnOk l.prog w K mg base CX0 (3 * n + 7 + 2 + 1) _ _ _ (spRec K APlainLooks AHouse (n + 1))),b44,k44,n44⟩
   exact hm.mono (by omega)
 have h_Maker_try_rule:HaveM l.prog w K mg base AMaker "try_rule" 17 ["self","name"] (spTry K AMaker AHouse):=⟨_,_,(ok_Maker_try_rule F50 (h_House_may.mono (by omega)) (h_Maker_come_to.mono (by omega)) ((h_record_of 3).mono (by omega)) (h_PlainLooks___init__.mono (by omega)) cl_House nf_House_rules cl_Maker nf_Maker_house nf_Maker_outcomes nf_Maker_waits cl_PlainLooks nf_PlainLooks_names:FnOk l.prog w K mg base CX0 (16 + 1) _ _ _ _),b50,⟨a50,q50,k50⟩,cl_Maker⟩
 have h_plain:Have l.prog w K mg base "plain" 18 ["house"] (spPlain K AHouse):=⟨_,_,(ok_plain F51 (h_Maker_able.mono (by omega)) (h_Maker_try_rule.mono (by omega)) (h_Maker_come_to.mono (by omega)) (h_Maker___init__.mono (by omega)) m_len cl_House nf_House_wishes cl_Maker nf_Maker_outcomes nf_Maker_waits:FnOk l.prog w K mg base CX0 (17 + 1) _ _ _ _),b51,k51,n51⟩
 have h_free_in:Have l.prog w K mg base "free_in" 24 ["expression"] (spFree):=⟨_,_,(ok_free_in F27 ((h_unbound 20).mono (by omega)) m_set m_sorted:FnOk l.prog w K mg base CX0 (23 + 1) _ _ _ _),b27,k27,n27⟩
 have h_is_rule:Have l.prog w K mg base "is_rule" 25 ["thing"] (spIsRule):=⟨_,_,(ok_is_rule F29 ((h_repeated 20).mono (by omega)) (h_free_in.mono (by omega)) (h_is_formed.mono (by omega)) m_MOST_REPEATED:FnOk l.prog w K mg base CX0 (24 + 1) _ _ _ _),b29,k29,n29⟩
 have h_House_put_rule:HaveM l.prog w K mg base AHouse "put_rule" 26 ["self","name","rule"] (spPutR AHouse):=⟨_,_,(ok_House_put_rule F58 (h_is_rule.mono (by omega)) (h_ask_for_name.mono (by omega)) cl_House nf_House_sources nf_House_rules:FnOk l.prog w K mg base CX0 (25 + 1) _ _ _ _),b58,⟨a58,q58,k58⟩,cl_House⟩
 exact (ok_law F68 (h_plain.mono (by omega)) (h_ldue.mono (by omega)) (h_House_wish.mono (by omega)) (h_ltake.mono (by omega)) (h_lbox.mono (by omega)) (h_House_put_rule.mono (by omega)) (h_House_put.mono (by omega)) (h_House___init__.mono (by omega)) (h_ltext.mono (by omega)) (h_lnamed.mono (by omega)) m_dict m_enumerate m_isinstance m_len m_min m_range m_tuple cl_House nf_House_rules:FnOk l.prog w K mg base CX0 (99 + 1) _ _ _ _)
theorem walk_all {l:PySem.W.OpenLaw}{q:Program}{loose:List Str}{XP:(Str->Option Value)->Heap->Prop}{YP:World->Heap->Prop}{d:DefRec}{K:Params->PySem.W.Frag} (hn:l.most = some 63) (hdf:d.params.defaults = [])
  (hY:∀ (w:World) (h:Heap),YP w h->(K w.params).In h)
  (F:∀ (w:World) (mg:Str->Option Value) (fa:Addr) (h:Heap),(K w.params).In h->h.Ns mainGlobals mg->mg d.name = some (.ref fa)->
   ∃ fd:FuncData,(∀ (s:Shared) (u:Value),BindsTo s fd ⟨[u],[]⟩ [("_law_script",u)])/\∀ base:Heap,(K w.params).In base->base.Ns mainGlobals mg->FnOk l.prog w (K w.params) mg base CX0 100 fa fd ["_law_script"] (spLaw (K w.params))):
  PySem.W.WalkO q loose XP YP l.row.toRowW d [] (fun f vs=>PySem.call f vs):=
 L2.walk_of (n:=63) (k:=100) (x:="_law_script") (CX:=fun _=>CX0) (sp:=fun w=>spLaw (K w.params)) hn (by decide) hdf ⟨rfl,by decide,by decide⟩ hY F (fun _ _ a ns hl _ hS=>⟨a,ns,rfl,hS,hl,fun _=>rfl⟩) fun _ _ _ _ _ z=>z
end D
open PySem PySem.W PyProof.Rows
set_option maxRecDepth 100000 in
set_option maxHeartbeats 0 in
theorem PySem.Challenge.cw_leastforge_k28_chains_made_holds : PySem.Challenge.rw_leastforge_k28_chains_made.Holds := by
 w_on; o_law; k_head; (case hw=>w_witness2)
 k_fill
 refine D.walk_all (l:=PySem.Challenge.rw_leastforge_k28_chains_made) rfl rfl (fun w h Y=>PySem.W.kIn_of Y) ?F
 case F=>
  intro w mg fa h KX G hmg
  refine' D.all_mk KX G hmg ?_ ?_ ?_ ?_ ?_ ?_ ?_ ?_ ?_ ?_ ?_ ?_ ?_ ?_ ?_ ?_ ?_ ?_ ?_ ?_ ?_ ?_ ?_ ?_ ?_ ?_ ?_ ?_ ?_ ?_ ?_ ?_ ?_ ?_ ?_ ?_ ?_ ?_ ?_ ?_ ?_ ?_ ?_ ?_ ?_ ?_ ?_ ?_ ?_ ?_ ?_ ?_ ?_ ?_ ?_ ?_ ?_ ?_ ?_ ?_ ?_ ?_ ?_ ?_ ?_ ?_ ?_ ?_ ?_ ?_ ?_ ?_ ?_ ?_ ?_ ?_ ?_ ?_ ?_ ?_ ?_ ?_ ?_ ?_ ?_ ?_ ?_ ?_ ?_ ?_ ?_ ?_ ?_ ?_ ?_ ?_ ?_ ?_ ?_ ?_ ?_ ?_ ?_ ?_ ?_ ?_ ?_ ?_ ?_ ?_ ?_ ?_ ?_ ?_ ?_ ?_ ?_ ?_ ?_ ?_ ?_ ?_ ?_ ?_ ?_ ?_ ?_ ?_ ?_ ?_ ?_ ?_ ?_ ?_ ?_ ?_ ?_ ?_ ?_ ?_ ?_ ?_ ?_ ?_ ?_ ?_ ?_ ?_ ?_ ?_ ?_ ?_ ?_ ?_ ?_ ?_ ?_ ?_ ?_ ?_ ?_ ?_ ?_ ?_ ?_ ?_ ?_ ?_ ?_ ?_ ?_ ?_ ?_ ?_ ?_ ?_ ?_ ?_ ?_ ?_ ?_ ?_ ?_ ?_ ?_ ?_ ?_ ?_ ?_ ?_ ?_ ?_ ?_ ?_ ?_ ?_ ?_ ?_ ?_ ?_ ?_ ?_ ?_ ?_ ?_ ?_ ?_ ?_ ?_ ?_ ?_ ?_ ?_ ?_ ?_ ?_ ?_ ?_ ?_ ?_ ?_ ?_ ?_ ?_ ?_ ?_ ?_ ?_ ?_ ?_ ?_ ?_ ?_ ?_ ?_ ?_ ?_ ?_ ?_ ?_ ?_ ?_ ?_ ?_ ?_ ?_ ?_ ?_ ?_ ?_ ?_ ?_ ?_ ?_ ?_ ?_ ?_ ?_ ?_ ?_ ?_ ?_ ?_ ?_ ?_ ?_ ?_ ?_ ?_ ?_ ?_ ?_ ?_ ?_ ?_ ?_ ?_ ?_ ?_ ?_ ?_ ?_ ?_ ?_ ?_ ?_ ?_ ?_ ?_ ?_ ?_ ?_ ?_ ?_ ?_ ?_ ?_ ?_ ?_ ?_ ?_ ?_ ?_ ?_ ?_ ?_ ?_ ?_ ?_ ?_ ?_ ?_ ?_ ?_ ?_ ?_ ?_ ?_ ?_ ?_ ?_ ?_ ?_ ?_ ?_ ?_ ?_ ?_ ?_ ?_ ?_ ?_ ?_ ?_ ?_ ?_ ?_ ?_ ?_ ?_ ?_ ?_ ?_ ?_ ?_ ?_ ?_ ?_ ?_ ?_ ?_ ?_ ?_ ?_ ?_ ?_ ?_ ?_ ?_ ?_ ?_ ?_ ?_ ?_ ?_ ?_ ?_ ?_ ?_ ?_ ?_ ?_
  all_goals try ((try unfold D.nI); (try unfold D.lI); (try unfold D.cI); (try unfold D.kI); first | k_is | rfl)
