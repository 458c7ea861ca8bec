import PyProof.Rows.All
import Wide.All
import OpenK.AllK
import Wide.FinOn
import Lean
import PyProof.EqAt
import PyProof.EqKinds
import PyProof.TupleCall
import PyProof.EnumMake
import PyProof.WalksEnum
import PyProof.NeKinds
import PySem.Challenge.RW_leastforge_k57_papers_written_and_read
open PySem.W (instObj methodObj lookIn kia_one keepIn fnOf codeIn nsIn mg_of mg_none_of)
set_option Elab.async false
set_option linter.all false
set_option maxRecDepth 100000
set_option maxHeartbeats 4000000
theorem L2.zl0:0<=PySem.sizeLine:=by decide
theorem L2.zl1:1<=PySem.sizeLine:=by decide
theorem L2.zl2:2<=PySem.sizeLine:=by decide
theorem L2.zl3:3<=PySem.sizeLine:=by decide
theorem L2.zl4:4<=PySem.sizeLine:=by decide
theorem L2.zl7:7<=PySem.sizeLine:=by decide
theorem L2.zl8:8<=PySem.sizeLine:=by decide
theorem L2.zl12:12<=PySem.sizeLine:=by decide
namespace L2
open PySem PySem.Spec PyProof.Rows
abbrev Key:=Sum Int Str
def keyIs:Key->Value->Bool
 | .inl k,v=>Value.isInt k v
 | .inr x,v=>Value.isStrOf x v
def keyH (w:World):Key->Int
 | .inl k=>hashInt k
 | .inr x=>hashStr w x
theorem keyIs_shape:∀ {k:Key}{v:Value},keyIs k v = true->(∃ i t,k = Sum.inl i/\v = Value.int i t)\/(∃ x t,k = Sum.inr x/\v = Value.str x t)
 | .inl i,v,h=>by
  obtain ⟨t,e⟩:=Value.isInt_shape (k:=i) (v:=v) h
  exact .inl ⟨i,t,rfl,e⟩
 | .inr x,v,h=>by
  obtain ⟨t,e⟩:=Value.isStrOf_shape (x:=x) (v:=v) h
  exact .inr ⟨x,t,rfl,e⟩
theorem keyIs_int (i:Int) (t:Tok):keyIs (.inl i) (.int i t) = true:=by simp [keyIs,Value.isInt]
theorem keyIs_str (x:Str) (t:Tok):keyIs (.inr x) (.str x t) = true:=by simp [keyIs,Value.isStrOf]
theorem key_ll (a b:Int):decide ((Sum.inl a:Key) = Sum.inl b) = (a == b):=by
 by_cases e:a = b
 ·subst e; simp
 ·have h:¬ (Sum.inl a:Key) = Sum.inl b:=fun q=>e (Sum.inl.inj q)
  rw [decide_eq_false h]
  exact (beq_eq_false_iff_ne.mpr e).symm
theorem key_rr (a b:Str):decide ((Sum.inr a:Key) = Sum.inr b) = decide (a = b):=by
 by_cases e:a = b
 ·subst e; simp
 ·have h:¬ (Sum.inr a:Key) = Sum.inr b:=fun q=>e (Sum.inr.inj q)
  rw [decide_eq_false h,decide_eq_false e]
theorem key_lr (a:Int) (b:Str):decide ((Sum.inl a:Key) = Sum.inr b) = false:=decide_eq_false (fun q=>nomatch q)
theorem key_rl (a:Str) (b:Int):decide ((Sum.inr a:Key) = Sum.inl b) = false:=decide_eq_false (fun q=>nomatch q)
def mixKind (prog:Program) (w:World):PySem.KeyKind prog w Key where
 is:=keyIs
 hash:=keyH w
 inj:=fun v a b ha hb=>by
  rcases keyIs_shape ha with ⟨i,t,rfl,rfl⟩ | ⟨x,t,rfl,rfl⟩
  ·rcases keyIs_shape hb with ⟨j,u,rfl,e⟩ | ⟨y,u,rfl,e⟩
   ·injection e with e1 _; rw [e1]
   ·exact nomatch e
  ·rcases keyIs_shape hb with ⟨j,u,rfl,e⟩ | ⟨y,u,rfl,e⟩
   ·exact nomatch e
   ·injection e with e1 _; rw [e1]
 byValue:=fun k v h=>by
  rcases keyIs_shape h with ⟨i,t,rfl,rfl⟩ | ⟨x,t,rfl,rfl⟩ <;> rfl
 pyHash:=fun hv h=>by
  rcases keyIs_shape hv with ⟨i,t,rfl,rfl⟩ | ⟨x,t,rfl,rfl⟩
  ·exact wpAny_pyHash_int h
  ·exact wpAny_pyHash_str h
 eqBool:=fun hu hv h=>by
  rcases keyIs_shape hu with ⟨i,t,rfl,rfl⟩ | ⟨x,t,rfl,rfl⟩
  ·rcases keyIs_shape hv with ⟨j,u,rfl,rfl⟩ | ⟨y,u,rfl,rfl⟩
   ·rw [key_ll] at h; exact wpAny_eqBool_int h
   ·rw [key_lr] at h; exact SeqAt.EqAt.int_str i t y u _ _ _ _ h
  ·rcases keyIs_shape hv with ⟨j,u,rfl,rfl⟩ | ⟨y,u,rfl,rfl⟩
   ·rw [key_rl] at h; exact SeqAt.EqAt.str_int x t j u _ _ _ _ h
   ·rw [key_rr] at h; exact wpAny_eqBool_str h
 «strs»:=fun k x t v h=>by
  rcases keyIs_shape h with ⟨i,u,rfl,e⟩ | ⟨y,u,rfl,e⟩
  ·exact nomatch e
  ·injection e with e1 _
   subst e1
   cases v <;> rfl
theorem mixKind_int (prog:Program) (w:World) (i:Int) (t:Tok):(mixKind prog w).is (.inl i) (.int i t) = true:=keyIs_int i t
theorem mixKind_str (prog:Program) (w:World) (x:Str) (t:Tok):(mixKind prog w).is (.inr x) (.str x t) = true:=keyIs_str x t
inductive V where
 | non | bl (b:Bool) | int (i:Int) | str (x:Str) | byt (b:Array UInt8) | flt (b:UInt64) | ref (a:Addr) | ty (n:String)
 deriving DecidableEq
def RelV:V->Value->Prop
 | .non,u=>u = Value.none
 | .bl b,u=>u = Value.bool b
 | .int i,u=>∃ t,u = Value.int i t
 | .str x,u=>∃ t,u = Value.str x t
 | .byt b,u=>∃ t,u = Value.bytes b t
 | .flt b,u=>∃ t,u = Value.float b t
 | .ref a,u=>u = Value.ref a
 | .ty n,u=>u = Value.type n
abbrev Vals:List V->List Value->Prop:=Paired RelV
theorem Vals.length {xs:List V}{us:List Value} (r:Vals xs us):xs.length = us.length:=Paired.length r
theorem Vals.get:∀ {xs:List V}{us:List Value}{i:Nat}{x:V},Vals xs us->xs[i]? = some x->∃ u,us[i]? = some u/\RelV x u
 | _,_,_,_,.nil,e=>by simp at e
 | _,_,0,_,.cons r _,e=>by simp at e; subst e; exact ⟨_,rfl,r⟩
 | _,_,i + 1,x,.cons _ t,e=>by
  obtain ⟨u,h1,h2⟩:=Vals.get (i:=i) (x:=x) t (by simpa using e)
  exact ⟨u,by simpa using h1,h2⟩
theorem Vals.set {x:V}{u:Value} (r:RelV x u):∀ {xs:List V}{us:List Value} (i:Nat),Vals xs us->Vals (xs.set i x) (us.set i u)
 | _,_,_,.nil=>.nil
 | _,_,0,.cons _ t=>.cons r t
 | _,_,i + 1,.cons q t=>.cons q (Vals.set r i t)
theorem Vals.append:∀ {xs ys:List V}{us ws:List Value},Vals xs us->Vals ys ws->Vals (xs ++ ys) (us ++ ws)
 | _,_,_,_,.nil,s=>s
 | _,_,_,_,.cons r t,s=>.cons r (Vals.append t s)
theorem Vals.take:∀ {xs:List V}{us:List Value} (n:Nat),Vals xs us->Vals (xs.take n) (us.take n)
 | _,_,0,_=>.nil
 | _,_,_ + 1,.nil=>.nil
 | _,_,n + 1,.cons r t=>.cons r (Vals.take n t)
theorem Vals.drop:∀ {xs:List V}{us:List Value} (n:Nat),Vals xs us->Vals (xs.drop n) (us.drop n)
 | _,_,0,r=>r
 | _,_,_ + 1,.nil=>.nil
 | _,_,n + 1,.cons _ t=>Vals.drop n t
def RelO:Option V->Option Value->Prop
 | some v,some u=>RelV v u
 | none,none=>True
 | _,_=>False
def KV {κ:Type}:List (κ × V)->List (κ × Value)->Prop:=Paired fun (p:κ × V) (q:κ × Value)=>p.1 = q.1/\RelV p.2 q.2
def kV:Key->V
 | .inl i=>.int i
 | .inr x=>.str x
inductive HO where
 | lst (xs:List V)
 | tup (xs:List V)
 | dK (kvs:List (Key × V)) | dT (kvs:List (List Key × V))
 | set (S:Int->Bool) (n:Nat)
 | ins (C dx:Addr) (fs:List (Str × V))
 | own (x:Addr)
 | xd (fs:List (Str × V))
 | met (f x:Addr)
 | rng (lo hi:Int)
 | frz (o:Obj) (u:HO)
 | tbl (ps:Array Value)
 | ext (φ:Heap->Prop)
abbrev Hp:=Addr->Option HO
def upd (H:Hp) (a:Addr) (o:HO):Hp:=fun b=>if b = a then some o else H b
theorem upd_same {H:Hp}{a:Addr}{o:HO}:upd H a o a = some o:=by unfold upd; rw [if_pos rfl]
theorem upd_ne {H:Hp}{a b:Addr}{o:HO} (h:b≠a):upd H a o b = H b:=by unfold upd; rw [if_neg h]
theorem ne_of {H:Hp}{a b:Addr}{o u:HO} (h:H a = some o) (h':H b = some u) (d:o≠u):a≠b:=by
 intro e; subst e; rw [h] at h'; exact d (Option.some.inj h')
theorem ne_of_none {H:Hp}{a b:Addr}{o:HO} (h:H a = some o) (h':H b = none):a≠b:=by
 intro e; subst e; rw [h] at h'; cases h'
section
variable (P:Program) (w:World)
def ObjOk (H:Hp) (h:Heap) (a:Addr):HO->Prop
 | .lst xs=>xs.length<=sizeLine/\∃ (its:List Value) (n:Nat),Vals xs its/\h.get? a = some { cls:=.type "list",data:=.seq its.toArray n }
 | .tup xs=>xs.length<=sizeLine/\∃ its:List Value,Vals xs its/\IsTup h a its.toArray
 | .dK kvs=>kvs.length<=sizeLine/\(a == sysModules) = false/\∃ vs,KV kvs vs/\h.DictOf (mixKind P w) a vs
 | .dT kvs=>kvs.length<=sizeLine/\(a == sysModules) = false/\∃ xs:List (List Key × Addr × Value),
   Paired (fun (p:List Key × V) (q:List Key × Addr × Value)=>p.1 = q.1/\H q.2.1 = some (.tup (p.1.map kV))/\RelV p.2 q.2.2) kvs xs /\
   ∃ o es ep,h.get? a = some o/\o.ExactDict/\o.data = .dict es ep/\es.toList = xs.map (entryOfKey (tupleKind (mixKind P w)))/\(xs.map (·.1)).Nodup
 | .set S n=>h.SetOf (intKind P w) a S n
 | .ins C dx fs=>H dx = some (.own a)/\fs.length<=1000/\dx≠a/\h.get? a = some (instObj C dx) /\
   ∃ mA,h.Ns1 dx mA/\(∀ f,RelO (fs.lookup f) (mA f))/\PySem.Within mA (fs.map (·.1))
 | .own _=>∃ o,h.get? a = some o
 | .xd fs=>∃ mA,h.Ns1 a mA/\∀ f,RelO (fs.lookup f) (mA f)
 | .rng lo hi=>∃ t u v,h.get? a = some { cls:=.type "range",data:=.fields #[.int lo t,.int hi u,.int 1 v] }
 | .frz o u=>h.get? a = some o/\ObjOk H h a u
 | .tbl ps=>h.get? a = some { cls:=.none,data:=.fields ps }
 | .met f x=>h.get? a = some (methodObj (.ref f) (.ref x))
 | .ext φ=>φ h/\(∃ o,h.get? a = some o)/\∀ h1 h2:Heap,φ h1->(∀ o,h1.get? a = some o->h2.get? a = some o)->φ h2
def HOk (H:Hp) (h:Heap):Prop:=∀ a o,H a = some o->ObjOk P w H h a o
end
section
variable {P:Program}{w:World}{H H':Hp}{h h':Heap}{a:Addr}{o:HO}
theorem ObjOk.lt (x:ObjOk P w H h a o):a < h.objs.size:=by
 cases o with
 | lst xs=>obtain ⟨_,_,_,_,e⟩:=x; exact Heap.lt_size e
 | tup xs=>obtain ⟨_,_,_,p⟩:=x; exact p.lt
 | dK kvs=>obtain ⟨_,_,_,_,o,_,_,e,_⟩:=x; exact Heap.lt_size e
 | dT kvs=>obtain ⟨_,_,_,_,o,_,_,e,_⟩:=x; exact Heap.lt_size e
 | set S n=>obtain ⟨o,_,_,_,e,_⟩:=x; exact Heap.lt_size e
 | ins C dx fs=>obtain ⟨_,_,_,e,_⟩:=x; exact Heap.lt_size e
 | own y=>obtain ⟨_,e⟩:=x; exact Heap.lt_size e
 | xd fs=>obtain ⟨_,⟨_,_,_,e,_⟩,_⟩:=x; exact Heap.lt_size e
 | rng lo hi=>obtain ⟨_,_,_,e⟩:=x; exact Heap.lt_size e
 | frz ob u=>obtain ⟨e,_⟩:=x; exact Heap.lt_size e
 | tbl ps=>exact Heap.lt_size (show h.get? a = some _ from x)
 | met f y=>exact Heap.lt_size (show h.get? a = some _ from x)
 | ext φ=>obtain ⟨_,⟨_,e⟩,_⟩:=x; exact Heap.lt_size e
theorem Paired.mapP {α β:Type}{F G:α->β->Prop}:∀ {l₁:List α}{l₂:List β},Paired F l₁ l₂->(∀ a b,F a b->G a b)->Paired G l₁ l₂
 | _,_,.nil,_=>.nil
 | _,_,.cons r t,f=>.cons (f _ _ r) (Paired.mapP t f)
theorem ObjOk.stay (x:ObjOk P w H h a o) (k:∀ b u,(b = a\/H b = some (.own a))->h.get? b = some u->h'.get? b = some u)
  (ho:∀ b,H b = some (.own a)->H' b = some (.own a)) (ht:∀ b xs,H b = some (.tup xs)->H' b = some (.tup xs)):ObjOk P w H' h' a o:=by
 induction o with
 | lst xs=>obtain ⟨z,its,n,r,e⟩:=x; exact ⟨z,its,n,r,k _ _ (.inl rfl) e⟩
 | tup xs=>obtain ⟨z,its,r,ob,e,c⟩:=x; exact ⟨z,its,r,ob,k _ _ (.inl rfl) e,c⟩
 | dK kvs=>obtain ⟨z,y,vs,r,ob,es,ep,e,c⟩:=x; exact ⟨z,y,vs,r,ob,es,ep,k _ _ (.inl rfl) e,c⟩
 | dT kvs=>
  obtain ⟨z,y,xs,r,ob,es,ep,e,c⟩:=x
  exact ⟨z,y,xs,Paired.mapP r fun p q z=>⟨z.1,ht _ _ z.2.1,z.2.2⟩,ob,es,ep,k _ _ (.inl rfl) e,c⟩
 | set S n=>obtain ⟨ob,es,ep,t,e,c⟩:=x; exact ⟨ob,es,ep,t,k _ _ (.inl rfl) e,c⟩
 | ins C dx fs=>
  obtain ⟨d,z,ne,e,mA,⟨od,es,ep,e2,c⟩,r⟩:=x
  exact ⟨ho _ d,z,ne,k _ _ (.inl rfl) e,mA,⟨od,es,ep,k _ _ (.inr d) e2,c⟩,r⟩
 | own y=>obtain ⟨ob,e⟩:=x; exact ⟨ob,k _ _ (.inl rfl) e⟩
 | xd fs=>obtain ⟨mA,⟨od,es,ep,e,c⟩,r⟩:=x; exact ⟨mA,⟨od,es,ep,k _ _ (.inl rfl) e,c⟩,r⟩
 | rng lo hi=>obtain ⟨t,u,v,e⟩:=x; exact ⟨t,u,v,k _ _ (.inl rfl) e⟩
 | frz ob u ih=>obtain ⟨e,q⟩:=x; exact ⟨k _ _ (.inl rfl) e,ih q⟩
 | tbl ps=>
  have e:h.get? a = some { cls:=.none,data:=.fields ps }:=x
  show h'.get? a = some { cls:=.none,data:=.fields ps }
  exact k a _ (.inl rfl) e
 | met f y=>
  have e:h.get? a = some (methodObj (.ref f) (.ref y)):=x
  show h'.get? a = some (methodObj (.ref f) (.ref y))
  exact k a _ (.inl rfl) e
 | ext φ=>obtain ⟨p,⟨o,e⟩,st⟩:=x; exact ⟨st _ _ p fun o q=>k _ _ (.inl rfl) q,⟨o,k _ _ (.inl rfl) e⟩,st⟩
theorem HOk.lt (x:HOk P w H h) (e:H a = some o):a < h.objs.size:=(x a o e).lt
theorem HOk.fresh (x:HOk P w H h) (e:h.objs.size<=a):H a = none:=by
 cases q:H a with
 | none=>rfl
 | some u=>exact absurd (Nat.lt_of_lt_of_le (x.lt q) e) (Nat.lt_irrefl _)
theorem HOk.kept (x:HOk P w H h) (k:∀ b u,h.get? b = some u->h'.get? b = some u):HOk P w H h':=fun a o e=>
 (x a o e).stay (fun b u _ q=>k b u q) (fun _ q=>q) fun _ _ q=>q
theorem HOk.laid (x:HOk P w H h) (k:∀ b u,h.get? b = some u->h'.get? b = some u) (hp:h.objs.size<=a) (new:ObjOk P w (upd H a o) h' a o):HOk P w (upd H a o) h':=fun b u e=>by
 have hn:=x.fresh hp
 by_cases hb:b = a
 ·subst hb; rw [upd_same] at e; cases e; exact new
 ·rw [upd_ne hb] at e
  exact (x b u e).stay (fun c v _ q=>k c v q) (fun c q=>by rw [upd_ne (ne_of_none q hn)]; exact q) fun c xs q=>by rw [upd_ne (ne_of_none q hn)]; exact q
end
def Rd (H:Hp) (a:Addr) (u:HO):Prop:=H a = some u\/∃ o,H a = some (.frz o u)
theorem Rd.ok {P:Program}{w:World}{H:Hp}{h:Heap}{a:Addr}{u:HO} (r:Rd H a u) (x:HOk P w H h):ObjOk P w H h a u:=by
 rcases r with r | ⟨o,r⟩
 ·exact x a u r
 ·obtain ⟨_,q⟩:=x a _ r
  exact q
def Mut:Option HO->Prop
 | some (.lst _)=>True
 | some (.dK _)=>True
 | some (.dT _)=>True
 | some (.set _ _)=>True
 | some (.ins _ _ _)=>True
 | some (.ext _)=>True
 | _=>False
section
variable {P:Program}{w:World}{H:Hp}{h h':Heap}{x e:Addr}{o':HO}
theorem HOk.write (ok:HOk P w H h) (mu:Mut (H x)) (he:e = x\/H e = some (.own x)) (k:∀ b u,b≠e->h.get? b = some u->h'.get? b = some u) (heo:∃ u,h'.get? e = some u)
  (new:ObjOk P w (upd H x o') h' x o'):HOk P w (upd H x o') h':=fun b u q=>by
 have nown:∀ c y,H c = some (.own y)->c≠x:=fun c y r z=>by subst z; rw [r] at mu; exact mu
 have ntup:∀ c xs,H c = some (.tup xs)->c≠x:=fun c xs r z=>by subst z; rw [r] at mu; exact mu
 by_cases hb:b = x
 ·subst hb; rw [upd_same] at q; cases q; exact new
 ·rw [upd_ne hb] at q
  by_cases hbe:b = e
  ·have q':H b = some (.own x):=by
    rcases he with z | z
    ·exact absurd (hbe.trans z) hb
    ·rw [hbe]; exact z
   rw [q] at q'; cases q'
   obtain ⟨v,hv⟩:=heo
   exact ⟨v,by rw [hbe]; exact hv⟩
  ·refine (ok b u q).stay (fun c v hc r=>k c v ?_ r) (fun c r=>by rw [upd_ne (nown c b r)]; exact r) fun c xs r=>by rw [upd_ne (ntup c xs r)]; exact r
   rcases hc with rfl | hc
   ·exact hbe
   ·rintro rfl
    rcases he with z | z
    ·exact nown c b hc z
    ·rw [hc] at z; cases z; exact hb rfl
end
structure Un (fs ex:List Addr) (H H':Hp) (h h':Heap):Prop where
 keep:∀ b o,h.get? b = some o->H b = none->b ∉ fs->b ∉ ex->h'.get? b = some o
 slot:∀ b o,h.get? b = some o->H b = none->b∈fs->b ∉ ex->∃ sl,h'.get? b = some { o with slots:=sl }
 free:∀ b o,h.get? b = some o->H b = none->b ∉ ex->H' b = none
 there:∀ b o,h.get? b = some o->b ∉ ex->∃ o',h'.get? b = some o'
 tups:∀ b xs,H b = some (.tup xs)->H' b = some (.tup xs)
 frzs:∀ b o u,H b = some (.frz o u)->H' b = some (.frz o u)
 tbls:∀ b ps,H b = some (.tbl ps)->∃ more,H' b = some (.tbl (ps ++ more))
section
variable {fs fs' ex ex':List Addr}{H H1 H2:Hp}{h h1 h2 h':Heap}{a x e:Addr}{o:HO}
theorem Un.any (u:Un fs ex H H1 h h1) {b:Addr}{ob:Obj} (q:h.get? b = some ob) (n:H b = none) (hx:b ∉ ex):∃ sl,h1.get? b = some { ob with slots:=sl }:=by
 by_cases hb:b∈fs
 ·exact u.slot b ob q n hb hx
 ·exact ⟨ob.slots,u.keep b ob q n hb hx⟩
theorem Un.kept (k:∀ b u,h.get? b = some u->h'.get? b = some u):Un fs ex H H h h':=
 ⟨fun b ob q _ _ _=>k b ob q,fun b ob q _ _ _=>⟨ob.slots,k b ob q⟩,fun _ _ _ n _=>n,fun b ob q _=>⟨ob,k b ob q⟩,fun _ _ q=>q,fun _ _ _ q=>q,fun _ ps q=>⟨#[],by rw [q]; simp⟩⟩
theorem Un.refl:Un fs ex H H h h:=Un.kept fun _ _ q=>q
theorem Un.laid (k:∀ b u,h.get? b = some u->h'.get? b = some u) (hp:h.objs.size<=a) (hn:H a = none):Un fs ex H (upd H a o) h h' where
 keep:=fun b u q _ _ _=>k b u q
 slot:=fun b u q _ _ _=>⟨u.slots,k b u q⟩
 free:=fun b u q n _=>by rw [upd_ne (Nat.ne_of_lt (Nat.lt_of_lt_of_le (Heap.lt_size q) hp))]; exact n
 there:=fun b u q _=>⟨u,k b u q⟩
 tups:=fun b xs q=>by rw [upd_ne (ne_of_none q hn)]; exact q
 frzs:=fun b u xs q=>by rw [upd_ne (ne_of_none q hn)]; exact q
 tbls:=fun b ps q=>⟨#[],by rw [upd_ne (ne_of_none q hn),q]; simp⟩
theorem Un.write (mu:Mut (H x)) (he:e = x\/H e = some (.own x)) (k:∀ b u,b≠e->h.get? b = some u->h'.get? b = some u) (heo:∃ u,h'.get? e = some u):Un fs ex H (upd H x o) h h':=by
 have hx:∀ b,H b = none->b≠x:=fun b n z=>by subst z; rw [n] at mu; exact mu
 have hb:∀ b,H b = none->b≠e:=fun b n z=>by
  subst z
  rcases he with r | r
  ·exact hx b n r
  ·rw [n] at r; cases r
 have hm:∀ b u,H b = some u->¬ Mut (some u)->b≠x:=fun b u q nm z=>by subst z; rw [q] at mu; exact nm mu
 refine ⟨fun b u q n _ _=>k b u (hb b n) q,fun b u q n _ _=>⟨u.slots,k b u (hb b n) q⟩,fun b u q n _=>by rw [upd_ne (hx b n)]; exact n,fun b u q _=>?_,
  fun b xs q=>by rw [upd_ne (hm b _ q fun z=>z)]; exact q,fun b u xs q=>by rw [upd_ne (hm b _ q fun z=>z)]; exact q,fun b ps q=>⟨#[],by rw [upd_ne (hm b _ q fun z=>z),q]; simp⟩⟩
 by_cases hbe:b = e
 ·subst hbe; exact heo
 ·exact ⟨u,k b u hbe q⟩
end
def trk (h:Heap) (H:Hp):List Addr:=(List.range h.objs.size).filter fun a=>(H a).isSome
def hidT (h:Heap) (H:Hp):Heap:=PySem.W.hideAll h (trk h H)
theorem hidT_size (h:Heap) (H:Hp):(hidT h H).objs.size = h.objs.size:=PySem.W.hideAll_size _ _
theorem hidT_get {h:Heap}{H:Hp}{b:Addr}{o:Obj} (e:h.get? b = some o) (n:H b = none):(hidT h H).get? b = some o:=
 PySem.W.hideAll_get _ e fun hm=>by
  have q:(H b).isSome = true:=(List.mem_filter.mp hm).2
  rw [n] at q; simp at q
theorem of_hidT {h:Heap}{H:Hp}{b:Addr}{o:Obj} (e:(hidT h H).get? b = some o):h.get? b = some o/\H b = none:=by
 have e':h.get? b = some o:=PySem.W.of_hideAll (trk h H) e
 refine ⟨e',?_⟩
 cases q:H b with
 | none=>rfl
 | some x=>
  have hm:b∈trk h H:=List.mem_filter.mpr ⟨List.mem_range.mpr (Heap.lt_size e'),by simp [q]⟩
  have z:(hidT h H).get? b = none:=PySem.W.hideAll_none (trk h H) hm
  rw [z] at e; cases e
def allNews (g h:Heap) (L:Addr):List (Addr × Obj):=(List.range h.objs.size).filterMap fun a=>if a = L\/(g.get? a).isSome = true then none else (h.get? a).map fun o=>(a,o)
def rest (g h:Heap) (L d:Addr):List (Addr × Obj):=(allNews g h L).filter fun p=>decide (p.1≠d)
structure Mod (K:PySem.W.Frag) (mg:Str->Option Value) (base:Heap):Prop where
 kin:K.In base
 glob:base.Ns mainGlobals mg
 blt:∃ mb,base.Ns builtinsNs mb/\∀ x:Str,x≠"__name__"->mb x = bootBuiltins x
 nolimit:base.NoLimit
structure Cx where
 prog:Program
 w:World
 K:PySem.W.Frag
 mg:Str->Option Value
 base:Heap
 A:Around
 N:List Str
 s₀:Shared
 H₀:Hp
 env:Env
 outer:List Env
 stack:List Env
 ex:List Addr
 fn:Str->Bool
 calm:Bool
 pn:List (Addr × Obj)
 xe:Value->Shared->Prop
def frs (l:List Env):List Addr:=l.filterMap (·.frame)
abbrev Cx.fs (X:Cx):List Addr:=frs X.outer
def Vis (sc:Scope) (x:Str):Prop:=sc.names.lookup x = some .local\/sc.names.lookup x = some .cell\/sc.names.lookup x = some .free
def Loc (sc:Scope) (x:Str):Prop:=sc.names.lookup x = some .local\/sc.names.lookup x = some .cell
def Look (env:Env) (h:Heap) (m:Str->Option Value) (x:Str) (u:Value):Prop:=
 (env.kindOf x = some .local/\m x = some u)\/((env.kindOf x = some .cell\/env.kindOf x = some .free)/\∃ c,env.cells.lookup x = some c/\h.IsCell c (some u))
structure Cx.Ok (X:Cx):Prop where
 mod:Mod X.K X.mg X.base
 kind:X.env.scope.kind = .function
 glob:X.env.globals = mainGlobals
 blt:X.env.builtins = builtinsNs
 above:X.s₀.heap.objs.size<=X.env.locals
 inj:∀ x y c,X.env.cells.lookup x = some c->X.env.cells.lookup y = some c->x = y
 has:∀ x,(X.env.kindOf x = some .cell\/X.env.kindOf x = some .free)->∃ c,X.env.cells.lookup x = some c
 cab:∀ x c,X.fn x = true->X.env.cells.lookup x = some c->X.s₀.heap.objs.size<=c
 hd:X.calm = true->X.A.handled = none
 frames:X.A.frames = some X.stack
 stk:X.stack = X.outer\/(X.stack = X.env :: X.outer/\X.env.frame = some X.env.locals)
 exf:∀ b∈X.ex,b≠X.env.locals/\∀ x c,X.env.cells.lookup x = some c->c≠b
 bs:∀ b o,X.base.get? b = some o->X.s₀.heap.get? b = some o/\X.H₀ b = none
 bsz:X.base.objs.size<=X.s₀.heap.objs.size
 noex:∀ b o,X.base.get? b = some o->b ∉ X.ex
 exfs:∀ b∈X.ex,b ∉ X.fs
 funs:X.s₀.heap.FunFrames X.base X.outer
 frf:∀ b∈X.fs,X.H₀ b = none
structure Inv (X:Cx) (zp:List (Addr × Obj)) (σ:List (Option V)) (H:Hp) (s:Shared):Prop where
 ok:X.Ok
 os:s.os = X.s₀.os
 bare:AllBare s.gens
 base:Un X.fs X.ex X.H₀ H X.s₀.heap s.heap
 loc:∃ m,s.heap.Ns X.env.locals m/\∀ (i:Nat) (x:Str) (v:V),X.N[i]? = some x->σ[i]? = some (some v)->Vis X.env.scope x->∃ u,RelV v u/\Look X.env s.heap m x u
 cell:∀ x c,X.env.cells.lookup x = some c->∃ v,s.heap.IsCell c v
 free:H X.env.locals = none
 freeC:∀ x c,X.env.cells.lookup x = some c->H c = none
 pin:∀ p∈X.pn ++ zp,s.heap.get? p.1 = some p.2/\H p.1 = none/\p.1≠X.env.locals/\p.1 ∉ X.fs/\∀ v,p.2.data≠.cell v
 hok:HOk X.prog X.w H s.heap
 len:σ.length = X.N.length
section
variable {X:Cx}{zp:List (Addr × Obj)}{σ:List (Option V)}{H H':Hp}{s:Shared}{h':Heap}
theorem Cx.Ok.nofr (ok:X.Ok) {b:Addr}{o:Obj} (e:X.base.get? b = some o):b ∉ X.fs:=fun hb=>by
 have:=(ok.funs.mem hb).1
 rw [e] at this; cases this
theorem Inv.bs (I:Inv X zp σ H s):∀ b o,X.base.get? b = some o->s.heap.get? b = some o/\H b = none:=fun b o e=>
 ⟨I.base.keep b o (I.ok.bs b o e).1 (I.ok.bs b o e).2 (I.ok.nofr e) (I.ok.noex b o e),I.base.free b o (I.ok.bs b o e).1 (I.ok.bs b o e).2 (I.ok.noex b o e)⟩
theorem Inv.bk (I:Inv X zp σ H s):∀ b o,X.base.get? b = some o->s.heap.get? b = some o:=fun b o e=>(I.bs b o e).1
theorem Inv.mod (I:Inv X zp σ H s):Mod X.K X.mg X.base:=I.ok.mod
theorem Inv.kIn (I:Inv X zp σ H s):X.K.In s.heap:=I.ok.mod.kin.keeps I.bk
theorem Inv.lt (I:Inv X zp σ H s):X.env.locals < s.heap.objs.size:=let ⟨_,hn,_⟩:=I.loc; hn.lt
theorem Inv.sz (I:Inv X zp σ H s):X.s₀.heap.objs.size<=s.heap.objs.size:=Nat.le_trans I.ok.above (Nat.le_of_lt I.lt)
theorem Inv.nofs (I:Inv X zp σ H s) {a:Addr} (h:s.heap.objs.size<=a):a ∉ X.fs:=fun hb=>by
 obtain ⟨_,o,ho,_⟩:=I.ok.funs.mem hb
 exact absurd (Nat.lt_of_lt_of_le (Heap.lt_size ho) (Nat.le_trans I.sz h)) (Nat.lt_irrefl _)
theorem Inv.cne (I:Inv X zp σ H s):∀ x c,X.env.cells.lookup x = some c->c≠X.env.locals:=fun x c e z=>by
 obtain ⟨v,o,ho,hd⟩:=I.cell x c e
 obtain ⟨m,⟨o',es,ep,ho',hd',_⟩,_⟩:=I.loc
 rw [z,ho'] at ho; cases ho; rw [hd'] at hd; cases hd
theorem Inv.funs (I:Inv X zp σ H s):s.heap.FunFrames X.base X.outer:=by
 have all:∀ (l:List Env),(∀ b∈frs l,b∈X.fs)->X.s₀.heap.FunFrames X.base l->s.heap.FunFrames X.base l:=by
  intro l
  induction l with
  | nil=>intro _ _; trivial
  | cons env r ih=>
   intro hs hl
   obtain ⟨hk,⟨L,o,hf,hn,ho,hd⟩,hr⟩:=hl
   have hL:L∈X.fs:=hs L (by unfold frs; rw [List.filterMap_cons,hf]; exact List.mem_cons_self)
   obtain ⟨sl,e⟩:=I.base.slot L o ho (I.ok.frf L hL) hL fun z=>I.ok.exfs L z hL
   exact ⟨hk,⟨L,_,hf,hn,e,hd⟩,ih (fun b hb=>hs b (by unfold frs; rw [List.filterMap_cons,hf]; exact List.mem_cons_of_mem _ hb)) hr⟩
 exact all X.outer (fun _ hb=>hb) I.ok.funs
theorem Inv.stack (I:Inv X zp σ H s):s.heap.FunFrames X.base X.stack:=by
 rcases I.ok.stk with e | ⟨e,hf⟩
 ·rw [e]; exact I.funs
 ·rw [e]
  obtain ⟨m,hn,_⟩:=I.loc
  refine .cons (by rw [I.ok.kind]; decide) hf hn ?_ I.funs
  exact Heap.get?_none_of_le (Nat.le_trans I.ok.bsz I.ok.above)
theorem Inv.stkSub (I:Inv X zp σ H s):∀ b∈frs X.stack,b∈X.env.locals :: X.fs:=fun b hb=>by
 rcases I.ok.stk with e | ⟨e,hf⟩
 ·rw [e] at hb; exact List.mem_cons_of_mem _ hb
 ·rw [e] at hb
  unfold frs at hb
  rw [List.filterMap_cons,hf] at hb
  exact hb
theorem Inv.stkFree (I:Inv X zp σ H s):∀ b∈frs X.stack,H b = none:=fun b hb=>by
 rcases List.mem_cons.mp (I.stkSub b hb) with e | hb
 ·rw [e]; exact I.free
 ·obtain ⟨_,o,ho,_⟩:=I.ok.funs.mem hb
  exact I.base.free b o ho (I.ok.frf b hb) fun z=>I.ok.exfs b z hb
theorem Inv.step {g':Array GenState}{t':Nat}{d':Drawn}{ch:List Addr} (I:Inv X zp σ H s)
  (hch:∀ b∈ch,(b∈X.ex\/X.s₀.heap.objs.size<=b)/\b≠X.env.locals/\(∀ x c,X.env.cells.lookup x = some c->c≠b)/\∀ p∈X.pn ++ zp,p.1≠b)
  (keep:∀ b o,b≠X.env.locals->b ∉ X.fs->b ∉ ch->s.heap.get? b = some o->H b = none->h'.get? b = some o)
  (slot:∀ b o,b≠X.env.locals->b∈X.fs->b ∉ ch->s.heap.get? b = some o->H b = none->∃ sl,h'.get? b = some { o with slots:=sl }) (free:∀ b o,b ∉ ch->s.heap.get? b = some o->H b = none->H' b = none)
  (there:∀ b o,b ∉ ch->s.heap.get? b = some o->∃ o',h'.get? b = some o')
  (tups:∀ b xs,H b = some (.tup xs)->H' b = some (.tup xs)) (frzs:∀ b o u,H b = some (.frz o u)->H' b = some (.frz o u)) (tbls:∀ b ps,H b = some (.tbl ps)->∃ more,H' b = some (.tbl (ps ++ more)))
  (ns:∀ m,s.heap.Ns X.env.locals m->h'.Ns X.env.locals m) (hok:HOk X.prog X.w H' h') (hg:AllBare g'):
  Inv X zp σ H' { s with heap:=h',gens:=g',drawn:=d',toks:=t' }:=by
 have neL:∀ b o,X.s₀.heap.get? b = some o->b≠X.env.locals:=fun b o e=>Nat.ne_of_lt (Nat.lt_of_lt_of_le (Heap.lt_size e) I.ok.above)
 have neC:∀ b o,X.s₀.heap.get? b = some o->b ∉ X.ex->b ∉ ch:=fun b o e hx hb=>by
  rcases (hch b hb).1 with z | z
  ·exact hx z
  ·exact absurd (Nat.lt_of_lt_of_le (Heap.lt_size e) z) (Nat.lt_irrefl _)
 have cellK:∀ x c,X.env.cells.lookup x = some c->∀ v,s.heap.IsCell c v->h'.IsCell c v:=fun x c e v ⟨o,ho,hd⟩=>by
  have nch:c ∉ ch:=fun z=>(hch c z).2.2.1 x c e rfl
  by_cases hc:c∈X.fs
  ·obtain ⟨sl,q⟩:=slot c o (I.cne x c e) hc nch ho (I.freeC x c e)
   exact ⟨_,q,hd⟩
  ·exact ⟨o,keep c o (I.cne x c e) hc nch ho (I.freeC x c e),hd⟩
 refine ⟨I.ok,I.os,hg,⟨fun b o e n hb hx=>?_,fun b o e n hb hx=>?_,fun b o e n hx=>?_,fun b o e hx=>?_,fun b xs e=>tups b xs (I.base.tups b xs e),fun b o xs e=>frzs b o xs (I.base.frzs b o xs e),fun b ps e=>?_⟩,?_,fun x c e=>?_,?_,fun x c e=>?_,fun p hp=>?_,hok,I.len⟩
 ·exact keep b o (neL b o e) hb (neC b o e hx) (I.base.keep b o e n hb hx) (I.base.free b o e n hx)
 ·obtain ⟨sl,e1⟩:=I.base.slot b o e n hb hx
  obtain ⟨sl',e2⟩:=slot b _ (neL b o e) hb (neC b o e hx) e1 (I.base.free b o e n hx)
  exact ⟨sl',e2⟩
 ·obtain ⟨o',e1⟩:=I.base.there b o e hx
  exact free b o' (neC b o e hx) e1 (I.base.free b o e n hx)
 ·obtain ⟨o',e1⟩:=I.base.there b o e hx
  exact there b o' (neC b o e hx) e1
 ·obtain ⟨m1,e1⟩:=I.base.tbls b ps e
  obtain ⟨m2,e2⟩:=tbls b _ e1
  exact ⟨m1 ++ m2,by rw [e2,Array.append_assoc]⟩
 ·obtain ⟨m,hn,hl⟩:=I.loc
  refine ⟨m,ns m hn,fun i x v e1 e2 e3=>?_⟩
  obtain ⟨u,r,l⟩:=hl i x v e1 e2 e3
  refine ⟨u,r,?_⟩
  rcases l with l | ⟨k,c,e,z⟩
  ·exact .inl l
  ·exact .inr ⟨k,c,e,cellK x c e _ z⟩
 ·obtain ⟨v,z⟩:=I.cell x c e
  exact ⟨v,cellK x c e v z⟩
 ·obtain ⟨m,⟨o,_,_,ho,_⟩,_⟩:=I.loc
  exact free _ o (fun z=>(hch _ z).2.1 rfl) ho I.free
 ·obtain ⟨v,o,ho,hd⟩:=I.cell x c e
  exact free c o (fun z=>(hch c z).2.2.1 x c e rfl) ho (I.freeC x c e)
 ·obtain ⟨e,n,ne,nf,d⟩:=I.pin p hp
  have nch:p.1 ∉ ch:=fun z=>(hch p.1 z).2.2.2 p hp rfl
  exact ⟨keep p.1 p.2 ne nf nch e n,free p.1 p.2 nch e n,ne,nf,d⟩
theorem Inv.un {t':Nat} (I:Inv X zp σ H s) (u:Un X.fs [] H H' s.heap h') (hok:HOk X.prog X.w H' h'):Inv X zp σ H' { s with heap:=h',toks:=t' }:=by
 obtain ⟨m,⟨o,es,ep,ho,r⟩,_⟩:=id I.loc
 obtain ⟨sl,hL⟩:=u.any ho I.free (by simp)
 exact I.step (g':=s.gens) (d':=s.drawn) (ch:=[]) (fun _ z=>nomatch z) (fun b o _ hb _ e n=>u.keep b o e n hb (by simp)) (fun b o _ hb _ e n=>u.slot b o e n hb (by simp)) (fun b o _ e n=>u.free b o e n (by simp)) (fun b o _ e=>u.there b o e (by simp)) u.tups u.frzs u.tbls (fun m' hm=>by
  obtain ⟨o',es',ep',ho',r'⟩:=hm
  rw [ho] at ho'; cases ho'
  exact ⟨_,es',ep',hL,r'⟩) hok I.bare
theorem Inv.call {g':Array GenState}{t':Nat}{d':Drawn}{ch:List Addr} (I:Inv X zp σ H s) (u:Un (frs X.stack) ch H H' s.heap h') (hok:HOk X.prog X.w H' h') (hg:AllBare g')
  (hch:∀ b∈ch,(b∈X.ex\/X.s₀.heap.objs.size<=b)/\b≠X.env.locals/\(∀ x c,X.env.cells.lookup x = some c->c≠b)/\∀ p∈X.pn ++ zp,p.1≠b):
  Inv X zp σ H' { s with heap:=h',gens:=g',drawn:=d',toks:=t' }:=by
 obtain ⟨m,⟨o,es,ep,ho,r⟩,_⟩:=id I.loc
 obtain ⟨sl,hL⟩:=u.any ho I.free fun z=>(hch _ z).2.1 rfl
 exact I.step (ch:=ch) hch (fun b o hL hb hc e n=>u.keep b o e n (fun z=>(List.mem_cons.mp (I.stkSub b z)).elim hL hb) hc) (fun b o _ _ hc e n=>u.any e n hc) (fun b o hc e n=>u.free b o e n hc) (fun b o hc e=>u.there b o e hc) u.tups u.frzs u.tbls (fun m' hm=>by
  obtain ⟨o',es',ep',ho',r'⟩:=hm
  rw [ho] at ho'; cases ho'
  exact ⟨_,es',ep',hL,r'⟩) hok hg
theorem Inv.turned {t':Nat}{it:Addr} (I:Inv X zp σ H s) (k:∀ b o,b≠it->s.heap.get? b = some o->h'.get? b = some o) (hn:H it = none) (hL:it≠X.env.locals)
  (h1:it∈X.ex\/X.s₀.heap.objs.size<=it) (h2:∀ x c,X.env.cells.lookup x = some c->c≠it) (h3:∀ p∈X.pn ++ zp,p.1≠it):Inv X zp σ H { s with heap:=h',toks:=t' }:=by
 have nit:∀ b u,H b = some u->b≠it:=fun b u e z=>by rw [z,hn] at e; cases e
 refine I.step (g':=s.gens) (d':=s.drawn) (ch:=[it]) (fun b hb=>?_) (fun b o _ _ hc e _=>k b o (fun z=>hc (by simp [z])) e) (fun b o _ _ hc e _=>⟨o.slots,k b o (fun z=>hc (by simp [z])) e⟩) (fun _ _ _ _ n=>n)
  (fun b o hc e=>⟨o,k b o (fun z=>hc (by simp [z])) e⟩) (fun _ _ e=>e) (fun _ _ _ e=>e) (fun b ps e=>⟨#[],by rw [e]; simp⟩) (fun m hm=>?_) (fun b u e=>?_) I.bare
 ·have e:b = it:=by simpa using hb
  subst e
  exact ⟨h1,hL,h2,h3⟩
 ·obtain ⟨o,es,ep,ho,r⟩:=hm
  exact ⟨o,es,ep,k _ o (Ne.symm hL) ho,r⟩
 ·refine (I.hok b u e).stay (fun c v hc q=>k c v ?_ q) (fun _ q=>q) fun _ _ q=>q
  rcases hc with z | z
  ·rw [z]; exact nit b u e
  ·exact nit c _ z
theorem Inv.tok (I:Inv X zp σ H s) (t:Nat):Inv X zp σ H { s with toks:=t }:=I.un (h':=s.heap) (t':=t) Un.refl I.hok
theorem Inv.kept {t':Nat} (I:Inv X zp σ H s) (k:∀ b u,s.heap.get? b = some u->h'.get? b = some u):Inv X zp σ H { s with heap:=h',toks:=t' }:=I.un (Un.kept k) (I.hok.kept k)
theorem Inv.laid {a:Addr}{o:HO}{t':Nat} (I:Inv X zp σ H s) (k:∀ b u,s.heap.get? b = some u->h'.get? b = some u) (hp:s.heap.objs.size<=a) (new:ObjOk X.prog X.w (upd H a o) h' a o):
  Inv X zp σ (upd H a o) { s with heap:=h',toks:=t' }:=I.un (Un.laid k hp (I.hok.fresh hp)) (I.hok.laid k hp new)
theorem Inv.write {x e:Addr}{o:HO}{t':Nat} (I:Inv X zp σ H s) (mu:Mut (H x)) (he:e = x\/H e = some (.own x)) (k:∀ b u,b≠e->s.heap.get? b = some u->h'.get? b = some u) (heo:∃ u,h'.get? e = some u)
  (new:ObjOk X.prog X.w (upd H x o) h' x o):Inv X zp σ (upd H x o) { s with heap:=h',toks:=t' }:=I.un (Un.write mu he k heo) (I.hok.write mu he k heo new)
theorem Inv.weak {σ':List (Option V)} (I:Inv X zp σ H s) (hl:σ'.length = σ.length) (w:∀ (i:Nat) v,σ'[i]? = some (some v)->σ[i]? = some (some v)):Inv X zp σ' H s:=
 ⟨I.ok,I.os,I.bare,I.base,let ⟨m,hn,hl'⟩:=I.loc; ⟨m,hn,fun i x v e1 e2 e3=>hl' i x v e1 (w i v e2) e3⟩,I.cell,I.free,I.freeC,I.pin,I.hok,hl.trans I.len⟩
theorem Inv.pins_of {pins':List (Addr × Obj)} (I:Inv X zp σ H s) (h:∀ p∈pins',s.heap.get? p.1 = some p.2/\H p.1 = none/\p.1≠X.env.locals/\p.1 ∉ X.fs/\∀ v,p.2.data≠.cell v):Inv X pins' σ H s:=
 ⟨I.ok,I.os,I.bare,I.base,I.loc,I.cell,I.free,I.freeC,fun p hp=>(List.mem_append.mp hp).elim (fun z=>I.pin p (List.mem_append_left _ z)) (h p),I.hok,I.len⟩
theorem nodup_ix {N:List Str} (hN:N.Nodup) {i j:Nat}{x:Str} (a:N[i]? = some x) (b:N[j]? = some x):i = j:=by
 obtain ⟨h1,e1⟩:=List.getElem?_eq_some_iff.mp a
 obtain ⟨h2,e2⟩:=List.getElem?_eq_some_iff.mp b
 exact (List.getElem_inj hN).mp (e1.trans e2.symm)
theorem store_ok2 {M:Model}{A:Around}{E:Value->Shared->Prop}{i:Nat}{x:Str}{v:V}{u:Value}{Q:Unit->Shared->Prop} (I:Inv X zp σ H s) (hN:X.N.Nodup) (hi:X.N[i]? = some x) (hx:Loc X.env.scope x) (r:RelV v u)
  (h:∀ s',Inv X zp (σ.set i (some v)) H s'->(∃ a,Heap.SameBut a s.heap s'.heap/\(a = X.env.locals\/X.env.cells.lookup x = some a))->Q () s') (hf:X.fn x = true\/X.env.scope.names.lookup x = some .local:=by first | exact .inl rfl | exact .inr rfl | assumption):wpAny M A (storeName X.env x u) Q E s:=by
 obtain ⟨m,hn,hl⟩:=id I.loc
 have hcls:(X.env.scope.kind == .class || (X.env.scope.kind == .module && X.env.locals != X.env.globals)) = false:=by rw [I.ok.kind]; rfl
 have hiσ:i < σ.length:=by rw [I.len]; exact (List.getElem?_eq_some_iff.mp hi).1
 have cne:=I.cne
 have tracked:∀ {a:Addr}{h':Heap},(∃ o,s.heap.get? a = some o/\H a = none)->Heap.SameBut a s.heap h'->HOk X.prog X.w H h':=fun {a h'} ha hs b ob e=>by
  obtain ⟨_,_,hfree⟩:=ha
  refine (I.hok b ob e).stay (fun c w' hc q=>(hs.2 c ?_).trans q) (fun _ q=>q) fun _ _ q=>q
  rintro rfl
  rcases hc with rfl | hc
  ·rw [hfree] at e; cases e
  ·rw [hfree] at hc; cases hc
 rcases hx with hk | hk
 ·refine wpAny_storeName_local hk hn (fun h' hn' hs=>?_) hcls
  obtain ⟨oL,_,_,hoL,_⟩:=id hn
  refine h _ ⟨I.ok,I.os,I.bare,⟨fun b o e n hb hx=>?_,fun b o e n hb hx=>?_,I.base.free,fun b o e hx=>?_,I.base.tups,I.base.frzs,I.base.tbls⟩,⟨_,hn',fun j y v' e1 e2 e3=>?_⟩,fun y c e=>?_,I.free,I.freeC,fun p hp=>?_,tracked ⟨oL,hoL,I.free⟩ hs,by simpa using I.len⟩ ⟨_,hs,.inl rfl⟩
  ·exact (hs.2 b (Nat.ne_of_lt (Nat.lt_of_lt_of_le (Heap.lt_size e) I.ok.above))).trans (I.base.keep b o e n hb hx)
  ·obtain ⟨sl,e1⟩:=I.base.slot b o e n hb hx
   exact ⟨sl,(hs.2 b (Nat.ne_of_lt (Nat.lt_of_lt_of_le (Heap.lt_size e) I.ok.above))).trans e1⟩
  ·obtain ⟨o',e1⟩:=I.base.there b o e hx
   exact ⟨o',(hs.2 b (Nat.ne_of_lt (Nat.lt_of_lt_of_le (Heap.lt_size e) I.ok.above))).trans e1⟩
  ·by_cases hj:j = i
   ·subst hj
    rw [hi] at e1; cases e1
    rw [List.getElem?_set_self hiσ] at e2
    cases e2
    exact ⟨u,r,.inl ⟨hk,by simp⟩⟩
   ·rw [List.getElem?_set_ne (Ne.symm hj)] at e2
    obtain ⟨u',r',q⟩:=hl j y v' e1 e2 e3
    refine ⟨u',r',?_⟩
    rcases q with ⟨k,e⟩ | ⟨k,c,e,z⟩
    ·refine .inl ⟨k,?_⟩
     have:y≠x:=fun e=>hj (nodup_ix hN e1 (e ▸ hi))
     simp [this,e]
    ·exact .inr ⟨k,c,e,z.sameBut hs (cne y c e)⟩
  ·obtain ⟨w',z⟩:=I.cell y c e
   exact ⟨w',z.sameBut hs (cne y c e)⟩
  ·obtain ⟨e,n,ne,nf,d⟩:=I.pin p hp
   exact ⟨(hs.2 p.1 ne).trans e,n,ne,nf,d⟩
 ·have hfn:X.fn x = true:=by
   rcases hf with z | z
   ·exact z
   ·rw [z] at hk; cases hk
  obtain ⟨c,hc⟩:=I.ok.has x (.inl hk)
  obtain ⟨w',z⟩:=I.cell x c hc
  refine wpAny_storeName_cell I.ok.kind hk hc z (fun h' hc' hs=>?_)
  obtain ⟨oc,hoc,hocd⟩:=id z
  refine h { s with heap:=h' } ⟨I.ok,I.os,I.bare,⟨fun b o e n hb hx=>?_,fun b o e n hb hx=>?_,I.base.free,fun b o e hx=>?_,I.base.tups,I.base.frzs,I.base.tbls⟩,⟨m,hn.sameBut hs (Ne.symm (cne x c hc)),fun j y v' e1 e2 e3=>?_⟩,fun y c' e=>?_,I.free,I.freeC,fun p hp=>?_,tracked ⟨oc,hoc,I.freeC x c hc⟩ hs,by simpa using I.len⟩ ⟨c,hs,.inr hc⟩
  ·exact (hs.2 b (Nat.ne_of_lt (Nat.lt_of_lt_of_le (Heap.lt_size e) (I.ok.cab x c hfn hc)))).trans (I.base.keep b o e n hb hx)
  ·obtain ⟨sl,e1⟩:=I.base.slot b o e n hb hx
   exact ⟨sl,(hs.2 b (Nat.ne_of_lt (Nat.lt_of_lt_of_le (Heap.lt_size e) (I.ok.cab x c hfn hc)))).trans e1⟩
  ·obtain ⟨o',e1⟩:=I.base.there b o e hx
   exact ⟨o',(hs.2 b (Nat.ne_of_lt (Nat.lt_of_lt_of_le (Heap.lt_size e) (I.ok.cab x c hfn hc)))).trans e1⟩
  ·by_cases hj:j = i
   ·subst hj
    rw [hi] at e1; cases e1
    rw [List.getElem?_set_self hiσ] at e2
    cases e2
    exact ⟨u,r,.inr ⟨.inl hk,c,hc,hc'⟩⟩
   ·rw [List.getElem?_set_ne (Ne.symm hj)] at e2
    obtain ⟨u',r',q⟩:=hl j y v' e1 e2 e3
    refine ⟨u',r',?_⟩
    rcases q with q | ⟨k,c',e,z'⟩
    ·exact .inl q
    ·refine .inr ⟨k,c',e,z'.sameBut hs ?_⟩
     rintro rfl
     exact hj (nodup_ix hN e1 (I.ok.inj _ _ _ e hc ▸ hi))
  ·by_cases hcc:c' = c
   ·subst hcc; exact ⟨_,hc'⟩
   ·obtain ⟨w2,z2⟩:=I.cell y c' e
    exact ⟨w2,z2.sameBut hs hcc⟩
  ·obtain ⟨e,n,ne,nf,d⟩:=I.pin p hp
   refine ⟨(hs.2 p.1 ?_).trans e,n,ne,nf,d⟩
   intro q
   rw [q,hoc] at e
   have q':oc = p.2:=Option.some.inj e
   exact d w' (by rw [← q']; exact hocd)
theorem store_ok {M:Model}{A:Around}{E:Value->Shared->Prop}{i:Nat}{x:Str}{v:V}{u:Value}{Q:Unit->Shared->Prop} (I:Inv X zp σ H s) (hN:X.N.Nodup) (hi:X.N[i]? = some x) (hx:Loc X.env.scope x) (r:RelV v u)
  (h:∀ s',Inv X zp (σ.set i (some v)) H s'->Q () s') (hf:X.fn x = true\/X.env.scope.names.lookup x = some .local:=by first | exact .inl rfl | exact .inr rfl | assumption):wpAny M A (storeName X.env x u) Q E s:=
 store_ok2 I hN hi hx r (fun s' I' _=>h s' I') hf
theorem Inv.call' {s':Shared}{ch:List Addr} (I:Inv X zp σ H s) (ho:s'.os = s.os) (u:Un (frs X.stack) ch H H' s.heap s'.heap) (hok:HOk X.prog X.w H' s'.heap) (hg:AllBare s'.gens)
  (hch:∀ b∈ch,(b∈X.ex\/X.s₀.heap.objs.size<=b)/\b≠X.env.locals/\(∀ x c,X.env.cells.lookup x = some c->c≠b)/\∀ p∈X.pn ++ zp,p.1≠b):Inv X zp σ H' s':=by
 obtain ⟨h',g',d',t',o'⟩:=s'
 have e:o' = s.os:=ho
 subst e
 exact I.call (g':=g') (t':=t') (d':=d') u hok hg hch
end
abbrev XK:=Value->Option Addr->Hp->Prop
abbrev St:=List (Option V)
abbrev VK:=V->Hp->Prop
abbrev TE:=St->Hp->VK->Prop
abbrev TT:=St->Hp->(Bool->Hp->Prop)->Prop
abbrev TA:=St->Hp->(List V->Hp->Prop)->Prop
structure Ends where
 nx:St->Hp->Prop
 rt:VK
 bk:St->Hp->Prop:=fun _ _=>False
 ct:St->Hp->Prop:=fun _ _=>False
abbrev TS:=Ends->St->Hp->Prop
def EP (X:Cx) (zp:List (Addr × Obj)) (σ:St) (Q:VK) (u:Value) (s':Shared):Prop:=∃ v H',Inv X zp σ H' s'/\RelV v u/\Q v H'
def TP (X:Cx) (zp:List (Addr × Obj)) (σ:St) (Q:Bool->Hp->Prop) (b:Bool) (s':Shared):Prop:=∃ H',Inv X zp σ H' s'/\Q b H'
def AP (X:Cx) (zp:List (Addr × Obj)) (σ:St) (Q:List V->Hp->Prop) (us:List Value) (s':Shared):Prop:=∃ vs H',Inv X zp σ H' s'/\Vals vs us/\Q vs H'
def SP (X:Cx) (zp:List (Addr × Obj)) (D:Ends) (f:Flow) (s':Shared):Prop:=
 match f with
 | .next=>∃ σ' H',Inv X zp σ' H' s'/\D.nx σ' H'
 | .brk=>∃ σ' H',Inv X zp σ' H' s'/\D.bk σ' H'
 | .cont=>∃ σ' H',Inv X zp σ' H' s'/\D.ct σ' H'
 | .ret u=>∃ v σ' H',Inv X zp σ' H' s'/\RelV v u/\D.rt v H'
def PE (X:Cx) (e:Expr) (t:TE):Prop:=
 ∀ (zp:List (Addr × Obj)) (s:Shared) (σ:St) (H:Hp) (Q:VK),Inv X zp σ H s->t σ H Q->wpAny (model X.prog X.w) X.A (eval e X.env) (EP X zp σ Q) X.xe s
def PT (X:Cx) (e:Expr) (t:TT):Prop:=
 ∀ (zp:List (Addr × Obj)) (s:Shared) (σ:St) (H:Hp) (Q:Bool->Hp->Prop),Inv X zp σ H s->t σ H Q->wpAny (model X.prog X.w) X.A (isTrue e X.env (eval e X.env)) (TP X zp σ Q) X.xe s
def PW (X:Cx) (e:Expr) (t:TT):Prop:=
 ∀ (whole:Sem Value) (zp:List (Addr × Obj)) (s:Shared) (σ:St) (H:Hp) (Q:Bool->Hp->Prop),Inv X zp σ H s->t σ H Q->wpAny (model X.prog X.w) X.A (isTrue e X.env whole) (TP X zp σ Q) X.xe s
theorem PW.pt {X:Cx}{e:Expr}{t:TT} (h:PW X e t):PT X e t:=h _
def PA (X:Cx) (es:List Expr) (t:TA):Prop:=
 ∀ (pos:Pos) (zp:List (Addr × Obj)) (s:Shared) (σ:St) (H:Hp) (Q:List V->Hp->Prop),Inv X zp σ H s->t σ H Q->wpAny (model X.prog X.w) X.A (spliced (backTo pos (starEach es X.env))) (AP X zp σ Q) X.xe s
def PS (X:Cx) (st:Stmt) (t:TS):Prop:=
 ∀ (zp:List (Addr × Obj)) (s:Shared) (σ:St) (H:Hp) (D:Ends),Inv X zp σ H s->t D σ H->wpAny (model X.prog X.w) X.A (exec st X.env) (SP X zp D) X.xe s
def PSs (X:Cx) (st:List Stmt) (t:TS):Prop:=
 ∀ (zp:List (Addr × Obj)) (s:Shared) (σ:St) (H:Hp) (D:Ends),Inv X zp σ H s->t D σ H->wpAny (model X.prog X.w) X.A (execs st X.env) (SP X zp D) X.xe s
theorem thn {α:Type}{t:Sem α}{Q Q':α->Shared->Prop}{M:Model}{A:Around}{E:Value->Shared->Prop}{s:Shared} (h:wpAny M A t Q E s) (hQ:∀ a s,Q a s->Q' a s):wpAny M A t Q' E s:=wpAny_mono h hQ fun _ _ x=>x
section
variable {X:Cx}
def tVar (i:Nat):TE:=fun σ H Q=>∃ v,σ[i]? = some (some v)/\Q v H
def tC (v:V):TE:=fun _ H Q=>Q v H
theorem pe_var {i:Nat}{x:Str}{pos:Pos} (hN:X.N[i]? = some x) (hv:Vis X.env.scope x) (hd:(x == ("__debug__":Str)) = false:=by decide) (hcd:(x == ("__classdict__":Str)) = false:=by decide):PE X (.Name x pos) (tVar i):=by
 intro zp s σ H Q I h
 obtain ⟨v,e,h⟩:=h
 obtain ⟨m,hn,hl⟩:=I.loc
 obtain ⟨u,r,l⟩:=hl i x v hN e hv
 have fin:EP X zp σ Q u s:=⟨v,H,I,r,h⟩
 rcases l with ⟨hk,hm⟩ | ⟨hk,c,hc,hcell⟩
 ·exact wpAny_Name (wpAny_loadName_local I.ok.kind hk hn hm fin) hd
 ·rcases hk with hk | hk
  ·exact wpAny_Name (wpAny_loadName_cell I.ok.kind hk hc hcell fin) hd
  ·exact wpAny_Name (wpAny_loadName_free I.ok.kind hk hc hcell fin hcd) hd
theorem pe_int {i j pos}:PE X (.Constant (.int i) j pos) (tC (.int i)):=fun _ _ _ H _ I h=>wpAny_Constant_int ⟨.int i,H,I.tok _,⟨_,rfl⟩,h⟩
theorem pe_bl {b j pos}:PE X (.Constant (.bool b) j pos) (tC (.bl b)):=fun _ _ _ H _ I h=>Constant_bool ⟨.bl b,H,I,rfl,h⟩
theorem pe_str {x j pos}:PE X (.Constant (.str x) j pos) (tC (.str x)):=fun _ _ _ H _ I h=>Calls.Constant_str ⟨.str x,H,I.tok _,⟨_,rfl⟩,h⟩
def Gl (X:Cx) (x:Str):Prop:=X.env.kindOf x = some .globalImplicit
theorem ld_glob {E:Value->Shared->Prop}{zp:List (Addr × Obj)}{s:Shared}{σ:St}{H:Hp}{x:Str}{u:Value}{pos:Pos}{Q:Value->Shared->Prop} (I:Inv X zp σ H s) (hg:Gl X x) (hm:X.mg x = some u) (h:Q u s)
  (hd:(x == ("__debug__":Str)) = false:=by decide):wpAny (model X.prog X.w) X.A (eval (.Name x pos) X.env) Q E s:=
 Calls.Name_function_global I.ok.kind hg (Calls.loadGlobal_global (by rw [I.ok.glob]; exact I.mod.glob.keeps I.bk) hm h) hd
theorem ld_blt {E:Value->Shared->Prop}{zp:List (Addr × Obj)}{s:Shared}{σ:St}{H:Hp}{x:Str}{u:Value}{pos:Pos}{Q:Value->Shared->Prop} (I:Inv X zp σ H s) (hg:Gl X x) (hm:X.mg x = none) (hv:bootBuiltins x = some u) (h:Q u s)
  (hn:x≠"__name__":=by decide) (hd:(x == ("__debug__":Str)) = false:=by decide):wpAny (model X.prog X.w) X.A (eval (.Name x pos) X.env) Q E s:=by
 obtain ⟨mb,h1,h2⟩:=I.mod.blt
 exact Calls.Name_function_global I.ok.kind hg (Calls.loadGlobal_builtin (by rw [I.ok.glob]; exact I.mod.glob.keeps I.bk) hm (by rw [I.ok.blt]; exact h1.keeps I.bk) ((h2 x hn).trans hv) h) hd
theorem pe_glob {x:Str}{v:V}{u:Value}{pos:Pos} (hg:Gl X x) (hm:X.mg x = some u) (r:RelV v u) (hd:(x == ("__debug__":Str)) = false:=by decide):PE X (.Name x pos) (tC v):=
 fun _ _ _ H _ I h=>ld_glob I hg hm ⟨v,H,I,r,h⟩ hd
theorem pe_bltn {x:Str}{v:V}{u:Value}{pos:Pos} (hg:Gl X x) (hm:X.mg x = none) (hv:bootBuiltins x = some u) (r:RelV v u) (hn:x≠"__name__":=by decide) (hd:(x == ("__debug__":Str)) = false:=by decide):PE X (.Name x pos) (tC v):=
 fun _ _ _ H _ I h=>ld_blt I hg hm hv ⟨v,H,I,r,h⟩ hn hd
variable {a b:Expr}{ta tb:TE}{pos:Pos}
def tB (t:TE):TT:=fun σ H Q=>t σ H fun x H1=>∃ c,x = .bl c/\Q c H1
theorem pt_val {e:Expr}{t:TE} (h:PE X e t) (he:∀ whole,isTrue e X.env whole = (do let v ← whole; standAt e.pos; holding [v] (truthy v)):=by intro _; rfl):PT X e (tB t):=by
 intro zp s σ H Q I hw
 refine isTrue_plain (thn (h zp s σ H _ I hw) fun v s1 ⟨x,H1,I1,r1,q1⟩=>?_) (he _)
 obtain ⟨d,rfl,q⟩:=q1
 cases r1
 exact wpAny_truthy_bool ⟨H1,I1,q⟩
variable {tA tB':TT}{rest:List Expr}
def tAnd (t u:TT):TT:=fun σ H Q=>t σ H fun c H1=>if c = true then u σ H1 Q else Q false H1
def tOr (t u:TT):TT:=fun σ H Q=>t σ H fun c H1=>if c = true then Q true H1 else u σ H1 Q
def tNot (t:TT):TT:=fun σ H Q=>t σ H fun c H1=>Q (!c) H1
theorem pw_and1 (ha:PT X a tA):PW X (.BoolOp .And [a] pos) tA:=by
 intro wh zp s σ H Q I h
 refine isTrue_and (thn (ha zp s σ H Q I h) fun c s1 e=>?_)
 cases c with
 | true=>exact isTrue_and_nil e
 | false=>exact e
theorem pw_or1 (ha:PT X a tA):PW X (.BoolOp .Or [a] pos) tA:=by
 intro wh zp s σ H Q I h
 refine isTrue_or (thn (ha zp s σ H Q I h) fun c s1 e=>?_)
 cases c with
 | false=>exact isTrue_or_nil e
 | true=>exact e
theorem pw_and (ha:PT X a tA) (hb:PW X (.BoolOp .And (b :: rest) pos) tB'):PW X (.BoolOp .And (a :: b :: rest) pos) (tAnd tA tB'):=by
 intro wh zp s σ H Q I h
 refine isTrue_and (thn (ha zp s σ H _ I h) fun c s1 ⟨H1,I1,q1⟩=>?_)
 cases c with
 | true=>exact hb wh zp s1 σ H1 Q I1 q1
 | false=>exact ⟨H1,I1,q1⟩
theorem pw_or (ha:PT X a tA) (hb:PW X (.BoolOp .Or (b :: rest) pos) tB'):PW X (.BoolOp .Or (a :: b :: rest) pos) (tOr tA tB'):=by
 intro wh zp s σ H Q I h
 refine isTrue_or (thn (ha zp s σ H _ I h) fun c s1 ⟨H1,I1,q1⟩=>?_)
 cases c with
 | true=>exact ⟨H1,I1,q1⟩
 | false=>exact hb wh zp s1 σ H1 Q I1 q1
theorem pt_not (ha:PT X a tA):PT X (.UnaryOp .Not a pos) (tNot tA):=by
 intro zp s σ H Q I h
 exact isTrue_not (ha zp s σ H (fun c H1=>Q (!c) H1) I h)
def tAndV (ta tb:TE):TE:=fun σ H Q=>ta σ H fun x H1=>∃ c,x = .bl c/\if c = true then tb σ H1 Q else Q (.bl false) H1
def tOrV (ta tb:TE):TE:=fun σ H Q=>ta σ H fun x H1=>∃ c,x = .bl c/\if c = true then Q (.bl true) H1 else tb σ H1 Q
def tNotV (ta:TE):TE:=fun σ H Q=>ta σ H fun x H1=>∃ c,x = .bl c/\Q (.bl (!c)) H1
theorem pe_one {op}{t:TE} (h:PE X a t):PE X (.BoolOp op [a] pos) t:=fun zp s σ H Q I hw=>BoolOp_one (h zp s σ H Q I hw)
theorem pe_and (ha:PE X a ta) (hb:PE X (.BoolOp .And (b :: rest) pos) tb):PE X (.BoolOp .And (a :: b :: rest) pos) (tAndV ta tb):=by
 intro zp s σ H Q I h
 refine BoolOp_and (thn (ha zp s σ H _ I h) fun v s1 ⟨x,H1,I1,r1,q1⟩=>?_)
 obtain ⟨c,rfl,q1⟩:=q1
 cases r1
 refine wpAny_truthy_bool ?_
 cases c with
 | true=>exact hb zp s1 σ H1 Q I1 q1
 | false=>exact ⟨.bl false,H1,I1,rfl,q1⟩
theorem pe_or (ha:PE X a ta) (hb:PE X (.BoolOp .Or (b :: rest) pos) tb):PE X (.BoolOp .Or (a :: b :: rest) pos) (tOrV ta tb):=by
 intro zp s σ H Q I h
 refine BoolOp_or (thn (ha zp s σ H _ I h) fun v s1 ⟨x,H1,I1,r1,q1⟩=>?_)
 obtain ⟨c,rfl,q1⟩:=q1
 cases r1
 refine wpAny_truthy_bool ?_
 cases c with
 | false=>exact hb zp s1 σ H1 Q I1 q1
 | true=>exact ⟨.bl true,H1,I1,rfl,q1⟩
theorem pe_not (ha:PE X a ta):PE X (.UnaryOp .Not a pos) (tNotV ta):=by
 intro zp s σ H Q I h
 refine UnaryOp_ (thn (ha zp s σ H _ I h) fun v s1 ⟨x,H1,I1,r1,q1⟩=>?_)
 obtain ⟨c,rfl,q1⟩:=q1
 cases r1
 exact not_of (wpAny_truthy_bool ⟨.bl (!c),H1,I1,rfl,q1⟩)
def tIf (t:TT) (ta tb:TE):TE:=fun σ H Q=>t σ H fun c H1=>if c = true then ta σ H1 Q else tb σ H1 Q
theorem pe_ifExp {c:Expr} (hc:PT X c tA) (ha:PE X a ta) (hb:PE X b tb):PE X (.IfExp c a b pos) (tIf tA ta tb):=by
 intro zp s σ H Q I h
 refine wpAny_IfExp (thn (hc zp s σ H _ I h) fun d s1 ⟨H1,I1,q1⟩=>?_)
 cases d with
 | true=>exact ha zp s1 σ H1 Q I1 q1
 | false=>exact hb zp s1 σ H1 Q I1 q1
end
def SqL (K:PySem.W.Frag) (H:Hp) (a:Addr) (xs:List V):Prop:=
 Rd H a (.lst xs) \/
  ∃ (o:Obj) (its:Array Value) (n:Nat),K.lookup a = some o/\o.cls = .type "list"/\o.dict = none/\o.data = .seq its n/\its.size<=sizeLine/\Vals xs its.toList
def SqT (K:PySem.W.Frag) (H:Hp) (a:Addr) (xs:List V):Prop:=
 Rd H a (.tup xs) \/
  ∃ (o:Obj) (its:Array Value) (n:Nat),K.lookup a = some o/\o.cls = .type "tuple"/\o.data = .seq its n/\its.size<=sizeLine/\Vals xs its.toList
def absV:Value->Option V
 | .none=>some .non
 | .bool b=>some (.bl b)
 | .int i _=>some (.int i)
 | .str x _=>some (.str x)
 | .bytes b _=>some (.byt b)
 | .float b _=>some (.flt b)
 | .ref a=>some (.ref a)
 | .type n=>some (.ty n)
 | _=>none
theorem RelV.abs {x:V}{u:Value} (r:RelV x u):absV u = some x:=by
 cases x with
 | non=>cases r; rfl
 | bl _=>cases r; rfl
 | int _=>obtain ⟨t,rfl⟩:=r; rfl
 | str _=>obtain ⟨t,rfl⟩:=r; rfl
 | byt _=>obtain ⟨t,rfl⟩:=r; rfl
 | flt _=>obtain ⟨t,rfl⟩:=r; rfl
 | ref _=>cases r; rfl
 | ty _=>cases r; rfl
theorem RelV.inj {x y:V}{u:Value} (r:RelV x u) (q:RelV y u):x = y:=Option.some.inj (r.abs.symm.trans q.abs)
theorem Vals.inj:∀ {xs ys:List V}{us:List Value},Vals xs us->Vals ys us->xs = ys
 | _,_,_,.nil,.nil=>rfl
 | _,_,_,.cons r t,.cons r' t'=>by rw [r.inj r',Vals.inj t t']
section
variable {X:Cx}{zp:List (Addr × Obj)}{σ:St}{H:Hp}{s:Shared}{a:Addr}{xs ys:List V}
theorem SqL.of {K:PySem.W.Frag} (h:H a = some (.lst xs)):SqL K H a xs:=.inl (.inl h)
theorem SqT.of {K:PySem.W.Frag} (h:H a = some (.tup xs)):SqT K H a xs:=.inl (.inl h)
theorem Inv.list (I:Inv X zp σ H s) (h:SqL X.K H a xs):∃ its:List Value,Vals xs its/\PlainL s.heap a its.toArray/\xs.length<=sizeLine:=by
 rcases h with h | ⟨o,its,n,hk,hc,hd,hs,hz,r⟩
 ·obtain ⟨z,its,n,r,e⟩:=h.ok I.hok
  exact ⟨its,r,⟨_,n,e,rfl,rfl,rfl⟩,z⟩
 ·refine ⟨its.toList,r,⟨o,n,I.kIn a o hk,hc,hd,by simpa using hs⟩,?_⟩
  have e:=r.length
  simp only [Array.length_toList] at e
  omega
theorem Inv.tuple (I:Inv X zp σ H s) (h:SqT X.K H a xs):∃ its:List Value,Vals xs its/\IsTup s.heap a its.toArray/\xs.length<=sizeLine:=by
 rcases h with h | ⟨o,its,n,hk,hc,hs,hz,r⟩
 ·obtain ⟨z,its,r,p⟩:=h.ok I.hok
  exact ⟨its,r,p,z⟩
 ·refine ⟨its.toList,r,⟨o,I.kIn a o hk,hc,n,by simpa using hs⟩,?_⟩
  have e:=r.length
  simp only [Array.length_toList] at e
  omega
theorem Inv.list_inj (I:Inv X zp σ H s) (h:SqL X.K H a xs) (h':SqL X.K H a ys):xs = ys:=by
 obtain ⟨its,r,⟨o,n,e,_,_,d⟩,_⟩:=I.list h
 obtain ⟨its',r',⟨o',n',e',_,_,d'⟩,_⟩:=I.list h'
 rw [e] at e'; cases e'
 rw [d] at d'
 injection d' with d1 _
 have:its = its':=by simpa using congrArg Array.toList d1
 subst this
 exact r.inj r'
theorem Inv.tuple_inj (I:Inv X zp σ H s) (h:SqT X.K H a xs) (h':SqT X.K H a ys):xs = ys:=by
 obtain ⟨its,r,⟨o,e,_,n,d⟩,_⟩:=I.tuple h
 obtain ⟨its',r',⟨o',e',_,n',d'⟩,_⟩:=I.tuple h'
 rw [e] at e'; cases e'
 rw [d] at d'
 injection d' with d1 _
 have:its = its':=by simpa using congrArg Array.toList d1
 subst this
 exact r.inj r'
end
abbrev Cx.wish (X:Cx) (E:Value->Shared->Prop):Cx:={ X with xe:=E }
abbrev Cx.nox (X:Cx):Cx:=X.wish fun _ _=>False
theorem Cx.Ok.wish {X:Cx} (ok:X.Ok) (E:Value->Shared->Prop):(X.wish E).Ok:=
 ⟨ok.mod,ok.kind,ok.glob,ok.blt,ok.above,ok.inj,ok.has,ok.cab,ok.hd,ok.frames,ok.stk,ok.exf,ok.bs,ok.bsz,ok.noex,ok.exfs,ok.funs,ok.frf⟩
theorem Cx.Ok.unwish {X:Cx}{E:Value->Shared->Prop} (ok:(X.wish E).Ok):X.Ok:=
 ⟨ok.mod,ok.kind,ok.glob,ok.blt,ok.above,ok.inj,ok.has,ok.cab,ok.hd,ok.frames,ok.stk,ok.exf,ok.bs,ok.bsz,ok.noex,ok.exfs,ok.funs,ok.frf⟩
section
variable {X:Cx}{zp:List (Addr × Obj)}{σ:St}{H:Hp}{s:Shared}{E:Value->Shared->Prop}
theorem Inv.wish (I:Inv X zp σ H s) (E:Value->Shared->Prop):Inv (X.wish E) zp σ H s:=⟨I.ok.wish E,I.os,I.bare,I.base,I.loc,I.cell,I.free,I.freeC,I.pin,I.hok,I.len⟩
theorem Inv.unwish (I:Inv (X.wish E) zp σ H s):Inv X zp σ H s:=⟨I.ok.unwish,I.os,I.bare,I.base,I.loc,I.cell,I.free,I.freeC,I.pin,I.hok,I.len⟩
theorem SP.unwish {D:Ends}{f:Flow}{s':Shared} (h:SP (X.wish E) zp D f s'):SP X zp D f s':=by
 cases f with
 | next=>obtain ⟨σ',H',I,q⟩:=h; exact ⟨σ',H',I.unwish,q⟩
 | brk=>obtain ⟨σ',H',I,q⟩:=h; exact ⟨σ',H',I.unwish,q⟩
 | cont=>obtain ⟨σ',H',I,q⟩:=h; exact ⟨σ',H',I.unwish,q⟩
 | ret u=>obtain ⟨v,σ',H',I,r,q⟩:=h; exact ⟨v,σ',H',I.unwish,r,q⟩
theorem PSs.nox {st:List Stmt}{t:TS} (h:PSs X.nox st t):PSs X st t:=fun zp s σ H D I hw=>
 wpAny_mono (h zp s σ H D (I.wish _) hw) (fun _ _ q=>q.unwish) fun _ _ z=>False.elim z
end
section
variable {X:Cx}{st:Stmt}{rest:List Stmt}{t u:TS}{e:Expr}{te:TE}{pos:Pos}
def tNext:TS:=fun D σ H=>D.nx σ H
def tSeq (t u:TS):TS:=fun D σ H=>t { D with nx:=u D } σ H
theorem pss_nil:PSs X [] tNext:=fun _ _ σ H _ I h=>wpAny_execs_nil ⟨σ,H,I,h⟩
theorem pss_cons (h1:PS X st t) (h2:PSs X rest u):PSs X (st :: rest) (tSeq t u):=by
 intro zp s σ H D I h
 refine wpAny_execs_cons (thn (h1 zp s σ H { D with nx:=u D } I h) fun f s1 q=>?_)
 cases f with
 | next=>
  obtain ⟨σ',H',I',q⟩:=q
  exact h2 zp s1 σ' H' D I' q
 | ret v=>exact q
 | brk=>exact q
 | cont=>exact q
theorem pss_one (h1:PS X st t):PSs X [st] t:=by
 intro zp s σ H D I h
 refine wpAny_execs_cons (thn (h1 zp s σ H D I h) fun f s1 q=>?_)
 cases f with
 | next=>exact wpAny_execs_nil q
 | ret v=>exact q
 | brk=>exact q
 | cont=>exact q
theorem Inv.quiet {zp:List (Addr × Obj)}{σ:St}{H:Hp}{s:Shared} (I:Inv X zp σ H s):interactive X.env = false:=by simp [interactive,I.ok.kind]
def tDrop (te:TE):TS:=fun D σ H=>te σ H fun _ H1=>D.nx σ H1
theorem ps_expr (he:PE X e te) (hs:swapsWith e none pos.line X.env = pure false:=by rfl):PS X (.Expr e pos) (tDrop te):=by
 intro zp s σ H D I h
 exact wpAny_Expr_any (thn (he zp s σ H _ I h) fun v s1 ⟨x,H1,I1,r1,q1⟩=>⟨σ,H1,I1,q1⟩) I.quiet hs
def tRet (te:TE):TS:=fun D σ H=>te σ H D.rt
theorem ps_ret (he:PE X e te):PS X (.Return (some e) pos) (tRet te):=by
 intro zp s σ H D I h
 exact wpAny_Return_some (thn (he zp s σ H _ I h) fun v s1 ⟨x,H1,I1,r1,q1⟩=>⟨x,σ,H1,I1,r1,q1⟩)
def tIfS (c:TT) (t u:TS):TS:=fun D σ H=>c σ H fun b H1=>if b = true then t D σ H1 else u D σ H1
theorem ps_if {c:Expr}{a b:List Stmt}{tc:TT} (hc:PT X c tc) (ha:PSs X a t) (hb:PSs X b u):PS X (.If c a b pos) (tIfS tc t u):=by
 intro zp s σ H D I h
 refine wpAny_If (thn (hc zp s σ H _ I h) fun d s1 ⟨H1,I1,q1⟩=>?_)
 cases d with
 | true=>exact ha zp s1 σ H1 D I1 q1
 | false=>exact hb zp s1 σ H1 D I1 q1
def tNever:TS:=fun _ _ _=>False
theorem pss_never {sts:List Stmt}:PSs X sts tNever:=fun _ _ _ _ _ _ h=>h.elim
end
abbrev TG:=V->St->Hp->(St->Hp->Prop)->Prop
abbrev TGs:=List V->St->Hp->(St->Hp->Prop)->Prop
def PG (X:Cx) (target:Expr) (t:TG):Prop:=
 ∀ (zp:List (Addr × Obj)) (s:Shared) (σ:St) (H:Hp) (v:V) (u:Value) (Q:St->Hp->Prop),Inv X zp σ H s->RelV v u->t v σ H Q->
  wpAny (model X.prog X.w) X.A (assign target X.env u) (fun _ s'=>∃ σ' H',Inv X zp σ' H' s'/\Q σ' H') X.xe s
def PGs (X:Cx) (ts:List Expr) (t:TGs):Prop:=
 ∀ (zp:List (Addr × Obj)) (s:Shared) (σ:St) (H:Hp) (vs:List V) (us:List Value) (Q:St->Hp->Prop),Inv X zp σ H s->Vals vs us->t vs σ H Q->
  wpAny (model X.prog X.w) X.A (assignInOrder ((assignEach ts X.env).map (·.2)) us) (fun _ s'=>∃ σ' H',Inv X zp σ' H' s'/\Q σ' H') X.xe s
abbrev TSet:=V->V->V->Hp->(Hp->Prop)->Prop
def PSet (X:Cx) (t:TSet):Prop:=
 ∀ (zp:List (Addr × Obj)) (s:Shared) (σ:St) (H:Hp) (o i v:V) (ov iv u:Value) (Q:Hp->Prop),Inv X zp σ H s->RelV o ov->RelV i iv->RelV v u->t o i v H Q->
  wpAny (model X.prog X.w) X.A (setItem ov iv u) (fun _ s'=>∃ H',Inv X zp σ H' s'/\Q H') X.xe s
abbrev TIp:=V->V->Hp->VK->Prop
def PIp (X:Cx) (op:Operator) (t:TIp):Prop:=
 ∀ (zp:List (Addr × Obj)) (s:Shared) (σ:St) (H:Hp) (x y:V) (v u:Value) (Q:VK),Inv X zp σ H s->RelV x v->RelV y u->t x y H Q->
  wpAny (model X.prog X.w) X.A (inplaceOp op v u) (EP X zp σ Q) X.xe s
section
variable {X:Cx}{pos:Pos}
def gName (i:Nat):TG:=fun v σ H Q=>Q (σ.set i (some v)) H
theorem pg_name {i:Nat}{x:Str} (hN:X.N.Nodup) (hi:X.N[i]? = some x) (hx:Loc X.env.scope x) (hf:X.fn x = true\/X.env.scope.names.lookup x = some .local:=by first | exact .inl rfl | exact .inr rfl | assumption):PG X (.Name x pos) (gName i):=by
 intro zp s σ H v u Q I r h
 exact wpAny_assign_Name (store_ok I hN hi hx r (fun s' I'=>⟨_,H,I',h⟩) hf)
def gNil:TGs:=fun vs σ H Q=>vs = []/\Q σ H
def gCons (t:TG) (u:TGs):TGs:=fun vs σ H Q=>∃ v r,vs = v :: r/\t v σ H fun σ' H'=>u r σ' H' Q
theorem pgs_nil:PGs X [] gNil:=by
 intro zp s σ H vs us Q I r h
 obtain ⟨e,h⟩:=h
 subst e
 cases r
 exact assignInOrder_nil ⟨σ,H,I,h⟩
theorem pgs_cons {e:Expr}{es:List Expr}{t:TG}{u:TGs} (h1:PG X e t) (h2:PGs X es u)
  (hs:(assignEach (e :: es) X.env).map (·.2) = assign e X.env :: (assignEach es X.env).map (·.2):=by rfl):PGs X (e :: es) (gCons t u):=by
 intro zp s σ H vs us Q I r h
 obtain ⟨v,vr,e1,h⟩:=h
 subst e1
 cases r with
 | cons r rr=>
  rw [hs]
  refine assignInOrder_cons (thn (h1 zp s σ H _ _ _ I r h) fun _ s1 ⟨σ1,H1,I1,q1⟩=>?_)
  exact h2 zp s1 σ1 H1 _ _ Q I1 rr q1
def gTup (K:PySem.W.Frag) (n:Nat) (t:TGs):TG:=fun v σ H Q=>∃ a xs,v = .ref a/\SqT K H a xs/\xs.length = n/\t xs σ H Q
theorem pg_tup {es:List Expr}{k:Nat}{t:TGs}{n:Nat} (hc:X.calm = true) (h:PGs X es t)
  (hn:(assignEach es X.env).length = n:=by rfl) (hst:(assignEach es X.env).findIdx? (·.1) = none:=by rfl):PG X (.Tuple es k pos) (gTup X.K n t):=by
 intro zp s σ H v u Q I r hw
 obtain ⟨a,xs,e1,hq,hl,hw⟩:=hw
 subst e1
 cases r
 obtain ⟨its,rv,ht,hz⟩:=I.tuple hq
 refine assign_Tuple_tuple (I.ok.hd hc) ht (by simp [hn,← hl,rv.length]) hst fun h' hx=>?_
 have I1:Inv X zp σ H { s with heap:=h' }:=I.kept (t':=s.toks) fun b o e=>hx b o (Nat.ne_of_lt (Heap.lt_size e)) e
 exact h zp _ σ H xs _ Q I1 (by simpa using rv) hw
def gSub (to ti:TE) (t:TSet):TG:=fun v σ H Q=>to σ H fun o H1=>ti σ H1 fun i H2=>t o i v H2 fun H3=>Q σ H3
theorem pg_sub {o i:Expr}{to ti:TE}{t:TSet} (ho:PE X o to) (hi:PE X i ti) (hs:PSet X t)
  (ha:∀ v,assign (.Subscript o i pos) X.env v = (do
   let ov ← holding [v] (eval o X.env)
   let iv ← holding [v,ov] (eval i X.env)
   standAt pos
   holding [v,ov,iv] (setItem ov iv v)
   release [v,ov,iv] []):=by intro _; rfl):PG X (.Subscript o i pos) (gSub to ti t):=by
 intro zp s σ H v u Q I r h
 rw [ha]
 refine wpAny_bind (wpAny_holding (thn (ho zp s σ H _ I h) fun ov s1 ⟨x,H1,I1,r1,q1⟩=>?_))
 refine wpAny_bind (wpAny_holding (thn (hi zp s1 σ H1 _ I1 q1) fun iv s2 ⟨y,H2,I2,r2,q2⟩=>?_))
 refine wpAny_bind (wpAny_standAt (wpAny_bind (wpAny_holding (thn (hs zp s2 σ H2 x y v ov iv u _ I2 r1 r2 r q2) fun _ s3 ⟨H3,I3,q3⟩=>?_))))
 exact wpAny_release ⟨σ,H3,I3,q3⟩
def tAsg (te:TE) (g:TG):TS:=fun D σ H=>te σ H fun x H1=>g x σ H1 D.nx
theorem ps_asg {tg e:Expr}{te:TE}{g:TG} (he:PE X e te) (hg:PG X tg g) (hs:swapsWithSole [tg] e pos.line X.env = pure false:=by rfl) (hw:swappedStores [tg] e X.env = pure none:=by rfl)
  (h1:(assignEach [tg] X.env).map (·.2) = [assign tg X.env]:=by rfl):PS X (.Assign [tg] e pos) (tAsg te g):=by
 intro zp s σ H D I h
 refine wpAny_Assign_stores (thn (he zp s σ H _ I h) fun v s1 ⟨x,H1,I1,r1,q1⟩=>?_) hs hw
 rw [h1]
 exact thn (hg zp s1 σ H1 x v _ I1 r1 q1) fun _ s2 q=>q
theorem ps_set {i:Nat}{x:Str}{e:Expr}{te:TE}{pos':Pos} (hN:X.N.Nodup) (hi:X.N[i]? = some x) (hx:Loc X.env.scope x) (he:PE X e te) (hs:swapsWith e (some (.Name x pos')) pos.line X.env = pure false:=by rfl) (hf:X.fn x = true\/X.env.scope.names.lookup x = some .local:=by first | exact .inl rfl | exact .inr rfl | assumption):
  PS X (.Assign [.Name x pos'] e pos) (tAsg te (gName i)):=by
 intro zp s σ H D I h
 refine wpAny_Assign_Name (thn (he zp s σ H _ I h) fun v s1 ⟨y,H1,I1,r1,q1⟩=>?_) hs
 exact store_ok I1 hN hi hx r1 (fun s2 I2=>⟨_,H1,I2,q1⟩) hf
def tAug (i:Nat) (te:TE) (ti:TIp):TS:=fun D σ H=>∃ x,σ[i]? = some (some x)/\te σ H fun y H1=>ti x y H1 fun z H2=>D.nx (σ.set i (some z)) H2
theorem ps_aug {i:Nat}{x:Str}{e:Expr}{te:TE}{op:Operator}{ti:TIp}{pos':Pos} (hN:X.N.Nodup) (hi:X.N[i]? = some x) (hx:Loc X.env.scope x) (he:PE X e te) (ho:PIp X op ti) (hf:X.fn x = true\/X.env.scope.names.lookup x = some .local:=by first | exact .inl rfl | exact .inr rfl | assumption):
  PS X (.AugAssign (.Name x pos') op e pos) (tAug i te ti):=by
 intro zp s σ H D I h
 obtain ⟨v,e1,h⟩:=h
 obtain ⟨m,hn,hl⟩:=I.loc
 have vis:Vis X.env.scope x:=by rcases hx with k | k; exact .inl k; exact .inr (.inl k)
 obtain ⟨u,r,l⟩:=hl i x v hi e1 vis
 refine wpAny_AugAssign_Name ?_
 have go:wpAny (model X.prog X.w) X.A (eval e X.env) (fun w s₂=>wpAny (model X.prog X.w) X.A (inplaceOp op u w) (fun r s₃=>wpAny (model X.prog X.w) X.A (storeName X.env x r) (fun _=>SP X zp D .next) X.xe s₃) X.xe s₂) X.xe s:=by
  refine thn (he zp s σ H _ I h) fun w s1 ⟨y,H1,I1,r1,q1⟩=>?_
  refine thn (ho zp s1 σ H1 v y u w _ I1 r r1 q1) fun z s2 ⟨zv,H2,I2,r2,q2⟩=>?_
  exact store_ok I2 hN hi hx r2 (fun s3 I3=>⟨_,H2,I3,q2⟩) hf
 rcases l with ⟨hk,hm⟩ | ⟨hk,c,hc,hcell⟩
 ·exact wpAny_loadName_local I.ok.kind hk hn hm go
 ·rcases hk with hk | hk
  ·exact wpAny_loadName_cell I.ok.kind hk hc hcell go
  ·rcases hx with k | k
   ·have:X.env.scope.names.lookup x = some .free:=hk
    rw [k] at this; cases this
   ·have:X.env.scope.names.lookup x = some .free:=hk
    rw [k] at this; cases this
end
section
variable {X:Cx}{pos:Pos}
def tWhile (c:TT) (tb:TS):TS:=fun D σ H=>∃ W:Nat->St->Hp->Prop,(∃ m,W m σ H)/\∀ m σ H,W m σ H->
 c σ H fun b H1=>if b = true then ∃ N:St->Hp->Prop,(∀ σ' H',N σ' H'->∃ m',m' < m/\W m' σ' H')/\tb { D with nx:=N,ct:=N,bk:=D.nx } σ H1 else D.nx σ H1
theorem ps_while {c:Expr}{body:List Stmt}{tc:TT}{tb:TS} (hp:PassesOwn (model X.prog X.w) X.A X.env X.xe) (hc:PT X c tc) (hb:PSs X body tb):PS X (.While c body [] pos) (tWhile tc tb):=by
 intro zp s σ H D I h
 obtain ⟨W,⟨m0,w0⟩,turn⟩:=h
 refine wpAny_While (codeAny_whileLoop (fun n s'=>∃ σ' H',Inv X zp σ' H' s'/\W n σ' H') ?_ m0 ⟨σ,H,I,w0⟩)
 rintro n s1 ⟨σ1,H1,I1,w1⟩
 refine wpAny_passesOwn hp (thn (hc zp s1 σ1 H1 _ I1 (turn n σ1 H1 w1)) fun b s2 ⟨H2,I2,q2⟩=>?_)
 cases b with
 | true=>
  obtain ⟨N,hN,q2⟩:=q2
  rw [if_pos rfl]
  refine wpAny_passesOwn hp (thn (hb zp s2 σ1 H2 _ I2 q2) fun f s3 q3=>?_)
  cases f with
  | next=>
   obtain ⟨σ3,H3,I3,n3⟩:=q3
   obtain ⟨m',hm,w3⟩:=hN σ3 H3 n3
   exact ⟨m',hm,σ3,H3,I3,w3⟩
  | cont=>
   obtain ⟨σ3,H3,I3,n3⟩:=q3
   obtain ⟨m',hm,w3⟩:=hN σ3 H3 n3
   exact ⟨m',hm,σ3,H3,I3,w3⟩
  | brk=>exact q3
  | ret v=>exact q3
 | false=>
  rw [if_neg Bool.false_ne_true]
  exact wpAny_execs_nil ⟨σ1,H2,I2,q2⟩
end
structure It where
 go:Nat->Hp->Prop
 yld:Nat->Hp->V->Hp->Prop
 stop:Nat->Hp->Prop
def FpOk (X:Cx) (zp:List (Addr × Obj)) (H:Hp) (b:Addr):Prop:=
 H b = none/\b≠X.env.locals/\b ∉ X.fs/\(b∈X.ex\/X.s₀.heap.objs.size<=b)/\(∀ x c,X.env.cells.lookup x = some c->c≠b)/\∀ p∈X.pn ++ zp,p.1≠b
theorem Inv.fpOk {X:Cx}{zp:List (Addr × Obj)}{σ:St}{H H':Hp}{s:Shared}{b:Addr} (I:Inv X zp σ H s) (hb:s.heap.objs.size<=b) (hn:H' b = none):FpOk X zp H' b:=by
 refine ⟨hn,Nat.ne_of_gt (Nat.lt_of_lt_of_le I.lt hb),I.nofs hb,.inr (Nat.le_trans I.sz hb),fun x c e z=>?_,fun p hp z=>?_⟩
 ·obtain ⟨v,q⟩:=I.cell x c e
  exact absurd (Nat.lt_of_lt_of_le q.lt (by rw [z]; exact hb)) (Nat.lt_irrefl _)
 ·exact absurd (Nat.lt_of_lt_of_le (Heap.lt_size (I.pin p hp).1) (by rw [z]; exact hb)) (Nat.lt_irrefl _)
structure Turn (P:Program) (w:World) (K:PySem.W.Frag) (tg:Expr) (J:It) (fp:List Addr) (it:Addr) (tn:Nat->Heap->Prop):Prop where
 mem:it∈fp
 obj:∀ i h,tn i h->∀ b∈fp,∃ o,h.get? b = some o/\∀ v,o.data≠.cell v
 keep:∀ i h h',tn i h->(∀ b∈fp,∀ o,h.get? b = some o->h'.get? b = some o)->tn i h'
 item:∀ (X:Cx),X.prog = P->X.w = w->X.K = K->X.calm = true->∀ (i:Nat) (zp:List (Addr × Obj)) (s:Shared) (σ:St) (H:Hp) (E:Value->Shared->Prop),Inv X zp σ H s->(∀ b∈fp,FpOk X zp H b)->tn i s.heap->J.go i H->
  wpAny (model P w) X.A (pyNext (.ref it)) (fun r s1=>∃ u,r = some u /\
   wpAny (model P w) X.A (letOwnedTupleGo tg (.ref it) u) (fun _ s2=>∃ x H',Inv X zp σ H' s2/\RelV x u/\J.yld i H x H'/\tn (i + 1) s2.heap/\∀ b∈fp,H' b = none) E s1) E s
 done:∀ (X:Cx),X.prog = P->X.w = w->X.K = K->X.calm = true->∀ (i:Nat) (zp:List (Addr × Obj)) (s:Shared) (σ:St) (H:Hp) (E:Value->Shared->Prop),Inv X zp σ H s->(∀ b∈fp,FpOk X zp H b)->tn i s.heap->J.stop i H->
  wpAny (model P w) X.A (pyNext (.ref it)) (fun r s1=>r = none/\Inv X zp σ H s1) E s
 self:∀ (A:Around) (i:Nat) (s:Shared) (Q:Value->Shared->Prop) (E:Value->Shared->Prop),tn i s.heap->Q (.ref it) s->wpAny (model P w) A (pyIter (.ref it)) Q E s
abbrev TI:=St->Hp->(It->Hp->Prop)->Prop
def PIE (X:Cx) (zp:List (Addr × Obj)) (σ:St) (tg:Expr) (R:It->Hp->Prop) (itv:Value) (s2:Shared):Prop:=
 ∃ (it:Addr) (fp:List Addr) (tn:Nat->Heap->Prop) (J:It) (H':Hp),itv = .ref it/\Inv X zp σ H' s2/\Turn X.prog X.w X.K tg J fp it tn/\tn 0 s2.heap/\(∀ b∈fp,FpOk X zp H' b)/\R J H'
def PI (X:Cx) (tg iter:Expr) (wi:TI):Prop:=
 ∀ (zp:List (Addr × Obj)) (s:Shared) (σ:St) (H:Hp) (R:It->Hp->Prop),Inv X zp σ H s->wi σ H R->
  wpAny (model X.prog X.w) X.A (eval iter X.env) (fun v s1=>wpAny (model X.prog X.w) X.A (pyIter v) (PIE X zp σ tg R) X.xe s1) X.xe s
theorem go_of {M:Model}{A:Around}{E:Value->Shared->Prop}{s:Shared}{tg:Expr}{it:Addr}{u:Value}{o:Obj}{n:String}{vs:Array Value}{Q:Unit->Shared->Prop} (ho:s.heap.get? it = some o) (hc:o.cls = .type n) (hd:o.data = .fields vs)
  (hn:["enumerate","zip","dict_itemiterator","dict_reverseitemiterator","odict_iterator","itertools.zip_longest","itertools.pairwise"].contains n = false) (hQ:Q () s):wpAny M A (letOwnedTupleGo tg (.ref it) u) Q E s:=by
 unfold letOwnedTupleGo
 cases tg <;> first
  | exact wpAny_pure hQ
  | (
    cases u <;> first
    | exact wpAny_pure hQ
    | (
      refine wpAny_bind (wpAny_load ho ?_)
      rw [hc,hd]
      show wpAny M A (if (["enumerate","zip","dict_itemiterator","dict_reverseitemiterator","odict_iterator","itertools.zip_longest","itertools.pairwise"].contains n && vs[0]? == some (rawInt _)) = true then _ else _) Q E s
      rw [if_neg (by intro h; rw [hn,Bool.false_and] at h; cases h)]
      exact wpAny_pure hQ))
def Itl (K:PySem.W.Frag) (a:Addr):It:=
 ⟨fun i H=>∃ xs x,SqL K H a xs/\xs[i]? = some x,fun i H x H'=>H' = H/\∀ xs,SqL K H a xs->xs[i]? = some x,fun i H=>∃ xs,SqL K H a xs/\xs.length<=i⟩
def Itt (K:PySem.W.Frag) (a:Addr):It:=
 ⟨fun i H=>∃ xs x,SqT K H a xs/\xs[i]? = some x,fun i H x H'=>H' = H/\∀ xs,SqT K H a xs->xs[i]? = some x,fun i H=>∃ xs,SqT K H a xs/\xs.length<=i⟩
def Itr (lo:Int) (n:Nat):It:=⟨fun i _=>i < n,fun i H x H'=>H' = H/\x = .int (lo + i),fun i _=>n<=i⟩
theorem turn_list {P:Program}{w:World}{K:PySem.W.Frag}{tg:Expr} (a it:Addr):Turn P w K tg (Itl K a) [it] it (fun i h=>h.IsListIter it a i) where
 mem:=by simp
 obj:=fun i h st b hb=>by
  have e:b = it:=by simpa using hb
  subst e
  obtain ⟨o,e,c,d⟩:=st
  exact ⟨o,e,fun v z=>by rw [d] at z; cases z⟩
 keep:=fun i h h' st k=>st.at fun o e=>k it (by simp) o e
 item:=by
  intro X hP hw hK hc i zp s σ H E I hf st hg
  subst hP hw hK
  obtain ⟨xs,x,hq,hx⟩:=hg
  obtain ⟨its,rv,p,hz⟩:=I.list hq
  obtain ⟨u,hu,ru⟩:=rv.get hx
  obtain ⟨f0,f1,f2,f3,f4,f5⟩:=hf it (by simp)
  refine wpAny_pyNext_list_item st p.isList (x:=u) (by simpa using hu) fun h' st' sb=>?_
  have I1:Inv X zp σ H { s with heap:=h' }:=I.turned (t':=s.toks) (fun b o hb e=>(sb.2 b hb).trans e) f0 f1 f3 f4 f5
  obtain ⟨o,e,c,d⟩:=id st'
  exact ⟨u,rfl,go_of (s:={ s with heap:=h' }) e c d (by decide) ⟨x,H,I1,ru,⟨rfl,fun ys hy=>by rw [I.list_inj hy hq]; exact hx⟩,st',fun b hb=>(hf b hb).1⟩⟩
 done:=by
  intro X hP hw hK hc i zp s σ H E I hf st hg
  subst hP hw hK
  obtain ⟨xs,hq,hx⟩:=hg
  obtain ⟨its,rv,p,hz⟩:=I.list hq
  obtain ⟨f0,f1,f2,f3,f4,f5⟩:=hf it (by simp)
  have hl:=rv.length
  exact wpAny_pyNext_list_end (I.ok.hd hc) st p.isList (by simp; omega) fun h' eb=>⟨rfl,I.turned (t':=s.toks) (fun b o hb e=>eb b o hb e) f0 f1 f3 f4 f5⟩
 self:=fun _ _ _ _ _ st h=>wpAny_pyIter_listiter st h
theorem turn_tuple {P:Program}{w:World}{K:PySem.W.Frag}{tg:Expr} (a it:Addr):Turn P w K tg (Itt K a) [it] it (fun i h=>h.IsTupleIter it a i) where
 mem:=by simp
 obj:=fun i h st b hb=>by
  have e:b = it:=by simpa using hb
  subst e
  obtain ⟨o,e,c,d⟩:=st
  exact ⟨o,e,fun v z=>by rw [d] at z; cases z⟩
 keep:=fun i h h' st k=>st.at fun o e=>k it (by simp) o e
 item:=by
  intro X hP hw hK hc i zp s σ H E I hf st hg
  subst hP hw hK
  obtain ⟨xs,x,hq,hx⟩:=hg
  obtain ⟨its,rv,p,hz⟩:=I.tuple hq
  obtain ⟨u,hu,ru⟩:=rv.get hx
  obtain ⟨f0,f1,f2,f3,f4,f5⟩:=hf it (by simp)
  refine wpAny_pyNext_tuple_item st (show s.heap.IsTuple a its.toArray from p) (x:=u) (by simpa using hu) fun h' st' sb=>?_
  have I1:Inv X zp σ H { s with heap:=h' }:=I.turned (t':=s.toks) (fun b o hb e=>(sb.2 b hb).trans e) f0 f1 f3 f4 f5
  obtain ⟨o,e,c,d⟩:=id st'
  exact ⟨u,rfl,go_of (s:={ s with heap:=h' }) e c d (by decide) ⟨x,H,I1,ru,⟨rfl,fun ys hy=>by rw [I.tuple_inj hy hq]; exact hx⟩,st',fun b hb=>(hf b hb).1⟩⟩
 done:=by
  intro X hP hw hK hc i zp s σ H E I hf st hg
  subst hP hw hK
  obtain ⟨xs,hq,hx⟩:=hg
  obtain ⟨its,rv,p,hz⟩:=I.tuple hq
  obtain ⟨f0,f1,f2,f3,f4,f5⟩:=hf it (by simp)
  have hl:=rv.length
  exact wpAny_pyNext_tuple_end (I.ok.hd hc) st (show s.heap.IsTuple a its.toArray from p) (by simp; omega) fun h' eb=>⟨rfl,I.turned (t':=s.toks) (fun b o hb e=>eb b o hb e) f0 f1 f3 f4 f5⟩
 self:=fun _ _ _ _ _ st h=>wpAny_pyIter_tupleiter st h
theorem turn_range {P:Program}{w:World}{K:PySem.W.Frag}{tg:Expr} (it:Addr) (lo:Int) (n:Nat):Turn P w K tg (Itr lo n) [it] it (fun i h=>IsRangeIter h it (lo + (i:Nat) * 1) ((n:Int) - (i:Nat)) 1) where
 mem:=by simp
 obj:=fun i h st b hb=>by
  have e:b = it:=by simpa using hb
  subst e
  exact ⟨_,st,fun v z=>by
   have z':Data.fields _ = Data.cell v:=z
   cases z'⟩
 keep:=fun i h h' st k=>k it (by simp) _ st
 item:=by
  intro X hP hw hK hc i zp s σ H E I hf st hg
  subst hP hw hK
  obtain ⟨f0,f1,f2,f3,f4,f5⟩:=hf it (by simp)
  have W:=Walks.range (prog:=X.prog) (w:=X.w) (I.ok.hd hc) it lo 1 n
  refine W.item i s _ _ hg st fun v h' tk hv st' kk=>?_
  obtain ⟨t,rfl⟩:=hv
  have I1:Inv X zp σ H { s with heap:=h',toks:=tk }:=I.turned (fun b o hb e=>kk b o (by simpa using hb) e) f0 f1 f3 f4 f5
  refine ⟨_,rfl,go_of (s:={ s with heap:=h',toks:=tk }) (n:="range_iterator") st' rfl rfl (by decide) ⟨.int (lo + i),H,I1,⟨t,?_⟩,⟨rfl,rfl⟩,st',fun b hb=>(hf b hb).1⟩⟩
  rw [Int.mul_one]
 done:=by
  intro X hP hw hK hc i zp s σ H E I hf st hg
  subst hP hw hK
  obtain ⟨f0,f1,f2,f3,f4,f5⟩:=hf it (by simp)
  exact wpAny_pyNext_range_end (I.ok.hd hc) st (by have:n<=i:=hg; omega) fun h' eb=>⟨rfl,I.turned (t':=s.toks) (fun b o hb e=>eb b o hb e) f0 f1 f3 f4 f5⟩
 self:=fun _ _ _ _ _ st h=>wpAny_pyIter_rangeiter st h
section
variable {X:Cx}{tg:Expr}
def iList (K:PySem.W.Frag) (tl:TE):TI:=fun σ H R=>tl σ H fun x H1=>∃ a,x = .ref a/\(∃ xs,SqL K H1 a xs)/\R (Itl K a) H1
def iTup (K:PySem.W.Frag) (tl:TE):TI:=fun σ H R=>tl σ H fun x H1=>∃ a,x = .ref a/\(∃ xs,SqT K H1 a xs)/\R (Itt K a) H1
theorem pi_list {l:Expr}{tl:TE} (hl:PE X l tl):PI X tg l (iList X.K tl):=by
 intro zp s σ H R I h
 refine thn (hl zp s σ H _ I h) fun v s1 ⟨x,H1,I1,r1,q1⟩=>?_
 obtain ⟨a,e,⟨xs,hq⟩,q⟩:=q1
 subst e
 cases r1
 obtain ⟨its,rv,p,hz⟩:=I1.list hq
 refine wpAny_pyIter_list p.isList ?_
 refine ⟨s1.heap.objs.size,[s1.heap.objs.size],_,_,H1,rfl,I1.kept (t':=s1.toks) fun b o e=>Heap.get?_push_of_some _ e,turn_list a _,⟨_,Heap.get?_push_size _ rfl,rfl,rfl⟩,fun b hb=>?_,q⟩
 have e:b = s1.heap.objs.size:=by simpa using hb
 subst e
 exact I1.fpOk (Nat.le_refl _) (I1.hok.fresh (Nat.le_refl _))
theorem pi_tup {l:Expr}{tl:TE} (hl:PE X l tl):PI X tg l (iTup X.K tl):=by
 intro zp s σ H R I h
 refine thn (hl zp s σ H _ I h) fun v s1 ⟨x,H1,I1,r1,q1⟩=>?_
 obtain ⟨a,e,⟨xs,hq⟩,q⟩:=q1
 subst e
 cases r1
 obtain ⟨its,rv,p,hz⟩:=I1.tuple hq
 refine wpAny_pyIter_tuple (show s1.heap.IsTuple a its.toArray from p) ?_
 refine ⟨s1.heap.objs.size,[s1.heap.objs.size],_,_,H1,rfl,I1.kept (t':=s1.toks) fun b o e=>Heap.get?_push_of_some _ e,turn_tuple a _,⟨_,Heap.get?_push_size _ rfl,rfl,rfl⟩,fun b hb=>?_,q⟩
 have e:b = s1.heap.objs.size:=by simpa using hb
 subst e
 exact I1.fpOk (Nat.le_refl _) (I1.hok.fresh (Nat.le_refl _))
theorem range_it {zp:List (Addr × Obj)}{σ:St}{H:Hp}{s:Shared}{R:It->Hp->Prop}{E:Value->Shared->Prop}{lo hi:Int}{t u v:Tok}{tk:Nat} (I:Inv X zp σ H s) (h1:-(2 ^ 62)<=lo) (h2:lo < 2 ^ 62) (h3:-(2 ^ 62)<=hi) (h4:hi < 2 ^ 62)
  (q:R (Itr lo (hi - lo).toNat) H):wpAny (model X.prog X.w) X.A (pyIter (.ref s.heap.objs.size)) (PIE X zp σ tg R) E { s with heap:=s.heap.push { cls:=.type "range",data:=.fields #[.int lo t,.int hi u,.int 1 v] },toks:=tk }:=by
 refine wpAny_pyIter_range (IsRange.new ..) (small_one h1 h2 h3 h4) ?_
 have I1:Inv X zp σ H { s with heap:=s.heap.push { cls:=.type "range",data:=.fields #[.int lo t,.int hi u,.int 1 v] },toks:=tk }:=I.kept fun b o e=>Heap.get?_push_of_some _ e
 refine ⟨(s.heap.push { cls:=.type "range",data:=.fields #[.int lo t,.int hi u,.int 1 v] }).objs.size,[(s.heap.push { cls:=.type "range",data:=.fields #[.int lo t,.int hi u,.int 1 v] }).objs.size],_,_,H,rfl,
  I1.kept (t':=tk) fun b o e=>Heap.get?_push_of_some _ e,turn_range _ lo (hi - lo).toNat,?_,fun b hb=>?_,q⟩
 ·have e1:lo + ((0:Nat):Int) * 1 = lo:=by simp
  have e2:(((hi - lo).toNat:Nat):Int) - ((0:Nat):Int) = Builtin.Range.rangeSize lo hi 1:=by rw [rangeSize_one]; split <;> omega
  show IsRangeIter _ _ (lo + ((0:Nat):Int) * 1) ((((hi - lo).toNat:Nat):Int) - ((0:Nat):Int)) 1
  rw [e1,e2]
  exact Heap.get?_push_size _ rfl
 ·have e:b = (s.heap.push { cls:=.type "range",data:=.fields #[.int lo t,.int hi u,.int 1 v] }).objs.size:=by simpa using hb
  subst e
  exact I1.fpOk (Nat.le_refl _) (I1.hok.fresh (Nat.le_refl _))
def iRng1 (ta:TA):TI:=fun σ H R=>ta σ H fun vs H1=>∃ j:Int,vs = [.int j]/\-(2 ^ 62)<=j/\j < 2 ^ 62/\R (Itr 0 j.toNat) H1
def iRng2 (ta:TA):TI:=fun σ H R=>ta σ H fun vs H1=>∃ i j:Int,vs = [.int i,.int j]/\(-(2 ^ 62)<=i/\i < 2 ^ 62/\-(2 ^ 62)<=j/\j < 2 ^ 62)/\R (Itr i (j - i).toNat) H1
theorem pi_range1 {a:Expr}{ta:TA}{p pos:Pos} (hg:Gl X "range") (hm:X.mg "range" = none) (ha:PA X [a] ta) (hs:starEach [a] X.env = [(false,eval a X.env)]:=by rfl):PI X tg (.Call (.Name "range" p) [a] [] pos) (iRng1 ta):=by
 intro zp s σ H R I h
 refine Call_ (ld_blt I hg hm boot_range (PyProof.Rows.callWith_type1 (thn (ha pos zp s σ H _ I h) fun us s1 ⟨vs,H1,I1,r1,q1⟩=>?_) hs rfl))
 obtain ⟨j,e,q1,q2,q⟩:=q1
 subst e
 cases r1 with
 | cons r rr=>
  cases rr
  obtain ⟨t,rfl⟩:=r
  exact call_range_1 (range_it I1 (by omega) (by omega) q1 q2 (by simpa using q))
theorem pi_range2 {a b:Expr}{ta:TA}{p pos:Pos} (hg:Gl X "range") (hm:X.mg "range" = none) (ha:PA X [a,b] ta) (hs:starEach [a,b] X.env = [(false,eval a X.env),(false,eval b X.env)]:=by rfl) (hs2:starEach [b] X.env = [(false,eval b X.env)]:=by rfl):
  PI X tg (.Call (.Name "range" p) [a,b] [] pos) (iRng2 ta):=by
 intro zp s σ H R I h
 refine Call_ (ld_blt I hg hm boot_range (PyProof.Rows.callWith_type1 (thn (ha pos zp s σ H _ I h) fun us s1 ⟨vs,H1,I1,r1,q1⟩=>?_) (by rw [hs,hs2]) (by rw [hs2]; rfl)))
 obtain ⟨i,j,e,⟨q1,q2,q3,q4⟩,q⟩:=q1
 subst e
 cases r1 with
 | cons r rr=>
  cases rr with
  | cons r' rr=>
   cases rr
   obtain ⟨t,rfl⟩:=r
   obtain ⟨t',rfl⟩:=r'
   exact call_range_2 (range_it I1 q1 q2 q3 q4 q)
def tFor (wi:TI) (g:TG) (tb:TS):TS:=fun D σ H=>wi σ H fun J H1=>∃ W:Nat->Nat->St->Hp->Prop,(∃ m,W 0 m σ H1)/\∀ i m σ H,W i m σ H->
 (J.stop i H/\D.nx σ H)\/(J.go i H/\∃ N:St->Hp->Prop,(∀ σ' H',N σ' H'->∃ m',m' < m/\W (i + 1) m' σ' H')/\∀ x H',J.yld i H x H'->g x σ H' fun σ2 H2=>tb { D with nx:=N,ct:=N,bk:=D.nx } σ2 H2)
def pinsAt (fp:List Addr) (h:Heap):List (Addr × Obj):=fp.filterMap fun b=>(h.get? b).map fun o=>(b,o)
theorem mem_pinsAt {fp:List Addr}{h:Heap}{b:Addr}{o:Obj} (hb:b∈fp) (e:h.get? b = some o):(b,o)∈pinsAt fp h:=List.mem_filterMap.mpr ⟨b,hb,by rw [e]; rfl⟩
theorem of_pinsAt {fp:List Addr}{h:Heap}{p:Addr × Obj} (hp:p∈pinsAt fp h):p.1∈fp/\h.get? p.1 = some p.2:=by
 obtain ⟨b,hb,e⟩:=List.mem_filterMap.mp hp
 cases q:h.get? b with
 | none=>rw [q] at e; cases e
 | some o=>
  rw [q] at e
  have e':(b,o) = p:=Option.some.inj e
  subst e'
  exact ⟨hb,q⟩
theorem Inv.pinned {zp:List (Addr × Obj)}{σ:St}{H:Hp}{s:Shared}{fp:List Addr} (I:Inv X zp σ H s) (hf:∀ b∈fp,FpOk X zp H b) (ho:∀ b∈fp,∃ o,s.heap.get? b = some o/\∀ v,o.data≠.cell v):Inv X (zp ++ pinsAt fp s.heap) σ H s:=
 I.pins_of fun p hp=>(List.mem_append.mp hp).elim (fun z=>I.pin p (List.mem_append_right _ z)) fun z=>by
  obtain ⟨hb,e⟩:=of_pinsAt z
  obtain ⟨f0,f1,f2,_⟩:=hf p.1 hb
  obtain ⟨o,e',d⟩:=ho p.1 hb
  rw [e] at e'; cases e'
  exact ⟨e,f0,f1,f2,d⟩
theorem Inv.unpinned {zp pl:List (Addr × Obj)}{σ:St}{H:Hp}{s:Shared} (I:Inv X (zp ++ pl) σ H s):Inv X zp σ H s:=I.pins_of fun p hp=>I.pin p (List.mem_append_right _ (List.mem_append_left _ hp))
theorem ps_for {iter:Expr}{body:List Stmt}{wi:TI}{g:TG}{tb:TS}{pos:Pos} (hp:PassesOwn (model X.prog X.w) X.A X.env X.xe) (hc:X.calm = true) (hi:PI X tg iter wi) (hg:PG X tg g) (hb:PSs X body tb)
  (hs:∀ x,foldedSetIterable iter X.env x = pure x:=by intro _; rfl):PS X (.For tg iter body [] pos) (tFor wi g tb):=by
 intro zp s σ H D I h
 refine wpAny_For (thn (hi zp s σ H _ I h) fun v s1 h1=>thn h1 fun itv s2 h2=>?_) hs
 obtain ⟨it,fp,tn,J,H2,e,I2,T,st2,f2,W,⟨m0,w0⟩,turn⟩:=h2
 subst e
 have stat:∀ {H':Hp},(∀ b∈fp,H' b = none)->∀ b∈fp,FpOk X zp H' b:=fun hn b hb=>⟨hn b hb,(f2 b hb).2⟩
 refine codeAny_forLoop_any (fun n s'=>∃ i σ' H',Inv X zp σ' H' s'/\tn i s'.heap/\(∀ b∈fp,H' b = none)/\W i n σ' H') ?_ m0 ⟨0,σ,H2,I2,st2,fun b hb=>(f2 b hb).1,w0⟩
 rintro n s3 ⟨i,σ3,H3,I3,st3,fr3,w3⟩
 rcases turn i n σ3 H3 w3 with ⟨stop,qn⟩ | ⟨go,N,hN,step⟩
 ·refine wpAny_passesOwn hp (thn (T.done X rfl rfl rfl hc i zp s3 σ3 H3 X.xe I3 (stat fr3) st3 stop) fun r s4 ⟨hr,I4⟩=>?_)
  subst hr
  exact wpAny_execs_nil ⟨σ3,H3,I4,qn⟩
 ·refine wpAny_passesOwn hp (thn (T.item X rfl rfl rfl hc i zp s3 σ3 H3 X.xe I3 (stat fr3) st3 go) fun r s4 ⟨u,hr,h4⟩=>?_)
  subst hr
  refine wpAny_passesOwn hp (thn h4 fun _ s5 ⟨x,H5,I5,r5,y5,st5,fr5⟩=>?_)
  have I5':=I5.pinned (stat fr5) (T.obj _ _ st5)
  refine wpAny_passesOwn hp (thn (hg _ s5 σ3 H5 x u _ I5' r5 (step x H5 y5)) fun _ s6 ⟨σ6,H6,I6,q6⟩=>?_)
  refine wpAny_passesOwn hp (thn (hb _ s6 σ6 H6 _ I6 q6) fun f s7 q7=>?_)
  have again:∀ {σ7:St}{H7:Hp},Inv X (zp ++ pinsAt fp s5.heap) σ7 H7 s7->N σ7 H7->∃ m,m < n/\∃ i σ' H',Inv X zp σ' H' s7/\tn i s7.heap/\(∀ b∈fp,H' b = none)/\W i m σ' H':=fun {σ7 H7} I7 n7=>by
   obtain ⟨m',hm,w7⟩:=hN σ7 H7 n7
   refine ⟨m',hm,i + 1,σ7,H7,I7.unpinned,T.keep _ _ _ st5 fun b hb o e=>(I7.pin (b,o) (List.mem_append_right _ (List.mem_append_right _ (mem_pinsAt hb e)))).1,fun b hb=>?_,w7⟩
   obtain ⟨o,e,d⟩:=T.obj _ _ st5 b hb
   exact (I7.pin (b,o) (List.mem_append_right _ (List.mem_append_right _ (mem_pinsAt hb e)))).2.1
  cases f with
  | next=>obtain ⟨σ7,H7,I7,n7⟩:=q7; exact again I7 n7
  | cont=>obtain ⟨σ7,H7,I7,n7⟩:=q7; exact again I7 n7
  | brk=>obtain ⟨σ7,H7,I7,q7⟩:=q7; exact ⟨σ7,H7,I7.unpinned,q7⟩
  | ret v=>obtain ⟨x7,σ7,H7,I7,r7,q7⟩:=q7; exact ⟨x7,σ7,H7,I7.unpinned,r7,q7⟩
end
theorem for_list {K:PySem.W.Frag}{a:Addr}{xs:List V}{g:TG}{tb:TS}{D:Ends}{σ:St}{H:Hp} (Pv:Nat->St->Hp->Prop) (h0:Pv 0 σ H) (hl:∀ i σ H,i<=xs.length->Pv i σ H->SqL K H a xs)
  (hs:∀ i x σ H,xs[i]? = some x->Pv i σ H->g x σ H fun σ2 H2=>tb { D with nx:=Pv (i + 1),ct:=Pv (i + 1),bk:=D.nx } σ2 H2) (hd:∀ σ H,Pv xs.length σ H->D.nx σ H):
  ∃ W:Nat->Nat->St->Hp->Prop,(∃ m,W 0 m σ H)/\∀ i m σ H,W i m σ H->
   ((Itl K a).stop i H/\D.nx σ H)\/((Itl K a).go i H/\∃ N:St->Hp->Prop,(∀ σ' H',N σ' H'->∃ m',m' < m/\W (i + 1) m' σ' H')/\∀ x H',(Itl K a).yld i H x H'->g x σ H' fun σ2 H2=>tb { D with nx:=N,ct:=N,bk:=D.nx } σ2 H2):=by
 refine ⟨fun i m σ H=>m = xs.length - i/\i<=xs.length/\Pv i σ H,⟨xs.length,by simp,Nat.zero_le _,h0⟩,?_⟩
 rintro i m σ H ⟨rfl,hi,p⟩
 have q:=hl i σ H hi p
 by_cases hlt:i < xs.length
 ·refine .inr ⟨⟨xs,xs[i],q,by simp [hlt]⟩,Pv (i + 1),fun σ' H' p'=>⟨xs.length - (i + 1),by omega,rfl,hlt,p'⟩,fun x H' y=>?_⟩
  obtain ⟨e,y⟩:=y
  subst e
  exact hs i x σ _ (y xs q) p
 ·have e:i = xs.length:=by omega
  subst e
  exact .inl ⟨⟨xs,q,Nat.le_refl _⟩,hd σ H p⟩
theorem for_range {lo:Int}{n:Nat}{g:TG}{tb:TS}{D:Ends}{σ:St}{H:Hp} (Pv:Nat->St->Hp->Prop) (h0:Pv 0 σ H)
  (hs:∀ i σ H,i < n->Pv i σ H->g (.int (lo + i)) σ H fun σ2 H2=>tb { D with nx:=Pv (i + 1),ct:=Pv (i + 1),bk:=D.nx } σ2 H2) (hd:∀ σ H,Pv n σ H->D.nx σ H):
  ∃ W:Nat->Nat->St->Hp->Prop,(∃ m,W 0 m σ H)/\∀ i m σ H,W i m σ H->
   ((Itr lo n).stop i H/\D.nx σ H)\/((Itr lo n).go i H/\∃ N:St->Hp->Prop,(∀ σ' H',N σ' H'->∃ m',m' < m/\W (i + 1) m' σ' H')/\∀ x H',(Itr lo n).yld i H x H'->g x σ H' fun σ2 H2=>tb { D with nx:=N,ct:=N,bk:=D.nx } σ2 H2):=by
 refine ⟨fun i m σ H=>m = n - i/\i<=n/\Pv i σ H,⟨n,by simp,Nat.zero_le _,h0⟩,?_⟩
 rintro i m σ H ⟨rfl,hi,p⟩
 by_cases hlt:i < n
 ·refine .inr ⟨hlt,Pv (i + 1),fun σ' H' p'=>⟨n - (i + 1),by omega,rfl,hlt,p'⟩,fun x H' y=>?_⟩
  obtain ⟨e,y⟩:=y
  subst e y
  exact hs i σ _ hlt p
 ·have e:i = n:=by omega
  subst e
  exact .inl ⟨Nat.le_refl _,hd σ H p⟩
abbrev R2:=V->V->Hp->VK->Prop
def OpR (X:Cx) (f:Value->Value->Sem Value) (r:R2):Prop:=
 ∀ (zp:List (Addr × Obj)) (s:Shared) (σ:St) (H:Hp) (x y:V) (v u:Value) (Q:VK),Inv X zp σ H s->RelV x v->RelV y u->r x y H Q->
  wpAny (model X.prog X.w) X.A (f v u) (EP X zp σ Q) X.xe s
def UnR (X:Cx) (f:Value->Sem Value) (r:V->Hp->VK->Prop):Prop:=
 ∀ (zp:List (Addr × Obj)) (s:Shared) (σ:St) (H:Hp) (x:V) (v:Value) (Q:VK),Inv X zp σ H s->RelV x v->r x H Q->
  wpAny (model X.prog X.w) X.A (f v) (EP X zp σ Q) X.xe s
def CallR (X:Cx) (f:Value) (r:List V->Hp->VK->Prop):Prop:=
 ∀ (zp:List (Addr × Obj)) (s:Shared) (σ:St) (H:Hp) (xs:List V) (us:List Value) (Q:VK),Inv X zp σ H s->Vals xs us->r xs H Q->
  wpAny (model X.prog X.w) X.A (call f us) (EP X zp σ Q) X.xe s
def tOp (r:R2) (ta tb:TE):TE:=fun σ H Q=>ta σ H fun x H1=>tb σ H1 fun y H2=>r x y H2 Q
def tUn (r:V->Hp->VK->Prop) (ta:TE):TE:=fun σ H Q=>ta σ H fun x H1=>r x H1 Q
def rI (C:Int->Int->Prop) (g:Int->Int->V):R2:=fun x y H Q=>∃ i j,x = .int i/\y = .int j/\C i j/\Q (g i j) H
def rI0 (g:Int->Int->V):R2:=fun x y H Q=>∃ i j,x = .int i/\y = .int j/\Q (g i j) H
def rU (g:Int->V):V->Hp->VK->Prop:=fun x H Q=>∃ i,x = .int i/\Q (g i) H
section
variable {X:Cx}{a b c:Expr}{ta tb tc:TE}{pos:Pos}
theorem binT (ha:PE X a ta) (hb:PE X b tb) {zp:List (Addr × Obj)}{s:Shared}{σ:St}{H:Hp}{R:V->V->Hp->Prop} (I:Inv X zp σ H s)
  (h:ta σ H fun x H1=>tb σ H1 fun y H2=>R x y H2) {Q:Value->Shared->Prop}{f:Value->Value->Sem Value}
  (hf:∀ v u s2 x y H2,Inv X zp σ H2 s2->RelV x v->RelV y u->R x y H2->wpAny (model X.prog X.w) X.A (f v u) Q X.xe s2):
  wpAny (model X.prog X.w) X.A (eval a X.env) (fun v s₁=>wpAny (model X.prog X.w) X.A (eval b X.env) (fun u s₂=>wpAny (model X.prog X.w) X.A (f v u) Q X.xe s₂) X.xe s₁) X.xe s:=by
 refine thn (ha zp s σ H _ I h) fun v s1 ⟨x,H1,I1,r1,q1⟩=>?_
 refine thn (hb zp s1 σ H1 _ I1 q1) fun u s2 ⟨y,H2,I2,r2,q2⟩=>?_
 exact hf v u s2 x y H2 I2 r1 r2 q2
theorem pe_op {op:Operator}{r:R2} (ho:OpR X (binaryOp op) r) (ha:PE X a ta) (hb:PE X b tb):PE X (.BinOp a op b pos) (tOp r ta tb):=by
 intro zp s σ H Q I h
 exact wpAny_BinOp (binT ha hb I h fun v u s2 x y H2 I2 rx ry q=>ho zp s2 σ H2 x y v u Q I2 rx ry q)
theorem pe_un {op:UnaryOp}{r:V->Hp->VK->Prop} (ho:UnR X (unaryOp op) r) (ha:PE X a ta):PE X (.UnaryOp op a pos) (tUn r ta):=by
 intro zp s σ H Q I h
 exact UnaryOp_ (thn (ha zp s σ H _ I h) fun v s1 ⟨x,H1,I1,r1,q1⟩=>ho zp s1 σ H1 x v Q I1 r1 q1)
theorem opI {f:Value->Value->Sem Value}{C:Int->Int->Prop}{g:Int->Int->Int}
  (rule:∀ (i j:Int) (t u:Tok) (s:Shared) (Q:Value->Shared->Prop) (E:Value->Shared->Prop),C i j->Q (.int (g i j) s.toks) { s with toks:=s.toks + 1 }->wpAny (model X.prog X.w) X.A (f (.int i t) (.int j u)) Q E s):
  OpR X f (rI C fun i j=>.int (g i j)):=by
 intro zp s σ H x y v u Q I rx ry h
 obtain ⟨i,j,rfl,rfl,hc,q⟩:=h
 obtain ⟨t,rfl⟩:=rx
 obtain ⟨t',rfl⟩:=ry
 exact rule i j t t' s _ _ hc ⟨.int (g i j),H,I.tok _,⟨_,rfl⟩,q⟩
theorem opI0 {f:Value->Value->Sem Value}{g:Int->Int->Int}
  (rule:∀ (i j:Int) (t u:Tok) (s:Shared) (Q:Value->Shared->Prop) (E:Value->Shared->Prop),Q (.int (g i j) s.toks) { s with toks:=s.toks + 1 }->wpAny (model X.prog X.w) X.A (f (.int i t) (.int j u)) Q E s):
  OpR X f (rI0 fun i j=>.int (g i j)):=by
 intro zp s σ H x y v u Q I rx ry h
 obtain ⟨i,j,rfl,rfl,q⟩:=h
 obtain ⟨t,rfl⟩:=rx
 obtain ⟨t',rfl⟩:=ry
 exact rule i j t t' s _ _ ⟨.int (g i j),H,I.tok _,⟨_,rfl⟩,q⟩
theorem opB0 {f:Value->Value->Sem Value}{g:Int->Int->Bool}
  (rule:∀ (i j:Int) (t u:Tok) (s:Shared) (Q:Value->Shared->Prop) (E:Value->Shared->Prop),Q (.bool (g i j)) s->wpAny (model X.prog X.w) X.A (f (.int i t) (.int j u)) Q E s):
  OpR X f (rI0 fun i j=>.bl (g i j)):=by
 intro zp s σ H x y v u Q I rx ry h
 obtain ⟨i,j,rfl,rfl,q⟩:=h
 obtain ⟨t,rfl⟩:=rx
 obtain ⟨t',rfl⟩:=ry
 exact rule i j t t' s _ _ ⟨.bl (g i j),H,I,rfl,q⟩
def CPow (i j:Int):Prop:=0<=j/\j<=1000000/\i.natAbs < 2 ^ 64
def CMul (i j:Int):Prop:=(-(2 ^ 64) < i/\i < 2 ^ 64)\/(-(2 ^ 64) < j/\j < 2 ^ 64)
theorem CMul.ok {i j:Int} (h:CMul i j):IntMulOk i j:=by
 rcases h with ⟨h1,h2⟩ | ⟨h1,h2⟩
 ·exact .of_left (intBits_le_64 h1 h2)
 ·exact .of_right (intBits_le_64 h1 h2)
theorem op_add:OpR X (binaryOp .Add) (rI0 fun i j=>.int (i + j)):=opI0 fun _ _ _ _ _ _ _ q=>add_int q
theorem op_sub:OpR X (binaryOp .Sub) (rI0 fun i j=>.int (i - j)):=opI0 fun _ _ _ _ _ _ _ q=>sub_int q
theorem op_mul:OpR X (binaryOp .Mult) (rI CMul fun i j=>.int (i * j)):=opI fun _ _ _ _ _ _ _ hc q=>mul_int q hc.ok
theorem op_mod:OpR X (binaryOp .Mod) (rI (fun _ j=>0 < j) fun i j=>.int (i % j)):=opI fun i j _ _ _ _ _ hc q=>by
 have h1:(0:Int) < j:=hc
 exact mod_int' (by omega) (by rw [Int.fmod_eq_emod_of_nonneg i (by omega)]; exact q)
theorem op_pow:OpR X (binaryOp .Pow) (rI CPow fun i j=>.int (i ^ j.toNat)):=opI fun _ _ _ _ _ _ _ hc q=>pow_int_small hc.1 hc.2.1 hc.2.2 q
theorem iop_add:OpR X (inplaceOp .Add) (rI0 fun i j=>.int (i + j)):=opI0 fun _ _ _ _ _ _ _ q=>iadd_int q
theorem unI {f:Value->Sem Value}{g:Int->Int}
  (rule:∀ (i:Int) (t:Tok) (s:Shared) (Q:Value->Shared->Prop) (E:Value->Shared->Prop),Q (.int (g i) s.toks) { s with toks:=s.toks + 1 }->wpAny (model X.prog X.w) X.A (f (.int i t)) Q E s):
  UnR X f (rU fun i=>.int (g i)):=by
 intro zp s σ H x v Q I rx h
 obtain ⟨i,rfl,q⟩:=h
 obtain ⟨t,rfl⟩:=rx
 exact rule i t s _ _ ⟨.int (g i),H,I.tok _,⟨_,rfl⟩,q⟩
theorem un_neg:UnR X (unaryOp .USub) (rU fun i=>.int (-i)):=unI fun _ _ _ _ _ q=>neg_int q
end
def scal:V->V->Bool
 | .non,.non=>true | .non,.int _=>true | .int _,.non=>true | .non,.bl _=>true | .bl _,.non=>true | .non,.str _=>true | .str _,.non=>true
 | .int _,.int _=>true | .bl _,.bl _=>true | .str _,.str _=>true | .byt _,.byt _=>true
 | .int _,.str _=>true | .str _,.int _=>true | .bl _,.str _=>true | .str _,.bl _=>true
 | _,_=>false
def rEq:R2:=fun x y H Q=>scal x y = true/\Q (.bl (decide (x = y))) H
def rNe:R2:=fun x y H Q=>scal x y = true/\Q (.bl (!decide (x = y))) H
theorem dec_int {i j:Int}:decide (V.int i = V.int j) = (i == j):=by
 rw [Bool.eq_iff_iff]
 simp
theorem dec_bl {i j:Bool}:decide (V.bl i = V.bl j) = (i == j):=by
 rw [Bool.eq_iff_iff]
 simp
theorem dec_str {i j:Str}:decide (V.str i = V.str j) = (i == j):=by
 rw [Bool.eq_iff_iff]
 simp
theorem dec_byt {i j:Array UInt8}:decide (V.byt i = V.byt j) = (i.toList == j.toList):=by
 rw [Bool.eq_iff_iff]
 cases i
 cases j
 simp
section
variable {X:Cx}{a b c:Expr}{ta tb tc:TE}{pos:Pos}
theorem fin_bl {zp:List (Addr × Obj)}{σ:St}{H:Hp}{s:Shared}{Q:VK}{k k':Bool} (I:Inv X zp σ H s) (q:Q (.bl k) H) (e:k = k'):EP X zp σ Q (.bool k') s:=by
 subst e
 exact ⟨.bl k,H,I,rfl,q⟩
theorem op_eq:OpR X (compareOp .Eq) rEq:=by
 intro zp s σ H x y v u Q I rx ry h
 obtain ⟨hs,q⟩:=h
 cases x with
 | non=>
  cases rx
  cases y with
  | non=>cases ry; exact PySem.EqNone.eq_none_none (fin_bl I q (by simp))
  | bl j=>cases ry; exact PySem.EqNone.eq_none_bool (fin_bl I q (by simp))
  | int j=>obtain ⟨t',rfl⟩:=ry; exact PySem.EqNone.eq_none_int (fin_bl I q (by simp))
  | str j=>obtain ⟨t',rfl⟩:=ry; exact PySem.EqNone.eq_none_str (fin_bl I q (by simp))
  | _=>exact absurd (show false = true from hs) Bool.false_ne_true
 | bl i=>
  cases rx
  cases y with
  | non=>cases ry; exact PySem.EqNone.eq_bool_none (fin_bl I q (by simp))
  | bl j=>cases ry; exact eq_bool (fin_bl I q dec_bl)
  | str j=>obtain ⟨t',rfl⟩:=ry; exact PySem.EqMixed.eq_bool_str (fin_bl I q (by simp))
  | _=>exact absurd (show false = true from hs) Bool.false_ne_true
 | int i=>
  obtain ⟨t,rfl⟩:=rx
  cases y with
  | non=>cases ry; exact PySem.EqNone.eq_int_none (fin_bl I q (by simp))
  | int j=>obtain ⟨t',rfl⟩:=ry; exact eq_int (fin_bl I q dec_int)
  | str j=>obtain ⟨t',rfl⟩:=ry; exact PySem.EqMixed.eq_int_str (fin_bl I q (by simp))
  | _=>exact absurd (show false = true from hs) Bool.false_ne_true
 | str i=>
  obtain ⟨t,rfl⟩:=rx
  cases y with
  | non=>cases ry; exact PySem.EqNone.eq_str_none (fin_bl I q (by simp))
  | bl j=>cases ry; exact PySem.EqMixed.eq_str_bool (fin_bl I q (by simp))
  | int j=>obtain ⟨t',rfl⟩:=ry; exact PySem.EqMixed.eq_str_int (fin_bl I q (by simp))
  | str j=>obtain ⟨t',rfl⟩:=ry; exact eq_str (fin_bl I q dec_str)
  | _=>exact absurd (show false = true from hs) Bool.false_ne_true
 | byt i=>
  obtain ⟨t,rfl⟩:=rx
  cases y with
  | byt j=>obtain ⟨t',rfl⟩:=ry; exact PySem.W.eq_bytes (fin_bl I q dec_byt)
  | _=>exact absurd (show false = true from hs) Bool.false_ne_true
 | _=>cases y <;> exact absurd (show false = true from hs) Bool.false_ne_true
theorem op_ne:OpR X (compareOp .NotEq) rNe:=by
 intro zp s σ H x y v u Q I rx ry h
 obtain ⟨hs,q⟩:=h
 cases x with
 | non=>
  cases rx
  cases y with
  | non=>cases ry; exact PySem.EqNone.ne_none_none (fin_bl I q (by simp))
  | bl j=>cases ry; exact PySem.EqNone.ne_none_bool (fin_bl I q (by simp))
  | int j=>obtain ⟨t',rfl⟩:=ry; exact PySem.EqNone.ne_none_int (fin_bl I q (by simp))
  | str j=>obtain ⟨t',rfl⟩:=ry; exact PySem.EqNone.ne_none_str (fin_bl I q (by simp))
  | _=>exact absurd (show false = true from hs) Bool.false_ne_true
 | bl i=>
  cases rx
  cases y with
  | non=>cases ry; exact PySem.EqNone.ne_bool_none (fin_bl I q (by simp))
  | bl j=>cases ry; exact ne_bool (fin_bl I q (congrArg not dec_bl))
  | str j=>obtain ⟨t',rfl⟩:=ry; exact PySem.EqMixed.ne_bool_str (fin_bl I q (by simp))
  | _=>exact absurd (show false = true from hs) Bool.false_ne_true
 | int i=>
  obtain ⟨t,rfl⟩:=rx
  cases y with
  | non=>cases ry; exact PySem.EqNone.ne_int_none (fin_bl I q (by simp))
  | int j=>obtain ⟨t',rfl⟩:=ry; exact ne_int (fin_bl I q (congrArg not dec_int))
  | str j=>obtain ⟨t',rfl⟩:=ry; exact PySem.EqMixed.ne_int_str (fin_bl I q (by simp))
  | _=>exact absurd (show false = true from hs) Bool.false_ne_true
 | str i=>
  obtain ⟨t,rfl⟩:=rx
  cases y with
  | non=>cases ry; exact PySem.EqNone.ne_str_none (fin_bl I q (by simp))
  | bl j=>cases ry; exact PySem.EqMixed.ne_str_bool (fin_bl I q (by simp))
  | int j=>obtain ⟨t',rfl⟩:=ry; exact PySem.EqMixed.ne_str_int (fin_bl I q (by simp))
  | str j=>obtain ⟨t',rfl⟩:=ry; exact ne_str (fin_bl I q (congrArg not dec_str))
  | _=>exact absurd (show false = true from hs) Bool.false_ne_true
 | byt i=>
  obtain ⟨t,rfl⟩:=rx
  cases y with
  | byt j=>obtain ⟨t',rfl⟩:=ry; exact PySem.W.ne_bytes (fin_bl I q (congrArg not dec_byt))
  | _=>exact absurd (show false = true from hs) Bool.false_ne_true
 | _=>cases y <;> exact absurd (show false = true from hs) Bool.false_ne_true
theorem op_lt:OpR X (compareOp .Lt) (rI0 fun i j=>.bl (decide (i < j))):=opB0 fun _ _ _ _ _ _ _ q=>lt_int q
theorem op_le:OpR X (compareOp .LtE) (rI0 fun i j=>.bl (decide (i<=j))):=opB0 fun _ _ _ _ _ _ _ q=>le_int q
theorem op_gt:OpR X (compareOp .Gt) (rI0 fun i j=>.bl (decide (j < i))):=opB0 fun _ _ _ _ _ _ _ q=>gt_int q
theorem op_ge:OpR X (compareOp .GtE) (rI0 fun i j=>.bl (decide (j<=i))):=opB0 fun _ _ _ _ _ _ _ q=>ge_int q
theorem op_in_str:OpR X (compareOp .In) (fun x y H Q=>∃ i j,x = .str i/\y = .str j/\Q (.bl (!(Builtin.Str.occurrences j i 0 j.length 1).isEmpty)) H):=by
 intro zp s σ H x y v u Q I rx ry h
 obtain ⟨i,j,rfl,rfl,q⟩:=h
 obtain ⟨t,rfl⟩:=rx
 obtain ⟨t',rfl⟩:=ry
 exact in_str (fin_bl I q rfl)
theorem op_notin_str:OpR X (compareOp .NotIn) (fun x y H Q=>∃ i j,x = .str i/\y = .str j/\Q (.bl (!(!(Builtin.Str.occurrences j i 0 j.length 1).isEmpty))) H):=by
 intro zp s σ H x y v u Q I rx ry h
 obtain ⟨i,j,rfl,rfl,q⟩:=h
 obtain ⟨t,rfl⟩:=rx
 obtain ⟨t',rfl⟩:=ry
 exact notIn_str (fin_bl I q rfl)
theorem OpR.or {f:Value->Value->Sem Value}{r r':R2} (h:OpR X f r) (h':OpR X f r'):OpR X f (fun x y H Q=>r x y H Q\/r' x y H Q):=by
 intro zp s σ H x y v u Q I rx ry q
 rcases q with q | q
 ·exact h zp s σ H x y v u Q I rx ry q
 ·exact h' zp s σ H x y v u Q I rx ry q
theorem nomark (b:Expr) {op:CmpOp} (h:op≠.In:=by decide) (h2:op≠.NotIn:=by decide):behindInMarks op b = false:=by
 have e1:(op == CmpOp.In) = false:=by cases op <;> first | rfl | exact absurd rfl h
 have e2:(op == CmpOp.NotIn) = false:=by cases op <;> first | rfl | exact absurd rfl h2
 cases b <;> simp [behindInMarks,e1,e2]
theorem pe_cmpR {op:CmpOp}{r:R2} (ho:OpR X (compareOp op) r) (ha:PE X a ta) (hb:PE X b tb) (hm:behindInMarks op b = false):PE X (.Compare a [op] [b] pos) (tOp r ta tb):=by
 intro zp s σ H Q I h
 exact wpAny_Compare1 (binT ha hb I h fun v u s2 x y H2 I2 rx ry q=>ho zp s2 σ H2 x y v u Q I2 rx ry q) hm
def tTest (t:TE):TT:=fun σ H Q=>t σ H fun x H'=>∃ k,x = .bl k/\Q k H'
theorem pt_cmpR {op:CmpOp}{r:R2} (ho:OpR X (compareOp op) r) (ha:PE X a ta) (hb:PE X b tb) (hm:behindInMarks op b = false):PT X (.Compare a [op] [b] pos) (tTest (tOp r ta tb)):=by
 intro zp s σ H Q I h
 refine wpAny_isTrue_Compare1 (thn (ha zp s σ H _ I h) fun v s1 ⟨x,H1,I1,r1,q1⟩=>thn (hb zp s1 σ H1 _ I1 q1) fun u s2 ⟨y,H2,I2,r2,q2⟩=>
  thn (ho zp s2 σ H2 x y v u _ I2 r1 r2 q2) fun c s3 ⟨z,H3,I3,r3,k,e,q3⟩=>?_) hm
 subst e
 cases r3
 exact wpAny_truthy_bool ⟨H3,I3,q3⟩
def tChain (r r':R2) (ta tb tc:TE):TE:=fun σ H Q=>ta σ H fun x H1=>tb σ H1 fun y H2=>r x y H2 fun z H3=>∃ k,z = .bl k /\
 (if k = true then tc σ H3 fun w' H4=>r' y w' H4 Q else Q (.bl false) H3)
theorem pe_chain {op op':CmpOp}{r r':R2} (ho:OpR X (compareOp op) r) (ho':OpR X (compareOp op') r') (ha:PE X a ta) (hb:PE X b tb) (hc:PE X c tc)
  (hm:lastMarks [op,op'] [b,c] = false:=by with_unfolding_all rfl):PE X (.Compare a [op,op'] [b,c] pos) (tChain r r' ta tb tc):=by
 intro zp s σ H Q I h
 refine Compare_chain (thn (ha zp s σ H _ I h) fun v s1 ⟨x,H1,I1,r1,q1⟩=>chain_link (thn (hb zp s1 σ H1 _ I1 q1) fun u s2 ⟨y,H2,I2,r2,q2⟩=>
  thn (ho zp s2 σ H2 x y v u _ I2 r1 r2 q2) fun d s3 ⟨z,H3,I3,r3,k,e,q3⟩=>?_)) hm
 subst e
 cases r3
 refine wpAny_truthy_bool ?_
 cases k with
 | false=>exact ite_ff ⟨.bl false,H3,I3,rfl,q3⟩
 | true=>exact ite_tt (chain_last (thn (hc zp s3 σ H3 _ I3 q3) fun w' s4 ⟨z',H4,I4,r4,q4⟩=>ho' zp s4 σ H4 y z' u w' Q I4 r2 r4 q4))
theorem pt_chain {op op':CmpOp}{r r':R2} (ho:OpR X (compareOp op) r) (ho':OpR X (compareOp op') r') (ha:PE X a ta) (hb:PE X b tb) (hc:PE X c tc)
  (hm:lastMarks [op,op'] [b,c] = false:=by with_unfolding_all rfl):PT X (.Compare a [op,op'] [b,c] pos) (tTest (tChain r r' ta tb tc)):=by
 intro zp s σ H Q I h
 refine isTrue_chain (thn (ha zp s σ H _ I h) fun v s1 ⟨x,H1,I1,r1,q1⟩=>test_link (thn (hb zp s1 σ H1 _ I1 q1) fun u s2 ⟨y,H2,I2,r2,q2⟩=>
  thn (ho zp s2 σ H2 x y v u _ I2 r1 r2 q2) fun d s3 ⟨z,H3,I3,r3,k,e,q3⟩=>?_)) hm
 subst e
 cases r3
 refine wpAny_truthy_bool ?_
 cases k with
 | false=>
  obtain ⟨k',e',q'⟩:=q3
  cases e'
  exact ite_ff ⟨H3,I3,q'⟩
 | true=>
  refine ite_tt (test_last (thn (hc zp s3 σ H3 _ I3 q3) fun w' s4 ⟨z',H4,I4,r4,q4⟩=>thn (ho' zp s4 σ H4 y z' u w' _ I4 r2 r4 q4) fun d' s5 ⟨z2,H5,I5,r5,k2,e2,q5⟩=>?_))
  subst e2
  cases r5
  exact wpAny_truthy_bool ⟨H5,I5,q5⟩
theorem line63:(sizeLine:Nat) < 2 ^ 63:=by rw [sizeLine_eq]; decide
theorem op_add_str:OpR X (binaryOp .Add) (fun x y H Q=>∃ i j,x = .str i/\y = .str j/\i.length + j.length<=sizeLine/\Q (.str (i ++ j)) H):=by
 intro zp s σ H x y v u Q I rx ry h
 obtain ⟨i,j,rfl,rfl,hz,q⟩:=h
 obtain ⟨t,rfl⟩:=rx
 obtain ⟨t',rfl⟩:=ry
 exact add_str (fun t' tk=>⟨.str (i ++ j),H,I.tok _,⟨_,rfl⟩,q⟩) hz
theorem vals1 {x:V}{us:List Value} (r:Vals [x] us):∃ u,us = [u]/\RelV x u:=by
 cases r with
 | cons r1 r2=>cases r2; exact ⟨_,rfl,r1⟩
theorem vals2 {x y:V}{us:List Value} (r:Vals [x,y] us):∃ u w',us = [u,w']/\RelV x u/\RelV y w':=by
 cases r with
 | cons r1 r2=>
  cases r2 with
  | cons r3 r4=>cases r4; exact ⟨_,_,rfl,r1,r3⟩
theorem call_abs:CallR X (.builtin "abs") (fun xs H Q=>∃ i,xs = [.int i]/\Q (.int (if i < 0 then -i else i)) H):=by
 intro zp s σ H xs us Q I r h
 obtain ⟨i,rfl,q⟩:=h
 obtain ⟨u,rfl,t,rfl⟩:=vals1 r
 exact call_abs_int fun u tk=>⟨.int (if i < 0 then -i else i),H,I.tok _,⟨_,rfl⟩,q⟩
theorem call_max2 (hc:X.calm = true):CallR X (.builtin "max") (fun xs H Q=>∃ i j,xs = [.int i,.int j]/\Q (.int (if j > i then j else i)) H):=by
 intro zp s σ H xs us Q I r h
 obtain ⟨i,j,rfl,q⟩:=h
 obtain ⟨u,w',rfl,⟨t,rfl⟩,⟨t',rfl⟩⟩:=vals2 r
 refine max_two_ints (I.ok.hd hc) fun h' tk k=>⟨_,H,I.kept k,?_,q⟩
 by_cases hj:j > i
 ·rw [if_pos hj,if_pos hj]; exact ⟨_,rfl⟩
 ·rw [if_neg hj,if_neg hj]; exact ⟨_,rfl⟩
theorem call_min2 (hc:X.calm = true):CallR X (.builtin "min") (fun xs H Q=>∃ i j,xs = [.int i,.int j]/\Q (.int (if j < i then j else i)) H):=by
 intro zp s σ H xs us Q I r h
 obtain ⟨i,j,rfl,q⟩:=h
 obtain ⟨u,w',rfl,⟨t,rfl⟩,⟨t',rfl⟩⟩:=vals2 r
 refine min_two_ints (I.ok.hd hc) fun h' tk k=>⟨_,H,I.kept k,?_,q⟩
 by_cases hj:j < i
 ·rw [if_pos hj,if_pos hj]; exact ⟨_,rfl⟩
 ·rw [if_neg hj,if_neg hj]; exact ⟨_,rfl⟩
theorem call_int1:CallR X (.type "int") (fun xs H Q=>(∃ i,xs = [.int i]/\Q (.int i) H)\/∃ k,xs = [.bl k]/\Q (.int (if k then 1 else 0)) H):=by
 intro zp s σ H xs us Q I r h
 rcases h with ⟨i,rfl,q⟩ | ⟨k,rfl,q⟩
 ·obtain ⟨u,rfl,t,rfl⟩:=vals1 r
  exact call_int_int ⟨.int i,H,I,⟨_,rfl⟩,q⟩
 ·obtain ⟨u,rfl,r1⟩:=vals1 r
  cases r1
  exact call_int_bool ⟨.int (if k then 1 else 0),H,I.tok _,⟨_,rfl⟩,q⟩
theorem call_str_int:CallR X (.type "str") (fun xs H Q=>∃ i,xs = [.int i]/\i.natAbs.log2 < 1920/\Q (.str (toString i)) H):=by
 intro zp s σ H xs us Q I r h
 obtain ⟨i,rfl,hz,q⟩:=h
 obtain ⟨u,rfl,t,rfl⟩:=vals1 r
 exact PySem.P.str_of_int hz ⟨.str _,H,I.tok _,⟨_,rfl⟩,q⟩
theorem call_ord:CallR X (.builtin "ord") (fun xs H Q=>∃ x,xs = [.str x]/\x.length = 1/\Q (.int (x.cps.getD 0 0:Nat)) H):=by
 intro zp s σ H xs us Q I r h
 obtain ⟨x,rfl,hz,q⟩:=h
 obtain ⟨u,rfl,t,rfl⟩:=vals1 r
 exact ord_of_one hz ⟨.int _,H,I.tok _,⟨_,rfl⟩,q⟩
def LenV (K:PySem.W.Frag) (x:V) (H:Hp) (n:Nat):Prop:=
 match x with
 | .str y=>y.length<=sizeLine/\n = y.length
 | .byt y=>y.size<=sizeLine/\n = y.size
 | .ref p=>(∃ xs,SqL K H p xs/\n = xs.length)\/∃ xs,SqT K H p xs/\n = xs.length
 | _=>False
theorem call_len:CallR X (.builtin "len") (fun xs H Q=>∃ x n,xs = [x]/\LenV X.K x H n/\Q (.int n) H):=by
 intro zp s σ H xs us Q I r h
 obtain ⟨x,n,rfl,e,q⟩:=h
 obtain ⟨u,rfl,rx⟩:=vals1 r
 have hl:=line63
 have hs:sizeLine = 16777216:=sizeLine_eq
 cases x with
 | str y=>
  obtain ⟨t,rfl⟩:=rx
  obtain ⟨hy,e'⟩:y.length<=sizeLine/\n = y.length:=e
  subst e'
  exact len_str (by omega) ⟨.int _,H,I.tok _,⟨_,rfl⟩,q⟩
 | byt y=>
  obtain ⟨t,rfl⟩:=rx
  obtain ⟨hy,e'⟩:y.size<=sizeLine/\n = y.size:=e
  subst e'
  exact PySem.W.len_bytes (by omega) ⟨.int _,H,I.tok _,⟨_,rfl⟩,q⟩
 | ref p=>
  cases rx
  have e':(∃ xs,SqL X.K H p xs/\n = xs.length)\/∃ xs,SqT X.K H p xs/\n = xs.length:=e
  rcases e' with ⟨xs,hx,e'⟩ | ⟨xs,hx,e'⟩
  ·subst e'
   obtain ⟨its,r',pl,hz⟩:=I.list hx
   have hlen:=r'.length
   exact Calls.call_len_list pl.isList (by simp only [List.size_toArray]; omega) ⟨.int xs.length,H,I.tok _,⟨_,by simp only [List.size_toArray]; rw [hlen]⟩,q⟩
  ·subst e'
   obtain ⟨its,r',pl,hz⟩:=I.tuple hx
   have hlen:=r'.length
   exact len_tuple pl (by simp only [List.size_toArray]; omega) ⟨.int xs.length,H,I.tok _,⟨_,by simp only [List.size_toArray]; rw [hlen]⟩,q⟩
 | _=>exact (show False from e).elim
end
structure ObjM (h:Heap) (x dx C:Addr) (mA:Str->Option Value):Prop where
 obj:h.get? x = some (instObj C dx)
 ns:h.Ns1 dx mA
 ne:dx≠x
theorem lookIn_ns {h:Heap}{dx:Addr}{mA:Str->Option Value} (n:h.Ns1 dx mA):∃ od,h.get? dx = some od/\∀ name,lookIn name od = some (mA name):=by
 obtain ⟨o,es,ep,ho,hd,hk,_,hm⟩:=n
 refine ⟨o,ho,fun name=>?_⟩
 have e:=hm name
 unfold nsFind findBy at e
 rw [← Array.find?_toList] at e
 unfold lookIn
 rw [hd]
 dsimp only
 split
 ·rename_i y q
  rw [q] at e
  exact congrArg some e
 ·rename_i q
  rw [q] at e
  have a:es.toList.any (·.refKey) = false:=by
   rw [List.any_eq_false]
   intro y hy
   obtain ⟨z,t,hkey⟩:=hk y (Array.mem_toList_iff.mp hy)
   simp [DictEntry.refKey,hkey]
  have a':¬ es.toList.any (·.refKey) = true:=by rw [a]; exact Bool.false_ne_true
  rw [if_neg a']
  exact congrArg some e
theorem ObjM.look {h:Heap}{x dx C:Addr}{mA:Str->Option Value} (I:ObjM h x dx C mA):∃ od,PySem.W.InstAt h x (instObj C dx) C (some od)/\∀ name,lookIn name od = some (mA name):=
 let ⟨od,ho,hl⟩:=lookIn_ns I.ns
 ⟨od,⟨I.obj,rfl,rfl,ho⟩,hl⟩
section
variable {prog:Program}{w:World}{A:Around}{E:Value->Shared->Prop}{s:Shared}{K:PySem.W.Frag}{x dx C f:Addr}{mA:Str->Option Value}{name:Str}{v:Value}
end
theorem RelO.some_of {v:V}{o:Option Value} (r:RelO (some v) o):∃ u,o = some u/\RelV v u:=by
 cases o with
 | none=>exact (show False from r).elim
 | some u=>exact ⟨u,rfl,r⟩
section
variable {P:Program}{w:World}{H H':Hp}{h h':Heap}{a C dx:Addr}{fs fs':List (Str × V)}
theorem ins_get (hok:HOk P w H h) (e:H a = some (.ins C dx fs)):∃ mA,ObjM h a dx C mA/\(∀ f,RelO (fs.lookup f) (mA f))/\PySem.Within mA (fs.map (·.1))/\fs.length<=1000/\H dx = some (.own a):=by
 obtain ⟨d,z,ne,ob,mA,n,r,q⟩:=(show ObjOk P w H h a (.ins C dx fs) from hok a _ e)
 exact ⟨mA,⟨ob,n,ne⟩,r,q,z,d⟩
end
structure Cls (K:PySem.W.Frag) (C:Addr):Prop where
 pg:PySem.W.plainGet K C Str.empty = true
 hd:PySem.W.hasDictIn K C = true
 po:PySem.W.plainOver K C = true
 sa:PySem.W.findIn K (.ref C) "__setattr__" = some (some (.builtin "object.__setattr__"))
theorem Cls.get {K:PySem.W.Frag}{C:Addr} (c:Cls K C) (f:Str):PySem.W.plainGet K C f = true:=c.pg
section
variable {X:Cx}{zp:List (Addr × Obj)}{σ:St}{H:Hp}{s:Shared}{a C dx:Addr}{fs:List (Str × V)}{f:Str}{v:V}{A:Around}{E:Value->Shared->Prop}
end
section
variable {X:Cx}{o e value:Expr}{f:Str}{pos pos' tpos:Pos}{ta tv:TE}
end
section
variable {X:Cx}{zp:List (Addr × Obj)}{σ:St}{H:Hp}{s:Shared}{A:Around}{E:Value->Shared->Prop}{Q:Value->Shared->Prop}{c:Value}{b:Bool}
inductive TyOf (K:PySem.W.Frag) (H:Hp):V->Value->Prop where
 | non:TyOf K H .non (.type "NoneType")
 | bl (x:Bool):TyOf K H (.bl x) (.type "bool")
 | int (i:Int):TyOf K H (.int i) (.type "int")
 | str (x:Str):TyOf K H (.str x) (.type "str")
 | flt (x:UInt64):TyOf K H (.flt x) (.type "float")
 | lst {a:Addr}{xs:List V} (e:H a = some (.lst xs)):TyOf K H (.ref a) (.type "list")
 | frz {a:Addr}{o:Obj}{xs:List V} (e:H a = some (.frz o (.lst xs))):TyOf K H (.ref a) (.type "list")
 | tup {a:Addr}{xs:List V} (e:H a = some (.tup xs)):TyOf K H (.ref a) (.type "tuple")
 | dK {a:Addr}{kvs:List (Key × V)} (e:H a = some (.dK kvs)):TyOf K H (.ref a) (.type "dict")
 | dT {a:Addr}{kvs:List (List Key × V)} (e:H a = some (.dT kvs)):TyOf K H (.ref a) (.type "dict")
 | ins {a C dx:Addr}{fs:List (Str × V)} (e:H a = some (.ins C dx fs)) (cl:Cls K C) (ha:PySem.W.findIn K (.ref C) "__class__" = some (some (.builtin "object.__class__")))
   (hn:PySem.W.specialIn K (.builtin "object.__class__") "__get__" = some (some (.builtin "getset_descriptor.__get__"))) (htk:PySem.W.takesIn K (.builtin "object.__class__") = some true)
   (hm:PySem.W.mroIn K C (.type "object") = some true):TyOf K H (.ref a) (.ref C)
theorem isinst_ok {x:V}{u t:Value} (I:Inv X zp σ H s) (rx:RelV x u) (ty:TyOf X.K H x t) (e:PySem.W.kitOne X.K t c = some b) (h:∀ tk,Q (.bool b) { s with toks:=tk }):
  wpAny (model X.prog X.w) A (call (.builtin "isinstance") [u,c]) Q E s:=by
 cases ty with
 | non=>cases (show u = Value.none from rx); exact kia_one PySem.W.kitx_none I.kIn True.intro e (fun z=>nomatch z) h
 | bl y=>cases (show u = Value.bool y from rx); exact kia_one PySem.W.kitx_bool I.kIn True.intro e (fun z=>nomatch z) h
 | int i=>obtain ⟨t,q⟩:=(show ∃ t,u = Value.int i t from rx); cases q; exact kia_one PySem.W.kitx_int I.kIn True.intro e (fun z=>nomatch z) h
 | str y=>obtain ⟨t,q⟩:=(show ∃ t,u = Value.str y t from rx); cases q; exact kia_one PySem.W.kitx_str I.kIn True.intro e (fun z=>nomatch z) h
 | flt y=>obtain ⟨t,q⟩:=(show ∃ t,u = Value.float y t from rx); cases q; exact kia_one PySem.W.kitx_float I.kIn True.intro e (fun z=>nomatch z) h
 | @lst a xs ea=>
  cases (show u = Value.ref a from rx)
  obtain ⟨_,_,n,_,h1⟩:=(show ObjOk X.prog X.w H s.heap a (.lst xs) from I.hok a _ ea)
  exact kia_one PySem.W.kitx_list I.kIn ⟨_,h1,rfl⟩ e (fun z=>nomatch z) h
 | @frz a ob xs ea=>
  cases (show u = Value.ref a from rx)
  obtain ⟨_,_,_,n,_,h1⟩:=(show ObjOk X.prog X.w H s.heap a (.frz ob (.lst xs)) from I.hok a _ ea)
  exact kia_one PySem.W.kitx_list I.kIn ⟨_,h1,rfl⟩ e (fun z=>nomatch z) h
 | @tup a xs ea=>
  cases (show u = Value.ref a from rx)
  obtain ⟨_,_,_,p⟩:=(show ObjOk X.prog X.w H s.heap a (.tup xs) from I.hok a _ ea)
  obtain ⟨o,h1,h2,_⟩:=p
  exact kia_one PySem.W.kitx_tuple I.kIn ⟨o,h1,h2⟩ e (fun z=>nomatch z) h
 | @dK a kvs ea=>
  cases (show u = Value.ref a from rx)
  obtain ⟨_,_,vs,_,p⟩:=(show ObjOk X.prog X.w H s.heap a (.dK kvs) from I.hok a _ ea)
  obtain ⟨o,es,ep,h1,h2,_⟩:=p
  exact kia_one PySem.W.kitx_dict I.kIn ⟨o,h1,h2.1⟩ e (fun z=>nomatch z) h
 | @dT a kvs ea=>
  cases (show u = Value.ref a from rx)
  obtain ⟨_,_,xs,_,o,es,ep,h1,h2,_⟩:=(show ObjOk X.prog X.w H s.heap a (.dT kvs) from I.hok a _ ea)
  exact kia_one PySem.W.kitx_dict I.kIn ⟨o,h1,h2.1⟩ e (fun z=>nomatch z) h
 | @ins a C dx fs ea cl ha hn htk hm=>
  cases (show u = Value.ref a from rx)
  obtain ⟨mA,O,_⟩:=ins_get I.hok ea
  obtain ⟨od,J,_⟩:=O.look
  exact kia_one (PySem.W.kitx_own (cl.get _) cl.hd ha hn htk hm) I.kIn J e (fun z=>nomatch z) h
end
structure Room (k:Nat) (A:Around):Prop where
 hd:A.handled = none
 dp:A.depth + 3 * k + 5 < recursionLimit
 un:A.units + 16 * k + 200 < cLine
theorem Room.mono {j k:Nat}{A:Around} (r:Room k A) (h:j<=k):Room j A:=⟨r.hd,by have:=r.dp; omega,by have:=r.un; omega⟩
theorem Room.deeper {k:Nat}{A:Around} (r:Room (k + 1) A) (env:Env):Room k (A.deeper env):=
 ⟨r.hd,by have:=r.dp; show A.depth + 1 + 3 * k + 5 < _; omega,by have:=r.un; show A.units + 3 + 16 * k + 200 < _; omega⟩
theorem Room.depth {k:Nat}{A:Around} (r:Room k A):A.depth < recursionLimit:=by have:=r.dp; omega
theorem Room.units {k:Nat}{A:Around} (r:Room k A):A.units + 64 < cLine:=by have:=r.un; omega
def tNil:TA:=fun _ H Q=>Q [] H
def tCons (ta:TE) (tr:TA):TA:=fun σ H Q=>ta σ H fun x H1=>tr σ H1 fun xs H2=>Q (x :: xs) H2
section
variable {X:Cx}{e:Expr}{es:List Expr}{te:TE}{t:TA}{pos:Pos}
theorem pa_nil:PA X [] tNil:=fun _ _ _ _ H Q I h=>Calls.spliced_nil ⟨[],H,I,.nil,h⟩
theorem pa_cons (ha:PE X e te) (hr:PA X es t) (hs:starEach (e :: es) X.env = (false,eval e X.env) :: starEach es X.env:=by rfl):PA X (e :: es) (tCons te t):=by
 intro pos zp s σ H Q I h
 rw [hs]
 show wpAny _ _ (spliced ((false,eval e X.env) :: backTo pos (starEach es X.env))) _ _ s
 refine Calls.spliced_cons (thn (ha zp s σ H _ I h) fun u s1 ⟨x,H1,I1,r1,q1⟩=>?_)
 exact thn (hr pos zp s1 σ H1 _ I1 q1) fun us s2 ⟨xs,H2,I2,r2,q2⟩=>⟨x :: xs,H2,I2,.cons r1 r2,q2⟩
def tTup (t:TA):TE:=fun σ H Q=>t σ H fun xs H1=>xs.length<=sizeLine/\∀ p,H1 p = none->Q (.ref p) (upd H1 p (.tup xs))
def tLst (t:TA):TE:=fun σ H Q=>t σ H fun xs H1=>xs.length<=sizeLine/\∀ p,H1 p = none->Q (.ref p) (upd H1 p (.lst xs))
theorem pe_tup {x1} (h:PA X es t):PE X (.Tuple es x1 pos) (tTup t):=by
 intro zp s σ H Q I hq
 refine wpAny_Tuple_spliced (thn (h pos zp s σ H _ I hq) fun us s1 ⟨xs,H1,I1,r,z,q⟩=>⟨by rw [← r.length]; exact z,?_⟩)
 have hf:H1 s1.heap.objs.size = none:=I1.hok.fresh (Nat.le_refl _)
 refine ⟨.ref s1.heap.objs.size,upd H1 s1.heap.objs.size (.tup xs),I1.laid (t':=s1.toks) (fun b u e=>Heap.get?_push_of_some _ e) (Nat.le_refl _) ?_,rfl,q _ hf⟩
 exact ⟨z,us,r,⟨_,Heap.get?_push_size _ rfl,rfl,_,rfl⟩⟩
theorem pe_lst (h:PA X es t):PE X (.List es pos) (tLst t):=by
 intro zp s σ H Q I hq
 refine wpAny_List_spliced (thn (h pos zp s σ H _ I hq) fun us s1 ⟨xs,H1,I1,r,z,q⟩=>⟨by rw [← r.length]; exact z,?_⟩)
 have hf:H1 s1.heap.objs.size = none:=I1.hok.fresh (Nat.le_refl _)
 refine ⟨.ref s1.heap.objs.size,upd H1 s1.heap.objs.size (.lst xs),I1.laid (t':=s1.toks) (fun b u e=>Heap.get?_push_of_some _ e) (Nat.le_refl _) ?_,rfl,q _ hf⟩
 exact ⟨z,us,0,r,Heap.get?_push_size _ rfl⟩
end
abbrev Sp:=List V->Hp->VK->XK->Prop
abbrev CXT:=List Env->Hp->Shared->XK->Value->Shared->Prop
structure Env0 (P:Program) (w:World) (K:PySem.W.Frag) (mg:Str->Option Value) (base:Heap) (A:Around) (outer:List Env) (s:Shared) (H:Hp):Prop where
 frames:A.frames = some outer
 mod:Mod K mg base
 bs:∀ b o,base.get? b = some o->s.heap.get? b = some o/\H b = none
 bsz:base.objs.size<=s.heap.objs.size
 funs:s.heap.FunFrames base outer
 frf:∀ b∈frs outer,H b = none
 hok:HOk P w H s.heap
 bare:AllBare s.gens
def CE (outer:List Env) (P:Program) (w:World) (H:Hp) (s:Shared) (Q:VK) (u:Value) (s':Shared):Prop:=
 ∃ v H',s'.os = s.os/\AllBare s'.gens/\Un (frs outer) [] H H' s.heap s'.heap/\HOk P w H' s'.heap/\RelV v u/\Q v H'
def CR (CX:CXT) (outer:List Env) (P:Program) (w:World) (H:Hp) (s:Shared) (Q:VK) (E:XK) (r:Result) (s':Shared):Prop:=
 match r with
 | .ok (.ret u)=>CE outer P w H s Q u s'
 | .ok _=>False
 | .error e=>CX outer H s E e s'
structure FnOk (P:Program) (w:World) (K:PySem.W.Frag) (mg:Str->Option Value) (base:Heap) (CX:CXT) (k:Nat) (f:Addr) (fd:FuncData) (ps:List Str) (sp:Sp):Prop where
 len:∀ vs H Q E,sp vs H Q E->vs.length = ps.length
 run:∀ (A:Around) (outer:List Env) (s:Shared) (H:Hp) (args:Args) (us:List Value) (vs:List V) (Q:VK) (E:XK),Room k A->Env0 P w K mg base A outer s H->BindsTo s fd args (ps.zip us)->Vals vs us->sp vs H Q E->
  codeAny (model P w) A (.call (.ref f) args) (CR CX outer P w H s Q E) s
theorem FnOk.mono {P:Program}{w:World}{K:PySem.W.Frag}{mg:Str->Option Value}{base:Heap}{CX:CXT}{j k:Nat}{f:Addr}{fd:FuncData}{ps:List Str}{sp:Sp} (F:FnOk P w K mg base CX j f fd ps sp) (h:j<=k):
  FnOk P w K mg base CX k f fd ps sp:=⟨F.len,fun A outer s H args us vs Q E hr=>F.run A outer s H args us vs Q E (hr.mono h)⟩
section
variable {X:Cx}{zp:List (Addr × Obj)}{σ:St}{H:Hp}{s s':Shared}
theorem Inv.env0 (I:Inv X zp σ H s):Env0 X.prog X.w X.K X.mg X.base X.A X.stack s H:=
 ⟨I.ok.frames,I.ok.mod,I.bs,Nat.le_trans I.ok.bsz I.sz,I.stack,I.stkFree,I.hok,I.bare⟩
theorem Inv.after {Q:VK}{u:Value} (I:Inv X zp σ H s) (h:CE X.stack X.prog X.w H s Q u s'):EP X zp σ Q u s':=by
 obtain ⟨v,H',os,bare,un,hok,r,q⟩:=h
 obtain ⟨hh,g,d,t,os'⟩:=s'
 obtain rfl:os' = s.os:=os
 exact ⟨v,H',I.call (h':=hh) (g':=g) (d':=d) (t':=t) (ch:=[]) un hok bare (fun b z=>absurd z (by simp)),r,q⟩
end
def tCall (sp:Sp) (dvs:List V) (E:XK) (t:TA):TE:=fun σ H Q=>t σ H fun vs H1=>sp (vs ++ dvs) H1 Q E
def Binds (K:PySem.W.Frag) (fd:FuncData) (ps:List Str) (ds:List Value):Prop:=
 ∀ (s:Shared) (us:List Value),K.In s.heap->(us ++ ds).length = ps.length->BindsTo s fd ⟨us,[]⟩ (ps.zip (us ++ ds))
theorem Binds.all {K:PySem.W.Frag}{fd:FuncData}{ps:List Str} (h:∀ us:List Value,us.length = ps.length->bindArgs fd ⟨us,[]⟩ = pure (ps.zip us)):Binds K fd ps []:=fun s us _ hl=>by
 rw [List.append_nil] at hl ⊢
 exact .of_eq (h us hl)
def Passes (CX:CXT) (X:Cx) (E:XK):Prop:=∀ (zp:List (Addr × Obj)) (σ:St) (H:Hp) (s:Shared) (e:Value) (s':Shared),Inv X zp σ H s->CX X.stack H s E e s'->X.xe e s'
section
variable {X:Cx}{CX:CXT}{k:Nat}{f C:Addr}{fd:FuncData}{ps:List Str}{sp:Sp}{dvs:List V}{ds:List Value}{E:XK}{x m:Str}{p pos apos:Pos}{e o:Expr}{es:List Expr}{ta:TE}{t:TA}
theorem run_fn {zp:List (Addr × Obj)}{σ:St}{H:Hp}{s:Shared}{Q:VK}{us:List Value}{vs:List V} (F:FnOk X.prog X.w X.K X.mg X.base CX k f fd ps sp) (hr:Room k X.A) (hb:Binds X.K fd ps ds) (hd:Vals dvs ds) (hx:Passes CX X E)
  (I:Inv X zp σ H s) (r:Vals vs us) (h:sp (vs ++ dvs) H Q E):wpAny (model X.prog X.w) X.A (call (.ref f) us) (EP X zp σ Q) X.xe s:=by
 have r2:Vals (vs ++ dvs) (us ++ ds):=r.append hd
 have hl:(us ++ ds).length = ps.length:=by rw [← r2.length]; exact F.len _ _ _ _ h
 refine wpAny_call (codeAny_mono (F.run X.A X.stack s H ⟨us,[]⟩ (us ++ ds) (vs ++ dvs) Q E hr I.env0 (hb s us I.kIn hl) r2 h) fun r s' hq=>?_)
 cases r with
 | error e=>exact hx zp σ H s e s' I hq
 | ok fl=>
  cases fl with
  | ret u=>exact I.after hq
  | next=>exact False.elim hq
  | brk=>exact False.elim hq
  | cont=>exact False.elim hq
theorem pe_call (F:FnOk X.prog X.w X.K X.mg X.base CX k f fd ps sp) (hr:Room k X.A) (hg:Gl X x) (hm:X.mg x = some (.ref f)) (hk:keepIn X.K (.ref f) = true) (hb:Binds X.K fd ps ds) (hd:Vals dvs ds) (hx:Passes CX X E)
  (ha:PA X (e :: es) t) (hdb:(x == ("__debug__":Str)) = false:=by decide) (he:starEach (e :: es) X.env = (false,eval e X.env) :: starEach es X.env:=by rfl) (hpl:(backTo pos (starEach es X.env)).any (·.1) = false:=by rfl):
  PE X (.Call (.Name x p) (e :: es) [] pos) (tCall sp dvs E t):=by
 intro zp s σ H Q I h
 refine wpAny_Call_Name_kw (ld_glob I hg hm ?_ hdb)
 refine PySem.W.callWith_K (h₀:=X.base) I.ok.mod.kin hk (thn (ha pos zp s σ H _ I h) fun us s1 ⟨vs,H1,I1,r,q⟩=>⟨I1.kIn,?_⟩) he hpl
 exact run_fn F hr hb hd hx I1 r q
end
section
variable {X:Cx}{CX:CXT}{k:Nat}{f C:Addr}{fd:FuncData}{ps ks:List Str}{sp:Sp}{E:XK}{x m:Str}{p pos apos kpos:Pos}{e o:Expr}{es:List Expr}{kws:List Keyword}{te ta:TE}{t tk:TA}{nm:Option Str}
variable {g:List Value->List Value->List Value}{gV:List V->List V->List V}
end
structure FnScope (N P:List Str) (sc:Scope):Prop where
 kind:sc.kind = .function
 co:sc.isCoroutine = false
 gen:sc.isGenerator = false
 nd:N.Nodup
 pre:N.take P.length = P
 par:∀ x∈P,sc.names.lookup x = some .local\/sc.names.lookup x = some .cell
 nofree:∀ y∈sc.names,y.2≠.free
theorem bindL_out {kindOf:Str->Option NameKind}{x:Str}:∀ {binds:List (Str × Value)}{m:Str->Option Value},(∀ v,(x,v) ∉ binds)->bindL kindOf binds m x = m x
 | [],_,_=>rfl
 | (n,v) :: r,m,h=>by
  unfold bindL
  rw [bindL_out fun w hw=>h w (List.mem_cons_of_mem _ hw)]
  split
  ·have:x≠n:=by rintro rfl; exact h v List.mem_cons_self
   simp [this]
  ·rfl
theorem bindC_out {kindOf:Str->Option NameKind}{x:Str}:∀ {binds:List (Str × Value)}{m:Str->Option Value},(∀ v,(x,v) ∉ binds)->bindC kindOf binds m x = m x
 | [],_,_=>rfl
 | (n,v) :: r,m,h=>by
  unfold bindC
  rw [bindC_out fun w hw=>h w (List.mem_cons_of_mem _ hw)]
  split
  ·rfl
  ·have:x≠n:=by rintro rfl; exact h v List.mem_cons_self
   simp [this]
theorem bindL_get {kindOf:Str->Option NameKind}{x:Str}{v:Value}:∀ {P:List Str}{vs:List Value}{i:Nat}{m:Str->Option Value},P.Nodup->P[i]? = some x->vs[i]? = some v->kindOf x = some .local->
  bindL kindOf (P.zip vs) m x = some v
 | [],_,_,_,_,h,_,_=>by simp at h
 | _ :: _,[],_,_,_,_,h,_=>by simp at h
 | p :: P,w :: vs,0,m,nd,h1,h2,hk=>by
  simp at h1 h2; subst h1; subst h2
  show bindL kindOf ((p,w) :: P.zip vs) m p = _
  unfold bindL
  rw [bindL_out fun v hv=>(List.nodup_cons.mp nd).1 (List.of_mem_zip hv).1,if_pos hk]
  simp
 | p :: P,w :: vs,i + 1,m,nd,h1,h2,hk=>by
  show bindL kindOf ((p,w) :: P.zip vs) m x = _
  unfold bindL
  exact bindL_get (i:=i) (List.nodup_cons.mp nd).2 (by simpa using h1) (by simpa using h2) hk
theorem bindC_get {kindOf:Str->Option NameKind}{x:Str}{v:Value}:∀ {P:List Str}{vs:List Value}{i:Nat}{m:Str->Option Value},P.Nodup->P[i]? = some x->vs[i]? = some v->kindOf x≠some .local->
  bindC kindOf (P.zip vs) m x = some v
 | [],_,_,_,_,h,_,_=>by simp at h
 | _ :: _,[],_,_,_,_,h,_=>by simp at h
 | p :: P,w :: vs,0,m,nd,h1,h2,hk=>by
  simp at h1 h2; subst h1; subst h2
  show bindC kindOf ((p,w) :: P.zip vs) m p = _
  unfold bindC
  rw [bindC_out fun v hv=>(List.nodup_cons.mp nd).1 (List.of_mem_zip hv).1,if_neg hk]
  simp
 | p :: P,w :: vs,i + 1,m,nd,h1,h2,hk=>by
  show bindC kindOf ((p,w) :: P.zip vs) m x = _
  unfold bindC
  exact bindC_get (i:=i) (List.nodup_cons.mp nd).2 (by simpa using h1) (by simpa using h2) hk
def start (N:List Str) (vs:List V):St:=vs.map some ++ List.replicate (N.length - vs.length) none
def cxOf (CX:CXT) (P:Program) (w:World) (K:PySem.W.Frag) (mg:Str->Option Value) (base:Heap) (N:List Str) (qual:Str) (scope:Scope) (f:Addr) (cd:Value) (A:Around) (outer:List Env) (s:Shared) (H:Hp) (E:XK):Cx where
 prog:=P
 w:=w
 K:=K
 mg:=mg
 base:=base
 A:=A.deeper (envOfC qual scope s.heap.objs.size f cd)
 N:=N
 s₀:=s
 H₀:=H
 env:=envOfC qual scope s.heap.objs.size f cd
 outer:=outer
 stack:=envOfC qual scope s.heap.objs.size f cd :: outer
 ex:=[]
 calm:=true
 fn:=fun _=>true
 pn:=[]
 xe:=fun e s'=>wpAny (model P w) (A.deeper (envOfC qual scope s.heap.objs.size f cd)) (leaving (envOfC qual scope s.heap.objs.size f cd) e) (fun _ s''=>CX outer H s E e s'') (fun e' s''=>CX outer H s E e' s'') s'
theorem cell_has {sc:Scope}{n:Nat}{x:Str} (h:sc.names.lookup x = some .cell):∃ c,(cellsFrom n sc.names []).lookup x = some c:=by
 have q:=PySem.W.cellsFrom_some sc.names n [] (.inl h)
 exact Option.isSome_iff_exists.mp q
theorem inv_start {CX:CXT}{P:Program}{w:World}{K:PySem.W.Frag}{mg:Str->Option Value}{base:Heap}{N ps:List Str}{qual:Str}{scope:Scope}{f:Addr}{cd:Value}{A:Around}{outer:List Env}{s s1:Shared}{H:Hp}{E:XK}{us:List Value}{vs:List V}
  (S:FnScope N ps scope) (hd:A.handled = none) (e0:Env0 P w K mg base A outer s H) (hl:vs.length = ps.length) (r:Vals vs us)
  (x:InCallC s s.heap.objs.size (bindL (envOfC qual scope s.heap.objs.size f cd).kindOf (ps.zip us) fun _=>none) (cellsFrom (s.heap.objs.size + 1) scope.names []) (bindC (envOfC qual scope s.heap.objs.size f cd).kindOf (ps.zip us) fun _=>none) s1):
  Inv (cxOf CX P w K mg base N qual scope f cd A outer s H E) [] (start N vs) H s1:=by
 have hpl:ps.length<=N.length:=by have:=congrArg List.length S.pre; rw [List.length_take] at this; omega
 obtain ⟨h1,tk,rfl,hk⟩:=x.done
 have noA:∀ b:Addr,b ∉ (cxOf CX P w K mg base N qual scope f cd A outer s H E).ex:=fun b z=>absurd (show b∈([]:List Addr) from z) (by simp)
 refine ⟨⟨e0.mod,S.kind,rfl,rfl,Nat.le_refl _,fun y z c h1 h2=>?_,fun y hy=>?_,fun y c _ h=>?_,fun _=>hd,Around.frames_deeper e0.frames,.inr ⟨rfl,rfl⟩,fun b z=>absurd z (noA b),e0.bs,e0.bsz,fun b _ _=>noA b,fun b z=>absurd z (noA b),e0.funs,e0.frf⟩,
  rfl,e0.bare,Un.kept hk,⟨_,x.toInCall.ns,fun i y v h1 h2 h3=>?_⟩,fun y c h=>⟨_,x.cell y c h⟩,e0.hok.fresh (Nat.le_refl _),fun y c h=>?_,fun p hp=>absurd (show p∈([]:List (Addr × Obj)) from hp) (by simp),e0.hok.kept hk,?_⟩
 ·exact name_of_addr x.apart (PySem.mem_of_lookup h1) (PySem.mem_of_lookup h2)
 ·have hy:scope.names.lookup y = some .cell\/scope.names.lookup y = some .free:=hy
  rcases hy with hy | hy
  ·exact cell_has hy
  ·exact absurd rfl (S.nofree _ (PySem.mem_of_lookup hy))
 ·exact Nat.le_of_lt (x.above y c (PySem.mem_of_lookup h))
 ·have hi:i < vs.length:=by
   unfold start at h2
   by_cases hi:i < vs.length
   ·exact hi
   ·rw [List.getElem?_append_right (by simpa using hi)] at h2
    rw [List.getElem?_replicate] at h2
    split at h2 <;> cases h2
  have ha:vs[i]? = some v:=by
   unfold start at h2
   rw [List.getElem?_append_left (by simpa using hi),List.getElem?_map] at h2
   cases e:vs[i]? with
   | none=>rw [e] at h2; cases h2
   | some a=>rw [e] at h2; cases h2; rfl
  obtain ⟨u,hu,rv⟩:=r.get ha
  have hp:ps[i]? = some y:=by
   rw [← S.pre,List.getElem?_take_of_lt (by omega)]; exact h1
  have ndP:ps.Nodup:=by rw [← S.pre]; exact S.nd.sublist (List.take_sublist _ _)
  refine ⟨u,rv,?_⟩
  rcases S.par y (List.mem_of_getElem? hp) with k | k
  ·exact .inl ⟨k,bindL_get ndP hp hu k⟩
  ·obtain ⟨c,e⟩:=cell_has (n:=s.heap.objs.size + 1) k
   refine .inr ⟨.inl k,c,e,?_⟩
   have q:=x.cell y c e
   rw [bindC_get ndP hp hu (by show scope.names.lookup y≠_; rw [k]; decide)] at q
   exact q
 ·exact e0.hok.fresh (Nat.le_of_lt (x.above y c (PySem.mem_of_lookup h)))
 ·unfold start
  show _ = N.length
  rw [List.length_append,List.length_map,List.length_replicate]
  omega
theorem fn_of {CX:CXT}{P:Program}{w:World}{K:PySem.W.Frag}{mg:Str->Option Value}{base:Heap}{k:Nat}{f:Addr}{name qual:Str}{params:Arguments}{body:List Stmt}{scope:Scope}{dV kV doc pm cdv ct oc:Value}{an od:Option Addr}
  {osl:Array (Option Value)}{N ps:List Str}{sp:Sp} (lk:K.lookup f = some ⟨oc,od,.func (fnOf name qual params body scope dV kV doc pm an cdv ct),osl⟩) (hcd:codeIn K cdv qual = true) (S:FnScope N ps scope)
  (len:∀ vs H Q E,sp vs H Q E->vs.length = ps.length)
  (hbody:∀ (A:Around) (outer:List Env) (s:Shared) (H:Hp) (vs:List V) (Q:VK) (E:XK),Room k (A.deeper (envOfC qual scope s.heap.objs.size f cdv))->sp vs H Q E->
   ∃ t,PSs (cxOf CX P w K mg base N qual scope f cdv A outer s H E) body t/\t { nx:=fun _ H'=>Q .non H',rt:=Q } (start N vs) H):
  FnOk P w K mg base CX (k + 1) f (fnOf name qual params body scope dV kV doc pm an cdv ct) ps sp:=by
 refine ⟨len,fun A outer s H args us vs Q E hr e0 hb r hsp=>?_⟩
 have hl:=len _ _ _ _ hsp
 have KX:K.In s.heap:=e0.mod.kin.keeps fun b o e=>(e0.bs b o e).1
 have lim:s.heap.NoLimit:=e0.mod.nolimit.keeps fun b o e=>(e0.bs b o e).1
 have hkind:∀ y∈ps.zip us,scope.names.lookup y.1 = some .local\/(scope.names.lookup y.1 = some .cell/\((cellsFrom (s.heap.objs.size + 1) scope.names []).lookup y.1).isSome = true):=fun ⟨n,v⟩ hy=>by
  rcases S.par n (List.of_mem_zip hy).1 with q | q
  ·exact .inl q
  ·exact .inr ⟨q,PySem.W.cellsFrom_some _ _ _ (.inl q)⟩
 refine codeAny_call_function hr.depth (KX _ _ lk) rfl S.co S.gen rfl (PySem.W.codeRec_of KX hcd) (hb _ _ _ _ ?_)
 refine wpAny_newFunctionEnv_cells S.kind hkind fun env he s1 x=>?_
 subst he
 refine ⟨lim.keeps x.toInCall.keep,codeAny_func ?_⟩
 obtain ⟨t,ht,hq⟩:=hbody A outer s H vs Q E (hr.deeper _) hsp
 have I:Inv (cxOf CX P w K mg base N qual scope f cdv A outer s H E) [] (start N vs) H s1:=inv_start S hr.hd e0 hl r x
 refine wpAny_mono (ht [] s1 (start N vs) H _ I hq) (fun fl s' hs=>?_) fun e s' hs=>hs
 have fin:∀ {σ':St}{H':Hp}{v:V}{u:Value},Inv (cxOf CX P w K mg base N qual scope f cdv A outer s H E) [] σ' H' s'->RelV v u->Q v H'->CE outer P w H s Q u s':=
  fun {σ' H' v u} J rv q=>⟨v,H',J.os,J.bare,J.base,J.hok,rv,q⟩
 cases fl with
 | ret u=>
  obtain ⟨v,σ',H',J,rv,q⟩:=hs
  exact fin J rv q
 | next=>
  obtain ⟨σ',H',J,q⟩:=hs
  exact fin (v:=V.non) (u:=Value.none) J rfl q
 | brk=>
  obtain ⟨_,_,_,q⟩:=hs
  exact False.elim q
 | cont=>
  obtain ⟨_,_,_,q⟩:=hs
  exact False.elim q
section
variable {X:Cx}{x:Str}{p pos:Pos}{e:Expr}{es:List Expr}{t:TA}{id T:String}{r:List V->Hp->VK->Prop}
def tCB (r:List V->Hp->VK->Prop) (t:TA):TE:=fun σ H Q=>t σ H fun vs H1=>r vs H1 Q
theorem pe_callB (hc:CallR X (.builtin id) r) (hg:Gl X x) (hm:X.mg x = none) (hv:bootBuiltins x = some (.builtin id)) (ha:PA X (e :: es) t) (hn:x≠"__name__":=by decide) (hdb:(x == ("__debug__":Str)) = false:=by decide)
  (he:starEach (e :: es) X.env = (false,eval e X.env) :: starEach es X.env:=by rfl) (hpl:(backTo pos (starEach es X.env)).any (·.1) = false:=by rfl):PE X (.Call (.Name x p) (e :: es) [] pos) (tCB r t):=by
 intro zp s σ H Q I h
 refine wpAny_Call_Name_kw (ld_blt I hg hm hv ?_ hn hdb)
 exact PyProof.Rows.callWith_builtin1 (thn (ha pos zp s σ H _ I h) fun us s1 ⟨vs,H1,I1,r1,q1⟩=>hc zp s1 σ H1 vs us Q I1 r1 q1) he hpl
theorem pe_callTy (hc:CallR X (.type T) r) (hg:Gl X x) (hm:X.mg x = none) (hv:bootBuiltins x = some (.type T)) (ha:PA X (e :: es) t) (hn:x≠"__name__":=by decide) (hdb:(x == ("__debug__":Str)) = false:=by decide)
  (he:starEach (e :: es) X.env = (false,eval e X.env) :: starEach es X.env:=by rfl) (hpl:(backTo pos (starEach es X.env)).any (·.1) = false:=by rfl):PE X (.Call (.Name x p) (e :: es) [] pos) (tCB r t):=by
 intro zp s σ H Q I h
 refine wpAny_Call_Name_kw (ld_blt I hg hm hv ?_ hn hdb)
 exact PyProof.Rows.callWith_type1 (thn (ha pos zp s σ H _ I h) fun us s1 ⟨vs,H1,I1,r1,q1⟩=>hc zp s1 σ H1 vs us Q I1 r1 q1) he hpl
end
section
variable {κ:Type} [DecidableEq κ]
def valV (kvs:List (κ × V)) (k:κ):Option V:=(kvs.find? fun kv=>decide (kv.1 = k)).map (·.2)
theorem valV_pos {p:κ × V}{r:List (κ × V)}{k:κ} (e:p.1 = k):valV (p :: r) k = some p.2:=by simp [valV,List.find?_cons,e]
theorem valV_neg {p:κ × V}{r:List (κ × V)}{k:κ} (e:¬ p.1 = k):valV (p :: r) k = valV r k:=by simp [valV,List.find?_cons,e]
theorem RelO.isSome_eq {o:Option V}{u:Option Value} (r:RelO o u):o.isSome = u.isSome:=by
 cases o with
 | none=>cases u with
  | none=>rfl
  | some _=>exact (show False from r).elim
 | some _=>cases u with
  | none=>exact (show False from r).elim
  | some _=>rfl
theorem RelO.getD {o:Option V}{u:Option Value}{d:V}{d':Value} (r:RelO o u) (rd:RelV d d'):RelV (o.getD d) (u.getD d'):=by
 cases o with
 | none=>cases u with
  | none=>exact rd
  | some _=>exact (show False from r).elim
 | some _=>cases u with
  | none=>exact (show False from r).elim
  | some _=>exact r
theorem KV.val {kvs:List (κ × V)}{vs:List (κ × Value)} (r:KV kvs vs) (k:κ):RelO (valV kvs k) (valueAt vs k):=by
 unfold KV at r
 induction r with
 | nil=>exact True.intro
 | @cons p q ps qs h t ih=>
  obtain ⟨h1,h2⟩:=h
  by_cases e:p.1 = k
  ·have e':q.1 = k:=h1.symm.trans e
   have b:valueAt (q :: qs) k = some q.2:=by simp [valueAt,List.find?_cons,e']
   rw [valV_pos e,b]; exact h2
  ·have e':¬ q.1 = k:=fun z=>e (h1.trans z)
   have b:valueAt (q :: qs) k = valueAt qs k:=by simp [valueAt,List.find?_cons,e']
   rw [valV_neg e,b]; exact ih
end
theorem kV_is {P:Program}{w:World}{k:Key}{u:Value} (r:RelV (kV k) u):(mixKind P w).is k u = true:=by
 cases k with
 | inl i=>obtain ⟨t,e⟩:=(show ∃ t,u = Value.int i t from r); subst e; exact mixKind_int P w i t
 | inr x=>obtain ⟨t,e⟩:=(show ∃ t,u = Value.str x t from r); subst e; exact mixKind_str P w x t
section
variable {P:Program}{w:World}{H:Hp}{h:Heap}{a:Addr}
end
section
variable {X:Cx}{zp:List (Addr × Obj)}{σ:St}{H:Hp}{s:Shared}{a:Addr}{y v:V}{u r:Value}{o:Option V}{A:Around}{E:Value->Shared->Prop}
end
section
variable {X:Cx}{zp:List (Addr × Obj)}{σ:St}{H:Hp}{s:Shared}{a:Addr}{kvs:List (Key × V)}{k:Key}{u:Value}{A:Around}{E:Value->Shared->Prop}
end
section
variable {X:Cx}{o i e value:Expr}{pos pos' tpos:Pos}{td ty tv:TE}
end
section
variable {X:Cx}{pos:Pos}
end
structure M2 (X:Cx) (o:Expr) (m:Str) (apos:Pos) (e f:Expr) (cpos:Pos):Prop where
 base:attributeBase o m X.env (eval o X.env) = eval o X.env
 few:((backTo cpos (starEach [e,f] X.env)).all (fun x=>!x.1) && (backToKw cpos (keywordEach [] X.env)).all (fun x=>x.1.isSome)
  && decide (([e,f]:List Expr).length + ([]:List Keyword).length + (if ([]:List Keyword).isEmpty then 0 else 1) < 30)) = true
 line:(apos.endLine == cpos.line) = true
 trees:backTo cpos (starEach [e,f] X.env) = [(false,eval e X.env),(false,eval f X.env)]
section
variable {X:Cx}{zp:List (Addr × Obj)}{σ:St}{H:Hp}{s:Shared}{a:Addr}{y d:V}{u r:Value}{o:Option V}{A:Around}{E:Value->Shared->Prop}
end
section
variable {X:Cx}{o e f:Expr}{apos cpos:Pos}{td ty tx:TE}
end
section
variable {X:Cx}{zp:List (Addr × Obj)}{σ:St}{H:Hp}{s:Shared}{a:Addr}{kvs:List (Key × V)}{A:Around}{E:Value->Shared->Prop}
end
section
variable {X:Cx}{zp:List (Addr × Obj)}{σ:St}{H:Hp}{s:Shared}{a:Addr}{y:V}{u:Value}{A:Around}{E:Value->Shared->Prop}
end
end L2
namespace HT
open PySem PyProof.Rows
section
open PySem.SeqAt
open PySem.AutoSeq1 (wpAny_loadPart')
open PySem.MeetsSeq PySem.MeetsSeq2 PySem.MeetsSeq3
end
section
variable {prog:Program}{w:World}{A:Around}{E:Value->Shared->Prop}{s:Shared}
theorem cat_tup {t b:Addr}{vs ws:List Value}{Q:Value->Shared->Prop} (ht:IsTup s.heap t vs.toArray) (hb:IsTup s.heap b ws.toArray) (hv:vs≠[])
  (h1:ws = []->Q (.ref t) s) (h2:ws≠[]->Q (.ref s.heap.objs.size) { s with heap:=s.heap.push { cls:=.type "tuple",data:=.seq (vs ++ ws).toArray } })
  (hsz:vs.length + ws.length<=sizeLine):wpAny (model prog w) A (binaryOp .Add (.ref t) (.ref b)) Q E s:=by
 obtain ⟨⟨cls,dd,data,sl⟩,ho,hc,n,hd⟩:=id ht
 obtain ⟨⟨cls2,dd2,data2,sl2⟩,ho2,hc2,n2,hd2⟩:=id hb
 simp only at hc hd hc2 hd2
 subst hc hd hc2 hd2
 have e:vs.toArray ++ ws.toArray = (vs ++ ws).toArray:=by simp
 by_cases hw:ws = []
 ·exact concat_meets ⟨_,ho,rfl⟩ ⟨_,ho2,rfl⟩ noFill_tuple_add seq_tuple_add PySem.F.slot_tuple_add PySem.F.entry_tuple_add (PySem.F.args_tuple_add_2 _ _)
   (tuple_addW1 t b vs.toArray ws.toArray n n2 dd dd2 sl sl2 (by simpa using hv) (by simp [hw])) ⟨ho,ho2,h1 hw⟩
 ·refine concat_meets ⟨_,ho,rfl⟩ ⟨_,ho2,rfl⟩ noFill_tuple_add seq_tuple_add PySem.F.slot_tuple_add PySem.F.entry_tuple_add (PySem.F.args_tuple_add_2 _ _)
   (tuple_addW2 t b vs.toArray ws.toArray n n2 dd dd2 sl sl2 (by simpa using hv) (by simpa using hw) (by rw [List.size_toArray,List.size_toArray]; exact hsz)) ⟨ho,ho2,?_⟩
  rw [e]
  exact h2 hw
def sIx (n d:Nat):Option Int->Nat
 | none=>d
 | some v=>if v < 0 then (v + (n:Int)).toNat else min v.toNat n
theorem sIx_none (n d:Nat):sIx n d none = d:=rfl
theorem sIx_nat (n d k:Nat):sIx n d (some (k:Int)) = min k n:=by
 show (if (k:Int) < 0 then ((k:Int) + (n:Int)).toNat else min (k:Int).toNat n) = min k n
 rw [if_neg (by omega),Int.toNat_natCast]
theorem sIx_le (n d:Nat) (hd:d<=n) (o:Option Int):sIx n d o<=n:=by
 cases o with
 | none=>exact hd
 | some v=>
  show (if v < 0 then (v + (n:Int)).toNat else min v.toNat n)<=n
  by_cases hv:v < 0
  ·rw [if_pos hv]; omega
  ·rw [if_neg hv]; exact Nat.min_le_right _ _
theorem clip_eq (v:Int) (n d:Nat):(if v < 0 then max (v + (n:Int)) 0 else min v (n:Int)) = ((sIx n d (some v):Nat):Int):=by
 show (if v < 0 then max (v + (n:Int)) 0 else min v (n:Int)) = (((if v < 0 then (v + (n:Int)).toNat else min v.toNat n):Nat):Int)
 by_cases hv:v < 0
 ·simp only [if_pos hv]; omega
 ·simp only [if_neg hv]; omega
theorem adjust_gen (lo hi:Option Int) (n:Nat):Builtin.Slice.sliceAdjust lo hi 1 (n:Int) = (((sIx n 0 lo:Nat):Int),((sIx n n hi:Nat):Int)):=by
 have h1:¬ ((1:Int) < 0):=by omega
 unfold Builtin.Slice.sliceAdjust
 simp only [h1,if_false]
 refine Prod.ext ?_ ?_
 ·cases lo with
  | none=>rfl
  | some v=>exact clip_eq v n 0
 ·cases hi with
  | none=>rfl
  | some v=>exact clip_eq v n n
theorem places_gen (i j:Nat):Builtin.Slice.slicePlaces (i:Int) (j:Int) 1 = j - i:=by
 unfold Builtin.Slice.slicePlaces
 have h1:(1:Int) > 0:=by omega
 simp only [h1,if_true,Int.ediv_one]
 split <;> omega
theorem slicePart_ {v:Value}{o:Option Int}{Q:Option Int->Shared->Prop} (p:IsPart v o) (h:Q o s):wpAny (model prog w) A (Builtin.Slice.slicePartIndex v) Q E s:=by
 cases p with
 | none=>exact slicePart_none h
 | int i t=>exact slicePart_int h
theorem sliceApplied_gen {sl:Addr}{vl vu:Value}{lo hi:Option Int}{n:Nat}{Q:Int × Int × Nat->Shared->Prop} (hs:s.heap.IsSliceOf sl vl vu .none) (pl:IsPart vl lo) (pu:IsPart vu hi)
  (h:Q (((sIx n 0 lo:Nat):Int),1,sIx n n hi - sIx n 0 lo) s):wpAny (model prog w) A (Builtin.Slice.sliceApplied (.ref sl) (pure (n:Int))) Q E s:=by
 obtain ⟨os,hos,hcs,hds⟩:=id hs
 unfold Builtin.Slice.sliceApplied Builtin.Slice.sliceFields
 refine wpAny_bind (wpAny_bind (wpAny_field hos hds (x:=vl) rfl (wpAny_bind (wpAny_field hos hds (x:=vu) rfl (wpAny_bind (wpAny_field hos hds (x:=.none) rfl (wpAny_pure ?_)))))))
 refine wpAny_bind (slicePart_none ?_)
 show wpAny _ _ (if ((1:Int) == 0) = true then _ else _) _ _ s
 rw [if_neg (by decide)]
 refine wpAny_bind (slicePart_ pl (wpAny_bind (slicePart_ pu (wpAny_bind (wpAny_pure ?_)))))
 show wpAny _ _ (match Builtin.Slice.sliceAdjust lo hi 1 (n:Int) with | (lo,hi)=>pure (lo,(1:Int),Builtin.Slice.slicePlaces lo hi 1)) _ _ s
 rw [adjust_gen lo hi n]
 show wpAny _ _ (pure (((sIx n 0 lo:Nat):Int),(1:Int),Builtin.Slice.slicePlaces ((sIx n 0 lo:Nat):Int) ((sIx n n hi:Nat):Int) 1)) _ _ s
 rw [places_gen]
 exact wpAny_pure h
theorem pick_gen (xs:Array Value) (i k:Nat):((List.range k).filterMap fun (m:Nat)=>xs[((i:Int) + (m:Int) * 1).toNat]?).toArray = ((xs.toList.drop i).take k).toArray:=by
 have e:(fun (m:Nat)=>xs[((i:Int) + (m:Int) * 1).toNat]?) = fun m=>xs[i + m]?:=by
  funext m
  have:((i:Int) + (m:Int) * 1).toNat = i + m:=by omega
  rw [this]
 rw [e]
 have:=pick_run xs i k
 rw [List.filterMap_map] at this
 have e2:((fun x=>xs[x]?) ∘ fun x=>i + x) = fun m=>xs[i + m]?:=rfl
 rw [e2] at this
 rw [this]
theorem getItem_tuple_cut {t sl:Addr}{items:Array Value}{vl vu:Value}{lo hi:Option Int}{Q:Value->Shared->Prop} (ht:IsTup s.heap t items) (hs:s.heap.IsSliceOf sl vl vu .none) (pl:IsPart vl lo) (pu:IsPart vu hi)
  (hw:¬ (sIx items.size 0 lo = 0/\sIx items.size items.size hi = items.size))
  (h:Q (.ref s.heap.objs.size) { s with heap:=s.heap.push { cls:=.type "tuple",data:=.seq ((items.toList.drop (sIx items.size 0 lo)).take (sIx items.size items.size hi - sIx items.size 0 lo)).toArray } })
  (hsz:items.size<=sizeLine):wpAny (model prog w) A (getItem (.ref t) (.ref sl)) Q E s:=by
 have htake:sizeOk (.seq ((items.toList.drop (sIx items.size 0 lo)).take (sIx items.size items.size hi - sIx items.size 0 lo)).toArray):=by
  show ((items.toList.drop (sIx items.size 0 lo)).take (sIx items.size items.size hi - sIx items.size 0 lo)).toArray.size<=sizeLine
  rw [List.size_toArray,List.length_take,List.length_drop,Array.length_toList]
  omega
 have hj:sIx items.size items.size hi<=items.size:=sIx_le _ _ (Nat.le_refl _) hi
 obtain ⟨os,hos,hcs,hds⟩:=id hs
 have hTs:s.TypeIs (.ref sl) "slice":=⟨os,hos,hcs⟩
 unfold getItem
 try with_reducible refine wpAny_holding ?_
 first | refine wpAny_bind (wpAny_pure ?_) | skip
 refine wpAny_bind (wpAny_sequenceKey ht.typeIs (by decide) ?_)
 refine wpAny_bind (wpAny_callSpecial?_slot (name:=Str.ofString "__getitem__") ht.typeIs PyProof.Rows.slot_tuple_getitem
  (wpAny_call_entry PyProof.Rows.slot_tuple_getitem ht.typeIs entry_tuple_getitem ?_ (args_tuple_getitem _ _)))
 show wpAny _ _ (Builtin.Tuple.tupleItemsOf (.ref t) >>= _) _ _ s
 refine wpAny_bind (tupleItemsOf_ ht ?_)
 refine wpAny_bind (wpAny_typeOf hTs ?_)
 rw [if_pos (by decide)]
 refine wpAny_bind (sliceApplied_gen hs pl pu ?_)
 have hno:¬ ((((sIx items.size 0 lo:Nat):Int) == 0 && (1:Int) == 1 && (sIx items.size items.size hi - sIx items.size 0 lo) == items.size) = true):=by
  intro q
  rw [Bool.and_eq_true,Bool.and_eq_true] at q
  have q1:((sIx items.size 0 lo:Nat):Int) = 0:=eq_of_beq q.1.1
  have q2:sIx items.size items.size hi - sIx items.size 0 lo = items.size:=eq_of_beq q.2
  exact hw ⟨by omega,by omega⟩
 show wpAny _ _ (if (((sIx items.size 0 lo:Nat):Int) == 0 && (1:Int) == 1 && (sIx items.size items.size hi - sIx items.size 0 lo) == items.size) = true then _ else _) _ _ s
 rw [if_neg hno,pick_gen]
 first
  | exact wpAny_bind (m:=Builtin.Tuple.tupleExact _) (wpAny_newObj_type (wpAny_pure ⟨_,rfl,wpAny_pure h⟩) htake)
  | exact wpAny_bind (m:=Builtin.Tuple.tupleExact _) (wpAny_newObj_type (wpAny_bind (wpAny_pure (wpAny_pure ⟨_,rfl,wpAny_pure h⟩))) htake)
  | exact wpAny_bind (wpAny_bind (m:=Builtin.Tuple.tupleExact _) (wpAny_newObj_type (wpAny_pure (wpAny_pure ⟨_,rfl,wpAny_pure h⟩)) htake))
  | exact wpAny_bind (wpAny_bind (m:=Builtin.Tuple.tupleExact _) (wpAny_newObj_type (wpAny_pure ⟨_,rfl,wpAny_pure h⟩) htake))
end
end HT
namespace L2
open PySem PySem.Spec PyProof.Rows
abbrev TO:=St->Hp->(Option Int->Hp->Prop)->Prop
def PO (X:Cx) (e:Option Expr) (t:TO):Prop:=
 ∀ (zp:List (Addr × Obj)) (s:Shared) (σ:St) (H:Hp) (Q:Option Int->Hp->Prop),Inv X zp σ H s->t σ H Q->
  wpAny (model X.prog X.w) X.A (evalPart e X.env) (fun u s'=>∃ o H',Inv X zp σ H' s'/\IsPart u o/\Q o H') X.xe s
def tNoPart:TO:=fun _ H Q=>Q none H
def tPart (t:TE):TO:=fun σ H Q=>t σ H fun x H1=>∃ i,x = .int i/\Q (some i) H1
section
variable {X:Cx}{e:Expr}{te:TE}{lo hi:Option Expr}{tl th:TO}{pos p2:Pos}
theorem po_none:PO X none tNoPart:=by
 intro zp s σ H Q I h
 rw [evalPart_none]
 exact wpAny_pure ⟨none,H,I,.none,h⟩
theorem po_some (h:PE X e te):PO X (some e) (tPart te):=by
 intro zp s σ H Q I hw
 rw [evalPart_some]
 refine thn (h zp s σ H _ I hw) fun u s1 ⟨x,H1,I1,r1,q1⟩=>?_
 obtain ⟨i,rfl,q⟩:=q1
 obtain ⟨t,rfl⟩:=r1
 exact ⟨some i,H1,I1,.int i t,q⟩
def SlR (X:Cx) (r:V->Option Int->Option Int->Hp->VK->Prop):Prop:=
 ∀ (zp:List (Addr × Obj)) (s:Shared) (σ:St) (H:Hp) (x:V) (v vl vu:Value) (lo hi:Option Int) (sl:Addr) (Q:VK),Inv X zp σ H s->RelV x v->s.heap.IsSliceOf sl vl vu .none->IsPart vl lo->IsPart vu hi->r x lo hi H Q->
  ∃ T id,typeLookup (.type T) "__getitem__" = pure (some (.builtin id))/\s.TypeIs v T/\wpAny (model X.prog X.w) X.A (getItem v (.ref sl)) (EP X zp σ Q) X.xe s
def tSl (r:V->Option Int->Option Int->Hp->VK->Prop) (te:TE) (tl th:TO):TE:=fun σ H Q=>te σ H fun x H1=>tl σ H1 fun l H2=>th σ H2 fun u H3=>r x l u H3 Q
theorem pe_slice {r:V->Option Int->Option Int->Hp->VK->Prop} (hr:SlR X r) (he:PE X e te) (hl:PO X lo tl) (hu:PO X hi th):PE X (.Subscript e (.Slice lo hi none p2) pos) (tSl r te tl th):=by
 intro zp s σ H Q I h
 refine Subscript_ (thn (he zp s σ H _ I h) fun v s1 ⟨x,H1,I1,r1,q1⟩=>?_)
 refine wpAny_Slice (thn (hl zp s1 σ H1 _ I1 q1) fun vl s2 ⟨l,H2,I2,pl,q2⟩=>thn (hu zp s2 σ H2 _ I2 q2) fun vu s3 ⟨u,H3,I3,pu,q3⟩=>?_)
 rw [evalPart_none]
 refine wpAny_pure ?_
 have I4:Inv X zp σ H3 { s3 with heap:=s3.heap.push { cls:=.type "slice",data:=.fields #[vl,vu,.none] } }:=I3.kept (t':=s3.toks) fun b ob q=>Heap.get?_push_of_some _ q
 obtain ⟨T,id,hT,ht,hg⟩:=hr zp { s3 with heap:=s3.heap.push { cls:=.type "slice",data:=.fields #[vl,vu,.none] } } σ H3 x v vl vu l u s3.heap.objs.size Q I4 r1 (Heap.IsSliceOf.new ..) pl pu q3
 show wpAny (model X.prog X.w) X.A (subscriptTail e (.Slice lo hi none p2) v (.ref s3.heap.objs.size)) (EP X zp σ Q) X.xe { s3 with heap:=s3.heap.push { cls:=.type "slice",data:=.fields #[vl,vu,.none] } }
 exact tail_any (ops:=[.ref s3.heap.objs.size,v]) ht hT hg (by with_unfolding_all rfl)
def cutV (xs:List V) (lo hi:Option Int):List V:=(xs.drop (HT.sIx xs.length 0 lo)).take (HT.sIx xs.length xs.length hi - HT.sIx xs.length 0 lo)
theorem cutV_length (xs:List V) (lo hi:Option Int):(cutV xs lo hi).length<=xs.length:=by
 unfold cutV
 rw [List.length_take,List.length_drop]
 omega
def rSlT (K:PySem.W.Frag):V->Option Int->Option Int->Hp->VK->Prop:=fun x lo hi H Q=>∃ a xs,x = .ref a/\SqT K H a xs /\
 ¬ (HT.sIx xs.length 0 lo = 0/\HT.sIx xs.length xs.length hi = xs.length)/\∀ p,H p = none->Q (.ref p) (upd H p (.tup (cutV xs lo hi)))
theorem sl_tup:SlR X (rSlT X.K):=by
 intro zp s σ H x v vl vu lo hi sl Q I rx hs pl pu h
 obtain ⟨a,xs,rfl,hx,hw,q⟩:=h
 cases rx
 obtain ⟨its,r,ht,hz⟩:=I.tuple hx
 have hlen:its.toArray.size = xs.length:=by rw [List.size_toArray]; exact r.length.symm
 refine ⟨"tuple",_,PyProof.Rows.slot_tuple_getitem.lookup,ht.typeIs,?_⟩
 refine HT.getItem_tuple_cut ht hs pl pu (by rw [hlen]; exact hw) ?_ (by rw [hlen]; exact hz)
 rw [hlen]
 refine ⟨.ref s.heap.objs.size,_,I.laid (t':=s.toks) (o:=.tup (cutV xs lo hi)) (fun b ob q=>Heap.get?_push_of_some _ q) (Nat.le_refl _) ?_,rfl,q _ (I.hok.fresh (Nat.le_refl _))⟩
 exact ⟨Nat.le_trans (cutV_length xs lo hi) hz,_,(r.drop (HT.sIx xs.length 0 lo)).take (HT.sIx xs.length xs.length hi - HT.sIx xs.length 0 lo),IsTup.new _ _⟩
def rCatT (K:PySem.W.Frag):R2:=fun x y H Q=>∃ a b xs ys,x = .ref a/\y = .ref b/\SqT K H a xs/\SqT K H b ys/\xs≠[]/\xs.length + ys.length<=sizeLine /\
 (ys = []->Q (.ref a) H)/\(ys≠[]->∀ p,H p = none->Q (.ref p) (upd H p (.tup (xs ++ ys))))
theorem Vals.nil_iff {xs:List V}{us:List Value} (r:Vals xs us):us = [] ↔ xs = []:=by
 cases r with
 | nil=>simp
 | cons _ _=>simp
theorem op_catT:OpR X (binaryOp .Add) (rCatT X.K):=by
 intro zp s σ H x y v u Q I rx ry h
 obtain ⟨a,b,xs,ys,rfl,rfl,ha,hb,hx,hz,q1,q2⟩:=h
 cases rx
 cases ry
 obtain ⟨its,r1,p1,_⟩:=I.tuple ha
 obtain ⟨its2,r2,p2,_⟩:=I.tuple hb
 refine HT.cat_tup p1 p2 (fun z=>hx (r1.nil_iff.mp z)) (fun z=>⟨.ref a,H,I,rfl,q1 (r2.nil_iff.mp z)⟩) (fun z=>?_) (by rw [← r1.length,← r2.length]; exact hz)
 refine ⟨.ref s.heap.objs.size,_,I.laid (t':=s.toks) (o:=.tup (xs ++ ys)) (fun b ob q=>Heap.get?_push_of_some _ q) (Nat.le_refl _) ?_,rfl,q2 (fun w=>z (r2.nil_iff.mpr w)) _ (I.hok.fresh (Nat.le_refl _))⟩
 exact ⟨by rw [List.length_append]; exact hz,_,r1.append r2,IsTup.new _ _⟩
end
def ixN (n:Nat) (i:Int):Option Nat:=if 0<=i then (if i < n then some i.toNat else none) else if -(n:Int)<=i then some (i + n).toNat else none
def atI {α:Type} (xs:List α) (i:Int):Option α:=(ixN xs.length i).bind fun j=>xs[j]?
theorem ixN_seq {n:Nat}{i:Int}{j:Nat} (h:ixN n i = some j):seqIndex? i n = some j/\j < n/\-(n:Int)<=i/\i < n:=by
 unfold ixN at h
 by_cases h0:0<=i
 ·rw [if_pos h0] at h
  by_cases h1:i < n
  ·rw [if_pos h1] at h
   have e:i.toNat = j:=Option.some.inj h
   exact ⟨by rw [seqIndex_of h0 h1,e],by omega,by omega,h1⟩
  ·rw [if_neg h1] at h; cases h
 ·rw [if_neg h0] at h
  by_cases h1:-(n:Int)<=i
  ·rw [if_pos h1] at h
   have e:(i + n).toNat = j:=Option.some.inj h
   exact ⟨by rw [seqIndex_neg (by omega) h1,e],by omega,h1,by omega⟩
  ·rw [if_neg h1] at h; cases h
theorem atI_get {α:Type}{xs:List α}{i:Int}{v:α} (h:atI xs i = some v):∃ j,seqIndex? i xs.length = some j/\xs[j]? = some v/\j < xs.length/\-(xs.length:Int)<=i/\i < xs.length:=by
 unfold atI at h
 cases e:ixN xs.length i with
 | none=>rw [e] at h; cases h
 | some j=>
  rw [e] at h
  obtain ⟨h1,h2,h3,h4⟩:=ixN_seq e
  exact ⟨j,h1,h,h2,h3,h4⟩
theorem atI_nat {α:Type}{xs:List α}{j:Nat}{v:α} (h:xs[j]? = some v):atI xs (j:Int) = some v:=by
 have hj:j < xs.length:=(List.getElem?_eq_some_iff.mp h).1
 have e:ixN xs.length (j:Int) = some j:=by
  unfold ixN
  rw [if_pos (by omega),if_pos (by omega)]; simp
 unfold atI; rw [e]; exact h
theorem atI_last {α:Type} (xs:List α) (v:α):atI (xs ++ [v]) (-1) = some v:=by
 have hl:(xs ++ [v]).length = xs.length + 1:=by simp
 have e:ixN (xs ++ [v]).length (-1) = some xs.length:=by
  unfold ixN
  rw [hl,if_neg (by decide),if_pos (by omega)]
  congr 1
  omega
 unfold atI
 rw [e]
 show (xs ++ [v])[xs.length]? = some v
 simp
def PlainIx (b:Expr):Prop:=∀ o i,subscripted b false o i = operate [o,i] (getItem o i)
def IxR (X:Cx) (r:R2):Prop:=
 ∀ (value slice:Expr) (zp:List (Addr × Obj)) (s:Shared) (σ:St) (H:Hp) (x y:V) (v u:Value) (Q:VK),Inv X zp σ H s->RelV x v->RelV y u->r x y H Q->
  subscripted slice false v u = operate [v,u] (getItem v u)->wpAny (model X.prog X.w) X.A (subscriptTail value slice v u) (EP X zp σ Q) X.xe s
def MtR (X:Cx) (id:String) (r:V->List V->Hp->VK->Prop):Prop:=
 ∀ (zp:List (Addr × Obj)) (s:Shared) (σ:St) (H:Hp) (x:V) (xs:List V) (v:Value) (us:List Value) (Q:VK),Inv X zp σ H s->RelV x v->Vals xs us->r x xs H Q->
  wpAny (model X.prog X.w) X.A (call (.builtin id) (v :: us)) (EP X zp σ Q) X.xe s
section
variable {X:Cx}{a b:Expr}{ta tb:TE}{pos:Pos}
theorem pe_ix {r:R2} (hr:IxR X r) (ha:PE X a ta) (hb:PE X b tb) (hs:PlainIx b):PE X (.Subscript a b pos) (tOp r ta tb):=by
 intro zp s σ H Q I h
 exact Subscript_ (binT ha hb I h fun v u s2 x y H2 I2 rx ry q=>hr a b zp s2 σ H2 x y v u Q I2 rx ry q (hs _ _))
def rIxL (K:PySem.W.Frag):R2:=fun x y H Q=>∃ p xs i v,x = .ref p/\y = .int i/\SqL K H p xs/\atI xs i = some v/\Q v H
def rIxT (K:PySem.W.Frag):R2:=fun x y H Q=>∃ p xs i v,x = .ref p/\y = .int i/\SqT K H p xs/\atI xs i = some v/\Q v H
def rIxS:R2:=fun x y H Q=>∃ z i c,x = .str z/\y = .int i/\z.length<=sizeLine/\atI z.cps.toList i = some c/\Q (.str ⟨#[c]⟩) H
theorem ix_list:IxR X (rIxL X.K):=by
 intro value slice zp s σ H x y v u Q I rx ry h hs
 obtain ⟨p,xs,i,z,rfl,rfl,hq,he,q⟩:=h
 cases rx
 obtain ⟨t,rfl⟩:=ry
 obtain ⟨its,r,pl,hz⟩:=I.list hq
 obtain ⟨j,h1,h2,h3,h4,h5⟩:=atI_get he
 obtain ⟨w,ew,rw'⟩:=r.get h2
 have hl:=r.length
 have hn:=line63
 have fin:EP X zp σ Q w s:=⟨z,H,I,rw',q⟩
 by_cases h0:0<=i
 ·have hj:i.toNat = j:=by
   rw [seqIndex_of h0 h5] at h1
   exact Option.some.inj h1
  exact item_listR pl.isList h0 (by omega) (by rw [hj]; simpa using ew) fin hs
 ·have hj:(i + (its.toArray.size:Int)).toNat = j:=by
   rw [seqIndex_neg (by omega) h4] at h1
   rw [List.size_toArray,← hl]
   exact Option.some.inj h1
  exact subscriptTail_builtinR (x:=w) pl.isList.typeIs slot_list_getitem.lookup
   (wpAny_getItem_list_neg (Q:=fun r s'=>r = w/\EP X zp σ Q r s') pl.isList (by omega) (by rw [List.size_toArray] <;> omega) (by omega) (by rw [hj]; simpa using ew) ⟨rfl,fin⟩) hs
theorem ix_tup:IxR X (rIxT X.K):=by
 intro value slice zp s σ H x y v u Q I rx ry h hs
 obtain ⟨p,xs,i,z,rfl,rfl,hq,he,q⟩:=h
 cases rx
 obtain ⟨t,rfl⟩:=ry
 obtain ⟨its,r,pl,hz⟩:=I.tuple hq
 obtain ⟨j,h1,h2,h3,h4,h5⟩:=atI_get he
 obtain ⟨w,ew,rw'⟩:=r.get h2
 have hl:=r.length
 have hn:=line63
 have fin:EP X zp σ Q w s:=⟨z,H,I,rw',q⟩
 exact subscriptTail_builtinR (x:=w) pl.typeIs slot_tuple_getitem.lookup
  (getItem_tuple (j:=j) (Q:=fun r s'=>r = w/\EP X zp σ Q r s') pl (by omega) (by omega) (by rw [List.size_toArray,← hl]; exact h1) (by simpa using ew) ⟨rfl,fin⟩) hs
theorem ix_str:IxR X rIxS:=by
 intro value slice zp s σ H x y v u Q I rx ry h hs
 obtain ⟨z,i,c,rfl,rfl,hz,he,q⟩:=h
 obtain ⟨t,rfl⟩:=rx
 obtain ⟨t',rfl⟩:=ry
 obtain ⟨j,h1,h2,h3,h4,h5⟩:=atI_get he
 have hl:z.cps.toList.length = z.length:=by simp [Str.length]
 rw [hl] at h1 h4 h5
 have hn:=line63
 exact tail_any (typeIs_str s z t) slot_str_getitem.lookup (getItem_str (c:=c) (by
  have e1:decide (i < -(2 ^ 63:Int)) = false:=decide_eq_false (by omega)
  have e2:decide (i ≥ 2 ^ 63) = false:=decide_eq_false (by omega)
  rw [e1,e2,Bool.or_false]) (by rw [h1]; simpa using h2) ⟨.str ⟨#[c]⟩,H,I.tok _,⟨_,rfl⟩,q⟩) hs
theorem mapSeq_set (its:List Value) (n j:Nat) (u:Value):Obj.mapSeq (·.setIfInBounds j u) { cls:=.type "list",data:=.seq its.toArray n } = { cls:=.type "list",data:=.seq (its.set j u).toArray n }:=by
 simp [Obj.mapSeq]
theorem Inv.lst {zp:List (Addr × Obj)}{σ:St}{H:Hp}{s:Shared}{p:Addr}{xs:List V} (I:Inv X zp σ H s) (h:H p = some (.lst xs)):
  ∃ (its:List Value) (n:Nat),Vals xs its/\s.heap.get? p = some { cls:=.type "list",data:=.seq its.toArray n }/\xs.length<=sizeLine:=by
 obtain ⟨z,its,n,r,e⟩:=I.hok p _ h
 exact ⟨its,n,r,e,z⟩
theorem Inv.lstUpd {zp:List (Addr × Obj)}{σ:St}{H:Hp}{s:Shared}{p:Addr}{xs ys:List V}{its its':List Value}{n n':Nat}{f:Obj->Obj} (I:Inv X zp σ H s) (h:H p = some (.lst xs))
  (ho:s.heap.get? p = some { cls:=.type "list",data:=.seq its.toArray n }) (hf:f { cls:=.type "list",data:=.seq its.toArray n } = { cls:=.type "list",data:=.seq its'.toArray n' }) (r:Vals ys its') (hz:ys.length<=sizeLine) (t:Nat):
  Inv X zp σ (upd H p (.lst ys)) { s with heap:=s.heap.update p f,toks:=t }:=by
 have e:(s.heap.update p f).get? p = some { cls:=.type "list",data:=.seq its'.toArray n' }:=by
  rw [Heap.get?_update_self f ho (by rw [hf] <;> rfl),hf]
 refine I.write (x:=p) (e:=p) (by rw [h]; trivial) (.inl rfl) (fun b u hb q=>(Heap.get?_update_other _ _ (Ne.symm hb)).trans q) ⟨_,e⟩ ?_
 exact ⟨hz,its',n',r,e⟩
def rSetL:V->V->V->Hp->(Hp->Prop)->Prop:=fun o i v H Q=>∃ p xs k j,o = .ref p/\i = .int k/\H p = some (.lst xs)/\ixN xs.length k = some j/\Q (upd H p (.lst (xs.set j v)))
theorem set_list:PSet X rSetL:=by
 intro zp s σ H o i v ov iv u Q I ro ri rv h
 obtain ⟨p,xs,k,j,rfl,rfl,hp,hj,q⟩:=h
 cases ro
 obtain ⟨t,rfl⟩:=ri
 obtain ⟨its,n,r,ho,hz⟩:=I.lst hp
 obtain ⟨h1,h2,h3,h4⟩:=ixN_seq hj
 have hl:=r.length
 have hn:=line63
 have I':Inv X zp σ (upd H p (.lst (xs.set j v))) { s with heap:=s.heap.update p (Obj.mapSeq (·.setIfInBounds j u)) }:=
  I.lstUpd hp ho (mapSeq_set its n j u) (r.set rv j) (by rw [List.length_set]; exact hz) s.toks
 by_cases h0:0<=k
 ·have hk:k.toNat = j:=by
   rw [seqIndex_of h0 h4] at h1
   exact Option.some.inj h1
  exact PySem.W.ki_setAt ho h0 (by omega) (by rw [List.size_toArray,← hl]; exact h4) (by rw [hk]; exact ⟨_,I',q⟩)
 ·have hk:(k + (its.toArray.size:Int)).toNat = j:=by
   rw [seqIndex_neg (by omega) h3] at h1
   rw [List.size_toArray,← hl]
   exact Option.some.inj h1
  exact PySem.W.ki_setBack ho (by omega) (by rw [List.size_toArray,← hl]; exact h3) (by omega) (by rw [hk]; exact ⟨_,I',q⟩)
theorem slice_bounds (lo hi:Option Int) (n:Nat):(sliceBounds lo hi none n).1 = ((HT.sIx n 0 lo:Nat):Int)/\(sliceBounds lo hi none n).2.1 = ((HT.sIx n n hi:Nat):Int)/\(sliceBounds lo hi none n).2.2 = 1:=by
 refine ⟨?_,?_,rfl⟩
 ·cases lo with
  | none=>simp [sliceBounds,HT.sIx]
  | some i=>
   simp only [sliceBounds,HT.sIx,Option.getD_none,show (1:Int) > 0 by decide,if_true]
   by_cases h:i < 0
   ·simp only [h,if_true] <;> omega
   ·simp only [h,if_false] <;> omega
 ·cases hi with
  | none=>simp [sliceBounds,HT.sIx]
  | some i=>
   simp only [sliceBounds,HT.sIx,Option.getD_none,show (1:Int) > 0 by decide,if_true]
   by_cases h:i < 0
   ·simp only [h,if_true] <;> omega
   ·simp only [h,if_false] <;> omega
theorem slicePick_cut (its:List Value) (lo hi:Option Int):slicePick its.toArray lo hi none = ((its.drop (HT.sIx its.length 0 lo)).take (HT.sIx its.length its.length hi - HT.sIx its.length 0 lo)).toArray:=by
 obtain ⟨h1,h2,h3⟩:=slice_bounds lo hi its.toArray.size
 unfold slicePick
 rw [h1,h2,h3]
 simp only [sliceRange_one,pick_run,List.size_toArray] <;> rfl
def rSlL (K:PySem.W.Frag):V->Option Int->Option Int->Hp->VK->Prop:=fun x lo hi H Q=>∃ a xs,x = .ref a/\SqL K H a xs/\∀ p,H p = none->Q (.ref p) (upd H p (.lst (cutV xs lo hi)))
theorem sl_list:SlR X (rSlL X.K):=by
 intro zp s σ H x v vl vu lo hi sl Q I rx hs pl pu h
 obtain ⟨a,xs,rfl,hx,q⟩:=h
 cases rx
 obtain ⟨its,r,ht,hz⟩:=I.list hx
 have hlen:=r.length
 refine ⟨"list",_,slot_list_getitem.lookup,ht.isList.typeIs,?_⟩
 refine wpAny_getItem_list_slice ht.isList hs pl pu .none (by simp) ?_ (by rw [List.size_toArray] <;> omega)
 rw [slicePick_cut,← hlen]
 refine ⟨.ref s.heap.objs.size,_,I.laid (t':=s.toks) (o:=.lst (cutV xs lo hi)) (fun b ob q=>Heap.get?_push_of_some _ q) (Nat.le_refl _) ?_,rfl,q _ (I.hok.fresh (Nat.le_refl _))⟩
 exact ⟨Nat.le_trans (cutV_length xs lo hi) hz,_,0,(r.drop (HT.sIx xs.length 0 lo)).take (HT.sIx xs.length xs.length hi - HT.sIx xs.length 0 lo),Heap.get?_push_size _ rfl⟩
def flatV:V->Bool
 | .non=>true
 | .bl _=>true
 | .int _=>true
 | .str _=>true
 | _=>false
def eqV:V->V->Bool
 | .non,.non=>true
 | .bl a,.bl b=>a == b
 | .bl a,.int b=>(if a then 1 else 0) == b
 | .int a,.bl b=>a == (if b then 1 else 0)
 | .int a,.int b=>a == b
 | .str a,.str b=>a == b
 | _,_=>false
theorem eqAt_V {A:Around}{s:Shared}{y x:V}{u v:Value} (ry:RelV y u) (rx:RelV x v) (fy:flatV y = true) (fx:flatV x = true):SeqAt.EqAt A s u v (eqV y x):=by
 cases y with
 | non=>
  cases ry
  cases x with
  | non=>cases rx; exact SeqAt.EqAt.same _
  | bl b=>cases rx; exact SeqAt.EqAt.none_bool b
  | int b=>obtain ⟨t,rfl⟩:=rx; exact SeqAt.EqAt.none_int b t
  | str b=>obtain ⟨t,rfl⟩:=rx; exact SeqAt.EqAt.none_str b t
  | _=>exact absurd (show false = true from fx) Bool.false_ne_true
 | bl a=>
  cases ry
  cases x with
  | non=>cases rx; exact SeqAt.EqAt.bool_none a
  | bl b=>cases rx; exact SeqAt.EqAt.bool_bool a b
  | int b=>obtain ⟨t,rfl⟩:=rx; exact SeqAt.EqAt.bool_int a b t
  | str b=>obtain ⟨t,rfl⟩:=rx; exact SeqAt.EqAt.bool_str a b t
  | _=>exact absurd (show false = true from fx) Bool.false_ne_true
 | int a=>
  obtain ⟨t',rfl⟩:=ry
  cases x with
  | non=>cases rx; exact SeqAt.EqAt.int_none a t'
  | bl b=>cases rx; exact SeqAt.EqAt.int_bool a t' b
  | int b=>obtain ⟨t,rfl⟩:=rx; exact SeqAt.EqAt.int_int a t' b t
  | str b=>obtain ⟨t,rfl⟩:=rx; exact SeqAt.EqAt.int_str a t' b t
  | _=>exact absurd (show false = true from fx) Bool.false_ne_true
 | str a=>
  obtain ⟨t',rfl⟩:=ry
  cases x with
  | non=>cases rx; exact SeqAt.EqAt.str_none a t'
  | bl b=>cases rx; exact SeqAt.EqAt.str_bool a t' b
  | int b=>obtain ⟨t,rfl⟩:=rx; exact SeqAt.EqAt.str_int a t' b t
  | str b=>obtain ⟨t,rfl⟩:=rx; exact SeqAt.EqAt.str_str a t' b t
  | _=>exact absurd (show false = true from fx) Bool.false_ne_true
 | _=>exact absurd (show false = true from fy) Bool.false_ne_true
def eqU (x:V) (u:Value):Bool:=match u with
 | .none=>eqV .non x
 | .bool b=>eqV (.bl b) x
 | .int i _=>eqV (.int i) x
 | .str z _=>eqV (.str z) x
 | _=>false
theorem eqU_of {x y:V}{u:Value} (r:RelV y u) (f:flatV y = true):eqU x u = eqV y x:=by
 cases y with
 | non=>cases r; rfl
 | bl b=>cases r; rfl
 | int i=>obtain ⟨t,rfl⟩:=r; rfl
 | str z=>obtain ⟨t,rfl⟩:=r; rfl
 | _=>exact absurd (show false = true from f) Bool.false_ne_true
theorem any_eqU {x:V}:∀ {xs:List V}{us:List Value},Vals xs us->xs.all flatV = true->us.any (eqU x) = xs.any fun y=>eqV y x
 | _,_,.nil,_=>rfl
 | y :: xs,u :: us,.cons r t,f=>by
  rw [List.all_cons,Bool.and_eq_true] at f
  rw [List.any_cons,List.any_cons,eqU_of r f.1,any_eqU t f.2]
theorem mem_eqAt {A:Around}{s:Shared}{x:V}{v:Value} (rx:RelV x v) (fx:flatV x = true):∀ {xs:List V}{us:List Value},Vals xs us->xs.all flatV = true->∀ u∈us,SeqAt.EqAt A s u v (eqU x u)
 | _,_,.nil,_=>fun u hu=>by cases hu
 | y :: xs,u :: us,.cons r t,f=>fun u' hu=>by
  rw [List.all_cons,Bool.and_eq_true] at f
  rcases List.mem_cons.mp hu with rfl | hu
  ·rw [eqU_of r f.1]; exact eqAt_V r rx f.1 fx
  ·exact mem_eqAt rx fx t f.2 u' hu
def inV (x:V) (xs:List V):Bool:=xs.any fun y=>eqV y x
def rIn (K:PySem.W.Frag) (neg:Bool):R2:=fun x y H Q=>∃ p xs,y = .ref p/\(SqL K H p xs\/SqT K H p xs)/\flatV x = true/\xs.all flatV = true/\Q (.bl (if neg then !inV x xs else inV x xs)) H
theorem op_in_seq:OpR X (compareOp .In) (rIn X.K false):=by
 intro zp s σ H x y v u Q I rx ry h
 obtain ⟨p,xs,rfl,hq,fx,fs,q⟩:=h
 cases ry
 rcases hq with hq | hq
 ·obtain ⟨its,r,pl,hz⟩:=I.list hq
  refine SeqAt.in_listAt (eqU x) pl.isList (fun w hw=>mem_eqAt rx fx r fs w (by simpa using hw)) ⟨.bl _,H,I,rfl,?_⟩
  rw [show its.toArray.any (eqU x) = its.any (eqU x) by simp,any_eqU r fs]
  exact q
 ·obtain ⟨its,r,pl,hz⟩:=I.tuple hq
  refine SeqAt.in_tupleAt (eqU x) pl (fun w hw=>mem_eqAt rx fx r fs w (by simpa using hw)) ⟨.bl _,H,I,rfl,?_⟩
  rw [show its.toArray.any (eqU x) = its.any (eqU x) by simp,any_eqU r fs]
  exact q
theorem op_notIn_seq:OpR X (compareOp .NotIn) (rIn X.K true):=by
 intro zp s σ H x y v u Q I rx ry h
 obtain ⟨p,xs,rfl,hq,fx,fs,q⟩:=h
 cases ry
 rcases hq with hq | hq
 ·obtain ⟨its,r,pl,hz⟩:=I.list hq
  refine SeqAt.notIn_listAt (eqU x) pl.isList (fun w hw=>mem_eqAt rx fx r fs w (by simpa using hw)) ⟨.bl _,H,I,rfl,?_⟩
  rw [show its.toArray.any (eqU x) = its.any (eqU x) by simp,any_eqU r fs]
  exact q
 ·obtain ⟨its,r,pl,hz⟩:=I.tuple hq
  refine SeqAt.notIn_tupleAt (eqU x) pl (fun w hw=>mem_eqAt rx fx r fs w (by simpa using hw)) ⟨.bl _,H,I,rfl,?_⟩
  rw [show its.toArray.any (eqU x) = its.any (eqU x) by simp,any_eqU r fs]
  exact q
theorem call_list_of:CallR X (.type "list") (fun xs H Q=>∃ p ys,xs = [.ref p]/\(SqL X.K H p ys\/SqT X.K H p ys)/\∀ l,H l = none->Q (.ref l) (upd H l (.lst ys))):=by
 intro zp s σ H xs us Q I r h
 obtain ⟨p,ys,rfl,hq,q⟩:=h
 obtain ⟨u,rfl,rx⟩:=vals1 r
 cases rx
 have fin:∀ (its:List Value),Vals ys its->ys.length<=sizeLine->∀ (h':Heap) (c':Nat),(∀ b o',s.heap.get? b = some o'->h'.get? b = some o')->
   h'.get? s.heap.objs.size = some { cls:=.type "list",dict:=none,data:=.seq its.toArray c',slots:=#[] }->EP X zp σ Q (.ref s.heap.objs.size) { s with heap:=h' }:=fun its r' hz h' c' kp e=>
  ⟨.ref s.heap.objs.size,_,I.laid (t':=s.toks) kp (Nat.le_refl _) (show ObjOk X.prog X.w _ h' _ (.lst ys) from ⟨hz,its,c',r',e⟩),rfl,q _ (I.hok.fresh (Nat.le_refl _))⟩
 rcases hq with hq | hq
 ·obtain ⟨its,r',pl,hz⟩:=I.list hq
  have hlen:=r'.length
  obtain ⟨o,ho,hc,n,hd⟩:=pl.isList
  exact call_list_seq p (.inl rfl) ho hc hd (fun h' c' kp e=>fin its r' hz h' c' kp e) (by simp only [List.size_toArray] <;> omega)
 ·obtain ⟨its,r',pl,hz⟩:=I.tuple hq
  have hlen:=r'.length
  obtain ⟨o,ho,hc,n,hd⟩:=pl
  exact call_list_seq p (.inr rfl) ho hc hd (fun h' c' kp e=>fin its r' hz h' c' kp e) (by simp only [List.size_toArray] <;> omega)
theorem call_tuple_of:CallR X (.type "tuple") (fun xs H Q=>∃ p ys,xs = [.ref p]/\((SqL X.K H p ys/\∀ l,H l = none->Q (.ref l) (upd H l (.tup ys)))\/(SqT X.K H p ys/\Q (.ref p) H))):=by
 intro zp s σ H xs us Q I r h
 obtain ⟨p,ys,rfl,h⟩:=h
 obtain ⟨u,rfl,rx⟩:=vals1 r
 cases rx
 rcases h with ⟨hq,q⟩ | ⟨hq,q⟩
 ·obtain ⟨its,r',pl,hz⟩:=I.list hq
  have hlen:=r'.length
  refine call_tuple_list pl.isList (fun h' kp=>?_) (by simp only [List.size_toArray] <;> omega)
  have I1:Inv X zp σ H { s with heap:=h' }:=I.kept (t':=s.toks) kp
  have I2:Inv X zp σ (upd H h'.objs.size (.tup ys)) { s with heap:=h'.push { cls:=.type "tuple",data:=.seq its.toArray } }:=
   I1.laid (t':=s.toks) (fun b o e=>Heap.get?_push_of_some _ e) (Nat.le_refl _) (show ObjOk X.prog X.w _ _ _ (.tup ys) from ⟨hz,its,r',IsTup.new _ _⟩)
  exact ⟨.ref h'.objs.size,_,I2,rfl,q _ (I1.hok.fresh (Nat.le_refl _))⟩
 ·obtain ⟨its,r',pl,hz⟩:=I.tuple hq
  exact call_tuple_same pl ⟨.ref p,H,I,rfl,q⟩
def tyV (K:PySem.W.Frag) (T:String) (x:V) (H:Hp):Prop:=match x with
 | .str _=>T = "str"
 | .int _=>T = "int"
 | .ref p=>(T = "list"/\∃ xs,SqL K H p xs)\/(T = "tuple"/\∃ o,K.lookup p = some o/\o.cls = .type "tuple"/\o.dict = none) \/
   (T = "dict"/\((∃ kvs,H p = some (.dK kvs))\/∃ kvs,H p = some (.dT kvs)))\/(T = "set"/\∃ S n,H p = some (.set S n))
 | _=>False
theorem tyV_is {zp:List (Addr × Obj)}{σ:St}{H:Hp}{s:Shared}{T:String}{x:V}{v:Value} (I:Inv X zp σ H s) (r:RelV x v) (ty:tyV X.K T x H):
  s.TypeIs v T/\∀ a,v = .ref a->∃ ob,s.heap.get? a = some ob/\ob.dict = none:=by
 cases x with
 | str z=>
  obtain ⟨t,rfl⟩:=r
  cases (show T = "str" from ty)
  exact ⟨typeIs_str s z t,fun _ e=>nomatch e⟩
 | int i=>
  obtain ⟨t,rfl⟩:=r
  cases (show T = "int" from ty)
  exact ⟨typeIs_int s i t,fun _ e=>nomatch e⟩
 | ref p=>
  cases r
  rcases ty with ⟨rfl,xs,hq⟩ | ⟨rfl,o,hk,hc,hd⟩ | ⟨rfl,hk⟩ | ⟨rfl,S,n,hk⟩
  ·obtain ⟨its,_,pl,_⟩:=I.list hq
   refine ⟨pl.isList.typeIs,fun a e=>?_⟩
   cases e
   obtain ⟨o,n,e,c,hd,_⟩:=pl
   exact ⟨o,e,hd⟩
  ·refine ⟨⟨o,I.kIn p o hk,hc⟩,fun a e=>?_⟩
   cases e
   exact ⟨o,I.kIn _ o hk,hd⟩
  ·have z:∃ o,s.heap.get? p = some o/\o.ExactDict:=by
    rcases hk with ⟨kvs,hk⟩ | ⟨kvs,hk⟩
    ·obtain ⟨_,_,_,_,o,_,_,e,ex,_⟩:=I.hok p _ hk
     exact ⟨o,e,ex⟩
    ·obtain ⟨_,_,_,_,o,_,_,e,ex,_⟩:=I.hok p _ hk
     exact ⟨o,e,ex⟩
   obtain ⟨o,e,ex⟩:=z
   refine ⟨⟨o,e,ex.1⟩,fun a e2=>?_⟩
   cases e2
   exact ⟨o,e,ex.2.1⟩
  ·obtain ⟨o,_,_,_,e,ex,_⟩:=I.hok p _ hk
   refine ⟨⟨o,e,ex.1⟩,fun a e2=>?_⟩
   cases e2
   exact ⟨o,e,ex.2.1⟩
 | _=>exact False.elim ty
def tBM0 (K:PySem.W.Frag) (T:String) (r:V->List V->Hp->VK->Prop) (to:TE):TE:=fun σ H Q=>to σ H fun x H1=>tyV K T x H1/\r x [] H1 Q
def tBM (K:PySem.W.Frag) (T:String) (r:V->List V->Hp->VK->Prop) (to:TE) (t:TA):TE:=fun σ H Q=>to σ H fun x H1=>tyV K T x H1/\t σ H1 fun xs H2=>r x xs H2 Q
variable {o e:Expr}{es:List Expr}{to:TE}{t:TA}{name:Str}{apos cpos:Pos}{T id:String}{r:V->List V->Hp->VK->Prop}
theorem pe_bm0 (pa:PlainAttrs T) (slot:Slot T name id) (hty:typeOf (.builtin id) = pure (.type "method_descriptor")) (hm:MtR X id r) (ho:PE X o to)
  (hbase:attributeBase o name X.env (eval o X.env) = eval o X.env:=by rfl) (hline:(apos.endLine == cpos.line) = true:=by rfl):PE X (.Call (.Attribute o name apos) [] [] cpos) (tBM0 X.K T r to):=by
 intro zp s σ H Q I h
 refine wpAny_Call_method0_late hbase hline (thn (ho zp s σ H _ I h) fun v s1 ⟨x,H1,I1,r1,ty,q1⟩=>?_)
 obtain ⟨h1,h2⟩:=tyV_is I1 r1 ty
 exact ⟨T,id,pa,slot,hty,h1,h2,Calls.callWith_builtin rfl (PySem.evalArgs_none (hm zp s1 σ H1 x [] v [] Q I1 r1 .nil q1))⟩
theorem pe_bm (pa:PlainAttrs T) (slot:Slot T name id) (hty:typeOf (.builtin id) = pure (.type "method_descriptor")) (hm:MtR X id r) (ho:PE X o to) (ha:PA X (e :: es) t)
  (hbase:attributeBase o name X.env (eval o X.env) = eval o X.env:=by rfl)
  (hfew:((backTo cpos (starEach (e :: es) X.env)).all (fun x=>!x.1) && (backToKw cpos (keywordEach [] X.env)).all (fun x=>x.1.isSome)
   && decide ((e :: es).length + ([]:List Keyword).length + (if ([]:List Keyword).isEmpty then 0 else 1) < 30)) = true:=by rfl)
  (hline:(apos.endLine == cpos.line) = true:=by rfl) (hs:starEach (e :: es) X.env = (false,eval e X.env) :: starEach es X.env:=by rfl) (hplain:(backTo cpos (starEach es X.env)).any (·.1) = false:=by rfl):
  PE X (.Call (.Attribute o name apos) (e :: es) [] cpos) (tBM X.K T r to t):=by
 intro zp s σ H Q I h
 refine wpAny_Call_method_late hbase hfew hline rfl (thn (ho zp s σ H _ I h) fun v s1 ⟨x,H1,I1,r1,ty,q1⟩=>?_)
 obtain ⟨h1,h2⟩:=tyV_is I1 r1 ty
 refine ⟨T,id,pa,slot,hty,h1,h2,?_⟩
 have hA:=ha cpos zp s1 σ H1 _ I1 q1
 rw [hs] at hA ⊢
 refine Calls.callWith_builtin (by show (false || (backTo cpos (starEach es X.env)).any (·.1)) = false; rw [hplain] <;> rfl) (Calls.evalArgs_plain ?_)
 exact thn hA fun us s2 ⟨vs,H2,I2,r2,q2⟩=>hm zp s2 σ H2 x vs v us Q I2 r1 r2 q2
end
def MtM (X:Cx) (id:String) (r:V->List V->Hp->VK->Prop):Prop:=
 ∀ (zp:List (Addr × Obj)) (s:Shared) (σ:St) (H:Hp) (x:V) (xs:List V) (v:Value) (us:List Value) (Q:VK),Inv X zp σ H s->RelV x v->Vals xs us->r x xs H Q->
  wpAny (model X.prog X.w) X.A (call (.builtin id) (v :: us)) (EP X zp σ Q) X.xe s
theorem Vals.one:∀ {x:V}{us:List Value},Vals [x] us->∃ u,us = [u]/\RelV x u
 | _,_,.cons r .nil=>⟨_,rfl,r⟩
theorem Vals.zero:∀ {us:List Value},Vals [] us->us = []
 | _,.nil=>rfl
theorem Vals.dropLast {xs:List V}{us:List Value} (h:Vals xs us):Vals xs.dropLast us.dropLast:=by
 induction h with
 | nil=>exact .nil
 | cons r t ih=>
  cases t with
  | nil=>exact .nil
  | cons q t'=>exact .cons r ih
theorem Vals.rep {xs:List V}{us:List Value} (h:Vals xs us):∀ k:Nat,Vals (List.replicate k xs).flatten (List.replicate k us).flatten
 | 0=>.nil
 | k + 1=>by
  rw [List.replicate_succ,List.replicate_succ,List.flatten_cons,List.flatten_cons]
  exact Vals.append h (Vals.rep h k)
theorem erase_last {α:Type} (l:List α):l.eraseIdx (l.length - 1) = l.dropLast:=by
 induction l with
 | nil=>rfl
 | cons a r ih=>
  cases r with
  | nil=>rfl
  | cons b r=>
   have e:(a :: b :: r).length - 1 = ((b :: r).length - 1) + 1:=by
    have h1:(a :: b :: r).length = r.length + 2:=rfl
    have h2:(b :: r).length = r.length + 1:=rfl
    omega
   rw [e,List.eraseIdx_cons_succ,ih]
   all_goals rfl
theorem foldl_rep (its:List Value):∀ (k:Nat) (acc:List Value),
  List.foldl (fun x1 x2=>x1 ++ x2) acc.toArray (List.replicate k its.toArray) = (acc ++ (List.replicate k its).flatten).toArray
 | 0,acc=>by simp
 | k + 1,acc=>by
  have e:acc.toArray ++ its.toArray = (acc ++ its).toArray:=by simp
  have e2:(acc ++ its) ++ (List.replicate k its).flatten = acc ++ (List.replicate (k + 1) its).flatten:=by
   rw [List.replicate_succ,List.flatten_cons,List.append_assoc]
  rw [← e2,← foldl_rep its k (acc ++ its),← e,List.replicate_succ,List.foldl_cons]
section
variable {X:Cx}{zp:List (Addr × Obj)}{σ:St}{H:Hp}{s:Shared}{l b:Addr}{xs ys zs:List V}
theorem Inv.lset {its its':List Value}{n:Nat}{f:Array Value->Array Value}{t':Nat} (I:Inv X zp σ H s) (hH:H l = some (.lst xs))
  (e:s.heap.get? l = some { cls:=.type "list",data:=.seq its.toArray n }) (hf:f its.toArray = its'.toArray) (hv:Vals ys its') (hz:ys.length<=sizeLine):
  Inv X zp σ (upd H l (.lst ys)) { s with heap:=s.heap.update l (Obj.mapSeq f),toks:=t' }:=by
 have q:=PySem.IsL.update e f
 rw [hf] at q
 refine I.write (x:=l) (e:=l) (by rw [hH]; exact trivial) (.inl rfl) (fun b' u hb hu=>(Heap.get?_update_other s.heap (Obj.mapSeq f) (Ne.symm hb)).trans hu) ⟨_,q⟩ ?_
 exact ⟨hz,its',_,hv,q⟩
theorem Inv.lnew {its:List Value}{t':Nat} (I:Inv X zp σ H s) (hv:Vals ys its) (hz:ys.length<=sizeLine):
  Inv X zp σ (upd H s.heap.objs.size (.lst ys)) { s with heap:=s.heap.push { cls:=.type "list",data:=.seq its.toArray },toks:=t' }:=
 I.laid (fun _ _ q=>Heap.get?_push_of_some _ q) (Nat.le_refl _) ⟨hz,its,0,hv,Heap.get?_push_size _ rfl⟩
theorem Inv.fresh (I:Inv X zp σ H s):H s.heap.objs.size = none:=I.hok.fresh (Nat.le_refl _)
theorem Inv.lstM (I:Inv X zp σ H s) (hH:H l = some (.lst xs)):xs.length<=sizeLine/\∃ (its:List Value) (n:Nat),Vals xs its/\xs.length = its.length/\s.heap.get? l = some { cls:=.type "list",data:=.seq its.toArray n }:=by
 obtain ⟨z,its,n,r,e⟩:=I.hok l _ hH
 exact ⟨z,its,n,r,r.length,e⟩
theorem notLongL {n:Nat} (h:n<=sizeLine):Builtin.List.listTooLong n = false:=by
 unfold Builtin.List.listTooLong
 exact decide_eq_false (by omega)
end
section
variable {X:Cx}
def rAppend:V->List V->Hp->VK->Prop:=fun x vs H Q=>∃ l xs y,x = .ref l/\vs = [y]/\H l = some (.lst xs)/\xs.length < sizeLine/\Q .non (upd H l (.lst (xs ++ [y])))
theorem mt_append:MtM X "list.append" rAppend:=by
 intro zp s σ H x vs v us Q I rx rv h
 obtain ⟨l,xs,y,rfl,rfl,hH,hz,q⟩:=h
 cases rx
 obtain ⟨u,rfl,ru⟩:=rv.one
 obtain ⟨z,its,n,r,hl,e⟩:=I.lstM hH
 refine call_meets F.slot_list_append ⟨_,e,rfl⟩ F.entry_list_append (F.args_list_append_2 _ _) (PySem.list_append l its.toArray n u (by rw [List.size_toArray]; omega)) ⟨e,?_⟩
 refine ⟨.non,_,I.lset (its':=its ++ [u]) hH e (by simp) (r.append (.cons ru .nil)) ?_,rfl,q⟩
 rw [List.length_append,List.length_singleton]
 omega
def rExtend:V->List V->Hp->VK->Prop:=fun x vs H Q=>∃ l b xs zs,x = .ref l/\vs = [.ref b]/\H l = some (.lst xs)/\H b = some (.lst zs)/\xs.length + zs.length<=sizeLine/\Q .non (upd H l (.lst (xs ++ zs)))
theorem mt_extend:MtM X "list.extend" rExtend:=by
 intro zp s σ H x vs v us Q I rx rv h
 obtain ⟨l,b,xs,zs,rfl,rfl,hH,hB,hz,q⟩:=h
 cases rx
 obtain ⟨u,rfl,ru⟩:=rv.one
 cases ru
 obtain ⟨z,its,n,r,hl,e⟩:=I.lstM hH
 obtain ⟨z2,its2,n2,r2,hl2,e2⟩:=I.lstM hB
 have hsz:its.toArray.size + its2.toArray.size<=sizeLine:=by rw [List.size_toArray,List.size_toArray]; omega
 have hlong:¬ (!its.toArray.isEmpty && Builtin.List.listTooLong (its.toArray.size + its2.toArray.size)) = true:=by
  rw [notLongL hsz,Bool.and_false]
  exact Bool.false_ne_true
 refine call_meets F.slot_list_extend ⟨_,e,rfl⟩ F.entry_list_extend (F.args_list_extend_2 _ _)
  (AutoSeq1.list_extend_list_list_0 l its.toArray n b its2.toArray n2 hlong (by rw [List.size_toArray]; omega) (by omega)) ⟨e,e2,?_⟩
 refine ⟨.non,_,I.lset (its':=its ++ its2) hH e (by simp) (r.append r2) ?_,rfl,q⟩
 rw [List.length_append]
 omega
def rPop:V->List V->Hp->VK->Prop:=fun x vs H Q=>∃ l xs y,x = .ref l/\vs = []/\H l = some (.lst xs)/\xs[xs.length - 1]? = some y/\Q y (upd H l (.lst xs.dropLast))
theorem mt_pop:MtM X "list.pop" rPop:=by
 intro zp s σ H x vs v us Q I rx rv h
 obtain ⟨l,xs,y,rfl,rfl,hH,hy,q⟩:=h
 cases rx
 have hus:=rv.zero
 subst hus
 obtain ⟨z,its,n,r,hl,e⟩:=I.lstM hH
 obtain ⟨u,hu,ru⟩:=r.get hy
 have hy':its.toArray[its.toArray.size - 1]? = some u:=by
  show its.toArray[its.length - 1]? = some u
  rw [← Array.getElem?_toList,← hl]
  exact hu
 refine call_meets F.slot_list_pop ⟨_,e,rfl⟩ F.entry_list_pop (F.args_list_pop_1 _) (MeetsSeq.list_pop_last l its.toArray n u hy' (by rw [List.size_toArray]; omega)) ⟨e,?_⟩
 refine ⟨y,_,I.lset (its':=its.dropLast) hH e ?_ r.dropLast ?_,ru,q⟩
 ·show its.toArray.eraseIdxIfInBounds (its.toArray.size - 1) = its.dropLast.toArray
  rw [List.size_toArray,List.eraseIdxIfInBounds_toArray,erase_last]
 ·rw [List.length_dropLast]
  omega
def rCat:R2:=fun x y H Q=>∃ l b xs zs,x = .ref l/\y = .ref b/\H l = some (.lst xs)/\H b = some (.lst zs)/\xs.length + zs.length<=sizeLine/\∀ p,H p = none->Q (.ref p) (upd H p (.lst (xs ++ zs)))
theorem op_cat:OpR X (binaryOp .Add) rCat:=by
 intro zp s σ H x y v u Q I rx ry h
 obtain ⟨l,b,xs,zs,rfl,rfl,hH,hB,hz,q⟩:=h
 cases rx
 cases ry
 obtain ⟨z,its,n,r,hl,e⟩:=I.lstM hH
 obtain ⟨z2,its2,n2,r2,hl2,e2⟩:=I.lstM hB
 refine PySem.P.add_list e e2 ?_ (by rw [List.size_toArray,List.size_toArray]; omega)
 have ea:its.toArray ++ its2.toArray = (its ++ its2).toArray:=by simp
 rw [ea]
 exact ⟨.ref _,_,I.lnew (t':=s.toks) (r.append r2) (by rw [List.length_append]; omega),rfl,q _ I.fresh⟩
def rRep:R2:=fun x y H Q=>∃ l k xs,x = .ref l/\y = .int k/\H l = some (.lst xs)/\-(2 ^ 63)<=k/\k < 2 ^ 63/\xs.length * k.toNat<=sizeLine /\
 ∀ p,H p = none->Q (.ref p) (upd H p (.lst (List.replicate k.toNat xs).flatten))
theorem len_rep {α:Type} (xs:List α) (k:Nat):(List.replicate k xs).flatten.length = k * xs.length:=by
 induction k with
 | zero=>simp
 | succ k ih=>rw [List.replicate_succ,List.flatten_cons,List.length_append,ih,Nat.succ_mul,Nat.add_comm]
theorem op_rep:OpR X (binaryOp .Mult) rRep:=by
 intro zp s σ H x y v u Q I rx ry h
 obtain ⟨l,k,xs,rfl,rfl,hH,h1,h2,hz,q⟩:=h
 cases rx
 obtain ⟨t,rfl⟩:=ry
 obtain ⟨z,its,n,r,hl,e⟩:=I.lstM hH
 have hlen:its.toArray.size * k.toNat<=sizeLine:=by rw [List.size_toArray,← hl]; exact hz
 have hcap:¬ its.toArray.size * k.toNat > (2 ^ 63 - 1) / 8:=by
  have:(sizeLine:Nat)<=(2 ^ 63 - 1) / 8:=by decide
  omega
 have hfit:¬ (!Builtin.List.listFitsIndex k) = true:=by
  rw [fitsIndex_both h1 h2]
  exact Bool.false_ne_true
 have hlong:¬ Builtin.List.listTooLong (its.toArray.size * k.toNat) = true:=by
  rw [notLongL hlen]
  exact Bool.false_ne_true
 have hnew:List.foldl (fun x1 x2=>x1 ++ x2) #[] (List.replicate (if its.toArray.isEmpty = true then 0 else k.toNat) its.toArray) = (List.replicate k.toNat its).flatten.toArray:=by
  have f0:∀ m:Nat,List.foldl (fun x1 x2=>x1 ++ x2) #[] (List.replicate m its.toArray) = (List.replicate m its).flatten.toArray:=fun m=>by
   have:=foldl_rep its m []
   rw [List.nil_append] at this
   exact this
  rw [f0]
  cases its with
  | nil=>simp
  | cons a r'=>rw [if_neg (by simp)]
 refine wpAny_binaryOp_repeat_ref (T:="list") (U:="int") (by decide) ⟨_,e,rfl⟩ (fun s'=>typeIs_int s' k t) noFill_list_mul F.fills_int_mul F.slot_int_rmul repeat_list F.slot_int_index.lookup
  (call_meets F.slot_int_rmul (typeIs_int s k t) F.entry_int_rmul (F.args_int_rmul_2 _ _) (int___rmul___int_list k t l its.toArray n)
   ⟨e,rfl,⟨_,e,rfl⟩,call_meets F.slot_list_mul ⟨_,e,rfl⟩ F.entry_list_mul (F.args_list_mul_2 _ _) (AutoListH.list___mul___list_int_3 l its.toArray n k t hfit hcap hlong) ⟨e,?_⟩⟩)
 rw [hnew]
 exact ⟨.ref _,_,I.lnew (t':=s.toks) (r.rep k.toNat) (by rw [len_rep,Nat.mul_comm]; exact hz),rfl,q _ I.fresh⟩
end
section
variable {prog:Program}{w:World}{A:Around}{E:Value->Shared->Prop}{s:Shared}
set_option maxRecDepth 100000 in
end
section
variable {X:Cx}
end
end L2
namespace Att
open PySem PySem.W PySem.Calls PyProof.Rows
theorem ints_of_wellAll {P:Params}{h:Heap}:∀ (ns:List Int) (vs:List Value),WellAll P h vs (ns.map WData.int)->IntsAre vs ns:=by
 intro ns
 induction ns with
 | nil=>
  intro vs w
  rw [List.map_nil] at w
  cases w
  exact .nil
 | cons n ns ih=>
  intro vs w
  rw [List.map_cons] at w
  cases w with
  | cons a b=>
   cases a
   exact .cons _ _ (ih _ b)
theorem script_of {l:OpenLaw}{n:Nat} (hn:l.most = some n) {P:Params}{h:Heap}{args:List WData}{vals:List Value}
  (hpre:l.row.toRowW.claim.pre args = true) (hwl:WellAll P h vals args):
  ∃ a vs ns,vals = [Value.ref a]/\args = [WData.list (ns.map WData.int)]/\h.get? a = some { cls:=.type "list",data:=.seq vs.toArray }/\IntsAre vs ns/\ns.length<=n:=by
 have hsh:WShape.hasAll [] args [.list .int] = true:=(pre_splitW hpre).1
 have hc:l.pre.holds [] { args:=args } = true:=(pre_splitW hpre).2
 obtain ⟨d,r,rfl,h1,h2⟩:=hasAllW_cons hsh
 obtain rfl:=hasAllW_nil h2
 obtain ⟨xs,rfl,h3⟩:=hasW_list h1
 obtain ⟨ns,rfl⟩:=items_int h3
 have hlen:ns.length<=n:=by
  unfold OpenLaw.pre at hc
  have h4:(WTm.not (.lt (.lit (.int (n:Int))) (.len (.arg 0)))).holds [] { args:=[.list (ns.map .int)] } = true:=by
   have h4:=(holds_andW hc).1
   rw [hn] at h4
   exact h4
  have h5:=condW_of h4 (w_not (w_lt w_lit (w_len_list (w_arg rfl))))
  rw [List.length_map] at h5
  refine Nat.le_of_not_lt fun q=>?_
  have q':(n:Int) < ((ns.length:Nat):Int):=by omega
  first
   | (rw [decide_eq_true q'] at h5; exact absurd h5 (by decide))
   | (simp at h5; omega)
 cases hwl with
 | cons w1 w2=>
  cases w2
  cases w1 with
  | list ho hall=>exact ⟨_,_,ns,rfl,rfl,ho,ints_of_wellAll ns _ hall,hlen⟩
theorem post_true (l:OpenLaw) (args:List WData):l.row.toRowW.claim.post args (.bool true) args = true:=
 postW_of (r:=l.row.toRowW) (X:=(true == true))
  (show WShape.has [] (.bool true) .bool = true by first | rfl | decide | simp [WShape.has,WShape.arms,WShape.armsAll])
  (show (WTm.eq .res (.lit (.bool true))).value [] { args:=args,res:=some (.bool true),after:=args } = some (.bool (true == true)) from w_eq_bool (w_res rfl) w_lit) rfl
theorem attach_call {l:OpenLaw}{n:Nat}{q:Program}{loose:List Str}{XP:(Str->Option Value)->Heap->Prop}{YP:World->Heap->Prop}{d:DefRec}
  (hn:l.most = some n) (hdf:d.params.defaults = [])
  (call:∀ (w:World) (s₀ s₁:Shared) (mg mb:Str->Option Value) (fa:Addr) (o:Obj) (pm cd doc:Value) (a:Addr) (vs:List Value) (ns:List Int),
   Ground q loose [] XP w s₀ mg mb s₁.heap->YP w s₁.heap->
   s₁.heap.get? fa = some o->o.data = .func (docDef d.name d.params d.body d.scope pm cd doc)->s₁.heap.CodeRec cd d.name->mg d.name = some (.ref fa)->
   s₁.heap.get? a = some { cls:=.type "list",data:=.seq vs.toArray }->IntsAre vs ns->ns.length<=n->s₁.gens = #[]->
   codeAny (model l.prog w) callerA (.call (.ref fa) ⟨[.ref a],[]⟩) (fun r s'=>r = .ok (.ret (.bool true))/\OldK s₁.heap s'.heap/\s'.os = s₁.os/\AllBare s'.gens) s₁):
  WalkO q loose XP YP l.row.toRowW d [] (fun f vs=>PySem.call f vs):=by
 intro w s₀ s₁ mg mb G Y fa o pm cd doc dV kV ho hd hcd hD hmg hg args vals as hpre hlay hrd hwl hlo
 obtain rfl:dV = .none:=Dflts.none hD hdf
 obtain rfl:kV = .none:=Dflts.noKw hD
 obtain ⟨a,vs,ns,rfl,rfl,hobj,hints,hlen⟩:=script_of hn hpre hwl
 refine enter_call (codeAny_mono (call w s₀ s₁ mg mb fa o pm cd doc a vs ns G Y ho (fd_plain hd) hcd hmg hobj hints hlen hg) fun r s' hq=>?_)
 obtain ⟨rfl,h2,h3,h4⟩:=hq
 exact ⟨.inl ⟨.bool true,.bool true,[],rfl,fun _=>rfl,.bool true,post_true l _,fun _=>⟨List.Pairwise.nil,fun _ hm=>(nomatch hm)⟩⟩,h2,h3,h4⟩
section
variable {prog:Program}{w:World}{A:Around}{E:Value->Shared->Prop}{s:Shared}{K:Frag}
def ledger (h:Heap) (L d:Addr):List (Addr × Obj):=(List.range h.objs.size).filterMap fun a=>if a = L\/a = d then none else (h.get? a).map fun o=>(a,o)
end
end Att
namespace L2
open PySem PySem.Spec PyProof.Rows
theorem vals_ints:∀ {vs:List Value}{ns:List Int},IntsAre vs ns->Vals (ns.map V.int) vs
 | _,_,.nil=>.nil
 | _,_,.cons n t h=>.cons ⟨t,rfl⟩ (vals_ints h)
def Only (H:Hp):Prop:=∀ b,H b = none\/∃ o xs,H b = some (.frz o (.lst xs))
theorem law_call {P:Program}{w:World}{K:PySem.W.Frag}{mg mb:Str->Option Value}{CX:CXT}{k:Nat}{fa a:Addr}{fd:FuncData}{x:Str}{sp:Sp}{s₁:Shared}{vs:List Value}{ns:List Int}
  (KX:K.In s₁.heap) (hns:s₁.heap.Ns mainGlobals mg) (hb:s₁.heap.Ns builtinsNs mb) (hbb:∀ x:Str,x≠"__name__"->mb x = bootBuiltins x) (hlim:s₁.heap.NoLimit) (hg:s₁.gens = #[])
  (ha:s₁.heap.get? a = some { cls:=.type "list",data:=.seq vs.toArray }) (hi:IntsAre vs ns) (hl:ns.length<=sizeLine) (hr:Room k callerA)
  (F:∀ base:Heap,K.In base->base.Ns mainGlobals mg->FnOk P w K mg base CX k fa fd [x] sp) (hbind:∀ (s:Shared) (u:Value),BindsTo s fd ⟨[u],[]⟩ [(x,u)])
  (hsp:∀ H:Hp,Only H->SqL K H a (ns.map V.int)->sp [.ref a] H (fun v _=>v = .bl true) fun _ _ _=>False)
  (hCX:∀ H e s',CX [] H s₁ (fun _ _ _=>False) e s'->False):
  codeAny (model P w) callerA (.call (.ref fa) ⟨[.ref a],[]⟩) (fun r s'=>r = .ok (.ret (.bool true))/\OldK s₁.heap s'.heap/\s'.os = s₁.os/\AllBare s'.gens) s₁:=by
 have rv:=vals_ints hi
 have lenV:=hi.length
 have core:∀ H:Hp,Only H->SqL K H a (ns.map V.int)->HOk P w H s₁.heap->(∀ b,H b≠none->b = a)->(H a≠none->K.lookup a = none)->
   codeAny (model P w) callerA (.call (.ref fa) ⟨[.ref a],[]⟩) (fun r s'=>r = .ok (.ret (.bool true))/\OldK s₁.heap s'.heap/\s'.os = s₁.os/\AllBare s'.gens) s₁:=by
  intro H hO hS hok hA hK
  have base_of:∀ {b:Addr}{o:Obj},s₁.heap.get? b = some o->H b = none->(hidT s₁.heap H).get? b = some o:=fun e n=>hidT_get e n
  have noA:∀ {b:Addr}{o:Obj}{es:Array DictEntry}{ep:Nat},s₁.heap.get? b = some o->o.data = .dict es ep->H b = none:=fun {b o es ep} e d=>by
   cases q:H b with
   | none=>rfl
   | some u=>
    have e':b = a:=hA b (by rw [q]; simp)
    subst e'
    rw [ha] at e; cases e
    have d':Data.seq vs.toArray _ = Data.dict es ep:=d
    cases d'
  have nsK:∀ {b:Addr}{m:Str->Option Value},s₁.heap.Ns b m->(hidT s₁.heap H).Ns b m:=fun {b m} ⟨o,es,ep,e,d,r⟩=>⟨o,es,ep,base_of e (noA e d),d,r⟩
  have hKb:K.In (hidT s₁.heap H):=fun b o e=>base_of (KX b o e) (by
   cases q:H b with
   | none=>rfl
   | some u=>
    have e':b = a:=hA b (by rw [q]; simp)
    subst e'
    rw [hK (by rw [q]; simp)] at e; cases e)
  have hM:Mod K mg (hidT s₁.heap H):=⟨hKb,nsK hns,⟨mb,nsK hb,hbb⟩,let ⟨mc,h1,h2⟩:=hlim; ⟨mc,nsK h1,h2⟩⟩
  have e0:Env0 P w K mg (hidT s₁.heap H) callerA [] s₁ H:=⟨rfl,hM,fun b o e=>of_hidT e,Nat.le_of_eq (hidT_size _ _),trivial,fun b hb=>absurd (show b∈([]:List Addr) from hb) (by simp),hok,.of_eq hg⟩
  refine codeAny_mono ((F _ hKb (nsK hns)).run callerA [] s₁ H ⟨[.ref a],[]⟩ [.ref a] [.ref a] _ _ hr e0 (hbind s₁ (.ref a)) (.cons rfl .nil) (hsp H hO hS)) fun r s' h=>?_
  cases r with
  | error e=>exact (hCX H e s' h).elim
  | ok fl=>
   cases fl with
   | next=>exact False.elim h
   | brk=>exact False.elim h
   | cont=>exact False.elim h
   | ret u=>
    obtain ⟨v,H',os,bare,un,hok',r',q⟩:=h
    have q':v = .bl true:=q
    subst q'
    obtain rfl:u = Value.bool true:=r'
    refine ⟨rfl,OldK.of_keep fun b o e=>?_,os,bare⟩
    cases q:H b with
    | none=>exact un.keep b o e q (by intro z; exact absurd (show b∈([]:List Addr) from z) (by simp)) (by simp)
    | some u=>
     rcases hO b with z | ⟨ob,xs,z⟩
     ·rw [q] at z; cases z
     ·have z2:=un.frzs b ob _ z
      obtain ⟨e1,_⟩:=hok b _ z
      obtain ⟨e2,_⟩:=hok' b _ z2
      rw [e] at e1; cases e1
      exact e2
 cases hk:K.lookup a with
 | some o=>
  have e:=KX a o hk
  rw [ha] at e
  cases e
  refine core (fun _=>none) (fun _=>.inl rfl) (.inr ⟨_,vs.toArray,_,hk,rfl,rfl,rfl,by rw [List.size_toArray,lenV]; exact hl,by simpa using rv⟩) (fun b u z=>by have z':(none:Option HO) = some u:=z; cases z') (fun b z=>absurd rfl z) fun z=>absurd rfl z
 | none=>
  refine core (fun b=>if b = a then some (.frz { cls:=.type "list",data:=.seq vs.toArray } (.lst (ns.map V.int))) else none) (fun b=>?_) (.inl (.inr ⟨{ cls:=.type "list",data:=.seq vs.toArray },if_pos rfl⟩)) (fun b u z=>?_) (fun b z=>?_) fun _=>hk
  ·by_cases hb:b = a
   ·exact .inr ⟨_,_,if_pos hb⟩
   ·exact .inl (if_neg hb)
  ·by_cases hb:b = a
   ·have z':=(if_pos hb).symm.trans z
    cases z'
    subst hb
    exact ⟨ha,by rw [List.length_map]; exact hl,vs,_,rv,ha⟩
   ·have z':=(if_neg hb).symm.trans z
    cases z'
  ·by_cases hb:b = a
   ·exact hb
   ·exact absurd (if_neg hb) z
abbrev KOf {K:PySem.W.Frag}{h:Heap} (_:K.In h):PySem.W.Frag:=K
theorem walk_of {l:PySem.W.OpenLaw}{n k:Nat}{q:Program}{loose:List Str}{XP:(Str->Option Value)->Heap->Prop}{YP:World->Heap->Prop}{d:DefRec}{K:Params->PySem.W.Frag}{CX:World->CXT}{sp:World->Sp}{x:Str}
  (hn:l.most = some n) (hn2:n<=sizeLine) (hdf:d.params.defaults = []) (hr:Room k callerA)
  (hY:∀ (w:World) (h:Heap),YP w h->(K w.params).In h)
  (F:∀ (w:World) (mg:Str->Option Value) (fa:Addr) (h:Heap),(K w.params).In h->h.Ns mainGlobals mg->mg d.name = some (.ref fa)->
   ∃ fd:FuncData,(∀ (s:Shared) (u:Value),BindsTo s fd ⟨[u],[]⟩ [(x,u)]) /\
    ∀ base:Heap,(K w.params).In base->base.Ns mainGlobals mg->FnOk l.prog w (K w.params) mg base (CX w) k fa fd [x] (sp w))
  (hsp:∀ (w:World) (H:Hp) (a:Addr) (ns:List Int),ns.length<=n->Only H->SqL (K w.params) H a (ns.map V.int)->sp w [.ref a] H (fun v _=>v = .bl true) fun _ _ _=>False)
  (hCX:∀ (w:World) (H:Hp) (s:Shared) (e:Value) (s':Shared),CX w [] H s (fun _ _ _=>False) e s'->False):
  PySem.W.WalkO q loose XP YP l.row.toRowW d [] (fun f vs=>PySem.call f vs):=by
 refine Att.attach_call hn hdf fun w s₀ s₁ mg mb fa o pm cd doc a vs ns G Y ho hd hcd hmg hobj hints hlen hg=>?_
 have KX:=hY w _ Y
 obtain ⟨fd,hb,hF⟩:=F w mg fa _ KX G.T.g hmg
 exact law_call KX G.T.g G.T.b G.T.builtins G.T.nolimit hg hobj hints (Nat.le_trans hlen hn2) hr hF hb (fun H hO hS=>hsp w H a ns hlen hO hS) fun H e s'=>hCX w H s₁ e s'
end L2
namespace L2
open PySem PySem.Spec PyProof.Rows
def defArgs (s:Stmt):Arguments:=match s with
 | .FunctionDef _ a _ _ _ _ _ _ _ _=>a
 | _=>{ posonlyargs:=[],args:=[],vararg:=none,kwonlyargs:=[],kw_defaults:=[],kwarg:=none,defaults:=[] }
def defBody (s:Stmt):List Stmt:=match s with
 | .FunctionDef _ _ b _ _ _ _ _ _ _=>b
 | _=>[]
def defScope (s:Stmt):Scope:=match s with
 | .FunctionDef _ _ _ _ _ _ sc _ _ _=>sc
 | _=>{ kind:=.function,names:=[],isGenerator:=false,isCoroutine:=false }
abbrev CX0:CXT:=fun _ _ _ _ _ _=>False
abbrev E0:XK:=fun _ _ _=>False
theorem pass0 {X:Cx}:Passes CX0 X E0:=fun _ _ _ _ _ _ _ h=>h.elim
structure Fun (K:PySem.W.Frag) (x qual:Str) (st:Stmt) (f:Addr) (fd:FuncData):Prop where
 ex:∃ (oc:Value) (od:Option Addr) (kV doc pm:Value) (an:Option Addr) (cdv ct:Value) (osl:Array (Option Value)),
  fd = fnOf x qual (defArgs st) (defBody st) (defScope st) .none kV doc pm an cdv ct/\K.lookup f = some ⟨oc,od,.func fd,osl⟩/\codeIn K cdv qual = true
 kp:keepIn K (.ref f) = true
section
variable {P:Program}{w:World}{K:PySem.W.Frag}{mg:Str->Option Value}{base:Heap}
theorem Fun.ok {x qual:Str}{st:Stmt}{f:Addr}{fd:FuncData}{N ps:List Str}{k:Nat}{sp:Sp} (F:Fun K x qual st f fd) (S:FnScope N ps (defScope st)) (len:∀ vs H Q E,sp vs H Q E->vs.length = ps.length)
  (hbody:∀ (cdv:Value) (A:Around) (outer:List Env) (s:Shared) (H:Hp) (vs:List V) (Q:VK) (E:XK),Room k (A.deeper (envOfC qual (defScope st) s.heap.objs.size f cdv))->sp vs H Q E->
   ∃ t,PSs (cxOf CX0 P w K mg base N qual (defScope st) f cdv A outer s H E).nox (defBody st) t/\t { nx:=fun _ H'=>Q .non H',rt:=Q } (start N vs) H):FnOk P w K mg base CX0 (k + 1) f fd ps sp:=by
 obtain ⟨oc,od,kV,doc,pm,an,cdv,ct,osl,rfl,lk,hcd⟩:=F.ex
 refine fn_of lk hcd S len fun A outer s H vs Q E hr hsp=>?_
 obtain ⟨t,h,q⟩:=hbody cdv A outer s H vs Q E hr hsp
 exact ⟨t,h.nox,q⟩
theorem Fun.binds {x qual:Str}{st:Stmt}{f:Addr}{fd:FuncData}{ps:List Str} (F:Fun K x qual st f fd)
  (h:∀ (kV doc pm:Value) (an:Option Addr) (cdv ct:Value) (us:List Value),us.length = ps.length->bindArgs (fnOf x qual (defArgs st) (defBody st) (defScope st) .none kV doc pm an cdv ct) ⟨us,[]⟩ = pure (ps.zip us)):Binds K fd ps []:=by
 obtain ⟨oc,od,kV,doc,pm,an,cdv,ct,osl,rfl,lk,hcd⟩:=F.ex
 exact .all (h kV doc pm an cdv ct)
theorem fun_mk {x qual:Str}{st:Stmt}{f:Addr}{oc:Value}{od an:Option Addr}{osl:Array (Option Value)}{kV doc pm cdv ct:Value} (l:K.lookup f = some ⟨oc,od,.func (fnOf x qual (defArgs st) (defBody st) (defScope st) .none kV doc pm an cdv ct),osl⟩)
  (c:codeIn K cdv qual = true) (k:keepIn K (.ref f) = true):Fun K x qual st f (fnOf x qual (defArgs st) (defBody st) (defScope st) .none kV doc pm an cdv ct):=⟨⟨oc,od,kV,doc,pm,an,cdv,ct,osl,rfl,l,c⟩,k⟩
end
section
variable {X:Cx}
theorem pv (i:Nat) {x:Str}{pos:Pos} (hN:X.N[i]? = some x:=by rfl) (hv:Vis X.env.scope x:=by first | exact Or.inl rfl | exact Or.inr (Or.inl rfl) | exact Or.inr (Or.inr rfl)) (hd:(x == ("__debug__":Str)) = false:=by decide)
  (hcd:(x == ("__classdict__":Str)) = false:=by decide):PE X (.Name x pos) (tVar i):=pe_var hN hv hd hcd
end
theorem iteF {A B:Prop} (h:B):if false = true then A else B:=by
 rw [if_neg Bool.false_ne_true]
 exact h
theorem iteT {A B:Prop} (h:A):if true = true then A else B:=by
 rw [if_pos rfl]
 exact h
theorem ite2 {c A B:Prop} [Decidable c] (h1:c->A) (h2:¬ c->B):if c then A else B:=by
 by_cases h:c
 ·rw [if_pos h]
  exact h1 h
 ·rw [if_neg h]
  exact h2 h
def Same (H H':Hp):Prop:=∀ b o,H b = some o->H' b = some o
theorem Same.refl (H:Hp):Same H H:=fun _ _ h=>h
theorem Same.trans {H H1 H2:Hp} (a:Same H H1) (b:Same H1 H2):Same H H2:=fun c o h=>b c o (a c o h)
theorem Same.free {H H':Hp} (e:Same H H') {l:Addr} (h:H' l = Option.none):H l = Option.none:=by
 cases q:H l with
 | none=>rfl
 | some o=>
  rw [e l o q] at h
  cases h
theorem Same.seq {K:PySem.W.Frag}{H H':Hp}{a:Addr}{xs:List V} (e:Same H H') (h:SqL K H a xs):SqL K H' a xs:=by
 rcases h with (h | ⟨o,h⟩) | h
 ·exact .inl (.inl (e _ _ h))
 ·exact .inl (.inr ⟨o,e _ _ h⟩)
 ·exact .inr h
section
variable {κ:Type} [DecidableEq κ]
end
theorem HOk.track {P:Program}{w:World}{H:Hp}{h:Heap}{a:Addr}{o:HO} (x:HOk P w H h) (hn:H a = none) (new:ObjOk P w (upd H a o) h a o):HOk P w (upd H a o) h:=fun b u e=>by
 by_cases hb:b = a
 ·subst hb; rw [upd_same] at e; cases e; exact new
 ·rw [upd_ne hb] at e
  exact (x b u e).stay (fun c v _ q=>q) (fun c q=>by rw [upd_ne (ne_of_none q hn)]; exact q) fun c xs q=>by rw [upd_ne (ne_of_none q hn)]; exact q
theorem HOk.other {P:Program}{w:World}{H:Hp}{h h':Heap}{a:Addr} (x:HOk P w H h) (hn:H a = none) (hs:Heap.SameBut a h h'):HOk P w H h':=fun b u e=>
 (x b u e).stay (fun c v hc q=>(hs.2 c (by
  rintro rfl
  rcases hc with rfl | hc
  ·rw [hn] at e; cases e
  ·rw [hn] at hc; cases hc)).trans q) (fun _ q=>q) fun _ _ q=>q
section
variable {prog:Program}{w:World}{A:Around}{R:Result->Shared->Prop}{s:Shared}
theorem comp_loop {elt target iter:Expr}{ifs:List Expr}{scope:Scope}{pos:Pos}{it acc:Value}{env:Env} (I:Nat->Shared->Prop)
  (turn:∀ n s,I n s->wpAny (model prog w) A (pyNext it) (fun r s₁=>match r with
   | none=>R (.ok .next) s₁
   | some v=>wpAny (model prog w) A (letOwnedTupleGo target it v) (fun _ s₀=>wpAny (model prog w) A (assign target env v) (fun _ s₂=>
     wpAny (model prog w) A (forIn ifs true fun c r=>if r = true then do let ok ← isTrue c env (eval c env); pure (ForInStep.yield ok) else pure (ForInStep.yield r)) (fun ok s₃=>
      if ok = true then wpAny (model prog w) A (eval elt env) (fun x s₄=>
       wpAny (model prog w) A (call (.builtin "list.append") [acc,x]) (fun _ s₅=>∃ m,m < n/\I m s₅) (notedBy (model prog w) A env fun e s'=>R (.error e) s') s₄) (notedBy (model prog w) A env fun e s'=>R (.error e) s') s₃
      else ∃ m,m < n/\I m s₃) (notedBy (model prog w) A env fun e s'=>R (.error e) s') s₂) (notedBy (model prog w) A env fun e s'=>R (.error e) s') s₀) (notedBy (model prog w) A env fun e s'=>R (.error e) s') s₁) (notedBy (model prog w) A env fun e s'=>R (.error e) s') s)
  (n:Nat) (h:I n s):codeAny (model prog w) A (.compLoop (.ListComp elt [⟨target,iter,ifs,0⟩] scope pos) 0 it acc env) R s:=by
 refine codeAny_loop rfl I (fun n s hI=>?_) n h
 show wpAny _ A ((compTurn (.ListComp elt [⟨target,iter,ifs,0⟩] scope pos) 0 it acc env).onRaise (fun x=>do noteFrame x env; theTreesLotGoes x)) _ _ s
 refine wpAny_noted ?_
 rw [compTurn_list]
 refine wpAny_bind (wpAny_standAt (wpAny_bind (wpAny_mono (turn n s hI) (fun r s₁ h₁=>?_) fun _ _ h'=>h')))
 cases r with
 | none=>exact wpAny_pure h₁
 | some v=>
  refine wpAny_bind (wpAny_mono h₁ (fun _ s₀ h₀=>?_) fun _ _ h'=>h')
  refine wpAny_bind (wpAny_mono h₀ (fun _ s₂ h₂=>wpAny_bind (wpAny_mono h₂ (fun ok s₃ h₃=>?_) fun _ _ h'=>h')) fun _ _ h'=>h')
  cases ok with
  | false=>exact wpAny_pure ⟨rfl,h₃⟩
  | true=>
   exact wpAny_bind (wpAny_bind (wpAny_mono h₃ (fun x s₄ h₄=>wpAny_bind (wpAny_mono h₄ (fun _ s₅ h₅=>wpAny_pure (wpAny_pure ⟨rfl,h₅⟩)) fun _ _ h'=>h')) fun _ _ h'=>h'))
end
def cxComp (X:Cx) (scope:Scope) (cl:List (Str × Addr)) (NY:List Str) (C:Addr) (s:Shared) (H:Hp) (fp:List Addr):Cx where
 prog:=X.prog
 w:=X.w
 K:=X.K
 mg:=X.mg
 base:=X.base
 A:=X.A
 N:=NY
 s₀:=s
 H₀:=H
 env:=compEnvC scope cl C X.env
 outer:=X.stack
 stack:=X.stack
 ex:=fp
 fn:=fun _=>false
 calm:=true
 pn:=[]
 xe:=notedBy (model X.prog X.w) X.A (compEnvC scope cl C X.env) fun e s'=>compPost (model X.prog X.w) X.A X.xe none (fun _ _=>False) .none C (.error e) s'
def ClOk:List (Str × Addr)->List (Str × Addr)->Prop
 | [],_=>True
 | p :: r,cells=>cells.lookup p.1 = some p.2/\ClOk r cells
theorem ClOk.mem:∀ {cl cells:List (Str × Addr)},ClOk cl cells->∀ {x:Str}{c:Addr},cl.lookup x = some c->cells.lookup x = some c
 | [],_,_,_,_,e=>by simp at e
 | (y,d) :: r,cells,h,x,c,e=>by
  rw [List.lookup_cons] at e
  split at e
  ·rename_i q
   have q':x = y:=by simpa using q
   subst q'
   cases e
   exact h.1
  ·exact ClOk.mem h.2 e
def FrOk (X:Cx) (scope:Scope) (cl:List (Str × Addr)):List Nat->List Str->Prop
 | [],[]=>True
 | i :: r,y :: ys=>(X.N[i]? = some y/\scope.names.lookup y = some .free/\Vis X.env.scope y/\X.env.kindOf y≠some .local/\∃ c,cl.lookup y = some c)/\FrOk X scope cl r ys
 | _,_=>False
def PIfs (X:Cx) (ifs:List Expr) (t:TT):Prop:=
 ∀ (zp:List (Addr × Obj)) (s:Shared) (σ:St) (H:Hp) (Q:Bool->Hp->Prop),Inv X zp σ H s->t σ H Q->
  wpAny (model X.prog X.w) X.A (forIn ifs true fun c r=>if r = true then do let ok ← isTrue c X.env (eval c X.env); pure (ForInStep.yield ok) else pure (ForInStep.yield r)) (TP X zp σ Q) X.xe s
theorem pifs_nil {X:Cx}:PIfs X [] (fun _ H Q=>Q true H):=fun _ _ _ H _ I h=>wpAny_tests_nil ⟨H,I,h⟩
def frees (fr:List Nat) (σ:St):St:=fr.map fun k=>(σ[k]?).join
def tLComp (fr:List Nat) (wi:TI) (tt:TT) (te:TE):TE:=fun σ H Q=>wi σ H fun J H1=>∃ W:Nat->Nat->List V->Hp->Prop,(∃ m,W 0 m [] H1)/\∀ i m vs H,W i m vs H->vs.length<=sizeLine /\
 ((J.stop i H/\∀ D,H D = none->Q (.ref D) (upd H D (.lst vs))) \/
  (J.go i H/\∀ v H',J.yld i H v H'->tt (some v :: frees fr σ) H' fun b H2=>if b = true then te (some v :: frees fr σ) H2 fun y H3=>∃ m',m' < m/\W (i + 1) m' (vs ++ [y]) H3 else ∃ m',m' < m/\W (i + 1) m' vs H2))
def relF (env:Env) (p:Str × NameKind):Str × NameKind:=if (p.2 == NameKind.free && env.scope.kind == .function && env.kindOf p.1 == some .cell) = true then (p.1,NameKind.cell) else (p.1,p.2)
theorem relF_fst (env:Env) (p:Str × NameKind):(relF env p).1 = p.1:=by unfold relF; split <;> rfl
theorem lookup_relF {env:Env}:∀ {names:List (Str × NameKind)}{x:Str},(names.map (relF env)).lookup x = (names.lookup x).map fun k=>(relF env (x,k)).2
 | [],_=>rfl
 | (n,k) :: r,x=>by
  have ih:=@lookup_relF env r x
  rw [List.map_cons]
  have e:relF env (n,k) = (n,(relF env (n,k)).2):=Prod.ext (relF_fst env (n,k)) rfl
  rw [e]
  cases hx:x == n with
  | true=>
   have q':x = n:=by simpa using hx
   subst q'
   simp only [List.lookup_cons,hx,Option.map_some]
  | false=>simp only [List.lookup_cons,hx]; exact ih
theorem lookup_relabel_free {env:Env}{names:List (Str × NameKind)}{x:Str} (h:names.lookup x = some .free):
  (names.map (relF env)).lookup x = some .cell\/(names.map (relF env)).lookup x = some .free:=by
 rw [lookup_relF,h,Option.map_some]
 unfold relF
 split
 ·exact .inl rfl
 ·exact .inr rfl
theorem lookup_relabel_inv {env:Env}{names:List (Str × NameKind)}{x:Str} (hn:∀ y∈names,y.2≠.cell) (h:(names.map (relF env)).lookup x = some .cell\/(names.map (relF env)).lookup x = some .free):(x,NameKind.free)∈names:=by
 rw [lookup_relF] at h
 cases q:names.lookup x with
 | none=>rw [q] at h; simp at h
 | some k=>
  rw [q] at h
  have hm:=PySem.mem_of_lookup q
  have hk:k = .free:=by
   unfold relF at h
   simp only [Option.map_some,Option.some.injEq] at h
   split at h
   ·rename_i c
    simp only [Bool.and_eq_true] at c
    simpa using c.1.1
   ·rcases h with h | h
    ·exact absurd h (hn _ hm)
    ·exact h
  rw [← hk]
  exact hm
theorem frees_get {X:Cx}{scope:Scope}{cl:List (Str × Addr)}{σ:St}:∀ {fr:List Nat}{ys:List Str},FrOk X scope cl fr ys->∀ (j:Nat) (y:Str) (v:V),ys[j]? = some y->(frees fr σ)[j]? = some (some v)->
  ∃ i:Nat,X.N[i]? = some y/\σ[i]? = some (some v)/\scope.names.lookup y = some .free/\Vis X.env.scope y/\X.env.kindOf y≠some .local/\∃ c,cl.lookup y = some c
 | [],[],_,j,y,v,e,_=>by simp at e
 | [],_ :: _,h,_,_,_,_,_=>h.elim
 | _ :: _,[],h,_,_,_,_,_=>h.elim
 | i :: r,z :: ys,h,0,y,v,e1,e2=>by
  have e1':z = y:=by simpa using e1
  subst e1'
  have e2':(σ[i]?).join = some v:=by simpa [frees] using e2
  have:σ[i]? = some (some v):=by
   cases q:σ[i]? with
   | none=>rw [q] at e2'; cases e2'
   | some o=>rw [q] at e2'; cases o with
    | none=>cases e2'
    | some u=>cases e2'; rfl
  exact ⟨i,h.1.1,this,h.1.2.1,h.1.2.2.1,h.1.2.2.2.1,h.1.2.2.2.2⟩
 | i :: r,z :: ys,h,j + 1,y,v,e1,e2=>frees_get (fr:=r) (ys:=ys) h.2 j y v (by simpa using e1) (by simpa [frees] using e2)
theorem frees_len {X:Cx}{scope:Scope}{cl:List (Str × Addr)}{σ:St}:∀ {fr:List Nat}{ys:List Str},FrOk X scope cl fr ys->(frees fr σ).length = ys.length
 | [],[],_=>rfl
 | [],_ :: _,h=>h.elim
 | _ :: _,[],h=>h.elim
 | i :: r,z :: ys,h=>by
  have:=frees_len (σ:=σ) (fr:=r) (ys:=ys) h.2
  simp only [frees,List.map_cons,List.length_cons,List.length_map] at *
  omega
theorem pe_lcomp {X:Cx}{elt iter:Expr}{x:Str}{px pos:Pos}{ifs:List Expr}{scope:Scope}{cl:List (Str × Addr)} (fr:List Nat) (ys:List Str) {wi:TI}{tt:TT}{te:TE}
  (hc:X.calm = true) (hclos:closureFor scope X.env = pure cl) (hcell:∀ y∈scope.names,y.2≠.cell) (hkind:scope.kind = .function) (hnames:∀ y∈scope.names,y.2 = .local->scope.names.lookup y.1 = some .local)
  (hx:scope.names.lookup x = some .local) (hnd:(x :: ys).Nodup) (hcl:ClOk cl X.env.cells) (hall:(scope.names.all fun y=>y.2 != .free || (cl.lookup y.1).isSome) = true) (hfr:FrOk X scope cl fr ys)
  (hi:PI X (.Name x px) iter wi)
  (hY:∀ C s H fp,PIfs (cxComp X scope cl (x :: ys) C s H fp) ifs tt/\PE (cxComp X scope cl (x :: ys) C s H fp) elt te)
  (hs:∀ v,foldedSetIterable iter X.env v = pure v:=by intro _; rfl):
  PE X (.ListComp elt [⟨.Name x px,iter,ifs,0⟩] scope pos) (tLComp fr wi tt te):=by
 intro zp s σ H Q I h
 rw [eval_ListComp]
 refine wpAny_comprehension_free (use:=none) rfl hs hclos hkind hnames (wpAny_mono (hi zp s σ H _ I h) (fun v s1 h1=>wpAny_mono h1 (fun itv s2 h2=>?_) fun _ _ e=>e) fun _ _ e=>e)
 obtain ⟨it,fp,tn,J,H2,rfl,I2,T,st2,f2,W,⟨m0,w0⟩,turn⟩:=h2
 refine wpAny_newObj_type (wpAny_newFunctionEnv hcell (by intro y hy; simp at hy) (fun h₁ hns₁ hsb₁=>?_) hkind)
 dsimp only at hns₁ hsb₁ ⊢
 generalize hP2:s2.heap.push { cls:=.type "list",dict:=none,data:=.seq ([]:List Value).toArray } = P2 at hns₁ hsb₁ ⊢
 have hC:P2.objs.size = s2.heap.objs.size + 1:=by rw [← hP2,Heap.size_push]
 have hDC:s2.heap.objs.size≠P2.objs.size:=by rw [hC]; exact Nat.ne_of_lt (Nat.lt_succ_self _)
 have hCle:s2.heap.objs.size<=P2.objs.size:=by rw [hC]; exact Nat.le_succ _
 have below:∀ b,b < s2.heap.objs.size->b≠P2.objs.size/\b≠s2.heap.objs.size:=fun b hb=>⟨by rw [hC]; exact Nat.ne_of_lt (Nat.lt_succ_of_lt hb),Nat.ne_of_lt hb⟩
 have old:∀ b o,s2.heap.get? b = some o->h₁.get? b = some o:=fun b o e=>hsb₁.extBut b o (below b (Heap.lt_size e)).1 (Heap.get?_push_of_some _ (hP2 ▸ Heap.get?_push_of_some _ e))
 have hacc:h₁.get? s2.heap.objs.size = some { cls:=.type "list",data:=.seq ([]:List Value).toArray }:=hsb₁.extBut _ _ hDC (Heap.get?_push_of_some _ (hP2 ▸ Heap.get?_push_size _ rfl))
 have fpl:∀ b∈fp,b < s2.heap.objs.size:=fun b hb=>by
  obtain ⟨o,e,_⟩:=T.obj _ _ st2 b hb
  exact Heap.lt_size e
 have tlt:∀ b o,H2 b = some o->b < s2.heap.objs.size:=fun b o e=>I2.hok.lt e
 generalize hCg:P2.objs.size = C at hns₁ hsb₁ hDC hCle below ⊢
 generalize hDg:s2.heap.objs.size = D at hDC below hacc fpl tlt ⊢
 have hDle:D<=C:=by rw [← hDg]; exact hCle
 have cls:∀ y c,cl.lookup y = some c->X.env.cells.lookup y = some c:=fun y c e=>hcl.mem e
 have clt:∀ y c,cl.lookup y = some c->c < D:=fun y c e=>by
  obtain ⟨v,q⟩:=I2.cell y c (cls y c e)
  rw [← hDg]; exact q.lt
 have sub:∀ b∈frs X.stack,b < D:=fun b hb=>by
  rcases List.mem_cons.mp (I2.stkSub b hb) with e | hb
  ·rw [e,← hDg]; exact I2.lt
  ·obtain ⟨_,o,ho,_⟩:=I2.ok.funs.mem hb
   rw [← hDg]; exact Nat.lt_of_lt_of_le (Heap.lt_size ho) I2.sz
 obtain ⟨YI,YE⟩:=hY C s2 H2 fp
 have Yok:(cxComp X scope cl (x :: ys) C s2 H2 fp).Ok:=by
  refine ⟨I2.ok.mod,hkind,I2.ok.glob,I2.ok.blt,hCle,?_,?_,?_,fun _=>I2.ok.hd hc,I2.ok.frames,.inl rfl,?_,I2.bs,Nat.le_trans I2.ok.bsz I2.sz,?_,?_,I2.stack,I2.stkFree⟩
  ·exact fun y z c e1 e2=>I2.ok.inj y z c (cls y c e1) (cls z c e2)
  ·intro y hy
   have hm:=lookup_relabel_inv (env:=X.env) (names:=scope.names) (x:=y) hcell hy
   have q:=List.all_eq_true.mp hall _ hm
   show ∃ c,cl.lookup y = some c
   exact Option.isSome_iff_exists.mp (by simpa using q)
  ·intro y c hf _
   exact absurd hf (by show ¬ false = true; decide)
  ·intro b hb
   refine ⟨(below b (fpl b hb)).1,fun y c e z=>?_⟩
   exact (f2 b hb).2.2.2.2.1 y c (cls y c e) z
  ·intro b o e hb
   have hb:b∈fp:=hb
   rcases (f2 b hb).2.2.2.1 with z | z
   ·exact I2.ok.noex b o e z
   ·exact absurd (Nat.lt_of_lt_of_le (Heap.lt_size e) (Nat.le_trans I2.ok.bsz z)) (Nat.lt_irrefl _)
  ·intro b hb hf
   have hb:b∈fp:=hb
   rcases List.mem_cons.mp (I2.stkSub b hf) with e | hf
   ·exact (f2 b hb).2.1 e
   ·exact (f2 b hb).2.2.1 hf
 have hvis:Loc (cxComp X scope cl (x :: ys) C s2 H2 fp).env.scope x:=.inl (lookup_relabel_local hx)
 have start:∀ tk,Inv (cxComp X scope cl (x :: ys) C s2 H2 fp) [] (none :: frees fr σ) H2 { s2 with heap:=h₁,toks:=tk }:=fun tk=>by
  refine ⟨Yok,rfl,I2.bare,Un.kept old,⟨_,hns₁,fun i y v e1 e2 e3=>?_⟩,fun y c e=>?_,?_,fun y c e=>?_,fun p hp=>absurd (show p∈([]:List (Addr × Obj)) from hp) (by simp),I2.hok.kept old,?_⟩
  ·cases i with
   | zero=>simp at e2
   | succ j=>
    obtain ⟨i',n1,n2,n3,n4,n5,c,n6⟩:=frees_get hfr j y v (by simpa [cxComp] using e1) (by simpa using e2)
    obtain ⟨m,hn,hl⟩:=I2.loc
    obtain ⟨u,r,l⟩:=hl i' y v n1 n2 n4
    refine ⟨u,r,.inr ⟨lookup_relabel_free n3,c,n6,?_⟩⟩
    rcases l with ⟨k,_⟩ | ⟨k,c',e,z⟩
    ·exact absurd k n5
    ·rw [cls y c n6] at e
     cases e
     obtain ⟨o,ho,hd⟩:=z
     exact ⟨o,old _ _ ho,hd⟩
  ·obtain ⟨v,o,ho,hd⟩:=I2.cell y c (cls y c e)
   exact ⟨v,o,old _ _ ho,hd⟩
  ·show H2 C = none
   cases q:H2 C with
   | none=>rfl
   | some o=>exact absurd (tlt C o q) (Nat.not_lt.mpr hDle)
  ·exact I2.freeC y c (cls y c e)
  ·show (none :: frees fr σ).length = (x :: ys).length
   rw [List.length_cons,List.length_cons,frees_len hfr]
 have fpY:∀ {pl:List (Addr × Obj)}{H':Hp},(∀ b∈fp,H' b = none)->(∀ p∈pl,p.1 = D)->∀ b∈fp,FpOk (cxComp X scope cl (x :: ys) C s2 H2 fp) pl H' b:=fun {pl H'} hn hpl b hb=>by
  refine ⟨hn b hb,(below b (fpl b hb)).1,Yok.exfs b hb,.inl hb,fun y c e z=>(f2 b hb).2.2.2.2.1 y c (cls y c e) z,fun p hp=>?_⟩
  have hp:p∈[] ++ pl:=hp
  rw [List.nil_append] at hp
  rw [hpl p hp]
  exact (below b (fpl b hb)).2.symm
 have loop:∀ s₃:Shared,(∃ tk,s₃ = { s2 with heap:=h₁,toks:=tk })->
   codeAny (model X.prog X.w) X.A (.compLoop (.ListComp elt [⟨.Name x px,iter,ifs,0⟩] scope pos) 0 (.ref it) (.ref D) (compEnvC scope cl C X.env))
    (compPost (model X.prog X.w) X.A X.xe none (EP X zp σ Q) (.ref D) C) s₃:=by
  rintro s₃ ⟨tk,rfl⟩
  refine comp_loop
   (fun k s'=>∃ i vs ws nn H',Inv (cxComp X scope cl (x :: ys) C s2 H2 fp) [] (none :: frees fr σ) H' s'/\tn i s'.heap/\(∀ b∈fp,H' b = none)/\H' D = none /\
    s'.heap.get? D = some { cls:=.type "list",data:=.seq (ws:List Value).toArray nn }/\Vals vs ws/\W i k vs H') ?_ m0
   ⟨0,[],[],0,H2,start tk,T.keep _ _ _ st2 fun b _ o e=>old b o e,fun b hb=>(f2 b hb).1,?_,hacc,.nil,w0⟩
  ·rintro n s3 ⟨i,vs,ws,nn,H3,I3,st3,fr3,hD3,ho3,rv3,w3⟩
   have I3':Inv (cxComp X scope cl (x :: ys) C s2 H2 fp) [(D,{ cls:=.type "list",data:=.seq ws.toArray nn })] (none :: frees fr σ) H3 s3:=I3.pins_of fun p hp=>by
    have e:p = (D,{ cls:=.type "list",data:=.seq ws.toArray nn }):=by simpa using hp
    subst e
    refine ⟨ho3,hD3,hDC,fun z=>absurd (sub D z) (Nat.lt_irrefl _),fun v z=>?_⟩
    have z':Data.seq ws.toArray nn = Data.cell v:=z
    cases z'
   have fp3:=fpY (pl:=[(D,{ cls:=.type "list",data:=.seq ws.toArray nn })]) fr3 (fun p hp=>by rw [List.mem_singleton.mp hp])
   obtain ⟨hsz,alt⟩:=turn i n vs H3 w3
   rcases alt with ⟨stop,fin⟩ | ⟨go,step⟩
   ·refine thn (T.done (cxComp X scope cl (x :: ys) C s2 H2 fp) rfl rfl rfl rfl i _ s3 _ H3 _ I3' fp3 st3 stop) fun r s4 ⟨hr,I4⟩=>?_
    subst hr
    have pD:=I4.pin (D,{ cls:=.type "list",data:=.seq ws.toArray nn }) (by show _∈[] ++ _; simp)
    obtain ⟨m4,hn4,_⟩:=I4.loc
    refine ⟨m4,hn4,fun h' hs'=>?_⟩
    have hC4:H3 C = none:=I4.free
    have hok':HOk X.prog X.w (upd H3 D (.lst vs)) h':=by
     refine HOk.track (I4.hok.other hC4 hs') hD3 ⟨hsz,ws,nn,rv3,(hs'.2 D hDC).trans pD.1⟩
    have b4:=I4.base
    have un:Un (frs X.stack) fp H2 (upd H3 D (.lst vs)) s2.heap h':=by
     have lt:∀ b o,s2.heap.get? b = some o->b < D:=fun b o e=>by rw [← hDg]; exact Heap.lt_size e
     refine ⟨fun b o e n hb hx=>(hs'.2 b (below b (lt b o e)).1).trans (b4.keep b o e n hb hx),fun b o e n hb hx=>?_,fun b o e n hx=>?_,fun b o e hx=>?_,fun b zs e=>?_,fun b o u e=>?_,fun b ps e=>?_⟩
     ·obtain ⟨sl,q⟩:=b4.slot b o e n hb hx
      exact ⟨sl,(hs'.2 b (below b (lt b o e)).1).trans q⟩
     ·rw [upd_ne (below b (lt b o e)).2]; exact b4.free b o e n hx
     ·obtain ⟨o',q⟩:=b4.there b o e hx
      exact ⟨o',(hs'.2 b (below b (lt b o e)).1).trans q⟩
     ·rw [upd_ne (below b (tlt b _ e)).2]; exact b4.tups b zs e
     ·rw [upd_ne (below b (tlt b _ e)).2]; exact b4.frzs b o u e
     ·rw [upd_ne (below b (tlt b _ e)).2]; exact b4.tbls b ps e
    refine ⟨.ref D,upd H3 D (.lst vs),?_,rfl,fin D hD3⟩
    exact I2.call' (s':={ s4 with heap:=h' }) (ch:=fp) I4.os un hok' I4.bare fun b hb=>⟨(f2 b hb).2.2.2.1,(f2 b hb).2.1,(f2 b hb).2.2.2.2.1,(f2 b hb).2.2.2.2.2⟩
   ·refine thn (T.item (cxComp X scope cl (x :: ys) C s2 H2 fp) rfl rfl rfl rfl i _ s3 _ H3 _ I3' fp3 st3 go) fun r s4 ⟨u,hr,h4⟩=>?_
    subst hr
    refine thn h4 fun _ s5 ⟨v,H5,I5,r5,y5,st5,fr5⟩=>?_
    have fp5:=fpY (pl:=[(D,{ cls:=.type "list",data:=.seq ws.toArray nn })]) fr5 (fun p hp=>by rw [List.mem_singleton.mp hp])
    have I5':=I5.pinned fp5 (T.obj _ _ st5)
    refine thn (pg_name (X:=cxComp X scope cl (x :: ys) C s2 H2 fp) (i:=0) (pos:=px) hnd rfl hvis (.inr (lookup_relabel_local hx)) _ s5 _ H5 v u (fun σ' H'=>σ' = some v :: frees fr σ/\H' = H5) I5' r5 ⟨rfl,rfl⟩) fun _ s6 ⟨σ6,H6,I6,e6,e6'⟩=>?_
    subst e6 e6'
    refine thn (YI _ s6 _ _ _ I6 (step v H6 y5)) fun b s7 ⟨H7,I7,q7⟩=>?_
    have back:∀ {H8:Hp}{s8:Shared},Inv (cxComp X scope cl (x :: ys) C s2 H2 fp) ([(D,{ cls:=.type "list",data:=.seq ws.toArray nn })] ++ pinsAt fp s5.heap) (some v :: frees fr σ) H8 s8->
      s8.heap.get? D = some { cls:=.type "list",data:=.seq ws.toArray nn }/\H8 D = none/\(∀ b∈fp,H8 b = none)/\(∀ b∈fp,∀ o,s5.heap.get? b = some o->s8.heap.get? b = some o):=fun {H8 s8} I8=>by
     have pD:=I8.pin (D,{ cls:=.type "list",data:=.seq ws.toArray nn }) (by show _∈[] ++ _; simp)
     refine ⟨pD.1,pD.2.1,fun b hb=>?_,fun b hb o e=>?_⟩
     ·obtain ⟨o,e,d⟩:=T.obj _ _ st5 b hb
      exact (I8.pin (b,o) (List.mem_append_right _ (List.mem_append_right _ (mem_pinsAt hb e)))).2.1
     ·exact (I8.pin (b,o) (List.mem_append_right _ (List.mem_append_right _ (mem_pinsAt hb e)))).1
    have weak:∀ {H8:Hp}{s8:Shared},Inv (cxComp X scope cl (x :: ys) C s2 H2 fp) [] (some v :: frees fr σ) H8 s8->Inv (cxComp X scope cl (x :: ys) C s2 H2 fp) [] (none :: frees fr σ) H8 s8:=fun {H8 s8} I8=>
     I8.weak rfl fun i v' e=>by
      cases i with
      | zero=>simp at e
      | succ j=>simpa using e
    have nopin:∀ {H8:Hp}{s8:Shared}{pl:List (Addr × Obj)},Inv (cxComp X scope cl (x :: ys) C s2 H2 fp) pl (some v :: frees fr σ) H8 s8->Inv (cxComp X scope cl (x :: ys) C s2 H2 fp) [] (some v :: frees fr σ) H8 s8:=fun {H8 s8 pl} I8=>
     I8.pins_of fun p hp=>absurd hp (by simp)
    cases b with
    | false=>
     rw [if_neg Bool.false_ne_true] at q7 ⊢
     obtain ⟨m',hm,w7⟩:=q7
     obtain ⟨k1,k2,k3,k4⟩:=back I7
     exact ⟨m',hm,i + 1,vs,ws,nn,H7,weak (nopin I7),T.keep _ _ _ st5 k4,k3,k2,k1,rv3,w7⟩
    | true=>
     rw [if_pos rfl] at q7 ⊢
     refine thn (YE _ s7 _ _ _ I7 q7) fun u8 s8 ⟨y8,H8,I8,r8,m',hm,w8⟩=>?_
     obtain ⟨k1,k2,k3,k4⟩:=back I8
     refine append_at (hsz:=by rw [List.size_toArray,← rv3.length]; exact hsz) k1 fun h9 hs9 ho9=>?_
     have I9:Inv (cxComp X scope cl (x :: ys) C s2 H2 fp) [] (some v :: frees fr σ) H8 { s8 with heap:=h9 }:=
      (nopin I8).turned (t':=s8.toks) (it:=D) (fun b o hb e=>(hs9.2 b hb).trans e) k2 hDC (.inr (by rw [← hDg]; exact Nat.le_refl _)) (fun y c e=>Nat.ne_of_lt (clt y c e)) fun p hp=>absurd (show p∈([]:List (Addr × Obj)) from hp) (by simp)
     refine ⟨m',hm,i + 1,vs ++ [y8],ws ++ [u8],nn + 1,H8,weak I9,?_,k3,k2,?_,rv3.append (.cons r8 .nil),w8⟩
     ·refine T.keep _ _ _ st5 fun b hb o e=>?_
      exact (hs9.2 b (below b (fpl b hb)).2).trans (k4 b hb o e)
     ·rw [ho9,List.push_toArray]
  ·cases q:H2 D with
   | none=>rfl
   | some o=>exact absurd (tlt D o q) (Nat.lt_irrefl _)
 exact codeAny_compStart_list (loop _ ⟨_,rfl⟩) (T.self _ 0 _ _ _ (T.keep _ _ _ st2 fun b _ o e=>old b o e) (loop _ ⟨_,rfl⟩))
def Have (P:Program) (w:World) (K:PySem.W.Frag) (mg:Str->Option Value) (base:Heap) (x:Str) (k:Nat) (ps:List Str) (sp:Sp):Prop:=
 ∃ (f:Addr) (fd:FuncData),FnOk P w K mg base CX0 k f fd ps sp/\Binds K fd ps []/\keepIn K (.ref f) = true/\mg x = some (.ref f)
theorem Have.mono {P:Program}{w:World}{K:PySem.W.Frag}{mg:Str->Option Value}{base:Heap}{x:Str}{j k:Nat}{ps:List Str}{sp:Sp} (h:Have P w K mg base x j ps sp) (e:j<=k):Have P w K mg base x k ps sp:=
 let ⟨f,fd,F,r⟩:=h; ⟨f,fd,F.mono e,r⟩
section
variable {X:Cx}{x:Str}{k:Nat}{ps:List Str}{sp:Sp}{e:Expr}{es:List Expr}{t:TA}{p pos:Pos}
theorem pe_fn (G:Have X.prog X.w X.K X.mg X.base x k ps sp) (hr:Room k X.A) (hg:Gl X x) (ha:PA X (e :: es) t) (hdb:(x == ("__debug__":Str)) = false:=by decide)
  (he:starEach (e :: es) X.env = (false,eval e X.env) :: starEach es X.env:=by rfl) (hpl:(backTo pos (starEach es X.env)).any (·.1) = false:=by rfl):
  PE X (.Call (.Name x p) (e :: es) [] pos) (tCall sp [] E0 t):=by
 obtain ⟨f,fd,F,b,kp,m⟩:=G
 exact pe_call F hr hg m kp b .nil pass0 ha hdb he hpl
end
section
variable {X:Cx}
def CDivB (i j:Int):Prop:=0 < j/\j.natAbs.log2 < 9000
theorem op_fdivB:OpR X (binaryOp .FloorDiv) (rI CDivB fun i j=>.int (i / j)):=opI fun i j _ _ _ _ _ hc q=>by
 have h1:(0:Int) < j:=hc.1
 exact floordiv_int (by omega) (by rw [Int.fdiv_eq_ediv_of_nonneg i (by omega)]; exact q) (.inl (PyProof.noPylong_of_log2 hc.2))
def isiNames:List String:=["NoneType","bool","int","str","list","tuple","dict"]
def isi (A T:String):Option Bool:=if isiNames.contains A && isiNames.contains T then some (A == T || (A == "bool" && T == "int")) else none
theorem isi_mem {A:String} (h:isiNames.contains A = true):A = "NoneType"\/A = "bool"\/A = "int"\/A = "str"\/A = "list"\/A = "tuple"\/A = "dict":=by
 have:A∈isiNames:=by simpa using h
 simpa [isiNames] using this
theorem isi_ok {K:PySem.W.Frag}{A T:String}{b:Bool} (h:isi A T = some b):PySem.W.kitOne K (.type A) (.type T) = some b:=by
 unfold isi at h
 split at h
 ·rename_i c
  rw [Bool.and_eq_true] at c
  cases h
  rcases isi_mem c.1 with rfl | rfl | rfl | rfl | rfl | rfl | rfl <;> rcases isi_mem c.2 with rfl | rfl | rfl | rfl | rfl | rfl | rfl <;> kernel_rfl
 ·cases h
theorem call_isi:CallR X (.builtin "isinstance") (fun xs H Q=>∃ v T A b,xs = [v,.ty T]/\TyOf X.K H v (.type A)/\isi A T = some b/\Q (.bl b) H):=by
 intro zp s σ H xs us Q I r h
 obtain ⟨v,T,A,b,rfl,ty,e,q⟩:=h
 obtain ⟨u,c,rfl,ru,rc⟩:=vals2 r
 cases (show c = Value.type T from rc)
 exact isinst_ok I ru ty (isi_ok e) fun tk=>⟨.bl b,H,I.tok tk,rfl,q⟩
theorem truth_bools {A:Around}{P:Program}{w:World}{xs:List Bool}{its:List Value} (r:Vals (xs.map V.bl) its):TruthOf P w A (fun i v=>its.toArray[i]? = some v) (fun i=>xs.getD i true):=by
 intro i v s Q E hv h
 have hv':its[i]? = some v:=by simpa using hv
 have hl:=r.length
 rw [List.length_map] at hl
 have hi:i < xs.length:=by rw [hl]; exact (List.getElem?_eq_some_iff.mp hv').1
 obtain ⟨u,hu,ru⟩:=r.get (i:=i) (x:=V.bl xs[i]) (by rw [List.getElem?_map,List.getElem?_eq_getElem hi]; rfl)
 rw [hv'] at hu
 cases hu
 cases ru
 refine wpAny_truthy_bool ?_
 have e:xs.getD i true = xs[i]:=by rw [List.getD_eq_getElem?_getD,List.getElem?_eq_getElem hi]; rfl
 have h:Q (xs.getD i true) s:=h
 rw [e] at h
 exact h
theorem all_range (xs:List Bool):(List.range xs.length).all (fun i=>xs.getD i true) = xs.all id:=by
 rw [Bool.eq_iff_iff,List.all_eq_true,List.all_eq_true]
 constructor
 ·intro h x hx
  obtain ⟨i,hi,rfl⟩:=List.mem_iff_getElem.mp hx
  have:=h i (List.mem_range.mpr hi)
  rw [List.getD_eq_getElem?_getD,List.getElem?_eq_getElem hi] at this
  exact this
 ·intro h i hi
  have hi:=List.mem_range.mp hi
  rw [List.getD_eq_getElem?_getD,List.getElem?_eq_getElem hi]
  exact h _ (List.getElem_mem hi)
theorem call_all_bools (hc:X.calm = true):CallR X (.builtin "all") (fun xs H Q=>∃ (p:Addr) (bs:List Bool),xs = [.ref p]/\SqL X.K H p (bs.map V.bl)/\Q (.bl (bs.all id)) H):=by
 intro zp s σ H xs us Q I r h
 obtain ⟨p,bs,rfl,hq,q⟩:=h
 obtain ⟨u,rfl,rx⟩:=vals1 r
 cases rx
 obtain ⟨its,r',pl,hz⟩:=I.list hq
 have hl:=pl.isList
 obtain ⟨o,ho,_⟩:=id hl
 have hlt:=Heap.lt_size ho
 refine call_all_walk (wpAny_pyIter_list hl ?_)
 refine ⟨_,_,_,_,_,_,fun i=>bs.getD i true,rfl,Walks.list (A:=X.A.in1) (I.ok.hd hc) s.heap.objs.size p (Nat.ne_of_lt hlt) its.toArray,⟨⟨_,Heap.get?_push_size _ rfl,rfl,rfl⟩,hl.push _⟩,truth_bools r',fun h' tk hk=>?_⟩
 have e:(List.range its.toArray.size).all (fun i=>bs.getD i true) = bs.all id:=by
  have hl2:=r'.length
  rw [List.length_map] at hl2
  rw [List.size_toArray,← hl2]
  exact all_range bs
 rw [e]
 refine ⟨.bl (bs.all id),H,I.kept (h':=h') (t':=tk) fun b o e=>?_,rfl,q⟩
 exact hk b o (fun hm=>absurd (Heap.lt_size e) (by rw [List.mem_singleton.mp hm]; exact Nat.lt_irrefl _)) (Heap.get?_push_of_some _ e)
end
section
variable {prog:Program}{w:World}{A:Around}{R:Result->Shared->Prop}{I l:Addr}{vs:List Value}{ns:List Int}{d:Value}
end
def Its (z:Str):It:=⟨fun i _=>i < z.cps.size,fun i H x H'=>H' = H/\∃ c,z.cps[i]? = some c/\x = .str ⟨#[c]⟩,fun i _=>i = z.cps.size⟩
theorem turn_str {P:Program}{w:World}{K:PySem.W.Frag}{tg:Expr}{it:Addr}{T:String}{z:Str}{t:Tok}
  (W:∀ A:Around,A.handled = none->Walks P w A it [it] [it] z.cps.size (SignAt z) (fun i h=>h.IsStrIter it T z t i))
  (hT:["enumerate","zip","dict_itemiterator","dict_reverseitemiterator","odict_iterator","itertools.zip_longest","itertools.pairwise"].contains T = false)
  (self:∀ (A:Around) (i:Nat) (s:Shared) (Q:Value->Shared->Prop) (E:Value->Shared->Prop),s.heap.IsStrIter it T z t i->Q (.ref it) s->wpAny (model P w) A (pyIter (.ref it)) Q E s):
  Turn P w K tg (Its z) [it] it (fun i h=>h.IsStrIter it T z t i) where
 mem:=by simp
 obj:=fun i h st b hb=>by
  have e:b = it:=by simpa using hb
  subst e
  obtain ⟨o,e,c,d⟩:=st
  exact ⟨o,e,fun v z=>by rw [d] at z; cases z⟩
 keep:=fun i h h' st k=>by
  obtain ⟨o,e,c⟩:=st
  exact ⟨o,k it (by simp) o e,c⟩
 item:=by
  intro X hP hw hK hc i zp s σ H E I hf st hg
  subst hP hw hK
  obtain ⟨f0,f1,f2,f3,f4,f5⟩:=hf it (by simp)
  refine (W X.A (I.ok.hd hc)).item i s _ _ hg st fun v h' tk hP st' kk=>?_
  obtain ⟨c,u,hcu,rfl⟩:=hP
  have I1:Inv X zp σ H { s with heap:=h',toks:=tk }:=I.turned (fun b o hb e=>kk b o (by simpa using hb) e) f0 f1 f3 f4 f5
  obtain ⟨o,e,cc,d⟩:=id st'
  exact ⟨_,rfl,go_of (s:={ s with heap:=h',toks:=tk }) e cc d hT ⟨.str ⟨#[c]⟩,H,I1,⟨u,rfl⟩,⟨rfl,c,hcu,rfl⟩,st',fun b hb=>(hf b hb).1⟩⟩
 done:=by
  intro X hP hw hK hc i zp s σ H E I hf st hg
  subst hP hw hK
  obtain ⟨f0,f1,f2,f3,f4,f5⟩:=hf it (by simp)
  have hg:i = z.cps.size:=hg
  subst hg
  exact (W X.A (I.ok.hd hc)).done s _ _ st fun h' tk kk=>⟨rfl,I.turned (fun b o hb e=>kk b o (by simpa using hb) e) f0 f1 f3 f4 f5⟩
 self:=fun A i s Q E st h=>self A i s Q E st h
def iStr (te:TE):TI:=fun σ H R=>te σ H fun x H1=>∃ z,x = .str z/\R (Its z) H1
theorem pi_str {X:Cx}{tg e:Expr}{te:TE} (he:PE X e te):PI X tg e (iStr te):=by
 intro zp s σ H R I h
 refine thn (he zp s σ H _ I h) fun v s1 ⟨x,H1,I1,r1,q1⟩=>?_
 obtain ⟨z,rfl,q⟩:=q1
 obtain ⟨t,rfl⟩:=r1
 have fin:∀ (T:String),(∀ A:Around,A.handled = none->Walks X.prog X.w A s1.heap.objs.size [s1.heap.objs.size] [s1.heap.objs.size] z.cps.size (SignAt z) (fun i h=>h.IsStrIter s1.heap.objs.size T z t i))->
   ["enumerate","zip","dict_itemiterator","dict_reverseitemiterator","odict_iterator","itertools.zip_longest","itertools.pairwise"].contains T = false->
   (∀ (A:Around) (i:Nat) (s:Shared) (Q:Value->Shared->Prop) (E:Value->Shared->Prop),s.heap.IsStrIter s1.heap.objs.size T z t i->Q (.ref s1.heap.objs.size) s->wpAny (model X.prog X.w) A (pyIter (.ref s1.heap.objs.size)) Q E s)->
   PIE X zp σ tg R (.ref s1.heap.objs.size) { s1 with heap:=s1.heap.push { cls:=.type T,data:=.fields #[.str z t,.int 0 0] } }:=fun T W hT self=>by
  refine ⟨s1.heap.objs.size,[s1.heap.objs.size],_,_,H1,rfl,I1.kept (t':=s1.toks) fun b o e=>Heap.get?_push_of_some _ e,turn_str W hT self,⟨_,Heap.get?_push_size _ rfl,rfl,rfl⟩,fun b hb=>?_,q⟩
  have e:b = s1.heap.objs.size:=by simpa using hb
  subst e
  exact I1.fpOk (Nat.le_refl _) (I1.hok.fresh (Nat.le_refl _))
 cases ha:z.cps.all (· < 128)
 ·exact wpAny_pyIter_wide ha (fin "str_iterator" (fun A hA=>Walks.strWide hA _ z t) (by decide) fun A i s Q E st h=>wpAny_pyIter_striter_wide st h)
 ·exact wpAny_pyIter_ascii ha (fin "str_ascii_iterator" (fun A hA=>Walks.strAscii hA _ z t) (by decide) fun A i s Q E st h=>wpAny_pyIter_striter_ascii st h)
theorem op_le_str {X:Cx}:OpR X (compareOp .LtE) (fun x y H Q=>∃ i j:Str,x = .str i/\y = .str j/\Q (.bl (!decide (j.cps.toList < i.cps.toList))) H):=by
 intro zp s σ H x y v u Q I rx ry h
 obtain ⟨i,j,rfl,rfl,q⟩:=h
 obtain ⟨t,rfl⟩:=rx
 obtain ⟨t',rfl⟩:=ry
 exact PySem.P.le_str ⟨.bl _,H,I,rfl,q⟩
theorem pe_globI {X:Cx}{x:Str}{i:Int}{pos:Pos} (hg:Gl X x) (hm:∃ t,X.mg x = some (.int i t)) (hd:(x == ("__debug__":Str)) = false:=by decide):PE X (.Name x pos) (tC (.int i)):=by
 obtain ⟨t,hm⟩:=hm
 exact pe_glob hg hm ⟨t,rfl⟩ hd
theorem ip_of {X:Cx}{op:Operator}{r:R2} (h:OpR X (inplaceOp op) r):PIp X op r:=fun zp s σ H x y v u Q I rx ry q=>h zp s σ H x y v u Q I rx ry q
theorem pe_ty {X:Cx}{x:Str}{T:String}{pos:Pos} (hg:Gl X x) (hm:X.mg x = none) (hv:bootBuiltins x = some (.type T)) (hn:x≠"__name__":=by decide) (hd:(x == ("__debug__":Str)) = false:=by decide):PE X (.Name x pos) (tC (.ty T)):=pe_bltn hg hm hv rfl hn hd
theorem Same.new {H:Hp}{p:Addr}{o:HO} (h:H p = none):Same H (upd H p o):=fun b u q=>by rw [upd_ne (ne_of_none q h)]; exact q
theorem Same.seqT {K:PySem.W.Frag}{H H':Hp}{a:Addr}{xs:List V} (e:Same H H') (h:SqT K H a xs):SqT K H' a xs:=by
 rcases h with (h | ⟨o,h⟩) | h
 ·exact .inl (.inl (e _ _ h))
 ·exact .inl (.inr ⟨o,e _ _ h⟩)
 ·exact .inr h
theorem take_snoc {α:Type}{xs:List α}{i:Nat}{x:α} (h:xs[i]? = some x):xs.take (i + 1) = xs.take i ++ [x]:=by
 rw [List.take_add_one,h]; rfl
theorem rd_mapS {fr:List Nat}{j:Nat}{te:TE}{σ:St}{H:Hp}{Q:VK}{z:Str} (outs:List V) (hσ:σ[j]? = some (some (.str z))) (hl:outs.length = z.cps.size) (hz:z.cps.size<=sizeLine)
  (step:∀ (i c:Nat) (y:V) (H1:Hp) (R:VK),z.cps[i]? = some c->outs[i]? = some y->Same H H1->(∀ H2,Same H1 H2->R y H2)->te (some (.str ⟨#[c]⟩) :: frees fr σ) H1 R)
  (fin:∀ (H1:Hp) (D:Addr),Same H H1->H1 D = none->Q (.ref D) (upd H1 D (.lst outs))):tLComp fr (iStr (tVar j)) (fun _ H Q=>Q true H) te σ H Q:=by
 refine ⟨_,hσ,z,rfl,fun i m us H1=>i<=z.cps.size/\m = z.cps.size - i/\us = outs.take i/\Same H H1,⟨_,Nat.zero_le _,rfl,by simp,Same.refl _⟩,fun i m us H1 hW=>?_⟩
 obtain ⟨hi,hm,hu,sm⟩:=hW
 refine ⟨by rw [hu,List.length_take]; omega,?_⟩
 by_cases hlt:i < z.cps.size
 ·refine .inr ⟨hlt,fun v H' hy=>?_⟩
  obtain ⟨rfl,c,hc,rfl⟩:=hy
  have hy:outs[i]? = some outs[i]:=List.getElem?_eq_getElem (by omega)
  refine iteT ?_
  refine step i c outs[i] H' _ hc hy sm fun H2 s2=>⟨z.cps.size - (i + 1),by omega,by omega,rfl,?_,sm.trans s2⟩
  rw [hu,take_snoc hy]
 ·have e:i = z.cps.size:=by omega
  refine .inl ⟨e,fun D hD=>?_⟩
  have e2:us = outs:=by rw [hu,List.take_of_length_le (by omega)]
  rw [e2]
  exact fin H1 D sm hD
theorem rd_mapT {K:PySem.W.Frag}{fr:List Nat}{j:Nat}{te:TE}{σ:St}{H:Hp}{Q:VK}{a:Addr}{vs:List V} (outs:List V) (hσ:σ[j]? = some (some (.ref a))) (hS:SqT K H a vs) (hl:outs.length = vs.length) (hz:vs.length<=sizeLine)
  (step:∀ (i:Nat) (v y:V) (H1:Hp) (R:VK),vs[i]? = some v->outs[i]? = some y->Same H H1->(∀ H2,Same H1 H2->R y H2)->te (some v :: frees fr σ) H1 R)
  (fin:∀ (H1:Hp) (D:Addr),Same H H1->H1 D = none->Q (.ref D) (upd H1 D (.lst outs))):tLComp fr (iTup K (tVar j)) (fun _ H Q=>Q true H) te σ H Q:=by
 refine ⟨_,hσ,a,rfl,⟨vs,hS⟩,fun i m us H1=>i<=vs.length/\m = vs.length - i/\us = outs.take i/\Same H H1,⟨_,Nat.zero_le _,rfl,by simp,Same.refl _⟩,fun i m us H1 hW=>?_⟩
 obtain ⟨hi,hm,hu,sm⟩:=hW
 refine ⟨by rw [hu,List.length_take]; omega,?_⟩
 by_cases hlt:i < vs.length
 ·refine .inr ⟨⟨vs,vs[i],sm.seqT hS,List.getElem?_eq_getElem hlt⟩,fun v H' hy=>?_⟩
  obtain ⟨rfl,hv⟩:=hy
  have hv:=hv vs (sm.seqT hS)
  have hy:outs[i]? = some outs[i]:=List.getElem?_eq_getElem (by omega)
  refine iteT ?_
  refine step i v outs[i] H' _ hv hy sm fun H2 s2=>⟨vs.length - (i + 1),by omega,by omega,rfl,?_,sm.trans s2⟩
  rw [hu,take_snoc hy]
 ·have e:i = vs.length:=by omega
  refine .inl ⟨⟨vs,sm.seqT hS,by omega⟩,fun D hD=>?_⟩
  have e2:us = outs:=by rw [hu,List.take_of_length_le (by omega)]
  rw [e2]
  exact fin H1 D sm hD
theorem isi_tt:isi "tuple" "tuple" = some true:=by decide +kernel
theorem isi_it:isi "int" "tuple" = some false:=by decide +kernel
theorem isi_st:isi "str" "tuple" = some false:=by decide +kernel
theorem isi_bt:isi "bool" "tuple" = some false:=by decide +kernel
theorem isi_nt:isi "NoneType" "tuple" = some false:=by decide +kernel
theorem isi_lt:isi "list" "tuple" = some false:=by decide +kernel
theorem isi_dt:isi "dict" "tuple" = some false:=by decide +kernel
theorem isi_ts:isi "tuple" "str" = some false:=by decide +kernel
theorem isi_is:isi "int" "str" = some false:=by decide +kernel
theorem isi_ss:isi "str" "str" = some true:=by decide +kernel
theorem isi_bs:isi "bool" "str" = some false:=by decide +kernel
theorem isi_ns:isi "NoneType" "str" = some false:=by decide +kernel
theorem isi_ls:isi "list" "str" = some false:=by decide +kernel
theorem isi_ds:isi "dict" "str" = some false:=by decide +kernel
theorem isi_ti:isi "tuple" "int" = some false:=by decide +kernel
theorem isi_ii:isi "int" "int" = some true:=by decide +kernel
theorem isi_si:isi "str" "int" = some false:=by decide +kernel
theorem isi_bi:isi "bool" "int" = some true:=by decide +kernel
theorem isi_ni:isi "NoneType" "int" = some false:=by decide +kernel
theorem isi_li:isi "list" "int" = some false:=by decide +kernel
theorem isi_di:isi "dict" "int" = some false:=by decide +kernel
theorem isi_ib:isi "int" "bool" = some false:=by decide +kernel
theorem isi_bb:isi "bool" "bool" = some true:=by decide +kernel
theorem boot_tupleT:bootBuiltins (Str.ofString "tuple") = some (.type "tuple"):=by kernel_rfl
theorem boot_strT:bootBuiltins (Str.ofString "str") = some (.type "str"):=by kernel_rfl
theorem boot_intT:bootBuiltins (Str.ofString "int") = some (.type "int"):=by kernel_rfl
theorem boot_boolT:bootBuiltins (Str.ofString "bool") = some (.type "bool"):=by kernel_rfl
theorem boot_isi:bootBuiltins (Str.ofString "isinstance") = some (.builtin "isinstance"):=by kernel_rfl
theorem boot_ordB:bootBuiltins (Str.ofString "ord") = some (.builtin "ord"):=by kernel_rfl
theorem boot_absB:bootBuiltins (Str.ofString "abs") = some (.builtin "abs"):=by kernel_rfl
theorem boot_allB:bootBuiltins (Str.ofString "all") = some (.builtin "all"):=by kernel_rfl
end L2
namespace D
open PySem L2
def top (i:Nat):Stmt:=PySem.Challenge.pw_leastforge_k57_papers_written_and_read.main.body.getD i (.Pass ⟨0,0,0,0⟩)
abbrev s_is_number:Stmt:=top 6
abbrev s_is_sign:Stmt:=top 7
abbrev s_fits_alone:Stmt:=top 8
abbrev sSizeA:Stmt:=top 9
abbrev s_is_worth:Stmt:=top 10
abbrev s_fits_word:Stmt:=top 14
abbrev s_is_outcome:Stmt:=top 15
abbrev s_is_variable:Stmt:=top 29
abbrev s_has_parts:Stmt:=top 30
abbrev s_binding_count:Stmt:=top 31
abbrev s_variables_of:Stmt:=top 32
abbrev s_parts_of:Stmt:=top 33
abbrev s_are_good_variables:Stmt:=top 34
abbrev s_has_form:Stmt:=top 35
abbrev s_is_formed:Stmt:=top 36
abbrev s_unbound:Stmt:=top 37
abbrev s_free_in:Stmt:=top 38
abbrev s_repeated:Stmt:=top 39
abbrev s_is_rule:Stmt:=top 40
abbrev s_word_end:Stmt:=top 45
abbrev s_text_end:Stmt:=top 46
abbrev s_pieces_of:Stmt:=top 47
abbrev s_trees_of:Stmt:=top 48
abbrev s_only_tree:Stmt:=top 49
abbrev s_show_worth:Stmt:=top 53
abbrev s_writes_number:Stmt:=top 54
abbrev s_number_of:Stmt:=top 55
abbrev s_worth_of_tree:Stmt:=top 56
abbrev s_text_of_tree:Stmt:=top 57
abbrev s_show_rule:Stmt:=top 59
abbrev s_variable_of_tree:Stmt:=top 60
abbrev s_lit_of_trees:Stmt:=top 61
abbrev s_bracketed_formtexts:Stmt:=top 62
abbrev s_expression_of_tree:Stmt:=top 64
abbrev s_rule_of_tree:Stmt:=top 65
abbrev s_bracketed_papertexts:Stmt:=top 67
abbrev s_show_outcome:Stmt:=top 69
abbrev s_show_record:Stmt:=top 70
abbrev s_show_look:Stmt:=top 71
abbrev s_show_paper:Stmt:=top 72
abbrev s_inner_trees:Stmt:=top 73
abbrev s_word_of_tree:Stmt:=top 74
abbrev s_trees_behind:Stmt:=top 75
abbrev s_outcome_of_tree:Stmt:=top 76
abbrev s_record_of_tree:Stmt:=top 77
abbrev s_look_of_tree:Stmt:=top 78
abbrev s_paper_of_tree:Stmt:=top 79
abbrev s_read_paper:Stmt:=top 80
abbrev sCell:Stmt:=top 82
abbrev sBox:Stmt:=top 83
abbrev sTake:Stmt:=top 84
abbrev sText:Stmt:=top 85
abbrev sNumber:Stmt:=top 86
abbrev sWorth:Stmt:=top 87
abbrev s_lvariable:Stmt:=top 88
abbrev s_llit:Stmt:=top 89
abbrev s_lword:Stmt:=top 91
abbrev s_lparts_by:Stmt:=top 92
abbrev s_lany:Stmt:=top 93
abbrev s_lalike:Stmt:=top 94
abbrev s_loutcome:Stmt:=top 95
abbrev s_lrecord:Stmt:=top 96
abbrev s_lpaper:Stmt:=top 97
abbrev s_loutcome_shown:Stmt:=top 98
abbrev s_lrecord_shown:Stmt:=top 99
abbrev s_lshown:Stmt:=top 100
abbrev s_lloose:Stmt:=top 101
abbrev sLaw:Stmt:=top 102
end D
namespace L2
open PySem PySem.Spec PyProof.Rows
theorem seqI {t u:TS}{D:Ends}{σ:St}{H:Hp} (Pv:St->Hp->Prop) (h2:∀ σ' H',Pv σ' H'->u D σ' H') (h1:(∀ σ' H',Pv σ' H'->u D σ' H')->t { D with nx:=u D } σ H):tSeq t u D σ H:=h1 h2
theorem pos (n:Nat):(0:Int) < (((n + 1:Nat):Int)):=by omega
end L2
namespace D
open PySem L2
def IsBox (H:Hp) (b:Addr):Prop:=∃ a f m:Int,H b = some (.lst [.int a,.int f,.int m])
structure Step (b:Addr) (H H':Hp):Prop where
 box:IsBox H' b
 keep:∀ c o,c≠b->H c = some o->H' c = some o
theorem Step.refl {b:Addr}{H:Hp} (h:IsBox H b):Step b H H:=⟨h,fun _ _ _ e=>e⟩
theorem Step.trans {b:Addr}{H H1 H2:Hp} (x:Step b H H1) (y:Step b H1 H2):Step b H H2:=⟨y.box,fun c o hc e=>y.keep c o hc (x.keep c o hc e)⟩
theorem Step.new {b p:Addr}{H:Hp}{o:HO} (h:IsBox H b) (hp:H p = none):Step b H (upd H p o):=by
 obtain ⟨a,f,m,e⟩:=h
 exact ⟨⟨a,f,m,by rw [upd_ne (ne_of_none e hp)]; exact e⟩,fun c u _ e=>by rw [upd_ne (ne_of_none e hp)]; exact e⟩
theorem Step.put {b:Addr}{H:Hp} (a f m:Int):Step b H (upd H b (.lst [.int a,.int f,.int m])):=⟨⟨a,f,m,upd_same⟩,fun c o hc e=>by rw [upd_ne hc]; exact e⟩
theorem Step.keepN {b:Addr}{H H':Hp} (x:Step b H H') {c:Addr}{o:HO} (hb:IsBox H b) (e:H c = some o) (ho:∀ a f m:Int,o≠.lst [.int a,.int f,.int m]):H' c = some o:=by
 obtain ⟨a,f,m,e'⟩:=hb
 exact x.keep c o (ne_of e e' (ho a f m)) e
def spCell (K:PySem.W.Frag):Sp:=fun vs H Q _=>∃ (a:Addr) (ns:List Int) (k:Int),vs = [.ref a,.int k]/\SqL K H a (ns.map V.int)/\0<=k/\∀ i:Int,Q (.int i) H
def spBox (K:PySem.W.Frag):Sp:=fun vs H Q _=>∃ (a:Addr) (ns:List Int) (k:Int),vs = [.ref a,.int k]/\SqL K H a (ns.map V.int)/\0<=k/\∀ (x f m:Int) (p:Addr),H p = none->Q (.ref p) (upd H p (.lst [.int x,.int f,.int m]))
def spTake:Sp:=fun vs H Q _=>∃ (b:Addr) (n:Int),vs = [.ref b,.int n]/\IsBox H b/\0 < n/\n < 10 ^ 61/\∀ (r:Int) (H':Hp),0<=r->r < n->Step b H H'->Q (.int r) H'
def Signs (x:Str):Prop:=∀ c∈x.cps.toList,32<=c/\c<=126/\c≠34/\c≠37
def spText:Sp:=fun vs H Q _=>∃ (b:Addr) (n:Int),vs = [.ref b,.int n]/\IsBox H b/\0<=n/\n < 10000/\∀ (x:Str) (H':Hp),(x.length:Int)<=n->Signs x->Step b H H'->Q (.str x) H'
def spNumber:Sp:=fun vs H Q _=>∃ b:Addr,vs = [.ref b]/\IsBox H b/\∀ (i:Int) (H':Hp),-(10 ^ 60) < i->i < 10 ^ 60->Step b H H'->Q (.int i) H'
section
variable {P:Program}{w:World}{K:PySem.W.Frag}{mg:Str->Option Value}{base:Heap}{f:Addr}{fd:FuncData}{k n:Nat}
theorem scCell:FnScope ["_law_script","_law_k"] ["_law_script","_law_k"] (defScope sCell):=⟨rfl,rfl,rfl,by decide +kernel,rfl,by decide +kernel,by decide +kernel⟩
theorem ok_cell (F:Fun K "_law_cell" "_law_cell" sCell f fd) (m_len:mg "len" = none):FnOk P w K mg base CX0 (k + 1) f fd ["_law_script","_law_k"] (spCell K):=by
 refine F.ok scCell (fun vs H Q E h=>?_) (fun cdv A outer s H vs Q E hr h=>?_)
 ·obtain ⟨a,ns,k,rfl,_⟩:=h
  rfl
 obtain ⟨a,ns,j,rfl,hS,h0,q⟩:=h
 refine ⟨_,(pss_cons (ps_if (pt_cmpR op_lt (pv 1) (pe_callB call_len rfl m_len PySem.boot_len (pa_cons (pv 0) pa_nil)) (nomark _)) (pss_one (ps_ret (pe_ix ix_list (pv 0) (pv 1) (fun _ _=>rfl)))) pss_nil)
  (pss_one (ps_ret (pe_op op_add (pe_op op_mul pe_int (pv 1)) pe_int)))),?_⟩
 refine ⟨_,rfl,_,rfl,_,_,rfl,.inl ⟨_,hS,rfl⟩,_,_,rfl,rfl,_,rfl,?_⟩
 refine ite2 (fun c=>?_) (fun c=>?_)
 ·have c':j < (((ns.map V.int).length:Nat):Int):=of_decide_eq_true c
  rw [List.length_map] at c'
  have hj:j.toNat < ns.length:=by omega
  have ej:j = ((j.toNat:Nat):Int):=by omega
  have at1:atI (ns.map V.int) ((j.toNat:Nat):Int) = some (.int ns[j.toNat]):=atI_nat (by rw [List.getElem?_map,List.getElem?_eq_getElem hj]; rfl)
  rw [← ej] at at1
  exact ⟨_,rfl,_,rfl,a,_,j,.int ns[j.toNat],rfl,rfl,hS,at1,q _⟩
 ·exact ⟨_,rfl,_,_,rfl,rfl,.inl ⟨by decide,by decide⟩,_,_,rfl,rfl,q _⟩
theorem scBox:FnScope ["_law_script","_law_k","_law_cell_here","_law_number_here","_law_mixed"] ["_law_script","_law_k"] (defScope sBox):=⟨rfl,rfl,rfl,by decide +kernel,rfl,by decide +kernel,by decide +kernel⟩
theorem ok_box (F:Fun K "_law_box" "_law_box" sBox f fd) (G_lcell:Have P w K mg base "_law_cell" k ["_law_script","_law_k"] (spCell K)):FnOk P w K mg base CX0 (k + 1) f fd ["_law_script","_law_k"] (spBox K):=by
 refine F.ok scBox (fun vs H Q E h=>?_) (fun cdv A outer s H vs Q E hr h=>?_)
 ·obtain ⟨a,ns,k,rfl,_⟩:=h
  rfl
 obtain ⟨a,ns,j,rfl,hS,h0,q⟩:=h
 refine ⟨_,(pss_cons (ps_set (i:=2) scBox.nd rfl (Or.inl rfl) (pe_fn G_lcell hr rfl (pa_cons (pv 0) (pa_cons (pv 1) pa_nil))))
  (pss_cons (ps_set (i:=3) scBox.nd rfl (Or.inl rfl) (pe_op op_mod (pe_op op_mul (pe_op op_add (pe_op op_mod (pv 2) pe_int) pe_int) pe_int) pe_int))
  (pss_cons (ps_set (i:=4) scBox.nd rfl (Or.inl rfl) (pe_op op_mod (pe_op op_add (pe_op op_mul (pv 3) (pe_op op_add (pe_op op_mod (pv 3) pe_int) pe_int)) (pe_op op_mul pe_int (pv 1))) pe_int))
  (pss_cons (ps_if (pt_cmpR op_eq (pe_op op_mod (pe_fn G_lcell hr rfl (pa_cons (pv 0) (pa_cons pe_int pa_nil))) pe_int) pe_int (nomark _)) (pss_one (ps_ret (pe_lst (pa_cons (pv 2) (pa_cons pe_int (pa_cons (pv 4) pa_nil)))))) pss_nil)
  (pss_one (ps_ret (pe_lst (pa_cons (pv 4) (pa_cons pe_int (pa_cons pe_int pa_nil)))))))))),?_⟩
 refine ⟨_,rfl,_,rfl,a,ns,j,rfl,hS,h0,fun c=>?_⟩
 refine ⟨_,rfl,_,_,rfl,rfl,pos _,_,_,rfl,rfl,_,_,rfl,rfl,.inr ⟨by decide,by decide⟩,_,_,rfl,rfl,pos _,?_⟩
 have b1:0<=(c % 2147483629 + 11) * 69621 % 2147483629:=Int.emod_nonneg _ (by decide)
 have b2:(c % 2147483629 + 11) * 69621 % 2147483629 < 2147483629:=Int.emod_lt_of_pos _ (by decide)
 refine ⟨_,rfl,_,rfl,_,_,rfl,rfl,pos _,_,_,rfl,rfl,_,_,rfl,rfl,.inl ⟨by omega,by omega⟩,_,rfl,_,_,rfl,rfl,.inl ⟨by decide,by decide⟩,_,_,rfl,rfl,_,_,rfl,rfl,pos _,?_⟩
 refine ⟨_,rfl,a,ns,0,rfl,hS,Int.le_refl 0,fun c0=>?_⟩
 refine ⟨_,_,rfl,rfl,pos _,rfl,_,rfl,?_⟩
 refine ite2 (fun e=>?_) (fun e=>?_)
 ·exact ⟨_,rfl,_,rfl,zl3,fun p hp=>q _ _ _ p hp⟩
 ·exact ⟨_,rfl,zl3,fun p hp=>q _ _ _ p hp⟩
theorem scTake:FnScope ["_law_box_here","_law_wide","_law_found"] ["_law_box_here","_law_wide"] (defScope sTake):=⟨rfl,rfl,rfl,by decide +kernel,rfl,by decide +kernel,by decide +kernel⟩
theorem log_lt {n:Int} (h0:0 < n) (h:n < 10 ^ 61):n.natAbs.log2 < 9000:=by
 have h1:n.natAbs < 2 ^ 210:=by
  have:(10:Int) ^ 61<=2 ^ 210:=by decide
  omega
 have:=(Nat.log2_lt (by omega)).mpr h1
 omega
theorem ok_take (F:Fun K "_law_take" "_law_take" sTake f fd):FnOk P w K mg base CX0 (k + 1) f fd ["_law_box_here","_law_wide"] spTake:=by
 refine F.ok scTake (fun vs H Q E h=>?_) (fun cdv A outer s H vs Q E hr h=>?_)
 ·obtain ⟨b,n,rfl,_⟩:=h
  rfl
 obtain ⟨b,n,rfl,⟨a0,f0,m,hb⟩,hn,hn2,q⟩:=h
 refine ⟨_,(pss_cons (ps_if (pw_and (pt_cmpR op_eq (pe_ix ix_list (pv 0) pe_int (fun _ _=>rfl)) pe_int (nomark _)) (pw_and1 (pt_cmpR op_in_seq (pe_ix ix_list (pv 0) pe_int (fun _ _=>rfl)) (pe_tup (pa_cons pe_int (pa_cons (pe_un un_neg pe_int) pa_nil))) (by rfl)))).pt (pss_cons (ps_asg (pe_ix ix_list (pv 0) pe_int (fun _ _=>rfl)) (pg_sub (pv 0) pe_int set_list))
  (pss_one (ps_asg pe_int (pg_sub (pv 0) pe_int set_list)))) pss_nil)
  (pss_cons (ps_if (pt_cmpR op_eq (pe_ix ix_list (pv 0) pe_int (fun _ _=>rfl)) pe_int (nomark _)) (pss_cons (ps_set (i:=2) scTake.nd rfl (Or.inl rfl) (pe_op op_mod (pe_ix ix_list (pv 0) pe_int (fun _ _=>rfl)) (pv 1)))
  (pss_cons (ps_asg (pe_op op_fdivB (pe_ix ix_list (pv 0) pe_int (fun _ _=>rfl)) (pv 1)) (pg_sub (pv 0) pe_int set_list))
  (pss_one (ps_ret (pv 2))))) pss_nil)
  (pss_cons (ps_asg (pe_op op_mod (pe_op op_add (pe_op op_mul (pe_ix ix_list (pv 0) pe_int (fun _ _=>rfl)) pe_int) pe_int) pe_int) (pg_sub (pv 0) pe_int set_list))
  (pss_cons (ps_set (i:=2) scTake.nd rfl (Or.inl rfl) (pe_op op_mod (pe_op op_mul (pe_ix ix_list (pv 0) pe_int (fun _ _=>rfl)) (pe_op op_add (pe_op op_mod (pe_ix ix_list (pv 0) pe_int (fun _ _=>rfl)) pe_int) pe_int)) pe_int))
  (pss_cons (ps_if (pt_cmpR op_gt (pv 1) (pe_op op_pow pe_int pe_int) (nomark _)) (pss_one (ps_set (i:=2) scTake.nd rfl (Or.inl rfl) (pe_op op_add (pe_op op_pow (pv 2) pe_int) (pv 2)))) pss_nil)
  (pss_one (ps_ret (pe_op op_mod (pv 2) (pv 1))))))))),?_⟩
 refine seqI (fun σ' H'=>σ' = [some (.ref b),some (.int n),none]/\Step b H H') (fun σ' H1 h1=>?_) (fun rest=>?_)
 ·obtain ⟨rfl,st1⟩:=h1
  obtain ⟨a,f,m,hb1⟩:=st1.box
  refine ⟨_,rfl,b,_,1,.int f,rfl,rfl,SqL.of hb1,rfl,rfl,_,rfl,?_⟩
  refine ite2 (fun e=>?_) (fun e=>?_)
  ·refine ⟨_,rfl,b,_,0,.int a,rfl,rfl,SqL.of hb1,rfl,_,rfl,_,_,rfl,rfl,hn,?_⟩
   refine ⟨_,rfl,b,_,0,.int a,rfl,rfl,SqL.of hb1,rfl,_,rfl,_,_,rfl,rfl,⟨hn,log_lt hn hn2⟩,_,rfl,b,_,0,0,rfl,rfl,hb1,rfl,?_⟩
   exact ⟨_,rfl,q _ _ (Int.emod_nonneg _ (by omega)) (Int.emod_lt_of_pos _ hn) (st1.trans (Step.put _ _ _))⟩
  ·refine ⟨_,rfl,b,_,0,.int a,rfl,rfl,SqL.of hb1,rfl,_,_,rfl,rfl,.inr ⟨by decide,by decide⟩,_,_,rfl,rfl,_,_,rfl,rfl,pos _,_,rfl,b,_,0,0,rfl,rfl,hb1,rfl,?_⟩
   refine ⟨_,rfl,b,_,0,_,rfl,rfl,SqL.of upd_same,rfl,_,rfl,b,_,0,_,rfl,rfl,SqL.of upd_same,rfl,_,_,rfl,rfl,pos _,_,_,rfl,rfl,_,_,rfl,rfl,.inr ⟨?_,?_⟩,_,_,rfl,rfl,pos _,?_⟩
   ·have:=Int.emod_nonneg ((a * 69621 + 104729) % 2147483587) (show (16807:Int)≠0 by decide)
    omega
   ·have:=Int.emod_lt_of_pos ((a * 69621 + 104729) % 2147483587) (show (0:Int) < 16807 by decide)
    omega
   dsimp only [gName]
   refine seqI (t:=tIfS _ _ _) (fun σ' H'=>∃ x:Int,σ' = [some (.ref b),some (.int n),some (.int x)]/\Step b H H') (fun σ' H1 h1=>?_) (fun rest=>?_)
   ·obtain ⟨x,rfl,st2⟩:=h1
    exact ⟨_,rfl,_,rfl,_,_,rfl,rfl,hn,q _ _ (Int.emod_nonneg _ (by omega)) (Int.emod_lt_of_pos _ hn) st2⟩
   ·refine ⟨_,rfl,_,_,rfl,rfl,⟨by decide,by decide,by decide⟩,_,_,rfl,rfl,_,rfl,?_⟩
    refine ite2 (fun e=>?_) (fun e=>?_)
    ·refine ⟨_,rfl,_,_,rfl,rfl,⟨by decide,by decide,?_⟩,_,rfl,_,_,rfl,rfl,rest _ _ ⟨_,rfl,st1.trans (Step.put _ _ _)⟩⟩
     have l1:=Int.emod_nonneg ((a * 69621 + 104729) % 2147483587 * ((a * 69621 + 104729) % 2147483587 % 16807 + 1)) (show (2147483579:Int)≠0 by decide)
     have l2:=Int.emod_lt_of_pos ((a * 69621 + 104729) % 2147483587 * ((a * 69621 + 104729) % 2147483587 % 16807 + 1)) (show (0:Int) < 2147483579 by decide)
     omega
    ·exact rest _ _ ⟨_,rfl,st1.trans (Step.put _ _ _)⟩
 ·refine ⟨_,rfl,b,_,1,.int f0,rfl,rfl,SqL.of hb,rfl,rfl,_,rfl,?_⟩
  refine ite2 (fun e=>?_) (fun e=>?_)
  ·refine ⟨_,rfl,b,_,0,.int a0,rfl,rfl,SqL.of hb,rfl,_,rfl,zl2,fun t ht=>?_⟩
   have hb2:upd H t (.tup [.int 0,.int (-1)]) b = some (.lst [.int a0,.int f0,.int m]):=by rw [upd_ne (ne_of_none hb ht)]; exact hb
   refine ⟨t,_,rfl,.inr (SqT.of upd_same),rfl,rfl,_,rfl,?_⟩
   refine ite2 (fun e=>?_) (fun e=>?_)
   ·refine ⟨_,rfl,b,_,2,.int m,rfl,rfl,SqL.of hb2,rfl,_,rfl,b,_,0,0,rfl,rfl,hb2,rfl,?_⟩
    refine ⟨_,rfl,b,_,1,1,rfl,rfl,upd_same,rfl,?_⟩
    exact rest _ _ ⟨rfl,((Step.new ⟨_,_,_,hb⟩ ht).trans (Step.put _ _ _)).trans (Step.put _ _ _)⟩
   ·exact rest _ _ ⟨rfl,Step.new ⟨_,_,_,hb⟩ ht⟩
  ·refine iteF ?_
   exact rest _ _ ⟨rfl,Step.refl ⟨_,_,_,hb⟩⟩
inductive W where
 | num (i:Int)
 | txt (x:Str)
 | lst (ws:List W)
mutual
def W.size:W->Int
 | .num _=>1
 | .txt x=>1 + (x.length:Int)
 | .lst ws=>1 + sizes ws
def sizes:List W->Int
 | []=>0
 | w :: r=>w.size + sizes r
end
mutual
def W.depth:W->Nat
 | .num _=>0
 | .txt _=>0
 | .lst ws=>1 + depths ws
def depths:List W->Nat
 | []=>0
 | w :: r=>max w.depth (depths r)
end
mutual
def W.Ok:W->Prop
 | .num i=>-(10 ^ 60) < i/\i < 10 ^ 60
 | .txt x=>x.length<=400/\Signs x
 | .lst ws=>ws.length<=60/\Oks ws
def Oks:List W->Prop
 | []=>True
 | w :: r=>w.Ok/\Oks r
end
theorem sizes_snoc (ws:List W) (w:W):sizes (ws ++ [w]) = sizes ws + w.size:=by
 induction ws with
 | nil=>simp [sizes]
 | cons x r ih=>simp only [List.cons_append,sizes,ih]; omega
theorem depths_snoc (ws:List W) (w:W):depths (ws ++ [w]) = max (depths ws) w.depth:=by
 induction ws with
 | nil=>simp [depths]
 | cons x r ih=>simp only [List.cons_append,depths,ih]; omega
theorem Oks_snoc (ws:List W) (w:W):Oks (ws ++ [w]) ↔ Oks ws/\w.Ok:=by
 induction ws with
 | nil=>simp [Oks]
 | cons x r ih=>simp only [List.cons_append,Oks,ih,and_assoc]
theorem Oks_mem {ws:List W} (h:Oks ws):∀ w∈ws,w.Ok:=by
 induction ws with
 | nil=>intro w hw; cases hw
 | cons x r ih=>
  intro w hw
  rcases List.mem_cons.mp hw with rfl | hw
  ·exact h.1
  ·exact ih h.2 w hw
theorem depths_mem {ws:List W}:∀ w∈ws,w.depth<=depths ws:=by
 induction ws with
 | nil=>intro w hw; cases hw
 | cons x r ih=>
  intro w hw
  simp only [depths]
  rcases List.mem_cons.mp hw with rfl | hw
  ·omega
  ·have:=ih w hw
   omega
inductive RW (H:Hp):V->W->Prop where
 | num (i:Int):RW H (.int i) (.num i)
 | txt (x:Str):RW H (.str x) (.txt x)
 | lst {a:Addr}{vs:List V}{ws:List W}:H a = some (.tup vs)->vs.length = ws.length->(∀ (i:Nat) (v:V) (w:W),vs[i]? = some v->ws[i]? = some w->RW H v w)->RW H (.ref a) (.lst ws)
structure RWs (H:Hp) (vs:List V) (ws:List W):Prop where
 len:vs.length = ws.length
 at':∀ (i:Nat) (v:V) (w:W),vs[i]? = some v->ws[i]? = some w->RW H v w
def Tups (H H':Hp):Prop:=∀ a vs,H a = some (.tup vs)->H' a = some (.tup vs)
theorem RW.mono {H H':Hp} (t:Tups H H') {v:V}{w:W} (h:RW H v w):RW H' v w:=by
 induction h with
 | num i=>exact .num i
 | txt x=>exact .txt x
 | lst e l _ ih=>exact .lst (t _ _ e) l ih
theorem RWs.mono {H H':Hp} (t:Tups H H') {vs:List V}{ws:List W} (h:RWs H vs ws):RWs H' vs ws:=⟨h.len,fun i v w a b=>(h.at' i v w a b).mono t⟩
theorem RWs.snoc {H:Hp}{vs:List V}{ws:List W}{v:V}{w:W} (h:RWs H vs ws) (x:RW H v w):RWs H (vs ++ [v]) (ws ++ [w]):=by
 refine ⟨by rw [List.length_append,List.length_append,h.len]; rfl,fun i v' w' a b=>?_⟩
 by_cases hi:i < vs.length
 ·rw [List.getElem?_append_left hi] at a
  rw [List.getElem?_append_left (h.len ▸ hi)] at b
  exact h.at' i v' w' a b
 ·rw [List.getElem?_append_right (by omega)] at a
  rw [List.getElem?_append_right (by have:=h.len; omega)] at b
  have hi0:i - vs.length = 0:=by
   have:=(List.getElem?_eq_some_iff.mp a).1
   simp at this
   omega
  have hi1:i - ws.length = 0:=by have:=h.len; omega
  rw [hi0] at a
  rw [hi1] at b
  have e1:v = v':=by simpa using a
  have e2:w = w':=by simpa using b
  rw [← e1,← e2]
  exact x
theorem Step.tups {b:Addr}{H H':Hp} (x:Step b H H') (hb:IsBox H b):Tups H H':=fun a vs e=>x.keepN hb e (fun _ _ _ z=>nomatch z)
theorem tups_new {H:Hp}{p:Addr}{o:HO} (h:H p = none):Tups H (upd H p o):=fun a vs e=>by rw [upd_ne (ne_of_none e h)]; exact e
theorem tups_put {H:Hp}{p:Addr}{xs:List V}{o:HO} (h:H p = some (.lst xs)):Tups H (upd H p o):=fun a vs e=>by rw [upd_ne (ne_of e h (fun z=>nomatch z))]; exact e
def signsA:Str:=Str.ofString " !#$&'()*+,-./0123456789:;<=>?@ABCDEFGHIJKLMNOPQRSTUVWXYZ"
def signsB:Str:=Str.ofString "[\\]^_`abcdefghijklmnopqrstuvwxyz{|}~"
theorem signs_len:(signsA ++ signsB).length = 93:=by decide +kernel
theorem signs_all:∀ c∈(signsA ++ signsB).cps.toList,32<=c/\c<=126/\c≠34/\c≠37:=by decide +kernel
theorem str_len (x:Str):x.cps.toList.length = x.length:=by simp [Str.length]
theorem str_app (x y:Str):(x ++ y).cps.toList = x.cps.toList ++ y.cps.toList:=by
 show (x.cps ++ y.cps).toList = _
 simp
theorem str_app_len (x y:Str):(x ++ y).length = x.length + y.length:=by
 rw [← str_len,str_app,List.length_append,str_len,str_len]
mutual
theorem size_pos:∀ w:W,1<=w.size
 | .num _=>by simp [W.size]
 | .txt x=>by simp only [W.size]; omega
 | .lst ws=>by have:=sizes_nn ws; simp only [W.size]; omega
theorem sizes_nn:∀ ws:List W,0<=sizes ws
 | []=>by simp [sizes]
 | w :: r=>by have h1:=size_pos w; have h2:=sizes_nn r; simp only [sizes]; omega
end
theorem scText:FnScope ["_law_box_here","_law_most","_law_signs","_law_found","_law_k"] ["_law_box_here","_law_most"] (defScope sText):=⟨rfl,rfl,rfl,by decide +kernel,rfl,by decide +kernel,by decide +kernel⟩
theorem small {n:Nat} (h:n<=1000000):n<=sizeLine:=Nat.le_trans h (by decide)
theorem ok_text (F:Fun K "_law_text" "_law_text" sText f fd) (G_ltake:Have P w K mg base "_law_take" k ["_law_box_here","_law_wide"] spTake) (m_len:mg "len" = none) (m_range:mg "range" = none):
  FnOk P w K mg base CX0 (k + 1) f fd ["_law_box_here","_law_most"] spText:=by
 refine F.ok scText (fun vs H Q E h=>?_) (fun cdv A outer s H vs Q E hr h=>?_)
 ·obtain ⟨b,n,rfl,_⟩:=h
  rfl
 obtain ⟨b,n,rfl,hb,hn,hn2,q⟩:=h
 refine ⟨_,(pss_cons (ps_set (i:=2) scText.nd rfl (Or.inl rfl) pe_str)
  (pss_cons (ps_set (i:=2) scText.nd rfl (Or.inl rfl) (pe_op op_add_str (pv 2) pe_str))
  (pss_cons (ps_set (i:=3) scText.nd rfl (Or.inl rfl) pe_str)
  (pss_cons (ps_for PassesOwn.never rfl (pi_range1 rfl m_range (pa_cons (pe_fn G_ltake hr rfl (pa_cons (pv 0) (pa_cons (pe_op op_add (pv 1) pe_int) pa_nil))) pa_nil)) (pg_name (i:=4) scText.nd rfl (Or.inl rfl)) (pss_one (ps_set (i:=3) scText.nd rfl (Or.inl rfl) (pe_op op_add_str (pv 3) (pe_ix ix_str (pv 2) (pe_fn G_ltake hr rfl (pa_cons (pv 0) (pa_cons (pe_callB call_len rfl m_len PySem.boot_len (pa_cons (pv 2) pa_nil)) pa_nil))) (fun _ _=>rfl))))))
  (pss_one (ps_ret (pv 3))))))),?_⟩
 refine ⟨_,rfl,signsA,signsB,rfl,rfl,small (by decide +kernel),?_⟩
 refine ⟨_,rfl,_,rfl,_,_,rfl,rfl,b,n + 1,rfl,hb,by omega,by omega,fun r H1 h0 h1 st=>?_⟩
 refine ⟨r,rfl,by omega,by omega,for_range (n:=r.toNat) (fun i σ' H'=>∃ (x:Str) (o:Option V),σ' = [some (.ref b),some (.int n),some (.str (signsA ++ signsB)),some (.str x),o]/\x.length = i/\Signs x/\Step b H H')
  ⟨Str.ofString "",none,rfl,rfl,?_,st⟩ (fun i σ' H' hi h=>?_) (fun σ' H' h=>?_)⟩
 ·intro c hc
  have e0:(Str.ofString "").cps.toList = []:=by decide +kernel
  rw [e0] at hc
  cases hc
 ·obtain ⟨x,o,rfl,hx,sx,st1⟩:=h
  refine ⟨_,rfl,_,rfl,_,rfl,_,rfl,_,_,rfl,⟨small (by rw [signs_len]; decide),rfl⟩,b,_,rfl,st1.box,by rw [signs_len]; decide,by rw [signs_len]; decide,fun r2 H2 r0 r1 st2=>?_⟩
  rw [signs_len] at r1
  have hr2:r2.toNat < (signsA ++ signsB).cps.toList.length:=by rw [str_len,signs_len]; omega
  have er2:r2 = ((r2.toNat:Nat):Int):=by omega
  have a1:atI (signsA ++ signsB).cps.toList ((r2.toNat:Nat):Int) = some (signsA ++ signsB).cps.toList[r2.toNat]:=atI_nat (List.getElem?_eq_getElem hr2)
  rw [← er2] at a1
  refine ⟨_,r2,_,rfl,rfl,small (by rw [signs_len]; decide),a1,x,_,rfl,rfl,small ?_,?_⟩
  ·have:(Str.mk #[(signsA ++ signsB).cps.toList[r2.toNat]]).length = 1:=rfl
   rw [this]
   omega
  ·refine ⟨_,_,rfl,?_,?_,st1.trans st2⟩
   ·rw [str_app_len,hx]
    rfl
   ·intro c hc
    rw [str_app] at hc
    rcases List.mem_append.mp hc with hc | hc
    ·exact sx c hc
    ·have:c = (signsA ++ signsB).cps.toList[r2.toNat]:=by simpa using hc
     rw [this]
     exact signs_all _ (List.getElem_mem _)
 ·obtain ⟨x,o,rfl,hx,sx,st1⟩:=h
  exact ⟨_,rfl,q x H' (by omega) sx st1⟩
theorem scNumber:FnScope ["_law_box_here","_law_kind"] ["_law_box_here"] (defScope sNumber):=⟨rfl,rfl,rfl,by decide +kernel,rfl,by decide +kernel,by decide +kernel⟩
theorem ok_number (F:Fun K "_law_number" "_law_number" sNumber f fd) (G_ltake:Have P w K mg base "_law_take" k ["_law_box_here","_law_wide"] spTake):
  FnOk P w K mg base CX0 (k + 1) f fd ["_law_box_here"] spNumber:=by
 refine F.ok scNumber (fun vs H Q E h=>?_) (fun cdv A outer s H vs Q E hr h=>?_)
 ·obtain ⟨b,rfl,_⟩:=h
  rfl
 obtain ⟨b,rfl,hb,q⟩:=h
 refine ⟨_,(pss_cons (ps_set (i:=1) scNumber.nd rfl (Or.inl rfl) (pe_fn G_ltake hr rfl (pa_cons (pv 0) (pa_cons pe_int pa_nil))))
  (pss_cons (ps_if (pt_cmpR op_eq (pv 1) pe_int (nomark _)) (pss_one (ps_ret (pe_op op_add (pe_op op_sub (pe_fn G_ltake hr rfl (pa_cons (pv 0) (pa_cons (pe_op op_sub (pe_op op_mul pe_int (pe_op op_pow pe_int pe_int)) pe_int) pa_nil))) (pe_op op_pow pe_int pe_int)) pe_int))) pss_nil)
  (pss_cons (ps_if (pt_cmpR op_eq (pv 1) pe_int (nomark _)) (pss_one (ps_ret (pe_ix ix_list (pe_lst (pa_cons (pe_op op_sub (pe_op op_pow pe_int pe_int) pe_int) (pa_cons (pe_op op_sub pe_int (pe_op op_pow pe_int pe_int)) (pa_cons pe_int (pa_cons (pe_un un_neg pe_int) pa_nil))))) (pe_fn G_ltake hr rfl (pa_cons (pv 0) (pa_cons pe_int pa_nil))) (fun _ _=>rfl)))) pss_nil)
  (pss_one (ps_ret (pe_op op_sub (pe_fn G_ltake hr rfl (pa_cons (pv 0) (pa_cons pe_int pa_nil))) pe_int)))))),?_⟩
 refine ⟨_,rfl,b,4,rfl,hb,by decide,by decide,fun r H1 h0 h1 st=>?_⟩
 refine ⟨_,rfl,rfl,_,rfl,?_⟩
 refine ite2 (fun e=>?_) (fun e=>?_)
 ·refine ⟨_,rfl,_,_,rfl,rfl,⟨by decide,by decide,by decide⟩,_,_,rfl,rfl,.inl ⟨by decide,by decide⟩,_,_,rfl,rfl,b,_,rfl,st.box,by decide,by decide,fun r2 H2 r0 r1 st2=>?_⟩
  refine ⟨_,_,rfl,rfl,⟨by decide,by decide,by decide⟩,_,_,rfl,rfl,_,_,rfl,rfl,q _ _ ?_ ?_ (st.trans st2)⟩
  ·have:(10:Int) ^ (60:Int).toNat = 10 ^ 60:=rfl
   omega
  ·have:(10:Int) ^ (60:Int).toNat = 10 ^ 60:=rfl
   have r1:r2 < 2 * 10 ^ 60 - 1:=r1
   omega
 ·refine ⟨_,rfl,rfl,_,rfl,?_⟩
  refine ite2 (fun e=>?_) (fun e=>?_)
  ·refine ⟨_,_,rfl,rfl,⟨by decide,by decide,by decide⟩,_,_,rfl,rfl,_,_,rfl,rfl,⟨by decide,by decide,by decide⟩,_,_,rfl,rfl,_,rfl,zl4,fun p hp=>?_⟩
   have st1:=st.trans (Step.new (o:=.lst [.int (10 ^ 60 - 1),.int (1 - 10 ^ 60),.int 0,.int (-1)]) st.box hp)
   refine ⟨_,rfl,b,4,rfl,st1.box,by decide,by decide,fun r2 H2 r0 r1 st2=>?_⟩
   have hp2:H2 p = some (.lst [.int (10 ^ 60 - 1),.int (1 - 10 ^ 60),.int 0,.int (-1)]):=by
    obtain ⟨a',f',m',e'⟩:=st.box
    exact st2.keep p _ (ne_of_none e' hp).symm upd_same
   have hcases:r2 = 0\/r2 = 1\/r2 = 2\/r2 = 3:=by omega
   rcases hcases with rfl | rfl | rfl | rfl
   ·exact ⟨p,_,0,_,rfl,rfl,SqL.of hp2,rfl,q _ _ (by decide) (by decide) (st1.trans st2)⟩
   ·exact ⟨p,_,1,_,rfl,rfl,SqL.of hp2,rfl,q _ _ (by decide) (by decide) (st1.trans st2)⟩
   ·exact ⟨p,_,2,_,rfl,rfl,SqL.of hp2,rfl,q _ _ (by decide) (by decide) (st1.trans st2)⟩
   ·exact ⟨p,_,3,_,rfl,rfl,SqL.of hp2,rfl,q _ _ (by decide) (by decide) (st1.trans st2)⟩
  ·refine ⟨_,rfl,b,12,rfl,st.box,by decide,by decide,fun r2 H2 r0 r1 st2=>?_⟩
   exact ⟨_,_,rfl,rfl,q _ _ (by have:(3:Int) < 10 ^ 60:=(by decide); omega) (by have:(12:Int) < 10 ^ 60:=(by decide); omega) (st.trans st2)⟩
def spWorth (n:Nat):Sp:=fun vs H Q _=>∃ (b:Addr) (room deep:Int),vs = [.ref b,.int room,.int deep]/\IsBox H b/\1<=room/\room < 1000/\0<=deep/\deep < n /\
 ∀ (v:V) (x:W) (H':Hp),RW H' v x->x.Ok->(x.depth:Int)<=deep->x.size<=16 * room->Step b H H'->Q v H'
theorem scWorth:FnScope ["_law_box_here","_law_room","_law_deep","_law_kind","_law_wide","_law_left","_law_found","_law_k","_law_share"] ["_law_box_here","_law_room","_law_deep"] (defScope sWorth):=⟨rfl,rfl,rfl,by decide +kernel,rfl,by decide +kernel,by decide +kernel⟩
theorem ok_worth {n:Nat} (F:Fun K "_law_worth" "_law_worth" sWorth f fd) (G_ltake:Have P w K mg base "_law_take" k ["_law_box_here","_law_wide"] spTake) (G_ltext:Have P w K mg base "_law_text" k ["_law_box_here","_law_most"] spText)
  (G_lnumber:Have P w K mg base "_law_number" k ["_law_box_here"] spNumber) (G_lworth:Have P w K mg base "_law_worth" k ["_law_box_here","_law_room","_law_deep"] (spWorth n))
  (m_min:mg "min" = none) (m_range:mg "range" = none) (m_tuple:mg "tuple" = none):FnOk P w K mg base CX0 (k + 1) f fd ["_law_box_here","_law_room","_law_deep"] (spWorth (n + 1)):=by
 refine F.ok scWorth (fun vs H Q E h=>?_) (fun cdv A outer s H vs Q E hr h=>?_)
 ·obtain ⟨b,room,deep,rfl,_⟩:=h
  rfl
 obtain ⟨b,room,deep,rfl,hb,hr1,hr2,hd0,hd1,q⟩:=h
 refine ⟨_,(pss_cons (ps_set (i:=3) scWorth.nd rfl (Or.inl rfl) (pe_fn G_ltake hr rfl (pa_cons (pv 0) (pa_cons pe_int pa_nil))))
  (pss_cons (ps_if (pw_or (pt_cmpR op_eq (pv 3) pe_int (nomark _)) (pw_or1 (pw_and (pt_cmpR op_eq (pv 3) pe_int (nomark _)) (pw_and1 (pt_cmpR op_lt (pv 2) pe_int (nomark _)))).pt)).pt (pss_one (ps_ret (pe_fn G_lnumber hr rfl (pa_cons (pv 0) pa_nil)))) pss_nil)
  (pss_cons (ps_if (pt_cmpR op_eq (pv 3) pe_int (nomark _)) (pss_one (ps_ret (pe_fn G_ltext hr rfl (pa_cons (pv 0) (pa_cons pe_int pa_nil))))) pss_nil)
  (pss_cons (ps_set (i:=4) scWorth.nd rfl (Or.inl rfl) (pe_fn G_ltake hr rfl (pa_cons (pv 0) (pa_cons (pe_callB (call_min2 rfl) rfl m_min PyProof.Rows.boot_min (pa_cons (pv 1) (pa_cons pe_int pa_nil))) pa_nil))))
  (pss_cons (ps_set (i:=5) scWorth.nd rfl (Or.inl rfl) (pe_op op_sub (pv 1) pe_int))
  (pss_cons (ps_set (i:=6) scWorth.nd rfl (Or.inl rfl) (pe_lst pa_nil))
  (pss_cons (ps_for PassesOwn.never rfl (pi_range1 rfl m_range (pa_cons (pv 4) pa_nil)) (pg_name (i:=7) scWorth.nd rfl (Or.inl rfl)) (pss_cons (ps_set (i:=8) scWorth.nd rfl (Or.inl rfl) (pe_op op_add pe_int (pe_fn G_ltake hr rfl (pa_cons (pv 0) (pa_cons (pe_op op_sub (pv 5) (pe_op op_sub (pe_op op_sub (pv 4) pe_int) (pv 7))) pa_nil)))))
  (pss_cons (ps_expr (pe_bm PySem.F.plainAttrs_list PySem.F.slot_list_append PySem.F.type_list_append mt_append (pv 6) (pa_cons (pe_fn G_lworth hr rfl (pa_cons (pv 0) (pa_cons (pv 8) (pa_cons (pe_op op_sub (pv 2) pe_int) pa_nil)))) pa_nil)))
  (pss_one (ps_set (i:=5) scWorth.nd rfl (Or.inl rfl) (pe_op op_sub (pv 5) (pv 8)))))))
  (pss_one (ps_ret (pe_callTy call_tuple_of rfl m_tuple boot_tupleT (pa_cons (pv 6) pa_nil))))))))))),?_⟩
 refine ⟨_,rfl,b,3,rfl,hb,by decide,by decide,fun kd H1 k0 k1 st=>?_⟩
 dsimp only [gName]
 refine seqI (t:=tIfS _ _ _) (fun σ' H'=>σ' = [some (.ref b),some (.int room),some (.int deep),some (.int kd),none,none,none,none,none]/\Step b H H'/\(kd = 1\/(kd = 2/\1<=deep))) (fun σ' H2 h2=>?_) (fun rest=>?_)
 ·obtain ⟨rfl,st2,hk⟩:=h2
  refine ⟨_,rfl,rfl,_,rfl,?_⟩
  refine ite2 (fun e=>?_) (fun e=>?_)
  ·refine ⟨_,rfl,b,15,rfl,st2.box,by decide,by decide,fun x H3 hx sx st3=>?_⟩
   refine q _ _ _ (.txt x) ⟨by omega,sx⟩ (by show ((0:Nat):Int)<=deep; omega) ?_ (st2.trans st3)
   show 1 + (x.length:Int)<=16 * room
   omega
  ·have e':¬ V.int kd = V.int 1:=of_decide_eq_false (Bool.eq_false_iff.mpr e)
   have hk2:kd = 2/\1<=deep:=by
    rcases hk with hk | hk
    ·exact absurd (by rw [hk]) e'
    ·exact hk
   refine ⟨_,rfl,_,rfl,room,61,rfl,b,_,rfl,st2.box,?_,?_,fun wide H3 w0 w1 st3=>?_⟩
   ·split <;> omega
   ·split <;> omega
   have w2:wide < room/\wide < 61:=by
    revert w1
    split <;> intro w1 <;> omega
   refine ⟨_,rfl,_,_,rfl,rfl,zl0,fun l hl=>?_⟩
   have st4:=(st2.trans st3).trans (Step.new (o:=.lst []) st3.box hl)
   have lb:l≠b:=by
    obtain ⟨a',f',m',e'⟩:=st3.box
    exact (ne_of_none e' hl).symm
   have hlH:H l = none:=by
    cases e:H l with
    | none=>rfl
    | some o=>
     have:=(st2.trans st3).keep l o lb e
     rw [hl] at this
     cases this
   refine ⟨_,rfl,wide,rfl,by omega,by omega,for_range (n:=wide.toNat) (fun i σ' H'=>∃ (left:Int) (vs:List V) (ws:List W) (o1 o2:Option V),
     σ' = [some (.ref b),some (.int room),some (.int deep),some (.int kd),some (.int wide),some (.int left),some (.ref l),o1,o2]/\H' l = some (.lst vs)/\RWs H' vs ws/\ws.length = i/\Oks ws/\(depths ws:Int)<=deep - 1 /\
     sizes ws<=16 * (room - 1 - left)/\wide - i<=left/\Step b H H')
    ⟨room - 1,[],[],none,none,rfl,upd_same,⟨rfl,fun i v w e=>by simp at e⟩,rfl,trivial,by show ((0:Nat):Int)<=deep - 1; omega,by simp [sizes],by omega,st4⟩ (fun i σ' H' hi h=>?_) (fun σ' H' h=>?_)⟩
   ·obtain ⟨left,vs,ws,o1,o2,rfl,hl',hrw,hlen,hok,hdp,hsz,hleft,st5⟩:=h
    have nn:=sizes_nn ws
    refine ⟨_,rfl,_,rfl,_,rfl,_,_,rfl,rfl,_,rfl,_,_,rfl,rfl,_,_,rfl,rfl,b,_,rfl,st5.box,?_,?_,fun r H5 r0 r1 st6=>?_⟩
    ·omega
    ·have:(2000:Int) < 10 ^ 61:=by decide
     omega
    have hl5:H5 l = some (.lst vs):=st6.keep l _ lb hl'
    refine ⟨_,_,rfl,rfl,_,rfl,.inl ⟨rfl,_,SqL.of hl5⟩,_,rfl,_,rfl,_,rfl,_,_,rfl,rfl,b,_,_,rfl,st6.box,?_,?_,?_,?_,fun v x H6 rx okx dx sx st7=>?_⟩
    ·omega
    ·omega
    ·omega
    ·omega
    have hl6:H6 l = some (.lst vs):=st7.keep l _ lb hl5
    have hlv:vs.length<=61:=by have:=hrw.len; omega
    refine ⟨l,vs,v,rfl,rfl,hl6,Nat.lt_of_le_of_lt hlv (by decide),?_⟩
    refine ⟨_,rfl,_,rfl,_,_,rfl,rfl,?_⟩
    have t6:Tups H' H6:=fun a us e=>(st7.tups st6.box) a us ((st6.tups st5.box) a us e)
    have t7:=tups_put (o:=.lst (vs ++ [v])) hl6
    refine ⟨_,vs ++ [v],ws ++ [x],_,_,rfl,upd_same,((hrw.mono t6).mono t7).snoc (rx.mono t7),?_,(Oks_snoc _ _).mpr ⟨hok,okx⟩,?_,?_,?_,?_⟩
    ·rw [List.length_append,hlen]; rfl
    ·rw [depths_snoc]; omega
    ·rw [sizes_snoc]; omega
    ·omega
    ·refine ⟨?_,fun c o hc e=>?_⟩
     ·obtain ⟨a',f',m',e'⟩:=st7.box
      exact ⟨a',f',m',by rw [upd_ne lb.symm]; exact e'⟩
     ·rw [upd_ne (ne_of_none e hlH)]
      exact (st5.trans (st6.trans st7)).keep c o hc e
   ·obtain ⟨left,vs,ws,o1,o2,rfl,hl',hrw,hlen,hok,hdp,hsz,hleft,st5⟩:=h
    refine ⟨_,rfl,l,vs,rfl,.inl ⟨SqL.of hl',fun t ht=>?_⟩⟩
    have t6:=tups_new (o:=.tup vs) ht
    refine q _ (.lst ws) _ (.lst upd_same hrw.len fun i v x a b=>(hrw.at' i v x a b).mono t6) ⟨by omega,hok⟩ ?_ ?_ (st5.trans (Step.new st5.box ht))
    ·show ((1 + depths ws:Nat):Int)<=deep
     omega
    ·show 1 + sizes ws<=16 * room
     omega
 ·refine ⟨_,rfl,rfl,_,rfl,?_⟩
  have fin:∀ H2,Step b H H2->spNumber [.ref b] H2 Q E0:=fun H2 st2=>⟨b,rfl,st2.box,fun i H3 i0 i1 st3=>q _ (.num i) _ (.num i) ⟨i0,i1⟩ (by show ((0:Nat):Int)<=deep; omega) (by show (1:Int)<=16 * room; omega) (st2.trans st3)⟩
  refine ite2 (fun e=>?_) (fun e=>?_)
  ·refine iteT ?_
   exact ⟨_,rfl,fin H1 st⟩
  ·have e':¬ V.int kd = V.int 0:=of_decide_eq_false (Bool.eq_false_iff.mpr e)
   have kne:kd≠0:=fun z=>e' (by rw [z])
   refine ⟨_,rfl,rfl,_,rfl,?_⟩
   refine ite2 (fun e2=>?_) (fun e2=>?_)
   ·have e2':V.int kd = V.int 2:=of_decide_eq_true e2
    have kd2:kd = 2:=by injection e2'
    refine ⟨_,rfl,_,_,rfl,rfl,_,rfl,?_⟩
    refine ite2 (fun e3=>?_) (fun e3=>?_)
    ·exact ⟨_,rfl,fin H1 st⟩
    ·have e3':¬ deep < 1:=of_decide_eq_false (Bool.eq_false_iff.mpr e3)
     exact rest _ _ ⟨rfl,st,.inr ⟨kd2,by omega⟩⟩
   ·have e2':¬ V.int kd = V.int 2:=of_decide_eq_false (Bool.eq_false_iff.mpr e2)
    have kne2:kd≠2:=fun z=>e2' (by rw [z])
    refine iteF ?_
    exact rest _ _ ⟨rfl,st,.inl (by omega)⟩
inductive T where
 | non
 | bl (b:Bool)
 | num (i:Int)
 | txt (x:Str)
 | tup (ts:List T)
 | lst
 | dic
mutual
def T.size:T->Int
 | .txt x=>1 + (x.length:Int)
 | .tup ts=>1 + tsizes ts
 | _=>1
def tsizes:List T->Int
 | []=>0
 | t :: r=>t.size + tsizes r
end
mutual
def T.nodes:T->Nat
 | .tup ts=>1 + tnodes ts
 | _=>1
def tnodes:List T->Nat
 | []=>0
 | t :: r=>t.nodes + tnodes r
end
def signB (c:Nat):Bool:=decide (32<=c) && (decide (c<=126) && (decide (c≠34) && decide (c≠37)))
def okSigns (x:Str):Bool:=x.cps.toList.all signB
def aloneB (lv:Int):T->Bool
 | .num i=>decide (-(10 ^ 60) < i/\i < 10 ^ 60)
 | .txt x=>decide (x.length<=400) && okSigns x
 | .tup ts=>decide (ts.length<=60) && decide (0 < lv)
 | _=>false
mutual
def fitsB:T->Int->Bool
 | .tup ts,lv=>decide (ts.length<=60) && decide (0 < lv) && fitsA ts (lv - 1)
 | .num i,_=>decide (-(10 ^ 60) < i/\i < 10 ^ 60)
 | .txt x,_=>decide (x.length<=400) && okSigns x
 | .non,_=>false
 | .bl _,_=>false
 | .lst,_=>false
 | .dic,_=>false
def fitsA:List T->Int->Bool
 | [],_=>true
 | t :: r,lv=>fitsB t lv && fitsA r lv
end
def isWorthB (t:T):Bool:=fitsB t 12 && decide (t.size<=1000)
mutual
def T.Sm:T->Prop
 | .txt x=>x.length<=100000
 | .tup ts=>ts.length<=100000/\Sms ts
 | _=>True
def Sms:List T->Prop
 | []=>True
 | t :: r=>t.Sm/\Sms r
end
mutual
theorem tsize_pos:∀ t:T,1<=t.size
 | .non=>by simp [T.size]
 | .bl _=>by simp [T.size]
 | .num _=>by simp [T.size]
 | .lst=>by simp [T.size]
 | .dic=>by simp [T.size]
 | .txt x=>by simp only [T.size]; omega
 | .tup ts=>by have:=tsizes_nn ts; simp only [T.size]; omega
theorem tsizes_nn:∀ ts:List T,0<=tsizes ts
 | []=>by simp [tsizes]
 | t :: r=>by have h1:=tsize_pos t; have h2:=tsizes_nn r; simp only [tsizes]; omega
end
theorem Sms_mem {ts:List T} (h:Sms ts):∀ t∈ts,t.Sm:=by
 induction ts with
 | nil=>intro t ht; cases ht
 | cons x r ih=>
  intro t ht
  rcases List.mem_cons.mp ht with rfl | ht
  ·exact h.1
  ·exact ih h.2 t ht
inductive RT (H:Hp):V->T->Prop where
 | non:RT H .non .non
 | bl (b:Bool):RT H (.bl b) (.bl b)
 | num (i:Int):RT H (.int i) (.num i)
 | txt (x:Str):RT H (.str x) (.txt x)
 | tup {a:Addr}{vs:List V}{ts:List T}:H a = some (.tup vs)->vs.length = ts.length->(∀ (i:Nat) (v:V) (t:T),vs[i]? = some v->ts[i]? = some t->RT H v t)->RT H (.ref a) (.tup ts)
 | lst {a:Addr}{vs:List V}:H a = some (.lst vs)->RT H (.ref a) .lst
 | dic {a:Addr}{kvs:List (Key × V)}:H a = some (.dK kvs)->RT H (.ref a) .dic
theorem RT.mono {H H':Hp} (s:Same H H') {v:V}{t:T} (h:RT H v t):RT H' v t:=by
 induction h with
 | non=>exact .non
 | bl b=>exact .bl b
 | num i=>exact .num i
 | txt x=>exact .txt x
 | tup e l _ ih=>exact .tup (s _ _ e) l ih
 | lst e=>exact .lst (s _ _ e)
 | dic e=>exact .dic (s _ _ e)
def isNumB:T->Bool
 | .num _=>true
 | _=>false
def spIsNum:Sp:=fun vs H Q _=>∃ (v:V) (t:T),vs = [v]/\RT H v t/\Q (.bl (isNumB t)) H
def spIsSign:Sp:=fun vs H Q _=>∃ c:Nat,vs = [.str ⟨#[c]⟩]/\Q (.bl (signB c)) H
def spFits:Sp:=fun vs H Q _=>∃ (v:V) (t:T) (lv:Int),vs = [v,.int lv]/\RT H v t/\t.Sm/\∀ H',Same H H'->Q (.bl (aloneB lv t)) H'
def aloneSz:T->Int
 | .txt x=>1 + (x.length:Int)
 | _=>1
def spSizeT:Sp:=fun vs H Q _=>∃ (v:V) (t:T),vs = [v]/\RT H v t/\t.Sm/\Q (.int (aloneSz t)) H
def spIsWorth:Sp:=fun vs H Q _=>∃ (v:V) (t:T),vs = [v]/\RT H v t/\t.Sm/\∀ H',Same H H'->Q (.bl (isWorthB t)) H'
theorem lt_one (a b:Nat):decide (([a]:List Nat) < [b]) = decide (a < b):=by
 rw [Bool.eq_iff_iff,decide_eq_true_iff,decide_eq_true_iff]
 constructor
 ·intro h
  rcases List.cons_lt_cons_iff.mp h with h | ⟨_,h⟩
  ·exact h
  ·exact absurd h (List.not_lt_nil _)
 ·exact fun h=>List.cons_lt_cons_iff.mpr (.inl h)
theorem sc_isnum:FnScope ["thing"] ["thing"] (defScope s_is_number):=⟨rfl,rfl,rfl,by decide +kernel,rfl,by decide +kernel,by decide +kernel⟩
theorem ok_isnum (F:Fun K "is_number" "is_number" s_is_number f fd) (m_isi:mg "isinstance" = none) (m_int:mg "int" = none) (m_bool:mg "bool" = none):FnOk P w K mg base CX0 (k + 1) f fd ["thing"] spIsNum:=by
 refine F.ok sc_isnum (fun vs H Q E h=>?_) (fun cdv A outer s H vs Q E hr h=>?_)
 ·obtain ⟨v,t,rfl,_⟩:=h
  rfl
 obtain ⟨v,t,rfl,rt,q⟩:=h
 refine ⟨_,(pss_one (ps_ret (pe_and (pe_callB call_isi rfl m_isi boot_isi (pa_cons (pv 0) (pa_cons (pe_ty rfl m_int boot_intT) pa_nil))) (pe_one (pe_not (pe_callB call_isi rfl m_isi boot_isi (pa_cons (pv 0) (pa_cons (pe_ty rfl m_bool boot_boolT) pa_nil)))))))),?_⟩
 cases rt with
 | non=>exact ⟨_,rfl,_,_,_,_,rfl,.non,isi_ni,_,rfl,iteF q⟩
 | bl b=>exact ⟨_,rfl,_,_,_,_,rfl,.bl b,isi_bi,_,rfl,iteT ⟨_,rfl,_,_,_,_,rfl,.bl b,isi_bb,_,rfl,q⟩⟩
 | num i=>exact ⟨_,rfl,_,_,_,_,rfl,.int i,isi_ii,_,rfl,iteT ⟨_,rfl,_,_,_,_,rfl,.int i,isi_ib,_,rfl,q⟩⟩
 | txt x=>exact ⟨_,rfl,_,_,_,_,rfl,.str x,isi_si,_,rfl,iteF q⟩
 | tup e _ _=>exact ⟨_,rfl,_,_,_,_,rfl,.tup e,isi_ti,_,rfl,iteF q⟩
 | lst e=>exact ⟨_,rfl,_,_,_,_,rfl,.lst e,isi_li,_,rfl,iteF q⟩
 | dic e=>exact ⟨_,rfl,_,_,_,_,rfl,.dK e,isi_di,_,rfl,iteF q⟩
theorem sc_issign:FnScope ["sign"] ["sign"] (defScope s_is_sign):=⟨rfl,rfl,rfl,by decide +kernel,rfl,by decide +kernel,by decide +kernel⟩
theorem str_one_ne (c d:Nat):(!decide (V.str ⟨#[c]⟩ = V.str ⟨#[d]⟩)) = decide (c≠d):=by
 rw [Bool.eq_iff_iff]
 simp
theorem ok_issign (F:Fun K "is_sign" "is_sign" s_is_sign f fd) (m_ord:mg "ord" = none) (m_PERCENT:∃ t,mg "PERCENT" = some (.int 37 t)):FnOk P w K mg base CX0 (k + 1) f fd ["sign"] spIsSign:=by
 refine F.ok sc_issign (fun vs H Q E h=>?_) (fun cdv A outer s H vs Q E hr h=>?_)
 ·obtain ⟨c,rfl,_⟩:=h
  rfl
 obtain ⟨c,rfl,q⟩:=h
 refine ⟨_,(pss_one (ps_ret (pe_and (pe_chain op_le_str op_le_str pe_str (pv 0) pe_str) (pe_and (pe_cmpR op_ne (pv 0) pe_str (nomark _)) (pe_one (pe_cmpR op_ne (pe_callB (call_ord) rfl m_ord boot_ordB (pa_cons (pv 0) pa_nil)) (pe_globI rfl m_PERCENT) (nomark _))))))),?_⟩
 have e32:(Str.ofString " ").cps.toList = [32]:=by decide +kernel
 have e126:(Str.ofString "~").cps.toList = [126]:=by decide +kernel
 have e34:Str.ofString "\"" = ⟨#[34]⟩:=by decide +kernel
 have l1:(!decide ((Str.mk #[c]).cps.toList < (Str.ofString " ").cps.toList)) = decide (32<=c):=by rw [e32]; show (!decide (([c]:List Nat) < [32])) = _; rw [lt_one,Bool.eq_iff_iff]; simp
 have l2:(!decide ((Str.ofString "~").cps.toList < (Str.mk #[c]).cps.toList)) = decide (c<=126):=by rw [e126]; show (!decide (([126]:List Nat) < [c])) = _; rw [lt_one,Bool.eq_iff_iff]; simp
 have l3:(!decide (V.str ⟨#[c]⟩ = V.str (Str.ofString "\""))) = decide (c≠34):=by rw [e34]; exact str_one_ne c 34
 have l4:(!decide (V.int ((((Str.mk #[c]).cps.getD 0 0:Nat)):Int) = V.int 37)) = decide (c≠37):=by
  show (!decide (V.int (c:Int) = V.int 37)) = decide (c≠37)
  rw [Bool.eq_iff_iff]
  simp
  omega
 refine ⟨_,rfl,_,_,rfl,rfl,_,rfl,?_⟩
 have fin:∀ b:Bool,signB c = b->Q (.bl b) H:=fun b e=>by rw [← e]; exact q
 refine ite2 (fun e=>?_) (fun e=>?_)
 ·have e1:decide (32<=c) = true:=by rw [← l1]; exact e
  refine ⟨_,_,rfl,rfl,_,rfl,?_⟩
  refine ite2 (fun e=>?_) (fun e=>?_)
  ·have e2:decide (c<=126) = true:=by rw [← l2]; exact e
   refine ⟨_,rfl,rfl,_,rfl,?_⟩
   refine ite2 (fun e=>?_) (fun e=>?_)
   ·have e3:decide (c≠34) = true:=by rw [← l3]; exact e
    refine ⟨_,rfl,_,rfl,rfl,rfl,fin _ ?_⟩
    rw [l4]
    unfold signB
    rw [e1,e2,e3]
    rfl
   ·have e3:decide (c≠34) = false:=by rw [← l3]; exact Bool.eq_false_iff.mpr e
    refine fin _ ?_
    unfold signB
    rw [e1,e2,e3]
    rfl
  ·have e2:decide (c<=126) = false:=by rw [← l2]; exact Bool.eq_false_iff.mpr e
   refine fin _ ?_
   unfold signB
   rw [e1,e2]
   rfl
 ·have e1:decide (32<=c) = false:=by rw [← l1]; exact Bool.eq_false_iff.mpr e
  refine ⟨_,rfl,iteF (fin _ ?_)⟩
  unfold signB
  rw [e1]
  rfl
theorem sc_fits:FnScope ["thing","levels"] ["thing","levels"] (defScope s_fits_alone):=⟨rfl,rfl,rfl,by decide +kernel,rfl,by decide +kernel,by decide +kernel⟩
theorem all_map {α:Type} (p:α->Bool) (l:List α):(l.map p).all id = l.all p:=by rw [List.all_map]; rfl
theorem ok_fits (F:Fun K "fits_alone" "fits_alone" s_fits_alone f fd) (G_is_number:Have P w K mg base "is_number" k ["thing"] spIsNum) (G_is_sign:Have P w K mg base "is_sign" k ["sign"] spIsSign)
  (m_isi:mg "isinstance" = none) (m_str:mg "str" = none) (m_tuple:mg "tuple" = none) (m_len:mg "len" = none) (m_all:mg "all" = none) (m_abs:mg "abs" = none) (m_MOST_SIGNS:∃ t,mg "MOST_SIGNS" = some (.int 400 t)) (m_MOST_ITEMS:∃ t,mg "MOST_ITEMS" = some (.int 60 t)):
  FnOk P w K mg base CX0 (k + 1) f fd ["thing","levels"] spFits:=by
 refine F.ok sc_fits (fun vs H Q E h=>?_) (fun cdv A outer s H vs Q E hr h=>?_)
 ·obtain ⟨v,t,lv,rfl,_⟩:=h
  rfl
 obtain ⟨v,t,lv,rfl,rt,sm,q⟩:=h
 refine ⟨_,(pss_cons (ps_if (pt_val (pe_fn G_is_number hr rfl (pa_cons (pv 0) pa_nil))) (pss_one (ps_ret (pe_cmpR op_lt (pe_callB (call_abs) rfl m_abs boot_absB (pa_cons (pv 0) pa_nil)) (pe_op op_pow pe_int pe_int) (nomark _)))) pss_nil)
  (pss_cons (ps_if (pt_val (pe_callB call_isi rfl m_isi boot_isi (pa_cons (pv 0) (pa_cons (pe_ty rfl m_str boot_strT) pa_nil)))) (pss_one (ps_ret (pe_and (pe_cmpR op_le (pe_callB call_len rfl m_len PySem.boot_len (pa_cons (pv 0) pa_nil)) (pe_globI rfl m_MOST_SIGNS) (nomark _)) (pe_one (pe_callB (call_all_bools rfl) rfl m_all boot_allB (pa_cons (pe_lcomp [] [] rfl rfl (by decide +kernel) rfl (by decide +kernel) rfl (by decide +kernel) trivial rfl trivial (pi_str (pv 0)) (fun C s H fp=>⟨pifs_nil,(pe_fn G_is_sign hr rfl (pa_cons (pv 0) pa_nil))⟩)) pa_nil)))))) pss_nil)
  (pss_one (ps_ret (pe_and (pe_callB call_isi rfl m_isi boot_isi (pa_cons (pv 0) (pa_cons (pe_ty rfl m_tuple boot_tupleT) pa_nil))) (pe_and (pe_cmpR op_le (pe_callB call_len rfl m_len PySem.boot_len (pa_cons (pv 0) pa_nil)) (pe_globI rfl m_MOST_ITEMS) (nomark _)) (pe_one (pe_cmpR op_gt (pv 1) pe_int (nomark _))))))))),?_⟩
 have q0:∀ b:Bool,aloneB lv t = b->Q (.bl b) H:=fun b e=>by rw [← e]; exact q H (Same.refl H)
 refine ⟨_,rfl,v,t,rfl,rt,_,rfl,?_⟩
 cases rt with
 | non=>exact iteF ⟨_,rfl,_,_,_,_,rfl,.non,isi_ns,_,rfl,iteF ⟨_,rfl,_,_,_,_,rfl,.non,isi_nt,_,rfl,iteF (q0 _ rfl)⟩⟩
 | bl b=>exact iteF ⟨_,rfl,_,_,_,_,rfl,.bl b,isi_bs,_,rfl,iteF ⟨_,rfl,_,_,_,_,rfl,.bl b,isi_bt,_,rfl,iteF (q0 _ rfl)⟩⟩
 | lst e=>exact iteF ⟨_,rfl,_,_,_,_,rfl,.lst e,isi_ls,_,rfl,iteF ⟨_,rfl,_,_,_,_,rfl,.lst e,isi_lt,_,rfl,iteF (q0 _ rfl)⟩⟩
 | dic e=>exact iteF ⟨_,rfl,_,_,_,_,rfl,.dK e,isi_ds,_,rfl,iteF ⟨_,rfl,_,_,_,_,rfl,.dK e,isi_dt,_,rfl,iteF (q0 _ rfl)⟩⟩
 | num i=>
  refine iteT ⟨_,rfl,i,rfl,_,_,rfl,rfl,⟨by decide,by decide,by decide⟩,_,_,rfl,rfl,q0 _ ?_⟩
  show decide (-(10 ^ 60) < i/\i < 10 ^ 60) = decide ((if i < 0 then -i else i) < 10 ^ (60:Int).toNat)
  have e:(10:Int) ^ (60:Int).toNat = 10 ^ 60:=rfl
  rw [e,Bool.eq_iff_iff,decide_eq_true_iff,decide_eq_true_iff]
  constructor
  ·intro h
   split <;> omega
  ·split <;> intro h <;> omega
 | txt x=>
  refine iteF ⟨_,rfl,_,_,_,_,rfl,.str x,isi_ss,_,rfl,iteT ?_⟩
  have hx:x.length<=100000:=sm
  refine ⟨_,rfl,_,_,rfl,⟨small (by omega),rfl⟩,_,_,rfl,rfl,_,rfl,?_⟩
  refine ite2 (fun e=>?_) (fun e=>?_)
  ·have e1:(x.length:Int)<=400:=of_decide_eq_true e
   dsimp only [tRet,tOp,tC,tCB,tCons,tNil]
   have hsz:x.cps.size = x.length:=rfl
   refine rd_mapS (x.cps.toList.map fun c=>V.bl (signB c)) (by rfl) (by rw [List.length_map]; simp) (by rw [hsz]; exact small (by omega)) (fun i c y H1 R hc hy s1 hR=>?_) (fun H1 D s1 hD=>?_)
   ·have hc':x.cps.toList[i]? = some c:=by simpa using hc
    rw [List.getElem?_map,hc'] at hy
    cases hy
    exact ⟨_,rfl,c,rfl,hR _ (Same.refl _)⟩
   ·refine ⟨D,x.cps.toList.map signB,rfl,SqL.of ?_,?_⟩
    ·rw [upd_same,List.map_map]; rfl
    ·have:=q _ (s1.trans (Same.new (o:=.lst (x.cps.toList.map fun c=>V.bl (signB c))) hD))
     rw [all_map]
     have e3:aloneB lv (.txt x) = x.cps.toList.all signB:=by
      show (decide (x.length<=400) && okSigns x) = _
      rw [decide_eq_true (by omega)]
      rfl
     rw [← e3]
     exact this
  ·have e1:¬ (x.length:Int)<=400:=of_decide_eq_false (Bool.eq_false_iff.mpr e)
   refine q0 _ ?_
   show (decide (x.length<=400) && okSigns x) = _
   rw [decide_eq_false (by omega)]
   rfl
 | @tup a vs ts e l _=>
  refine iteF ⟨_,rfl,_,_,_,_,rfl,.tup e,isi_ts,_,rfl,iteF ?_⟩
  refine ⟨_,rfl,_,_,_,_,rfl,.tup e,isi_tt,_,rfl,iteT ?_⟩
  refine ⟨_,rfl,_,_,rfl,.inr ⟨_,SqT.of e,rfl⟩,_,_,rfl,rfl,_,rfl,?_⟩
  refine ite2 (fun c=>?_) (fun c=>?_)
  ·have c1:(vs.length:Int)<=60:=of_decide_eq_true c
   refine ⟨_,rfl,_,_,rfl,rfl,q0 _ ?_⟩
   show (decide (ts.length<=60) && decide (0 < lv)) = _
   rw [decide_eq_true (by omega),Bool.true_and]
  ·have c1:¬ (vs.length:Int)<=60:=of_decide_eq_false (Bool.eq_false_iff.mpr c)
   refine q0 _ ?_
   show (decide (ts.length<=60) && decide (0 < lv)) = _
   rw [decide_eq_false (by omega),Bool.false_and]
theorem sc_sizeT:FnScope ["worth"] ["worth"] (defScope sSizeA):=⟨rfl,rfl,rfl,by decide +kernel,rfl,by decide +kernel,by decide +kernel⟩
theorem ok_sizeT (F:Fun K "size_alone" "size_alone" sSizeA f fd) (m_isi:mg "isinstance" = none) (m_str:mg "str" = none) (m_len:mg "len" = none):FnOk P w K mg base CX0 (k + 1) f fd ["worth"] spSizeT:=by
 refine F.ok sc_sizeT (fun vs H Q E h=>?_) (fun cdv A outer s H vs Q E hr h=>?_)
 ·obtain ⟨v,x,rfl,_⟩:=h
  rfl
 obtain ⟨v,t,rfl,rt,sm,q⟩:=h
 refine ⟨_,pss_one (ps_ret (pe_ifExp (pt_val (pe_callB call_isi rfl m_isi boot_isi (pa_cons (pv 0) (pa_cons (pe_ty rfl m_str boot_strT) pa_nil)))) (pe_op op_add pe_int (pe_callB call_len rfl m_len PySem.boot_len (pa_cons (pv 0) pa_nil))) pe_int)),?_⟩
 cases rt with
 | non=>exact ⟨_,rfl,_,_,_,_,rfl,.non,isi_ns,_,rfl,iteF q⟩
 | bl b=>exact ⟨_,rfl,_,_,_,_,rfl,.bl b,isi_bs,_,rfl,iteF q⟩
 | num i=>exact ⟨_,rfl,_,_,_,_,rfl,.int i,isi_is,_,rfl,iteF q⟩
 | lst e=>exact ⟨_,rfl,_,_,_,_,rfl,.lst e,isi_ls,_,rfl,iteF q⟩
 | dic e=>exact ⟨_,rfl,_,_,_,_,rfl,.dK e,isi_ds,_,rfl,iteF q⟩
 | tup e _ _=>exact ⟨_,rfl,_,_,_,_,rfl,.tup e,isi_ts,_,rfl,iteF q⟩
 | txt x=>
  have hx:x.length<=100000:=sm
  refine ⟨_,rfl,_,_,_,_,rfl,.str x,isi_ss,_,rfl,iteT ?_⟩
  exact ⟨_,rfl,_,_,rfl,⟨small (by omega),rfl⟩,_,_,rfl,rfl,q⟩
structure StR (H0 H:Hp) (vs:List V) (ps:List (T × Int)):Prop where
 len:vs.length = ps.length
 at':∀ (i:Nat) (v:V) (p:T × Int),vs[i]? = some v->ps[i]? = some p->∃ (a:Addr) (u:V),v = .ref a/\H a = some (.tup [u,.int p.2])/\RT H0 u p.1
theorem StR.mono {H0 H H':Hp} (s:Tups H H') {vs:List V}{ps:List (T × Int)} (h:StR H0 H vs ps):StR H0 H' vs ps:=
 ⟨h.len,fun i v p e1 e2=>let ⟨a,u,x,y,z⟩:=h.at' i v p e1 e2; ⟨a,u,x,s _ _ y,z⟩⟩
theorem StR.nil {H0 H:Hp}:StR H0 H [] []:=⟨rfl,fun i v p e=>by simp at e⟩
theorem StR.app {H0 H:Hp}{vs us:List V}{ps qs:List (T × Int)} (h:StR H0 H vs ps) (g:StR H0 H us qs):StR H0 H (vs ++ us) (ps ++ qs):=by
 refine ⟨by rw [List.length_append,List.length_append,h.len,g.len],fun i v p e1 e2=>?_⟩
 by_cases hi:i < vs.length
 ·rw [List.getElem?_append_left hi] at e1
  rw [List.getElem?_append_left (h.len ▸ hi)] at e2
  exact h.at' i v p e1 e2
 ·rw [List.getElem?_append_right (by omega)] at e1
  rw [List.getElem?_append_right (by have:=h.len; omega)] at e2
  rw [h.len] at e1
  exact g.at' _ v p e1 e2
theorem StR.one {H0 H:Hp}{a:Addr}{u:V}{p:T × Int} (e:H a = some (.tup [u,.int p.2])) (r:RT H0 u p.1):StR H0 H [.ref a] [p]:=by
 refine ⟨rfl,fun i v' p' e1 e2=>?_⟩
 cases i with
 | zero=>
  have q1:V.ref a = v':=by simpa using e1
  have q2:p = p':=by simpa using e2
  subst q1 q2
  exact ⟨a,u,rfl,e,r⟩
 | succ j=>simp at e1
theorem StR.front {H0 H:Hp}{vs:List V}{ps:List (T × Int)}{v:V}{p:T × Int} (h:StR H0 H (vs ++ [v]) (ps ++ [p])):StR H0 H vs ps/\∃ (a:Addr) (u:V),v = .ref a/\H a = some (.tup [u,.int p.2])/\RT H0 u p.1:=by
 have l:=h.len
 rw [List.length_append,List.length_append] at l
 have l':vs.length = ps.length:=by simpa using l
 refine ⟨⟨l',fun i v' p' e1 e2=>?_⟩,?_⟩
 ·have h1:=(List.getElem?_eq_some_iff.mp e1).1
  exact h.at' i v' p' (by rw [List.getElem?_append_left h1]; exact e1) (by rw [List.getElem?_append_left (l' ▸ h1)]; exact e2)
 ·exact h.at' vs.length v p (by rw [List.getElem?_append_right (Nat.le_refl _)]; simp) (by rw [l',List.getElem?_append_right (Nat.le_refl _)]; simp)
theorem same_tupsD {H H':Hp} (s:Same H H'):Tups H H':=fun a vs e=>s a _ e
theorem same_putD {H H1:Hp}{l:Addr}{o:HO} (s:Same H H1) (hl:H l = none):Same H (upd H1 l o):=fun c u e=>by rw [upd_ne (ne_of_none e hl)]; exact s c u e
def szs:List (T × Int)->Int
 | []=>0
 | p :: r=>p.1.size + szs r
def nds:List (T × Int)->Nat
 | []=>0
 | p :: r=>p.1.nodes + nds r
def fts:List (T × Int)->Bool
 | []=>true
 | p :: r=>fitsB p.1 p.2 && fts r
theorem szs_app (a b:List (T × Int)):szs (a ++ b) = szs a + szs b:=by
 induction a with
 | nil=>simp [szs]
 | cons p r ih=>simp only [List.cons_append,szs,ih]; omega
theorem nds_app (a b:List (T × Int)):nds (a ++ b) = nds a + nds b:=by
 induction a with
 | nil=>simp [nds]
 | cons p r ih=>simp only [List.cons_append,nds,ih]; omega
theorem fts_app (a b:List (T × Int)):fts (a ++ b) = (fts a && fts b):=by
 induction a with
 | nil=>simp [fts]
 | cons p r ih=>simp only [List.cons_append,fts,ih,Bool.and_assoc]
theorem szs_nn:∀ ps:List (T × Int),0<=szs ps
 | []=>by simp [szs]
 | p :: r=>by have h1:=tsize_pos p.1; have h2:=szs_nn r; simp only [szs]; omega
theorem szs_map (ts:List T) (lv:Int):szs (ts.map fun t=>(t,lv)) = tsizes ts:=by
 induction ts with
 | nil=>rfl
 | cons t r ih=>simp only [List.map_cons,szs,tsizes,ih]
theorem nds_map (ts:List T) (lv:Int):nds (ts.map fun t=>(t,lv)) = tnodes ts:=by
 induction ts with
 | nil=>rfl
 | cons t r ih=>simp only [List.map_cons,nds,tnodes,ih]
theorem fts_map (ts:List T) (lv:Int):fts (ts.map fun t=>(t,lv)) = fitsA ts lv:=by
 induction ts with
 | nil=>rfl
 | cons t r ih=>simp only [List.map_cons,fts,fitsA,ih]
def valB (ps:List (T × Int)) (whole:Int):Bool:=fts ps && decide (whole + szs ps<=1000)
theorem alone_fits {t:T}{lv:Int} (h:aloneB lv t = false):fitsB t lv = false:=by
 cases t with
 | tup ts=>
  have h:(decide (ts.length<=60) && decide (0 < lv)) = false:=h
  simp only [fitsB,h,Bool.false_and]
 | num i=>exact h
 | txt x=>exact h
 | non=>rfl
 | bl b=>rfl
 | lst=>rfl
 | dic=>rfl
theorem alone_leaf {t:T}{lv:Int} (h:aloneB lv t = true) (hn:∀ ts,t≠.tup ts):fitsB t lv = true/\t.size = aloneSz t:=by
 cases t with
 | tup ts=>exact absurd rfl (hn ts)
 | num i=>exact ⟨h,rfl⟩
 | txt x=>exact ⟨h,rfl⟩
 | non=>cases h
 | bl b=>cases h
 | lst=>cases h
 | dic=>cases h
theorem aloneSz_le (t:T):aloneSz t<=t.size/\1<=aloneSz t:=by
 cases t with
 | tup ts=>have:=tsizes_nn ts; simp only [aloneSz,T.size]; omega
 | txt x=>simp only [aloneSz,T.size]; omega
 | _=>simp [aloneSz,T.size]
theorem sc_isworth:FnScope ["thing","waiting","whole","pair","item","levels"] ["thing"] (defScope s_is_worth):=⟨rfl,rfl,rfl,by decide +kernel,rfl,by decide +kernel,by decide +kernel⟩
theorem ok_isworth (F:Fun K "is_worth" "is_worth" s_is_worth f fd) (G_fits_alone:Have P w K mg base "fits_alone" k ["thing","levels"] spFits) (G_size_alone:Have P w K mg base "size_alone" k ["worth"] spSizeT)
  (m_isi:mg "isinstance" = none) (m_tuple:mg "tuple" = none) (m_len:mg "len" = none) (m_MOST_DEPTH:∃ t,mg "MOST_DEPTH" = some (.int 12 t)) (m_MOST_SIZE:∃ t,mg "MOST_SIZE" = some (.int 1000 t)):
  FnOk P w K mg base CX0 (k + 1) f fd ["thing"] spIsWorth:=by
 refine F.ok sc_isworth (fun vs H Q E h=>?_) (fun cdv A outer s H vs Q E hr h=>?_)
 ·obtain ⟨v,t,rfl,_⟩:=h
  rfl
 obtain ⟨v,t,rfl,rt,sm,q⟩:=h
 refine ⟨_,(pss_cons (ps_set (i:=1) sc_isworth.nd rfl (Or.inl rfl) (pe_lst (pa_cons (pe_tup (pa_cons (pv 0) (pa_cons (pe_globI rfl m_MOST_DEPTH) pa_nil))) pa_nil)))
  (pss_cons (ps_set (i:=2) sc_isworth.nd rfl (Or.inl rfl) pe_int)
  (pss_cons (ps_while PassesOwn.never (pt_cmpR op_gt (pe_callB call_len rfl m_len PySem.boot_len (pa_cons (pv 1) pa_nil)) pe_int (nomark _)) (pss_cons (ps_set (i:=3) sc_isworth.nd rfl (Or.inl rfl) (pe_bm0 PySem.F.plainAttrs_list PySem.F.slot_list_pop PySem.F.type_list_pop mt_pop (pv 1)))
  (pss_cons (ps_set (i:=4) sc_isworth.nd rfl (Or.inl rfl) (pe_ix ix_tup (pv 3) pe_int (fun _ _=>rfl)))
  (pss_cons (ps_set (i:=5) sc_isworth.nd rfl (Or.inr rfl) (pe_ix ix_tup (pv 3) pe_int (fun _ _=>rfl)))
  (pss_cons (ps_if (pt_not (pt_val (pe_fn G_fits_alone hr rfl (pa_cons (pv 4) (pa_cons (pv 5) pa_nil))))) (pss_one (ps_ret pe_bl)) pss_nil)
  (pss_cons (ps_aug (i:=2) sc_isworth.nd rfl (Or.inl rfl) (pe_fn G_size_alone hr rfl (pa_cons (pv 4) pa_nil)) (ip_of iop_add))
  (pss_cons (ps_if (pt_cmpR op_gt (pv 2) (pe_globI rfl m_MOST_SIZE) (nomark _)) (pss_one (ps_ret pe_bl)) pss_nil)
  (pss_one (ps_if (pt_val (pe_callB call_isi rfl m_isi boot_isi (pa_cons (pv 4) (pa_cons (pe_ty rfl m_tuple boot_tupleT) pa_nil)))) (pss_one (ps_expr (pe_bm PySem.F.plainAttrs_list PySem.F.slot_list_extend PySem.F.type_list_extend mt_extend (pv 1) (pa_cons (pe_lcomp [5] ["levels"] rfl rfl (by decide +kernel) rfl (by decide +kernel) rfl (by decide +kernel) ⟨rfl,trivial⟩ rfl ⟨⟨rfl,rfl,Or.inr (Or.inl rfl),(by show (some NameKind.cell:Option NameKind)≠some .local; decide),⟨_,rfl⟩⟩,trivial⟩ (pi_tup (pv 4)) (fun C s H fp=>⟨pifs_nil,(pe_tup (pa_cons (pv 0) (pa_cons (pe_op op_sub (pv 1) pe_int) pa_nil)))⟩)) pa_nil)))) pss_nil)))))))))
  (pss_one (ps_ret pe_bl))))),?_⟩
 refine ⟨_,rfl,zl2,fun a ha=>?_⟩
 refine ⟨zl1,fun l hl=>?_⟩
 have s1:Same H (upd (upd H a (.tup [v,.int 12])) l (.lst [.ref a])):=(Same.new ha).trans (Same.new hl)
 have hlH:H l = none:=by
  cases e:H l with
  | none=>rfl
  | some o=>have:=Same.new (o:=.tup [v,.int 12]) ha l o e; rw [hl] at this; cases this
 have ea:upd (upd H a (.tup [v,.int 12])) l (.lst [.ref a]) a = some (.tup [v,.int 12]):=by rw [upd_ne (ne_of_none upd_same hl)]; exact upd_same
 have st0:StR H (upd (upd H a (.tup [v,.int 12])) l (.lst [.ref a])) [.ref a] [(t,12)]:=StR.one (p:=(t,12)) ea rt
 refine ⟨fun m σ' H'=>∃ (vs:List V) (ps:List (T × Int)) (whole:Int) (o3 o4 o5:Option V),σ' = [some v,some (.ref l),some (.int whole),o3,o4,o5]/\H' l = some (.lst vs)/\StR H H' vs ps/\m = nds ps/\0<=whole/\whole<=1000 /\
   (vs.length:Int)<=60 * whole + 1/\(∀ p∈ps,p.1.Sm)/\valB ps whole = isWorthB t/\Same H H',
  ⟨_,[.ref a],[(t,12)],0,none,none,none,rfl,upd_same,st0,rfl,Int.le_refl _,by decide,by simp,fun p hp=>by rw [List.mem_singleton.mp hp]; exact sm,?_,s1⟩,fun m σ' H' hW=>?_⟩
 ·unfold valB isWorthB
  simp only [fts,szs,Bool.and_true]
  congr 2
  rw [eq_iff_iff]
  constructor <;> intro h <;> omega
 obtain ⟨vs,ps,whole,o3,o4,o5,rfl,hlv,hst,hm,hw0,hw1,hvl,hsm,hval,sH⟩:=hW
 refine ⟨_,rfl,_,_,rfl,.inl ⟨_,SqL.of hlv,rfl⟩,_,_,rfl,rfl,_,rfl,?_⟩
 refine ite2 (fun c=>?_) (fun c=>?_)
 ·have c1:(0:Int) < vs.length:=of_decide_eq_true c
  refine ⟨_,fun _ _ h=>h,?_⟩
  rcases List.eq_nil_or_concat vs with rfl | ⟨vs',vl,e⟩
  ·simp at c1
  rw [List.concat_eq_append] at e
  subst e
  rcases List.eq_nil_or_concat ps with rfl | ⟨ps',p,e⟩
  ·have:=hst.len; simp at this
  rw [List.concat_eq_append] at e
  subst e
  obtain ⟨hst',ap,u,rfl,hap,rtu⟩:=hst.front
  have ed:(vs' ++ [V.ref ap]).dropLast = vs':=List.dropLast_concat
  have smp:p.1.Sm:=hsm p (by simp)
  refine ⟨_,rfl,.inl ⟨rfl,_,SqL.of hlv⟩,l,_,.ref ap,rfl,rfl,hlv,by simp,?_⟩
  rw [ed]
  have sH1:Same H (upd H' l (.lst vs')):=same_putD sH hlH
  have hap1:upd H' l (.lst vs') ap = some (.tup [u,.int p.2]):=tups_put hlv _ _ hap
  refine ⟨_,rfl,ap,_,0,u,rfl,rfl,SqT.of hap1,rfl,?_⟩
  refine ⟨_,rfl,ap,_,1,.int p.2,rfl,rfl,SqT.of hap1,rfl,?_⟩
  refine ⟨_,rfl,_,rfl,u,p.1,p.2,rfl,rtu.mono sH1,smp,fun H2 s2=>⟨_,rfl,?_⟩⟩
  have vb:valB (ps' ++ [p]) whole = ((fts ps' && fitsB p.1 p.2) && decide (whole + (szs ps' + p.1.size)<=1000)):=by
   unfold valB
   rw [fts_app,szs_app]
   simp only [fts,szs,Bool.and_true]
   congr 2
   rw [eq_iff_iff]
   constructor <;> intro h <;> omega
  have hsn:=szs_nn ps'
  have hal:=aloneSz_le p.1
  have sH2:=sH1.trans s2
  cases hal1:aloneB p.2 p.1 with
  | false=>
   refine iteT ?_
   have:isWorthB t = false:=by
    rw [← hval,vb,alone_fits hal1]
    simp
   have fin:=q _ sH2
   rw [this] at fin
   exact fin
  | true=>
   refine iteF ?_
   refine ⟨_,rfl,_,rfl,u,p.1,rfl,rtu.mono sH2,smp,_,_,rfl,rfl,?_⟩
   refine ⟨_,rfl,_,_,rfl,rfl,_,rfl,?_⟩
   refine ite2 (fun c2=>?_) (fun c2=>?_)
   ·have c3:(1000:Int) < whole + aloneSz p.1:=of_decide_eq_true c2
    have:isWorthB t = false:=by
     rw [← hval,vb,decide_eq_false (by omega)]
     simp
    have fin:=q _ sH2
    rw [this] at fin
    exact fin
   ·have c3:¬ (1000:Int) < whole + aloneSz p.1:=of_decide_eq_false (Bool.eq_false_iff.mpr c2)
    have hl2:H2 l = some (.lst vs'):=s2 _ _ upd_same
    have hst2:StR H H2 vs' ps':=(hst'.mono (tups_put hlv)).mono (same_tupsD s2)
    have hvl':((vs'.length:Nat):Int) + 1<=60 * whole + 1:=by
     rw [List.length_append] at hvl
     have:([V.ref ap]:List V).length = 1:=rfl
     omega
    have hnd:nds (ps' ++ [p]) = nds ps' + p.1.nodes:=by rw [nds_app]; simp [nds]
    have hsm':∀ p'∈ps',p'.1.Sm:=fun p' hp'=>hsm p' (List.mem_append_left _ hp')
    have leaf:∀ (t':T),p.1 = t'->(∀ ts,t'≠.tup ts)->p.1.nodes = 1->∃ m',m' < m/\∃ (vs:List V) (ps:List (T × Int)) (whole':Int) (o3 o4 o5:Option V),[some v,some (.ref l),some (.int (whole + aloneSz p.1)),some (.ref ap),some u,some (.int p.2)] = [some v,some (.ref l),some (.int whole'),o3,o4,o5]/\H2 l = some (.lst vs)/\StR H H2 vs ps/\m' = nds ps/\0<=whole'/\whole'<=1000 /\
      (vs.length:Int)<=60 * whole' + 1/\(∀ p∈ps,p.1.Sm)/\valB ps whole' = isWorthB t/\Same H H2:=fun t' e hn hnode=>by
     obtain ⟨hf,hz⟩:=alone_leaf hal1 (by rw [e]; exact hn)
     refine ⟨nds ps',by omega,vs',ps',whole + aloneSz p.1,_,_,_,rfl,hl2,hst2,rfl,by omega,by omega,by omega,hsm',?_,sH2⟩
     rw [← hval,vb,hf,hz]
     unfold valB
     rw [Bool.and_true]
     congr 2
     rw [eq_iff_iff]
     constructor <;> intro h <;> omega
    obtain ⟨tt,lv⟩:=p
    have rt2:RT H2 u tt:=rtu.mono sH2
    cases rt2 with
    | non=>exact ⟨_,rfl,_,_,_,_,rfl,.non,isi_nt,_,rfl,iteF (leaf _ rfl (fun _ z=>nomatch z) rfl)⟩
    | bl b=>exact ⟨_,rfl,_,_,_,_,rfl,.bl b,isi_bt,_,rfl,iteF (leaf _ rfl (fun _ z=>nomatch z) rfl)⟩
    | num i=>exact ⟨_,rfl,_,_,_,_,rfl,.int i,isi_it,_,rfl,iteF (leaf _ rfl (fun _ z=>nomatch z) rfl)⟩
    | txt x=>exact ⟨_,rfl,_,_,_,_,rfl,.str x,isi_st,_,rfl,iteF (leaf _ rfl (fun _ z=>nomatch z) rfl)⟩
    | lst e=>exact ⟨_,rfl,_,_,_,_,rfl,.lst e,isi_lt,_,rfl,iteF (leaf _ rfl (fun _ z=>nomatch z) rfl)⟩
    | dic e=>exact ⟨_,rfl,_,_,_,_,rfl,.dK e,isi_dt,_,rfl,iteF (leaf _ rfl (fun _ z=>nomatch z) rfl)⟩
    | @tup a2 us ts e2 l2 at2=>
     refine ⟨_,rfl,_,_,_,_,rfl,.tup e2,isi_tt,_,rfl,iteT ?_⟩
     have ha60:ts.length<=60:=by
      have h:(decide (ts.length<=60) && decide (0 < lv)) = true:=hal1
      rw [Bool.and_eq_true] at h
      exact of_decide_eq_true h.1
     have hlv0:0 < lv:=by
      have h:(decide (ts.length<=60) && decide (0 < lv)) = true:=hal1
      rw [Bool.and_eq_true] at h
      exact of_decide_eq_true h.2
     refine ⟨_,rfl,.inl ⟨rfl,_,SqL.of hl2⟩,?_⟩
     have at0:∀ (i:Nat) (x:V) (t':T),us[i]? = some x->ts[i]? = some t'->RT H x t':=by
      cases rtu with
      | @tup a3 us3 ts3 e3 l3 at3=>
       have:us3 = us:=by
        have h1:=sH2 _ _ e3
        rw [e2] at h1
        cases h1
        rfl
       subst this
       exact at3
     dsimp only [tCons,tNil]
     refine ⟨_,rfl,a2,rfl,⟨us,SqT.of e2⟩,fun i m2 xs H3=>i<=us.length/\m2 = us.length - i/\StR H H3 xs ((ts.take i).map fun t'=>(t',lv - 1))/\Same H2 H3,⟨_,Nat.zero_le _,rfl,by simpa using StR.nil,Same.refl _⟩,fun i m2 xs H3 hW=>?_⟩
     obtain ⟨hi,hm2,hxs,s3⟩:=hW
     have hxl:xs.length<=60:=by
      have:=hxs.len
      rw [List.length_map,List.length_take] at this
      omega
     refine ⟨small (by omega),?_⟩
     have e3:=s3 _ _ e2
     by_cases hlt:i < us.length
     ·refine .inr ⟨⟨us,us[i],SqT.of e3,List.getElem?_eq_getElem hlt⟩,fun y H4 hy=>?_⟩
      obtain ⟨rfl,hy⟩:=hy
      have hy:=hy us (SqT.of e3)
      have hti:ts[i]? = some ts[i]:=List.getElem?_eq_getElem (by omega)
      refine iteT ?_
      refine ⟨_,rfl,_,rfl,_,_,rfl,rfl,zl2,fun a5 ha5=>?_⟩
      have s5:=Same.new (o:=.tup [y,.int (lv - 1)]) ha5
      refine ⟨us.length - (i + 1),by omega,by omega,rfl,?_,s3.trans s5⟩
      rw [take_snoc hti,List.map_append]
      exact (hxs.mono (same_tupsD s5)).app (StR.one (p:=(ts[i],lv - 1)) upd_same (at0 i y ts[i] hy hti))
     ·have ei:i = us.length:=by omega
      refine .inl ⟨⟨us,SqT.of e3,by omega⟩,fun D hD=>?_⟩
      have et:ts.take i = ts:=List.take_of_length_le (by omega)
      rw [et] at hxs
      have hl3:=s3 _ _ hl2
      have hl4:upd H3 D (.lst xs) l = some (.lst vs'):=by rw [upd_ne (ne_of_none hl3 hD)]; exact hl3
      refine ⟨l,D,vs',xs,rfl,rfl,hl4,upd_same,?_,?_⟩
      ·have h60:vs'.length<=60001:=by omega
       exact small (by omega)
      ·have s4:=Same.new (o:=.lst xs) hD
       have t5:=tups_put (o:=.lst (vs' ++ xs)) hl4
       refine ⟨nds ps' + tnodes ts,?_,vs' ++ xs,ps' ++ ts.map (fun t'=>(t',lv - 1)),whole + 1,_,_,_,rfl,upd_same,?_,?_,by omega,?_,?_,?_,?_,?_⟩
       ·have:(T.tup ts).nodes = 1 + tnodes ts:=rfl
        have h9:nds (ps' ++ [(T.tup ts,lv)]) = nds ps' + (T.tup ts).nodes:=hnd
        omega
       ·exact ((((hst2.mono (same_tupsD s3)).mono (same_tupsD s4)).mono t5)).app ((hxs.mono (same_tupsD s4)).mono t5)
       ·rw [nds_app,nds_map]
       ·have:aloneSz (T.tup ts) = 1:=rfl
        have c4:¬ (1000:Int) < whole + aloneSz (T.tup ts):=c3
        omega
       ·rw [List.length_append]
        omega
       ·intro p' hp'
        rcases List.mem_append.mp hp' with hp' | hp'
        ·exact hsm' p' hp'
        ·obtain ⟨t',ht',rfl⟩:=List.mem_map.mp hp'
         exact Sms_mem (show Sms ts from (show ts.length<=100000/\Sms ts from smp).2) t' ht'
       ·rw [← hval,vb]
        unfold valB
        rw [fts_app,fts_map,szs_app,szs_map]
        have f1:fitsB (T.tup ts) lv = fitsA ts (lv - 1):=by
         show (decide (ts.length<=60) && decide (0 < lv) && fitsA ts (lv - 1)) = _
         rw [decide_eq_true ha60,decide_eq_true hlv0]
         rfl
        have f2:(T.tup ts).size = 1 + tsizes ts:=rfl
        show _ = ((fts ps' && fitsB (T.tup ts) lv) && decide (whole + (szs ps' + (T.tup ts).size)<=1000))
        rw [f1,f2]
        congr 2
        rw [eq_iff_iff]
        constructor <;> intro h <;> omega
       ·exact same_putD ((sH2.trans s3).trans s4) hlH
 ·have c1:¬ (0:Int) < vs.length:=of_decide_eq_false (Bool.eq_false_iff.mpr c)
  have hv0:vs = []:=List.length_eq_zero_iff.mp (by omega)
  have hp0:ps = []:=List.length_eq_zero_iff.mp (by rw [← hst.len,hv0]; rfl)
  have:isWorthB t = true:=by
   rw [← hval,hp0]
   unfold valB
   simp only [fts,szs,Bool.true_and]
   exact decide_eq_true (by omega)
  have fin:=q _ sH
  rw [this] at fin
  exact fin
end
end D
namespace L2
open PySem PySem.Spec PyProof.Rows PySem.Builtin
section
variable {prog:Program}{w:World}{A:Around}{E:Value->Shared->Prop}{s:Shared}
end
theorem op_catT0 {X:Cx}:OpR X (binaryOp .Add) (fun x y H Q=>∃ (a b:Addr) (ys:List V),x = .ref a/\y = .ref b/\SqT X.K H a []/\SqT X.K H b ys/\Q (.ref b) H):=by
 intro zp s σ H x y v u Q I rx ry h
 obtain ⟨a,b,ys,rfl,rfl,ha,hb,q⟩:=h
 cases rx
 cases ry
 obtain ⟨its,r1,p1,_⟩:=I.tuple ha
 obtain ⟨its2,r2,p2,_⟩:=I.tuple hb
 have e0:its = []:=by cases r1; rfl
 subst e0
 obtain ⟨⟨cls,dd,data,sl⟩,ho,hc,n,hd⟩:=id p1
 obtain ⟨⟨cls2,dd2,data2,sl2⟩,ho2,hc2,n2,hd2⟩:=id p2
 simp only at hc hd hc2 hd2
 subst hc hd hc2 hd2
 exact concat_meets ⟨_,ho,rfl⟩ ⟨_,ho2,rfl⟩ noFill_tuple_add seq_tuple_add PySem.F.slot_tuple_add PySem.F.entry_tuple_add (PySem.F.args_tuple_add_2 _ _)
  (tuple_addW0 a b #[] its2.toArray n n2 dd dd2 sl sl2 rfl) ⟨ho,ho2,⟨.ref b,H,I,rfl,q⟩⟩
end L2
namespace L2
open PySem PySem.Spec PyProof.Rows
theorem strsAre_of {ys:List Str}:∀ {us:List Value},Vals (ys.map V.str) us->StrsAre us ys:=by
 induction ys with
 | nil=>intro us r; rw [List.map_nil] at r; cases r; exact .nil
 | cons n ns ih=>
  intro us r
  rw [List.map_cons] at r
  cases r with
  | cons r1 r2=>
   obtain ⟨t,e⟩:=r1
   subst e
   exact .cons n t (ih r2)
theorem mt_join {X:Cx}:MtR X "str.join" (fun x xs H Q=>∃ (sep:Str) (p:Addr) (ys:List Str),x = .str sep/\xs = [.ref p]/\SqL X.K H p (ys.map V.str)/\(ys.map (·.length)).sum + ys.length * sep.length<=16777216/\Q (.str (Txt.join sep ys)) H):=by
 intro zp s σ H x xs v us Q I rx rv h
 obtain ⟨sep,p,ys,rfl,rfl,hq,hz,q⟩:=h
 obtain ⟨t,rfl⟩:=rx
 obtain ⟨u,rfl,ru⟩:=vals1 rv
 cases ru
 obtain ⟨its,r,pl,_⟩:=I.list hq
 exact PyProof.Rows.join_list pl.isList (by simpa using strsAre_of r) hz fun t' k=>⟨.str _,H,I.tok k,⟨t',rfl⟩,q⟩
theorem join_signs (cs:List Nat):Txt.join (Str.ofString "") (cs.map fun c=>(⟨#[c]⟩:Str)) = ⟨cs.toArray⟩:=by
 have e0:(Str.ofString "").cps = #[]:=by decide +kernel
 have fold:∀ (r:List Nat) (acc:Array Nat),((r.map fun c=>(⟨#[c]⟩:Str)).foldl (fun acc p=>acc ++ (Str.ofString "").cps ++ p.cps) acc) = acc ++ r.toArray:=fun r=>by
  induction r with
  | nil=>intro acc; simp
  | cons c r ih=>
   intro acc
   rw [List.map_cons,List.foldl_cons,ih,e0]
   simp
 cases cs with
 | nil=>rfl
 | cons c r=>
  show (⟨(r.map fun c=>(⟨#[c]⟩:Str)).foldl (fun acc p=>acc ++ (Str.ofString "").cps ++ p.cps) #[c]⟩:Str) = _
  rw [fold]
  simp
end L2
namespace D
open PySem L2
mutual
def eqW:W->W->Bool
 | .num i,.num j=>i == j
 | .txt x,.txt y=>x == y
 | .lst ws,.lst zs=>eqWs ws zs
 | .num _,.txt _=>false
 | .num _,.lst _=>false
 | .txt _,.num _=>false
 | .txt _,.lst _=>false
 | .lst _,.num _=>false
 | .lst _,.txt _=>false
def eqWs:List W->List W->Bool
 | [],[]=>true
 | w :: r,z :: s=>eqW w z && eqWs r s
 | [],_ :: _=>false
 | _ :: _,[]=>false
end
mutual
theorem eqW_refl:∀ w:W,eqW w w = true
 | .num i=>by simp [eqW]
 | .txt x=>by simp [eqW]
 | .lst ws=>eqWs_refl ws
theorem eqWs_refl:∀ ws:List W,eqWs ws ws = true
 | []=>rfl
 | w :: r=>by simp only [eqWs,eqW_refl w,eqWs_refl r,Bool.and_self]
end
mutual
theorem eqW_symm:∀ w z:W,eqW w z = eqW z w
 | .num i,.num j=>by simp only [eqW]; exact BEq.comm
 | .txt x,.txt y=>by simp only [eqW]; exact BEq.comm
 | .lst ws,.lst zs=>by simp only [eqW]; exact eqWs_symm ws zs
 | .num _,.txt _=>rfl
 | .num _,.lst _=>rfl
 | .txt _,.num _=>rfl
 | .txt _,.lst _=>rfl
 | .lst _,.num _=>rfl
 | .lst _,.txt _=>rfl
theorem eqWs_symm:∀ ws zs:List W,eqWs ws zs = eqWs zs ws
 | [],[]=>rfl
 | w :: r,z :: s=>by simp only [eqWs,eqW_symm w z,eqWs_symm r s]
 | [],_ :: _=>rfl
 | _ :: _,[]=>rfl
end
end D
namespace L2
open PySem PySem.Spec PyProof.Rows
theorem boot_listT:bootBuiltins (Str.ofString "list") = some (.type "list"):=by kernel_rfl
end L2
namespace D
open PySem L2
mutual
def W.Th:W->Prop
 | .num _=>True
 | .txt x=>x.length<=100000/\Signs x
 | .lst ws=>ws.length<=1000/\Ths ws
def Ths:List W->Prop
 | []=>True
 | w :: r=>w.Th/\Ths r
end
mutual
theorem th_of:∀ w:W,w.Ok->w.Th
 | .num _,_=>trivial
 | .txt _,h=>⟨Nat.le_trans h.1 (by decide),h.2⟩
 | .lst ws,h=>⟨Nat.le_trans h.1 (by decide),ths_of ws h.2⟩
theorem ths_of:∀ ws:List W,Oks ws->Ths ws
 | [],_=>trivial
 | w :: r,h=>⟨th_of w h.1,ths_of r h.2⟩
end
mutual
def fitsW:W->Bool
 | .num i=>decide (-(10 ^ 60) < i/\i < 10 ^ 60)
 | .txt x=>decide (x.length<=400)
 | .lst ws=>decide (ws.length<=60) && fitsWs ws
def fitsWs:List W->Bool
 | []=>true
 | w :: r=>fitsW w && fitsWs r
end
mutual
def W.toT:W->T
 | .num i=>.num i
 | .txt x=>.txt x
 | .lst ws=>.tup (toTs ws)
def toTs:List W->List T
 | []=>[]
 | w :: r=>w.toT :: toTs r
end
theorem toTs_map:∀ ws:List W,toTs ws = ws.map W.toT
 | []=>rfl
 | w :: r=>by simp only [toTs,List.map_cons,toTs_map r]
theorem toTs_len (ws:List W):(toTs ws).length = ws.length:=by rw [toTs_map,List.length_map]
mutual
theorem size_toT:∀ w:W,w.toT.size = w.size
 | .num _=>rfl
 | .txt _=>rfl
 | .lst ws=>by simp only [W.toT,T.size,W.size,sizes_toT ws]
theorem sizes_toT:∀ ws:List W,tsizes (toTs ws) = sizes ws
 | []=>rfl
 | w :: r=>by simp only [toTs,tsizes,sizes,size_toT w,sizes_toT r]
end
mutual
theorem sm_toT:∀ w:W,w.Th->w.toT.Sm
 | .num _,_=>trivial
 | .txt _,h=>h.1
 | .lst ws,h=>⟨by rw [toTs_len]; exact Nat.le_trans h.1 (by decide),sms_toT ws h.2⟩
theorem sms_toT:∀ ws:List W,Ths ws->Sms (toTs ws)
 | [],_=>trivial
 | w :: r,h=>⟨sm_toT w h.1,sms_toT r h.2⟩
end
theorem okSigns_of {x:Str} (h:Signs x):okSigns x = true:=by
 unfold okSigns
 rw [List.all_eq_true]
 intro c hc
 have:=h c hc
 simp [signB,this]
mutual
theorem fits_toT:∀ (w:W) (lv:Nat),w.Th->fitsB w.toT (lv:Int) = (fitsW w && decide (w.depth<=lv))
 | .num i,lv,_=>by
  show decide (-(10 ^ 60) < i/\i < 10 ^ 60) = (decide (-(10 ^ 60) < i/\i < 10 ^ 60) && decide (0<=lv))
  rw [decide_eq_true (Nat.zero_le lv),Bool.and_true]
 | .txt x,lv,h=>by
  show (decide (x.length<=400) && okSigns x) = (decide (x.length<=400) && decide (0<=lv))
  rw [okSigns_of h.2,decide_eq_true (Nat.zero_le lv)]
 | .lst ws,lv,h=>by
  show (decide ((toTs ws).length<=60) && decide (0 < (lv:Int)) && fitsA (toTs ws) ((lv:Int) - 1)) = ((decide (ws.length<=60) && fitsWs ws) && decide (1 + depths ws<=lv))
  rw [toTs_len]
  cases lv with
  | zero=>
   rw [decide_eq_false (show ¬ (0:Int) < ((0:Nat):Int) by omega),decide_eq_false (show ¬ 1 + depths ws<=0 by omega)]
   simp
  | succ n=>
   have e:((n + 1:Nat):Int) - 1 = (n:Int):=by omega
   rw [decide_eq_true (show (0:Int) < ((n + 1:Nat):Int) by omega),e,fits_toTs ws n h.2,Bool.and_true,← Bool.and_assoc]
   congr 2
   rw [eq_iff_iff]
   constructor <;> intro h <;> omega
theorem fits_toTs:∀ (ws:List W) (lv:Nat),Ths ws->fitsA (toTs ws) (lv:Int) = (fitsWs ws && decide (depths ws<=lv))
 | [],lv,_=>by
  show true = (true && decide (0<=lv))
  rw [decide_eq_true (Nat.zero_le lv)]
  rfl
 | w :: r,lv,h=>by
  show (fitsB w.toT lv && fitsA (toTs r) lv) = ((fitsW w && fitsWs r) && decide (max w.depth (depths r)<=lv))
  rw [fits_toT w lv h.1,fits_toTs r lv h.2]
  have e:decide (max w.depth (depths r)<=lv) = (decide (w.depth<=lv) && decide (depths r<=lv)):=by
   rw [Bool.eq_iff_iff,Bool.and_eq_true,decide_eq_true_iff,decide_eq_true_iff,decide_eq_true_iff]
   omega
  rw [e]
  cases fitsW w <;> cases fitsWs r <;> cases decide (w.depth<=lv) <;> cases decide (depths r<=lv) <;> rfl
end
def goodW (x:W):Bool:=fitsW x && (decide (x.size<=1000) && decide ((x.depth:Int)<=12))
theorem isWorth_toT {x:W} (h:x.Th):isWorthB x.toT = goodW x:=by
 unfold isWorthB goodW
 have:=fits_toT x 12 h
 rw [show (12:Int) = ((12:Nat):Int) from rfl,this,size_toT]
 have e:decide ((x.depth:Int)<=((12:Nat):Int)) = decide (x.depth<=12):=by
  rw [Bool.eq_iff_iff,decide_eq_true_iff,decide_eq_true_iff]
  omega
 rw [e]
 cases fitsW x <;> cases decide (x.depth<=12) <;> cases decide (x.size<=1000) <;> rfl
theorem RW.toRT {H:Hp}{v:V}{x:W} (h:RW H v x):RT H v x.toT:=by
 induction h with
 | num i=>exact .num i
 | txt x=>exact .txt x
 | @lst a vs ws e l _ ih=>
  refine .tup e (by rw [toTs_len]; exact l) fun i v t hv ht=>?_
  rw [toTs_map,List.getElem?_map] at ht
  obtain ⟨w,hw,rfl⟩:=Option.map_eq_some_iff.mp ht
  exact ih i v w hv hw
theorem same_tups {H H':Hp} (s:Same H H'):Tups H H':=fun a vs e=>s a _ e
section
variable {P:Program}{w:World}{K:PySem.W.Frag}{mg:Str->Option Value}{base:Heap}{f:Addr}{fd:FuncData}{k n:Nat}
end
end D
namespace L2
open PySem PySem.Spec PyProof.Rows
section
variable {prog:Program}{w:World}{A:Around}{E:Value->Shared->Prop}{s:Shared}
open HT in
end
end L2
namespace D
open PySem L2
end D
namespace L2
open PySem PySem.Spec PyProof.Rows
structure QSs (X:Cx) (st:List Stmt) (t:TS):Prop where
 un:PSs X st t
structure QIfs (X:Cx) (ifs:List Expr) (t:TT):Prop where
 un:PIfs X ifs t
structure QGs (X:Cx) (ts:List Expr) (t:TGs):Prop where
 un:PGs X ts t
structure QE (X:Cx) (e:Expr) (t:TE):Prop where
 un:PE X e t
structure QT (X:Cx) (e:Expr) (t:TT):Prop where
 un:PT X e t
structure QW (X:Cx) (e:Expr) (t:TT):Prop where
 un:PW X e t
structure QA (X:Cx) (es:List Expr) (t:TA):Prop where
 un:PA X es t
structure QS (X:Cx) (st:Stmt) (t:TS):Prop where
 un:PS X st t
structure QI (X:Cx) (tg iter:Expr) (wi:TI):Prop where
 un:PI X tg iter wi
structure QG (X:Cx) (tg:Expr) (t:TG):Prop where
 un:PG X tg t
structure QO (X:Cx) (e:Option Expr) (t:TO):Prop where
 un:PO X e t
theorem Fun.okQ {P:Program}{w:World}{K:PySem.W.Frag}{mg:Str->Option Value}{base:Heap}{x qual:Str}{st:Stmt}{f:Addr}{fd:FuncData}{N ps:List Str}{k:Nat}{sp:Sp} (F:Fun K x qual st f fd) (sc:FnScope N ps (defScope st)) (h1:∀ (vs:List V) (H:Hp) (Q:VK) (E:XK),sp vs H Q E->vs.length = ps.length)
  (h2:∀ (cdv:Value) (A:Around) (outer:List Env) (s:Shared) (H:Hp) (vs:List V) (Q:VK) (E:XK),Room k (A.deeper (PyProof.Rows.envOfC qual (defScope st) s.heap.objs.size f cdv))->sp vs H Q E->
   ∃ t:TS,QSs (cxOf CX0 P w K mg base N qual (defScope st) f cdv A outer s H E).nox (defBody st) t/\t { nx:=fun _ H'=>Q V.non H',rt:=Q } (L2.start N vs) H):FnOk P w K mg base CX0 (k + 1) f fd ps sp:=
 F.ok sc h1 fun cdv A outer s H vs Q E hr h=>let ⟨t,a,b⟩:=h2 cdv A outer s H vs Q E hr h; ⟨t,a.un,b⟩
theorem pe_globS {X:Cx}{x:Str}{z:Str}{pos:Pos} (hg:Gl X x) (hm:∃ t,X.mg x = some (.str z t)) (hd:(x == ("__debug__":Str)) = false:=by decide):PE X (.Name x pos) (tC (.str z)):=by
 obtain ⟨t,hm⟩:=hm
 exact pe_glob hg hm ⟨t,rfl⟩ hd
end L2
namespace D
open PySem L2
theorem pss_nil {X:Cx}:QSs X [] tNext:=⟨L2.pss_nil ⟩
theorem pss_cons {X:Cx}{st:Stmt}{rest:List Stmt}{t u:TS} (h0:QS X st t) (h1:QSs X rest u):QSs X (st :: rest) (tSeq t u):=⟨L2.pss_cons h0.un h1.un⟩
theorem pss_one {X:Cx}{st:Stmt}{t:TS} (h0:QS X st t):QSs X [st] t:=⟨L2.pss_one h0.un⟩
theorem ps_ret {X:Cx}{e:Expr}{te:TE}{pos:Pos} (h0:QE X e te):QS X (Stmt.Return (some e) pos) (tRet te):=⟨L2.ps_ret h0.un⟩
theorem ps_if {X:Cx}{t u:TS}{pos:Pos}{c:Expr}{a b:List Stmt}{tc:TT} (h0:QT X c tc) (h1:QSs X a t) (h2:QSs X b u):QS X (Stmt.If c a b pos) (tIfS tc t u):=⟨L2.ps_if h0.un h1.un h2.un⟩
theorem ps_set {X:Cx}{pos:Pos}{i:Nat}{x:Str}{e:Expr}{te:TE}{pos':Pos} (h0:X.N.Nodup) (h1:X.N[i]? = some x) (h2:L2.Loc X.env.scope x) (h3:QE X e te) (h4:autoParam (swapsWith e (some (Expr.Name x pos')) pos.line X.env = pure false) L2.ps_set._auto_1) (h5:autoParam (X.fn x = true\/List.lookup x X.env.scope.names = some NameKind.local) L2.ps_set._auto_2):QS X (Stmt.Assign [Expr.Name x pos'] e pos) (tAsg te (gName i)):=⟨L2.ps_set h0 h1 h2 h3.un h4 h5⟩
theorem ps_asg {X:Cx}{pos:Pos}{tg e:Expr}{te:TE}{g:TG} (h0:QE X e te) (h1:QG X tg g) (h2:autoParam (swapsWithSole [tg] e pos.line X.env = pure false) L2.ps_asg._auto_1) (h3:autoParam (swappedStores [tg] e X.env = pure none) L2.ps_asg._auto_2) (h4:autoParam (List.map (fun (x:Bool × (Value->Sem Unit))=>x.snd) (assignEach [tg] X.env) = [assign tg X.env]) L2.ps_asg._auto_3):QS X (Stmt.Assign [tg] e pos) (tAsg te g):=⟨L2.ps_asg h0.un h1.un h2 h3 h4⟩
theorem ps_expr {X:Cx}{e:Expr}{te:TE}{pos:Pos} (h0:QE X e te) (h1:autoParam (swapsWith e none pos.line X.env = pure false) L2.ps_expr._auto_1):QS X (Stmt.Expr e pos) (tDrop te):=⟨L2.ps_expr h0.un h1⟩
theorem ps_for {X:Cx}{tg iter:Expr}{body:List Stmt}{wi:TI}{g:TG}{tb:TS}{pos:Pos} (h0:PassesOwn (model X.prog X.w) X.A X.env X.xe) (h1:X.calm = true) (h2:QI X tg iter wi) (h3:QG X tg g) (h4:QSs X body tb) (h5:autoParam (∀ (x:Value),foldedSetIterable iter X.env x = pure x) L2.ps_for._auto_1):QS X (Stmt.For tg iter body [] pos) (tFor wi g tb):=⟨L2.ps_for h0 h1 h2.un h3.un h4.un h5⟩
theorem ps_while {X:Cx}{pos:Pos}{c:Expr}{body:List Stmt}{tc:TT}{tb:TS} (h0:PassesOwn (model X.prog X.w) X.A X.env X.xe) (h1:QT X c tc) (h2:QSs X body tb):QS X (Stmt.While c body [] pos) (tWhile tc tb):=⟨L2.ps_while h0 h1.un h2.un⟩
theorem ps_aug {X:Cx}{pos:Pos}{i:Nat}{x:Str}{e:Expr}{te:TE}{op:Operator}{ti:TIp}{pos':Pos} (h0:X.N.Nodup) (h1:X.N[i]? = some x) (h2:L2.Loc X.env.scope x) (h3:QE X e te) (h4:PIp X op ti) (h5:autoParam (X.fn x = true\/List.lookup x X.env.scope.names = some NameKind.local) L2.ps_aug._auto_1):QS X (Stmt.AugAssign (Expr.Name x pos') op e pos) (tAug i te ti):=⟨L2.ps_aug h0 h1 h2 h3.un h4 h5⟩
theorem pss_never {X:Cx}{sts:List Stmt}:QSs X sts tNever:=⟨L2.pss_never ⟩
theorem pe_int {X:Cx}{i:Int}{j:Nat}{pos:Pos}:QE X (Expr.Constant (Const.int i) j pos) (tC (V.int i)):=⟨L2.pe_int ⟩
theorem pe_str {X:Cx}{x:Str}{j:Nat}{pos:Pos}:QE X (Expr.Constant (Const.str x) j pos) (tC (V.str x)):=⟨L2.pe_str ⟩
theorem pe_bl {X:Cx}{b:Bool}{j:Nat}{pos:Pos}:QE X (Expr.Constant (Const.bool b) j pos) (tC (V.bl b)):=⟨L2.pe_bl ⟩
theorem pv {X:Cx} (i:Nat) {x:Str}{pos:Pos} (h0:autoParam (X.N[i]? = some x) L2.pv._auto_1) (h1:autoParam (Vis X.env.scope x) L2.pv._auto_2) (h2:autoParam ((x == Str.ofString "__debug__") = false) L2.pv._auto_3) (h3:autoParam ((x == Str.ofString "__classdict__") = false) L2.pv._auto_4):QE X (Expr.Name x pos) (tVar i):=⟨L2.pv i h0 h1 h2 h3⟩
theorem pe_glob {X:Cx}{x:Str}{v:V}{u:Value}{pos:Pos} (h0:Gl X x) (h1:X.mg x = some u) (h2:RelV v u) (h3:autoParam ((x == Str.ofString "__debug__") = false) L2.pe_glob._auto_1):QE X (Expr.Name x pos) (tC v):=⟨L2.pe_glob h0 h1 h2 h3⟩
theorem pe_globI {X:Cx}{x:Str}{i:Int}{pos:Pos} (h0:Gl X x) (h1:(∃ (t:Tok),X.mg x = some (Value.int i t))) (h2:autoParam ((x == Str.ofString "__debug__") = false) L2.pe_globI._auto_1):QE X (Expr.Name x pos) (tC (V.int i)):=⟨L2.pe_globI h0 h1 h2⟩
theorem pe_ty {X:Cx}{x:Str}{T:String}{pos:Pos} (h0:Gl X x) (h1:X.mg x = none) (h2:bootBuiltins x = some (Value.type T)) (h3:autoParam (x≠Str.ofString "__name__") L2.pe_ty._auto_1) (h4:autoParam ((x == Str.ofString "__debug__") = false) L2.pe_ty._auto_2):QE X (Expr.Name x pos) (tC (V.ty T)):=⟨L2.pe_ty h0 h1 h2 h3 h4⟩
theorem pe_op {X:Cx}{a b:Expr}{ta tb:TE}{pos:Pos}{op:Operator}{r:R2} (h0:OpR X (binaryOp op) r) (h1:QE X a ta) (h2:QE X b tb):QE X (a.BinOp op b pos) (tOp r ta tb):=⟨L2.pe_op h0 h1.un h2.un⟩
theorem pe_un {X:Cx}{a:Expr}{ta:TE}{pos:Pos}{op:UnaryOp}{r:V->Hp->VK->Prop} (h0:UnR X (unaryOp op) r) (h1:QE X a ta):QE X (Expr.UnaryOp op a pos) (tUn r ta):=⟨L2.pe_un h0 h1.un⟩
theorem pe_cmpR {X:Cx}{a b:Expr}{ta tb:TE}{pos:Pos}{op:CmpOp}{r:R2} (h0:OpR X (compareOp op) r) (h1:QE X a ta) (h2:QE X b tb) (h3:behindInMarks op b = false):QE X (a.Compare [op] [b] pos) (tOp r ta tb):=⟨L2.pe_cmpR h0 h1.un h2.un h3⟩
theorem pt_cmpR {X:Cx}{a b:Expr}{ta tb:TE}{pos:Pos}{op:CmpOp}{r:R2} (h0:OpR X (compareOp op) r) (h1:QE X a ta) (h2:QE X b tb) (h3:behindInMarks op b = false):QT X (a.Compare [op] [b] pos) (tTest (tOp r ta tb)):=⟨L2.pt_cmpR h0 h1.un h2.un h3⟩
theorem pt_chain {X:Cx}{a b c:Expr}{ta tb tc:TE}{pos:Pos}{op op':CmpOp}{r r':R2} (h0:OpR X (compareOp op) r) (h1:OpR X (compareOp op') r') (h2:QE X a ta) (h3:QE X b tb) (h4:QE X c tc) (h5:autoParam (lastMarks [op,op'] [b,c] = false) L2.pt_chain._auto_1):QT X (a.Compare [op,op'] [b,c] pos) (tTest (tChain r r' ta tb tc)):=⟨L2.pt_chain h0 h1 h2.un h3.un h4.un h5⟩
theorem pe_and {X:Cx}{a b:Expr}{ta tb:TE}{pos:Pos}{rest:List Expr} (h0:QE X a ta) (h1:QE X (Expr.BoolOp BoolOp.And (b :: rest) pos) tb):QE X (Expr.BoolOp BoolOp.And (a :: b :: rest) pos) (tAndV ta tb):=⟨L2.pe_and h0.un h1.un⟩
theorem pe_or {X:Cx}{a b:Expr}{ta tb:TE}{pos:Pos}{rest:List Expr} (h0:QE X a ta) (h1:QE X (Expr.BoolOp BoolOp.Or (b :: rest) pos) tb):QE X (Expr.BoolOp BoolOp.Or (a :: b :: rest) pos) (tOrV ta tb):=⟨L2.pe_or h0.un h1.un⟩
theorem pe_one {X:Cx}{a:Expr}{pos:Pos}{op:BoolOp}{t:TE} (h0:QE X a t):QE X (Expr.BoolOp op [a] pos) t:=⟨L2.pe_one h0.un⟩
theorem pe_not {X:Cx}{a:Expr}{ta:TE}{pos:Pos} (h0:QE X a ta):QE X (Expr.UnaryOp UnaryOp.Not a pos) (tNotV ta):=⟨L2.pe_not h0.un⟩
theorem pe_ifExp {X:Cx}{a b:Expr}{ta tb:TE}{pos:Pos}{tA:TT}{c:Expr} (h0:QT X c tA) (h1:QE X a ta) (h2:QE X b tb):QE X (c.IfExp a b pos) (tIf tA ta tb):=⟨L2.pe_ifExp h0.un h1.un h2.un⟩
theorem pt_val {X:Cx}{e:Expr}{t:TE} (h:QE X e t) (he:∀ whole,isTrue e X.env whole = (do let v ← whole; standAt e.pos; holding [v] (truthy v)):=by intro _; rfl):QT X e (tB t):=⟨L2.pt_val h.un he⟩
theorem pt_not {X:Cx}{a:Expr}{pos:Pos}{tA:TT} (h0:QT X a tA):QT X (Expr.UnaryOp UnaryOp.Not a pos) (tNot tA):=⟨L2.pt_not h0.un⟩
theorem pw_and {X:Cx}{a b:Expr}{pos:Pos}{tA tB':TT}{rest:List Expr} (h0:QT X a tA) (h1:QW X (Expr.BoolOp BoolOp.And (b :: rest) pos) tB'):QW X (Expr.BoolOp BoolOp.And (a :: b :: rest) pos) (tAnd tA tB'):=⟨L2.pw_and h0.un h1.un⟩
theorem pw_and1 {X:Cx}{a:Expr}{pos:Pos}{tA:TT} (h0:QT X a tA):QW X (Expr.BoolOp BoolOp.And [a] pos) tA:=⟨L2.pw_and1 h0.un⟩
theorem pw_or {X:Cx}{a b:Expr}{pos:Pos}{tA tB':TT}{rest:List Expr} (h0:QT X a tA) (h1:QW X (Expr.BoolOp BoolOp.Or (b :: rest) pos) tB'):QW X (Expr.BoolOp BoolOp.Or (a :: b :: rest) pos) (tOr tA tB'):=⟨L2.pw_or h0.un h1.un⟩
theorem pw_or1 {X:Cx}{a:Expr}{pos:Pos}{tA:TT} (h0:QT X a tA):QW X (Expr.BoolOp BoolOp.Or [a] pos) tA:=⟨L2.pw_or1 h0.un⟩
theorem PW.pt {X:Cx}{e:Expr}{t:TT} (h0:QW X e t):QT X e t:=⟨L2.PW.pt h0.un⟩
theorem pe_fn {X:Cx}{x:Str}{k:Nat}{ps:List Str}{sp:Sp}{e:Expr}{es:List Expr}{t:TA}{p pos:Pos} (h0:Have X.prog X.w X.K X.mg X.base x k ps sp) (h1:Room k X.A) (h2:Gl X x) (h3:QA X (e :: es) t) (h4:autoParam ((x == Str.ofString "__debug__") = false) L2.pe_fn._auto_1) (h5:autoParam (starEach (e :: es) X.env = (false,eval e X.env) :: starEach es X.env) L2.pe_fn._auto_2) (h6:autoParam (((backTo pos (starEach es X.env)).any fun (x:Bool × Sem Value)=>x.fst) = false) L2.pe_fn._auto_3):QE X ((Expr.Name x p).Call (e :: es) [] pos) (tCall sp [] E0 t):=⟨L2.pe_fn h0 h1 h2 h3.un h4 h5 h6⟩
theorem pe_callB {X:Cx}{x:Str}{p pos:Pos}{e:Expr}{es:List Expr}{t:TA}{id:String}{r:List V->Hp->VK->Prop} (h0:CallR X (Value.builtin id) r) (h1:Gl X x) (h2:X.mg x = none) (h3:bootBuiltins x = some (Value.builtin id)) (h4:QA X (e :: es) t) (h5:autoParam (x≠Str.ofString "__name__") L2.pe_callB._auto_1) (h6:autoParam ((x == Str.ofString "__debug__") = false) L2.pe_callB._auto_2) (h7:autoParam (starEach (e :: es) X.env = (false,eval e X.env) :: starEach es X.env) L2.pe_callB._auto_3) (h8:autoParam (((backTo pos (starEach es X.env)).any fun (x:Bool × Sem Value)=>x.fst) = false) L2.pe_callB._auto_4):QE X ((Expr.Name x p).Call (e :: es) [] pos) (tCB r t):=⟨L2.pe_callB h0 h1 h2 h3 h4.un h5 h6 h7 h8⟩
theorem pe_callTy {X:Cx}{x:Str}{p pos:Pos}{e:Expr}{es:List Expr}{t:TA}{T:String}{r:List V->Hp->VK->Prop} (h0:CallR X (Value.type T) r) (h1:Gl X x) (h2:X.mg x = none) (h3:bootBuiltins x = some (Value.type T)) (h4:QA X (e :: es) t) (h5:autoParam (x≠Str.ofString "__name__") L2.pe_callTy._auto_1) (h6:autoParam ((x == Str.ofString "__debug__") = false) L2.pe_callTy._auto_2) (h7:autoParam (starEach (e :: es) X.env = (false,eval e X.env) :: starEach es X.env) L2.pe_callTy._auto_3) (h8:autoParam (((backTo pos (starEach es X.env)).any fun (x:Bool × Sem Value)=>x.fst) = false) L2.pe_callTy._auto_4):QE X ((Expr.Name x p).Call (e :: es) [] pos) (tCB r t):=⟨L2.pe_callTy h0 h1 h2 h3 h4.un h5 h6 h7 h8⟩
theorem pe_bm {X:Cx}{o e:Expr}{es:List Expr}{to:TE}{t:TA}{name:Str}{apos cpos:Pos}{T id:String}{r:V->List V->Hp->VK->Prop} (pa:PlainAttrs T) (slot:Slot T name id) (hty:typeOf (.builtin id) = pure (.type "method_descriptor")) (hm:MtR X id r) (ho:QE X o to) (ha:QA X (e :: es) t)
  (hbase:attributeBase o name X.env (eval o X.env) = eval o X.env:=by rfl)
  (hfew:((backTo cpos (starEach (e :: es) X.env)).all (fun x=>!x.1) && (backToKw cpos (keywordEach [] X.env)).all (fun x=>x.1.isSome)
   && decide ((e :: es).length + ([]:List Keyword).length + (if ([]:List Keyword).isEmpty then 0 else 1) < 30)) = true:=by rfl)
  (hline:(apos.endLine == cpos.line) = true:=by rfl) (hs:starEach (e :: es) X.env = (false,eval e X.env) :: starEach es X.env:=by rfl) (hplain:(backTo cpos (starEach es X.env)).any (·.1) = false:=by rfl):
  QE X (.Call (.Attribute o name apos) (e :: es) [] cpos) (tBM X.K T r to t):=⟨L2.pe_bm pa slot hty hm ho.un ha.un hbase hfew hline hs hplain⟩
theorem pe_bm0 {X:Cx}{o:Expr}{to:TE}{name:Str}{apos cpos:Pos}{T id:String}{r:V->List V->Hp->VK->Prop} (h0:PlainAttrs T) (h1:Slot T name id) (h2:typeOf (Value.builtin id) = pure (Value.type "method_descriptor")) (h3:MtR X id r) (h4:QE X o to) (h5:autoParam (attributeBase o name X.env (eval o X.env) = eval o X.env) L2.pe_bm0._auto_1) (h6:autoParam ((apos.endLine == cpos.line) = true) L2.pe_bm0._auto_2):QE X ((o.Attribute name apos).Call [] [] cpos) (tBM0 X.K T r to):=⟨L2.pe_bm0 h0 h1 h2 h3 h4.un h5 h6⟩
theorem pe_ix {X:Cx}{a b:Expr}{ta tb:TE}{pos:Pos}{r:R2} (h0:IxR X r) (h1:QE X a ta) (h2:QE X b tb) (h3:PlainIx b):QE X (a.Subscript b pos) (tOp r ta tb):=⟨L2.pe_ix h0 h1.un h2.un h3⟩
theorem pe_slice {X:Cx}{e:Expr}{te:TE}{lo hi:Option Expr}{tl th:TO}{pos p2:Pos}{r:V->Option Int->Option Int->Hp->VK->Prop} (h0:SlR X r) (h1:QE X e te) (h2:QO X lo tl) (h3:QO X hi th):QE X (e.Subscript (Expr.Slice lo hi none p2) pos) (tSl r te tl th):=⟨L2.pe_slice h0 h1.un h2.un h3.un⟩
theorem po_none {X:Cx}:QO X none tNoPart:=⟨L2.po_none ⟩
theorem po_some {X:Cx}{e:Expr}{te:TE} (h0:QE X e te):QO X (some e) (tPart te):=⟨L2.po_some h0.un⟩
theorem pe_lst {X:Cx}{es:List Expr}{t:TA}{pos:Pos} (h0:QA X es t):QE X (Expr.List es pos) (tLst t):=⟨L2.pe_lst h0.un⟩
theorem pe_tup {X:Cx}{es:List Expr}{t:TA}{pos:Pos}{x1:Nat} (h0:QA X es t):QE X (Expr.Tuple es x1 pos) (tTup t):=⟨L2.pe_tup h0.un⟩
theorem pa_nil {X:Cx}:QA X [] tNil:=⟨L2.pa_nil ⟩
theorem pa_cons {X:Cx}{e:Expr}{es:List Expr}{te:TE}{t:TA} (h0:QE X e te) (h1:QA X es t) (h2:autoParam (starEach (e :: es) X.env = (false,eval e X.env) :: starEach es X.env) L2.pa_cons._auto_1):QA X (e :: es) (tCons te t):=⟨L2.pa_cons h0.un h1.un h2⟩
theorem pe_lcomp {X:Cx}{elt iter:Expr}{x:Str}{px pos:Pos}{ifs:List Expr}{scope:Scope}{cl:List (Str × Addr)} (fr:List Nat) (ys:List Str) {wi:TI}{tt:TT}{te:TE} (h0:X.calm = true) (h1:closureFor scope X.env = pure cl) (h2:(∀ (y:Str × NameKind),y∈scope.names->y.snd≠NameKind.cell)) (h3:scope.kind = ScopeKind.function) (h4:(∀ (y:Str × NameKind),y∈scope.names->y.snd = NameKind.local->List.lookup y.fst scope.names = some NameKind.local)) (h5:List.lookup x scope.names = some NameKind.local) (h6:(x :: ys).Nodup) (h7:ClOk cl X.env.cells) (h8:(scope.names.all fun (y:Str × NameKind)=>y.snd != NameKind.free || (List.lookup y.fst cl).isSome) = true) (h9:FrOk X scope cl fr ys) (h10:QI X (Expr.Name x px) iter wi) (h11:(∀ (C:Addr) (s:Shared) (H:Hp) (fp:List Addr),QIfs (cxComp X scope cl (x :: ys) C s H fp) ifs tt/\QE (cxComp X scope cl (x :: ys) C s H fp) elt te)) (h12:autoParam (∀ (v:Value),foldedSetIterable iter X.env v = pure v) L2.pe_lcomp._auto_1):QE X (elt.ListComp [{ target:=Expr.Name x px,iter:=iter,ifs:=ifs,is_async:=0 }] scope pos) (tLComp fr wi tt te):=⟨L2.pe_lcomp fr ys h0 h1 h2 h3 h4 h5 h6 h7 h8 h9 h10.un (fun C s H fp=>⟨(h11 C s H fp).1.un,(h11 C s H fp).2.un⟩) h12⟩
theorem pifs_nil {X:Cx}:QIfs X [] fun (x:St) (H:Hp) (Q:Bool->Hp->Prop)=>Q true H:=⟨L2.pifs_nil ⟩
theorem pi_list {X:Cx}{tg l:Expr}{tl:TE} (h0:QE X l tl):QI X tg l (iList X.K tl):=⟨L2.pi_list h0.un⟩
theorem pi_tup {X:Cx}{tg l:Expr}{tl:TE} (h0:QE X l tl):QI X tg l (iTup X.K tl):=⟨L2.pi_tup h0.un⟩
theorem pi_str {X:Cx}{tg e:Expr}{te:TE} (h0:QE X e te):QI X tg e (iStr te):=⟨L2.pi_str h0.un⟩
theorem pi_range1 {X:Cx}{tg a:Expr}{ta:TA}{p pos:Pos} (h0:Gl X (Str.ofString "range")) (h1:X.mg (Str.ofString "range") = none) (h2:QA X [a] ta) (h3:autoParam (starEach [a] X.env = [(false,eval a X.env)]) L2.pi_range1._auto_1):QI X tg ((Expr.Name (Str.ofString "range") p).Call [a] [] pos) (iRng1 ta):=⟨L2.pi_range1 h0 h1 h2.un h3⟩
theorem pi_range2 {X:Cx}{tg a b:Expr}{ta:TA}{p pos:Pos} (h0:Gl X (Str.ofString "range")) (h1:X.mg (Str.ofString "range") = none) (h2:QA X [a,b] ta) (h3:autoParam (starEach [a,b] X.env = [(false,eval a X.env),(false,eval b X.env)]) L2.pi_range2._auto_1) (h4:autoParam (starEach [b] X.env = [(false,eval b X.env)]) L2.pi_range2._auto_2):QI X tg ((Expr.Name (Str.ofString "range") p).Call [a,b] [] pos) (iRng2 ta):=⟨L2.pi_range2 h0 h1 h2.un h3 h4⟩
theorem pg_name {X:Cx}{pos:Pos}{i:Nat}{x:Str} (h0:X.N.Nodup) (h1:X.N[i]? = some x) (h2:L2.Loc X.env.scope x) (h3:autoParam (X.fn x = true\/List.lookup x X.env.scope.names = some NameKind.local) L2.pg_name._auto_1):QG X (Expr.Name x pos) (gName i):=⟨L2.pg_name h0 h1 h2 h3⟩
theorem pg_tup {X:Cx}{pos:Pos}{es:List Expr}{k:Nat}{t:TGs}{n:Nat} (h0:X.calm = true) (h1:QGs X es t) (h2:autoParam ((assignEach es X.env).length = n) L2.pg_tup._auto_1) (h3:autoParam (List.findIdx? (fun (x:Bool × (Value->Sem Unit))=>x.fst) (assignEach es X.env) = none) L2.pg_tup._auto_2):QG X (Expr.Tuple es k pos) (gTup X.K n t):=⟨L2.pg_tup h0 h1.un h2 h3⟩
theorem pgs_nil {X:Cx}:QGs X [] gNil:=⟨L2.pgs_nil ⟩
theorem pgs_cons {X:Cx}{e:Expr}{es:List Expr}{t:TG}{u:TGs} (h0:QG X e t) (h1:QGs X es u) (h2:autoParam (List.map (fun (x:Bool × (Value->Sem Unit))=>x.snd) (assignEach (e :: es) X.env) = assign e X.env :: List.map (fun (x:Bool × (Value->Sem Unit))=>x.snd) (assignEach es X.env)) L2.pgs_cons._auto_1):QGs X (e :: es) (gCons t u):=⟨L2.pgs_cons h0.un h1.un h2⟩
theorem pe_globS {X:Cx}{x:Str}{z:Str}{pos:Pos} (hg:Gl X x) (hm:∃ t,X.mg x = some (.str z t)) (hd:(x == ("__debug__":Str)) = false:=by decide):QE X (.Name x pos) (tC (.str z)):=⟨L2.pe_globS hg hm hd⟩
end D
namespace L2
open PySem PySem.Spec PyProof.Rows
def MD (P:Program) (w:World) (K:PySem.W.Frag) (g:Addr) (kvs:List (Key × V)):Prop:=
 ∃ (o:Obj) (vs:List (Key × Value)),K.lookup g = some o/\PySem.Obj.IsDictOf (mixKind P w) o vs/\KV kvs vs/\(g == sysModules) = false
theorem MD.dict {P:Program}{w:World}{K:PySem.W.Frag}{g:Addr}{kvs:List (Key × V)}{h:Heap} (m:MD P w K g kvs) (x:K.In h):∃ vs,KV kvs vs/\h.DictOf (mixKind P w) g vs/\(g == sysModules) = false:=by
 obtain ⟨o,vs,e,d,r,n⟩:=m
 exact ⟨vs,r,Heap.dictOf_iff.mpr ⟨o,x _ _ e,d⟩,n⟩
theorem pairs_of {P:Program}{w:World}:∀ l:List (Str × Tok × V × Value),Pairs (mixKind P w) (l.map fun p=>(⟨hashStr w p.1,.str p.1 p.2.1,p.2.2.2⟩:DictEntry)) (l.map fun p=>((Sum.inr p.1:Key),p.2.2.2))
 | []=>.nil
 | p :: r=>.cons (mixKind_str P w p.1 p.2.1) rfl (pairs_of r)
theorem kv_of:∀ l:List (Str × Tok × V × Value),(∀ p∈l,RelV p.2.2.1 p.2.2.2)->KV (l.map fun p=>((Sum.inr p.1:Key),p.2.2.1)) (l.map fun p=>((Sum.inr p.1:Key),p.2.2.2))
 | [],_=>.nil
 | p :: r,h=>.cons ⟨rfl,h p List.mem_cons_self⟩ (kv_of r fun q hq=>h q (List.mem_cons_of_mem _ hq))
theorem md_of {P:Program}{w:World}{K:PySem.W.Frag}{g:Addr} (l:List (Str × Tok × V × Value)) {ep:Nat} (e:K.lookup g = some ⟨.type "dict",none,.dict (l.map fun p=>(⟨hashStr w p.1,.str p.1 p.2.1,p.2.2.2⟩:DictEntry)).toArray ep,#[]⟩)
  (n:(g == sysModules) = false) (hr:∀ p∈l,RelV p.2.2.1 p.2.2.2) (nd:(l.map (·.1)).Nodup):MD P w K g (l.map fun p=>((Sum.inr p.1:Key),p.2.2.1)):=by
 refine ⟨_,l.map fun p=>((Sum.inr p.1:Key),p.2.2.2),e,⟨_,_,⟨rfl,rfl,rfl⟩,rfl,?_,?_,?_⟩,kv_of l hr,n⟩
 ·intro x hx
  have hx':x∈l.map fun p=>(⟨hashStr w p.1,.str p.1 p.2.1,p.2.2.2⟩:DictEntry):=by simpa using hx
  obtain ⟨p,_,rfl⟩:=List.mem_map.mp hx'
  exact ⟨Sum.inr p.1,mixKind_str P w p.1 p.2.1,rfl⟩
 ·rw [List.toList_toArray]
  exact pairs_of l
 ·rw [List.map_map]
  have:(l.map ((fun x:Key × Value=>x.1) ∘ fun p=>((Sum.inr p.1:Key),p.2.2.2))) = (l.map (·.1)).map (Sum.inr:Str->Key):=by rw [List.map_map]; rfl
  rw [this]
  exact List.pairwise_map.mpr (List.Pairwise.imp (fun {a b} (h:a≠b) (e:(Sum.inr a:Key) = Sum.inr b)=>h (by simpa using e)) nd)
theorem op_inM {X:Cx}:OpR X (compareOp .In) (fun x y H Q=>∃ (g:Addr) (kvs:List (Key × V)) (k:Key),x = kV k/\y = .ref g/\MD X.prog X.w X.K g kvs/\Q (.bl (valV kvs k).isSome) H):=by
 intro zp s σ H x y v u Q I rx ry h
 obtain ⟨g,kvs,k,rfl,rfl,m,q⟩:=h
 cases ry
 obtain ⟨vs,rel,dd,hd⟩:=m.dict I.kIn
 refine wpAny_in_of (kV_is rx) hd dd.mapOf ?_
 rw [← (rel.val k).isSome_eq]
 exact ⟨.bl _,H,I.tok _,rfl,q⟩
theorem op_notInM {X:Cx}:OpR X (compareOp .NotIn) (fun x y H Q=>∃ (g:Addr) (kvs:List (Key × V)) (k:Key),x = kV k/\y = .ref g/\MD X.prog X.w X.K g kvs/\Q (.bl (!(valV kvs k).isSome)) H):=by
 intro zp s σ H x y v u Q I rx ry h
 obtain ⟨g,kvs,k,rfl,rfl,m,q⟩:=h
 cases ry
 obtain ⟨vs,rel,dd,hd⟩:=m.dict I.kIn
 refine wpAny_notIn_of (kV_is rx) hd dd.mapOf ?_
 rw [← (rel.val k).isSome_eq]
 exact ⟨.bl _,H,I.tok _,rfl,q⟩
theorem ix_mod {X:Cx}:IxR X (fun x y H Q=>∃ (g:Addr) (kvs:List (Key × V)) (k:Key) (v:V),x = .ref g/\y = kV k/\MD X.prog X.w X.K g kvs/\valV kvs k = some v/\Q v H):=by
 intro value slice zp s σ H x y v u Q I rx ry h hs
 obtain ⟨g,kvs,k,z,rfl,rfl,m,hv,q⟩:=h
 cases rx
 obtain ⟨vs,rel,dd,hd⟩:=m.dict I.kIn
 obtain ⟨w',hw,rw'⟩:=RelO.some_of (v:=z) (o:=valueAt vs k) (by rw [← hv]; exact rel.val k)
 exact tail_any dd.typeIs PySem.F.slot_dict_getitem.lookup (wpAny_getItem_of (kV_is ry) dd.mapOf hw ⟨z,H,I.tok _,rw',q⟩) hs
end L2
namespace D
open PySem L2
end D
namespace L2
open PySem PySem.Spec PyProof.Rows PySem.Builtin PySem.Builtin.Str
def rJoin (K:PySem.W.Frag):R2:=fun x y H Q=>(∃ i j,x = .str i/\y = .str j/\i.length + j.length<=sizeLine/\Q (.str (i ++ j)) H)\/rCatT K x y H Q \/
 ∃ (a b:Addr) (ys:List V),x = .ref a/\y = .ref b/\SqT K H a []/\SqT K H b ys/\Q (.ref b) H
theorem op_join {X:Cx}:OpR X (binaryOp .Add) (rJoin X.K):=OpR.or op_add_str (OpR.or op_catT op_catT0)
theorem sl_strX {X:Cx}:SlR X (fun x lo hi H Q=>∃ z:Str,x = .str z/\z.length<=1000000/\Q (.str (Txt.slice z lo hi)) H):=by
 intro zp s σ H x v vl vu lo hi sl Q I rx hs pl pu h
 obtain ⟨z,rfl,hz,q⟩:=h
 obtain ⟨t,rfl⟩:=rx
 refine ⟨"str",_,PySem.F.slot_str_getitem.lookup,typeIs_str _ _ _,?_⟩
 have hz':z.length<=sizeLine:=Nat.le_trans hz (by decide)
 have fin:∀ (l u:Option (Int × Tok)),partValue l = vl->partValue u = vu->Q (.str (Txt.slice z (l.map (·.1)) (u.map (·.1)))) H->wpAny (model X.prog X.w) X.A (getItem (.str z t) (.ref sl)) (EP X zp σ Q) X.xe s:=fun l u e1 e2 q=>by
  obtain ⟨o,ho,hc,hd⟩:=hs
  refine wpAny_getItem_str_slice (l:=l) (u:=u) (st:=none) ⟨o,ho,hc,by rw [hd,e1,e2]; rfl⟩ rfl (post_val_or_str ⟨Nat.le_trans (Txt.slice_le z _ _) hz',fun t' k=>?_⟩)
  exact ⟨.str _,H,I.tok k,⟨t',rfl⟩,q⟩
 cases pl with
 | none=>cases pu with
  | none=>exact fin none none rfl rfl q
  | int j tj=>exact fin none (some (j,tj)) rfl rfl q
 | int i ti=>cases pu with
  | none=>exact fin (some (i,ti)) none rfl rfl q
  | int j tj=>exact fin (some (i,ti)) (some (j,tj)) rfl rfl q
end L2
namespace L2
open PySem PySem.Spec PyProof.Rows
end L2
namespace D
open PySem L2
end D
namespace L2
open PySem PySem.Spec PyProof.Rows
def tMGet2 (P:Program) (w:World) (K:PySem.W.Frag) (td ty tx:TE):TE:=fun σ H Q=>td σ H fun x H1=>∃ (g:Addr) (kvs:List (Key × V)),x = .ref g/\MD P w K g kvs/\ty σ H1 fun y H2=>tx σ H2 fun z H3=>∃ k:Key,y = kV k/\Q ((valV kvs k).getD z) H3
theorem pe_mget2 {X:Cx}{o e f:Expr}{apos cpos:Pos}{td ty tx:TE} (ho:PE X o td) (he:PE X e ty) (hf:PE X f tx) (m:M2 X o "get" apos e f cpos):PE X (.Call (.Attribute o "get" apos) [e,f] [] cpos) (tMGet2 X.prog X.w X.K td ty tx):=by
 intro zp s σ H Q I h
 refine wpAny_Call_method m.base m.few m.line PySem.F.plainAttrs_dict PySem.F.slot_dict_get PySem.F.type_dict_get (thn (ho zp s σ H _ I h) fun u s1 ⟨x,H1,I1,rx,a,kvs,ex,d,q1⟩=>?_)
 subst ex
 obtain rfl:u = Value.ref a:=rx
 obtain ⟨vs1,rel1,dd1,hd1⟩:=d.dict I1.kIn
 refine ⟨dd1.typeIs,fun b q=>?_,?_⟩
 ·cases q
  obtain ⟨ob,_,_,h1,h2,_⟩:=dd1
  exact ⟨ob,h1,h2.2.1⟩
 rw [m.trees]
 refine Calls.callWith_builtin rfl (Calls.evalArgs_plain (Calls.spliced_cons (thn (he zp s1 σ H1 _ I1 q1) fun iv s2 ⟨y,H2,I2,ry,q2⟩=>
  Calls.spliced_cons (thn (hf zp s2 σ H2 _ I2 q2) fun fv s3 ⟨z,H3,I3,rz,k,ey,q3⟩=>Calls.spliced_nil ?_))))
 subst ey
 obtain ⟨vs,rel,dd,hd⟩:=d.dict I3.kIn
 refine call_meetsIn PySem.F.slot_dict_get dd.typeIs PySem.F.entry_dict_get (PySem.F.args_dict_get_3 _ _ _) (meets_dict_get_default (mixKind X.prog X.w) a (kV_is ry) hd fv) ⟨_,dd.mapOf,?_⟩
 exact ⟨_,H3,I3.tok _,(rel.val k).getD rz,q3⟩
end L2
namespace D
open PySem L2
theorem pe_mget2 {X:Cx}{o e f:Expr}{apos cpos:Pos}{td ty tx:TE} (ho:QE X o td) (he:QE X e ty) (hf:QE X f tx) (m:M2 X o "get" apos e f cpos):QE X (.Call (.Attribute o "get" apos) [e,f] [] cpos) (tMGet2 X.prog X.w X.K td ty tx):=⟨L2.pe_mget2 ho.un he.un hf.un m⟩
end D
namespace L2
open PySem PySem.Spec PyProof.Rows
section
variable {X:Cx}{C:Addr}{x m:Str}{k:Nat}{ps:List Str}{sp:Sp}{e o:Expr}{es:List Expr}{ta:TE}{t:TA}{p pos apos:Pos}
end
end L2
namespace D
open PySem L2
section
variable {X:Cx}{C:Addr}{x m:Str}{k:Nat}{ps:List Str}{sp:Sp}{e o:Expr}{es:List Expr}{ta:TE}{t:TA}{p pos apos:Pos}
end
end D
namespace L2
open PySem PySem.Spec PyProof.Rows
theorem Inv.turnedL {X:Cx}{zp:List (Addr × Obj)}{σ:St}{H:Hp}{s:Shared}{h':Heap}{t':Nat}{fp:List Addr} (I:Inv X zp σ H s) (k:∀ b o,b ∉ fp->s.heap.get? b = some o->h'.get? b = some o) (hf:∀ b∈fp,FpOk X zp H b):
  Inv X zp σ H { s with heap:=h',toks:=t' }:=by
 have nit:∀ b u,H b = some u->b ∉ fp:=fun b u e z=>by
  have:=(hf b z).1
  rw [e] at this
  cases this
 refine I.step (g':=s.gens) (d':=s.drawn) (ch:=fp) (fun b hb=>?_) (fun b o _ _ hc e _=>k b o hc e) (fun b o _ _ hc e _=>⟨o.slots,k b o hc e⟩) (fun _ _ _ _ n=>n)
  (fun b o hc e=>⟨o,k b o hc e⟩) (fun _ _ e=>e) (fun _ _ _ e=>e) (fun b ps e=>⟨#[],by rw [e]; simp⟩) (fun m hm=>?_) (fun b u e=>?_) I.bare
 ·obtain ⟨f0,f1,f2,f3,f4,f5⟩:=hf b hb
  exact ⟨f3,f1,f4,f5⟩
 ·obtain ⟨o,es,ep,ho,r⟩:=hm
  exact ⟨o,es,ep,k _ o (fun z=>(hf _ z).2.1 rfl) ho,r⟩
 ·refine (I.hok b u e).stay (fun c v hc q=>k c v ?_ q) (fun _ q=>q) fun _ _ q=>q
  rcases hc with z | z
  ·rw [z]; exact nit b u e
  ·exact nit c _ z
theorem push_old {h:Heap}{o u:Obj}{b:Addr} (e:(h.push o).get? b = some u) (hb:b < h.objs.size):h.get? b = some u:=by
 rcases Heap.get?_push_cases e with ⟨r,_⟩ | r
 ·rw [r] at hb
  exact absurd hb (Nat.lt_irrefl _)
 ·exact r
def Ite (K:PySem.W.Frag) (a:Addr):It:=
 ⟨fun i H=>∃ xs x,SqL K H a xs/\xs[i]? = some x,fun i H x H'=>∃ t y,H t = none/\x = .ref t/\(∀ xs,SqL K H a xs->xs[i]? = some y)/\H' = upd H t (.tup [.int i,y]),fun i H=>∃ xs,SqL K H a xs/\xs.length<=i⟩
theorem turn_enum {P:Program}{w:World}{K:PySem.W.Frag}{elts:List Expr}{k:Nat}{pos:Pos} (a e it:Addr) (hei:e≠it):Turn P w K (.Tuple elts k pos) (Ite K a) [e,it] e (fun i h=>(∃ old,IsEnum h e it i old)/\h.IsListIter it a i) where
 mem:=by simp
 obj:=fun i h st b hb=>by
  obtain ⟨⟨old,he⟩,hit⟩:=st
  have hc:b = e\/b = it:=by simpa using hb
  rcases hc with rfl | rfl
  ·exact ⟨_,he,fun v z=>by
    have z':Data.fields _ = Data.cell v:=z
    cases z'⟩
  ·obtain ⟨o,eo,c,d⟩:=hit
   exact ⟨o,eo,fun v z=>by rw [d] at z; cases z⟩
 keep:=fun i h h' st kk=>by
  obtain ⟨⟨old,he⟩,hit⟩:=st
  exact ⟨⟨old,kk e (by simp) _ he⟩,hit.at fun o x=>kk it (by simp) o x⟩
 item:=by
  intro X hP hw hK hc i zp s σ H E I hf st hg
  subst hP hw hK
  obtain ⟨⟨old,he⟩,hit⟩:=st
  obtain ⟨xs,x,hq,hx⟩:=hg
  obtain ⟨its,rv,p,hz⟩:=I.list hq
  obtain ⟨u,hu,ru⟩:=rv.get hx
  have hfr:H s.heap.objs.size = none:=I.hok.fresh (Nat.le_refl _)
  have helt:e < s.heap.objs.size:=Heap.lt_size he
  have hilt:it < s.heap.objs.size:=by obtain ⟨_,z,_⟩:=hit; exact Heap.lt_size z
  refine wpAny_pyNext_enum_item he hit p.isList (x:=u) (by simpa using hu) hei fun h' ho hit' hT hsz hk=>⟨_,rfl,wpAny_letOwnedTupleGo_enum ho fun h2 he2 hs2=>?_⟩
  have I1:Inv X zp σ (upd H s.heap.objs.size (.tup [.int i,x])) { s with heap:=s.heap.push { cls:=.type "tuple",data:=.seq #[.int i s.toks,u] },toks:=s.toks }:=
   I.laid (t':=s.toks) (fun b u e=>Heap.get?_push_of_some _ e) (Nat.le_refl _) ⟨zl2,[.int i s.toks,u],.cons ⟨_,rfl⟩ (.cons ru .nil),⟨_,Heap.get?_push_size _ rfl,rfl,_,rfl⟩⟩
  have nn:∀ b∈[e,it],upd H s.heap.objs.size (.tup [.int i,x]) b = none:=fun b hb=>by
   rw [upd_ne (fun z=>by
    have hc:b = e\/b = it:=by simpa using hb
    rcases hc with r | r
    ·rw [← r,z] at helt; exact Nat.lt_irrefl _ helt
    ·rw [← r,z] at hilt; exact Nat.lt_irrefl _ hilt)]
   exact (hf b hb).1
  have I2:Inv X zp σ (upd H s.heap.objs.size (.tup [.int i,x])) { s with heap:=h2,toks:=s.toks + 1 }:=by
   refine Inv.turnedL (s:={ s with heap:=s.heap.push { cls:=.type "tuple",data:=.seq #[.int i s.toks,u] },toks:=s.toks }) (h':=h2) (t':=s.toks + 1) (fp:=[e,it]) I1 (fun b o hb eb=>?_) (fun b hb=>?_)
   ·have hbe:b≠e:=fun z=>hb (by simp [z])
    have hbi:b≠it:=fun z=>hb (by simp [z])
    refine (hs2.2 b hbe).trans ?_
    by_cases hbs:b = s.heap.objs.size
    ·subst hbs
     have e1:(s.heap.push { cls:=.type "tuple",data:=.seq #[.int i s.toks,u] }).get? s.heap.objs.size = some { cls:=.type "tuple",data:=.seq #[.int i s.toks,u] }:=Heap.get?_push_size _ rfl
     have eb:(s.heap.push { cls:=.type "tuple",data:=.seq #[.int i s.toks,u] }).get? s.heap.objs.size = some o:=eb
     rw [e1] at eb
     cases eb
     exact hT
    ·refine hk b o hbe hbi ?_
     have eb:(s.heap.push { cls:=.type "tuple",data:=.seq #[.int i s.toks,u] }).get? b = some o:=eb
     have hlt:=Heap.lt_size eb
     rw [Heap.size_push] at hlt
     exact push_old eb (Nat.lt_of_le_of_ne (Nat.le_of_lt_succ hlt) hbs)
   ·obtain ⟨f0,f1,f2,f3,f4,f5⟩:=hf b hb
    exact ⟨nn b hb,f1,f2,f3,f4,f5⟩
  refine ⟨.ref s.heap.objs.size,_,I2,rfl,⟨s.heap.objs.size,x,hfr,rfl,fun ys hy=>by rw [I.list_inj hy hq]; exact hx,rfl⟩,⟨⟨_,by simpa using he2⟩,hit'.at fun o y=>(hs2.2 it hei.symm).trans y⟩,nn⟩
 done:=by
  intro X hP hw hK hc i zp s σ H E I hf st hg
  subst hP hw hK
  obtain ⟨⟨old,he⟩,hit⟩:=st
  obtain ⟨xs,hq,hx⟩:=hg
  obtain ⟨its,rv,p,hz⟩:=I.list hq
  have hl:=rv.length
  refine wpAny_pyNext_enum_end (I.ok.hd hc) he hit p.isList (by simp; omega) fun h' eb=>⟨rfl,?_⟩
  exact I.turnedL (t':=s.toks) (fp:=[e,it]) (fun b o hb e'=>eb b o (fun z=>hb (by simp [z])) e') hf
 self:=fun _ _ _ _ _ st h=>by
  obtain ⟨⟨old,he⟩,_⟩:=st
  exact wpAny_pyIter_enum he h
theorem boot_enum:bootBuiltins (Str.ofString "enumerate") = some (.type "enumerate"):=by kernel_rfl
def iEnum (K:PySem.W.Frag) (ta:TA):TI:=fun σ H R=>ta σ H fun vs H1=>∃ (a:Addr) (xs:List V),vs = [.ref a]/\SqL K H1 a xs/\R (Ite K a) H1
theorem pi_enum {X:Cx}{elts:List Expr}{k:Nat}{ps:Pos}{a:Expr}{ta:TA}{p pos:Pos} (hg:Gl X "enumerate") (hm:X.mg "enumerate" = none) (ha:PA X [a] ta) (hs:starEach [a] X.env = [(false,eval a X.env)]:=by rfl):
  PI X (.Tuple elts k ps) (.Call (.Name "enumerate" p) [a] [] pos) (iEnum X.K ta):=by
 intro zp s σ H R I h
 refine Call_ (ld_blt I hg hm boot_enum (PyProof.Rows.callWith_type1 (thn (ha pos zp s σ H _ I h) fun us s1 ⟨vs,H1,I1,r1,q1⟩=>?_) hs rfl))
 obtain ⟨b,xs,e,hq,q⟩:=q1
 subst e
 obtain ⟨u,rfl,rx⟩:=vals1 r1
 cases rx
 obtain ⟨its,rv,pl,hz⟩:=I1.list hq
 refine call_enumerate_list pl.isList fun h' he hi hsz hk=>?_
 have hne:s1.heap.objs.size + 1≠s1.heap.objs.size:=Nat.succ_ne_self _
 refine wpAny_pyIter_enum he ?_
 have I2:Inv X zp σ H1 { s1 with heap:=h',toks:=s1.toks }:=I1.kept (t':=s1.toks) hk
 refine ⟨s1.heap.objs.size + 1,[s1.heap.objs.size + 1,s1.heap.objs.size],_,_,H1,rfl,I2,turn_enum b _ _ hne,⟨⟨_,he⟩,hi⟩,fun c hc=>?_,q⟩
 have hcs:c = s1.heap.objs.size + 1\/c = s1.heap.objs.size:=by simpa using hc
 have hle:s1.heap.objs.size<=c:=by
  rcases hcs with r | r
  ·rw [r]; exact Nat.le_succ _
  ·rw [r]; exact Nat.le_refl _
 exact I1.fpOk hle (I1.hok.fresh hle)
theorem for_enum {K:PySem.W.Frag}{a:Addr}{xs:List V}{g:TG}{tb:TS}{D:Ends}{σ:St}{H:Hp} (Pv:Nat->St->Hp->Prop) (h0:Pv 0 σ H) (hl:∀ i σ H,i<=xs.length->Pv i σ H->SqL K H a xs)
  (hs:∀ i x t σ H,xs[i]? = some x->H t = none->Pv i σ H->g (.ref t) σ (upd H t (.tup [.int i,x])) fun σ2 H2=>tb { D with nx:=Pv (i + 1),ct:=Pv (i + 1),bk:=D.nx } σ2 H2) (hd:∀ σ H,Pv xs.length σ H->D.nx σ H):
  ∃ W:Nat->Nat->St->Hp->Prop,(∃ m,W 0 m σ H)/\∀ i m σ H,W i m σ H->
   ((Ite K a).stop i H/\D.nx σ H)\/((Ite K a).go i H/\∃ N:St->Hp->Prop,(∀ σ' H',N σ' H'->∃ m',m' < m/\W (i + 1) m' σ' H')/\∀ x H',(Ite K a).yld i H x H'->g x σ H' fun σ2 H2=>tb { D with nx:=N,ct:=N,bk:=D.nx } σ2 H2):=by
 refine ⟨fun i m σ H=>m = xs.length - i/\i<=xs.length/\Pv i σ H,⟨xs.length,by simp,Nat.zero_le _,h0⟩,?_⟩
 rintro i m σ H ⟨rfl,hi,p⟩
 have q:=hl i σ H hi p
 by_cases hlt:i < xs.length
 ·refine .inr ⟨⟨xs,xs[i],q,by simp [hlt]⟩,Pv (i + 1),fun σ' H' p'=>⟨xs.length - (i + 1),by omega,rfl,hlt,p'⟩,fun x H' y=>?_⟩
  obtain ⟨t,y,ht,rfl,hy,rfl⟩:=y
  exact hs i y t σ H (hy xs q) ht p
 ·have e:i = xs.length:=by omega
  subst e
  exact .inl ⟨⟨xs,q,Nat.le_refl _⟩,hd σ H p⟩
end L2
namespace D
open PySem L2
theorem pi_enum {X:Cx}{elts:List Expr}{k:Nat}{ps:Pos}{a:Expr}{ta:TA}{p pos:Pos} (hg:Gl X "enumerate") (hm:X.mg "enumerate" = none) (ha:QA X [a] ta) (hs:starEach [a] X.env = [(false,eval a X.env)]:=by rfl):
  QI X (.Tuple elts k ps) (.Call (.Name "enumerate" p) [a] [] pos) (iEnum X.K ta):=⟨L2.pi_enum hg hm ha.un hs⟩
end D
namespace D
open PySem L2 PySem.Spec PyProof.Rows
theorem op_neE {X:Cx} (hu:X.A.units < cLine):OpR X (compareOp .NotEq) (fun x y H Q=>∃ (a b:Addr) (us:List V),x = .ref a/\y = .ref b/\SqL X.K H a us/\SqL X.K H b []/\Q (.bl (!us.isEmpty)) H):=by
 intro zp s σ H x y v u Q I rx ry h
 obtain ⟨a,b,us,rfl,rfl,ha,hb,q⟩:=h
 cases rx
 cases ry
 obtain ⟨its,v1,p1,_⟩:=I.list ha
 obtain ⟨its2,v2,p2,_⟩:=I.list hb
 have l1:=v1.length
 have l2:=v2.length
 cases us with
 | nil=>
  have key:SeqAt.RcNeAt X.A s (.ref a) (.ref b) (!(List.range its.toArray.size).all fun _=>true):=
   SeqAt.RcNeAt.lists p1.isList p2.isList (by rw [List.size_toArray,List.size_toArray]; omega) hu (fun j h1 h2=>by
    have h3:j < its.length:=by simpa using h1
    exact absurd h3 (by rw [← l1]; exact Nat.not_lt_zero _))
  have e:(!(List.range its.toArray.size).all fun _=>true) = false:=by simp
  rw [e] at key
  exact key X.prog X.w _ _ ⟨.bl false,H,I,rfl,q⟩
 | cons x r=>
  have hsz:(its.toArray.size != its2.toArray.size) = true:=by
   rw [List.size_toArray,List.size_toArray,← l1,← l2]
   simp
  exact SeqAt.RcNeAt.lists_lengths p1.isList p2.isList hsz hu X.prog X.w _ _ ⟨.bl true,H,I,rfl,q⟩
theorem op_eqE {X:Cx} (hu:X.A.units < cLine):OpR X (compareOp .Eq) (fun x y H Q=>∃ (a b:Addr) (us:List V),x = .ref a/\y = .ref b/\SqL X.K H a us/\SqL X.K H b []/\Q (.bl us.isEmpty) H):=by
 intro zp s σ H x y v u Q I rx ry h
 obtain ⟨a,b,us,rfl,rfl,ha,hb,q⟩:=h
 cases rx
 cases ry
 obtain ⟨its,v1,p1,_⟩:=I.list ha
 obtain ⟨its2,v2,p2,_⟩:=I.list hb
 have l1:=v1.length
 have l2:=v2.length
 cases us with
 | nil=>
  refine SeqAt.eq_listAt (e:=fun _=>true) p1.isList p2.isList (by rw [List.size_toArray,List.size_toArray]; omega) hu (fun j h1 h2=>?_) ?_
  ·have h3:j < its.length:=by simpa using h1
   exact absurd h3 (by rw [← l1]; exact Nat.not_lt_zero _)
  ·have e:((List.range its.toArray.size).all fun _=>true) = true:=by simp
   rw [e]
   exact ⟨.bl true,H,I,rfl,q⟩
 | cons x r=>
  have hsz:(its.toArray.size != its2.toArray.size) = true:=by
   rw [List.size_toArray,List.size_toArray,← l1,← l2]
   simp
  exact SeqAt.eq_list_lengthsAt p1.isList p2.isList hsz hu ⟨.bl false,H,I,rfl,q⟩
end D
namespace L2
open PySem PySem.Spec PyProof.Rows
def txOf:Value->Str
 | .str z _=>z
 | _=>Str.ofString ""
def byTx (w:World):Bool:=w.params.followText "set-order"
def Tabled (w:World) (t:SetTable) (n:Nat):Prop:=t.led = !byTx w/\(n = 0\/t.plain = false)
def SetTx (P:Program) (w:World) (a:Addr) (ds:List Str) (h:Heap):Prop:=
 ∃ (o:Obj) (es:Array (Int × Value)) (ep:Nat) (t:SetTable),h.get? a = some o/\o.ExactSet/\o.data = .set es ep t/\ElemsOf (mixKind P w) es.toList/\(∀ e∈es.toList,∃ z tk,e.2 = .str z tk) /\
  (es.toList.map fun e=>txOf e.2).Perm ds/\es.size < scanBound/\t.fits es.size = true/\Tabled w t es.size
def addS (ds:List Str) (z:Str):List Str:=if z∈ds then ds else ds ++ [z]
theorem or_marks (t:SetTable) (n:Nat):(t.orStandIn n).led = t.led/\(t.plain = false->(t.orStandIn n).plain = false):=by
 unfold SetTable.orStandIn
 split
 ·exact ⟨rfl,id⟩
 ·exact ⟨rfl,fun _=>rfl⟩
theorem lay_marks (t:SetTable) (es:Array (Int × Value)) (h:Int) (x:Value):(layNew t es h x).2.1.led = t.led/\(t.plain = false->(layNew t es h x).2.1.plain = false):=by
 unfold layNew
 split
 ·rename_i slot dm _
  obtain ⟨a,b⟩:=or_marks (t.put slot).1 (SetTable.insertAt es (t.put slot).2 (h,x)).size
  exact ⟨a,fun z=>b z⟩
 ·exact ⟨rfl,fun _=>rfl⟩
theorem relaid_marks {t t':SetTable}{hs:Array Int}{n:Nat}{order:Array Nat} (e:t.relaid hs n = some (t',order)):t'.led = t.led/\t'.plain = t.plain:=by
 unfold SetTable.relaid SetTable.laid at e
 cases hc:SetTable.layClean (SetTable.sizeAbove n - 1) hs with
 | none=>rw [hc] at e; cases e
 | some ow=>
  rw [hc] at e
  cases e
  exact ⟨rfl,rfl⟩
theorem relay_marks (t:SetTable) (es:Array (Int × Value)) (n:Nat):(relayAll t es n).2.1.led = t.led/\(t.plain = false->(relayAll t es n).2.1.plain = false):=by
 unfold relayAll
 split
 ·rename_i t' order e
  obtain ⟨a,b⟩:=relaid_marks e
  dsimp only
  split
  ·exact ⟨a,fun z=>b.trans z⟩
  ·exact ⟨rfl,fun _=>rfl⟩
 ·exact ⟨rfl,fun _=>rfl⟩
theorem SetTx.store {P:Program}{w:World}{h:Heap}{a:Addr}{o:Obj}{es es':Array (Int × Value)}{ep:Nat}{t t':SetTable}{ds:List Str} (ho:h.get? a = some o) (hex:o.ExactSet) (hd:o.data = .set es ep t)
  (hel:ElemsOf (mixKind P w) es'.toList) (htx:∀ e∈es'.toList,∃ z tk,e.2 = .str z tk) (hp:(es'.toList.map fun e=>txOf e.2).Perm ds) (hb:es'.size < scanBound) (hf:t'.fits es'.size = true) (hm:Tabled w t' es'.size):
  (h.update a (Obj.putSet es' t')).get? a = some { o with data:=.set es' (ep + 1) t' }/\SetTx P w a ds (h.update a (Obj.putSet es' t')):=by
 have g:(h.update a (Obj.putSet es' t')).get? a = some { o with data:=.set es' (ep + 1) t' }:=by
  rw [← putSet_of es' t' hd]
  exact Heap.get?_update_self _ ho (by rw [putSet_of es' t' hd]; rfl)
 exact ⟨g,_,es',ep + 1,t',g,hex,rfl,hel,htx,hp,hb,hf,hm⟩
section
variable {P:Program}{w:World}{A:Around}{E:Value->Shared->Prop}
theorem set_add_tx {s:Shared}{a:Addr}{ds:List Str}{z:Str}{tk:Tok}{Q:Bool->Shared->Prop} (hS:SetTx P w a ds s.heap) (room:ds.length + 1 < scanBound)
  (h:∀ (b:Bool) (h':Heap),Heap.SameBut a s.heap h'->SetTx P w a (addS ds z) h'->Q b { s with heap:=h' }):
  wpAny (model P w) A (setAddHashed a (.str z tk) ((mixKind P w).hash (.inr z))) Q E s:=by
 have hS0:=hS
 obtain ⟨o,es,ep,t,ho,hex,hd,hel,htx,hpm,hb,hf,hmk⟩:=hS
 have hsz:es.size = ds.length:=by
  have:=hpm.length_eq
  rw [List.length_map,Array.length_toList] at this
  exact this
 have is:=mixKind_str P w z tk
 unfold setAddHashed setAddHashedIn
 refine wpAny_holding (wpAny_bind (wpAny_setState_of ho hd hf ?_))
 dsimp only
 rw [byScan_of (knd:=mixKind P w) (x:=.str z tk) rfl hb hel]
 simp only [↓reduceIte]
 unfold setAddByScan
 refine wpAny_bind (wpAny_bind (wpAny_rule (wpAny_bind (wpAny_setScan_of is ho hd hf hel ?_))))
 cases hr:es.toList.findIdx? (fun e=>(mixKind P w).is (.inr z) e.2) with
 | some j=>
  obtain ⟨hj,hpj,_⟩:=List.findIdx?_eq_some_iff_getElem.mp hr
  have hin:z∈ds:=by
   obtain ⟨y,u,e⟩:=htx _ (List.getElem_mem hj)
   have hzy:z = y:=by
    rw [e] at hpj
    have:=(mixKind P w).inj (.str y u) (.inr z) (.inr y) hpj (mixKind_str P w y u)
    exact Sum.inr.inj this
   refine hpm.mem_iff.mp (List.mem_map.mpr ⟨_,List.getElem_mem hj,?_⟩)
   rw [e,hzy]
   rfl
  have key:=h false s.heap (Heap.SameBut.refl a s.heap) (by unfold addS; rw [if_pos hin]; exact hS0)
  exact wpAny_pure (wpAny_pure key)
 | none=>
  have hout:z ∉ ds:=fun hz=>by
   obtain ⟨e,he,hze⟩:=List.mem_map.mp (hpm.mem_iff.mpr hz)
   obtain ⟨y,u,ey⟩:=htx e he
   have h1:=List.findIdx?_eq_none_iff.mp hr e he
   rw [ey] at h1 hze
   have:y = z:=hze
   subst this
   rw [mixKind_str] at h1
   cases h1
  have ead:addS ds z = ds ++ [z]:=by unfold addS; rw [if_neg hout]
  dsimp only
  have hperm:=layNew_perm t es ((mixKind P w).hash (.inr z)) (.str z tk)
  have hfits:=layNew_fits t es ((mixKind P w).hash (.inr z)) (.str z tk)
  have hmark:=lay_marks t es ((mixKind P w).hash (.inr z)) (.str z tk)
  generalize layNew t es ((mixKind P w).hash (.inr z)) (.str z tk) = L at hperm hfits hmark ⊢
  obtain ⟨es1,t1,dm,gave⟩:=L
  dsimp only at hperm hfits hmark ⊢
  rw [Array.toList_push] at hperm
  have hel1:ElemsOf (mixKind P w) es1.toList:=(hel.push is rfl).perm hperm
  have htx1:∀ e∈es1.toList,∃ z tk,e.2 = .str z tk:=fun e he=>by
   rcases List.mem_append.mp (hperm.mem_iff.mp he) with h1 | h1
   ·exact htx e h1
   ·rw [List.mem_singleton.mp h1]; exact ⟨_,_,rfl⟩
  have hpm1:(es1.toList.map fun e=>txOf e.2).Perm (ds ++ [z]):=by
   refine (hperm.map _).trans ?_
   rw [List.map_append]
   exact hpm.append (List.Perm.refl _)
  have hsz1:es1.size = ds.length + 1:=by
   have:=hpm1.length_eq
   rw [List.length_map,Array.length_toList,List.length_append] at this
   exact this
  have hb1:es1.size < scanBound:=by omega
  have gw:∀ (b:Bool) (s1:Shared) (Q':Unit->Shared->Prop),Q' () s1->wpAny (model P w) A (match b with | true=>rule "set.scan.the-table-gave-way" | false=>pure ()) Q' E s1:=fun b s1 Q' hq=>by
   cases b
   ·exact wpAny_pure hq
   ·exact wpAny_rule hq
  refine wpAny_bind (gw _ _ _ ?_)
  have tail:∀ t2:SetTable,t2.fits es1.size = true->Tabled w t2 es1.size->wpAny (model P w) A (storeSet a es1 t2 >>= fun _=>if (!dm && t2.tooFull) = true then (match (relayAll t2 es1 (SetTable.grown es1.size)).2.2 with | true=>rule "set.scan.the-table-gave-way" | false=>pure ()) >>= fun _=>storeSet a (relayAll t2 es1 (SetTable.grown es1.size)).1 (relayAll t2 es1 (SetTable.grown es1.size)).2.1 >>= fun _=>pure (some true) else pure (some true))
    (fun r s'=>wpAny (model P w) A (match r with | some added=>pure added | none=>setAddHashedIn a (.str z tk) ((mixKind P w).hash (.inr z)) 99999) Q E s') E s:=fun t2 hf2 hm2=>by
   obtain ⟨g1,S1⟩:=SetTx.store (es':=es1) (t':=t2) (ds:=ds ++ [z]) ho hex hd hel1 htx1 hpm1 hb1 hf2 hm2
   refine wpAny_bind (wpAny_storeSet_of ho hd ?_ (fits_of_scanBound hb1))
   have sb1:=Heap.SameBut.update s.heap a (Obj.putSet es1 t2)
   split
   ·have hp:=relayAll_perm t2 es1 (SetTable.grown es1.size)
    have hfr:=relayAll_fits t2 es1 (SetTable.grown es1.size)
    have hmr:=relay_marks t2 es1 (SetTable.grown es1.size)
    generalize relayAll t2 es1 (SetTable.grown es1.size) = Rl at hp hfr hmr ⊢
    obtain ⟨es2,t3,gv⟩:=Rl
    dsimp only at hp hfr hmr ⊢
    have hz2:es2.size = es1.size:=by rw [← Array.length_toList,hp.length_eq,Array.length_toList]
    have hb2:es2.size < scanBound:=by rw [hz2]; exact hb1
    refine wpAny_bind (gw _ _ _ (wpAny_bind (wpAny_storeSet_of g1 rfl ?_ (fits_of_scanBound hb2))))
    obtain ⟨_,S2⟩:=SetTx.store (es':=es2) (t':=t3) (ds:=ds ++ [z]) g1 hex rfl (hel1.perm hp) (fun e he=>htx1 e (hp.mem_iff.mp he)) ((hp.map _).trans hpm1) hb2 hfr ⟨hmr.1.trans hm2.1,.inr (hmr.2 (hm2.2.resolve_left (by omega)))⟩
    exact wpAny_pure (wpAny_pure (h true _ (sb1.trans (Heap.SameBut.update _ a _)) (by rw [ead]; exact S2)))
   ·exact wpAny_pure (wpAny_pure (h true _ sb1 (by rw [ead]; exact S1)))
  split
  ·refine wpAny_bind ?_
   rw [hashByValue_scannable 8 rfl]
   exact wpAny_pure (tail { t1 with plain:=false } (SetTable.fits_plain_off hfits) ⟨hmark.1.trans hmk.1,.inr rfl⟩)
  ·rename_i hpl
   exact wpAny_bind (wpAny_pure (tail t1 hfits ⟨hmark.1.trans hmk.1,.inr (by simpa using hpl)⟩))
def allS (ys:List Str):List Str:=ys.foldl addS []
theorem allS_snoc (ys:List Str) (z:Str):allS (ys ++ [z]) = addS (allS ys) z:=by unfold allS; rw [List.foldl_append]; rfl
theorem addS_mem {ds:List Str}{z y:Str}:y∈addS ds z ↔ y∈ds\/y = z:=by
 unfold addS
 split
 ·exact ⟨.inl,fun h=>h.elim id fun e=>by rw [e]; assumption⟩
 ·rw [List.mem_append,List.mem_singleton]
theorem addS_len {ds:List Str}{z:Str}:(addS ds z).length<=ds.length + 1:=by
 unfold addS
 split
 ·omega
 ·rw [List.length_append]; exact Nat.le_refl _
theorem foldl_mem {y:Str}:∀ (ys ds:List Str),y∈ys.foldl addS ds ↔ y∈ds\/y∈ys
 | [],ds=>by simp
 | z :: ys,ds=>by rw [List.foldl_cons,foldl_mem ys,addS_mem,List.mem_cons]; exact or_assoc
theorem foldl_len:∀ (ys ds:List Str),(ys.foldl addS ds).length<=ds.length + ys.length
 | [],ds=>by simp
 | z :: ys,ds=>by
  have h1:=foldl_len ys (addS ds z)
  have h2:=addS_len (ds:=ds) (z:=z)
  rw [List.foldl_cons,List.length_cons]
  omega
theorem allS_mem {ys:List Str}{y:Str}:y∈allS ys ↔ y∈ys:=by unfold allS; rw [foldl_mem]; simp
theorem allS_len (ys:List Str):(allS ys).length<=ys.length:=by have:=foldl_len ys []; simpa [allS] using this
theorem set_fill_tx {R:Result->Shared->Prop}{I:Addr}{fp wr:List Addr}{G:Array GenState->Array GenState->Prop}{Pi:Nat->Value->Prop}{St:Nat->Shared->Prop} (ys:List Str)
  (Wk:WalksS P w A.in1 I fp wr G ys.length Pi St) (S:Addr) (hSf:S ∉ fp) (hk:∀ i v,Pi i v->∃ z tk,ys[i]? = some z/\v = .str z tk) (hb:ys.length + 1 < scanBound):
  ∀ (m i:Nat) (s:Shared),m + i = ys.length->St i s->SetTx P w S (allS (ys.take i)) s.heap->
   (∀ s',Moved (S :: wr) G s s'->SetTx P w S (allS ys) s'.heap->R (.ok (.ret .none)) s')->codeAny (model P w) A (.builtin "set.update.loop" ⟨[.ref S,.ref I],[]⟩) R s:=by
 have out:S ∉ wr:=fun z=>hSf (Wk.sub _ z)
 have wid:∀ b∈wr,b∈S :: wr:=fun b z=>.tail _ z
 have held:∀ (s s':Shared) (ds:List Str),SetTx P w S ds s.heap->(∀ o,s.heap.get? S = some o->s'.heap.get? S = some o)->SetTx P w S ds s'.heap:=fun s s' ds ⟨o,es,ep,t,ho,rest⟩ k=>⟨o,es,ep,t,k o ho,rest⟩
 intro m
 induction m with
 | zero=>
  intro i s hi st hs fin
  obtain rfl:i = ys.length:=by omega
  rw [List.take_length] at hs
  refine codeAny_builtin PyProof.Rows.F.entry_set_update_loop ?_
  rw [Around.under_plainId PyProof.Rows.F.plain_set_update_loop _]
  refine (show wpAny _ A.in1 (pyNext (.ref I) >>= _) _ _ s from wpAny_bind (Wk.done s _ _ st fun s' mv=>?_))
  exact (show wpAny _ A.in1 (ret Value.none) _ _ s' from wpAny_pure (fin s' (mv.mono wid) (held s s' _ hs fun o e=>mv.heap S o out e)))
 | succ m ih=>
  intro i s hi st hs fin
  have lt:i < ys.length:=by omega
  refine codeAny_builtin PyProof.Rows.F.entry_set_update_loop ?_
  rw [Around.under_plainId PyProof.Rows.F.plain_set_update_loop _]
  refine (show wpAny _ A.in1 (pyNext (.ref I) >>= _) _ _ s from wpAny_bind (Wk.item i s _ _ lt st fun v s' hv st' mv=>?_))
  obtain ⟨z,tk,hz,rfl⟩:=hk i v hv
  have hs':=held s s' _ hs fun o e=>mv.heap S o out e
  refine (show wpAny _ A.in1 (holding [.str z tk] (setAdd S (.str z tk)) >>= _) _ _ s' from wpAny_bind (wpAny_holding ?_))
  unfold setAdd
  refine wpAny_holding (wpAny_bind ((mixKind P w).pyHash (k:=.inr z) (mixKind_str P w z tk) ?_))
  have hl:=allS_len (ys.take i)
  rw [List.length_take] at hl
  refine set_add_tx (s:={ s' with toks:=s'.toks + 1 }) hs' (by omega) fun b h' sb S2=>?_
  rw [← allS_snoc,show ys.take i ++ [z] = ys.take (i + 1) by rw [List.take_succ,hz]; rfl] at S2
  refine wpAny_pure ⟨plainId_quiet PyProof.Rows.F.plain_set_update_loop _,ih (i + 1) _ (by omega) (Wk.frame _ s' _ _ st' (Nat.le_succ _) fun b hb' o e=>?_) S2 fun s'' mv'' z'=>?_⟩
  ·rw [sb.2 b (fun z:b = S=>hSf (by rw [← z]; exact hb'))]; exact e
  ·refine fin s'' (Moved.trans Wk.gtrans ((mv.mono wid).then_heap (Nat.le_succ _) fun b o hb' e=>?_) mv'') z'
   rw [sb.2 b (fun y:b = S=>hb' (by rw [y]; exact List.mem_cons_self))]; exact e
end
section
variable {P:Program}{w:World}{A:Around}{E:Value->Shared->Prop}
abbrev setO (led:Bool):Obj:={ cls:=.type "set",dict:=none,data:=.set #[] 0 (.fresh 0 0 led) }
theorem set_new_tx {s:Shared} (a:Value) {Q₁:Value->Shared->Prop} (h:Q₁ (.ref s.heap.objs.size) { s with heap:=s.heap.push (setO (!byTx w)) }):
  codeAny (model P w) A (.call (.builtin "set.__new__") ⟨[.type "set",a],[]⟩) (wants Q₁ E) s:=by
 refine codeAny_of_tree (show wpAny _ A.in1 (checkBuiltinCall "set.__new__" ⟨[.type "set",a],[]⟩ >>= fun _=>again (.builtin "set.__new__" ⟨[.type "set",a],[]⟩)) _ _ s from ?_)
 refine wpAny_bind (wpAny_of_eq (PySem.F.newCall_set_1 a) (wpAny_pure ⟨plainId_quiet PySem.F.plain_set_new _,codeAny_builtin PySem.F.entry_set_new ?_⟩))
 rw [Around.under_plainId PySem.F.plain_set_new _]
 unfold Builtin.«set.__new__» Builtin.Frozenset.newClass
 have hsub:=PySem.sub_set_self
 obtain ⟨hp,g,d,tk,os⟩:=s
 dsimp only
 wp_walk
 refine wpAny_askSetting (wpAny_pure ?_)
 simp only [newObj]
 exact wpAny_bind (wpAny_alloc (wpAny_pure (wpAny_pure h)))
set_option maxHeartbeats 8000000 in
theorem set_of_tx {s:Shared}{l:Addr}{items:Array Value}{ys:List Str}{Q:Value->Shared->Prop} (hh:A.handled = none) (hl:s.heap.IsList l items) (hz:items.size = ys.length)
  (hk:∀ (i:Nat) (v:Value),items[i]? = some v->∃ z tk,ys[i]? = some z/\v = .str z tk) (hb:ys.length + 1 < scanBound)
  (h:∀ (h':Heap) (tk:Nat),SetTx P w s.heap.objs.size (allS ys) h'->(∀ b o,b < s.heap.objs.size->s.heap.get? b = some o->h'.get? b = some o)->Q (.ref s.heap.objs.size) { s with heap:=h',toks:=tk }):
  wpAny (model P w) A (call (.type "set") [.ref l]) Q E s:=by
 obtain ⟨_,_,hmro⟩:=PySem.F.called_set.mro
 have hmade:=PySem.F.called_set.made
 have hsub:=PySem.F.called_set.sub
 refine wpAny_call (codeAny_of_tree (show wpAny _ _ (callAny (.type "set") _) _ _ _ from wpAny_pure ⟨Code.quiet_builtin _ (by decide +kernel),codeAny_builtin PySem.F.entry_type_call ?_⟩))
 rw [Around.under_plain (weight_type_call_type "set" [.ref l] []) rfl]
 have h1:=PySem.F.called_set.notType
 have h2:=PySem.F.called_set.canCreate
 have hct:=PySem.F.typeCall_set_1 (.ref l)
 repeat any_goals (first | assumption | wp_step)
 refine codeAny_mono (set_new_tx (.ref l) (E:=E) (Q₁:=fun obj s₁=>obj = .ref s.heap.objs.size/\s₁ = { s with heap:=s.heap.push (setO (!byTx w)) }) ⟨rfl,rfl⟩) fun r s₁ hr=>?_
 cases r with
 | error e=>exact hr
 | ok fl=>
  cases fl with
  | ret obj=>
   obtain ⟨rfl,rfl⟩:=hr
   have gS:(s.heap.push (setO (!byTx w))).get? s.heap.objs.size = some (setO (!byTx w)):=Heap.get?_push_size _ rfl
   have tS:Shared.TypeIs { s with heap:=s.heap.push (setO (!byTx w)) } (.ref s.heap.objs.size) "set":=⟨_,gS,rfl⟩
   have hli:=PySem.F.called_set.init.lookup
   have hbi:=PySem.F.called_set.init.bind (.ref s.heap.objs.size)
   repeat any_goals (first | assumption | wp_step)
   refine codeAny_mono (codeAny_call_builtin (R:=wants (fun r s₂=>r = .none/\∃ h' tk,s₂ = { s with heap:=h',toks:=tk }/\SetTx P w s.heap.objs.size (allS ys) h'/\∀ b o,b < s.heap.objs.size->s.heap.get? b = some o->h'.get? b = some o) E)
    PySem.F.called_set.init.plain PySem.F.entry_set_init (check_set_init_1 tS ?_)) fun r₂ s₂ hr₂=>?_
   ·obtain ⟨ol,hol,hcl,nl,hdl⟩:=hl
    obtain ⟨ocls,odict,odata,oslots⟩:=ol
    simp only at hcl hdl
    subst hcl hdl
    have hol':(s.heap.push (setO (!byTx w))).get? l = some { cls:=.type "list",dict:=odict,data:=.seq items nl,slots:=oslots }:=Heap.get?_push_of_some _ hol
    have hsls:=PySem.F.sub_list_set
    have hslf:=PySem.F.sub_list_frozenset
    have hne:(Value.type "list" == Value.type "dict") = false:=by decide
    have hl1:(s.heap.push (setO (!byTx w))).IsList l items:=⟨_,hol',rfl,nl,rfl⟩
    unfold Builtin.«set.__init__» noKeywords Builtin.Frozenset.updateFrom
    generalize hPI:pyIter = PI
    wp_walk
    subst hPI
    refine wpAny_pyIter_list hl1 (wpAny_bind (wpAny_runValue ?_))
    have hlS:l < s.heap.objs.size:=Heap.lt_size hol
    have hh3:A.in1.in1.in1.handled = none:=by simp [hh]
    have sz:(s.heap.push (setO (!byTx w))).objs.size = s.heap.objs.size + 1:=Heap.size_push ..
    have n1:l≠(s.heap.push (setO (!byTx w))).objs.size:=by rw [sz]; exact Nat.ne_of_lt (Nat.lt_succ_of_lt hlS)
    have n2:s.heap.objs.size ∉ [(s.heap.push (setO (!byTx w))).objs.size,l]:=by
     intro z
     rcases List.mem_cons.mp z with z | z
     ·rw [sz] at z
      exact absurd z (Nat.ne_of_lt (Nat.lt_succ_self _))
     ·exact absurd (List.mem_singleton.mp z) (Nat.ne_of_gt hlS)
    have Wl:=(Walks.list (prog:=P) (w:=w) hh3 _ l n1 items).toS
    rw [hz] at Wl
    refine set_fill_tx ys Wl s.heap.objs.size n2 (fun i v hv=>hk i v hv) hb ys.length 0 _ (by omega)
     ⟨⟨_,Heap.get?_push_size _ rfl,rfl,rfl⟩,(hl1.push _)⟩ ?c0 ?cR
    case c0=>
     have hget:=Heap.get?_push_of_some { cls:=.type "list_iterator",data:=.fields #[.ref l,.int 0 0] } gS
     exact ⟨_,#[],0,_,hget,⟨rfl,rfl,rfl⟩,rfl,(fun e he=>by simp at he),(fun e he=>by simp at he),(by simp [allS]),by decide,by rfl,rfl,.inl rfl⟩
    case cR=>
     intro s' hm hS'
     obtain ⟨h',g',d',tk',os'⟩:=s'
     have eg:g' = s.gens:=hm.gens
     have ed:d' = s.drawn:=hm.drawn
     have eo:os' = s.os:=hm.os
     subst eg ed eo
     refine wpAny_pure (show wpAny _ _ (ret Value.none) _ _ _ from wpAny_pure ⟨rfl,h',tk',rfl,hS',fun b o hb e=>?_⟩)
     refine hm.heap b o ?_ (Heap.get?_push_of_some _ (Heap.get?_push_of_some _ e))
     intro z
     rcases List.mem_cons.mp z with z | z
     ·exact absurd z (Nat.ne_of_lt hb)
     ·have z:=List.mem_singleton.mp z
      rw [sz] at z
      exact absurd z (Nat.ne_of_lt (Nat.lt_succ_of_lt hb))
   ·cases r₂ with
    | error e=>exact hr₂
    | ok fl₂=>
     cases fl₂ with
     | ret r=>
      obtain ⟨rfl,h',tk,rfl,hS',hk'⟩:=hr₂
      repeat any_goals (first | assumption | wp_step)
      exact h _ _ hS' hk'
     | _=>exact hr₂.elim
  | _=>exact hr.elim
end
def SetH (P:Program) (w:World) (a:Addr) (ds:List Str):HO:=.ext (SetTx P w a ds)
theorem call_set_tx {X:Cx} (hc:X.calm = true):CallR X (.type "set") (fun xs H Q=>∃ (p:Addr) (ys:List Str),xs = [.ref p]/\SqL X.K H p (ys.map V.str)/\ys.length<=1000/\∀ l,H l = none->Q (.ref l) (upd H l (SetH X.prog X.w l (allS ys)))):=by
 intro zp s σ H xs us Q I r h
 obtain ⟨p,ys,rfl,hq,hz,q⟩:=h
 obtain ⟨u,rfl,rx⟩:=vals1 r
 cases rx
 obtain ⟨its,rv,pl,_⟩:=I.list hq
 have l1:=rv.length
 rw [List.length_map] at l1
 have lz:its.toArray.size = ys.length:=by rw [List.size_toArray,l1]
 refine set_of_tx (I.ok.hd hc) pl.isList lz (fun i v hv=>?_) (by unfold scanBound; omega) (fun h' tk hS kp=>?_)
 ·have hv':its[i]? = some v:=by simpa using hv
  have hi:i < ys.length:=by rw [l1]; exact (List.getElem?_eq_some_iff.mp hv').1
  obtain ⟨u1,hu1,t1,rfl⟩:=rv.get (i:=i) (x:=V.str ys[i]) (by rw [List.getElem?_map,List.getElem?_eq_getElem hi]; rfl)
  rw [hu1] at hv'
  cases hv'
  exact ⟨_,_,List.getElem?_eq_getElem hi,rfl⟩
 ·have kp':∀ b o,s.heap.get? b = some o->h'.get? b = some o:=fun b o e=>kp b o (Heap.lt_size e) e
  refine ⟨.ref s.heap.objs.size,_,I.laid (t':=tk) kp' (Nat.le_refl _) (show ObjOk X.prog X.w _ h' _ (SetH X.prog X.w s.heap.objs.size (allS ys)) from ⟨hS,?_,fun h1 h2 ⟨o,es,ep,t,ho,rest⟩ hk=>⟨o,es,ep,t,hk o ho,rest⟩⟩),rfl,q _ (I.hok.fresh (Nat.le_refl _))⟩
  obtain ⟨o,es,ep,t,ho,rest⟩:=hS
  exact ⟨o,ho⟩
theorem slot_sit_next:Slot "set_iterator" "__next__" "set_iterator.__next__":=
 .of (owner:="set_iterator") (n:="__next__") (by rw [typeLookup_type,builtinLookup_eq_fast]; kernel_rfl)
  (by decide +kernel) (by decide +kernel) (by decide +kernel) (.inl (by decide +kernel)) (by rw [isSubtype_type]; kernel_rfl)
theorem slot_sit_iter:Slot "set_iterator" "__iter__" "set_iterator.__iter__":=
 .of (owner:="set_iterator") (n:="__iter__") (by rw [typeLookup_type,builtinLookup_eq_fast]; kernel_rfl)
  (by decide +kernel) (by decide +kernel) (by decide +kernel) (.inl (by decide +kernel)) (by rw [isSubtype_type]; kernel_rfl)
theorem entry_sit_next:entryFor table "set_iterator.__next__" = some Builtin.«set_iterator.__next__»:=entryFor_of_tree (by kernel_rfl)
theorem entry_sit_iter:entryFor table "set_iterator.__iter__" = some Builtin.«dict_keyiterator.__iter__»:=
 entryFor_alias (id':="dict_keyiterator.__iter__") (by kernel_rfl) (by decide +kernel) (by decide +kernel) (by kernel_rfl)
theorem entry_set_iter:entryFor table "set.__iter__" = some Builtin.«frozenset.__iter__»:=
 entryFor_alias (id':="frozenset.__iter__") (by kernel_rfl) (by decide +kernel) (by decide +kernel) (by kernel_rfl)
theorem owner_sit:Manifest.owners.lookup (String.ofList "rotareti_tes".toList.reverse) = some Manifest.sig_set_iterator:=by kernel_rfl
theorem args_sit_next (a:Value):argsOk "set_iterator.__next__" ⟨[a],[]⟩:=by
 unfold argsOk
 rw [signature?_of (id:="set_iterator.__next__") (n:="__txen__".toList) (o:="rotareti_tes".toList) (by kernel_rfl) owner_sit]
 kernel_rfl
theorem args_sit_iter (a:Value):argsOk "set_iterator.__iter__" ⟨[a],[]⟩:=by
 unfold argsOk
 rw [signature?_of (id:="set_iterator.__iter__") (n:="__reti__".toList) (o:="rotareti_tes".toList) (by kernel_rfl) owner_sit]
 kernel_rfl
theorem erase_perm {α:Type}{l:List α}{i:Nat} (h:i < l.length):(l[i] :: l.eraseIdx i).Perm l:=by
 rw [List.eraseIdx_eq_take_drop_succ]
 refine List.perm_middle.symm.trans ?_
 rw [List.getElem_cons_drop h,List.take_append_drop]
theorem pick_go {α:Type} (nx:Nat->Nat):∀ (fuel k:Nat) (left:List α) (out:Array α),fuel = left.length->(pickOrder.go nx fuel k left out).toList.Perm (out.toList ++ left)
 | 0,k,left,out,h=>by
  have:left = []:=List.length_eq_zero_iff.mp h.symm
  subst this
  unfold pickOrder.go
  simp
 | fuel + 1,k,left,out,h=>by
  have hpos:0 < left.length:=by omega
  have hi:nx k % left.length < left.length:=Nat.mod_lt _ hpos
  unfold pickOrder.go
  rw [List.getElem?_eq_getElem hi]
  refine (pick_go nx fuel (k + 1) _ _ (by rw [List.length_eraseIdx,if_pos hi]; omega)).trans ?_
  rw [Array.toList_push,List.append_assoc]
  exact List.Perm.append_left _ (erase_perm hi)
theorem pick_perm {α:Type} (nx:Nat->Nat) (xs:Array α):(pickOrder nx xs).toList.Perm xs.toList:=by
 have:=pick_go nx xs.size 0 xs.toList #[] (by rw [Array.length_toList])
 simpa [pickOrder] using this
section
variable {P:Program}{w:World}{A:Around}{E:Value->Shared->Prop}
theorem draw_any {α:Type} (n:Nat):∀ (xs:List α) (s:Shared) (Q:List α->Shared->Prop),xs.length = n->(∀ (ys:List α) d',ys.Perm xs->Q ys { s with drawn:=d' })->wpAny (model P w) A (drawOrder n xs) Q E s:=by
 induction n with
 | zero=>
  intro xs s Q h q
  have:xs = []:=List.length_eq_zero_iff.mp h
  subst this
  unfold drawOrder
  exact wpAny_pure (q [] s.drawn .nil)
 | succ n ih=>
  intro xs s Q h q
  cases xs with
  | nil=>cases h
  | cons x xs=>
  unfold drawOrder
  refine wpAny_bind (fun Γ p hΓ=>?_)
  show Sem.wp _ _ (Sem.choose .order (x :: xs).length Sem.pure) _ _ _ _
  rw [Sem.wp_choose]
  refine ⟨by simp,?_⟩
  rw [Sem.wp_pure]
  have hi:(model P w).w.draws .order (s.drawn.get .order) % (x :: xs).length < (x :: xs).length:=Nat.mod_lt _ (by simp)
  generalize (model P w).w.draws .order (s.drawn.get .order) % (x :: xs).length = i at hi ⊢
  show wpAny (model P w) A (match (x :: xs)[i]? with | some y=>drawOrder n ((x :: xs).eraseIdx i) >>= fun l=>pure (y :: l) | none=>unsupported "internal:drawOrder") Q E _
  rw [List.getElem?_eq_getElem hi]
  refine wpAny_bind (ih _ _ _ (by rw [List.length_eraseIdx,if_pos hi]; omega) fun ys d' hp=>wpAny_pure (q _ d' ?_))
  exact (List.Perm.cons _ hp).trans (erase_perm hi)
end
def ItAt (w:World) (I a pl:Addr) (es:Array (Int × Value)) (ep:Nat) (t:SetTable) (ord:List Value) (i:Nat) (h:Heap):Prop:=
 (∃ o,h.get? a = some o/\o.data = .set es ep t)/\∃ (oI:Obj) (first:Value),h.get? I = some oI/\oI.cls = .type "set_iterator"/\oI.data = .fields #[first,rawInt i,.ref a,rawInt es.size,rawInt ep] /\
  ((byTx w = true/\first = rawInt 0/\ord = (pickOrder (w.params.setOrder a ep) es).toList.map (·.2)) \/
   (byTx w = false/\∃ (ps:List Nat) (op:Obj) (c:Nat),first = .ref pl/\h.get? pl = some op/\op.data = .seq (ps.map fun (p:Nat)=>rawInt p).toArray c/\ord.length = ps.length/\∀ (j p:Nat),ps[j]? = some p->∃ e,es[p]? = some e/\ord[j]? = some e.2) \/
   (byTx w = false/\es.size<=1/\t.led = true/\ord = es.toList.map (·.2)/\∃ sl:Nat,first = rawInt sl/\(i = 0->sl = 0)/\(0 < i->∀ j,t.place[0]? = some j->sl = j + 1)))
section
variable {P:Program}{w:World}{A:Around}{E:Value->Shared->Prop}
theorem stop_wp {s:Shared}{Q:PySem.Fin->Shared->Prop}{E':Value->Shared->Prop} (hh:A.handled = none)
  (h:∀ (x:Addr) (h':Heap),(∀ b o,s.heap.get? b = some o->h'.get? b = some o)->(∃ o,h'.get? x = some o/\o.cls = .type "StopIteration")->E' (.ref x) { s with heap:=h' }):
  wpAny (model P w) A (newExc (.type "StopIteration") [] >>= fun e=>raiseNew e) Q E' s:=by
 refine wpAny_bind ?_
 simp only [newExc,newTuple]
 refine wpAny_bind (wpAny_newObj_type ?_ (by size_fits))
 refine wpAny_bind (m:=firstArgMember _ _) (wpAny_of_eq (a:=Value.none) (by first | rfl | (simp only [firstArgMember]; rfl)) ?_)
 refine wpAny_newObj_type ?_ (by size_fits)
 simp only [raiseNew]
 refine wpAny_bind (wpAny_handled ?_)
 rw [hh]
 refine wpAny_bind (wpAny_pure (wpAny_throw (h _ _ (fun b o e=>Heap.get?_push_of_some _ (Heap.get?_push_of_some _ e)) ⟨_,Heap.get?_push_size _ rfl,rfl⟩)))
theorem byText_wp {s:Shared}{Q:Bool->Shared->Prop} (h:Q (byTx w) s):wpAny (model P w) A setsByText Q E s:=by
 unfold setsByText
 exact wpAny_bind (wpAny_askSetting (wpAny_pure h))
theorem setNextA {s:Shared}{a:Addr}{oa:Obj}{es:Array (Int × Value)}{ep sl g:Nat}{t:SetTable}{Q:Option (Value × Nat)->Shared->Prop} (hb:byTx w = true) (hoa:s.heap.get? a = some oa) (hda:oa.data = .set es ep t) (hf:t.fits es.size = true)
  (h:Q (((pickOrder (w.params.setOrder a ep) es)[g]?).map fun e=>(e.2,sl)) s):wpAny (model P w) A (setNext a sl g ep) Q E s:=by
 unfold setNext
 refine wpAny_bind (wpAny_setState_of hoa hda hf (wpAny_bind (byText_wp ?_)))
 rw [hb]
 simp only [↓reduceIte,bne_self_eq_false,Bool.false_eq_true]
 unfold setWalk
 refine wpAny_bind (wpAny_bind (wpAny_setState_of hoa hda hf (wpAny_bind (byText_wp ?_))))
 rw [hb]
 simp only [↓reduceIte]
 exact wpAny_bind (wpAny_askSetting (wpAny_pure (wpAny_pure h)))
theorem setNextC {s:Shared}{a:Addr}{oa:Obj}{es:Array (Int × Value)}{ep sl g:Nat}{t:SetTable}{Q:Option (Value × Nat)->Shared->Prop} (hb:byTx w = false) (hled:t.led = true) (h1:es.size<=1) (hoa:s.heap.get? a = some oa) (hda:oa.data = .set es ep t) (hf:t.fits es.size = true)
  (h:Q (match es[SetTable.below t.place sl]?,t.place[SetTable.below t.place sl]? with | some (_,x),some j=>some (x,j + 1) | _,_=>none) s):wpAny (model P w) A (setNext a sl g ep) Q E s:=by
 unfold setNext
 refine wpAny_bind (wpAny_setState_of hoa hda hf (wpAny_bind (byText_wp ?_)))
 rw [hb]
 simp only [↓reduceIte,Bool.false_eq_true]
 split
 ·rename_i hd
  have hd':(!t.plain && decide (es.size > 1)) = true:=hd
  rw [Bool.and_eq_true,decide_eq_true_eq] at hd'
  omega
 ·refine wpAny_bind (show wpAny _ _ (if (!t.led && !es.isEmpty) = true then unsupported "set:maker-not-led" else pure ()) _ _ s from ?_)
  rw [hled,Bool.not_true,Bool.false_and,if_neg Bool.false_ne_true]
  exact wpAny_pure (wpAny_pure h)
theorem nextDrawn {s:Shared}{a:Addr}{oa:Obj}{es:Array (Int × Value)}{ep p:Nat}{t:SetTable}{e:Int × Value}{Q:Value->Shared->Prop} (hoa:s.heap.get? a = some oa) (hda:oa.data = .set es ep t) (hf:t.fits es.size = true) (he:es[p]? = some e) (h:Q e.2 s):
  wpAny (model P w) A (setNextDrawn a p ep) Q E s:=by
 unfold setNextDrawn
 refine wpAny_bind (wpAny_setState_of hoa hda hf ?_)
 simp only [bne_self_eq_false,Bool.false_eq_true,↓reduceIte]
 rw [he]
 exact wpAny_pure h
theorem one_of {xs:Array Nat} (h:xs.size = 1):∃ j,xs = #[j]:=by
 obtain ⟨l⟩:=xs
 match l,h with
 | [j],_=>exact ⟨j,rfl⟩
theorem below_one {t:SetTable}{j:Nat} (h:t.place = #[j]):SetTable.below t.place 0 = 0/\SetTable.below t.place (j + 1) = 1:=by
 rw [h]
 unfold SetTable.below
 constructor
 ·simp [SetTable.below.go]
 ·simp [SetTable.below.go]
theorem below_nil {t:SetTable}{j:Nat} (h:t.place = #[]):SetTable.below t.place j = 0:=by
 rw [h]
 rfl
theorem fld {h:Heap}{I:Addr}{o:Obj}{vs:Array Value} (ho:h.get? I = some o) (hd:o.data = .fields vs) (k:Nat) (x:Value):
  (∃ o',(h.update I (Obj.mapFields (·.setIfInBounds k x))).get? I = some o'/\o'.cls = o.cls/\o'.data = .fields (vs.setIfInBounds k x))/\∀ b q,b≠I->h.get? b = some q->(h.update I (Obj.mapFields (·.setIfInBounds k x))).get? b = some q:=
 ⟨⟨_,Heap.get?_update_self _ ho (Obj.isFreed_of_fields (Obj.data_mapFields hd _)),Obj.cls_mapFields ..,Obj.data_mapFields hd _⟩,fun b q hb e=>(Heap.get?_update_other _ _ (Ne.symm hb)).trans e⟩
theorem next_set {s:Shared}{I a pl:Addr}{es:Array (Int × Value)}{ep:Nat}{t:SetTable}{ord:List Value}{i:Nat}{Q:Option Value->Shared->Prop} (hh:A.handled = none) (hf:t.fits es.size = true) (hz:ord.length = es.size) (hne:a≠I) (hnp:pl≠I)
  (h:ItAt w I a pl es ep t ord i s.heap)
  (item:∀ (v:Value) (h':Heap),ord[i]? = some v->ItAt w I a pl es ep t ord (i + 1) h'->(∀ b o,b≠I->s.heap.get? b = some o->h'.get? b = some o)->Q (some v) { s with heap:=h' })
  (done:ord[i]? = none->∀ h':Heap,(∀ b o,b≠I->s.heap.get? b = some o->h'.get? b = some o)->Q none { s with heap:=h' }):
  wpAny (model P w) A (pyNext (.ref I)) Q E s:=by
 obtain ⟨⟨oa,hoa,hda⟩,oI,first,hI,hc,hd,mode⟩:=h
 have hT:s.TypeIs (.ref I) "set_iterator":=⟨oI,hI,hc⟩
 unfold pyNext
 refine wpAny_bind (wpAny_attempt (wpAny_callSpecial?_slot (name:=Str.ofString "__next__") hT slot_sit_next (wpAny_call_entry slot_sit_next hT entry_sit_next ?_ (args_sit_next _))))
 unfold Builtin.«set_iterator.__next__»
 refine wpAny_bind (wpAny_pure (wpAny_bind (wpAny_fieldsOf hI hd ?_)))
 have stop:∀ (h2:Heap),ord[i]? = none->(∀ b o,b≠I->s.heap.get? b = some o->h2.get? b = some o)->wpAny (model P w) A.in1 (newExc (.type "StopIteration") [] >>= fun e=>(raiseNew e:Sem PySem.Fin)) (fun fin s'=>∃ v,fin = .done (.ret v)/\wpAny (model P w) A (match (Except.ok (some v):Except Value (Option Value)) with | Except.ok (some v)=>pure (some v) | Except.ok none=>unsupported "iter:the-iterator's-class-has-lost-its-__next__-amid-the-walk" | Except.error e=>do
   let b ← isInstance e (Value.type "StopIteration")
   if b = true then pure none else throw e) Q E s') (fun e s'=>wpAny (model P w) A (match (Except.error e:Except Value (Option Value)) with | Except.ok (some v)=>pure (some v) | Except.ok none=>unsupported "iter:the-iterator's-class-has-lost-its-__next__-amid-the-walk" | Except.error e=>do
   let b ← isInstance e (Value.type "StopIteration")
   if b = true then pure none else throw e) Q E s') { s with heap:=h2 }:=fun h2 hn hk=>by
  refine stop_wp (A:=A.in1) (by simpa using hh) fun x h' hk' hx=>?_
  obtain ⟨ox,hox,hcx⟩:=hx
  refine wpAny_bind (wpAny_isInstance (T:="StopIteration") (b:=true) ⟨ox,hox,hcx⟩ isSubtype_stop ?_)
  exact wpAny_pure (done hn h' fun b o hb e=>hk' b o (hk b o hb e))
 refine wpAny_bind (wpAny_setEntries_of hoa hda hf ?_)
 rw [if_neg (by simp)]
 have hlt:∀ {v},ord[i]? = some v->i < es.size:=fun {v} e=>by rw [← hz]; exact (List.getElem?_eq_some_iff.mp e).1
 rcases mode with ⟨hb,rfl,hord⟩ | ⟨hb,ps,op,c,rfl,hop,hdp,hlen,hps⟩ | ⟨hb,h1,hled,hord,sl,rfl,hs0,hs1⟩
 ·refine wpAny_bind (setNextA hb hoa hda hf ?_)
  have hoi:ord[i]? = ((pickOrder (w.params.setOrder a ep) es)[i]?).map (·.2):=by rw [hord,List.getElem?_map,Array.getElem?_toList]
  show wpAny _ _ (match (((pickOrder (w.params.setOrder a ep) es)[i]?).map fun e=>(e.2,(0:Nat))) with | some (x,next)=>_ | none=>_) _ _ s
  cases hp:(pickOrder (w.params.setOrder a ep) es)[i]? with
  | none=>
   rw [hp] at hoi
   obtain ⟨⟨o1,g1,c1,d1⟩,k1⟩:=fld hI hd 2 .none
   exact wpAny_bind (wpAny_setField hI hd (by simp) (stop _ hoi k1))
  | some e=>
   rw [hp] at hoi
   obtain ⟨⟨o1,g1,c1,d1⟩,k1⟩:=fld hI hd 0 (rawInt (0:Nat))
   obtain ⟨⟨o2,g2,c2,d2⟩,k2⟩:=fld g1 d1 1 (rawInt ((i:Int) + 1))
   refine wpAny_bind (wpAny_setField hI hd (by simp) (wpAny_bind (wpAny_setField g1 d1 (by simp) ?_)))
   have kk:∀ b q,b≠I->s.heap.get? b = some q->_:=fun b q hb e'=>k2 b q hb (k1 b q hb e')
   exact wpAny_pure ⟨_,rfl,wpAny_pure (item _ _ hoi ⟨⟨oa,kk a _ hne hoa,hda⟩,o2,rawInt 0,g2,c2.trans (c1.trans hc),by rw [d2]; simp [rawInt],.inl ⟨hb,rfl,hord⟩⟩ kk)⟩
 ·refine wpAny_bind (wpAny_seqItems hop hdp ?_)
  show wpAny _ _ (match ((ps.map fun (p:Nat)=>rawInt p).toArray)[i]? with | some (Value.int place tok)=>_ | some _=>_ | none=>_) _ _ s
  rw [List.getElem?_toArray,List.getElem?_map]
  cases hp:ps[i]? with
  | none=>
   have hoi:ord[i]? = none:=List.getElem?_eq_none (by rw [hlen]; exact List.getElem?_eq_none_iff.mp hp)
   obtain ⟨⟨o1,g1,c1,d1⟩,k1⟩:=fld hI hd 0 (rawInt 0)
   obtain ⟨⟨o2,g2,c2,d2⟩,k2⟩:=fld g1 d1 2 .none
   exact wpAny_bind (wpAny_setField hI hd (by simp) (wpAny_bind (wpAny_setField g1 d1 (by simp) (stop _ hoi fun b q hb e'=>k2 b q hb (k1 b q hb e')))))
  | some p=>
   obtain ⟨e,he,hoi⟩:=hps i p hp
   obtain ⟨⟨o1,g1,c1,d1⟩,k1⟩:=fld hI hd 1 (rawInt ((i:Int) + 1))
   refine wpAny_bind (show wpAny _ _ (setNextDrawn a p ep) _ _ s from nextDrawn hoa hda hf he (wpAny_bind (wpAny_setField hI hd (by simp) ?_)))
   exact wpAny_pure ⟨_,rfl,wpAny_pure (item _ _ hoi ⟨⟨oa,k1 a _ hne hoa,hda⟩,o1,_,g1,c1.trans hc,by rw [d1]; simp [rawInt],.inr (.inl ⟨hb,ps,op,c,rfl,k1 pl _ hnp hop,hdp,hlen,hps⟩)⟩ k1)⟩
 ·refine wpAny_bind (setNextC hb hled h1 hoa hda hf ?_)
  have hpz:t.place.size = es.size:=by
   have:=hf
   unfold SetTable.fits at this
   rw [Bool.and_eq_true,beq_iff_eq] at this
   exact this.1
  show wpAny _ _ (match (match es[SetTable.below t.place sl]?,t.place[SetTable.below t.place sl]? with | some (_,x),some j=>some (x,j + 1) | _,_=>none) with | some (x,next)=>_ | none=>_) _ _ s
  have fin:ord[i]? = none->wpAny (model P w) A.in1 (setField (.ref I) 2 .none >>= fun _=>newExc (.type "StopIteration") [] >>= fun e=>(raiseNew e:Sem PySem.Fin)) _ _ s:=fun hoi=>by
   obtain ⟨⟨o1,g1,c1,d1⟩,k1⟩:=fld hI hd 2 .none
   exact wpAny_bind (wpAny_setField hI hd (by simp) (stop _ hoi k1))
  by_cases h0:es.size = 0
  ·have hp0:t.place = #[]:=Array.eq_empty_of_size_eq_zero (by omega)
   rw [below_nil hp0,Array.getElem?_eq_none (by omega)]
   exact fin (List.getElem?_eq_none (by omega))
  ·have he1:es.size = 1:=by omega
   obtain ⟨j,hj⟩:∃ j,t.place = #[j]:=by
    have:t.place.size = 1:=by omega
    exact one_of this
   obtain ⟨b0,b1⟩:=below_one hj
   by_cases hi0:i = 0
   ·subst hi0
    rw [hs0 rfl,b0,hj,Array.getElem?_eq_getElem (show 0 < es.size by omega)]
    obtain ⟨⟨o1,g1,c1,d1⟩,k1⟩:=fld hI hd 0 (rawInt ((j + 1:Nat):Int))
    obtain ⟨⟨o2,g2,c2,d2⟩,k2⟩:=fld g1 d1 1 (rawInt (((0:Nat):Int) + 1))
    have hoi:ord[0]? = some es[0].2:=by rw [hord,List.getElem?_map,Array.getElem?_toList,Array.getElem?_eq_getElem (show 0 < es.size by omega)]; rfl
    have kk:∀ b q,b≠I->s.heap.get? b = some q->_:=fun b q hb e'=>k2 b q hb (k1 b q hb e')
    refine wpAny_bind (wpAny_setField hI hd (by simp) (wpAny_bind (wpAny_setField g1 d1 (by simp) ?_)))
    exact wpAny_pure ⟨_,rfl,wpAny_pure (item _ _ hoi ⟨⟨oa,kk a _ hne hoa,hda⟩,o2,rawInt ((j + 1:Nat):Int),g2,c2.trans (c1.trans hc),by rw [d2]; simp [rawInt],.inr (.inr ⟨hb,h1,hled,hord,j + 1,rfl,(fun z=>by omega),fun _ j' hj'=>by rw [hj] at hj'; simpa using hj'⟩)⟩ kk)⟩
   ·rw [hs1 (by omega) j (by rw [hj]; rfl),b1,Array.getElem?_eq_none (by omega)]
    exact fin (List.getElem?_eq_none (by omega))
theorem walk_set (hh:A.handled = none) (I a pl:Addr) {es:Array (Int × Value)}{ep:Nat}{t:SetTable}{ord:List Value} (hf:t.fits es.size = true) (hz:ord.length = es.size) (hne:a≠I) (hnp:pl≠I):
  Walks P w A I [I,a,pl] [I] ord.length (fun i v=>ord[i]? = some v) (fun i h=>ItAt w I a pl es ep t ord i h) where
 sub:=fun b hb=>by rw [List.mem_singleton.mp hb]; exact List.mem_cons_self
 frame:=fun i h h' st hk=>by
  obtain ⟨⟨oa,hoa,hda⟩,oI,first,hI,hc,hd,mode⟩:=st
  refine ⟨⟨oa,hk a (by simp) _ hoa,hda⟩,oI,first,hk I (by simp) _ hI,hc,hd,?_⟩
  rcases mode with m | ⟨hb,ps,op,c,e1,hop,rest⟩ | m
  ·exact .inl m
  ·exact .inr (.inl ⟨hb,ps,op,c,e1,hk pl (by simp) _ hop,rest⟩)
  ·exact .inr (.inr m)
 item:=fun i s Q E hi st hQ=>by
  refine next_set hh hf hz hne hnp st (fun v h' hv st' kp=>hQ v h' s.toks hv st' fun b o hb e=>kp b o (fun z=>hb (by simp [z])) e) (fun hn=>?_)
  rw [List.getElem?_eq_getElem hi] at hn
  cases hn
 done:=fun s Q E st hQ=>by
  refine next_set hh hf hz hne hnp st (fun v h' hv=>?_) (fun hn h' kp=>hQ h' s.toks fun b o hb e=>kp b o (fun z=>hb (by simp [z])) e)
  rw [List.getElem?_eq_none (Nat.le_refl _)] at hv
  cases hv
 self:=fun i s Q E st hQ=>by
  obtain ⟨_,oI,first,hI,hc,_⟩:=st
  have hT:s.TypeIs (.ref I) "set_iterator":=⟨oI,hI,hc⟩
  refine wpAny_pyIter_slot hT slot_sit_iter (wpAny_call_entry slot_sit_iter hT entry_sit_iter ?_ (args_sit_iter _))
  exact (show wpAny _ _ (ret (Value.ref I)) _ _ s from wpAny_pure ⟨_,rfl,"set_iterator",_,hT,slot_sit_next.lookup,hQ⟩)
theorem iter_set {s:Shared}{a:Addr}{ds:List Str}{Q:Value->Shared->Prop} (hS:SetTx P w a ds s.heap)
  (h:∀ (I pl:Addr) (h':Heap) (d':Drawn) (es:Array (Int × Value)) (ep:Nat) (t:SetTable) (ord:List Value),(∀ b o,s.heap.get? b = some o->h'.get? b = some o)->s.heap.objs.size<=I->pl≠I->(pl = a\/s.heap.objs.size<=pl)->t.fits es.size = true->ord.length = es.size->ord.Perm (es.toList.map (·.2))->(∀ v∈ord,∃ z tk,v = .str z tk)->(ord.map txOf).Perm ds->ItAt w I a pl es ep t ord 0 h'->Q (.ref I) { s with heap:=h',drawn:=d' }):
  wpAny (model P w) A (pyIter (.ref a)) Q E s:=by
 obtain ⟨o,es,ep,t,ho,hex,hd,hel,htx,hpm,hb,hf,hmk⟩:=hS
 have hT:s.TypeIs (.ref a) "set":=⟨o,ho,hex.1⟩
 have haI:a < s.heap.objs.size:=Heap.lt_size ho
 refine wpAny_pyIter_slot hT PySem.F.slot_set_iter (wpAny_call_entry PySem.F.slot_set_iter hT entry_set_iter ?_ (PySem.F.args_set_iter_1 _))
 unfold Builtin.«frozenset.__iter__»
 have hvals:∀ ord:List Value,ord.Perm (es.toList.map (·.2))->ord.length = es.size/\(∀ v∈ord,∃ z tk,v = .str z tk)/\(ord.map txOf).Perm ds:=fun ord hp=>by
  refine ⟨by rw [hp.length_eq,List.length_map,Array.length_toList],fun v hv=>?_,?_⟩
  ·obtain ⟨e,he,rfl⟩:=List.mem_map.mp (hp.mem_iff.mp hv)
   exact htx e he
  ·have:=hp.map txOf
   rw [List.map_map] at this
   exact this.trans hpm
 refine wpAny_bind (m:=Builtin.Frozenset.slot0 "__iter__" _) (wpAny_pure ?_)
 refine wpAny_bind (show wpAny _ _ (setEntries a >>= fun x=>pure x.size) _ _ s from wpAny_bind (wpAny_setEntries_of ho hd hf (wpAny_pure ?_)))
 refine wpAny_bind ?_
 unfold setDrawn
 refine wpAny_bind (wpAny_setState_of ho hd hf (wpAny_bind (byText_wp (wpAny_pure ?_))))
 show wpAny _ _ (if (!byTx w && (!t.plain && decide (es.size > 1))) = true then _ else _) _ _ s
 split
 ·rename_i hdr
  rw [Bool.and_eq_true,Bool.and_eq_true,decide_eq_true_eq] at hdr
  have hb0:byTx w = false:=by simpa using hdr.1
  refine wpAny_bind (draw_any es.size (List.range es.size) s _ (by simp) fun ps d' hps=>?_)
  have hpl:ps.length = es.size:=by rw [hps.length_eq,List.length_range]
  refine wpAny_bind (wpAny_newObj_type ?_ (by show (List.map _ ps).toArray.size<=sizeLine; rw [List.size_toArray,List.length_map,hpl]; exact fits_of_scanBound hb))
  have kp1:∀ b q,s.heap.get? b = some q->(s.heap.push { cls:=.type "tuple",data:=.seq (ps.map fun (p:Nat)=>rawInt p).toArray }).get? b = some q:=fun b q e=>Heap.get?_push_of_some _ e
  refine wpAny_bind (wpAny_setEpoch_of (kp1 a _ ho) hd hf (wpAny_bind (wpAny_newObj_type ?_)))
  refine wpAny_pure ⟨_,rfl,"set_iterator",_,⟨_,Heap.get?_push_size _ rfl,rfl⟩,slot_sit_next.lookup,?_⟩
  have kp2:∀ b q,s.heap.get? b = some q->((s.heap.push { cls:=.type "tuple",data:=.seq (ps.map fun (p:Nat)=>rawInt p).toArray }).push { cls:=.type "set_iterator",data:=.fields #[.ref s.heap.objs.size,rawInt 0,.ref a,rawInt es.size,rawInt ep] }).get? b = some q:=fun b q e=>Heap.get?_push_of_some _ (kp1 b q e)
  have hin:∀ p∈ps,p < es.size:=fun p hp=>List.mem_range.mp (hps.mem_iff.mp hp)
  have ho':(ps.map fun p=>(es.toList.map (·.2)).getD p .none).Perm (es.toList.map (·.2)):=by
   refine (hps.map _).trans (List.Perm.of_eq ?_)
   apply List.ext_getElem (by simp)
   intro k h1 h2
   simp at h2
   simp [h2]
  obtain ⟨h1,h2,h3⟩:=hvals _ ho'
  have sz:(s.heap.push { cls:=.type "tuple",data:=.seq (ps.map fun (p:Nat)=>rawInt p).toArray }).objs.size = s.heap.objs.size + 1:=Heap.size_push ..
  refine h _ s.heap.objs.size _ d' es ep t _ kp2 (by rw [sz]; exact Nat.le_succ _) (Nat.ne_of_lt (by rw [sz]; exact Nat.lt_succ_self _)) (.inr (Nat.le_refl _)) hf h1 ho' h2 h3 ⟨⟨o,kp2 a _ ho,hd⟩,_,.ref s.heap.objs.size,Heap.get?_push_size _ rfl,rfl,rfl,.inr (.inl ⟨hb0,ps,_,_,rfl,Heap.get?_push_of_some _ (Heap.get?_push_size _ rfl),rfl,by rw [List.length_map],fun j p hj=>?_⟩)⟩
  have hp:=hin p (List.mem_of_getElem? hj)
  refine ⟨es[p],Array.getElem?_eq_getElem hp,?_⟩
  rw [List.getElem?_map,hj]
  simp [hp]
 ·rename_i hdr
  refine wpAny_bind (wpAny_pure (wpAny_bind (wpAny_setEpoch_of ho hd hf (wpAny_bind (wpAny_newObj_type ?_)))))
  refine wpAny_pure ⟨_,rfl,"set_iterator",_,⟨_,Heap.get?_push_size _ rfl,rfl⟩,slot_sit_next.lookup,?_⟩
  have kp:∀ b o,s.heap.get? b = some o->(s.heap.push { cls:=.type "set_iterator",data:=.fields #[rawInt 0,rawInt 0,.ref a,rawInt es.size,rawInt ep] }).get? b = some o:=fun b o e=>Heap.get?_push_of_some _ e
  cases hbt:byTx w with
  | true=>
   have hp:((pickOrder (w.params.setOrder a ep) es).toList.map (·.2)).Perm (es.toList.map (·.2)):=(pick_perm _ es).map _
   obtain ⟨h1,h2,h3⟩:=hvals _ hp
   exact h s.heap.objs.size a _ s.drawn es ep t _ kp (Nat.le_refl _) (Nat.ne_of_lt haI) (.inl rfl) hf h1 hp h2 h3 ⟨⟨o,kp a _ ho,hd⟩,_,rawInt 0,Heap.get?_push_size _ rfl,rfl,rfl,.inl ⟨hbt,rfl,rfl⟩⟩
  | false=>
   have hsz:es.size<=1:=by
    rw [hbt] at hdr
    rcases hmk.2 with h0 | h0
    ·omega
    ·rw [h0] at hdr
     simp at hdr
     omega
   obtain ⟨h1,h2,h3⟩:=hvals _ (.refl _)
   exact h s.heap.objs.size a _ s.drawn es ep t _ kp (Nat.le_refl _) (Nat.ne_of_lt haI) (.inl rfl) hf h1 (.refl _) h2 h3 ⟨⟨o,kp a _ ho,hd⟩,_,rawInt 0,Heap.get?_push_size _ rfl,rfl,rfl,.inr (.inr ⟨hbt,hsz,by rw [hmk.1,hbt]; rfl,rfl,0,rfl,fun _=>rfl,fun z=>absurd z (Nat.lt_irrefl _)⟩)⟩
end
theorem txOf_strOf (v:Value) (h:∃ z tk,v = .str z tk):txOf v = strOf v:=by
 obtain ⟨z,tk,rfl⟩:=h
 rfl
section
variable {P:Program}{w:World}{A:Around}{E:Value->Shared->Prop}
theorem hint_set {s:Shared}{r:Addr}{Q:Bool->Shared->Prop} (hT:s.TypeIs (.ref r) "set") (h:Q false s):wpAny (model P w) A (Builtin.List.listLengthHint (.ref r)) Q E s:=by
 unfold Builtin.List.listLengthHint
 refine wpAny_bind (wpAny_specialOf hT PySem.F.slot_set_len.lookup ?_)
 generalize hid:("set.__len__":String) = id0
 wp_delta
 rw [show splitId id0 = some ("set","__len__") from by subst hid; decide +kernel]
 subst hid
 refine wpAny_bind (wpAny_isInstance (T:="set") (b:=true) hT PySem.sub_set_self ?_)
 refine wpAny_ite_split (fun hab=>absurd hab (by decide)) (fun _=>?_)
 refine wpAny_ite_split (fun _=>?_) (fun hab=>absurd (by decide +kernel) hab)
 exact wpAny_bind (wpAny_typeOf hT (wpAny_pure h))
abbrev lO (xs:Array Value) (c:Nat):Obj:={ cls:=.type "list",dict:=none,data:=.seq xs c,slots:=#[] }
theorem collect_gen {s:Shared}{a:Addr}{T:String}{oa:Obj}{n:Nat}{Gd:(Nat->Value->Prop)->Prop}{R:List Value->Shared->Prop} (hoa:s.heap.get? a = some oa) (hca:oa.cls = .type T) (hT2:(Value.type T == .type "list" || Value.type T == .type "tuple") = false) (hn1:n<=sizeLine)
  (hnt:∀ (s1:Shared) (Q:Bool->Shared->Prop) (E:Value->Shared->Prop),s1.TypeIs (.ref a) T->Q false s1->wpAny (model P w) A.in1 (Builtin.List.listLengthHint (.ref a)) Q E s1)
  (it:∀ (Q:Value->Shared->Prop) (E:Value->Shared->Prop),(∀ (I:Addr) (fp:List Addr) (h1:Heap) (d1:Drawn) (St:Nat->Heap->Prop) (Pi:Nat->Value->Prop),Gd Pi->(∀ b o,(s.heap.push (lO #[] 0)).get? b = some o->h1.get? b = some o)->s.heap.objs.size < I->s.heap.objs.size ∉ fp->Walks P w A.in1 I fp [I] n Pi St->St 0 h1->Q (.ref I) { s with heap:=h1,drawn:=d1 })->wpAny (model P w) A.in1 (pyIter (.ref a)) Q E { s with heap:=s.heap.push (lO #[] 0) })
  (h:∀ (h':Heap) (tk:Nat) (d':Drawn) (acc:Array Value) (Pi:Nat->Value->Prop),Gd Pi->(∀ b o,s.heap.get? b = some o->h'.get? b = some o)->s.heap.objs.size<=h'.objs.size->ItemsOf Pi acc n->R acc.toList { s with heap:=h',toks:=tk,drawn:=d' }):
  wpAny (model P w) A (collect (.ref a)) R E s:=by
 have haS:a≠s.heap.objs.size:=Nat.ne_of_lt (Heap.lt_size hoa)
 unfold collect
 refine wpAny_bind (wpAny_runValue (codeAny_builtin entry_proto_collect' ?_))
 rw [Around.under_plainId PySem.F.plain_proto_collect _]
 refine (show wpAny _ A.in1 (newList [] >>= fun l=>again (.builtin "list.__iadd__" ⟨[l,.ref a],[]⟩)) _ _ s from wpAny_bind (wpAny_newObj_type (wpAny_pure ⟨plainId_quiet PySem.F.plain_list_iadd _,codeAny_builtin entry_list_iadd' ?_⟩)))
 rw [Around.under_plainId PySem.F.plain_list_iadd _]
 have kp0:∀ b o,s.heap.get? b = some o->(s.heap.push (lO #[] 0)).get? b = some o:=fun b o e=>Heap.get?_push_of_some _ e
 have gS:(s.heap.push (lO #[] 0)).get? s.heap.objs.size = some (lO #[] 0):=Heap.get?_push_size _ rfl
 have hT1:Shared.TypeIs { s with heap:=s.heap.push (lO #[] 0) } (.ref a) T:=⟨oa,kp0 a _ hoa,hca⟩
 refine (show wpAny _ A.in1 (Builtin.List.listExtendWith (.ref s.heap.objs.size) (.ref a) (.ref s.heap.objs.size)) _ _ { s with heap:=s.heap.push (lO #[] 0) } from ?_)
 unfold Builtin.List.listExtendWith
 refine wpAny_bind (wpAny_typeOf hT1 ?_)
 have h1:Builtin.List.listSameRef (.ref s.heap.objs.size) (.ref a) = false:=by simp [Builtin.List.listSameRef,haS.symm]
 rw [if_neg (by rw [h1,Bool.false_or,hT2]; exact Bool.false_ne_true)]
 refine wpAny_bind (it _ _ fun I fp h1 d1 St Pi hgd kp hI hSf Wk0 st=>?_)
 have kp1:∀ b o,s.heap.get? b = some o->h1.get? b = some o:=fun b o e=>kp b o (kp0 b o e)
 have hI':s.heap.objs.size<=I:=Nat.le_of_lt hI
 refine wpAny_bind (wpAny_holding (hnt _ _ _ ⟨oa,kp1 a _ hoa,hca⟩ ?_))
 have gS1:=kp _ _ gS
 have loop:∀ (h2:Heap) (c:Nat),St 0 h2->(∀ b o,b≠s.heap.objs.size->h1.get? b = some o->h2.get? b = some o)->h2.get? s.heap.objs.size = some (lO #[] c)->
   codeAny (model P w) A (.builtin "list.extend.loop" ⟨[.ref s.heap.objs.size,.ref I,.ref s.heap.objs.size],[]⟩) (fun q s'=>∃ (h':Heap) (tk:Nat) (acc:Array Value) (c':Nat),q = .ok (.ret (.ref s.heap.objs.size))/\s' = { s with heap:=h',toks:=tk,drawn:=d1 }/\(∀ b o,s.heap.get? b = some o->h'.get? b = some o)/\h'.get? s.heap.objs.size = some (lO acc c')/\ItemsOf Pi acc n) { s with heap:=h2,drawn:=d1 }:=fun h2 c st2 k2 g2=>by
  refine codeAny_extend_loopS Wk0.toS hn1 s.heap.objs.size hSf (.ref s.heap.objs.size) n 0 { s with heap:=h2,drawn:=d1 } #[] c rfl (Nat.zero_le _) st2 g2 (ItemsOf.nil _) fun s' acc' c' hm gS' hacc=>?_
  obtain ⟨h',g',d',tk',os'⟩:=s'
  have eg:g' = s.gens:=hm.gens
  have ed:d' = d1:=hm.drawn
  have eo:os' = s.os:=hm.os
  subst eg ed eo
  refine ⟨h',tk',acc',c',rfl,rfl,fun b o e=>?_,gS',hacc⟩
  have hb:b < s.heap.objs.size:=Heap.lt_size e
  refine hm.heap b o (fun z=>?_) (k2 b o (Nat.ne_of_lt hb) (kp1 b o e))
  rcases List.mem_cons.mp z with z | z
  ·exact absurd z (Nat.ne_of_lt hb)
  ·exact absurd (List.mem_singleton.mp z) (Nat.ne_of_lt (Nat.lt_of_lt_of_le hb hI'))
 refine wpAny_ite_split (fun _=>?_) (fun _=>?_)
 ·refine wpAny_bind (wpAny_rule (wpAny_bind ?_))
  refine (show wpAny _ _ (updateSeq s.heap.objs.size (·.push .none) >>= fun _=>updateSeq s.heap.objs.size (·.pop)) _ _ _ from wpAny_bind (wpAny_updateSeq gS1 rfl ?_))
  have gS2:=Heap.get?_update_self (Obj.mapSeq (·.push Value.none)) gS1 rfl
  refine wpAny_updateSeq (hz:=by seq_fits) gS2 rfl ?_
  have gS3:=Heap.get?_update_self (Obj.mapSeq (·.pop)) gS2 rfl
  have oth:∀ b o,b≠s.heap.objs.size->h1.get? b = some o->((h1.update s.heap.objs.size (Obj.mapSeq (·.push Value.none))).update s.heap.objs.size (Obj.mapSeq (·.pop))).get? b = some o:=fun b o hb e=>(Heap.get?_update_other _ _ (Ne.symm hb)).trans ((Heap.get?_update_other _ _ (Ne.symm hb)).trans e)
  have st3:=Wk0.frame 0 h1 _ st fun b hb o e=>oth b o (fun z=>hSf (z ▸ hb)) e
  refine wpAny_pure ⟨plainId_quiet PySem.F.plain_extend_loop _,codeAny_mono (loop _ _ st3 oth gS3) fun q s2 y=>?_⟩
  obtain ⟨h',tk,acc,c',rfl,rfl,hk,hS',hacc⟩:=y
  exact (show wpAny _ A (load s.heap.objs.size >>= _) _ _ _ from wpAny_bind (wpAny_load hS' (wpAny_pure (h h' tk d1 acc Pi hgd hk (Nat.le_of_lt (Heap.lt_size hS')) hacc))))
 ·refine wpAny_pure ⟨plainId_quiet PySem.F.plain_extend_loop _,codeAny_mono (loop _ _ st (fun _ _ _ e=>e) gS1) fun q s2 y=>?_⟩
  obtain ⟨h',tk,acc,c',rfl,rfl,hk,hS',hacc⟩:=y
  exact (show wpAny _ A (load s.heap.objs.size >>= _) _ _ _ from wpAny_bind (wpAny_load hS' (wpAny_pure (h h' tk d1 acc Pi hgd hk (Nat.le_of_lt (Heap.lt_size hS')) hacc))))
theorem collect_set {s:Shared}{a:Addr}{ds:List Str}{R:List Value->Shared->Prop} (hh:A.handled = none) (hS:SetTx P w a ds s.heap) (hn:ds.length<=1000)
  (h:∀ (h':Heap) (tk:Nat) (d':Drawn) (vs:List Value),(∀ b o,s.heap.get? b = some o->h'.get? b = some o)->s.heap.objs.size<=h'.objs.size->(∀ v∈vs,∃ z tk,v = .str z tk)->(vs.map txOf).Perm ds->R vs { s with heap:=h',toks:=tk,drawn:=d' }):
  wpAny (model P w) A (collect (.ref a)) R E s:=by
 obtain ⟨oa,hoa,hexa⟩:∃ o,s.heap.get? a = some o/\o.ExactSet:=by
  obtain ⟨o,es,ep,t,ho,hex,_⟩:=hS
  exact ⟨o,ho,hex⟩
 have haS:a < s.heap.objs.size:=Heap.lt_size hoa
 have hS1:SetTx P w a ds (s.heap.push (lO #[] 0)):=by
  obtain ⟨o,es,ep,t,ho,rest⟩:=hS
  exact ⟨o,es,ep,t,Heap.get?_push_of_some _ ho,rest⟩
 have sz:(s.heap.push (lO #[] 0)).objs.size = s.heap.objs.size + 1:=Heap.size_push ..
 have hh2:A.in1.handled = none:=by simpa using hh
 refine collect_gen (n:=ds.length) (Gd:=fun Pi=>∃ ord:List Value,(Pi = fun i v=>ord[i]? = some v)/\(∀ v∈ord,∃ z tk,v = .str z tk)/\(ord.map txOf).Perm ds) hoa hexa.1 (by decide) (Nat.le_trans hn (by decide)) (fun s1 Q E hT q=>hint_set hT q) (fun Q E q=>?_) fun h' tk d' acc Pi hgd kp hle hacc=>?_
 ·refine iter_set (A:=A.in1) hS1 fun I pl h1 d1 es ep t ord kp hI hplI hpla hf hz hpo hst hpm st=>?_
  rw [show ({ s with heap:=s.heap.push (lO #[] 0) }:Shared).heap.objs.size = s.heap.objs.size + 1 from sz] at hI hpla
  have haI:a≠I:=Nat.ne_of_lt (Nat.lt_of_lt_of_le haS (Nat.le_of_succ_le hI))
  have hl:ord.length = ds.length:=by rw [← hpm.length_eq,List.length_map]
  have Wk:=walk_set (P:=P) (w:=w) (A:=A.in1) hh2 I a pl (ep:=ep) hf hz haI hplI
  rw [hl] at Wk
  refine q I [I,a,pl] h1 d1 _ _ ⟨ord,rfl,hst,hpm⟩ kp hI (fun z=>?_) Wk st
  rcases List.mem_cons.mp z with z | z
  ·exact absurd z (Nat.ne_of_lt hI)
  ·rcases List.mem_cons.mp z with z | z
   ·exact absurd z.symm (Nat.ne_of_lt haS)
   ·have e:=List.mem_singleton.mp z
    rcases hpla with e' | e'
    ·rw [e'] at e
     exact absurd e.symm (Nat.ne_of_lt haS)
    ·exact absurd e (Nat.ne_of_lt e')
 ·obtain ⟨ord,rfl,hst,hpm⟩:=hgd
  have hl:ord.length = ds.length:=by rw [← hpm.length_eq,List.length_map]
  have eord:acc.toList = ord:=by
   apply List.ext_getElem?
   intro k
   by_cases hk:k < acc.size
   ·have:=hacc.2 k acc[k] (Array.getElem?_eq_getElem hk)
    rw [Array.getElem?_toList,Array.getElem?_eq_getElem hk,this]
   ·rw [List.getElem?_eq_none (by rw [Array.length_toList]; omega),List.getElem?_eq_none (by rw [hl,← hacc.1]; omega)]
  rw [eord]
  exact h h' tk d' ord kp hle hst hpm
theorem sort_tx {s:Shared}{D:Addr}{vs:List Value}{n:Nat}{Q:Value->Shared->Prop} (ho:s.heap.get? D = some (seqObj "list" vs.toArray n)) (hv:∀ v∈vs,∃ z tk,v = .str z tk) (h64:vs.length < 64)
  (h:∀ (h':Heap) (out:List Value) (ss:List Str) (e:Nat),(∀ b o,b≠D->s.heap.get? b = some o->h'.get? b = some o)->h'.get? D = some (seqObj "list" out.toArray e)->StrsAre out ss->ss.Perm (vs.map txOf)->sortedS ss = true->Q .none { s with heap:=h' }):
  wpAny (model P w) A (call (.builtin "list.sort") [.ref D]) Q E s:=by
 have hS:=strsAre_map vs fun v hm=>hv v hm
 have hm:vs.map strOf = vs.map txOf:=List.map_congr_left fun v hm=>(txOf_strOf v (hv v hm)).symm
 refine wpAny_call_entry slot_list_sort ⟨_,ho,rfl⟩ entry_list_sort (list_sort_treeK strKind_oneLt ho hS.keysOf (fun v₁ v₂ rest e=>keyKind_strs (by rw [← e]; exact hS)) h64 fun st' hp hs=>⟨_,rfl,?_⟩) (args_list_sort _)
 obtain ⟨ss',h1,h2,h3⟩:=sorted_out_str hS hp hs
 obtain ⟨e,he⟩:=sortedHeap_at (out:=(arrOf st').map (·.2)) ho
 exact h _ ((arrOf st').map (·.2)).toList ss' e (fun b o hb eo=>(sortedHeap_old hb (Heap.lt_size eo)).trans eo) he h1 (by rw [← hm]; exact h2) h3
end
section
variable {P:Program}{w:World}{A:Around}{E:Value->Shared->Prop}
theorem sorted_via {s:Shared}{a:Addr}{ds:List Str}{Q:Value->Shared->Prop}
  (hcol:∀ (R:List Value->Shared->Prop),(∀ (h':Heap) (tk:Nat) (d':Drawn) (vs:List Value),(∀ b o,s.heap.get? b = some o->h'.get? b = some o)->s.heap.objs.size<=h'.objs.size->(∀ v∈vs,∃ z tk,v = .str z tk)->(vs.map txOf).Perm ds->R vs { s with heap:=h',toks:=tk,drawn:=d' })->wpAny (model P w) A.in1 (collect (.ref a)) R E s) (h64:ds.length < 64)
  (h:∀ (D:Addr) (h':Heap) (tk:Nat) (d':Drawn) (out:List Value) (ss:List Str) (e:Nat),(∀ b o,s.heap.get? b = some o->h'.get? b = some o)->s.heap.objs.size<=D->h'.get? D = some (seqObj "list" out.toArray e)->StrsAre out ss->ss.Perm ds->sortedS ss = true->Q (.ref D) { s with heap:=h',toks:=tk,drawn:=d' }):
  wpAny (model P w) A (call (.builtin "sorted") [.ref a]) Q E s:=by
 refine Calls.call_function_entry kind_sorted plain_sorted entry_sorted (args_sorted1 _) ?_
 unfold Builtin.«sorted»
 refine wpAny_bind (m:=checkCount "sorted" 1 1 _) (wpAny_pure (wpAny_bind (hcol _ fun h1 tk d1 vs kp hle hst hpm=>?_)))
 have hl:vs.length = ds.length:=by rw [← hpm.length_eq,List.length_map]
 refine wpAny_bind (wpAny_newList ?_ (by rw [hl]; exact Nat.le_trans (Nat.le_of_lt h64) (by decide)))
 have gD:(h1.push (seqObj "list" vs.toArray 0)).get? h1.objs.size = some (seqObj "list" vs.toArray 0):=Heap.get?_push_size _ rfl
 refine wpAny_bind (wpAny_holding (sort_tx gD hst (by omega) fun h2 out ss e k2 g2 hs hp hS=>?_))
 refine wpAny_pure ⟨_,rfl,h h1.objs.size h2 tk d1 out ss e (fun b o eb=>?_) ?_ g2 hs (hp.trans hpm) hS⟩
 ·have hb:=kp b o eb
  exact k2 b o (Nat.ne_of_lt (Heap.lt_size hb)) (Heap.get?_push_of_some _ hb)
 ·exact hle
end
def sortedT (l:List Str):Prop:=sortedS l = true
theorem str_eq {a b:Str} (h:a.cps.toList = b.cps.toList):a = b:=by
 obtain ⟨⟨x⟩⟩:=a
 obtain ⟨⟨y⟩⟩:=b
 have:x = y:=h
 subst this
 rfl
theorem Inv.drawn {X:Cx}{zp:List (Addr × Obj)}{σ:List (Option V)}{H:Hp}{s:Shared} (I:Inv X zp σ H s) (d':Drawn):Inv X zp σ H { s with drawn:=d' }:=⟨I.ok,I.os,I.bare,I.base,I.loc,I.cell,I.free,I.freeC,I.pin,I.hok,I.len⟩
theorem vals_tx:∀ {us:List Value}{ss:List Str},StrsAre us ss->Vals (ss.map V.str) us
 | _,_,.nil=>.nil
 | _,_,.cons y t h=>.cons ⟨t,rfl⟩ (vals_tx h)
theorem call_sorted_set {X:Cx} (hc:X.calm = true):CallR X (.builtin "sorted") (fun xs H Q=>∃ (a:Addr) (ds:List Str),xs = [.ref a]/\H a = some (SetH X.prog X.w a ds)/\ds.length < 64/\∀ (l:Addr) (ss:List Str),H l = none->ss.Perm ds->sortedS ss = true->Q (.ref l) (upd H l (.lst (ss.map V.str)))):=by
 intro zp s σ H xs us Q I r h
 obtain ⟨a,ds,rfl,ea,hn,q⟩:=h
 obtain ⟨u,rfl,rx⟩:=vals1 r
 cases rx
 obtain ⟨hS,_⟩:=(show ObjOk X.prog X.w H s.heap a (SetH X.prog X.w a ds) from I.hok a _ ea)
 refine sorted_via (ds:=ds) (fun R hR=>collect_set (A:=X.A.in1) (by simpa using I.ok.hd hc) hS (by omega) hR) hn fun D h' tk d' out ss e kp hD g hs hp hS'=>?_
 have hl:ss.length < 64:=by rw [hp.length_eq]; exact hn
 exact ⟨.ref D,_,(I.drawn d').laid (t':=tk) kp hD (show ObjOk X.prog X.w _ h' _ (.lst (ss.map V.str)) from ⟨by rw [List.length_map]; exact Nat.le_trans (Nat.le_of_lt hl) (by decide),out,e,vals_tx hs,g⟩),rfl,q D ss (I.hok.fresh hD) hp hS'⟩
def tLCompT (n:Nat) (wi:TI) (g:TG) (tt:TT) (te:TE):TE:=fun σ H Q=>wi σ H fun J H1=>∃ W:Nat->Nat->List V->Hp->Prop,(∃ m,W 0 m [] H1)/\∀ i m vs H,W i m vs H->vs.length<=sizeLine /\
 ((J.stop i H/\∀ D,H D = none->Q (.ref D) (upd H D (.lst vs))) \/
  (J.go i H/\∀ v H',J.yld i H v H'->g v (List.replicate n none) H' fun σ2 H2=>tt σ2 H2 fun b H3=>if b = true then te σ2 H3 fun y H4=>∃ m',m' < m/\W (i + 1) m' (vs ++ [y]) H4 else ∃ m',m' < m/\W (i + 1) m' vs H3))
end L2
namespace D
open PySem L2
end D
namespace L2
open PySem PySem.Spec PyProof.Rows
theorem ps_lsetT {X:Cx}{i:Nat}{y:Str}{py spos:Pos}{elt iter tg:Expr}{pos:Pos}{ifs:List Expr}{scope:Scope}{cl:List (Str × Addr)} (NY:List Str) {wi:TI}{g:TG}{tt:TT}{te:TE}
  (hc:X.calm = true) (hclos:closureFor scope X.env = pure cl) (hcell:∀ y∈scope.names,y.2≠.cell) (hkind:scope.kind = .function) (hnames:∀ y∈scope.names,y.2 = .local->scope.names.lookup y.1 = some .local)
  (hcl:ClOk cl X.env.cells) (hall:(scope.names.all fun y=>y.2 != .free || (cl.lookup y.1).isSome) = true)
  (hi:PI X tg iter wi) (hg:∀ C s H fp,PG (cxComp X scope cl NY C s H fp) tg g)
  (hY:∀ C s H fp,PIfs (cxComp X scope cl NY C s H fp) ifs tt/\PE (cxComp X scope cl NY C s H fp) elt te)
  (hN:X.N.Nodup) (hiy:X.N[i]? = some y) (hy:Loc X.env.scope y) (hsw:swapsWith (.ListComp elt [⟨tg,iter,ifs,0⟩] scope pos) (some (.Name y py)) spos.line X.env = pure true:=by rfl)
  (hf:X.fn y = true\/X.env.scope.names.lookup y = some .local:=by first | exact .inl rfl | exact .inr rfl | assumption)
  (hs:∀ v,foldedSetIterable iter X.env v = pure v:=by intro _; rfl):
  PS X (.Assign [.Name y py] (.ListComp elt [⟨tg,iter,ifs,0⟩] scope pos) spos) (tAsg (tLCompT NY.length wi g tt te) (gName i)):=by
 intro zp s σ H Dn I h
 rw [exec_Assign_Name_used _ _ _ _ hsw]
 refine wpAny_bind (wpAny_standAt (wpAny_bind ?_))
 refine (show wpAny _ X.A (do let _ ← comprehension (.ListComp elt [⟨tg,iter,ifs,0⟩] scope pos) scope X.env _ (newList []) false (eval iter X.env) (some (assign (.Name y py) X.env))) _ _ s from ?_)
 refine wpAny_bind (wpAny_mono (wpAny_comprehension_free (use:=some (assign (.Name y py) X.env)) (Q:=fun _ s'=>SP X zp Dn .next s') rfl hs hclos hkind hnames (wpAny_mono (hi zp s σ H _ I h) (fun v s1 h1=>wpAny_mono h1 (fun itv s2 h2=>?_) fun _ _ e=>e) fun _ _ e=>e)) (fun _ s' hq=>wpAny_pure (wpAny_pure hq)) fun _ _ e=>e)
 obtain ⟨it,fp,tn,J,H2,rfl,I2,T,st2,f2,W,⟨m0,w0⟩,turn⟩:=h2
 refine wpAny_newObj_type (wpAny_newFunctionEnv hcell (by intro y hy; simp at hy) (fun h₁ hns₁ hsb₁=>?_) hkind)
 dsimp only at hns₁ hsb₁ ⊢
 generalize hP2:s2.heap.push { cls:=.type "list",dict:=none,data:=.seq ([]:List Value).toArray } = P2 at hns₁ hsb₁ ⊢
 have hC:P2.objs.size = s2.heap.objs.size + 1:=by rw [← hP2,Heap.size_push]
 have hDC:s2.heap.objs.size≠P2.objs.size:=by rw [hC]; exact Nat.ne_of_lt (Nat.lt_succ_self _)
 have hCle:s2.heap.objs.size<=P2.objs.size:=by rw [hC]; exact Nat.le_succ _
 have below:∀ b,b < s2.heap.objs.size->b≠P2.objs.size/\b≠s2.heap.objs.size:=fun b hb=>⟨by rw [hC]; exact Nat.ne_of_lt (Nat.lt_succ_of_lt hb),Nat.ne_of_lt hb⟩
 have old:∀ b o,s2.heap.get? b = some o->h₁.get? b = some o:=fun b o e=>hsb₁.extBut b o (below b (Heap.lt_size e)).1 (Heap.get?_push_of_some _ (hP2 ▸ Heap.get?_push_of_some _ e))
 have hacc:h₁.get? s2.heap.objs.size = some { cls:=.type "list",data:=.seq ([]:List Value).toArray }:=hsb₁.extBut _ _ hDC (Heap.get?_push_of_some _ (hP2 ▸ Heap.get?_push_size _ rfl))
 have fpl:∀ b∈fp,b < s2.heap.objs.size:=fun b hb=>by
  obtain ⟨o,e,_⟩:=T.obj _ _ st2 b hb
  exact Heap.lt_size e
 have tlt:∀ b o,H2 b = some o->b < s2.heap.objs.size:=fun b o e=>I2.hok.lt e
 generalize hCg:P2.objs.size = C at hns₁ hsb₁ hDC hCle below ⊢
 generalize hDg:s2.heap.objs.size = D at hDC below hacc fpl tlt ⊢
 have hDle:D<=C:=by rw [← hDg]; exact hCle
 have cls:∀ y c,cl.lookup y = some c->X.env.cells.lookup y = some c:=fun y c e=>hcl.mem e
 have clt:∀ y c,cl.lookup y = some c->c < D:=fun y c e=>by
  obtain ⟨v,q⟩:=I2.cell y c (cls y c e)
  rw [← hDg]; exact q.lt
 have sub:∀ b∈frs X.stack,b < D:=fun b hb=>by
  rcases List.mem_cons.mp (I2.stkSub b hb) with e | hb
  ·rw [e,← hDg]; exact I2.lt
  ·obtain ⟨_,o,ho,_⟩:=I2.ok.funs.mem hb
   rw [← hDg]; exact Nat.lt_of_lt_of_le (Heap.lt_size ho) I2.sz
 obtain ⟨YI,YE⟩:=hY C s2 H2 fp
 have YG:=hg C s2 H2 fp
 have Yok:(cxComp X scope cl NY C s2 H2 fp).Ok:=by
  refine ⟨I2.ok.mod,hkind,I2.ok.glob,I2.ok.blt,hCle,?_,?_,?_,fun _=>I2.ok.hd hc,I2.ok.frames,.inl rfl,?_,I2.bs,Nat.le_trans I2.ok.bsz I2.sz,?_,?_,I2.stack,I2.stkFree⟩
  ·exact fun y z c e1 e2=>I2.ok.inj y z c (cls y c e1) (cls z c e2)
  ·intro y hy
   have hm:=lookup_relabel_inv (env:=X.env) (names:=scope.names) (x:=y) hcell hy
   have q:=List.all_eq_true.mp hall _ hm
   show ∃ c,cl.lookup y = some c
   exact Option.isSome_iff_exists.mp (by simpa using q)
  ·intro y c hf _
   exact absurd hf (by show ¬ false = true; decide)
  ·intro b hb
   refine ⟨(below b (fpl b hb)).1,fun y c e z=>?_⟩
   exact (f2 b hb).2.2.2.2.1 y c (cls y c e) z
  ·intro b o e hb
   have hb:b∈fp:=hb
   rcases (f2 b hb).2.2.2.1 with z | z
   ·exact I2.ok.noex b o e z
   ·exact absurd (Nat.lt_of_lt_of_le (Heap.lt_size e) (Nat.le_trans I2.ok.bsz z)) (Nat.lt_irrefl _)
  ·intro b hb hf
   have hb:b∈fp:=hb
   rcases List.mem_cons.mp (I2.stkSub b hf) with e | hf
   ·exact (f2 b hb).2.1 e
   ·exact (f2 b hb).2.2.1 hf
 have start:∀ tk,Inv (cxComp X scope cl NY C s2 H2 fp) [] (List.replicate NY.length none) H2 { s2 with heap:=h₁,toks:=tk }:=fun tk=>by
  refine ⟨Yok,rfl,I2.bare,Un.kept old,⟨_,hns₁,fun i y v e1 e2 e3=>?_⟩,fun y c e=>?_,?_,fun y c e=>?_,fun p hp=>absurd (show p∈([]:List (Addr × Obj)) from hp) (by simp),I2.hok.kept old,?_⟩
  ·rw [List.getElem?_replicate] at e2
   split at e2 <;> simp at e2
  ·obtain ⟨v,o,ho,hd⟩:=I2.cell y c (cls y c e)
   exact ⟨v,o,old _ _ ho,hd⟩
  ·show H2 C = none
   cases q:H2 C with
   | none=>rfl
   | some o=>exact absurd (tlt C o q) (Nat.not_lt.mpr hDle)
  ·exact I2.freeC y c (cls y c e)
  ·show (List.replicate NY.length (none:Option V)).length = NY.length
   rw [List.length_replicate]
 have fpY:∀ {pl:List (Addr × Obj)}{H':Hp},(∀ b∈fp,H' b = none)->(∀ p∈pl,p.1 = D)->∀ b∈fp,FpOk (cxComp X scope cl NY C s2 H2 fp) pl H' b:=fun {pl H'} hn hpl b hb=>by
  refine ⟨hn b hb,(below b (fpl b hb)).1,Yok.exfs b hb,.inl hb,fun y c e z=>(f2 b hb).2.2.2.2.1 y c (cls y c e) z,fun p hp=>?_⟩
  have hp:p∈[] ++ pl:=hp
  rw [List.nil_append] at hp
  rw [hpl p hp]
  exact (below b (fpl b hb)).2.symm
 have loop:∀ s₃:Shared,(∃ tk,s₃ = { s2 with heap:=h₁,toks:=tk })->
   codeAny (model X.prog X.w) X.A (.compLoop (.ListComp elt [⟨tg,iter,ifs,0⟩] scope pos) 0 (.ref it) (.ref D) (compEnvC scope cl C X.env))
    (compPost (model X.prog X.w) X.A X.xe (some (assign (.Name y py) X.env)) (fun _ s'=>SP X zp Dn .next s') (.ref D) C) s₃:=by
  rintro s₃ ⟨tk,rfl⟩
  refine comp_loop
   (fun k s'=>∃ i vs ws nn H',Inv (cxComp X scope cl NY C s2 H2 fp) [] (List.replicate NY.length none) H' s'/\tn i s'.heap/\(∀ b∈fp,H' b = none)/\H' D = none /\
    s'.heap.get? D = some { cls:=.type "list",data:=.seq (ws:List Value).toArray nn }/\Vals vs ws/\W i k vs H') ?_ m0
   ⟨0,[],[],0,H2,start tk,T.keep _ _ _ st2 fun b _ o e=>old b o e,fun b hb=>(f2 b hb).1,?_,hacc,.nil,w0⟩
  ·rintro n s3 ⟨i,vs,ws,nn,H3,I3,st3,fr3,hD3,ho3,rv3,w3⟩
   have I3':Inv (cxComp X scope cl NY C s2 H2 fp) [(D,{ cls:=.type "list",data:=.seq ws.toArray nn })] (List.replicate NY.length none) H3 s3:=I3.pins_of fun p hp=>by
    have e:p = (D,{ cls:=.type "list",data:=.seq ws.toArray nn }):=by simpa using hp
    subst e
    refine ⟨ho3,hD3,hDC,fun z=>absurd (sub D z) (Nat.lt_irrefl _),fun v z=>?_⟩
    have z':Data.seq ws.toArray nn = Data.cell v:=z
    cases z'
   have fp3:=fpY (pl:=[(D,{ cls:=.type "list",data:=.seq ws.toArray nn })]) fr3 (fun p hp=>by rw [List.mem_singleton.mp hp])
   obtain ⟨hsz,alt⟩:=turn i n vs H3 w3
   rcases alt with ⟨stop,fin⟩ | ⟨go,step⟩
   ·refine thn (T.done (cxComp X scope cl NY C s2 H2 fp) rfl rfl rfl rfl i _ s3 _ H3 _ I3' fp3 st3 stop) fun r s4 ⟨hr,I4⟩=>?_
    subst hr
    have pD:=I4.pin (D,{ cls:=.type "list",data:=.seq ws.toArray nn }) (by show _∈[] ++ _; simp)
    obtain ⟨m4,hn4,_⟩:=I4.loc
    have hC4:H3 C = none:=I4.free
    have hok4:HOk X.prog X.w (upd H3 D (.lst vs)) s4.heap:=HOk.track I4.hok hD3 ⟨hsz,ws,nn,rv3,pD.1⟩
    have b4:=I4.base
    have un4:Un (frs X.stack) fp H2 (upd H3 D (.lst vs)) s2.heap s4.heap:=by
     have lt:∀ b o,s2.heap.get? b = some o->b < D:=fun b o e=>by rw [← hDg]; exact Heap.lt_size e
     refine ⟨b4.keep,b4.slot,fun b o e n hx=>?_,b4.there,fun b zs e=>?_,fun b o u e=>?_,fun b ps e=>?_⟩
     ·rw [upd_ne (below b (lt b o e)).2]; exact b4.free b o e n hx
     ·rw [upd_ne (below b (tlt b _ e)).2]; exact b4.tups b zs e
     ·rw [upd_ne (below b (tlt b _ e)).2]; exact b4.frzs b o u e
     ·rw [upd_ne (below b (tlt b _ e)).2]; exact b4.tbls b ps e
    have I5:Inv X zp σ (upd H3 D (.lst vs)) s4:=I2.call' (ch:=fp) I4.os un4 hok4 I4.bare fun b hb=>⟨(f2 b hb).2.2.2.1,(f2 b hb).2.1,(f2 b hb).2.2.2.2.1,(f2 b hb).2.2.2.2.2⟩
    have fC:FpOk X zp (upd H3 D (.lst vs)) C:=I2.fpOk (by rw [hDg]; exact hDle) (by rw [upd_ne hDC.symm]; exact hC4)
    refine (show wpAny _ X.A (assign (.Name y py) X.env (.ref D)) _ _ s4 from wpAny_assign_Name (store_ok2 I5 hN hiy hy (v:=.ref D) rfl (fun s5 I6 ⟨a,hsa,ha⟩=>?_) hf))
    have aC:C≠a:=by
     rcases ha with ha | ha
     ·rw [ha]; exact fC.2.1
     ·exact (fC.2.2.2.2.1 _ _ ha).symm
    refine ⟨m4,hn4.sameBut hsa aC,fun h' hs'=>⟨_,upd H3 D (.lst vs),I6.turned (t':=s5.toks) (it:=C) (fun b o hb e=>(hs'.2 b hb).trans e) fC.1 fC.2.1 fC.2.2.2.1 fC.2.2.2.2.1 fC.2.2.2.2.2,fin D hD3⟩⟩
   ·refine thn (T.item (cxComp X scope cl NY C s2 H2 fp) rfl rfl rfl rfl i _ s3 _ H3 _ I3' fp3 st3 go) fun r s4 ⟨u,hr,h4⟩=>?_
    subst hr
    refine thn h4 fun _ s5 ⟨v,H5,I5,r5,y5,st5,fr5⟩=>?_
    have fp5:=fpY (pl:=[(D,{ cls:=.type "list",data:=.seq ws.toArray nn })]) fr5 (fun p hp=>by rw [List.mem_singleton.mp hp])
    have I5':=I5.pinned fp5 (T.obj _ _ st5)
    refine thn (YG _ s5 _ H5 v u _ I5' r5 (step v H5 y5)) fun _ s6 ⟨σ6,H6,I6,q6⟩=>?_
    refine thn (YI _ s6 _ _ _ I6 q6) fun b s7 ⟨H7,I7,q7⟩=>?_
    have back:∀ {H8:Hp}{s8:Shared},Inv (cxComp X scope cl NY C s2 H2 fp) ([(D,{ cls:=.type "list",data:=.seq ws.toArray nn })] ++ pinsAt fp s5.heap) σ6 H8 s8->
      s8.heap.get? D = some { cls:=.type "list",data:=.seq ws.toArray nn }/\H8 D = none/\(∀ b∈fp,H8 b = none)/\(∀ b∈fp,∀ o,s5.heap.get? b = some o->s8.heap.get? b = some o):=fun {H8 s8} I8=>by
     have pD:=I8.pin (D,{ cls:=.type "list",data:=.seq ws.toArray nn }) (by show _∈[] ++ _; simp)
     refine ⟨pD.1,pD.2.1,fun b hb=>?_,fun b hb o e=>?_⟩
     ·obtain ⟨o,e,d⟩:=T.obj _ _ st5 b hb
      exact (I8.pin (b,o) (List.mem_append_right _ (List.mem_append_right _ (mem_pinsAt hb e)))).2.1
     ·exact (I8.pin (b,o) (List.mem_append_right _ (List.mem_append_right _ (mem_pinsAt hb e)))).1
    have weak:∀ {H8:Hp}{s8:Shared},Inv (cxComp X scope cl NY C s2 H2 fp) [] σ6 H8 s8->Inv (cxComp X scope cl NY C s2 H2 fp) [] (List.replicate NY.length none) H8 s8:=fun {H8 s8} I8=>
     I8.weak (by rw [List.length_replicate]; exact I8.len.symm) fun i v' e=>by
      rw [List.getElem?_replicate] at e
      split at e <;> simp at e
    have nopin:∀ {H8:Hp}{s8:Shared}{pl:List (Addr × Obj)},Inv (cxComp X scope cl NY C s2 H2 fp) pl σ6 H8 s8->Inv (cxComp X scope cl NY C s2 H2 fp) [] σ6 H8 s8:=fun {H8 s8 pl} I8=>
     I8.pins_of fun p hp=>absurd hp (by simp)
    cases b with
    | false=>
     rw [if_neg Bool.false_ne_true] at q7 ⊢
     obtain ⟨m',hm,w7⟩:=q7
     obtain ⟨k1,k2,k3,k4⟩:=back I7
     exact ⟨m',hm,i + 1,vs,ws,nn,H7,weak (nopin I7),T.keep _ _ _ st5 k4,k3,k2,k1,rv3,w7⟩
    | true=>
     rw [if_pos rfl] at q7 ⊢
     refine thn (YE _ s7 _ _ _ I7 q7) fun u8 s8 ⟨y8,H8,I8,r8,m',hm,w8⟩=>?_
     obtain ⟨k1,k2,k3,k4⟩:=back I8
     refine append_at (hsz:=by rw [List.size_toArray,← rv3.length]; exact hsz) k1 fun h9 hs9 ho9=>?_
     have I9:Inv (cxComp X scope cl NY C s2 H2 fp) [] σ6 H8 { s8 with heap:=h9 }:=
      (nopin I8).turned (t':=s8.toks) (it:=D) (fun b o hb e=>(hs9.2 b hb).trans e) k2 hDC (.inr (by rw [← hDg]; exact Nat.le_refl _)) (fun y c e=>Nat.ne_of_lt (clt y c e)) fun p hp=>absurd (show p∈([]:List (Addr × Obj)) from hp) (by simp)
     refine ⟨m',hm,i + 1,vs ++ [y8],ws ++ [u8],nn + 1,H8,weak I9,?_,k3,k2,?_,rv3.append (.cons r8 .nil),w8⟩
     ·refine T.keep _ _ _ st5 fun b hb o e=>?_
      exact (hs9.2 b (below b (fpl b hb)).2).trans (k4 b hb o e)
     ·rw [ho9,List.push_toArray]
  ·cases q:H2 D with
   | none=>rfl
   | some o=>exact absurd (tlt D o q) (Nat.lt_irrefl _)
 exact codeAny_compStart_list (loop _ ⟨_,rfl⟩) (T.self _ 0 _ _ _ (T.keep _ _ _ st2 fun b _ o e=>old b o e) (loop _ ⟨_,rfl⟩))
end L2
namespace D
open PySem L2
theorem ps_lsetT {X:Cx}{i:Nat}{y:Str}{py spos:Pos}{elt iter tg:Expr}{pos:Pos}{ifs:List Expr}{scope:Scope}{cl:List (Str × Addr)} (NY:List Str) {wi:TI}{g:TG}{tt:TT}{te:TE}
  (hc:X.calm = true) (hclos:closureFor scope X.env = pure cl) (hcell:∀ y∈scope.names,y.2≠.cell) (hkind:scope.kind = .function) (hnames:∀ y∈scope.names,y.2 = .local->scope.names.lookup y.1 = some .local)
  (hcl:ClOk cl X.env.cells) (hall:(scope.names.all fun y=>y.2 != .free || (cl.lookup y.1).isSome) = true)
  (hi:QI X tg iter wi) (hg:∀ C s H fp,QG (cxComp X scope cl NY C s H fp) tg g)
  (hY:∀ C s H fp,QIfs (cxComp X scope cl NY C s H fp) ifs tt/\QE (cxComp X scope cl NY C s H fp) elt te)
  (hN:X.N.Nodup) (hiy:X.N[i]? = some y) (hy:L2.Loc X.env.scope y) (hsw:swapsWith (.ListComp elt [⟨tg,iter,ifs,0⟩] scope pos) (some (.Name y py)) spos.line X.env = pure true:=by rfl)
  (hf:X.fn y = true\/X.env.scope.names.lookup y = some .local:=by first | exact .inl rfl | exact .inr rfl | assumption)
  (hs:∀ v,foldedSetIterable iter X.env v = pure v:=by intro _; rfl):
  QS X (.Assign [.Name y py] (.ListComp elt [⟨tg,iter,ifs,0⟩] scope pos) spos) (tAsg (tLCompT NY.length wi g tt te) (gName i)):=
 ⟨L2.ps_lsetT NY hc hclos hcell hkind hnames hcl hall hi.un (fun C s H fp=>(hg C s H fp).un) (fun C s H fp=>⟨(hY C s H fp).1.un,(hY C s H fp).2.un⟩) hN hiy hy hsw hf hs⟩
end D
namespace L2
open PySem PySem.Spec PyProof.Rows
theorem mt_find3 {X:Cx}:MtR X "str.find" (fun x xs H Q=>∃ (z y:Str) (i:Int),x = .str z/\xs = [.str y,.int i]/\Q (.int (Txt.find3 z y i)) H):=by
 intro zp s σ H x xs v us Q I rx rv h
 obtain ⟨z,y,i,rfl,rfl,q⟩:=h
 obtain ⟨t,rfl⟩:=rx
 obtain ⟨u,u2,rfl,⟨tu,rfl⟩,⟨tv,rfl⟩⟩:=vals2 rv
 exact SC.find3 ⟨.int _,H,I.tok _,⟨_,rfl⟩,q⟩
theorem mt_starts {X:Cx}:MtR X "str.startswith" (fun x xs H Q=>∃ (z y:Str),x = .str z/\xs = [.str y]/\Q (.bl (Txt.startswith z y)) H):=by
 intro zp s σ H x xs v us Q I rx rv h
 obtain ⟨z,y,rfl,rfl,q⟩:=h
 obtain ⟨t,rfl⟩:=rx
 obtain ⟨u,rfl,tu,rfl⟩:=vals1 rv
 exact SC.startswith ⟨.bl _,H,I,rfl,q⟩
theorem call_int_text {X:Cx}:CallR X (.type "int") (fun xs H Q=>∃ (x:Str) (n:Int),xs = [.str x]/\PySem.intText? x = some n/\x.length<=640/\Q (.int n) H):=by
 intro zp s σ H xs us Q I r h
 obtain ⟨x,n,rfl,hn,hl,q⟩:=h
 obtain ⟨u,rfl,t,rfl⟩:=vals1 r
 exact PySem.W.KIN.call_text hn hl ⟨.int n,H,I.tok _,⟨_,rfl⟩,q⟩
theorem rd_mapTP {K:PySem.W.Frag}{fr:List Nat}{tl te:TE}{σ:St}{H:Hp}{Q:VK}{a:Addr}{vs:List V} (Pv:Nat->List V->Hp->Prop) (hσ:∀ R:VK,R (.ref a) H->tl σ H R) (hS:SqT K H a vs) (hz:vs.length<=sizeLine) (h0:Pv 0 [] H) (hlen:∀ i us H1,Pv i us H1->us.length = i)
  (step:∀ (i:Nat) (v:V) (us:List V) (H1:Hp) (R:VK),vs[i]? = some v->Pv i us H1->Same H H1->(∀ y H2,Same H1 H2->Pv (i + 1) (us ++ [y]) H2->R y H2)->te (some v :: frees fr σ) H1 R)
  (fin:∀ (us:List V) (H1:Hp) (D:Addr),Pv vs.length us H1->Same H H1->H1 D = none->Q (.ref D) (upd H1 D (.lst us))):tLComp fr (iTup K tl) (fun _ H Q=>Q true H) te σ H Q:=by
 refine hσ _ ⟨a,rfl,⟨vs,hS⟩,fun i m us H1=>i<=vs.length/\m = vs.length - i/\Pv i us H1/\Same H H1,⟨_,Nat.zero_le _,rfl,h0,Same.refl _⟩,fun i m us H1 hW=>?_⟩
 obtain ⟨hi,hm,hu,sm⟩:=hW
 refine ⟨by rw [hlen _ _ _ hu]; omega,?_⟩
 by_cases hlt:i < vs.length
 ·refine .inr ⟨⟨vs,vs[i],sm.seqT hS,List.getElem?_eq_getElem hlt⟩,fun v H' hy=>?_⟩
  obtain ⟨rfl,hv⟩:=hy
  have hv:=hv vs (sm.seqT hS)
  refine iteT ?_
  exact step i v us H' _ hv hu sm fun y H2 s2 p2=>⟨vs.length - (i + 1),by omega,by omega,rfl,p2,sm.trans s2⟩
 ·have e:i = vs.length:=by omega
  subst e
  exact .inl ⟨⟨vs,sm.seqT hS,by omega⟩,fun D hD=>fin us H1 D hu sm hD⟩
end L2
namespace D
open PySem L2
theorem slice_ss {z:Str}{a b:Nat} (h1:a<=b) (h2:b<=z.length):(Txt.slice z (some (a:Int)) (some (b:Int))).cps.toList = (z.cps.toList.drop a).take (b - a):=by
 have e:=PyProof.Rows.slice_closes (x:=z) (i:=(a:Int)) (j:=(b:Int)) ⟨by omega,by omega,by rw [str_len]; omega⟩
 have e2:=eq_of_beq e
 rw [e2]
 simp
 try (congr 1; omega)
theorem slice_sn {z:Str}{a:Nat} (h1:a<=z.length):(Txt.slice z (some (a:Int)) none).cps.toList = z.cps.toList.drop a:=by
 rw [PyProof.Rows.slice_from_eq (x:=z) (i:=(a:Int)) (b:=(z.length:Int)) (by omega) (by omega) rfl]
 simp
 rw [List.take_of_length_le]
 rw [List.length_drop,str_len]
 omega
theorem getD_at {z:Str}{i c:Nat} (h:z.cps.toList[i]? = some c):z.cps.getD i 0 = c:=by
 have:z.cps[i]? = some c:=by simpa using h
 simp [Array.getD_eq_getD_getElem?,this]
theorem find_quote {z:Str}{pre q r:List Nat} (hz:z.cps.toList = pre ++ 34 :: (q ++ 34 :: r)) (hq:∀ c∈q,c≠34):Txt.find3 z ⟨#[34]⟩ (((pre.length:Nat):Int) + 1) = ((pre.length + 1 + q.length:Nat):Int):=by
 have hl:z.length = pre.length + 1 + q.length + 1 + r.length:=by
  rw [← str_len,hz]; simp; omega
 have hf:fromIndex z.length (((pre.length:Nat):Int) + 1) = pre.length + 1:=by
  unfold fromIndex
  rw [if_neg (by omega)]
  omega
 have atq:z.cps.toList[pre.length + 1 + q.length]? = some 34:=by
  rw [hz,List.getElem?_append_right (by omega)]
  rw [show pre.length + 1 + q.length - pre.length = (q.length) + 1 by omega,List.getElem?_cons_succ,List.getElem?_append_right (by omega)]
  simp
 have atv:∀ v,pre.length + 1<=v->v < pre.length + 1 + q.length->z.cps.getD v 0≠34:=fun v h1 h2=>by
  have hv:v - pre.length - 1 < q.length:=by omega
  obtain ⟨u,hu⟩:∃ u,u = v - pre.length - 1:=⟨_,rfl⟩
  have hv2:u < q.length:=by omega
  have e:z.cps.toList[v]? = some (q[u]):=by
   rw [hz,List.getElem?_append_right (by omega)]
   rw [show v - pre.length = u + 1 by omega,List.getElem?_cons_succ,List.getElem?_append_left hv2]
   simp
  rw [getD_at e]
  exact hq _ (List.getElem_mem hv2)
 rcases StrLaws.find3_spec z 34 (((pre.length:Nat):Int) + 1) with ⟨_,hn⟩ | ⟨k,hk,h1,h2,h3,h4⟩
 ·exact absurd (getD_at atq) (hn _ (by omega) (by omega))
 ·rw [hk]
  rw [hf] at h1 h4
  have:k = pre.length + 1 + q.length:=by
   rcases Nat.lt_trichotomy k (pre.length + 1 + q.length) with h | h | h
   ·exact absurd h3 (atv k h1 h)
   ·exact h
   ·exact absurd (getD_at atq) (h4 _ (by omega) h)
  rw [this]
def wEnds:Str:=Str.ofString " \n()\""
def wGaps:Str:=Str.ofString " \n"
def wFigs:Str:=Str.ofString "0123456789"
def wBr:Str:=Str.ofString "()"
theorem wEnds_list:wEnds.cps.toList = [32,10,40,41,34]:=by decide +kernel
theorem wGaps_list:wGaps.cps.toList = [32,10]:=by decide +kernel
theorem wFigs_list:wFigs.cps.toList = [48,49,50,51,52,53,54,55,56,57]:=by decide +kernel
theorem wBr_list:wBr.cps.toList = [40,41]:=by decide +kernel
theorem in_one (z:Str) (c:Nat):(!(Builtin.Str.occurrences z ⟨#[c]⟩ 0 z.length 1).isEmpty) = decide (c∈z.cps.toList):=StrLaws.found_one z c
def digs (m:Nat):List Nat:=(Nat.toDigits 10 m).map Char.toNat
theorem digit_nat:∀ d:Nat,d < 10->(Nat.digitChar d).toNat = 48 + d:=by decide
theorem digs_lt {m:Nat} (h:m < 10):digs m = [48 + m]:=by
 unfold digs
 rw [Nat.toDigits_of_lt_base h]
 simp [digit_nat m h]
theorem digs_ge {m:Nat} (h:¬ m < 10):digs m = digs (m / 10) ++ [48 + m % 10]:=by
 have hm:m % 10 < 10:=Nat.mod_lt m (by decide)
 have t:Nat.toDigits 10 (m / 10) ++ Nat.toDigits 10 (m % 10) = Nat.toDigits 10 (10 * (m / 10) + m % 10):=Nat.toDigits_append_toDigits (by decide) (by omega) hm
 rw [Nat.div_add_mod] at t
 unfold digs
 rw [← t,List.map_append,Nat.toDigits_of_lt_base hm]
 simp [digit_nat _ hm]
theorem digs_all (m:Nat):∀ c∈digs m,48<=c/\c<=57:=by
 induction m using Nat.strongRecOn with
 | _ m ih=>
  by_cases h:m < 10
  ·rw [digs_lt h]; intro c hc; simp at hc; omega
  ·rw [digs_ge h]
   intro c hc
   rcases List.mem_append.mp hc with hc | hc
   ·exact ih (m / 10) (by omega) c hc
   ·simp at hc; omega
theorem digs_ne (m:Nat):digs m≠[]:=by
 by_cases h:m < 10
 ·rw [digs_lt h]; simp
 ·rw [digs_ge h]; simp
theorem digs_head (m:Nat) (h0:0 < m):∀ c s,digs m = c :: s->c≠48:=by
 induction m using Nat.strongRecOn with
 | _ m ih=>
  intro c s e
  by_cases h:m < 10
  ·rw [digs_lt h] at e; simp at e; omega
  ·rw [digs_ge h] at e
   cases hd:digs (m / 10) with
   | nil=>exact absurd hd (digs_ne _)
   | cons x y=>
    rw [hd] at e
    simp at e
    have:=ih (m / 10) (by omega) (by omega) x y hd
    omega
theorem digs_len (k:Nat):∀ m:Nat,0 < k->m < 10 ^ k->(digs m).length<=k:=by
 induction k with
 | zero=>intro m h; omega
 | succ k ih=>
  intro m _ h
  by_cases h1:m < 10
  ·rw [digs_lt h1]; simp
  ·rw [digs_ge h1]
   have hk:0 < k:=by
    cases k with
    | zero=>simp at h; omega
    | succ k=>omega
   have:=ih (m / 10) hk (by rw [Nat.pow_succ] at h; omega)
   simp; omega
theorem digs_zero:digs 0 = [48]:=by rw [digs_lt (by decide)]
def numC (i:Int):List Nat:=if 0<=i then digs i.toNat else 45 :: digs i.natAbs
def isEnd (c:Nat):Bool:=c == 32 || (c == 10 || (c == 40 || (c == 41 || c == 34)))
inductive Pc where
 | op | cl
 | txt (q:List Nat)
 | word (q:List Nat)
def Cut (r:List Nat):Prop:=∀ c s,r = c :: s->isEnd c = true
inductive Spell:List Nat->List Pc->Prop where
 | nil:Spell [] []
 | gap {c:Nat}{r:List Nat}{ps:List Pc}:c = 32\/c = 10->Spell r ps->Spell (c :: r) ps
 | op {r:List Nat}{ps:List Pc}:Spell r ps->Spell (40 :: r) (.op :: ps)
 | cl {r:List Nat}{ps:List Pc}:Spell r ps->Spell (41 :: r) (.cl :: ps)
 | txt {q r:List Nat}{ps:List Pc}:(∀ c∈q,c≠34)->Spell r ps->Spell (34 :: (q ++ 34 :: r)) (.txt q :: ps)
 | word {c:Nat}{q r:List Nat}{ps:List Pc}:isEnd c = false->(∀ d∈q,isEnd d = false)->Cut r->Spell r ps->Spell (c :: (q ++ r)) (.word (c :: q) :: ps)
theorem Spell.gaps {g r:List Nat}{ps:List Pc} (hg:∀ c∈g,c = 32\/c = 10) (h:Spell r ps):Spell (g ++ r) ps:=by
 induction g with
 | nil=>exact h
 | cons c g ih=>exact .gap (hg c List.mem_cons_self) (ih fun d hd=>hg d (List.mem_cons_of_mem _ hd))
theorem Spell.word' {q r:List Nat}{ps:List Pc} (hne:q≠[]) (hq:∀ d∈q,isEnd d = false) (hc:Cut r) (h:Spell r ps):Spell (q ++ r) (.word q :: ps):=by
 cases q with
 | nil=>exact absurd rfl hne
 | cons c q=>exact .word (hq c List.mem_cons_self) (fun d hd=>hq d (List.mem_cons_of_mem _ hd)) hc h
inductive Tr where
 | word (q:List Nat)
 | txt (q:List Nat)
 | lst (ts:List Tr)
mutual
def trW (N:Int->List Nat):W->Tr
 | .num i=>.word (N i)
 | .txt x=>.txt x.cps.toList
 | .lst ws=>.lst (trWs N ws)
def trWs (N:Int->List Nat):List W->List Tr
 | []=>[]
 | w :: r=>trW N w :: trWs N r
end
def run:List Pc->List (List Tr)->Option (List (List Tr))
 | [],st=>some st
 | .op :: ps,st=>if st.length < 100 then run ps ([] :: st) else none
 | .cl :: ps,st=>match st with
  | t :: u :: rest=>run ps ((u ++ [.lst t]) :: rest)
  | _=>none
 | .txt q :: ps,st=>match st with
  | t :: rest=>run ps ((t ++ [.txt q]) :: rest)
  | _=>none
 | .word q :: ps,st=>match st with
  | t :: rest=>run ps ((t ++ [.word q]) :: rest)
  | _=>none
mutual
def shW (N:Int->List Nat):W->List Nat
 | .num i=>N i
 | .txt x=>34 :: (x.cps.toList ++ [34])
 | .lst ws=>40 :: (shWs N ws ++ [41])
def shWs (N:Int->List Nat):List W->List Nat
 | []=>[]
 | [w]=>shW N w
 | w :: v :: r=>shW N w ++ 32 :: shWs N (v :: r)
end
theorem cut_blank {r:List Nat}:Cut (32 :: r):=fun c s e=>by cases e; rfl
theorem cut_shut {r:List Nat}:Cut (41 :: r):=fun c s e=>by cases e; rfl
theorem cut_nil:Cut []:=fun c s e=>by cases e
mutual
def shT:Tr->List Nat
 | .word q=>q
 | .txt q=>34 :: (q ++ [34])
 | .lst ts=>40 :: (shTs ts ++ [41])
def shTs:List Tr->List Nat
 | []=>[]
 | [t]=>shT t
 | t :: u :: r=>shT t ++ 32 :: shTs (u :: r)
end
mutual
def pcT:Tr->List Pc
 | .word q=>[.word q]
 | .txt q=>[.txt q]
 | .lst ts=>.op :: (pcTs ts ++ [.cl])
def pcTs:List Tr->List Pc
 | []=>[]
 | t :: r=>pcT t ++ pcTs r
end
mutual
def Tr.Ok:Tr->Prop
 | .word q=>q≠[]/\∀ c∈q,isEnd c = false
 | .txt q=>∀ c∈q,c≠34
 | .lst ts=>TrOks ts
def TrOks:List Tr->Prop
 | []=>True
 | t :: r=>t.Ok/\TrOks r
end
mutual
def Tr.deep:Tr->Nat
 | .word _=>0
 | .txt _=>0
 | .lst ts=>1 + deeps ts
def deeps:List Tr->Nat
 | []=>0
 | t :: r=>max t.deep (deeps r)
end
mutual
theorem run_pcT:∀ (x:Tr) (ps:List Pc) (t:List Tr) (rest:List (List Tr)),rest.length + 1 + x.deep<=100->run (pcT x ++ ps) (t :: rest) = run ps ((t ++ [x]) :: rest)
 | .word q,ps,t,rest,_=>by rw [pcT]; rfl
 | .txt q,ps,t,rest,_=>by rw [pcT]; rfl
 | .lst ts,ps,t,rest,h=>by
  rw [Tr.deep] at h
  rw [pcT,List.cons_append,List.append_assoc]
  have:=run_pcTs ts (.cl :: ps) [] (t :: rest) (by rw [List.length_cons]; omega)
  rw [run,if_pos (by rw [List.length_cons]; omega)]
  rw [List.singleton_append,this,run,List.nil_append]
theorem run_pcTs:∀ (xs:List Tr) (ps:List Pc) (t:List Tr) (rest:List (List Tr)),rest.length + 1 + deeps xs<=100->run (pcTs xs ++ ps) (t :: rest) = run ps ((t ++ xs) :: rest)
 | [],ps,t,rest,_=>by rw [pcTs,List.nil_append,List.append_nil]
 | x :: r,ps,t,rest,h=>by
  rw [deeps] at h
  rw [pcTs,List.append_assoc,run_pcT x _ t rest (by omega),run_pcTs r ps (t ++ [x]) rest (by omega),List.append_assoc]
  rfl
end
theorem run_tree (x:Tr) (h:x.deep<=90):run (pcT x) [[]] = some [[x]]:=by
 have:=run_pcT x [] [] [] (by show 0 + 1 + x.deep<=100; omega)
 rw [List.append_nil] at this
 rw [this]
 rfl
mutual
theorem spell_shT:∀ (x:Tr),x.Ok->∀ (r:List Nat) (ps:List Pc),Cut r->Spell r ps->Spell (shT x ++ r) (pcT x ++ ps)
 | .word q,ok,r,ps,hc,h=>by rw [Tr.Ok] at ok; rw [shT,pcT]; exact Spell.word' ok.1 ok.2 hc h
 | .txt q,ok,r,ps,hc,h=>by
  rw [Tr.Ok] at ok
  have:=Spell.txt ok h
  simpa [shT,pcT] using this
 | .lst ts,ok,r,ps,hc,h=>by
  rw [Tr.Ok] at ok
  have:=spell_shTs ts ok (41 :: r) (.cl :: ps) cut_shut (.cl h)
  have h2:=Spell.op this
  simpa [shT,pcT,List.append_assoc] using h2
theorem spell_shTs:∀ (xs:List Tr),TrOks xs->∀ (r:List Nat) (ps:List Pc),Cut r->Spell r ps->Spell (shTs xs ++ r) (pcTs xs ++ ps)
 | [],_,r,ps,_,h=>by rw [shTs,pcTs]; exact h
 | [x],ok,r,ps,hc,h=>by
  rw [TrOks] at ok
  have:=spell_shT x ok.1 r ps hc h
  simpa [shTs,pcTs] using this
 | x :: y :: s,ok,r,ps,hc,h=>by
  rw [TrOks] at ok
  have h1:=spell_shTs (y :: s) ok.2 r ps hc h
  have h2:Spell (32 :: (shTs (y :: s) ++ r)) (pcTs (y :: s) ++ ps):=.gap (.inl rfl) h1
  have h3:=spell_shT x ok.1 _ _ cut_blank h2
  rw [pcTs,shTs]
  simpa [List.append_assoc] using h3
end
theorem spell_tree {x:Tr} (ok:x.Ok):Spell (shT x) (pcT x):=by
 have:=spell_shT x ok [] [] cut_nil .nil
 rw [List.append_nil,List.append_nil] at this
 exact this
mutual
theorem shT_W (N:Int->List Nat):∀ w:W,shT (trW N w) = shW N w
 | .num i=>by rw [trW,shT,shW]
 | .txt x=>by rw [trW,shT,shW]
 | .lst ws=>by rw [trW,shT,shW,shTs_W N ws]
theorem shTs_W (N:Int->List Nat):∀ ws:List W,shTs (trWs N ws) = shWs N ws
 | []=>by rw [trWs,shTs,shWs]
 | [w]=>by rw [trWs,trWs,shTs,shWs,shT_W N w]
 | w :: v :: r=>by
  have:=shTs_W N (v :: r)
  rw [trWs] at this
  rw [trWs,trWs,shTs,shWs,shT_W N w,this]
end
mutual
theorem deep_W (N:Int->List Nat):∀ w:W,(trW N w).deep = w.depth
 | .num i=>by rw [trW,Tr.deep,W.depth]
 | .txt x=>by rw [trW,Tr.deep,W.depth]
 | .lst ws=>by rw [trW,Tr.deep,W.depth,deeps_W N ws]
theorem deeps_W (N:Int->List Nat):∀ ws:List W,deeps (trWs N ws) = depths ws
 | []=>by rw [trWs,deeps,depths]
 | w :: r=>by rw [trWs,deeps,depths,deep_W N w,deeps_W N r]
end
def Vr (z:Str):Prop:=1<=z.length/\z.length<=8/\∀ c∈z.cps.toList,97<=c/\c<=122
def spVar:Sp:=fun vs H Q _=>∃ b:Addr,vs = [.ref b]/\IsBox H b/\∀ (z:Str) (H':Hp),Vr z->Step b H H'->Q (.str z) H'
def abxy:Str:=Str.ofString "abxy"
def abc:Str:=Str.ofString "abcdefghijklmnopqrstuvwxyz"
theorem Step.ofSame' {b:Addr}{H H':Hp} (hb:IsBox H b) (s:Same H H'):Step b H H':=⟨by obtain ⟨x,y,z,e⟩:=hb; exact ⟨x,y,z,s _ _ e⟩,fun c o _ e=>s c o e⟩
theorem at_sign {z:Str}{i:Int} (h0:0<=i) (h1:i < z.length):∃ c,atI z.cps.toList i = some c/\c∈z.cps.toList:=by
 have hl:i.toNat < z.cps.toList.length:=by rw [← str_len] at h1; omega
 refine ⟨z.cps.toList[i.toNat],?_,List.getElem_mem hl⟩
 have:=atI_nat (List.getElem?_eq_getElem hl)
 rw [show ((i.toNat:Nat):Int) = i by omega] at this
 exact this
theorem abxy_signs:∀ c∈abxy.cps.toList,97<=c/\c<=122:=by decide +kernel
theorem abc_signs:∀ c∈abc.cps.toList,97<=c/\c<=122:=by decide +kernel
section
variable {P:Program}{w:World}{K:PySem.W.Frag}{mg:Str->Option Value}{base:Heap}{f:Addr}{fd:FuncData}{k n:Nat}
theorem sc_lvariable:FnScope ["_law_box_here","_law_letters"] ["_law_box_here"] (defScope s_lvariable):=⟨rfl,rfl,rfl,by decide +kernel,rfl,by decide +kernel,by decide +kernel⟩
theorem ok_lvariable (F:Fun K "_law_variable" "_law_variable" s_lvariable f fd) (G_ltake:Have P w K mg base "_law_take" k ["_law_box_here","_law_wide"] (spTake)) (m_range:mg "range" = none):FnOk P w K mg base CX0 (k + 1) f fd ["_law_box_here"] (spVar):=by
 refine F.okQ sc_lvariable (fun vs H Q E h=>?_) (fun cdv A outer s H vs Q E hr h=>?_)
 ·obtain ⟨b,rfl,_⟩:=h
  rfl
 obtain ⟨b,rfl,hb,q⟩:=h
 refine ⟨_,(pss_cons (ps_if (pt_cmpR op_eq (pe_fn G_ltake hr rfl (pa_cons (pv 0) (pa_cons pe_int pa_nil))) pe_int (nomark _)) (pss_one (ps_ret (pe_ix ix_str pe_str (pe_fn G_ltake hr rfl (pa_cons (pv 0) (pa_cons pe_int pa_nil))) (fun _ _=>rfl)))) pss_nil)
  (pss_cons (ps_set (i:=1) sc_lvariable.nd rfl (Or.inr rfl) pe_str)
  (pss_one (ps_ret (pe_bm PySem.F.plainAttrs_str PySem.F.slot_str_join PySem.F.type_str_join mt_join pe_str (pa_cons (pe_lcomp [1,0] ["_law_letters","_law_box_here"] rfl rfl (by decide +kernel) rfl (by decide +kernel) rfl (by decide +kernel) ⟨rfl,rfl,trivial⟩ rfl ⟨⟨rfl,rfl,Or.inr (Or.inl rfl),(by show (some NameKind.cell:Option NameKind)≠some .local; decide),⟨_,rfl⟩⟩,⟨rfl,rfl,Or.inr (Or.inl rfl),(by show (some NameKind.cell:Option NameKind)≠some .local; decide),⟨_,rfl⟩⟩,trivial⟩ (pi_range1 rfl m_range (pa_cons (pe_op op_add pe_int (pe_fn G_ltake hr rfl (pa_cons (pv 0) (pa_cons pe_int pa_nil)))) pa_nil)) (fun C s H fp=>⟨pifs_nil,(pe_ix ix_str (pv 1) (pe_fn G_ltake hr rfl (pa_cons (pv 2) (pa_cons pe_int pa_nil))) (fun _ _=>rfl))⟩)) pa_nil)))))),?_⟩
 refine ⟨_,rfl,b,2,rfl,hb,by decide,by decide,fun r H1 r0 r1 st1=>⟨rfl,_,rfl,ite2 (fun _=>?_) (fun _=>?_)⟩⟩
 ·refine ⟨_,rfl,b,4,rfl,st1.box,by decide,by decide,fun n H2 n0 n1 st2=>?_⟩
  have h4:abxy.length = 4:=by decide +kernel
  obtain ⟨c,hc,hm⟩:=at_sign (z:=abxy) n0 (by omega)
  refine ⟨abxy,n,c,rfl,rfl,by decide +kernel,hc,q _ _ ⟨Nat.le_refl _,by show 1<=8; decide,fun d hd=>?_⟩ (st1.trans st2)⟩
  have:d = c:=by simpa using hd
  rw [this]
  exact abxy_signs c hm
 ·refine ⟨rfl,_,rfl,b,8,rfl,st1.box,by decide,by decide,fun m H3 m0 m1 st3=>?_⟩
  refine ⟨_,_,rfl,rfl,1 + m,rfl,by omega,by omega,fun i j us H'=>i<=(1 + m).toNat/\j = (1 + m).toNat - i/\(∃ cs:List Nat,us = (cs.map fun c=>(⟨#[c]⟩:Str)).map V.str/\cs.length = i/\∀ c∈cs,97<=c/\c<=122)/\Step b H H',⟨_,Nat.zero_le _,rfl,⟨[],rfl,rfl,fun c h=>nomatch h⟩,st1.trans st3⟩,fun i j us H' hW=>?_⟩
  obtain ⟨hi,hj,⟨cs,rfl,hcl,hcs⟩,st4⟩:=hW
  refine ⟨small (by rw [List.length_map,List.length_map]; omega),?_⟩
  by_cases hlt:i < (1 + m).toNat
  ·refine .inr ⟨hlt,fun v' H5 hy=>?_⟩
   obtain ⟨rfl,rfl⟩:=hy
   refine iteT ⟨_,rfl,_,rfl,b,26,rfl,st4.box,by decide,by decide,fun n H6 n0 n1 st6=>?_⟩
   have h26:abc.length = 26:=by decide +kernel
   obtain ⟨c,hc,hm⟩:=at_sign (z:=abc) n0 (by omega)
   refine ⟨abc,n,c,rfl,rfl,by decide +kernel,hc,(1 + m).toNat - (i + 1),by omega,by omega,rfl,⟨cs ++ [c],by simp,by rw [List.length_append,hcl]; rfl,fun d hd=>?_⟩,st4.trans st6⟩
   rcases List.mem_append.mp hd with hd | hd
   ·exact hcs d hd
   ·rw [List.mem_singleton.mp hd]; exact abc_signs c hm
  ·refine .inl ⟨(by show (1 + m).toNat<=i; omega),fun D hD=>?_⟩
   have s5:=Same.new (o:=.lst ((cs.map fun c=>(⟨#[c]⟩:Str)).map V.str)) hD
   refine ⟨Str.ofString "",D,cs.map fun c=>(⟨#[c]⟩:Str),rfl,rfl,SqL.of upd_same,?_,?_⟩
   ·have e0:(Str.ofString "").length = 0:=by decide +kernel
    have e1:((cs.map fun c=>(⟨#[c]⟩:Str)).map (·.length)).sum = cs.length:=by
     rw [List.map_map]
     clear hcs hcl s5 hD
     induction cs with
     | nil=>rfl
     | cons x r ih=>
      rw [List.map_cons,List.sum_cons,List.length_cons]
      have:((fun z:Str=>z.length) ∘ fun c=>(⟨#[c]⟩:Str)) x = 1:=rfl
      omega
    rw [e0,e1]
    omega
   ·rw [join_signs]
    refine q _ _ ⟨?_,?_,fun c hc=>hcs c (by simpa using hc)⟩ (st4.trans (Step.ofSame' st4.box s5))
    ·show 1<=cs.toArray.size
     rw [List.size_toArray]
     omega
    ·show cs.toArray.size<=8
     rw [List.size_toArray]
     omega
def spLit:Sp:=fun vs H Q _=>∃ (b l:Addr) (names:List Str),vs = [.ref b,.ref l]/\IsBox H b/\H l = some (.lst (names.map V.str))/\l≠b/\True/\names.length<=100/\(∀ z∈names,z.length<=400/\Signs z) /\
 ∀ (v:V) (x:W) (H':Hp),RW H' v (.lst [.txt "lit",x])->x.Ok->x.size<=1000->x.depth<=3->Step b H H'->Q v H'
theorem RW.pair {H:Hp}{a:Addr}{u1 u2:V}{w1 w2:W} (e:H a = some (.tup [u1,u2])) (r1:RW H u1 w1) (r2:RW H u2 w2):RW H (.ref a) (.lst [w1,w2]):=
 .lst e rfl fun i v w hv hw=>match i,hv,hw with
  | 0,hv,hw=>by
   have a1:u1 = v:=by simpa using hv
   have a2:w1 = w:=by simpa using hw
   rw [← a1,← a2]; exact r1
  | 1,hv,hw=>by
   have a1:u2 = v:=by simpa using hv
   have a2:w2 = w:=by simpa using hw
   rw [← a1,← a2]; exact r2
  | j + 2,hv,hw=>by simp at hv
theorem same_tups' {H H':Hp} (s:Same H H'):Tups H H':=fun a vs e=>s a _ e
theorem sc_llit:FnScope ["_law_box_here","_law_names"] ["_law_box_here","_law_names"] (defScope s_llit):=⟨rfl,rfl,rfl,by decide +kernel,rfl,by decide +kernel,by decide +kernel⟩
theorem ok_llit (F:Fun K "_law_lit" "_law_lit" s_llit f fd) (G_lworth:Have P w K mg base "_law_worth" k ["_law_box_here","_law_room","_law_deep"] (spWorth 13)) (G_ltake:Have P w K mg base "_law_take" k ["_law_box_here","_law_wide"] (spTake)) (m_len:mg "len" = none):FnOk P w K mg base CX0 (k + 1) f fd ["_law_box_here","_law_names"] (spLit):=by
 refine F.okQ sc_llit (fun vs H Q E h=>?_) (fun cdv A outer s H vs Q E hr h=>?_)
 ·obtain ⟨b,l,names,rfl,_⟩:=h
  rfl
 obtain ⟨b,l,names,rfl,hb,hl,hlb,_,hn,hz,q⟩:=h
 refine ⟨_,(pss_cons (ps_if (PW.pt (pw_and (pt_cmpR (op_neE (Nat.lt_of_le_of_lt (Nat.le_add_right _ 64) hr.units)) (pv 1) (pe_lst pa_nil) (nomark _)) (pw_and1 (pt_cmpR op_eq (pe_fn G_ltake hr rfl (pa_cons (pv 0) (pa_cons pe_int pa_nil))) pe_int (nomark _))))) (pss_one (ps_ret (pe_tup (pa_cons pe_str (pa_cons (pe_ix ix_list (pv 1) (pe_fn G_ltake hr rfl (pa_cons (pv 0) (pa_cons (pe_callB call_len rfl m_len PySem.boot_len (pa_cons (pv 1) pa_nil)) pa_nil))) (fun _ _=>rfl)) pa_nil))))) pss_nil)
  (pss_one (ps_ret (pe_tup (pa_cons pe_str (pa_cons (pe_fn G_lworth hr rfl (pa_cons (pv 0) (pa_cons pe_int (pa_cons pe_int pa_nil)))) pa_nil)))))),?_⟩
 refine ⟨_,rfl,zl0,fun e0 he0=>?_⟩
 have s0:=Same.new (o:=.lst []) he0
 have st0:=Step.ofSame' hb s0
 refine ⟨l,e0,names.map V.str,rfl,rfl,SqL.of (s0 _ _ hl),SqL.of upd_same,_,rfl,?_⟩
 by_cases hne:names = []
 ·have e0:(!(names.map V.str).isEmpty) = false:=by rw [hne]; rfl
  rw [e0]
  refine iteF ?_
  have stA:=st0
  refine ⟨_,rfl,b,6,3,rfl,stA.box,by decide,by decide,by decide,by decide,fun v x H2 rx okx dx sx st2=>⟨zl2,fun a ha=>?_⟩⟩
  have stB:=stA.trans st2
  have s3:=Same.new (o:=.tup [.str "lit",v]) ha
  exact q _ x _ (RW.pair upd_same (.txt _) (rx.mono (same_tups' s3))) okx (by omega) (by omega) (stB.trans (Step.ofSame' stB.box s3))
 have hpos:0 < names.length:=List.length_pos_iff.mpr hne
 have e1:(!(names.map V.str).isEmpty) = true:=by
  cases names with
  | nil=>exact absurd rfl hne
  | cons x r=>rfl
 rw [e1]
 refine iteT ⟨_,rfl,b,3,rfl,st0.box,by decide,by decide,fun r H1 r0 r1 st1=>⟨rfl,_,rfl,ite2 (fun _=>?_) (fun _=>?_)⟩⟩
 ·have stA:=st0.trans st1
  have hl1:=stA.keep l _ hlb hl
  refine ⟨_,rfl,_,rfl,_,rfl,_,_,rfl,.inl ⟨_,SqL.of hl1,rfl⟩,b,_,rfl,stA.box,by rw [List.length_map]; omega,by rw [List.length_map]; omega,fun n H2 n0 n1 st2=>?_⟩
  rw [List.length_map] at n1
  have hi:n.toNat < names.length:=by omega
  have hat:atI (names.map V.str) n = some (.str names[n.toNat]):=by
   have:=atI_nat (xs:=names.map V.str) (j:=n.toNat) (v:=.str names[n.toNat]) (by rw [List.getElem?_map,List.getElem?_eq_getElem hi]; rfl)
   rw [show ((n.toNat:Nat):Int) = n by omega] at this
   exact this
  have stB:=stA.trans st2
  refine ⟨l,_,n,_,rfl,rfl,SqL.of (stB.keep l _ hlb hl),hat,zl2,fun a ha=>?_⟩
  have s3:=Same.new (o:=.tup [.str "lit",.str names[n.toNat]]) ha
  exact q _ (.txt names[n.toNat]) _ (RW.pair upd_same (.txt _) (.txt _)) (hz _ (List.getElem_mem hi)) (by have:=(hz _ (List.getElem_mem hi)).1; simp only [W.size]; omega) (by simp [W.depth]) (stB.trans (Step.ofSame' stB.box s3))
 ·have stA:=st0.trans st1
  refine ⟨_,rfl,b,6,3,rfl,stA.box,by decide,by decide,by decide,by decide,fun v x H2 rx okx dx sx st2=>⟨zl2,fun a ha=>?_⟩⟩
  have stB:=stA.trans st2
  have s3:=Same.new (o:=.tup [.str "lit",v]) ha
  exact q _ x _ (RW.pair upd_same (.txt _) (rx.mono (same_tups' s3))) okx (by omega) (by omega) (stB.trans (Step.ofSame' stB.box s3))
inductive Wo where
 | lit | var | letw | ifw | add | sub | mul | div | same | less | join | list | item | count | figs | each | over | look | elsew | cry
def woS:Wo->Str
 | .lit=>"lit"
 | .var=>"var"
 | .letw=>"let"
 | .ifw=>"if"
 | .add=>"+"
 | .sub=>"-"
 | .mul=>"*"
 | .div=>"/"
 | .same=>"same"
 | .less=>"less"
 | .join=>"join"
 | .list=>"list"
 | .item=>"item"
 | .count=>"count"
 | .figs=>"figures"
 | .each=>"each"
 | .over=>"over"
 | .look=>"look"
 | .elsew=>"else"
 | .cry=>"cry"
def woAll:List Wo:=[.lit,.var,.letw,.ifw,.add,.sub,.mul,.div,.same,.less,.join,.list,.item,.count,.figs,.each,.over,.look,.elsew,.cry]
def w3:Wo->Bool
 | .ifw=>true
 | .over=>true
 | _=>false
def w1:Wo->Bool
 | .count=>true
 | .figs=>true
 | .look=>true
 | .cry=>true
 | _=>false
def wVL:Wo->Bool
 | .var=>true
 | .list=>true
 | _=>false
def wEO:Wo->Bool
 | .each=>true
 | .over=>true
 | _=>false
def wLit:Wo->Bool
 | .lit=>true
 | _=>false
def wVar:Wo->Bool
 | .var=>true
 | _=>false
def Wo.needs (d:Wo):Int:=if wVL d then 0 else 2 + (if w3 d then 1 else 0) - (if w1 d then 1 else 0)
theorem in3 (d:Wo):inV (.str (woS d)) [.str "if",.str "over"] = w3 d:=by cases d <;> decide +kernel
theorem in1 (d:Wo):inV (.str (woS d)) [.str "count",.str "figures",.str "look",.str "cry"] = w1 d:=by cases d <;> decide +kernel
theorem inVL (d:Wo):inV (.str (woS d)) [.str "var",.str "list"] = wVL d:=by cases d <;> decide +kernel
theorem inEO (d:Wo):inV (.str (woS d)) [.str "each",.str "over"] = wEO d:=by cases d <;> decide +kernel
theorem eqLit (d:Wo):decide (V.str (woS d) = V.str "lit") = wLit d:=by cases d <;> decide +kernel
theorem eqVar (d:Wo):decide (V.str (woS d) = V.str "var") = wVar d:=by cases d <;> decide +kernel
def spWord:Sp:=fun vs H Q _=>∃ (b sc:Addr) (us:List V) (spare floors rounds:Int),vs = [.ref b,.ref sc,.int spare,.int floors,.int rounds]/\IsBox H b/\H sc = some (.lst us)/\sc≠b /\
 ∀ (d:Wo) (H':Hp),Step b H H'->(wLit d = false->d.needs < spare/\(floors = 0->wVL d = true)/\(wVar d = true->us≠[])/\(wEO d = true->rounds≠0))->Q (.str (woS d)) H'
theorem sc_lword:FnScope ["_law_box_here","_law_scope","_law_spare","_law_floors","_law_rounds","_law_words","_law_word_here","_law_needs"] ["_law_box_here","_law_scope","_law_spare","_law_floors","_law_rounds"] (defScope s_lword):=⟨rfl,rfl,rfl,by decide +kernel,rfl,by decide +kernel,by decide +kernel⟩
theorem ok_lword (F:Fun K "_law_word" "_law_word" s_lword f fd) (G_ltake:Have P w K mg base "_law_take" k ["_law_box_here","_law_wide"] (spTake)) (m_int:mg "int" = none):FnOk P w K mg base CX0 (k + 1) f fd ["_law_box_here","_law_scope","_law_spare","_law_floors","_law_rounds"] (spWord):=by
 refine F.okQ sc_lword (fun vs H Q E h=>?_) (fun cdv A outer s H vs Q E hr h=>?_)
 ·obtain ⟨b,sc,us,spare,floors,rounds,rfl,_⟩:=h
  rfl
 obtain ⟨b,sc,us,spare,floors,rounds,rfl,hb,hsc,hne,q⟩:=h
 refine ⟨_,(pss_cons (ps_set (i:=5) sc_lword.nd rfl (Or.inl rfl) (pe_lst (pa_cons pe_str (pa_cons pe_str (pa_cons pe_str (pa_cons pe_str (pa_cons pe_str (pa_cons pe_str (pa_cons pe_str (pa_cons pe_str (pa_cons pe_str (pa_cons pe_str (pa_cons pe_str (pa_cons pe_str pa_nil))))))))))))))
  (pss_cons (ps_set (i:=5) sc_lword.nd rfl (Or.inl rfl) (pe_op op_cat (pv 5) (pe_lst (pa_cons pe_str (pa_cons pe_str (pa_cons pe_str (pa_cons pe_str (pa_cons pe_str (pa_cons pe_str (pa_cons pe_str (pa_cons pe_str pa_nil)))))))))))
  (pss_cons (ps_set (i:=6) sc_lword.nd rfl (Or.inl rfl) (pe_ix ix_list (pv 5) (pe_fn G_ltake hr rfl (pa_cons (pv 0) (pa_cons pe_int pa_nil))) (fun _ _=>rfl)))
  (pss_cons (ps_set (i:=7) sc_lword.nd rfl (Or.inl rfl) (pe_op op_sub (pe_op op_add pe_int (pe_callTy call_int1 rfl m_int boot_intT (pa_cons (pe_cmpR op_in_seq (pv 6) (pe_tup (pa_cons pe_str (pa_cons pe_str pa_nil))) (by rfl)) pa_nil))) (pe_callTy call_int1 rfl m_int boot_intT (pa_cons (pe_cmpR op_in_seq (pv 6) (pe_tup (pa_cons pe_str (pa_cons pe_str (pa_cons pe_str (pa_cons pe_str pa_nil))))) (by rfl)) pa_nil))))
  (pss_cons (ps_if (pt_cmpR op_in_seq (pv 6) (pe_tup (pa_cons pe_str (pa_cons pe_str pa_nil))) (by rfl)) (pss_one (ps_set (i:=7) sc_lword.nd rfl (Or.inl rfl) pe_int)) pss_nil)
  (pss_cons (ps_if (PW.pt (pw_or (pt_cmpR op_eq (pv 6) pe_str (nomark _)) (pw_or (PW.pt (pw_and (pt_cmpR op_eq (pv 3) pe_int (nomark _)) (pw_and1 (pt_cmpR op_notIn_seq (pv 6) (pe_tup (pa_cons pe_str (pa_cons pe_str pa_nil))) (by rfl))))) (pw_or1 (pt_cmpR op_ge (pv 7) (pv 2) (nomark _)))))) (pss_one (ps_ret pe_str)) pss_nil)
  (pss_cons (ps_if (PW.pt (pw_or (PW.pt (pw_and (pt_cmpR op_eq (pv 6) pe_str (nomark _)) (pw_and1 (pt_cmpR (op_eqE (Nat.lt_of_le_of_lt (Nat.le_add_right _ 64) hr.units)) (pv 1) (pe_lst pa_nil) (nomark _))))) (pw_or1 (PW.pt (pw_and (pt_cmpR op_in_seq (pv 6) (pe_tup (pa_cons pe_str (pa_cons pe_str pa_nil))) (by rfl)) (pw_and1 (pt_cmpR op_eq (pv 4) pe_int (nomark _)))))))) (pss_one (ps_ret pe_str)) pss_nil)
  (pss_one (ps_ret (pv 6)))))))))),?_⟩
 refine ⟨zl12,fun p1 h1=>?_⟩
 have st1:=Step.new (o:=.lst ((woAll.take 12).map fun d=>V.str (woS d))) hb h1
 refine ⟨_,rfl,zl8,fun p2 h2=>?_⟩
 have s2:=Same.new (o:=.lst ((woAll.drop 12).map fun d=>V.str (woS d))) h2
 refine ⟨p1,p2,(woAll.take 12).map (fun d=>V.str (woS d)),(woAll.drop 12).map (fun d=>V.str (woS d)),rfl,rfl,s2 _ _ upd_same,upd_same,(by decide),fun p3 h3=>?_⟩
 have st2:=st1.trans (Step.ofSame' st1.box s2)
 have st3:=st2.trans (Step.new (o:=.lst (woAll.map fun d=>V.str (woS d))) st2.box h3)
 refine ⟨_,rfl,_,rfl,b,20,rfl,st3.box,by decide,by decide,fun r H1 r0 r1 st4=>?_⟩
 have hi:r.toNat < woAll.length:=by show r.toNat < 20; omega
 obtain ⟨d,hat⟩:∃ d:Wo,atI (woAll.map fun d=>V.str (woS d)) r = some (.str (woS d)):=⟨woAll[r.toNat],by
  have:=atI_nat (xs:=woAll.map fun d=>V.str (woS d)) (j:=r.toNat) (v:=.str (woS woAll[r.toNat])) (by rw [List.getElem?_map,List.getElem?_eq_getElem hi]; rfl)
  rw [show ((r.toNat:Nat):Int) = r by omega] at this
  exact this⟩
 have stA:=st3.trans st4
 refine ⟨p3,_,r,_,rfl,rfl,SqL.of (st4.keep p3 _ (by obtain ⟨x,y,z,e⟩:=st2.box; exact (ne_of_none e h3).symm) upd_same),hat,?_⟩
 refine ⟨_,rfl,zl2,fun q1 hq1=>⟨q1,_,rfl,.inr (SqT.of upd_same),rfl,rfl,.inr ⟨_,rfl,_,_,rfl,rfl,_,rfl,zl4,fun q2 hq2=>⟨q2,_,rfl,.inr (SqT.of upd_same),rfl,rfl,.inr ⟨_,rfl,_,_,rfl,rfl,?_⟩⟩⟩⟩⟩
 have stB:=stA.trans (Step.new (o:=.tup [.str "if",.str "over"]) stA.box hq1)
 have stC:=stB.trans (Step.new (o:=.tup [.str "count",.str "figures",.str "look",.str "cry"]) stB.box hq2)
 dsimp only [gName]
 refine seqI (fun σ' H'=>∃ o5,σ' = [some (.ref b),some (.ref sc),some (.int spare),some (.int floors),some (.int rounds),o5,some (.str (woS d)),some (.int d.needs)]/\Step b H H') (fun σ' H' h=>?_) (fun tl=>?_)
 ·obtain ⟨o5,rfl,stD⟩:=h
  refine seqI (fun σ' H'=>∃ o5,σ' = [some (.ref b),some (.ref sc),some (.int spare),some (.int floors),some (.int rounds),o5,some (.str (woS d)),some (.int d.needs)]/\Step b H H'/\wLit d = false/\d.needs < spare/\(floors = 0->wVL d = true)) (fun σ' H' h=>?_) (fun tl=>?_)
  ·obtain ⟨o5,rfl,stE,hlit,hneed,hfl⟩:=h
   refine ⟨_,rfl,rfl,_,rfl,?_⟩
   rw [show Str.ofString "var" = "var" from rfl,eqVar]
   cases hv:wVar d with
   | true=>
    refine iteT ⟨_,rfl,zl0,fun e0 he0=>?_⟩
    have stF:=stE.trans (Step.new (o:=.lst []) stE.box he0)
    refine ⟨sc,e0,us,rfl,rfl,SqL.of (stF.keep sc _ hne hsc),SqL.of upd_same,_,rfl,?_⟩
    cases hus:us with
    | nil=>exact iteT (iteT (q .lit _ stF (fun h=>nomatch h)))
    | cons x r=>
     have hsv:wVar d = true->us≠[]:=fun _ z=>by rw [hus] at z; cases z
     refine iteF ?_
     refine ⟨_,rfl,zl2,fun q5 hq5=>⟨q5,_,rfl,.inr (SqT.of upd_same),rfl,rfl,_,rfl,?_⟩⟩
     have st9:=stF.trans (Step.new (o:=.tup [.str "each",.str "over"]) stF.box hq5)
     show if inV (.str (woS d)) [.str "each",.str "over"] = true then _ else _
     rw [inEO]
     cases heo:wEO d with
     | true=>
      refine iteT ⟨_,rfl,rfl,_,rfl,ite2 (fun c3=>q .lit _ st9 (fun h=>nomatch h)) (fun c3=>?_)⟩
      exact ⟨_,rfl,q d _ st9 fun _=>⟨hneed,hfl,hsv,fun _ z=>c3 (by rw [z]; rfl)⟩⟩
     | false=>exact iteF (iteF ⟨_,rfl,q d _ st9 fun _=>⟨hneed,hfl,hsv,fun z=>by rw [heo] at z; cases z⟩⟩)
   | false=>
    have hsv:wVar d = true->us≠[]:=fun z=>by rw [hv] at z; cases z
    refine iteF (iteF ?_)
    refine ⟨_,rfl,zl2,fun q5 hq5=>⟨q5,_,rfl,.inr (SqT.of upd_same),rfl,rfl,_,rfl,?_⟩⟩
    have st9:=stE.trans (Step.new (o:=.tup [.str "each",.str "over"]) stE.box hq5)
    show if inV (.str (woS d)) [.str "each",.str "over"] = true then _ else _
    rw [inEO]
    cases heo:wEO d with
    | true=>
     refine iteT ⟨_,rfl,rfl,_,rfl,ite2 (fun c3=>q .lit _ st9 (fun h=>nomatch h)) (fun c3=>?_)⟩
     exact ⟨_,rfl,q d _ st9 fun _=>⟨hneed,hfl,hsv,fun _ z=>c3 (by rw [z]; rfl)⟩⟩
    | false=>exact iteF (iteF ⟨_,rfl,q d _ st9 fun _=>⟨hneed,hfl,hsv,fun z=>by rw [heo] at z; cases z⟩⟩)
  ·refine ⟨_,rfl,rfl,_,rfl,?_⟩
   rw [show Str.ofString "lit" = "lit" from rfl,eqLit]
   cases hlit:wLit d with
   | true=>exact iteT (iteT (q .lit _ stD (fun h=>nomatch h)))
   | false=>
    refine iteF ⟨_,rfl,rfl,_,rfl,ite2 (fun c=>?_) (fun c=>iteF ?_)⟩
    ·refine ⟨_,rfl,zl2,fun q4 hq4=>⟨q4,_,rfl,.inr (SqT.of upd_same),rfl,rfl,_,rfl,?_⟩⟩
     have stE:=stD.trans (Step.new (o:=.tup [.str "var",.str "list"]) stD.box hq4)
     show if (!inV (.str (woS d)) [.str "var",.str "list"]) = true then _ else _
     rw [inVL]
     cases hvl:wVL d with
     | false=>exact iteT (iteT (q .lit _ stE (fun h=>nomatch h)))
     | true=>
      refine iteF ?_
      refine ⟨_,rfl,_,rfl,_,_,rfl,rfl,_,rfl,ite2 (fun c2=>q .lit _ stE (fun h=>nomatch h)) (fun c2=>?_)⟩
      exact tl _ _ ⟨_,rfl,stE,hlit,(by
       have:¬ spare<=d.needs:=fun z=>c2 (decide_eq_true z)
       omega),fun _=>hvl⟩
    ·have hf0:floors≠0:=fun z=>c (by rw [z]; rfl)
     refine ⟨_,rfl,_,rfl,_,_,rfl,rfl,_,rfl,ite2 (fun c2=>q .lit _ stD (fun h=>nomatch h)) (fun c2=>?_)⟩
     exact tl _ _ ⟨_,rfl,stD,hlit,(by
      have:¬ spare<=d.needs:=fun z=>c2 (decide_eq_true z)
      omega),fun z=>absurd z hf0⟩
 ·refine ⟨_,rfl,zl2,fun q3 hq3=>⟨q3,_,rfl,.inr (SqT.of upd_same),rfl,rfl,_,rfl,?_⟩⟩
  have stD:=stC.trans (Step.new (o:=.tup [.str "var",.str "list"]) stC.box hq3)
  have e3:=in3 d
  have e1:=in1 d
  show if inV (.str (woS d)) [.str "var",.str "list"] = true then _ else _
  rw [inVL]
  cases hvl:wVL d with
  | true=>exact iteT (tl _ _ ⟨_,by show _ = [_,_,_,_,_,_,_,some (V.int d.needs)]; unfold Wo.needs; rw [hvl]; rfl,stD⟩)
  | false=>exact iteF (tl _ _ ⟨_,by show _ = [_,_,_,_,_,_,_,some (V.int d.needs)]; unfold Wo.needs; rw [hvl,← e3,← e1]; rfl,stD⟩)
inductive Rl where
 | lit (x:W)
 | var (s:Str)
 | op (d:Wo) (bs:List Str) (ps:List Rl)
mutual
def Rl.toW:Rl->W
 | .lit x=>.lst [.txt "lit",x]
 | .var s=>.lst [.txt "var",.txt s]
 | .op d bs ps=>.lst (.txt (woS d) :: (bs.map W.txt ++ rlWs ps))
def rlWs:List Rl->List W
 | []=>[]
 | p :: r=>p.toW :: rlWs r
end
mutual
def Rl.many:Rl->Nat
 | .lit _=>1
 | .var _=>1
 | .op _ _ ps=>1 + manys ps
def manys:List Rl->Nat
 | []=>0
 | p :: r=>p.many + manys r
end
mutual
def Rl.high:Rl->Nat
 | .lit _=>0
 | .var _=>0
 | .op _ _ ps=>highs ps
def highs:List Rl->Nat
 | []=>0
 | p :: r=>max (1 + p.high) (highs r)
end
def bcnt:Wo->Nat
 | .letw=>1
 | .each=>1
 | .over=>2
 | _=>0
def wList:Wo->Bool
 | .list=>true
 | _=>false
def pcnt:Wo->Nat
 | .letw=>2
 | .ifw=>3
 | .over=>3
 | .count=>1
 | .figs=>1
 | .look=>1
 | .cry=>1
 | .lit=>0
 | .var=>0
 | .list=>0
 | _=>2
def Cnt (d:Wo) (n:Nat):Prop:=(wList d = true->n<=8)/\(wList d = false->n = pcnt d)
def Rl.Gd1:Rl->Prop
 | .lit x=>x.Ok/\x.size<=1000/\x.depth<=12
 | .var s=>Vr s
 | .op d bs ps=>wLit d = false/\wVar d = false/\bs.length = bcnt d/\(∀ z∈bs,Vr z)/\bs.Nodup/\Cnt d ps.length
mutual
def Rl.Gd:Rl->Prop
 | .lit x=>(Rl.lit x).Gd1
 | .var s=>(Rl.var s).Gd1
 | .op d bs ps=>(Rl.op d bs ps).Gd1/\Gds ps
def Gds:List Rl->Prop
 | []=>True
 | p :: r=>p.Gd/\Gds r
end
mutual
def Rl.rep:Rl->Nat
 | .lit _=>0
 | .var _=>0
 | .op d _ ps=>reps (wEO d) ps
def reps (b:Bool):List Rl->Nat
 | []=>0
 | [p]=>p.rep + (if b then 1 else 0)
 | p :: q :: r=>max p.rep (reps b (q :: r))
end
mutual
def Rl.Fit:Rl->List Str->Prop
 | .lit x,_=>(Rl.lit x).Gd1
 | .var s,sc=>Vr s/\s∈sc
 | .op d bs ps,sc=>(Rl.op d bs ps).Gd1/\Fits ps sc bs
def Fits:List Rl->List Str->List Str->Prop
 | [],_,_=>True
 | [p],sc,bs=>p.Fit (sc ++ bs)
 | p :: q :: r,sc,bs=>p.Fit sc/\Fits (q :: r) sc bs
end
mutual
theorem Rl.Fit.gd:∀ {r:Rl}{sc:List Str},r.Fit sc->r.Gd
 | .lit x,sc,h=>by rw [Rl.Fit] at h; rw [Rl.Gd]; exact h
 | .var s,sc,h=>by rw [Rl.Fit] at h; rw [Rl.Gd]; exact h.1
 | .op d bs ps,sc,h=>by rw [Rl.Fit] at h; rw [Rl.Gd]; exact ⟨h.1,Fits.gd h.2⟩
theorem Fits.gd:∀ {ps:List Rl}{sc bs:List Str},Fits ps sc bs->Gds ps
 | [],_,_,_=>by rw [Gds]; trivial
 | [p],sc,bs,h=>by rw [Fits] at h; rw [Gds,Gds]; exact ⟨h.gd,trivial⟩
 | p :: q :: r,sc,bs,h=>by rw [Fits] at h; rw [Gds]; exact ⟨h.1.gd,Fits.gd h.2⟩
end
theorem reps_le {b:Bool}{n:Int}:∀ {ps:List Rl},0<=n->(∀ p∈ps,(p.rep:Int)<=n)->(b = true->∀ p,ps.getLast? = some p->(p.rep:Int) + 1<=n)->(reps b ps:Int)<=n
 | [],h,_,_=>by rw [reps]; exact h
 | [p],h,h1,h2=>by
  rw [reps]
  cases b with
  | false=>have:=h1 p (by simp); simp; omega
  | true=>have:=h2 rfl p rfl; simp; omega
 | p :: q :: r,h,h1,h2=>by
  rw [reps]
  have a1:=h1 p (by simp)
  have a2:=reps_le (b:=b) (ps:=q :: r) h (fun x hx=>h1 x (List.mem_cons_of_mem _ hx)) (fun hb x hx=>h2 hb x (by rw [List.getLast?_cons_cons]; exact hx))
  omega
theorem rlWs_snoc (l:List Rl) (r:Rl):rlWs (l ++ [r]) = rlWs l ++ [r.toW]:=by
 induction l with
 | nil=>simp [rlWs]
 | cons p l ih=>simp only [List.cons_append,rlWs,ih]
theorem rlWs_len:∀ l:List Rl,(rlWs l).length = l.length
 | []=>by simp [rlWs]
 | _ :: l=>by simp only [rlWs,List.length_cons,rlWs_len l]
theorem manys_snoc (l:List Rl) (r:Rl):manys (l ++ [r]) = manys l + r.many:=by
 induction l with
 | nil=>simp [manys]
 | cons p l ih=>simp only [List.cons_append,manys,ih]; omega
def Names (H:Hp) (b l:Addr) (names:List Str):Prop:=H l = some (.lst (names.map V.str))/\l≠b/\True/\names.length<=100/\∀ z∈names,z.length<=400/\Signs z
theorem Names.step {H H':Hp}{b l:Addr}{names:List Str} (h:Names H b l names) (st:Step b H H'):Names H' b l names:=⟨st.keep l _ h.2.1 h.1,h.2⟩
def spAny (n:Nat):Sp:=fun vs H Q _=>∃ (b sc l:Addr) (scope names:List Str) (spare floors rounds:Int),vs = [.ref b,.ref sc,.ref l,.int spare,.int floors,.int rounds]/\IsBox H b/\Names H b l names/\H sc = some (.lst (scope.map V.str))/\sc≠b/\scope.length + 2 * n<=1000/\(∀ y∈scope,Vr y)/\1<=spare/\spare<=100/\0<=floors/\floors < n/\0<=rounds/\rounds<=100 /\
 ∀ (t:Addr) (v:V) (r:Rl) (H':Hp),H' t = some (.tup [v,.int r.many])->RW H' v r.toW->r.Fit scope->(r.many:Int)<=spare->(r.high:Int)<=floors->(r.rep:Int)<=rounds->Step b H H'->Q (.ref t) H'
def spPartsBy (n:Nat):Sp:=fun vs H Q _=>∃ (b ss l rs:Addr) (as:List Addr) (scopes:List (List Str)) (names:List Str) (rounds:List Int) (spare floors:Int),vs = [.ref b,.ref ss,.ref l,.int spare,.int floors,.ref rs]/\IsBox H b/\Names H b l names /\
 H ss = some (.lst (as.map V.ref))/\ss≠b/\H rs = some (.lst (rounds.map V.int))/\rs≠b/\as.length = scopes.length/\scopes.length<=rounds.length/\(∀ r∈rounds,0<=r/\r<=100)/\(∀ (i:Nat) (a:Addr) (sc:List Str),as[i]? = some a->scopes[i]? = some sc->H a = some (.lst (sc.map V.str))/\a≠b/\sc.length + 2 * n<=1000/\∀ y∈sc,Vr y) /\
 (scopes.length:Int)<=spare/\spare<=100/\floors < n/\(0<=floors\/scopes = []) /\
 ∀ (t t2:Addr) (us:List V) (ps:List Rl) (H':Hp),H' t = some (.tup [.ref t2,.int (manys ps)])->H' t2 = some (.tup us)->RWs H' us (rlWs ps)->ps.length = scopes.length->(∀ (i:Nat) (p:Rl) (sc:List Str),ps[i]? = some p->scopes[i]? = some sc->p.Fit sc/\(p.high:Int)<=floors/\∀ c,rounds[i]? = some c->(p.rep:Int)<=c)->(manys ps:Int)<=spare->Step b H H'->Q (.ref t) H'
theorem sc_lparts_by:FnScope ["_law_box_here","_law_scopes","_law_names","_law_spare","_law_floors","_law_rounds","_law_found","_law_used","_law_k","_law_scope","_law_rest","_law_part","_law_more"] ["_law_box_here","_law_scopes","_law_names","_law_spare","_law_floors","_law_rounds"] (defScope s_lparts_by):=⟨rfl,rfl,rfl,by decide +kernel,rfl,by decide +kernel,by decide +kernel⟩
theorem ok_lparts_by (F:Fun K "_law_parts_by" "_law_parts_by" s_lparts_by f fd) (G_lany:Have P w K mg base "_law_any" k ["_law_box_here","_law_scope","_law_names","_law_spare","_law_floors","_law_rounds"] (spAny n)) (m_enumerate:mg "enumerate" = none) (m_len:mg "len" = none) (m_tuple:mg "tuple" = none):FnOk P w K mg base CX0 (k + 1) f fd ["_law_box_here","_law_scopes","_law_names","_law_spare","_law_floors","_law_rounds"] (spPartsBy n):=by
 refine F.okQ sc_lparts_by (fun vs H Q E h=>?_) (fun cdv A outer s H vs Q E hr h=>?_)
 ·obtain ⟨b,ss,l,rs,as,scopes,names,rounds,spare,floors,rfl,_⟩:=h
  rfl
 obtain ⟨b,ss,l,rs,as,scopes,names,rounds,spare,floors,rfl,hb,hnm,hss,hsb,hrs,hrb,hal,hrl,hrr,hsc,hsp,hs100,hfn,hf0,q⟩:=h
 refine ⟨_,(pss_cons (ps_set (i:=6) sc_lparts_by.nd rfl (Or.inl rfl) (pe_lst pa_nil))
  (pss_cons (ps_set (i:=7) sc_lparts_by.nd rfl (Or.inl rfl) pe_int)
  (pss_cons (ps_for PassesOwn.never rfl (pi_enum rfl m_enumerate (pa_cons (pv 1) pa_nil)) (pg_tup rfl (pgs_cons (pg_name (i:=8) sc_lparts_by.nd rfl (Or.inl rfl)) (pgs_cons (pg_name (i:=9) sc_lparts_by.nd rfl (Or.inl rfl)) pgs_nil))) (pss_cons (ps_set (i:=10) sc_lparts_by.nd rfl (Or.inl rfl) (pe_op op_sub (pe_op op_sub (pv 3) (pv 7)) (pe_op op_sub (pe_op op_sub (pe_callB call_len rfl m_len PySem.boot_len (pa_cons (pv 1) pa_nil)) (pv 8)) pe_int)))
  (pss_cons (ps_asg (pe_fn G_lany hr rfl (pa_cons (pv 0) (pa_cons (pv 9) (pa_cons (pv 2) (pa_cons (pv 10) (pa_cons (pv 4) (pa_cons (pe_ix ix_list (pv 5) (pv 8) (fun _ _=>rfl)) pa_nil))))))) (pg_tup rfl (pgs_cons (pg_name (i:=11) sc_lparts_by.nd rfl (Or.inl rfl)) (pgs_cons (pg_name (i:=12) sc_lparts_by.nd rfl (Or.inl rfl)) pgs_nil))))
  (pss_cons (ps_expr (pe_bm PySem.F.plainAttrs_list PySem.F.slot_list_append PySem.F.type_list_append mt_append (pv 6) (pa_cons (pv 11) pa_nil)))
  (pss_one (ps_set (i:=7) sc_lparts_by.nd rfl (Or.inl rfl) (pe_op op_add (pv 7) (pv 12))))))))
  (pss_one (ps_ret (pe_tup (pa_cons (pe_callTy call_tuple_of rfl m_tuple boot_tupleT (pa_cons (pv 6) pa_nil)) (pa_cons (pv 7) pa_nil)))))))),?_⟩
 refine ⟨zl0,fun p hp=>?_⟩
 have st0:=Step.new (o:=.lst []) hb hp
 have hpb:p≠b:=fun z=>by
  obtain ⟨x,y,w',e⟩:=hb
  rw [← z,hp] at e
  cases e
 refine ⟨_,rfl,ss,as.map V.ref,rfl,SqL.of (st0.keep ss _ hsb hss),for_enum (xs:=as.map V.ref) (fun i σ' H'=>∃ (o8 o9 o10 o11 o12:Option V) (us:List V) (ps:List Rl),σ' = [some (.ref b),some (.ref ss),some (.ref l),some (.int spare),some (.int floors),some (.ref rs),some (.ref p),some (.int (manys ps)),o8,o9,o10,o11,o12]/\Step b H H'/\H' p = some (.lst us)/\RWs H' us (rlWs ps)/\ps.length = i/\(∀ (i:Nat) (p:Rl) (sc:List Str),ps[i]? = some p->scopes[i]? = some sc->p.Fit sc/\(p.high:Int)<=floors/\∀ c,rounds[i]? = some c->(p.rep:Int)<=c)/\(manys ps:Int) + (scopes.length - i)<=spare)
  ⟨none,none,none,none,none,[],[],rfl,st0,upd_same,⟨rfl,fun i v w e=>by simp at e⟩,rfl,fun i p sc e=>by simp at e,by simp [manys]; omega⟩ (fun i σ' H' _ h=>?_) (fun i x t σ' H' hx ht h=>?_) (fun σ' H' h=>?_)⟩
 ·obtain ⟨_,_,_,_,_,us,ps,_,st,_⟩:=h
  exact SqL.of (st.keep ss _ hsb hss)
 ·obtain ⟨o8,o9,o10,o11,o12,us,ps,rfl,st,ep,hw,hpl,hfit,hm⟩:=h
  rw [List.getElem?_map] at hx
  obtain ⟨a,ha,rfl⟩:=Option.map_eq_some_iff.mp hx
  have hi:i < as.length:=(List.getElem?_eq_some_iff.mp ha).1
  have hsi:scopes[i]? = some scopes[i]:=List.getElem?_eq_getElem (by omega)
  have hri:rounds[i]? = some rounds[i]:=List.getElem?_eq_getElem (by omega)
  obtain ⟨h1,h2,h3,h4⟩:=hsc i a _ ha hsi
  obtain ⟨r0,r1⟩:=hrr _ (List.mem_of_getElem? hri)
  have hat:atI (rounds.map V.int) (i:Int) = some (.int rounds[i]):=atI_nat (by rw [List.getElem?_map,hri]; rfl)
  have sT:=Same.new (o:=.tup [.int i,.ref a]) ht
  have stT:=st.trans (Step.ofSame' st.box sT)
  have hf:0<=floors:=by
   rcases hf0 with h | h
   ·exact h
   ·have h0:as.length = 0:=by rw [hal,h]; rfl
    omega
  refine ⟨t,_,rfl,SqT.of upd_same,rfl,_,_,rfl,_,_,rfl,rfl,?_⟩
  refine ⟨_,rfl,_,rfl,_,_,rfl,rfl,_,rfl,_,_,rfl,.inl ⟨_,SqL.of (stT.keep ss _ hsb hss),rfl⟩,_,rfl,_,_,rfl,rfl,_,_,rfl,rfl,_,_,rfl,rfl,?_⟩
  refine ⟨_,rfl,_,rfl,_,rfl,_,rfl,_,rfl,_,rfl,_,rfl,rs,_,_,_,rfl,rfl,SqL.of (stT.keep rs _ hrb hrs),hat,?_⟩
  refine ⟨b,a,l,scopes[i],names,_,floors,rounds[i],rfl,stT.box,hnm.step stT,stT.keep a _ h2 h1,h2,h3,h4,?_,?_,hf,hfn,r0,r1,fun t3 v r H3 et rw3 fit hmany hhigh hrep st3=>?_⟩
  ·rw [List.length_map,hal]; omega
  ·rw [List.length_map,hal]; omega
  rw [List.length_map,hal] at hmany
  have st4:=stT.trans st3
  have ep3:=(Step.ofSame' st.box sT).trans st3 |>.keep p _ hpb ep
  have hul:=hw.len
  rw [rlWs_len] at hul
  refine ⟨t3,_,rfl,SqT.of et,rfl,_,_,rfl,_,_,rfl,rfl,?_⟩
  refine ⟨_,rfl,.inl ⟨rfl,us,SqL.of ep3⟩,_,rfl,p,us,v,rfl,rfl,ep3,Nat.lt_of_le_of_lt (show us.length<=100 by omega) (by decide),?_⟩
  refine ⟨_,rfl,_,rfl,_,_,rfl,rfl,?_⟩
  have tq:Tups H3 (upd H3 p (.lst (us ++ [v]))):=fun c zs ec=>by
   rw [upd_ne (fun z=>by rw [z,ep3] at ec; cases ec)]
   exact ec
  have stF:Step b H (upd H3 p (.lst (us ++ [v]))):=⟨by
   obtain ⟨x,y,z,e'⟩:=st4.box
   exact ⟨x,y,z,by rw [upd_ne hpb.symm]; exact e'⟩,fun c o hc e'=>by
   rw [upd_ne (ne_of_none e' hp)]
   exact st4.keep c o hc e'⟩
  have tS:Tups H' H3:=fun c zs ec=>st3.tups stT.box c zs (sT _ _ ec)
  refine ⟨some (.int i),some (.ref a),some (.int (spare - manys ps - (((as.map V.ref).length:Int) - i - 1))),some v,some (.int r.many),us ++ [v],ps ++ [r],?_,stF,upd_same,?_,by rw [List.length_append,hpl]; rfl,fun j p' sc hj hs=>?_,?_⟩
  ·rw [manys_snoc,Int.natCast_add]
   rfl
  ·rw [rlWs_snoc]
   exact ((hw.mono tS).mono tq).snoc (rw3.mono tq)
  ·by_cases hjl:j < ps.length
   ·rw [List.getElem?_append_left hjl] at hj
    exact hfit j p' sc hj hs
   ·rw [List.getElem?_append_right (by omega)] at hj
    have hj0:j - ps.length = 0:=by
     have:=(List.getElem?_eq_some_iff.mp hj).1
     simp at this
     omega
    rw [hj0] at hj
    cases hj
    have hji:j = i:=by omega
    rw [hji,hsi] at hs
    cases hs
    exact ⟨fit,hhigh,fun c hc=>by rw [hji,hri] at hc; cases hc; exact hrep⟩
  ·rw [manys_snoc]
   omega
 ·obtain ⟨o8,o9,o10,o11,o12,us,ps,rfl,st,ep,hw,hpl,hfit,hm⟩:=h
  rw [List.length_map,hal] at hpl hm
  refine ⟨_,rfl,p,us,rfl,.inl ⟨SqL.of ep,fun t2 ht2=>⟨_,rfl,zl2,fun t ht=>?_⟩⟩⟩
  have s1:=Same.new (o:=.tup us) ht2
  have s2:=Same.new (o:=.tup [.ref t2,.int (manys ps)]) ht
  have s3:=s1.trans s2
  exact q t t2 us ps _ upd_same (s2 _ _ upd_same) (hw.mono (same_tups' s3)) hpl hfit (by omega) (st.trans (Step.ofSame' st.box s3))
theorem IsBox.ne {H:Hp}{b p:Addr} (hb:IsBox H b) (hp:H p = none):p≠b:=fun z=>by
 obtain ⟨x,y,w',e⟩:=hb
 rw [← z,hp] at e
 cases e
def wIf:Wo->Bool
 | .ifw=>true
 | _=>false
def wB:Wo->Bool
 | .letw=>true
 | .each=>true
 | .over=>true
 | _=>false
def wEach:Wo->Bool
 | .each=>true
 | _=>false
def wOver:Wo->Bool
 | .over=>true
 | _=>false
theorem eqIf (d:Wo):decide (V.str (woS d) = V.str "if") = wIf d:=by cases d <;> decide +kernel
theorem eqList (d:Wo):decide (V.str (woS d) = V.str "list") = wList d:=by cases d <;> decide +kernel
theorem eqEach (d:Wo):decide (V.str (woS d) = V.str "each") = wEach d:=by cases d <;> decide +kernel
theorem eqOver (d:Wo):decide (V.str (woS d) = V.str "over") = wOver d:=by cases d <;> decide +kernel
theorem inB (d:Wo):inV (.str (woS d)) [.str "let",.str "each",.str "over"] = wB d:=by cases d <;> decide +kernel
def Wo.cnt (d:Wo):Int:=2 + (if wIf d then 1 else 0) - (if w1 d then 1 else 0)
theorem cnt_le (d:Wo):1<=d.cnt/\d.cnt<=3:=by cases d <;> decide
theorem cnt_need (d:Wo) (h:wLit d = false) (h2:wVar d = false) (h3:wList d = false):d.cnt<=d.needs/\wVL d = false:=by cases d <;> first | (simp_all [wLit,wVar,wList]; done) | decide
theorem b_need (d:Wo) (h:wB d = true):2<=d.needs/\wVL d = false:=by cases d <;> first | (simp [wB] at h; done) | decide
theorem o_need (d:Wo) (h:wOver d = true):d.needs = 3/\wB d = true/\bcnt d = 2/\wEO d = true/\wEach d = false:=by cases d <;> first | (simp [wOver] at h; done) | decide
theorem b_cnt (d:Wo) (h:wB d = true) (h2:wOver d = false):bcnt d = 1:=by cases d <;> first | (simp [wB] at h; done) | (simp [wOver] at h2; done) | decide
theorem n_cnt (d:Wo) (h:wB d = false):bcnt d = 0/\wEach d = false/\wOver d = false:=by cases d <;> first | (simp [wB] at h; done) | decide
theorem e_need (d:Wo) (h:wEach d = true):wB d = true/\wEO d = true/\wOver d = false:=by cases d <;> first | (simp [wEach] at h; done) | decide
theorem cnt_B (d:Wo) (h:wB d = true) (h2:wOver d = false):Cnt d 2:=by cases d <;> first | (simp [wB] at h; done) | (simp [wOver] at h2; done) | exact ⟨fun z=>(nomatch z),fun _=>rfl⟩
theorem cnt_O (d:Wo) (h:wOver d = true):Cnt d 3:=by cases d <;> first | (simp [wOver] at h; done) | exact ⟨fun z=>(nomatch z),fun _=>rfl⟩
theorem cnt_E {d:Wo} (h:wEO d = true) (h2:wOver d = false) {n:Nat} (hc:Cnt d n):n = 2:=by cases d <;> first | (simp [wEO] at h; done) | (simp [wOver] at h2; done) | exact hc.2 rfl
theorem eo_each {d:Wo} (h:wEO d = true) (h2:wOver d = false):wEach d = true:=by cases d <;> first | (simp [wEO] at h; done) | (simp [wOver] at h2; done) | rfl
theorem cnt_Cnt (d:Wo) (h1:wLit d = false) (h2:wVar d = false) (h3:wList d = false) (h4:wB d = false):Cnt d d.cnt.toNat:=by cases d <;> first | (simp [wLit] at h1; done) | (simp [wVar] at h2; done) | (simp [wList] at h3; done) | (simp [wB] at h4; done) | exact ⟨fun z=>(nomatch z),fun _=>rfl⟩
theorem cnt_list (d:Wo) (h:wList d = true) {n:Nat} (hn:n<=8):Cnt d n:=⟨fun _=>hn,fun z=>by rw [h] at z; cases z⟩
def Shp (scopes:List (List Str)) (scope bs:List Str):Prop:=(bs = []/\∀ s∈scopes,s = scope)\/∃ m,scopes = List.replicate m scope ++ [scope ++ bs]
theorem fits_all {scope:List Str}:∀ {ps:List Rl},(∀ p∈ps,p.Fit scope)->Fits ps scope []
 | [],_=>by rw [Fits]; trivial
 | [p],h=>by rw [Fits,List.append_nil]; exact h p (by simp)
 | p :: q :: r,h=>by rw [Fits]; exact ⟨h p (by simp),fits_all fun x hx=>h x (List.mem_cons_of_mem _ hx)⟩
theorem fits_last {scope bs:List Str}:∀ (m:Nat) (ps:List Rl),ps.length = m + 1->(∀ (i:Nat) (p:Rl) (sc:List Str),ps[i]? = some p->(List.replicate m scope ++ [scope ++ bs])[i]? = some sc->p.Fit sc)->Fits ps scope bs
 | 0,[p],_,h=>by rw [Fits]; exact h 0 p _ rfl rfl
 | m + 1,p :: q :: r,hl,h=>by
  rw [Fits]
  refine ⟨h 0 p _ rfl (by rw [List.replicate_succ]; rfl),fits_last m (q :: r) (by simpa using hl) fun i x sc hx hs=>h (i + 1) x sc (by simpa using hx) ?_⟩
  rw [List.replicate_succ,List.cons_append,List.getElem?_cons_succ]
  exact hs
 | m + 1,[p],hl,_=>by simp at hl
 | 0,p :: q :: r,hl,_=>by simp at hl
theorem Shp.fits {scopes:List (List Str)}{scope bs:List Str} (h:Shp scopes scope bs) {ps:List Rl} (hl:ps.length = scopes.length) (hp:∀ (i:Nat) (p:Rl) (sc:List Str),ps[i]? = some p->scopes[i]? = some sc->p.Fit sc):Fits ps scope bs:=by
 rcases h with ⟨rfl,h⟩ | ⟨m,rfl⟩
 ·refine fits_all fun p hm=>?_
  obtain ⟨i,hi,rfl⟩:=List.getElem_of_mem hm
  have e:scopes[i]? = some (scopes[i]'(by omega)):=List.getElem?_eq_getElem (by omega)
  have:=hp i _ _ (List.getElem?_eq_getElem hi) e
  rw [h _ (List.mem_of_getElem? e)] at this
  exact this
 ·exact fits_last m ps (by simpa using hl) hp
theorem highs_le {n:Int}:∀ {ps:List Rl},0<=n->(∀ p∈ps,(p.high:Int)<=n - 1)->(highs ps:Int)<=n
 | [],h,_=>by simp [highs]; exact h
 | p :: r,h,hp=>by
  have h1:=hp p (by simp)
  have h2:=highs_le h fun q hq=>hp q (List.mem_cons_of_mem _ hq)
  simp only [highs]
  omega
theorem flat_rep {α:Type} (n:Nat) (x:α):(List.replicate n [x]).flatten = List.replicate n x:=by
 induction n with
 | zero=>rfl
 | succ n ih=>rw [List.replicate_succ,List.flatten_cons,ih,List.replicate_succ]; rfl
theorem zw_vr (z:Str) (h:z = "z"\/z = "w"):Vr z:=by
 rcases h with rfl | rfl
 ·exact ⟨by decide +kernel,by decide +kernel,by decide +kernel⟩
 ·exact ⟨by decide +kernel,by decide +kernel,by decide +kernel⟩
def Rd (d:Wo) (b sc l:Addr) (scope:List Str) (spare floors rounds:Int) (H0:Hp) (fin ea:Bool) (σ:St) (H:Hp):Prop:=
 ∃ (bn ss rs:Addr) (bs:List Str) (as:List Addr) (scopes:List (List Str)) (rl:List Int) (o10:Option V),σ = [some (.ref b),some (.ref sc),some (.ref l),some (.int spare),some (.int floors),some (.int rounds),some (.str (woS d)),some (.ref bn),some (.ref ss),some (.ref rs),o10,none,none]/\Step b H0 H/\H bn = some (.tup (bs.map V.str)) /\
  H ss = some (.lst (as.map V.ref))/\ss≠b/\H rs = some (.lst (rl.map V.int))/\rs≠b/\as.length = scopes.length/\scopes.length<=rl.length/\(∀ r∈rl,0<=r/\r<=100/\r<=rounds) /\
  (∀ (i:Nat) (a:Addr) (s:List Str),as[i]? = some a->scopes[i]? = some s->H a = some (.lst (s.map V.str))/\a≠b/\s.length<=scope.length + 2/\∀ y∈s,Vr y)/\(∀ z∈bs,Vr z) /\
  (fin = true->(scopes.length:Int)<=spare - 1/\(0<=floors - 1\/scopes = [])/\bs.length = bcnt d/\Cnt d scopes.length/\bs.Nodup/\(ea = true->wEO d = true->∀ c,rl[scopes.length - 1]? = some c->c<=rounds - 1)/\Shp scopes scope bs)/\(fin = false->∃ z,bs = [z])/\(wEach d = true->scopes.length<=2)
theorem sc_lany:FnScope ["_law_box_here","_law_scope","_law_names","_law_spare","_law_floors","_law_rounds","_law_word_here","_law_bound","_law_scopes","_law_inner","_law_other","_law_parts","_law_used"] ["_law_box_here","_law_scope","_law_names","_law_spare","_law_floors","_law_rounds"] (defScope s_lany):=⟨rfl,rfl,rfl,by decide +kernel,rfl,by decide +kernel,by decide +kernel⟩
theorem ok_lany (F:Fun K "_law_any" "_law_any" s_lany f fd) (G_lparts_by:Have P w K mg base "_law_parts_by" k ["_law_box_here","_law_scopes","_law_names","_law_spare","_law_floors","_law_rounds"] (spPartsBy n)) (G_lvariable:Have P w K mg base "_law_variable" k ["_law_box_here"] (spVar)) (G_ltake:Have P w K mg base "_law_take" k ["_law_box_here","_law_wide"] (spTake)) (G_llit:Have P w K mg base "_law_lit" k ["_law_box_here","_law_names"] (spLit)) (G_lword:Have P w K mg base "_law_word" k ["_law_box_here","_law_scope","_law_spare","_law_floors","_law_rounds"] (spWord)) (m_int:mg "int" = none) (m_len:mg "len" = none) (m_list:mg "list" = none) (m_min:mg "min" = none):FnOk P w K mg base CX0 (k + 1) f fd ["_law_box_here","_law_scope","_law_names","_law_spare","_law_floors","_law_rounds"] (spAny (n + 1)):=by
 refine F.okQ sc_lany (fun vs H Q E h=>?_) (fun cdv A outer s H vs Q E hr h=>?_)
 ·obtain ⟨b,sc,l,scope,names,spare,floors,rounds,rfl,_⟩:=h
  rfl
 obtain ⟨b,sc,l,scope,names,spare,floors,rounds,rfl,hb,hnm,hsc,hsb,hsl,hsv',hs1,hs100,hf0,hfn,hr0,hr100,q⟩:=h
 refine ⟨_,(pss_cons (ps_set (i:=6) sc_lany.nd rfl (Or.inl rfl) (pe_fn G_lword hr rfl (pa_cons (pv 0) (pa_cons (pv 1) (pa_cons (pv 3) (pa_cons (pv 4) (pa_cons (pv 5) pa_nil)))))))
  (pss_cons (ps_if (pt_cmpR op_eq (pv 6) pe_str (nomark _)) (pss_one (ps_ret (pe_tup (pa_cons (pe_fn G_llit hr rfl (pa_cons (pv 0) (pa_cons (pv 2) pa_nil))) (pa_cons pe_int pa_nil))))) pss_nil)
  (pss_cons (ps_if (pt_cmpR op_eq (pv 6) pe_str (nomark _)) (pss_one (ps_ret (pe_tup (pa_cons (pe_tup (pa_cons pe_str (pa_cons (pe_ix ix_list (pv 1) (pe_fn G_ltake hr rfl (pa_cons (pv 0) (pa_cons (pe_callB call_len rfl m_len PySem.boot_len (pa_cons (pv 1) pa_nil)) pa_nil))) (fun _ _=>rfl)) pa_nil))) (pa_cons pe_int pa_nil))))) pss_nil)
  (pss_cons (ps_set (i:=7) sc_lany.nd rfl (Or.inl rfl) (pe_tup pa_nil))
  (pss_cons (ps_set (i:=8) sc_lany.nd rfl (Or.inl rfl) (pe_op op_rep (pe_lst (pa_cons (pv 1) pa_nil)) (pe_op op_sub (pe_op op_add pe_int (pe_callTy call_int1 rfl m_int boot_intT (pa_cons (pe_cmpR op_eq (pv 6) pe_str (nomark _)) pa_nil))) (pe_callTy call_int1 rfl m_int boot_intT (pa_cons (pe_cmpR op_in_seq (pv 6) (pe_tup (pa_cons pe_str (pa_cons pe_str (pa_cons pe_str (pa_cons pe_str pa_nil))))) (by rfl)) pa_nil)))))
  (pss_cons (ps_set (i:=9) sc_lany.nd rfl (Or.inl rfl) (pe_op op_rep (pe_lst (pa_cons (pv 5) pa_nil)) pe_int))
  (pss_cons (ps_if (pt_cmpR op_eq (pv 6) pe_str (nomark _)) (pss_one (ps_set (i:=8) sc_lany.nd rfl (Or.inl rfl) (pe_op op_rep (pe_lst (pa_cons (pv 1) pa_nil)) (pe_callB (call_min2 rfl) rfl m_min PyProof.Rows.boot_min (pa_cons (pe_fn G_ltake hr rfl (pa_cons (pv 0) (pa_cons (pe_ix ix_list (pe_lst (pa_cons pe_int (pa_cons pe_int pa_nil))) (pe_callTy call_int1 rfl m_int boot_intT (pa_cons (pe_cmpR op_gt (pv 4) pe_int (nomark _)) pa_nil)) (fun _ _=>rfl)) pa_nil))) (pa_cons (pe_op op_sub (pv 3) pe_int) pa_nil)))))) pss_nil)
  (pss_cons (ps_if (pt_cmpR op_in_seq (pv 6) (pe_tup (pa_cons pe_str (pa_cons pe_str (pa_cons pe_str pa_nil)))) (by rfl)) (pss_cons (ps_set (i:=7) sc_lany.nd rfl (Or.inl rfl) (pe_tup (pa_cons (pe_fn G_lvariable hr rfl (pa_cons (pv 0) pa_nil)) pa_nil)))
  (pss_one (ps_set (i:=8) sc_lany.nd rfl (Or.inl rfl) (pe_lst (pa_cons (pv 1) (pa_cons (pe_op op_cat (pv 1) (pe_callTy call_list_of rfl m_list boot_listT (pa_cons (pv 7) pa_nil))) pa_nil)))))) pss_nil)
  (pss_cons (ps_if (pt_cmpR op_eq (pv 6) pe_str (nomark _)) (pss_one (ps_set (i:=9) sc_lany.nd rfl (Or.inl rfl) (pe_lst (pa_cons (pv 5) (pa_cons (pe_op op_sub (pv 5) pe_int) pa_nil))))) pss_nil)
  (pss_cons (ps_if (pt_cmpR op_eq (pv 6) pe_str (nomark _)) (pss_cons (ps_set (i:=10) sc_lany.nd rfl (Or.inl rfl) (pe_fn G_lvariable hr rfl (pa_cons (pv 0) pa_nil)))
  (pss_cons (ps_if (pt_cmpR op_eq (pv 10) (pe_ix ix_tup (pv 7) pe_int (fun _ _=>rfl)) (nomark _)) (pss_one (ps_set (i:=10) sc_lany.nd rfl (Or.inl rfl) (pe_ix ix_list (pe_lst (pa_cons pe_str (pa_cons pe_str pa_nil))) (pe_callTy call_int1 rfl m_int boot_intT (pa_cons (pe_cmpR op_eq (pv 10) pe_str (nomark _)) pa_nil)) (fun _ _=>rfl)))) pss_nil)
  (pss_cons (ps_set (i:=7) sc_lany.nd rfl (Or.inl rfl) (pe_op op_catT (pv 7) (pe_tup (pa_cons (pv 10) pa_nil))))
  (pss_cons (ps_set (i:=8) sc_lany.nd rfl (Or.inl rfl) (pe_lst (pa_cons (pv 1) (pa_cons (pv 1) (pa_cons (pe_op op_cat (pv 1) (pe_callTy call_list_of rfl m_list boot_listT (pa_cons (pv 7) pa_nil))) pa_nil)))))
  (pss_one (ps_set (i:=9) sc_lany.nd rfl (Or.inl rfl) (pe_lst (pa_cons (pv 5) (pa_cons (pv 5) (pa_cons (pe_op op_sub (pv 5) pe_int) pa_nil)))))))))) pss_nil)
  (pss_cons (ps_asg (pe_fn G_lparts_by hr rfl (pa_cons (pv 0) (pa_cons (pv 8) (pa_cons (pv 2) (pa_cons (pe_op op_sub (pv 3) pe_int) (pa_cons (pe_op op_sub (pv 4) pe_int) (pa_cons (pv 9) pa_nil))))))) (pg_tup rfl (pgs_cons (pg_name (i:=11) sc_lany.nd rfl (Or.inl rfl)) (pgs_cons (pg_name (i:=12) sc_lany.nd rfl (Or.inl rfl)) pgs_nil))))
  (pss_one (ps_ret (pe_tup (pa_cons (pe_op op_catT (pe_op op_catT (pe_tup (pa_cons (pv 6) pa_nil)) (pv 7)) (pv 11)) (pa_cons (pe_op op_add (pv 12) pe_int) pa_nil)))))))))))))))),?_⟩
 refine ⟨_,rfl,_,rfl,_,rfl,_,rfl,_,rfl,b,sc,_,spare,floors,rounds,rfl,hb,hsc,hsb,fun d H1 st1 hd=>?_⟩
 refine ⟨_,rfl,rfl,_,rfl,?_⟩
 rw [show Str.ofString "lit" = "lit" from rfl,eqLit]
 cases hlit:wLit d with
 | true=>
  refine iteT ⟨_,rfl,_,rfl,b,l,names,rfl,st1.box,(hnm.step st1).1,hnm.2.1,hnm.2.2.1,hnm.2.2.2.1,hnm.2.2.2.2,fun v x H2 rx okx sx dx st2=>⟨zl2,fun a ha=>?_⟩⟩
  have st3:=st1.trans st2
  have s3:=Same.new (o:=.tup [v,.int 1]) ha
  exact q a v (.lit x) _ upd_same (rx.mono (same_tups' s3)) (by rw [Rl.Fit]; exact ⟨okx,sx,by omega⟩) (by simp only [Rl.many]; omega) (by simp only [Rl.high]; omega) (by simp only [Rl.rep]; omega) (st3.trans (Step.ofSame' st3.box s3))
 | false=>
  obtain ⟨hneed,hfl,hsv,heo⟩:=hd hlit
  refine iteF ⟨_,rfl,rfl,_,rfl,?_⟩
  rw [show Str.ofString "var" = "var" from rfl,eqVar]
  cases hvar:wVar d with
  | true=>
   have hpos:0 < scope.length:=List.length_pos_iff.mpr fun z=>hsv hvar (by rw [z]; rfl)
   have hsc1:=st1.keep sc _ hsb hsc
   refine iteT ⟨_,rfl,_,rfl,_,rfl,_,_,rfl,.inl ⟨_,SqL.of hsc1,rfl⟩,b,_,rfl,st1.box,by rw [List.length_map]; omega,by rw [List.length_map]; omega,fun m H2 m0 m1 st2=>?_⟩
   rw [List.length_map] at m1
   have hi:m.toNat < scope.length:=by omega
   have hat:atI (scope.map V.str) m = some (.str scope[m.toNat]):=by
    have:=atI_nat (xs:=scope.map V.str) (j:=m.toNat) (v:=.str scope[m.toNat]) (by rw [List.getElem?_map,List.getElem?_eq_getElem hi]; rfl)
    rw [show ((m.toNat:Nat):Int) = m by omega] at this
    exact this
   have st3:=st1.trans st2
   refine ⟨sc,_,m,_,rfl,rfl,SqL.of (st3.keep sc _ hsb hsc),hat,zl2,fun a ha=>⟨zl2,fun a2 ha2=>?_⟩⟩
   have s4:=Same.new (o:=.tup [.str "var",.str scope[m.toNat]]) ha
   have s5:=Same.new (o:=.tup [.ref a,.int 1]) ha2
   have s45:=s4.trans s5
   exact q a2 (.ref a) (.var scope[m.toNat]) _ upd_same (by rw [Rl.toW]; exact RW.pair (s5 _ _ upd_same) (.txt _) (.txt _)) (by rw [Rl.Fit]; exact ⟨hsv' _ (List.getElem_mem hi),List.getElem_mem hi⟩) (by simp only [Rl.many]; omega) (by simp only [Rl.high]; omega) (by simp only [Rl.rep]; omega) (st3.trans (Step.ofSame' st3.box s45))
  | false=>
   refine iteF ?_
   have h1:=st1.box
   have hsc1:=st1.keep sc _ hsb hsc
   refine ⟨zl0,fun bn hbn=>?_⟩
   have st2:=st1.trans (Step.new (o:=.tup []) h1 hbn)
   have e1:=in1 d
   refine ⟨_,rfl,zl1,fun p1 hp1=>⟨_,rfl,rfl,.inr ⟨_,rfl,_,_,rfl,rfl,_,rfl,zl4,fun q2 hq2=>⟨q2,_,rfl,.inr (SqT.of upd_same),rfl,rfl,.inr ⟨_,rfl,_,_,rfl,rfl,?_⟩⟩⟩⟩⟩
   have st3:=st2.trans (Step.new (o:=.lst [.ref sc]) st2.box hp1)
   have st4:=st3.trans (Step.new (o:=.tup [.str "count",.str "figures",.str "look",.str "cry"]) st3.box hq2)
   obtain ⟨c0,c3⟩:=cnt_le d
   have hcnt:(2 + (if wIf d then 1 else 0) - (if w1 d then 1 else 0):Int) = d.cnt:=rfl
   have hk1:upd (upd (upd H1 bn (.tup [])) p1 (.lst [.ref sc])) q2 (.tup [.str "count",.str "figures",.str "look",.str "cry"]) p1 = some (.lst [.ref sc]):=(Same.new hq2) _ _ upd_same
   refine ⟨p1,d.cnt,[.ref sc],rfl,?_,hk1,by omega,by omega,by show 1 * _<=sizeLine; exact Nat.le_trans (show 1 * d.cnt.toNat<=3 by omega) (by decide),fun s1 hs1=>?_⟩
   ·rw [← hcnt,← eqIf,← e1]
    rfl
   have hs1b:=IsBox.ne st4.box hs1
   have st5:=st4.trans (Step.new (o:=.lst (List.replicate d.cnt.toNat [V.ref sc]).flatten) st4.box hs1)
   refine ⟨_,rfl,zl1,fun p2 hp2=>⟨p2,8,[.int rounds],rfl,rfl,upd_same,by decide,by decide,by show 1 * 8<=sizeLine; decide,fun r1 hr1=>?_⟩⟩
   have st6:=st5.trans (Step.new (o:=.lst [.int rounds]) st5.box hp2)
   have hr1b:=IsBox.ne st6.box hr1
   have s67:=Same.new (o:=.lst (List.replicate 8 [V.int rounds]).flatten) hr1
   have st7:=st6.trans (Step.ofSame' st6.box s67)
   have ebn:upd (upd (upd (upd (upd (upd H1 bn (.tup [])) p1 (.lst [.ref sc])) q2 (.tup [.str "count",.str "figures",.str "look",.str "cry"])) s1 (.lst (List.replicate d.cnt.toNat [V.ref sc]).flatten)) p2 (.lst [.int rounds])) r1 (.lst (List.replicate 8 [V.int rounds]).flatten) bn = some (.tup []):=s67 _ _ ((Same.new hp2) _ _ ((Same.new hs1) _ _ ((Same.new hq2) _ _ ((Same.new hp1) _ _ upd_same))))
   have es1:upd (upd (upd (upd (upd (upd H1 bn (.tup [])) p1 (.lst [.ref sc])) q2 (.tup [.str "count",.str "figures",.str "look",.str "cry"])) s1 (.lst (List.replicate d.cnt.toNat [V.ref sc]).flatten)) p2 (.lst [.int rounds])) r1 (.lst (List.replicate 8 [V.int rounds]).flatten) s1 = some (.lst (List.replicate d.cnt.toNat [V.ref sc]).flatten):=s67 _ _ ((Same.new hp2) _ _ upd_same)
   replace es1:=es1.trans (by rw [flat_rep])
   dsimp only [gName]
   refine seqI (fun σ' H'=>∃ (ss:Addr) (m:Nat),σ' = [some (.ref b),some (.ref sc),some (.ref l),some (.int spare),some (.int floors),some (.int rounds),some (.str (woS d)),some (.ref bn),some (.ref ss),some (.ref r1),none,none,none]/\Step b H H'/\H' bn = some (.tup [])/\H' ss = some (.lst (List.replicate m (V.ref sc)))/\ss≠b/\H' r1 = some (.lst (List.replicate 8 (V.int rounds)))/\m<=8/\(wB d = false->(m:Int)<=spare - 1/\(1<=floors\/m = 0)/\Cnt d m)) (fun σ' H' h=>?_) (fun tl=>?_)
   ·obtain ⟨ss,m,rfl,stA,ebA,esA,hsA,erA,hm,hmf⟩:=h
    refine seqI (fun σ' H'=>Rd d b sc l scope spare floors rounds H (!wOver d) false σ' H') (fun σ' H' h=>?_) (fun tl=>?_)
    ·refine seqI (fun σ' H'=>Rd d b sc l scope spare floors rounds H (!wOver d) true σ' H') (fun σ' H' h=>?_) (fun tl=>?_)
     ·refine seqI (fun σ' H'=>Rd d b sc l scope spare floors rounds H true true σ' H') (fun σ' H' h=>?_) (fun tl=>?_)
      ·
       obtain ⟨bn,ss,rs,bs,as,scopes,rl,o10,rfl,stF,ebn,ess,hssb,ers,hrsb,hal,hrl,hrr,hsc',hbs,hfin,_⟩:=h
       obtain ⟨hsp,hfl0,hbc,hcn,hnd,hlast,hshp⟩:=hfin rfl
       refine ⟨_,rfl,_,rfl,_,rfl,_,rfl,_,_,rfl,rfl,_,rfl,_,_,rfl,rfl,_,rfl,?_⟩
       refine ⟨b,ss,l,rs,as,scopes,names,rl,_,_,rfl,stF.box,hnm.step stF,ess,hssb,ers,hrsb,hal,hrl,fun r hr=>⟨(hrr r hr).1,(hrr r hr).2.1⟩,fun i a s0 ha hs0=>?_,by omega,by omega,by omega,hfl0,fun t t2 us ps H9 et et2 hus hpl hfit hmn st9=>?_⟩
       ·obtain ⟨x1,x2,x3,x4⟩:=hsc' i a s0 ha hs0
        exact ⟨x1,x2,by omega,x4⟩
       have stG:=stF.trans st9
       have ebn9:=st9.tups stF.box _ _ ebn
       refine ⟨t,_,rfl,SqT.of et,rfl,_,_,rfl,_,_,rfl,rfl,_,rfl,zl1,fun a1 ha1=>⟨_,rfl,?_⟩⟩
       have sa1:=Same.new (o:=.tup [.str (woS d)]) ha1
       have fin:∀ (a:Addr) (Hx:Hp),Same H9 Hx->Hx a = some (.tup (.str (woS d) :: (bs.map V.str ++ us)))->∀ a3,Hx a3 = none->Q (.ref a3) (upd Hx a3 (.tup [.ref a,.int (manys ps + 1)])):=fun a Hx sx ea a3 ha3=>by
        have s3:=Same.new (o:=.tup [.ref a,.int (manys ps + 1)]) ha3
        refine q a3 (.ref a) (.op d bs ps) _ ?_ ?_ ?_ ?_ ?_ ?_ (stG.trans (Step.ofSame' stG.box (sx.trans s3)))
        ·rw [upd_same]
         simp only [Rl.many]
         rw [show ((1 + manys ps:Nat):Int) = manys ps + 1 by omega]
        ·rw [Rl.toW]
         refine .lst (s3 _ _ ea) (by simp; exact hus.len) fun i v x hv hx=>?_
         match i with
         | 0=>cases hv; cases hx; exact .txt _
         | i + 1=>
          rw [List.getElem?_cons_succ] at hv hx
          by_cases hi:i < bs.length
          ·rw [List.getElem?_append_left (by simpa using hi),List.getElem?_map,List.getElem?_eq_getElem hi] at hv hx
           cases hv; cases hx; exact .txt _
          ·rw [List.getElem?_append_right (by simp; omega),List.length_map] at hv hx
           exact (hus.mono (same_tups' (sx.trans s3))).2 _ v x hv hx
        ·rw [Rl.Fit]
         exact ⟨⟨hlit,hvar,hbc,hbs,hnd,by rw [hpl]; exact hcn⟩,hshp.fits hpl fun i p s0 hp hs=>(hfit i p s0 hp hs).1⟩
        ·simp only [Rl.many]; omega
        ·simp only [Rl.high]
         refine highs_le (by omega) fun p hp=>?_
         obtain ⟨i,hi,rfl⟩:=List.getElem_of_mem hp
         have:=(hfit i _ _ (List.getElem?_eq_getElem hi) (List.getElem?_eq_getElem (by omega))).2.1
         omega
        ·simp only [Rl.rep]
         refine reps_le hr0 (fun p hp=>?_) (fun he p hp=>?_)
         ·obtain ⟨i,hi,rfl⟩:=List.getElem_of_mem hp
          have h2:rl[i]? = some rl[i]:=List.getElem?_eq_getElem (by omega)
          have:=(hfit i _ _ (List.getElem?_eq_getElem hi) (List.getElem?_eq_getElem (by omega))).2.2 _ h2
          have:=(hrr _ (List.mem_of_getElem? h2)).2.2
          omega
         ·rw [List.getLast?_eq_getElem?] at hp
          have hi:=(List.getElem?_eq_some_iff.mp hp).1
          have h2:rl[ps.length - 1]? = some rl[ps.length - 1]:=List.getElem?_eq_getElem (by omega)
          have:=(hfit _ _ _ hp (List.getElem?_eq_getElem (by omega))).2.2 _ h2
          have:=hlast rfl he rl[ps.length - 1] (by rw [← hpl]; exact h2)
          omega
       have hbl:bs.length<=2:=by rw [hbc]; cases d <;> decide
       have hul:us.length<=100:=by
        have:=hus.len
        rw [rlWs_len] at this
        omega
       refine ⟨a1,bn,_,_,rfl,rfl,SqT.of upd_same,SqT.of (sa1 _ _ ebn9),(fun z=>nomatch z),by simp; exact Nat.le_trans (show 1 + bs.length<=200 by omega) (by decide),fun z=>⟨_,rfl,?_⟩,fun _ p6 hp6=>⟨_,rfl,?_⟩⟩
       ·have ea1:upd H9 a1 (.tup [.str (woS d)]) a1 = some (.tup (.str (woS d) :: bs.map V.str)):=by rw [upd_same,z]
        refine ⟨a1,t2,_,us,rfl,rfl,SqT.of ea1,SqT.of ((sa1) _ _ et2),(fun z=>nomatch z),by simp; exact Nat.le_trans (show bs.length + 1 + us.length<=200 by omega) (by decide),fun z=>?_,fun _ p7 hp7=>?_⟩
        ·refine ⟨_,rfl,_,_,rfl,rfl,zl2,fin a1 _ (sa1) (by rw [ea1,z,List.append_nil])⟩
        ·exact ⟨_,rfl,_,_,rfl,rfl,zl2,fin p7 _ ((sa1).trans (Same.new hp7)) (by rw [upd_same]; rfl)⟩
       ·have ea6:upd (upd H9 a1 (.tup [.str (woS d)])) p6 (.tup ([.str (woS d)] ++ bs.map V.str)) p6 = some (.tup (.str (woS d) :: bs.map V.str)):=by rw [upd_same]; rfl
        have s6':=sa1.trans (Same.new (o:=.tup ([.str (woS d)] ++ bs.map V.str)) hp6)
        refine ⟨p6,t2,_,us,rfl,rfl,SqT.of ea6,SqT.of ((s6') _ _ et2),(fun z=>nomatch z),by simp; exact Nat.le_trans (show bs.length + 1 + us.length<=200 by omega) (by decide),fun z=>?_,fun _ p7 hp7=>?_⟩
        ·refine ⟨_,rfl,_,_,rfl,rfl,zl2,fin p6 _ (s6') (by rw [ea6,z,List.append_nil])⟩
        ·exact ⟨_,rfl,_,_,rfl,rfl,zl2,fin p7 _ ((s6').trans (Same.new hp7)) (by rw [upd_same]; rfl)⟩
      ·have h0:=h
       obtain ⟨bn,ss,rs,bs,as,scopes,rl,o10,rfl,stF,ebn,ess,hssb,ers,hrsb,hal,hrl,hrr,hsc',hbs,hfin,hz,hl2⟩:=h
       refine ⟨_,rfl,rfl,_,rfl,?_⟩
       rw [show Str.ofString "over" = "over" from rfl,eqOver]
       cases hov:wOver d with
       | false=>
        rw [hov] at h0
        exact iteF (tl _ _ h0)
       | true=>
        obtain ⟨x1,x2,x3,x4,x5⟩:=o_need d hov
        have hr':=heo x4
        obtain ⟨z,rfl⟩:=hz (by rw [hov]; rfl)
        have hf1:1<=floors:=by
         have:floors≠0:=fun z=>by have:=(b_need d x2).2; rw [hfl z] at this; cases this
         omega
        refine iteT ⟨_,rfl,b,rfl,stF.box,fun z2 H4 hz8 st4'=>?_⟩
        have stC:=stF.trans st4'
        have ebn4:=st4'.tups stF.box _ _ ebn
        dsimp only [gName]
        refine seqI (fun σ' H'=>∃ z3:Str,σ' = [some (.ref b),some (.ref sc),some (.ref l),some (.int spare),some (.int floors),some (.int rounds),some (.str (woS d)),some (.ref bn),some (.ref ss),some (.ref rs),some (.str z3),none,none]/\Same H4 H'/\Vr z3/\z3≠z) (fun σ' H' h=>?_) (fun tl2=>?_)
        ·obtain ⟨z3,rfl,s4,hz3,hne⟩:=h
         refine ⟨_,rfl,_,rfl,zl1,fun q6 hq6=>?_⟩
         have s6:=s4.trans (Same.new (o:=.tup [.str z3]) hq6)
         refine ⟨bn,q6,_,_,rfl,rfl,SqT.of (s6 _ _ ebn4),SqT.of upd_same,(fun z=>nomatch z),(by show 1 + 1<=sizeLine; decide),(fun z=>nomatch z),fun _ bn2 hbn2=>?_⟩
         have s7:=Same.new (o:=.tup ([.str z] ++ [.str z3])) hbn2
         refine ⟨_,rfl,_,rfl,_,rfl,_,rfl,bn2,_,rfl,.inr (SqT.of upd_same),fun l3 hl3=>?_⟩
         have s8:=Same.new (o:=.lst ([.str z] ++ [.str z3])) hl3
         have s68:=s6.trans (s7.trans s8)
         refine ⟨sc,l3,_,_,rfl,rfl,s68 _ _ (stC.keep sc _ hsb hsc),upd_same,by rw [List.length_map]; exact Nat.le_trans (show scope.length + 2<=1000 by omega) (by decide),fun p5 hp5=>⟨zl3,fun s5 hs5=>?_⟩⟩
         have s9:=Same.new (o:=.lst (scope.map V.str ++ ([.str z] ++ [.str z3]))) hp5
         have s10:=Same.new (o:=.lst [.ref sc,.ref sc,.ref p5]) hs5
         refine ⟨_,rfl,_,rfl,_,rfl,_,_,rfl,rfl,zl3,fun r2 hr2=>tl _ _ ?_⟩
         have s11:=Same.new (o:=.lst [.int rounds,.int rounds,.int (rounds - 1)]) hr2
         have sAll:=s68.trans (s9.trans (s10.trans s11))
         have hboxC:=stC.box
         refine ⟨bn2,s5,r2,[z,z3],[sc,sc,p5],[scope,scope,scope ++ [z,z3]],[rounds,rounds,rounds - 1],_,rfl,stC.trans (Step.ofSame' hboxC sAll),(s8.trans (s9.trans (s10.trans s11))) _ _ upd_same,s11 _ _ upd_same,IsBox.ne (Step.ofSame' hboxC (s68.trans s9)).box hs5,upd_same,IsBox.ne (Step.ofSame' hboxC (s68.trans (s9.trans s10))).box hr2,rfl,Nat.le_refl _,fun r hr=>?_,fun i a s0 ha hs0=>?_,fun y hy=>?_,fun hf=>⟨?_,.inl (by omega),x3.symm,cnt_O d hov,by simp; exact fun z=>hne z.symm,fun _ _ c hc=>by cases hc; exact Int.le_refl _,.inr ⟨2,rfl⟩⟩,fun z=>(nomatch z),fun z=>by rw [x5] at z; cases z⟩
         ·simp only [List.mem_cons,List.not_mem_nil,or_false] at hr
          omega
         ·match i with
          | 0=>cases ha; cases hs0; exact ⟨sAll _ _ (stC.keep sc _ hsb hsc),hsb,by omega,hsv'⟩
          | 1=>cases ha; cases hs0; exact ⟨sAll _ _ (stC.keep sc _ hsb hsc),hsb,by omega,hsv'⟩
          | 2=>
           cases ha; cases hs0
           exact ⟨((s10.trans s11) _ _ upd_same).trans (by rw [List.map_append]; rfl),IsBox.ne (Step.ofSame' hboxC s68).box hp5,by rw [List.length_append]; exact Nat.le_refl _,fun y hy=>by
            rcases List.mem_append.mp hy with hy | hy
            ·exact hsv' y hy
            ·simp only [List.mem_cons,List.not_mem_nil,or_false] at hy
             rcases hy with rfl | rfl
             ·exact hbs _ (by simp)
             ·exact hz3⟩
          | i + 3=>cases ha
         ·simp only [List.mem_cons,List.not_mem_nil,or_false] at hy
          rcases hy with rfl | rfl
          ·exact hbs _ (by simp)
          ·exact hz3
         ·show (3:Int)<=spare - 1; omega
        ·refine ⟨_,rfl,_,rfl,bn,_,0,_,rfl,rfl,SqT.of ebn4,rfl,rfl,_,rfl,ite2 (fun ht=>?_) (fun hf=>tl2 _ _ ⟨z2,rfl,Same.refl _,hz8,fun e=>hf (decide_eq_true (congrArg V.str e))⟩)⟩
         refine ⟨zl2,fun q7 hq7=>⟨_,rfl,rfl,.inr ⟨_,rfl,?_⟩⟩⟩
         have s7:=Same.new (o:=.lst [.str "z",.str "w"]) hq7
         obtain ⟨z3,e3,g3⟩:∃ z3:Str,atI [V.str "z",V.str "w"] (if (decide (V.str z2 = V.str "z")) = true then 1 else 0) = some (.str z3)/\Vr z3/\z3≠z:=by
          have e2:z2 = z:=V.str.inj (of_decide_eq_true ht)
          by_cases hz:z2 = "z"
          ·rw [decide_eq_true (congrArg V.str hz)]
           exact ⟨"w",rfl,zw_vr _ (.inr rfl),fun z0=>absurd (z0.trans (e2.symm.trans hz)) (by decide +kernel)⟩
          ·rw [decide_eq_false (fun h=>hz (V.str.inj h))]
           exact ⟨"z",rfl,zw_vr _ (.inl rfl),fun z0=>hz (e2.trans z0.symm)⟩
         exact ⟨q7,_,_,_,rfl,rfl,SqL.of upd_same,e3,tl2 _ _ ⟨z3,rfl,s7,g3⟩⟩
     ·have h0:=h
      obtain ⟨bn,ss,rs,bs,as,scopes,rl,o10,rfl,stF,ebn,ess,hssb,ers,hrsb,hal,hrl,hrr,hsc',hbs,hfin,hz,hl2⟩:=h
      refine ⟨_,rfl,rfl,_,rfl,?_⟩
      rw [show Str.ofString "each" = "each" from rfl,eqEach]
      cases hea:wEach d with
      | false=>
       refine iteF (tl _ _ ⟨bn,ss,rs,bs,as,scopes,rl,o10,rfl,stF,ebn,ess,hssb,ers,hrsb,hal,hrl,hrr,hsc',hbs,fun hf=>?_,hz,hl2⟩)
       obtain ⟨g1,g2,g3,g4,g5,_,g7⟩:=hfin hf
       exact ⟨g1,g2,g3,g4,g5,fun _ he c hc=>absurd (eo_each he (by simpa using hf)) (by rw [hea]; decide),g7⟩
      | true=>
       obtain ⟨x1,x2,x3⟩:=e_need d hea
       have hr':=heo x2
       refine iteT ⟨_,rfl,_,rfl,_,_,rfl,rfl,zl2,fun r2 hr2=>tl _ _ ?_⟩
       have sN:=Same.new (o:=.lst [.int rounds,.int (rounds - 1)]) hr2
       refine ⟨bn,ss,r2,bs,as,scopes,[rounds,rounds - 1],o10,rfl,stF.trans (Step.ofSame' stF.box sN),sN _ _ ebn,sN _ _ ess,hssb,upd_same,IsBox.ne stF.box hr2,hal,hl2 hea,fun r hr=>?_,fun i a s0 ha hs0=>?_,hbs,fun hf=>?_,hz,hl2⟩
       ·simp only [List.mem_cons,List.not_mem_nil,or_false] at hr
        omega
       ·obtain ⟨y1,y2,y3⟩:=hsc' i a s0 ha hs0
        exact ⟨sN _ _ y1,y2,y3⟩
       ·obtain ⟨g1,g2,g3,g4,g5,_,g7⟩:=hfin hf
        refine ⟨g1,g2,g3,g4,g5,fun _ _ c hc=>?_,g7⟩
        rw [cnt_E x2 x3 g4] at hc
        cases hc
        exact Int.le_refl _
    ·refine ⟨_,rfl,zl3,fun q3 hq3=>⟨q3,_,rfl,.inr (SqT.of upd_same),rfl,rfl,_,rfl,?_⟩⟩
     have sq:=Same.new (o:=.tup [.str "let",.str "each",.str "over"]) hq3
     have stB:=stA.trans (Step.ofSame' stA.box sq)
     have hscB:=stB.keep sc _ hsb hsc
     show if inV (.str (woS d)) [.str "let",.str "each",.str "over"] = true then _ else _
     rw [inB]
     cases hb0:wB d with
     | false=>
      obtain ⟨x1,x2,x3⟩:=n_cnt d hb0
      obtain ⟨y1,y2,y3⟩:=hmf hb0
      refine iteF (tl _ _ ⟨bn,ss,r1,[],List.replicate m sc,List.replicate m scope,List.replicate 8 rounds,none,rfl,stB,sq _ _ ebA,(sq _ _ esA).trans (by rw [List.map_replicate]),hsA,(sq _ _ erA).trans (by rw [List.map_replicate]),hr1b,by simp,by simp; omega,fun r hr=>?_,fun i a s0 ha hs0=>?_,fun z hz=>(nomatch hz),fun _=>⟨by rw [List.length_replicate]; exact y1,?_,x1.symm,by rw [List.length_replicate]; exact y3,List.nodup_nil,fun z=>(nomatch z),.inl ⟨rfl,fun s hs=>List.eq_of_mem_replicate hs⟩⟩,fun z=>(by rw [x3] at z; cases z),fun z=>(by rw [x2] at z; cases z)⟩)
      ·rw [List.eq_of_mem_replicate hr]; exact ⟨hr0,hr100,Int.le_refl _⟩
      ·rw [List.eq_of_mem_replicate (List.mem_of_getElem? ha),List.eq_of_mem_replicate (List.mem_of_getElem? hs0)]
       exact ⟨hscB,hsb,by omega,hsv'⟩
      ·rcases y2 with y | y
       ·left; omega
       ·right; rw [y]; rfl
     | true=>
      obtain ⟨x1,x2⟩:=b_need d hb0
      have hf1:1<=floors:=by
       have:floors≠0:=fun z=>by rw [hfl z] at x2; cases x2
       omega
      refine iteT ⟨_,rfl,b,rfl,stB.box,fun z H4 hz8 st4'=>⟨zl1,fun bn2 hbn2=>?_⟩⟩
      have stC:=stB.trans st4'
      have sb2:=Same.new (o:=.tup [.str z]) hbn2
      refine ⟨_,rfl,_,rfl,_,rfl,bn2,[.str z],rfl,.inr (SqT.of upd_same),fun l3 hl3=>?_⟩
      have sb3:=Same.new (o:=.lst [.str z]) hl3
      have sb23:=sb2.trans sb3
      have hsc3:=sb23 _ _ (stC.keep sc _ hsb hsc)
      refine ⟨sc,l3,_,_,rfl,rfl,hsc3,upd_same,by rw [List.length_map]; exact Nat.le_trans (show scope.length + 1<=1000 by omega) (by decide),fun p5 hp5=>⟨zl2,fun s5 hs5=>?_⟩⟩
      have sb4:=Same.new (o:=.lst (scope.map V.str ++ [.str z])) hp5
      have sb5:=Same.new (o:=.lst [.ref sc,.ref p5]) hs5
      have sAll:=(sb23.trans sb4).trans sb5
      have hboxC:=stC.box
      have st34:=Step.ofSame' hboxC (sb23.trans sb4)
      refine tl _ _ ⟨bn2,s5,r1,[z],[sc,p5],[scope,scope ++ [z]],List.replicate 8 rounds,none,rfl,stC.trans (Step.ofSame' hboxC sAll),(sb3.trans (sb4.trans sb5)) _ _ upd_same,upd_same,IsBox.ne st34.box hs5,(sAll _ _ (st4'.keep _ _ hr1b (sq _ _ erA))).trans (by rw [List.map_replicate]),hr1b,rfl,by simp,fun r hr=>?_,fun i a s0 ha hs0=>?_,fun y hy=>?_,fun hf=>⟨?_,.inl (by omega),?_,cnt_B d hb0 (by simpa using hf),by simp,fun z=>(nomatch z),.inr ⟨1,rfl⟩⟩,fun _=>⟨z,rfl⟩,fun _=>Nat.le_refl _⟩
      ·rw [List.eq_of_mem_replicate hr]; exact ⟨hr0,hr100,Int.le_refl _⟩
      ·match i with
       | 0=>cases ha; cases hs0; exact ⟨sAll _ _ (stC.keep sc _ hsb hsc),hsb,by omega,hsv'⟩
       | 1=>
        cases ha; cases hs0
        exact ⟨(sb5 _ _ upd_same).trans (by rw [List.map_append]; rfl),IsBox.ne (Step.ofSame' hboxC sb23).box hp5,by rw [List.length_append]; show _ + 1<=_; omega,fun y hy=>by
         rcases List.mem_append.mp hy with hy | hy
         ·exact hsv' y hy
         ·rw [List.mem_singleton.mp hy]; exact hz8⟩
       | i + 2=>cases ha
      ·rw [List.mem_singleton.mp hy]; exact hz8
      ·show (2:Int)<=spare - 1; omega
      ·show 1 = bcnt d
       rw [b_cnt d hb0 (by simpa using hf)]
   ·refine ⟨_,rfl,rfl,_,rfl,?_⟩
    rw [show Str.ofString "list" = "list" from rfl,eqList]
    cases hls:wList d with
    | false=>
     obtain ⟨hcn,hvl⟩:=cnt_need d hlit hvar hls
     have hf1:1<=floors:=by
      have:floors≠0:=fun z=>by rw [hfl z] at hvl; cases hvl
      omega
     exact iteF (tl _ _ ⟨s1,d.cnt.toNat,rfl,st7,ebn,es1,hs1b,upd_same.trans (by rw [flat_rep]; rfl),by omega,fun hwb=>⟨by omega,.inl hf1,cnt_Cnt d hlit hvar hls hwb⟩⟩)
    | true=>
     have hwB:wB d = false:=by cases d <;> first | rfl | (simp [wList] at hls; done)
     refine iteT ⟨_,rfl,zl1,fun p3 hp3=>⟨_,rfl,zl2,fun p4 hp4=>⟨_,rfl,_,_,rfl,rfl,.inr ⟨_,rfl,?_⟩⟩⟩⟩
     have s73:=Same.new (o:=.lst [.ref sc]) hp3
     have s74:=Same.new (o:=.lst [.int 1,.int 9]) hp4
     have s8:=s73.trans s74
     have st8:=st7.trans (Step.ofSame' st7.box s8)
     have hp3b:=IsBox.ne st7.box hp3
     obtain ⟨wd,hwd,hw0,hw9,hwf⟩:∃ wd:Int,atI [V.int 1,V.int 9] (if (decide (0 < floors)) = true then 1 else 0) = some (.int wd)/\1<=wd/\wd<=9/\(floors = 0->wd = 1):=by
      by_cases hf:0 < floors
      ·exact ⟨9,by rw [decide_eq_true hf]; rfl,by decide,by decide,fun z=>by omega⟩
      ·exact ⟨1,by rw [decide_eq_false hf]; rfl,by decide,by decide,fun z=>rfl⟩
     refine ⟨p4,_,_,_,rfl,rfl,SqL.of upd_same,hwd,b,wd,rfl,st8.box,by omega,by omega,fun m H2 m0 m1 st9=>?_⟩
     refine ⟨_,rfl,_,_,rfl,rfl,_,_,rfl,?_⟩
     have ep3:H2 p3 = some (.lst [.ref sc]):=st9.keep _ _ hp3b (s74 _ _ upd_same)
     have hmn:(if spare - 1 < m then spare - 1 else m)<=spare - 1/\(if spare - 1 < m then spare - 1 else m)<=m/\0<=(if spare - 1 < m then spare - 1 else m):=by
      split <;> omega
     generalize hmm:(if spare - 1 < m then spare - 1 else m) = mm at hmn
     refine ⟨p3,mm,[.ref sc],rfl,by rw [← hmm],ep3,by omega,by omega,by show 1 * _<=sizeLine; exact Nat.le_trans (show 1 * mm.toNat<=9 by omega) (by decide),fun s2 hs2=>?_⟩
     have st10:=st8.trans st9
     have s11:=Same.new (o:=.lst (List.replicate mm.toNat [V.ref sc]).flatten) hs2
     have hbnb:bn≠b:=IsBox.ne h1 hbn
     refine tl _ _ ⟨s2,mm.toNat,rfl,st10.trans (Step.ofSame' st10.box s11),s11 _ _ (st9.keep _ _ hbnb (s8 _ _ ebn)),upd_same.trans (by rw [flat_rep]),IsBox.ne st10.box hs2,s11 _ _ (st9.keep _ _ hr1b (s8 _ _ (upd_same.trans (by rw [flat_rep]; rfl)))),by omega,fun _=>⟨by omega,?_,cnt_list d hls (by omega)⟩⟩
     by_cases hf:floors = 0
     ·right
      have:=hwf hf
      omega
     ·left; omega
abbrev Row:=List Int × Rl × List Str
def rlW:Rl->Wo
 | .lit _=>.lit
 | .var _=>.var
 | .op d _ _=>d
def kidsR (n:List Int) (sc bs:List Str):List Rl->Int->List Row
 | [],_=>[]
 | [p],k=>[(n ++ [k],p,sc ++ bs)]
 | p :: q :: r,k=>(n ++ [k],p,sc) :: kidsR n sc bs (q :: r) (k + 1)
mutual
def walk (n:List Int) (sc:List Str):Rl->List Row
 | .lit x=>[(n,.lit x,sc)]
 | .var s=>[(n,.var s,sc)]
 | .op d bs ps=>(n,.op d bs ps,sc) :: walks n sc bs ps (1 + (bcnt d:Int))
def walks (n:List Int) (sc bs:List Str):List Rl->Int->List Row
 | [],_=>[]
 | [p],k=>walk (n ++ [k]) (sc ++ bs) p
 | p :: q :: r,k=>walk (n ++ [k]) sc p ++ walks n sc bs (q :: r) (k + 1)
end
theorem kids_len (n:List Int) (sc bs:List Str):∀ (ps:List Rl) (k:Int),(kidsR n sc bs ps k).length = ps.length
 | [],_=>rfl
 | [p],_=>rfl
 | p :: q :: r,k=>by rw [kidsR,List.length_cons,kids_len n sc bs (q :: r) (k + 1)]; rfl
theorem kids_get (n:List Int) (sc bs:List Str):∀ (ps:List Rl) (k:Int) (i:Nat) (p:Rl),ps[i]? = some p->(kidsR n sc bs ps k)[i]? = some (n ++ [k + i],p,if i + 1 = ps.length then sc ++ bs else sc)
 | [q],k,0,p,h=>by cases h; simp [kidsR]
 | q :: r :: l,k,0,p,h=>by cases h; rw [kidsR]; simp
 | q :: r :: l,k,i + 1,p,h=>by
  rw [List.getElem?_cons_succ] at h
  rw [kidsR,List.getElem?_cons_succ,kids_get n sc bs (r :: l) (k + 1) i p h,show k + 1 + (i:Int) = k + ((i + 1:Nat):Int) by omega]
  congr 3
  simp
 | [q],k,i + 1,p,h=>by simp at h
mutual
theorem walk_len (n:List Int) (sc:List Str):∀ r:Rl,(walk n sc r).length = r.many
 | .lit x=>by rw [walk,Rl.many]; rfl
 | .var s=>by rw [walk,Rl.many]; rfl
 | .op d bs ps=>by rw [walk,Rl.many,List.length_cons,walks_len n sc bs ps _]; omega
theorem walks_len (n:List Int) (sc bs:List Str):∀ (ps:List Rl) (k:Int),(walks n sc bs ps k).length = manys ps
 | [],_=>by rw [walks,manys]; rfl
 | [p],k=>by rw [walks,manys,manys,walk_len (n ++ [k]) (sc ++ bs) p]; rfl
 | p :: q :: r,k=>by rw [walks,manys,List.length_append,walk_len (n ++ [k]) sc p,walks_len n sc bs (q :: r) (k + 1)]
end
theorem Gds.mem:∀ {ps:List Rl},Gds ps->∀ p∈ps,p.Gd
 | q :: r,h,p,hp=>by
  rw [Gds] at h
  rcases List.mem_cons.mp hp with rfl | hp
  ·exact h.1
  ·exact Gds.mem h.2 p hp
theorem high_mem:∀ {ps:List Rl}{p:Rl},p∈ps->1 + p.high<=highs ps
 | q :: r,p,h=>by
  rw [highs]
  rcases List.mem_cons.mp h with rfl | h
  ·omega
  ·have:=high_mem h; omega
theorem bcnt_le (d:Wo):bcnt d<=2:=by cases d <;> decide
theorem RW.inv_lst {H:Hp}{v:V}{ws:List W} (h:RW H v (.lst ws)):∃ a vs,v = .ref a/\H a = some (.tup vs)/\RWs H vs ws:=by
 cases h with
 | lst e l r=>exact ⟨_,_,rfl,e,l,r⟩
theorem RW.inv_txt {H:Hp}{v:V}{x:Str} (h:RW H v (.txt x)):v = .str x:=by cases h; rfl
theorem RWs.inv_cons {H:Hp}{vs:List V}{w:W}{ws:List W} (h:RWs H vs (w :: ws)):∃ v r,vs = v :: r/\RW H v w/\RWs H r ws:=by
 obtain ⟨l,f⟩:=h
 cases vs with
 | nil=>simp at l
 | cons v r=>exact ⟨v,r,rfl,f 0 v w rfl rfl,by simpa using l,fun i x y hx hy=>f (i + 1) x y (by simpa using hx) (by simpa using hy)⟩
theorem RWs.inv_nil {H:Hp}{vs:List V} (h:RWs H vs []):vs = []:=List.length_eq_zero_iff.mp h.len
theorem RWs.inv_txts {H:Hp}:∀ {bs:List Str}{vs:List V}{ws:List W},RWs H vs (bs.map W.txt ++ ws)->∃ r,vs = bs.map V.str ++ r/\RWs H r ws
 | [],vs,ws,h=>⟨vs,rfl,h⟩
 | b :: bs,vs,ws,h=>by
  obtain ⟨v,r,rfl,h1,h2⟩:=RWs.inv_cons h
  obtain ⟨r',rfl,h3⟩:=RWs.inv_txts h2
  exact ⟨r',by rw [RW.inv_txt h1]; rfl,h3⟩
inductive Opn (H:Hp):Rl->List V->Prop where
 | lit {x:W}{v:V}:RW H v x->Opn H (.lit x) [.str "lit",v]
 | var {s:Str}:Opn H (.var s) [.str "var",.str s]
 | op {d:Wo}{bs:List Str}{ps:List Rl}{vs:List V}:RWs H vs (rlWs ps)->Opn H (.op d bs ps) (.str (woS d) :: (bs.map V.str ++ vs))
theorem opn {H:Hp}{v:V}{r:Rl} (h:RW H v r.toW):∃ a us,v = .ref a/\H a = some (.tup us)/\Opn H r us:=by
 cases r with
 | lit x=>
  rw [Rl.toW] at h
  obtain ⟨a,vs,rfl,e,h⟩:=RW.inv_lst h
  obtain ⟨v1,r1,rfl,h1,h⟩:=RWs.inv_cons h
  obtain ⟨v2,r2,rfl,h2,h⟩:=RWs.inv_cons h
  rw [RW.inv_txt h1,RWs.inv_nil h] at e
  exact ⟨a,_,rfl,e,.lit h2⟩
 | var s=>
  rw [Rl.toW] at h
  obtain ⟨a,vs,rfl,e,h⟩:=RW.inv_lst h
  obtain ⟨v1,r1,rfl,h1,h⟩:=RWs.inv_cons h
  obtain ⟨v2,r2,rfl,h2,h⟩:=RWs.inv_cons h
  rw [RW.inv_txt h1,RW.inv_txt h2,RWs.inv_nil h] at e
  exact ⟨a,_,rfl,e,.var⟩
 | op d bs ps=>
  rw [Rl.toW] at h
  obtain ⟨a,vs,rfl,e,h⟩:=RW.inv_lst h
  obtain ⟨v1,r1,rfl,h1,h⟩:=RWs.inv_cons h
  obtain ⟨r2,rfl,h2⟩:=RWs.inv_txts h
  rw [RW.inv_txt h1] at e
  exact ⟨a,_,rfl,e,.op h2⟩
theorem Opn.head {H:Hp}{r:Rl}{us:List V} (h:Opn H r us):us[0]? = some (.str (woS (rlW r))):=by cases h <;> rfl
theorem cut_mid (x:V) (xs ys:List V) (k:Nat) (hk:k = xs.length):cutV (x :: (xs ++ ys)) (some 1) (some (1 + (k:Int))) = xs:=by
 show ((x :: (xs ++ ys)).drop (HT.sIx (x :: (xs ++ ys)).length 0 (some ((1:Nat):Int)))).take (HT.sIx (x :: (xs ++ ys)).length (x :: (xs ++ ys)).length (some (1 + (k:Int))) - HT.sIx (x :: (xs ++ ys)).length 0 (some ((1:Nat):Int))) = xs
 rw [show (1:Int) + (k:Int) = ((1 + k:Nat):Int) by omega,HT.sIx_nat,HT.sIx_nat,List.length_cons,List.length_append,hk,show min 1 (xs.length + ys.length + 1) = 1 by omega,show min (1 + xs.length) (xs.length + ys.length + 1) - 1 = xs.length by omega]
 simp
theorem cut_rest (x:V) (xs ys:List V) (k:Nat) (hk:k = xs.length):cutV (x :: (xs ++ ys)) (some (1 + (k:Int))) none = ys:=by
 show ((x :: (xs ++ ys)).drop (HT.sIx (x :: (xs ++ ys)).length 0 (some (1 + (k:Int))))).take ((x :: (xs ++ ys)).length - HT.sIx (x :: (xs ++ ys)).length 0 (some (1 + (k:Int)))) = ys
 rw [show (1:Int) + (k:Int) = ((1 + k:Nat):Int) by omega,HT.sIx_nat,List.length_cons,List.length_append,hk,show min (1 + xs.length) (xs.length + ys.length + 1) = xs.length + 1 by omega]
 rw [List.drop_succ_cons,List.drop_left,List.take_of_length_le (by omega)]
theorem not_whole (x:V) (xs:List V) (k:Nat) (hi:Option Int):¬ (HT.sIx (x :: xs).length 0 (some (1 + (k:Int))) = 0/\HT.sIx (x :: xs).length (x :: xs).length hi = (x :: xs).length):=fun h=>by
 have h1:=h.1
 rw [show (1:Int) + (k:Int) = ((1 + k:Nat):Int) by omega,HT.sIx_nat,List.length_cons] at h1
 omega
theorem rlWs_get:∀ {ps:List Rl}{i:Nat}{p:Rl},ps[i]? = some p->(rlWs ps)[i]? = some p.toW
 | q :: r,0,p,h=>by cases h; rw [rlWs]; rfl
 | q :: r,i + 1,p,h=>by rw [rlWs,List.getElem?_cons_succ]; exact rlWs_get (by simpa using h)
theorem boot_setT:bootBuiltins (Str.ofString "set") = some (.type "set"):=by kernel_rfl
def kvsB:List (Key × V):=[(.inr "let",.int 1),(.inr "each",.int 1),(.inr "over",.int 2)]
def kvsP:List (Key × V):=[(.inr "let",.int 2),(.inr "if",.int 3),(.inr "+",.int 2),(.inr "-",.int 2),(.inr "*",.int 2),(.inr "/",.int 2),(.inr "same",.int 2),(.inr "less",.int 2),(.inr "join",.int 2),(.inr "item",.int 2),(.inr "count",.int 1),(.inr "figures",.int 1),(.inr "each",.int 2),(.inr "over",.int 3),(.inr "look",.int 1),(.inr "else",.int 2),(.inr "cry",.int 1)]
def spHasParts:Sp:=fun vs H Q _=>∃ d:Wo,vs = [.str (woS d)]/\Q (.bl (!(wLit d || wVar d))) H
def spBCount:Sp:=fun vs H Q _=>∃ d:Wo,vs = [.str (woS d)]/\Q (.int (bcnt d)) H
def spVarsOf:Sp:=fun vs H Q _=>∃ (a:Addr) (d:Wo) (xs ys:List V),vs = [.ref a]/\H a = some (.tup (.str (woS d) :: (xs ++ ys)))/\xs.length = bcnt d/\∀ (p:Addr) (H':Hp),Same H H'->H' p = some (.tup xs)->Q (.ref p) H'
def kidsOf:Rl->List Rl
 | .op _ _ ps=>ps
 | _=>[]
def spPartsOf:Sp:=fun vs H Q _=>∃ (a:Addr) (d:Wo) (xs ys:List V),vs = [.ref a]/\H a = some (.tup (.str (woS d) :: (xs ++ ys)))/\((wLit d || wVar d) = true\/((wLit d || wVar d) = false/\xs.length = bcnt d))/\∀ (l:Addr) (H':Hp),H l = none->Same H H'->H' l = some (.lst (if (wLit d || wVar d) = true then [] else ys))->Q (.ref l) H'
theorem many_len:∀ ps:List Rl,ps.length<=manys ps
 | []=>by simp [manys]
 | p :: r=>by
  have h1:=many_len r
  have h2:1<=p.many:=by cases p <;> simp [Rl.many]
  simp only [manys,List.length_cons]
  omega
theorem sc_has_parts:FnScope ["word"] ["word"] (defScope s_has_parts):=⟨rfl,rfl,rfl,by decide +kernel,rfl,by decide +kernel,by decide +kernel⟩
theorem ok_has_parts (F:Fun K "has_parts" "has_parts" s_has_parts f fd) {g_PARTS:Addr} (m_PARTS:mg "PARTS" = some (.ref g_PARTS)) (d_PARTS:MD P w K g_PARTS kvsP):FnOk P w K mg base CX0 (k + 1) f fd ["word"] (spHasParts):=by
 refine F.okQ sc_has_parts (fun vs H Q E h=>?_) (fun cdv A outer s H vs Q E hr h=>?_)
 ·obtain ⟨d,rfl,_⟩:=h
  rfl
 obtain ⟨d,rfl,q⟩:=h
 refine ⟨_,(pss_one (ps_ret (pe_or (pe_cmpR op_eq (pv 0) pe_str (nomark _)) (pe_one (pe_cmpR op_inM (pv 0) (pe_glob (v:=.ref g_PARTS) rfl m_PARTS rfl) (by rfl)))))),?_⟩
 refine ⟨_,rfl,rfl,_,rfl,?_⟩
 rw [show Str.ofString "list" = "list" from rfl,eqList]
 cases hl:wList d with
 | true=>
  have:(!(wLit d || wVar d)) = true:=by cases d <;> first | rfl | (simp [wList] at hl; done)
  rw [this] at q
  exact iteT q
 | false=>
  refine iteF ⟨_,rfl,g_PARTS,kvsP,.inr (woS d),rfl,rfl,d_PARTS,?_⟩
  have hs:(valV kvsP (.inr (woS d))).isSome = (!(wLit d || wVar d)):=by
   cases d
   case list=>simp [wList] at hl
   all_goals rfl
  rw [hs]
  exact q
theorem sc_binding_count:FnScope ["word"] ["word"] (defScope s_binding_count):=⟨rfl,rfl,rfl,by decide +kernel,rfl,by decide +kernel,by decide +kernel⟩
theorem ok_binding_count (F:Fun K "binding_count" "binding_count" s_binding_count f fd) {g_BINDING:Addr} (m_BINDING:mg "BINDING" = some (.ref g_BINDING)) (d_BINDING:MD P w K g_BINDING kvsB):FnOk P w K mg base CX0 (k + 1) f fd ["word"] (spBCount):=by
 refine F.okQ sc_binding_count (fun vs H Q E h=>?_) (fun cdv A outer s H vs Q E hr h=>?_)
 ·obtain ⟨d,rfl,_⟩:=h
  rfl
 obtain ⟨d,rfl,q⟩:=h
 refine ⟨_,(pss_one (ps_ret (pe_mget2 (pe_glob (v:=.ref g_BINDING) rfl m_BINDING rfl) (pv 0) pe_int ⟨rfl,rfl,rfl,rfl⟩))),?_⟩
 refine ⟨g_BINDING,kvsB,rfl,d_BINDING,_,rfl,.inr (woS d),rfl,?_⟩
 have hs:(valV kvsB (.inr (woS d))).getD (.int 0) = .int (bcnt d):=by cases d <;> rfl
 rw [hs]
 exact q
theorem sc_variables_of:FnScope ["expression"] ["expression"] (defScope s_variables_of):=⟨rfl,rfl,rfl,by decide +kernel,rfl,by decide +kernel,by decide +kernel⟩
theorem ok_variables_of (F:Fun K "variables_of" "variables_of" s_variables_of f fd) (G_binding_count:Have P w K mg base "binding_count" k ["word"] (spBCount)):FnOk P w K mg base CX0 (k + 1) f fd ["expression"] (spVarsOf):=by
 refine F.okQ sc_variables_of (fun vs H Q E h=>?_) (fun cdv A outer s H vs Q E hr h=>?_)
 ·obtain ⟨a,d,xs,ys,rfl,_⟩:=h
  rfl
 obtain ⟨a,d,xs,ys,rfl,ha,hl,q⟩:=h
 refine ⟨_,(pss_one (ps_ret (pe_slice sl_tup (pv 0) (po_some pe_int) (po_some (pe_op op_add pe_int (pe_fn G_binding_count hr rfl (pa_cons (pe_ix ix_tup (pv 0) pe_int (fun _ _=>rfl)) pa_nil))))))),?_⟩
 refine ⟨_,rfl,_,rfl,_,rfl,a,_,0,_,rfl,rfl,SqT.of ha,atI_nat (j:=0) rfl,d,rfl,_,_,rfl,rfl,_,rfl,a,_,rfl,SqT.of ha,not_whole _ _ 0 _,fun p hp=>?_⟩
 refine q p _ (Same.new hp) (upd_same.trans ?_)
 exact congrArg (fun z=>some (HO.tup z)) (cut_mid _ xs ys (bcnt d) hl.symm)
theorem sc_parts_of:FnScope ["expression","word"] ["expression"] (defScope s_parts_of):=⟨rfl,rfl,rfl,by decide +kernel,rfl,by decide +kernel,by decide +kernel⟩
theorem ok_parts_of (F:Fun K "parts_of" "parts_of" s_parts_of f fd) (G_binding_count:Have P w K mg base "binding_count" k ["word"] (spBCount)) (G_has_parts:Have P w K mg base "has_parts" k ["word"] (spHasParts)) (m_list:mg "list" = none):FnOk P w K mg base CX0 (k + 1) f fd ["expression"] (spPartsOf):=by
 refine F.okQ sc_parts_of (fun vs H Q E h=>?_) (fun cdv A outer s H vs Q E hr h=>?_)
 ·obtain ⟨a,d,xs,ys,rfl,_⟩:=h
  rfl
 obtain ⟨a,d,xs,ys,rfl,ea,hc,q⟩:=h
 refine ⟨_,(pss_cons (ps_set (i:=1) sc_parts_of.nd rfl (Or.inl rfl) (pe_ix ix_tup (pv 0) pe_int (fun _ _=>rfl)))
  (pss_cons (ps_if (pt_not (pt_val (pe_fn G_has_parts hr rfl (pa_cons (pv 1) pa_nil)))) (pss_one (ps_ret (pe_lst pa_nil))) pss_nil)
  (pss_one (ps_ret (pe_callTy call_list_of rfl m_list boot_listT (pa_cons (pe_slice sl_tup (pv 0) (po_some (pe_op op_add pe_int (pe_fn G_binding_count hr rfl (pa_cons (pv 1) pa_nil)))) po_none) pa_nil)))))),?_⟩
 refine ⟨_,rfl,a,_,0,_,rfl,rfl,SqT.of ea,atI_nat (j:=0) rfl,?_⟩
 refine ⟨_,rfl,d,rfl,_,rfl,?_⟩
 rcases hc with hc | ⟨hc,hl⟩
 ·rw [hc] at q ⊢
  exact iteT ⟨zl0,fun l hl=>q l _ hl (Same.new hl) upd_same⟩
 ·rw [hc] at q ⊢
  refine iteF ⟨_,rfl,_,rfl,d,rfl,_,_,rfl,rfl,_,rfl,a,_,rfl,SqT.of ea,not_whole _ _ (bcnt d) _,fun p hp=>?_⟩
  have s1:=Same.new (o:=.tup (cutV (.str (woS d) :: (xs ++ ys)) (some (1 + bcnt d)) none)) hp
  have e:=cut_rest (.str (woS d)) xs ys (bcnt d) hl.symm
  refine ⟨p,ys,rfl,.inr (SqT.of (by rw [upd_same]; exact congrArg _ (congrArg _ e))),fun l hl=>?_⟩
  have s2:=s1.trans (Same.new (o:=.lst ys) hl)
  exact q l _ (s1.free hl) s2 upd_same
theorem po_rl {H:Hp}{v:V}{r:Rl}{Q:VK}{E:XK} (hv:RW H v r.toW) (hg:r.Gd) (q:∀ (l:Addr) (us:List V) (H':Hp),H l = none->Same H H'->H' l = some (.lst us)->RWs H' us (rlWs (kidsOf r))->Q (.ref l) H'):spPartsOf [v] H Q E:=by
 obtain ⟨a,us,rfl,ea,ho⟩:=opn hv
 cases ho with
 | lit _=>exact ⟨a,.lit,[],[_],rfl,ea,.inl rfl,fun l H' hl s e=>q l [] H' hl s e ⟨rfl,fun i v w e=>by simp at e⟩⟩
 | var=>exact ⟨a,.var,[],[_],rfl,ea,.inl rfl,fun l H' hl s e=>q l [] H' hl s e ⟨rfl,fun i v w e=>by simp at e⟩⟩
 | op hvs=>
  rename_i d bs ps vs
  rw [Rl.Gd] at hg
  obtain ⟨⟨h1,h2,h3,_⟩,_⟩:=hg
  have hb:(wLit d || wVar d) = false:=by rw [h1,h2]; rfl
  refine ⟨a,d,bs.map V.str,vs,rfl,ea,.inr ⟨hb,by rw [List.length_map,h3]⟩,fun l H' hl s e=>q l vs H' hl s ?_ (hvs.mono (same_tups' s))⟩
  rw [hb] at e
  exact e
theorem many_mem:∀ {ps:List Rl}{p:Rl},p∈ps->p.many<=manys ps
 | q :: r,p,h=>by
  simp only [manys]
  rcases List.mem_cons.mp h with rfl | h
  ·omega
  ·have:=many_mem h; omega
theorem many_eq (r:Rl):r.many = 1 + manys (kidsOf r):=by cases r <;> simp [Rl.many,kidsOf,manys]
theorem high_eq (r:Rl):r.high = highs (kidsOf r):=by cases r <;> simp [Rl.high,kidsOf,highs]
theorem fit_kids {r:Rl} (h:r.Gd):∀ p∈kidsOf r,p.Gd:=by
 cases r with
 | op d bs ps=>rw [Rl.Gd] at h; exact h.2.mem
 | lit _=>intro p hp; cases hp
 | var _=>intro p hp; cases hp
mutual
def unb (b:List Str):Rl->List Str
 | .lit _=>[]
 | .var s=>if s∈b then [] else [s]
 | .op _ bs ps=>unbs b bs ps
def unbs (b bs:List Str):List Rl->List Str
 | []=>[]
 | [p]=>unb (b ++ bs) p
 | p :: q :: r=>unb b p ++ unbs b bs (q :: r)
end
def unbR (x:Row):List Str:=unb x.2.2 x.2.1
theorem unbs_kids (b bs:List Str):∀ (ps:List Rl) (k:Int),unbs b bs ps = (kidsR [] b bs ps k).flatMap unbR
 | [],_=>by rw [unbs,kidsR]; rfl
 | [p],_=>by rw [unbs,kidsR]; simp [unbR]
 | p :: q :: r,k=>by rw [unbs,kidsR,List.flatMap_cons,unbs_kids b bs (q :: r) (k + 1)]; rfl
mutual
theorem unb_len (b:List Str):∀ r:Rl,(unb b r).length<=r.many
 | .lit x=>by rw [unb,Rl.many]; exact Nat.zero_le _
 | .var s=>by rw [unb,Rl.many]; split <;> simp
 | .op d bs ps=>by rw [unb,Rl.many]; have:=unbs_len b bs ps; omega
theorem unbs_len (b bs:List Str):∀ ps:List Rl,(unbs b bs ps).length<=manys ps
 | []=>by rw [unbs,manys]; exact Nat.le_refl _
 | [p]=>by rw [unbs,manys,manys]; have:=unb_len (b ++ bs) p; omega
 | p :: q :: r=>by rw [unbs,manys,List.length_append]; have:=unb_len b p; have:=unbs_len b bs (q :: r); omega
end
def bndOf:Rl->List Str
 | .op _ bs _=>bs
 | _=>[]
theorem take_flat_le {α β:Type} (f:α->List β) (l:List α) (i:Nat):((l.take i).flatMap f).length<=(l.flatMap f).length:=by
 have:l.flatMap f = (l.take i).flatMap f ++ (l.drop i).flatMap f:=by rw [← List.flatMap_append,List.take_append_drop]
 rw [this,List.length_append]
 omega
theorem inV_strs (s:Str) (b:List Str):inV (.str s) (b.map V.str) = decide (s∈b):=by
 induction b with
 | nil=>rfl
 | cons x r ih=>
  unfold inV at ih ⊢
  rw [List.map_cons,List.any_cons,ih]
  rw [show eqV (V.str x) (V.str s) = (x == s) from rfl]
  by_cases e:s = x
  ·subst e; simp
  ·have e':¬ x = s:=fun z=>e z.symm
   simp [e,e']
def spUnb (n:Nat):Sp:=fun vs H Q _=>∃ (v:V) (r:Rl) (b:Addr) (bnd:List Str),vs = [v,.ref b]/\RW H v r.toW/\r.Gd/\r.many<=100/\r.high < n/\H b = some (.tup (bnd.map V.str))/\bnd.length + 2 * n<=1000 /\
 ∀ (l:Addr) (H':Hp),H l = none->Same H H'->H' l = some (.lst ((unb bnd r).map V.str))->Q (.ref l) H'
def spFree:Sp:=fun vs H Q _=>∃ (v:V) (r:Rl),vs = [v]/\RW H v r.toW/\r.Gd/\r.many < 64/\r.high < 20 /\
 ∀ (l:Addr) (ss:List Str) (H':Hp),H l = none->Same H H'->H' l = some (.lst (ss.map V.str))->L2.sortedT ss->ss.Perm (L2.allS (unb [] r))->Q (.ref l) H'
theorem sc_unbound:FnScope ["expression","bound","parts","names","place","part","is_last"] ["expression","bound"] (defScope s_unbound):=⟨rfl,rfl,rfl,by decide +kernel,rfl,by decide +kernel,by decide +kernel⟩
theorem ok_unbound {n:Nat} (F:Fun K "unbound" "unbound" s_unbound f fd) (G_unbound:Have P w K mg base "unbound" k ["expression","bound"] (spUnb n)) (G_variables_of:Have P w K mg base "variables_of" k ["expression"] (spVarsOf)) (G_parts_of:Have P w K mg base "parts_of" k ["expression"] (spPartsOf)) (m_enumerate:mg "enumerate" = none) (m_len:mg "len" = none):FnOk P w K mg base CX0 (k + 1) f fd ["expression","bound"] (spUnb (n + 1)):=by
 refine F.okQ sc_unbound (fun vs H Q E h=>?_) (fun cdv A outer s H vs Q E hr h=>?_)
 ·obtain ⟨v,r,b,bnd,rfl,_⟩:=h
  rfl
 obtain ⟨v,r,b,bnd,rfl,hv,hfit,hm,hh,hb,hbl,q⟩:=h
 refine ⟨_,(pss_cons (ps_if (pt_cmpR op_eq (pe_ix ix_tup (pv 0) pe_int (fun _ _=>rfl)) pe_str (nomark _)) (pss_one (ps_ret (pe_ifExp (pt_cmpR op_in_seq (pe_ix ix_tup (pv 0) pe_int (fun _ _=>rfl)) (pv 1) (by rfl)) (pe_lst pa_nil) (pe_lst (pa_cons (pe_ix ix_tup (pv 0) pe_int (fun _ _=>rfl)) pa_nil))))) pss_nil)
  (pss_cons (ps_set (i:=2) sc_unbound.nd rfl (Or.inl rfl) (pe_fn G_parts_of hr rfl (pa_cons (pv 0) pa_nil)))
  (pss_cons (ps_set (i:=3) sc_unbound.nd rfl (Or.inl rfl) (pe_lst pa_nil))
  (pss_cons (ps_for PassesOwn.never rfl (pi_enum rfl m_enumerate (pa_cons (pv 2) pa_nil)) (pg_tup rfl (pgs_cons (pg_name (i:=4) sc_unbound.nd rfl (Or.inl rfl)) (pgs_cons (pg_name (i:=5) sc_unbound.nd rfl (Or.inl rfl)) pgs_nil))) (pss_cons (ps_set (i:=6) sc_unbound.nd rfl (Or.inl rfl) (pe_cmpR op_eq (pv 4) (pe_op op_sub (pe_callB call_len rfl m_len PySem.boot_len (pa_cons (pv 2) pa_nil)) pe_int) (nomark _)))
  (pss_one (ps_expr (pe_bm PySem.F.plainAttrs_list PySem.F.slot_list_extend PySem.F.type_list_extend mt_extend (pv 3) (pa_cons (pe_fn G_unbound hr rfl (pa_cons (pv 5) (pa_cons (pe_ifExp (pt_val (pv 6)) (pe_op op_join (pv 1) (pe_fn G_variables_of hr rfl (pa_cons (pv 0) pa_nil))) (pv 1)) pa_nil))) pa_nil))))))
  (pss_one (ps_ret (pv 3))))))),?_⟩
 obtain ⟨a,us0,rfl,ea,ho⟩:=opn hv
 refine ⟨_,rfl,a,_,0,_,rfl,rfl,SqT.of ea,atI_nat (j:=0) ho.head,rfl,_,rfl,?_⟩
 rw [show Str.ofString "var" = "var" from rfl,eqVar]
 cases hw:wVar (rlW r) with
 | true=>
  cases ho with
  | var=>
   rename_i s
   refine iteT ⟨_,rfl,a,_,1,_,rfl,rfl,SqT.of ea,rfl,_,rfl,b,_,rfl,.inr (SqT.of hb),rfl,?_,_,rfl,?_⟩
   ·rw [List.all_map]; simp [flatV]
   ·show if inV (.str s) (bnd.map V.str) = true then _ else _
    rw [inV_strs]
    by_cases hs:s∈bnd
    ·rw [decide_eq_true hs]
     exact iteT ⟨zl0,fun l hl=>q l _ hl (Same.new hl) (by rw [upd_same,unb,if_pos hs]; rfl)⟩
    ·rw [decide_eq_false hs]
     exact iteF ⟨_,rfl,a,_,1,_,rfl,rfl,SqT.of ea,rfl,zl1,fun l hl=>q l _ hl (Same.new hl) (by rw [upd_same,unb,if_neg hs]; rfl)⟩
  | lit _=>cases hw
  | op hvs=>
   have hf:=hfit
   rw [Rl.Gd] at hf
   rw [show wVar (rlW (Rl.op _ _ _)) = false from hf.1.2.1] at hw
   cases hw
 | false=>
  have hub:unb bnd r = (kidsR [] bnd (bndOf r) (kidsOf r) 0).flatMap unbR:=by
   cases r with
   | lit _=>rw [unb]; rfl
   | var _=>cases hw
   | op d bs ps=>rw [unb,unbs_kids bnd bs ps 0]; rfl
  refine iteF ⟨_,rfl,?_⟩
  dsimp only [tNil,List.cons_append,List.nil_append]
  refine po_rl hv hfit fun l us H1 hl s1 el hus=>⟨zl0,fun nm hnm=>?_⟩
  have hul:=hus.len
  rw [rlWs_len] at hul
  have s2:=Same.new (o:=.lst []) hnm
  have hln:l≠nm:=ne_of_none el hnm
  have nmH:H nm = none:=s1.free hnm
  have ulen:=unb_len bnd r
  refine ⟨_,rfl,l,us,rfl,SqL.of (s2 _ _ el),for_enum (xs:=us) (fun i σ' H'=>∃ (o4 o5 o6:Option V),σ' = [some (.ref a),some (.ref b),some (.ref l),some (.ref nm),o4,o5,o6]/\(∀ c o,c≠nm->upd H1 nm (.lst []) c = some o->H' c = some o)/\H' nm = some (.lst ((((kidsR [] bnd (bndOf r) (kidsOf r) 0).take i).flatMap unbR).map V.str)))
   ⟨none,none,none,rfl,fun c o _ e=>e,by rw [upd_same]; rfl⟩ (fun i σ' H' _ h=>?_) (fun i x t σ' H' hx ht h=>?_) (fun σ' H' h=>?_)⟩
  ·obtain ⟨_,_,_,_,kp,_⟩:=h
   exact SqL.of (kp l _ hln (s2 _ _ el))
  ·obtain ⟨o4,o5,o6,rfl,kp,enm⟩:=h
   have hi:i < us.length:=(List.getElem?_eq_some_iff.mp hx).1
   have hki:(kidsOf r)[i]? = some (kidsOf r)[i]:=List.getElem?_eq_getElem (by omega)
   have hkid:=kids_get [] bnd (bndOf r) (kidsOf r) 0 i _ hki
   have sT:=Same.new (o:=.tup [.int i,x]) ht
   have hpm:=List.getElem_mem (show i < (kidsOf r).length by omega)
   have h1:=many_mem hpm
   have h2:=high_mem hpm
   have hme:=many_eq r
   have hhe:=high_eq r
   have kpT:∀ c o,c≠nm->upd H1 nm (.lst []) c = some o->upd H' t (.tup [.int i,x]) c = some o:=fun c o hc e=>sT _ _ (kp c o hc e)
   have kH:∀ c o,H c = some o->upd H' t (.tup [.int i,x]) c = some o:=fun c o e=>kpT c o (ne_of_none e nmH) (s2 _ _ (s1 _ _ e))
   refine ⟨t,_,rfl,SqT.of upd_same,rfl,_,_,rfl,_,_,rfl,rfl,?_⟩
   refine ⟨_,rfl,_,rfl,_,_,rfl,.inl ⟨_,SqL.of (kpT l _ hln (s2 _ _ el)),rfl⟩,_,_,rfl,rfl,rfl,?_⟩
   refine ⟨_,rfl,.inl ⟨rfl,_,SqL.of (sT _ _ enm)⟩,_,rfl,_,rfl,_,rfl,?_⟩
   have rwx:RW (upd H' t (.tup [.int i,x])) x ((kidsOf r)[i]).toW:=by
    refine (hus.at' i x _ hx (rlWs_get hki)).mono (fun c zs ec=>?_)
    exact kpT c _ (ne_of_none ec hnm) (s2 _ _ ec)
   have F:∀ (l2:Addr) (H6:Hp) (bnd2:List Str),bnd2 = (if i + 1 = (kidsOf r).length then bnd ++ bndOf r else bnd)->Same (upd H' t (.tup [.int i,x])) H6->H6 l2 = some (.lst ((unb bnd2 (kidsOf r)[i]).map V.str))->H6 nm = some (.lst ((((kidsR [] bnd (bndOf r) (kidsOf r) 0).take i).flatMap unbR).map V.str)) /\
     ((((kidsR [] bnd (bndOf r) (kidsOf r) 0).take i).flatMap unbR).map V.str).length + ((unb bnd2 (kidsOf r)[i]).map V.str).length<=sizeLine /\
     (∀ c o,c≠nm->upd H1 nm (.lst []) c = some o->upd H6 nm (.lst ((((kidsR [] bnd (bndOf r) (kidsOf r) 0).take i).flatMap unbR).map V.str ++ (unb bnd2 (kidsOf r)[i]).map V.str)) c = some o) /\
     upd H6 nm (.lst ((((kidsR [] bnd (bndOf r) (kidsOf r) 0).take i).flatMap unbR).map V.str ++ (unb bnd2 (kidsOf r)[i]).map V.str)) nm = some (.lst ((((kidsR [] bnd (bndOf r) (kidsOf r) 0).take (i + 1)).flatMap unbR).map V.str)):=fun l2 H6 bnd2 hb2 s6 el2=>by
    have t1:=take_flat_le unbR (kidsR [] bnd (bndOf r) (kidsOf r) 0) i
    rw [← hub] at t1
    have t2:=unb_len bnd2 (kidsOf r)[i]
    refine ⟨s6 _ _ (sT _ _ enm),?_,fun c o hc e=>?_,?_⟩
    ·rw [List.length_map,List.length_map]
     exact Nat.le_trans (show _<=300 by omega) (by decide)
    ·rw [upd_ne hc]
     exact s6 _ _ (kpT c o hc e)
    ·rw [upd_same,List.take_succ,hkid,List.flatMap_append,List.map_append,← hb2]
     simp [unbR]
   refine ite2 (fun c=>?_) (fun c=>?_)
   ·have hlast:i + 1 = (kidsOf r).length:=by
     have:=of_decide_eq_true c
     injection this with this
     omega
    cases ho with
    | lit _=>simp [kidsOf] at hlast
    | var=>cases hw
    | op hvs=>
     rename_i d bs ps vs
     have hfit':=hfit
     have hf:=hfit
     rw [Rl.Gd] at hf
     have hb2l:=bcnt_le d
     have hbl3:=hf.1.2.2.1
     refine ⟨_,rfl,_,rfl,a,d,bs.map V.str,vs,rfl,kH _ _ ea,by rw [List.length_map]; exact hf.1.2.2.1,fun p H5 s5 ep=>?_⟩
     have hb2:bnd ++ bs = (if i + 1 = (kidsOf (.op d bs ps)).length then bnd ++ bndOf (.op d bs ps) else bnd):=by rw [if_pos hlast]; rfl
     have hbl2:(bnd ++ bs).length + 2 * n<=1000:=by rw [List.length_append]; omega
     have call:∀ (b2:Addr) (H6:Hp),Same H5 H6->H6 b2 = some (.tup ((bnd ++ bs).map V.str))->RW H6 x ((kidsOf (.op d bs ps))[i]).toW:=fun b2 H6 s6 _=>rwx.mono (same_tups' (s5.trans s6))
     cases hbn:bnd with
     | nil=>
      subst hbn
      refine .inr (.inr ⟨b,p,_,rfl,rfl,SqT.of (s5 _ _ (kH _ _ hb)),SqT.of ep,?_⟩)
      exact ⟨x,_,p,[] ++ bs,rfl,rwx.mono (same_tups' s5),fit_kids hfit' _ hpm,by omega,by omega,ep,hbl2,fun l2 H6 hl2 s6 el2=>⟨nm,l2,_,_,rfl,rfl,(F l2 H6 _ hb2 (s5.trans s6) el2).1,el2,(F l2 H6 _ hb2 (s5.trans s6) el2).2.1,_,_,_,rfl,(F l2 H6 _ hb2 (s5.trans s6) el2).2.2.1,(F l2 H6 _ hb2 (s5.trans s6) el2).2.2.2⟩⟩
     | cons z zs=>
      rw [← hbn]
      refine .inr (.inl ⟨b,p,_,_,rfl,rfl,SqT.of (s5 _ _ (kH _ _ hb)),SqT.of ep,(by rw [hbn]; exact fun z=>nomatch z),by rw [List.length_map,List.length_map]; exact Nat.le_trans (show bnd.length + bs.length<=1100 by omega) (by decide),fun hz=>?_,fun _ p6 hp6=>?_⟩)
      ·have hbs:bs = []:=List.map_eq_nil_iff.mp hz
       have eb:H5 b = some (.tup ((bnd ++ bs).map V.str)):=by rw [hbs,List.append_nil]; exact s5 _ _ (kH _ _ hb)
       exact ⟨x,_,b,bnd ++ bs,rfl,rwx.mono (same_tups' s5),fit_kids hfit' _ hpm,by omega,by omega,eb,hbl2,fun l2 H6 hl2 s6 el2=>⟨nm,l2,_,_,rfl,rfl,(F l2 H6 _ hb2 (s5.trans s6) el2).1,el2,(F l2 H6 _ hb2 (s5.trans s6) el2).2.1,_,_,_,rfl,(F l2 H6 _ hb2 (s5.trans s6) el2).2.2.1,(F l2 H6 _ hb2 (s5.trans s6) el2).2.2.2⟩⟩
      ·have s56:=s5.trans (Same.new (o:=.tup (bnd.map V.str ++ bs.map V.str)) hp6)
       exact ⟨x,_,p6,bnd ++ bs,rfl,rwx.mono (same_tups' s56),fit_kids hfit' _ hpm,by omega,by omega,by rw [upd_same,List.map_append],hbl2,fun l2 H6 hl2 s6 el2=>⟨nm,l2,_,_,rfl,rfl,(F l2 H6 _ hb2 (s56.trans s6) el2).1,el2,(F l2 H6 _ hb2 (s56.trans s6) el2).2.1,_,_,_,rfl,(F l2 H6 _ hb2 (s56.trans s6) el2).2.2.1,(F l2 H6 _ hb2 (s56.trans s6) el2).2.2.2⟩⟩
   ·have hlast:¬ i + 1 = (kidsOf r).length:=fun z=>c (decide_eq_true (congrArg V.int (show (i:Int) = (us.length:Int) - 1 by omega)))
    have hb2:bnd = (if i + 1 = (kidsOf r).length then bnd ++ bndOf r else bnd):=by rw [if_neg hlast]
    exact ⟨_,rfl,x,_,b,bnd,rfl,rwx,fit_kids hfit _ hpm,by omega,by omega,kH _ _ hb,by omega,fun l2 H6 hl2 s6 el2=>⟨nm,l2,_,_,rfl,rfl,(F l2 H6 _ hb2 s6 el2).1,el2,(F l2 H6 _ hb2 s6 el2).2.1,_,_,_,rfl,(F l2 H6 _ hb2 s6 el2).2.2.1,(F l2 H6 _ hb2 s6 el2).2.2.2⟩⟩
  ·obtain ⟨o4,o5,o6,rfl,kp,enm⟩:=h
   refine ⟨_,rfl,q nm H' nmH (fun c o e=>kp c o (ne_of_none e nmH) (s2 _ _ (s1 _ _ e))) ?_⟩
   rw [enm,hub,List.take_of_length_le (by rw [kids_len]; omega)]
theorem sc_free_in:FnScope ["expression"] ["expression"] (defScope s_free_in):=⟨rfl,rfl,rfl,by decide +kernel,rfl,by decide +kernel,by decide +kernel⟩
theorem ok_free_in (F:Fun K "free_in" "free_in" s_free_in f fd) (G_unbound:Have P w K mg base "unbound" k ["expression","bound"] (spUnb 20)) (m_set:mg "set" = none) (m_sorted:mg "sorted" = none):FnOk P w K mg base CX0 (k + 1) f fd ["expression"] (spFree):=by
 refine F.okQ sc_free_in (fun vs H Q E h=>?_) (fun cdv A outer s H vs Q E hr h=>?_)
 ·obtain ⟨v,r,rfl,_⟩:=h
  rfl
 obtain ⟨v,r,rfl,hv,hfit,hm,hh,q⟩:=h
 refine ⟨_,(pss_one (ps_ret (pe_callB (call_sorted_set rfl) rfl m_sorted PyProof.Rows.boot_sorted (pa_cons (pe_callTy (call_set_tx rfl) rfl m_set boot_setT (pa_cons (pe_fn G_unbound hr rfl (pa_cons (pv 0) (pa_cons (pe_tup pa_nil) pa_nil))) pa_nil)) pa_nil)))),?_⟩
 refine ⟨_,rfl,zl0,fun p hp=>?_⟩
 have s1:=Same.new (o:=.tup []) hp
 have hul:=unb_len [] r
 have hal:=L2.allS_len (unb [] r)
 refine ⟨v,r,p,[],rfl,hv.mono (same_tups' s1),hfit,by omega,hh,upd_same,by decide,fun l H2 hl s2 el=>⟨l,unb [] r,rfl,SqL.of el,by omega,fun st hst=>⟨st,_,rfl,upd_same,by omega,fun o ss ho hp hs=>?_⟩⟩⟩
 have s3:=Same.new (o:=L2.SetH P w st (L2.allS (unb [] r))) hst
 have s4:=(s1.trans s2).trans s3
 exact q o ss _ (s4.free ho) (s4.trans (Same.new ho)) upd_same hs hp
def abcL:Str:=Str.ofString "abcdefghijklmnopqrstuvwxyz"
theorem abcL_mem (c:Nat):c∈abcL.cps.toList ↔ 97<=c/\c<=122:=by
 have e:abcL.cps.toList = (List.range 26).map (· + 97):=by decide +kernel
 rw [e,List.mem_map]
 constructor
 ·rintro ⟨i,hi,rfl⟩
  have:=List.mem_range.mp hi
  omega
 ·exact fun h=>⟨c - 97,List.mem_range.mpr (by omega),by omega⟩
def letB (c:Nat):Bool:=decide (c∈abcL.cps.toList)
def isVarB:T->Bool
 | .txt z=>decide (1<=z.length) && (decide (z.length<=8) && z.cps.toList.all letB)
 | _=>false
theorem isVarB_txt {z:Str}:isVarB (.txt z) = true ↔ Vr z:=by
 show (decide (1<=z.length) && (decide (z.length<=8) && z.cps.toList.all letB)) = true ↔ _
 rw [Bool.and_eq_true,Bool.and_eq_true,decide_eq_true_iff,decide_eq_true_iff,List.all_eq_true]
 refine ⟨fun h=>⟨h.1,h.2.1,fun c hc=>(abcL_mem c).mp (of_decide_eq_true (h.2.2 c hc))⟩,fun h=>⟨h.1,h.2.1,fun c hc=>decide_eq_true ((abcL_mem c).mpr (h.2.2 c hc))⟩⟩
theorem isVarB_inv {t:T} (h:isVarB t = true):∃ z,t = .txt z/\Vr z:=by
 cases t with
 | txt z=>exact ⟨z,rfl,isVarB_txt.mp h⟩
 | _=>cases h
def goodVB:List T->Bool
 | []=>true
 | [t]=>isVarB t
 | .txt x :: .txt y :: _=>isVarB (.txt x) && (isVarB (.txt y) && decide (x≠y))
 | _ :: _ :: _=>false
def RTs (H:Hp) (vs:List V) (ts:List T):Prop:=vs.length = ts.length/\∀ (i:Nat) (v:V) (t:T),vs[i]? = some v->ts[i]? = some t->RT H v t
theorem RTs.mono {H H':Hp} (s:Same H H') {vs:List V}{ts:List T} (h:RTs H vs ts):RTs H' vs ts:=⟨h.1,fun i v t a b=>(h.2 i v t a b).mono s⟩
def spIsVar:Sp:=fun vs H Q _=>∃ (v:V) (t:T),vs = [v]/\RT H v t/\t.Sm/\∀ H',Same H H'->Q (.bl (isVarB t)) H'
def spGoodV:Sp:=fun vs H Q _=>∃ (a:Addr) (us:List V) (ts:List T),vs = [.ref a]/\H a = some (.tup us)/\RTs H us ts/\Sms ts/\ts.length<=2/\∀ H',Same H H'->Q (.bl (goodVB ts)) H'
theorem sc_is_variable:FnScope ["thing"] ["thing"] (defScope s_is_variable):=⟨rfl,rfl,rfl,by decide +kernel,rfl,by decide +kernel,by decide +kernel⟩
theorem ok_is_variable (F:Fun K "is_variable" "is_variable" s_is_variable f fd) (m_all:mg "all" = none) (m_isi:mg "isinstance" = none) (m_len:mg "len" = none) (m_str:mg "str" = none) (m_MOST_LETTERS:∃ t,mg "MOST_LETTERS" = some (.int 8 t)) (m_LETTERS:∃ t,mg "LETTERS" = some (.str abcL t)):FnOk P w K mg base CX0 (k + 1) f fd ["thing"] (spIsVar):=by
 refine F.okQ sc_is_variable (fun vs H Q E h=>?_) (fun cdv A outer s H vs Q E hr h=>?_)
 ·obtain ⟨v,t,rfl,_⟩:=h
  rfl
 obtain ⟨v,t,rfl,rt,sm,q⟩:=h
 refine ⟨_,(pss_cons (ps_if (PW.pt (pw_or (pt_not (pt_val (pe_callB call_isi rfl m_isi boot_isi (pa_cons (pv 0) (pa_cons (pe_ty rfl m_str boot_strT) pa_nil))))) (pw_or1 (pt_not (pt_chain op_le op_le pe_int (pe_callB call_len rfl m_len PySem.boot_len (pa_cons (pv 0) pa_nil)) (pe_globI rfl m_MOST_LETTERS)))))) (pss_one (ps_ret pe_bl)) pss_nil)
  (pss_one (ps_ret (pe_callB (call_all_bools rfl) rfl m_all boot_allB (pa_cons (pe_lcomp [] [] rfl rfl (by decide +kernel) rfl (by decide +kernel) rfl (by decide +kernel) trivial rfl trivial (pi_str (pv 0)) (fun C s H fp=>⟨pifs_nil,(pe_cmpR op_in_str (pv 0) (pe_globS rfl m_LETTERS) (by rfl))⟩)) pa_nil))))),?_⟩
 cases rt with
 | non=>exact ⟨_,rfl,_,_,_,_,rfl,.non,isi_ns,_,rfl,iteT (q _ (Same.refl _))⟩
 | bl b=>exact ⟨_,rfl,_,_,_,_,rfl,.bl b,isi_bs,_,rfl,iteT (q _ (Same.refl _))⟩
 | num i=>exact ⟨_,rfl,_,_,_,_,rfl,.int i,isi_is,_,rfl,iteT (q _ (Same.refl _))⟩
 | tup e _ _=>exact ⟨_,rfl,_,_,_,_,rfl,.tup e,isi_ts,_,rfl,iteT (q _ (Same.refl _))⟩
 | lst e=>exact ⟨_,rfl,_,_,_,_,rfl,.lst e,isi_ls,_,rfl,iteT (q _ (Same.refl _))⟩
 | dic e=>exact ⟨_,rfl,_,_,_,_,rfl,.dK e,isi_ds,_,rfl,iteT (q _ (Same.refl _))⟩
 | txt z=>
 have hsm:z.length<=100000:=sm
 refine ⟨_,rfl,_,_,_,_,rfl,.str z,isi_ss,_,rfl,iteF ?_⟩
 refine ⟨_,rfl,_,_,rfl,⟨Nat.le_trans hsm (by decide),rfl⟩,_,_,rfl,rfl,_,rfl,?_⟩
 by_cases h1:1<=z.length
 rotate_left
 ·rw [decide_eq_false (show ¬ (1:Int)<=(z.length:Int) by omega)]
  have hq:isVarB (.txt z) = false:=by show (decide (1<=z.length) && _) = false; rw [decide_eq_false h1]; rfl
  rw [hq] at q
  exact iteF ⟨_,rfl,iteT (q _ (Same.refl _))⟩
 rw [decide_eq_true (show (1:Int)<=(z.length:Int) by omega)]
 refine iteT ⟨_,_,rfl,rfl,_,rfl,?_⟩
 by_cases h2:z.length<=8
 rotate_left
 ·rw [decide_eq_false (show ¬ (z.length:Int)<=8 by omega)]
  have hq:isVarB (.txt z) = false:=by show (_ && (decide (z.length<=8) && _)) = false; rw [decide_eq_false h2]; simp
  rw [hq] at q
  exact iteT (q _ (Same.refl _))
 rw [decide_eq_true (show (z.length:Int)<=8 by omega)]
 refine iteF ?_
 have hq:isVarB (.txt z) = z.cps.toList.all letB:=by show (decide (1<=z.length) && (decide (z.length<=8) && _)) = _; rw [decide_eq_true h1,decide_eq_true h2]; rfl
 rw [hq] at q
 have hsz:z.cps.size = z.length:=rfl
 dsimp only [tNext,tRet,tOp,tC,tCB,tCons,tNil]
 refine rd_mapS (z.cps.toList.map fun c=>V.bl (letB c)) (by rfl) (by rw [List.length_map]; simp) (by rw [hsz]; exact small (by omega)) (fun i c y H1 R hc hy s1 hR=>?_) (fun H1 D s1 hD=>?_)
 ·have hc':z.cps.toList[i]? = some c:=by simpa using hc
  rw [List.getElem?_map,hc'] at hy
  cases hy
  refine ⟨_,rfl,_,_,rfl,rfl,?_⟩
  rw [show (!(Builtin.Str.occurrences abcL ⟨#[c]⟩ 0 abcL.length 1).isEmpty) = letB c from StrLaws.found_one abcL c]
  exact hR _ (Same.refl _)
 ·refine ⟨D,z.cps.toList.map letB,rfl,SqL.of ?_,?_⟩
  ·rw [upd_same,List.map_map]; rfl
  ·rw [show ((z.cps.toList.map letB).all id) = z.cps.toList.all letB by rw [List.all_map]; rfl]
   exact q _ (s1.trans (Same.new hD))
theorem sc_are_good_variables:FnScope ["names"] ["names"] (defScope s_are_good_variables):=⟨rfl,rfl,rfl,by decide +kernel,rfl,by decide +kernel,by decide +kernel⟩
theorem ok_are_good_variables (F:Fun K "are_good_variables" "are_good_variables" s_are_good_variables f fd) (G_is_variable:Have P w K mg base "is_variable" k ["thing"] (spIsVar)) (m_all:mg "all" = none) (m_len:mg "len" = none):FnOk P w K mg base CX0 (k + 1) f fd ["names"] (spGoodV):=by
 refine F.okQ sc_are_good_variables (fun vs H Q E h=>?_) (fun cdv A outer s H vs Q E hr h=>?_)
 ·obtain ⟨a,us,ts,rfl,_⟩:=h
  rfl
 obtain ⟨a,us,ts,rfl,ha,hrt,hsm,hl,q⟩:=h
 refine ⟨_,(pss_cons (ps_if (pt_not (pt_val (pe_callB (call_all_bools rfl) rfl m_all boot_allB (pa_cons (pe_lcomp [] [] rfl rfl (by decide +kernel) rfl (by decide +kernel) rfl (by decide +kernel) trivial rfl trivial (pi_tup (pv 0)) (fun C s H fp=>⟨pifs_nil,(pe_fn G_is_variable hr rfl (pa_cons (pv 0) pa_nil))⟩)) pa_nil)))) (pss_one (ps_ret pe_bl)) pss_nil)
  (pss_one (ps_ret (pe_or (pe_cmpR op_lt (pe_callB call_len rfl m_len PySem.boot_len (pa_cons (pv 0) pa_nil)) pe_int (nomark _)) (pe_one (pe_cmpR op_ne (pe_ix ix_tup (pv 0) pe_int (fun _ _=>rfl)) (pe_ix ix_tup (pv 0) pe_int (fun _ _=>rfl)) (nomark _))))))),?_⟩
 have hul:=hrt.1
 dsimp only [tNext,tRet,tOp,tC,tCB,tCons,tNil,tB,tNot,tIfS,tSeq]
 refine rd_mapT (K:=K) (ts.map fun t=>V.bl (isVarB t)) (by rfl) (SqT.of ha) (by rw [List.length_map]; exact hul.symm) (Nat.le_trans (show us.length<=2 by omega) (by decide)) (fun i v y H1 R hv' hy s1 hR=>?_) (fun H1 D s1 hD=>?_)
 ·rw [List.getElem?_map] at hy
  obtain ⟨t,ht,rfl⟩:=Option.map_eq_some_iff.mp hy
  exact ⟨_,rfl,v,t,rfl,(hrt.2 i v t hv' ht).mono s1,Sms_mem hsm t (List.mem_of_getElem? ht),fun H2 s2=>hR H2 s2⟩
 ·have s2:=s1.trans (Same.new (o:=.lst (ts.map fun t=>V.bl (isVarB t))) hD)
  refine ⟨D,ts.map isVarB,rfl,SqL.of (by rw [upd_same,List.map_map]; rfl),_,rfl,?_⟩
  have ha2:=s2 _ _ ha
  cases hall:(ts.map isVarB).all id with
  | false=>
   have hq:goodVB ts = false:=by
    match ts,hl with
    | [],_=>cases hall
    | [t],_=>simpa [goodVB] using hall
    | [t,t2],_=>
     have hall':(isVarB t && (isVarB t2 && true)) = false:=hall
     rw [Bool.and_true] at hall'
     cases t with
     | txt x=>
      cases t2 with
      | txt y=>
       show (isVarB (.txt x) && (isVarB (.txt y) && _)) = false
       rw [← Bool.and_assoc,hall']; rfl
      | _=>rfl
     | _=>cases t2 <;> rfl
   rw [hq] at q
   exact iteT (q _ s2)
  | true=>
   refine iteF ⟨_,rfl,_,_,rfl,.inr ⟨_,SqT.of ha2,rfl⟩,_,_,rfl,rfl,_,rfl,?_⟩
   match ts,hl,hul,hrt,hall,q with
   | [],_,hul,_,_,q=>
    have:us.length = 0:=hul
    rw [this]
    exact iteT (q _ s2)
   | [t],_,hul,_,hall,q=>
    have:us.length = 1:=hul
    rw [this]
    have hv:isVarB t = true:=by simpa using hall
    rw [show goodVB [t] = isVarB t by cases t <;> rfl,hv] at q
    exact iteT (q _ s2)
   | [t,t2],_,hul,hrt,hall,q=>
    have hlu:us.length = 2:=hul
    obtain ⟨v0,v1,rfl⟩:∃ a b,us = [a,b]:=match us,hlu with | [a,b],_=>⟨a,b,rfl⟩
    have hv:isVarB t = true/\isVarB t2 = true:=by simpa using hall
    obtain ⟨x,rfl,hx⟩:=isVarB_inv hv.1
    obtain ⟨y,rfl,hy⟩:=isVarB_inv hv.2
    have r0:=hrt.2 0 v0 _ rfl rfl
    have r1:=hrt.2 1 v1 _ rfl rfl
    cases r0
    cases r1
    rw [show goodVB [.txt x,.txt y] = decide (x≠y) by show (isVarB (.txt x) && (isVarB (.txt y) && decide (x≠y))) = _; rw [hv.1,hv.2]; rfl] at q
    refine iteF ⟨_,rfl,a,_,0,_,rfl,rfl,SqT.of ha2,atI_nat (j:=0) rfl,_,rfl,a,_,1,_,rfl,rfl,SqT.of ha2,atI_nat (j:=1) rfl,rfl,?_⟩
    rw [show (!decide (V.str x = V.str y)) = decide (x≠y) by rw [Bool.eq_iff_iff]; simp]
    exact q _ s2
theorem op_eqT0 {X:Cx} (hu:X.A.units + 64 < cLine):OpR X (compareOp .Eq) (fun x y H Q=>∃ (a b:Addr) (vs:List V),x = .ref a/\y = .ref b/\SqT X.K H a vs/\SqT X.K H b []/\Q (.bl vs.isEmpty) H):=by
 intro zp s σ H x y v u Q I rx ry h
 obtain ⟨a,b,vs,rfl,rfl,e,e2,q⟩:=h
 have hu0:X.A.units < cLine:=by omega
 cases rx
 cases ry
 obtain ⟨its,rv,p,_⟩:=I.tuple e
 obtain ⟨its2,rv2,p2,_⟩:=I.tuple e2
 have h2:its2 = []:=List.length_eq_zero_iff.mp rv2.length.symm
 subst h2
 have hb:((List.range (min its.toArray.size (#[]:Array Value).size)).all (fun _=>true) && its.toArray.size == (#[]:Array Value).size) = vs.isEmpty:=by
  have:=rv.length
  cases its with
  | nil=>rw [List.length_eq_zero_iff.mp (show vs.length = 0 from this)]; rfl
  | cons x r=>cases vs with
   | nil=>cases this
   | cons y l=>rfl
 have fin:EP X zp σ Q (.bool vs.isEmpty) s:=⟨.bl _,H,I,rfl,q⟩
 rw [← hb] at fin
 exact SeqAt.RcAt.tuples (e:=fun _=>true) p p2 hu0 (fun j h1 h2=>absurd h2 (Nat.not_lt_zero _)) _ _ _ _ fin
def woAt (z:Str):Option Wo:=woAll.find? fun d=>decide (woS d = z)
theorem woAt_woS (d:Wo):woAt (woS d) = some d:=by cases d <;> rfl
theorem woS_inj {d d':Wo} (h:woS d = woS d'):d = d':=by
 have:=congrArg woAt h
 rw [woAt_woS,woAt_woS] at this
 exact Option.some.inj this
theorem kvsP_get (d:Wo) (h1:wLit d = false) (h2:wVar d = false) (h3:wList d = false):valV kvsP (.inr (woS d)) = some (.int (pcnt d)):=by
 cases d
 case lit=>simp [wLit] at h1
 case var=>simp [wVar] at h2
 case list=>simp [wList] at h3
 all_goals rfl
theorem kvsP_keys:∀ kv∈kvsP,∃ d,kv.1 = Sum.inr (woS d):=by
 have:kvsP.map (·.1) = [Wo.letw,.ifw,.add,.sub,.mul,.div,.same,.less,.join,.item,.count,.figs,.each,.over,.look,.elsew,.cry].map fun d=>(Sum.inr (woS d):Key):=rfl
 intro kv hkv
 have h:=List.mem_map_of_mem (f:=(·.1)) hkv
 rw [this] at h
 obtain ⟨d,_,hd⟩:=List.mem_map.mp h
 exact ⟨d,hd.symm⟩
theorem kvsP_none {z:Str} (h:∀ d,z≠woS d):valV kvsP (.inr z) = none:=by
 unfold valV
 rw [List.find?_eq_none.mpr fun kv hkv=>?_]
 ·rfl
 ·obtain ⟨d,hd⟩:=kvsP_keys kv hkv
  rw [hd]
  simp only [decide_eq_true_eq]
  exact fun e=>h d (Sum.inr.inj e).symm
inductive F1:T->List T->Prop where
 | lit {x:T}:isWorthB x = true->F1 (.tup [.txt "lit",x]) []
 | var {s:Str}:Vr s->F1 (.tup [.txt "var",.txt s]) []
 | op {d:Wo}{bs:List Str}{ts:List T}:wLit d = false->wVar d = false->bs.length = bcnt d->(∀ z∈bs,Vr z)->bs.Nodup->Cnt d ts.length->F1 (.tup (.txt (woS d) :: (bs.map T.txt ++ ts))) ts
theorem F1.tup {t:T}{ps:List T} (h:F1 t ps):∃ z ts,t = .tup (.txt z :: ts):=by cases h <;> exact ⟨_,_,rfl⟩
theorem F1.inv {z:Str}{ts ps:List T} (h:F1 (.tup (.txt z :: ts)) ps):∃ d,z = woS d/\((d = .lit/\ps = []/\∃ x,ts = [x]/\isWorthB x = true)\/(d = .var/\ps = []/\∃ s,ts = [.txt s]/\Vr s)\/(wLit d = false/\wVar d = false/\∃ bs:List Str,ts = bs.map T.txt ++ ps/\bs.length = bcnt d/\(∀ z∈bs,Vr z)/\bs.Nodup/\Cnt d ps.length)):=by
 generalize he:T.tup (.txt z :: ts) = t at h
 cases h with
 | lit hx=>
  injection he with he
  injection he with h1 h2
  injection h1 with h1
  exact ⟨.lit,h1,.inl ⟨rfl,rfl,_,h2,hx⟩⟩
 | var hs=>
  injection he with he
  injection he with h1 h2
  injection h1 with h1
  exact ⟨.var,h1,.inr (.inl ⟨rfl,rfl,_,h2,hs⟩)⟩
 | op a b c d e f=>
  injection he with he
  injection he with h1 h2
  injection h1 with h1
  exact ⟨_,h1,.inr (.inr ⟨a,b,_,h2,c,d,e,f⟩)⟩
def spHasForm:Sp:=fun vs H Q _=>∃ (v:V) (t:T),vs = [v]/\RT H v t/\t.Sm/\∀ (b:Bool) (H':Hp),Same H H'->(b = true->∃ ts,F1 t ts)->(b = false->∀ ts,¬ F1 t ts)->Q (.bl b) H'
def isTxtT:T->Bool
 | .txt _=>true
 | _=>false
theorem RT.ty {K:PySem.W.Frag}{H:Hp}{v:V}{t:T} (h:RT H v t):∃ A,TyOf K H v (.type A)/\isi A "str" = some (isTxtT t):=by
 cases h with
 | non=>exact ⟨_,.non,isi_ns⟩
 | bl b=>exact ⟨_,.bl b,isi_bs⟩
 | num i=>exact ⟨_,.int i,isi_is⟩
 | txt z=>exact ⟨_,.str z,isi_ss⟩
 | tup e _ _=>exact ⟨_,.tup e,isi_ts⟩
 | lst e=>exact ⟨_,.lst e,isi_ls⟩
 | dic e=>exact ⟨_,.dK e,isi_ds⟩
theorem goodVB_iff {ts:List T} (hl:ts.length<=2):goodVB ts = true ↔ ∃ bs:List Str,ts = bs.map T.txt/\(∀ z∈bs,Vr z)/\bs.Nodup:=by
 match ts,hl with
 | [],_=>exact ⟨fun _=>⟨[],rfl,(fun z h=>nomatch h),List.nodup_nil⟩,fun _=>rfl⟩
 | [t],_=>
  rw [show goodVB [t] = isVarB t by cases t <;> rfl]
  constructor
  ·intro h
   obtain ⟨z,rfl,hz⟩:=isVarB_inv h
   exact ⟨[z],rfl,fun y hy=>by rw [List.mem_singleton.mp hy]; exact hz,by simp⟩
  ·rintro ⟨bs,e,hv,_⟩
   match bs,e with
   | [z],e=>cases e; exact isVarB_txt.mpr (hv z (by simp))
 | [t,t2],_=>
  constructor
  ·intro h
   cases t with
   | txt x=>
    cases t2 with
    | txt y=>
     have h:(isVarB (.txt x) && (isVarB (.txt y) && decide (x≠y))) = true:=h
     rw [Bool.and_eq_true,Bool.and_eq_true,decide_eq_true_iff] at h
     refine ⟨[x,y],rfl,fun z hz=>?_,by simp [h.2.2]⟩
     simp only [List.mem_cons,List.not_mem_nil,or_false] at hz
     rcases hz with rfl | rfl
     ·exact isVarB_txt.mp h.1
     ·exact isVarB_txt.mp h.2.1
    | _=>cases h
   | _=>cases t2 <;> cases h
  ·rintro ⟨bs,e,hv,hn⟩
   match bs,e with
   | [x,y],e=>
    cases e
    show (isVarB (.txt x) && (isVarB (.txt y) && decide (x≠y))) = true
    rw [isVarB_txt.mpr (hv x (by simp)),isVarB_txt.mpr (hv y (by simp)),decide_eq_true (by simpa using hn)]
    rfl
theorem sc_has_form:FnScope ["thing","word"] ["thing"] (defScope s_has_form):=⟨rfl,rfl,rfl,by decide +kernel,rfl,by decide +kernel,by decide +kernel⟩
theorem ok_has_form (F:Fun K "has_form" "has_form" s_has_form f fd) (G_are_good_variables:Have P w K mg base "are_good_variables" k ["names"] (spGoodV)) (G_variables_of:Have P w K mg base "variables_of" k ["expression"] (spVarsOf)) (G_binding_count:Have P w K mg base "binding_count" k ["word"] (spBCount)) (G_is_variable:Have P w K mg base "is_variable" k ["thing"] (spIsVar)) (G_is_worth:Have P w K mg base "is_worth" k ["thing"] (spIsWorth)) (m_isi:mg "isinstance" = none) (m_len:mg "len" = none) (m_str:mg "str" = none) (m_tuple:mg "tuple" = none) (m_MOST_LISTED:∃ t,mg "MOST_LISTED" = some (.int 8 t)) {g_PARTS:Addr} (m_PARTS:mg "PARTS" = some (.ref g_PARTS)) (d_PARTS:MD P w K g_PARTS kvsP):FnOk P w K mg base CX0 (k + 1) f fd ["thing"] (spHasForm):=by
 refine F.okQ sc_has_form (fun vs H Q E h=>?_) (fun cdv A outer s H vs Q E hr h=>?_)
 ·obtain ⟨v,t,rfl,_⟩:=h
  rfl
 obtain ⟨v,t,rfl,rt,sm,q⟩:=h
 refine ⟨_,(pss_cons (ps_if (PW.pt (pw_or (pt_not (pt_val (pe_callB call_isi rfl m_isi boot_isi (pa_cons (pv 0) (pa_cons (pe_ty rfl m_tuple boot_tupleT) pa_nil))))) (pw_or (pt_cmpR (op_eqT0 hr.units) (pv 0) (pe_tup pa_nil) (nomark _)) (pw_or1 (pt_not (pt_val (pe_callB call_isi rfl m_isi boot_isi (pa_cons (pe_ix ix_tup (pv 0) pe_int (fun _ _=>rfl)) (pa_cons (pe_ty rfl m_str boot_strT) pa_nil))))))))) (pss_one (ps_ret pe_bl)) pss_nil)
  (pss_cons (ps_set (i:=1) sc_has_form.nd rfl (Or.inl rfl) (pe_ix ix_tup (pv 0) pe_int (fun _ _=>rfl)))
  (pss_cons (ps_if (pt_cmpR op_eq (pv 1) pe_str (nomark _)) (pss_one (ps_ret (pe_and (pe_cmpR op_eq (pe_callB call_len rfl m_len PySem.boot_len (pa_cons (pv 0) pa_nil)) pe_int (nomark _)) (pe_one (pe_fn G_is_worth hr rfl (pa_cons (pe_ix ix_tup (pv 0) pe_int (fun _ _=>rfl)) pa_nil)))))) pss_nil)
  (pss_cons (ps_if (pt_cmpR op_eq (pv 1) pe_str (nomark _)) (pss_one (ps_ret (pe_and (pe_cmpR op_eq (pe_callB call_len rfl m_len PySem.boot_len (pa_cons (pv 0) pa_nil)) pe_int (nomark _)) (pe_one (pe_fn G_is_variable hr rfl (pa_cons (pe_ix ix_tup (pv 0) pe_int (fun _ _=>rfl)) pa_nil)))))) pss_nil)
  (pss_cons (ps_if (pt_cmpR op_eq (pv 1) pe_str (nomark _)) (pss_one (ps_ret (pe_cmpR op_le (pe_callB call_len rfl m_len PySem.boot_len (pa_cons (pv 0) pa_nil)) (pe_op op_add pe_int (pe_globI rfl m_MOST_LISTED)) (nomark _)))) pss_nil)
  (pss_cons (ps_if (PW.pt (pw_or (pt_cmpR op_notInM (pv 1) (pe_glob (v:=.ref g_PARTS) rfl m_PARTS rfl) (by rfl)) (pw_or1 (pt_cmpR op_ne (pe_callB call_len rfl m_len PySem.boot_len (pa_cons (pv 0) pa_nil)) (pe_op op_add (pe_op op_add pe_int (pe_fn G_binding_count hr rfl (pa_cons (pv 1) pa_nil))) (pe_ix ix_mod (pe_glob (v:=.ref g_PARTS) rfl m_PARTS rfl) (pv 1) (fun _ _=>rfl))) (nomark _))))) (pss_one (ps_ret pe_bl)) pss_nil)
  (pss_one (ps_ret (pe_fn G_are_good_variables hr rfl (pa_cons (pe_fn G_variables_of hr rfl (pa_cons (pv 0) pa_nil)) pa_nil)))))))))),?_⟩
 have no:(∀ ts,t≠.tup ts)->∀ H',Same H H'->Q (.bl false) H':=fun hn H' s=>q false H' s (fun z=>nomatch z) (fun _ ps hf=>by obtain ⟨z,ts,e⟩:=hf.tup; exact hn _ e)
 cases rt with
 | non=>exact ⟨_,rfl,_,_,_,_,rfl,.non,isi_nt,_,rfl,iteT (no (fun ts z=>nomatch z) _ (Same.refl _))⟩
 | bl b=>exact ⟨_,rfl,_,_,_,_,rfl,.bl b,isi_bt,_,rfl,iteT (no (fun ts z=>nomatch z) _ (Same.refl _))⟩
 | num i=>exact ⟨_,rfl,_,_,_,_,rfl,.int i,isi_it,_,rfl,iteT (no (fun ts z=>nomatch z) _ (Same.refl _))⟩
 | txt i=>exact ⟨_,rfl,_,_,_,_,rfl,.str i,isi_st,_,rfl,iteT (no (fun ts z=>nomatch z) _ (Same.refl _))⟩
 | lst e=>exact ⟨_,rfl,_,_,_,_,rfl,.lst e,isi_lt,_,rfl,iteT (no (fun ts z=>nomatch z) _ (Same.refl _))⟩
 | dic e=>exact ⟨_,rfl,_,_,_,_,rfl,.dK e,isi_dt,_,rfl,iteT (no (fun ts z=>nomatch z) _ (Same.refl _))⟩
 | @tup a us ts ea hul hat=>
 clear no
 refine ⟨_,rfl,_,_,_,_,rfl,.tup ea,isi_tt,_,rfl,iteF ?_⟩
 refine ⟨_,rfl,zl0,fun e he=>?_⟩
 have s1:=Same.new (o:=.tup []) he
 have ea1:=s1 _ _ ea
 have ee:upd H e (.tup []) e = some (.tup []):=upd_same
 generalize upd H e (.tup []) = H1 at s1 ea1 ee
 refine ⟨a,e,us,rfl,rfl,SqT.of ea1,SqT.of ee,_,rfl,?_⟩
 have sm:ts.length<=100000/\Sms ts:=sm
 cases ts with
 | nil=>
  have hu0:us = []:=List.length_eq_zero_iff.mp hul
  subst hu0
  exact iteT (q false _ s1 (fun z=>nomatch z) (fun _ ps hf=>by obtain ⟨z,ts,e⟩:=hf.tup; injection e with e; cases e))
 | cons t0 ts=>
 cases us with
 | nil=>cases hul
 | cons v0 us=>
 have hul':us.length = ts.length:=by simpa using hul
 have r0:RT H v0 t0:=hat 0 v0 t0 rfl rfl
 have hrt:RTs H us ts:=⟨hul',fun i v t h1 h2=>hat (i + 1) v t (by simpa using h1) (by simpa using h2)⟩
 clear hat
 refine iteF ?_
 obtain ⟨A0,ty0,is0⟩:=(r0.mono s1).ty (K:=K)
 refine ⟨_,rfl,a,_,0,_,rfl,rfl,SqT.of ea1,atI_nat (j:=0) rfl,_,_,_,_,rfl,ty0,is0,_,rfl,?_⟩
 cases hx:isTxtT t0 with
 | false=>
  exact iteT (q false _ s1 (fun z=>nomatch z) (fun _ ps hf=>by obtain ⟨z,ts,e⟩:=hf.tup; injection e with e; injection e with e _; rw [e] at hx; cases hx))
 | true=>
 obtain ⟨z,rfl⟩:∃ z,t0 = .txt z:=by
  cases t0 with
  | txt z=>exact ⟨z,rfl⟩
  | _=>cases hx
 cases r0
 refine iteF ?_
 refine ⟨_,rfl,a,_,0,_,rfl,rfl,SqT.of ea1,atI_nat (j:=0) rfl,?_⟩
 dsimp only [gName]
 have q':∀ (b:Bool) (H':Hp),Same H1 H'->(b = true->∃ ps,F1 (.tup (.txt z :: ts)) ps)->(b = false->∀ ps,¬ F1 (.tup (.txt z :: ts)) ps)->Q (.bl b) H':=fun b H' s h1 h2=>q b H' (s1.trans s) h1 h2
 have hrt1:=hrt.mono s1
 by_cases hz:∃ d,z = woS d
 rotate_left
 ·have hz':∀ d,z≠woS d:=fun d e=>hz ⟨d,e⟩
  refine ⟨_,rfl,rfl,_,rfl,?_⟩
  rw [show decide (V.str z = V.str (Str.ofString "lit")) = false from decide_eq_false fun e=>hz' .lit (V.str.inj e)]
  refine iteF ⟨_,rfl,rfl,_,rfl,?_⟩
  rw [show decide (V.str z = V.str (Str.ofString "var")) = false from decide_eq_false fun e=>hz' .var (V.str.inj e)]
  refine iteF ⟨_,rfl,rfl,_,rfl,?_⟩
  rw [show decide (V.str z = V.str (Str.ofString "list")) = false from decide_eq_false fun e=>hz' .list (V.str.inj e)]
  refine iteF ⟨_,rfl,g_PARTS,kvsP,.inr z,rfl,rfl,d_PARTS,_,rfl,?_⟩
  rw [kvsP_none hz']
  exact iteT (q' false _ (Same.refl _) (fun z=>nomatch z) (fun _ ps hf=>by obtain ⟨d,e,_⟩:=hf.inv; exact hz' d e))
 obtain ⟨d,rfl⟩:=hz
 refine ⟨_,rfl,rfl,_,rfl,?_⟩
 rw [show Str.ofString "lit" = "lit" from rfl,eqLit]
 have smts:Sms ts:=sm.2.2
 have len2:us.length≠1->decide (V.int (((V.str (woS d) :: us).length:Nat):Int) = V.int 2) = false:=fun h=>decide_eq_false fun e=>by
  injection e with e
  rw [List.length_cons] at e
  omega
 have no:(∀ ps,¬ F1 (.tup (.txt (woS d) :: ts)) ps)->∀ H',Same H1 H'->Q (.bl false) H':=fun h H' s=>q' false H' s (fun z=>nomatch z) (fun _=>h)
 cases hlit:wLit d with
 | true=>
  obtain rfl:d = .lit:=by cases d <;> first | rfl | cases hlit
  refine iteT ⟨_,rfl,_,_,rfl,.inr ⟨_,SqT.of ea1,rfl⟩,rfl,_,rfl,?_⟩
  have inv:∀ ps,F1 (.tup (.txt (woS .lit) :: ts)) ps->∃ x,ts = [x]/\isWorthB x = true:=fun ps hf=>by
   obtain ⟨d,e,h⟩:=hf.inv
   obtain rfl:=woS_inj e
   rcases h with ⟨_,_,h⟩ | ⟨h,_⟩ | ⟨h,_⟩
   ·exact h
   ·cases h
   ·cases h
  by_cases hl:us.length = 1
  ·obtain ⟨v1,rfl⟩:∃ a,us = [a]:=match us,hl with | [a],_=>⟨a,rfl⟩
   obtain ⟨t1,rfl⟩:∃ a,ts = [a]:=match ts,hul' with | [a],_=>⟨a,rfl⟩
   refine iteT ⟨_,rfl,a,_,1,_,rfl,rfl,SqT.of ea1,atI_nat (j:=1) rfl,v1,t1,rfl,hrt1.2 0 _ _ rfl rfl,smts.1,fun H2 s2=>?_⟩
   refine q' _ H2 s2 (fun h=>⟨[],.lit h⟩) (fun h ps hf=>?_)
   obtain ⟨x,e,hx⟩:=inv ps hf
   cases e
   rw [h] at hx
   cases hx
  ·rw [len2 hl]
   refine iteF (no (fun ps hf=>?_) _ (Same.refl _))
   obtain ⟨x,rfl,_⟩:=inv ps hf
   exact hl hul'
 | false=>
 refine iteF ⟨_,rfl,rfl,_,rfl,?_⟩
 rw [show Str.ofString "var" = "var" from rfl,eqVar]
 cases hvar:wVar d with
 | true=>
  obtain rfl:d = .var:=by cases d <;> first | rfl | cases hvar
  refine iteT ⟨_,rfl,_,_,rfl,.inr ⟨_,SqT.of ea1,rfl⟩,rfl,_,rfl,?_⟩
  have inv:∀ ps,F1 (.tup (.txt (woS .var) :: ts)) ps->∃ s,ts = [.txt s]/\Vr s:=fun ps hf=>by
   obtain ⟨d,e,h⟩:=hf.inv
   obtain rfl:=woS_inj e
   rcases h with ⟨h,_⟩ | ⟨_,_,h⟩ | ⟨_,h,_⟩
   ·cases h
   ·exact h
   ·cases h
  by_cases hl:us.length = 1
  ·obtain ⟨v1,rfl⟩:∃ a,us = [a]:=match us,hl with | [a],_=>⟨a,rfl⟩
   obtain ⟨t1,rfl⟩:∃ a,ts = [a]:=match ts,hul' with | [a],_=>⟨a,rfl⟩
   refine iteT ⟨_,rfl,a,_,1,_,rfl,rfl,SqT.of ea1,atI_nat (j:=1) rfl,v1,t1,rfl,hrt1.2 0 _ _ rfl rfl,smts.1,fun H2 s2=>?_⟩
   refine q' _ H2 s2 (fun h=>?_) (fun h ps hf=>?_)
   ·obtain ⟨z,rfl,hz⟩:=isVarB_inv h
    exact ⟨[],.var hz⟩
   ·obtain ⟨z,e,hz⟩:=inv ps hf
    cases e
    rw [isVarB_txt.mpr hz] at h
    cases h
  ·rw [len2 hl]
   refine iteF (no (fun ps hf=>?_) _ (Same.refl _))
   obtain ⟨x,rfl,_⟩:=inv ps hf
   exact hl hul'
 | false=>
 have inv:∀ ps,F1 (.tup (.txt (woS d) :: ts)) ps->∃ bs:List Str,ts = bs.map T.txt ++ ps/\bs.length = bcnt d/\(∀ z∈bs,Vr z)/\bs.Nodup/\Cnt d ps.length:=fun ps hf=>by
  obtain ⟨d',e,h⟩:=hf.inv
  obtain rfl:=woS_inj e
  rcases h with ⟨h,_⟩ | ⟨h,_⟩ | ⟨_,_,h⟩
  ·rw [h] at hlit; cases hlit
  ·rw [h] at hvar; cases hvar
  ·exact h
 refine iteF ⟨_,rfl,rfl,_,rfl,?_⟩
 rw [show Str.ofString "list" = "list" from rfl,eqList]
 cases hli:wList d with
 | true=>
  have hb0:bcnt d = 0:=by cases d <;> first | rfl | (simp [wList] at hli; done)
  refine iteT ⟨_,rfl,_,_,rfl,.inr ⟨_,SqT.of ea1,rfl⟩,_,_,rfl,rfl,_,_,rfl,rfl,?_⟩
  show Q (V.bl (decide ((((V.str (woS d) :: us).length:Nat):Int)<=1 + 8))) _
  refine q' _ _ (Same.refl _) (fun h=>⟨ts,?_⟩) (fun h ps hf=>?_)
  ·have h:=of_decide_eq_true h
   rw [List.length_cons] at h
   exact F1.op (bs:=[]) hlit hvar hb0.symm (fun z h=>nomatch h) List.nodup_nil ⟨fun _=>by omega,fun z=>by rw [hli] at z; cases z⟩
  ·obtain ⟨bs,rfl,h1,_,_,h5⟩:=inv ps hf
   have h:=of_decide_eq_false h
   rw [List.length_cons] at h
   have h8:=h5.1 hli
   rw [List.length_append,List.length_map] at hul'
   omega
 | false=>
 refine iteF ⟨_,rfl,g_PARTS,kvsP,.inr (woS d),rfl,rfl,d_PARTS,_,rfl,?_⟩
 rw [kvsP_get d hlit hvar hli]
 refine iteF ⟨_,rfl,_,_,rfl,.inr ⟨_,SqT.of ea1,rfl⟩,?_⟩
 refine ⟨_,rfl,d,rfl,_,_,rfl,rfl,_,rfl,g_PARTS,kvsP,.inr (woS d),_,rfl,rfl,d_PARTS,kvsP_get d hlit hvar hli,_,_,rfl,rfl,rfl,_,rfl,?_⟩
 show if (!decide (V.int (((V.str (woS d) :: us).length:Nat):Int) = V.int (1 + (bcnt d:Int) + (pcnt d:Int)))) = true then _ else _
 by_cases hl:us.length = bcnt d + pcnt d
 ·have en:(!decide (V.int (((V.str (woS d) :: us).length:Nat):Int) = V.int (1 + (bcnt d:Int) + (pcnt d:Int)))) = false:=by rw [decide_eq_true (congrArg V.int (by rw [List.length_cons,hl]; omega))]; rfl
  rw [en]
  have hb2:=bcnt_le d
  have esp:us = us.take (bcnt d) ++ us.drop (bcnt d):=(List.take_append_drop _ _).symm
  have ht2:(ts.take (bcnt d)).length<=2:=by rw [List.length_take]; omega
  have ea2:H1 a = some (.tup (V.str (woS d) :: (us.take (bcnt d) ++ us.drop (bcnt d)))):=by rw [← esp]; exact ea1
  refine iteF ⟨_,rfl,a,d,us.take (bcnt d),us.drop (bcnt d),rfl,ea2,by rw [List.length_take]; omega,fun p H2 s2 ep=>⟨p,us.take (bcnt d),ts.take (bcnt d),rfl,ep,⟨by rw [List.length_take,List.length_take]; omega,fun i v t h1 h2=>?_⟩,?_,ht2,fun H3 s3=>q' _ H3 (s2.trans s3) (fun h=>?_) (fun h ps hf=>?_)⟩⟩
  ·rw [List.getElem?_take] at h1 h2
   split at h1
   ·rename_i hi
    rw [if_pos hi] at h2
    exact (hrt1.2 i v t h1 h2).mono s2
   ·cases h1
  ·have:∀ (n:Nat) (l:List T),Sms l->Sms (l.take n):=fun n=>by
    induction n with
    | zero=>intro l _; rw [List.take_zero]; trivial
    | succ n ih=>
     intro l h
     cases l with
     | nil=>trivial
     | cons x r=>exact ⟨h.1,ih r h.2⟩
   exact this _ _ smts
  ·obtain ⟨bs,e,hv,hn⟩:=(goodVB_iff ht2).mp h
   have hbl:bs.length = bcnt d:=by
    have:=congrArg List.length e
    rw [List.length_take,List.length_map] at this
    omega
   refine ⟨ts.drop (bcnt d),?_⟩
   have:=F1.op (d:=d) (bs:=bs) (ts:=ts.drop (bcnt d)) hlit hvar hbl hv hn ⟨fun z=>(by rw [hli] at z; cases z),fun _=>(by rw [List.length_drop]; omega)⟩
   rw [← e,List.take_append_drop] at this
   exact this
  ·obtain ⟨bs,rfl,h1,h2,h3,_⟩:=inv ps hf
   rw [List.take_left' (by rw [List.length_map]; exact h1)] at h
   rw [(goodVB_iff (by rw [List.length_map]; omega)).mpr ⟨bs,rfl,h2,h3⟩] at h
   cases h
 ·have en:(!decide (V.int (((V.str (woS d) :: us).length:Nat):Int) = V.int (1 + (bcnt d:Int) + (pcnt d:Int)))) = true:=by
   rw [decide_eq_false fun e=>hl (by injection e with e; rw [List.length_cons] at e; omega)]; rfl
  rw [en]
  refine iteT (no (fun ps hf=>?_) _ (Same.refl _))
  obtain ⟨bs,rfl,h1,_,_,h5⟩:=inv ps hf
  have h6:=h5.2 hli
  rw [List.length_append,List.length_map] at hul'
  omega
theorem signs_of {x:Str} (h:okSigns x = true):Signs x:=fun c hc=>by
 have:=List.all_eq_true.mp h c hc
 unfold signB at this
 simp only [Bool.and_eq_true,decide_eq_true_eq] at this
 exact ⟨this.1,this.2.1,this.2.2.1,this.2.2.2⟩
mutual
theorem fits_w:∀ (t:T) (lv:Int),fitsB t lv = true->∃ x:W,t = x.toT/\x.Ok/\(x.depth:Int)<=max lv 0
 | .num i,lv,h=>⟨.num i,rfl,(of_decide_eq_true h:-(10 ^ 60) < i/\i < 10 ^ 60),by show ((0:Nat):Int)<=_; omega⟩
 | .txt z,lv,h=>by
  have h:(decide (z.length<=400) && okSigns z) = true:=h
  rw [Bool.and_eq_true,decide_eq_true_iff] at h
  exact ⟨.txt z,rfl,⟨h.1,signs_of h.2⟩,by show ((0:Nat):Int)<=_; omega⟩
 | .tup ts,lv,h=>by
  have h:((decide (ts.length<=60) && decide (0 < lv)) && fitsA ts (lv - 1)) = true:=h
  rw [Bool.and_eq_true,Bool.and_eq_true,decide_eq_true_iff,decide_eq_true_iff] at h
  obtain ⟨ws,rfl,ok,dp⟩:=fits_ws ts (lv - 1) h.2
  have hl:=h.1.1
  rw [toTs_len] at hl
  refine ⟨.lst ws,by simp only [W.toT],⟨hl,ok⟩,?_⟩
  have:=h.1.2
  show ((1 + depths ws:Nat):Int)<=_
  omega
 | .non,lv,h=>nomatch h
 | .bl _,lv,h=>nomatch h
 | .lst,lv,h=>nomatch h
 | .dic,lv,h=>nomatch h
theorem fits_ws:∀ (ts:List T) (lv:Int),fitsA ts lv = true->∃ ws:List W,ts = toTs ws/\Oks ws/\(depths ws:Int)<=max lv 0
 | [],lv,h=>⟨[],by rw [toTs],trivial,by show ((0:Nat):Int)<=_; omega⟩
 | t :: r,lv,h=>by
  have h:(fitsB t lv && fitsA r lv) = true:=h
  rw [Bool.and_eq_true] at h
  obtain ⟨x,rfl,ok,dp⟩:=fits_w t lv h.1
  obtain ⟨ws,rfl,oks,dps⟩:=fits_ws r lv h.2
  refine ⟨x :: ws,by rw [toTs],⟨ok,oks⟩,?_⟩
  rw [depths]
  omega
end
theorem worth_w {t:T} (h:isWorthB t = true):∃ x:W,t = x.toT/\x.Ok/\x.size<=1000/\x.depth<=12:=by
 have h:(fitsB t 12 && decide (t.size<=1000)) = true:=h
 rw [Bool.and_eq_true,decide_eq_true_iff] at h
 obtain ⟨x,rfl,ok,dp⟩:=fits_w t 12 h.1
 exact ⟨x,rfl,ok,by rw [← size_toT]; exact h.2,by omega⟩
mutual
theorem fits_ok:∀ x:W,x.Ok->fitsW x = true
 | .num i,h=>decide_eq_true ⟨h.1,h.2⟩
 | .txt z,h=>decide_eq_true h.1
 | .lst ws,h=>by
  have h1:ws.length<=60:=h.1
  have h2:Oks ws:=h.2
  simp only [fitsW,decide_eq_true h1,fitss_ok ws h2,Bool.and_self]
theorem fitss_ok:∀ ws:List W,Oks ws->fitsWs ws = true
 | [],_=>rfl
 | x :: r,h=>by simp only [fitsWs,fits_ok x h.1,fitss_ok r h.2,Bool.and_self]
end
theorem w_worth {x:W} (h:x.Ok) (hs:x.size<=1000) (hd:x.depth<=12):isWorthB x.toT = true:=by
 rw [isWorth_toT (th_of x h)]
 unfold goodW
 rw [fits_ok x h,decide_eq_true hs,decide_eq_true (show (x.depth:Int)<=12 by omega)]
 rfl
theorem RT.toRW {H:Hp}{v:V}{t:T} (h:RT H v t):∀ {x:W},t = x.toT->RW H v x:=by
 induction h with
 | non=>intro x e; cases x <;> simp only [W.toT] at e <;> cases e
 | bl b=>intro x e; cases x <;> simp only [W.toT] at e <;> cases e
 | lst _=>intro x e; cases x <;> simp only [W.toT] at e <;> cases e
 | dic _=>intro x e; cases x <;> simp only [W.toT] at e <;> cases e
 | num i=>
  intro x e
  cases x with
  | num j=>simp only [W.toT] at e; cases e; exact .num _
  | _=>simp only [W.toT] at e; cases e
 | txt i=>
  intro x e
  cases x with
  | txt j=>simp only [W.toT] at e; cases e; exact .txt _
  | _=>simp only [W.toT] at e; cases e
 | @tup a vs ts ea hl _ ih=>
  intro x e
  cases x with
  | lst ws=>
   simp only [W.toT] at e
   injection e with e
   subst e
   refine .lst ea (by rw [hl,toTs_len]) fun i v w hv hw=>?_
   exact ih i v w.toT hv (by rw [toTs_map,List.getElem?_map,hw]; rfl) rfl
  | num j=>simp only [W.toT] at e; cases e
  | txt j=>simp only [W.toT] at e; cases e
def Rl.toT (r:Rl):T:=r.toW.toT
theorem rlWs_map:∀ ps:List Rl,rlWs ps = ps.map Rl.toW
 | []=>by rw [rlWs]; rfl
 | p :: r=>by rw [rlWs,rlWs_map r]; rfl
theorem toT_lit (x:W):(Rl.lit x).toT = .tup [.txt "lit",x.toT]:=by unfold Rl.toT; rw [Rl.toW]; simp only [W.toT,toTs]
theorem toT_var (s:Str):(Rl.var s).toT = .tup [.txt "var",.txt s]:=by unfold Rl.toT; rw [Rl.toW]; simp only [W.toT,toTs]
theorem toT_op (d:Wo) (bs:List Str) (ps:List Rl):(Rl.op d bs ps).toT = .tup (.txt (woS d) :: (bs.map T.txt ++ ps.map Rl.toT)):=by
 unfold Rl.toT
 rw [Rl.toW]
 simp only [W.toT,toTs,toTs_map,List.map_append,List.map_map,rlWs_map]
 congr 3
theorem gd_F1 {r:Rl} (h:r.Gd):F1 r.toT ((kidsOf r).map Rl.toT):=by
 cases r with
 | lit x=>rw [Rl.Gd] at h; rw [toT_lit]; exact .lit (w_worth h.1 h.2.1 h.2.2)
 | var s=>rw [Rl.Gd] at h; rw [toT_var]; exact .var h
 | op d bs ps=>
  rw [Rl.Gd] at h
  obtain ⟨⟨a,b,c,e,f,g⟩,_⟩:=h
  rw [toT_op]
  exact .op a b c e f (by rw [List.length_map]; exact g)
theorem F1.fn {t:T}{ps qs:List T} (h:F1 t ps) (h2:F1 t qs):ps = qs:=by
 obtain ⟨z,ts,rfl⟩:=h.tup
 obtain ⟨d,e,h⟩:=h.inv
 obtain ⟨d',e',h2⟩:=h2.inv
 obtain rfl:=woS_inj (e.symm.trans e')
 rcases h with ⟨hd,rfl,_⟩ | ⟨hd,rfl,_⟩ | ⟨a1,a2,bs,rfl,a3,_⟩
 ·rcases h2 with ⟨_,rfl,_⟩ | ⟨_,rfl,_⟩ | ⟨b1,_⟩
  ·rfl
  ·rfl
  ·rw [hd] at b1; cases b1
 ·rcases h2 with ⟨_,rfl,_⟩ | ⟨_,rfl,_⟩ | ⟨_,b1,_⟩
  ·rfl
  ·rfl
  ·rw [hd] at b1; cases b1
 ·rcases h2 with ⟨hd,_⟩ | ⟨hd,_⟩ | ⟨_,_,bs',e2,b3,_⟩
  ·rw [hd] at a1; cases a1
  ·rw [hd] at a2; cases a2
  ·exact (List.append_inj e2 (by rw [List.length_map,List.length_map,a3,b3])).2
inductive FA:List (T × Int)->Nat->Prop where
 | nil:FA [] 0
 | cons {lv:Int}{ps:List (T × Int)}{n:Nat} (r:Rl):r.Gd->lv + r.high<=12->FA ps n->FA ((r.toT,lv) :: ps) (r.many + n)
theorem FA.app {a b:List (T × Int)}{n m:Nat} (h:FA a n) (g:FA b m):FA (a ++ b) (n + m):=by
 induction h with
 | nil=>rw [Nat.zero_add]; exact g
 | cons r h1 h2 _ ih=>rw [Nat.add_assoc]; exact .cons r h1 h2 ih
theorem FA.split:∀ {a b:List (T × Int)}{n:Nat},FA (a ++ b) n->∃ n1 n2,FA a n1/\FA b n2/\n = n1 + n2
 | [],b,n,h=>⟨0,n,.nil,h,by omega⟩
 | p :: a,b,n,h=>by
  cases h with
  | cons r h1 h2 h3=>
   obtain ⟨n1,n2,g1,g2,e⟩:=FA.split h3
   exact ⟨r.many + n1,n2,.cons r h1 h2 g1,g2,by omega⟩
theorem FA.map {lv:Int}:∀ {ps:List Rl},(∀ p∈ps,p.Gd/\lv + p.high<=12)->FA (ps.map fun p=>(p.toT,lv)) (manys ps)
 | [],_=>by rw [manys]; exact .nil
 | p :: r,h=>by
  rw [manys]
  exact .cons p (h p (by simp)).1 (h p (by simp)).2 (FA.map fun q hq=>h q (List.mem_cons_of_mem _ hq))
theorem FA.unmap {lv:Int}:∀ {ts:List T}{n:Nat},FA (ts.map fun t=>(t,lv)) n->∃ ps:List Rl,ts = ps.map Rl.toT/\Gds ps/\n = manys ps/\∀ p∈ps,lv + p.high<=12
 | [],n,h=>by cases h; exact ⟨[],rfl,by rw [Gds]; trivial,by rw [manys],fun p h=>nomatch h⟩
 | t :: r,n,h=>by
  rw [List.map_cons] at h
  generalize he:(t,lv) = q at h
  cases h with
  | cons p h1 h2 h3=>
   cases he
   obtain ⟨ps,rfl,g,rfl,hh⟩:=FA.unmap h3
   refine ⟨p :: ps,rfl,by rw [Gds]; exact ⟨h1,g⟩,by rw [manys],fun q hq=>?_⟩
   rcases List.mem_cons.mp hq with rfl | hq
   ·exact h2
   ·exact hh q hq
theorem highs_lt {n:Nat}:∀ {ps:List Rl},(∀ p∈ps,1 + p.high<=n)->highs ps<=n
 | [],_=>by rw [highs]; omega
 | p :: r,h=>by
  rw [highs]
  have h1:=h p (by simp)
  have h2:=highs_lt fun q hq=>h q (List.mem_cons_of_mem _ hq)
  omega
theorem FA.step {t:T}{ts:List T}{lv:Int}{n:Nat} (h0:0<=lv) (h:F1 t ts):FA [(t,lv)] n ↔ (lv<=12/\∃ m,FA (ts.map fun t=>(t,lv + 1)) m/\n = 1 + m):=by
 constructor
 ·intro g
  generalize he:(t,lv) = q at g
  cases g with
  | cons r g1 g2 g3=>
   cases he
   cases g3
   refine ⟨by omega,manys (kidsOf r),?_,by rw [← many_eq]; omega⟩
   rw [h.fn (gd_F1 g1),List.map_map]
   refine FA.map fun p hp=>⟨fit_kids g1 p hp,?_⟩
   have:=high_mem hp
   have:=high_eq r
   omega
 ·rintro ⟨hlv,m,g,rfl⟩
  have fin:∀ r:Rl,t = r.toT->r.Gd->lv + r.high<=12->r.many = 1 + m->FA [(t,lv)] (1 + m):=fun r e g1 g2 g3=>by
   rw [e,← g3]
   exact .cons r g1 g2 .nil
  cases h with
  | lit hx=>
   obtain ⟨x,rfl,ok,sz,dp⟩:=worth_w hx
   cases g
   exact fin (.lit x) (toT_lit x).symm (by rw [Rl.Gd]; exact ⟨ok,sz,dp⟩) (by rw [Rl.high]; omega) (by rw [Rl.many])
  | var hs=>
   rename_i s
   cases g
   exact fin (.var s) (toT_var s).symm (by rw [Rl.Gd]; exact hs) (by rw [Rl.high]; omega) (by rw [Rl.many])
  | op a b c d' e f=>
   rename_i d bs
   obtain ⟨ps,rfl,g1,rfl,hh⟩:=FA.unmap g
   rw [List.length_map] at f
   refine fin (.op d bs ps) (toT_op d bs ps).symm (by rw [Rl.Gd]; exact ⟨⟨a,b,c,d',e,f⟩,g1⟩) ?_ (by rw [Rl.many])
   rw [Rl.high]
   have:highs ps<=(12 - lv).toNat:=highs_lt fun p hp=>by have:=hh p hp; omega
   omega
def Formed (t:T):Prop:=∃ r:Rl,t = r.toT/\r.Gd/\r.high<=12/\r.many<=60
def GA (ps:List (T × Int)) (whole:Int):Prop:=∃ n:Nat,FA ps n/\whole + n<=60
theorem formed_iff {t:T}:GA [(t,0)] 0 ↔ Formed t:=by
 constructor
 ·rintro ⟨n,h,hn⟩
  generalize he:(t,(0:Int)) = q at h
  cases h with
  | cons r g1 g2 g3=>
   cases he
   cases g3
   exact ⟨r,rfl,g1,by omega,by omega⟩
 ·rintro ⟨r,rfl,g1,g2,g3⟩
  exact ⟨r.many + 0,.cons r g1 (by omega) .nil,by omega⟩
theorem GA.pop {ps:List (T × Int)}{t:T}{lv whole:Int} (h:GA (ps ++ [(t,lv)]) whole):whole + 1<=60/\lv<=12/\∃ ts,F1 t ts:=by
 obtain ⟨n,g,hn⟩:=h
 obtain ⟨n1,n2,_,g2,e⟩:=g.split
 generalize he:(t,lv) = q at g2
 cases g2 with
 | cons r g1 g3 g4=>
  cases he
  have:=many_eq r
  exact ⟨by omega,by omega,_,gd_F1 g1⟩
theorem GA.go {ps:List (T × Int)}{t:T}{ts:List T}{lv whole:Int} (h0:0<=lv) (hlv:lv<=12) (h:F1 t ts):GA (ps ++ [(t,lv)]) whole ↔ GA (ps ++ ts.map fun t=>(t,lv + 1)) (whole + 1):=by
 constructor
 ·rintro ⟨n,g,hn⟩
  obtain ⟨n1,n2,g1,g2,e⟩:=g.split
  obtain ⟨_,m,g3,e2⟩:=(FA.step h0 h).mp g2
  exact ⟨n1 + m,g1.app g3,by omega⟩
 ·rintro ⟨n,g,hn⟩
  obtain ⟨n1,n2,g1,g2,e⟩:=g.split
  exact ⟨n1 + (1 + n2),g1.app ((FA.step h0 h).mpr ⟨hlv,n2,g2,rfl⟩),by omega⟩
theorem F1.len {t:T}{ts:List T} (h:F1 t ts):ts.length<=8:=by
 cases h with
 | lit _=>exact Nat.zero_le _
 | var _=>exact Nat.zero_le _
 | op a b c h4 e f=>
  rename_i d bs
  cases hw:wList d with
  | true=>exact f.1 hw
  | false=>
   rw [f.2 hw]
   cases d <;> decide
theorem tnodes_app (a b:List T):tnodes (a ++ b) = tnodes a + tnodes b:=by
 induction a with
 | nil=>simp [tnodes]
 | cons x r ih=>simp only [List.cons_append,tnodes,ih]; omega
theorem F1.nodes {t:T}{ts:List T} (h:F1 t ts):tnodes ts < t.nodes:=by
 cases h with
 | lit _=>simp only [tnodes,T.nodes]; omega
 | var _=>simp only [tnodes,T.nodes]; omega
 | op a b c d e f=>simp only [T.nodes,tnodes,tnodes_app]; omega
theorem Sms.app {a b:List T} (h:Sms (a ++ b)):Sms b:=by
 induction a with
 | nil=>exact h
 | cons x r ih=>exact ih h.2
theorem F1.sms {t:T}{ts:List T} (h:F1 t ts) (sm:t.Sm):Sms ts:=by
 cases h with
 | lit _=>trivial
 | var _=>trivial
 | op a b c d e f=>exact Sms.app sm.2.2
theorem RTs.app {H:Hp}{vs:List V}{as bs:List T} (h:RTs H vs (as ++ bs)):∃ us ws,vs = us ++ ws/\us.length = as.length/\RTs H ws bs:=by
 have hl:=h.1
 rw [List.length_append] at hl
 refine ⟨vs.take as.length,vs.drop as.length,(List.take_append_drop _ _).symm,by rw [List.length_take]; omega,by rw [List.length_drop]; omega,fun i v t hv ht=>h.2 (as.length + i) v t ?_ ?_⟩
 ·rw [List.getElem?_drop] at hv; exact hv
 ·rw [List.getElem?_append_right (by omega),Nat.add_sub_cancel_left]; exact ht
theorem po_F1 {H0 H:Hp}{v:V}{t:T}{ts:List T}{Q:VK}{E:XK} (s0:Same H0 H) (hv:RT H0 v t) (hf:F1 t ts) (q:∀ (l:Addr) (us:List V) (H':Hp),H l = none->Same H H'->H' l = some (.lst us)->RTs H0 us ts->Q (.ref l) H'):spPartsOf [v] H Q E:=by
 cases hf with
 | lit _=>
  cases hv with
  | @tup a vs _ ea hl at'=>
   obtain ⟨v0,v1,rfl⟩:∃ a b,vs = [a,b]:=match vs,hl with | [a,b],_=>⟨a,b,rfl⟩
   have r0:=at' 0 v0 _ rfl rfl
   cases r0
   exact ⟨a,.lit,[],[v1],rfl,s0 _ _ ea,.inl rfl,fun l H' hl s e=>q l [] H' hl s e ⟨rfl,fun i v w e=>by simp at e⟩⟩
 | var _=>
  cases hv with
  | @tup a vs _ ea hl at'=>
   obtain ⟨v0,v1,rfl⟩:∃ a b,vs = [a,b]:=match vs,hl with | [a,b],_=>⟨a,b,rfl⟩
   have r0:=at' 0 v0 _ rfl rfl
   cases r0
   exact ⟨a,.var,[],[v1],rfl,s0 _ _ ea,.inl rfl,fun l H' hl s e=>q l [] H' hl s e ⟨rfl,fun i v w e=>by simp at e⟩⟩
 | op h1 h2 h3 h4 h5 h6=>
  rename_i d bs
  cases hv with
  | @tup a vs _ ea hl at'=>
   cases vs with
   | nil=>cases hl
   | cons v0 vs=>
   have r0:=at' 0 v0 _ rfl rfl
   cases r0
   have hr:RTs H0 vs (bs.map T.txt ++ ts):=⟨by simpa using hl,fun i v t a b=>at' (i + 1) v t (by simpa using a) (by simpa using b)⟩
   obtain ⟨us,ws,rfl,hul,hr⟩:=hr.app
   rw [List.length_map] at hul
   have hb:(wLit d || wVar d) = false:=by rw [h1,h2]; rfl
   refine ⟨a,d,us,ws,rfl,s0 _ _ ea,.inr ⟨hb,by omega⟩,fun l H' hl s e=>q l ws H' hl s ?_ hr⟩
   rw [hb] at e
   exact e
end
end D
namespace L2
open PySem
theorem rd_drawR {fr:List Nat}{te:TE}{σ:St}{H:Hp}{F:Addr->Hp->List V->Prop}{n:Int} (Pv:Nat->List V->Hp->Prop) (h0:Pv 0 [] H) (hlen:∀ i us H1,Pv i us H1->us.length = i) (hn:n.toNat<=1000000)
  (step:∀ (i:Nat) (us:List V) (H1:Hp) (R:VK),i < n.toNat->Pv i us H1->(∀ y H2,Pv (i + 1) (us ++ [y]) H2->R y H2)->te (some (.int (0 + (i:Int))) :: frees fr σ) H1 R)
  (fin:∀ (us:List V) (H1:Hp) (D:Addr),Pv n.toNat us H1->H1 D = none->F D H1 us):
  ∃ W:Nat->Nat->List V->Hp->Prop,(∃ m,W 0 m [] H)/\∀ i m us H,W i m us H->us.length<=sizeLine /\
   (((Itr 0 n.toNat).stop i H/\∀ D,H D = none->F D H us) \/
    ((Itr 0 n.toNat).go i H/\∀ v H',(Itr 0 n.toNat).yld i H v H'->if true = true then te (some v :: frees fr σ) H' fun y H3=>∃ m',m' < m/\W (i + 1) m' (us ++ [y]) H3 else ∃ m',m' < m/\W (i + 1) m' us H')):=by
 refine ⟨fun i m us H1=>i<=n.toNat/\m = n.toNat - i/\Pv i us H1,⟨_,Nat.zero_le _,rfl,h0⟩,fun i m us H1 hW=>?_⟩
 obtain ⟨hi,hm,hu⟩:=hW
 have hz:(1000000:Nat)<=sizeLine:=by decide
 refine ⟨by rw [hlen _ _ _ hu]; omega,?_⟩
 by_cases hlt:i < n.toNat
 ·refine .inr ⟨hlt,fun v H' hy=>?_⟩
  obtain ⟨rfl,rfl⟩:=hy
  refine iteT ?_
  exact step i us H' _ hlt hu fun y H2 p2=>⟨n.toNat - (i + 1),by omega,by omega,rfl,p2⟩
 ·have e:i = n.toNat:=by omega
  subst e
  exact .inl ⟨Nat.le_refl _,fun D hD=>fin us H1 D hu hD⟩
theorem rd_drawL {K:PySem.W.Frag}{fr:List Nat}{te:TE}{σ:St}{H:Hp}{F:Addr->Hp->List V->Prop}{a:Addr}{vs:List V} (Pv:Nat->List V->Hp->Prop) (hz:vs.length<=sizeLine) (h0:Pv 0 [] H) (hlen:∀ i us H1,Pv i us H1->us.length = i) (hS:∀ i us H1,Pv i us H1->SqL K H1 a vs)
  (step:∀ (i:Nat) (v:V) (us:List V) (H1:Hp) (R:VK),vs[i]? = some v->Pv i us H1->(∀ y H2,Pv (i + 1) (us ++ [y]) H2->R y H2)->te (some v :: frees fr σ) H1 R)
  (fin:∀ (us:List V) (H1:Hp) (D:Addr),Pv vs.length us H1->H1 D = none->F D H1 us):
  ∃ W:Nat->Nat->List V->Hp->Prop,(∃ m,W 0 m [] H)/\∀ i m vs H,W i m vs H->vs.length<=sizeLine /\
   (((Itl K a).stop i H/\∀ D,H D = none->F D H vs) \/
    ((Itl K a).go i H/\∀ v H',(Itl K a).yld i H v H'->if true = true then te (some v :: frees fr σ) H' fun y H3=>∃ m',m' < m/\W (i + 1) m' (vs ++ [y]) H3 else ∃ m',m' < m/\W (i + 1) m' vs H')):=by
 refine ⟨fun i m us H1=>i<=vs.length/\m = vs.length - i/\Pv i us H1,⟨_,Nat.zero_le _,rfl,h0⟩,fun i m us H1 hW=>?_⟩
 obtain ⟨hi,hm,hu⟩:=hW
 have sq:=hS _ _ _ hu
 refine ⟨by rw [hlen _ _ _ hu]; omega,?_⟩
 by_cases hlt:i < vs.length
 ·refine .inr ⟨⟨vs,vs[i],sq,List.getElem?_eq_getElem hlt⟩,fun v H' hy=>?_⟩
  obtain ⟨rfl,hv⟩:=hy
  have hv:=hv vs sq
  refine iteT ?_
  exact step i v us H' _ hv hu fun y H2 p2=>⟨vs.length - (i + 1),by omega,by omega,rfl,p2⟩
 ·have e:i = vs.length:=by omega
  subst e
  exact .inl ⟨⟨vs,sq,by omega⟩,fun D hD=>fin us H1 D hu hD⟩
end L2
namespace D
open PySem L2
def spFormed:Sp:=fun vs H Q _=>∃ (v:V) (t:T),vs = [v]/\RT H v t/\t.Sm/\∀ (b:Bool) (H':Hp),Same H H'->(b = true->Formed t)->(b = false->¬ Formed t)->Q (.bl b) H'
structure FmP (t:T) (v:V) (l:Addr) (H:Hp) (m:Nat) (σ':St) (H':Hp) (vs:List V) (ps:List (T × Int)) (whole:Int):Prop where
 el:H' l = some (.lst vs)
 st:StR H H' vs ps
 mn:m = nds ps
 w0:0<=whole
 w1:whole<=60
 len:(vs.length:Int)<=1 + 8 * whole
 sms:∀ p∈ps,p.1.Sm/\0<=p.2
 ga:GA ps whole ↔ Formed t
 sH:Same H H'
section
variable {P:Program}{w:World}{K:PySem.W.Frag}{mg:Str->Option Value}{base:Heap}{f:Addr}{fd:FuncData}{k n:Nat}
theorem sc_is_formed:FnScope ["thing","waiting","whole","pair","expression","level"] ["thing"] (defScope s_is_formed):=⟨rfl,rfl,rfl,by decide +kernel,rfl,by decide +kernel,by decide +kernel⟩
theorem ok_is_formed (F:Fun K "is_formed" "is_formed" s_is_formed f fd) (G_parts_of:Have P w K mg base "parts_of" k ["expression"] (spPartsOf)) (G_has_form:Have P w K mg base "has_form" k ["thing"] (spHasForm)) (m_len:mg "len" = none) (m_MOST_MANY:∃ t,mg "MOST_MANY" = some (.int 60 t)) (m_MOST_NESTING:∃ t,mg "MOST_NESTING" = some (.int 12 t)):FnOk P w K mg base CX0 (k + 1) f fd ["thing"] (spFormed):=by
 refine F.okQ sc_is_formed (fun vs H Q E h=>?_) (fun cdv A outer s H vs Q E hr h=>?_)
 ·obtain ⟨v,t,rfl,_⟩:=h
  rfl
 obtain ⟨v,t,rfl,rt,sm,q⟩:=h
 refine ⟨_,(pss_cons (ps_set (i:=1) sc_is_formed.nd rfl (Or.inl rfl) (pe_lst (pa_cons (pe_tup (pa_cons (pv 0) (pa_cons pe_int pa_nil))) pa_nil)))
  (pss_cons (ps_set (i:=2) sc_is_formed.nd rfl (Or.inl rfl) pe_int)
  (pss_cons (ps_while PassesOwn.never (pt_cmpR op_gt (pe_callB call_len rfl m_len PySem.boot_len (pa_cons (pv 1) pa_nil)) pe_int (nomark _)) (pss_cons (ps_set (i:=3) sc_is_formed.nd rfl (Or.inl rfl) (pe_bm0 PySem.F.plainAttrs_list PySem.F.slot_list_pop PySem.F.type_list_pop mt_pop (pv 1)))
  (pss_cons (ps_set (i:=4) sc_is_formed.nd rfl (Or.inl rfl) (pe_ix ix_tup (pv 3) pe_int (fun _ _=>rfl)))
  (pss_cons (ps_set (i:=5) sc_is_formed.nd rfl (Or.inr rfl) (pe_ix ix_tup (pv 3) pe_int (fun _ _=>rfl)))
  (pss_cons (ps_aug (i:=2) sc_is_formed.nd rfl (Or.inl rfl) pe_int (ip_of iop_add))
  (pss_cons (ps_if (PW.pt (pw_or (pt_cmpR op_gt (pv 2) (pe_globI rfl m_MOST_MANY) (nomark _)) (pw_or (pt_cmpR op_gt (pv 5) (pe_globI rfl m_MOST_NESTING) (nomark _)) (pw_or1 (pt_not (pt_val (pe_fn G_has_form hr rfl (pa_cons (pv 4) pa_nil)))))))) (pss_one (ps_ret pe_bl)) pss_nil)
  (pss_one (ps_expr (pe_bm PySem.F.plainAttrs_list PySem.F.slot_list_extend PySem.F.type_list_extend mt_extend (pv 1) (pa_cons (pe_lcomp [5] ["level"] rfl rfl (by decide +kernel) rfl (by decide +kernel) rfl (by decide +kernel) ⟨rfl,trivial⟩ rfl ⟨⟨rfl,rfl,Or.inr (Or.inl rfl),(by show (some NameKind.cell:Option NameKind)≠some .local; decide),⟨_,rfl⟩⟩,trivial⟩ (pi_list (pe_fn G_parts_of hr rfl (pa_cons (pv 4) pa_nil))) (fun C s H fp=>⟨pifs_nil,(pe_tup (pa_cons (pv 0) (pa_cons (pe_op op_add (pv 1) pe_int) pa_nil)))⟩)) pa_nil))))))))))
  (pss_one (ps_ret pe_bl))))),?_⟩
 refine ⟨_,rfl,zl2,fun a ha=>?_⟩
 refine ⟨zl1,fun l hl=>?_⟩
 have sa:=Same.new (o:=.tup [v,.int 0]) ha
 have sl:=Same.new (o:=.lst [.ref a]) hl
 have s1:=sa.trans sl
 have hlH:H l = none:=sa.free hl
 refine ⟨fun m σ' H'=>∃ (vs:List V) (ps:List (T × Int)) (whole:Int) (o3 o4 o5:Option V),σ' = [some v,some (.ref l),some (.int whole),o3,o4,o5]/\FmP t v l H m σ' H' vs ps whole,
  ⟨_,[.ref a],[(t,0)],0,none,none,none,rfl,upd_same,StR.one (p:=(t,0)) (sl _ _ upd_same) rt,rfl,Int.le_refl _,by decide,by simp,fun p hp=>by rw [List.mem_singleton.mp hp]; exact ⟨sm,Int.le_refl _⟩,formed_iff,s1⟩,fun m σ' H' hW=>?_⟩
 obtain ⟨vs,ps,whole,o3,o4,o5,rfl,⟨hlv,hst,hm,hw0,hw1,hvl,hsm,hga,sH⟩⟩:=hW
 refine ⟨_,rfl,_,_,rfl,.inl ⟨_,SqL.of hlv,rfl⟩,_,_,rfl,rfl,_,rfl,?_⟩
 refine ite2 (fun c=>?_) (fun c=>?_)
 rotate_left
 ·have hv0:vs = []:=by
   have:¬ (0:Int) < vs.length:=fun z=>c (decide_eq_true z)
   exact List.length_eq_zero_iff.mp (by omega)
  have hp0:ps = []:=List.length_eq_zero_iff.mp (by rw [← hst.len,hv0]; rfl)
  subst hp0
  exact q true _ sH (fun _=>hga.mp ⟨0,.nil,by omega⟩) (fun z=>nomatch z)
 have c1:(0:Int) < vs.length:=of_decide_eq_true c
 refine ⟨_,fun _ _ h=>h,?_⟩
 rcases List.eq_nil_or_concat vs with rfl | ⟨vs',vl,e⟩
 ·simp at c1
 rw [List.concat_eq_append] at e
 subst e
 rcases List.eq_nil_or_concat ps with rfl | ⟨ps',p,e⟩
 ·have:=hst.len; simp at this
 rw [List.concat_eq_append] at e
 subst e
 obtain ⟨hst',ap,u,rfl,hap,rtu⟩:=hst.front
 obtain ⟨t1,n1⟩:=p
 have ed:(vs' ++ [V.ref ap]).dropLast = vs':=List.dropLast_concat
 obtain ⟨smp,hn0⟩:=hsm (t1,n1) (by simp)
 have smp:t1.Sm:=smp
 have hn0:0<=n1:=hn0
 refine ⟨_,rfl,.inl ⟨rfl,_,SqL.of hlv⟩,l,_,.ref ap,rfl,rfl,hlv,by simp,?_⟩
 rw [ed]
 have t1':=tups_put (o:=.lst vs') hlv
 have sH1:Same H (upd H' l (.lst vs')):=same_putD sH hlH
 have hap1:upd H' l (.lst vs') ap = some (.tup [u,.int n1]):=t1' _ _ hap
 have el1:upd H' l (.lst vs') l = some (.lst vs'):=upd_same
 generalize upd H' l (.lst vs') = H1 at t1' sH1 hap1 el1
 refine ⟨_,rfl,ap,_,0,u,rfl,rfl,SqT.of hap1,rfl,?_⟩
 refine ⟨_,rfl,ap,_,1,.int n1,rfl,rfl,SqT.of hap1,rfl,?_⟩
 refine ⟨_,rfl,_,_,rfl,rfl,?_⟩
 have no:∀ H',Same H1 H'->¬ GA (ps' ++ [(t1,n1)]) whole->Q (.bl false) H':=fun H' s h=>q false _ (sH1.trans s) (fun z=>nomatch z) (fun _ z=>h (hga.mpr z))
 refine ⟨_,rfl,_,_,rfl,rfl,_,rfl,?_⟩
 refine ite2 (fun c2=>?_) (fun c2=>?_)
 ·have:(60:Int) < whole + 1:=of_decide_eq_true c2
  exact no _ (Same.refl _) fun h=>by have:=h.pop.1; omega
 have hw60:¬ (60:Int) < whole + 1:=fun z=>c2 (decide_eq_true z)
 refine ⟨_,rfl,_,_,rfl,rfl,_,rfl,?_⟩
 refine ite2 (fun c3=>?_) (fun c3=>?_)
 ·have:(12:Int) < n1:=of_decide_eq_true c3
  exact no _ (Same.refl _) fun h=>by have:=h.pop.2.1; omega
 have hn12:¬ (12:Int) < n1:=fun z=>c3 (decide_eq_true z)
 refine ⟨_,rfl,u,t1,rfl,rtu.mono sH1,smp,fun b H2 s2 hT hF=>⟨_,rfl,?_⟩⟩
 cases b with
 | false=>exact iteT (no _ s2 fun h=>by obtain ⟨ts,hf⟩:=h.pop.2.2; exact hF rfl ts hf)
 | true=>
 obtain ⟨ts,hf⟩:=hT rfl
 refine iteF ?_
 have sH2:=sH1.trans s2
 have hl2:=s2 _ _ el1
 refine ⟨_,rfl,.inl ⟨rfl,_,SqL.of hl2⟩,?_⟩
 dsimp only [tCons,tNil]
 refine ⟨_,rfl,?_⟩
 dsimp only [tNil,List.cons_append,List.nil_append]
 refine po_F1 sH2 rtu hf fun lp us H3 hlp s3 elp hus=>⟨lp,rfl,⟨us,SqL.of elp⟩,?_⟩
 have hul:=hus.1
 have h8:=hf.len
 refine rd_drawL (K:=K) (vs:=us) (fun i xs H4=>Same H3 H4/\xs.length = i/\StR H H4 xs ((ts.take i).map fun t=>(t,n1 + 1))) (Nat.le_trans (show us.length<=60 by omega) (by decide)) ⟨Same.refl _,rfl,StR.nil⟩ (fun i us H4 h=>h.2.1) (fun i us H4 h=>SqL.of (h.1 _ _ elp)) (fun i x xs H4 R hx hP hR=>?_) (fun xs H4 D hP hD=>?_)
 ·obtain ⟨s4,hxl,hsk⟩:=hP
  have hi:i < us.length:=(List.getElem?_eq_some_iff.mp hx).1
  have hki:ts[i]? = some ts[i]:=List.getElem?_eq_getElem (by omega)
  refine ⟨_,rfl,_,rfl,_,_,rfl,rfl,zl2,fun a5 ha5=>?_⟩
  have s5:=Same.new (o:=.tup [x,.int (n1 + 1)]) ha5
  refine hR _ _ ⟨s4.trans s5,by rw [List.length_append,hxl]; rfl,?_⟩
  rw [take_snoc hki,List.map_append]
  exact (hsk.mono (same_tupsD s5)).app (StR.one (p:=(ts[i],n1 + 1)) upd_same (hus.2 i x _ hx hki))
 ·obtain ⟨s4,hxl,hsk⟩:=hP
  have s5:=Same.new (o:=.lst xs) hD
  have sA:=s3.trans (s4.trans s5)
  rw [List.take_of_length_le (by omega)] at hsk
  have hl4:upd H4 D (.lst xs) l = some (.lst vs'):=sA _ _ hl2
  have eD:upd H4 D (.lst xs) D = some (.lst xs):=upd_same
  have hskD:=hsk.mono (same_tupsD s5)
  generalize upd H4 D (.lst xs) = H5 at s5 sA hl4 eD hskD
  have t6:=tups_put (o:=.lst (vs' ++ xs)) hl4
  have hvl':(vs'.length:Int) + 1<=1 + 8 * whole:=by rw [List.length_append] at hvl; exact hvl
  have hnn:nds (ps' ++ ts.map fun t=>(t,n1 + 1)) < nds (ps' ++ [(t1,n1)]):=by
   have:=hf.nodes
   rw [nds_app,nds_app,nds_map]
   simp only [nds]
   omega
  refine ⟨l,D,vs',xs,rfl,rfl,hl4,eD,Nat.le_trans (show vs'.length + xs.length<=1000 by omega) (by decide),?_⟩
  refine ⟨nds (ps' ++ ts.map fun t=>(t,n1 + 1)),by rw [hm]; exact hnn,vs' ++ xs,ps' ++ ts.map (fun t=>(t,n1 + 1)),whole + 1,_,_,_,rfl,upd_same,?_,rfl,by omega,by omega,?_,?_,?_,?_⟩
  ·exact (((hst'.mono t1').mono (same_tupsD (s2.trans sA))).mono t6).app (hskD.mono t6)
  ·rw [List.length_append]; omega
  ·intro p hp
   rcases List.mem_append.mp hp with hp | hp
   ·exact hsm p (List.mem_append_left _ hp)
   ·obtain ⟨p',hp',rfl⟩:=List.mem_map.mp hp
    exact ⟨Sms_mem (hf.sms smp) p' hp',by show 0<=n1 + 1; omega⟩
  ·rw [← hga]
   exact (GA.go hn0 (by omega) hf).symm
  ·exact same_putD (sH2.trans sA) hlH
theorem reps_get (b:Bool):∀ (ps:List Rl) (i:Nat) (p:Rl),ps[i]? = some p->p.rep<=reps b ps/\(b = true->i + 1 = ps.length->p.rep + 1<=reps b ps)
 | [q],0,p,h=>by
  cases h
  rw [reps]
  exact ⟨by omega,fun hb _=>by rw [hb]; exact Nat.le_refl _⟩
 | q :: r :: l,0,p,h=>by
  cases h
  rw [reps]
  exact ⟨by omega,fun _ h=>by simp at h⟩
 | q :: r :: l,i + 1,p,h=>by
  have:=reps_get b (r :: l) i p (by simpa using h)
  rw [reps]
  refine ⟨by omega,fun hb hl=>?_⟩
  have:=this.2 hb (by simpa using hl)
  omega
 | [q],i + 1,p,h=>by simp at h
theorem reps_sup {b:Bool}{d:Nat}:∀ {ps:List Rl},(∀ (j:Nat) (p:Rl),ps[j]? = some p->p.rep + (if b = true/\j + 1 = ps.length then 1 else 0)<=d)->reps b ps<=d
 | [],_=>by rw [reps]; omega
 | [p],h=>by
  have:=h 0 p rfl
  rw [reps]
  cases b with
  | true=>rw [if_pos ⟨rfl,rfl⟩] at this; simp only [if_true]; exact this
  | false=>rw [if_neg (fun z=>by cases z.1)] at this; simp only [Bool.false_eq_true,if_false]; exact this
 | p :: q :: r,h=>by
  rw [reps]
  have h1:=h 0 p rfl
  have h2:=reps_sup (b:=b) (d:=d) (ps:=q :: r) fun j p' hp=>by
   have:=h (j + 1) p' (by simpa using hp)
   by_cases hc:b = true/\j + 1 = (q :: r).length
   ·rw [if_pos hc]
    rw [if_pos ⟨hc.1,by rw [List.length_cons (a:=p)]; omega⟩] at this
    exact this
   ·rw [if_neg hc]
    omega
  omega
def spRep (n:Nat):Sp:=fun vs H Q _=>∃ (v:V) (r:Rl),vs = [v]/\RW H v r.toW/\r.Gd/\r.high < n/\∀ H':Hp,Same H H'->Q (.int r.rep) H'
mutual
theorem W.toT_inj:∀ {x y:W},x.toT = y.toT->x = y
 | .num i,y,h=>by cases y <;> simp only [W.toT] at h <;> cases h; rfl
 | .txt i,y,h=>by cases y <;> simp only [W.toT] at h <;> cases h; rfl
 | .lst ws,y,h=>by
  cases y with
  | lst zs=>simp only [W.toT] at h; injection h with h; rw [toTs_inj h]
  | num _=>simp only [W.toT] at h; cases h
  | txt _=>simp only [W.toT] at h; cases h
theorem toTs_inj:∀ {xs ys:List W},toTs xs = toTs ys->xs = ys
 | [],ys,h=>by cases ys with
  | nil=>rfl
  | cons y r=>simp only [toTs] at h; cases h
 | x :: xs,ys,h=>by
  cases ys with
  | nil=>simp only [toTs] at h; cases h
  | cons y r=>
   simp only [toTs] at h
   injection h with h1 h2
   rw [W.toT_inj h1,toTs_inj h2]
end
theorem txts_inj:∀ {a b:List Str},a.map T.txt = b.map T.txt->a = b
 | [],b,h=>by cases b with
  | nil=>rfl
  | cons _ _=>cases h
 | x :: a,b,h=>by
  cases b with
  | nil=>cases h
  | cons y b=>
   rw [List.map_cons,List.map_cons] at h
   injection h with h1 h2
   injection h1 with h1
   rw [h1,txts_inj h2]
mutual
theorem Rl.toT_inj:∀ {r q:Rl},r.Gd->q.Gd->r.toT = q.toT->r = q
 | .lit x,q,g,g2,h=>by
  cases q with
  | lit y=>
   rw [toT_lit,toT_lit] at h
   injection h with h
   injection h with _ h
   injection h with h _
   rw [W.toT_inj h]
  | var s=>rw [toT_lit,toT_var] at h; injection h with h; injection h with h _; injection h with h; exact absurd (woS_inj (d:=.lit) (d':=.var) h) (fun z=>nomatch z)
  | op d bs ps=>
   rw [toT_lit,toT_op] at h
   injection h with h
   injection h with h _
   injection h with h
   rw [Rl.Gd] at g2
   have:=g2.1.1
   rw [← woS_inj (d:=.lit) (d':=d) h] at this
   cases this
 | .var s,q,g,g2,h=>by
  cases q with
  | var y=>
   rw [toT_var,toT_var] at h
   injection h with h
   injection h with _ h
   injection h with h _
   injection h with h
   rw [h]
  | lit x=>rw [toT_lit,toT_var] at h; injection h with h; injection h with h _; injection h with h; exact absurd (woS_inj (d:=.var) (d':=.lit) h) (fun z=>nomatch z)
  | op d bs ps=>
   rw [toT_var,toT_op] at h
   injection h with h
   injection h with h _
   injection h with h
   rw [Rl.Gd] at g2
   have:=g2.1.2.1
   rw [← woS_inj (d:=.var) (d':=d) h] at this
   cases this
 | .op d bs ps,q,g,g2,h=>by
  rw [Rl.Gd] at g
  cases q with
  | lit x=>
   rw [toT_lit,toT_op] at h
   injection h with h
   injection h with h _
   injection h with h
   have:=g.1.1
   rw [woS_inj (d:=d) (d':=.lit) h] at this
   cases this
  | var s=>
   rw [toT_var,toT_op] at h
   injection h with h
   injection h with h _
   injection h with h
   have:=g.1.2.1
   rw [woS_inj (d:=d) (d':=.var) h] at this
   cases this
  | op d' bs' ps'=>
   rw [Rl.Gd] at g2
   rw [toT_op,toT_op] at h
   injection h with h
   injection h with h1 h2
   injection h1 with h1
   obtain rfl:=woS_inj h1
   obtain ⟨h3,h4⟩:=List.append_inj h2 (by rw [List.length_map,List.length_map,g.1.2.2.1,g2.1.2.2.1])
   rw [txts_inj h3,rls_inj g.2 g2.2 h4]
theorem rls_inj:∀ {ps qs:List Rl},Gds ps->Gds qs->ps.map Rl.toT = qs.map Rl.toT->ps = qs
 | [],qs,_,_,h=>by cases qs with
  | nil=>rfl
  | cons _ _=>cases h
 | p :: ps,qs,g,g2,h=>by
  cases qs with
  | nil=>cases h
  | cons q qs=>
   rw [Gds] at g g2
   rw [List.map_cons,List.map_cons] at h
   injection h with h1 h2
   rw [Rl.toT_inj g.1 g2.1 h1,rls_inj g.2 g2.2 h2]
end
def RuleT (t:T):Prop:=∃ r:Rl,t = r.toT/\r.Gd/\r.high<=12/\r.many<=60/\unb [] r = []/\r.rep<=2
def spIsRule:Sp:=fun vs H Q _=>∃ (v:V) (t:T),vs = [v]/\RT H v t/\t.Sm/\∀ (b:Bool) (H':Hp),Same H H'->(b = true->RuleT t)->(b = false->¬ RuleT t)->Q (.bl b) H'
theorem allS_nil {l:List Str} (h:L2.allS l = []):l = []:=by
 cases l with
 | nil=>rfl
 | cons x r=>
  exfalso
  have:x∈L2.allS (x :: r):=L2.allS_mem.mpr (by simp)
  rw [h] at this
  cases this
theorem sc_repeated:FnScope ["expression","parts","deepest","place","part","is_repeated"] ["expression"] (defScope s_repeated):=⟨rfl,rfl,rfl,by decide +kernel,rfl,by decide +kernel,by decide +kernel⟩
theorem ok_repeated {n:Nat} (F:Fun K "repeated" "repeated" s_repeated f fd) (G_repeated:Have P w K mg base "repeated" k ["expression"] (spRep n)) (G_parts_of:Have P w K mg base "parts_of" k ["expression"] (spPartsOf)) (m_enumerate:mg "enumerate" = none) (m_len:mg "len" = none) (m_max:mg "max" = none) {g_REPEATING:Addr} (m_REPEATING:mg "REPEATING" = some (.ref g_REPEATING)) (t_REPEATING:∀ H:Hp,SqT K H g_REPEATING [.str "each",.str "over"]):FnOk P w K mg base CX0 (k + 1) f fd ["expression"] (spRep (n + 1)):=by
 refine F.okQ sc_repeated (fun vs H Q E h=>?_) (fun cdv A outer s H vs Q E hr h=>?_)
 ·obtain ⟨v,r,rfl,_⟩:=h
  rfl
 obtain ⟨v,r,rfl,hv,hfit,hh,q⟩:=h
 refine ⟨_,(pss_cons (ps_set (i:=1) sc_repeated.nd rfl (Or.inl rfl) (pe_fn G_parts_of hr rfl (pa_cons (pv 0) pa_nil)))
  (pss_cons (ps_set (i:=2) sc_repeated.nd rfl (Or.inl rfl) pe_int)
  (pss_cons (ps_for PassesOwn.never rfl (pi_enum rfl m_enumerate (pa_cons (pv 1) pa_nil)) (pg_tup rfl (pgs_cons (pg_name (i:=3) sc_repeated.nd rfl (Or.inl rfl)) (pgs_cons (pg_name (i:=4) sc_repeated.nd rfl (Or.inl rfl)) pgs_nil))) (pss_cons (ps_set (i:=5) sc_repeated.nd rfl (Or.inl rfl) (pe_and (pe_cmpR op_in_seq (pe_ix ix_tup (pv 0) pe_int (fun _ _=>rfl)) (pe_glob (v:=.ref g_REPEATING) rfl m_REPEATING rfl) (by rfl)) (pe_one (pe_cmpR op_eq (pv 3) (pe_op op_sub (pe_callB call_len rfl m_len PySem.boot_len (pa_cons (pv 1) pa_nil)) pe_int) (nomark _)))))
  (pss_one (ps_set (i:=2) sc_repeated.nd rfl (Or.inl rfl) (pe_callB (call_max2 rfl) rfl m_max PyProof.Rows.boot_max (pa_cons (pv 2) (pa_cons (pe_op op_add (pe_fn G_repeated hr rfl (pa_cons (pv 4) pa_nil)) (pe_ifExp (pt_val (pv 5)) pe_int pe_int)) pa_nil)))))))
  (pss_one (ps_ret (pv 2)))))),?_⟩
 obtain ⟨a,us0,rfl,ea,ho⟩:=opn hv
 have h0:us0[0]? = some (.str (woS (rlW r))):=ho.head
 obtain ⟨we,hwe⟩:∃ b,b = wEO (rlW r):=⟨_,rfl⟩
 have hrep:r.rep = reps we (kidsOf r):=by
  rw [hwe]
  cases r with
  | lit _=>rw [Rl.rep]; rfl
  | var _=>rw [Rl.rep]; rfl
  | op d bs ps=>rw [Rl.rep]; rfl
 refine ⟨_,rfl,?_⟩
 dsimp only [tNil,List.cons_append,List.nil_append]
 refine po_rl hv hfit fun l us H1 hl s1 el hus=>?_
 have hul:=hus.len
 rw [rlWs_len] at hul
 refine ⟨_,rfl,l,us,rfl,SqL.of el,for_enum (xs:=us) (fun i σ' H'=>∃ (o3 o4 o5:Option V) (d:Nat),σ' = [some (.ref a),some (.ref l),some (.int d),o3,o4,o5]/\Same H1 H'/\d<=r.rep/\∀ (j:Nat) (p:Rl),j < i->(kidsOf r)[j]? = some p->p.rep + (if we = true/\j + 1 = (kidsOf r).length then 1 else 0)<=d)
  ⟨none,none,none,0,rfl,Same.refl _,Nat.zero_le _,fun j p hj=>absurd hj (Nat.not_lt_zero _)⟩ (fun i σ' H' _ h=>?_) (fun i x t σ' H' hx ht h=>?_) (fun σ' H' h=>?_)⟩
 ·obtain ⟨_,_,_,_,_,s2,_⟩:=h
  exact SqL.of (s2 _ _ el)
 ·obtain ⟨o3,o4,o5,d,rfl,s2,hd,hall⟩:=h
  have hi:i < us.length:=(List.getElem?_eq_some_iff.mp hx).1
  have hki:(kidsOf r)[i]? = some (kidsOf r)[i]:=List.getElem?_eq_getElem (by omega)
  have hpm:=List.getElem_mem (show i < (kidsOf r).length by omega)
  have sT:=s2.trans (Same.new (o:=.tup [.int i,x]) ht)
  have h2:=high_mem hpm
  have hhe:=high_eq r
  have hrg:=reps_get we (kidsOf r) i _ hki
  rw [← hrep] at hrg
  refine ⟨t,_,rfl,SqT.of upd_same,rfl,_,_,rfl,_,_,rfl,rfl,?_⟩
  have ea1:=sT _ _ (s1 _ _ ea)
  have rwx:RW (upd H' t (.tup [.int i,x])) x ((kidsOf r)[i]).toW:=RW.mono (same_tups' sT) (hus.at' i x _ hx (rlWs_get hki))
  have go:∀ (b:Bool),(b = true->we = true/\i + 1 = (kidsOf r).length)->∀ y:Nat,y = ((kidsOf r)[i]).rep->max d (y + if b then 1 else 0)<=r.rep:=fun b hb y hy=>by
   cases b with
   | false=>simp only [Bool.false_eq_true,if_false]; have:=hrg.1; omega
   | true=>have:=hrg.2 (hb rfl).1 (hb rfl).2; simp only [if_true]; omega
  refine ⟨_,rfl,a,us0,0,_,rfl,rfl,SqT.of ea1,atI_nat (j:=0) h0,g_REPEATING,_,rfl,.inr (t_REPEATING _),rfl,rfl,_,rfl,?_⟩
  show if inV (.str (woS (rlW r))) [.str "each",.str "over"] = true then _ else _
  rw [inEO]
  have fin:∀ (b:Bool) (c:Int) (o:Option V),c = (if b = true then 1 else 0)->(b = true->we = true/\i + 1 = (kidsOf r).length)->((we = true/\i + 1 = (kidsOf r).length)->b = true)->∀ (y:Nat) (H6:Hp),y = ((kidsOf r)[i]).rep->Same (upd H' t (.tup [.int i,x])) H6->∃ (o3 o4 o5:Option V) (d':Nat),[some (.ref a),some (.ref l),some (.int (if (y:Int) + c > (d:Int) then (y:Int) + c else (d:Int))),some (.int i),some x,o] = [some (.ref a),some (.ref l),some (.int d'),o3,o4,o5]/\Same H1 H6/\d'<=r.rep/\∀ (j:Nat) (p:Rl),j < i + 1->(kidsOf r)[j]? = some p->p.rep + (if we = true/\j + 1 = (kidsOf r).length then 1 else 0)<=d':=fun b c o hc hb hb2 y H6 hy s6=>by
   have hg:=go b hb y hy
   refine ⟨_,_,_,max d (y + if b then 1 else 0),congrArg (fun z=>[some (.ref a),some (.ref l),some (V.int z),some (.int i),some x,o]) ?_,sT.trans s6,hg,fun j p hj hp=>?_⟩
   rotate_left
   ·by_cases hji:j < i
    ·have:=hall j p hji hp
     omega
    ·obtain rfl:j = i:=by omega
     rw [hki] at hp
     cases hp
     rw [hy]
     cases b with
     | true=>rw [if_pos (hb rfl)]; simp only [if_true]; omega
     | false=>rw [if_neg (fun z=>by have:=hb2 z; cases this)]; simp only [Bool.false_eq_true,if_false]; omega
   subst hc
   cases b <;> simp only [Bool.false_eq_true,if_false,if_true] <;> split <;> omega
  cases he:wEO (rlW r) with
  | false=>
   refine iteF ⟨_,rfl,_,rfl,x,_,rfl,rwx,fit_kids hfit _ hpm,by omega,fun H6 s6=>?_⟩
   refine ⟨_,rfl,_,rfl,iteF ⟨_,_,rfl,rfl,_,_,rfl,?_⟩⟩
   exact fin false _ _ rfl (fun z=>nomatch z) (fun z=>by rw [hwe,he] at z; cases z.1) _ H6 rfl s6
  | true=>
   refine iteT ⟨_,rfl,_,rfl,_,_,rfl,.inl ⟨_,SqL.of (sT _ _ el),rfl⟩,_,_,rfl,rfl,rfl,?_⟩
   refine ⟨_,rfl,_,rfl,x,_,rfl,rwx,fit_kids hfit _ hpm,by omega,fun H6 s6=>?_⟩
   refine ⟨_,rfl,_,rfl,?_⟩
   refine ite2 (fun c=>?_) (fun c=>?_)
   ·have hc:i + 1 = (kidsOf r).length:=by
     have:=of_decide_eq_true c
     injection this with this
     omega
    refine ⟨_,_,rfl,rfl,_,_,rfl,?_⟩
    exact fin true _ _ rfl (fun _=>⟨hwe.trans he,hc⟩) (fun _=>rfl) _ H6 rfl s6
   ·refine ⟨_,_,rfl,rfl,_,_,rfl,?_⟩
    exact fin false _ _ rfl (fun z=>nomatch z) (fun z=>absurd (decide_eq_true (congrArg V.int (show (i:Int) = (us.length:Int) - 1 by have:=z.2; omega))) c) _ H6 rfl s6
 ·obtain ⟨o3,o4,o5,d,rfl,s2,hd,hall⟩:=h
  have hge:r.rep<=d:=by
   rw [hrep]
   exact reps_sup fun j p hp=>hall j p (by have:=(List.getElem?_eq_some_iff.mp hp).1; omega) hp
  obtain rfl:d = r.rep:=by omega
  exact ⟨_,rfl,q H' (s1.trans s2)⟩
theorem sc_is_rule:FnScope ["thing"] ["thing"] (defScope s_is_rule):=⟨rfl,rfl,rfl,by decide +kernel,rfl,by decide +kernel,by decide +kernel⟩
theorem ok_is_rule (F:Fun K "is_rule" "is_rule" s_is_rule f fd) (G_repeated:Have P w K mg base "repeated" k ["expression"] (spRep 20)) (G_free_in:Have P w K mg base "free_in" k ["expression"] (spFree)) (G_is_formed:Have P w K mg base "is_formed" k ["thing"] (spFormed)) (m_MOST_REPEATED:∃ t,mg "MOST_REPEATED" = some (.int 2 t)):FnOk P w K mg base CX0 (k + 1) f fd ["thing"] (spIsRule):=by
 refine F.okQ sc_is_rule (fun vs H Q E h=>?_) (fun cdv A outer s H vs Q E hr h=>?_)
 ·obtain ⟨v,t,rfl,_⟩:=h
  rfl
 obtain ⟨v,t,rfl,rt,sm,q⟩:=h
 refine ⟨_,(pss_one (ps_ret (pe_and (pe_fn G_is_formed hr rfl (pa_cons (pv 0) pa_nil)) (pe_and (pe_cmpR (op_eqE (Nat.lt_of_le_of_lt (Nat.le_add_right _ 64) hr.units)) (pe_fn G_free_in hr rfl (pa_cons (pv 0) pa_nil)) (pe_lst pa_nil) (nomark _)) (pe_one (pe_cmpR op_le (pe_fn G_repeated hr rfl (pa_cons (pv 0) pa_nil)) (pe_globI rfl m_MOST_REPEATED) (nomark _))))))),?_⟩
 refine ⟨_,rfl,v,t,rfl,rt,sm,fun b H1 s1 hT hF=>⟨_,rfl,?_⟩⟩
 cases b with
 | false=>exact iteF (q false _ s1 (fun z=>nomatch z) (fun _ ⟨r,a,b,c,d,_⟩=>hF rfl ⟨r,a,b,c,d⟩))
 | true=>
 obtain ⟨r,rfl,g,hh,hm⟩:=hT rfl
 have hv:RW H v r.toW:=rt.toRW rfl
 have no:∀ H',Same H H'->(unb [] r≠[]\/2 < r.rep)->Q (.bl false) H':=fun H' s h=>q false H' s (fun z=>nomatch z) fun _ ⟨r',a,b,_,_,c,d⟩=>by
  rw [← Rl.toT_inj g b a] at c d
  rcases h with h | h
  ·exact h c
  ·omega
 refine iteT ⟨_,rfl,v,r,rfl,RW.mono (same_tups' s1) hv,g,by omega,by omega,fun l ss H2 hl s2 el hs hp=>?_⟩
 refine ⟨zl0,fun e he=>?_⟩
 have s3:=Same.new (o:=.lst []) he
 have s123:=s1.trans (s2.trans s3)
 have el3:=s3 _ _ el
 refine ⟨l,e,ss.map V.str,rfl,rfl,SqL.of el3,SqL.of upd_same,_,rfl,?_⟩
 by_cases hss:ss = []
 ·subst hss
  have hu:unb [] r = []:=allS_nil (List.length_eq_zero_iff.mp (by rw [← hp.length_eq]; rfl))
  refine iteT ⟨_,rfl,v,r,rfl,RW.mono (same_tups' s123) hv,g,by omega,fun H4 s4=>⟨_,_,rfl,rfl,?_⟩⟩
  show Q (.bl (decide ((r.rep:Int)<=2))) H4
  by_cases hr2:r.rep<=2
  ·rw [decide_eq_true (by omega)]
   exact q true _ (s123.trans s4) (fun _=>⟨r,rfl,g,hh,hm,hu,hr2⟩) (fun z=>nomatch z)
  ·rw [decide_eq_false (by omega)]
   exact no _ (s123.trans s4) (.inr (by omega))
 ·have hem:(ss.map V.str).isEmpty = false:=by
   cases ss with
   | nil=>exact absurd rfl hss
   | cons _ _=>rfl
  rw [hem]
  refine iteF (no _ s123 (.inl fun z=>hss ?_))
  rw [z] at hp
  exact List.length_eq_zero_iff.mp (by rw [hp.length_eq]; rfl)
theorem RT.inv_tup {H:Hp}{v:V}{ts:List T} (h:RT H v (.tup ts)):∃ a vs,v = .ref a/\H a = some (.tup vs)/\RTs H vs ts:=by
 cases h with
 | tup e l r=>exact ⟨_,_,rfl,e,l,r⟩
theorem RTs.rt {H:Hp}{a:Addr}{vs:List V}{ts:List T} (h:RTs H vs ts) (e:H a = some (.tup vs)):RT H (.ref a) (.tup ts):=.tup e h.1 h.2
theorem sms_of:∀ {l:List T},(∀ y∈l,y.Sm)->Sms l
 | [],_=>trivial
 | y :: r,h=>⟨h y (by simp),sms_of fun z hz=>h z (List.mem_cons_of_mem _ hz)⟩
mutual
theorem gd_sm:∀ {r:Rl},r.Gd->r.toT.Sm
 | .lit x,h=>by
  rw [Rl.Gd] at h
  rw [toT_lit]
  exact ⟨by show 2<=100000; decide,(by show (Str.ofString "lit").length<=100000; decide +kernel),sm_toT x (th_of x h.1),trivial⟩
 | .var s,h=>by
  rw [Rl.Gd] at h
  have:=h.2.1
  rw [toT_var]
  exact ⟨by show 2<=100000; decide,(by show (Str.ofString "var").length<=100000; decide +kernel),(by show s.length<=100000; omega),trivial⟩
 | .op d bs ps,h=>by
  rw [Rl.Gd] at h
  have hb:=bcnt_le d
  have hl:=h.1.2.2.1
  have hp:ps.length<=8:=by
   have:=(gd_F1 (r:=.op d bs ps) (by rw [Rl.Gd]; exact h)).len
   rw [List.length_map] at this
   exact this
  rw [toT_op]
  refine ⟨?_,?_,sms_of fun y hy=>?_⟩
  ·rw [List.length_cons,List.length_append,List.length_map,List.length_map]; omega
  ·show (woS d).length<=100000
   cases d <;> decide +kernel
  ·rcases List.mem_append.mp hy with hy | hy
   ·obtain ⟨z,hz,rfl⟩:=List.mem_map.mp hy
    have:=(h.1.2.2.2.1 z hz).2.1
    show z.length<=100000
    omega
   ·obtain ⟨p,hp,rfl⟩:=List.mem_map.mp hy
    exact gds_sm h.2 p hp
theorem gds_sm:∀ {ps:List Rl},Gds ps->∀ p∈ps,p.toT.Sm
 | [],_,p,hp=>nomatch hp
 | q :: r,h,p,hp=>by
  rw [Gds] at h
  rcases List.mem_cons.mp hp with e | hp
  ·rw [e]; exact gd_sm h.1
  ·exact gds_sm h.2 p hp
end
def YT (te:TE) (σ:St) (H:Hp) (t:T):Prop:=∀ (H1:Hp) (Q:VK),Same H H1->(∀ v H2,Same H1 H2->RT H2 v t->Q v H2)->te σ H1 Q
def YA (ta:TA) (σ:St) (H:Hp) (ts:List T):Prop:=∀ (H1:Hp) (Q:List V->Hp->Prop),Same H H1->(∀ vs H2,Same H1 H2->RTs H2 vs ts->Q vs H2)->ta σ H1 Q
theorem RTs.nil {H:Hp}:RTs H [] []:=⟨rfl,fun i v t e=>by simp at e⟩
theorem RTs.cons {H:Hp}{v:V}{t:T}{vs:List V}{ts:List T} (h:RT H v t) (g:RTs H vs ts):RTs H (v :: vs) (t :: ts):=by
 refine ⟨by rw [List.length_cons,List.length_cons,g.1],fun i v' t' a b=>?_⟩
 cases i with
 | zero=>cases a; cases b; exact h
 | succ i=>exact g.2 i v' t' (by simpa using a) (by simpa using b)
theorem yt_var {σ:St}{H:Hp}{i:Nat}{v:V}{t:T} (e:σ[i]? = some (some v)) (r:RT H v t):YT (tVar i) σ H t:=fun H1 Q s q=>⟨v,e,q v H1 (Same.refl _) (r.mono s)⟩
theorem ya_nil {σ:St}{H:Hp}:YA tNil σ H []:=fun H1 Q s q=>q [] H1 (Same.refl _) .nil
theorem ya_cons {σ:St}{H:Hp}{te:TE}{ta:TA}{t:T}{ts:List T} (h:YT te σ H t) (g:YA ta σ H ts):YA (tCons te ta) σ H (t :: ts):=fun H1 Q s q=>
 h H1 _ s fun v H2 s2 r2=>g H2 _ (s.trans s2) fun vs H3 s3 r3=>q (v :: vs) H3 (s2.trans s3) (.cons (r2.mono s3) r3)
theorem yt_tup {σ:St}{H:Hp}{ta:TA}{ts:List T} (g:YA ta σ H ts) (hl:ts.length<=1000):YT (tTup ta) σ H (.tup ts):=fun H1 Q s q=>
 g H1 _ s fun vs H2 s2 r2=>⟨Nat.le_trans (show vs.length<=1000 by rw [r2.1]; exact hl) (by decide),fun p hp=>q _ _ (s2.trans (Same.new hp)) ((r2.mono (Same.new hp)).rt upd_same)⟩
theorem YT.run {te:TE}{σ:St}{H:Hp}{t:T} (h:YT te σ H t) {Q:VK} (q:∀ v H2,Same H H2->RT H2 v t->Q v H2):te σ H Q:=h H Q (Same.refl _) q
theorem RTs.cat {H:Hp}{vs us:List V}{ts ps:List T} (h:RTs H vs ts) (g:RTs H us ps):RTs H (vs ++ us) (ts ++ ps):=by
 refine ⟨by rw [List.length_append,List.length_append,h.1,g.1],fun i v t a b=>?_⟩
 by_cases hi:i < vs.length
 ·rw [List.getElem?_append_left hi] at a
  rw [List.getElem?_append_left (by rw [← h.1]; exact hi)] at b
  exact h.2 i v t a b
 ·rw [List.getElem?_append_right (by omega)] at a
  rw [List.getElem?_append_right (by rw [← h.1]; omega),← h.1] at b
  exact g.2 _ v t a b
theorem yt_cat {K:PySem.W.Frag}{σ:St}{H:Hp}{ta tb:TE}{as bs:List T} (h:YT ta σ H (.tup as)) (g:YT tb σ H (.tup bs)) (hn:as≠[]) (hl:as.length + bs.length<=1000):YT (tOp (rCatT K) ta tb) σ H (.tup (as ++ bs)):=fun H1 Q s q=>
 h H1 _ s fun v H2 s2 r2=>g H2 _ (s.trans s2) fun u H3 s3 r3=>by
  obtain ⟨a,xs,rfl,ea,hxs⟩:=r2.inv_tup
  obtain ⟨b,ys,rfl,eb,hys⟩:=r3.inv_tup
  have l1:=hxs.1
  have l2:=hys.1
  refine ⟨a,b,xs,ys,rfl,rfl,SqT.of (s3 _ _ ea),SqT.of eb,(fun z=>hn (List.length_eq_zero_iff.mp (by rw [← l1,z]; rfl))),Nat.le_trans (show xs.length + ys.length<=1000 by omega) (by decide),fun z=>?_,fun _ p hp=>?_⟩
  ·have hb:bs = []:=List.length_eq_zero_iff.mp (by rw [← l2,z]; rfl)
   subst hb
   rw [List.append_nil] at q
   exact q _ H3 (s2.trans s3) (r2.mono s3)
  ·have s4:=Same.new (o:=.tup (xs ++ ys)) hp
   exact q _ _ ((s2.trans s3).trans s4) (((hxs.mono (s3.trans s4)).cat (hys.mono s4)).rt upd_same)
def tk (i:Nat) (n:Int):TE:=tCall spTake [] E0 (tCons (tVar i) (tCons (tC (.int n)) tNil))
end
end D
namespace L2
open PySem PySem.Spec PyProof.Rows
theorem sl_strB {X:Cx}:SlR X (fun x lo hi H Q=>∃ z:Str,x = .str z/\z.length<=10000000/\Q (.str (Txt.slice z lo hi)) H):=by
 intro zp s σ H x v vl vu lo hi sl Q I rx hs pl pu h
 obtain ⟨z,rfl,hz,q⟩:=h
 obtain ⟨t,rfl⟩:=rx
 refine ⟨"str",_,PySem.F.slot_str_getitem.lookup,typeIs_str _ _ _,?_⟩
 have hz':z.length<=sizeLine:=Nat.le_trans hz (by decide)
 have fin:∀ (l u:Option (Int × Tok)),partValue l = vl->partValue u = vu->Q (.str (Txt.slice z (l.map (·.1)) (u.map (·.1)))) H->wpAny (model X.prog X.w) X.A (getItem (.str z t) (.ref sl)) (EP X zp σ Q) X.xe s:=fun l u e1 e2 q=>by
  obtain ⟨o,ho,hc,hd⟩:=hs
  refine wpAny_getItem_str_slice (l:=l) (u:=u) (st:=none) ⟨o,ho,hc,by rw [hd,e1,e2]; rfl⟩ rfl (post_val_or_str ⟨Nat.le_trans (Txt.slice_le z _ _) hz',fun t' k=>?_⟩)
  exact ⟨.str _,H,I.tok k,⟨t',rfl⟩,q⟩
 cases pl with
 | none=>cases pu with
  | none=>exact fin none none rfl rfl q
  | int j tj=>exact fin none (some (j,tj)) rfl rfl q
 | int i ti=>cases pu with
  | none=>exact fin (some (i,ti)) none rfl rfl q
  | int j tj=>exact fin (some (i,ti)) (some (j,tj)) rfl rfl q
end L2
namespace D
open PySem L2
theorem smallB {n:Nat} (h:n<=10000000):n<=sizeLine:=Nat.le_trans h (by decide)
def spWordEnd:Sp:=fun vs H Q _=>∃ (t:Str) (pre q r:List Nat),vs = [.str t,.int (pre.length:Int)]/\t.cps.toList = pre ++ (q ++ r)/\(∀ c∈q,isEnd c = false)/\Cut r/\t.length<=10000000/\Q (.int ((pre.length + q.length:Nat):Int)) H
def spTextEnd:Sp:=fun vs H Q _=>∃ (t:Str) (pre q r:List Nat),vs = [.str t,.int (pre.length:Int)]/\t.cps.toList = pre ++ 34 :: (q ++ 34 :: r)/\(∀ c∈q,c≠34)/\t.length<=10000000/\Q (.int ((pre.length + 1 + q.length:Nat):Int)) H
theorem ends_in (c:Nat):decide (c∈wEnds.cps.toList) = isEnd c:=by
 rw [wEnds_list,Bool.eq_iff_iff,decide_eq_true_iff]
 simp [isEnd]
theorem gaps_in (c:Nat):decide (c∈wGaps.cps.toList) = decide (c = 32\/c = 10):=by
 rw [wGaps_list,Bool.eq_iff_iff,decide_eq_true_iff,decide_eq_true_iff]
 simp
theorem br_in (c:Nat):decide (c∈wBr.cps.toList) = decide (c = 40\/c = 41):=by
 rw [wBr_list,Bool.eq_iff_iff,decide_eq_true_iff,decide_eq_true_iff]
 simp
theorem quote_eq:Str.ofString "\"" = ⟨#[34]⟩:=by decide +kernel
section
variable {P:Program}{w:World}{K:PySem.W.Frag}{mg:Str->Option Value}{base:Heap}{f:Addr}{fd:FuncData}{k n:Nat}
theorem sc_word_end:FnScope ["text","start","end"] ["text","start"] (defScope s_word_end):=⟨rfl,rfl,rfl,by decide +kernel,rfl,by decide +kernel,by decide +kernel⟩
theorem ok_word_end (F:Fun K "word_end" "word_end" s_word_end f fd) (m_len:mg "len" = none) (m_WORD_ENDS:∃ t,mg "WORD_ENDS" = some (.str wEnds t)):FnOk P w K mg base CX0 (k + 1) f fd ["text","start"] (spWordEnd):=by
 refine F.okQ sc_word_end (fun vs H Q E h=>?_) (fun cdv A outer s H vs Q E hr h=>?_)
 ·obtain ⟨t,pre,q,r,rfl,_⟩:=h
  rfl
 obtain ⟨t,pre,q,r,rfl,ht,hq,hc,hz,qq⟩:=h
 have hl:t.length = pre.length + (q.length + r.length):=by rw [← str_len,ht]; simp
 refine ⟨_,(pss_cons (ps_set (i:=2) sc_word_end.nd rfl (Or.inl rfl) (pv 1))
  (pss_cons (ps_while PassesOwn.never (PW.pt (pw_and (pt_cmpR op_lt (pv 2) (pe_callB call_len rfl m_len PySem.boot_len (pa_cons (pv 0) pa_nil)) (nomark _)) (pw_and1 (pt_cmpR op_notin_str (pe_ix ix_str (pv 0) (pv 2) (fun _ _=>rfl)) (pe_globS rfl m_WORD_ENDS) (by rfl))))) (pss_one (ps_aug (i:=2) sc_word_end.nd rfl (Or.inl rfl) pe_int (ip_of iop_add))))
  (pss_one (ps_ret (pv 2))))),?_⟩
 refine ⟨_,rfl,?_⟩
 refine ⟨fun m σ' H'=>∃ j:Nat,j<=q.length/\σ' = [some (.str t),some (.int (pre.length:Int)),some (.int ((pre.length + j:Nat):Int))]/\H' = H/\m = q.length - j,
  ⟨_,0,Nat.zero_le _,rfl,rfl,rfl⟩,fun m σ' H' hW=>?_⟩
 obtain ⟨j,hj,rfl,rfl,rfl⟩:=hW
 refine ⟨_,rfl,_,rfl,_,_,rfl,⟨smallB (by omega),rfl⟩,_,_,rfl,rfl,_,rfl,?_⟩
 refine ite2 (fun e=>?_) (fun e=>?_)
 ·have e1:((pre.length + j:Nat):Int) < ((t.length:Nat):Int):=of_decide_eq_true e
  have hlt:pre.length + j < t.cps.toList.length:=by rw [str_len]; omega
  have hat:atI t.cps.toList ((pre.length + j:Nat):Int) = some t.cps.toList[pre.length + j]:=atI_nat (List.getElem?_eq_getElem hlt)
  refine ⟨_,rfl,_,rfl,t,_,_,rfl,rfl,smallB (by omega),hat,_,_,rfl,rfl,_,rfl,?_⟩
  rw [in_one,ends_in]
  by_cases hjq:j < q.length
  ·have ec:t.cps.toList[pre.length + j] = q[j]:=by
    have:t.cps.toList[pre.length + j]? = some q[j]:=by
     rw [ht,List.getElem?_append_right (by omega),show pre.length + j - pre.length = j by omega,List.getElem?_append_left hjq]
     simp
    rw [List.getElem?_eq_getElem hlt] at this
    exact Option.some.inj this
   rw [ec,hq _ (List.getElem_mem hjq)]
   refine iteT ⟨_,fun _ _ h=>h,?_⟩
   refine ⟨_,rfl,_,_,rfl,rfl,q.length - (j + 1),by omega,j + 1,hjq,?_,rfl,rfl⟩
   simp only [List.set]
   rw [show ((pre.length + j:Nat):Int) + 1 = ((pre.length + (j + 1):Nat):Int) by omega]
  ·have hje:j = q.length:=by omega
   subst hje
   cases r with
   | nil=>simp at hl; omega
   | cons c r=>
    have ec:t.cps.toList[pre.length + q.length] = c:=by
     have:t.cps.toList[pre.length + q.length]? = some c:=by
      rw [ht,List.getElem?_append_right (by omega),show pre.length + q.length - pre.length = q.length by omega,List.getElem?_append_right (by omega)]
      simp
     rw [List.getElem?_eq_getElem hlt] at this
     exact Option.some.inj this
    rw [ec,hc c r rfl]
    exact iteF ⟨_,rfl,qq⟩
 ·have e1:¬ ((pre.length + j:Nat):Int) < ((t.length:Nat):Int):=fun z=>e (decide_eq_true z)
  have hje:j = q.length:=by omega
  subst hje
  exact iteF ⟨_,rfl,qq⟩
theorem sc_text_end:FnScope ["text","start","end"] ["text","start"] (defScope s_text_end):=⟨rfl,rfl,rfl,by decide +kernel,rfl,by decide +kernel,by decide +kernel⟩
theorem ok_text_end (F:Fun K "text_end" "text_end" s_text_end f fd):FnOk P w K mg base CX0 (k + 1) f fd ["text","start"] (spTextEnd):=by
 refine F.okQ sc_text_end (fun vs H Q E h=>?_) (fun cdv A outer s H vs Q E hr h=>?_)
 ·obtain ⟨t,pre,q,r,rfl,_⟩:=h
  rfl
 obtain ⟨t,pre,q,r,rfl,ht,hq,hz,qq⟩:=h
 refine ⟨_,(pss_cons (ps_set (i:=2) sc_text_end.nd rfl (Or.inl rfl) (pe_bm PySem.F.plainAttrs_str PySem.F.slot_str_find PySem.F.type_str_find mt_find3 (pv 0) (pa_cons pe_str (pa_cons (pe_op op_add (pv 1) pe_int) pa_nil))))
  (pss_cons (ps_if (pt_cmpR op_lt (pv 2) pe_int (nomark _)) pss_never pss_nil)
  (pss_one (ps_ret (pv 2))))),?_⟩
 refine ⟨_,rfl,rfl,_,rfl,_,_,rfl,rfl,t,_,_,rfl,rfl,?_⟩
 rw [quote_eq,find_quote ht hq]
 refine ⟨_,rfl,_,_,rfl,rfl,_,rfl,?_⟩
 refine ite2 (fun e=>?_) (fun e=>⟨_,rfl,qq⟩)
 have e1:((pre.length + 1 + q.length:Nat):Int) < 0:=of_decide_eq_true e
 omega
def pcV:Pc->List V
 | .op=>[.str ⟨#[40]⟩,.str ⟨#[40]⟩]
 | .cl=>[.str ⟨#[41]⟩,.str ⟨#[41]⟩]
 | .txt q=>[.str "text",.str ⟨q.toArray⟩]
 | .word q=>[.str "word",.str ⟨q.toArray⟩]
def RPc (H:Hp) (v:V) (p:Pc):Prop:=∃ a,v = .ref a/\H a = some (.tup (pcV p))
structure RPs (H:Hp) (vs:List V) (ps:List Pc):Prop where
 len:vs.length = ps.length
 at':∀ (i:Nat) (v:V) (p:Pc),vs[i]? = some v->ps[i]? = some p->RPc H v p
theorem RPc.mono {H H':Hp} (t:Tups H H') {v:V}{p:Pc} (h:RPc H v p):RPc H' v p:=by
 obtain ⟨a,e,h⟩:=h
 exact ⟨a,e,t a _ h⟩
theorem RPs.mono {H H':Hp} (t:Tups H H') {vs:List V}{ps:List Pc} (h:RPs H vs ps):RPs H' vs ps:=⟨h.len,fun i v p a b=>(h.at' i v p a b).mono t⟩
theorem RPs.nil {H:Hp}:RPs H [] []:=⟨rfl,fun i v p a=>by simp at a⟩
theorem RPs.snoc {H:Hp}{vs:List V}{ps:List Pc}{v:V}{p:Pc} (h:RPs H vs ps) (x:RPc H v p):RPs H (vs ++ [v]) (ps ++ [p]):=by
 refine ⟨by simp [h.len],fun i u q a b=>?_⟩
 by_cases hi:i < vs.length
 ·rw [List.getElem?_append_left hi] at a
  rw [List.getElem?_append_left (by rw [← h.len]; exact hi)] at b
  exact h.at' i u q a b
 ·rw [List.getElem?_append_right (by omega)] at a
  rw [List.getElem?_append_right (by rw [← h.len]; omega)] at b
  rw [← h.len] at b
  cases hk:i - vs.length with
  | zero=>
   rw [hk] at a b
   have a1:v = u:=by simpa using a
   have b1:p = q:=by simpa using b
   rw [← a1,← b1]
   exact x
  | succ n=>rw [hk] at a; simp at a
def spPieces:Sp:=fun vs H Q _=>∃ (t:Str) (ps:List Pc),vs = [.str t]/\Spell t.cps.toList ps/\t.length<=10000000/\∀ (p:Addr) (us:List V) (H':Hp),H p = none->Same H H'->H' p = some (.lst us)->RPs H' us ps->Q (.ref p) H'
theorem cut_midS {pre q r:List Nat}{t:Str} (ht:t.cps.toList = pre ++ (q ++ r)):Txt.slice t (some ((pre.length:Nat):Int)) (some ((pre.length + q.length:Nat):Int)) = ⟨q.toArray⟩:=by
 have hl:t.length = pre.length + (q.length + r.length):=by rw [← str_len,ht]; simp
 have e:=slice_ss (z:=t) (a:=pre.length) (b:=pre.length + q.length) (by omega) (by omega)
 rw [ht] at e
 have e2:(Txt.slice t (some ((pre.length:Nat):Int)) (some ((pre.length + q.length:Nat):Int))).cps.toList = q:=by
  rw [e]
  simp
 cases hz:Txt.slice t (some ((pre.length:Nat):Int)) (some ((pre.length + q.length:Nat):Int)) with
 | mk cps=>
  rw [hz] at e2
  have:cps = q.toArray:=by rw [← e2]
  rw [this]
theorem Spell.len {r:List Nat}{ps:List Pc} (h:Spell r ps):ps.length<=r.length:=by
 induction h with
 | nil=>simp
 | gap _ _ ih=>simp; omega
 | op _ ih=>simp; omega
 | cl _ ih=>simp; omega
 | txt _ _ ih=>simp; omega
 | word _ _ _ _ ih=>simp; omega
def PInv (H:Hp) (t:Str) (ps:List Pc) (p:Addr) (m:Nat) (σ:St) (H':Hp):Prop:=∃ (pre r:List Nat) (done rest:List Pc) (us:List V) (o1 o2:Option V),
 σ = [some (.str t),some (.ref p),some (.int (pre.length:Int)),o1,o2]/\t.cps.toList = pre ++ r/\Spell r rest/\ps = done ++ rest/\H' p = some (.lst us)/\RPs H' us done/\Same H H'/\m = r.length
theorem same_put {H H':Hp}{p:Addr}{o:HO} (hp:H p = none) (s:Same H H'):Same H (upd H' p o):=fun b u e=>by
 rw [upd_ne (ne_of_none e hp)]
 exact s b u e
theorem sc_pieces_of:FnScope ["text","pieces","place","sign","end"] ["text"] (defScope s_pieces_of):=⟨rfl,rfl,rfl,by decide +kernel,rfl,by decide +kernel,by decide +kernel⟩
theorem ok_pieces_of (F:Fun K "pieces_of" "pieces_of" s_pieces_of f fd) (G_text_end:Have P w K mg base "text_end" k ["text","start"] (spTextEnd)) (G_word_end:Have P w K mg base "word_end" k ["text","start"] (spWordEnd)) (m_len:mg "len" = none) (m_BETWEEN:∃ t,mg "BETWEEN" = some (.str wGaps t)):FnOk P w K mg base CX0 (k + 1) f fd ["text"] (spPieces):=by
 refine F.okQ sc_pieces_of (fun vs H Q E h=>?_) (fun cdv A outer s H vs Q E hr h=>?_)
 ·obtain ⟨t,ps,rfl,_⟩:=h
  rfl
 obtain ⟨t,ps,rfl,hs,hz,qq⟩:=h
 refine ⟨_,(pss_cons (ps_set (i:=1) sc_pieces_of.nd rfl (Or.inl rfl) (pe_lst pa_nil))
  (pss_cons (ps_set (i:=2) sc_pieces_of.nd rfl (Or.inl rfl) pe_int)
  (pss_cons (ps_while PassesOwn.never (pt_cmpR op_lt (pv 2) (pe_callB call_len rfl m_len PySem.boot_len (pa_cons (pv 0) pa_nil)) (nomark _)) (pss_cons (ps_set (i:=3) sc_pieces_of.nd rfl (Or.inl rfl) (pe_ix ix_str (pv 0) (pv 2) (fun _ _=>rfl)))
  (pss_one (ps_if (pt_cmpR op_in_str (pv 3) (pe_globS rfl m_BETWEEN) (by rfl)) (pss_one (ps_aug (i:=2) sc_pieces_of.nd rfl (Or.inl rfl) pe_int (ip_of iop_add))) (pss_one (ps_if (pt_cmpR op_in_str (pv 3) pe_str (by rfl)) (pss_cons (ps_expr (pe_bm PySem.F.plainAttrs_list PySem.F.slot_list_append PySem.F.type_list_append mt_append (pv 1) (pa_cons (pe_tup (pa_cons (pv 3) (pa_cons (pv 3) pa_nil))) pa_nil)))
  (pss_one (ps_aug (i:=2) sc_pieces_of.nd rfl (Or.inl rfl) pe_int (ip_of iop_add)))) (pss_one (ps_if (pt_cmpR op_eq (pv 3) pe_str (nomark _)) (pss_cons (ps_set (i:=4) sc_pieces_of.nd rfl (Or.inl rfl) (pe_fn G_text_end hr rfl (pa_cons (pv 0) (pa_cons (pv 2) pa_nil))))
  (pss_cons (ps_expr (pe_bm PySem.F.plainAttrs_list PySem.F.slot_list_append PySem.F.type_list_append mt_append (pv 1) (pa_cons (pe_tup (pa_cons pe_str (pa_cons (pe_slice sl_strB (pv 0) (po_some (pe_op op_add (pv 2) pe_int)) (po_some (pv 4))) pa_nil))) pa_nil)))
  (pss_one (ps_set (i:=2) sc_pieces_of.nd rfl (Or.inl rfl) (pe_op op_add (pv 4) pe_int))))) (pss_cons (ps_set (i:=4) sc_pieces_of.nd rfl (Or.inl rfl) (pe_fn G_word_end hr rfl (pa_cons (pv 0) (pa_cons (pv 2) pa_nil))))
  (pss_cons (ps_expr (pe_bm PySem.F.plainAttrs_list PySem.F.slot_list_append PySem.F.type_list_append mt_append (pv 1) (pa_cons (pe_tup (pa_cons pe_str (pa_cons (pe_slice sl_strB (pv 0) (po_some (pv 2)) (po_some (pv 4))) pa_nil))) pa_nil)))
  (pss_one (ps_set (i:=2) sc_pieces_of.nd rfl (Or.inl rfl) (pv 4)))))))))))))
  (pss_one (ps_ret (pv 1)))))),?_⟩
 refine ⟨zl0,fun p hp=>?_⟩
 have hlen:∀ {done rest:List Pc},ps = done ++ rest->done.length<=10000000:=fun {done rest} e=>by
  have:=hs.len
  rw [str_len] at this
  have h2:ps.length = done.length + rest.length:=by rw [e]; simp
  omega
 refine ⟨PInv H t ps p,⟨_,[],_,[],ps,[],none,none,rfl,rfl,hs,rfl,upd_same,RPs.nil,Same.new hp,rfl⟩,fun m σ' H' hW=>?_⟩
 obtain ⟨pre,r,done,rest,us,o1,o2,rfl,ht,sp,hps,hpu,hru,s1,rfl⟩:=hW
 have hl:t.length = pre.length + r.length:=by rw [← str_len,ht]; simp
 refine ⟨_,rfl,_,rfl,_,_,rfl,⟨smallB (by omega),rfl⟩,_,_,rfl,rfl,_,rfl,?_⟩
 have hus:us.length < sizeLine:=by
  rw [hru.len]
  exact Nat.lt_of_le_of_lt (hlen hps) (by decide)
 have more:∀ (a:Addr) (q:Pc) (H2:Hp),H2 = upd (upd H' a (.tup (pcV q))) p (.lst (us ++ [.ref a]))->H' a = none->RPs H2 (us ++ [.ref a]) (done ++ [q])/\Same H H2/\H2 p = some (.lst (us ++ [.ref a])):=fun a q H2 e ha=>by
  subst e
  have ap:p≠a:=ne_of_none hpu ha
  have t1:Tups H' (upd H' a (.tup (pcV q))):=tups_new ha
  have e1:upd H' a (.tup (pcV q)) p = some (.lst us):=by rw [upd_ne ap]; exact hpu
  have t2:Tups (upd H' a (.tup (pcV q))) (upd (upd H' a (.tup (pcV q))) p (.lst (us ++ [.ref a]))):=tups_put e1
  refine ⟨((hru.mono t1).mono t2).snoc ⟨a,rfl,t2 a _ upd_same⟩,same_put hp (s1.trans (Same.new ha)),upd_same⟩
 refine ite2 (fun e=>?_) (fun e=>?_)
 ·have e1:((pre.length:Nat):Int) < ((t.length:Nat):Int):=of_decide_eq_true e
  refine ⟨_,fun _ _ h=>h,?_⟩
  cases r with
  | nil=>simp at hl; omega
  | cons c r=>
  have hat:atI t.cps.toList ((pre.length:Nat):Int) = some c:=atI_nat (by rw [ht,List.getElem?_append_right (by omega)]; simp)
  refine ⟨_,rfl,_,rfl,t,_,c,rfl,rfl,smallB (by omega),hat,?_⟩
  have go1:∀ (x:Nat),((pre.length:Nat):Int) + 1 = (((pre ++ [x]).length:Nat):Int):=fun x=>by simp
  refine ⟨_,rfl,_,_,rfl,rfl,_,rfl,?_⟩
  rw [in_one,gaps_in]
  cases sp with
  | gap hg sp'=>
   rw [decide_eq_true hg]
   refine iteT ⟨_,rfl,_,_,rfl,rfl,r.length,by simp,pre ++ [c],r,done,rest,us,some (V.str ⟨#[c]⟩),o2,?_,by simp [ht],sp',hps,hpu,hru,s1,rfl⟩
   simp only [List.set]
   rw [go1 c]
  | @op r' rest' sp'=>
   rw [decide_eq_false (by omega)]
   refine iteF ⟨_,rfl,_,_,rfl,rfl,_,rfl,?_⟩
   rw [show Str.ofString "()" = wBr from rfl,in_one,br_in,decide_eq_true (.inl rfl)]
   refine iteT ⟨_,rfl,.inl ⟨rfl,_,SqL.of hpu⟩,_,rfl,_,rfl,zl2,fun a ha=>?_⟩
   have ap:p≠a:=ne_of_none hpu ha
   refine ⟨p,us,.ref a,rfl,rfl,by rw [upd_ne ap]; exact hpu,hus,?_⟩
   obtain ⟨m1,m2,m3⟩:=more a .op _ rfl ha
   refine ⟨_,rfl,_,_,rfl,rfl,r.length,by simp,pre ++ [40],r,done ++ [Pc.op],rest',us ++ [V.ref a],some (V.str ⟨#[40]⟩),o2,?_,by simp [ht],sp',by rw [hps]; simp,m3,m1,m2,rfl⟩
   simp only [List.set]
   rw [go1 40]
  | @cl r' rest' sp'=>
   rw [decide_eq_false (by omega)]
   refine iteF ⟨_,rfl,_,_,rfl,rfl,_,rfl,?_⟩
   rw [show Str.ofString "()" = wBr from rfl,in_one,br_in,decide_eq_true (.inr rfl)]
   refine iteT ⟨_,rfl,.inl ⟨rfl,_,SqL.of hpu⟩,_,rfl,_,rfl,zl2,fun a ha=>?_⟩
   have ap:p≠a:=ne_of_none hpu ha
   refine ⟨p,us,.ref a,rfl,rfl,by rw [upd_ne ap]; exact hpu,hus,?_⟩
   obtain ⟨m1,m2,m3⟩:=more a .cl _ rfl ha
   refine ⟨_,rfl,_,_,rfl,rfl,r.length,by simp,pre ++ [41],r,done ++ [Pc.cl],rest',us ++ [V.ref a],some (V.str ⟨#[41]⟩),o2,?_,by simp [ht],sp',by rw [hps]; simp,m3,m1,m2,rfl⟩
   simp only [List.set]
   rw [go1 41]
  | @txt q r' rest' hq sp'=>
   rw [decide_eq_false (by omega)]
   refine iteF ⟨_,rfl,_,_,rfl,rfl,_,rfl,?_⟩
   rw [show Str.ofString "()" = wBr from rfl,in_one,br_in,decide_eq_false (by omega)]
   refine iteF ⟨_,rfl,rfl,_,rfl,?_⟩
   rw [quote_eq,decide_eq_true rfl]
   refine iteT ⟨_,rfl,_,rfl,t,pre,q,r',rfl,ht,hq,hz,?_⟩
   refine ⟨_,rfl,.inl ⟨rfl,_,SqL.of hpu⟩,_,rfl,_,rfl,_,_,rfl,rfl,_,rfl,_,rfl,_,rfl,t,rfl,by omega,zl2,fun a ha=>?_⟩
   have ec:Txt.slice t (some (((pre.length:Nat):Int) + 1)) (some ((pre.length + 1 + q.length:Nat):Int)) = ⟨q.toArray⟩:=by
    have:=cut_midS (pre:=pre ++ [34]) (q:=q) (r:=34 :: r') (t:=t) (by rw [ht]; simp)
    rw [← go1 34] at this
    rw [show (pre ++ [(34:Nat)]).length + q.length = pre.length + 1 + q.length by simp] at this
    exact this
   have ap:p≠a:=ne_of_none hpu ha
   refine ⟨p,us,.ref a,rfl,rfl,by rw [upd_ne ap]; exact hpu,hus,?_⟩
   rw [ec]
   obtain ⟨m1,m2,m3⟩:=more a (.txt q) _ rfl ha
   refine ⟨_,rfl,_,_,rfl,rfl,r'.length,by simp; omega,pre ++ (34 :: (q ++ [34])),r',done ++ [Pc.txt q],rest',us ++ [V.ref a],some (V.str ⟨#[34]⟩),some (V.int ((pre.length + 1 + q.length:Nat):Int)),?_,by simp [ht],sp',by rw [hps]; simp,m3,m1,m2,rfl⟩
   simp only [List.set]
   rw [show ((pre.length + 1 + q.length:Nat):Int) + 1 = (((pre ++ (34 :: (q ++ [34]))).length:Nat):Int) by simp; omega]
  | @word _ q r' rest' hc hq cut sp'=>
   have hne:∀ x,isEnd x = true->c≠x:=fun x hx z=>by rw [z,hx] at hc; cases hc
   rw [decide_eq_false (by intro z; rcases z with z | z <;> exact hne _ rfl z)]
   refine iteF ⟨_,rfl,_,_,rfl,rfl,_,rfl,?_⟩
   rw [show Str.ofString "()" = wBr from rfl,in_one,br_in,decide_eq_false (by intro z; rcases z with z | z <;> exact hne _ rfl z)]
   refine iteF ⟨_,rfl,rfl,_,rfl,?_⟩
   rw [quote_eq,decide_eq_false (fun z=>hne 34 rfl (by simpa using z))]
   refine iteF ⟨_,rfl,_,rfl,t,pre,c :: q,r',rfl,by rw [ht]; simp,?_,cut,hz,?_⟩
   ·intro d hd
    rcases List.mem_cons.mp hd with rfl | hd
    ·exact hc
    ·exact hq d hd
   refine ⟨_,rfl,.inl ⟨rfl,_,SqL.of hpu⟩,_,rfl,_,rfl,_,rfl,_,rfl,_,rfl,t,rfl,by omega,zl2,fun a ha=>?_⟩
   have ec:=cut_midS (pre:=pre) (q:=c :: q) (r:=r') (t:=t) (by rw [ht]; simp)
   have ap:p≠a:=ne_of_none hpu ha
   refine ⟨p,us,.ref a,rfl,rfl,by rw [upd_ne ap]; exact hpu,hus,?_⟩
   rw [ec]
   obtain ⟨m1,m2,m3⟩:=more a (.word (c :: q)) _ rfl ha
   refine ⟨_,rfl,r'.length,by simp; omega,pre ++ (c :: q),r',done ++ [Pc.word (c :: q)],rest',us ++ [V.ref a],some (V.str ⟨#[c]⟩),some (V.int ((pre.length + (c :: q).length:Nat):Int)),?_,by simp [ht],sp',by rw [hps]; simp,m3,m1,m2,rfl⟩
   simp only [List.set]
   rw [List.length_append]
 ·have e1:¬ ((pre.length:Nat):Int) < ((t.length:Nat):Int):=fun z=>e (decide_eq_true z)
  have hr:r = []:=List.length_eq_zero_iff.mp (by omega)
  subst hr
  cases sp
  exact ⟨_,rfl,qq p us H' hp s1 hpu (by rw [hps]; simpa using hru)⟩
inductive RTr (H:Hp):V->Tr->Prop where
 | word {a:Addr}{q:List Nat}:H a = some (.tup [.str "word",.str ⟨q.toArray⟩])->RTr H (.ref a) (.word q)
 | txt {a:Addr}{q:List Nat}:H a = some (.tup [.str "text",.str ⟨q.toArray⟩])->RTr H (.ref a) (.txt q)
 | lst {a b:Addr}{vs:List V}{ts:List Tr}:H a = some (.tup [.str "list",.ref b])->H b = some (.tup vs)->vs.length = ts.length->(∀ (i:Nat) (v:V) (t:Tr),vs[i]? = some v->ts[i]? = some t->RTr H v t)->RTr H (.ref a) (.lst ts)
theorem RTr.mono {H H':Hp} (t:Tups H H') {v:V}{x:Tr} (h:RTr H v x):RTr H' v x:=by
 induction h with
 | word e=>exact .word (t _ _ e)
 | txt e=>exact .txt (t _ _ e)
 | lst e e2 l _ ih=>exact .lst (t _ _ e) (t _ _ e2) l ih
structure RTrs (H:Hp) (vs:List V) (ts:List Tr):Prop where
 len:vs.length = ts.length
 at':∀ (i:Nat) (v:V) (t:Tr),vs[i]? = some v->ts[i]? = some t->RTr H v t
theorem RTrs.mono {H H':Hp} (t:Tups H H') {vs:List V}{ts:List Tr} (h:RTrs H vs ts):RTrs H' vs ts:=⟨h.len,fun i v p a b=>(h.at' i v p a b).mono t⟩
theorem RTrs.nil {H:Hp}:RTrs H [] []:=⟨rfl,fun i v p a=>by simp at a⟩
theorem RTrs.snoc {H:Hp}{vs:List V}{ts:List Tr}{v:V}{t:Tr} (h:RTrs H vs ts) (x:RTr H v t):RTrs H (vs ++ [v]) (ts ++ [t]):=by
 refine ⟨by simp [h.len],fun i u q a b=>?_⟩
 by_cases hi:i < vs.length
 ·rw [List.getElem?_append_left hi] at a
  rw [List.getElem?_append_left (by rw [← h.len]; exact hi)] at b
  exact h.at' i u q a b
 ·rw [List.getElem?_append_right (by omega)] at a
  rw [List.getElem?_append_right (by rw [← h.len]; omega)] at b
  rw [← h.len] at b
  cases hk:i - vs.length with
  | zero=>
   rw [hk] at a b
   have a1:v = u:=by simpa using a
   have b1:t = q:=by simpa using b
   rw [← a1,← b1]
   exact x
  | succ n=>rw [hk] at a; simp at a
inductive Lv (H0 H:Hp):List Addr->List (List Tr)->Prop where
 | nil:Lv H0 H [] []
 | cons {a:Addr}{as:List Addr}{vs:List V}{ts:List Tr}{st:List (List Tr)}:H0 a = none->H a = some (.lst vs)->RTrs H vs ts->a ∉ as->Lv H0 H as st->Lv H0 H (a :: as) (ts :: st)
theorem Lv.len {H0 H:Hp}{as:List Addr}{st:List (List Tr)} (h:Lv H0 H as st):as.length = st.length:=by
 induction h with
 | nil=>rfl
 | cons _ _ _ _ _ ih=>simp [ih]
theorem Lv.mono {H0 H H':Hp}{as:List Addr}{st:List (List Tr)} (h:Lv H0 H as st) (t:Tups H H') (k:∀ a∈as,H' a = H a):Lv H0 H' as st:=by
 induction h with
 | nil=>exact .nil
 | cons h0 e r n _ ih=>exact .cons h0 (by rw [k _ List.mem_cons_self]; exact e) (r.mono t) n (ih fun a ha=>k a (List.mem_cons_of_mem _ ha))
theorem Lv.some {H0 H:Hp}{as:List Addr}{st:List (List Tr)} (h:Lv H0 H as st):∀ a∈as,H0 a = none/\∃ vs,H a = some (.lst vs):=by
 induction h with
 | nil=>intro a ha; cases ha
 | cons h0 e _ _ _ ih=>
  intro a ha
  rcases List.mem_cons.mp ha with rfl | ha
  ·exact ⟨h0,_,e⟩
  ·exact ih a ha
def spTrees:Sp:=fun vs H Q _=>∃ (t:Str) (ps:List Pc) (ts:List Tr),vs = [.str t]/\Spell t.cps.toList ps/\run ps [[]] = some [ts]/\t.length<=10000000/\∀ (p:Addr) (us:List V) (H':Hp),Same H H'->H' p = some (.lst us)->RTrs H' us ts->Q (.ref p) H'
def spOnly:Sp:=fun vs H Q _=>∃ (t:Str) (ps:List Pc) (x:Tr),vs = [.str t]/\Spell t.cps.toList ps/\run ps [[]] = some [[x]]/\t.length<=10000000/\∀ (v:V) (H':Hp),Same H H'->RTr H' v x->Q v H'
def wide (st:List (List Tr)):Nat:=(st.map (·.length)).sum
def TInv (H:Hp) (ps:List Pc) (ts:List Tr) (p L:Addr) (t:Str) (us:List V) (i:Nat) (σ:St) (H':Hp):Prop:=∃ (as:List Addr) (st:List (List Tr)) (o1 o2:Option V),
 σ = [some (.str t),some (.ref L),o1,o2]/\H L = none/\H' L = some (.lst (as.reverse.map V.ref))/\L ∉ as/\Lv H H' as st/\run (ps.drop i) st = some [ts]/\st≠[]/\st.length<=100/\wide st<=i/\H' p = some (.lst us)/\p ∉ as/\p≠L/\RPs H' us ps/\Same H H'
theorem drop_at {α:Type}{l:List α}{i:Nat}{x:α} (h:l[i]? = some x):l.drop i = x :: l.drop (i + 1):=by
 obtain ⟨hi,e⟩:=List.getElem?_eq_some_iff.mp h
 rw [List.drop_eq_getElem_cons hi,e]
theorem str40:Str.ofString "(" = ⟨#[40]⟩:=by decide +kernel
theorem str41:Str.ofString ")" = ⟨#[41]⟩:=by decide +kernel
theorem last_ref (as:List Addr) (a:Addr):atI ((a :: as).reverse.map V.ref) (-1) = some (.ref a):=by
 rw [List.reverse_cons,List.map_append]
 exact atI_last _ _
theorem push_top {H0 H':Hp}{ps:List Pc}{ts:List Tr}{p L a:Addr}{t:Str}{us vs:List V}{as:List Addr}{tr:List Tr}{st:List (List Tr)}{v:V}{x:Tr}{i:Nat}{o1 o2:Option V}
  (hL:H0 L = none) (eL:H' L = some (.lst ((a :: as).reverse.map V.ref))) (nL:L ∉ a :: as) (h0:H0 a = none) (ea:H' a = some (.lst vs)) (ra:RTrs H' vs tr) (na:a ∉ as) (lv:Lv H0 H' as st)
  (hrun:run (ps.drop (i + 1)) ((tr ++ [x]) :: st) = some [ts]) (hst:st.length + 1<=100) (hw:wide (tr :: st)<=i) (ep:H' p = some (.lst us)) (np:p ∉ a :: as) (pL:p≠L) (rp:RPs H' us ps) (s1:Same H0 H') (rx:RTr H' v x):
  TInv H0 ps ts p L t us (i + 1) [some (.str t),some (.ref L),o1,o2] (upd H' a (.lst (vs ++ [v]))):=by
 have tp:Tups H' (upd H' a (.lst (vs ++ [v]))):=tups_put ea
 have ne:∀ {b:Addr},b ∉ a :: as->b≠a:=fun hb z=>hb (z ▸ List.mem_cons_self)
 refine ⟨a :: as,(tr ++ [x]) :: st,o1,o2,rfl,hL,by rw [upd_ne (ne nL)]; exact eL,nL,.cons h0 upd_same ((ra.mono tp).snoc (rx.mono tp)) na (lv.mono tp fun b hb=>upd_ne fun z=>na (z ▸ hb)),hrun,by simp,by simpa using hst,?_,by rw [upd_ne (ne np)]; exact ep,np,pL,rp.mono tp,same_put h0 s1⟩
 simp only [wide,List.map_cons,List.sum_cons,List.length_append,List.length_singleton] at hw ⊢
 omega
theorem sc_trees_of:FnScope ["text","levels","piece","inner"] ["text"] (defScope s_trees_of):=⟨rfl,rfl,rfl,by decide +kernel,rfl,by decide +kernel,by decide +kernel⟩
theorem ok_trees_of (F:Fun K "trees_of" "trees_of" s_trees_of f fd) (G_pieces_of:Have P w K mg base "pieces_of" k ["text"] (spPieces)) (m_len:mg "len" = none) (m_tuple:mg "tuple" = none) (m_MOST_BRACKETS:∃ t,mg "MOST_BRACKETS" = some (.int 100 t)):FnOk P w K mg base CX0 (k + 1) f fd ["text"] (spTrees):=by
 refine F.okQ sc_trees_of (fun vs H Q E h=>?_) (fun cdv A outer s H vs Q E hr h=>?_)
 ·obtain ⟨t,ps,ts,rfl,_⟩:=h
  rfl
 obtain ⟨t,ps,ts,rfl,hs,hrun,hz,qq⟩:=h
 refine ⟨_,(pss_cons (ps_set (i:=1) sc_trees_of.nd rfl (Or.inl rfl) (pe_lst (pa_cons (pe_lst pa_nil) pa_nil)))
  (pss_cons (ps_for PassesOwn.never rfl (pi_list (pe_fn G_pieces_of hr rfl (pa_cons (pv 0) pa_nil))) (pg_name (i:=2) sc_trees_of.nd rfl (Or.inl rfl)) (pss_one (ps_if (pt_cmpR op_eq (pe_ix ix_tup (pv 2) pe_int (fun _ _=>rfl)) pe_str (nomark _)) (pss_cons (ps_expr (pe_bm PySem.F.plainAttrs_list PySem.F.slot_list_append PySem.F.type_list_append mt_append (pv 1) (pa_cons (pe_lst pa_nil) pa_nil)))
  (pss_one (ps_if (pt_cmpR op_gt (pe_callB call_len rfl m_len PySem.boot_len (pa_cons (pv 1) pa_nil)) (pe_globI rfl m_MOST_BRACKETS) (nomark _)) pss_never pss_nil))) (pss_one (ps_if (pt_cmpR op_eq (pe_ix ix_tup (pv 2) pe_int (fun _ _=>rfl)) pe_str (nomark _)) (pss_cons (ps_if (pt_cmpR op_eq (pe_callB call_len rfl m_len PySem.boot_len (pa_cons (pv 1) pa_nil)) pe_int (nomark _)) pss_never pss_nil)
  (pss_cons (ps_set (i:=3) sc_trees_of.nd rfl (Or.inl rfl) (pe_bm0 PySem.F.plainAttrs_list PySem.F.slot_list_pop PySem.F.type_list_pop mt_pop (pv 1)))
  (pss_one (ps_expr (pe_bm PySem.F.plainAttrs_list PySem.F.slot_list_append PySem.F.type_list_append mt_append (pe_ix ix_list (pv 1) (pe_un un_neg pe_int) (fun _ _=>rfl)) (pa_cons (pe_tup (pa_cons pe_str (pa_cons (pe_callTy call_tuple_of rfl m_tuple boot_tupleT (pa_cons (pv 3) pa_nil)) pa_nil))) pa_nil)))))) (pss_one (ps_expr (pe_bm PySem.F.plainAttrs_list PySem.F.slot_list_append PySem.F.type_list_append mt_append (pe_ix ix_list (pv 1) (pe_un un_neg pe_int) (fun _ _=>rfl)) (pa_cons (pv 2) pa_nil)))))))))
  (pss_cons (ps_if (pt_cmpR op_gt (pe_callB call_len rfl m_len PySem.boot_len (pa_cons (pv 1) pa_nil)) pe_int (nomark _)) pss_never pss_nil)
  (pss_one (ps_ret (pe_ix ix_list (pv 1) pe_int (fun _ _=>rfl))))))),?_⟩
 refine ⟨zl0,fun a ha=>⟨zl1,fun L hL=>?_⟩⟩
 have sA:=Same.new (o:=.lst []) ha
 have sL:=Same.new (o:=.lst [.ref a]) hL
 refine ⟨_,rfl,t,ps,rfl,hs,hz,fun p us H1 hp s1 ep rp=>?_⟩
 have hLa:L≠a:=fun z=>by
  rw [z,upd_same] at hL
  cases hL
 have hHL:H L = none:=by
  rw [upd_ne hLa] at hL
  exact hL
 have hpL:p≠L:=fun z=>by rw [z,upd_same] at hp; cases hp
 have hpa:p≠a:=fun z=>by rw [z,upd_ne (Ne.symm hLa),upd_same] at hp; cases hp
 have eL1:H1 L = some (.lst [.ref a]):=s1 _ _ upd_same
 have ea1:H1 a = some (.lst []):=s1 _ _ (sL _ _ upd_same)
 have sH1:Same H H1:=(sA.trans sL).trans s1
 have hbig:ps.length<=10000000:=by
  have:=hs.len
  rw [str_len] at this
  omega
 refine ⟨p,rfl,⟨_,SqL.of ep⟩,for_list (xs:=us) (TInv H ps ts p L t us)
  ⟨[a],[[]],none,none,rfl,hHL,eL1,by simp [hLa],.cons ha ea1 RTrs.nil (by simp) .nil,by simpa using hrun,by simp,by simp,by simp [wide],ep,by simp [hpa],hpL,rp,sH1⟩
  (fun i σ' H' _ h=>by obtain ⟨as,st,o1,o2,_,_,_,_,_,_,_,_,_,e,_⟩:=h; exact SqL.of e) (fun i x σ' H' hx h=>?_) (fun σ' H' h=>?_)⟩
 ·obtain ⟨as,st,o1,o2,rfl,_,eL,nL,lv,hr2,hst,hst2,hw,ep2,np,_,rp2,s2⟩:=h
  have hi:i < us.length:=(List.getElem?_eq_some_iff.mp hx).1
  have hi2:i < ps.length:=by rw [← rp2.len]; exact hi
  have hq:ps[i]? = some ps[i]:=List.getElem?_eq_getElem hi2
  obtain ⟨b,rfl,eb⟩:=rp2.at' i x _ hx hq
  rw [drop_at hq] at hr2
  dsimp only [gName]
  have hwl:∀ {tr:List Tr}{rest:List (List Tr)}{vs:List V},wide (tr :: rest)<=i->vs.length = tr.length->vs.length < sizeLine:=fun {tr rest vs} h1 h2=>by
   simp only [wide,List.map_cons,List.sum_cons] at h1
   exact Nat.lt_of_le_of_lt (show vs.length<=10000000 by omega) (by decide)
  cases hpc:ps[i] with
  | op=>
   rw [hpc] at eb hr2
   refine ⟨_,rfl,b,_,0,_,rfl,rfl,SqT.of eb,rfl,rfl,_,rfl,?_⟩
   rw [str40,decide_eq_true rfl]
   have hlt:st.length < 100:=by
    by_cases z:st.length < 100
    ·exact z
    ·simp only [run,if_neg z] at hr2; cases hr2
   simp only [run,if_pos hlt] at hr2
   refine iteT ⟨_,rfl,.inl ⟨rfl,_,SqL.of eL⟩,zl0,fun c hc=>?_⟩
   have cL:L≠c:=ne_of_none eL hc
   have nas:c ∉ as:=fun z=>by
    obtain ⟨_,vs,e⟩:=lv.some c z
    rw [hc] at e; cases e
   have hHc:H c = none:=by
    cases e:H c with
    | none=>rfl
    | some o=>rw [s2 _ _ e] at hc; cases hc
   have cp:p≠c:=ne_of_none ep2 hc
   have eL2:upd H' c (.lst []) L = some (.lst (as.reverse.map V.ref)):=by rw [upd_ne cL]; exact eL
   refine ⟨L,_,.ref c,rfl,rfl,eL2,Nat.lt_of_le_of_lt (show (as.reverse.map V.ref).length<=10000000 by simp; have:=lv.len; omega) (by decide),?_⟩
   have t1:Tups H' (upd H' c (.lst [])):=tups_new hc
   have t2:Tups (upd H' c (.lst [])) (upd (upd H' c (.lst [])) L (.lst (as.reverse.map V.ref ++ [.ref c]))):=tups_put eL2
   refine ⟨_,rfl,_,_,rfl,.inl ⟨_,SqL.of upd_same,rfl⟩,_,_,rfl,rfl,_,rfl,?_⟩
   have hlen:((as.reverse.map V.ref ++ [V.ref c]).length:Nat) = st.length + 1:=by simp [lv.len]
   rw [hlen,decide_eq_false (by omega)]
   refine iteF ⟨c :: as,[] :: st,_,_,rfl,hHL,?_,?_,.cons hHc ?_ RTrs.nil nas (lv.mono (fun a vs e=>t2 a vs (t1 a vs e)) fun z hz=>?_),hr2,by simp,(by simp; omega),?_,?_,?_,hpL,(rp2.mono t1).mono t2,same_put hHL (s2.trans (Same.new hc))⟩
   ·rw [upd_same]; simp
   ·intro z
    rcases List.mem_cons.mp z with z | z
    ·exact cL z
    ·exact nL z
   ·rw [upd_ne (Ne.symm cL),upd_same]
   ·rw [upd_ne (show z≠L from fun e=>nL (by rw [← e]; exact hz)),upd_ne (show z≠c from fun e=>nas (by rw [← e]; exact hz))]
   ·simp only [wide,List.map_cons,List.sum_cons,List.length_nil] at hw ⊢
    omega
   ·rw [upd_ne hpL,upd_ne cp]; exact ep2
   ·intro z
    rcases List.mem_cons.mp z with z | z
    ·exact cp z
    ·exact np z
  | cl=>
   rw [hpc] at eb hr2
   refine ⟨_,rfl,b,_,0,_,rfl,rfl,SqT.of eb,rfl,rfl,_,rfl,?_⟩
   rw [str40,decide_eq_false (by intro z; exact absurd (by simpa using z:(⟨#[41]⟩:Str) = ⟨#[40]⟩) (by decide))]
   refine iteF ⟨_,rfl,b,_,0,_,rfl,rfl,SqT.of eb,rfl,rfl,_,rfl,?_⟩
   rw [str41,decide_eq_true rfl]
   cases lv with
   | nil=>exact absurd rfl hst
   | @cons a1 as1 vs1 tr1 st1 h0 ea ra na lv1=>
   cases lv1 with
   | nil=>simp only [run] at hr2; cases hr2
   | @cons a2 as2 vs2 tr2 st2 h02 ea2 ra2 na2 lv2=>
   simp only [run] at hr2
   have hlen:(((a1 :: a2 :: as2).reverse.map V.ref).length:Nat) = as2.length + 2:=by simp
   refine iteT ⟨_,rfl,_,_,rfl,.inl ⟨_,SqL.of eL,rfl⟩,rfl,_,rfl,?_⟩
   rw [hlen,decide_eq_false (fun z=>by injection z with z; omega)]
   have e12:a1≠a2:=fun z=>na (z ▸ List.mem_cons_self)
   have nL1:L≠a1:=fun z=>nL (z ▸ List.mem_cons_self)
   have nL2:L≠a2:=fun z=>nL (z ▸ List.mem_cons_of_mem _ List.mem_cons_self)
   refine iteF ⟨_,rfl,.inl ⟨rfl,_,SqL.of eL⟩,L,_,.ref a1,rfl,rfl,eL,?_,?_⟩
   ·simp
   have hdl:((a1 :: a2 :: as2).reverse.map V.ref).dropLast = (a2 :: as2).reverse.map V.ref:=by
    rw [List.reverse_cons,List.map_append]
    simp
   rw [hdl]
   have t1:Tups H' (upd H' L (.lst ((a2 :: as2).reverse.map V.ref))):=tups_put eL
   have ea2':upd H' L (.lst ((a2 :: as2).reverse.map V.ref)) a2 = some (.lst vs2):=by rw [upd_ne (Ne.symm nL2)]; exact ea2
   have ea1':upd H' L (.lst ((a2 :: as2).reverse.map V.ref)) a1 = some (.lst vs1):=by rw [upd_ne (Ne.symm nL1)]; exact ea
   refine ⟨_,rfl,_,rfl,L,_,-1,_,rfl,rfl,SqL.of upd_same,last_ref as2 a2,.inl ⟨rfl,_,SqL.of ea2'⟩,_,rfl,a1,vs1,rfl,.inl ⟨SqL.of ea1',fun c hc=>?_⟩⟩
   refine ⟨zl2,fun d hd=>?_⟩
   have s3:=Same.new (o:=.tup vs1) hc
   have s4:=Same.new (o:=.tup [.str "list",.ref c]) hd
   have s34:=s3.trans s4
   have t34:Tups H' _:=fun x vs e=>s34 _ _ (t1 x vs e)
   have hvs2:vs2.length < sizeLine:=by
    rw [ra2.len]
    simp only [wide,List.map_cons,List.sum_cons] at hw
    exact Nat.lt_of_le_of_lt (show tr2.length<=10000000 by omega) (by decide)
   refine ⟨a2,vs2,.ref d,rfl,rfl,s34 _ _ ea2',hvs2,?_⟩
   have hlv2:Lv H _ as2 st2:=lv2.mono t34 fun z hz=>by
    obtain ⟨_,vz,ez⟩:=lv2.some z hz
    have zL:z≠L:=fun e=>nL (e ▸ List.mem_cons_of_mem _ (List.mem_cons_of_mem _ hz))
    rw [s34 _ _ (show upd H' L (.lst ((a2 :: as2).reverse.map V.ref)) z = some (.lst vz) by rw [upd_ne zL]; exact ez),ez]
   refine push_top hHL (s34 _ _ upd_same) (fun z=>nL (List.mem_cons_of_mem _ z)) h02 (s34 _ _ ea2') (ra2.mono t34) na2 hlv2 hr2 ?_ ?_ (s34 _ _ (by rw [upd_ne hpL]; exact ep2)) (fun z=>np (List.mem_cons_of_mem _ z)) hpL (rp2.mono t34) ((same_put hHL s2).trans s34) (.lst (b:=c) (vs:=vs1) upd_same ?_ ?_ ?_)
   ·simp at hst2; omega
   ·simp only [wide,List.map_cons,List.sum_cons] at hw ⊢
    omega
   ·exact s4 _ _ upd_same
   ·exact ra.len
   ·exact fun j v x e1 e2=>(ra.at' j v x e1 e2).mono t34
  | txt q=>
   rw [hpc] at eb hr2
   refine ⟨_,rfl,b,_,0,_,rfl,rfl,SqT.of eb,rfl,rfl,_,rfl,?_⟩
   rw [str40,decide_eq_false (by intro z; exact absurd (by simpa using z:(Str.ofString "text") = ⟨#[40]⟩) (by decide +kernel))]
   refine iteF ⟨_,rfl,b,_,0,_,rfl,rfl,SqT.of eb,rfl,rfl,_,rfl,?_⟩
   rw [str41,decide_eq_false (by intro z; exact absurd (by simpa using z:(Str.ofString "text") = ⟨#[41]⟩) (by decide +kernel))]
   cases lv with
   | nil=>exact absurd rfl hst
   | @cons a1 as1 vs1 tr1 st1 h0 ea ra na lv1=>
   simp only [run] at hr2
   refine iteF ⟨_,rfl,_,rfl,L,_,-1,_,rfl,rfl,SqL.of eL,last_ref as1 a1,.inl ⟨rfl,_,SqL.of ea⟩,_,rfl,a1,vs1,.ref b,rfl,rfl,ea,hwl hw ra.len,?_⟩
   exact push_top hHL eL nL h0 ea ra na lv1 hr2 (by simpa using hst2) hw ep2 np hpL rp2 s2 (.txt eb)
  | word q=>
   rw [hpc] at eb hr2
   refine ⟨_,rfl,b,_,0,_,rfl,rfl,SqT.of eb,rfl,rfl,_,rfl,?_⟩
   rw [str40,decide_eq_false (by intro z; exact absurd (by simpa using z:(Str.ofString "word") = ⟨#[40]⟩) (by decide +kernel))]
   refine iteF ⟨_,rfl,b,_,0,_,rfl,rfl,SqT.of eb,rfl,rfl,_,rfl,?_⟩
   rw [str41,decide_eq_false (by intro z; exact absurd (by simpa using z:(Str.ofString "word") = ⟨#[41]⟩) (by decide +kernel))]
   cases lv with
   | nil=>exact absurd rfl hst
   | @cons a1 as1 vs1 tr1 st1 h0 ea ra na lv1=>
   simp only [run] at hr2
   refine iteF ⟨_,rfl,_,rfl,L,_,-1,_,rfl,rfl,SqL.of eL,last_ref as1 a1,.inl ⟨rfl,_,SqL.of ea⟩,_,rfl,a1,vs1,.ref b,rfl,rfl,ea,hwl hw ra.len,?_⟩
   exact push_top hHL eL nL h0 ea ra na lv1 hr2 (by simpa using hst2) hw ep2 np hpL rp2 s2 (.word eb)
 ·obtain ⟨as,st,o1,o2,rfl,_,eL,nL,lv,hr2,hst,hst2,hw,ep2,np,_,rp2,s2⟩:=h
  rw [rp2.len,List.drop_length] at hr2
  simp only [run,Option.some.injEq] at hr2
  subst hr2
  cases lv with
  | @cons a1 as1 vs1 tr1 st1 h0 ea ra na lv1=>
  cases lv1
  refine ⟨_,rfl,_,_,rfl,.inl ⟨_,SqL.of eL,rfl⟩,_,_,rfl,rfl,_,rfl,iteF ?_⟩
  exact ⟨_,rfl,L,_,0,_,rfl,rfl,SqL.of eL,rfl,qq a1 vs1 H' s2 ea ra⟩
theorem sc_only_tree:FnScope ["text","trees"] ["text"] (defScope s_only_tree):=⟨rfl,rfl,rfl,by decide +kernel,rfl,by decide +kernel,by decide +kernel⟩
theorem ok_only_tree (F:Fun K "only_tree" "only_tree" s_only_tree f fd) (G_trees_of:Have P w K mg base "trees_of" k ["text"] (spTrees)) (m_len:mg "len" = none):FnOk P w K mg base CX0 (k + 1) f fd ["text"] (spOnly):=by
 refine F.okQ sc_only_tree (fun vs H Q E h=>?_) (fun cdv A outer s H vs Q E hr h=>?_)
 ·obtain ⟨t,ps,x,rfl,_⟩:=h
  rfl
 obtain ⟨t,ps,x,rfl,hs,hrun,hz,qq⟩:=h
 refine ⟨_,(pss_cons (ps_set (i:=1) sc_only_tree.nd rfl (Or.inl rfl) (pe_fn G_trees_of hr rfl (pa_cons (pv 0) pa_nil)))
  (pss_cons (ps_if (pt_cmpR op_ne (pe_callB call_len rfl m_len PySem.boot_len (pa_cons (pv 1) pa_nil)) pe_int (nomark _)) pss_never pss_nil)
  (pss_one (ps_ret (pe_ix ix_list (pv 1) pe_int (fun _ _=>rfl)))))),?_⟩
 refine ⟨_,rfl,t,ps,[x],rfl,hs,hrun,hz,fun p us H1 s1 ep rp=>?_⟩
 have hl:us.length = 1:=rp.len
 match us,hl,rp with
 | [v],_,rp=>
 refine ⟨_,rfl,_,_,rfl,.inl ⟨_,SqL.of ep,rfl⟩,rfl,_,rfl,?_⟩
 refine iteF ⟨_,rfl,p,_,0,_,rfl,rfl,SqL.of ep,rfl,qq v H1 s1 (rp.at' 0 v x rfl rfl)⟩
theorem numC_str (i:Int):(Str.ofString (toString i)).cps.toList = numC i:=by
 unfold numC
 by_cases h:0<=i
 ·rw [if_pos h]
  obtain ⟨m,rfl⟩:=Int.eq_ofNat_of_zero_le h
  rw [PySem.W.KIN.signs_num]
  rfl
 ·rw [if_neg h]
  obtain ⟨m,rfl⟩:∃ m:Nat,i = Int.negSucc m:=by
   cases i with
   | ofNat m=>exact absurd (Int.natCast_nonneg m) h
   | negSucc m=>exact ⟨m,rfl⟩
  rw [PyProof.Rows.signs_ofString]
  show ("-" ++ Nat.repr (m + 1)).toList.map Char.toNat = 45 :: digs (m + 1)
  rw [String.toList_append,List.map_append,Nat.toList_repr]
  rfl
theorem numC_all (i:Int):∀ c∈numC i,c = 45\/(48<=c/\c<=57):=by
 unfold numC
 intro c hc
 split at hc
 ·exact .inr (digs_all _ c hc)
 ·rcases List.mem_cons.mp hc with rfl | hc
  ·exact .inl rfl
  ·exact .inr (digs_all _ c hc)
theorem numC_ne (i:Int):numC i≠[]:=by
 unfold numC
 split
 ·exact digs_ne _
 ·simp
theorem numC_len {i:Int} (h1:-(10 ^ 60) < i) (h2:i < 10 ^ 60):(numC i).length<=61:=by
 unfold numC
 split
 ·have:=digs_len 60 i.toNat (by decide) (by omega)
  omega
 ·have:=digs_len 60 i.natAbs (by decide) (by omega)
  rw [List.length_cons]
  omega
theorem numC_end (i:Int):∀ c∈numC i,isEnd c = false:=fun c hc=>by
 have:=numC_all i c hc
 simp only [isEnd,Bool.or_eq_false_iff,beq_eq_false_iff_ne]
 omega
theorem digs_val (m:Nat):NumText.digitsVal (digs m) = m:=PySem.W.KIN.val_back m
theorem numC_int {x:Str}{i:Int} (hx:x.cps.toList = numC i) (h1:-(10 ^ 60) < i) (h2:i < 10 ^ 60):intText? x = some i:=by
 have hl:x.length<=4300:=by
  rw [← str_len,hx]
  have:=numC_len h1 h2
  omega
 by_cases h:0<=i
 ·have e:numC i = digs i.toNat:=by unfold numC; rw [if_pos h]
  rw [e] at hx
  have:=intText_digits (x:=x) (by rw [hx]; exact digs_all _) (by rw [hx]; exact digs_ne _) hl
  rw [hx,digs_val] at this
  rw [this]
  congr 1
  omega
 ·have e:numC i = 45 :: digs i.natAbs:=by unfold numC; rw [if_neg h]
  rw [e] at hx
  have:=intText_neg (x:=x) hx (digs_all _) (digs_ne _) hl
  rw [digs_val] at this
  rw [this]
  congr 1
  omega
mutual
theorem sh_len:∀ w:W,w.Ok->((shW numC w).length:Int) + 1<=64 * w.size
 | .num i,h=>by
  have:=numC_len h.1 h.2
  show ((numC i).length:Int) + 1<=64 * 1
  omega
 | .txt x,h=>by
  show (((34 :: (x.cps.toList ++ [34])).length:Nat):Int) + 1<=64 * (1 + (x.length:Int))
  rw [List.length_cons,List.length_append,str_len]
  simp
  omega
 | .lst ws,h=>by
  have:=shs_len ws h.2
  show (((40 :: (shWs numC ws ++ [41])).length:Nat):Int) + 1<=64 * (1 + sizes ws)
  rw [List.length_cons,List.length_append]
  simp
  omega
theorem shs_len:∀ ws:List W,Oks ws->((shWs numC ws).length:Int)<=64 * sizes ws
 | [],_=>by simp [shWs,sizes]
 | [w],h=>by
  have:=sh_len w h.1
  simp only [shWs,sizes]
  omega
 | w :: v :: r,h=>by
  have h1:=sh_len w h.1
  have h2:=shs_len (v :: r) h.2
  show (((shW numC w ++ 32 :: shWs numC (v :: r)).length:Nat):Int)<=64 * (w.size + sizes (v :: r))
  rw [List.length_append,List.length_cons]
  omega
end
def spShow (n:Nat):Sp:=fun vs H Q _=>∃ (v:V) (w:W),vs = [v]/\RW H v w/\w.Ok/\w.size<=1000/\w.depth < n/\∀ (x:Str) (H':Hp),x.cps.toList = shW numC w->Same H H'->Q (.str x) H'
theorem trWs_map:∀ ws:List W,trWs numC ws = ws.map (trW numC)
 | []=>rfl
 | w :: r=>by simp only [trWs,List.map_cons,trWs_map r]
theorem join_trs (ys:List Str):∀ ts:List Tr,ys.map (fun y=>y.cps.toList) = ts.map shT->(Txt.join (Str.ofString " ") ys).cps.toList = shTs ts:=by
 have fold:∀ (r:List Str) (acc:Array Nat),(r.foldl (fun acc p=>acc ++ (Str.ofString " ").cps ++ p.cps) acc).toList = acc.toList ++ (r.map fun y=>32 :: y.cps.toList).flatten:=fun r=>by
  induction r with
  | nil=>intro acc; simp
  | cons c r ih=>
   intro acc
   rw [List.foldl_cons,ih]
   have e0:(Str.ofString " ").cps.toList = [32]:=by decide +kernel
   simp [e0]
 cases ys with
 | nil=>
  intro ts h
  cases ts with
  | nil=>rw [shTs]; rfl
  | cons w r=>simp at h
 | cons y r=>
  intro ts h
  show (r.foldl (fun acc p=>acc ++ (Str.ofString " ").cps ++ p.cps) y.cps).toList = _
  rw [fold]
  have gen:∀ (r:List Str) (w:Tr) (vs:List Tr),r.map (fun y=>y.cps.toList) = vs.map shT->shT w ++ (r.map fun y=>32 :: y.cps.toList).flatten = shTs (w :: vs):=fun r=>by
   induction r with
   | nil=>
    intro w vs e
    cases vs with
    | nil=>simp [shTs]
    | cons v vs=>simp at e
   | cons z r ih=>
    intro w vs e
    cases vs with
    | nil=>simp at e
    | cons v vs=>
     have e1:z.cps.toList = shT v/\r.map (fun y=>y.cps.toList) = vs.map shT:=by simpa using e
     have:=ih v vs e1.2
     rw [shTs,← this,← e1.1]
     simp
  cases ts with
  | nil=>simp at h
  | cons w vs=>
   have e1:y.cps.toList = shT w/\r.map (fun y=>y.cps.toList) = vs.map shT:=by simpa using h
   rw [e1.1]
   exact gen r w vs e1.2
theorem join_blank (ys:List Str) (ws:List W) (h:ys.map (fun y=>y.cps.toList) = ws.map (shW numC)):(Txt.join (Str.ofString " ") ys).cps.toList = shWs numC ws:=by
 rw [← shTs_W]
 refine join_trs ys _ ?_
 rw [h,trWs_map,List.map_map]
 exact List.map_congr_left fun w _=>(shT_W numC w).symm
theorem sizes_mem {ws:List W}:∀ w∈ws,w.size<=sizes ws:=by
 induction ws with
 | nil=>intro w hw; cases hw
 | cons x r ih=>
  intro w hw
  have h1:=size_pos x
  have h2:=sizes_nn r
  simp only [sizes]
  rcases List.mem_cons.mp hw with rfl | hw
  ·omega
  ·have:=ih w hw
   omega
theorem sum_len (ys:List Str):∀ ws:List W,Oks ws->ys.map (fun y=>y.cps.toList) = ws.map (shW numC)->(((ys.map (·.length)).sum + ys.length:Nat):Int)<=64 * sizes ws:=by
 induction ys with
 | nil=>
  intro ws _ h
  cases ws with
  | nil=>simp [sizes]
  | cons w r=>simp at h
 | cons y r ih=>
  intro ws ok h
  cases ws with
  | nil=>simp at h
  | cons w vs=>
   have e1:y.cps.toList = shW numC w/\r.map (fun y=>y.cps.toList) = vs.map (shW numC):=by simpa using h
   have:=ih vs ok.2 e1.2
   have h2:=sh_len w ok.1
   rw [← e1.1,str_len] at h2
   simp only [List.map_cons,List.sum_cons,List.length_cons,sizes]
   omega
theorem strOf (x:Str):x = ⟨x.cps.toList.toArray⟩:=by cases x; simp
theorem sc_show_worth:FnScope ["worth"] ["worth"] (defScope s_show_worth):=⟨rfl,rfl,rfl,by decide +kernel,rfl,by decide +kernel,by decide +kernel⟩
theorem ok_show_worth {n:Nat} (F:Fun K "show_worth" "show_worth" s_show_worth f fd) (G_show_worth:Have P w K mg base "show_worth" k ["worth"] (spShow n)) (m_isi:mg "isinstance" = none) (m_str:mg "str" = none) (m_tuple:mg "tuple" = none):FnOk P w K mg base CX0 (k + 1) f fd ["worth"] (spShow (n + 1)):=by
 refine F.okQ sc_show_worth (fun vs H Q E h=>?_) (fun cdv A outer s H vs Q E hr h=>?_)
 ·obtain ⟨v,x,rfl,_⟩:=h
  rfl
 obtain ⟨v,x,rfl,rx,ok,hsz,hd,q⟩:=h
 refine ⟨_,(pss_cons (ps_if (pt_val (pe_callB call_isi rfl m_isi boot_isi (pa_cons (pv 0) (pa_cons (pe_ty rfl m_tuple boot_tupleT) pa_nil)))) (pss_one (ps_ret (pe_op op_add_str (pe_op op_add_str pe_str (pe_bm PySem.F.plainAttrs_str PySem.F.slot_str_join PySem.F.type_str_join mt_join pe_str (pa_cons (pe_lcomp [] [] rfl rfl (by decide +kernel) rfl (by decide +kernel) rfl (by decide +kernel) trivial rfl trivial (pi_tup (pv 0)) (fun C s H fp=>⟨pifs_nil,(pe_fn G_show_worth hr rfl (pa_cons (pv 0) pa_nil))⟩)) pa_nil))) pe_str))) pss_nil)
  (pss_cons (ps_if (pt_val (pe_callB call_isi rfl m_isi boot_isi (pa_cons (pv 0) (pa_cons (pe_ty rfl m_str boot_strT) pa_nil)))) (pss_one (ps_ret (pe_op op_add_str (pe_op op_add_str pe_str (pv 0)) pe_str))) pss_nil)
  (pss_one (ps_ret (pe_callTy call_str_int rfl m_str boot_strT (pa_cons (pv 0) pa_nil)))))),?_⟩
 cases rx with
 | num i=>
  refine ⟨_,rfl,_,_,_,_,rfl,.int i,isi_it,_,rfl,iteF ⟨_,rfl,_,_,_,_,rfl,.int i,isi_is,_,rfl,iteF ?_⟩⟩
  have hlog:i.natAbs.log2 < 1920:=by
   by_cases h0:i.natAbs = 0
   ·rw [h0]; decide
   ·have h1:=ok.1
    have h2:=ok.2
    have:=(Nat.log2_lt h0).mpr (show i.natAbs < 2 ^ 200 by
     have:(10:Int) ^ 60 < 2 ^ 200:=by decide
     omega)
    omega
  exact ⟨_,rfl,i,rfl,hlog,q _ _ (numC_str i) (Same.refl _)⟩
 | txt x=>
  refine ⟨_,rfl,_,_,_,_,rfl,.str x,isi_st,_,rfl,iteF ⟨_,rfl,_,_,_,_,rfl,.str x,isi_ss,_,rfl,iteT ?_⟩⟩
  have hx:x.length<=400:=ok.1
  have l1:(Str.ofString "\"").length = 1:=by decide +kernel
  refine ⟨_,rfl,_,_,rfl,rfl,small (by rw [l1]; omega),_,_,rfl,rfl,small (by rw [str_app_len,l1]; omega),q _ _ ?_ (Same.refl _)⟩
  rw [str_app,str_app,quote_eq]
  simp [shW]
 | @lst a vs ws e l at'=>
  refine ⟨_,rfl,_,_,_,_,rfl,.tup e,isi_tt,_,rfl,iteT ?_⟩
  have hl60:ws.length<=60:=ok.1
  have hsz2:1 + sizes ws<=1000:=hsz
  have hd2:1 + depths ws < n + 1:=hd
  dsimp only [tRet,tOp,tC,tBM,tCons,tNil]
  refine ⟨rfl,?_⟩
  refine rd_mapT (ws.map fun w=>V.str ⟨(shW numC w).toArray⟩) (by rfl) (SqT.of e) (by rw [List.length_map,l]) (small (by omega)) (fun i v y H1 R hv hy s1 hR=>?_) (fun H1 D s1 hD=>?_)
  ·rw [List.getElem?_map] at hy
   obtain ⟨wi,hwi,rfl⟩:=Option.map_eq_some_iff.mp hy
   have hm:=List.mem_of_getElem? hwi
   have hdm:=depths_mem wi hm
   have hsm:=sizes_mem wi hm
   refine ⟨_,rfl,v,wi,rfl,(at' i v wi hv hwi).mono (same_tups s1),Oks_mem ok.2 wi hm,by omega,by omega,fun x H2 hx s2=>?_⟩
   rw [strOf x,hx]
   exact hR H2 s2
  ·have hmap:(ws.map fun w=>(⟨(shW numC w).toArray⟩:Str)).map (fun y=>y.cps.toList) = ws.map (shW numC):=by rw [List.map_map]; simp [Function.comp_def]
   have hb:=sum_len _ ws ok.2 hmap
   have l1:(Str.ofString " ").length = 1:=by decide +kernel
   have hj:=join_blank _ ws hmap
   have hjl:((Txt.join (Str.ofString " ") (ws.map fun w=>(⟨(shW numC w).toArray⟩:Str))).length:Int)<=64000:=by
    rw [← str_len,hj]
    have:=shs_len ws ok.2
    omega
   have la:(Str.ofString "(").length = 1:=by decide +kernel
   have lb:(Str.ofString ")").length = 1:=by decide +kernel
   refine ⟨Str.ofString " ",D,ws.map fun w=>(⟨(shW numC w).toArray⟩:Str),rfl,rfl,SqL.of ?_,?_,_,_,rfl,rfl,small (by rw [la]; omega),_,_,rfl,rfl,small (by rw [str_app_len,la,lb]; omega),q _ _ ?_ (s1.trans (Same.new hD))⟩
   ·rw [upd_same,List.map_map]; rfl
   ·rw [l1,Nat.mul_one]; omega
   ·rw [str_app,str_app,hj,str40,str41]
    simp [shW]
def spWritesNum:Sp:=fun vs H Q _=>∃ (x:Str) (i:Int),vs = [.str x]/\x.cps.toList = numC i/\-(10 ^ 60) < i/\i < 10 ^ 60/\∀ H',Same H H'->Q (.bl true) H'
def spNumOf:Sp:=fun vs H Q _=>∃ (x:Str) (i:Int),vs = [.str x]/\x.cps.toList = numC i/\-(10 ^ 60) < i/\i < 10 ^ 60/\∀ H',Same H H'->Q (.int i) H'
theorem starts_iff (x:Str) (c:Nat):Txt.startswith x ⟨#[c]⟩ = decide (x.cps.toList[0]? = some c):=by
 unfold Txt.startswith
 rw [Bool.eq_iff_iff,Bool.and_eq_true,decide_eq_true_iff,decide_eq_true_iff]
 have e:=StrLaws.subAt_one x c 0
 constructor
 ·intro h
  have:=e.mp ⟨by simpa using h.1,h.2⟩
  simpa using this
 ·intro h
  have:=e.mpr (by simpa using h)
  exact ⟨by simpa using this.1,this.2⟩
theorem minus_eq:Str.ofString "-" = ⟨#[45]⟩:=by decide +kernel
theorem nought_eq:Str.ofString "0" = ⟨#[48]⟩:=by decide +kernel
theorem figs_in (c:Nat) (h:48<=c/\c<=57):decide (c∈wFigs.cps.toList) = true:=by
 rw [wFigs_list,decide_eq_true_iff]
 simp
 omega
theorem figs_tail {y:Str}{m:Nat} (hy:y.cps.toList = digs m) (hm:m < 10 ^ 60):y.length<=60/\0 < y.length/\∃ c s,digs m = c :: s/\(c = 48->m = 0):=by
 have h1:=digs_len 60 m (by decide) hm
 have h2:=digs_ne m
 rw [← hy,str_len] at h1
 cases hd:digs m with
 | nil=>exact absurd hd h2
 | cons c s=>
  refine ⟨h1,?_,c,s,rfl,fun e=>?_⟩
  ·rw [← str_len,hy,hd]; simp
  ·by_cases h0:m = 0
   ·exact h0
   ·exact absurd e (digs_head m (by omega) c s hd)
theorem sc_writes_number:FnScope ["word","figures"] ["word"] (defScope s_writes_number):=⟨rfl,rfl,rfl,by decide +kernel,rfl,by decide +kernel,by decide +kernel⟩
theorem ok_writes_number (F:Fun K "writes_number" "writes_number" s_writes_number f fd) (m_all:mg "all" = none) (m_len:mg "len" = none) (m_MOST_FIGURES:∃ t,mg "MOST_FIGURES" = some (.int 60 t)) (m_FIGURES:∃ t,mg "FIGURES" = some (.str wFigs t)):FnOk P w K mg base CX0 (k + 1) f fd ["word"] (spWritesNum):=by
 refine F.okQ sc_writes_number (fun vs H Q E h=>?_) (fun cdv A outer s H vs Q E hr h=>?_)
 ·obtain ⟨x,i,rfl,_⟩:=h
  rfl
 obtain ⟨x,i,rfl,hx,h1,h2,q⟩:=h
 have hxl:x.length<=61:=by rw [← str_len,hx]; exact numC_len h1 h2
 refine ⟨_,(pss_cons (ps_set (i:=1) sc_writes_number.nd rfl (Or.inl rfl) (pe_ifExp (pt_val (pe_bm PySem.F.plainAttrs_str PySem.F.slot_str_startswith PySem.F.type_str_startswith mt_starts (pv 0) (pa_cons pe_str pa_nil))) (pe_slice sl_strX (pv 0) (po_some pe_int) po_none) (pv 0)))
  (pss_cons (ps_if (PW.pt (pw_or (pt_cmpR op_eq (pv 1) pe_str (nomark _)) (pw_or1 (pt_cmpR op_gt (pe_callB call_len rfl m_len PySem.boot_len (pa_cons (pv 1) pa_nil)) (pe_globI rfl m_MOST_FIGURES) (nomark _))))) (pss_one (ps_ret pe_bl)) pss_nil)
  (pss_cons (ps_if (PW.pt (pw_and (pt_cmpR op_eq (pe_ix ix_str (pv 1) pe_int (fun _ _=>rfl)) pe_str (nomark _)) (pw_and1 (pt_cmpR op_ne (pv 0) pe_str (nomark _))))) (pss_one (ps_ret pe_bl)) pss_nil)
  (pss_one (ps_ret (pe_callB (call_all_bools rfl) rfl m_all boot_allB (pa_cons (pe_lcomp [] [] rfl rfl (by decide +kernel) rfl (by decide +kernel) rfl (by decide +kernel) trivial rfl trivial (pi_str (pv 1)) (fun C s H fp=>⟨pifs_nil,(pe_cmpR op_in_str (pv 0) (pe_globS rfl m_FIGURES) (by rfl))⟩)) pa_nil))))))),?_⟩
 refine seqI (fun σ' H'=>∃ (y:Str) (m:Nat),σ' = [some (.str x),some (.str y)]/\H' = H/\y.cps.toList = digs m/\m < 10 ^ 60/\(m = 0->x = ⟨#[48]⟩)) (fun σ' H' h=>?_) (fun tl=>?_)
 ·obtain ⟨y,m,rfl,rfl,hy,hm,h0⟩:=h
  obtain ⟨y1,y2,c,s',hd,hc⟩:=figs_tail hy hm
  refine ⟨_,rfl,rfl,_,rfl,?_⟩
  rw [decide_eq_false (fun z=>by injection z with z; rw [z] at y2; exact absurd y2 (by decide +kernel))]
  refine iteF ⟨_,rfl,_,_,rfl,⟨small (by omega),rfl⟩,_,_,rfl,rfl,_,rfl,?_⟩
  rw [decide_eq_false (by omega)]
  refine iteF ?_
  have hat:atI y.cps.toList 0 = some c:=by
   rw [hy,hd]
   exact atI_nat (j:=0) rfl
  refine ⟨_,rfl,y,0,c,rfl,rfl,small (by omega),hat,rfl,_,rfl,?_⟩
  refine ite2 (fun e=>?_) (fun e=>iteF ?_)
  ·have ec:c = 48:=by
    have:=of_decide_eq_true e
    rw [nought_eq] at this
    simpa using this
   refine ⟨_,rfl,rfl,_,rfl,?_⟩
   rw [h0 (hc ec),nought_eq,decide_eq_true rfl]
   refine iteF ?_
   dsimp only [tNext,tRet,tCB,tCons,tNil]
   refine rd_mapS (y.cps.toList.map fun c=>V.bl true) (by rfl) (by rw [List.length_map]; simp) (small (by have:y.cps.size = y.length:=rfl; omega)) (fun i c y' H1 R hc' hy' s1 hR=>?_) (fun H1 D s1 hD=>?_)
   ·have hc2:y.cps.toList[i]? = some c:=by simpa using hc'
    rw [List.getElem?_map,hc2] at hy'
    cases hy'
    refine ⟨_,rfl,_,_,rfl,rfl,?_⟩
    rw [in_one,figs_in c (digs_all m c (by rw [← hy]; exact List.mem_of_getElem? hc2))]
    exact hR _ (Same.refl _)
   ·refine ⟨D,y.cps.toList.map fun c=>true,rfl,SqL.of ?_,?_⟩
    ·rw [upd_same,List.map_map]; rfl
    ·have e3:(y.cps.toList.map fun c=>true).all id = true:=by simp
     rw [e3]
     exact q _ (s1.trans (Same.new hD))
  ·dsimp only [tNext,tRet,tCB,tCons,tNil]
   refine rd_mapS (y.cps.toList.map fun c=>V.bl true) (by rfl) (by rw [List.length_map]; simp) (small (by have:y.cps.size = y.length:=rfl; omega)) (fun i c y' H1 R hc' hy' s1 hR=>?_) (fun H1 D s1 hD=>?_)
   ·have hc2:y.cps.toList[i]? = some c:=by simpa using hc'
    rw [List.getElem?_map,hc2] at hy'
    cases hy'
    refine ⟨_,rfl,_,_,rfl,rfl,?_⟩
    rw [in_one,figs_in c (digs_all m c (by rw [← hy]; exact List.mem_of_getElem? hc2))]
    exact hR _ (Same.refl _)
   ·refine ⟨D,y.cps.toList.map fun c=>true,rfl,SqL.of ?_,?_⟩
    ·rw [upd_same,List.map_map]; rfl
    ·have e3:(y.cps.toList.map fun c=>true).all id = true:=by simp
     rw [e3]
     exact q _ (s1.trans (Same.new hD))
 ·refine ⟨_,rfl,rfl,x,_,rfl,rfl,_,rfl,?_⟩
  rw [minus_eq,starts_iff]
  by_cases h:0<=i
  ·have e:numC i = digs i.toNat:=by unfold numC; rw [if_pos h]
   rw [e] at hx
   have hn:¬ x.cps.toList[0]? = some 45:=fun z=>by
    rw [hx] at z
    have:=digs_all i.toNat 45 (List.mem_of_getElem? z)
    omega
   rw [decide_eq_false hn]
   refine iteF ⟨_,rfl,tl _ _ ⟨x,i.toNat,rfl,rfl,hx,by omega,fun z=>?_⟩⟩
   rw [strOf x,hx,z,digs_zero]
  ·have e:numC i = 45 :: digs i.natAbs:=by unfold numC; rw [if_neg h]
   rw [e] at hx
   rw [decide_eq_true (by rw [hx]; rfl)]
   refine iteT ⟨_,rfl,_,rfl,x,rfl,by omega,tl _ _ ⟨_,i.natAbs,rfl,rfl,?_,by omega,fun z=>by omega⟩⟩
   have:=slice_sn (z:=x) (a:=1) (by rw [← str_len,hx]; simp)
   rw [hx] at this
   simpa using this
theorem sc_number_of:FnScope ["word"] ["word"] (defScope s_number_of):=⟨rfl,rfl,rfl,by decide +kernel,rfl,by decide +kernel,by decide +kernel⟩
theorem ok_number_of (F:Fun K "number_of" "number_of" s_number_of f fd) (G_writes_number:Have P w K mg base "writes_number" k ["word"] (spWritesNum)) (m_int:mg "int" = none):FnOk P w K mg base CX0 (k + 1) f fd ["word"] (spNumOf):=by
 refine F.okQ sc_number_of (fun vs H Q E h=>?_) (fun cdv A outer s H vs Q E hr h=>?_)
 ·obtain ⟨x,i,rfl,_⟩:=h
  rfl
 obtain ⟨x,i,rfl,hx,h1,h2,q⟩:=h
 refine ⟨_,(pss_cons (ps_if (pt_not (pt_val (pe_fn G_writes_number hr rfl (pa_cons (pv 0) pa_nil)))) pss_never pss_nil)
  (pss_one (ps_ret (pe_callTy call_int_text rfl m_int boot_intT (pa_cons (pv 0) pa_nil))))),?_⟩
 refine ⟨_,rfl,x,i,rfl,hx,h1,h2,fun H1 s1=>⟨_,rfl,iteF ?_⟩⟩
 exact ⟨_,rfl,x,i,rfl,numC_int hx h1 h2,(by rw [← str_len,hx]; have:=numC_len h1 h2; omega),q H1 s1⟩
def spWTree (n:Nat):Sp:=fun vs H Q _=>∃ (v:V) (w:W),vs = [v]/\RTr H v (trW numC w)/\w.Ok/\w.depth < n/\∀ (u:V) (H':Hp),Same H H'->RW H' u w->Q u H'
theorem dWL:decide (V.str (Str.ofString "word") = V.str (Str.ofString "list")) = false:=by decide +kernel
theorem dTL:decide (V.str (Str.ofString "text") = V.str (Str.ofString "list")) = false:=by decide +kernel
theorem dWT:decide (V.str (Str.ofString "word") = V.str (Str.ofString "text")) = false:=by decide +kernel
theorem sc_worth_of_tree:FnScope ["tree"] ["tree"] (defScope s_worth_of_tree):=⟨rfl,rfl,rfl,by decide +kernel,rfl,by decide +kernel,by decide +kernel⟩
theorem ok_worth_of_tree {n:Nat} (F:Fun K "worth_of_tree" "worth_of_tree" s_worth_of_tree f fd) (G_number_of:Have P w K mg base "number_of" k ["word"] (spNumOf)) (G_worth_of_tree:Have P w K mg base "worth_of_tree" k ["tree"] (spWTree n)) (m_tuple:mg "tuple" = none):FnOk P w K mg base CX0 (k + 1) f fd ["tree"] (spWTree (n + 1)):=by
 refine F.okQ sc_worth_of_tree (fun vs H Q E h=>?_) (fun cdv A outer s H vs Q E hr h=>?_)
 ·obtain ⟨v,x,rfl,_⟩:=h
  rfl
 obtain ⟨v,x,rfl,rt,ok,hd,q⟩:=h
 refine ⟨_,(pss_cons (ps_if (pt_cmpR op_eq (pe_ix ix_tup (pv 0) pe_int (fun _ _=>rfl)) pe_str (nomark _)) (pss_one (ps_ret (pe_callTy call_tuple_of rfl m_tuple boot_tupleT (pa_cons (pe_lcomp [] [] rfl rfl (by decide +kernel) rfl (by decide +kernel) rfl (by decide +kernel) trivial rfl trivial (pi_tup (pe_ix ix_tup (pv 0) pe_int (fun _ _=>rfl))) (fun C s H fp=>⟨pifs_nil,(pe_fn G_worth_of_tree hr rfl (pa_cons (pv 0) pa_nil))⟩)) pa_nil)))) pss_nil)
  (pss_cons (ps_if (pt_cmpR op_eq (pe_ix ix_tup (pv 0) pe_int (fun _ _=>rfl)) pe_str (nomark _)) (pss_one (ps_ret (pe_ix ix_tup (pv 0) pe_int (fun _ _=>rfl)))) pss_nil)
  (pss_one (ps_ret (pe_fn G_number_of hr rfl (pa_cons (pe_ix ix_tup (pv 0) pe_int (fun _ _=>rfl)) pa_nil)))))),?_⟩
 cases x with
 | num i=>
  cases rt with
  | @word a _ e=>
  refine ⟨_,rfl,a,_,0,_,rfl,rfl,SqT.of e,rfl,rfl,_,rfl,?_⟩
  rw [dWL]
  refine iteF ⟨_,rfl,a,_,0,_,rfl,rfl,SqT.of e,rfl,rfl,_,rfl,?_⟩
  rw [dWT]
  refine iteF ⟨_,rfl,a,_,1,_,rfl,rfl,SqT.of e,rfl,_,i,rfl,by simp,ok.1,ok.2,fun H1 s1=>q _ _ s1 (.num i)⟩
 | txt z=>
  cases rt with
  | @txt a _ e=>
  refine ⟨_,rfl,a,_,0,_,rfl,rfl,SqT.of e,rfl,rfl,_,rfl,?_⟩
  rw [dTL]
  refine iteF ⟨_,rfl,a,_,0,_,rfl,rfl,SqT.of e,rfl,rfl,_,rfl,?_⟩
  rw [decide_eq_true rfl]
  refine iteT ⟨_,rfl,a,_,1,_,rfl,rfl,SqT.of e,rfl,q _ _ (Same.refl _) ?_⟩
  rw [← strOf z]
  exact .txt z
 | lst ws=>
  cases rt with
  | @lst a b vs _ e e2 l at'=>
  refine ⟨_,rfl,a,_,0,_,rfl,rfl,SqT.of e,rfl,rfl,_,rfl,?_⟩
  rw [decide_eq_true rfl]
  refine iteT ?_
  have hl60:ws.length<=60:=ok.1
  have hd2:1 + depths ws < n + 1:=hd
  have l2:vs.length = ws.length:=by rw [l,trWs_map,List.length_map]
  dsimp only [tRet,tCB,tCons,tNil]
  refine rd_mapTP (a:=b) (vs:=vs) (fun i us H1=>RWs H1 us (ws.take i)/\i<=ws.length) (fun R h=>⟨_,rfl,a,_,1,_,rfl,rfl,SqT.of e,rfl,h⟩) (SqT.of e2) (small (by omega)) ⟨⟨rfl,fun i v w e=>by simp at e⟩,Nat.zero_le _⟩ (fun i us H1 h=>by rw [h.1.len,List.length_take]; omega) (fun i v us H1 R hv h s1 hR=>?_) (fun us H1 D h s1 hD=>?_)
  ·have hi:i < ws.length:=by rw [← l2]; exact (List.getElem?_eq_some_iff.mp hv).1
   have hw:ws[i]? = some ws[i]:=List.getElem?_eq_getElem hi
   have hm:=List.mem_of_getElem? hw
   have hdm:=depths_mem ws[i] hm
   have rt:=at' i v (trW numC ws[i]) hv (by rw [trWs_map,List.getElem?_map,hw]; rfl)
   refine ⟨_,rfl,v,ws[i],rfl,rt.mono (same_tups s1),Oks_mem ok.2 _ hm,by omega,fun u H2 s2 ru=>hR u H2 s2 ⟨?_,hi⟩⟩
   rw [take_snoc hw]
   exact (h.1.mono (same_tups s2)).snoc ru
  ·have hr:=h.1
   rw [l2,List.take_length] at hr
   refine ⟨D,us,rfl,.inl ⟨SqL.of upd_same,fun t ht=>?_⟩⟩
   have s2:=(Same.new (o:=.lst us) hD).trans (Same.new (o:=.tup us) ht)
   exact q _ _ (s1.trans s2) (.lst upd_same hr.len fun i v w x y=>(hr.at' i v w x y).mono (same_tups s2))
def isLst:W->Bool
 | .lst _=>true
 | _=>false
def litW:List Nat:=(Str.ofString "lit").cps.toList
def nmT (z:Str):Tr:=.word z.cps.toList
mutual
def trR:Rl->Tr
 | .lit x=>if isLst x = true then .lst [.word litW,trW numC x] else trW numC x
 | .var s=>nmT s
 | .op d bs ps=>.lst (nmT (woS d) :: (bs.map nmT ++ trRs ps))
def trRs:List Rl->List Tr
 | []=>[]
 | p :: r=>trR p :: trRs r
end
theorem trR_no {x:W} (h:isLst x = false):trR (.lit x) = trW numC x:=by rw [trR,h]; rfl
theorem trR_yes {x:W} (h:isLst x = true):trR (.lit x) = .lst [.word litW,trW numC x]:=by rw [trR,if_pos h]
theorem trRs_map:∀ ps:List Rl,trRs ps = ps.map trR
 | []=>by rw [trRs]; rfl
 | p :: r=>by rw [trRs,trRs_map r]; rfl
theorem TrOks_mk:∀ {ts:List Tr},(∀ t∈ts,t.Ok)->TrOks ts
 | [],_=>by rw [TrOks]; trivial
 | t :: r,h=>by rw [TrOks]; exact ⟨h t (by simp),TrOks_mk fun u hu=>h u (List.mem_cons_of_mem _ hu)⟩
mutual
theorem trW_ok:∀ w:W,w.Ok->(trW numC w).Ok
 | .num i,h=>by rw [trW,Tr.Ok]; exact ⟨numC_ne i,numC_end i⟩
 | .txt x,h=>by rw [trW,Tr.Ok]; exact fun c hc=>(h.2 c hc).2.2.1
 | .lst ws,h=>by rw [trW,Tr.Ok]; exact trWs_ok ws h.2
theorem trWs_ok:∀ ws:List W,Oks ws->TrOks (trWs numC ws)
 | [],_=>by rw [trWs,TrOks]; trivial
 | w :: r,h=>by rw [trWs,TrOks]; exact ⟨trW_ok w h.1,trWs_ok r h.2⟩
end
theorem low_end {c:Nat} (h:97<=c/\c<=122):isEnd c = false:=by
 simp only [isEnd,Bool.or_eq_false_iff,beq_eq_false_iff_ne]
 omega
theorem Vr.tok {z:Str} (h:Vr z):(nmT z).Ok:=by
 unfold nmT
 rw [Tr.Ok]
 refine ⟨fun e=>?_,fun c hc=>low_end (h.2.2 c hc)⟩
 have h1:=h.1
 rw [← str_len,e] at h1
 exact absurd h1 (by decide)
theorem woS_tok (d:Wo):(nmT (woS d)).Ok:=by
 have h:∀ q:List Nat,q.isEmpty = false->(q.all fun c=>!isEnd c) = true->(Tr.word q).Ok:=fun q h1 h2=>by
  rw [Tr.Ok]
  refine ⟨fun e=>?_,fun c hc=>?_⟩
  ·rw [e] at h1
   cases h1
  ·have:=List.all_eq_true.mp h2 c hc
   simpa using this
 exact h _ (by cases d <;> decide +kernel) (by cases d <;> decide +kernel)
theorem litW_ok:(Tr.word litW).Ok:=woS_tok .lit
mutual
theorem trR_ok:∀ r:Rl,r.Gd->(trR r).Ok
 | .lit x,g=>by
  rw [Rl.Gd] at g
  rw [trR]
  split
  ·rw [Tr.Ok,TrOks,TrOks,TrOks]
   exact ⟨litW_ok,trW_ok x g.1,trivial⟩
  ·exact trW_ok x g.1
 | .var s,g=>by
  rw [Rl.Gd] at g
  rw [trR]
  exact Vr.tok g
 | .op d bs ps,g=>by
  rw [Rl.Gd] at g
  rw [trR,Tr.Ok,TrOks]
  refine ⟨woS_tok d,TrOks_mk fun t ht=>?_⟩
  rcases List.mem_append.mp ht with ht | ht
  ·obtain ⟨z,hz,rfl⟩:=List.mem_map.mp ht
   exact Vr.tok (g.1.2.2.2.1 z hz)
  ·exact trRs_ok ps g.2 t ht
theorem trRs_ok:∀ ps:List Rl,Gds ps->∀ t∈trRs ps,t.Ok
 | [],_,t,ht=>by rw [trRs] at ht; cases ht
 | p :: r,g,t,ht=>by
  rw [Gds] at g
  rw [trRs] at ht
  rcases List.mem_cons.mp ht with rfl | ht
  ·exact trR_ok p g.1
  ·exact trRs_ok r g.2 t ht
end
theorem deeps_le {ts:List Tr}{n:Nat} (h:∀ t∈ts,t.deep<=n):deeps ts<=n:=by
 induction ts with
 | nil=>rw [deeps]; omega
 | cons t r ih=>
  rw [deeps]
  have:=h t (by simp)
  have:=ih fun u hu=>h u (List.mem_cons_of_mem _ hu)
  omega
mutual
theorem trR_deep:∀ r:Rl,r.Gd->(trR r).deep<=r.high + 13
 | .lit x,g=>by
  rw [Rl.Gd] at g
  have h1:x.depth<=12:=g.2.2
  rw [trR]
  split
  ·rw [Tr.deep,deeps,deeps,deeps,Tr.deep,deep_W]; omega
  ·rw [deep_W]; omega
 | .var s,g=>by rw [trR,nmT,Tr.deep]; omega
 | .op d bs ps,g=>by
  rw [Rl.Gd] at g
  have h2:=trRs_deep ps g.2
  rw [trR,Tr.deep,deeps,Rl.high,nmT,Tr.deep]
  have:deeps (bs.map nmT ++ trRs ps)<=highs ps + 12:=deeps_le fun t ht=>by
   rcases List.mem_append.mp ht with ht | ht
   ·obtain ⟨z,hz,rfl⟩:=List.mem_map.mp ht
    rw [nmT,Tr.deep]; omega
   ·exact h2 t ht
  omega
theorem trRs_deep:∀ ps:List Rl,Gds ps->∀ t∈trRs ps,t.deep<=highs ps + 12
 | [],_,t,ht=>by rw [trRs] at ht; cases ht
 | p :: r,g,t,ht=>by
  rw [Gds] at g
  rw [trRs] at ht
  rw [highs]
  rcases List.mem_cons.mp ht with rfl | ht
  ·have:=trR_deep p g.1
   omega
  ·have:=trRs_deep r g.2 t ht
   omega
end
def wid (ts:List Tr):Nat:=(ts.map fun t=>(shT t).length + 1).sum
theorem wid_cons (t:Tr) (r:List Tr):wid (t :: r) = (shT t).length + 1 + wid r:=by unfold wid; rw [List.map_cons,List.sum_cons]
theorem wid_app (a b:List Tr):wid (a ++ b) = wid a + wid b:=by unfold wid; rw [List.map_append,List.sum_append]
theorem shTs_len:∀ ts:List Tr,(shTs ts).length<=wid ts
 | []=>by rw [shTs]; exact Nat.zero_le _
 | [t]=>by rw [shTs,wid_cons]; omega
 | t :: u :: r=>by
  have:=shTs_len (u :: r)
  rw [shTs,wid_cons,List.length_append,List.length_cons]
  omega
theorem wid_nms:∀ bs:List Str,(∀ z∈bs,Vr z)->wid (bs.map nmT)<=9 * bs.length
 | [],_=>by rw [List.map_nil]; exact Nat.zero_le _
 | z :: r,h=>by
  have h1:=wid_nms r fun y hy=>h y (List.mem_cons_of_mem _ hy)
  have h2:=(h z (by simp)).2.1
  rw [List.map_cons,wid_cons,nmT,shT,str_len,List.length_cons]
  omega
theorem woS_len (d:Wo):(shT (nmT (woS d))).length<=8:=by
 rw [nmT,shT,str_len]
 cases d <;> decide +kernel
mutual
theorem shR_len:∀ r:Rl,r.Gd->(shT (trR r)).length + 1<=65000 * r.many
 | .lit x,g=>by
  rw [Rl.Gd] at g
  have h1:=sh_len x g.1
  have h2:x.size<=1000:=g.2.1
  rw [trR,Rl.many]
  split
  ·rw [shT,shTs,shTs,shT_W,List.length_cons,List.length_append,List.length_append,List.length_cons,shT]
   have:litW.length = 3:=by decide +kernel
   rw [this]
   show 3 + (_ + 1) + 1 + 1 + 1<=_
   omega
  ·rw [shT_W]; omega
 | .var s,g=>by
  rw [Rl.Gd] at g
  have h2:=g.2.1
  rw [trR,Rl.many,nmT,shT,str_len]
  omega
 | .op d bs ps,g=>by
  rw [Rl.Gd] at g
  have h1:=shRs_len ps g.2
  have h2:=wid_nms bs g.1.2.2.2.1
  have h3:=woS_len d
  have h4:=bcnt_le d
  have h5:=g.1.2.2.1
  have h6:=shTs_len (nmT (woS d) :: (bs.map nmT ++ trRs ps))
  rw [wid_cons,wid_app] at h6
  rw [trR,Rl.many,shT,List.length_cons,List.length_append]
  show _ + 1 + 1 + 1<=_
  omega
theorem shRs_len:∀ ps:List Rl,Gds ps->wid (trRs ps)<=65000 * manys ps
 | [],_=>by rw [trRs,manys]; exact Nat.le_refl _
 | p :: r,g=>by
  rw [Gds] at g
  have h1:=shR_len p g.1
  have h2:=shRs_len r g.2
  rw [trRs,manys,wid_cons]
  omega
end
theorem wid_sum:∀ (ys:List Str) (ts:List Tr),ys.map (fun y=>y.cps.toList) = ts.map shT->(ys.map (·.length)).sum + ys.length = wid ts
 | [],[],_=>rfl
 | [],_ :: _,h=>by simp at h
 | _ :: _,[],h=>by simp at h
 | y :: r,t :: ts,h=>by
  have e1:y.cps.toList = shT t/\r.map (fun y=>y.cps.toList) = ts.map shT:=by simpa using h
  have:=wid_sum r ts e1.2
  rw [wid_cons,← e1.1,str_len,List.map_cons,List.sum_cons,List.length_cons]
  omega
def spShowR (n:Nat):Sp:=fun vs H Q _=>∃ (v:V) (r:Rl),vs = [v]/\RW H v r.toW/\r.Gd/\r.many<=100/\r.high < n/\∀ (x:Str) (H':Hp),x.cps.toList = shT (trR r)->Same H H'->Q (.str x) H'
theorem sc_show_rule:FnScope ["rule","word","shown","inner"] ["rule"] (defScope s_show_rule):=⟨rfl,rfl,rfl,by decide +kernel,rfl,by decide +kernel,by decide +kernel⟩
theorem ok_show_rule {n:Nat} (F:Fun K "show_rule" "show_rule" s_show_rule f fd) (G_variables_of:Have P w K mg base "variables_of" k ["expression"] (spVarsOf)) (G_parts_of:Have P w K mg base "parts_of" k ["expression"] (spPartsOf)) (G_show_rule:Have P w K mg base "show_rule" k ["rule"] (spShowR n)) (G_show_worth:Have P w K mg base "show_worth" k ["worth"] (spShow 14)) (m_isi:mg "isinstance" = none) (m_list:mg "list" = none) (m_tuple:mg "tuple" = none):FnOk P w K mg base CX0 (k + 1) f fd ["rule"] (spShowR (n + 1)):=by
 refine F.okQ sc_show_rule (fun vs H Q E h=>?_) (fun cdv A outer s H vs Q E hr h=>?_)
 ·obtain ⟨v,r,rfl,_⟩:=h
  rfl
 obtain ⟨v,r,rfl,rv,g,hm,hh,q⟩:=h
 obtain ⟨a,us,rfl,ea,ho⟩:=opn rv
 refine ⟨_,(pss_cons (ps_set (i:=1) sc_show_rule.nd rfl (Or.inl rfl) (pe_ix ix_tup (pv 0) pe_int (fun _ _=>rfl)))
  (pss_cons (ps_if (pt_cmpR op_eq (pv 1) pe_str (nomark _)) (pss_one (ps_ret (pe_ix ix_tup (pv 0) pe_int (fun _ _=>rfl)))) pss_nil)
  (pss_cons (ps_if (pt_cmpR op_eq (pv 1) pe_str (nomark _)) (pss_cons (ps_set (i:=2) sc_show_rule.nd rfl (Or.inl rfl) (pe_fn G_show_worth hr rfl (pa_cons (pe_ix ix_tup (pv 0) pe_int (fun _ _=>rfl)) pa_nil)))
  (pss_one (ps_ret (pe_ifExp (pt_val (pe_callB call_isi rfl m_isi boot_isi (pa_cons (pe_ix ix_tup (pv 0) pe_int (fun _ _=>rfl)) (pa_cons (pe_ty rfl m_tuple boot_tupleT) pa_nil)))) (pe_op op_add_str (pe_op op_add_str pe_str (pv 2)) pe_str) (pv 2))))) pss_nil)
  (pss_cons (ps_set (i:=3) sc_show_rule.nd rfl (Or.inl rfl) (pe_op op_cat (pe_op op_cat (pe_lst (pa_cons (pv 1) pa_nil)) (pe_callTy call_list_of rfl m_list boot_listT (pa_cons (pe_fn G_variables_of hr rfl (pa_cons (pv 0) pa_nil)) pa_nil))) (pe_lcomp [] [] rfl rfl (by decide +kernel) rfl (by decide +kernel) rfl (by decide +kernel) trivial rfl trivial (pi_list (pe_fn G_parts_of hr rfl (pa_cons (pv 0) pa_nil))) (fun C s H fp=>⟨pifs_nil,(pe_fn G_show_rule hr rfl (pa_cons (pv 0) pa_nil))⟩))))
  (pss_one (ps_ret (pe_op op_add_str (pe_op op_add_str pe_str (pe_bm PySem.F.plainAttrs_str PySem.F.slot_str_join PySem.F.type_str_join mt_join pe_str (pa_cons (pv 3) pa_nil))) pe_str))))))),?_⟩
 refine ⟨_,rfl,a,us,0,_,rfl,rfl,SqT.of ea,atI_nat (j:=0) ho.head,?_⟩
 refine ⟨_,rfl,rfl,_,rfl,?_⟩
 rw [show Str.ofString "var" = "var" from rfl,eqVar]
 cases ho with
 | var=>
  rename_i s
  exact iteT ⟨_,rfl,a,_,1,_,rfl,rfl,SqT.of ea,rfl,q s H (by rw [trR,nmT,shT]) (Same.refl _)⟩
 | lit hv=>
  rename_i x v
  rw [Rl.Gd] at g
  refine iteF ⟨_,rfl,rfl,_,rfl,?_⟩
  rw [show Str.ofString "lit" = "lit" from rfl,eqLit]
  refine iteT ⟨_,rfl,a,_,1,_,rfl,rfl,SqT.of ea,rfl,v,x,rfl,hv,g.1,g.2.1,Nat.lt_succ_of_le (Nat.le_succ_of_le g.2.2),fun y H1 hy s1=>?_⟩
  have hyl:(y.length:Int) + 1<=64000:=by
   have h1:=sh_len x g.1
   have h2:x.size<=1000:=g.2.1
   rw [← hy,str_len] at h1
   omega
  refine ⟨_,rfl,a,_,1,_,rfl,rfl,SqT.of (s1 _ _ ea),rfl,?_⟩
  cases hv with
  | num i=>exact ⟨_,_,_,_,rfl,.int i,isi_it,_,rfl,iteF ⟨_,rfl,q y H1 (by rw [hy,trR_no rfl,shT_W]) s1⟩⟩
  | txt z=>exact ⟨_,_,_,_,rfl,.str z,isi_st,_,rfl,iteF ⟨_,rfl,q y H1 (by rw [hy,trR_no rfl,shT_W]) s1⟩⟩
  | @lst b vs ws e l at'=>
   have la:(Str.ofString "(lit ").length = 5:=by decide +kernel
   have lb:(Str.ofString ")").length = 1:=by decide +kernel
   have ca:(Str.ofString "(lit ").cps.toList = 40 :: (litW ++ [32]):=by decide +kernel
   refine ⟨_,_,_,_,rfl,.tup (s1 _ _ e),isi_tt,_,rfl,iteT ⟨_,rfl,_,_,rfl,rfl,small (by rw [la]; omega),_,_,rfl,rfl,small (by rw [str_app_len,la,lb]; omega),q _ _ ?_ s1⟩⟩
   rw [str_app,str_app,hy,ca,str41,trR_yes rfl,shT,shTs,shTs,shT,shT_W]
   simp
 | op hvs=>
  rename_i d bs ps vs
  have g0:=g
  rw [Rl.Gd] at g0
  have hlv:wLit d = false:=g0.1.1
  have hvv:wVar d = false:=g0.1.2.1
  have hb:=g0.1.2.2.1
  have hwv:wVar (rlW (.op d bs ps)) = false:=hvv
  have hwl:wLit (rlW (.op d bs ps)) = false:=hlv
  rw [hwv]
  refine iteF ⟨_,rfl,rfl,_,rfl,?_⟩
  rw [show Str.ofString "lit" = "lit" from rfl,eqLit,hwl]
  have hps:ps.length<=100:=by
   have h1:=many_len ps
   rw [Rl.many] at hm
   omega
  have hbl:bs.length<=2:=by have:=bcnt_le d; omega
  refine iteF ⟨_,rfl,zl1,fun p1 hp1=>?_⟩
  have s1:=Same.new (o:=.lst [.str (woS d)]) hp1
  have e1:upd H p1 (.lst [.str (woS d)]) p1 = some (.lst [.str (woS d)]):=upd_same
  dsimp only [rlW]
  generalize upd H p1 (.lst [.str (woS d)]) = H1 at s1 e1
  refine ⟨_,rfl,a,d,bs.map V.str,vs,rfl,s1 _ _ ea,by rw [List.length_map]; exact hb,fun p2 H2 s2 e2=>?_⟩
  refine ⟨p2,bs.map V.str,rfl,.inr (SqT.of e2),fun p3 hp3=>?_⟩
  have s3:=Same.new (o:=.lst (bs.map V.str)) hp3
  have e3:upd H2 p3 (.lst (bs.map V.str)) p3 = some (.lst (bs.map V.str)):=upd_same
  generalize upd H2 p3 (.lst (bs.map V.str)) = H3 at s3 e3
  refine ⟨p1,p3,_,_,rfl,rfl,s3 _ _ (s2 _ _ e1),e3,small (by rw [List.length_map]; show 1 + _<=_; omega),fun p4 hp4=>?_⟩
  have s4:=Same.new (o:=.lst ([.str (woS d)] ++ bs.map V.str)) hp4
  have e4:upd H3 p4 (.lst ([.str (woS d)] ++ bs.map V.str)) p4 = some (.lst ([.str (woS d)] ++ bs.map V.str)):=upd_same
  generalize upd H3 p4 (.lst ([.str (woS d)] ++ bs.map V.str)) = H4 at s4 e4
  have s14:=((s1.trans s2).trans s3).trans s4
  refine ⟨_,rfl,?_⟩
  dsimp only [tNil,List.cons_append,List.nil_append]
  refine po_rl (rv.mono (same_tups' s14)) g fun l us H5 hl s5 el hus=>⟨l,rfl,⟨us,SqL.of el⟩,?_⟩
  have hul:us.length = ps.length:=by have:=hus.len; rw [this]; exact rlWs_len ps
  refine rd_drawL (vs:=us) (fun i xs H6=>Same H5 H6/\i<=ps.length/\xs = (ps.take i).map fun p=>V.str ⟨(shT (trR p)).toArray⟩) (small (by omega)) ⟨Same.refl _,Nat.zero_le _,rfl⟩ (fun i xs H6 h=>by rw [h.2.2,List.length_map,List.length_take]; omega) (fun i xs H6 h=>SqL.of (h.1 _ _ el)) (fun i x xs H6 R hx hP hR=>?_) (fun xs H6 D hP hD=>?_)
  ·obtain ⟨s6,hi,rfl⟩:=hP
   have hi2:i < ps.length:=by rw [← hul]; exact (List.getElem?_eq_some_iff.mp hx).1
   have hpi:ps[i]? = some ps[i]:=List.getElem?_eq_getElem hi2
   have hmem:=List.getElem_mem hi2
   have hw:(rlWs ps)[i]? = some ps[i].toW:=by rw [rlWs_map,List.getElem?_map,hpi]; rfl
   have h1:=many_mem hmem
   have h2:=high_mem hmem
   rw [Rl.many] at hm
   rw [Rl.high] at hh
   refine ⟨_,rfl,x,ps[i],rfl,(hus.at' i x _ hx hw).mono (same_tups' s6),g0.2.mem _ hmem,by omega,by omega,fun y H7 hy s7=>hR _ _ ⟨s6.trans s7,hi2,?_⟩⟩
   rw [take_snoc hpi,List.map_append,List.map_singleton,← hy,← strOf y]
  ·obtain ⟨s6,_,rfl⟩:=hP
   rw [hul,List.take_length]
   have s7:=Same.new (o:=.lst (ps.map fun p=>V.str ⟨(shT (trR p)).toArray⟩)) hD
   have e7:upd H6 D (.lst (ps.map fun p=>V.str ⟨(shT (trR p)).toArray⟩)) D = some (.lst (ps.map fun p=>V.str ⟨(shT (trR p)).toArray⟩)):=upd_same
   generalize upd H6 D (.lst (ps.map fun p=>V.str ⟨(shT (trR p)).toArray⟩)) = H7 at s7 e7
   have s47:=(s5.trans s6).trans s7
   refine ⟨p4,D,_,_,rfl,rfl,s47 _ _ e4,e7,small (by rw [List.length_append,List.length_map,List.length_map]; show 1 + _ + _<=_; omega),fun p5 hp5=>?_⟩
   have s8:=Same.new (o:=.lst ([.str (woS d)] ++ bs.map V.str ++ ps.map fun p=>V.str ⟨(shT (trR p)).toArray⟩)) hp5
   have e8:upd H7 p5 (.lst ([.str (woS d)] ++ bs.map V.str ++ ps.map fun p=>V.str ⟨(shT (trR p)).toArray⟩)) p5 = some (.lst ([.str (woS d)] ++ bs.map V.str ++ ps.map fun p=>V.str ⟨(shT (trR p)).toArray⟩)):=upd_same
   generalize upd H7 p5 (.lst ([.str (woS d)] ++ bs.map V.str ++ ps.map fun p=>V.str ⟨(shT (trR p)).toArray⟩)) = H8 at s8 e8
   have hmap:(woS d :: (bs ++ ps.map fun p=>(⟨(shT (trR p)).toArray⟩:Str))).map (fun y=>y.cps.toList) = (nmT (woS d) :: (bs.map nmT ++ trRs ps)).map shT:=by
    rw [trRs_map,List.map_cons,List.map_cons,List.map_append,List.map_append,List.map_map,List.map_map,List.map_map,nmT,shT]
    congr 2
   have hj:=join_trs _ _ hmap
   have hw:=wid_sum _ _ hmap
   have hlen:=shR_len _ g
   have hsl:(shT (trR (.op d bs ps))).length = (shTs (nmT (woS d) :: (bs.map nmT ++ trRs ps))).length + 2:=by
    rw [trR,shT,List.length_cons,List.length_append]; rfl
   have hwl2:wid (nmT (woS d) :: (bs.map nmT ++ trRs ps))<=65000 * (Rl.op d bs ps).many:=by
    have h1:=shRs_len ps g0.2
    have h2:=wid_nms bs g0.1.2.2.2.1
    have h3:=woS_len d
    rw [wid_cons,wid_app,Rl.many]
    omega
   have hjl:=congrArg List.length hj
   rw [str_len] at hjl
   have l1:(Str.ofString " ").length = 1:=by decide +kernel
   have la:(Str.ofString "(").length = 1:=by decide +kernel
   have lb:(Str.ofString ")").length = 1:=by decide +kernel
   have hz:(10000000:Nat)<=sizeLine:=by decide
   refine ⟨rfl,_,rfl,Str.ofString " ",p5,woS d :: (bs ++ ps.map fun p=>(⟨(shT (trR p)).toArray⟩:Str)),rfl,rfl,SqL.of ?_,?_,_,_,rfl,rfl,?_,_,_,rfl,rfl,?_,q _ _ ?_ ((s14.trans s47).trans s8)⟩
   ·rw [e8]
    simp
   ·rw [l1,Nat.mul_one]; omega
   ·rw [la]; omega
   ·rw [str_app_len,la,lb]; omega
   ·rw [str_app,str_app,hj,str40,str41,trR,shT]
    rfl
def spVarTree:Sp:=fun vs H Q _=>∃ (v:V) (z:Str),vs = [v]/\RTr H v (nmT z)/\Vr z/\∀ H',Same H H'->Q (.str z) H'
def spLitTrees:Sp:=fun vs H Q _=>∃ (a:Addr) (us:List V) (x:W),vs = [.ref a]/\H a = some (.tup us)/\RTrs H us [trW numC x]/\isLst x = true/\x.Ok/\x.depth<=12/\∀ (u:V) (H':Hp),Same H H'->RT H' u (Rl.lit x).toT->Q u H'
def spBra (n:Nat):Sp:=fun vs H Q _=>∃ (a:Addr) (us:List V) (r:Rl) (ts:List Tr),vs = [.ref a]/\H a = some (.tup us)/\RTrs H us ts/\trR r = .lst ts/\r.Gd/\r.high<=n/\∀ (u:V) (H':Hp),Same H H'->RT H' u r.toT->Q u H'
def spExpr (n:Nat):Sp:=fun vs H Q _=>∃ (v:V) (r:Rl),vs = [v]/\RTr H v (trR r)/\r.Gd/\r.high < n/\∀ (u:V) (H':Hp),Same H H'->RT H' u r.toT->Q u H'
def Rule (r:Rl):Prop:=r.Gd/\r.high<=12/\r.many<=60/\unb [] r = []/\r.rep<=2
theorem Rule.rt {r:Rl} (h:Rule r):RuleT r.toT:=⟨r,rfl,h⟩
def spRuleTree:Sp:=fun vs H Q _=>∃ (v:V) (r:Rl),vs = [v]/\RTr H v (trR r)/\Rule r/\∀ (u:V) (H':Hp),Same H H'->RT H' u r.toT->Q u H'
theorem RTrs.cons_inv {H:Hp}{us:List V}{t:Tr}{ts:List Tr} (h:RTrs H us (t :: ts)):∃ v vs,us = v :: vs/\RTr H v t/\RTrs H vs ts:=by
 cases us with
 | nil=>have:=h.len; cases this
 | cons v vs=>exact ⟨v,vs,rfl,h.at' 0 v t rfl rfl,by have:=h.len; simpa using this,fun i u x a b=>h.at' (i + 1) u x (by simpa using a) (by simpa using b)⟩
theorem RTrs.app_inv {H:Hp}:∀ {ts rs:List Tr}{us:List V},RTrs H us (ts ++ rs)->∃ xs ys,us = xs ++ ys/\RTrs H xs ts/\RTrs H ys rs
 | [],rs,us,h=>⟨[],us,rfl,.nil,h⟩
 | t :: ts,rs,us,h=>by
  obtain ⟨v,vs,rfl,h1,h2⟩:=RTrs.cons_inv h
  obtain ⟨xs,ys,rfl,h3,h4⟩:=RTrs.app_inv h2
  exact ⟨v :: xs,ys,rfl,⟨by rw [List.length_cons,List.length_cons,h3.len],fun i u x a b=>by
   cases i with
   | zero=>cases a; cases b; exact h1
   | succ i=>exact h3.at' i u x (by simpa using a) (by simpa using b)⟩,h4⟩
theorem RTr.word_inv {H:Hp}{v:V}{q:List Nat} (h:RTr H v (.word q)):∃ a,v = .ref a/\H a = some (.tup [.str "word",.str ⟨q.toArray⟩]):=by
 cases h with
 | word e=>exact ⟨_,rfl,e⟩
theorem RTr.nm_inv {H:Hp}{v:V}{z:Str} (h:RTr H v (nmT z)):∃ a,v = .ref a/\H a = some (.tup [.str "word",.str z]):=by
 obtain ⟨a,rfl,e⟩:=RTr.word_inv h
 exact ⟨a,rfl,by rw [e,← strOf z]⟩
theorem num_novar (i:Int):isVarB (.txt ⟨(numC i).toArray⟩) = false:=by
 cases h:isVarB (.txt ⟨(numC i).toArray⟩) with
 | false=>rfl
 | true=>
  have hv:=(isVarB_txt.mp h).2.2
  cases e:numC i with
  | nil=>exact absurd e (numC_ne i)
  | cons c r=>
   have h1:=hv c (by rw [e]; simp)
   have h2:=numC_all i c (by rw [e]; simp)
   omega
theorem head_of {r:Rl}{ts:List Tr} (h:trR r = .lst ts):∃ d ts',ts = nmT (woS d) :: ts'/\((∃ x,r = .lit x/\d = .lit/\ts' = [trW numC x]/\isLst x = true)\/∃ bs ps,r = .op d bs ps/\ts' = bs.map nmT ++ trRs ps):=by
 cases r with
 | lit x=>
  cases x with
  | num i=>rw [trR_no rfl,trW] at h; cases h
  | txt z=>rw [trR_no rfl,trW] at h; cases h
  | lst ws=>
   rw [trR_yes rfl] at h
   cases h
   exact ⟨.lit,_,rfl,.inl ⟨_,rfl,rfl,rfl,rfl⟩⟩
 | var z=>rw [trR,nmT] at h; cases h
 | op d bs ps=>
  rw [trR] at h
  cases h
  exact ⟨d,_,rfl,.inr ⟨bs,ps,rfl,rfl⟩⟩
end
end D
namespace L2
open PySem
theorem rd_drawT {K:PySem.W.Frag}{fr:List Nat}{te:TE}{σ:St}{H:Hp}{F:Addr->Hp->List V->Prop}{a:Addr}{vs:List V} (Pv:Nat->List V->Hp->Prop) (hz:vs.length<=sizeLine) (h0:Pv 0 [] H) (hlen:∀ i us H1,Pv i us H1->us.length = i) (hS:∀ i us H1,Pv i us H1->SqT K H1 a vs)
  (step:∀ (i:Nat) (v:V) (us:List V) (H1:Hp) (R:VK),vs[i]? = some v->Pv i us H1->(∀ y H2,Pv (i + 1) (us ++ [y]) H2->R y H2)->te (some v :: frees fr σ) H1 R)
  (fin:∀ (us:List V) (H1:Hp) (D:Addr),Pv vs.length us H1->H1 D = none->F D H1 us):
  ∃ W:Nat->Nat->List V->Hp->Prop,(∃ m,W 0 m [] H)/\∀ i m vs H,W i m vs H->vs.length<=sizeLine /\
   (((Itt K a).stop i H/\∀ D,H D = none->F D H vs) \/
    ((Itt K a).go i H/\∀ v H',(Itt K a).yld i H v H'->if true = true then te (some v :: frees fr σ) H' fun y H3=>∃ m',m' < m/\W (i + 1) m' (vs ++ [y]) H3 else ∃ m',m' < m/\W (i + 1) m' vs H')):=by
 refine ⟨fun i m us H1=>i<=vs.length/\m = vs.length - i/\Pv i us H1,⟨_,Nat.zero_le _,rfl,h0⟩,fun i m us H1 hW=>?_⟩
 obtain ⟨hi,hm,hu⟩:=hW
 have sq:=hS _ _ _ hu
 refine ⟨by rw [hlen _ _ _ hu]; omega,?_⟩
 by_cases hlt:i < vs.length
 ·refine .inr ⟨⟨vs,vs[i],sq,List.getElem?_eq_getElem hlt⟩,fun v H' hy=>?_⟩
  obtain ⟨rfl,hv⟩:=hy
  have hv:=hv vs sq
  refine iteT ?_
  exact step i v us H' _ hv hu fun y H2 p2=>⟨vs.length - (i + 1),by omega,by omega,rfl,p2⟩
 ·have e:i = vs.length:=by omega
  subst e
  exact .inl ⟨⟨vs,sq,by omega⟩,fun D hD=>fin us H1 D hu hD⟩
end L2
namespace D
open PySem L2
section
variable {P:Program}{w:World}{K:PySem.W.Frag}{mg:Str->Option Value}{base:Heap}{f:Addr}{fd:FuncData}{k n:Nat}
theorem sc_variable_of_tree:FnScope ["tree"] ["tree"] (defScope s_variable_of_tree):=⟨rfl,rfl,rfl,by decide +kernel,rfl,by decide +kernel,by decide +kernel⟩
theorem ok_variable_of_tree (F:Fun K "variable_of_tree" "variable_of_tree" s_variable_of_tree f fd) (G_is_variable:Have P w K mg base "is_variable" k ["thing"] (spIsVar)):FnOk P w K mg base CX0 (k + 1) f fd ["tree"] (spVarTree):=by
 refine F.okQ sc_variable_of_tree (fun vs H Q E h=>?_) (fun cdv A outer s H vs Q E hr h=>?_)
 ·obtain ⟨v,z,rfl,_⟩:=h
  rfl
 obtain ⟨v,z,rfl,rt,hv,q⟩:=h
 obtain ⟨a,rfl,e⟩:=rt.nm_inv
 refine ⟨_,(pss_cons (ps_if (PW.pt (pw_or (pt_cmpR op_ne (pe_ix ix_tup (pv 0) pe_int (fun _ _=>rfl)) pe_str (nomark _)) (pw_or1 (pt_not (pt_val (pe_fn G_is_variable hr rfl (pa_cons (pe_ix ix_tup (pv 0) pe_int (fun _ _=>rfl)) pa_nil))))))) pss_never pss_nil)
  (pss_one (ps_ret (pe_ix ix_tup (pv 0) pe_int (fun _ _=>rfl))))),?_⟩
 refine ⟨_,rfl,a,_,0,_,rfl,rfl,SqT.of e,rfl,rfl,_,rfl,?_⟩
 rw [decide_eq_true rfl]
 have h8:=hv.2.1
 refine iteF ⟨_,rfl,a,_,1,_,rfl,rfl,SqT.of e,rfl,.str z,.txt z,rfl,.txt z,(by show z.length<=100000; omega),fun H1 s1=>?_⟩
 rw [isVarB_txt.mpr hv]
 exact ⟨_,rfl,iteF ⟨_,rfl,a,_,1,_,rfl,rfl,SqT.of (s1 _ _ e),rfl,q H1 s1⟩⟩
theorem sc_lit_of_trees:FnScope ["trees"] ["trees"] (defScope s_lit_of_trees):=⟨rfl,rfl,rfl,by decide +kernel,rfl,by decide +kernel,by decide +kernel⟩
theorem ok_lit_of_trees (F:Fun K "lit_of_trees" "lit_of_trees" s_lit_of_trees f fd) (G_worth_of_tree:Have P w K mg base "worth_of_tree" k ["tree"] (spWTree 14)) (m_len:mg "len" = none):FnOk P w K mg base CX0 (k + 1) f fd ["trees"] (spLitTrees):=by
 refine F.okQ sc_lit_of_trees (fun vs H Q E h=>?_) (fun cdv A outer s H vs Q E hr h=>?_)
 ·obtain ⟨a,us,x,rfl,_⟩:=h
  rfl
 obtain ⟨a,us,x,rfl,ea,rs,hx,ok,hd,q⟩:=h
 obtain ⟨v,vs,rfl,rv,rs⟩:=RTrs.cons_inv rs
 have hv0:vs = []:=List.length_eq_zero_iff.mp rs.len
 subst hv0
 obtain ⟨b,c,rfl,e⟩:∃ b c,v = .ref b/\H b = some (.tup [.str "list",.ref c]):=by
  cases x with
  | num i=>cases hx
  | txt z=>cases hx
  | lst ws=>
   rw [trW] at rv
   cases rv with
   | lst e _ _ _=>exact ⟨_,_,rfl,e⟩
 refine ⟨_,(pss_cons (ps_if (PW.pt (pw_or (pt_cmpR op_ne (pe_callB call_len rfl m_len PySem.boot_len (pa_cons (pv 0) pa_nil)) pe_int (nomark _)) (pw_or1 (pt_cmpR op_ne (pe_ix ix_tup (pe_ix ix_tup (pv 0) pe_int (fun _ _=>rfl)) pe_int (fun _ _=>rfl)) pe_str (nomark _))))) pss_never pss_nil)
  (pss_one (ps_ret (pe_tup (pa_cons pe_str (pa_cons (pe_fn G_worth_of_tree hr rfl (pa_cons (pe_ix ix_tup (pv 0) pe_int (fun _ _=>rfl)) pa_nil)) pa_nil)))))),?_⟩
 refine ⟨_,rfl,_,_,rfl,.inr ⟨_,SqT.of ea,rfl⟩,rfl,_,rfl,?_⟩
 refine iteF ⟨_,rfl,a,_,0,_,rfl,rfl,SqT.of ea,rfl,b,_,0,_,rfl,rfl,SqT.of e,rfl,rfl,_,rfl,?_⟩
 rw [decide_eq_true rfl]
 refine iteF ⟨_,rfl,a,_,0,_,rfl,rfl,SqT.of ea,rfl,_,x,rfl,rv,ok,by omega,fun u H1 s1 ru=>⟨zl2,fun p hp=>q _ _ (s1.trans (Same.new hp)) ?_⟩⟩
 rw [toT_lit]
 exact (RTs.cons (.txt _) (.cons (ru.toRT.mono (Same.new hp)) .nil)).rt upd_same
theorem sc_bracketed_formtexts:FnScope ["trees","word","first","variables"] ["trees"] (defScope s_bracketed_formtexts):=⟨rfl,rfl,rfl,by decide +kernel,rfl,by decide +kernel,by decide +kernel⟩
theorem ok_bracketed_formtexts (F:Fun K "bracketed" "bracketed" s_bracketed_formtexts f fd) (G_expression_of_tree:Have P w K mg base "expression_of_tree" k ["tree"] (spExpr n)) (G_variable_of_tree:Have P w K mg base "variable_of_tree" k ["tree"] (spVarTree)) (G_binding_count:Have P w K mg base "binding_count" k ["word"] (spBCount)) (G_has_parts:Have P w K mg base "has_parts" k ["word"] (spHasParts)) (G_lit_of_trees:Have P w K mg base "lit_of_trees" k ["trees"] (spLitTrees)) (m_len:mg "len" = none) (m_tuple:mg "tuple" = none):FnOk P w K mg base CX0 (k + 1) f fd ["trees"] (spBra n):=by
 refine F.okQ sc_bracketed_formtexts (fun vs H Q E h=>?_) (fun cdv A outer s H vs Q E hr h=>?_)
 ·obtain ⟨a,us,r,ts,rfl,_⟩:=h
  rfl
 obtain ⟨a,us,r,ts,rfl,ea,rs,hrt,g,hh,q⟩:=h
 obtain ⟨d,ts',rfl,hc⟩:=head_of hrt
 obtain ⟨v0,us',rfl,rv0,rs1⟩:=RTrs.cons_inv rs
 obtain ⟨b0,rfl,e0⟩:=rv0.nm_inv
 refine ⟨_,(pss_cons (ps_if (PW.pt (pw_or (pt_cmpR op_eq (pe_callB call_len rfl m_len PySem.boot_len (pa_cons (pv 0) pa_nil)) pe_int (nomark _)) (pw_or1 (pt_cmpR op_ne (pe_ix ix_tup (pe_ix ix_tup (pv 0) pe_int (fun _ _=>rfl)) pe_int (fun _ _=>rfl)) pe_str (nomark _))))) pss_never pss_nil)
  (pss_cons (ps_set (i:=1) sc_bracketed_formtexts.nd rfl (Or.inl rfl) (pe_ix ix_tup (pe_ix ix_tup (pv 0) pe_int (fun _ _=>rfl)) pe_int (fun _ _=>rfl)))
  (pss_cons (ps_if (pt_cmpR op_eq (pv 1) pe_str (nomark _)) (pss_one (ps_ret (pe_fn G_lit_of_trees hr rfl (pa_cons (pe_slice sl_tup (pv 0) (po_some pe_int) po_none) pa_nil)))) pss_nil)
  (pss_cons (ps_if (pt_not (pt_val (pe_fn G_has_parts hr rfl (pa_cons (pv 1) pa_nil)))) pss_never pss_nil)
  (pss_cons (ps_set (i:=2) sc_bracketed_formtexts.nd rfl (Or.inl rfl) (pe_op op_add pe_int (pe_fn G_binding_count hr rfl (pa_cons (pv 1) pa_nil))))
  (pss_cons (ps_set (i:=3) sc_bracketed_formtexts.nd rfl (Or.inl rfl) (pe_callTy call_tuple_of rfl m_tuple boot_tupleT (pa_cons (pe_lcomp [] [] rfl rfl (by decide +kernel) rfl (by decide +kernel) rfl (by decide +kernel) trivial rfl trivial (pi_tup (pe_slice sl_tup (pv 0) (po_some pe_int) (po_some (pv 2)))) (fun C s H fp=>⟨pifs_nil,(pe_fn G_variable_of_tree hr rfl (pa_cons (pv 0) pa_nil))⟩)) pa_nil)))
  (pss_one (ps_ret (pe_op op_catT (pe_op op_catT (pe_tup (pa_cons (pv 1) pa_nil)) (pv 3)) (pe_callTy call_tuple_of rfl m_tuple boot_tupleT (pa_cons (pe_lcomp [] [] rfl rfl (by decide +kernel) rfl (by decide +kernel) rfl (by decide +kernel) trivial rfl trivial (pi_tup (pe_slice sl_tup (pv 0) (po_some (pv 2)) po_none)) (fun C s H fp=>⟨pifs_nil,(pe_fn G_expression_of_tree hr rfl (pa_cons (pv 0) pa_nil))⟩)) pa_nil))))))))))),?_⟩
 refine ⟨_,rfl,_,_,rfl,.inr ⟨_,SqT.of ea,rfl⟩,rfl,_,rfl,?_⟩
 rw [decide_eq_false (by intro z; have:=V.int.inj z; rw [List.length_cons] at this; omega)]
 refine iteF ⟨_,rfl,a,_,0,_,rfl,rfl,SqT.of ea,atI_nat (j:=0) rfl,b0,_,0,_,rfl,rfl,SqT.of e0,rfl,rfl,_,rfl,?_⟩
 rw [decide_eq_true rfl]
 refine iteF ⟨_,rfl,a,_,0,_,rfl,rfl,SqT.of ea,atI_nat (j:=0) rfl,b0,_,1,_,rfl,rfl,SqT.of e0,rfl,?_⟩
 refine ⟨_,rfl,rfl,_,rfl,?_⟩
 rw [show Str.ofString "lit" = "lit" from rfl,eqLit]
 rcases hc with ⟨x,rfl,rfl,rfl,hx⟩ | ⟨bs,ps,rfl,rfl⟩
 ·rw [Rl.Gd] at g
  have hcut:cutV (.ref b0 :: us') (some 1) none = us':=by
   have:=cut_rest (.ref b0) [] us' 0 rfl
   exact this
  refine iteT ⟨_,rfl,_,rfl,a,_,rfl,SqT.of ea,not_whole _ _ 0 _,fun p hp=>?_⟩
  rw [hcut]
  have s1:=Same.new (o:=.tup us') hp
  exact ⟨p,us',x,rfl,upd_same,rs1.mono (same_tups' s1),hx,g.1,g.2.2,fun u H' s2 ru=>q u H' (s1.trans s2) ru⟩
 ·have g0:=g
  rw [Rl.Gd] at g0
  have hlv:wLit d = false:=g0.1.1
  have hvv:wVar d = false:=g0.1.2.1
  have hb:=g0.1.2.2.1
  have hbl:bs.length<=2:=by have:=bcnt_le d; omega
  have hpl:ps.length<=8:=by
   have:=(gd_F1 g).len
   rw [List.length_map] at this
   exact this
  obtain ⟨xs,ys,rfl,rxs,rys⟩:=RTrs.app_inv rs1
  have hxl:xs.length = bs.length:=by rw [rxs.len,List.length_map]
  have hyl:ys.length = ps.length:=by rw [rys.len,trRs_map,List.length_map]
  rw [hlv]
  refine iteF ⟨_,rfl,d,rfl,_,rfl,?_⟩
  rw [hlv,hvv]
  refine iteF ⟨_,rfl,d,rfl,_,_,rfl,rfl,?_⟩
  dsimp only [gName]
  refine ⟨_,rfl,_,rfl,_,rfl,_,rfl,a,_,rfl,SqT.of ea,not_whole _ _ 0 _,fun p hp=>?_⟩
  rw [cut_mid (.ref b0) xs ys (bcnt d) (by omega)]
  have s1:=Same.new (o:=.tup xs) hp
  have e1:upd H p (.tup xs) p = some (.tup xs):=upd_same
  generalize upd H p (.tup xs) = H1 at s1 e1 ⊢
  refine ⟨p,rfl,⟨_,SqT.of e1⟩,?_⟩
  refine rd_drawT (vs:=xs) (fun i zs H2=>Same H1 H2/\i<=bs.length/\zs = (bs.take i).map V.str) (small (by omega)) ⟨Same.refl _,Nat.zero_le _,rfl⟩ (fun i zs H2 h=>by rw [h.2.2,List.length_map,List.length_take]; omega) (fun i zs H2 h=>SqT.of (h.1 _ _ e1)) (fun i x zs H2 R hx hP hR=>?_) (fun zs H2 D hP hD=>?_)
  ·obtain ⟨s2,hi,rfl⟩:=hP
   have hi2:i < bs.length:=by rw [← hxl]; exact (List.getElem?_eq_some_iff.mp hx).1
   have hbi:bs[i]? = some bs[i]:=List.getElem?_eq_getElem hi2
   refine ⟨_,rfl,x,bs[i],rfl,(rxs.at' i x _ hx (by rw [List.getElem?_map,hbi]; rfl)).mono (same_tups' (s1.trans s2)),g0.1.2.2.2.1 _ (List.getElem_mem hi2),fun H3 s3=>hR _ _ ⟨s2.trans s3,hi2,?_⟩⟩
   rw [take_snoc hbi,List.map_append]
   rfl
  ·obtain ⟨s2,_,rfl⟩:=hP
   rw [hxl,List.take_length]
   refine ⟨D,_,rfl,.inl ⟨SqL.of upd_same,fun t ht=>?_⟩⟩
   have s3:=(Same.new (o:=.lst (bs.map V.str)) hD).trans (Same.new (o:=.tup (bs.map V.str)) ht)
   have e3:upd (upd H2 D (.lst (bs.map V.str))) t (.tup (bs.map V.str)) t = some (.tup (bs.map V.str)):=upd_same
   generalize upd (upd H2 D (.lst (bs.map V.str))) t (.tup (bs.map V.str)) = H3 at s3 e3 ⊢
   have sH:=(s1.trans s2).trans s3
   have rvars:RT H3 (.ref t) (.tup (bs.map T.txt)):=by
    refine RTs.rt ⟨by rw [List.length_map,List.length_map],fun i v t a b=>?_⟩ e3
    rw [List.getElem?_map] at a b
    obtain ⟨z,hz,rfl⟩:=Option.map_eq_some_iff.mp a
    rw [hz] at b
    cases b
    exact .txt z
   dsimp only [gName,tRet]
   refine (yt_cat (yt_cat (yt_tup (ya_cons (yt_var (i:=1) rfl (.txt (woS d))) ya_nil) (by show 1<=1000; decide)) (yt_var (i:=3) rfl rvars) (by simp) (by rw [List.length_map]; show 1 + _<=1000; omega)) (bs:=ps.map Rl.toT) ?_ (by simp) (by rw [List.length_append,List.length_map,List.length_map]; show 1 + _ + _<=1000; omega)).run fun v H4 s4 rv=>q v H4 (sH.trans s4) (by rw [toT_op]; exact rv)
   intro G R sG hR
   refine ⟨_,rfl,_,rfl,_,rfl,a,_,rfl,SqT.of (sG _ _ (sH _ _ ea)),not_whole _ _ (bcnt d) _,fun p5 hp5=>?_⟩
   rw [cut_rest (.ref b0) xs ys (bcnt d) (by omega)]
   have s5:=Same.new (o:=.tup ys) hp5
   have e5:upd G p5 (.tup ys) p5 = some (.tup ys):=upd_same
   generalize upd G p5 (.tup ys) = H5 at s5 e5 ⊢
   refine ⟨p5,rfl,⟨_,SqT.of e5⟩,?_⟩
   refine rd_drawT (vs:=ys) (fun i zs H6=>Same H5 H6/\i<=ps.length/\RTs H6 zs ((ps.take i).map Rl.toT)) (small (by omega)) ⟨Same.refl _,Nat.zero_le _,RTs.nil⟩ (fun i zs H6 h=>by rw [h.2.2.1,List.length_map,List.length_take]; omega) (fun i zs H6 h=>SqT.of (h.1 _ _ e5)) (fun i x zs H6 R hx hP hR=>?_) (fun zs H6 D hP hD=>?_)
   ·obtain ⟨s6,hi,rz⟩:=hP
    have hi2:i < ps.length:=by rw [← hyl]; exact (List.getElem?_eq_some_iff.mp hx).1
    have hpi:ps[i]? = some ps[i]:=List.getElem?_eq_getElem hi2
    have hmem:=List.getElem_mem hi2
    have h2:=high_mem hmem
    rw [Rl.high] at hh
    refine ⟨_,rfl,x,ps[i],rfl,(rys.at' i x _ hx (by rw [trRs_map,List.getElem?_map,hpi]; rfl)).mono (same_tups' (((sH.trans sG).trans s5).trans s6)),g0.2.mem _ hmem,by omega,fun u H7 s7 ru=>hR _ _ ⟨s6.trans s7,hi2,?_⟩⟩
    rw [take_snoc hpi,List.map_append]
    exact (rz.mono s7).cat (.cons ru .nil)
   ·obtain ⟨s6,_,rz⟩:=hP
    rw [hyl,List.take_length] at rz
    refine ⟨D,_,rfl,.inl ⟨SqL.of upd_same,fun t ht=>?_⟩⟩
    have s7:=(Same.new (o:=.lst zs) hD).trans (Same.new (o:=.tup zs) ht)
    exact hR _ _ ((s5.trans s6).trans s7) ((rz.mono s7).rt upd_same)
theorem sc_expression_of_tree:FnScope ["tree"] ["tree"] (defScope s_expression_of_tree):=⟨rfl,rfl,rfl,by decide +kernel,rfl,by decide +kernel,by decide +kernel⟩
theorem ok_expression_of_tree (F:Fun K "expression_of_tree" "expression_of_tree" s_expression_of_tree f fd) (G_number_of:Have P w K mg base "number_of" k ["word"] (spNumOf)) (G_is_variable:Have P w K mg base "is_variable" k ["thing"] (spIsVar)) (G_bracketed_formtexts:Have P w K mg base "bracketed_formtexts" k ["trees"] (spBra n)):FnOk P w K mg base CX0 (k + 1) f fd ["tree"] (spExpr (n + 1)):=by
 refine F.okQ sc_expression_of_tree (fun vs H Q E h=>?_) (fun cdv A outer s H vs Q E hr h=>?_)
 ·obtain ⟨v,r,rfl,_⟩:=h
  rfl
 obtain ⟨v,r,rfl,rt,g,hh,q⟩:=h
 refine ⟨_,(pss_cons (ps_if (pt_cmpR op_eq (pe_ix ix_tup (pv 0) pe_int (fun _ _=>rfl)) pe_str (nomark _)) (pss_one (ps_ret (pe_fn G_bracketed_formtexts hr rfl (pa_cons (pe_ix ix_tup (pv 0) pe_int (fun _ _=>rfl)) pa_nil)))) pss_nil)
  (pss_cons (ps_if (pt_cmpR op_eq (pe_ix ix_tup (pv 0) pe_int (fun _ _=>rfl)) pe_str (nomark _)) (pss_one (ps_ret (pe_tup (pa_cons pe_str (pa_cons (pe_ix ix_tup (pv 0) pe_int (fun _ _=>rfl)) pa_nil))))) pss_nil)
  (pss_cons (ps_if (pt_val (pe_fn G_is_variable hr rfl (pa_cons (pe_ix ix_tup (pv 0) pe_int (fun _ _=>rfl)) pa_nil))) (pss_one (ps_ret (pe_tup (pa_cons pe_str (pa_cons (pe_ix ix_tup (pv 0) pe_int (fun _ _=>rfl)) pa_nil))))) pss_nil)
  (pss_one (ps_ret (pe_tup (pa_cons pe_str (pa_cons (pe_fn G_number_of hr rfl (pa_cons (pe_ix ix_tup (pv 0) pe_int (fun _ _=>rfl)) pa_nil)) pa_nil)))))))),?_⟩
 have hlst:∀ ts,trR r = .lst ts->∃ a b vs,v = .ref a/\H a = some (.tup [.str "list",.ref b])/\H b = some (.tup vs)/\RTrs H vs ts:=fun ts e=>by
  rw [e] at rt
  cases rt with
  | lst e1 e2 l at'=>exact ⟨_,_,_,rfl,e1,e2,l,at'⟩
 by_cases hl:∃ ts,trR r = .lst ts
 ·obtain ⟨ts,hts⟩:=hl
  obtain ⟨a,b,vs,rfl,e1,e2,rvs⟩:=hlst ts hts
  refine ⟨_,rfl,a,_,0,_,rfl,rfl,SqT.of e1,rfl,rfl,_,rfl,?_⟩
  rw [decide_eq_true rfl]
  exact iteT ⟨_,rfl,a,_,1,_,rfl,rfl,SqT.of e1,rfl,b,vs,r,ts,rfl,e2,rvs,hts,g,by omega,q⟩
 cases r with
 | op d bs ps=>exact absurd ⟨_,by rw [trR]⟩ hl
 | var z=>
  rw [trR] at rt
  rw [Rl.Gd] at g
  have h8:=g.2.1
  obtain ⟨a,rfl,e⟩:=rt.nm_inv
  refine ⟨_,rfl,a,_,0,_,rfl,rfl,SqT.of e,rfl,rfl,_,rfl,?_⟩
  rw [show Str.ofString "list" = "list" from rfl,dWL]
  refine iteF ⟨_,rfl,a,_,0,_,rfl,rfl,SqT.of e,rfl,rfl,_,rfl,?_⟩
  rw [dWT]
  refine iteF ⟨_,rfl,a,_,1,_,rfl,rfl,SqT.of e,rfl,.str z,.txt z,rfl,.txt z,(by show z.length<=100000; omega),fun H1 s1=>?_⟩
  rw [isVarB_txt.mpr g]
  refine ⟨_,rfl,iteT ⟨_,rfl,a,_,1,_,rfl,rfl,SqT.of (s1 _ _ e),rfl,zl2,fun p hp=>q _ _ (s1.trans (Same.new hp)) ?_⟩⟩
  rw [toT_var]
  exact (RTs.cons (.txt _) (.cons (.txt _) .nil)).rt upd_same
 | lit x=>
  cases x with
  | lst ws=>exact absurd ⟨_,trR_yes rfl⟩ hl
  | txt z=>
   rw [trR_no rfl,trW] at rt
   cases rt with
   | @txt a _ e=>
   refine ⟨_,rfl,a,_,0,_,rfl,rfl,SqT.of e,rfl,rfl,_,rfl,?_⟩
   rw [dTL]
   refine iteF ⟨_,rfl,a,_,0,_,rfl,rfl,SqT.of e,rfl,rfl,_,rfl,?_⟩
   rw [decide_eq_true rfl]
   refine iteT ⟨_,rfl,a,_,1,_,rfl,rfl,SqT.of e,rfl,zl2,fun p hp=>q _ _ (Same.new hp) ?_⟩
   rw [toT_lit,← strOf z]
   exact (RTs.cons (.txt _) (.cons (.txt _) .nil)).rt upd_same
  | num i=>
   rw [Rl.Gd] at g
   have gi:=g.1
   rw [trR_no rfl,trW] at rt
   cases rt with
   | @word a _ e=>
   refine ⟨_,rfl,a,_,0,_,rfl,rfl,SqT.of e,rfl,rfl,_,rfl,?_⟩
   rw [dWL]
   refine iteF ⟨_,rfl,a,_,0,_,rfl,rfl,SqT.of e,rfl,rfl,_,rfl,?_⟩
   rw [dWT]
   have h61:=numC_len gi.1 gi.2
   refine iteF ⟨_,rfl,a,_,1,_,rfl,rfl,SqT.of e,rfl,_,.txt ⟨(numC i).toArray⟩,rfl,.txt _,(by show (numC i).toArray.size<=100000; rw [List.size_toArray]; omega),fun H1 s1=>?_⟩
   rw [num_novar]
   refine ⟨_,rfl,iteF ⟨_,rfl,a,_,1,_,rfl,rfl,SqT.of (s1 _ _ e),rfl,_,i,rfl,by simp,gi.1,gi.2,fun H2 s2=>⟨zl2,fun p hp=>q _ _ ((s1.trans s2).trans (Same.new hp)) ?_⟩⟩⟩
   rw [toT_lit]
   exact (RTs.cons (.txt _) (.cons (.num _) .nil)).rt upd_same
theorem sc_rule_of_tree:FnScope ["tree","expression"] ["tree"] (defScope s_rule_of_tree):=⟨rfl,rfl,rfl,by decide +kernel,rfl,by decide +kernel,by decide +kernel⟩
theorem ok_rule_of_tree (F:Fun K "rule_of_tree" "rule_of_tree" s_rule_of_tree f fd) (G_is_rule:Have P w K mg base "is_rule" k ["thing"] (spIsRule)) (G_expression_of_tree:Have P w K mg base "expression_of_tree" k ["tree"] (spExpr 14)):FnOk P w K mg base CX0 (k + 1) f fd ["tree"] (spRuleTree):=by
 refine F.okQ sc_rule_of_tree (fun vs H Q E h=>?_) (fun cdv A outer s H vs Q E hr h=>?_)
 ·obtain ⟨v,r,rfl,_⟩:=h
  rfl
 obtain ⟨v,r,rfl,rt,hru,q⟩:=h
 refine ⟨_,(pss_cons (ps_set (i:=1) sc_rule_of_tree.nd rfl (Or.inl rfl) (pe_fn G_expression_of_tree hr rfl (pa_cons (pv 0) pa_nil)))
  (pss_cons (ps_if (pt_not (pt_val (pe_fn G_is_rule hr rfl (pa_cons (pv 1) pa_nil)))) pss_never pss_nil)
  (pss_one (ps_ret (pv 1))))),?_⟩
 have h12:=hru.2.1
 refine ⟨_,rfl,v,r,rfl,rt,hru.1,by omega,fun u H1 s1 ru=>?_⟩
 refine ⟨_,rfl,u,r.toT,rfl,ru,gd_sm hru.1,fun b H2 s2 h1 h2=>?_⟩
 cases b with
 | false=>exact absurd hru.rt (h2 rfl)
 | true=>exact ⟨_,rfl,iteF ⟨_,rfl,q u H2 (s1.trans s2) (ru.mono s2)⟩⟩
structure Ou where
 ws:List Str
 last:W
def Ou.toW (o:Ou):W:=.lst (o.ws.map W.txt ++ [o.last])
def trO (o:Ou):Tr:=.lst (o.ws.map nmT ++ [trW numC o.last])
def bareL:List Str:=["kind","great","nought","place"]
def namingL:List Str:=["none","shut"]
def GoodW (x:W):Prop:=x.Ok/\x.size<=1000/\x.depth<=12
inductive GdO:Ou->Prop where
 | made {x:W}:GoodW x->GdO ⟨["made"],x⟩
 | bare {w:Str}:w∈bareL->GdO ⟨["wrong",w],.txt ""⟩
 | naming {w z:Str}:w∈namingL->(W.txt z).Ok->GdO ⟨["wrong",w],.txt z⟩
 | cried {x:W}:GoodW x->GdO ⟨["wrong","cried"],x⟩
inductive Re where
 | mk (o:Ou) (ps:List Re)
mutual
def Re.toW:Re->W
 | .mk o ps=>.lst [o.toW,.lst (reWs ps)]
def reWs:List Re->List W
 | []=>[]
 | p :: r=>p.toW :: reWs r
end
mutual
def trE:Re->Tr
 | .mk o ps=>.lst (trO o :: trEs ps)
def trEs:List Re->List Tr
 | []=>[]
 | p :: r=>trE p :: trEs r
end
mutual
def GdE:Re->Prop
 | .mk o ps=>GdO o/\GdEs ps
def GdEs:List Re->Prop
 | []=>True
 | p :: r=>GdE p/\GdEs r
end
mutual
def Re.deep:Re->Nat
 | .mk _ ps=>1 + reDeeps ps
def reDeeps:List Re->Nat
 | []=>0
 | p :: r=>max p.deep (reDeeps r)
end
mutual
def Re.many:Re->Nat
 | .mk _ ps=>1 + reManys ps
def reManys:List Re->Nat
 | []=>0
 | p :: r=>p.many + reManys r
end
def spFitsW:Sp:=fun vs H Q _=>∃ (w:Str) (v:V) (x:W),vs = [.str w,v]/\RW H v x/\GdO ⟨["wrong",w],x⟩/\∀ H',Same H H'->Q (.bl true) H'
def spIsOut:Sp:=fun vs H Q _=>∃ (v:V) (o:Ou),vs = [v]/\RW H v o.toW/\GdO o/\∀ H',Same H H'->Q (.bl true) H'
theorem is_w {H:Hp}{v:V}{x:W}{Q:VK} (r:RW H v x) (g:GoodW x) (q:∀ H',Same H H'->Q (.bl true) H'):spIsWorth [v] H Q E0:=
 ⟨v,x.toT,rfl,r.toRT,sm_toT x (th_of x g.1),fun H' s'=>by rw [w_worth g.1 g.2.1 g.2.2]; exact q H' s'⟩
theorem txt_good {z:Str} (h:(W.txt z).Ok):GoodW (.txt z):=⟨h,by have:=h.1; simp only [W.size]; omega,Nat.zero_le _⟩
theorem naming_bare:∀ w∈namingL,decide (w∈bareL) = false:=by decide +kernel
theorem dyS {a b:Str} (h:a = b):decide (V.str a = V.str b) = true:=decide_eq_true (congrArg V.str h)
theorem dnS {a b:Str} (h:a≠b):decide (V.str a = V.str b) = false:=decide_eq_false fun z=>h (V.str.inj z)
theorem sc_fits_word:FnScope ["word","detail"] ["word","detail"] (defScope s_fits_word):=⟨rfl,rfl,rfl,by decide +kernel,rfl,by decide +kernel,by decide +kernel⟩
theorem ok_fits_word (F:Fun K "fits_word" "fits_word" s_fits_word f fd) (G_is_worth:Have P w K mg base "is_worth" k ["thing"] (spIsWorth)) (m_isi:mg "isinstance" = none) (m_str:mg "str" = none) {g_BARE_WORDS:Addr} (m_BARE_WORDS:mg "BARE_WORDS" = some (.ref g_BARE_WORDS)) (t_BARE_WORDS:∀ H:Hp,SqT K H g_BARE_WORDS [.str "kind",.str "great",.str "nought",.str "place"]) {g_NAMING_WORDS:Addr} (m_NAMING_WORDS:mg "NAMING_WORDS" = some (.ref g_NAMING_WORDS)) (t_NAMING_WORDS:∀ H:Hp,SqT K H g_NAMING_WORDS [.str "none",.str "shut"]):FnOk P w K mg base CX0 (k + 1) f fd ["word","detail"] (spFitsW):=by
 refine F.okQ sc_fits_word (fun vs H Q E h=>?_) (fun cdv A outer s H vs Q E hr h=>?_)
 ·obtain ⟨w,v,x,rfl,_⟩:=h
  rfl
 obtain ⟨w,v,x,rfl,rv,g,q⟩:=h
 refine ⟨_,(pss_cons (ps_if (pt_cmpR op_in_seq (pv 0) (pe_glob (v:=.ref g_BARE_WORDS) rfl m_BARE_WORDS rfl) (by rfl)) (pss_one (ps_ret (pe_cmpR op_eq (pv 1) pe_str (nomark _)))) pss_nil)
  (pss_cons (ps_if (pt_cmpR op_in_seq (pv 0) (pe_glob (v:=.ref g_NAMING_WORDS) rfl m_NAMING_WORDS rfl) (by rfl)) (pss_one (ps_ret (pe_and (pe_callB call_isi rfl m_isi boot_isi (pa_cons (pv 1) (pa_cons (pe_ty rfl m_str boot_strT) pa_nil))) (pe_one (pe_fn G_is_worth hr rfl (pa_cons (pv 1) pa_nil)))))) pss_nil)
  (pss_one (ps_ret (pe_and (pe_cmpR op_eq (pv 0) pe_str (nomark _)) (pe_one (pe_fn G_is_worth hr rfl (pa_cons (pv 1) pa_nil)))))))),?_⟩
 refine ⟨_,rfl,g_BARE_WORDS,bareL.map V.str,rfl,.inr (t_BARE_WORDS H),rfl,rfl,_,rfl,?_⟩
 rw [inV_strs]
 cases g with
 | bare hw=>
  cases rv
  rw [decide_eq_true hw]
  refine iteT ⟨_,rfl,rfl,?_⟩
  rw [dyS rfl]
  exact q H (Same.refl H)
 | naming hw hz=>
  rw [naming_bare _ hw]
  refine iteF ⟨_,rfl,g_NAMING_WORDS,namingL.map V.str,rfl,.inr (t_NAMING_WORDS H),rfl,rfl,_,rfl,?_⟩
  rw [inV_strs,decide_eq_true hw]
  cases rv with
  | txt _=>exact iteT ⟨_,rfl,_,_,_,true,rfl,.str _,isi_ss,_,rfl,iteT ⟨_,rfl,is_w (.txt _) (txt_good hz) q⟩⟩
 | cried hx=>
  rw [show decide ((Str.ofString "cried")∈bareL) = false by decide +kernel]
  refine iteF ⟨_,rfl,g_NAMING_WORDS,namingL.map V.str,rfl,.inr (t_NAMING_WORDS H),rfl,rfl,_,rfl,?_⟩
  rw [inV_strs,show decide ((Str.ofString "cried")∈namingL) = false by decide +kernel]
  refine iteF ⟨_,rfl,rfl,true,?_,iteT ⟨_,rfl,is_w rv hx q⟩⟩
  rw [dyS rfl]
theorem sc_is_outcome:FnScope ["thing"] ["thing"] (defScope s_is_outcome):=⟨rfl,rfl,rfl,by decide +kernel,rfl,by decide +kernel,by decide +kernel⟩
theorem ok_is_outcome (F:Fun K "is_outcome" "is_outcome" s_is_outcome f fd) (G_fits_word:Have P w K mg base "fits_word" k ["word","detail"] (spFitsW)) (G_is_worth:Have P w K mg base "is_worth" k ["thing"] (spIsWorth)) (m_isi:mg "isinstance" = none) (m_len:mg "len" = none) (m_tuple:mg "tuple" = none):FnOk P w K mg base CX0 (k + 1) f fd ["thing"] (spIsOut):=by
 refine F.okQ sc_is_outcome (fun vs H Q E h=>?_) (fun cdv A outer s H vs Q E hr h=>?_)
 ·obtain ⟨v,o,rfl,_⟩:=h
  rfl
 obtain ⟨v,o,rfl,rv,g,q⟩:=h
 refine ⟨_,(pss_cons (ps_if (pt_not (pt_val (pe_callB call_isi rfl m_isi boot_isi (pa_cons (pv 0) (pa_cons (pe_ty rfl m_tuple boot_tupleT) pa_nil))))) (pss_one (ps_ret pe_bl)) pss_nil)
  (pss_cons (ps_if (pt_cmpR op_eq (pe_callB call_len rfl m_len PySem.boot_len (pa_cons (pv 0) pa_nil)) pe_int (nomark _)) (pss_one (ps_ret (pe_and (pe_cmpR op_eq (pe_ix ix_tup (pv 0) pe_int (fun _ _=>rfl)) pe_str (nomark _)) (pe_one (pe_fn G_is_worth hr rfl (pa_cons (pe_ix ix_tup (pv 0) pe_int (fun _ _=>rfl)) pa_nil)))))) pss_nil)
  (pss_one (ps_ret (pe_and (pe_cmpR op_eq (pe_callB call_len rfl m_len PySem.boot_len (pa_cons (pv 0) pa_nil)) pe_int (nomark _)) (pe_and (pe_cmpR op_eq (pe_ix ix_tup (pv 0) pe_int (fun _ _=>rfl)) pe_str (nomark _)) (pe_one (pe_fn G_fits_word hr rfl (pa_cons (pe_ix ix_tup (pv 0) pe_int (fun _ _=>rfl)) (pa_cons (pe_ix ix_tup (pv 0) pe_int (fun _ _=>rfl)) pa_nil)))))))))),?_⟩
 have key:∀ {o:Ou},RW H v o.toW->GdO o->∃ a us,v = .ref a/\H a = some (.tup us)/\((∃ u x,us = [.str "made",u]/\RW H u x/\GoodW x)\/∃ w u x,us = [.str "wrong",.str w,u]/\RW H u x/\GdO ⟨["wrong",w],x⟩):=fun {o} rv g=>by
  cases rv with
  | @lst a vs ws e l at'=>
   cases g with
   | made hx=>
    obtain ⟨v1,r1,rfl,h1,h2⟩:=RWs.inv_cons ⟨l,at'⟩
    obtain ⟨v2,r2,rfl,h3,h4⟩:=h2.inv_cons
    obtain rfl:=h4.inv_nil
    cases h1
    exact ⟨a,_,rfl,e,.inl ⟨v2,_,rfl,h3,hx⟩⟩
   | bare hw=>
    obtain ⟨v1,r1,rfl,h1,h2⟩:=RWs.inv_cons ⟨l,at'⟩
    obtain ⟨v2,r2,rfl,h3,h4⟩:=h2.inv_cons
    obtain ⟨v3,r3,rfl,h5,h6⟩:=h4.inv_cons
    obtain rfl:=h6.inv_nil
    cases h1
    cases h3
    exact ⟨a,_,rfl,e,.inr ⟨_,v3,_,rfl,h5,.bare hw⟩⟩
   | naming hw hz=>
    obtain ⟨v1,r1,rfl,h1,h2⟩:=RWs.inv_cons ⟨l,at'⟩
    obtain ⟨v2,r2,rfl,h3,h4⟩:=h2.inv_cons
    obtain ⟨v3,r3,rfl,h5,h6⟩:=h4.inv_cons
    obtain rfl:=h6.inv_nil
    cases h1
    cases h3
    exact ⟨a,_,rfl,e,.inr ⟨_,v3,_,rfl,h5,.naming hw hz⟩⟩
   | cried hx=>
    obtain ⟨v1,r1,rfl,h1,h2⟩:=RWs.inv_cons ⟨l,at'⟩
    obtain ⟨v2,r2,rfl,h3,h4⟩:=h2.inv_cons
    obtain ⟨v3,r3,rfl,h5,h6⟩:=h4.inv_cons
    obtain rfl:=h6.inv_nil
    cases h1
    cases h3
    exact ⟨a,_,rfl,e,.inr ⟨_,v3,_,rfl,h5,.cried hx⟩⟩
 obtain ⟨a,us,rfl,ea,h⟩:=key rv g
 refine ⟨_,rfl,_,_,_,true,rfl,.tup ea,isi_tt,_,rfl,iteF ?_⟩
 rcases h with ⟨u,x,rfl,ru,gx⟩ | ⟨w,u,x,rfl,ru,gx⟩
 ·refine ⟨_,rfl,_,_,rfl,.inr ⟨_,SqT.of ea,rfl⟩,rfl,_,rfl,iteT ?_⟩
  refine ⟨_,rfl,a,_,0,_,rfl,rfl,SqT.of ea,rfl,rfl,true,?_,iteT ⟨_,rfl,a,_,1,_,rfl,rfl,SqT.of ea,rfl,is_w ru gx q⟩⟩
  rw [dyS rfl]
 ·refine ⟨_,rfl,_,_,rfl,.inr ⟨_,SqT.of ea,rfl⟩,rfl,_,rfl,iteF ?_⟩
  refine ⟨_,rfl,_,_,rfl,.inr ⟨_,SqT.of ea,rfl⟩,rfl,true,rfl,iteT ?_⟩
  refine ⟨_,rfl,a,_,0,_,rfl,rfl,SqT.of ea,rfl,rfl,true,?_,iteT ⟨_,rfl,a,_,1,_,rfl,rfl,SqT.of ea,rfl,_,rfl,a,_,2,_,rfl,rfl,SqT.of ea,rfl,w,u,x,rfl,ru,gx,q⟩⟩
  rw [dyS rfl]
abbrev Lk:Type:=Str × Ou
def lkW (l:Lk):W:=.lst [.txt l.1,l.2.toW]
def trL (l:Lk):Tr:=.lst [trW numC (.txt l.1),trO l.2]
def GdL (l:Lk):Prop:=(W.txt l.1).Ok/\GdO l.2
structure Pa where
 r:Rl
 ls:List Lk
 e:Re
def Pa.toW (p:Pa):W:=.lst [p.r.toW,.lst (p.ls.map lkW),p.e.toW]
def trP (p:Pa):Tr:=.lst [nmT "paper",trR p.r,.lst (nmT "looks" :: p.ls.map trL),trE p.e]
structure GdP (p:Pa):Prop where
 r:p.r.Gd
 rm:p.r.many<=20
 rh:p.r.high<=12
 l:∀ x∈p.ls,GdL x
 ll:p.ls.length<=10
 e:GdE p.e
 em:p.e.many<=20
 ed:p.e.deep < 14
def spBraP (K:PySem.W.Frag):Sp:=fun vs H Q _=>∃ (l:Addr) (ys:List Str) (ts:List Tr),vs = [.ref l]/\SqL K H l (ys.map V.str)/\ys.map (fun y=>y.cps.toList) = ts.map shT/\wid ts<=10000000/\∀ x:Str,x.cps.toList = shT (.lst ts)->Q (.str x) H
def spShowO:Sp:=fun vs H Q _=>∃ (v:V) (o:Ou),vs = [v]/\RW H v o.toW/\GdO o/\∀ (x:Str) (H':Hp),x.cps.toList = shT (trO o)->Same H H'->Q (.str x) H'
def spShowE (n:Nat):Sp:=fun vs H Q _=>∃ (v:V) (e:Re),vs = [v]/\RW H v e.toW/\GdE e/\e.deep < n/\e.many<=20/\∀ (x:Str) (H':Hp),x.cps.toList = shT (trE e)->Same H H'->Q (.str x) H'
def spShowL:Sp:=fun vs H Q _=>∃ (v:V) (l:Lk),vs = [v]/\RW H v (lkW l)/\GdL l/\∀ (x:Str) (H':Hp),x.cps.toList = shT (trL l)->Same H H'->Q (.str x) H'
def spShowP:Sp:=fun vs H Q _=>∃ (v:V) (p:Pa),vs = [v]/\RW H v p.toW/\GdP p/\∀ (x:Str) (H':Hp),x.cps.toList = shT (trP p)->Same H H'->Q (.str x) H'
theorem opnO_go {H:Hp}:∀ (ws:List Str) {us:List V}{x:W},RWs H us (ws.map W.txt ++ [x])->∃ lv,us = ws.map V.str ++ [lv]/\RW H lv x
 | [],us,x,h=>by
  obtain ⟨v,r,rfl,h1,h2⟩:=RWs.inv_cons h
  obtain rfl:=h2.inv_nil
  exact ⟨v,rfl,h1⟩
 | w :: ws,us,x,h=>by
  obtain ⟨v,r,rfl,h1,h2⟩:=RWs.inv_cons h
  obtain ⟨lv,rfl,h3⟩:=opnO_go ws h2
  cases h1
  exact ⟨lv,rfl,h3⟩
theorem opnO {H:Hp}{v:V}{o:Ou} (h:RW H v o.toW):∃ a lv,v = .ref a/\H a = some (.tup (o.ws.map V.str ++ [lv]))/\RW H lv o.last:=by
 obtain ⟨ws,x⟩:=o
 cases h with
 | @lst a vs ws' e l at'=>
  obtain ⟨lv,rfl,h3⟩:=opnO_go ws ⟨l,at'⟩
  exact ⟨a,lv,rfl,e,h3⟩
theorem GdO.good {o:Ou} (g:GdO o):GoodW o.last/\o.ws.length<=2/\∀ z∈o.ws,z.length<=6:=by
 cases g with
 | made h=>exact ⟨h,(by show 1<=2; decide),(by show ∀ z∈[Str.ofString "made"],z.length<=6; decide +kernel)⟩
 | bare h=>
  refine ⟨⟨⟨by decide,fun c hc=>nomatch hc⟩,by simp only [W.size]; decide,Nat.zero_le _⟩,(by show 2<=2; decide),fun z hz=>?_⟩
  rcases List.mem_cons.mp hz with rfl | hz
  ·decide +kernel
  ·rw [List.mem_singleton.mp hz]
   exact (by decide +kernel:∀ w∈bareL,w.length<=6) _ h
 | naming h hz=>
  refine ⟨txt_good hz,(by show 2<=2; decide),fun z hz=>?_⟩
  rcases List.mem_cons.mp hz with rfl | hz
  ·decide +kernel
  ·rw [List.mem_singleton.mp hz]
   exact (by decide +kernel:∀ w∈namingL,w.length<=6) _ h
 | cried h=>exact ⟨h,(by show 2<=2; decide),(by show ∀ z∈[Str.ofString "wrong",Str.ofString "cried"],z.length<=6; decide +kernel)⟩
theorem wid_ws:∀ ws:List Str,(∀ z∈ws,z.length<=6)->wid (ws.map nmT)<=7 * ws.length
 | [],_=>Nat.zero_le _
 | z :: r,h=>by
  have h1:=h z List.mem_cons_self
  have h2:=wid_ws r fun y hy=>h y (List.mem_cons_of_mem _ hy)
  rw [List.map_cons,wid_cons,nmT,shT,str_len,List.length_cons]
  omega
theorem good_len {x:W} (g:GoodW x):(shT (trW numC x)).length + 1<=64000:=by
 have h1:=sh_len x g.1
 have h2:=g.2.1
 rw [shT_W]
 omega
theorem wid_O {o:Ou} (g:GdO o):wid (o.ws.map nmT ++ [trW numC o.last])<=64100:=by
 obtain ⟨g1,g2,g3⟩:=g.good
 have h1:=wid_ws o.ws g3
 have h2:=good_len g1
 rw [wid_app,wid_cons]
 show _ + (_ + 1 + 0)<=_
 omega
theorem shL_wid (ts:List Tr):(shT (.lst ts)).length<=wid ts + 2:=by
 have:=shTs_len ts
 rw [shT,List.length_cons,List.length_append,List.length_singleton]
 omega
theorem shO_len {o:Ou} (g:GdO o):(shT (trO o)).length + 1<=65000:=by
 have h1:=wid_O g
 have h2:=shL_wid (o.ws.map nmT ++ [trW numC o.last])
 show (shT (.lst (o.ws.map nmT ++ [trW numC o.last]))).length + 1<=_
 omega
mutual
theorem shE_len:∀ e:Re,GdE e->(shT (trE e)).length + 1<=66000 * e.many
 | .mk o ps,g=>by
  rw [GdE] at g
  have h1:=shO_len g.1
  have h2:=shEs_len ps g.2
  have h3:=shL_wid (trO o :: trEs ps)
  rw [wid_cons] at h3
  rw [trE,Re.many]
  omega
theorem shEs_len:∀ ps:List Re,GdEs ps->wid (trEs ps)<=66000 * reManys ps
 | [],_=>by rw [trEs,reManys]; exact Nat.le_refl _
 | p :: r,g=>by
  rw [GdEs] at g
  have h1:=shE_len p g.1
  have h2:=shEs_len r g.2
  rw [trEs,reManys,wid_cons]
  omega
end
theorem reWs_map:∀ ps:List Re,reWs ps = ps.map Re.toW
 | []=>rfl
 | p :: r=>by rw [reWs,reWs_map r]; rfl
theorem trEs_map:∀ ps:List Re,trEs ps = ps.map trE
 | []=>rfl
 | p :: r=>by rw [trEs,trEs_map r]; rfl
theorem GdEs.mem:∀ {ps:List Re},GdEs ps->∀ p∈ps,GdE p
 | q :: r,h,p,hp=>by
  rw [GdEs] at h
  rcases List.mem_cons.mp hp with rfl | hp
  ·exact h.1
  ·exact GdEs.mem h.2 p hp
theorem re_mem:∀ {ps:List Re}{p:Re},p∈ps->p.deep<=reDeeps ps/\p.many<=reManys ps
 | q :: r,p,hp=>by
  rw [reDeeps,reManys]
  rcases List.mem_cons.mp hp with rfl | hp
  ·omega
  ·have:=re_mem hp
   omega
theorem re_len:∀ ps:List Re,ps.length<=reManys ps
 | []=>Nat.zero_le _
 | .mk o qs :: r=>by
  have:=re_len r
  rw [reManys,Re.many,List.length_cons]
  omega
theorem opn2 {H:Hp}{v:V}{x y:W} (h:RW H v (.lst [x,y])):∃ a u1 u2,v = .ref a/\H a = some (.tup [u1,u2])/\RW H u1 x/\RW H u2 y:=by
 cases h with
 | @lst a vs ws e l at'=>
  obtain ⟨v1,r1,rfl,h1,h2⟩:=RWs.inv_cons ⟨l,at'⟩
  obtain ⟨v2,r2,rfl,h3,h4⟩:=h2.inv_cons
  obtain rfl:=h4.inv_nil
  exact ⟨a,v1,v2,rfl,e,h1,h3⟩
theorem opn3 {H:Hp}{v:V}{x y z:W} (h:RW H v (.lst [x,y,z])):∃ a u1 u2 u3,v = .ref a/\H a = some (.tup [u1,u2,u3])/\RW H u1 x/\RW H u2 y/\RW H u3 z:=by
 cases h with
 | @lst a vs ws e l at'=>
  obtain ⟨v1,r1,rfl,h1,h2⟩:=RWs.inv_cons ⟨l,at'⟩
  obtain ⟨v2,r2,rfl,h3,h4⟩:=h2.inv_cons
  obtain ⟨v3,r3,rfl,h5,h6⟩:=h4.inv_cons
  obtain rfl:=h6.inv_nil
  exact ⟨a,v1,v2,v3,rfl,e,h1,h3,h5⟩
theorem opnL {H:Hp}{v:V}{ws:List W} (h:RW H v (.lst ws)):∃ a us,v = .ref a/\H a = some (.tup us)/\RWs H us ws:=by
 cases h with
 | @lst a vs ws e l at'=>exact ⟨a,vs,rfl,e,l,at'⟩
theorem shL_len {l:Lk} (g:GdL l):(shT (trL l)).length + 1<=130000:=by
 have w1:=shO_len g.2
 have w2:=good_len (txt_good g.1)
 have:=shL_wid [trW numC (.txt l.1),trO l.2]
 rw [wid_cons,wid_cons] at this
 have w0:wid ([]:List Tr) = 0:=rfl
 rw [w0] at this
 show (shT (.lst [trW numC (.txt l.1),trO l.2])).length + 1<=_
 omega
theorem wid_Ls:∀ ls:List Lk,(∀ x∈ls,GdL x)->wid (ls.map trL)<=130000 * ls.length
 | [],_=>Nat.zero_le _
 | l :: r,h=>by
  have h1:=shL_len (h l List.mem_cons_self)
  have h2:=wid_Ls r fun x hx=>h x (List.mem_cons_of_mem _ hx)
  rw [List.map_cons,wid_cons,List.length_cons]
  omega
theorem cut_last (us:List V) (v:V):cutV (us ++ [v]) none (some (-1)) = us:=by
 have h:HT.sIx (us ++ [v]).length (us ++ [v]).length (some (-1)) = us.length:=by
  rw [List.length_append,List.length_singleton]
  unfold HT.sIx
  simp only
  split <;> omega
 unfold cutV
 rw [h,HT.sIx_none,Nat.sub_zero,List.drop_zero,List.take_left]
theorem sc_bracketed_papertexts:FnScope ["texts"] ["texts"] (defScope s_bracketed_papertexts):=⟨rfl,rfl,rfl,by decide +kernel,rfl,by decide +kernel,by decide +kernel⟩
theorem ok_bracketed_papertexts (F:Fun K "bracketed" "bracketed" s_bracketed_papertexts f fd):FnOk P w K mg base CX0 (k + 1) f fd ["texts"] (spBraP K):=by
 refine F.okQ sc_bracketed_papertexts (fun vs H Q E h=>?_) (fun cdv A outer s H vs Q E hr h=>?_)
 ·obtain ⟨l,ys,ts,rfl,_⟩:=h
  rfl
 obtain ⟨l,ys,ts,rfl,sl,hm,hw,q⟩:=h
 refine ⟨_,(pss_one (ps_ret (pe_op op_add_str (pe_op op_add_str pe_str (pe_bm PySem.F.plainAttrs_str PySem.F.slot_str_join PySem.F.type_str_join mt_join pe_str (pa_cons (pv 0) pa_nil))) pe_str))),?_⟩
 have hj:=join_trs ys ts hm
 have hws:=wid_sum ys ts hm
 have hjl:(Txt.join (Str.ofString " ") ys).length<=wid ts:=by
  rw [← str_len,hj]
  exact shTs_len ts
 have l1:(Str.ofString " ").length = 1:=by decide +kernel
 have l2:(Str.ofString "(").length = 1:=by decide +kernel
 have l3:(Str.ofString ")").length = 1:=by decide +kernel
 have c2:(Str.ofString "(").cps.toList = [40]:=by decide +kernel
 have hsz:(16777216:Nat)<=sizeLine:=by decide
 refine ⟨rfl,_,rfl,_,l,ys,rfl,rfl,sl,by rw [l1]; omega,_,_,rfl,rfl,by rw [l2]; omega,_,_,rfl,rfl,by rw [str_app_len,l2,l3]; omega,q _ ?_⟩
 rw [str_app,str_app,c2,hj,str41,shT]
 rfl
theorem sc_show_outcome:FnScope ["outcome"] ["outcome"] (defScope s_show_outcome):=⟨rfl,rfl,rfl,by decide +kernel,rfl,by decide +kernel,by decide +kernel⟩
theorem ok_show_outcome (F:Fun K "show_outcome" "show_outcome" s_show_outcome f fd) (G_bracketed_papertexts:Have P w K mg base "bracketed_papertexts" k ["texts"] (spBraP K)) (G_show_worth:Have P w K mg base "show_worth" k ["worth"] (spShow 14)) (m_list:mg "list" = none):FnOk P w K mg base CX0 (k + 1) f fd ["outcome"] (spShowO):=by
 refine F.okQ sc_show_outcome (fun vs H Q E h=>?_) (fun cdv A outer s H vs Q E hr h=>?_)
 ·obtain ⟨v,o,rfl,_⟩:=h
  rfl
 obtain ⟨v,o,rfl,rv,g,q⟩:=h
 refine ⟨_,(pss_one (ps_ret (pe_fn G_bracketed_papertexts hr rfl (pa_cons (pe_op op_cat (pe_callTy call_list_of rfl m_list boot_listT (pa_cons (pe_slice sl_tup (pv 0) po_none (po_some (pe_un un_neg pe_int))) pa_nil)) (pe_lst (pa_cons (pe_fn G_show_worth hr rfl (pa_cons (pe_ix ix_tup (pv 0) (pe_un un_neg pe_int) (fun _ _=>rfl)) pa_nil)) pa_nil))) pa_nil)))),?_⟩
 obtain ⟨a,lv,rfl,ea,rl⟩:=opnO rv
 obtain ⟨gw,hl2,_⟩:=g.good
 have hsx:HT.sIx (o.ws.map V.str ++ [lv]).length (o.ws.map V.str ++ [lv]).length (some (-1)) = (o.ws.map V.str).length:=by
  rw [List.length_append,List.length_singleton]
  unfold HT.sIx
  simp only
  split <;> omega
 refine ⟨_,rfl,1,rfl,-1,rfl,a,_,rfl,SqT.of ea,?_,fun t ht=>?_⟩
 ·rw [hsx,List.length_append,List.length_singleton]
  omega
 rw [cut_last]
 have s1:=Same.new (o:=.tup (o.ws.map V.str)) ht
 have e1:upd H t (.tup (o.ws.map V.str)) t = some (.tup (o.ws.map V.str)):=upd_same
 generalize upd H t (.tup (o.ws.map V.str)) = H1 at s1 e1
 refine ⟨t,_,rfl,.inr (SqT.of e1),fun l hl=>?_⟩
 have s2:=Same.new (o:=.lst (o.ws.map V.str)) hl
 have e2:upd H1 l (.lst (o.ws.map V.str)) l = some (.lst (o.ws.map V.str)):=upd_same
 generalize upd H1 l (.lst (o.ws.map V.str)) = H2 at s2 e2
 have s02:=s1.trans s2
 refine ⟨_,rfl,1,rfl,a,_,-1,lv,rfl,rfl,SqT.of (s02 _ _ ea),atI_last _ _,lv,o.last,rfl,rl.mono (same_tups' s02),gw.1,gw.2.1,Nat.lt_succ_of_le (Nat.le_succ_of_le gw.2.2),fun x H3 hx s3=>⟨zl1,fun l2 hl2'=>?_⟩⟩
 have s4:=Same.new (o:=.lst [.str x]) hl2'
 have e4:upd H3 l2 (.lst [.str x]) l2 = some (.lst [.str x]):=upd_same
 generalize upd H3 l2 (.lst [.str x]) = H4 at s4 e4
 refine ⟨l,l2,_,_,rfl,rfl,s4 _ _ (s3 _ _ e2),e4,small (by rw [List.length_map]; show _ + 1<=_; omega),fun p hp=>?_⟩
 have s5:=Same.new (o:=.lst (o.ws.map V.str ++ [.str x])) hp
 refine ⟨p,o.ws ++ [x],o.ws.map nmT ++ [trW numC o.last],rfl,SqL.of (by rw [upd_same,List.map_append]; rfl),?_,Nat.le_trans (wid_O g) (by decide),fun y hy=>q y _ hy (((s02.trans s3).trans s4).trans s5)⟩
 rw [List.map_append,List.map_append,List.map_map,List.map_cons,List.map_cons,hx,shT_W]
 rfl
theorem sc_show_record:FnScope ["record"] ["record"] (defScope s_show_record):=⟨rfl,rfl,rfl,by decide +kernel,rfl,by decide +kernel,by decide +kernel⟩
theorem ok_show_record {n:Nat} (F:Fun K "show_record" "show_record" s_show_record f fd) (G_bracketed_papertexts:Have P w K mg base "bracketed_papertexts" k ["texts"] (spBraP K)) (G_show_outcome:Have P w K mg base "show_outcome" k ["outcome"] (spShowO)) (G_show_record:Have P w K mg base "show_record" k ["record"] (spShowE n)):FnOk P w K mg base CX0 (k + 1) f fd ["record"] (spShowE (n + 1)):=by
 refine F.okQ sc_show_record (fun vs H Q E h=>?_) (fun cdv A outer s H vs Q E hr h=>?_)
 ·obtain ⟨v,e,rfl,_⟩:=h
  rfl
 obtain ⟨v,e,rfl,rv,g,hd,hm,q⟩:=h
 refine ⟨_,(pss_one (ps_ret (pe_fn G_bracketed_papertexts hr rfl (pa_cons (pe_op op_cat (pe_lst (pa_cons (pe_fn G_show_outcome hr rfl (pa_cons (pe_ix ix_tup (pv 0) pe_int (fun _ _=>rfl)) pa_nil)) pa_nil)) (pe_lcomp [] [] rfl rfl (by decide +kernel) rfl (by decide +kernel) rfl (by decide +kernel) trivial rfl trivial (pi_tup (pe_ix ix_tup (pv 0) pe_int (fun _ _=>rfl))) (fun C s H fp=>⟨pifs_nil,(pe_fn G_show_record hr rfl (pa_cons (pv 0) pa_nil))⟩))) pa_nil)))),?_⟩
 obtain ⟨o,ps⟩:=e
 rw [Re.toW] at rv
 rw [GdE] at g
 rw [Re.deep] at hd
 rw [Re.many] at hm
 obtain ⟨a,ov,pv,rfl,ea,ro,rp⟩:=opn2 rv
 obtain ⟨b,us,rfl,eb,rus⟩:=opnL rp
 have hul:us.length = ps.length:=by rw [rus.len,reWs_map,List.length_map]
 have hpl:=re_len ps
 refine ⟨_,rfl,a,_,0,ov,rfl,rfl,SqT.of ea,rfl,ov,o,rfl,ro,g.1,fun x H1 hx s1=>⟨zl1,fun l hl=>?_⟩⟩
 have s2:=s1.trans (Same.new (o:=.lst [.str x]) hl)
 have e2:upd H1 l (.lst [.str x]) l = some (.lst [.str x]):=upd_same
 generalize upd H1 l (.lst [.str x]) = H2 at s2 e2
 refine ⟨_,rfl,a,_,1,.ref b,rfl,rfl,SqT.of (s2 _ _ ea),rfl,b,rfl,⟨_,SqT.of (s2 _ _ eb)⟩,rd_drawT (K:=K) (vs:=us) (fun i ys H'=>∃ xs:List Str,ys = xs.map V.str/\xs.length = i/\xs.map (fun y=>y.cps.toList) = ((ps.take i).map trE).map shT/\Same H2 H') (small (by omega)) ⟨[],rfl,rfl,rfl,Same.refl _⟩ (fun i ys H' h=>?_) (fun i ys H' h=>?_) (fun i v ys H' R hv h hR=>?_) (fun ys H' D h hD=>?_)⟩
 ·obtain ⟨xs,rfl,hl,_⟩:=h
  rw [List.length_map]; exact hl
 ·obtain ⟨_,_,_,_,s3⟩:=h
  exact SqT.of (s3 _ _ (s2 _ _ eb))
 ·obtain ⟨xs,rfl,hxl,hxs,s3⟩:=h
  have hi:i < ps.length:=by rw [← hul]; exact (List.getElem?_eq_some_iff.mp hv).1
  have hpi:ps[i]? = some ps[i]:=List.getElem?_eq_getElem hi
  have rw0:=rus.at' i v ps[i].toW hv (by rw [reWs_map,List.getElem?_map,hpi]; rfl)
  have mem:=List.getElem_mem hi
  have dm:=re_mem mem
  refine ⟨_,rfl,v,ps[i],rfl,rw0.mono (same_tups' (s2.trans s3)),g.2.mem _ mem,by omega,by omega,fun y H4 hy s4=>hR _ _ ⟨xs ++ [y],by rw [List.map_append]; rfl,by rw [List.length_append,hxl]; rfl,?_,s3.trans s4⟩⟩
  rw [take_snoc hpi,List.map_append,List.map_append,List.map_append,hxs,List.map_cons,List.map_cons,List.map_cons,hy]
  rfl
 ·obtain ⟨xs,rfl,hxl,hxs,s3⟩:=h
  rw [hul,List.take_length] at hxs
  have s4:=s3.trans (Same.new (o:=.lst (xs.map V.str)) hD)
  refine ⟨l,D,_,_,rfl,rfl,s4 _ _ e2,upd_same,small (by rw [List.length_map]; show 1 + _<=_; omega),fun p hp=>?_⟩
  have w1:=shO_len g.1
  have w2:=shEs_len ps g.2
  refine ⟨p,x :: xs,trO o :: trEs ps,rfl,SqL.of (by rw [upd_same]; rfl),?_,?_,fun y hy=>q y _ hy ((s2.trans s4).trans (Same.new hp))⟩
  ·rw [List.map_cons,List.map_cons,hx,hxs,trEs_map]
  ·rw [wid_cons]
   omega
theorem sc_show_look:FnScope ["look"] ["look"] (defScope s_show_look):=⟨rfl,rfl,rfl,by decide +kernel,rfl,by decide +kernel,by decide +kernel⟩
theorem ok_show_look (F:Fun K "show_look" "show_look" s_show_look f fd) (G_bracketed_papertexts:Have P w K mg base "bracketed_papertexts" k ["texts"] (spBraP K)) (G_show_outcome:Have P w K mg base "show_outcome" k ["outcome"] (spShowO)) (G_show_worth:Have P w K mg base "show_worth" k ["worth"] (spShow 14)):FnOk P w K mg base CX0 (k + 1) f fd ["look"] (spShowL):=by
 refine F.okQ sc_show_look (fun vs H Q E h=>?_) (fun cdv A outer s H vs Q E hr h=>?_)
 ·obtain ⟨v,l,rfl,_⟩:=h
  rfl
 obtain ⟨v,l,rfl,rv,g,q⟩:=h
 refine ⟨_,(pss_one (ps_ret (pe_fn G_bracketed_papertexts hr rfl (pa_cons (pe_lst (pa_cons (pe_fn G_show_worth hr rfl (pa_cons (pe_ix ix_tup (pv 0) pe_int (fun _ _=>rfl)) pa_nil)) (pa_cons (pe_fn G_show_outcome hr rfl (pa_cons (pe_ix ix_tup (pv 0) pe_int (fun _ _=>rfl)) pa_nil)) pa_nil))) pa_nil)))),?_⟩
 obtain ⟨z,o⟩:=l
 obtain ⟨a,zv,ov,rfl,ea,rz,ro⟩:=opn2 rv
 have gz:=txt_good g.1
 refine ⟨_,rfl,a,_,0,zv,rfl,rfl,SqT.of ea,rfl,zv,.txt z,rfl,rz,gz.1,gz.2.1,Nat.lt_succ_of_le (Nat.le_succ_of_le gz.2.2),fun x H1 hx s1=>?_⟩
 refine ⟨_,rfl,a,_,1,ov,rfl,rfl,SqT.of (s1 _ _ ea),rfl,ov,o,rfl,ro.mono (same_tups' s1),g.2,fun y H2 hy s2=>⟨zl2,fun p hp=>?_⟩⟩
 have w1:=shO_len g.2
 have w2:=good_len gz
 refine ⟨p,[x,y],[trW numC (.txt z),trO o],rfl,SqL.of (by rw [upd_same]; rfl),?_,?_,fun t ht=>q t _ ht ((s1.trans s2).trans (Same.new hp))⟩
 ·rw [List.map_cons,List.map_cons,List.map_cons,List.map_cons,hx,hy,shT_W]
  rfl
 ·rw [wid_cons,wid_cons]
  show _ + (_ + 1 + 0)<=_
  have w1':(shT (trO o)).length + 1<=65000:=w1
  have w2':(shT (trW numC (.txt z))).length + 1<=64000:=w2
  omega
theorem sc_show_paper:FnScope ["paper","looks"] ["paper"] (defScope s_show_paper):=⟨rfl,rfl,rfl,by decide +kernel,rfl,by decide +kernel,by decide +kernel⟩
theorem ok_show_paper (F:Fun K "show_paper" "show_paper" s_show_paper f fd) (G_bracketed_papertexts:Have P w K mg base "bracketed_papertexts" k ["texts"] (spBraP K)) (G_show_record:Have P w K mg base "show_record" k ["record"] (spShowE 14)) (G_show_rule:Have P w K mg base "show_rule" k ["rule"] (spShowR 14)) (G_show_look:Have P w K mg base "show_look" k ["look"] (spShowL)):FnOk P w K mg base CX0 (k + 1) f fd ["paper"] (spShowP):=by
 refine F.okQ sc_show_paper (fun vs H Q E h=>?_) (fun cdv A outer s H vs Q E hr h=>?_)
 ·obtain ⟨v,p,rfl,_⟩:=h
  rfl
 obtain ⟨v,p,rfl,rv,g,q⟩:=h
 refine ⟨_,(pss_cons (ps_set (i:=1) sc_show_paper.nd rfl (Or.inl rfl) (pe_fn G_bracketed_papertexts hr rfl (pa_cons (pe_op op_cat (pe_lst (pa_cons pe_str pa_nil)) (pe_lcomp [] [] rfl rfl (by decide +kernel) rfl (by decide +kernel) rfl (by decide +kernel) trivial rfl trivial (pi_tup (pe_ix ix_tup (pv 0) pe_int (fun _ _=>rfl))) (fun C s H fp=>⟨pifs_nil,(pe_fn G_show_look hr rfl (pa_cons (pv 0) pa_nil))⟩))) pa_nil)))
  (pss_one (ps_ret (pe_fn G_bracketed_papertexts hr rfl (pa_cons (pe_lst (pa_cons pe_str (pa_cons (pe_fn G_show_rule hr rfl (pa_cons (pe_ix ix_tup (pv 0) pe_int (fun _ _=>rfl)) pa_nil)) (pa_cons (pv 1) (pa_cons (pe_fn G_show_record hr rfl (pa_cons (pe_ix ix_tup (pv 0) pe_int (fun _ _=>rfl)) pa_nil)) pa_nil))))) pa_nil))))),?_⟩
 obtain ⟨r,ls,e⟩:=p
 obtain ⟨a,rv',lv,ev,rfl,ea,rr,rl,re⟩:=opn3 rv
 obtain ⟨b,us,rfl,eb,rus⟩:=opnL rl
 have hul:us.length = ls.length:=by rw [rus.len,List.length_map]
 have hll:ls.length<=10:=g.ll
 refine ⟨zl1,fun l hl=>?_⟩
 have s2:=Same.new (o:=.lst [.str "looks"]) hl
 have e2:upd H l (.lst [.str "looks"]) l = some (.lst [.str "looks"]):=upd_same
 generalize upd H l (.lst [.str "looks"]) = H2 at s2 e2
 refine ⟨_,rfl,a,_,1,.ref b,rfl,rfl,SqT.of (s2 _ _ ea),rfl,b,rfl,⟨_,SqT.of (s2 _ _ eb)⟩,rd_drawT (K:=K) (vs:=us) (fun i ys H'=>∃ xs:List Str,ys = xs.map V.str/\xs.length = i/\xs.map (fun y=>y.cps.toList) = ((ls.take i).map trL).map shT/\Same H2 H') (small (by omega)) ⟨[],rfl,rfl,rfl,Same.refl _⟩ (fun i ys H' h=>?_) (fun i ys H' h=>?_) (fun i v ys H' R hv h hR=>?_) (fun ys H' D h hD=>?_)⟩
 ·obtain ⟨xs,rfl,hl,_⟩:=h
  rw [List.length_map]; exact hl
 ·obtain ⟨_,_,_,_,s3⟩:=h
  exact SqT.of (s3 _ _ (s2 _ _ eb))
 ·obtain ⟨xs,rfl,hxl,hxs,s3⟩:=h
  have hi:i < ls.length:=by rw [← hul]; exact (List.getElem?_eq_some_iff.mp hv).1
  have hpi:ls[i]? = some ls[i]:=List.getElem?_eq_getElem hi
  have rw0:=rus.at' i v (lkW ls[i]) hv (by rw [List.getElem?_map,hpi]; rfl)
  refine ⟨_,rfl,v,ls[i],rfl,rw0.mono (same_tups' (s2.trans s3)),g.l _ (List.getElem_mem hi),fun y H4 hy s4=>hR _ _ ⟨xs ++ [y],by rw [List.map_append]; rfl,by rw [List.length_append,hxl]; rfl,?_,s3.trans s4⟩⟩
  rw [take_snoc hpi,List.map_append,List.map_append,List.map_append,hxs,List.map_cons,List.map_cons,List.map_cons,hy]
  rfl
 obtain ⟨xs,rfl,hxl,hxs,s3⟩:=h
 rw [hul,List.take_length] at hxs
 have s4:=s3.trans (Same.new (o:=.lst (xs.map V.str)) hD)
 refine ⟨l,D,_,_,rfl,rfl,s4 _ _ e2,upd_same,small (by rw [List.length_map]; show 1 + _<=_; omega),fun p hp=>?_⟩
 have w1:=wid_Ls ls g.l
 have l5:((Str.ofString "looks").cps.toList).length = 5:=by decide +kernel
 have l6:((Str.ofString "paper").cps.toList).length = 5:=by decide +kernel
 have wl:wid (nmT "looks" :: ls.map trL)<=1400000:=by
  rw [wid_cons,nmT,shT,l5]
  omega
 refine ⟨p,Str.ofString "looks" :: xs,nmT "looks" :: ls.map trL,rfl,SqL.of (by rw [upd_same]; rfl),?_,Nat.le_trans wl (by decide),fun lx hlx=>?_⟩
 ·rw [List.map_cons,List.map_cons,hxs]
  rfl
 have s5:=(s2.trans s4).trans (Same.new (o:=.lst ([.str "looks"] ++ xs.map V.str)) hp)
 generalize upd (upd H' D (.lst (xs.map V.str))) p (.lst ([.str "looks"] ++ xs.map V.str)) = H5 at s5
 have rm:r.many<=20:=g.rm
 have rh:r.high<=12:=g.rh
 have em:e.many<=20:=g.em
 dsimp only [gName]
 refine ⟨_,rfl,a,_,0,rv',rfl,rfl,SqT.of (s5 _ _ ea),rfl,rv',r,rfl,rr.mono (same_tups' s5),g.r,by omega,by omega,fun x H6 hx s6=>?_⟩
 refine ⟨_,rfl,_,rfl,a,_,2,ev,rfl,rfl,SqT.of (s6 _ _ (s5 _ _ ea)),rfl,ev,e,rfl,re.mono (same_tups' (s5.trans s6)),g.e,g.ed,em,fun y H7 hy s7=>⟨zl4,fun p2 hp2=>?_⟩⟩
 have w2:=shR_len r g.r
 have w3:=shE_len e g.e
 have w4:=shL_wid (nmT "looks" :: ls.map trL)
 refine ⟨p2,[Str.ofString "paper",x,lx,y],[nmT "paper",trR r,.lst (nmT "looks" :: ls.map trL),trE e],rfl,SqL.of (by rw [upd_same]; rfl),?_,?_,fun t ht=>q t _ ht (((s5.trans s6).trans s7).trans (Same.new hp2))⟩
 ·simp only [List.map_cons,List.map_nil,hx,hlx,hy]
  rfl
 ·rw [wid_cons,wid_cons,wid_cons,wid_cons,nmT,shT,l6]
  show _ + (_ + (_ + (_ + 1 + 0)))<=_
  omega
def spTextT:Sp:=fun vs H Q _=>∃ (v:V) (z:Str),vs = [v]/\RTr H v (trW numC (.txt z))/\(W.txt z).Ok/\∀ H',Same H H'->Q (.str z) H'
def spInner:Sp:=fun vs H Q _=>∃ (v:V) (ts:List Tr),vs = [v]/\RTr H v (.lst ts)/\∀ (b:Addr) (us:List V),H b = some (.tup us)->RTrs H us ts->Q (.ref b) H
def spWordT:Sp:=fun vs H Q _=>∃ (v:V) (z:Str),vs = [v]/\RTr H v (nmT z)/\Q (.str z) H
def spBehind:Sp:=fun vs H Q _=>∃ (z:Str) (v:V) (ts:List Tr),vs = [.str z,v]/\RTr H v (.lst (nmT z :: ts))/\∀ (b:Addr) (us:List V) (H':Hp),Same H H'->H' b = some (.tup us)->RTrs H' us ts->Q (.ref b) H'
def spOutT:Sp:=fun vs H Q _=>∃ (v:V) (o:Ou),vs = [v]/\RTr H v (trO o)/\GdO o/\∀ (u:V) (H':Hp),Same H H'->RW H' u o.toW->Q u H'
def spRecT (n:Nat):Sp:=fun vs H Q _=>∃ (v:V) (e:Re),vs = [v]/\RTr H v (trE e)/\GdE e/\e.deep < n/\e.many<=20/\∀ (u:V) (H':Hp),Same H H'->RW H' u e.toW->Q u H'
def spLookT:Sp:=fun vs H Q _=>∃ (v:V) (l:Lk),vs = [v]/\RTr H v (trL l)/\GdL l/\∀ (u:V) (H':Hp),Same H H'->RW H' u (lkW l)->Q u H'
def spPapT:Sp:=fun vs H Q _=>∃ (v:V) (p:Pa),vs = [v]/\RTr H v (trP p)/\GdP p/\Rule p.r/\∀ (u:V) (H':Hp),Same H H'->RW H' u p.toW->Q u H'
def spReadP:Sp:=fun vs H Q _=>∃ (t:Str) (p:Pa),vs = [.str t]/\Spell t.cps.toList (pcT (trP p))/\t.length<=10000000/\GdP p/\Rule p.r/\∀ (u:V) (H':Hp),Same H H'->RW H' u p.toW->Q u H'
theorem rws2 {H:Hp}{u v:V}{x y:W} (h1:RW H u x) (h2:RW H v y):RWs H [u,v] [x,y]:=⟨rfl,fun i a b ha hb=>by
 match i with
 | 0=>cases ha; cases hb; exact h1
 | 1=>cases ha; cases hb; exact h2
 | n + 2=>cases ha⟩
theorem rws3 {H:Hp}{u v t:V}{x y z:W} (h1:RW H u x) (h2:RW H v y) (h3:RW H t z):RWs H [u,v,t] [x,y,z]:=⟨rfl,fun i a b ha hb=>by
 match i with
 | 0=>cases ha; cases hb; exact h1
 | 1=>cases ha; cases hb; exact h2
 | 2=>cases ha; cases hb; exact h3
 | n + 3=>cases ha⟩
theorem rwsO {H:Hp}{u:V}{x:W} (h:RW H u x):∀ ws:List Str,RWs H (ws.map V.str ++ [u]) (ws.map W.txt ++ [x])
 | []=>⟨rfl,fun i a b ha hb=>by
   match i with
   | 0=>cases ha; cases hb; exact h
   | n + 1=>cases ha⟩
 | w :: ws=>by
  have ih:=rwsO h ws
  refine ⟨by rw [List.map_cons,List.map_cons,List.cons_append,List.cons_append,List.length_cons,List.length_cons,ih.len],fun i a b ha hb=>?_⟩
  cases i with
  | zero=>cases ha; cases hb; exact .txt w
  | succ n=>exact ih.at' n a b ha hb
theorem GdO.ne {o:Ou} (g:GdO o):o.ws≠[]:=by cases g <;> exact fun h=>nomatch h
theorem sIx_m1 (us:List V) (v:V):HT.sIx (us ++ [v]).length (us ++ [v]).length (some (-1)) = us.length:=by
 rw [List.length_append,List.length_singleton]
 unfold HT.sIx
 simp only
 split <;> omega
theorem cut_one (v:V) (vs:List V):cutV (v :: vs) (some 1) none = vs:=by
 unfold cutV
 rw [show (1:Int) = ((1:Nat):Int) from rfl,HT.sIx_nat,HT.sIx_none,List.length_cons,Nat.min_eq_left (by omega),List.drop_succ_cons,List.drop_zero,List.take_of_length_le (by omega)]
theorem sIx_one (v:V) (vs:List V) (n:Nat):¬ (HT.sIx (v :: vs).length 0 (some 1) = 0/\n = n):=fun h=>by
 have:=h.1
 rw [show (1:Int) = ((1:Nat):Int) from rfl,HT.sIx_nat,List.length_cons] at this
 omega
theorem trO_deep {o:Ou} (g:GdO o):(trO o).deep<=13:=by
 show 1 + deeps (o.ws.map nmT ++ [trW numC o.last])<=13
 have:=deeps_le (ts:=o.ws.map nmT ++ [trW numC o.last]) (n:=12) fun t ht=>by
  rcases List.mem_append.mp ht with ht | ht
  ·obtain ⟨z,_,rfl⟩:=List.mem_map.mp ht
   exact Nat.zero_le _
  ·rw [List.mem_singleton.mp ht,deep_W]
   exact g.good.1.2.2
 omega
mutual
theorem trE_deep:∀ e:Re,GdE e->(trE e).deep<=e.deep + 13
 | .mk o ps,g=>by
  rw [GdE] at g
  have h1:=trO_deep g.1
  have h2:=trEs_deep ps g.2
  rw [trE,Re.deep]
  show 1 + max (trO o).deep (deeps (trEs ps))<=_
  omega
theorem trEs_deep:∀ ps:List Re,GdEs ps->deeps (trEs ps)<=reDeeps ps + 13
 | [],_=>Nat.zero_le _
 | p :: r,g=>by
  rw [GdEs] at g
  have h1:=trE_deep p g.1
  have h2:=trEs_deep r g.2
  rw [trEs,reDeeps]
  show max (trE p).deep (deeps (trEs r))<=_
  omega
end
theorem trP_deep {p:Pa} (g:GdP p):(trP p).deep<=90:=by
 have h1:=trR_deep p.r g.r
 have h2:=trE_deep p.e g.e
 have h3:=g.rh
 have h4:=g.ed
 have h5:deeps (p.ls.map trL)<=20:=deeps_le fun t ht=>by
  obtain ⟨l,hl,rfl⟩:=List.mem_map.mp ht
  have:=trO_deep (g.l l hl).2
  show 1 + max (trW numC (.txt l.1)).deep (max (trO l.2).deep 0)<=20
  have h0:(trW numC (.txt l.1)).deep = 0:=by rw [deep_W]; rfl
  omega
 show 1 + max 0 (max (trR p.r).deep (max (1 + max 0 (deeps (p.ls.map trL))) (max (trE p.e).deep 0)))<=90
 omega
theorem sc_text_of_tree:FnScope ["tree"] ["tree"] (defScope s_text_of_tree):=⟨rfl,rfl,rfl,by decide +kernel,rfl,by decide +kernel,by decide +kernel⟩
theorem ok_text_of_tree (F:Fun K "text_of_tree" "text_of_tree" s_text_of_tree f fd) (G_is_worth:Have P w K mg base "is_worth" k ["thing"] (spIsWorth)):FnOk P w K mg base CX0 (k + 1) f fd ["tree"] (spTextT):=by
 refine F.okQ sc_text_of_tree (fun vs H Q E h=>?_) (fun cdv A outer s H vs Q E hr h=>?_)
 ·obtain ⟨v,z,rfl,_⟩:=h
  rfl
 obtain ⟨v,z,rfl,rv,ok,q⟩:=h
 refine ⟨_,(pss_cons (ps_if (PW.pt (pw_or (pt_cmpR op_ne (pe_ix ix_tup (pv 0) pe_int (fun _ _=>rfl)) pe_str (nomark _)) (pw_or1 (pt_not (pt_val (pe_fn G_is_worth hr rfl (pa_cons (pe_ix ix_tup (pv 0) pe_int (fun _ _=>rfl)) pa_nil))))))) pss_never pss_nil)
  (pss_one (ps_ret (pe_ix ix_tup (pv 0) pe_int (fun _ _=>rfl))))),?_⟩
 rw [trW] at rv
 cases rv with
 | @txt a q' e=>
  have e:H a = some (.tup [.str "text",.str z]):=by rw [e,← strOf z]
  refine ⟨_,rfl,a,_,0,_,rfl,rfl,SqT.of e,rfl,rfl,_,rfl,?_⟩
  rw [dyS rfl]
  have gz:=txt_good ok
  refine iteF ⟨_,rfl,a,_,1,_,rfl,rfl,SqT.of e,rfl,.str z,(W.txt z).toT,rfl,(RW.txt z).toRT,sm_toT _ (th_of _ ok),fun H1 s1=>?_⟩
  rw [w_worth gz.1 gz.2.1 gz.2.2]
  refine ⟨_,rfl,iteF ?_⟩
  exact ⟨_,rfl,a,_,1,_,rfl,rfl,SqT.of (s1 _ _ e),rfl,q H1 s1⟩
theorem sc_inner_trees:FnScope ["tree"] ["tree"] (defScope s_inner_trees):=⟨rfl,rfl,rfl,by decide +kernel,rfl,by decide +kernel,by decide +kernel⟩
theorem ok_inner_trees (F:Fun K "inner_trees" "inner_trees" s_inner_trees f fd):FnOk P w K mg base CX0 (k + 1) f fd ["tree"] (spInner):=by
 refine F.okQ sc_inner_trees (fun vs H Q E h=>?_) (fun cdv A outer s H vs Q E hr h=>?_)
 ·obtain ⟨v,ts,rfl,_⟩:=h
  rfl
 obtain ⟨v,ts,rfl,rv,q⟩:=h
 refine ⟨_,(pss_cons (ps_if (pt_cmpR op_ne (pe_ix ix_tup (pv 0) pe_int (fun _ _=>rfl)) pe_str (nomark _)) pss_never pss_nil)
  (pss_one (ps_ret (pe_ix ix_tup (pv 0) pe_int (fun _ _=>rfl))))),?_⟩
 cases rv with
 | @lst a b us ts e e2 l at'=>
  refine ⟨_,rfl,a,_,0,_,rfl,rfl,SqT.of e,rfl,rfl,_,rfl,?_⟩
  rw [dyS rfl]
  exact iteF ⟨_,rfl,a,_,1,_,rfl,rfl,SqT.of e,rfl,q b us e2 ⟨l,at'⟩⟩
theorem sc_word_of_tree:FnScope ["tree"] ["tree"] (defScope s_word_of_tree):=⟨rfl,rfl,rfl,by decide +kernel,rfl,by decide +kernel,by decide +kernel⟩
theorem ok_word_of_tree (F:Fun K "word_of_tree" "word_of_tree" s_word_of_tree f fd):FnOk P w K mg base CX0 (k + 1) f fd ["tree"] (spWordT):=by
 refine F.okQ sc_word_of_tree (fun vs H Q E h=>?_) (fun cdv A outer s H vs Q E hr h=>?_)
 ·obtain ⟨v,z,rfl,_⟩:=h
  rfl
 obtain ⟨v,z,rfl,rv,q⟩:=h
 refine ⟨_,(pss_cons (ps_if (pt_cmpR op_ne (pe_ix ix_tup (pv 0) pe_int (fun _ _=>rfl)) pe_str (nomark _)) pss_never pss_nil)
  (pss_one (ps_ret (pe_ix ix_tup (pv 0) pe_int (fun _ _=>rfl))))),?_⟩
 obtain ⟨a,rfl,e⟩:=rv.nm_inv
 refine ⟨_,rfl,a,_,0,_,rfl,rfl,SqT.of e,rfl,rfl,_,rfl,?_⟩
 rw [dyS rfl]
 exact iteF ⟨_,rfl,a,_,1,_,rfl,rfl,SqT.of e,rfl,q⟩
theorem sc_trees_behind:FnScope ["word","tree","trees"] ["word","tree"] (defScope s_trees_behind):=⟨rfl,rfl,rfl,by decide +kernel,rfl,by decide +kernel,by decide +kernel⟩
theorem ok_trees_behind (F:Fun K "trees_behind" "trees_behind" s_trees_behind f fd) (G_word_of_tree:Have P w K mg base "word_of_tree" k ["tree"] (spWordT)) (G_inner_trees:Have P w K mg base "inner_trees" k ["tree"] (spInner)) (m_len:mg "len" = none):FnOk P w K mg base CX0 (k + 1) f fd ["word","tree"] (spBehind):=by
 refine F.okQ sc_trees_behind (fun vs H Q E h=>?_) (fun cdv A outer s H vs Q E hr h=>?_)
 ·obtain ⟨z,v,ts,rfl,_⟩:=h
  rfl
 obtain ⟨z,v,ts,rfl,rv,q⟩:=h
 refine ⟨_,(pss_cons (ps_set (i:=2) sc_trees_behind.nd rfl (Or.inl rfl) (pe_fn G_inner_trees hr rfl (pa_cons (pv 1) pa_nil)))
  (pss_cons (ps_if (PW.pt (pw_or (pt_cmpR op_eq (pe_callB call_len rfl m_len PySem.boot_len (pa_cons (pv 2) pa_nil)) pe_int (nomark _)) (pw_or1 (pt_cmpR op_ne (pe_fn G_word_of_tree hr rfl (pa_cons (pe_ix ix_tup (pv 2) pe_int (fun _ _=>rfl)) pa_nil)) (pv 0) (nomark _))))) pss_never pss_nil)
  (pss_one (ps_ret (pe_slice sl_tup (pv 2) (po_some pe_int) po_none))))),?_⟩
 refine ⟨_,rfl,v,_,rfl,rv,fun b us eb rus=>?_⟩
 obtain ⟨v0,vs,rfl,r0,rvs⟩:=rus.cons_inv
 refine ⟨_,rfl,_,_,rfl,.inr ⟨_,SqT.of eb,rfl⟩,rfl,_,rfl,?_⟩
 rw [decide_eq_false (fun z=>by have:=V.int.inj z; simp only [List.length_cons] at this; omega)]
 refine iteF ⟨_,rfl,b,_,0,_,rfl,rfl,SqT.of eb,atI_nat (j:=0) rfl,v0,z,rfl,r0,_,rfl,rfl,_,rfl,?_⟩
 rw [dyS rfl]
 refine iteF ⟨_,rfl,1,rfl,b,_,rfl,SqT.of eb,fun h=>?_,fun p hp=>?_⟩
 ·have:=h.1
  rw [show (1:Int) = ((1:Nat):Int) from rfl,HT.sIx_nat,List.length_cons] at this
  omega
 have ec:cutV (v0 :: vs) (some 1) none = vs:=by
  unfold cutV
  rw [show (1:Int) = ((1:Nat):Int) from rfl,HT.sIx_nat,HT.sIx_none,List.length_cons,Nat.min_eq_left (by omega),List.drop_succ_cons,List.drop_zero,List.take_of_length_le (by omega)]
 rw [ec]
 have s1:=Same.new (o:=.tup vs) hp
 exact q p vs _ s1 upd_same (rvs.mono (same_tups' s1))
theorem sc_outcome_of_tree:FnScope ["tree","trees","outcome"] ["tree"] (defScope s_outcome_of_tree):=⟨rfl,rfl,rfl,by decide +kernel,rfl,by decide +kernel,by decide +kernel⟩
theorem ok_outcome_of_tree (F:Fun K "outcome_of_tree" "outcome_of_tree" s_outcome_of_tree f fd) (G_is_outcome:Have P w K mg base "is_outcome" k ["thing"] (spIsOut)) (G_word_of_tree:Have P w K mg base "word_of_tree" k ["tree"] (spWordT)) (G_worth_of_tree:Have P w K mg base "worth_of_tree" k ["tree"] (spWTree 14)) (G_inner_trees:Have P w K mg base "inner_trees" k ["tree"] (spInner)) (m_len:mg "len" = none) (m_tuple:mg "tuple" = none):FnOk P w K mg base CX0 (k + 1) f fd ["tree"] (spOutT):=by
 refine F.okQ sc_outcome_of_tree (fun vs H Q E h=>?_) (fun cdv A outer s H vs Q E hr h=>?_)
 ·obtain ⟨v,o,rfl,_⟩:=h
  rfl
 obtain ⟨v,o,rfl,rv,g,q⟩:=h
 refine ⟨_,(pss_cons (ps_set (i:=1) sc_outcome_of_tree.nd rfl (Or.inl rfl) (pe_fn G_inner_trees hr rfl (pa_cons (pv 0) pa_nil)))
  (pss_cons (ps_if (pt_cmpR op_eq (pe_callB call_len rfl m_len PySem.boot_len (pa_cons (pv 1) pa_nil)) pe_int (nomark _)) pss_never pss_nil)
  (pss_cons (ps_set (i:=2) sc_outcome_of_tree.nd rfl (Or.inl rfl) (pe_op op_catT (pe_callTy call_tuple_of rfl m_tuple boot_tupleT (pa_cons (pe_lcomp [] [] rfl rfl (by decide +kernel) rfl (by decide +kernel) rfl (by decide +kernel) trivial rfl trivial (pi_tup (pe_slice sl_tup (pv 1) po_none (po_some (pe_un un_neg pe_int)))) (fun C s H fp=>⟨pifs_nil,(pe_fn G_word_of_tree hr rfl (pa_cons (pv 0) pa_nil))⟩)) pa_nil)) (pe_tup (pa_cons (pe_fn G_worth_of_tree hr rfl (pa_cons (pe_ix ix_tup (pv 1) (pe_un un_neg pe_int) (fun _ _=>rfl)) pa_nil)) pa_nil))))
  (pss_cons (ps_if (pt_not (pt_val (pe_fn G_is_outcome hr rfl (pa_cons (pv 2) pa_nil)))) pss_never pss_nil)
  (pss_one (ps_ret (pv 2))))))),?_⟩
 obtain ⟨gw,hl2,_⟩:=g.good
 refine ⟨_,rfl,v,_,rfl,rv,fun b us eb rus=>?_⟩
 obtain ⟨xs,ys,rfl,rxs,rys⟩:=rus.app_inv
 obtain ⟨lv,vs,rfl,rl,rvs⟩:=rys.cons_inv
 obtain rfl:vs = []:=List.length_eq_zero_iff.mp rvs.len
 have hxl:xs.length = o.ws.length:=by rw [rxs.len,List.length_map]
 refine ⟨_,rfl,_,_,rfl,.inr ⟨_,SqT.of eb,rfl⟩,rfl,_,rfl,?_⟩
 rw [decide_eq_false (fun z=>by have:=V.int.inj z; simp only [List.length_append,List.length_singleton] at this; omega)]
 refine iteF ⟨_,rfl,1,rfl,-1,rfl,b,_,rfl,SqT.of eb,?_,fun t ht=>?_⟩
 ·rw [sIx_m1,List.length_append,List.length_singleton]
  omega
 rw [cut_last]
 have s1:=Same.new (o:=.tup xs) ht
 have e1:upd H t (.tup xs) t = some (.tup xs):=upd_same
 generalize upd H t (.tup xs) = H1 at s1 e1
 refine ⟨t,rfl,⟨_,SqT.of e1⟩,rd_drawT (K:=K) (vs:=xs) (fun i ys H'=>ys = (o.ws.take i).map V.str/\i<=o.ws.length/\Same H1 H') (small (by omega)) ⟨rfl,Nat.zero_le _,Same.refl _⟩ (fun i ys H' h=>?_) (fun i ys H' h=>?_) (fun i v ys H' R hv h hR=>?_) (fun ys H' D h hD=>?_)⟩
 ·obtain ⟨rfl,hi,_⟩:=h
  rw [List.length_map,List.length_take]; omega
 ·exact SqT.of (h.2.2 _ _ e1)
 ·obtain ⟨rfl,_,s2⟩:=h
  have hi:i < o.ws.length:=by rw [← hxl]; exact (List.getElem?_eq_some_iff.mp hv).1
  have hpi:o.ws[i]? = some o.ws[i]:=List.getElem?_eq_getElem hi
  have r0:=rxs.at' i v (nmT o.ws[i]) hv (by rw [List.getElem?_map,hpi]; rfl)
  refine ⟨_,rfl,v,o.ws[i],rfl,r0.mono (same_tups' (s1.trans s2)),hR _ _ ⟨?_,hi,s2⟩⟩
  rw [take_snoc hpi,List.map_append]
  rfl
 obtain ⟨rfl,_,s2⟩:=h
 rw [hxl,List.take_length]
 have s3:=(s1.trans s2).trans (Same.new (o:=.lst (o.ws.map V.str)) hD)
 refine ⟨D,_,rfl,.inl ⟨SqL.of upd_same,fun t2 ht2=>?_⟩⟩
 have s4:=s3.trans (Same.new (o:=.tup (o.ws.map V.str)) ht2)
 have e4:upd (upd H' D (.lst (o.ws.map V.str))) t2 (.tup (o.ws.map V.str)) t2 = some (.tup (o.ws.map V.str)):=upd_same
 generalize upd (upd H' D (.lst (o.ws.map V.str))) t2 (.tup (o.ws.map V.str)) = H4 at s4 e4
 refine ⟨_,rfl,1,rfl,b,_,-1,lv,rfl,rfl,SqT.of (s4 _ _ eb),atI_last _ _,lv,o.last,rfl,rl.mono (same_tups' s4),gw.1,Nat.lt_succ_of_le (Nat.le_succ_of_le gw.2.2),fun u H5 s5 ru=>⟨zl1,fun p hp=>?_⟩⟩
 have s6:=s5.trans (Same.new (o:=.tup [u]) hp)
 have e6:upd H5 p (.tup [u]) p = some (.tup [u]):=upd_same
 have ru6:=ru.mono (same_tups' (Same.new (o:=.tup [u]) hp))
 generalize upd H5 p (.tup [u]) = H6 at s6 e6 ru6
 refine ⟨t2,p,o.ws.map V.str,[u],rfl,rfl,SqT.of (s6 _ _ e4),SqT.of e6,fun h=>g.ne (List.map_eq_nil_iff.mp h),small (by rw [List.length_map]; show _ + 1<=_; omega),fun h=>(nomatch h),fun _ p2 hp2=>?_⟩
 have s7:=Same.new (o:=.tup (o.ws.map V.str ++ [u])) hp2
 have ro:RW (upd H6 p2 (.tup (o.ws.map V.str ++ [u]))) (.ref p2) o.toW:=by
  have rr:=rwsO (ru6.mono (same_tups' s7)) o.ws
  exact .lst upd_same rr.len rr.at'
 have s8:=(s4.trans s6).trans s7
 generalize upd H6 p2 (.tup (o.ws.map V.str ++ [u])) = H8 at s7 ro s8
 dsimp only [gName]
 exact ⟨_,rfl,.ref p2,o,rfl,ro,g,fun H9 s9=>⟨_,rfl,iteF ⟨_,rfl,q _ _ (s8.trans s9) (ro.mono (same_tups' s9))⟩⟩⟩
theorem sc_record_of_tree:FnScope ["tree","trees"] ["tree"] (defScope s_record_of_tree):=⟨rfl,rfl,rfl,by decide +kernel,rfl,by decide +kernel,by decide +kernel⟩
theorem ok_record_of_tree {n:Nat} (F:Fun K "record_of_tree" "record_of_tree" s_record_of_tree f fd) (G_record_of_tree:Have P w K mg base "record_of_tree" k ["tree"] (spRecT n)) (G_outcome_of_tree:Have P w K mg base "outcome_of_tree" k ["tree"] (spOutT)) (G_inner_trees:Have P w K mg base "inner_trees" k ["tree"] (spInner)) (m_len:mg "len" = none) (m_tuple:mg "tuple" = none):FnOk P w K mg base CX0 (k + 1) f fd ["tree"] (spRecT (n + 1)):=by
 refine F.okQ sc_record_of_tree (fun vs H Q E h=>?_) (fun cdv A outer s H vs Q E hr h=>?_)
 ·obtain ⟨v,e,rfl,_⟩:=h
  rfl
 obtain ⟨v,e,rfl,rv,g,hd,hm,q⟩:=h
 refine ⟨_,(pss_cons (ps_set (i:=1) sc_record_of_tree.nd rfl (Or.inl rfl) (pe_fn G_inner_trees hr rfl (pa_cons (pv 0) pa_nil)))
  (pss_cons (ps_if (pt_cmpR op_eq (pe_callB call_len rfl m_len PySem.boot_len (pa_cons (pv 1) pa_nil)) pe_int (nomark _)) pss_never pss_nil)
  (pss_one (ps_ret (pe_tup (pa_cons (pe_fn G_outcome_of_tree hr rfl (pa_cons (pe_ix ix_tup (pv 1) pe_int (fun _ _=>rfl)) pa_nil)) (pa_cons (pe_callTy call_tuple_of rfl m_tuple boot_tupleT (pa_cons (pe_lcomp [] [] rfl rfl (by decide +kernel) rfl (by decide +kernel) rfl (by decide +kernel) trivial rfl trivial (pi_tup (pe_slice sl_tup (pv 1) (po_some pe_int) po_none)) (fun C s H fp=>⟨pifs_nil,(pe_fn G_record_of_tree hr rfl (pa_cons (pv 0) pa_nil))⟩)) pa_nil)) pa_nil))))))),?_⟩
 obtain ⟨o,ps⟩:=e
 rw [trE] at rv
 rw [GdE] at g
 rw [Re.deep] at hd
 rw [Re.many] at hm
 have hpl:=re_len ps
 refine ⟨_,rfl,v,_,rfl,rv,fun b us eb rus=>?_⟩
 obtain ⟨v0,vs,rfl,r0,rvs⟩:=rus.cons_inv
 have hvl:vs.length = ps.length:=by rw [rvs.len,trEs_map,List.length_map]
 refine ⟨_,rfl,_,_,rfl,.inr ⟨_,SqT.of eb,rfl⟩,rfl,_,rfl,?_⟩
 rw [decide_eq_false (fun z=>by have:=V.int.inj z; simp only [List.length_cons] at this; omega)]
 refine iteF ⟨_,rfl,b,_,0,_,rfl,rfl,SqT.of eb,atI_nat (j:=0) rfl,v0,o,rfl,r0,g.1,fun u0 H1 s1 ru0=>?_⟩
 refine ⟨_,rfl,1,rfl,b,_,rfl,SqT.of (s1 _ _ eb),fun h=>sIx_one v0 vs 0 ⟨h.1,rfl⟩,fun t ht=>?_⟩
 rw [cut_one]
 have s2:=s1.trans (Same.new (o:=.tup vs) ht)
 have ru2:=ru0.mono (same_tups' (Same.new (o:=.tup vs) ht))
 have e2:upd H1 t (.tup vs) t = some (.tup vs):=upd_same
 generalize upd H1 t (.tup vs) = H2 at s2 e2 ru2
 refine ⟨t,rfl,⟨_,SqT.of e2⟩,rd_drawT (K:=K) (vs:=vs) (fun i ys H'=>RWs H' ys ((ps.take i).map Re.toW)/\i<=ps.length/\Same H2 H') (small (by omega)) ⟨⟨rfl,fun i v w h=>by rw [List.getElem?_nil] at h; cases h⟩,Nat.zero_le _,Same.refl _⟩ (fun i ys H' h=>?_) (fun i ys H' h=>?_) (fun i v ys H' R hv h hR=>?_) (fun ys H' D h hD=>?_)⟩
 ·rw [h.1.len,List.length_map,List.length_take]
  have:=h.2.1
  omega
 ·exact SqT.of (h.2.2 _ _ e2)
 ·obtain ⟨ry,_,s3⟩:=h
  have hi:i < ps.length:=by rw [← hvl]; exact (List.getElem?_eq_some_iff.mp hv).1
  have hpi:ps[i]? = some ps[i]:=List.getElem?_eq_getElem hi
  have r1:=rvs.at' i v (trE ps[i]) hv (by rw [trEs_map,List.getElem?_map,hpi]; rfl)
  have mem:=List.getElem_mem hi
  have dm:=re_mem mem
  refine ⟨_,rfl,v,ps[i],rfl,r1.mono (same_tups' (s2.trans s3)),g.2.mem _ mem,by omega,by omega,fun u H4 s4 ru=>hR _ _ ⟨?_,hi,s3.trans s4⟩⟩
  rw [take_snoc hpi,List.map_append]
  exact (ry.mono (same_tups' s4)).snoc ru
 obtain ⟨ry,_,s3⟩:=h
 rw [hvl,List.take_length] at ry
 refine ⟨D,_,rfl,.inl ⟨SqL.of upd_same,fun t2 ht2=>?_⟩⟩
 have s4a:=(Same.new (o:=.lst ys) hD).trans (Same.new (o:=.tup ys) ht2)
 have s4:=s3.trans s4a
 have e4:upd (upd H' D (.lst ys)) t2 (.tup ys) t2 = some (.tup ys):=upd_same
 generalize upd (upd H' D (.lst ys)) t2 (.tup ys) = H4 at s4a s4 e4
 refine ⟨zl2,fun p hp=>?_⟩
 have s5:=Same.new (o:=.tup [u0,.ref t2]) hp
 have ry5:=(ry.mono (same_tups' s4a)).mono (same_tups' s5)
 refine q _ _ ((s2.trans s4).trans s5) ?_
 rw [Re.toW,reWs_map]
 exact .lst upd_same rfl (rws2 (ru2.mono (same_tups' (s4.trans s5))) (.lst (s5 _ _ e4) ry5.len ry5.at')).at'
theorem sc_look_of_tree:FnScope ["tree","trees"] ["tree"] (defScope s_look_of_tree):=⟨rfl,rfl,rfl,by decide +kernel,rfl,by decide +kernel,by decide +kernel⟩
theorem ok_look_of_tree (F:Fun K "look_of_tree" "look_of_tree" s_look_of_tree f fd) (G_outcome_of_tree:Have P w K mg base "outcome_of_tree" k ["tree"] (spOutT)) (G_text_of_tree:Have P w K mg base "text_of_tree" k ["tree"] (spTextT)) (G_inner_trees:Have P w K mg base "inner_trees" k ["tree"] (spInner)) (m_len:mg "len" = none):FnOk P w K mg base CX0 (k + 1) f fd ["tree"] (spLookT):=by
 refine F.okQ sc_look_of_tree (fun vs H Q E h=>?_) (fun cdv A outer s H vs Q E hr h=>?_)
 ·obtain ⟨v,l,rfl,_⟩:=h
  rfl
 obtain ⟨v,l,rfl,rv,g,q⟩:=h
 refine ⟨_,(pss_cons (ps_set (i:=1) sc_look_of_tree.nd rfl (Or.inl rfl) (pe_fn G_inner_trees hr rfl (pa_cons (pv 0) pa_nil)))
  (pss_cons (ps_if (pt_cmpR op_ne (pe_callB call_len rfl m_len PySem.boot_len (pa_cons (pv 1) pa_nil)) pe_int (nomark _)) pss_never pss_nil)
  (pss_one (ps_ret (pe_tup (pa_cons (pe_fn G_text_of_tree hr rfl (pa_cons (pe_ix ix_tup (pv 1) pe_int (fun _ _=>rfl)) pa_nil)) (pa_cons (pe_fn G_outcome_of_tree hr rfl (pa_cons (pe_ix ix_tup (pv 1) pe_int (fun _ _=>rfl)) pa_nil)) pa_nil))))))),?_⟩
 obtain ⟨z,o⟩:=l
 refine ⟨_,rfl,v,_,rfl,rv,fun b us eb rus=>?_⟩
 obtain ⟨v0,vs,rfl,r0,rvs⟩:=rus.cons_inv
 obtain ⟨v1,vs,rfl,r1,rvs⟩:=rvs.cons_inv
 obtain rfl:vs = []:=List.length_eq_zero_iff.mp rvs.len
 refine ⟨_,rfl,_,_,rfl,.inr ⟨_,SqT.of eb,rfl⟩,rfl,_,rfl,iteF ?_⟩
 refine ⟨_,rfl,b,_,0,_,rfl,rfl,SqT.of eb,rfl,v0,z,rfl,r0,g.1,fun H1 s1=>?_⟩
 refine ⟨_,rfl,b,_,1,_,rfl,rfl,SqT.of (s1 _ _ eb),rfl,v1,o,rfl,r1.mono (same_tups' s1),g.2,fun u H2 s2 ru=>⟨zl2,fun p hp=>?_⟩⟩
 have s3:=Same.new (o:=.tup [.str z,u]) hp
 exact q _ _ ((s1.trans s2).trans s3) (.lst upd_same rfl (rws2 (.txt z) (ru.mono (same_tups' s3))).at')
theorem sc_paper_of_tree:FnScope ["tree","trees","looks"] ["tree"] (defScope s_paper_of_tree):=⟨rfl,rfl,rfl,by decide +kernel,rfl,by decide +kernel,by decide +kernel⟩
theorem ok_paper_of_tree (F:Fun K "paper_of_tree" "paper_of_tree" s_paper_of_tree f fd) (G_record_of_tree:Have P w K mg base "record_of_tree" k ["tree"] (spRecT 14)) (G_rule_of_tree:Have P w K mg base "rule_of_tree" k ["tree"] (spRuleTree)) (G_trees_behind:Have P w K mg base "trees_behind" k ["word","tree"] (spBehind)) (G_look_of_tree:Have P w K mg base "look_of_tree" k ["tree"] (spLookT)) (m_len:mg "len" = none) (m_tuple:mg "tuple" = none):FnOk P w K mg base CX0 (k + 1) f fd ["tree"] (spPapT):=by
 refine F.okQ sc_paper_of_tree (fun vs H Q E h=>?_) (fun cdv A outer s H vs Q E hr h=>?_)
 ·obtain ⟨v,p,rfl,_⟩:=h
  rfl
 obtain ⟨v,p,rfl,rv,g,hr',q⟩:=h
 refine ⟨_,(pss_cons (ps_set (i:=1) sc_paper_of_tree.nd rfl (Or.inl rfl) (pe_fn G_trees_behind hr rfl (pa_cons pe_str (pa_cons (pv 0) pa_nil))))
  (pss_cons (ps_if (pt_cmpR op_ne (pe_callB call_len rfl m_len PySem.boot_len (pa_cons (pv 1) pa_nil)) pe_int (nomark _)) pss_never pss_nil)
  (pss_cons (ps_set (i:=2) sc_paper_of_tree.nd rfl (Or.inl rfl) (pe_callTy call_tuple_of rfl m_tuple boot_tupleT (pa_cons (pe_lcomp [] [] rfl rfl (by decide +kernel) rfl (by decide +kernel) rfl (by decide +kernel) trivial rfl trivial (pi_tup (pe_fn G_trees_behind hr rfl (pa_cons pe_str (pa_cons (pe_ix ix_tup (pv 1) pe_int (fun _ _=>rfl)) pa_nil)))) (fun C s H fp=>⟨pifs_nil,(pe_fn G_look_of_tree hr rfl (pa_cons (pv 0) pa_nil))⟩)) pa_nil)))
  (pss_one (ps_ret (pe_tup (pa_cons (pe_fn G_rule_of_tree hr rfl (pa_cons (pe_ix ix_tup (pv 1) pe_int (fun _ _=>rfl)) pa_nil)) (pa_cons (pv 2) (pa_cons (pe_fn G_record_of_tree hr rfl (pa_cons (pe_ix ix_tup (pv 1) pe_int (fun _ _=>rfl)) pa_nil)) pa_nil))))))))),?_⟩
 obtain ⟨r,ls,e⟩:=p
 have hll:ls.length<=10:=g.ll
 refine ⟨_,rfl,"paper",v,_,rfl,rv,fun b us H0 s0 eb rus=>?_⟩
 obtain ⟨v0,vs,rfl,r0,rvs⟩:=rus.cons_inv
 obtain ⟨v1,vs,rfl,r1,rvs⟩:=rvs.cons_inv
 obtain ⟨v2,vs,rfl,r2,rvs⟩:=rvs.cons_inv
 obtain rfl:vs = []:=List.length_eq_zero_iff.mp rvs.len
 dsimp only [gName]
 refine ⟨_,rfl,_,_,rfl,.inr ⟨_,SqT.of eb,rfl⟩,rfl,_,rfl,iteF ?_⟩
 refine ⟨_,rfl,b,_,1,_,rfl,rfl,SqT.of eb,rfl,"looks",v1,_,rfl,r1,fun t xs H2 s2 e2 rxs=>?_⟩
 have hvl:xs.length = ls.length:=by rw [rxs.len,List.length_map]
 refine ⟨t,rfl,⟨_,SqT.of e2⟩,rd_drawT (K:=K) (vs:=xs) (fun i ys H'=>RWs H' ys ((ls.take i).map lkW)/\i<=ls.length/\Same H2 H') (small (by omega)) ⟨⟨rfl,fun i v w h=>by rw [List.getElem?_nil] at h; cases h⟩,Nat.zero_le _,Same.refl _⟩ (fun i ys H' h=>?_) (fun i ys H' h=>?_) (fun i v ys H' R hv h hR=>?_) (fun ys H' D h hD=>?_)⟩
 ·rw [h.1.len,List.length_map,List.length_take]
  have:=h.2.1
  omega
 ·exact SqT.of (h.2.2 _ _ e2)
 ·obtain ⟨ry,_,s3⟩:=h
  have hi:i < ls.length:=by rw [← hvl]; exact (List.getElem?_eq_some_iff.mp hv).1
  have hpi:ls[i]? = some ls[i]:=List.getElem?_eq_getElem hi
  have r1:=rxs.at' i v (trL ls[i]) hv (by rw [List.getElem?_map,hpi]; rfl)
  refine ⟨_,rfl,v,ls[i],rfl,r1.mono (same_tups' s3),g.l _ (List.getElem_mem hi),fun u H4 s4 ru=>hR _ _ ⟨?_,hi,s3.trans s4⟩⟩
  rw [take_snoc hpi,List.map_append]
  exact (ry.mono (same_tups' s4)).snoc ru
 obtain ⟨ry,_,s3⟩:=h
 rw [hvl,List.take_length] at ry
 refine ⟨D,_,rfl,.inl ⟨SqL.of upd_same,fun t2 ht2=>?_⟩⟩
 have s4a:=(Same.new (o:=.lst ys) hD).trans (Same.new (o:=.tup ys) ht2)
 have s4:=(s2.trans s3).trans s4a
 have e4:upd (upd H' D (.lst ys)) t2 (.tup ys) t2 = some (.tup ys):=upd_same
 have ry4:=ry.mono (same_tups' s4a)
 generalize upd (upd H' D (.lst ys)) t2 (.tup ys) = H4 at s4a s4 e4 ry4
 dsimp only [gName]
 refine ⟨_,rfl,b,_,0,_,rfl,rfl,SqT.of (s4 _ _ eb),rfl,v0,r,rfl,r0.mono (same_tups' s4),hr',fun u0 H5 s5 ru0=>?_⟩
 refine ⟨_,rfl,_,rfl,b,_,2,_,rfl,rfl,SqT.of ((s4.trans s5) _ _ eb),rfl,v2,e,rfl,r2.mono (same_tups' (s4.trans s5)),g.e,g.ed,g.em,fun u2 H6 s6 ru2=>⟨zl3,fun p hp=>?_⟩⟩
 have s7:=Same.new (o:=.tup [u0,.ref t2,u2]) hp
 have s67:=s6.trans s7
 have ry7:=ry4.mono (same_tups' (s5.trans s67))
 exact q _ _ (((s0.trans s4).trans s5).trans s67) (.lst upd_same rfl (rws3 ((ru0.toRW rfl).mono (same_tups' s67)) (.lst ((s5.trans s67) _ _ e4) ry7.len ry7.at') (ru2.mono (same_tups' s7))).at')
theorem sc_read_paper:FnScope ["text"] ["text"] (defScope s_read_paper):=⟨rfl,rfl,rfl,by decide +kernel,rfl,by decide +kernel,by decide +kernel⟩
theorem ok_read_paper (F:Fun K "read_paper" "read_paper" s_read_paper f fd) (G_paper_of_tree:Have P w K mg base "paper_of_tree" k ["tree"] (spPapT)) (G_only_tree:Have P w K mg base "only_tree" k ["text"] (spOnly)):FnOk P w K mg base CX0 (k + 1) f fd ["text"] (spReadP):=by
 refine F.okQ sc_read_paper (fun vs H Q E h=>?_) (fun cdv A outer s H vs Q E hr h=>?_)
 ·obtain ⟨t,p,rfl,_⟩:=h
  rfl
 obtain ⟨t,p,rfl,sp,hl,g,hr',q⟩:=h
 refine ⟨_,(pss_one (ps_ret (pe_fn G_paper_of_tree hr rfl (pa_cons (pe_fn G_only_tree hr rfl (pa_cons (pv 0) pa_nil)) pa_nil)))),?_⟩
 refine ⟨_,rfl,t,pcT (trP p),trP p,rfl,sp,run_tree _ (trP_deep g),hl,fun v H1 s1 rv=>?_⟩
 exact ⟨v,p,rfl,rv,g,hr',fun u H2 s2 ru=>q u H2 (s1.trans s2) ru⟩
mutual
def W.Nar:W->Prop
 | .num _=>True
 | .txt _=>True
 | .lst ws=>ws.length<=1000/\Nars ws
def Nars:List W->Prop
 | []=>True
 | w :: r=>w.Nar/\Nars r
end
theorem Nars.mem:∀ {ws:List W},Nars ws->∀ w∈ws,w.Nar
 | x :: r,h,w,hw=>by
  rw [Nars] at h
  rcases List.mem_cons.mp hw with rfl | hw
  ·exact h.1
  ·exact Nars.mem h.2 w hw
def spAlk (n:Nat):Sp:=fun vs H Q _=>∃ (v1 v2:V) (x:W),x.depth < n/\vs = [v1,v2]/\RW H v1 x/\RW H v2 x/\x.Nar/\∀ H',Same H H'->Q (.bl true) H'
theorem sc_lalike:FnScope ["_law_found","_law_due"] ["_law_found","_law_due"] (defScope s_lalike):=⟨rfl,rfl,rfl,by decide +kernel,rfl,by decide +kernel,by decide +kernel⟩
theorem ok_lalike {n:Nat} (F:Fun K "_law_alike" "_law_alike" s_lalike f fd) (G_lalike:Have P w K mg base "_law_alike" k ["_law_found","_law_due"] (spAlk n)) (m_all:mg "all" = none) (m_bool:mg "bool" = none) (m_int:mg "int" = none) (m_isi:mg "isinstance" = none) (m_len:mg "len" = none) (m_range:mg "range" = none) (m_str:mg "str" = none) (m_tuple:mg "tuple" = none):FnOk P w K mg base CX0 (k + 1) f fd ["_law_found","_law_due"] (spAlk (n + 1)):=by
 refine F.okQ sc_lalike (fun vs H Q E h=>?_) (fun cdv A outer s H vs Q E hr h=>?_)
 ·obtain ⟨v1,v2,x,_,rfl,_⟩:=h
  rfl
 obtain ⟨v1,v2,x,hdp,rfl,r1,r2,nar,q⟩:=h
 refine ⟨_,(pss_cons (ps_if (pt_val (pe_callB call_isi rfl m_isi boot_isi (pa_cons (pv 1) (pa_cons (pe_ty rfl m_tuple boot_tupleT) pa_nil)))) (pss_cons (ps_if (PW.pt (pw_or (pt_not (pt_val (pe_callB call_isi rfl m_isi boot_isi (pa_cons (pv 0) (pa_cons (pe_ty rfl m_tuple boot_tupleT) pa_nil))))) (pw_or1 (pt_cmpR op_ne (pe_callB call_len rfl m_len PySem.boot_len (pa_cons (pv 0) pa_nil)) (pe_callB call_len rfl m_len PySem.boot_len (pa_cons (pv 1) pa_nil)) (nomark _))))) (pss_one (ps_ret pe_bl)) pss_nil)
  (pss_one (ps_ret (pe_callB (call_all_bools rfl) rfl m_all boot_allB (pa_cons (pe_lcomp [0,1] ["_law_found","_law_due"] rfl rfl (by decide +kernel) rfl (by decide +kernel) rfl (by decide +kernel) ⟨rfl,rfl,trivial⟩ rfl ⟨⟨rfl,rfl,Or.inr (Or.inl rfl),(by show (some NameKind.cell:Option NameKind)≠some .local; decide),⟨_,rfl⟩⟩,⟨rfl,rfl,Or.inr (Or.inl rfl),(by show (some NameKind.cell:Option NameKind)≠some .local; decide),⟨_,rfl⟩⟩,trivial⟩ (pi_range1 rfl m_range (pa_cons (pe_callB call_len rfl m_len PySem.boot_len (pa_cons (pv 1) pa_nil)) pa_nil)) (fun C s H fp=>⟨pifs_nil,(pe_fn G_lalike hr rfl (pa_cons (pe_ix (show IxR _ (rIxT K) from ix_tup) (pv 1) (pv 0) (fun _ _=>rfl)) (pa_cons (pe_ix (show IxR _ (rIxT K) from ix_tup) (pv 2) (pv 0) (fun _ _=>rfl)) pa_nil)))⟩)) pa_nil))))) pss_nil)
  (pss_cons (ps_if (pt_val (pe_callB call_isi rfl m_isi boot_isi (pa_cons (pv 1) (pa_cons (pe_ty rfl m_str boot_strT) pa_nil)))) (pss_one (ps_ret (pe_and (pe_callB call_isi rfl m_isi boot_isi (pa_cons (pv 0) (pa_cons (pe_ty rfl m_str boot_strT) pa_nil))) (pe_one (pe_cmpR op_eq (pv 0) (pv 1) (nomark _)))))) pss_nil)
  (pss_one (ps_ret (pe_and (pe_callB call_isi rfl m_isi boot_isi (pa_cons (pv 0) (pa_cons (pe_ty rfl m_int boot_intT) pa_nil))) (pe_and (pe_not (pe_callB call_isi rfl m_isi boot_isi (pa_cons (pv 0) (pa_cons (pe_ty rfl m_bool boot_boolT) pa_nil)))) (pe_one (pe_cmpR op_eq (pv 0) (pv 1) (nomark _))))))))),?_⟩
 cases x with
 | num i=>
  cases r1
  cases r2
  refine ⟨_,rfl,_,_,"int",false,rfl,.int i,by decide +kernel,_,rfl,iteF ?_⟩
  refine ⟨_,rfl,_,_,"int",false,rfl,.int i,by decide +kernel,_,rfl,iteF ?_⟩
  refine ⟨_,rfl,_,_,"int",true,rfl,.int i,by decide +kernel,_,rfl,iteT ?_⟩
  refine ⟨_,rfl,_,_,"int",false,rfl,.int i,by decide +kernel,_,rfl,_,rfl,iteT ⟨_,rfl,_,rfl,rfl,?_⟩⟩
  rw [decide_eq_true (rfl:V.int i = V.int i)]
  exact q _ (Same.refl _)
 | txt z=>
  cases r1
  cases r2
  refine ⟨_,rfl,_,_,"str",false,rfl,.str z,by decide +kernel,_,rfl,iteF ?_⟩
  refine ⟨_,rfl,_,_,"str",true,rfl,.str z,by decide +kernel,_,rfl,iteT ?_⟩
  refine ⟨_,rfl,_,_,"str",true,rfl,.str z,by decide +kernel,_,rfl,iteT ⟨_,rfl,_,rfl,rfl,?_⟩⟩
  rw [decide_eq_true (rfl:V.str z = V.str z)]
  exact q _ (Same.refl _)
 | lst ws=>
  rw [W.Nar] at nar
  have hdp':1 + depths ws < n + 1:=hdp
  cases r1 with
  | @lst t1 us1 _ e1 l1 at1=>
   cases r2 with
   | @lst t2 us2 _ e2 l2 at2=>
    refine ⟨_,rfl,_,_,"tuple",true,rfl,.tup e2,by decide +kernel,_,rfl,iteT ⟨_,rfl,_,_,"tuple",true,rfl,.tup e1,by decide +kernel,_,rfl,iteF ⟨_,rfl,_,_,rfl,.inr ⟨_,SqT.of e1,rfl⟩,_,rfl,_,_,rfl,.inr ⟨_,SqT.of e2,rfl⟩,rfl,_,rfl,?_⟩⟩⟩
    rw [show (!decide (V.int ((us1.length:Nat):Int) = V.int ((us2.length:Nat):Int))) = false by rw [l1,l2]; simp]
    have hw2:=nar.1
    refine iteF ⟨_,rfl,_,_,rfl,.inr ⟨_,SqT.of e2,rfl⟩,(us2.length:Int),rfl,by omega,by omega,rd_drawR (n:=(us2.length:Int)) (fun i us H'=>us = List.replicate i (V.bl true)/\Same H H') ⟨rfl,Same.refl _⟩ (fun i us H' h=>by rw [h.1,List.length_replicate]) (by omega) (fun i us H' R hi h hR=>?_) (fun us H' D h hD=>?_)⟩
    ·obtain ⟨rfl,sm⟩:=h
     have hi2:i < us2.length:=by omega
     have hi1:i < us1.length:=by omega
     have hiw:i < ws.length:=by omega
     have hx:=List.getElem?_eq_getElem hi1
     have hy:=List.getElem?_eq_getElem hi2
     have hw:=List.getElem?_eq_getElem hiw
     have ix1:=atI_nat hx
     have ix2:=atI_nat hy
     rw [show ((i:Nat):Int) = 0 + (i:Int) by omega] at ix1 ix2
     have hdm:=depths_mem ws[i] (List.getElem_mem hiw)
     refine ⟨_,rfl,_,rfl,t1,us1,_,us1[i],rfl,rfl,SqT.of (sm _ _ e1),ix1,_,rfl,_,rfl,t2,us2,_,us2[i],rfl,rfl,SqT.of (sm _ _ e2),ix2,us1[i],us2[i],ws[i],by omega,rfl,(at1 i _ _ hx hw).mono (same_tups' sm),(at2 i _ _ hy hw).mono (same_tups' sm),nar.2.mem _ (List.getElem_mem hiw),fun H4 s4=>hR _ _ ⟨?_,sm.trans s4⟩⟩
     rw [List.replicate_succ']
    ·obtain ⟨rfl,sm⟩:=h
     rw [Int.toNat_natCast]
     refine ⟨D,List.replicate us2.length true,rfl,SqL.of ?_,?_⟩
     ·rw [upd_same,List.map_replicate]
     ·rw [show ((List.replicate us2.length true).all id) = true by simp]
      exact q _ (sm.trans (Same.new hD))
theorem sc_loutcome_shown:FnScope ["_law_outcome_here"] ["_law_outcome_here"] (defScope s_loutcome_shown):=⟨rfl,rfl,rfl,by decide +kernel,rfl,by decide +kernel,by decide +kernel⟩
theorem ok_loutcome_shown (F:Fun K "_law_outcome_shown" "_law_outcome_shown" s_loutcome_shown f fd) (G_show_worth:Have P w K mg base "show_worth" k ["worth"] (spShow 14)):FnOk P w K mg base CX0 (k + 1) f fd ["_law_outcome_here"] (spShowO):=by
 refine F.okQ sc_loutcome_shown (fun vs H Q E h=>?_) (fun cdv A outer s H vs Q E hr h=>?_)
 ·obtain ⟨v,o,rfl,_⟩:=h
  rfl
 obtain ⟨v,o,rfl,rv,g,q⟩:=h
 refine ⟨_,(pss_cons (ps_if (pt_cmpR op_eq (pe_ix ix_tup (pv 0) pe_int (fun _ _=>rfl)) pe_str (nomark _)) (pss_one (ps_ret (pe_op op_add_str (pe_op op_add_str pe_str (pe_fn G_show_worth hr rfl (pa_cons (pe_ix ix_tup (pv 0) pe_int (fun _ _=>rfl)) pa_nil))) pe_str))) pss_nil)
  (pss_one (ps_ret (pe_op op_add_str (pe_op op_add_str (pe_op op_add_str (pe_op op_add_str pe_str (pe_ix ix_tup (pv 0) pe_int (fun _ _=>rfl))) pe_str) (pe_fn G_show_worth hr rfl (pa_cons (pe_ix ix_tup (pv 0) pe_int (fun _ _=>rfl)) pa_nil))) pe_str)))),?_⟩
 obtain ⟨a,lv,rfl,ea,rl⟩:=opnO rv
 obtain ⟨gw,hl2,hl6⟩:=g.good
 have fin:∀ {x:Str}{H1:Hp},x.cps.toList = shW numC o.last->Same H H1->x.length<=64000:=fun {x H1} hx s1=>by
  have:=good_len gw
  rw [shT_W,← hx,str_len] at this
  omega
 have cases2:(o.ws = [Str.ofString "made"])\/∃ z,o.ws = [Str.ofString "wrong",z]:=by
  cases g with
  | made _=>exact .inl rfl
  | bare _=>exact .inr ⟨_,rfl⟩
  | naming _ _=>exact .inr ⟨_,rfl⟩
  | cried _=>exact .inr ⟨_,rfl⟩
 have l3:(Str.ofString ")").length = 1:=by decide +kernel
 have hsz:(16777216:Nat)<=sizeLine:=by decide
 rcases cases2 with hws | ⟨z,hws⟩
 ·rw [hws] at ea
  have l1:(Str.ofString "(made ").length = 6:=by decide +kernel
  have c1:(Str.ofString "(made ").cps.toList = 40 :: ((Str.ofString "made").cps.toList ++ [32]):=by decide +kernel
  refine ⟨_,rfl,a,_,0,_,rfl,rfl,SqT.of ea,rfl,rfl,_,rfl,?_⟩
  rw [dyS rfl]
  refine iteT ⟨_,rfl,a,_,1,lv,rfl,rfl,SqT.of ea,rfl,lv,o.last,rfl,rl,gw.1,gw.2.1,Nat.lt_succ_of_le (Nat.le_succ_of_le gw.2.2),fun x H1 hx s1=>?_⟩
  have hxl:=fin hx s1
  refine ⟨_,_,rfl,rfl,by rw [l1]; omega,_,_,rfl,rfl,by rw [str_app_len,l1,l3]; omega,q _ _ ?_ s1⟩
  rw [str_app,str_app,c1,hx,str41]
  show _ = shT (.lst (o.ws.map nmT ++ [trW numC o.last]))
  rw [hws,shT,List.map_cons,List.map_nil,List.singleton_append,shTs,shTs,shT_W,nmT,shT]
  simp
 ·rw [hws] at ea hl6
  have hz:=hl6 z (by simp)
  have l1:(Str.ofString "(wrong ").length = 7:=by decide +kernel
  have l2:(Str.ofString " ").length = 1:=by decide +kernel
  have c1:(Str.ofString "(wrong ").cps.toList = 40 :: ((Str.ofString "wrong").cps.toList ++ [32]):=by decide +kernel
  have c2:(Str.ofString " ").cps.toList = [32]:=by decide +kernel
  refine ⟨_,rfl,a,_,0,_,rfl,rfl,SqT.of ea,rfl,rfl,_,rfl,?_⟩
  rw [dnS (by decide +kernel)]
  refine iteF ⟨_,rfl,a,_,1,_,rfl,rfl,SqT.of ea,rfl,_,_,rfl,rfl,by rw [l1]; omega,_,_,rfl,rfl,by rw [str_app_len,l1,l2]; omega,_,rfl,a,_,2,lv,rfl,rfl,SqT.of ea,rfl,lv,o.last,rfl,rl,gw.1,gw.2.1,Nat.lt_succ_of_le (Nat.le_succ_of_le gw.2.2),fun x H1 hx s1=>?_⟩
  have hxl:=fin hx s1
  refine ⟨_,_,rfl,rfl,by rw [str_app_len,str_app_len,l1,l2]; omega,_,_,rfl,rfl,by rw [str_app_len,str_app_len,str_app_len,l1,l2,l3]; omega,q _ _ ?_ s1⟩
  rw [str_app,str_app,str_app,str_app,c1,c2,hx,str41]
  show _ = shT (.lst (o.ws.map nmT ++ [trW numC o.last]))
  rw [hws]
  show _ = shT (.lst [nmT (Str.ofString "wrong"),nmT z,trW numC o.last])
  rw [shT,shTs,shTs,shTs,shT_W,nmT,shT,nmT,shT]
  simp
theorem sc_lrecord_shown:FnScope ["_law_record_here"] ["_law_record_here"] (defScope s_lrecord_shown):=⟨rfl,rfl,rfl,by decide +kernel,rfl,by decide +kernel,by decide +kernel⟩
theorem ok_lrecord_shown {n:Nat} (F:Fun K "_law_record_shown" "_law_record_shown" s_lrecord_shown f fd) (G_loutcome_shown:Have P w K mg base "_law_outcome_shown" k ["_law_outcome_here"] (spShowO)) (G_lrecord_shown:Have P w K mg base "_law_record_shown" k ["_law_record_here"] (spShowE n)):FnOk P w K mg base CX0 (k + 1) f fd ["_law_record_here"] (spShowE (n + 1)):=by
 refine F.okQ sc_lrecord_shown (fun vs H Q E h=>?_) (fun cdv A outer s H vs Q E hr h=>?_)
 ·obtain ⟨v,e,rfl,_⟩:=h
  rfl
 obtain ⟨v,e,rfl,rv,g,hd,hm,q⟩:=h
 refine ⟨_,(pss_one (ps_ret (pe_op op_add_str (pe_op op_add_str pe_str (pe_bm PySem.F.plainAttrs_str PySem.F.slot_str_join PySem.F.type_str_join mt_join pe_str (pa_cons (pe_op op_cat (pe_lst (pa_cons (pe_fn G_loutcome_shown hr rfl (pa_cons (pe_ix ix_tup (pv 0) pe_int (fun _ _=>rfl)) pa_nil)) pa_nil)) (pe_lcomp [] [] rfl rfl (by decide +kernel) rfl (by decide +kernel) rfl (by decide +kernel) trivial rfl trivial (pi_tup (pe_ix ix_tup (pv 0) pe_int (fun _ _=>rfl))) (fun C s H fp=>⟨pifs_nil,(pe_fn G_lrecord_shown hr rfl (pa_cons (pv 0) pa_nil))⟩))) pa_nil))) pe_str))),?_⟩
 obtain ⟨o,ps⟩:=e
 rw [Re.toW] at rv
 rw [GdE] at g
 rw [Re.deep] at hd
 rw [Re.many] at hm
 obtain ⟨a,ov,pv,rfl,ea,ro,rp⟩:=opn2 rv
 obtain ⟨b,us,rfl,eb,rus⟩:=opnL rp
 have hul:us.length = ps.length:=by rw [rus.len,reWs_map,List.length_map]
 have hpl:=re_len ps
 refine ⟨rfl,_,rfl,a,_,0,ov,rfl,rfl,SqT.of ea,rfl,ov,o,rfl,ro,g.1,fun x H1 hx s1=>⟨zl1,fun l hl=>?_⟩⟩
 have s2:=s1.trans (Same.new (o:=.lst [.str x]) hl)
 have e2:upd H1 l (.lst [.str x]) l = some (.lst [.str x]):=upd_same
 generalize upd H1 l (.lst [.str x]) = H2 at s2 e2
 refine ⟨_,rfl,a,_,1,.ref b,rfl,rfl,SqT.of (s2 _ _ ea),rfl,b,rfl,⟨_,SqT.of (s2 _ _ eb)⟩,rd_drawT (K:=K) (vs:=us) (fun i ys H'=>∃ xs:List Str,ys = xs.map V.str/\xs.length = i/\xs.map (fun y=>y.cps.toList) = ((ps.take i).map trE).map shT/\Same H2 H') (small (by omega)) ⟨[],rfl,rfl,rfl,Same.refl _⟩ (fun i ys H' h=>?_) (fun i ys H' h=>?_) (fun i v ys H' R hv h hR=>?_) (fun ys H' D h hD=>?_)⟩
 ·obtain ⟨xs,rfl,hl,_⟩:=h
  rw [List.length_map]; exact hl
 ·obtain ⟨_,_,_,_,s3⟩:=h
  exact SqT.of (s3 _ _ (s2 _ _ eb))
 ·obtain ⟨xs,rfl,hxl,hxs,s3⟩:=h
  have hi:i < ps.length:=by rw [← hul]; exact (List.getElem?_eq_some_iff.mp hv).1
  have hpi:ps[i]? = some ps[i]:=List.getElem?_eq_getElem hi
  have rw0:=rus.at' i v ps[i].toW hv (by rw [reWs_map,List.getElem?_map,hpi]; rfl)
  have mem:=List.getElem_mem hi
  have dm:=re_mem mem
  refine ⟨_,rfl,v,ps[i],rfl,rw0.mono (same_tups' (s2.trans s3)),g.2.mem _ mem,by omega,by omega,fun y H4 hy s4=>hR _ _ ⟨xs ++ [y],by rw [List.map_append]; rfl,by rw [List.length_append,hxl]; rfl,?_,s3.trans s4⟩⟩
  rw [take_snoc hpi,List.map_append,List.map_append,List.map_append,hxs,List.map_cons,List.map_cons,List.map_cons,hy]
  rfl
 obtain ⟨xs,rfl,hxl,hxs,s3⟩:=h
 rw [hul,List.take_length] at hxs
 have s4:=s3.trans (Same.new (o:=.lst (xs.map V.str)) hD)
 refine ⟨l,D,_,_,rfl,rfl,s4 _ _ e2,upd_same,small (by rw [List.length_map]; show 1 + _<=_; omega),fun p hp=>?_⟩
 have w1:=shO_len g.1
 have w2:=shEs_len ps g.2
 have hmap:(x :: xs).map (fun y=>y.cps.toList) = (trO o :: trEs ps).map shT:=by rw [List.map_cons,List.map_cons,hx,hxs,trEs_map]
 have hw:wid (trO o :: trEs ps)<=10000000:=by
  rw [wid_cons]
  omega
 have hj:=join_trs _ _ hmap
 have hws:=wid_sum _ _ hmap
 have hjl:(Txt.join (Str.ofString " ") (x :: xs)).length<=wid (trO o :: trEs ps):=by
  rw [← str_len,hj]
  exact shTs_len _
 have l1:(Str.ofString " ").length = 1:=by decide +kernel
 have l2:(Str.ofString "(").length = 1:=by decide +kernel
 have l3:(Str.ofString ")").length = 1:=by decide +kernel
 have c2:(Str.ofString "(").cps.toList = [40]:=by decide +kernel
 have hsz:(16777216:Nat)<=sizeLine:=by decide
 refine ⟨_,p,x :: xs,rfl,rfl,SqL.of (by rw [upd_same]; rfl),by rw [l1]; omega,_,_,rfl,rfl,by rw [l2]; omega,_,_,rfl,rfl,by rw [str_app_len,l2,l3]; omega,q _ _ ?_ ((s2.trans s4).trans (Same.new hp))⟩
 rw [str_app,str_app,c2,hj,str41,trE,shT]
 rfl
end
end D
namespace L2
open PySem PySem.Spec PyProof.Rows
theorem rd_drawG {K:PySem.W.Frag}{g:TG}{te:TE}{n:Nat}{H:Hp}{F:Addr->Hp->List V->Prop}{a:Addr}{vs:List V} (Pv:Nat->List V->Hp->Prop) (hz:vs.length<=sizeLine) (h0:Pv 0 [] H) (hlen:∀ i us H1,Pv i us H1->us.length = i) (hS:∀ i us H1,Pv i us H1->SqT K H1 a vs)
  (step:∀ (i:Nat) (v:V) (us:List V) (H1:Hp) (R:VK) (R':Hp->Prop),vs[i]? = some v->Pv i us H1->(∀ y H2,Pv (i + 1) (us ++ [y]) H2->R y H2)->g v (List.replicate n none) H1 fun σ2 H2=>if true = true then te σ2 H2 R else R' H2)
  (fin:∀ (us:List V) (H1:Hp) (D:Addr),Pv vs.length us H1->H1 D = none->F D H1 us):
  ∃ W:Nat->Nat->List V->Hp->Prop,(∃ m,W 0 m [] H)/\∀ i m us H,W i m us H->us.length<=sizeLine /\
   (((Itt K a).stop i H/\∀ D,H D = none->F D H us) \/
    ((Itt K a).go i H/\∀ v H',(Itt K a).yld i H v H'->g v (List.replicate n none) H' fun σ2 H2=>if true = true then te σ2 H2 fun y H4=>∃ m',m' < m/\W (i + 1) m' (us ++ [y]) H4 else ∃ m',m' < m/\W (i + 1) m' us H2)):=by
 refine ⟨fun i m us H1=>i<=vs.length/\m = vs.length - i/\Pv i us H1,⟨_,Nat.zero_le _,rfl,h0⟩,fun i m us H1 hW=>?_⟩
 obtain ⟨hi,hm,hu⟩:=hW
 have sq:=hS _ _ _ hu
 refine ⟨by rw [hlen _ _ _ hu]; omega,?_⟩
 by_cases hlt:i < vs.length
 ·refine .inr ⟨⟨vs,vs[i],sq,List.getElem?_eq_getElem hlt⟩,fun v H' hy=>?_⟩
  obtain ⟨e,hy⟩:=hy
  subst e
  exact step i v us _ _ _ (hy vs sq) hu fun y H2 p2=>⟨vs.length - (i + 1),by omega,by omega,rfl,p2⟩
 ·have e:i = vs.length:=by omega
  subst e
  exact .inl ⟨⟨vs,sq,Nat.le_refl _⟩,fun D hD=>fin us H1 D hu hD⟩
end L2
namespace D
open PySem L2
def spOutD:Sp:=fun vs H Q _=>∃ b:Addr,vs = [.ref b]/\IsBox H b/\∀ (t:Addr) (o:Ou) (H':Hp),RW H' (.ref t) o.toW->GdO o->Step b H H'->Q (.ref t) H'
def spRecD (n:Nat):Sp:=fun vs H Q _=>∃ (b:Addr) (room:Int),vs = [.ref b,.int room]/\IsBox H b/\1<=room/\room < n/\room<=100/\∀ (t:Addr) (e:Re) (H':Hp),RW H' (.ref t) e.toW->GdE e->(e.many:Int)<=room->Step b H H'->Q (.ref t) H'
def words7:List Str:=["kind","great","nought","place","none","shut","cried"]
theorem w7:∀ i:Nat,i < 7->∃ w,words7[i]? = some w/\(w∈bareL/\decide (w = "cried") = false/\decide (w∈namingL) = false\/w∈namingL/\decide (w = "cried") = false\/w = "cried"):=by
 intro i hi
 match i,hi with
 | 0,_=>exact ⟨_,rfl,.inl (by decide +kernel)⟩
 | 1,_=>exact ⟨_,rfl,.inl (by decide +kernel)⟩
 | 2,_=>exact ⟨_,rfl,.inl (by decide +kernel)⟩
 | 3,_=>exact ⟨_,rfl,.inl (by decide +kernel)⟩
 | 4,_=>exact ⟨_,rfl,.inr (.inl (by decide +kernel))⟩
 | 5,_=>exact ⟨_,rfl,.inr (.inl (by decide +kernel))⟩
 | 6,_=>exact ⟨_,rfl,.inr (.inr rfl)⟩
 | n + 7,h=>omega
theorem gdes_snoc:∀ {ps:List Re}{e:Re},GdEs ps->GdE e->GdEs (ps ++ [e])
 | [],e,_,h=>by rw [List.nil_append,GdEs,GdEs]; exact ⟨h,trivial⟩
 | p :: r,e,g,h=>by
  rw [GdEs] at g
  rw [List.cons_append,GdEs]
  exact ⟨g.1,gdes_snoc g.2 h⟩
theorem remanys_snoc:∀ (ps:List Re) (e:Re),reManys (ps ++ [e]) = reManys ps + e.many
 | [],e=>by simp only [List.nil_append,reManys]; omega
 | p :: r,e=>by rw [List.cons_append,reManys,reManys,remanys_snoc r e]; omega
theorem dec_str {a b:Str}:decide (V.str a = V.str b) = decide (a = b):=by
 by_cases h:a = b
 ·rw [decide_eq_true h,decide_eq_true (congrArg V.str h)]
 ·rw [decide_eq_false h,decide_eq_false (fun z=>h (V.str.inj z))]
section
variable {P:Program}{w:World}{K:PySem.W.Frag}{mg:Str->Option Value}{base:Heap}{f:Addr}{fd:FuncData}{k n:Nat}
theorem sc_loutcome:FnScope ["_law_box_here","_law_turn","_law_word_here"] ["_law_box_here"] (defScope s_loutcome):=⟨rfl,rfl,rfl,by decide +kernel,rfl,by decide +kernel,by decide +kernel⟩
theorem ok_loutcome (F:Fun K "_law_outcome" "_law_outcome" s_loutcome f fd) (G_ltext:Have P w K mg base "_law_text" k ["_law_box_here","_law_most"] (spText)) (G_lworth:Have P w K mg base "_law_worth" k ["_law_box_here","_law_room","_law_deep"] (spWorth 13)) (G_ltake:Have P w K mg base "_law_take" k ["_law_box_here","_law_wide"] (spTake)):FnOk P w K mg base CX0 (k + 1) f fd ["_law_box_here"] (spOutD):=by
 refine F.okQ sc_loutcome (fun vs H Q E h=>?_) (fun cdv A outer s H vs Q E hr h=>?_)
 ·obtain ⟨b,rfl,_⟩:=h
  rfl
 obtain ⟨b,rfl,hb,q⟩:=h
 refine ⟨_,(pss_cons (ps_set (i:=1) sc_loutcome.nd rfl (Or.inl rfl) (pe_fn G_ltake hr rfl (pa_cons (pv 0) (pa_cons pe_int pa_nil))))
  (pss_cons (ps_if (pt_cmpR op_lt (pv 1) pe_int (nomark _)) (pss_one (ps_ret (pe_tup (pa_cons pe_str (pa_cons (pe_fn G_lworth hr rfl (pa_cons (pv 0) (pa_cons pe_int (pa_cons pe_int pa_nil)))) pa_nil))))) pss_nil)
  (pss_cons (ps_set (i:=2) sc_loutcome.nd rfl (Or.inl rfl) (pe_ix ix_list (pe_lst (pa_cons pe_str (pa_cons pe_str (pa_cons pe_str (pa_cons pe_str (pa_cons pe_str (pa_cons pe_str (pa_cons pe_str pa_nil)))))))) (pe_op op_sub (pv 1) pe_int) (fun _ _=>rfl)))
  (pss_cons (ps_if (pt_cmpR op_eq (pv 2) pe_str (nomark _)) (pss_one (ps_ret (pe_tup (pa_cons pe_str (pa_cons (pv 2) (pa_cons (pe_fn G_lworth hr rfl (pa_cons (pv 0) (pa_cons pe_int (pa_cons pe_int pa_nil)))) pa_nil)))))) pss_nil)
  (pss_cons (ps_if (pt_cmpR op_in_seq (pv 2) (pe_tup (pa_cons pe_str (pa_cons pe_str pa_nil))) (by rfl)) (pss_one (ps_ret (pe_tup (pa_cons pe_str (pa_cons (pv 2) (pa_cons (pe_fn G_ltext hr rfl (pa_cons (pv 0) (pa_cons pe_int pa_nil))) pa_nil)))))) pss_nil)
  (pss_one (ps_ret (pe_tup (pa_cons pe_str (pa_cons (pv 2) (pa_cons pe_str pa_nil))))))))))),?_⟩
 refine ⟨_,rfl,b,9,rfl,hb,by decide,by decide,fun r1 H1 a0 a1 st1=>?_⟩
 dsimp only [gName]
 refine ⟨_,rfl,_,_,rfl,rfl,_,rfl,ite2 (fun c=>?_) (fun c=>?_)⟩
 ·refine ⟨_,rfl,b,3,2,rfl,st1.box,by decide,by decide,by decide,by decide,fun v x H2 rx okx dx sx st2=>⟨zl2,fun t ht=>?_⟩⟩
  have s3:=Same.new (o:=.tup [.str "made",v]) ht
  exact q t ⟨["made"],x⟩ _ (.lst upd_same rfl (rws2 (.txt _) (rx.mono (same_tups' s3))).at') (.made ⟨okx,by omega,by omega⟩) ((st1.trans st2).trans (Step.ofSame' st2.box s3))
 have hr:¬ r1 < 2:=fun z=>c (decide_eq_true z)
 refine ⟨zl7,fun l hl=>?_⟩
 have s2:=Same.new (o:=.lst (words7.map V.str)) hl
 have e2:upd H1 l (.lst (words7.map V.str)) l = some (.lst (words7.map V.str)):=upd_same
 have st2:=st1.trans (Step.ofSame' st1.box s2)
 obtain ⟨w,hw,hc⟩:=w7 (r1 - 2).toNat (by omega)
 have ix:atI (words7.map V.str) (r1 - 2) = some (.str w):=by
  have:=atI_nat (xs:=words7.map V.str) (j:=(r1 - 2).toNat) (v:=.str w) (by rw [List.getElem?_map,hw]; rfl)
  rw [show (((r1 - 2).toNat:Nat):Int) = r1 - 2 by omega] at this
  exact this
 refine ⟨_,rfl,_,_,rfl,rfl,l,words7.map V.str,r1 - 2,.str w,rfl,rfl,SqL.of e2,ix,?_⟩
 have eq2:upd H1 l (.lst (words7.map V.str)) = upd H1 l (.lst [.str (Str.ofString "kind"),.str (Str.ofString "great"),.str (Str.ofString "nought"),.str (Str.ofString "place"),.str (Str.ofString "none"),.str (Str.ofString "shut"),.str (Str.ofString "cried")]):=rfl
 rw [eq2] at e2 st2 s2
 generalize upd H1 l (.lst [.str (Str.ofString "kind"),.str (Str.ofString "great"),.str (Str.ofString "nought"),.str (Str.ofString "place"),.str (Str.ofString "none"),.str (Str.ofString "shut"),.str (Str.ofString "cried")]) = H2 at e2 st2 s2
 clear s2 e2 ix eq2 hw
 dsimp only [gName]
 refine ⟨_,rfl,rfl,_,rfl,?_⟩
 rw [dec_str]
 have thr:∀ {G:Hp}{u:V}{x:W}{t:Addr},RW G u x->G t = none->RW (upd G t (.tup [.str "wrong",.str w,u])) (.ref t) (Ou.toW ⟨["wrong",w],x⟩):=fun {G u x t} ru ht=>.lst upd_same rfl (rws3 (.txt _) (.txt _) (ru.mono (same_tups' (Same.new ht)))).at'
 rcases hc with ⟨h1,h2,h3⟩ | ⟨h1,h2⟩ | rfl
 ·rw [h2]
  refine iteF ⟨_,rfl,zl2,fun t0 ht0=>?_⟩
  have s3:=Same.new (o:=.tup (namingL.map V.str)) ht0
  have e3:upd H2 t0 (.tup (namingL.map V.str)) t0 = some (.tup (namingL.map V.str)):=upd_same
  have st3:=st2.trans (Step.ofSame' st2.box s3)
  refine ⟨t0,namingL.map V.str,rfl,.inr (SqT.of e3),rfl,rfl,_,rfl,?_⟩
  rw [inV_strs,h3]
  refine iteF ⟨_,rfl,zl3,fun t ht=>?_⟩
  exact q t _ _ (thr (.txt _) ht) (.bare h1) (st3.trans (Step.ofSame' st3.box (Same.new ht)))
 ·rw [h2]
  refine iteF ⟨_,rfl,zl2,fun t0 ht0=>?_⟩
  have s3:=Same.new (o:=.tup (namingL.map V.str)) ht0
  have e3:upd H2 t0 (.tup (namingL.map V.str)) t0 = some (.tup (namingL.map V.str)):=upd_same
  have st3:=st2.trans (Step.ofSame' st2.box s3)
  refine ⟨t0,namingL.map V.str,rfl,.inr (SqT.of e3),rfl,rfl,_,rfl,?_⟩
  rw [inV_strs,decide_eq_true h1]
  refine iteT ⟨_,rfl,_,rfl,b,12,rfl,st3.box,by decide,by decide,fun z H4 hz1 hz2 st4=>⟨zl3,fun t ht=>?_⟩⟩
  have st34:=st3.trans st4
  exact q t _ _ (thr (.txt z) ht) (.naming h1 ⟨by omega,hz2⟩) (st34.trans (Step.ofSame' st34.box (Same.new ht)))
 ·rw [show decide (Str.ofString "cried" = Str.ofString "cried") = true from decide_eq_true rfl]
  refine iteT ⟨_,rfl,_,rfl,b,3,2,rfl,st2.box,by decide,by decide,by decide,by decide,fun v x H3 rx okx dx sx st3=>⟨zl3,fun t ht=>?_⟩⟩
  have st23:=st2.trans st3
  exact q t _ _ (thr rx ht) (.cried ⟨okx,by omega,by omega⟩) (st23.trans (Step.ofSame' st23.box (Same.new ht)))
theorem sc_lrecord:FnScope ["_law_box_here","_law_room","_law_parts","_law_left","_law_share"] ["_law_box_here","_law_room"] (defScope s_lrecord):=⟨rfl,rfl,rfl,by decide +kernel,rfl,by decide +kernel,by decide +kernel⟩
theorem ok_lrecord {n:Nat} (F:Fun K "_law_record" "_law_record" s_lrecord f fd) (G_loutcome:Have P w K mg base "_law_outcome" k ["_law_box_here"] (spOutD)) (G_ltake:Have P w K mg base "_law_take" k ["_law_box_here","_law_wide"] (spTake)) (G_lrecord:Have P w K mg base "_law_record" k ["_law_box_here","_law_room"] (spRecD n)) (m_tuple:mg "tuple" = none):FnOk P w K mg base CX0 (k + 1) f fd ["_law_box_here","_law_room"] (spRecD (n + 1)):=by
 refine F.okQ sc_lrecord (fun vs H Q E h=>?_) (fun cdv A outer s H vs Q E hr h=>?_)
 ·obtain ⟨b,room,rfl,_⟩:=h
  rfl
 obtain ⟨b,room,rfl,hb,h1,h2,h100,q⟩:=h
 refine ⟨_,(pss_cons (ps_set (i:=2) sc_lrecord.nd rfl (Or.inl rfl) (pe_lst pa_nil))
  (pss_cons (ps_set (i:=3) sc_lrecord.nd rfl (Or.inl rfl) (pe_op op_sub (pv 1) pe_int))
  (pss_cons (ps_while PassesOwn.never (PW.pt (pw_and (pt_cmpR op_gt (pv 3) pe_int (nomark _)) (pw_and1 (pt_cmpR op_gt (pe_fn G_ltake hr rfl (pa_cons (pv 0) (pa_cons pe_int pa_nil))) pe_int (nomark _))))) (pss_cons (ps_set (i:=4) sc_lrecord.nd rfl (Or.inl rfl) (pe_op op_add pe_int (pe_fn G_ltake hr rfl (pa_cons (pv 0) (pa_cons (pv 3) pa_nil)))))
  (pss_cons (ps_expr (pe_bm PySem.F.plainAttrs_list PySem.F.slot_list_append PySem.F.type_list_append mt_append (pv 2) (pa_cons (pe_fn G_lrecord hr rfl (pa_cons (pv 0) (pa_cons (pv 4) pa_nil))) pa_nil)))
  (pss_one (ps_set (i:=3) sc_lrecord.nd rfl (Or.inl rfl) (pe_op op_sub (pv 3) (pv 4)))))))
  (pss_one (ps_ret (pe_tup (pa_cons (pe_fn G_loutcome hr rfl (pa_cons (pv 0) pa_nil)) (pa_cons (pe_callTy call_tuple_of rfl m_tuple boot_tupleT (pa_cons (pv 2) pa_nil)) pa_nil)))))))),?_⟩
 refine ⟨zl0,fun l hl=>?_⟩
 have nlb:l≠b:=IsBox.ne hb hl
 have st1:=Step.new (o:=.lst []) hb hl
 have e1:upd H l (.lst []) l = some (.lst []):=upd_same
 generalize upd H l (.lst []) = H1 at st1 e1
 dsimp only [gName]
 refine ⟨_,rfl,_,_,rfl,rfl,?_⟩
 refine ⟨fun m σ' H'=>∃ (o4:Option V) (us:List V) (ps:List Re) (left:Int),σ' = [some (.ref b),some (.int room),some (.ref l),some (.int left),o4]/\Step b H H'/\H' l = some (.lst us)/\RWs H' us (reWs ps)/\GdEs ps/\0<=left/\(reManys ps:Int) + left<=room - 1/\m = left.toNat,⟨_,none,[],[],room - 1,rfl,st1,e1,⟨rfl,fun i v w h=>by rw [List.getElem?_nil] at h; cases h⟩,(by rw [GdEs]; trivial),by omega,(by rw [reManys]; show ((0:Nat):Int) + _<=_; omega),rfl⟩,fun m σ' H' hW=>?_⟩
 obtain ⟨o4,us,ps,left,rfl,st,el,rus,gp,hl0,hmn,rfl⟩:=hW
 have hpl:=re_len ps
 have fin:∀ (o4:Option V) (H2:Hp),Step b H' H2->tRet (tTup (tCons (tCall spOutD [] E0 (tCons (tVar 0) tNil)) (tCons (tCB (fun xs H_1 Q=>∃ p ys,xs = [V.ref p]/\((SqL K H_1 p ys/\∀ (l:Addr),H_1 l = none->Q (V.ref l) (upd H_1 l (HO.tup ys)))\/SqT K H_1 p ys/\Q (V.ref p) H_1)) (tCons (tVar 2) tNil)) tNil))) { nx:=fun x H'=>Q V.non H',rt:=Q } [some (.ref b),some (.int room),some (.ref l),some (.int left),o4] H2:=fun o4 H2 st2=>by
  refine ⟨_,rfl,b,rfl,st2.box,fun t o H3 ro go st3=>?_⟩
  have st23:=st2.trans st3
  refine ⟨_,rfl,l,us,rfl,.inl ⟨SqL.of (st23.keep l _ nlb el),fun t2 ht2=>?_⟩⟩
  have s4:=Same.new (o:=.tup us) ht2
  have e4:upd H3 t2 (.tup us) t2 = some (.tup us):=upd_same
  refine ⟨zl2,fun t3 ht3=>?_⟩
  have s5:=Same.new (o:=.tup [.ref t,.ref t2]) ht3
  have s45:=s4.trans s5
  have rus5:=(rus.mono (st23.tups st.box)).mono (same_tups' s45)
  have st5:=(st.trans st23).trans (Step.ofSame' st3.box s45)
  refine q t3 (.mk o ps) _ ?_ (by rw [GdE]; exact ⟨go,gp⟩) (by rw [Re.many]; omega) st5
  rw [Re.toW]
  exact .lst upd_same rfl (rws2 (ro.mono (same_tups' s45)) (.lst (s5 _ _ e4) rus5.len rus5.at')).at'
 refine ⟨_,rfl,_,_,rfl,rfl,_,rfl,ite2 (fun c=>?_) (fun c=>?_)⟩
 rotate_left
 ·exact iteF (fin _ _ (Step.refl st.box))
 have hlp:0 < left:=of_decide_eq_true c
 refine ⟨_,rfl,b,3,rfl,st.box,by decide,by decide,fun r2 H2 a0 a1 st2=>⟨_,_,rfl,rfl,_,rfl,ite2 (fun c2=>?_) (fun c2=>?_)⟩⟩
 rotate_left
 ·exact fin _ _ st2
 refine ⟨fun σ' H'=>∃ (o4:Option V) (us:List V) (ps:List Re) (left':Int),σ' = [some (.ref b),some (.int room),some (.ref l),some (.int left'),o4]/\Step b H H'/\H' l = some (.lst us)/\RWs H' us (reWs ps)/\GdEs ps/\0<=left'/\(reManys ps:Int) + left'<=room - 1/\left' < left,fun σ' H' ⟨o4,us,ps,left',g1,g2,g3,g4,g5,g6,g7,g8⟩=>⟨left'.toNat,by omega,o4,us,ps,left',g1,g2,g3,g4,g5,g6,g7,rfl⟩,?_⟩
 refine ⟨_,rfl,_,rfl,b,left,rfl,st2.box,hlp,Int.lt_of_le_of_lt (show left<=100 by omega) (by decide),fun r3 H3 c0 c1 st3=>⟨_,_,rfl,rfl,?_⟩⟩
 have st23:=st2.trans st3
 have el3:=st23.keep l _ nlb el
 have rus3:=rus.mono (st23.tups st.box)
 dsimp only [gName]
 refine ⟨_,rfl,.inl ⟨rfl,_,SqL.of el3⟩,_,rfl,_,rfl,b,1 + r3,rfl,st3.box,by omega,by omega,by omega,fun t e H4 re ge me st4=>?_⟩
 have el4:=st4.keep l _ nlb el3
 have hul:us.length<=1000:=by
  rw [rus.len,reWs_map,List.length_map]
  omega
 refine ⟨l,us,.ref t,rfl,rfl,el4,Nat.lt_of_le_of_lt hul (by decide),?_⟩
 have t5:=tups_put (o:=.lst (us ++ [.ref t])) el4
 have hlH:H l = none:=hl
 have st5:Step b H (upd H4 l (.lst (us ++ [.ref t]))):=by
  have stt:=(st.trans st23).trans st4
  refine ⟨?_,fun c o hc e=>?_⟩
  ·obtain ⟨x,y,z,e⟩:=stt.box
   exact ⟨x,y,z,by rw [upd_ne nlb.symm]; exact e⟩
  ·rw [upd_ne (ne_of_none e hlH)]
   exact stt.keep c o hc e
 refine ⟨_,rfl,_,rfl,_,_,rfl,rfl,?_⟩
 refine ⟨_,us ++ [.ref t],ps ++ [e],left - (1 + r3),rfl,st5,upd_same,?_,?_,by omega,?_,by omega⟩
 ·rw [reWs_map,List.map_append,← reWs_map]
  exact (((rus3.mono (st4.tups st3.box)).mono t5).snoc (re.mono t5))
 ·exact gdes_snoc gp ge
 ·have:=remanys_snoc ps e
  omega
theorem sc_lshown:FnScope ["_law_paper_here","_law_rows","_law_looked"] ["_law_paper_here"] (defScope s_lshown):=⟨rfl,rfl,rfl,by decide +kernel,rfl,by decide +kernel,by decide +kernel⟩
theorem ok_lshown (F:Fun K "_law_shown" "_law_shown" s_lshown f fd) (G_lrecord_shown:Have P w K mg base "_law_record_shown" k ["_law_record_here"] (spShowE 14)) (G_show_rule:Have P w K mg base "show_rule" k ["rule"] (spShowR 14)) (G_show_worth:Have P w K mg base "show_worth" k ["worth"] (spShow 14)) (G_loutcome_shown:Have P w K mg base "_law_outcome_shown" k ["_law_outcome_here"] (spShowO)):FnOk P w K mg base CX0 (k + 1) f fd ["_law_paper_here"] (spShowP):=by
 refine F.okQ sc_lshown (fun vs H Q E h=>?_) (fun cdv A outer s H vs Q E hr h=>?_)
 ·obtain ⟨v,p,rfl,_⟩:=h
  rfl
 obtain ⟨v,p,rfl,rv,g,q⟩:=h
 refine ⟨_,(pss_cons (ps_lsetT (i:=1) ["_law_name","_law_found"] rfl rfl (by decide +kernel) rfl (by decide +kernel) trivial rfl (pi_tup (pe_ix ix_tup (pv 0) pe_int (fun _ _=>rfl))) (fun C s H fp=>(show QG _ _ (gTup K 2 (gCons (gName 0) (gCons (gName 1) gNil))) from pg_tup rfl (pgs_cons (pg_name (i:=0) (show (["_law_name","_law_found"]:List Str).Nodup from by decide +kernel) rfl (Or.inl rfl) (Or.inr rfl)) (pgs_cons (pg_name (i:=1) (show (["_law_name","_law_found"]:List Str).Nodup from by decide +kernel) rfl (Or.inl rfl) (Or.inr rfl)) pgs_nil)))) (fun C s H fp=>⟨pifs_nil,(pe_op op_add_str (pe_op op_add_str (pe_op op_add_str (pe_op op_add_str pe_str (pe_fn G_show_worth hr rfl (pa_cons (pv 0) pa_nil))) pe_str) (pe_fn G_loutcome_shown hr rfl (pa_cons (pv 1) pa_nil))) pe_str)⟩) sc_lshown.nd rfl (Or.inl rfl))
  (pss_cons (ps_set (i:=2) sc_lshown.nd rfl (Or.inl rfl) (pe_op op_add_str (pe_op op_add_str pe_str (pe_bm PySem.F.plainAttrs_str PySem.F.slot_str_join PySem.F.type_str_join mt_join pe_str (pa_cons (pe_op op_cat (pe_lst (pa_cons pe_str pa_nil)) (pv 1)) pa_nil))) pe_str))
  (pss_one (ps_ret (pe_op op_add_str (pe_op op_add_str pe_str (pe_bm PySem.F.plainAttrs_str PySem.F.slot_str_join PySem.F.type_str_join mt_join pe_str (pa_cons (pe_lst (pa_cons pe_str (pa_cons (pe_fn G_show_rule hr rfl (pa_cons (pe_ix ix_tup (pv 0) pe_int (fun _ _=>rfl)) pa_nil)) (pa_cons (pv 2) (pa_cons (pe_fn G_lrecord_shown hr rfl (pa_cons (pe_ix ix_tup (pv 0) pe_int (fun _ _=>rfl)) pa_nil)) pa_nil))))) pa_nil))) pe_str))))),?_⟩
 obtain ⟨r,ls,e⟩:=p
 obtain ⟨a,rv',lv,ev,rfl,ea,rr,rl,re⟩:=opn3 rv
 obtain ⟨b,us,rfl,eb,rus⟩:=opnL rl
 have hul:us.length = ls.length:=by rw [rus.len,List.length_map]
 have hll:ls.length<=10:=g.ll
 have hsz:(16777216:Nat)<=sizeLine:=by decide
 have l1:(Str.ofString " ").length = 1:=by decide +kernel
 have l2:(Str.ofString "(").length = 1:=by decide +kernel
 have l3:(Str.ofString ")").length = 1:=by decide +kernel
 have c1:(Str.ofString " ").cps.toList = [32]:=by decide +kernel
 have c2:(Str.ofString "(").cps.toList = [40]:=by decide +kernel
 refine ⟨_,rfl,a,_,1,.ref b,rfl,rfl,SqT.of ea,rfl,b,rfl,⟨_,SqT.of eb⟩,rd_drawG (K:=K) (vs:=us) (fun i ys H'=>∃ xs:List Str,ys = xs.map V.str/\xs.length = i/\xs.map (fun y=>y.cps.toList) = ((ls.take i).map trL).map shT/\Same H H') (small (by omega)) ⟨[],rfl,rfl,rfl,Same.refl _⟩ (fun i ys H' h=>?_) (fun i ys H' h=>?_) (fun i v ys H' R R' hv h hR=>?_) (fun ys H' D h hD=>?_)⟩
 ·obtain ⟨xs,rfl,hl,_⟩:=h
  rw [List.length_map]; exact hl
 ·obtain ⟨_,_,_,_,s3⟩:=h
  exact SqT.of (s3 _ _ eb)
 ·obtain ⟨xs,rfl,hxl,hxs,s3⟩:=h
  have hi:i < ls.length:=by rw [← hul]; exact (List.getElem?_eq_some_iff.mp hv).1
  have hpi:ls[i]? = some ls[i]:=List.getElem?_eq_getElem hi
  have rw0:=(rus.at' i v (lkW ls[i]) hv (by rw [List.getElem?_map,hpi]; rfl)).mono (same_tups' s3)
  have gl:=g.l _ (List.getElem_mem hi)
  generalize ls[i] = lk at rw0 gl hpi
  obtain ⟨z,o⟩:=lk
  obtain ⟨t,zv,ov,rfl,et,rz,ro⟩:=opn2 rw0
  have gz:=txt_good gl.1
  refine ⟨t,_,rfl,SqT.of et,rfl,_,_,rfl,_,_,rfl,rfl,iteT ?_⟩
  refine ⟨_,rfl,zv,.txt z,rfl,rz,gz.1,gz.2.1,Nat.lt_succ_of_le (Nat.le_succ_of_le gz.2.2),fun x H4 hx s4=>?_⟩
  have hxl1:x.length<=64000:=by
   have:=good_len gz
   rw [shT_W,← hx,str_len] at this
   omega
  refine ⟨_,_,rfl,rfl,by rw [l2]; omega,_,_,rfl,rfl,by rw [str_app_len,l2,l1]; omega,_,rfl,ov,o,rfl,ro.mono (same_tups' s4),gl.2,fun y H5 hy s5=>?_⟩
  have hyl:y.length<=65000:=by
   have:(shT (trO o)).length + 1<=65000:=shO_len gl.2
   rw [← hy,str_len] at this
   omega
  refine ⟨_,_,rfl,rfl,by rw [str_app_len,str_app_len,l2,l1]; omega,_,_,rfl,rfl,by rw [str_app_len,str_app_len,str_app_len,l2,l1,l3]; omega,hR _ _ ⟨xs ++ [_],by rw [List.map_append]; rfl,by rw [List.length_append,hxl]; rfl,?_,(s3.trans s4).trans s5⟩⟩
  rw [take_snoc hpi,List.map_append,List.map_append,List.map_append,hxs,List.map_cons,List.map_cons,List.map_cons,str_app,str_app,str_app,str_app,c1,c2,hx,hy,str41]
  show _ = _ ++ [shT (.lst [trW numC (.txt z),trO o])]
  rw [shT,shTs,shTs,shT_W]
  simp
 obtain ⟨xs,rfl,hxl,hxs,s3⟩:=h
 rw [hul,List.take_length] at hxs
 have s4:=s3.trans (Same.new (o:=.lst (xs.map V.str)) hD)
 have e4:upd H' D (.lst (xs.map V.str)) D = some (.lst (xs.map V.str)):=upd_same
 generalize upd H' D (.lst (xs.map V.str)) = H4 at s4 e4
 dsimp only [gName]
 refine ⟨rfl,zl1,fun l hl=>?_⟩
 have s5:=Same.new (o:=.lst [.str (Str.ofString "looks")]) hl
 have e5:upd H4 l (.lst [.str (Str.ofString "looks")]) l = some (.lst [.str (Str.ofString "looks")]):=upd_same
 generalize upd H4 l (.lst [.str (Str.ofString "looks")]) = H5 at s5 e5
 refine ⟨_,rfl,l,D,_,_,rfl,rfl,e5,s5 _ _ e4,small (by rw [List.length_map]; show 1 + _<=_; omega),fun p hp=>?_⟩
 have s6:=(s4.trans s5).trans (Same.new (o:=.lst ([.str (Str.ofString "looks")] ++ xs.map V.str)) hp)
 have e6:upd H5 p (.lst ([.str (Str.ofString "looks")] ++ xs.map V.str)) p = some (.lst ((Str.ofString "looks" :: xs).map V.str)):=upd_same
 generalize upd H5 p (.lst ([.str (Str.ofString "looks")] ++ xs.map V.str)) = H6 at s6 e6
 have w1:=wid_Ls ls g.l
 have l5:((Str.ofString "looks").cps.toList).length = 5:=by decide +kernel
 have l6:((Str.ofString "paper").cps.toList).length = 5:=by decide +kernel
 have wl:wid (nmT "looks" :: ls.map trL)<=1400000:=by
  rw [wid_cons,nmT,shT,l5]
  omega
 have hmap:(Str.ofString "looks" :: xs).map (fun y=>y.cps.toList) = (nmT "looks" :: ls.map trL).map shT:=by
  rw [List.map_cons,List.map_cons,hxs]
  rfl
 have joinB:∀ (ys:List Str) (ts:List Tr),ys.map (fun y=>y.cps.toList) = ts.map shT->wid ts<=10000000->((ys.map (fun x=>x.length)).sum + ys.length * (Str.ofString " ").length<=16777216)/\(Txt.join (Str.ofString " ") ys).length<=10000000/\(Str.ofString "(" ++ Txt.join (Str.ofString " ") ys ++ Str.ofString ")").cps.toList = shT (.lst ts):=fun ys ts hm hw=>by
  have hj:=join_trs ys ts hm
  have hws:=wid_sum ys ts hm
  have hjl:(Txt.join (Str.ofString " ") ys).length<=wid ts:=by
   rw [← str_len,hj]
   exact shTs_len ts
  refine ⟨by rw [l1]; omega,by omega,?_⟩
  rw [str_app,str_app,c2,hj,str41,shT]
  rfl
 obtain ⟨b1,b2,b3⟩:=joinB _ _ hmap (by omega)
 refine ⟨_,p,Str.ofString "looks" :: xs,rfl,rfl,SqL.of e6,b1,_,_,rfl,rfl,by rw [l2]; omega,_,_,rfl,rfl,by rw [str_app_len,l2,l3]; omega,?_⟩
 generalize Str.ofString "(" ++ Txt.join (Str.ofString " ") (Str.ofString "looks" :: xs) ++ Str.ofString ")" = lx at b3
 have rm:r.many<=20:=g.rm
 have rh:r.high<=12:=g.rh
 have em:e.many<=20:=g.em
 dsimp only [gName]
 refine ⟨rfl,_,rfl,a,_,0,rv',rfl,rfl,SqT.of (s6 _ _ ea),rfl,rv',r,rfl,rr.mono (same_tups' s6),g.r,by omega,by omega,fun x H7 hx s7=>?_⟩
 refine ⟨_,rfl,_,rfl,a,_,2,ev,rfl,rfl,SqT.of (s7 _ _ (s6 _ _ ea)),rfl,ev,e,rfl,re.mono (same_tups' (s6.trans s7)),g.e,g.ed,em,fun y H8 hy s8=>⟨zl4,fun p2 hp2=>?_⟩⟩
 have w2:=shR_len r g.r
 have w3:=shE_len e g.e
 have w4:=shL_wid (nmT "looks" :: ls.map trL)
 have hmap2:[Str.ofString "paper",x,lx,y].map (fun y=>y.cps.toList) = [nmT "paper",trR r,.lst (nmT "looks" :: ls.map trL),trE e].map shT:=by
  simp only [List.map_cons,List.map_nil,hx,b3,hy]
  rfl
 obtain ⟨d1,d2,d3⟩:=joinB _ _ hmap2 (by
  rw [wid_cons,wid_cons,wid_cons,wid_cons,nmT,shT,l6]
  show _ + (_ + (_ + (_ + 1 + 0)))<=_
  omega)
 exact ⟨_,p2,[Str.ofString "paper",x,lx,y],rfl,rfl,SqL.of (by rw [upd_same]; rfl),d1,_,_,rfl,rfl,by rw [l2]; omega,_,_,rfl,rfl,by rw [str_app_len,l2,l3]; omega,q _ _ d3 (((s6.trans s7).trans s8).trans (Same.new hp2))⟩
end
end D
namespace L2
open PySem PySem.Spec PyProof.Rows
theorem for_str {z:Str}{g:TG}{tb:TS}{D:Ends}{σ:St}{H:Hp} (Pv:Nat->St->Hp->Prop) (h0:Pv 0 σ H)
  (hs:∀ i c σ H,z.cps[i]? = some c->Pv i σ H->g (.str ⟨#[c]⟩) σ H fun σ2 H2=>tb { D with nx:=Pv (i + 1),ct:=Pv (i + 1),bk:=D.nx } σ2 H2) (hd:∀ σ H,Pv z.cps.size σ H->D.nx σ H):
  ∃ W:Nat->Nat->St->Hp->Prop,(∃ m,W 0 m σ H)/\∀ i m σ H,W i m σ H->
   ((Its z).stop i H/\D.nx σ H)\/((Its z).go i H/\∃ N:St->Hp->Prop,(∀ σ' H',N σ' H'->∃ m',m' < m/\W (i + 1) m' σ' H')/\∀ x H',(Its z).yld i H x H'->g x σ H' fun σ2 H2=>tb { D with nx:=N,ct:=N,bk:=D.nx } σ2 H2):=by
 refine ⟨fun i m σ H=>m = z.cps.size - i/\i<=z.cps.size/\Pv i σ H,⟨z.cps.size,by simp,Nat.zero_le _,h0⟩,?_⟩
 rintro i m σ H ⟨rfl,hi,p⟩
 by_cases hlt:i < z.cps.size
 ·refine .inr ⟨hlt,Pv (i + 1),fun σ' H' p'=>⟨z.cps.size - (i + 1),by omega,rfl,hlt,p'⟩,fun x H' y=>?_⟩
  obtain ⟨e,c,hc,rfl⟩:=y
  subst e
  exact hs i c σ _ hc p
 ·have e:i = z.cps.size:=by omega
  subst e
  exact .inl ⟨rfl,hd σ H p⟩
end L2
namespace D
open PySem L2
mutual
theorem fit_unb:∀ (r:Rl) (sc:List Str),r.Fit sc->unb sc r = []
 | .lit x,sc,_=>by rw [unb]
 | .var s,sc,h=>by rw [Rl.Fit] at h; rw [unb,if_pos h.2]
 | .op d bs ps,sc,h=>by rw [Rl.Fit] at h; rw [unb]; exact fits_unb ps sc bs h.2
theorem fits_unb:∀ (ps:List Rl) (sc bs:List Str),Fits ps sc bs->unbs sc bs ps = []
 | [],sc,bs,_=>by rw [unbs]
 | [p],sc,bs,h=>by rw [Fits] at h; rw [unbs]; exact fit_unb p _ h
 | p :: q :: r,sc,bs,h=>by rw [Fits] at h; rw [unbs,fit_unb p sc h.1,fits_unb (q :: r) sc bs h.2]; rfl
end
def isSB (c:Nat):Bool:=decide (c = 32\/c = 40\/c = 41)
def Bl (g:List Nat):Prop:=∀ c∈g,c = 32\/c = 10
inductive Loo:Bool->List Nat->List Nat->Prop where
 | nil {qd:Bool}:Loo qd [] []
 | keep {qd:Bool}{c:Nat}{r L:List Nat}:((qd != (c == 34)) = true\/isSB c = false)->Loo (qd != (c == 34)) r L->Loo qd (c :: r) (c :: L)
 | gap {qd:Bool}{c:Nat}{r L g g2:List Nat}:(qd != (c == 34)) = false->isSB c = true->Bl g->Bl g2->Loo (qd != (c == 34)) r L->Loo qd (c :: r) (g ++ c :: (g2 ++ L))
theorem loo_q:∀ {q:List Nat},(∀ c∈q,c≠34)->∀ {r L:List Nat},Loo true (q ++ r) L->∃ L',L = q ++ L'/\Loo true r L'
 | [],_,r,L,h=>⟨L,rfl,h⟩
 | c :: q,hq,r,L,h=>by
  have hc:(c == 34) = false:=by
   have:=hq c List.mem_cons_self
   simpa using this
  cases h with
  | @keep _ _ _ L1 _ h1=>
   rw [hc] at h1
   obtain ⟨L',rfl,h2⟩:=loo_q (fun d hd=>hq d (List.mem_cons_of_mem _ hd)) h1
   exact ⟨L',rfl,h2⟩
  | gap h0 _ _ _ _=>rw [hc] at h0; cases h0
theorem loo_w:∀ {q:List Nat},(∀ c∈q,isEnd c = false)->∀ {r L:List Nat},Loo false (q ++ r) L->∃ L',L = q ++ L'/\Loo false r L'
 | [],_,r,L,h=>⟨L,rfl,h⟩
 | c :: q,hq,r,L,h=>by
  have he:=hq c List.mem_cons_self
  unfold isEnd at he
  simp only [Bool.or_eq_false_iff,beq_eq_false_iff_ne,ne_eq] at he
  have hc:(c == 34) = false:=by simpa using he.2.2.2.2
  cases h with
  | @keep _ _ _ L1 _ h1=>
   rw [hc] at h1
   obtain ⟨L',rfl,h2⟩:=loo_w (fun d hd=>hq d (List.mem_cons_of_mem _ hd)) h1
   exact ⟨L',rfl,h2⟩
  | gap _ h0 _ _ _=>
   have:=of_decide_eq_true h0
   omega
theorem cut_bl {g r:List Nat} (h:Bl g) (hr:Cut r):Cut (g ++ r):=fun c s e=>by
 cases g with
 | nil=>exact hr c s e
 | cons d g=>
  cases e
  rcases h c List.mem_cons_self with rfl | rfl <;> rfl
theorem loo_cut {r L:List Nat} (h:Loo false r L) (hr:Cut r):Cut L:=by
 cases h with
 | nil=>exact hr
 | @keep _ c r L _ _=>intro d s e; cases e; exact hr c r rfl
 | @gap _ c r L g g2 _ _ hg _ _=>exact cut_bl hg fun d s e=>by cases e; exact hr c r rfl
theorem loo_spell {s:List Nat}{ps:List Pc} (h:Spell s ps):∀ {L:List Nat},Loo false s L->Spell L ps:=by
 induction h with
 | nil=>intro L h; cases h; exact .nil
 | @gap c r ps hc _ ih=>
  intro L h
  have hc4:(c == 34) = false:=by rcases hc with rfl | rfl <;> rfl
  cases h with
  | keep _ h1=>rw [hc4] at h1; exact .gap hc (ih h1)
  | gap _ _ hg hg2 h1=>rw [hc4] at h1; exact Spell.gaps hg (.gap hc (Spell.gaps hg2 (ih h1)))
 | @op r ps _ ih=>
  intro L h
  cases h with
  | keep _ h1=>exact .op (ih h1)
  | gap _ _ hg hg2 h1=>exact Spell.gaps hg (.op (Spell.gaps hg2 (ih h1)))
 | @cl r ps _ ih=>
  intro L h
  cases h with
  | keep _ h1=>exact .cl (ih h1)
  | gap _ _ hg hg2 h1=>exact Spell.gaps hg (.cl (Spell.gaps hg2 (ih h1)))
 | @txt q r ps hq _ ih=>
  intro L h
  cases h with
  | keep _ h1=>
   obtain ⟨L',rfl,h2⟩:=loo_q hq h1
   cases h2 with
   | keep _ h3=>exact .txt hq (ih h3)
   | gap _ h0 _ _ _=>cases h0
  | gap _ h0 _ _ _=>cases h0
 | @word c q r ps hc hq hr _ ih=>
  intro L h
  obtain ⟨L',rfl,h2⟩:=loo_w (q:=c :: q) (fun d hd=>by
   rcases List.mem_cons.mp hd with rfl | hd
   ·exact hc
   ·exact hq d hd) h
  exact .word hc hq (loo_cut h2 hr) (ih h2)
def spPaperD:Sp:=fun vs H Q _=>∃ b:Addr,vs = [.ref b,.int 5]/\IsBox H b/\∀ (t:Addr) (p:Pa) (H':Hp),RW H' (.ref t) p.toW->GdP p->Rule p.r->p.r.many<=5->p.e.many<=5->p.ls.length<=2->p.r.high<=5->Step b H H'->Q (.ref t) H'
def spLooseD:Sp:=fun vs H Q _=>∃ (b:Addr) (x:Str) (ps:List Pc),vs = [.str x,.ref b]/\IsBox H b/\Spell x.cps.toList ps/\x.length<=3000000/\∀ (y:Str) (H':Hp),Spell y.cps.toList ps->y.length<=2 * x.length + 1->Step b H H'->Q (.str y) H'
mutual
theorem deep_many:∀ e:Re,e.deep<=e.many
 | .mk o ps=>by
  have:=deeps_manys ps
  rw [Re.deep,Re.many]
  omega
theorem deeps_manys:∀ ps:List Re,reDeeps ps<=reManys ps
 | []=>by rw [reDeeps,reManys]; exact Nat.le_refl _
 | p :: r=>by
  have h1:=deep_many p
  have h2:=deeps_manys r
  rw [reDeeps,reManys]
  omega
end
theorem q34 (c:Nat):decide (V.str ⟨#[c]⟩ = V.str (Str.ofString "\"")) = (c == 34):=by
 have e:Str.ofString "\"" = ⟨#[34]⟩:=by decide +kernel
 rw [e]
 by_cases h:c = 34
 ·rw [h]; exact decide_eq_true rfl
 ·rw [show (c == 34) = false by simpa using h]
  refine decide_eq_false fun z=>h ?_
  have:=V.str.inj z
  injection this with this
  have:=congrArg Array.toList this
  simpa using this
theorem qne (a b:Bool):(!decide (V.bl a = V.bl b)) = (a != b):=by
 cases a <;> cases b <;> decide
theorem sbin (c:Nat):(!!(Builtin.Str.occurrences (Str.ofString " ()") ⟨#[c]⟩ 0 (Str.ofString " ()").length 1).isEmpty) = !isSB c:=by
 have h:=StrLaws.found_one (Str.ofString " ()") c
 have e:(Str.ofString " ()").cps.toList = [32,40,41]:=by decide +kernel
 rw [e] at h
 rw [h]
 unfold isSB
 congr 1
 rw [Bool.eq_iff_iff,decide_eq_true_iff,decide_eq_true_iff]
 simp
theorem one_app (x:Str) (c:Nat):(x ++ (⟨#[c]⟩:Str)).cps.toList = x.cps.toList ++ [c]:=by rw [str_app]
def gaps3:List V:=[.str (Str.ofString ""),.str (Str.ofString " "),.str (Str.ofString "\n")]
theorem gap3 {r:Int} (h0:0<=r) (h1:r < 3):∃ g:Str,atI gaps3 r = some (.str g)/\Bl g.cps.toList/\g.length<=1:=by
 have h:r = 0\/r = 1\/r = 2:=by omega
 rcases h with rfl | rfl | rfl
 ·exact ⟨Str.ofString "",atI_nat (j:=0) rfl,(by unfold Bl; decide +kernel),by decide +kernel⟩
 ·exact ⟨Str.ofString " ",atI_nat (j:=1) rfl,(by unfold Bl; decide +kernel),by decide +kernel⟩
 ·exact ⟨Str.ofString "\n",atI_nat (j:=2) rfl,(by unfold Bl; decide +kernel),by decide +kernel⟩
section
variable {P:Program}{w:World}{K:PySem.W.Frag}{mg:Str->Option Value}{base:Heap}{f:Addr}{fd:FuncData}{k n:Nat}
theorem sc_lpaper:FnScope ["_law_box_here","_law_most","_law_rule","_law_looks"] ["_law_box_here","_law_most"] (defScope s_lpaper):=⟨rfl,rfl,rfl,by decide +kernel,rfl,by decide +kernel,by decide +kernel⟩
theorem ok_lpaper (F:Fun K "_law_paper" "_law_paper" s_lpaper f fd) (G_lrecord:Have P w K mg base "_law_record" k ["_law_box_here","_law_room"] (spRecD 7)) (G_ltake:Have P w K mg base "_law_take" k ["_law_box_here","_law_wide"] (spTake)) (G_loutcome:Have P w K mg base "_law_outcome" k ["_law_box_here"] (spOutD)) (G_ltext:Have P w K mg base "_law_text" k ["_law_box_here","_law_most"] (spText)) (G_lany:Have P w K mg base "_law_any" k ["_law_box_here","_law_scope","_law_names","_law_spare","_law_floors","_law_rounds"] (spAny 11)) (m_range:mg "range" = none) (m_tuple:mg "tuple" = none):FnOk P w K mg base CX0 (k + 1) f fd ["_law_box_here","_law_most"] (spPaperD):=by
 refine F.okQ sc_lpaper (fun vs H Q E h=>?_) (fun cdv A outer s H vs Q E hr h=>?_)
 ·obtain ⟨b,rfl,_⟩:=h
  rfl
 obtain ⟨b,rfl,hb,q⟩:=h
 refine ⟨_,(pss_cons (ps_set (i:=2) sc_lpaper.nd rfl (Or.inl rfl) (pe_ix ix_tup (pe_fn G_lany hr rfl (pa_cons (pv 0) (pa_cons (pe_lst pa_nil) (pa_cons (pe_lst pa_nil) (pa_cons (pe_op op_add pe_int (pe_fn G_ltake hr rfl (pa_cons (pv 0) (pa_cons (pv 1) pa_nil)))) (pa_cons pe_int (pa_cons pe_int pa_nil))))))) pe_int (fun _ _=>rfl)))
  (pss_cons (ps_set (i:=3) sc_lpaper.nd rfl (Or.inl rfl) (pe_callTy call_tuple_of rfl m_tuple boot_tupleT (pa_cons (pe_lcomp [0] ["_law_box_here"] rfl rfl (by decide +kernel) rfl (by decide +kernel) rfl (by decide +kernel) ⟨rfl,trivial⟩ rfl ⟨⟨rfl,rfl,Or.inr (Or.inl rfl),(by show (some NameKind.cell:Option NameKind)≠some .local; decide),⟨_,rfl⟩⟩,trivial⟩ (pi_range1 rfl m_range (pa_cons (pe_fn G_ltake hr rfl (pa_cons (pv 0) (pa_cons pe_int pa_nil))) pa_nil)) (fun C s H fp=>⟨pifs_nil,(pe_tup (pa_cons (pe_fn G_ltext hr rfl (pa_cons (pv 1) (pa_cons pe_int pa_nil))) (pa_cons (pe_fn G_loutcome hr rfl (pa_cons (pv 1) pa_nil)) pa_nil)))⟩)) pa_nil)))
  (pss_one (ps_ret (pe_tup (pa_cons (pv 2) (pa_cons (pv 3) (pa_cons (pe_fn G_lrecord hr rfl (pa_cons (pv 0) (pa_cons (pv 1) pa_nil))) pa_nil)))))))),?_⟩
 refine ⟨_,rfl,zl0,fun sc hsc=>⟨zl0,fun nl hnl=>?_⟩⟩
 have scb:sc≠b:=IsBox.ne hb hsc
 have st1:=Step.new (o:=.lst []) hb hsc
 have esc:upd H sc (.lst []) sc = some (.lst []):=upd_same
 generalize upd H sc (.lst []) = H1 at st1 esc hnl
 have nlb:nl≠b:=IsBox.ne st1.box hnl
 have st2:=st1.trans (Step.new (o:=.lst []) st1.box hnl)
 have enl:upd H1 nl (.lst []) nl = some (.lst []):=upd_same
 have esc2:=Same.new (o:=.lst []) hnl _ _ esc
 generalize upd H1 nl (.lst []) = H2 at st2 enl esc2
 refine ⟨_,rfl,_,rfl,b,5,rfl,st2.box,by decide,by decide,fun r H3 a0 a1 st3=>⟨_,_,rfl,rfl,?_⟩⟩
 refine ⟨b,sc,nl,[],[],1 + r,5,1,rfl,st3.box,⟨st3.keep _ _ nlb enl,nlb,trivial,by decide,(fun z hz=>nomatch hz)⟩,st3.keep _ _ scb esc2,scb,by decide,(fun y hy=>nomatch hy),by omega,by omega,by decide,by decide,by decide,by decide,fun t v r0 H4 et rv hfit hmany hhigh hrep st4=>?_⟩
 refine ⟨t,_,0,v,rfl,rfl,SqT.of et,rfl,?_⟩
 have st34:=(st2.trans st3).trans st4
 dsimp only [gName]
 refine ⟨_,rfl,b,3,rfl,st4.box,by decide,by decide,fun r2 H5 b0 b1 st5=>⟨r2,rfl,by omega,by omega,rd_drawR (n:=r2) (fun i ys H'=>∃ ls:List Lk,RWs H' ys (ls.map lkW)/\ls.length = i/\(∀ x∈ls,GdL x)/\Step b H5 H') ⟨[],⟨rfl,fun i v w h=>by rw [List.getElem?_nil] at h; cases h⟩,rfl,(fun x hx=>nomatch hx),Step.refl st5.box⟩ (fun i ys H' h=>?_) (by omega) (fun i ys H' R hi h hR=>?_) (fun ys H' D h hD=>?_)⟩⟩
 ·obtain ⟨ls,rl,hl,_⟩:=h
  rw [rl.len,List.length_map]; exact hl
 ·obtain ⟨ls,rl,hl,gl,st⟩:=h
  refine ⟨_,rfl,b,12,rfl,st.box,by decide,by decide,fun z H6 hz1 hz2 st6=>⟨_,rfl,b,rfl,st6.box,fun t1 o H7 ro go st7=>⟨zl2,fun p hp=>?_⟩⟩⟩
  have s8:=Same.new (o:=.tup [.str z,.ref t1]) hp
  have st67:=st6.trans st7
  refine hR _ _ ⟨ls ++ [(z,o)],?_,by rw [List.length_append,hl]; rfl,fun x hx=>?_,(st.trans st67).trans (Step.ofSame' st7.box s8)⟩
  ·rw [List.map_append]
   exact ((rl.mono (st67.tups st.box)).mono (same_tups' s8)).snoc (.lst upd_same rfl (rws2 (.txt z) (ro.mono (same_tups' s8))).at')
  ·rcases List.mem_append.mp hx with hx | hx
   ·exact gl x hx
   ·rw [List.mem_singleton.mp hx]
    exact ⟨⟨(by show z.length<=400; omega),hz2⟩,go⟩
 obtain ⟨ls,rl,hl,gl,st⟩:=h
 refine ⟨D,_,rfl,.inl ⟨SqL.of upd_same,fun t2 ht2=>?_⟩⟩
 have s6:=(Same.new (o:=.lst ys) hD).trans (Same.new (o:=.tup ys) ht2)
 have e6:upd (upd H' D (.lst ys)) t2 (.tup ys) t2 = some (.tup ys):=upd_same
 generalize upd (upd H' D (.lst ys)) t2 (.tup ys) = H6 at s6 e6
 have st6:=st.trans (Step.ofSame' st.box s6)
 dsimp only [gName]
 refine ⟨_,rfl,_,rfl,_,rfl,_,rfl,b,5,rfl,st6.box,by decide,by decide,by decide,fun t3 e H8 re ge me st8=>⟨zl3,fun p hp=>?_⟩⟩
 have s9:=Same.new (o:=.tup [v,.ref t2,.ref t3]) hp
 have tA:Tups H4 (upd H8 p (.tup [v,.ref t2,.ref t3])):=fun a vs e=>s9 _ _ ((st8.tups st6.box) _ _ ((st6.tups st5.box) _ _ ((st5.tups st4.box) _ _ e)))
 have tB:Tups H6 (upd H8 p (.tup [v,.ref t2,.ref t3])):=fun a vs e=>s9 _ _ ((st8.tups st6.box) _ _ e)
 have rl9:=(rl.mono (same_tups' s6)).mono tB
 have dm:=deep_many e
 have hem:e.many<=5:=by omega
 have hrm:r0.many<=5:=by omega
 have hrh:r0.high<=5:=by omega
 have hll:ls.length<=2:=by omega
 have gr:=hfit.gd
 refine q p ⟨r0,ls,e⟩ _ (.lst upd_same rfl (rws3 (rv.mono tA) (.lst (tB _ _ e6) rl9.len rl9.at') (re.mono (same_tups' s9))).at') ⟨gr,Nat.le_trans hrm (by decide),Nat.le_trans hrh (by decide),gl,Nat.le_trans hll (by decide),ge,Nat.le_trans hem (by decide),by show e.deep < 14; omega⟩ ⟨gr,Nat.le_trans hrh (by decide),Nat.le_trans hrm (by decide),fit_unb r0 [] hfit,by show r0.rep<=2; omega⟩ hrm hem hll hrh (((st34.trans st5).trans st6).trans (st8.trans (Step.ofSame' st8.box s9)))
theorem sc_lloose:FnScope ["_law_text_here","_law_box_here","_law_found","_law_quoted","_law_sign","_law_gap"] ["_law_text_here","_law_box_here"] (defScope s_lloose):=⟨rfl,rfl,rfl,by decide +kernel,rfl,by decide +kernel,by decide +kernel⟩
theorem ok_lloose (F:Fun K "_law_loose" "_law_loose" s_lloose f fd) (G_ltake:Have P w K mg base "_law_take" k ["_law_box_here","_law_wide"] (spTake)):FnOk P w K mg base CX0 (k + 1) f fd ["_law_text_here","_law_box_here"] (spLooseD):=by
 refine F.okQ sc_lloose (fun vs H Q E h=>?_) (fun cdv A outer s H vs Q E hr h=>?_)
 ·obtain ⟨b,x,ps,rfl,_⟩:=h
  rfl
 obtain ⟨b,x,ps,rfl,hb,sp,hx,q⟩:=h
 refine ⟨_,(pss_cons (ps_set (i:=2) sc_lloose.nd rfl (Or.inl rfl) (pe_ix ix_list (pe_lst (pa_cons pe_str (pa_cons pe_str (pa_cons pe_str pa_nil)))) (pe_fn G_ltake hr rfl (pa_cons (pv 1) (pa_cons pe_int pa_nil))) (fun _ _=>rfl)))
  (pss_cons (ps_set (i:=3) sc_lloose.nd rfl (Or.inl rfl) pe_bl)
  (pss_cons (ps_for PassesOwn.never rfl (pi_str (pv 0)) (pg_name (i:=4) sc_lloose.nd rfl (Or.inl rfl)) (pss_cons (ps_set (i:=3) sc_lloose.nd rfl (Or.inl rfl) (pe_cmpR op_ne (pv 3) (pe_cmpR op_eq (pv 4) pe_str (nomark _)) (nomark _)))
  (pss_one (ps_if (PW.pt (pw_or (pt_val (pv 3)) (pw_or1 (pt_cmpR op_notin_str (pv 4) pe_str (by rfl))))) (pss_one (ps_set (i:=2) sc_lloose.nd rfl (Or.inl rfl) (pe_op op_add_str (pv 2) (pv 4)))) (pss_cons (ps_set (i:=5) sc_lloose.nd rfl (Or.inl rfl) (pe_ix ix_list (pe_lst (pa_cons pe_str (pa_cons pe_str (pa_cons pe_str pa_nil)))) (pe_fn G_ltake hr rfl (pa_cons (pv 1) (pa_cons pe_int pa_nil))) (fun _ _=>rfl)))
  (pss_one (ps_set (i:=2) sc_lloose.nd rfl (Or.inl rfl) (pe_op op_add_str (pv 2) (pe_ix ix_list (pe_lst (pa_cons (pe_op op_add_str (pv 5) (pv 4)) (pa_cons (pe_op op_add_str (pv 4) (pv 5)) pa_nil))) (pe_fn G_ltake hr rfl (pa_cons (pv 1) (pa_cons pe_int pa_nil))) (fun _ _=>rfl))))))))))
  (pss_one (ps_ret (pv 2)))))),?_⟩
 have hsz:(16777216:Nat)<=sizeLine:=by decide
 refine ⟨zl3,fun l0 hl0=>?_⟩
 have st1:=Step.new (o:=.lst gaps3) hb hl0
 have e1:upd H l0 (.lst gaps3) l0 = some (.lst gaps3):=upd_same
 have nlb:l0≠b:=IsBox.ne hb hl0
 have eq1:upd H l0 (.lst gaps3) = upd H l0 (.lst [.str (Str.ofString ""),.str (Str.ofString " "),.str (Str.ofString "\n")]):=rfl
 rw [eq1] at st1 e1
 generalize upd H l0 (.lst [.str (Str.ofString ""),.str (Str.ofString " "),.str (Str.ofString "\n")]) = H1 at st1 e1
 refine ⟨_,rfl,b,3,rfl,st1.box,by decide,by decide,fun r H2 a0 a1 st2=>?_⟩
 obtain ⟨g0,ix0,bl0,gl0⟩:=gap3 a0 a1
 refine ⟨l0,gaps3,r,.str g0,rfl,rfl,SqL.of (st2.keep _ _ nlb e1),ix0,?_⟩
 have st12:=st1.trans st2
 clear eq1 e1 st1 st2
 dsimp only [gName]
 refine ⟨_,rfl,x,rfl,for_str (fun i σ' H'=>∃ (o4 o5:Option V) (qd:Bool) (out:Str) (out':List Nat),σ' = [some (.str x),some (.ref b),some (.str out),some (.bl qd),o4,o5]/\Step b H H'/\out.length<=2 * i + 1/\i<=x.length/\out.cps.toList = g0.cps.toList ++ out'/\∀ rest L,Loo qd rest L->Loo false (x.cps.toList.take i ++ rest) (out' ++ L))
  ⟨none,none,false,g0,[],rfl,st12,by omega,Nat.zero_le _,by rw [List.append_nil],fun rest L h=>h⟩ (fun i c σ' H' hc h=>?_) (fun σ' H' h=>?_)⟩
 ·obtain ⟨o4,o5,qd,out,out',rfl,st,hol,hil,hout,inv⟩:=h
  have hc':x.cps.toList[i]? = some c:=by simpa using hc
  have hi:i < x.length:=by rw [← str_len]; exact (List.getElem?_eq_some_iff.mp hc').1
  have lc:(⟨#[c]⟩:Str).length = 1:=rfl
  refine ⟨_,rfl,_,rfl,rfl,rfl,?_⟩
  rw [q34,qne]
  dsimp only [gName]
  have stepK:((qd != (c == 34)) = true\/isSB c = false)->∀ rest L,Loo (qd != (c == 34)) rest L->Loo false (x.cps.toList.take (i + 1) ++ rest) ((out' ++ [c]) ++ L):=fun hk rest L h=>by
   rw [take_snoc hc',List.append_assoc,List.append_assoc]
   exact inv _ _ (.keep hk h)
  have stepG:(qd != (c == 34)) = false->isSB c = true->∀ g g2,Bl g->Bl g2->∀ rest L,Loo (qd != (c == 34)) rest L->Loo false (x.cps.toList.take (i + 1) ++ rest) ((out' ++ (g ++ c :: g2)) ++ L):=fun h1 h2 g g2 hg hg2 rest L h=>by
   rw [take_snoc hc',List.append_assoc,List.append_assoc,List.append_assoc,List.cons_append]
   exact inv _ _ (.gap h1 h2 hg hg2 h)
  refine ⟨_,rfl,_,rfl,?_⟩
  cases hq:(qd != (c == 34)) with
  | true=>
   rw [hq] at stepK
   refine iteT (iteT ⟨_,rfl,_,rfl,_,_,rfl,rfl,by rw [lc]; omega,?_⟩)
   exact ⟨_,_,_,_,out' ++ [c],rfl,st,by rw [str_app_len,lc]; omega,hi,by rw [one_app,hout,List.append_assoc],stepK (.inl rfl)⟩
  | false=>
   rw [hq] at stepK stepG
   refine iteF ⟨_,rfl,_,_,rfl,rfl,_,rfl,?_⟩
   rw [sbin]
   cases hsb:isSB c with
   | false=>
    refine iteT ⟨_,rfl,_,rfl,_,_,rfl,rfl,by rw [lc]; omega,?_⟩
    exact ⟨_,_,_,_,out' ++ [c],rfl,st,by rw [str_app_len,lc]; omega,hi,by rw [one_app,hout,List.append_assoc],stepK (.inr hsb)⟩
   | true=>
    refine iteF ⟨zl3,fun l1 hl1=>?_⟩
    have stA:=Step.new (o:=.lst gaps3) st.box hl1
    have eA:upd H' l1 (.lst gaps3) l1 = some (.lst gaps3):=upd_same
    have nAb:l1≠b:=IsBox.ne st.box hl1
    have eqA:upd H' l1 (.lst gaps3) = upd H' l1 (.lst [.str (Str.ofString ""),.str (Str.ofString " "),.str (Str.ofString "\n")]):=rfl
    rw [eqA] at stA eA
    generalize upd H' l1 (.lst [.str (Str.ofString ""),.str (Str.ofString " "),.str (Str.ofString "\n")]) = HA at stA eA
    refine ⟨_,rfl,b,3,rfl,stA.box,by decide,by decide,fun r1 HB c0 c1 stB=>?_⟩
    obtain ⟨g,ixg,blg,glg⟩:=gap3 c0 c1
    refine ⟨l1,gaps3,r1,.str g,rfl,rfl,SqL.of (stB.keep _ _ nAb eA),ixg,?_⟩
    have stAB:=stA.trans stB
    clear eqA eA
    dsimp only [gName]
    refine ⟨_,rfl,_,rfl,_,rfl,_,_,rfl,rfl,by rw [lc]; omega,_,rfl,_,rfl,_,_,rfl,rfl,by rw [lc]; omega,zl2,fun l2 hl2=>?_⟩
    have stC:=Step.new (o:=.lst [.str (g ++ ⟨#[c]⟩),.str (⟨#[c]⟩ ++ g)]) stAB.box hl2
    have eC:upd HB l2 (.lst [.str (g ++ ⟨#[c]⟩),.str (⟨#[c]⟩ ++ g)]) l2 = some (.lst [.str (g ++ ⟨#[c]⟩),.str (⟨#[c]⟩ ++ g)]):=upd_same
    have nCb:l2≠b:=IsBox.ne stAB.box hl2
    generalize upd HB l2 (.lst [.str (g ++ ⟨#[c]⟩),.str (⟨#[c]⟩ ++ g)]) = HC at stC eC
    refine ⟨_,rfl,b,2,rfl,stC.box,by decide,by decide,fun r4 HD d0 d1 stD=>?_⟩
    have stF:=((st.trans stAB).trans stC).trans stD
    have eD:=stD.keep _ _ nCb eC
    have h01:r4 = 0\/r4 = 1:=by omega
    rcases h01 with rfl | rfl
    ·refine ⟨l2,_,0,.str (g ++ ⟨#[c]⟩),rfl,rfl,SqL.of eD,atI_nat (j:=0) rfl,_,_,rfl,rfl,by rw [str_app_len,lc]; omega,?_⟩
     refine ⟨_,_,_,_,out' ++ (g.cps.toList ++ c :: []),rfl,stF,by rw [str_app_len,str_app_len,lc]; omega,hi,?_,stepG rfl hsb g.cps.toList [] blg (fun d hd=>nomatch hd)⟩
     rw [str_app,one_app,hout,List.append_assoc]
    ·refine ⟨l2,_,1,.str (⟨#[c]⟩ ++ g),rfl,rfl,SqL.of eD,atI_nat (j:=1) rfl,_,_,rfl,rfl,by rw [str_app_len,lc]; omega,?_⟩
     refine ⟨_,_,_,_,out' ++ ([] ++ c :: g.cps.toList),rfl,stF,by rw [str_app_len,str_app_len,lc]; omega,hi,?_,stepG rfl hsb [] g.cps.toList (fun d hd=>nomatch hd) blg⟩
     rw [str_app,str_app,hout,List.append_assoc]
     rfl
 ·obtain ⟨o4,o5,qd,out,out',rfl,st,hol,hil,hout,inv⟩:=h
  refine ⟨_,rfl,q out H' ?_ ?_ st⟩
  ·have h0:=inv [] [] .nil
   rw [List.append_nil,List.append_nil,show x.cps.size = x.cps.toList.length from by simp,List.take_length] at h0
   rw [hout]
   exact Spell.gaps bl0 (loo_spell sp h0)
  ·have:x.cps.size = x.length:=rfl
   omega
def spLaw (K:PySem.W.Frag):Sp:=fun vs H Q _=>∃ (a:Addr) (ns:List Int),vs = [.ref a]/\SqL K H a (ns.map V.int)/\ns.length<=63/\∀ H',Q (.bl true) H'
mutual
theorem ok_nar:∀ x:W,x.Ok->x.Nar
 | .num _,_=>by rw [W.Nar]; trivial
 | .txt _,_=>by rw [W.Nar]; trivial
 | .lst ws,h=>by
  have h1:ws.length<=60:=h.1
  have h2:Oks ws:=h.2
  rw [W.Nar]
  exact ⟨by omega,oks_nar ws h2⟩
theorem oks_nar:∀ ws:List W,Oks ws->Nars ws
 | [],_=>by rw [Nars]; trivial
 | w :: r,h=>by rw [Nars]; exact ⟨ok_nar w h.1,oks_nar r h.2⟩
end
theorem nars_mk:∀ {ws:List W},(∀ w∈ws,w.Nar)->Nars ws
 | [],_=>by rw [Nars]; trivial
 | w :: r,h=>by rw [Nars]; exact ⟨h w List.mem_cons_self,nars_mk fun x hx=>h x (List.mem_cons_of_mem _ hx)⟩
theorem depths_le' {ws:List W}{n:Nat} (h:∀ w∈ws,w.depth<=n):depths ws<=n:=by
 induction ws with
 | nil=>exact Nat.zero_le _
 | cons w r ih=>
  have h1:=h w List.mem_cons_self
  have h2:=ih fun x hx=>h x (List.mem_cons_of_mem _ hx)
  show max w.depth (depths r)<=n
  omega
theorem txt_nar (z:Str):(W.txt z).Nar:=by rw [W.Nar]; trivial
theorem lst_nar {ws:List W} (h1:ws.length<=1000) (h2:∀ w∈ws,w.Nar):(W.lst ws).Nar:=by rw [W.Nar]; exact ⟨h1,nars_mk h2⟩
mutual
theorem rl_nar:∀ r:Rl,r.Gd->r.toW.Nar/\r.toW.depth<=r.high + 14
 | .lit x,g=>by
  rw [Rl.Gd] at g
  have hd:x.depth<=12:=g.2.2
  rw [Rl.toW]
  refine ⟨lst_nar (by show 2<=1000; decide) fun w hw=>?_,?_⟩
  ·rcases List.mem_cons.mp hw with rfl | hw
   ·exact txt_nar _
   ·rw [List.mem_singleton.mp hw]; exact ok_nar x g.1
  ·show 1 + max 0 (max x.depth 0)<=_
   omega
 | .var z,g=>by
  rw [Rl.toW]
  refine ⟨lst_nar (by show 2<=1000; decide) fun w hw=>?_,?_⟩
  ·rcases List.mem_cons.mp hw with rfl | hw
   ·exact txt_nar _
   ·rw [List.mem_singleton.mp hw]; exact txt_nar _
  ·show 1 + max 0 (max 0 0)<=_
   omega
 | .op d bs ps,g=>by
  have g0:=g
  rw [Rl.Gd] at g
  have hb:=bcnt_le d
  have hbl:=g.1.2.2.1
  have hp:ps.length<=8:=by
   have:=(gd_F1 (r:=.op d bs ps) g0).len
   rw [List.length_map] at this
   exact this
  have ih:=rls_nar ps g.2
  rw [Rl.toW,rlWs_map,Rl.high]
  refine ⟨lst_nar (by rw [List.length_cons,List.length_append,List.length_map,List.length_map]; omega) fun w hw=>?_,?_⟩
  ·rcases List.mem_cons.mp hw with rfl | hw
   ·exact txt_nar _
   ·rcases List.mem_append.mp hw with hw | hw
    ·obtain ⟨z,_,rfl⟩:=List.mem_map.mp hw
     exact txt_nar _
    ·obtain ⟨p,hp,rfl⟩:=List.mem_map.mp hw
     exact (ih p hp).1
  ·have:depths (.txt (woS d) :: (bs.map W.txt ++ ps.map Rl.toW))<=highs ps + 13:=depths_le' fun w hw=>by
    rcases List.mem_cons.mp hw with rfl | hw
    ·exact Nat.zero_le _
    ·rcases List.mem_append.mp hw with hw | hw
     ·obtain ⟨z,_,rfl⟩:=List.mem_map.mp hw
      exact Nat.zero_le _
     ·obtain ⟨p,hp,rfl⟩:=List.mem_map.mp hw
      exact (ih p hp).2
   show 1 + depths _<=_
   omega
theorem rls_nar:∀ ps:List Rl,Gds ps->∀ p∈ps,p.toW.Nar/\p.toW.depth<=highs ps + 13
 | q :: r,g,p,hp=>by
  rw [Gds] at g
  have h1:=rl_nar q g.1
  have h2:=rls_nar r g.2
  rw [highs]
  rcases List.mem_cons.mp hp with rfl | hp
  ·exact ⟨h1.1,by omega⟩
  ·have:=h2 p hp
   exact ⟨this.1,by omega⟩
end
theorem ou_nar {o:Ou} (g:GdO o):o.toW.Nar/\o.toW.depth<=13:=by
 obtain ⟨gw,h2,_⟩:=g.good
 have hd:=gw.2.2
 refine ⟨lst_nar (by rw [List.length_append,List.length_map]; show _ + 1<=_; omega) fun w hw=>?_,?_⟩
 ·rcases List.mem_append.mp hw with hw | hw
  ·obtain ⟨z,_,rfl⟩:=List.mem_map.mp hw
   exact txt_nar _
  ·rw [List.mem_singleton.mp hw]; exact ok_nar _ gw.1
 ·have:depths (o.ws.map W.txt ++ [o.last])<=12:=depths_le' fun w hw=>by
   rcases List.mem_append.mp hw with hw | hw
   ·obtain ⟨z,_,rfl⟩:=List.mem_map.mp hw
    exact Nat.zero_le _
   ·rw [List.mem_singleton.mp hw]; exact hd
  show 1 + depths _<=_
  omega
mutual
theorem re_nar:∀ e:Re,GdE e->e.many<=1000->e.toW.Nar/\e.toW.depth<=2 * e.deep + 13
 | .mk o ps,g,hm=>by
  rw [GdE] at g
  rw [Re.many] at hm
  have h1:=ou_nar g.1
  have h2:=res_nar ps g.2 (by omega)
  have hl:=re_len ps
  rw [Re.toW,Re.deep,reWs_map]
  refine ⟨lst_nar (by show 2<=1000; decide) fun w hw=>?_,?_⟩
  ·rcases List.mem_cons.mp hw with rfl | hw
   ·exact h1.1
   ·rw [List.mem_singleton.mp hw]
    exact lst_nar (by rw [List.length_map]; omega) fun w hw=>by
     obtain ⟨p,hp,rfl⟩:=List.mem_map.mp hw
     exact (h2 p hp).1
  ·have:depths (ps.map Re.toW)<=2 * reDeeps ps + 13:=depths_le' fun w hw=>by
    obtain ⟨p,hp,rfl⟩:=List.mem_map.mp hw
    exact (h2 p hp).2
   show 1 + max o.toW.depth (max (1 + depths (ps.map Re.toW)) 0)<=_
   omega
theorem res_nar:∀ ps:List Re,GdEs ps->reManys ps<=1000->∀ p∈ps,p.toW.Nar/\p.toW.depth<=2 * reDeeps ps + 13
 | q :: r,g,hm,p,hp=>by
  rw [GdEs] at g
  rw [reManys] at hm
  have h1:=re_nar q g.1 (by omega)
  have h2:=res_nar r g.2 (by omega)
  rw [reDeeps]
  rcases List.mem_cons.mp hp with rfl | hp
  ·exact ⟨h1.1,by omega⟩
  ·have:=h2 p hp
   exact ⟨this.1,by omega⟩
end
theorem pa_nar {p:Pa} (g:GdP p):p.toW.Nar/\p.toW.depth < 60:=by
 have h1:=rl_nar p.r g.r
 have h2:=re_nar p.e g.e (by have:=g.em; omega)
 have hh:=g.rh
 have hd:=g.ed
 have hl:=g.ll
 have h3:∀ l∈p.ls,(lkW l).Nar/\(lkW l).depth<=14:=fun l hl=>by
  have ho:=ou_nar (g.l l hl).2
  refine ⟨lst_nar (by show 2<=1000; decide) fun w hw=>?_,?_⟩
  ·rcases List.mem_cons.mp hw with rfl | hw
   ·exact txt_nar _
   ·rw [List.mem_singleton.mp hw]; exact ho.1
  ·show 1 + max 0 (max l.2.toW.depth 0)<=14
   omega
 refine ⟨lst_nar (by show 3<=1000; decide) fun w hw=>?_,?_⟩
 ·rcases List.mem_cons.mp hw with rfl | hw
  ·exact h1.1
  ·rcases List.mem_cons.mp hw with rfl | hw
   ·exact lst_nar (by rw [List.length_map]; omega) fun w hw=>by
     obtain ⟨l,hl,rfl⟩:=List.mem_map.mp hw
     exact (h3 l hl).1
   ·rw [List.mem_singleton.mp hw]; exact h2.1
 ·have:depths (p.ls.map lkW)<=14:=depths_le' fun w hw=>by
   obtain ⟨l,hl,rfl⟩:=List.mem_map.mp hw
   exact (h3 l hl).2
  show 1 + max p.r.toW.depth (max (1 + depths (p.ls.map lkW)) (max p.e.toW.depth 0)) < 60
  omega
theorem word_tok {z:Str} (h:z.cps.toList.isEmpty = false/\(z.cps.toList.all fun c=>!isEnd c) = true):(nmT z).Ok:=by
 rw [nmT,Tr.Ok]
 refine ⟨(fun e=>by rw [e] at h; cases h.1),fun c hc=>?_⟩
 have:=List.all_eq_true.mp h.2 c hc
 simpa using this
theorem trO_ok {o:Ou} (g:GdO o):(trO o).Ok:=by
 show TrOks (o.ws.map nmT ++ [trW numC o.last])
 have hw:∀ z∈o.ws,(nmT z).Ok:=by
  cases g with
  | made _=>intro z hz; rw [List.mem_singleton.mp hz]; exact word_tok (by decide +kernel)
  | bare h=>
   intro z hz
   rcases List.mem_cons.mp hz with rfl | hz
   ·exact word_tok (by decide +kernel)
   ·rw [List.mem_singleton.mp hz]
    exact word_tok ((by decide +kernel:∀ w∈bareL,w.cps.toList.isEmpty = false/\(w.cps.toList.all fun c=>!isEnd c) = true) _ h)
  | naming h _=>
   intro z hz
   rcases List.mem_cons.mp hz with rfl | hz
   ·exact word_tok (by decide +kernel)
   ·rw [List.mem_singleton.mp hz]
    exact word_tok ((by decide +kernel:∀ w∈namingL,w.cps.toList.isEmpty = false/\(w.cps.toList.all fun c=>!isEnd c) = true) _ h)
  | cried _=>
   intro z hz
   rcases List.mem_cons.mp hz with rfl | hz
   ·exact word_tok (by decide +kernel)
   ·rw [List.mem_singleton.mp hz]; exact word_tok (by decide +kernel)
 refine TrOks_mk fun t ht=>?_
 rcases List.mem_append.mp ht with ht | ht
 ·obtain ⟨z,hz,rfl⟩:=List.mem_map.mp ht
  exact hw z hz
 ·rw [List.mem_singleton.mp ht]; exact trW_ok _ g.good.1.1
mutual
theorem trE_ok:∀ e:Re,GdE e->(trE e).Ok
 | .mk o ps,g=>by
  rw [GdE] at g
  rw [trE,Tr.Ok,TrOks]
  exact ⟨trO_ok g.1,trEs_ok ps g.2⟩
theorem trEs_ok:∀ ps:List Re,GdEs ps->TrOks (trEs ps)
 | [],_=>by rw [trEs,TrOks]; trivial
 | p :: r,g=>by
  rw [GdEs] at g
  rw [trEs,TrOks]
  exact ⟨trE_ok p g.1,trEs_ok r g.2⟩
end
theorem trP_ok {p:Pa} (g:GdP p):(trP p).Ok:=by
 show TrOks [nmT "paper",trR p.r,.lst (nmT "looks" :: p.ls.map trL),trE p.e]
 refine TrOks_mk fun t ht=>?_
 rcases List.mem_cons.mp ht with rfl | ht
 ·exact word_tok (by decide +kernel)
 rcases List.mem_cons.mp ht with rfl | ht
 ·exact trR_ok p.r g.r
 rcases List.mem_cons.mp ht with rfl | ht
 ·rw [Tr.Ok]
  refine TrOks_mk fun t ht=>?_
  rcases List.mem_cons.mp ht with rfl | ht
  ·exact word_tok (by decide +kernel)
  ·obtain ⟨l,hl,rfl⟩:=List.mem_map.mp ht
   show TrOks [trW numC (.txt l.1),trO l.2]
   refine TrOks_mk fun t ht=>?_
   rcases List.mem_cons.mp ht with rfl | ht
   ·exact trW_ok _ (g.l l hl).1
   ·rw [List.mem_singleton.mp ht]; exact trO_ok (g.l l hl).2
 ·rw [List.mem_singleton.mp ht]; exact trE_ok p.e g.e
theorem shP_len {p:Pa} (g:GdP p) (h1:p.r.many<=5) (h2:p.e.many<=5) (h3:p.ls.length<=2):(shT (trP p)).length<=1000000:=by
 have w1:=wid_Ls p.ls g.l
 have w2:=shR_len p.r g.r
 have w3:=shE_len p.e g.e
 have w4:=shL_wid (nmT "looks" :: p.ls.map trL)
 have w5:=shL_wid [nmT "paper",trR p.r,.lst (nmT "looks" :: p.ls.map trL),trE p.e]
 have l5:((Str.ofString "looks").cps.toList).length = 5:=by decide +kernel
 have l6:((Str.ofString "paper").cps.toList).length = 5:=by decide +kernel
 rw [wid_cons,nmT,shT,l5] at w4
 rw [wid_cons,wid_cons,wid_cons,wid_cons,nmT,shT,l6] at w5
 have w0:wid ([]:List Tr) = 0:=rfl
 rw [w0] at w5
 show (shT (.lst [nmT "paper",trR p.r,.lst (nmT "looks" :: p.ls.map trL),trE p.e])).length<=_
 have e5:nmT "looks" = Tr.word (Str.ofString "looks").cps.toList:=rfl
 rw [e5] at w5 ⊢
 have e6:nmT "paper" = Tr.word (Str.ofString "paper").cps.toList:=rfl
 rw [e6]
 omega
structure LL (H0 H:Hp) (lt lp:Addr) (xs:List Str) (us:List V) (ps:List Pa) (i:Nat):Prop where
 same:Same H0 H
 et:H lt = some (.lst (xs.map V.str))
 ep:H lp = some (.lst us)
 rp:RWs H us (ps.map Pa.toW)
 xl:xs.length = i
 pl:ps.length = i
 sh:∀ (j:Nat) (x:Str) (p:Pa),xs[j]? = some x->ps[j]? = some p->x.cps.toList = shT (trP p)
 gd:∀ p∈ps,GdP p/\Rule p.r/\(shT (trP p)).length<=1000000
theorem LL.sm {H0 H H':Hp}{lt lp:Addr}{xs:List Str}{us:List V}{ps:List Pa}{i:Nat} (h:LL H0 H lt lp xs us ps i) (s:Same H H'):LL H0 H' lt lp xs us ps i:=
 ⟨h.same.trans s,s _ _ h.et,s _ _ h.ep,h.rp.mono (same_tups' s),h.xl,h.pl,h.sh,h.gd⟩
theorem snoc_at {α:Type}{l:List α}{x y:α}{j:Nat} (h:(l ++ [x])[j]? = some y):(j < l.length/\l[j]? = some y)\/(j = l.length/\y = x):=by
 by_cases hj:j < l.length
 ·rw [List.getElem?_append_left hj] at h
  exact .inl ⟨hj,h⟩
 ·rw [List.getElem?_append_right (by omega)] at h
  have h1:j - l.length < 1:=(List.getElem?_eq_some_iff.mp h).1
  have:j - l.length = 0:=by omega
  rw [this] at h
  cases h
  exact .inr ⟨by omega,rfl⟩
theorem sc_law:FnScope ["_law_script","_law_texts","_law_papers","_law_k","_law_box_here","_law_paper_here","_law_text_here"] ["_law_script"] (defScope sLaw):=⟨rfl,rfl,rfl,by decide +kernel,rfl,by decide +kernel,by decide +kernel⟩
theorem ok_law (F:Fun K "law" "law" sLaw f fd) (G_lalike:Have P w K mg base "_law_alike" k ["_law_found","_law_due"] (spAlk 60)) (G_read_paper:Have P w K mg base "read_paper" k ["text"] (spReadP)) (G_lloose:Have P w K mg base "_law_loose" k ["_law_text_here","_law_box_here"] (spLooseD)) (G_show_outcome:Have P w K mg base "show_outcome" k ["outcome"] (spShowO)) (G_loutcome_shown:Have P w K mg base "_law_outcome_shown" k ["_law_outcome_here"] (spShowO)) (G_lshown:Have P w K mg base "_law_shown" k ["_law_paper_here"] (spShowP)) (G_show_paper:Have P w K mg base "show_paper" k ["paper"] (spShowP)) (G_lpaper:Have P w K mg base "_law_paper" k ["_law_box_here","_law_most"] (spPaperD)) (G_lbox:Have P w K mg base "_law_box" k ["_law_script","_law_k"] (spBox K)) (m_isi:mg "isinstance" = none) (m_len:mg "len" = none) (m_range:mg "range" = none) (m_str:mg "str" = none):FnOk P w K mg base CX0 (k + 1) f fd ["_law_script"] (spLaw K):=by
 refine F.okQ sc_law (fun vs H Q E h=>?_) (fun cdv A outer s H vs Q E hr h=>?_)
 ·obtain ⟨a,ns,rfl,_⟩:=h
  rfl
 obtain ⟨sc,sn,rfl,hsc,hsn,q⟩:=h
 refine ⟨_,(pss_cons (ps_set (i:=1) sc_law.nd rfl (Or.inl rfl) (pe_lst pa_nil))
  (pss_cons (ps_set (i:=2) sc_law.nd rfl (Or.inl rfl) (pe_lst pa_nil))
  (pss_cons (ps_for PassesOwn.never rfl (pi_range2 rfl m_range (pa_cons pe_int (pa_cons (pe_op op_add pe_int (pe_callB call_len rfl m_len PySem.boot_len (pa_cons (pe_slice sl_list (pv 0) (po_some pe_int) (po_some pe_int)) pa_nil))) pa_nil))) (pg_name (i:=3) sc_law.nd rfl (Or.inl rfl)) (pss_cons (ps_set (i:=4) sc_law.nd rfl (Or.inl rfl) (pe_fn G_lbox hr rfl (pa_cons (pv 0) (pa_cons (pv 3) pa_nil))))
  (pss_cons (ps_set (i:=5) sc_law.nd rfl (Or.inl rfl) (pe_fn G_lpaper hr rfl (pa_cons (pv 4) (pa_cons pe_int pa_nil))))
  (pss_cons (ps_set (i:=6) sc_law.nd rfl (Or.inl rfl) (pe_fn G_show_paper hr rfl (pa_cons (pv 5) pa_nil)))
  (pss_cons (ps_if (PW.pt (pw_or (pt_not (pt_val (pe_callB call_isi rfl m_isi boot_isi (pa_cons (pv 6) (pa_cons (pe_ty rfl m_str boot_strT) pa_nil))))) (pw_or1 (pt_cmpR op_ne (pv 6) (pe_fn G_lshown hr rfl (pa_cons (pv 5) pa_nil)) (nomark _))))) (pss_one (ps_ret pe_bl)) pss_nil)
  (pss_cons (ps_if (pt_cmpR op_ne (pe_fn G_show_outcome hr rfl (pa_cons (pe_ix ix_tup (pe_ix ix_tup (pv 5) pe_int (fun _ _=>rfl)) pe_int (fun _ _=>rfl)) pa_nil)) (pe_fn G_loutcome_shown hr rfl (pa_cons (pe_ix ix_tup (pe_ix ix_tup (pv 5) pe_int (fun _ _=>rfl)) pe_int (fun _ _=>rfl)) pa_nil)) (nomark _)) (pss_one (ps_ret pe_bl)) pss_nil)
  (pss_cons (ps_if (pt_not (pt_val (pe_fn G_lalike hr rfl (pa_cons (pe_fn G_read_paper hr rfl (pa_cons (pe_fn G_lloose hr rfl (pa_cons (pv 6) (pa_cons (pv 4) pa_nil))) pa_nil)) (pa_cons (pv 5) pa_nil))))) (pss_one (ps_ret pe_bl)) pss_nil)
  (pss_cons (ps_expr (pe_bm PySem.F.plainAttrs_list PySem.F.slot_list_append PySem.F.type_list_append mt_append (pv 1) (pa_cons (pv 6) pa_nil)))
  (pss_one (ps_expr (pe_bm PySem.F.plainAttrs_list PySem.F.slot_list_append PySem.F.type_list_append mt_append (pv 2) (pa_cons (pv 5) pa_nil))))))))))))
  (pss_cons (ps_for PassesOwn.never rfl (pi_range1 rfl m_range (pa_cons (pe_callB call_len rfl m_len PySem.boot_len (pa_cons (pv 2) pa_nil)) pa_nil)) (pg_name (i:=3) sc_law.nd rfl (Or.inl rfl)) (pss_one (ps_if (pt_not (pt_val (pe_fn G_lalike hr rfl (pa_cons (pe_fn G_read_paper hr rfl (pa_cons (pe_ix ix_list (pv 1) (pv 3) (fun _ _=>rfl)) pa_nil)) (pa_cons (pe_ix ix_list (pv 2) (pv 3) (fun _ _=>rfl)) pa_nil))))) (pss_one (ps_ret pe_bl)) pss_nil)))
  (pss_one (ps_ret pe_bl)))))),?_⟩
 refine ⟨zl0,fun lt hlt=>?_⟩
 have s1:=Same.new (o:=.lst []) hlt
 have e1:upd H lt (.lst []) lt = some (.lst []):=upd_same
 generalize upd H lt (.lst []) = H1 at s1 e1
 dsimp only [gName]
 refine ⟨zl0,fun lp hlp=>?_⟩
 have ntp:lt≠lp:=ne_of_none e1 hlp
 have s2:=Same.new (o:=.lst []) hlp
 have e2:upd H1 lp (.lst []) lp = some (.lst []):=upd_same
 have e12:=s2 _ _ e1
 have hlp0:H lp = none:=by
  cases e:H lp with
  | none=>rfl
  | some o=>rw [s1 _ _ e] at hlp; cases hlp
 generalize upd H1 lp (.lst []) = H2 at s2 e2 e12
 have s02:=s1.trans s2
 dsimp only [gName]
 refine seqI (fun σ' H'=>∃ (o3 o4 o5 o6:Option V) (xs:List Str) (us:List V) (ps:List Pa) (i:Nat),σ' = [some (.ref sc),some (.ref lt),some (.ref lp),o3,o4,o5,o6]/\LL H H' lt lp xs us ps i/\i<=63) (fun σ' H4 h=>?_) (fun tl=>?_)
 rotate_left
 ·refine ⟨_,rfl,1,rfl,9,rfl,sc,_,rfl,s02.seq hsc,fun cl hcl=>?_⟩
  have s3:=Same.new (o:=.lst (cutV (sn.map V.int) (some 1) (some 9))) hcl
  have e3:upd H2 cl (.lst (cutV (sn.map V.int) (some 1) (some 9))) cl = some (.lst (cutV (sn.map V.int) (some 1) (some 9))):=upd_same
  have hcut:=cutV_length (sn.map V.int) (some 1) (some 9)
  rw [List.length_map] at hcut
  generalize cutV (sn.map V.int) (some 1) (some 9) = cv at s3 e3 hcut
  generalize upd H2 cl (.lst cv) = H3 at s3 e3
  have s03:=s02.trans s3
  refine ⟨_,_,rfl,.inl ⟨_,SqL.of e3,rfl⟩,_,_,rfl,rfl,?_⟩
  have ll0:LL H H3 lt lp [] [] [] 0:=⟨s03,s3 _ _ e12,s3 _ _ e2,⟨rfl,fun i v w h=>by rw [List.getElem?_nil] at h; cases h⟩,rfl,rfl,(fun j x p h=>by rw [List.getElem?_nil] at h; cases h),(fun p hp=>nomatch hp)⟩
  refine ⟨1,1 + (cv.length:Int),rfl,⟨by decide,by decide,by omega,by omega⟩,for_range (lo:=1) (n:=(1 + (cv.length:Int) - 1).toNat) (fun i σ' H'=>∃ (o3 o4 o5 o6:Option V) (xs:List Str) (us:List V) (ps:List Pa),σ' = [some (.ref sc),some (.ref lt),some (.ref lp),o3,o4,o5,o6]/\LL H H' lt lp xs us ps i)
   ⟨none,none,none,none,[],[],[],rfl,ll0⟩ (fun i σ' H' hi h=>?_) (fun σ' H' h=>?_)⟩
  ·obtain ⟨o3,o4,o5,o6,xs,us,ps,rfl,ll⟩:=h
   have hi63:i < 63:=by omega
   refine ⟨_,rfl,_,rfl,sc,sn,_,rfl,ll.same.seq hsc,by omega,fun y1 y2 y3 b hb=>?_⟩
   have hbox:IsBox (upd H' b (.lst [.int y1,.int y2,.int y3])) b:=⟨_,_,_,upd_same⟩
   have sb:Same H' (upd H' b (.lst [.int y1,.int y2,.int y3])):=Same.new hb
   generalize upd H' b (.lst [.int y1,.int y2,.int y3]) = H5 at hbox sb
   dsimp only [gName]
   refine ⟨_,rfl,b,rfl,hbox,fun t p H6 rp gp hr' m1 m2 m3 m4 st6=>?_⟩
   have s6:Same H' H6:=fun c o e=>st6.keep c o (ne_of_none e hb) (sb c o e)
   have bx6:=st6.box
   dsimp only [gName]
   refine ⟨_,rfl,.ref t,p,rfl,rp,gp,fun x H7 hx s7=>?_⟩
   have hpl:=shP_len gp m1 m2 m3
   have hxl:x.length<=1000000:=by rw [← str_len,hx]; exact hpl
   dsimp only [gName]
   refine ⟨_,rfl,_,_,_,true,rfl,.str x,isi_ss,_,rfl,iteF ?_⟩
   refine ⟨_,rfl,_,rfl,.ref t,p,rfl,rp.mono (same_tups' s7),gp,fun y H8 hy s8=>⟨rfl,_,rfl,?_⟩⟩
   rw [dyS (str_eq (hx.trans hy.symm))]
   refine iteF ?_
   have s78:=s7.trans s8
   have rp8:=rp.mono (same_tups' s78)
   obtain ⟨r,ls,e⟩:=p
   obtain ⟨o,qs⟩:=e
   have ge:GdO o:=by
    have:=gp.e
    rw [GdE] at this
    exact this.1
   have rp8':=rp8
   obtain ⟨a,v0,v1,v2,ea0,ea,r0,r1,r2⟩:=opn3 rp8'
   cases ea0
   have r2':RW H8 v2 (.lst [o.toW,.lst (reWs qs)]):=by
    have:(Re.mk o qs).toW = .lst [o.toW,.lst (reWs qs)]:=by rw [Re.toW]
    rw [← this]
    exact r2
   obtain ⟨a2,w0,w1,rfl,ea2,q0,q1⟩:=opn2 r2'
   refine ⟨_,rfl,t,_,2,_,rfl,rfl,SqT.of ea,rfl,a2,_,0,_,rfl,rfl,SqT.of ea2,rfl,w0,o,rfl,q0,ge,fun z1 H9 hz1 s9=>?_⟩
   refine ⟨_,rfl,t,_,2,_,rfl,rfl,SqT.of (s9 _ _ ea),rfl,a2,_,0,_,rfl,rfl,SqT.of (s9 _ _ ea2),rfl,w0,o,rfl,q0.mono (same_tups' s9),ge,fun z2 H10 hz2 s10=>⟨rfl,_,rfl,?_⟩⟩
   rw [dyS (str_eq (hz1.trans hz2.symm))]
   refine iteF ?_
   have s710:=(s78.trans s9).trans s10
   have bx10:IsBox H10 b:=by
    obtain ⟨i1,i2,i3,e⟩:=bx6
    exact ⟨i1,i2,i3,s710 _ _ e⟩
   have sp0:Spell x.cps.toList (pcT (trP ⟨r,ls,.mk o qs⟩)):=by rw [hx]; exact spell_tree (trP_ok gp)
   refine ⟨_,rfl,_,rfl,b,x,_,rfl,bx10,sp0,by omega,fun y2 H11 sp2 hy2 st11=>?_⟩
   have hy2':y2.length<=10000000:=by omega
   refine ⟨y2,_,rfl,sp2,hy2',gp,hr',fun u H12 s12 ru=>?_⟩
   have tA:Tups H6 H12:=fun a vs e=>s12 _ _ ((st11.tups bx10) _ _ (s710 _ _ e))
   obtain ⟨nar,dep⟩:=pa_nar gp
   refine ⟨_,rfl,u,.ref t,_,dep,rfl,ru,rp.mono tA,nar,fun H13 s13=>⟨_,rfl,iteF ?_⟩⟩
   have s613:Same H' H13:=fun c o e=>s13 _ _ (s12 _ _ (st11.keep c o (ne_of_none e hb) (s710 _ _ (s6 _ _ e))))
   have ll13:=ll.sm s613
   have rp13:=(rp.mono tA).mono (same_tups' s13)
   have hxn:xs.length<=63:=by rw [ll.xl]; omega
   refine ⟨_,rfl,.inl ⟨rfl,_,SqL.of ll13.et⟩,_,rfl,lt,_,.str x,rfl,rfl,ll13.et,Nat.lt_of_le_of_lt (show (xs.map V.str).length<=63 by rw [List.length_map]; exact hxn) (by decide),?_⟩
   have t14:=tups_put (o:=.lst (xs.map V.str ++ [.str x])) ll13.et
   have ep14:upd H13 lt (.lst (xs.map V.str ++ [.str x])) lp = some (.lst us):=by rw [upd_ne ntp.symm]; exact ll13.ep
   have k14:∀ c o,c≠lt->H13 c = some o->upd H13 lt (.lst (xs.map V.str ++ [.str x])) c = some o:=fun c o hc e=>by rw [upd_ne hc]; exact e
   have et14:upd H13 lt (.lst (xs.map V.str ++ [.str x])) lt = some (.lst ((xs ++ [x]).map V.str)):=by rw [upd_same,List.map_append]; rfl
   generalize upd H13 lt (.lst (xs.map V.str ++ [.str x])) = H14 at t14 ep14 k14 et14
   have hul:us.length<=63:=by rw [ll.rp.len,List.length_map,ll.pl]; omega
   refine ⟨_,rfl,.inl ⟨rfl,_,SqL.of ep14⟩,_,rfl,lp,_,.ref t,rfl,rfl,ep14,Nat.lt_of_le_of_lt hul (by decide),?_⟩
   have t15:=tups_put (o:=.lst (us ++ [.ref t])) ep14
   refine ⟨_,_,_,_,xs ++ [x],us ++ [.ref t],ps ++ [⟨r,ls,.mk o qs⟩],rfl,fun c o e=>?_,by rw [upd_ne ntp]; exact et14,upd_same,?_,by rw [List.length_append,ll.xl]; rfl,by rw [List.length_append,ll.pl]; rfl,fun j x1 p1 h1 h2=>?_,fun p1 hp1=>?_⟩
   ·rw [upd_ne (ne_of_none e hlp0)]
    exact k14 c o (ne_of_none e hlt) (s613 _ _ (ll.same _ _ e))
   ·rw [List.map_append]
    exact ((ll13.rp.mono t14).mono t15).snoc ((rp13.mono t14).mono t15)
   ·rcases snoc_at h1 with ⟨hj,h1'⟩ | ⟨hj,rfl⟩
    ·rcases snoc_at h2 with ⟨_,h2'⟩ | ⟨hj2,_⟩
     ·exact ll.sh j x1 p1 h1' h2'
     ·have:=ll.xl; have:=ll.pl; omega
    ·rcases snoc_at h2 with ⟨hj2,_⟩ | ⟨_,rfl⟩
     ·have:=ll.xl; have:=ll.pl; omega
     ·exact hx
   ·rcases List.mem_append.mp hp1 with hp1 | hp1
    ·exact ll.gd p1 hp1
    ·rw [List.mem_singleton.mp hp1]
     exact ⟨gp,hr',hpl⟩
  ·obtain ⟨o3,o4,o5,o6,xs,us,ps,rfl,ll⟩:=h
   exact tl _ _ ⟨o3,o4,o5,o6,xs,us,ps,_,rfl,ll,by omega⟩
 obtain ⟨o3,o4,o5,o6,xs,us,ps,m,rfl,ll,hm⟩:=h
 have hul:us.length = m:=by rw [ll.rp.len,List.length_map,ll.pl]
 refine ⟨_,rfl,.ref lp,us.length,rfl,.inl ⟨_,SqL.of ll.ep,rfl⟩,(us.length:Int),rfl,by omega,by omega,for_range (lo:=0) (n:=((us.length:Nat):Int).toNat) (fun i σ' H'=>∃ (o3:Option V),σ' = [some (.ref sc),some (.ref lt),some (.ref lp),o3,o4,o5,o6]/\LL H H' lt lp xs us ps m)
  ⟨o3,rfl,ll⟩ (fun i σ' H' hi h=>?_) (fun σ' H' h=>q _)⟩
 obtain ⟨o3,rfl,ll'⟩:=h
 have him:i < m:=by omega
 have hxi:i < xs.length:=by rw [ll.xl]; exact him
 have hpi:i < ps.length:=by rw [ll.pl]; exact him
 have hui:i < us.length:=by omega
 obtain ⟨x,hx⟩:∃ x,xs[i]? = some x:=⟨_,List.getElem?_eq_getElem hxi⟩
 obtain ⟨p,hp⟩:∃ p,ps[i]? = some p:=⟨_,List.getElem?_eq_getElem hpi⟩
 obtain ⟨uv,hu⟩:∃ u,us[i]? = some u:=⟨_,List.getElem?_eq_getElem hui⟩
 have sh:=ll.sh i _ _ hx hp
 obtain ⟨gp,hr',hpl⟩:=ll.gd _ (List.mem_of_getElem? hp)
 have ru:=ll'.rp.at' i _ _ hu (by rw [List.getElem?_map,hp]; rfl)
 have ix1:atI (xs.map V.str) (0 + (i:Int)) = some (.str x):=by
  have:=atI_nat (xs:=xs.map V.str) (j:=i) (v:=.str x) (by rw [List.getElem?_map,hx]; rfl)
  rw [show ((i:Nat):Int) = 0 + (i:Int) by omega] at this
  exact this
 have ix2:atI us (0 + (i:Int)) = some uv:=by
  have:=atI_nat hu
  rw [show ((i:Nat):Int) = 0 + (i:Int) by omega] at this
  exact this
 have hxl:x.length<=1000000:=by rw [← str_len,sh]; exact hpl
 obtain ⟨nar,dep⟩:=pa_nar gp
 refine ⟨_,rfl,_,rfl,lt,_,_,.str x,rfl,rfl,SqL.of ll'.et,ix1,x,p,rfl,by rw [sh]; exact spell_tree (trP_ok gp),by omega,gp,hr',fun u H5 s5 ru5=>?_⟩
 refine ⟨_,rfl,_,rfl,lp,_,_,uv,rfl,rfl,SqL.of (s5 _ _ ll'.ep),ix2,u,uv,_,dep,rfl,ru5,ru.mono (same_tups' s5),nar,fun H6 s6=>⟨_,rfl,iteF ?_⟩⟩
 exact ⟨_,rfl,ll'.sm (s5.trans s6)⟩
end
end D
namespace PySem.W.Fast
def tw11891939914224433673:=0
def tw10085829050636693813:=0
def tw9129644880934106960:=0
def tw17463570009153432092:=0
def tw14708607821503173760:=0
def tw7299325774078391363:=0
def tw2747851844507616672:=0
def tw10288877439999260165:=0
def tw17258518642160878216:=0
def tw16815985693599831061:=0
def tw17719085958025707918:=0
def tw2491165395947813843:=0
def tw14481680221634559111:=0
def tw8975583801470838281:=0
def tw10681878073066958873:=0
def tw5690018083195686898:=0
def tw3831615305195645829:=0
def tw3151092104789277269:=0
def tw254534982424178198:=0
def tw5104672500634342644:=0
def tw10303020232225858197:=0
def tw12502094870479206885:=0
def tw16073056644578903826:=0
def tw870927192878956710:=0
def tw9543675138363085711:=0
def tw9897438009838734154:=0
def tw2513957996177985541:=0
def tw1046493372642564006:=0
def tw14177488447372002151:=0
def tw15347691161979148813:=0
def tw3263215239142547721:=0
def tw1892967021889647126:=0
def tw14654385634878772901:=0
def tw15775156322712803106:=0
def tw14502758924291850698:=0
def tw5132146142034401743:=0
def tw3707601963084864183:=0
def tw17270008462066087013:=0
def tw5889334076968455724:=0
def tw13942415612437448965:=0
def tw7960604665920924192:=0
def tw1140539843433659125:=0
def tw2783645189193339984:=0
def tw12811935559126203936:=0
def tw2726710108355596718:=0
def tw7524263164477562382:=0
def tw10467960273088001166:=0
def tw14860422410544679478:=0
def tw13148903715726151063:=0
def tw9882167780611074881:=0
def tw7263868181854001882:=0
def tw3560939103912608311:=0
def tw1493264711811784055:=0
def tw1397744843169350441:=0
def tw2280499425220019775:=0
def tw10990981554663642714:=0
def tw11519786714099095782:=0
def tw10000034814562248787:=0
def tw7532159378964375576:=0
def tw8797355197591086315:=0
def tw529099099561828821:=0
def tw8596172708704438873:=0
def tw15515696184536062076:=0
def tw11501819162986016232:=0
def tw33262892434801918:=0
def tw2420292755834338460:=0
def tw17258364673287040937:=0
def tw6090999196997448528:=0
def tw12449945531828108846:=0
def tw15177349737906071457:=0
def tw18393843580362592308:=0
def tw3964763170614079159:=0
def tw3074765082518524512:=0
def tw4244900982956064852:=0
def tw10456398979891594346:=0
def tw672562021501335545:=0
def tw6807706031615790545:=0
def tw9667597771132725559:=0
def tw5471376323223461632:=0
def tw1303463875029199019:=0
def tw10477167378748036812:=0
def tw6714522026656184728:=0
def tw4768135041287903115:=0
def tw8630326746412388269:=0
def tw2647028994969929064:=0
def tw3682438314229813515:=0
def tw16490565873265020559:=0
def tw9141083889748615860:=0
def tw2232712176855743475:=0
def tw9907531809522644893:=0
def tw9562294997687938264:=0
def tw174433777050808743:=0
def tw1065605539722715772:=0
def tw6997820321730317489:=0
def tw4575725188111953725:=0
def tw11156518421251043488:=0
def tw6756542656061987121:=0
def tw9532121058816367315:=0
def tw18278614580739224293:=0
def tw11887240416132110401:=0
def tw1421837905470632140:=0
def tw11404325051189832302:=0
def tw6709995542195278304:=0
def tw3660637624603432847:=0
def tw7021441121545609895:=0
def tw12925746173081419433:=0
def tw1328569236946288276:=0
def tw9126067671823307059:=0
def tw10133616140012803937:=0
def tw605007664546663381:=0
def tw18072135737279784222:=0
def tw523343553805964130:=0
def tw13141532079669362103:=0
def tw7147342302882486647:=0
def tw7513936544048693319:=0
def tw426923358128899152:=0
def tw364457947488260007:=0
def tw2193391171287171052:=0
def tw12068169283909483116:=0
def tw11965767285151739444:=0
def tw15210579902397563956:=0
def tw4322458698740309879:=0
def tw9633155371103414346:=0
def tw18044698147979855718:=0
def tw14654957569866883343:=0
def tw8340595381071833246:=0
def tw9183922220087147945:=0
def tw17819767792011246473:=0
def tw903905540444510482:=0
def tw18866494340326120:=0
def tw3665248665384159527:=0
def tw8571309704638658217:=0
def tw3714408999616277806:=0
def tw15421412708764049647:=0
def tw4868193028799672257:=0
def tw7376610126620560099:=0
def tw13064857386850212077:=0
def tw6189933887855922240:=0
def tw11702373243531049669:=0
def tw9077729118555402435:=0
def tw7342065362055380194:=0
def tw1797849731554246258:=0
def tw3681098934795112390:=0
def tw1482932542329008514:=0
def tw13742782250770833382:=0
def tw5822722557996199538:=0
def tw8758623231639397524:=0
def tw10128993991471840708:=0
def tw16810925508314801227:=0
def tw10441334635096331608:=0
def tw4781003189471511463:=0
def tw14780920714211074116:=0
def tw15324018842079819961:=0
def tw16710554921136301182:=0
def tw7099058390913566968:=0
def tw12715000484956609008:=0
def tw15887968588527083323:=0
def tw4999986721531878123:=0
def tw6603412722151937565:=0
def tw17003028964311504226:=0
def tw5190346261248811907:=0
def tw16018127662980104185:=0
def tw10196525984459106328:=0
def tw17339822797863163716:=0
def tw9441473617159887369:=0
def tw3231566809641734968:=0
def tw12335643411566916432:=0
def tw9189682011358264213:=0
def tw16357483956820514366:=0
def tw16810059833821931904:=0
def tw1865890180014029841:=0
def tw13753881241617782373:=0
def tw4812259950058281400:=0
def tw17385756659962139357:=0
def tw6820767033364955896:=0
def tw18350621766113821165:=0
def tw16773141192754831726:=0
def tw16895152473425181921:=0
def tw14096529903405192844:=0
def tw14900551439010971392:=0
def tw7585145944901214589:=0
def tw5009509924961749442:=0
def tw411393992738587064:=0
def tw10675645081808447072:=0
def tw4152649259798130088:=0
def tw5582288434371079607:=0
def tw5190040633206502853:=0
def tw10011450201451062192:=0
def tw6830899218236592765:=0
def tw13028867089396967048:=0
def tw3245936227322770357:=0
def tw5457275845965572418:=0
def tw9157053841573858548:=0
def tw14948236282124573144:=0
def tw4746711203237939888:=0
def tw17689908562492759452:=0
def tw15793592704809445849:=0
def tw15489570552682195044:=0
def tw4635634391713192721:=0
def tw2116005320588830784:=0
def tw5115981501585689078:=0
def tw5237224972196040235:=0
def tw9810644895546476782:=0
def tw11631618502314127167:=0
def tw836782390736078151:=0
def tw16182279952692015573:=0
def tw5374420508238673168:=0
def tw3653289725980340204:=0
def tw11945360687755623393:=0
def tw2679610124958469806:=0
def tw1268547706761713826:=0
def tw10442908404916846259:=0
def tw11491693879298243982:=0
def tw17441301751511028730:=0
def tw15648146480280785455:=0
def tw2473462205312529377:=0
def tw13120491735246832645:=0
def tw6145517929509110430:=0
def tw11362627511287981014:=0
def tw18066634373444175361:=0
def tw7294680807009653312:=0
def tw18245300474303138180:=0
def tw2291640011978315857:=0
def tw12289312890200798817:=0
def tw16172535460648376983:=0
def tw3354488544552048729:=0
def tw2139056155756727434:=0
def tw2134861822600397230:=0
def tw18212731735740391708:=0
def tw10106394704207348602:=0
def tw16503237431617384985:=0
def tw17260148972303439935:=0
def tw13184244260876560284:=0
def tw13175032615408048049:=0
def tw17452480900436969280:=0
def tw4969203540796606737:=0
def tw14398364432055861147:=0
def tw5522774878751023051:=0
def tw6491946035469480028:=0
def tw7611463988213424653:=0
def tw12445648273196647996:=0
def tw12554606752544921338:=0
def tw15320461211905674715:=0
def tw14625628595947364705:=0
def tw13718309491325356663:=0
def tw2508246639235512634:=0
def tw1779628490874451289:=0
def tw8632460994566618462:=0
def tw17157585744881425263:=0
def tw6585655520732231569:=0
end PySem.W.Fast
namespace D
open PySem L2
theorem none_ok {P:Program}{w:World}{K:PySem.W.Frag}{mg:Str->Option Value}{base:Heap}{f:Addr}{fd:FuncData}{ps:List Str}{sp:Sp}{CX:CXT} (no:∀ vs H Q E,¬ sp vs H Q E) (k:Nat):FnOk P w K mg base CX k f fd ps sp:=
 ⟨fun vs H Q E h=>absurd h (no vs H Q E),fun A outer s H args us vs Q E _ _ _ _ h=>absurd h (no vs H Q E)⟩
def lvP (L:Nat):Nat->Nat
 | 0=>L
 | n + 1=>lvP L n + 2
theorem lvP_le (L:Nat):∀ n:Nat,L<=lvP L n
 | 0=>Nat.le_refl _
 | n + 1=>Nat.le_trans (lvP_le L n) (Nat.le_add_right _ 2)
theorem us_1 {us:List Value} (h:us.length = 1):∃ x0,us = [x0]:=by
 match us,h with
 | [x0],_=>exact ⟨x0,rfl⟩
theorem us_2 {us:List Value} (h:us.length = 2):∃ x0 x1,us = [x0,x1]:=by
 match us,h with
 | [x0,x1],_=>exact ⟨x0,x1,rfl⟩
theorem us_3 {us:List Value} (h:us.length = 3):∃ x0 x1 x2,us = [x0,x1,x2]:=by
 match us,h with
 | [x0,x1,x2],_=>exact ⟨x0,x1,x2,rfl⟩
theorem us_5 {us:List Value} (h:us.length = 5):∃ x0 x1 x2 x3 x4,us = [x0,x1,x2,x3,x4]:=by
 match us,h with
 | [x0,x1,x2,x3,x4],_=>exact ⟨x0,x1,x2,x3,x4,rfl⟩
theorem us_6 {us:List Value} (h:us.length = 6):∃ x0 x1 x2 x3 x4 x5,us = [x0,x1,x2,x3,x4,x5]:=by
 match us,h with
 | [x0,x1,x2,x3,x4,x5],_=>exact ⟨x0,x1,x2,x3,x4,x5,rfl⟩
abbrev nI (K:PySem.W.Frag) (s:Str) (f:Addr):Prop:=nsIn K mainGlobals s = some (some (.ref f))
abbrev lI (K:PySem.W.Frag) (f:Addr) (s:Str) (t:Stmt) (oc:Value) (od:Option Addr) (kV dc pm:Value) (an:Option Addr) (cd ct:Value) (sl:Array (Option Value)):Prop:=K.lookup f = some ⟨oc,od,.func (fnOf s s (defArgs t) (defBody t) (defScope t) .none kV dc pm an cd ct),sl⟩
abbrev cI (K:PySem.W.Frag) (c:Value) (s:Str):Prop:=codeIn K c s = true
abbrev kI (K:PySem.W.Frag) (f:Addr):Prop:=keepIn K (.ref f) = true
theorem all_mk {l:PySem.W.OpenLaw}{w:World}{K:PySem.W.Frag}{h:Heap}{mg:Str->Option Value}{fa f0 f1 f2 f3 f4 f5 f6 f7 f8 f9 f10 f11 f12 f13 f14 f15 f16 f17 f18 f19 f20 f21 f22 f23 f24 f25 f26 f27 f28 f29 f30 f31 f32 f33 f34 f35 f36 f37 f38 f39 f40 f41 f42 f43 f44 f45 f46 f47 f48 f49 f50 f51 f52 f53 f54 f55 f56 f57 f58 f59 f60 f61 f62 f63 f64 f65 f66 f67:Addr} (X:K.In h) (G:h.Ns mainGlobals mg) (hfa:mg "law" = some (.ref fa))
  {od0 an0 od1 an1 od2 an2 od3 an3 od4 an4 od5 an5 od6 an6 od7 an7 od8 an8 od9 an9 od10 an10 od11 an11 od12 an12 od13 an13 od14 an14 od15 an15 od16 an16 od17 an17 od18 an18 od19 an19 od20 an20 od21 an21 od22 an22 od23 an23 od24 an24 od25 an25 od26 an26 od27 an27 od28 an28 od29 an29 od30 an30 od31 an31 od32 an32 od33 an33 od34 an34 od35 an35 od36 an36 od37 an37 od38 an38 od39 an39 od40 an40 od41 an41 od42 an42 od43 an43 od44 an44 od45 an45 od46 an46 od47 an47 od48 an48 od49 an49 od50 an50 od51 an51 od52 an52 od53 an53 od54 an54 od55 an55 od56 an56 od57 an57 od58 an58 od59 an59 od60 an60 od61 an61 od62 an62 od63 an63 od64 an64 od65 an65 od66 an66 od67 an67:Option Addr}{sl0 sl1 sl2 sl3 sl4 sl5 sl6 sl7 sl8 sl9 sl10 sl11 sl12 sl13 sl14 sl15 sl16 sl17 sl18 sl19 sl20 sl21 sl22 sl23 sl24 sl25 sl26 sl27 sl28 sl29 sl30 sl31 sl32 sl33 sl34 sl35 sl36 sl37 sl38 sl39 sl40 sl41 sl42 sl43 sl44 sl45 sl46 sl47 sl48 sl49 sl50 sl51 sl52 sl53 sl54 sl55 sl56 sl57 sl58 sl59 sl60 sl61 sl62 sl63 sl64 sl65 sl66 sl67:Array (Option Value)}{oc0 kV0 dc0 pm0 cd0 ct0 oc1 kV1 dc1 pm1 cd1 ct1 oc2 kV2 dc2 pm2 cd2 ct2 oc3 kV3 dc3 pm3 cd3 ct3 oc4 kV4 dc4 pm4 cd4 ct4 oc5 kV5 dc5 pm5 cd5 ct5 oc6 kV6 dc6 pm6 cd6 ct6 oc7 kV7 dc7 pm7 cd7 ct7 oc8 kV8 dc8 pm8 cd8 ct8 oc9 kV9 dc9 pm9 cd9 ct9 oc10 kV10 dc10 pm10 cd10 ct10 oc11 kV11 dc11 pm11 cd11 ct11 oc12 kV12 dc12 pm12 cd12 ct12 oc13 kV13 dc13 pm13 cd13 ct13 oc14 kV14 dc14 pm14 cd14 ct14 oc15 kV15 dc15 pm15 cd15 ct15 oc16 kV16 dc16 pm16 cd16 ct16 oc17 kV17 dc17 pm17 cd17 ct17 oc18 kV18 dc18 pm18 cd18 ct18 oc19 kV19 dc19 pm19 cd19 ct19 oc20 kV20 dc20 pm20 cd20 ct20 oc21 kV21 dc21 pm21 cd21 ct21 oc22 kV22 dc22 pm22 cd22 ct22 oc23 kV23 dc23 pm23 cd23 ct23 oc24 kV24 dc24 pm24 cd24 ct24 oc25 kV25 dc25 pm25 cd25 ct25 oc26 kV26 dc26 pm26 cd26 ct26 oc27 kV27 dc27 pm27 cd27 ct27 oc28 kV28 dc28 pm28 cd28 ct28 oc29 kV29 dc29 pm29 cd29 ct29 oc30 kV30 dc30 pm30 cd30 ct30 oc31 kV31 dc31 pm31 cd31 ct31 oc32 kV32 dc32 pm32 cd32 ct32 oc33 kV33 dc33 pm33 cd33 ct33 oc34 kV34 dc34 pm34 cd34 ct34 oc35 kV35 dc35 pm35 cd35 ct35 oc36 kV36 dc36 pm36 cd36 ct36 oc37 kV37 dc37 pm37 cd37 ct37 oc38 kV38 dc38 pm38 cd38 ct38 oc39 kV39 dc39 pm39 cd39 ct39 oc40 kV40 dc40 pm40 cd40 ct40 oc41 kV41 dc41 pm41 cd41 ct41 oc42 kV42 dc42 pm42 cd42 ct42 oc43 kV43 dc43 pm43 cd43 ct43 oc44 kV44 dc44 pm44 cd44 ct44 oc45 kV45 dc45 pm45 cd45 ct45 oc46 kV46 dc46 pm46 cd46 ct46 oc47 kV47 dc47 pm47 cd47 ct47 oc48 kV48 dc48 pm48 cd48 ct48 oc49 kV49 dc49 pm49 cd49 ct49 oc50 kV50 dc50 pm50 cd50 ct50 oc51 kV51 dc51 pm51 cd51 ct51 oc52 kV52 dc52 pm52 cd52 ct52 oc53 kV53 dc53 pm53 cd53 ct53 oc54 kV54 dc54 pm54 cd54 ct54 oc55 kV55 dc55 pm55 cd55 ct55 oc56 kV56 dc56 pm56 cd56 ct56 oc57 kV57 dc57 pm57 cd57 ct57 oc58 kV58 dc58 pm58 cd58 ct58 oc59 kV59 dc59 pm59 cd59 ct59 oc60 kV60 dc60 pm60 cd60 ct60 oc61 kV61 dc61 pm61 cd61 ct61 oc62 kV62 dc62 pm62 cd62 ct62 oc63 kV63 dc63 pm63 cd63 ct63 oc64 kV64 dc64 pm64 cd64 ct64 oc65 kV65 dc65 pm65 cd65 ct65 oc66 kV66 dc66 pm66 cd66 ct66 oc67 kV67 dc67 pm67 cd67 ct67:Value}
  (a0:nI K "is_number" f0) (l0:lI K f0 "is_number" s_is_number oc0 od0 kV0 dc0 pm0 an0 cd0 ct0 sl0) (c0:cI K cd0 "is_number") (k0:kI K f0)
  (a1:nI K "is_sign" f1) (l1:lI K f1 "is_sign" s_is_sign oc1 od1 kV1 dc1 pm1 an1 cd1 ct1 sl1) (c1:cI K cd1 "is_sign") (k1:kI K f1)
  (a2:nI K "fits_alone" f2) (l2:lI K f2 "fits_alone" s_fits_alone oc2 od2 kV2 dc2 pm2 an2 cd2 ct2 sl2) (c2:cI K cd2 "fits_alone") (k2:kI K f2)
  (a3:nI K "size_alone" f3) (l3:lI K f3 "size_alone" sSizeA oc3 od3 kV3 dc3 pm3 an3 cd3 ct3 sl3) (c3:cI K cd3 "size_alone") (k3:kI K f3)
  (a4:nI K "is_worth" f4) (l4:lI K f4 "is_worth" s_is_worth oc4 od4 kV4 dc4 pm4 an4 cd4 ct4 sl4) (c4:cI K cd4 "is_worth") (k4:kI K f4)
  (a5:nI K "fits_word" f5) (l5:lI K f5 "fits_word" s_fits_word oc5 od5 kV5 dc5 pm5 an5 cd5 ct5 sl5) (c5:cI K cd5 "fits_word") (k5:kI K f5)
  (a6:nI K "is_outcome" f6) (l6:lI K f6 "is_outcome" s_is_outcome oc6 od6 kV6 dc6 pm6 an6 cd6 ct6 sl6) (c6:cI K cd6 "is_outcome") (k6:kI K f6)
  (a7:nI K "is_variable" f7) (l7:lI K f7 "is_variable" s_is_variable oc7 od7 kV7 dc7 pm7 an7 cd7 ct7 sl7) (c7:cI K cd7 "is_variable") (k7:kI K f7)
  (a8:nI K "has_parts" f8) (l8:lI K f8 "has_parts" s_has_parts oc8 od8 kV8 dc8 pm8 an8 cd8 ct8 sl8) (c8:cI K cd8 "has_parts") (k8:kI K f8)
  (a9:nI K "binding_count" f9) (l9:lI K f9 "binding_count" s_binding_count oc9 od9 kV9 dc9 pm9 an9 cd9 ct9 sl9) (c9:cI K cd9 "binding_count") (k9:kI K f9)
  (a10:nI K "variables_of" f10) (l10:lI K f10 "variables_of" s_variables_of oc10 od10 kV10 dc10 pm10 an10 cd10 ct10 sl10) (c10:cI K cd10 "variables_of") (k10:kI K f10)
  (a11:nI K "parts_of" f11) (l11:lI K f11 "parts_of" s_parts_of oc11 od11 kV11 dc11 pm11 an11 cd11 ct11 sl11) (c11:cI K cd11 "parts_of") (k11:kI K f11)
  (a12:nI K "are_good_variables" f12) (l12:lI K f12 "are_good_variables" s_are_good_variables oc12 od12 kV12 dc12 pm12 an12 cd12 ct12 sl12) (c12:cI K cd12 "are_good_variables") (k12:kI K f12)
  (a13:nI K "has_form" f13) (l13:lI K f13 "has_form" s_has_form oc13 od13 kV13 dc13 pm13 an13 cd13 ct13 sl13) (c13:cI K cd13 "has_form") (k13:kI K f13)
  (a14:nI K "is_formed" f14) (l14:lI K f14 "is_formed" s_is_formed oc14 od14 kV14 dc14 pm14 an14 cd14 ct14 sl14) (c14:cI K cd14 "is_formed") (k14:kI K f14)
  (a15:nI K "unbound" f15) (l15:lI K f15 "unbound" s_unbound oc15 od15 kV15 dc15 pm15 an15 cd15 ct15 sl15) (c15:cI K cd15 "unbound") (k15:kI K f15)
  (a16:nI K "free_in" f16) (l16:lI K f16 "free_in" s_free_in oc16 od16 kV16 dc16 pm16 an16 cd16 ct16 sl16) (c16:cI K cd16 "free_in") (k16:kI K f16)
  (a17:nI K "repeated" f17) (l17:lI K f17 "repeated" s_repeated oc17 od17 kV17 dc17 pm17 an17 cd17 ct17 sl17) (c17:cI K cd17 "repeated") (k17:kI K f17)
  (a18:nI K "is_rule" f18) (l18:lI K f18 "is_rule" s_is_rule oc18 od18 kV18 dc18 pm18 an18 cd18 ct18 sl18) (c18:cI K cd18 "is_rule") (k18:kI K f18)
  (a19:nI K "word_end" f19) (l19:lI K f19 "word_end" s_word_end oc19 od19 kV19 dc19 pm19 an19 cd19 ct19 sl19) (c19:cI K cd19 "word_end") (k19:kI K f19)
  (a20:nI K "text_end" f20) (l20:lI K f20 "text_end" s_text_end oc20 od20 kV20 dc20 pm20 an20 cd20 ct20 sl20) (c20:cI K cd20 "text_end") (k20:kI K f20)
  (a21:nI K "pieces_of" f21) (l21:lI K f21 "pieces_of" s_pieces_of oc21 od21 kV21 dc21 pm21 an21 cd21 ct21 sl21) (c21:cI K cd21 "pieces_of") (k21:kI K f21)
  (a22:nI K "trees_of" f22) (l22:lI K f22 "trees_of" s_trees_of oc22 od22 kV22 dc22 pm22 an22 cd22 ct22 sl22) (c22:cI K cd22 "trees_of") (k22:kI K f22)
  (a23:nI K "only_tree" f23) (l23:lI K f23 "only_tree" s_only_tree oc23 od23 kV23 dc23 pm23 an23 cd23 ct23 sl23) (c23:cI K cd23 "only_tree") (k23:kI K f23)
  (a24:nI K "show_worth" f24) (l24:lI K f24 "show_worth" s_show_worth oc24 od24 kV24 dc24 pm24 an24 cd24 ct24 sl24) (c24:cI K cd24 "show_worth") (k24:kI K f24)
  (a25:nI K "writes_number" f25) (l25:lI K f25 "writes_number" s_writes_number oc25 od25 kV25 dc25 pm25 an25 cd25 ct25 sl25) (c25:cI K cd25 "writes_number") (k25:kI K f25)
  (a26:nI K "number_of" f26) (l26:lI K f26 "number_of" s_number_of oc26 od26 kV26 dc26 pm26 an26 cd26 ct26 sl26) (c26:cI K cd26 "number_of") (k26:kI K f26)
  (a27:nI K "worth_of_tree" f27) (l27:lI K f27 "worth_of_tree" s_worth_of_tree oc27 od27 kV27 dc27 pm27 an27 cd27 ct27 sl27) (c27:cI K cd27 "worth_of_tree") (k27:kI K f27)
  (a28:nI K "text_of_tree" f28) (l28:lI K f28 "text_of_tree" s_text_of_tree oc28 od28 kV28 dc28 pm28 an28 cd28 ct28 sl28) (c28:cI K cd28 "text_of_tree") (k28:kI K f28)
  (a29:nI K "show_rule" f29) (l29:lI K f29 "show_rule" s_show_rule oc29 od29 kV29 dc29 pm29 an29 cd29 ct29 sl29) (c29:cI K cd29 "show_rule") (k29:kI K f29)
  (a30:nI K "variable_of_tree" f30) (l30:lI K f30 "variable_of_tree" s_variable_of_tree oc30 od30 kV30 dc30 pm30 an30 cd30 ct30 sl30) (c30:cI K cd30 "variable_of_tree") (k30:kI K f30)
  (a31:nI K "lit_of_trees" f31) (l31:lI K f31 "lit_of_trees" s_lit_of_trees oc31 od31 kV31 dc31 pm31 an31 cd31 ct31 sl31) (c31:cI K cd31 "lit_of_trees") (k31:kI K f31)
  (a32:nI K "bracketed_formtexts" f32) (l32:lI K f32 "bracketed" s_bracketed_formtexts oc32 od32 kV32 dc32 pm32 an32 cd32 ct32 sl32) (c32:cI K cd32 "bracketed") (k32:kI K f32)
  (a33:nI K "expression_of_tree" f33) (l33:lI K f33 "expression_of_tree" s_expression_of_tree oc33 od33 kV33 dc33 pm33 an33 cd33 ct33 sl33) (c33:cI K cd33 "expression_of_tree") (k33:kI K f33)
  (a34:nI K "rule_of_tree" f34) (l34:lI K f34 "rule_of_tree" s_rule_of_tree oc34 od34 kV34 dc34 pm34 an34 cd34 ct34 sl34) (c34:cI K cd34 "rule_of_tree") (k34:kI K f34)
  (a35:nI K "bracketed_papertexts" f35) (l35:lI K f35 "bracketed" s_bracketed_papertexts oc35 od35 kV35 dc35 pm35 an35 cd35 ct35 sl35) (c35:cI K cd35 "bracketed") (k35:kI K f35)
  (a36:nI K "show_outcome" f36) (l36:lI K f36 "show_outcome" s_show_outcome oc36 od36 kV36 dc36 pm36 an36 cd36 ct36 sl36) (c36:cI K cd36 "show_outcome") (k36:kI K f36)
  (a37:nI K "show_record" f37) (l37:lI K f37 "show_record" s_show_record oc37 od37 kV37 dc37 pm37 an37 cd37 ct37 sl37) (c37:cI K cd37 "show_record") (k37:kI K f37)
  (a38:nI K "show_look" f38) (l38:lI K f38 "show_look" s_show_look oc38 od38 kV38 dc38 pm38 an38 cd38 ct38 sl38) (c38:cI K cd38 "show_look") (k38:kI K f38)
  (a39:nI K "show_paper" f39) (l39:lI K f39 "show_paper" s_show_paper oc39 od39 kV39 dc39 pm39 an39 cd39 ct39 sl39) (c39:cI K cd39 "show_paper") (k39:kI K f39)
  (a40:nI K "inner_trees" f40) (l40:lI K f40 "inner_trees" s_inner_trees oc40 od40 kV40 dc40 pm40 an40 cd40 ct40 sl40) (c40:cI K cd40 "inner_trees") (k40:kI K f40)
  (a41:nI K "word_of_tree" f41) (l41:lI K f41 "word_of_tree" s_word_of_tree oc41 od41 kV41 dc41 pm41 an41 cd41 ct41 sl41) (c41:cI K cd41 "word_of_tree") (k41:kI K f41)
  (a42:nI K "trees_behind" f42) (l42:lI K f42 "trees_behind" s_trees_behind oc42 od42 kV42 dc42 pm42 an42 cd42 ct42 sl42) (c42:cI K cd42 "trees_behind") (k42:kI K f42)
  (a43:nI K "outcome_of_tree" f43) (l43:lI K f43 "outcome_of_tree" s_outcome_of_tree oc43 od43 kV43 dc43 pm43 an43 cd43 ct43 sl43) (c43:cI K cd43 "outcome_of_tree") (k43:kI K f43)
  (a44:nI K "record_of_tree" f44) (l44:lI K f44 "record_of_tree" s_record_of_tree oc44 od44 kV44 dc44 pm44 an44 cd44 ct44 sl44) (c44:cI K cd44 "record_of_tree") (k44:kI K f44)
  (a45:nI K "look_of_tree" f45) (l45:lI K f45 "look_of_tree" s_look_of_tree oc45 od45 kV45 dc45 pm45 an45 cd45 ct45 sl45) (c45:cI K cd45 "look_of_tree") (k45:kI K f45)
  (a46:nI K "paper_of_tree" f46) (l46:lI K f46 "paper_of_tree" s_paper_of_tree oc46 od46 kV46 dc46 pm46 an46 cd46 ct46 sl46) (c46:cI K cd46 "paper_of_tree") (k46:kI K f46)
  (a47:nI K "read_paper" f47) (l47:lI K f47 "read_paper" s_read_paper oc47 od47 kV47 dc47 pm47 an47 cd47 ct47 sl47) (c47:cI K cd47 "read_paper") (k47:kI K f47)
  (a48:nI K "_law_cell" f48) (l48:lI K f48 "_law_cell" sCell oc48 od48 kV48 dc48 pm48 an48 cd48 ct48 sl48) (c48:cI K cd48 "_law_cell") (k48:kI K f48)
  (a49:nI K "_law_box" f49) (l49:lI K f49 "_law_box" sBox oc49 od49 kV49 dc49 pm49 an49 cd49 ct49 sl49) (c49:cI K cd49 "_law_box") (k49:kI K f49)
  (a50:nI K "_law_take" f50) (l50:lI K f50 "_law_take" sTake oc50 od50 kV50 dc50 pm50 an50 cd50 ct50 sl50) (c50:cI K cd50 "_law_take") (k50:kI K f50)
  (a51:nI K "_law_text" f51) (l51:lI K f51 "_law_text" sText oc51 od51 kV51 dc51 pm51 an51 cd51 ct51 sl51) (c51:cI K cd51 "_law_text") (k51:kI K f51)
  (a52:nI K "_law_number" f52) (l52:lI K f52 "_law_number" sNumber oc52 od52 kV52 dc52 pm52 an52 cd52 ct52 sl52) (c52:cI K cd52 "_law_number") (k52:kI K f52)
  (a53:nI K "_law_worth" f53) (l53:lI K f53 "_law_worth" sWorth oc53 od53 kV53 dc53 pm53 an53 cd53 ct53 sl53) (c53:cI K cd53 "_law_worth") (k53:kI K f53)
  (a54:nI K "_law_variable" f54) (l54:lI K f54 "_law_variable" s_lvariable oc54 od54 kV54 dc54 pm54 an54 cd54 ct54 sl54) (c54:cI K cd54 "_law_variable") (k54:kI K f54)
  (a55:nI K "_law_lit" f55) (l55:lI K f55 "_law_lit" s_llit oc55 od55 kV55 dc55 pm55 an55 cd55 ct55 sl55) (c55:cI K cd55 "_law_lit") (k55:kI K f55)
  (a56:nI K "_law_word" f56) (l56:lI K f56 "_law_word" s_lword oc56 od56 kV56 dc56 pm56 an56 cd56 ct56 sl56) (c56:cI K cd56 "_law_word") (k56:kI K f56)
  (a57:nI K "_law_parts_by" f57) (l57:lI K f57 "_law_parts_by" s_lparts_by oc57 od57 kV57 dc57 pm57 an57 cd57 ct57 sl57) (c57:cI K cd57 "_law_parts_by") (k57:kI K f57)
  (a58:nI K "_law_any" f58) (l58:lI K f58 "_law_any" s_lany oc58 od58 kV58 dc58 pm58 an58 cd58 ct58 sl58) (c58:cI K cd58 "_law_any") (k58:kI K f58)
  (a59:nI K "_law_alike" f59) (l59:lI K f59 "_law_alike" s_lalike oc59 od59 kV59 dc59 pm59 an59 cd59 ct59 sl59) (c59:cI K cd59 "_law_alike") (k59:kI K f59)
  (a60:nI K "_law_outcome" f60) (l60:lI K f60 "_law_outcome" s_loutcome oc60 od60 kV60 dc60 pm60 an60 cd60 ct60 sl60) (c60:cI K cd60 "_law_outcome") (k60:kI K f60)
  (a61:nI K "_law_record" f61) (l61:lI K f61 "_law_record" s_lrecord oc61 od61 kV61 dc61 pm61 an61 cd61 ct61 sl61) (c61:cI K cd61 "_law_record") (k61:kI K f61)
  (a62:nI K "_law_paper" f62) (l62:lI K f62 "_law_paper" s_lpaper oc62 od62 kV62 dc62 pm62 an62 cd62 ct62 sl62) (c62:cI K cd62 "_law_paper") (k62:kI K f62)
  (a63:nI K "_law_outcome_shown" f63) (l63:lI K f63 "_law_outcome_shown" s_loutcome_shown oc63 od63 kV63 dc63 pm63 an63 cd63 ct63 sl63) (c63:cI K cd63 "_law_outcome_shown") (k63:kI K f63)
  (a64:nI K "_law_record_shown" f64) (l64:lI K f64 "_law_record_shown" s_lrecord_shown oc64 od64 kV64 dc64 pm64 an64 cd64 ct64 sl64) (c64:cI K cd64 "_law_record_shown") (k64:kI K f64)
  (a65:nI K "_law_shown" f65) (l65:lI K f65 "_law_shown" s_lshown oc65 od65 kV65 dc65 pm65 an65 cd65 ct65 sl65) (c65:cI K cd65 "_law_shown") (k65:kI K f65)
  (a66:nI K "_law_loose" f66) (l66:lI K f66 "_law_loose" s_lloose oc66 od66 kV66 dc66 pm66 an66 cd66 ct66 sl66) (c66:cI K cd66 "_law_loose") (k66:kI K f66)
  (a67:nI K "law" f67) (l67:lI K f67 "law" sLaw oc67 od67 kV67 dc67 pm67 an67 cd67 ct67 sl67) (c67:cI K cd67 "law") (k67:kI K f67)
  (z0:nsIn K mainGlobals "isinstance" = some none)
  (z1:nsIn K mainGlobals "int" = some none)
  (z2:nsIn K mainGlobals "bool" = some none)
  (z3:nsIn K mainGlobals "ord" = some none)
  (z4:nsIn K mainGlobals "str" = some none)
  (z5:nsIn K mainGlobals "tuple" = some none)
  (z6:nsIn K mainGlobals "len" = some none)
  (z7:nsIn K mainGlobals "all" = some none)
  (z8:nsIn K mainGlobals "abs" = some none)
  (z9:nsIn K mainGlobals "list" = some none)
  (z10:nsIn K mainGlobals "enumerate" = some none)
  (z11:nsIn K mainGlobals "set" = some none)
  (z12:nsIn K mainGlobals "sorted" = some none)
  (z13:nsIn K mainGlobals "max" = some none)
  (z14:nsIn K mainGlobals "range" = some none)
  (z15:nsIn K mainGlobals "min" = some none)
  {t0:Tok} (i0:nsIn K mainGlobals "PERCENT" = some (some (.int 37 t0)))
  {t1:Tok} (i1:nsIn K mainGlobals "MOST_SIGNS" = some (some (.int 400 t1)))
  {t2:Tok} (i2:nsIn K mainGlobals "MOST_ITEMS" = some (some (.int 60 t2)))
  {t3:Tok} (i3:nsIn K mainGlobals "MOST_DEPTH" = some (some (.int 12 t3)))
  {t4:Tok} (i4:nsIn K mainGlobals "MOST_SIZE" = some (some (.int 1000 t4)))
  {t5:Tok} (i5:nsIn K mainGlobals "MOST_LETTERS" = some (some (.int 8 t5)))
  {t6:Tok} (i6:nsIn K mainGlobals "MOST_LISTED" = some (some (.int 8 t6)))
  {t7:Tok} (i7:nsIn K mainGlobals "MOST_MANY" = some (some (.int 60 t7)))
  {t8:Tok} (i8:nsIn K mainGlobals "MOST_NESTING" = some (some (.int 12 t8)))
  {t9:Tok} (i9:nsIn K mainGlobals "MOST_REPEATED" = some (some (.int 2 t9)))
  {t10:Tok} (i10:nsIn K mainGlobals "MOST_BRACKETS" = some (some (.int 100 t10)))
  {t11:Tok} (i11:nsIn K mainGlobals "MOST_FIGURES" = some (some (.int 60 t11)))
  {v0:Tok} (s0:nsIn K mainGlobals "LETTERS" = some (some (.str "abcdefghijklmnopqrstuvwxyz" v0)))
  {v1:Tok} (s1:nsIn K mainGlobals "WORD_ENDS" = some (some (.str " \n()\"" v1)))
  {v2:Tok} (s2:nsIn K mainGlobals "BETWEEN" = some (some (.str " \n" v2)))
  {v3:Tok} (s3:nsIn K mainGlobals "FIGURES" = some (some (.str "0123456789" v3)))
  {g0:Addr}{gd0:Option Addr}{gn0:Nat}{gs0:Array (Option Value)}{u0_0 u0_1 u0_2 u0_3:Tok} (y0:nsIn K mainGlobals "BARE_WORDS" = some (some (.ref g0))) (x0:K.lookup g0 = some ⟨.type "tuple",gd0,.seq #[.str "kind" u0_0,.str "great" u0_1,.str "nought" u0_2,.str "place" u0_3] gn0,gs0⟩)
  {g1:Addr}{gd1:Option Addr}{gn1:Nat}{gs1:Array (Option Value)}{u1_0 u1_1:Tok} (y1:nsIn K mainGlobals "NAMING_WORDS" = some (some (.ref g1))) (x1:K.lookup g1 = some ⟨.type "tuple",gd1,.seq #[.str "none" u1_0,.str "shut" u1_1] gn1,gs1⟩)
  {g2:Addr}{gd2:Option Addr}{gn2:Nat}{gs2:Array (Option Value)}{u2_0 u2_1:Tok} (y2:nsIn K mainGlobals "REPEATING" = some (some (.ref g2))) (x2:K.lookup g2 = some ⟨.type "tuple",gd2,.seq #[.str "each" u2_0,.str "over" u2_1] gn2,gs2⟩)
  {dg0:Addr}{dn0:Nat}{du0_0 dv0_0 du0_1 dv0_1 du0_2 dv0_2:Tok} (dy0:nsIn K mainGlobals "BINDING" = some (some (.ref dg0))) (dx0:K.lookup dg0 = some ⟨.type "dict",none,.dict #[⟨hashStr w "let",.str "let" du0_0,.int 1 dv0_0⟩,⟨hashStr w "each",.str "each" du0_1,.int 1 dv0_1⟩,⟨hashStr w "over",.str "over" du0_2,.int 2 dv0_2⟩] dn0,#[]⟩) (dz0:(dg0 == sysModules) = false)
  {dg1:Addr}{dn1:Nat}{du1_0 dv1_0 du1_1 dv1_1 du1_2 dv1_2 du1_3 dv1_3 du1_4 dv1_4 du1_5 dv1_5 du1_6 dv1_6 du1_7 dv1_7 du1_8 dv1_8 du1_9 dv1_9 du1_10 dv1_10 du1_11 dv1_11 du1_12 dv1_12 du1_13 dv1_13 du1_14 dv1_14 du1_15 dv1_15 du1_16 dv1_16:Tok} (dy1:nsIn K mainGlobals "PARTS" = some (some (.ref dg1))) (dx1:K.lookup dg1 = some ⟨.type "dict",none,.dict #[⟨hashStr w "let",.str "let" du1_0,.int 2 dv1_0⟩,⟨hashStr w "if",.str "if" du1_1,.int 3 dv1_1⟩,⟨hashStr w "+",.str "+" du1_2,.int 2 dv1_2⟩,⟨hashStr w "-",.str "-" du1_3,.int 2 dv1_3⟩,⟨hashStr w "*",.str "*" du1_4,.int 2 dv1_4⟩,⟨hashStr w "/",.str "/" du1_5,.int 2 dv1_5⟩,⟨hashStr w "same",.str "same" du1_6,.int 2 dv1_6⟩,⟨hashStr w "less",.str "less" du1_7,.int 2 dv1_7⟩,⟨hashStr w "join",.str "join" du1_8,.int 2 dv1_8⟩,⟨hashStr w "item",.str "item" du1_9,.int 2 dv1_9⟩,⟨hashStr w "count",.str "count" du1_10,.int 1 dv1_10⟩,⟨hashStr w "figures",.str "figures" du1_11,.int 1 dv1_11⟩,⟨hashStr w "each",.str "each" du1_12,.int 2 dv1_12⟩,⟨hashStr w "over",.str "over" du1_13,.int 3 dv1_13⟩,⟨hashStr w "look",.str "look" du1_14,.int 1 dv1_14⟩,⟨hashStr w "else",.str "else" du1_15,.int 2 dv1_15⟩,⟨hashStr w "cry",.str "cry" du1_16,.int 1 dv1_16⟩] dn1,#[]⟩) (dz1:(dg1 == sysModules) = false)
  : ∃ fd:FuncData,(∀ (s:Shared) (v:Value),BindsTo s fd ⟨[v],[]⟩ [("_law_script",v)])/\∀ base:Heap,K.In base->base.Ns mainGlobals mg->FnOk l.prog w K mg base CX0 150 fa fd ["_law_script"] (spLaw K):=by
 have e:=hfa.symm.trans (mg_of X G a67)
 cases e
 have F0:=fun_mk (st:=s_is_number) l0 c0 k0
 have b0:=F0.binds (ps:=["thing"]) fun _ _ _ _ _ _ us hl=>by obtain ⟨_,rfl⟩:=us_1 hl; rfl
 have n0:=mg_of X G a0
 have F1:=fun_mk (st:=s_is_sign) l1 c1 k1
 have b1:=F1.binds (ps:=["sign"]) fun _ _ _ _ _ _ us hl=>by obtain ⟨_,rfl⟩:=us_1 hl; rfl
 have n1:=mg_of X G a1
 have F2:=fun_mk (st:=s_fits_alone) l2 c2 k2
 have b2:=F2.binds (ps:=["thing","levels"]) fun _ _ _ _ _ _ us hl=>by obtain ⟨_,_,rfl⟩:=us_2 hl; rfl
 have n2:=mg_of X G a2
 have F3:=fun_mk (st:=sSizeA) l3 c3 k3
 have b3:=F3.binds (ps:=["worth"]) fun _ _ _ _ _ _ us hl=>by obtain ⟨_,rfl⟩:=us_1 hl; rfl
 have n3:=mg_of X G a3
 have F4:=fun_mk (st:=s_is_worth) l4 c4 k4
 have b4:=F4.binds (ps:=["thing"]) fun _ _ _ _ _ _ us hl=>by obtain ⟨_,rfl⟩:=us_1 hl; rfl
 have n4:=mg_of X G a4
 have F5:=fun_mk (st:=s_fits_word) l5 c5 k5
 have b5:=F5.binds (ps:=["word","detail"]) fun _ _ _ _ _ _ us hl=>by obtain ⟨_,_,rfl⟩:=us_2 hl; rfl
 have n5:=mg_of X G a5
 have F6:=fun_mk (st:=s_is_outcome) l6 c6 k6
 have b6:=F6.binds (ps:=["thing"]) fun _ _ _ _ _ _ us hl=>by obtain ⟨_,rfl⟩:=us_1 hl; rfl
 have n6:=mg_of X G a6
 have F7:=fun_mk (st:=s_is_variable) l7 c7 k7
 have b7:=F7.binds (ps:=["thing"]) fun _ _ _ _ _ _ us hl=>by obtain ⟨_,rfl⟩:=us_1 hl; rfl
 have n7:=mg_of X G a7
 have F8:=fun_mk (st:=s_has_parts) l8 c8 k8
 have b8:=F8.binds (ps:=["word"]) fun _ _ _ _ _ _ us hl=>by obtain ⟨_,rfl⟩:=us_1 hl; rfl
 have n8:=mg_of X G a8
 have F9:=fun_mk (st:=s_binding_count) l9 c9 k9
 have b9:=F9.binds (ps:=["word"]) fun _ _ _ _ _ _ us hl=>by obtain ⟨_,rfl⟩:=us_1 hl; rfl
 have n9:=mg_of X G a9
 have F10:=fun_mk (st:=s_variables_of) l10 c10 k10
 have b10:=F10.binds (ps:=["expression"]) fun _ _ _ _ _ _ us hl=>by obtain ⟨_,rfl⟩:=us_1 hl; rfl
 have n10:=mg_of X G a10
 have F11:=fun_mk (st:=s_parts_of) l11 c11 k11
 have b11:=F11.binds (ps:=["expression"]) fun _ _ _ _ _ _ us hl=>by obtain ⟨_,rfl⟩:=us_1 hl; rfl
 have n11:=mg_of X G a11
 have F12:=fun_mk (st:=s_are_good_variables) l12 c12 k12
 have b12:=F12.binds (ps:=["names"]) fun _ _ _ _ _ _ us hl=>by obtain ⟨_,rfl⟩:=us_1 hl; rfl
 have n12:=mg_of X G a12
 have F13:=fun_mk (st:=s_has_form) l13 c13 k13
 have b13:=F13.binds (ps:=["thing"]) fun _ _ _ _ _ _ us hl=>by obtain ⟨_,rfl⟩:=us_1 hl; rfl
 have n13:=mg_of X G a13
 have F14:=fun_mk (st:=s_is_formed) l14 c14 k14
 have b14:=F14.binds (ps:=["thing"]) fun _ _ _ _ _ _ us hl=>by obtain ⟨_,rfl⟩:=us_1 hl; rfl
 have n14:=mg_of X G a14
 have F15:=fun_mk (st:=s_unbound) l15 c15 k15
 have b15:=F15.binds (ps:=["expression","bound"]) fun _ _ _ _ _ _ us hl=>by obtain ⟨_,_,rfl⟩:=us_2 hl; rfl
 have n15:=mg_of X G a15
 have F16:=fun_mk (st:=s_free_in) l16 c16 k16
 have b16:=F16.binds (ps:=["expression"]) fun _ _ _ _ _ _ us hl=>by obtain ⟨_,rfl⟩:=us_1 hl; rfl
 have n16:=mg_of X G a16
 have F17:=fun_mk (st:=s_repeated) l17 c17 k17
 have b17:=F17.binds (ps:=["expression"]) fun _ _ _ _ _ _ us hl=>by obtain ⟨_,rfl⟩:=us_1 hl; rfl
 have n17:=mg_of X G a17
 have F18:=fun_mk (st:=s_is_rule) l18 c18 k18
 have b18:=F18.binds (ps:=["thing"]) fun _ _ _ _ _ _ us hl=>by obtain ⟨_,rfl⟩:=us_1 hl; rfl
 have n18:=mg_of X G a18
 have F19:=fun_mk (st:=s_word_end) l19 c19 k19
 have b19:=F19.binds (ps:=["text","start"]) fun _ _ _ _ _ _ us hl=>by obtain ⟨_,_,rfl⟩:=us_2 hl; rfl
 have n19:=mg_of X G a19
 have F20:=fun_mk (st:=s_text_end) l20 c20 k20
 have b20:=F20.binds (ps:=["text","start"]) fun _ _ _ _ _ _ us hl=>by obtain ⟨_,_,rfl⟩:=us_2 hl; rfl
 have n20:=mg_of X G a20
 have F21:=fun_mk (st:=s_pieces_of) l21 c21 k21
 have b21:=F21.binds (ps:=["text"]) fun _ _ _ _ _ _ us hl=>by obtain ⟨_,rfl⟩:=us_1 hl; rfl
 have n21:=mg_of X G a21
 have F22:=fun_mk (st:=s_trees_of) l22 c22 k22
 have b22:=F22.binds (ps:=["text"]) fun _ _ _ _ _ _ us hl=>by obtain ⟨_,rfl⟩:=us_1 hl; rfl
 have n22:=mg_of X G a22
 have F23:=fun_mk (st:=s_only_tree) l23 c23 k23
 have b23:=F23.binds (ps:=["text"]) fun _ _ _ _ _ _ us hl=>by obtain ⟨_,rfl⟩:=us_1 hl; rfl
 have n23:=mg_of X G a23
 have F24:=fun_mk (st:=s_show_worth) l24 c24 k24
 have b24:=F24.binds (ps:=["worth"]) fun _ _ _ _ _ _ us hl=>by obtain ⟨_,rfl⟩:=us_1 hl; rfl
 have n24:=mg_of X G a24
 have F25:=fun_mk (st:=s_writes_number) l25 c25 k25
 have b25:=F25.binds (ps:=["word"]) fun _ _ _ _ _ _ us hl=>by obtain ⟨_,rfl⟩:=us_1 hl; rfl
 have n25:=mg_of X G a25
 have F26:=fun_mk (st:=s_number_of) l26 c26 k26
 have b26:=F26.binds (ps:=["word"]) fun _ _ _ _ _ _ us hl=>by obtain ⟨_,rfl⟩:=us_1 hl; rfl
 have n26:=mg_of X G a26
 have F27:=fun_mk (st:=s_worth_of_tree) l27 c27 k27
 have b27:=F27.binds (ps:=["tree"]) fun _ _ _ _ _ _ us hl=>by obtain ⟨_,rfl⟩:=us_1 hl; rfl
 have n27:=mg_of X G a27
 have F28:=fun_mk (st:=s_text_of_tree) l28 c28 k28
 have b28:=F28.binds (ps:=["tree"]) fun _ _ _ _ _ _ us hl=>by obtain ⟨_,rfl⟩:=us_1 hl; rfl
 have n28:=mg_of X G a28
 have F29:=fun_mk (st:=s_show_rule) l29 c29 k29
 have b29:=F29.binds (ps:=["rule"]) fun _ _ _ _ _ _ us hl=>by obtain ⟨_,rfl⟩:=us_1 hl; rfl
 have n29:=mg_of X G a29
 have F30:=fun_mk (st:=s_variable_of_tree) l30 c30 k30
 have b30:=F30.binds (ps:=["tree"]) fun _ _ _ _ _ _ us hl=>by obtain ⟨_,rfl⟩:=us_1 hl; rfl
 have n30:=mg_of X G a30
 have F31:=fun_mk (st:=s_lit_of_trees) l31 c31 k31
 have b31:=F31.binds (ps:=["trees"]) fun _ _ _ _ _ _ us hl=>by obtain ⟨_,rfl⟩:=us_1 hl; rfl
 have n31:=mg_of X G a31
 have F32:=fun_mk (st:=s_bracketed_formtexts) l32 c32 k32
 have b32:=F32.binds (ps:=["trees"]) fun _ _ _ _ _ _ us hl=>by obtain ⟨_,rfl⟩:=us_1 hl; rfl
 have n32:=mg_of X G a32
 have F33:=fun_mk (st:=s_expression_of_tree) l33 c33 k33
 have b33:=F33.binds (ps:=["tree"]) fun _ _ _ _ _ _ us hl=>by obtain ⟨_,rfl⟩:=us_1 hl; rfl
 have n33:=mg_of X G a33
 have F34:=fun_mk (st:=s_rule_of_tree) l34 c34 k34
 have b34:=F34.binds (ps:=["tree"]) fun _ _ _ _ _ _ us hl=>by obtain ⟨_,rfl⟩:=us_1 hl; rfl
 have n34:=mg_of X G a34
 have F35:=fun_mk (st:=s_bracketed_papertexts) l35 c35 k35
 have b35:=F35.binds (ps:=["texts"]) fun _ _ _ _ _ _ us hl=>by obtain ⟨_,rfl⟩:=us_1 hl; rfl
 have n35:=mg_of X G a35
 have F36:=fun_mk (st:=s_show_outcome) l36 c36 k36
 have b36:=F36.binds (ps:=["outcome"]) fun _ _ _ _ _ _ us hl=>by obtain ⟨_,rfl⟩:=us_1 hl; rfl
 have n36:=mg_of X G a36
 have F37:=fun_mk (st:=s_show_record) l37 c37 k37
 have b37:=F37.binds (ps:=["record"]) fun _ _ _ _ _ _ us hl=>by obtain ⟨_,rfl⟩:=us_1 hl; rfl
 have n37:=mg_of X G a37
 have F38:=fun_mk (st:=s_show_look) l38 c38 k38
 have b38:=F38.binds (ps:=["look"]) fun _ _ _ _ _ _ us hl=>by obtain ⟨_,rfl⟩:=us_1 hl; rfl
 have n38:=mg_of X G a38
 have F39:=fun_mk (st:=s_show_paper) l39 c39 k39
 have b39:=F39.binds (ps:=["paper"]) fun _ _ _ _ _ _ us hl=>by obtain ⟨_,rfl⟩:=us_1 hl; rfl
 have n39:=mg_of X G a39
 have F40:=fun_mk (st:=s_inner_trees) l40 c40 k40
 have b40:=F40.binds (ps:=["tree"]) fun _ _ _ _ _ _ us hl=>by obtain ⟨_,rfl⟩:=us_1 hl; rfl
 have n40:=mg_of X G a40
 have F41:=fun_mk (st:=s_word_of_tree) l41 c41 k41
 have b41:=F41.binds (ps:=["tree"]) fun _ _ _ _ _ _ us hl=>by obtain ⟨_,rfl⟩:=us_1 hl; rfl
 have n41:=mg_of X G a41
 have F42:=fun_mk (st:=s_trees_behind) l42 c42 k42
 have b42:=F42.binds (ps:=["word","tree"]) fun _ _ _ _ _ _ us hl=>by obtain ⟨_,_,rfl⟩:=us_2 hl; rfl
 have n42:=mg_of X G a42
 have F43:=fun_mk (st:=s_outcome_of_tree) l43 c43 k43
 have b43:=F43.binds (ps:=["tree"]) fun _ _ _ _ _ _ us hl=>by obtain ⟨_,rfl⟩:=us_1 hl; rfl
 have n43:=mg_of X G a43
 have F44:=fun_mk (st:=s_record_of_tree) l44 c44 k44
 have b44:=F44.binds (ps:=["tree"]) fun _ _ _ _ _ _ us hl=>by obtain ⟨_,rfl⟩:=us_1 hl; rfl
 have n44:=mg_of X G a44
 have F45:=fun_mk (st:=s_look_of_tree) l45 c45 k45
 have b45:=F45.binds (ps:=["tree"]) fun _ _ _ _ _ _ us hl=>by obtain ⟨_,rfl⟩:=us_1 hl; rfl
 have n45:=mg_of X G a45
 have F46:=fun_mk (st:=s_paper_of_tree) l46 c46 k46
 have b46:=F46.binds (ps:=["tree"]) fun _ _ _ _ _ _ us hl=>by obtain ⟨_,rfl⟩:=us_1 hl; rfl
 have n46:=mg_of X G a46
 have F47:=fun_mk (st:=s_read_paper) l47 c47 k47
 have b47:=F47.binds (ps:=["text"]) fun _ _ _ _ _ _ us hl=>by obtain ⟨_,rfl⟩:=us_1 hl; rfl
 have n47:=mg_of X G a47
 have F48:=fun_mk (st:=sCell) l48 c48 k48
 have b48:=F48.binds (ps:=["_law_script","_law_k"]) fun _ _ _ _ _ _ us hl=>by obtain ⟨_,_,rfl⟩:=us_2 hl; rfl
 have n48:=mg_of X G a48
 have F49:=fun_mk (st:=sBox) l49 c49 k49
 have b49:=F49.binds (ps:=["_law_script","_law_k"]) fun _ _ _ _ _ _ us hl=>by obtain ⟨_,_,rfl⟩:=us_2 hl; rfl
 have n49:=mg_of X G a49
 have F50:=fun_mk (st:=sTake) l50 c50 k50
 have b50:=F50.binds (ps:=["_law_box_here","_law_wide"]) fun _ _ _ _ _ _ us hl=>by obtain ⟨_,_,rfl⟩:=us_2 hl; rfl
 have n50:=mg_of X G a50
 have F51:=fun_mk (st:=sText) l51 c51 k51
 have b51:=F51.binds (ps:=["_law_box_here","_law_most"]) fun _ _ _ _ _ _ us hl=>by obtain ⟨_,_,rfl⟩:=us_2 hl; rfl
 have n51:=mg_of X G a51
 have F52:=fun_mk (st:=sNumber) l52 c52 k52
 have b52:=F52.binds (ps:=["_law_box_here"]) fun _ _ _ _ _ _ us hl=>by obtain ⟨_,rfl⟩:=us_1 hl; rfl
 have n52:=mg_of X G a52
 have F53:=fun_mk (st:=sWorth) l53 c53 k53
 have b53:=F53.binds (ps:=["_law_box_here","_law_room","_law_deep"]) fun _ _ _ _ _ _ us hl=>by obtain ⟨_,_,_,rfl⟩:=us_3 hl; rfl
 have n53:=mg_of X G a53
 have F54:=fun_mk (st:=s_lvariable) l54 c54 k54
 have b54:=F54.binds (ps:=["_law_box_here"]) fun _ _ _ _ _ _ us hl=>by obtain ⟨_,rfl⟩:=us_1 hl; rfl
 have n54:=mg_of X G a54
 have F55:=fun_mk (st:=s_llit) l55 c55 k55
 have b55:=F55.binds (ps:=["_law_box_here","_law_names"]) fun _ _ _ _ _ _ us hl=>by obtain ⟨_,_,rfl⟩:=us_2 hl; rfl
 have n55:=mg_of X G a55
 have F56:=fun_mk (st:=s_lword) l56 c56 k56
 have b56:=F56.binds (ps:=["_law_box_here","_law_scope","_law_spare","_law_floors","_law_rounds"]) fun _ _ _ _ _ _ us hl=>by obtain ⟨_,_,_,_,_,rfl⟩:=us_5 hl; rfl
 have n56:=mg_of X G a56
 have F57:=fun_mk (st:=s_lparts_by) l57 c57 k57
 have b57:=F57.binds (ps:=["_law_box_here","_law_scopes","_law_names","_law_spare","_law_floors","_law_rounds"]) fun _ _ _ _ _ _ us hl=>by obtain ⟨_,_,_,_,_,_,rfl⟩:=us_6 hl; rfl
 have n57:=mg_of X G a57
 have F58:=fun_mk (st:=s_lany) l58 c58 k58
 have b58:=F58.binds (ps:=["_law_box_here","_law_scope","_law_names","_law_spare","_law_floors","_law_rounds"]) fun _ _ _ _ _ _ us hl=>by obtain ⟨_,_,_,_,_,_,rfl⟩:=us_6 hl; rfl
 have n58:=mg_of X G a58
 have F59:=fun_mk (st:=s_lalike) l59 c59 k59
 have b59:=F59.binds (ps:=["_law_found","_law_due"]) fun _ _ _ _ _ _ us hl=>by obtain ⟨_,_,rfl⟩:=us_2 hl; rfl
 have n59:=mg_of X G a59
 have F60:=fun_mk (st:=s_loutcome) l60 c60 k60
 have b60:=F60.binds (ps:=["_law_box_here"]) fun _ _ _ _ _ _ us hl=>by obtain ⟨_,rfl⟩:=us_1 hl; rfl
 have n60:=mg_of X G a60
 have F61:=fun_mk (st:=s_lrecord) l61 c61 k61
 have b61:=F61.binds (ps:=["_law_box_here","_law_room"]) fun _ _ _ _ _ _ us hl=>by obtain ⟨_,_,rfl⟩:=us_2 hl; rfl
 have n61:=mg_of X G a61
 have F62:=fun_mk (st:=s_lpaper) l62 c62 k62
 have b62:=F62.binds (ps:=["_law_box_here","_law_most"]) fun _ _ _ _ _ _ us hl=>by obtain ⟨_,_,rfl⟩:=us_2 hl; rfl
 have n62:=mg_of X G a62
 have F63:=fun_mk (st:=s_loutcome_shown) l63 c63 k63
 have b63:=F63.binds (ps:=["_law_outcome_here"]) fun _ _ _ _ _ _ us hl=>by obtain ⟨_,rfl⟩:=us_1 hl; rfl
 have n63:=mg_of X G a63
 have F64:=fun_mk (st:=s_lrecord_shown) l64 c64 k64
 have b64:=F64.binds (ps:=["_law_record_here"]) fun _ _ _ _ _ _ us hl=>by obtain ⟨_,rfl⟩:=us_1 hl; rfl
 have n64:=mg_of X G a64
 have F65:=fun_mk (st:=s_lshown) l65 c65 k65
 have b65:=F65.binds (ps:=["_law_paper_here"]) fun _ _ _ _ _ _ us hl=>by obtain ⟨_,rfl⟩:=us_1 hl; rfl
 have n65:=mg_of X G a65
 have F66:=fun_mk (st:=s_lloose) l66 c66 k66
 have b66:=F66.binds (ps:=["_law_text_here","_law_box_here"]) fun _ _ _ _ _ _ us hl=>by obtain ⟨_,_,rfl⟩:=us_2 hl; rfl
 have n66:=mg_of X G a66
 have F67:=fun_mk (st:=sLaw) l67 c67 k67
 have m_isinstance:=mg_none_of X G z0
 have m_int:=mg_none_of X G z1
 have m_bool:=mg_none_of X G z2
 have m_ord:=mg_none_of X G z3
 have m_str:=mg_none_of X G z4
 have m_tuple:=mg_none_of X G z5
 have m_len:=mg_none_of X G z6
 have m_all:=mg_none_of X G z7
 have m_abs:=mg_none_of X G z8
 have m_list:=mg_none_of X G z9
 have m_enumerate:=mg_none_of X G z10
 have m_set:=mg_none_of X G z11
 have m_sorted:=mg_none_of X G z12
 have m_max:=mg_none_of X G z13
 have m_range:=mg_none_of X G z14
 have m_min:=mg_none_of X G z15
 have m_PERCENT:∃ t,mg "PERCENT" = some (.int 37 t):=⟨t0,mg_of X G i0⟩
 have m_MOST_SIGNS:∃ t,mg "MOST_SIGNS" = some (.int 400 t):=⟨t1,mg_of X G i1⟩
 have m_MOST_ITEMS:∃ t,mg "MOST_ITEMS" = some (.int 60 t):=⟨t2,mg_of X G i2⟩
 have m_MOST_DEPTH:∃ t,mg "MOST_DEPTH" = some (.int 12 t):=⟨t3,mg_of X G i3⟩
 have m_MOST_SIZE:∃ t,mg "MOST_SIZE" = some (.int 1000 t):=⟨t4,mg_of X G i4⟩
 have m_MOST_LETTERS:∃ t,mg "MOST_LETTERS" = some (.int 8 t):=⟨t5,mg_of X G i5⟩
 have m_MOST_LISTED:∃ t,mg "MOST_LISTED" = some (.int 8 t):=⟨t6,mg_of X G i6⟩
 have m_MOST_MANY:∃ t,mg "MOST_MANY" = some (.int 60 t):=⟨t7,mg_of X G i7⟩
 have m_MOST_NESTING:∃ t,mg "MOST_NESTING" = some (.int 12 t):=⟨t8,mg_of X G i8⟩
 have m_MOST_REPEATED:∃ t,mg "MOST_REPEATED" = some (.int 2 t):=⟨t9,mg_of X G i9⟩
 have m_MOST_BRACKETS:∃ t,mg "MOST_BRACKETS" = some (.int 100 t):=⟨t10,mg_of X G i10⟩
 have m_MOST_FIGURES:∃ t,mg "MOST_FIGURES" = some (.int 60 t):=⟨t11,mg_of X G i11⟩
 have m_LETTERS:∃ t,mg "LETTERS" = some (.str abcL t):=⟨v0,mg_of X G s0⟩
 have m_WORD_ENDS:∃ t,mg "WORD_ENDS" = some (.str wEnds t):=⟨v1,mg_of X G s1⟩
 have m_BETWEEN:∃ t,mg "BETWEEN" = some (.str wGaps t):=⟨v2,mg_of X G s2⟩
 have m_FIGURES:∃ t,mg "FIGURES" = some (.str wFigs t):=⟨v3,mg_of X G s3⟩
 have m_BARE_WORDS:=mg_of X G y0
 have t_BARE_WORDS:∀ H:Hp,SqT K H g0 [.str "kind",.str "great",.str "nought",.str "place"]:=fun H=>.inr ⟨_,_,_,x0,rfl,rfl,zl4,(.cons ⟨_,rfl⟩ (.cons ⟨_,rfl⟩ (.cons ⟨_,rfl⟩ (.cons ⟨_,rfl⟩ .nil))))⟩
 have m_NAMING_WORDS:=mg_of X G y1
 have t_NAMING_WORDS:∀ H:Hp,SqT K H g1 [.str "none",.str "shut"]:=fun H=>.inr ⟨_,_,_,x1,rfl,rfl,zl2,(.cons ⟨_,rfl⟩ (.cons ⟨_,rfl⟩ .nil))⟩
 have m_REPEATING:=mg_of X G y2
 have t_REPEATING:∀ H:Hp,SqT K H g2 [.str "each",.str "over"]:=fun H=>.inr ⟨_,_,_,x2,rfl,rfl,zl2,(.cons ⟨_,rfl⟩ (.cons ⟨_,rfl⟩ .nil))⟩
 have m_BINDING:=mg_of X G dy0
 have d_BINDING:MD l.prog w K dg0 (kvsB ):=md_of [("let",du0_0,.int 1,.int 1 dv0_0),("each",du0_1,.int 1,.int 1 dv0_1),("over",du0_2,.int 2,.int 2 dv0_2)] dx0 dz0 (fun p hp=>by simp only [List.mem_cons,List.not_mem_nil,or_false] at hp; rcases hp with rfl | rfl | rfl <;> first | exact rfl | exact ⟨_,rfl⟩) (by show (["let","each","over"]:List Str).Nodup; decide +kernel)
 have m_PARTS:=mg_of X G dy1
 have d_PARTS:MD l.prog w K dg1 (kvsP ):=md_of [("let",du1_0,.int 2,.int 2 dv1_0),("if",du1_1,.int 3,.int 3 dv1_1),("+",du1_2,.int 2,.int 2 dv1_2),("-",du1_3,.int 2,.int 2 dv1_3),("*",du1_4,.int 2,.int 2 dv1_4),("/",du1_5,.int 2,.int 2 dv1_5),("same",du1_6,.int 2,.int 2 dv1_6),("less",du1_7,.int 2,.int 2 dv1_7),("join",du1_8,.int 2,.int 2 dv1_8),("item",du1_9,.int 2,.int 2 dv1_9),("count",du1_10,.int 1,.int 1 dv1_10),("figures",du1_11,.int 1,.int 1 dv1_11),("each",du1_12,.int 2,.int 2 dv1_12),("over",du1_13,.int 3,.int 3 dv1_13),("look",du1_14,.int 1,.int 1 dv1_14),("else",du1_15,.int 2,.int 2 dv1_15),("cry",du1_16,.int 1,.int 1 dv1_16)] dx1 dz1 (fun p hp=>by simp only [List.mem_cons,List.not_mem_nil,or_false] at hp; rcases hp with rfl | rfl | rfl | rfl | rfl | rfl | rfl | rfl | rfl | rfl | rfl | rfl | rfl | rfl | rfl | rfl | rfl <;> first | exact rfl | exact ⟨_,rfl⟩) (by show (["let","if","+","-","*","/","same","less","join","item","count","figures","each","over","look","else","cry"]:List Str).Nodup; decide +kernel)
 refine ⟨fnOf "law" "law" (defArgs sLaw) (defBody sLaw) (defScope sLaw) .none kV67 dc67 pm67 an67 cd67 ct67,fun s v=>.of_eq rfl,fun base _ _=>?_⟩
 have h_is_number:Have l.prog w K mg base "is_number" 1 ["thing"] (spIsNum):=⟨_,_,(ok_isnum F0 m_isinstance m_int m_bool:FnOk l.prog w K mg base CX0 (0 + 1) _ _ _ _),b0,k0,n0⟩
 have h_is_sign:Have l.prog w K mg base "is_sign" 1 ["sign"] (spIsSign):=⟨_,_,(ok_issign F1 m_ord m_PERCENT:FnOk l.prog w K mg base CX0 (0 + 1) _ _ _ _),b1,k1,n1⟩
 have h_fits_alone:Have l.prog w K mg base "fits_alone" 2 ["thing","levels"] (spFits):=⟨_,_,(ok_fits F2 (h_is_number.mono (by omega)) (h_is_sign.mono (by omega)) m_isinstance m_str m_tuple m_len m_all m_abs m_MOST_SIGNS m_MOST_ITEMS:FnOk l.prog w K mg base CX0 (1 + 1) _ _ _ _),b2,k2,n2⟩
 have h_size_alone:Have l.prog w K mg base "size_alone" 1 ["worth"] (spSizeT):=⟨_,_,(ok_sizeT F3 m_isinstance m_str m_len:FnOk l.prog w K mg base CX0 (0 + 1) _ _ _ _),b3,k3,n3⟩
 have h_is_worth:Have l.prog w K mg base "is_worth" 3 ["thing"] (spIsWorth):=⟨_,_,(ok_isworth F4 (h_fits_alone.mono (by omega)) (h_size_alone.mono (by omega)) m_isinstance m_tuple m_len m_MOST_DEPTH m_MOST_SIZE:FnOk l.prog w K mg base CX0 (2 + 1) _ _ _ _),b4,k4,n4⟩
 have h_fits_word:Have l.prog w K mg base "fits_word" 4 ["word","detail"] (spFitsW):=⟨_,_,(ok_fits_word F5 (h_is_worth.mono (by omega)) m_isinstance m_str m_BARE_WORDS t_BARE_WORDS m_NAMING_WORDS t_NAMING_WORDS:FnOk l.prog w K mg base CX0 (3 + 1) _ _ _ _),b5,k5,n5⟩
 have h_is_outcome:Have l.prog w K mg base "is_outcome" 5 ["thing"] (spIsOut):=⟨_,_,(ok_is_outcome F6 (h_fits_word.mono (by omega)) (h_is_worth.mono (by omega)) m_isinstance m_len m_tuple:FnOk l.prog w K mg base CX0 (4 + 1) _ _ _ _),b6,k6,n6⟩
 have h_is_variable:Have l.prog w K mg base "is_variable" 1 ["thing"] (spIsVar):=⟨_,_,(ok_is_variable F7 m_all m_isinstance m_len m_str m_MOST_LETTERS m_LETTERS:FnOk l.prog w K mg base CX0 (0 + 1) _ _ _ _),b7,k7,n7⟩
 have h_has_parts:Have l.prog w K mg base "has_parts" 1 ["word"] (spHasParts):=⟨_,_,(ok_has_parts F8 m_PARTS d_PARTS:FnOk l.prog w K mg base CX0 (0 + 1) _ _ _ _),b8,k8,n8⟩
 have h_binding_count:Have l.prog w K mg base "binding_count" 1 ["word"] (spBCount):=⟨_,_,(ok_binding_count F9 m_BINDING d_BINDING:FnOk l.prog w K mg base CX0 (0 + 1) _ _ _ _),b9,k9,n9⟩
 have h_variables_of:Have l.prog w K mg base "variables_of" 2 ["expression"] (spVarsOf):=⟨_,_,(ok_variables_of F10 (h_binding_count.mono (by omega)):FnOk l.prog w K mg base CX0 (1 + 1) _ _ _ _),b10,k10,n10⟩
 have h_parts_of:Have l.prog w K mg base "parts_of" 2 ["expression"] (spPartsOf):=⟨_,_,(ok_parts_of F11 (h_binding_count.mono (by omega)) (h_has_parts.mono (by omega)) m_list:FnOk l.prog w K mg base CX0 (1 + 1) _ _ _ _),b11,k11,n11⟩
 have h_are_good_variables:Have l.prog w K mg base "are_good_variables" 2 ["names"] (spGoodV):=⟨_,_,(ok_are_good_variables F12 (h_is_variable.mono (by omega)) m_all m_len:FnOk l.prog w K mg base CX0 (1 + 1) _ _ _ _),b12,k12,n12⟩
 have h_has_form:Have l.prog w K mg base "has_form" 4 ["thing"] (spHasForm):=⟨_,_,(ok_has_form F13 (h_are_good_variables.mono (by omega)) (h_variables_of.mono (by omega)) (h_binding_count.mono (by omega)) (h_is_variable.mono (by omega)) (h_is_worth.mono (by omega)) m_isinstance m_len m_str m_tuple m_MOST_LISTED m_PARTS d_PARTS:FnOk l.prog w K mg base CX0 (3 + 1) _ _ _ _),b13,k13,n13⟩
 have h_is_formed:Have l.prog w K mg base "is_formed" 5 ["thing"] (spFormed):=⟨_,_,(ok_is_formed F14 (h_parts_of.mono (by omega)) (h_has_form.mono (by omega)) m_len m_MOST_MANY m_MOST_NESTING:FnOk l.prog w K mg base CX0 (4 + 1) _ _ _ _),b14,k14,n14⟩
 have h_unbound:∀ n:Nat,Have l.prog w K mg base "unbound" (n + 3) ["expression","bound"] (spUnb n):=fun n=>by
  induction n with
  | zero=>exact ⟨_,_,none_ok (fun vs H Q E h=>by obtain ⟨_,_,_,_,_,_,_,_,h0,_⟩:=h; omega) _,b15,k15,n15⟩
  | succ n ih=>exact ⟨_,_,ok_unbound F15 ih (h_variables_of.mono (by omega)) (h_parts_of.mono (by omega)) m_enumerate m_len,b15,k15,n15⟩
 have h_free_in:Have l.prog w K mg base "free_in" 24 ["expression"] (spFree):=⟨_,_,(ok_free_in F16 ((h_unbound 20).mono (by omega)) m_set m_sorted:FnOk l.prog w K mg base CX0 (23 + 1) _ _ _ _),b16,k16,n16⟩
 have h_repeated:∀ n:Nat,Have l.prog w K mg base "repeated" (n + 3) ["expression"] (spRep n):=fun n=>by
  induction n with
  | zero=>exact ⟨_,_,none_ok (fun vs H Q E h=>by obtain ⟨_,_,_,_,_,h0,_⟩:=h; omega) _,b17,k17,n17⟩
  | succ n ih=>exact ⟨_,_,ok_repeated F17 ih (h_parts_of.mono (by omega)) m_enumerate m_len m_max m_REPEATING t_REPEATING,b17,k17,n17⟩
 have h_is_rule:Have l.prog w K mg base "is_rule" 25 ["thing"] (spIsRule):=⟨_,_,(ok_is_rule F18 ((h_repeated 20).mono (by omega)) (h_free_in.mono (by omega)) (h_is_formed.mono (by omega)) m_MOST_REPEATED:FnOk l.prog w K mg base CX0 (24 + 1) _ _ _ _),b18,k18,n18⟩
 have h_word_end:Have l.prog w K mg base "word_end" 1 ["text","start"] (spWordEnd):=⟨_,_,(ok_word_end F19 m_len m_WORD_ENDS:FnOk l.prog w K mg base CX0 (0 + 1) _ _ _ _),b19,k19,n19⟩
 have h_text_end:Have l.prog w K mg base "text_end" 1 ["text","start"] (spTextEnd):=⟨_,_,(ok_text_end F20:FnOk l.prog w K mg base CX0 (0 + 1) _ _ _ _),b20,k20,n20⟩
 have h_pieces_of:Have l.prog w K mg base "pieces_of" 2 ["text"] (spPieces):=⟨_,_,(ok_pieces_of F21 (h_text_end.mono (by omega)) (h_word_end.mono (by omega)) m_len m_BETWEEN:FnOk l.prog w K mg base CX0 (1 + 1) _ _ _ _),b21,k21,n21⟩
 have h_trees_of:Have l.prog w K mg base "trees_of" 3 ["text"] (spTrees):=⟨_,_,(ok_trees_of F22 (h_pieces_of.mono (by omega)) m_len m_tuple m_MOST_BRACKETS:FnOk l.prog w K mg base CX0 (2 + 1) _ _ _ _),b22,k22,n22⟩
 have h_only_tree:Have l.prog w K mg base "only_tree" 4 ["text"] (spOnly):=⟨_,_,(ok_only_tree F23 (h_trees_of.mono (by omega)) m_len:FnOk l.prog w K mg base CX0 (3 + 1) _ _ _ _),b23,k23,n23⟩
 have h_show_worth:∀ n:Nat,Have l.prog w K mg base "show_worth" (n + 1) ["worth"] (spShow n):=fun n=>by
  induction n with
  | zero=>exact ⟨_,_,none_ok (fun vs H Q E h=>by obtain ⟨v,w,_,_,_,_,h0,_⟩:=h; omega) _,b24,k24,n24⟩
  | succ n ih=>exact ⟨_,_,ok_show_worth F24 ih m_isinstance m_str m_tuple,b24,k24,n24⟩
 have h_writes_number:Have l.prog w K mg base "writes_number" 1 ["word"] (spWritesNum):=⟨_,_,(ok_writes_number F25 m_all m_len m_MOST_FIGURES m_FIGURES:FnOk l.prog w K mg base CX0 (0 + 1) _ _ _ _),b25,k25,n25⟩
 have h_number_of:Have l.prog w K mg base "number_of" 2 ["word"] (spNumOf):=⟨_,_,(ok_number_of F26 (h_writes_number.mono (by omega)) m_int:FnOk l.prog w K mg base CX0 (1 + 1) _ _ _ _),b26,k26,n26⟩
 have h_worth_of_tree:∀ n:Nat,Have l.prog w K mg base "worth_of_tree" (n + 3) ["tree"] (spWTree n):=fun n=>by
  induction n with
  | zero=>exact ⟨_,_,none_ok (fun vs H Q E h=>by obtain ⟨v,w,_,_,_,h0,_⟩:=h; omega) _,b27,k27,n27⟩
  | succ n ih=>exact ⟨_,_,ok_worth_of_tree F27 (h_number_of.mono (by omega)) ih m_tuple,b27,k27,n27⟩
 have h_text_of_tree:Have l.prog w K mg base "text_of_tree" 4 ["tree"] (spTextT):=⟨_,_,(ok_text_of_tree F28 (h_is_worth.mono (by omega)):FnOk l.prog w K mg base CX0 (3 + 1) _ _ _ _),b28,k28,n28⟩
 have h_show_rule:∀ n:Nat,Have l.prog w K mg base "show_rule" (n + 16) ["rule"] (spShowR n):=fun n=>by
  induction n with
  | zero=>exact ⟨_,_,none_ok (fun vs H Q E h=>by obtain ⟨v,w,_,_,_,_,h0,_⟩:=h; omega) _,b29,k29,n29⟩
  | succ n ih=>exact ⟨_,_,ok_show_rule F29 (h_variables_of.mono (by omega)) (h_parts_of.mono (by omega)) ih ((h_show_worth 14).mono (by omega)) m_isinstance m_list m_tuple,b29,k29,n29⟩
 have h_variable_of_tree:Have l.prog w K mg base "variable_of_tree" 2 ["tree"] (spVarTree):=⟨_,_,(ok_variable_of_tree F30 (h_is_variable.mono (by omega)):FnOk l.prog w K mg base CX0 (1 + 1) _ _ _ _),b30,k30,n30⟩
 have h_lit_of_trees:Have l.prog w K mg base "lit_of_trees" 18 ["trees"] (spLitTrees):=⟨_,_,(ok_lit_of_trees F31 ((h_worth_of_tree 14).mono (by omega)) m_len:FnOk l.prog w K mg base CX0 (17 + 1) _ _ _ _),b31,k31,n31⟩
 have h_expression_of_tree:∀ n:Nat,Have l.prog w K mg base "expression_of_tree" (2 * n + 19) ["tree"] ((spExpr n:Sp)):=fun n=>by
  induction n with
  | zero=>exact ⟨_,_,none_ok (fun vs H Q E h=>by obtain ⟨_,_,_,_,_,h0,_⟩:=h; omega) _,b33,k33,n33⟩
  | succ n ih=>
   have h_bracketed_formtexts:Have l.prog w K mg base "bracketed_formtexts" (2 * n + 19 + 0 + 1) ["trees"] (spBra n):=⟨_,_,(ok_bracketed_formtexts F32 (ih.mono (by omega)) (h_variable_of_tree.mono (by omega)) (h_binding_count.mono (by omega)) (h_has_parts.mono (by omega)) (h_lit_of_trees.mono (by omega)) m_len m_tuple:FnOk l.prog w K mg base CX0 (2 * n + 19 + 0 + 1) _ _ _ (spBra n)),b32,k32,n32⟩
   have hm:Have l.prog w K mg base "expression_of_tree" (2 * n + 19 + 1 + 1) ["tree"] ((spExpr (n + 1):Sp)):=⟨_,_,(ok_expression_of_tree F33 (h_number_of.mono (by omega)) (h_is_variable.mono (by omega)) (h_bracketed_formtexts.mono (by omega)):FnOk l.prog w K mg base CX0 (2 * n + 19 + 1 + 1) _ _ _ ((spExpr (n + 1):Sp))),b33,k33,n33⟩
   exact hm.mono (by omega)
 have h_rule_of_tree:Have l.prog w K mg base "rule_of_tree" 48 ["tree"] (spRuleTree):=⟨_,_,(ok_rule_of_tree F34 (h_is_rule.mono (by omega)) ((h_expression_of_tree 14).mono (by omega)):FnOk l.prog w K mg base CX0 (47 + 1) _ _ _ _),b34,k34,n34⟩
 have h_bracketed_papertexts:Have l.prog w K mg base "bracketed_papertexts" 1 ["texts"] (spBraP K):=⟨_,_,(ok_bracketed_papertexts F35:FnOk l.prog w K mg base CX0 (0 + 1) _ _ _ _),b35,k35,n35⟩
 have h_show_outcome:Have l.prog w K mg base "show_outcome" 16 ["outcome"] (spShowO):=⟨_,_,(ok_show_outcome F36 (h_bracketed_papertexts.mono (by omega)) ((h_show_worth 14).mono (by omega)) m_list:FnOk l.prog w K mg base CX0 (15 + 1) _ _ _ _),b36,k36,n36⟩
 have h_show_record:∀ n:Nat,Have l.prog w K mg base "show_record" (n + 17) ["record"] (spShowE n):=fun n=>by
  induction n with
  | zero=>exact ⟨_,_,none_ok (fun vs H Q E h=>by obtain ⟨v,e,_,_,_,h0,_⟩:=h; omega) _,b37,k37,n37⟩
  | succ n ih=>exact ⟨_,_,ok_show_record F37 (h_bracketed_papertexts.mono (by omega)) (h_show_outcome.mono (by omega)) ih,b37,k37,n37⟩
 have h_show_look:Have l.prog w K mg base "show_look" 17 ["look"] (spShowL):=⟨_,_,(ok_show_look F38 (h_bracketed_papertexts.mono (by omega)) (h_show_outcome.mono (by omega)) ((h_show_worth 14).mono (by omega)):FnOk l.prog w K mg base CX0 (16 + 1) _ _ _ _),b38,k38,n38⟩
 have h_show_paper:Have l.prog w K mg base "show_paper" 32 ["paper"] (spShowP):=⟨_,_,(ok_show_paper F39 (h_bracketed_papertexts.mono (by omega)) ((h_show_record 14).mono (by omega)) ((h_show_rule 14).mono (by omega)) (h_show_look.mono (by omega)):FnOk l.prog w K mg base CX0 (31 + 1) _ _ _ _),b39,k39,n39⟩
 have h_inner_trees:Have l.prog w K mg base "inner_trees" 1 ["tree"] (spInner):=⟨_,_,(ok_inner_trees F40:FnOk l.prog w K mg base CX0 (0 + 1) _ _ _ _),b40,k40,n40⟩
 have h_word_of_tree:Have l.prog w K mg base "word_of_tree" 1 ["tree"] (spWordT):=⟨_,_,(ok_word_of_tree F41:FnOk l.prog w K mg base CX0 (0 + 1) _ _ _ _),b41,k41,n41⟩
 have h_trees_behind:Have l.prog w K mg base "trees_behind" 2 ["word","tree"] (spBehind):=⟨_,_,(ok_trees_behind F42 (h_word_of_tree.mono (by omega)) (h_inner_trees.mono (by omega)) m_len:FnOk l.prog w K mg base CX0 (1 + 1) _ _ _ _),b42,k42,n42⟩
 have h_outcome_of_tree:Have l.prog w K mg base "outcome_of_tree" 18 ["tree"] (spOutT):=⟨_,_,(ok_outcome_of_tree F43 (h_is_outcome.mono (by omega)) (h_word_of_tree.mono (by omega)) ((h_worth_of_tree 14).mono (by omega)) (h_inner_trees.mono (by omega)) m_len m_tuple:FnOk l.prog w K mg base CX0 (17 + 1) _ _ _ _),b43,k43,n43⟩
 have h_record_of_tree:∀ n:Nat,Have l.prog w K mg base "record_of_tree" (n + 19) ["tree"] (spRecT n):=fun n=>by
  induction n with
  | zero=>exact ⟨_,_,none_ok (fun vs H Q E h=>by obtain ⟨v,e,_,_,_,h0,_⟩:=h; omega) _,b44,k44,n44⟩
  | succ n ih=>exact ⟨_,_,ok_record_of_tree F44 ih (h_outcome_of_tree.mono (by omega)) (h_inner_trees.mono (by omega)) m_len m_tuple,b44,k44,n44⟩
 have h_look_of_tree:Have l.prog w K mg base "look_of_tree" 19 ["tree"] (spLookT):=⟨_,_,(ok_look_of_tree F45 (h_outcome_of_tree.mono (by omega)) (h_text_of_tree.mono (by omega)) (h_inner_trees.mono (by omega)) m_len:FnOk l.prog w K mg base CX0 (18 + 1) _ _ _ _),b45,k45,n45⟩
 have h_paper_of_tree:Have l.prog w K mg base "paper_of_tree" 49 ["tree"] (spPapT):=⟨_,_,(ok_paper_of_tree F46 ((h_record_of_tree 14).mono (by omega)) (h_rule_of_tree.mono (by omega)) (h_trees_behind.mono (by omega)) (h_look_of_tree.mono (by omega)) m_len m_tuple:FnOk l.prog w K mg base CX0 (48 + 1) _ _ _ _),b46,k46,n46⟩
 have h_read_paper:Have l.prog w K mg base "read_paper" 50 ["text"] (spReadP):=⟨_,_,(ok_read_paper F47 (h_paper_of_tree.mono (by omega)) (h_only_tree.mono (by omega)):FnOk l.prog w K mg base CX0 (49 + 1) _ _ _ _),b47,k47,n47⟩
 have h_lcell:Have l.prog w K mg base "_law_cell" 1 ["_law_script","_law_k"] (spCell K):=⟨_,_,(ok_cell F48 m_len:FnOk l.prog w K mg base CX0 (0 + 1) _ _ _ _),b48,k48,n48⟩
 have h_lbox:Have l.prog w K mg base "_law_box" 2 ["_law_script","_law_k"] (spBox K):=⟨_,_,(ok_box F49 (h_lcell.mono (by omega)):FnOk l.prog w K mg base CX0 (1 + 1) _ _ _ _),b49,k49,n49⟩
 have h_ltake:Have l.prog w K mg base "_law_take" 1 ["_law_box_here","_law_wide"] (spTake):=⟨_,_,(ok_take F50:FnOk l.prog w K mg base CX0 (0 + 1) _ _ _ _),b50,k50,n50⟩
 have h_ltext:Have l.prog w K mg base "_law_text" 2 ["_law_box_here","_law_most"] (spText):=⟨_,_,(ok_text F51 (h_ltake.mono (by omega)) m_len m_range:FnOk l.prog w K mg base CX0 (1 + 1) _ _ _ _),b51,k51,n51⟩
 have h_lnumber:Have l.prog w K mg base "_law_number" 2 ["_law_box_here"] (spNumber):=⟨_,_,(ok_number F52 (h_ltake.mono (by omega)):FnOk l.prog w K mg base CX0 (1 + 1) _ _ _ _),b52,k52,n52⟩
 have h_lworth:∀ n:Nat,Have l.prog w K mg base "_law_worth" (n + 3) ["_law_box_here","_law_room","_law_deep"] (spWorth n):=fun n=>by
  induction n with
  | zero=>exact ⟨_,_,none_ok (fun vs H Q E h=>by obtain ⟨b,room,deep,_,_,_,_,h0,h1,_⟩:=h; omega) _,b53,k53,n53⟩
  | succ n ih=>exact ⟨_,_,ok_worth F53 (h_ltake.mono (by omega)) (h_ltext.mono (by omega)) (h_lnumber.mono (by omega)) ih m_min m_range m_tuple,b53,k53,n53⟩
 have h_lvariable:Have l.prog w K mg base "_law_variable" 2 ["_law_box_here"] (spVar):=⟨_,_,(ok_lvariable F54 (h_ltake.mono (by omega)) m_range:FnOk l.prog w K mg base CX0 (1 + 1) _ _ _ _),b54,k54,n54⟩
 have h_llit:Have l.prog w K mg base "_law_lit" 17 ["_law_box_here","_law_names"] (spLit):=⟨_,_,(ok_llit F55 ((h_lworth 13).mono (by omega)) (h_ltake.mono (by omega)) m_len:FnOk l.prog w K mg base CX0 (16 + 1) _ _ _ _),b55,k55,n55⟩
 have h_lword:Have l.prog w K mg base "_law_word" 2 ["_law_box_here","_law_scope","_law_spare","_law_floors","_law_rounds"] (spWord):=⟨_,_,(ok_lword F56 (h_ltake.mono (by omega)) m_int:FnOk l.prog w K mg base CX0 (1 + 1) _ _ _ _),b56,k56,n56⟩
 have h_pair:∀ n:Nat,Have l.prog w K mg base "_law_any" (lvP 18 n) ["_law_box_here","_law_scope","_law_names","_law_spare","_law_floors","_law_rounds"] (spAny n)/\Have l.prog w K mg base "_law_parts_by" (lvP 18 n + 1) ["_law_box_here","_law_scopes","_law_names","_law_spare","_law_floors","_law_rounds"] (spPartsBy n):=fun n=>by
  induction n with
  | zero=>
   have A0:Have l.prog w K mg base "_law_any" (lvP 18 0) ["_law_box_here","_law_scope","_law_names","_law_spare","_law_floors","_law_rounds"] (spAny 0):=⟨_,_,none_ok (fun vs H Q E h=>by obtain ⟨_,_,_,_,_,_,_,_,_,_,_,_,_,_,_,_,_,h0,h1,_⟩:=h; omega) _,b58,k58,n58⟩
   exact ⟨A0,_,_,ok_lparts_by F57 A0 m_enumerate m_len m_tuple,b57,k57,n57⟩
  | succ n ih=>
   have A1:Have l.prog w K mg base "_law_any" (lvP 18 (n + 1)) ["_law_box_here","_law_scope","_law_names","_law_spare","_law_floors","_law_rounds"] (spAny (n + 1)):=⟨_,_,ok_lany F58 ih.2 (h_lvariable.mono (Nat.le_trans (by decide) (Nat.le_succ_of_le (lvP_le 18 n)))) (h_ltake.mono (Nat.le_trans (by decide) (Nat.le_succ_of_le (lvP_le 18 n)))) (h_llit.mono (Nat.le_trans (by decide) (Nat.le_succ_of_le (lvP_le 18 n)))) (h_lword.mono (Nat.le_trans (by decide) (Nat.le_succ_of_le (lvP_le 18 n)))) m_int m_len m_list m_min,b58,k58,n58⟩
   exact ⟨A1,_,_,ok_lparts_by F57 A1 m_enumerate m_len m_tuple,b57,k57,n57⟩
 have h_lalike:∀ n:Nat,Have l.prog w K mg base "_law_alike" (n + 1) ["_law_found","_law_due"] (spAlk n):=fun n=>by
  induction n with
  | zero=>exact ⟨_,_,none_ok (fun vs H Q E h=>by obtain ⟨_,_,_,h0,_⟩:=h; exact absurd h0 (Nat.not_lt_zero _)) _,b59,k59,n59⟩
  | succ n ih=>exact ⟨_,_,ok_lalike F59 ih m_all m_bool m_int m_isinstance m_len m_range m_str m_tuple,b59,k59,n59⟩
 have h_loutcome:Have l.prog w K mg base "_law_outcome" 17 ["_law_box_here"] (spOutD):=⟨_,_,(ok_loutcome F60 (h_ltext.mono (by omega)) ((h_lworth 13).mono (by omega)) (h_ltake.mono (by omega)):FnOk l.prog w K mg base CX0 (16 + 1) _ _ _ _),b60,k60,n60⟩
 have h_lrecord:∀ n:Nat,Have l.prog w K mg base "_law_record" (n + 18) ["_law_box_here","_law_room"] (spRecD n):=fun n=>by
  induction n with
  | zero=>exact ⟨_,_,none_ok (fun vs H Q E h=>by obtain ⟨b,room,_,_,h1,h2,_⟩:=h; omega) _,b61,k61,n61⟩
  | succ n ih=>exact ⟨_,_,ok_lrecord F61 (h_loutcome.mono (by omega)) (h_ltake.mono (by omega)) ih m_tuple,b61,k61,n61⟩
 have h_lpaper:Have l.prog w K mg base "_law_paper" 43 ["_law_box_here","_law_most"] (spPaperD):=⟨_,_,(ok_lpaper F62 ((h_lrecord 7).mono (by omega)) (h_ltake.mono (by omega)) (h_loutcome.mono (by omega)) (h_ltext.mono (by omega)) ((h_pair 11).1.mono (by decide)) m_range m_tuple:FnOk l.prog w K mg base CX0 (42 + 1) _ _ _ _),b62,k62,n62⟩
 have h_loutcome_shown:Have l.prog w K mg base "_law_outcome_shown" 16 ["_law_outcome_here"] (spShowO):=⟨_,_,(ok_loutcome_shown F63 ((h_show_worth 14).mono (by omega)):FnOk l.prog w K mg base CX0 (15 + 1) _ _ _ _),b63,k63,n63⟩
 have h_lrecord_shown:∀ n:Nat,Have l.prog w K mg base "_law_record_shown" (n + 17) ["_law_record_here"] (spShowE n):=fun n=>by
  induction n with
  | zero=>exact ⟨_,_,none_ok (fun vs H Q E h=>by obtain ⟨v,e,_,_,_,h0,_⟩:=h; omega) _,b64,k64,n64⟩
  | succ n ih=>exact ⟨_,_,ok_lrecord_shown F64 (h_loutcome_shown.mono (by omega)) ih,b64,k64,n64⟩
 have h_lshown:Have l.prog w K mg base "_law_shown" 32 ["_law_paper_here"] (spShowP):=⟨_,_,(ok_lshown F65 ((h_lrecord_shown 14).mono (by omega)) ((h_show_rule 14).mono (by omega)) ((h_show_worth 14).mono (by omega)) (h_loutcome_shown.mono (by omega)):FnOk l.prog w K mg base CX0 (31 + 1) _ _ _ _),b65,k65,n65⟩
 have h_lloose:Have l.prog w K mg base "_law_loose" 2 ["_law_text_here","_law_box_here"] (spLooseD):=⟨_,_,(ok_lloose F66 (h_ltake.mono (by omega)):FnOk l.prog w K mg base CX0 (1 + 1) _ _ _ _),b66,k66,n66⟩
 exact (ok_law F67 ((h_lalike 60).mono (by omega)) (h_read_paper.mono (by omega)) (h_lloose.mono (by omega)) (h_show_outcome.mono (by omega)) (h_loutcome_shown.mono (by omega)) (h_lshown.mono (by omega)) (h_show_paper.mono (by omega)) (h_lpaper.mono (by omega)) (h_lbox.mono (by omega)) m_isinstance m_len m_range m_str:FnOk l.prog w K mg base CX0 (149 + 1) _ _ _ _)
theorem walk_all {l:PySem.W.OpenLaw}{q:Program}{loose:List Str}{XP:(Str->Option Value)->Heap->Prop}{YP:World->Heap->Prop}{d:DefRec}{K:Params->PySem.W.Frag} (hn:l.most = some 63) (hdf:d.params.defaults = [])
  (hY:∀ (w:World) (h:Heap),YP w h->(K w.params).In h)
  (F:∀ (w:World) (mg:Str->Option Value) (fa:Addr) (h:Heap),(K w.params).In h->h.Ns mainGlobals mg->mg d.name = some (.ref fa)->
   ∃ fd:FuncData,(∀ (s:Shared) (u:Value),BindsTo s fd ⟨[u],[]⟩ [("_law_script",u)])/\∀ base:Heap,(K w.params).In base->base.Ns mainGlobals mg->FnOk l.prog w (K w.params) mg base CX0 150 fa fd ["_law_script"] (spLaw (K w.params))):
  PySem.W.WalkO q loose XP YP l.row.toRowW d [] (fun f vs=>PySem.call f vs):=
 L2.walk_of (n:=63) (k:=150) (x:="_law_script") (CX:=fun _=>CX0) (sp:=fun w=>spLaw (K w.params)) hn (by decide) hdf ⟨rfl,by decide,by decide⟩ hY F (fun _ _ a ns hl _ hS=>⟨a,ns,rfl,hS,hl,fun _=>rfl⟩) fun _ _ _ _ _ z=>z
end D
open PySem PySem.W PyProof.Rows
set_option maxRecDepth 100000 in
set_option maxHeartbeats 0 in
theorem PySem.Challenge.cw_leastforge_k57_papers_written_and_read_holds : PySem.Challenge.rw_leastforge_k57_papers_written_and_read.Holds := by
 w_on; o_law; k_head; (case hw=>w_witness2)
 k_fill
 refine D.walk_all (l:=PySem.Challenge.rw_leastforge_k57_papers_written_and_read) rfl rfl (fun w h Y=>PySem.W.kIn_of Y) ?F
 case F=>
  intro w mg fa h KX G hmg
  refine' D.all_mk KX G hmg ?_ ?_ ?_ ?_ ?_ ?_ ?_ ?_ ?_ ?_ ?_ ?_ ?_ ?_ ?_ ?_ ?_ ?_ ?_ ?_ ?_ ?_ ?_ ?_ ?_ ?_ ?_ ?_ ?_ ?_ ?_ ?_ ?_ ?_ ?_ ?_ ?_ ?_ ?_ ?_ ?_ ?_ ?_ ?_ ?_ ?_ ?_ ?_ ?_ ?_ ?_ ?_ ?_ ?_ ?_ ?_ ?_ ?_ ?_ ?_ ?_ ?_ ?_ ?_ ?_ ?_ ?_ ?_ ?_ ?_ ?_ ?_ ?_ ?_ ?_ ?_ ?_ ?_ ?_ ?_ ?_ ?_ ?_ ?_ ?_ ?_ ?_ ?_ ?_ ?_ ?_ ?_ ?_ ?_ ?_ ?_ ?_ ?_ ?_ ?_ ?_ ?_ ?_ ?_ ?_ ?_ ?_ ?_ ?_ ?_ ?_ ?_ ?_ ?_ ?_ ?_ ?_ ?_ ?_ ?_ ?_ ?_ ?_ ?_ ?_ ?_ ?_ ?_ ?_ ?_ ?_ ?_ ?_ ?_ ?_ ?_ ?_ ?_ ?_ ?_ ?_ ?_ ?_ ?_ ?_ ?_ ?_ ?_ ?_ ?_ ?_ ?_ ?_ ?_ ?_ ?_ ?_ ?_ ?_ ?_ ?_ ?_ ?_ ?_ ?_ ?_ ?_ ?_ ?_ ?_ ?_ ?_ ?_ ?_ ?_ ?_ ?_ ?_ ?_ ?_ ?_ ?_ ?_ ?_ ?_ ?_ ?_ ?_ ?_ ?_ ?_ ?_ ?_ ?_ ?_ ?_ ?_ ?_ ?_ ?_ ?_ ?_ ?_ ?_ ?_ ?_ ?_ ?_ ?_ ?_ ?_ ?_ ?_ ?_ ?_ ?_ ?_ ?_ ?_ ?_ ?_ ?_ ?_ ?_ ?_ ?_ ?_ ?_ ?_ ?_ ?_ ?_ ?_ ?_ ?_ ?_ ?_ ?_ ?_ ?_ ?_ ?_ ?_ ?_ ?_ ?_ ?_ ?_ ?_ ?_ ?_ ?_ ?_ ?_ ?_ ?_ ?_ ?_ ?_ ?_ ?_ ?_ ?_ ?_ ?_ ?_ ?_ ?_ ?_ ?_ ?_ ?_ ?_ ?_ ?_ ?_ ?_ ?_ ?_ ?_ ?_ ?_ ?_ ?_ ?_ ?_ ?_ ?_ ?_ ?_ ?_ ?_ ?_ ?_ ?_ ?_ ?_ ?_ ?_ ?_ ?_ ?_ ?_ ?_ ?_ ?_ ?_ ?_ ?_ ?_ ?_ ?_ ?_ ?_ ?_ ?_
  all_goals try ((try unfold D.nI); (try unfold D.lI); (try unfold D.cI); (try unfold D.kI); first | k_is | rfl)
