import PyProof.Rows.All
import Wide.All
import OpenK.AllK
import Wide.FinOn
import Lean
import PyProof.EqAt
import PyProof.EqKinds
import PyProof.TupleCall
import PyProof.EnumMake
import PyProof.WalksEnum
import PyProof.NeKinds
import PyProof.Rows.ZipGen
import PyProof.TupleIter
import PyProof.ZipIter
import PyProof.TupleOfGen
import PySem.Challenge.RW_leastforge_k33_books
open PySem.W (instObj methodObj lookIn plainGet hasDictIn findIn plainGet_of isFn plainOver takerIn makesIn emptyDict keepIn kia_one kitx_list kitx_tuple kitx_dict callWith_K fnOf codeIn kitAny kia_tup nsIn mg_of mg_none_of)
set_option Elab.async false
set_option linter.all false
set_option maxRecDepth 100000
set_option maxHeartbeats 4000000
theorem L2.zl0:0<=PySem.sizeLine:=by decide
theorem L2.zl1:1<=PySem.sizeLine:=by decide
theorem L2.zl2:2<=PySem.sizeLine:=by decide
theorem L2.zl3:3<=PySem.sizeLine:=by decide
theorem L2.zl4:4<=PySem.sizeLine:=by decide
theorem L2.zl8:8<=PySem.sizeLine:=by decide
theorem L2.zl12:12<=PySem.sizeLine:=by decide
namespace L2
open PySem PySem.Spec PyProof.Rows
abbrev Key:=Sum Int Str
def zfk:Key->Value->Bool
 | .inl k,v=>Value.isInt k v
 | .inr x,v=>Value.isStrOf x v
def keyH (w:World):Key->Int
 | .inl k=>hashInt k
 | .inr x=>hashStr w x
theorem zU:∀ {k:Key}{v:Value},zfk k v = true->(∃ i t,k = Sum.inl i/\v = Value.int i t)\/(∃ x t,k = Sum.inr x/\v = Value.str x t)
 | .inl i,v,h=>by
  obtain ⟨t,e⟩:=Value.isInt_shape (k:=i) (v:=v) h
  exact .inl ⟨i,t,rfl,e⟩
 | .inr x,v,h=>by
  obtain ⟨t,e⟩:=Value.isStrOf_shape (x:=x) (v:=v) h
  exact .inr ⟨x,t,rfl,e⟩
theorem zhu (i:Int) (t:Tok):zfk (.inl i) (.int i t) = true:=by simp [zfk,Value.isInt]
theorem zhv (x:Str) (t:Tok):zfk (.inr x) (.str x t) = true:=by simp [zfk,Value.isStrOf]
theorem zmm (a b:Int):decide ((Sum.inl a:Key) = Sum.inl b) = (a == b):=by
 by_cases e:a = b
 ·subst e; simp
 ·have h:¬ (Sum.inl a:Key) = Sum.inl b:=fun q=>e (Sum.inl.inj q)
  rw [decide_eq_false h]
  exact (beq_eq_false_iff_ne.mpr e).symm
theorem zmn (a b:Str):decide ((Sum.inr a:Key) = Sum.inr b) = decide (a = b):=by
 by_cases e:a = b
 ·subst e; simp
 ·have h:¬ (Sum.inr a:Key) = Sum.inr b:=fun q=>e (Sum.inr.inj q)
  rw [decide_eq_false h,decide_eq_false e]
theorem zmo (a:Int) (b:Str):decide ((Sum.inl a:Key) = Sum.inr b) = false:=decide_eq_false (fun q=>nomatch q)
theorem zmp (a:Str) (b:Int):decide ((Sum.inr a:Key) = Sum.inl b) = false:=decide_eq_false (fun q=>nomatch q)
def zR (prog:Program) (w:World):PySem.KeyKind prog w Key where
 is:=zfk
 hash:=keyH w
 inj:=fun v a b ha hb=>by
  rcases zU ha with ⟨i,t,rfl,rfl⟩ | ⟨x,t,rfl,rfl⟩
  ·rcases zU hb with ⟨j,u,rfl,e⟩ | ⟨y,u,rfl,e⟩
   ·injection e with e1 _; rw [e1]
   ·exact nomatch e
  ·rcases zU hb with ⟨j,u,rfl,e⟩ | ⟨y,u,rfl,e⟩
   ·exact nomatch e
   ·injection e with e1 _; rw [e1]
 byValue:=fun k v h=>by
  rcases zU h with ⟨i,t,rfl,rfl⟩ | ⟨x,t,rfl,rfl⟩ <;> rfl
 pyHash:=fun hv h=>by
  rcases zU hv with ⟨i,t,rfl,rfl⟩ | ⟨x,t,rfl,rfl⟩
  ·exact wpAny_pyHash_int h
  ·exact wpAny_pyHash_str h
 eqBool:=fun hu hv h=>by
  rcases zU hu with ⟨i,t,rfl,rfl⟩ | ⟨x,t,rfl,rfl⟩
  ·rcases zU hv with ⟨j,u,rfl,rfl⟩ | ⟨y,u,rfl,rfl⟩
   ·rw [zmm] at h; exact wpAny_eqBool_int h
   ·rw [zmo] at h; exact SeqAt.EqAt.int_str i t y u _ _ _ _ h
  ·rcases zU hv with ⟨j,u,rfl,rfl⟩ | ⟨y,u,rfl,rfl⟩
   ·rw [zmp] at h; exact SeqAt.EqAt.str_int x t j u _ _ _ _ h
   ·rw [zmn] at h; exact wpAny_eqBool_str h
 «strs»:=fun k x t v h=>by
  rcases zU h with ⟨i,u,rfl,e⟩ | ⟨y,u,rfl,e⟩
  ·exact nomatch e
  ·injection e with e1 _
   subst e1
   cases v <;> rfl
theorem zdl (prog:Program) (w:World) (k:Key) (v:Value):(zR prog w).is k v = zfk k v:=rfl
theorem zfl (prog:Program) (w:World) (i:Int) (t:Tok):(zR prog w).is (.inl i) (.int i t) = true:=zhu i t
theorem za9 (prog:Program) (w:World) (x:Str) (t:Tok):(zR prog w).is (.inr x) (.str x t) = true:=zhv x t
inductive V where
 | non | bl (b:Bool) | int (i:Int) | str (x:Str) | byt (b:Array UInt8) | flt (b:UInt64) | ref (a:Addr) | ty (n:String)
 deriving DecidableEq
def RelV:V->Value->Prop
 | .non,u=>u = Value.none
 | .bl b,u=>u = Value.bool b
 | .int i,u=>∃ t,u = Value.int i t
 | .str x,u=>∃ t,u = Value.str x t
 | .byt b,u=>∃ t,u = Value.bytes b t
 | .flt b,u=>∃ t,u = Value.float b t
 | .ref a,u=>u = Value.ref a
 | .ty n,u=>u = Value.type n
abbrev Vals:List V->List Value->Prop:=Paired RelV
theorem Vals.length {xs:List V}{us:List Value} (r:Vals xs us):xs.length = us.length:=Paired.length r
theorem Vals.get:∀ {xs:List V}{us:List Value}{i:Nat}{x:V},Vals xs us->xs[i]? = some x->∃ u,us[i]? = some u/\RelV x u
 | _,_,_,_,.nil,e=>by simp at e
 | _,_,0,_,.cons r _,e=>by simp at e; subst e; exact ⟨_,rfl,r⟩
 | _,_,i + 1,x,.cons _ t,e=>by
  obtain ⟨u,h1,h2⟩:=Vals.get (i:=i) (x:=x) t (by simpa using e)
  exact ⟨u,by simpa using h1,h2⟩
theorem Vals.set {x:V}{u:Value} (r:RelV x u):∀ {xs:List V}{us:List Value} (i:Nat),Vals xs us->Vals (xs.set i x) (us.set i u)
 | _,_,_,.nil=>.nil
 | _,_,0,.cons _ t=>.cons r t
 | _,_,i + 1,.cons q t=>.cons q (Vals.set r i t)
theorem Vals.append:∀ {xs ys:List V}{us ws:List Value},Vals xs us->Vals ys ws->Vals (xs ++ ys) (us ++ ws)
 | _,_,_,_,.nil,s=>s
 | _,_,_,_,.cons r t,s=>.cons r (Vals.append t s)
theorem Vals.take:∀ {xs:List V}{us:List Value} (n:Nat),Vals xs us->Vals (xs.take n) (us.take n)
 | _,_,0,_=>.nil
 | _,_,_ + 1,.nil=>.nil
 | _,_,n + 1,.cons r t=>.cons r (Vals.take n t)
theorem Vals.drop:∀ {xs:List V}{us:List Value} (n:Nat),Vals xs us->Vals (xs.drop n) (us.drop n)
 | _,_,0,r=>r
 | _,_,_ + 1,.nil=>.nil
 | _,_,n + 1,.cons _ t=>Vals.drop n t
def RelO:Option V->Option Value->Prop
 | some v,some u=>RelV v u
 | none,none=>True
 | _,_=>False
def KV {κ:Type}:List (κ × V)->List (κ × Value)->Prop:=Paired fun (p:κ × V) (q:κ × Value)=>p.1 = q.1/\RelV p.2 q.2
def kV:Key->V
 | .inl i=>.int i
 | .inr x=>.str x
inductive HO where
 | lst (xs:List V)
 | tup (xs:List V)
 | dK (kvs:List (Key × V)) | dT (kvs:List (List Key × V))
 | set (S:Int->Bool) (n:Nat)
 | ins (C dx:Addr) (fs:List (Str × V))
 | own (x:Addr)
 | xd (fs:List (Str × V))
 | met (f x:Addr)
 | rng (lo hi:Int)
 | frz (o:Obj) (u:HO)
 | tbl (ps:Array Value)
 | ext (φ:Heap->Prop)
abbrev Hp:=Addr->Option HO
def upd (H:Hp) (a:Addr) (o:HO):Hp:=fun b=>if b = a then some o else H b
theorem zh {H:Hp}{a:Addr}{o:HO}:upd H a o a = some o:=by unfold upd; rw [if_pos rfl]
theorem zr {H:Hp}{a b:Addr}{o:HO} (h:b≠a):upd H a o b = H b:=by unfold upd; rw [if_neg h]
theorem zk5 {H:Hp}{a b:Addr}{o u:HO} (h:H a = some o) (h':H b = some u) (d:o≠u):a≠b:=by
 intro e; subst e; rw [h] at h'; exact d (Option.some.inj h')
theorem zm {H:Hp}{a b:Addr}{o:HO} (h:H a = some o) (h':H b = none):a≠b:=by
 intro e; subst e; rw [h] at h'; cases h'
section
variable (P:Program) (w:World)
def Zg (H:Hp) (h:Heap) (a:Addr):HO->Prop
 | .lst xs=>xs.length<=sizeLine/\∃ (its:List Value) (n:Nat),Vals xs its/\h.get? a = some { cls:=.type "list",data:=.seq its.toArray n }
 | .tup xs=>xs.length<=sizeLine/\∃ its:List Value,Vals xs its/\IsTup h a its.toArray
 | .dK kvs=>kvs.length<=sizeLine/\(a == sysModules) = false/\∃ vs,KV kvs vs/\h.DictOf (zR P w) a vs
 | .dT kvs=>kvs.length<=sizeLine/\(a == sysModules) = false/\∃ xs:List (List Key × Addr × Value),
   Paired (fun (p:List Key × V) (q:List Key × Addr × Value)=>p.1 = q.1/\H q.2.1 = some (.tup (p.1.map kV))/\RelV p.2 q.2.2) kvs xs /\
   ∃ o es ep,h.get? a = some o/\o.ExactDict/\o.data = .dict es ep/\es.toList = xs.map (entryOfKey (tupleKind (zR P w)))/\(xs.map (·.1)).Nodup
 | .set S n=>h.SetOf (intKind P w) a S n
 | .ins C dx fs=>H dx = some (.own a)/\fs.length<=1000/\dx≠a/\h.get? a = some (instObj C dx) /\
   ∃ mA,h.Ns1 dx mA/\(∀ f,RelO (fs.lookup f) (mA f))/\PySem.Within mA (fs.map (·.1))
 | .own _=>∃ o,h.get? a = some o
 | .xd fs=>∃ mA,h.Ns1 a mA/\∀ f,RelO (fs.lookup f) (mA f)
 | .rng lo hi=>∃ t u v,h.get? a = some { cls:=.type "range",data:=.fields #[.int lo t,.int hi u,.int 1 v] }
 | .frz o u=>h.get? a = some o/\Zg H h a u
 | .tbl ps=>h.get? a = some { cls:=.none,data:=.fields ps }
 | .met f x=>h.get? a = some (methodObj (.ref f) (.ref x))
 | .ext φ=>φ h/\(∃ o,h.get? a = some o)/\∀ h1 h2:Heap,φ h1->(∀ o,h1.get? a = some o->h2.get? a = some o)->φ h2
def HOk (H:Hp) (h:Heap):Prop:=∀ a o,H a = some o->Zg P w H h a o
end
section
variable {P:Program}{w:World}{H H':Hp}{h h':Heap}{a:Addr}{o:HO}
theorem Zg.lt (x:Zg P w H h a o):a < h.objs.size:=by
 cases o with
 | lst xs=>obtain ⟨_,_,_,_,e⟩:=x; exact Heap.lt_size e
 | tup xs=>obtain ⟨_,_,_,p⟩:=x; exact p.lt
 | dK kvs=>obtain ⟨_,_,_,_,o,_,_,e,_⟩:=x; exact Heap.lt_size e
 | dT kvs=>obtain ⟨_,_,_,_,o,_,_,e,_⟩:=x; exact Heap.lt_size e
 | set S n=>obtain ⟨o,_,_,_,e,_⟩:=x; exact Heap.lt_size e
 | ins C dx fs=>obtain ⟨_,_,_,e,_⟩:=x; exact Heap.lt_size e
 | own y=>obtain ⟨_,e⟩:=x; exact Heap.lt_size e
 | xd fs=>obtain ⟨_,⟨_,_,_,e,_⟩,_⟩:=x; exact Heap.lt_size e
 | rng lo hi=>obtain ⟨_,_,_,e⟩:=x; exact Heap.lt_size e
 | frz ob u=>obtain ⟨e,_⟩:=x; exact Heap.lt_size e
 | tbl ps=>exact Heap.lt_size (show h.get? a = some _ from x)
 | met f y=>exact Heap.lt_size (show h.get? a = some _ from x)
 | ext φ=>obtain ⟨_,⟨_,e⟩,_⟩:=x; exact Heap.lt_size e
theorem Paired.mapP {α β:Type}{F G:α->β->Prop}:∀ {l₁:List α}{l₂:List β},Paired F l₁ l₂->(∀ a b,F a b->G a b)->Paired G l₁ l₂
 | _,_,.nil,_=>.nil
 | _,_,.cons r t,f=>.cons (f _ _ r) (Paired.mapP t f)
theorem Zg.stay (x:Zg P w H h a o) (k:∀ b u,(b = a\/H b = some (.own a))->h.get? b = some u->h'.get? b = some u)
  (ho:∀ b,H b = some (.own a)->H' b = some (.own a)) (ht:∀ b xs,H b = some (.tup xs)->H' b = some (.tup xs)):Zg P w H' h' a o:=by
 induction o with
 | lst xs=>obtain ⟨z,its,n,r,e⟩:=x; exact ⟨z,its,n,r,k _ _ (.inl rfl) e⟩
 | tup xs=>obtain ⟨z,its,r,ob,e,c⟩:=x; exact ⟨z,its,r,ob,k _ _ (.inl rfl) e,c⟩
 | dK kvs=>obtain ⟨z,y,vs,r,ob,es,ep,e,c⟩:=x; exact ⟨z,y,vs,r,ob,es,ep,k _ _ (.inl rfl) e,c⟩
 | dT kvs=>
  obtain ⟨z,y,xs,r,ob,es,ep,e,c⟩:=x
  exact ⟨z,y,xs,Paired.mapP r fun p q z=>⟨z.1,ht _ _ z.2.1,z.2.2⟩,ob,es,ep,k _ _ (.inl rfl) e,c⟩
 | set S n=>obtain ⟨ob,es,ep,t,e,c⟩:=x; exact ⟨ob,es,ep,t,k _ _ (.inl rfl) e,c⟩
 | ins C dx fs=>
  obtain ⟨d,z,ne,e,mA,⟨od,es,ep,e2,c⟩,r⟩:=x
  exact ⟨ho _ d,z,ne,k _ _ (.inl rfl) e,mA,⟨od,es,ep,k _ _ (.inr d) e2,c⟩,r⟩
 | own y=>obtain ⟨ob,e⟩:=x; exact ⟨ob,k _ _ (.inl rfl) e⟩
 | xd fs=>obtain ⟨mA,⟨od,es,ep,e,c⟩,r⟩:=x; exact ⟨mA,⟨od,es,ep,k _ _ (.inl rfl) e,c⟩,r⟩
 | rng lo hi=>obtain ⟨t,u,v,e⟩:=x; exact ⟨t,u,v,k _ _ (.inl rfl) e⟩
 | frz ob u ih=>obtain ⟨e,q⟩:=x; exact ⟨k _ _ (.inl rfl) e,ih q⟩
 | tbl ps=>
  have e:h.get? a = some { cls:=.none,data:=.fields ps }:=x
  show h'.get? a = some { cls:=.none,data:=.fields ps }
  exact k a _ (.inl rfl) e
 | met f y=>
  have e:h.get? a = some (methodObj (.ref f) (.ref y)):=x
  show h'.get? a = some (methodObj (.ref f) (.ref y))
  exact k a _ (.inl rfl) e
 | ext φ=>obtain ⟨p,⟨o,e⟩,st⟩:=x; exact ⟨st _ _ p fun o q=>k _ _ (.inl rfl) q,⟨o,k _ _ (.inl rfl) e⟩,st⟩
theorem HOk.lt (x:HOk P w H h) (e:H a = some o):a < h.objs.size:=(x a o e).lt
theorem HOk.fresh (x:HOk P w H h) (e:h.objs.size<=a):H a = none:=by
 cases q:H a with
 | none=>rfl
 | some u=>exact absurd (Nat.lt_of_lt_of_le (x.lt q) e) (Nat.lt_irrefl _)
theorem HOk.kept (x:HOk P w H h) (k:∀ b u,h.get? b = some u->h'.get? b = some u):HOk P w H h':=fun a o e=>
 (x a o e).stay (fun b u _ q=>k b u q) (fun _ q=>q) fun _ _ q=>q
theorem HOk.laid (x:HOk P w H h) (k:∀ b u,h.get? b = some u->h'.get? b = some u) (hp:h.objs.size<=a) (new:Zg P w (upd H a o) h' a o):HOk P w (upd H a o) h':=fun b u e=>by
 have hn:=x.fresh hp
 by_cases hb:b = a
 ·subst hb; rw [zh] at e; cases e; exact new
 ·rw [zr hb] at e
  exact (x b u e).stay (fun c v _ q=>k c v q) (fun c q=>by rw [zr (zm q hn)]; exact q) fun c xs q=>by rw [zr (zm q hn)]; exact q
end
def Rd (H:Hp) (a:Addr) (u:HO):Prop:=H a = some u\/∃ o,H a = some (.frz o u)
theorem Rd.ok {P:Program}{w:World}{H:Hp}{h:Heap}{a:Addr}{u:HO} (r:Rd H a u) (x:HOk P w H h):Zg P w H h a u:=by
 rcases r with r | ⟨o,r⟩
 ·exact x a u r
 ·obtain ⟨_,q⟩:=x a _ r
  exact q
def Mut:Option HO->Prop
 | some (.lst _)=>True
 | some (.dK _)=>True
 | some (.dT _)=>True
 | some (.set _ _)=>True
 | some (.ins _ _ _)=>True
 | some (.ext _)=>True
 | _=>False
section
variable {P:Program}{w:World}{H:Hp}{h h':Heap}{x e:Addr}{o':HO}
theorem HOk.write (ok:HOk P w H h) (mu:Mut (H x)) (he:e = x\/H e = some (.own x)) (k:∀ b u,b≠e->h.get? b = some u->h'.get? b = some u) (heo:∃ u,h'.get? e = some u)
  (new:Zg P w (upd H x o') h' x o'):HOk P w (upd H x o') h':=fun b u q=>by
 have nown:∀ c y,H c = some (.own y)->c≠x:=fun c y r z=>by subst z; rw [r] at mu; exact mu
 have ntup:∀ c xs,H c = some (.tup xs)->c≠x:=fun c xs r z=>by subst z; rw [r] at mu; exact mu
 by_cases hb:b = x
 ·subst hb; rw [zh] at q; cases q; exact new
 ·rw [zr hb] at q
  by_cases hbe:b = e
  ·have q':H b = some (.own x):=by
    rcases he with z | z
    ·exact absurd (hbe.trans z) hb
    ·rw [hbe]; exact z
   rw [q] at q'; cases q'
   obtain ⟨v,hv⟩:=heo
   exact ⟨v,by rw [hbe]; exact hv⟩
  ·refine (ok b u q).stay (fun c v hc r=>k c v ?_ r) (fun c r=>by rw [zr (nown c b r)]; exact r) fun c xs r=>by rw [zr (ntup c xs r)]; exact r
   rcases hc with rfl | hc
   ·exact hbe
   ·rintro rfl
    rcases he with z | z
    ·exact nown c b hc z
    ·rw [hc] at z; cases z; exact hb rfl
end
structure Un (fs ex:List Addr) (H H':Hp) (h h':Heap):Prop where
 keep:∀ b o,h.get? b = some o->H b = none->b ∉ fs->b ∉ ex->h'.get? b = some o
 slot:∀ b o,h.get? b = some o->H b = none->b∈fs->b ∉ ex->∃ sl,h'.get? b = some { o with slots:=sl }
 free:∀ b o,h.get? b = some o->H b = none->b ∉ ex->H' b = none
 there:∀ b o,h.get? b = some o->b ∉ ex->∃ o',h'.get? b = some o'
 tups:∀ b xs,H b = some (.tup xs)->H' b = some (.tup xs)
 frzs:∀ b o u,H b = some (.frz o u)->H' b = some (.frz o u)
 tbls:∀ b ps,H b = some (.tbl ps)->∃ more,H' b = some (.tbl (ps ++ more))
section
variable {fs fs' ex ex':List Addr}{H H1 H2:Hp}{h h1 h2 h':Heap}{a x e:Addr}{o:HO}
theorem Un.any (u:Un fs ex H H1 h h1) {b:Addr}{ob:Obj} (q:h.get? b = some ob) (n:H b = none) (hx:b ∉ ex):∃ sl,h1.get? b = some { ob with slots:=sl }:=by
 by_cases hb:b∈fs
 ·exact u.slot b ob q n hb hx
 ·exact ⟨ob.slots,u.keep b ob q n hb hx⟩
theorem Un.kept (k:∀ b u,h.get? b = some u->h'.get? b = some u):Un fs ex H H h h':=
 ⟨fun b ob q _ _ _=>k b ob q,fun b ob q _ _ _=>⟨ob.slots,k b ob q⟩,fun _ _ _ n _=>n,fun b ob q _=>⟨ob,k b ob q⟩,fun _ _ q=>q,fun _ _ _ q=>q,fun _ ps q=>⟨#[],by rw [q]; simp⟩⟩
theorem Un.refl:Un fs ex H H h h:=Un.kept fun _ _ q=>q
theorem Un.laid (k:∀ b u,h.get? b = some u->h'.get? b = some u) (hp:h.objs.size<=a) (hn:H a = none):Un fs ex H (upd H a o) h h' where
 keep:=fun b u q _ _ _=>k b u q
 slot:=fun b u q _ _ _=>⟨u.slots,k b u q⟩
 free:=fun b u q n _=>by rw [zr (Nat.ne_of_lt (Nat.lt_of_lt_of_le (Heap.lt_size q) hp))]; exact n
 there:=fun b u q _=>⟨u,k b u q⟩
 tups:=fun b xs q=>by rw [zr (zm q hn)]; exact q
 frzs:=fun b u xs q=>by rw [zr (zm q hn)]; exact q
 tbls:=fun b ps q=>⟨#[],by rw [zr (zm q hn),q]; simp⟩
theorem Un.write (mu:Mut (H x)) (he:e = x\/H e = some (.own x)) (k:∀ b u,b≠e->h.get? b = some u->h'.get? b = some u) (heo:∃ u,h'.get? e = some u):Un fs ex H (upd H x o) h h':=by
 have hx:∀ b,H b = none->b≠x:=fun b n z=>by subst z; rw [n] at mu; exact mu
 have hb:∀ b,H b = none->b≠e:=fun b n z=>by
  subst z
  rcases he with r | r
  ·exact hx b n r
  ·rw [n] at r; cases r
 have hm:∀ b u,H b = some u->¬ Mut (some u)->b≠x:=fun b u q nm z=>by subst z; rw [q] at mu; exact nm mu
 refine ⟨fun b u q n _ _=>k b u (hb b n) q,fun b u q n _ _=>⟨u.slots,k b u (hb b n) q⟩,fun b u q n _=>by rw [zr (hx b n)]; exact n,fun b u q _=>?_,
  fun b xs q=>by rw [zr (hm b _ q fun z=>z)]; exact q,fun b u xs q=>by rw [zr (hm b _ q fun z=>z)]; exact q,fun b ps q=>⟨#[],by rw [zr (hm b _ q fun z=>z),q]; simp⟩⟩
 by_cases hbe:b = e
 ·subst hbe; exact heo
 ·exact ⟨u,k b u hbe q⟩
end
def trk (h:Heap) (H:Hp):List Addr:=(List.range h.objs.size).filter fun a=>(H a).isSome
def hidT (h:Heap) (H:Hp):Heap:=PySem.W.hideAll h (trk h H)
theorem zhw (h:Heap) (H:Hp):(hidT h H).objs.size = h.objs.size:=PySem.W.hideAll_size _ _
theorem zjw {h:Heap}{H:Hp}{b:Addr}{o:Obj} (e:h.get? b = some o) (n:H b = none):(hidT h H).get? b = some o:=
 PySem.W.hideAll_get _ e fun hm=>by
  have q:(H b).isSome = true:=(List.mem_filter.mp hm).2
  rw [n] at q; simp at q
theorem zk6 {h:Heap}{H:Hp}{b:Addr}{o:Obj} (e:(hidT h H).get? b = some o):h.get? b = some o/\H b = none:=by
 have e':h.get? b = some o:=PySem.W.of_hideAll (trk h H) e
 refine ⟨e',?_⟩
 cases q:H b with
 | none=>rfl
 | some x=>
  have hm:b∈trk h H:=List.mem_filter.mpr ⟨List.mem_range.mpr (Heap.lt_size e'),by simp [q]⟩
  have z:(hidT h H).get? b = none:=PySem.W.hideAll_none (trk h H) hm
  rw [z] at e; cases e
def zk7 (g h:Heap) (L:Addr):List (Addr × Obj):=(List.range h.objs.size).filterMap fun a=>if a = L\/(g.get? a).isSome = true then none else (h.get? a).map fun o=>(a,o)
def rest (g h:Heap) (L d:Addr):List (Addr × Obj):=(zk7 g h L).filter fun p=>decide (p.1≠d)
structure Mod (K:PySem.W.Frag) (mg:Str->Option Value) (base:Heap):Prop where
 kin:K.In base
 glob:base.Ns mainGlobals mg
 blt:∃ mb,base.Ns builtinsNs mb/\∀ x:Str,x≠"__name__"->mb x = bootBuiltins x
 nolimit:base.NoLimit
structure Cx where
 prog:Program
 w:World
 K:PySem.W.Frag
 mg:Str->Option Value
 base:Heap
 A:Around
 N:List Str
 s₀:Shared
 H₀:Hp
 env:Env
 outer:List Env
 stack:List Env
 ex:List Addr
 fn:Str->Bool
 calm:Bool
 pn:List (Addr × Obj)
 xe:Value->Shared->Prop
def frs (l:List Env):List Addr:=l.filterMap (·.frame)
abbrev Cx.fs (X:Cx):List Addr:=frs X.outer
def Vis (sc:Scope) (x:Str):Prop:=sc.names.lookup x = some .local\/sc.names.lookup x = some .cell\/sc.names.lookup x = some .free
def Loc (sc:Scope) (x:Str):Prop:=sc.names.lookup x = some .local\/sc.names.lookup x = some .cell
def Look (env:Env) (h:Heap) (m:Str->Option Value) (x:Str) (u:Value):Prop:=
 (env.kindOf x = some .local/\m x = some u)\/((env.kindOf x = some .cell\/env.kindOf x = some .free)/\∃ c,env.cells.lookup x = some c/\h.IsCell c (some u))
structure Cx.Ok (X:Cx):Prop where
 mod:Mod X.K X.mg X.base
 kind:X.env.scope.kind = .function
 glob:X.env.globals = mainGlobals
 blt:X.env.builtins = builtinsNs
 above:X.s₀.heap.objs.size<=X.env.locals
 inj:∀ x y c,X.env.cells.lookup x = some c->X.env.cells.lookup y = some c->x = y
 has:∀ x,(X.env.kindOf x = some .cell\/X.env.kindOf x = some .free)->∃ c,X.env.cells.lookup x = some c
 cab:∀ x c,X.fn x = true->X.env.cells.lookup x = some c->X.s₀.heap.objs.size<=c
 hd:X.calm = true->X.A.handled = none
 frames:X.A.frames = some X.stack
 stk:X.stack = X.outer\/(X.stack = X.env :: X.outer/\X.env.frame = some X.env.locals)
 exf:∀ b∈X.ex,b≠X.env.locals/\∀ x c,X.env.cells.lookup x = some c->c≠b
 bs:∀ b o,X.base.get? b = some o->X.s₀.heap.get? b = some o/\X.H₀ b = none
 bsz:X.base.objs.size<=X.s₀.heap.objs.size
 noex:∀ b o,X.base.get? b = some o->b ∉ X.ex
 exfs:∀ b∈X.ex,b ∉ X.fs
 funs:X.s₀.heap.FunFrames X.base X.outer
 frf:∀ b∈X.fs,X.H₀ b = none
structure Inv (X:Cx) (zp:List (Addr × Obj)) (σ:List (Option V)) (H:Hp) (s:Shared):Prop where
 ok:X.Ok
 os:s.os = X.s₀.os
 bare:AllBare s.gens
 base:Un X.fs X.ex X.H₀ H X.s₀.heap s.heap
 loc:∃ m,s.heap.Ns X.env.locals m/\∀ (i:Nat) (x:Str) (v:V),X.N[i]? = some x->σ[i]? = some (some v)->Vis X.env.scope x->∃ u,RelV v u/\Look X.env s.heap m x u
 cell:∀ x c,X.env.cells.lookup x = some c->∃ v,s.heap.IsCell c v
 free:H X.env.locals = none
 freeC:∀ x c,X.env.cells.lookup x = some c->H c = none
 pin:∀ p∈X.pn ++ zp,s.heap.get? p.1 = some p.2/\H p.1 = none/\p.1≠X.env.locals/\p.1 ∉ X.fs/\∀ v,p.2.data≠.cell v
 hok:HOk X.prog X.w H s.heap
 len:σ.length = X.N.length
section
variable {X:Cx}{zp:List (Addr × Obj)}{σ:List (Option V)}{H H':Hp}{s:Shared}{h':Heap}
theorem Cx.Ok.nofr (ok:X.Ok) {b:Addr}{o:Obj} (e:X.base.get? b = some o):b ∉ X.fs:=fun hb=>by
 have:=(ok.funs.mem hb).1
 rw [e] at this; cases this
theorem Inv.bs (I:Inv X zp σ H s):∀ b o,X.base.get? b = some o->s.heap.get? b = some o/\H b = none:=fun b o e=>
 ⟨I.base.keep b o (I.ok.bs b o e).1 (I.ok.bs b o e).2 (I.ok.nofr e) (I.ok.noex b o e),I.base.free b o (I.ok.bs b o e).1 (I.ok.bs b o e).2 (I.ok.noex b o e)⟩
theorem Inv.bk (I:Inv X zp σ H s):∀ b o,X.base.get? b = some o->s.heap.get? b = some o:=fun b o e=>(I.bs b o e).1
theorem Inv.mod (I:Inv X zp σ H s):Mod X.K X.mg X.base:=I.ok.mod
theorem Inv.kIn (I:Inv X zp σ H s):X.K.In s.heap:=I.ok.mod.kin.keeps I.bk
theorem Inv.lt (I:Inv X zp σ H s):X.env.locals < s.heap.objs.size:=let ⟨_,hn,_⟩:=I.loc; hn.lt
theorem Inv.sz (I:Inv X zp σ H s):X.s₀.heap.objs.size<=s.heap.objs.size:=Nat.le_trans I.ok.above (Nat.le_of_lt I.lt)
theorem Inv.nofs (I:Inv X zp σ H s) {a:Addr} (h:s.heap.objs.size<=a):a ∉ X.fs:=fun hb=>by
 obtain ⟨_,o,ho,_⟩:=I.ok.funs.mem hb
 exact absurd (Nat.lt_of_lt_of_le (Heap.lt_size ho) (Nat.le_trans I.sz h)) (Nat.lt_irrefl _)
theorem Inv.cne (I:Inv X zp σ H s):∀ x c,X.env.cells.lookup x = some c->c≠X.env.locals:=fun x c e z=>by
 obtain ⟨v,o,ho,hd⟩:=I.cell x c e
 obtain ⟨m,⟨o',es,ep,ho',hd',_⟩,_⟩:=I.loc
 rw [z,ho'] at ho; cases ho; rw [hd'] at hd; cases hd
theorem Inv.funs (I:Inv X zp σ H s):s.heap.FunFrames X.base X.outer:=by
 have all:∀ (l:List Env),(∀ b∈frs l,b∈X.fs)->X.s₀.heap.FunFrames X.base l->s.heap.FunFrames X.base l:=by
  intro l
  induction l with
  | nil=>intro _ _; trivial
  | cons env r ih=>
   intro hs hl
   obtain ⟨hk,⟨L,o,hf,hn,ho,hd⟩,hr⟩:=hl
   have hL:L∈X.fs:=hs L (by unfold frs; rw [List.filterMap_cons,hf]; exact List.mem_cons_self)
   obtain ⟨sl,e⟩:=I.base.slot L o ho (I.ok.frf L hL) hL fun z=>I.ok.exfs L z hL
   exact ⟨hk,⟨L,_,hf,hn,e,hd⟩,ih (fun b hb=>hs b (by unfold frs; rw [List.filterMap_cons,hf]; exact List.mem_cons_of_mem _ hb)) hr⟩
 exact all X.outer (fun _ hb=>hb) I.ok.funs
theorem Inv.stack (I:Inv X zp σ H s):s.heap.FunFrames X.base X.stack:=by
 rcases I.ok.stk with e | ⟨e,hf⟩
 ·rw [e]; exact I.funs
 ·rw [e]
  obtain ⟨m,hn,_⟩:=I.loc
  refine .cons (by rw [I.ok.kind]; decide) hf hn ?_ I.funs
  exact Heap.get?_none_of_le (Nat.le_trans I.ok.bsz I.ok.above)
theorem Inv.stkSub (I:Inv X zp σ H s):∀ b∈frs X.stack,b∈X.env.locals :: X.fs:=fun b hb=>by
 rcases I.ok.stk with e | ⟨e,hf⟩
 ·rw [e] at hb; exact List.mem_cons_of_mem _ hb
 ·rw [e] at hb
  unfold frs at hb
  rw [List.filterMap_cons,hf] at hb
  exact hb
theorem Inv.stkFree (I:Inv X zp σ H s):∀ b∈frs X.stack,H b = none:=fun b hb=>by
 rcases List.mem_cons.mp (I.stkSub b hb) with e | hb
 ·rw [e]; exact I.free
 ·obtain ⟨_,o,ho,_⟩:=I.ok.funs.mem hb
  exact I.base.free b o ho (I.ok.frf b hb) fun z=>I.ok.exfs b z hb
theorem Inv.step {g':Array GenState}{t':Nat}{d':Drawn}{ch:List Addr} (I:Inv X zp σ H s)
  (hch:∀ b∈ch,(b∈X.ex\/X.s₀.heap.objs.size<=b)/\b≠X.env.locals/\(∀ x c,X.env.cells.lookup x = some c->c≠b)/\∀ p∈X.pn ++ zp,p.1≠b)
  (keep:∀ b o,b≠X.env.locals->b ∉ X.fs->b ∉ ch->s.heap.get? b = some o->H b = none->h'.get? b = some o)
  (slot:∀ b o,b≠X.env.locals->b∈X.fs->b ∉ ch->s.heap.get? b = some o->H b = none->∃ sl,h'.get? b = some { o with slots:=sl }) (free:∀ b o,b ∉ ch->s.heap.get? b = some o->H b = none->H' b = none)
  (there:∀ b o,b ∉ ch->s.heap.get? b = some o->∃ o',h'.get? b = some o')
  (tups:∀ b xs,H b = some (.tup xs)->H' b = some (.tup xs)) (frzs:∀ b o u,H b = some (.frz o u)->H' b = some (.frz o u)) (tbls:∀ b ps,H b = some (.tbl ps)->∃ more,H' b = some (.tbl (ps ++ more)))
  (ns:∀ m,s.heap.Ns X.env.locals m->h'.Ns X.env.locals m) (hok:HOk X.prog X.w H' h') (hg:AllBare g'):
  Inv X zp σ H' { s with heap:=h',gens:=g',drawn:=d',toks:=t' }:=by
 have neL:∀ b o,X.s₀.heap.get? b = some o->b≠X.env.locals:=fun b o e=>Nat.ne_of_lt (Nat.lt_of_lt_of_le (Heap.lt_size e) I.ok.above)
 have neC:∀ b o,X.s₀.heap.get? b = some o->b ∉ X.ex->b ∉ ch:=fun b o e hx hb=>by
  rcases (hch b hb).1 with z | z
  ·exact hx z
  ·exact absurd (Nat.lt_of_lt_of_le (Heap.lt_size e) z) (Nat.lt_irrefl _)
 have cellK:∀ x c,X.env.cells.lookup x = some c->∀ v,s.heap.IsCell c v->h'.IsCell c v:=fun x c e v ⟨o,ho,hd⟩=>by
  have nch:c ∉ ch:=fun z=>(hch c z).2.2.1 x c e rfl
  by_cases hc:c∈X.fs
  ·obtain ⟨sl,q⟩:=slot c o (I.cne x c e) hc nch ho (I.freeC x c e)
   exact ⟨_,q,hd⟩
  ·exact ⟨o,keep c o (I.cne x c e) hc nch ho (I.freeC x c e),hd⟩
 refine ⟨I.ok,I.os,hg,⟨fun b o e n hb hx=>?_,fun b o e n hb hx=>?_,fun b o e n hx=>?_,fun b o e hx=>?_,fun b xs e=>tups b xs (I.base.tups b xs e),fun b o xs e=>frzs b o xs (I.base.frzs b o xs e),fun b ps e=>?_⟩,?_,fun x c e=>?_,?_,fun x c e=>?_,fun p hp=>?_,hok,I.len⟩
 ·exact keep b o (neL b o e) hb (neC b o e hx) (I.base.keep b o e n hb hx) (I.base.free b o e n hx)
 ·obtain ⟨sl,e1⟩:=I.base.slot b o e n hb hx
  obtain ⟨sl',e2⟩:=slot b _ (neL b o e) hb (neC b o e hx) e1 (I.base.free b o e n hx)
  exact ⟨sl',e2⟩
 ·obtain ⟨o',e1⟩:=I.base.there b o e hx
  exact free b o' (neC b o e hx) e1 (I.base.free b o e n hx)
 ·obtain ⟨o',e1⟩:=I.base.there b o e hx
  exact there b o' (neC b o e hx) e1
 ·obtain ⟨m1,e1⟩:=I.base.tbls b ps e
  obtain ⟨m2,e2⟩:=tbls b _ e1
  exact ⟨m1 ++ m2,by rw [e2,Array.append_assoc]⟩
 ·obtain ⟨m,hn,hl⟩:=I.loc
  refine ⟨m,ns m hn,fun i x v e1 e2 e3=>?_⟩
  obtain ⟨u,r,l⟩:=hl i x v e1 e2 e3
  refine ⟨u,r,?_⟩
  rcases l with l | ⟨k,c,e,z⟩
  ·exact .inl l
  ·exact .inr ⟨k,c,e,cellK x c e _ z⟩
 ·obtain ⟨v,z⟩:=I.cell x c e
  exact ⟨v,cellK x c e v z⟩
 ·obtain ⟨m,⟨o,_,_,ho,_⟩,_⟩:=I.loc
  exact free _ o (fun z=>(hch _ z).2.1 rfl) ho I.free
 ·obtain ⟨v,o,ho,hd⟩:=I.cell x c e
  exact free c o (fun z=>(hch c z).2.2.1 x c e rfl) ho (I.freeC x c e)
 ·obtain ⟨e,n,ne,nf,d⟩:=I.pin p hp
  have nch:p.1 ∉ ch:=fun z=>(hch p.1 z).2.2.2 p hp rfl
  exact ⟨keep p.1 p.2 ne nf nch e n,free p.1 p.2 nch e n,ne,nf,d⟩
theorem Inv.un {t':Nat} (I:Inv X zp σ H s) (u:Un X.fs [] H H' s.heap h') (hok:HOk X.prog X.w H' h'):Inv X zp σ H' { s with heap:=h',toks:=t' }:=by
 obtain ⟨m,⟨o,es,ep,ho,r⟩,_⟩:=id I.loc
 obtain ⟨sl,hL⟩:=u.any ho I.free (by simp)
 exact I.step (g':=s.gens) (d':=s.drawn) (ch:=[]) (fun _ z=>nomatch z) (fun b o _ hb _ e n=>u.keep b o e n hb (by simp)) (fun b o _ hb _ e n=>u.slot b o e n hb (by simp)) (fun b o _ e n=>u.free b o e n (by simp)) (fun b o _ e=>u.there b o e (by simp)) u.tups u.frzs u.tbls (fun m' hm=>by
  obtain ⟨o',es',ep',ho',r'⟩:=hm
  rw [ho] at ho'; cases ho'
  exact ⟨_,es',ep',hL,r'⟩) hok I.bare
theorem Inv.call {g':Array GenState}{t':Nat}{d':Drawn}{ch:List Addr} (I:Inv X zp σ H s) (u:Un (frs X.stack) ch H H' s.heap h') (hok:HOk X.prog X.w H' h') (hg:AllBare g')
  (hch:∀ b∈ch,(b∈X.ex\/X.s₀.heap.objs.size<=b)/\b≠X.env.locals/\(∀ x c,X.env.cells.lookup x = some c->c≠b)/\∀ p∈X.pn ++ zp,p.1≠b):
  Inv X zp σ H' { s with heap:=h',gens:=g',drawn:=d',toks:=t' }:=by
 obtain ⟨m,⟨o,es,ep,ho,r⟩,_⟩:=id I.loc
 obtain ⟨sl,hL⟩:=u.any ho I.free fun z=>(hch _ z).2.1 rfl
 exact I.step (ch:=ch) hch (fun b o hL hb hc e n=>u.keep b o e n (fun z=>(List.mem_cons.mp (I.stkSub b z)).elim hL hb) hc) (fun b o _ _ hc e n=>u.any e n hc) (fun b o hc e n=>u.free b o e n hc) (fun b o hc e=>u.there b o e hc) u.tups u.frzs u.tbls (fun m' hm=>by
  obtain ⟨o',es',ep',ho',r'⟩:=hm
  rw [ho] at ho'; cases ho'
  exact ⟨_,es',ep',hL,r'⟩) hok hg
theorem Inv.turned {t':Nat}{it:Addr} (I:Inv X zp σ H s) (k:∀ b o,b≠it->s.heap.get? b = some o->h'.get? b = some o) (hn:H it = none) (hL:it≠X.env.locals)
  (h1:it∈X.ex\/X.s₀.heap.objs.size<=it) (h2:∀ x c,X.env.cells.lookup x = some c->c≠it) (h3:∀ p∈X.pn ++ zp,p.1≠it):Inv X zp σ H { s with heap:=h',toks:=t' }:=by
 have nit:∀ b u,H b = some u->b≠it:=fun b u e z=>by rw [z,hn] at e; cases e
 refine I.step (g':=s.gens) (d':=s.drawn) (ch:=[it]) (fun b hb=>?_) (fun b o _ _ hc e _=>k b o (fun z=>hc (by simp [z])) e) (fun b o _ _ hc e _=>⟨o.slots,k b o (fun z=>hc (by simp [z])) e⟩) (fun _ _ _ _ n=>n)
  (fun b o hc e=>⟨o,k b o (fun z=>hc (by simp [z])) e⟩) (fun _ _ e=>e) (fun _ _ _ e=>e) (fun b ps e=>⟨#[],by rw [e]; simp⟩) (fun m hm=>?_) (fun b u e=>?_) I.bare
 ·have e:b = it:=by simpa using hb
  subst e
  exact ⟨h1,hL,h2,h3⟩
 ·obtain ⟨o,es,ep,ho,r⟩:=hm
  exact ⟨o,es,ep,k _ o (Ne.symm hL) ho,r⟩
 ·refine (I.hok b u e).stay (fun c v hc q=>k c v ?_ q) (fun _ q=>q) fun _ _ q=>q
  rcases hc with z | z
  ·rw [z]; exact nit b u e
  ·exact nit c _ z
theorem Inv.tok (I:Inv X zp σ H s) (t:Nat):Inv X zp σ H { s with toks:=t }:=I.un (h':=s.heap) (t':=t) Un.refl I.hok
theorem Inv.kept {t':Nat} (I:Inv X zp σ H s) (k:∀ b u,s.heap.get? b = some u->h'.get? b = some u):Inv X zp σ H { s with heap:=h',toks:=t' }:=I.un (Un.kept k) (I.hok.kept k)
theorem Inv.laid {a:Addr}{o:HO}{t':Nat} (I:Inv X zp σ H s) (k:∀ b u,s.heap.get? b = some u->h'.get? b = some u) (hp:s.heap.objs.size<=a) (new:Zg X.prog X.w (upd H a o) h' a o):
  Inv X zp σ (upd H a o) { s with heap:=h',toks:=t' }:=I.un (Un.laid k hp (I.hok.fresh hp)) (I.hok.laid k hp new)
theorem Inv.write {x e:Addr}{o:HO}{t':Nat} (I:Inv X zp σ H s) (mu:Mut (H x)) (he:e = x\/H e = some (.own x)) (k:∀ b u,b≠e->s.heap.get? b = some u->h'.get? b = some u) (heo:∃ u,h'.get? e = some u)
  (new:Zg X.prog X.w (upd H x o) h' x o):Inv X zp σ (upd H x o) { s with heap:=h',toks:=t' }:=I.un (Un.write mu he k heo) (I.hok.write mu he k heo new)
theorem Inv.weak {σ':List (Option V)} (I:Inv X zp σ H s) (hl:σ'.length = σ.length) (w:∀ (i:Nat) v,σ'[i]? = some (some v)->σ[i]? = some (some v)):Inv X zp σ' H s:=
 ⟨I.ok,I.os,I.bare,I.base,let ⟨m,hn,hl'⟩:=I.loc; ⟨m,hn,fun i x v e1 e2 e3=>hl' i x v e1 (w i v e2) e3⟩,I.cell,I.free,I.freeC,I.pin,I.hok,hl.trans I.len⟩
theorem Inv.pins_of {pins':List (Addr × Obj)} (I:Inv X zp σ H s) (h:∀ p∈pins',s.heap.get? p.1 = some p.2/\H p.1 = none/\p.1≠X.env.locals/\p.1 ∉ X.fs/\∀ v,p.2.data≠.cell v):Inv X pins' σ H s:=
 ⟨I.ok,I.os,I.bare,I.base,I.loc,I.cell,I.free,I.freeC,fun p hp=>(List.mem_append.mp hp).elim (fun z=>I.pin p (List.mem_append_left _ z)) (h p),I.hok,I.len⟩
theorem zf8 {N:List Str} (hN:N.Nodup) {i j:Nat}{x:Str} (a:N[i]? = some x) (b:N[j]? = some x):i = j:=by
 obtain ⟨h1,e1⟩:=List.getElem?_eq_some_iff.mp a
 obtain ⟨h2,e2⟩:=List.getElem?_eq_some_iff.mp b
 exact (List.getElem_inj hN).mp (e1.trans e2.symm)
theorem zem {M:Model}{A:Around}{E:Value->Shared->Prop}{i:Nat}{x:Str}{v:V}{u:Value}{Q:Unit->Shared->Prop} (I:Inv X zp σ H s) (hN:X.N.Nodup) (hi:X.N[i]? = some x) (hx:Loc X.env.scope x) (r:RelV v u)
  (h:∀ s',Inv X zp (σ.set i (some v)) H s'->(∃ a,Heap.SameBut a s.heap s'.heap/\(a = X.env.locals\/X.env.cells.lookup x = some a))->Q () s') (hf:X.fn x = true\/X.env.scope.names.lookup x = some .local:=by first | exact .inl rfl | exact .inr rfl | assumption):wpAny M A (storeName X.env x u) Q E s:=by
 obtain ⟨m,hn,hl⟩:=id I.loc
 have hcls:(X.env.scope.kind == .class || (X.env.scope.kind == .module && X.env.locals != X.env.globals)) = false:=by rw [I.ok.kind]; rfl
 have hiσ:i < σ.length:=by rw [I.len]; exact (List.getElem?_eq_some_iff.mp hi).1
 have cne:=I.cne
 have tracked:∀ {a:Addr}{h':Heap},(∃ o,s.heap.get? a = some o/\H a = none)->Heap.SameBut a s.heap h'->HOk X.prog X.w H h':=fun {a h'} ha hs b ob e=>by
  obtain ⟨_,_,hfree⟩:=ha
  refine (I.hok b ob e).stay (fun c w' hc q=>(hs.2 c ?_).trans q) (fun _ q=>q) fun _ _ q=>q
  rintro rfl
  rcases hc with rfl | hc
  ·rw [hfree] at e; cases e
  ·rw [hfree] at hc; cases hc
 rcases hx with hk | hk
 ·refine wpAny_storeName_local hk hn (fun h' hn' hs=>?_) hcls
  obtain ⟨oL,_,_,hoL,_⟩:=id hn
  refine h _ ⟨I.ok,I.os,I.bare,⟨fun b o e n hb hx=>?_,fun b o e n hb hx=>?_,I.base.free,fun b o e hx=>?_,I.base.tups,I.base.frzs,I.base.tbls⟩,⟨_,hn',fun j y v' e1 e2 e3=>?_⟩,fun y c e=>?_,I.free,I.freeC,fun p hp=>?_,tracked ⟨oL,hoL,I.free⟩ hs,by simpa using I.len⟩ ⟨_,hs,.inl rfl⟩
  ·exact (hs.2 b (Nat.ne_of_lt (Nat.lt_of_lt_of_le (Heap.lt_size e) I.ok.above))).trans (I.base.keep b o e n hb hx)
  ·obtain ⟨sl,e1⟩:=I.base.slot b o e n hb hx
   exact ⟨sl,(hs.2 b (Nat.ne_of_lt (Nat.lt_of_lt_of_le (Heap.lt_size e) I.ok.above))).trans e1⟩
  ·obtain ⟨o',e1⟩:=I.base.there b o e hx
   exact ⟨o',(hs.2 b (Nat.ne_of_lt (Nat.lt_of_lt_of_le (Heap.lt_size e) I.ok.above))).trans e1⟩
  ·by_cases hj:j = i
   ·subst hj
    rw [hi] at e1; cases e1
    rw [List.getElem?_set_self hiσ] at e2
    cases e2
    exact ⟨u,r,.inl ⟨hk,by simp⟩⟩
   ·rw [List.getElem?_set_ne (Ne.symm hj)] at e2
    obtain ⟨u',r',q⟩:=hl j y v' e1 e2 e3
    refine ⟨u',r',?_⟩
    rcases q with ⟨k,e⟩ | ⟨k,c,e,z⟩
    ·refine .inl ⟨k,?_⟩
     have:y≠x:=fun e=>hj (zf8 hN e1 (e ▸ hi))
     simp [this,e]
    ·exact .inr ⟨k,c,e,z.sameBut hs (cne y c e)⟩
  ·obtain ⟨w',z⟩:=I.cell y c e
   exact ⟨w',z.sameBut hs (cne y c e)⟩
  ·obtain ⟨e,n,ne,nf,d⟩:=I.pin p hp
   exact ⟨(hs.2 p.1 ne).trans e,n,ne,nf,d⟩
 ·have hfn:X.fn x = true:=by
   rcases hf with z | z
   ·exact z
   ·rw [z] at hk; cases hk
  obtain ⟨c,hc⟩:=I.ok.has x (.inl hk)
  obtain ⟨w',z⟩:=I.cell x c hc
  refine wpAny_storeName_cell I.ok.kind hk hc z (fun h' hc' hs=>?_)
  obtain ⟨oc,hoc,hocd⟩:=id z
  refine h { s with heap:=h' } ⟨I.ok,I.os,I.bare,⟨fun b o e n hb hx=>?_,fun b o e n hb hx=>?_,I.base.free,fun b o e hx=>?_,I.base.tups,I.base.frzs,I.base.tbls⟩,⟨m,hn.sameBut hs (Ne.symm (cne x c hc)),fun j y v' e1 e2 e3=>?_⟩,fun y c' e=>?_,I.free,I.freeC,fun p hp=>?_,tracked ⟨oc,hoc,I.freeC x c hc⟩ hs,by simpa using I.len⟩ ⟨c,hs,.inr hc⟩
  ·exact (hs.2 b (Nat.ne_of_lt (Nat.lt_of_lt_of_le (Heap.lt_size e) (I.ok.cab x c hfn hc)))).trans (I.base.keep b o e n hb hx)
  ·obtain ⟨sl,e1⟩:=I.base.slot b o e n hb hx
   exact ⟨sl,(hs.2 b (Nat.ne_of_lt (Nat.lt_of_lt_of_le (Heap.lt_size e) (I.ok.cab x c hfn hc)))).trans e1⟩
  ·obtain ⟨o',e1⟩:=I.base.there b o e hx
   exact ⟨o',(hs.2 b (Nat.ne_of_lt (Nat.lt_of_lt_of_le (Heap.lt_size e) (I.ok.cab x c hfn hc)))).trans e1⟩
  ·by_cases hj:j = i
   ·subst hj
    rw [hi] at e1; cases e1
    rw [List.getElem?_set_self hiσ] at e2
    cases e2
    exact ⟨u,r,.inr ⟨.inl hk,c,hc,hc'⟩⟩
   ·rw [List.getElem?_set_ne (Ne.symm hj)] at e2
    obtain ⟨u',r',q⟩:=hl j y v' e1 e2 e3
    refine ⟨u',r',?_⟩
    rcases q with q | ⟨k,c',e,z'⟩
    ·exact .inl q
    ·refine .inr ⟨k,c',e,z'.sameBut hs ?_⟩
     rintro rfl
     exact hj (zf8 hN e1 (I.ok.inj _ _ _ e hc ▸ hi))
  ·by_cases hcc:c' = c
   ·subst hcc; exact ⟨_,hc'⟩
   ·obtain ⟨w2,z2⟩:=I.cell y c' e
    exact ⟨w2,z2.sameBut hs hcc⟩
  ·obtain ⟨e,n,ne,nf,d⟩:=I.pin p hp
   refine ⟨(hs.2 p.1 ?_).trans e,n,ne,nf,d⟩
   intro q
   rw [q,hoc] at e
   have q':oc = p.2:=Option.some.inj e
   exact d w' (by rw [← q']; exact hocd)
theorem zdF {M:Model}{A:Around}{E:Value->Shared->Prop}{i:Nat}{x:Str}{v:V}{u:Value}{Q:Unit->Shared->Prop} (I:Inv X zp σ H s) (hN:X.N.Nodup) (hi:X.N[i]? = some x) (hx:Loc X.env.scope x) (r:RelV v u)
  (h:∀ s',Inv X zp (σ.set i (some v)) H s'->Q () s') (hf:X.fn x = true\/X.env.scope.names.lookup x = some .local:=by first | exact .inl rfl | exact .inr rfl | assumption):wpAny M A (storeName X.env x u) Q E s:=
 zem I hN hi hx r (fun s' I' _=>h s' I') hf
theorem Inv.call' {s':Shared}{ch:List Addr} (I:Inv X zp σ H s) (ho:s'.os = s.os) (u:Un (frs X.stack) ch H H' s.heap s'.heap) (hok:HOk X.prog X.w H' s'.heap) (hg:AllBare s'.gens)
  (hch:∀ b∈ch,(b∈X.ex\/X.s₀.heap.objs.size<=b)/\b≠X.env.locals/\(∀ x c,X.env.cells.lookup x = some c->c≠b)/\∀ p∈X.pn ++ zp,p.1≠b):Inv X zp σ H' s':=by
 obtain ⟨h',g',d',t',o'⟩:=s'
 have e:o' = s.os:=ho
 subst e
 exact I.call (g':=g') (t':=t') (d':=d') u hok hg hch
end
abbrev XK:=Value->Option Addr->Hp->Prop
abbrev St:=List (Option V)
abbrev VK:=V->Hp->Prop
abbrev TE:=St->Hp->VK->Prop
abbrev TT:=St->Hp->(Bool->Hp->Prop)->Prop
abbrev TA:=St->Hp->(List V->Hp->Prop)->Prop
structure Ends where
 nx:St->Hp->Prop
 rt:VK
 bk:St->Hp->Prop:=fun _ _=>False
 ct:St->Hp->Prop:=fun _ _=>False
abbrev TS:=Ends->St->Hp->Prop
def EP (X:Cx) (zp:List (Addr × Obj)) (σ:St) (Q:VK) (u:Value) (s':Shared):Prop:=∃ v H',Inv X zp σ H' s'/\RelV v u/\Q v H'
def TP (X:Cx) (zp:List (Addr × Obj)) (σ:St) (Q:Bool->Hp->Prop) (b:Bool) (s':Shared):Prop:=∃ H',Inv X zp σ H' s'/\Q b H'
def AP (X:Cx) (zp:List (Addr × Obj)) (σ:St) (Q:List V->Hp->Prop) (us:List Value) (s':Shared):Prop:=∃ vs H',Inv X zp σ H' s'/\Vals vs us/\Q vs H'
def SP (X:Cx) (zp:List (Addr × Obj)) (D:Ends) (f:Flow) (s':Shared):Prop:=
 match f with
 | .next=>∃ σ' H',Inv X zp σ' H' s'/\D.nx σ' H'
 | .brk=>∃ σ' H',Inv X zp σ' H' s'/\D.bk σ' H'
 | .cont=>∃ σ' H',Inv X zp σ' H' s'/\D.ct σ' H'
 | .ret u=>∃ v σ' H',Inv X zp σ' H' s'/\RelV v u/\D.rt v H'
def PE (X:Cx) (e:Expr) (t:TE):Prop:=
 ∀ (zp:List (Addr × Obj)) (s:Shared) (σ:St) (H:Hp) (Q:VK),Inv X zp σ H s->t σ H Q->wpAny (model X.prog X.w) X.A (eval e X.env) (EP X zp σ Q) X.xe s
def PT (X:Cx) (e:Expr) (t:TT):Prop:=
 ∀ (zp:List (Addr × Obj)) (s:Shared) (σ:St) (H:Hp) (Q:Bool->Hp->Prop),Inv X zp σ H s->t σ H Q->wpAny (model X.prog X.w) X.A (isTrue e X.env (eval e X.env)) (TP X zp σ Q) X.xe s
def PW (X:Cx) (e:Expr) (t:TT):Prop:=
 ∀ (whole:Sem Value) (zp:List (Addr × Obj)) (s:Shared) (σ:St) (H:Hp) (Q:Bool->Hp->Prop),Inv X zp σ H s->t σ H Q->wpAny (model X.prog X.w) X.A (isTrue e X.env whole) (TP X zp σ Q) X.xe s
theorem PW.pt {X:Cx}{e:Expr}{t:TT} (h:PW X e t):PT X e t:=h _
def PA (X:Cx) (es:List Expr) (t:TA):Prop:=
 ∀ (pos:Pos) (zp:List (Addr × Obj)) (s:Shared) (σ:St) (H:Hp) (Q:List V->Hp->Prop),Inv X zp σ H s->t σ H Q->wpAny (model X.prog X.w) X.A (spliced (backTo pos (starEach es X.env))) (AP X zp σ Q) X.xe s
def PS (X:Cx) (st:Stmt) (t:TS):Prop:=
 ∀ (zp:List (Addr × Obj)) (s:Shared) (σ:St) (H:Hp) (D:Ends),Inv X zp σ H s->t D σ H->wpAny (model X.prog X.w) X.A (exec st X.env) (SP X zp D) X.xe s
def PSs (X:Cx) (st:List Stmt) (t:TS):Prop:=
 ∀ (zp:List (Addr × Obj)) (s:Shared) (σ:St) (H:Hp) (D:Ends),Inv X zp σ H s->t D σ H->wpAny (model X.prog X.w) X.A (execs st X.env) (SP X zp D) X.xe s
theorem thn {α:Type}{t:Sem α}{Q Q':α->Shared->Prop}{M:Model}{A:Around}{E:Value->Shared->Prop}{s:Shared} (h:wpAny M A t Q E s) (hQ:∀ a s,Q a s->Q' a s):wpAny M A t Q' E s:=wpAny_mono h hQ fun _ _ x=>x
section
variable {X:Cx}
def tVar (i:Nat):TE:=fun σ H Q=>∃ v,σ[i]? = some (some v)/\Q v H
def tC (v:V):TE:=fun _ H Q=>Q v H
theorem zmq {i:Nat}{x:Str}{pos:Pos} (hN:X.N[i]? = some x) (hv:Vis X.env.scope x) (hd:(x == ("__debug__":Str)) = false:=by decide) (hcd:(x == ("__classdict__":Str)) = false:=by decide):PE X (.Name x pos) (tVar i):=by
 intro zp s σ H Q I h
 obtain ⟨v,e,h⟩:=h
 obtain ⟨m,hn,hl⟩:=I.loc
 obtain ⟨u,r,l⟩:=hl i x v hN e hv
 have fin:EP X zp σ Q u s:=⟨v,H,I,r,h⟩
 rcases l with ⟨hk,hm⟩ | ⟨hk,c,hc,hcell⟩
 ·exact wpAny_Name (wpAny_loadName_local I.ok.kind hk hn hm fin) hd
 ·rcases hk with hk | hk
  ·exact wpAny_Name (wpAny_loadName_cell I.ok.kind hk hc hcell fin) hd
  ·exact wpAny_Name (wpAny_loadName_free I.ok.kind hk hc hcell fin hcd) hd
theorem zj {i j pos}:PE X (.Constant (.int i) j pos) (tC (.int i)):=fun _ _ _ H _ I h=>wpAny_Constant_int ⟨.int i,H,I.tok _,⟨_,rfl⟩,h⟩
theorem zcq {b j pos}:PE X (.Constant (.bool b) j pos) (tC (.bl b)):=fun _ _ _ H _ I h=>Constant_bool ⟨.bl b,H,I,rfl,h⟩
theorem zen {j pos}:PE X (.Constant .none j pos) (tC .non):=fun _ _ _ H _ I h=>Constant_none ⟨.non,H,I,rfl,h⟩
theorem zo {x j pos}:PE X (.Constant (.str x) j pos) (tC (.str x)):=fun _ _ _ H _ I h=>Calls.Constant_str ⟨.str x,H,I.tok _,⟨_,rfl⟩,h⟩
def Gl (X:Cx) (x:Str):Prop:=X.env.kindOf x = some .globalImplicit
theorem zdG {E:Value->Shared->Prop}{zp:List (Addr × Obj)}{s:Shared}{σ:St}{H:Hp}{x:Str}{u:Value}{pos:Pos}{Q:Value->Shared->Prop} (I:Inv X zp σ H s) (hg:Gl X x) (hm:X.mg x = some u) (h:Q u s)
  (hd:(x == ("__debug__":Str)) = false:=by decide):wpAny (model X.prog X.w) X.A (eval (.Name x pos) X.env) Q E s:=
 Calls.Name_function_global I.ok.kind hg (Calls.loadGlobal_global (by rw [I.ok.glob]; exact I.mod.glob.keeps I.bk) hm h) hd
theorem zbX {E:Value->Shared->Prop}{zp:List (Addr × Obj)}{s:Shared}{σ:St}{H:Hp}{x:Str}{u:Value}{pos:Pos}{Q:Value->Shared->Prop} (I:Inv X zp σ H s) (hg:Gl X x) (hm:X.mg x = none) (hv:bootBuiltins x = some u) (h:Q u s)
  (hn:x≠"__name__":=by decide) (hd:(x == ("__debug__":Str)) = false:=by decide):wpAny (model X.prog X.w) X.A (eval (.Name x pos) X.env) Q E s:=by
 obtain ⟨mb,h1,h2⟩:=I.mod.blt
 exact Calls.Name_function_global I.ok.kind hg (Calls.loadGlobal_builtin (by rw [I.ok.glob]; exact I.mod.glob.keeps I.bk) hm (by rw [I.ok.blt]; exact h1.keeps I.bk) ((h2 x hn).trans hv) h) hd
theorem zX {x:Str}{v:V}{u:Value}{pos:Pos} (hg:Gl X x) (hm:X.mg x = some u) (r:RelV v u) (hd:(x == ("__debug__":Str)) = false:=by decide):PE X (.Name x pos) (tC v):=
 fun _ _ _ H _ I h=>zdG I hg hm ⟨v,H,I,r,h⟩ hd
theorem zk8 {x:Str}{v:V}{u:Value}{pos:Pos} (hg:Gl X x) (hm:X.mg x = none) (hv:bootBuiltins x = some u) (r:RelV v u) (hn:x≠"__name__":=by decide) (hd:(x == ("__debug__":Str)) = false:=by decide):PE X (.Name x pos) (tC v):=
 fun _ _ _ H _ I h=>zbX I hg hm hv ⟨v,H,I,r,h⟩ hn hd
variable {a b:Expr}{ta tb:TE}{pos:Pos}
def PC (X:Cx) (op:CmpOp) (a b:Expr) (t:TE):Prop:=
 ∀ (zp:List (Addr × Obj)) (s:Shared) (σ:St) (H:Hp) (Q:VK),Inv X zp σ H s->t σ H Q->
  wpAny (model X.prog X.w) X.A (eval a X.env) (fun v s₁=>wpAny (model X.prog X.w) X.A (eval b X.env) (fun u s₂=>wpAny (model X.prog X.w) X.A (compareOp op v u) (EP X zp σ Q) X.xe s₂) X.xe s₁) X.xe s
theorem nobehind (b:Expr) {op:CmpOp} (h:op≠.In) (h2:op≠.NotIn):behindInMarks op b = false:=by
 have e1:(op == CmpOp.In) = false:=by cases op <;> first | rfl | exact absurd rfl h
 have e2:(op == CmpOp.NotIn) = false:=by cases op <;> first | rfl | exact absurd rfl h2
 cases b <;> simp [behindInMarks,e1,e2]
def tIsN (ta:TE):TE:=fun σ H Q=>ta σ H fun x H1=>Q (.bl (decide (x = .non))) H1
def zmr (ta:TE):TE:=fun σ H Q=>ta σ H fun x H1=>Q (.bl (!decide (x = .non))) H1
theorem RelV.none_iff {x:V}{v:Value} (r:RelV x v):(v == Value.none) = decide (x = .non):=by
 cases x with
 | non=>cases r; rfl
 | bl _=>cases r; rfl
 | int _=>obtain ⟨t,rfl⟩:=r; rfl
 | str _=>obtain ⟨t,rfl⟩:=r; rfl
 | byt _=>obtain ⟨t,rfl⟩:=r; rfl
 | flt _=>obtain ⟨t,rfl⟩:=r; rfl
 | ref _=>cases r; rfl
 | ty _=>cases r; rfl
theorem zcr {j pos'} (ha:PE X a ta):PC X .Is a (.Constant .none j pos') (tIsN ta):=by
 intro zp s σ H Q I h
 refine thn (ha zp s σ H _ I h) fun v s1 ⟨x,H1,I1,r1,q1⟩=>?_
 exact Constant_none (is_none_gen ⟨.bl _,H1,I1,by rw [r1.none_iff]; rfl,q1⟩)
theorem zdH {j pos'} (ha:PE X a ta):PC X .IsNot a (.Constant .none j pos') (zmr ta):=by
 intro zp s σ H Q I h
 refine thn (ha zp s σ H _ I h) fun v s1 ⟨x,H1,I1,r1,q1⟩=>?_
 exact Constant_none (isnot_none_gen ⟨.bl _,H1,I1,by rw [r1.none_iff]; rfl,q1⟩)
def tB (t:TE):TT:=fun σ H Q=>t σ H fun x H1=>∃ c,x = .bl c/\Q c H1
theorem zeo {op:CmpOp}{t:TE} (h:PC X op a b t) (h1:behindInMarks op b = false:=by first | exact nobehind _ (by decide) (by decide) | rfl):PE X (.Compare a [op] [b] pos) t:=fun zp s σ H Q I hw=>wpAny_Compare1 (h zp s σ H Q I hw) h1
theorem zbY {op:CmpOp}{t:TE} (h:PC X op a b t) (h1:behindInMarks op b = false:=by first | exact nobehind _ (by decide) (by decide) | rfl):PT X (.Compare a [op] [b] pos) (tB t):=by
 intro zp s σ H Q I hw
 refine wpAny_isTrue_Compare1 (thn (h zp s σ H _ I hw) fun v s1 h1=>thn h1 fun u s2 h2=>thn h2 fun c s3 ⟨x,H1,I1,r1,q1⟩=>?_) h1
 obtain ⟨d,rfl,q⟩:=q1
 cases r1
 exact wpAny_truthy_bool ⟨H1,I1,q⟩
theorem zQ {e:Expr}{t:TE} (h:PE X e t) (he:∀ whole,isTrue e X.env whole = (do let v ← whole; standAt e.pos; holding [v] (truthy v)):=by intro _; rfl):PT X e (tB t):=by
 intro zp s σ H Q I hw
 refine isTrue_plain (thn (h zp s σ H _ I hw) fun v s1 ⟨x,H1,I1,r1,q1⟩=>?_) (he _)
 obtain ⟨d,rfl,q⟩:=q1
 cases r1
 exact wpAny_truthy_bool ⟨H1,I1,q⟩
variable {tA tB':TT}{rest:List Expr}
def tAnd (t u:TT):TT:=fun σ H Q=>t σ H fun c H1=>if c = true then u σ H1 Q else Q false H1
def tOr (t u:TT):TT:=fun σ H Q=>t σ H fun c H1=>if c = true then Q true H1 else u σ H1 Q
def tNot (t:TT):TT:=fun σ H Q=>t σ H fun c H1=>Q (!c) H1
theorem zaD (ha:PT X a tA):PW X (.BoolOp .And [a] pos) tA:=by
 intro wh zp s σ H Q I h
 refine isTrue_and (thn (ha zp s σ H Q I h) fun c s1 e=>?_)
 cases c with
 | true=>exact isTrue_and_nil e
 | false=>exact e
theorem zaR (ha:PT X a tA):PW X (.BoolOp .Or [a] pos) tA:=by
 intro wh zp s σ H Q I h
 refine isTrue_or (thn (ha zp s σ H Q I h) fun c s1 e=>?_)
 cases c with
 | false=>exact isTrue_or_nil e
 | true=>exact e
theorem zbm (ha:PT X a tA) (hb:PW X (.BoolOp .And (b :: rest) pos) tB'):PW X (.BoolOp .And (a :: b :: rest) pos) (tAnd tA tB'):=by
 intro wh zp s σ H Q I h
 refine isTrue_and (thn (ha zp s σ H _ I h) fun c s1 ⟨H1,I1,q1⟩=>?_)
 cases c with
 | true=>exact hb wh zp s1 σ H1 Q I1 q1
 | false=>exact ⟨H1,I1,q1⟩
theorem zb6 (ha:PT X a tA) (hb:PW X (.BoolOp .Or (b :: rest) pos) tB'):PW X (.BoolOp .Or (a :: b :: rest) pos) (tOr tA tB'):=by
 intro wh zp s σ H Q I h
 refine isTrue_or (thn (ha zp s σ H _ I h) fun c s1 ⟨H1,I1,q1⟩=>?_)
 cases c with
 | true=>exact ⟨H1,I1,q1⟩
 | false=>exact hb wh zp s1 σ H1 Q I1 q1
theorem Zh (ha:PT X a tA):PT X (.UnaryOp .Not a pos) (tNot tA):=by
 intro zp s σ H Q I h
 exact isTrue_not (ha zp s σ H (fun c H1=>Q (!c) H1) I h)
def zms (ta tb:TE):TE:=fun σ H Q=>ta σ H fun x H1=>∃ c,x = .bl c/\if c = true then tb σ H1 Q else Q (.bl false) H1
def tOrV (ta tb:TE):TE:=fun σ H Q=>ta σ H fun x H1=>∃ c,x = .bl c/\if c = true then Q (.bl true) H1 else tb σ H1 Q
def zmt (ta:TE):TE:=fun σ H Q=>ta σ H fun x H1=>∃ c,x = .bl c/\Q (.bl (!c)) H1
theorem zap {op}{t:TE} (h:PE X a t):PE X (.BoolOp op [a] pos) t:=fun zp s σ H Q I hw=>BoolOp_one (h zp s σ H Q I hw)
theorem Z5 (ha:PE X a ta) (hb:PE X (.BoolOp .And (b :: rest) pos) tb):PE X (.BoolOp .And (a :: b :: rest) pos) (zms ta tb):=by
 intro zp s σ H Q I h
 refine BoolOp_and (thn (ha zp s σ H _ I h) fun v s1 ⟨x,H1,I1,r1,q1⟩=>?_)
 obtain ⟨c,rfl,q1⟩:=q1
 cases r1
 refine wpAny_truthy_bool ?_
 cases c with
 | true=>exact hb zp s1 σ H1 Q I1 q1
 | false=>exact ⟨.bl false,H1,I1,rfl,q1⟩
theorem zk9 (ha:PE X a ta) (hb:PE X (.BoolOp .Or (b :: rest) pos) tb):PE X (.BoolOp .Or (a :: b :: rest) pos) (tOrV ta tb):=by
 intro zp s σ H Q I h
 refine BoolOp_or (thn (ha zp s σ H _ I h) fun v s1 ⟨x,H1,I1,r1,q1⟩=>?_)
 obtain ⟨c,rfl,q1⟩:=q1
 cases r1
 refine wpAny_truthy_bool ?_
 cases c with
 | false=>exact hb zp s1 σ H1 Q I1 q1
 | true=>exact ⟨.bl true,H1,I1,rfl,q1⟩
theorem zf9 (ha:PE X a ta):PE X (.UnaryOp .Not a pos) (zmt ta):=by
 intro zp s σ H Q I h
 refine UnaryOp_ (thn (ha zp s σ H _ I h) fun v s1 ⟨x,H1,I1,r1,q1⟩=>?_)
 obtain ⟨c,rfl,q1⟩:=q1
 cases r1
 exact not_of (wpAny_truthy_bool ⟨.bl (!c),H1,I1,rfl,q1⟩)
def tIf (t:TT) (ta tb:TE):TE:=fun σ H Q=>t σ H fun c H1=>if c = true then ta σ H1 Q else tb σ H1 Q
theorem ZW {c:Expr} (hc:PT X c tA) (ha:PE X a ta) (hb:PE X b tb):PE X (.IfExp c a b pos) (tIf tA ta tb):=by
 intro zp s σ H Q I h
 refine wpAny_IfExp (thn (hc zp s σ H _ I h) fun d s1 ⟨H1,I1,q1⟩=>?_)
 cases d with
 | true=>exact ha zp s1 σ H1 Q I1 q1
 | false=>exact hb zp s1 σ H1 Q I1 q1
end
def SqL (K:PySem.W.Frag) (H:Hp) (a:Addr) (xs:List V):Prop:=
 Rd H a (.lst xs) \/
  ∃ (o:Obj) (its:Array Value) (n:Nat),K.lookup a = some o/\o.cls = .type "list"/\o.dict = none/\o.data = .seq its n/\its.size<=sizeLine/\Vals xs its.toList
def SqT (K:PySem.W.Frag) (H:Hp) (a:Addr) (xs:List V):Prop:=
 Rd H a (.tup xs) \/
  ∃ (o:Obj) (its:Array Value) (n:Nat),K.lookup a = some o/\o.cls = .type "tuple"/\o.data = .seq its n/\its.size<=sizeLine/\Vals xs its.toList
def absV:Value->Option V
 | .none=>some .non
 | .bool b=>some (.bl b)
 | .int i _=>some (.int i)
 | .str x _=>some (.str x)
 | .bytes b _=>some (.byt b)
 | .float b _=>some (.flt b)
 | .ref a=>some (.ref a)
 | .type n=>some (.ty n)
 | _=>none
theorem RelV.abs {x:V}{u:Value} (r:RelV x u):absV u = some x:=by
 cases x with
 | non=>cases r; rfl
 | bl _=>cases r; rfl
 | int _=>obtain ⟨t,rfl⟩:=r; rfl
 | str _=>obtain ⟨t,rfl⟩:=r; rfl
 | byt _=>obtain ⟨t,rfl⟩:=r; rfl
 | flt _=>obtain ⟨t,rfl⟩:=r; rfl
 | ref _=>cases r; rfl
 | ty _=>cases r; rfl
theorem RelV.inj {x y:V}{u:Value} (r:RelV x u) (q:RelV y u):x = y:=Option.some.inj (r.abs.symm.trans q.abs)
theorem Vals.inj:∀ {xs ys:List V}{us:List Value},Vals xs us->Vals ys us->xs = ys
 | _,_,_,.nil,.nil=>rfl
 | _,_,_,.cons r t,.cons r' t'=>by rw [r.inj r',Vals.inj t t']
section
variable {X:Cx}{zp:List (Addr × Obj)}{σ:St}{H:Hp}{s:Shared}{a:Addr}{xs ys:List V}
theorem SqL.of {K:PySem.W.Frag} (h:H a = some (.lst xs)):SqL K H a xs:=.inl (.inl h)
theorem SqT.of {K:PySem.W.Frag} (h:H a = some (.tup xs)):SqT K H a xs:=.inl (.inl h)
theorem Inv.list (I:Inv X zp σ H s) (h:SqL X.K H a xs):∃ its:List Value,Vals xs its/\PlainL s.heap a its.toArray/\xs.length<=sizeLine:=by
 rcases h with h | ⟨o,its,n,hk,hc,hd,hs,hz,r⟩
 ·obtain ⟨z,its,n,r,e⟩:=h.ok I.hok
  exact ⟨its,r,⟨_,n,e,rfl,rfl,rfl⟩,z⟩
 ·refine ⟨its.toList,r,⟨o,n,I.kIn a o hk,hc,hd,by simpa using hs⟩,?_⟩
  have e:=r.length
  simp only [Array.length_toList] at e
  omega
theorem Inv.tuple (I:Inv X zp σ H s) (h:SqT X.K H a xs):∃ its:List Value,Vals xs its/\IsTup s.heap a its.toArray/\xs.length<=sizeLine:=by
 rcases h with h | ⟨o,its,n,hk,hc,hs,hz,r⟩
 ·obtain ⟨z,its,r,p⟩:=h.ok I.hok
  exact ⟨its,r,p,z⟩
 ·refine ⟨its.toList,r,⟨o,I.kIn a o hk,hc,n,by simpa using hs⟩,?_⟩
  have e:=r.length
  simp only [Array.length_toList] at e
  omega
theorem Inv.list_inj (I:Inv X zp σ H s) (h:SqL X.K H a xs) (h':SqL X.K H a ys):xs = ys:=by
 obtain ⟨its,r,⟨o,n,e,_,_,d⟩,_⟩:=I.list h
 obtain ⟨its',r',⟨o',n',e',_,_,d'⟩,_⟩:=I.list h'
 rw [e] at e'; cases e'
 rw [d] at d'
 injection d' with d1 _
 have:its = its':=by simpa using congrArg Array.toList d1
 subst this
 exact r.inj r'
theorem Inv.tuple_inj (I:Inv X zp σ H s) (h:SqT X.K H a xs) (h':SqT X.K H a ys):xs = ys:=by
 obtain ⟨its,r,⟨o,e,_,n,d⟩,_⟩:=I.tuple h
 obtain ⟨its',r',⟨o',e',_,n',d'⟩,_⟩:=I.tuple h'
 rw [e] at e'; cases e'
 rw [d] at d'
 injection d' with d1 _
 have:its = its':=by simpa using congrArg Array.toList d1
 subst this
 exact r.inj r'
end
abbrev Cx.wish (X:Cx) (E:Value->Shared->Prop):Cx:={ X with xe:=E }
abbrev Cx.nox (X:Cx):Cx:=X.wish fun _ _=>False
theorem Cx.Ok.wish {X:Cx} (ok:X.Ok) (E:Value->Shared->Prop):(X.wish E).Ok:=
 ⟨ok.mod,ok.kind,ok.glob,ok.blt,ok.above,ok.inj,ok.has,ok.cab,ok.hd,ok.frames,ok.stk,ok.exf,ok.bs,ok.bsz,ok.noex,ok.exfs,ok.funs,ok.frf⟩
theorem Cx.Ok.unwish {X:Cx}{E:Value->Shared->Prop} (ok:(X.wish E).Ok):X.Ok:=
 ⟨ok.mod,ok.kind,ok.glob,ok.blt,ok.above,ok.inj,ok.has,ok.cab,ok.hd,ok.frames,ok.stk,ok.exf,ok.bs,ok.bsz,ok.noex,ok.exfs,ok.funs,ok.frf⟩
section
variable {X:Cx}{zp:List (Addr × Obj)}{σ:St}{H:Hp}{s:Shared}{E:Value->Shared->Prop}
theorem Inv.wish (I:Inv X zp σ H s) (E:Value->Shared->Prop):Inv (X.wish E) zp σ H s:=⟨I.ok.wish E,I.os,I.bare,I.base,I.loc,I.cell,I.free,I.freeC,I.pin,I.hok,I.len⟩
theorem Inv.unwish (I:Inv (X.wish E) zp σ H s):Inv X zp σ H s:=⟨I.ok.unwish,I.os,I.bare,I.base,I.loc,I.cell,I.free,I.freeC,I.pin,I.hok,I.len⟩
theorem SP.unwish {D:Ends}{f:Flow}{s':Shared} (h:SP (X.wish E) zp D f s'):SP X zp D f s':=by
 cases f with
 | next=>obtain ⟨σ',H',I,q⟩:=h; exact ⟨σ',H',I.unwish,q⟩
 | brk=>obtain ⟨σ',H',I,q⟩:=h; exact ⟨σ',H',I.unwish,q⟩
 | cont=>obtain ⟨σ',H',I,q⟩:=h; exact ⟨σ',H',I.unwish,q⟩
 | ret u=>obtain ⟨v,σ',H',I,r,q⟩:=h; exact ⟨v,σ',H',I.unwish,r,q⟩
theorem PSs.nox {st:List Stmt}{t:TS} (h:PSs X.nox st t):PSs X st t:=fun zp s σ H D I hw=>
 wpAny_mono (h zp s σ H D (I.wish _) hw) (fun _ _ q=>q.unwish) fun _ _ z=>False.elim z
end
section
variable {X:Cx}{st:Stmt}{rest:List Stmt}{t u:TS}{e:Expr}{te:TE}{pos:Pos}
def zla:TS:=fun D σ H=>D.nx σ H
def tSeq (t u:TS):TS:=fun D σ H=>t { D with nx:=u D } σ H
theorem zx:PSs X [] zla:=fun _ _ σ H _ I h=>wpAny_execs_nil ⟨σ,H,I,h⟩
theorem zi (h1:PS X st t) (h2:PSs X rest u):PSs X (st :: rest) (tSeq t u):=by
 intro zp s σ H D I h
 refine wpAny_execs_cons (thn (h1 zp s σ H { D with nx:=u D } I h) fun f s1 q=>?_)
 cases f with
 | next=>
  obtain ⟨σ',H',I',q⟩:=q
  exact h2 zp s1 σ' H' D I' q
 | ret v=>exact q
 | brk=>exact q
 | cont=>exact q
theorem zl (h1:PS X st t):PSs X [st] t:=by
 intro zp s σ H D I h
 refine wpAny_execs_cons (thn (h1 zp s σ H D I h) fun f s1 q=>?_)
 cases f with
 | next=>exact wpAny_execs_nil q
 | ret v=>exact q
 | brk=>exact q
 | cont=>exact q
theorem Inv.quiet {zp:List (Addr × Obj)}{σ:St}{H:Hp}{s:Shared} (I:Inv X zp σ H s):interactive X.env = false:=by simp [interactive,I.ok.kind]
def zmu (te:TE):TS:=fun D σ H=>te σ H fun _ H1=>D.nx σ H1
theorem ZN (he:PE X e te) (hs:swapsWith e none pos.line X.env = pure false:=by rfl):PS X (.Expr e pos) (zmu te):=by
 intro zp s σ H D I h
 exact wpAny_Expr_any (thn (he zp s σ H _ I h) fun v s1 ⟨x,H1,I1,r1,q1⟩=>⟨σ,H1,I1,q1⟩) I.quiet hs
def tRet (te:TE):TS:=fun D σ H=>te σ H D.rt
theorem zq (he:PE X e te):PS X (.Return (some e) pos) (tRet te):=by
 intro zp s σ H D I h
 exact wpAny_Return_some (thn (he zp s σ H _ I h) fun v s1 ⟨x,H1,I1,r1,q1⟩=>⟨x,σ,H1,I1,r1,q1⟩)
def tIfS (c:TT) (t u:TS):TS:=fun D σ H=>c σ H fun b H1=>if b = true then t D σ H1 else u D σ H1
theorem zJ {c:Expr}{a b:List Stmt}{tc:TT} (hc:PT X c tc) (ha:PSs X a t) (hb:PSs X b u):PS X (.If c a b pos) (tIfS tc t u):=by
 intro zp s σ H D I h
 refine wpAny_If (thn (hc zp s σ H _ I h) fun d s1 ⟨H1,I1,q1⟩=>?_)
 cases d with
 | true=>exact ha zp s1 σ H1 D I1 q1
 | false=>exact hb zp s1 σ H1 D I1 q1
end
abbrev TG:=V->St->Hp->(St->Hp->Prop)->Prop
abbrev TGs:=List V->St->Hp->(St->Hp->Prop)->Prop
def PG (X:Cx) (target:Expr) (t:TG):Prop:=
 ∀ (zp:List (Addr × Obj)) (s:Shared) (σ:St) (H:Hp) (v:V) (u:Value) (Q:St->Hp->Prop),Inv X zp σ H s->RelV v u->t v σ H Q->
  wpAny (model X.prog X.w) X.A (assign target X.env u) (fun _ s'=>∃ σ' H',Inv X zp σ' H' s'/\Q σ' H') X.xe s
def PGs (X:Cx) (ts:List Expr) (t:TGs):Prop:=
 ∀ (zp:List (Addr × Obj)) (s:Shared) (σ:St) (H:Hp) (vs:List V) (us:List Value) (Q:St->Hp->Prop),Inv X zp σ H s->Vals vs us->t vs σ H Q->
  wpAny (model X.prog X.w) X.A (assignInOrder ((assignEach ts X.env).map (·.2)) us) (fun _ s'=>∃ σ' H',Inv X zp σ' H' s'/\Q σ' H') X.xe s
abbrev TSet:=V->V->V->Hp->(Hp->Prop)->Prop
def PSet (X:Cx) (t:TSet):Prop:=
 ∀ (zp:List (Addr × Obj)) (s:Shared) (σ:St) (H:Hp) (o i v:V) (ov iv u:Value) (Q:Hp->Prop),Inv X zp σ H s->RelV o ov->RelV i iv->RelV v u->t o i v H Q->
  wpAny (model X.prog X.w) X.A (setItem ov iv u) (fun _ s'=>∃ H',Inv X zp σ H' s'/\Q H') X.xe s
abbrev TIp:=V->V->Hp->VK->Prop
def PIp (X:Cx) (op:Operator) (t:TIp):Prop:=
 ∀ (zp:List (Addr × Obj)) (s:Shared) (σ:St) (H:Hp) (x y:V) (v u:Value) (Q:VK),Inv X zp σ H s->RelV x v->RelV y u->t x y H Q->
  wpAny (model X.prog X.w) X.A (inplaceOp op v u) (EP X zp σ Q) X.xe s
section
variable {X:Cx}{pos:Pos}
def ZD (i:Nat):TG:=fun v σ H Q=>Q (σ.set i (some v)) H
theorem zV {i:Nat}{x:Str} (hN:X.N.Nodup) (hi:X.N[i]? = some x) (hx:Loc X.env.scope x) (hf:X.fn x = true\/X.env.scope.names.lookup x = some .local:=by first | exact .inl rfl | exact .inr rfl | assumption):PG X (.Name x pos) (ZD i):=by
 intro zp s σ H v u Q I r h
 exact wpAny_assign_Name (zdF I hN hi hx r (fun s' I'=>⟨_,H,I',h⟩) hf)
def gNil:TGs:=fun vs σ H Q=>vs = []/\Q σ H
def zgI (t:TG) (u:TGs):TGs:=fun vs σ H Q=>∃ v r,vs = v :: r/\t v σ H fun σ' H'=>u r σ' H' Q
theorem zba:PGs X [] gNil:=by
 intro zp s σ H vs us Q I r h
 obtain ⟨e,h⟩:=h
 subst e
 cases r
 exact assignInOrder_nil ⟨σ,H,I,h⟩
theorem Zt {e:Expr}{es:List Expr}{t:TG}{u:TGs} (h1:PG X e t) (h2:PGs X es u)
  (hs:(assignEach (e :: es) X.env).map (·.2) = assign e X.env :: (assignEach es X.env).map (·.2):=by rfl):PGs X (e :: es) (zgI t u):=by
 intro zp s σ H vs us Q I r h
 obtain ⟨v,vr,e1,h⟩:=h
 subst e1
 cases r with
 | cons r rr=>
  rw [hs]
  refine assignInOrder_cons (thn (h1 zp s σ H _ _ _ I r h) fun _ s1 ⟨σ1,H1,I1,q1⟩=>?_)
  exact h2 zp s1 σ1 H1 _ _ Q I1 rr q1
def gTup (K:PySem.W.Frag) (n:Nat) (t:TGs):TG:=fun v σ H Q=>∃ a xs,v = .ref a/\SqT K H a xs/\xs.length = n/\t xs σ H Q
theorem zbn {es:List Expr}{k:Nat}{t:TGs}{n:Nat} (hc:X.calm = true) (h:PGs X es t)
  (hn:(assignEach es X.env).length = n:=by rfl) (hst:(assignEach es X.env).findIdx? (·.1) = none:=by rfl):PG X (.Tuple es k pos) (gTup X.K n t):=by
 intro zp s σ H v u Q I r hw
 obtain ⟨a,xs,e1,hq,hl,hw⟩:=hw
 subst e1
 cases r
 obtain ⟨its,rv,ht,hz⟩:=I.tuple hq
 refine assign_Tuple_tuple (I.ok.hd hc) ht (by simp [hn,← hl,rv.length]) hst fun h' hx=>?_
 have I1:Inv X zp σ H { s with heap:=h' }:=I.kept (t':=s.toks) fun b o e=>hx b o (Nat.ne_of_lt (Heap.lt_size e)) e
 exact h zp _ σ H xs _ Q I1 (by simpa using rv) hw
def gSub (to ti:TE) (t:TSet):TG:=fun v σ H Q=>to σ H fun o H1=>ti σ H1 fun i H2=>t o i v H2 fun H3=>Q σ H3
theorem zcs {o i:Expr}{to ti:TE}{t:TSet} (ho:PE X o to) (hi:PE X i ti) (hs:PSet X t)
  (ha:∀ v,assign (.Subscript o i pos) X.env v = (do
   let ov ← holding [v] (eval o X.env)
   let iv ← holding [v,ov] (eval i X.env)
   standAt pos
   holding [v,ov,iv] (setItem ov iv v)
   release [v,ov,iv] []):=by intro _; rfl):PG X (.Subscript o i pos) (gSub to ti t):=by
 intro zp s σ H v u Q I r h
 rw [ha]
 refine wpAny_bind (wpAny_holding (thn (ho zp s σ H _ I h) fun ov s1 ⟨x,H1,I1,r1,q1⟩=>?_))
 refine wpAny_bind (wpAny_holding (thn (hi zp s1 σ H1 _ I1 q1) fun iv s2 ⟨y,H2,I2,r2,q2⟩=>?_))
 refine wpAny_bind (wpAny_standAt (wpAny_bind (wpAny_holding (thn (hs zp s2 σ H2 x y v ov iv u _ I2 r1 r2 r q2) fun _ s3 ⟨H3,I3,q3⟩=>?_))))
 exact wpAny_release ⟨σ,H3,I3,q3⟩
def tAsg (te:TE) (g:TG):TS:=fun D σ H=>te σ H fun x H1=>g x σ H1 D.nx
theorem zaM {tg e:Expr}{te:TE}{g:TG} (he:PE X e te) (hg:PG X tg g) (hs:swapsWithSole [tg] e pos.line X.env = pure false:=by rfl) (hw:swappedStores [tg] e X.env = pure none:=by rfl)
  (h1:(assignEach [tg] X.env).map (·.2) = [assign tg X.env]:=by rfl):PS X (.Assign [tg] e pos) (tAsg te g):=by
 intro zp s σ H D I h
 refine wpAny_Assign_stores (thn (he zp s σ H _ I h) fun v s1 ⟨x,H1,I1,r1,q1⟩=>?_) hs hw
 rw [h1]
 exact thn (hg zp s1 σ H1 x v _ I1 r1 q1) fun _ s2 q=>q
theorem zw {i:Nat}{x:Str}{e:Expr}{te:TE}{pos':Pos} (hN:X.N.Nodup) (hi:X.N[i]? = some x) (hx:Loc X.env.scope x) (he:PE X e te) (hs:swapsWith e (some (.Name x pos')) pos.line X.env = pure false:=by rfl) (hf:X.fn x = true\/X.env.scope.names.lookup x = some .local:=by first | exact .inl rfl | exact .inr rfl | assumption):
  PS X (.Assign [.Name x pos'] e pos) (tAsg te (ZD i)):=by
 intro zp s σ H D I h
 refine wpAny_Assign_Name (thn (he zp s σ H _ I h) fun v s1 ⟨y,H1,I1,r1,q1⟩=>?_) hs
 exact zdF I1 hN hi hx r1 (fun s2 I2=>⟨_,H1,I2,q1⟩) hf
def tAug (i:Nat) (te:TE) (ti:TIp):TS:=fun D σ H=>∃ x,σ[i]? = some (some x)/\te σ H fun y H1=>ti x y H1 fun z H2=>D.nx (σ.set i (some z)) H2
theorem zmv {i:Nat}{x:Str}{e:Expr}{te:TE}{op:Operator}{ti:TIp}{pos':Pos} (hN:X.N.Nodup) (hi:X.N[i]? = some x) (hx:Loc X.env.scope x) (he:PE X e te) (ho:PIp X op ti) (hf:X.fn x = true\/X.env.scope.names.lookup x = some .local:=by first | exact .inl rfl | exact .inr rfl | assumption):
  PS X (.AugAssign (.Name x pos') op e pos) (tAug i te ti):=by
 intro zp s σ H D I h
 obtain ⟨v,e1,h⟩:=h
 obtain ⟨m,hn,hl⟩:=I.loc
 have vis:Vis X.env.scope x:=by rcases hx with k | k; exact .inl k; exact .inr (.inl k)
 obtain ⟨u,r,l⟩:=hl i x v hi e1 vis
 refine wpAny_AugAssign_Name ?_
 have go:wpAny (model X.prog X.w) X.A (eval e X.env) (fun w s₂=>wpAny (model X.prog X.w) X.A (inplaceOp op u w) (fun r s₃=>wpAny (model X.prog X.w) X.A (storeName X.env x r) (fun _=>SP X zp D .next) X.xe s₃) X.xe s₂) X.xe s:=by
  refine thn (he zp s σ H _ I h) fun w s1 ⟨y,H1,I1,r1,q1⟩=>?_
  refine thn (ho zp s1 σ H1 v y u w _ I1 r r1 q1) fun z s2 ⟨zv,H2,I2,r2,q2⟩=>?_
  exact zdF I2 hN hi hx r2 (fun s3 I3=>⟨_,H2,I3,q2⟩) hf
 rcases l with ⟨hk,hm⟩ | ⟨hk,c,hc,hcell⟩
 ·exact wpAny_loadName_local I.ok.kind hk hn hm go
 ·rcases hk with hk | hk
  ·exact wpAny_loadName_cell I.ok.kind hk hc hcell go
  ·rcases hx with k | k
   ·have:X.env.scope.names.lookup x = some .free:=hk
    rw [k] at this; cases this
   ·have:X.env.scope.names.lookup x = some .free:=hk
    rw [k] at this; cases this
end
section
variable {X:Cx}{pos:Pos}
def zky (c:TT) (tb:TS):TS:=fun D σ H=>∃ W:Nat->St->Hp->Prop,(∃ m,W m σ H)/\∀ m σ H,W m σ H->
 c σ H fun b H1=>if b = true then ∃ N:St->Hp->Prop,(∀ σ' H',N σ' H'->∃ m',m' < m/\W m' σ' H')/\tb { D with nx:=N,ct:=N,bk:=D.nx } σ H1 else D.nx σ H1
theorem zch {c:Expr}{body:List Stmt}{tc:TT}{tb:TS} (hp:PassesOwn (model X.prog X.w) X.A X.env X.xe) (hc:PT X c tc) (hb:PSs X body tb):PS X (.While c body [] pos) (zky tc tb):=by
 intro zp s σ H D I h
 obtain ⟨W,⟨m0,w0⟩,turn⟩:=h
 refine wpAny_While (codeAny_whileLoop (fun n s'=>∃ σ' H',Inv X zp σ' H' s'/\W n σ' H') ?_ m0 ⟨σ,H,I,w0⟩)
 rintro n s1 ⟨σ1,H1,I1,w1⟩
 refine wpAny_passesOwn hp (thn (hc zp s1 σ1 H1 _ I1 (turn n σ1 H1 w1)) fun b s2 ⟨H2,I2,q2⟩=>?_)
 cases b with
 | true=>
  obtain ⟨N,hN,q2⟩:=q2
  rw [if_pos rfl]
  refine wpAny_passesOwn hp (thn (hb zp s2 σ1 H2 _ I2 q2) fun f s3 q3=>?_)
  cases f with
  | next=>
   obtain ⟨σ3,H3,I3,n3⟩:=q3
   obtain ⟨m',hm,w3⟩:=hN σ3 H3 n3
   exact ⟨m',hm,σ3,H3,I3,w3⟩
  | cont=>
   obtain ⟨σ3,H3,I3,n3⟩:=q3
   obtain ⟨m',hm,w3⟩:=hN σ3 H3 n3
   exact ⟨m',hm,σ3,H3,I3,w3⟩
  | brk=>exact q3
  | ret v=>exact q3
 | false=>
  rw [if_neg Bool.false_ne_true]
  exact wpAny_execs_nil ⟨σ1,H2,I2,q2⟩
end
structure It where
 go:Nat->Hp->Prop
 yld:Nat->Hp->V->Hp->Prop
 stop:Nat->Hp->Prop
def FpOk (X:Cx) (zp:List (Addr × Obj)) (H:Hp) (b:Addr):Prop:=
 H b = none/\b≠X.env.locals/\b ∉ X.fs/\(b∈X.ex\/X.s₀.heap.objs.size<=b)/\(∀ x c,X.env.cells.lookup x = some c->c≠b)/\∀ p∈X.pn ++ zp,p.1≠b
theorem Inv.fpOk {X:Cx}{zp:List (Addr × Obj)}{σ:St}{H H':Hp}{s:Shared}{b:Addr} (I:Inv X zp σ H s) (hb:s.heap.objs.size<=b) (hn:H' b = none):FpOk X zp H' b:=by
 refine ⟨hn,Nat.ne_of_gt (Nat.lt_of_lt_of_le I.lt hb),I.nofs hb,.inr (Nat.le_trans I.sz hb),fun x c e z=>?_,fun p hp z=>?_⟩
 ·obtain ⟨v,q⟩:=I.cell x c e
  exact absurd (Nat.lt_of_lt_of_le q.lt (by rw [z]; exact hb)) (Nat.lt_irrefl _)
 ·exact absurd (Nat.lt_of_lt_of_le (Heap.lt_size (I.pin p hp).1) (by rw [z]; exact hb)) (Nat.lt_irrefl _)
structure Turn (P:Program) (w:World) (K:PySem.W.Frag) (tg:Expr) (J:It) (fp:List Addr) (it:Addr) (tn:Nat->Heap->Prop):Prop where
 mem:it∈fp
 obj:∀ i h,tn i h->∀ b∈fp,∃ o,h.get? b = some o/\∀ v,o.data≠.cell v
 keep:∀ i h h',tn i h->(∀ b∈fp,∀ o,h.get? b = some o->h'.get? b = some o)->tn i h'
 item:∀ (X:Cx),X.prog = P->X.w = w->X.K = K->X.calm = true->∀ (i:Nat) (zp:List (Addr × Obj)) (s:Shared) (σ:St) (H:Hp) (E:Value->Shared->Prop),Inv X zp σ H s->(∀ b∈fp,FpOk X zp H b)->tn i s.heap->J.go i H->
  wpAny (model P w) X.A (pyNext (.ref it)) (fun r s1=>∃ u,r = some u /\
   wpAny (model P w) X.A (letOwnedTupleGo tg (.ref it) u) (fun _ s2=>∃ x H',Inv X zp σ H' s2/\RelV x u/\J.yld i H x H'/\tn (i + 1) s2.heap/\∀ b∈fp,H' b = none) E s1) E s
 done:∀ (X:Cx),X.prog = P->X.w = w->X.K = K->X.calm = true->∀ (i:Nat) (zp:List (Addr × Obj)) (s:Shared) (σ:St) (H:Hp) (E:Value->Shared->Prop),Inv X zp σ H s->(∀ b∈fp,FpOk X zp H b)->tn i s.heap->J.stop i H->
  wpAny (model P w) X.A (pyNext (.ref it)) (fun r s1=>r = none/\Inv X zp σ H s1) E s
 self:∀ (A:Around) (i:Nat) (s:Shared) (Q:Value->Shared->Prop) (E:Value->Shared->Prop),tn i s.heap->Q (.ref it) s->wpAny (model P w) A (pyIter (.ref it)) Q E s
abbrev TI:=St->Hp->(It->Hp->Prop)->Prop
def PIE (X:Cx) (zp:List (Addr × Obj)) (σ:St) (tg:Expr) (R:It->Hp->Prop) (itv:Value) (s2:Shared):Prop:=
 ∃ (it:Addr) (fp:List Addr) (tn:Nat->Heap->Prop) (J:It) (H':Hp),itv = .ref it/\Inv X zp σ H' s2/\Turn X.prog X.w X.K tg J fp it tn/\tn 0 s2.heap/\(∀ b∈fp,FpOk X zp H' b)/\R J H'
def PI (X:Cx) (tg iter:Expr) (wi:TI):Prop:=
 ∀ (zp:List (Addr × Obj)) (s:Shared) (σ:St) (H:Hp) (R:It->Hp->Prop),Inv X zp σ H s->wi σ H R->
  wpAny (model X.prog X.w) X.A (eval iter X.env) (fun v s1=>wpAny (model X.prog X.w) X.A (pyIter v) (PIE X zp σ tg R) X.xe s1) X.xe s
theorem zhx {M:Model}{A:Around}{E:Value->Shared->Prop}{s:Shared}{tg:Expr}{it:Addr}{u:Value}{o:Obj}{n:String}{vs:Array Value}{Q:Unit->Shared->Prop} (ho:s.heap.get? it = some o) (hc:o.cls = .type n) (hd:o.data = .fields vs)
  (hn:["enumerate","zip","dict_itemiterator","dict_reverseitemiterator","odict_iterator","itertools.zip_longest","itertools.pairwise"].contains n = false) (hQ:Q () s):wpAny M A (letOwnedTupleGo tg (.ref it) u) Q E s:=by
 unfold letOwnedTupleGo
 cases tg <;> first
  | exact wpAny_pure hQ
  | (
    cases u <;> first
    | exact wpAny_pure hQ
    | (
      refine wpAny_bind (wpAny_load ho ?_)
      rw [hc,hd]
      show wpAny M A (if (["enumerate","zip","dict_itemiterator","dict_reverseitemiterator","odict_iterator","itertools.zip_longest","itertools.pairwise"].contains n && vs[0]? == some (rawInt _)) = true then _ else _) Q E s
      rw [if_neg (by intro h; rw [hn,Bool.false_and] at h; cases h)]
      exact wpAny_pure hQ))
def Itl (K:PySem.W.Frag) (a:Addr):It:=
 ⟨fun i H=>∃ xs x,SqL K H a xs/\xs[i]? = some x,fun i H x H'=>H' = H/\∀ xs,SqL K H a xs->xs[i]? = some x,fun i H=>∃ xs,SqL K H a xs/\xs.length<=i⟩
def Itt (K:PySem.W.Frag) (a:Addr):It:=
 ⟨fun i H=>∃ xs x,SqT K H a xs/\xs[i]? = some x,fun i H x H'=>H' = H/\∀ xs,SqT K H a xs->xs[i]? = some x,fun i H=>∃ xs,SqT K H a xs/\xs.length<=i⟩
def Itr (lo:Int) (n:Nat):It:=⟨fun i _=>i < n,fun i H x H'=>H' = H/\x = .int (lo + i),fun i _=>n<=i⟩
theorem zhy {P:Program}{w:World}{K:PySem.W.Frag}{tg:Expr} (a it:Addr):Turn P w K tg (Itl K a) [it] it (fun i h=>h.IsListIter it a i) where
 mem:=by simp
 obj:=fun i h st b hb=>by
  have e:b = it:=by simpa using hb
  subst e
  obtain ⟨o,e,c,d⟩:=st
  exact ⟨o,e,fun v z=>by rw [d] at z; cases z⟩
 keep:=fun i h h' st k=>st.at fun o e=>k it (by simp) o e
 item:=by
  intro X hP hw hK hc i zp s σ H E I hf st hg
  subst hP hw hK
  obtain ⟨xs,x,hq,hx⟩:=hg
  obtain ⟨its,rv,p,hz⟩:=I.list hq
  obtain ⟨u,hu,ru⟩:=rv.get hx
  obtain ⟨f0,f1,f2,f3,f4,f5⟩:=hf it (by simp)
  refine wpAny_pyNext_list_item st p.isList (x:=u) (by simpa using hu) fun h' st' sb=>?_
  have I1:Inv X zp σ H { s with heap:=h' }:=I.turned (t':=s.toks) (fun b o hb e=>(sb.2 b hb).trans e) f0 f1 f3 f4 f5
  obtain ⟨o,e,c,d⟩:=id st'
  exact ⟨u,rfl,zhx (s:={ s with heap:=h' }) e c d (by decide) ⟨x,H,I1,ru,⟨rfl,fun ys hy=>by rw [I.list_inj hy hq]; exact hx⟩,st',fun b hb=>(hf b hb).1⟩⟩
 done:=by
  intro X hP hw hK hc i zp s σ H E I hf st hg
  subst hP hw hK
  obtain ⟨xs,hq,hx⟩:=hg
  obtain ⟨its,rv,p,hz⟩:=I.list hq
  obtain ⟨f0,f1,f2,f3,f4,f5⟩:=hf it (by simp)
  have hl:=rv.length
  exact wpAny_pyNext_list_end (I.ok.hd hc) st p.isList (by simp; omega) fun h' eb=>⟨rfl,I.turned (t':=s.toks) (fun b o hb e=>eb b o hb e) f0 f1 f3 f4 f5⟩
 self:=fun _ _ _ _ _ st h=>wpAny_pyIter_listiter st h
theorem zgJ {P:Program}{w:World}{K:PySem.W.Frag}{tg:Expr} (a it:Addr):Turn P w K tg (Itt K a) [it] it (fun i h=>h.IsTupleIter it a i) where
 mem:=by simp
 obj:=fun i h st b hb=>by
  have e:b = it:=by simpa using hb
  subst e
  obtain ⟨o,e,c,d⟩:=st
  exact ⟨o,e,fun v z=>by rw [d] at z; cases z⟩
 keep:=fun i h h' st k=>st.at fun o e=>k it (by simp) o e
 item:=by
  intro X hP hw hK hc i zp s σ H E I hf st hg
  subst hP hw hK
  obtain ⟨xs,x,hq,hx⟩:=hg
  obtain ⟨its,rv,p,hz⟩:=I.tuple hq
  obtain ⟨u,hu,ru⟩:=rv.get hx
  obtain ⟨f0,f1,f2,f3,f4,f5⟩:=hf it (by simp)
  refine wpAny_pyNext_tuple_item st (show s.heap.IsTuple a its.toArray from p) (x:=u) (by simpa using hu) fun h' st' sb=>?_
  have I1:Inv X zp σ H { s with heap:=h' }:=I.turned (t':=s.toks) (fun b o hb e=>(sb.2 b hb).trans e) f0 f1 f3 f4 f5
  obtain ⟨o,e,c,d⟩:=id st'
  exact ⟨u,rfl,zhx (s:={ s with heap:=h' }) e c d (by decide) ⟨x,H,I1,ru,⟨rfl,fun ys hy=>by rw [I.tuple_inj hy hq]; exact hx⟩,st',fun b hb=>(hf b hb).1⟩⟩
 done:=by
  intro X hP hw hK hc i zp s σ H E I hf st hg
  subst hP hw hK
  obtain ⟨xs,hq,hx⟩:=hg
  obtain ⟨its,rv,p,hz⟩:=I.tuple hq
  obtain ⟨f0,f1,f2,f3,f4,f5⟩:=hf it (by simp)
  have hl:=rv.length
  exact wpAny_pyNext_tuple_end (I.ok.hd hc) st (show s.heap.IsTuple a its.toArray from p) (by simp; omega) fun h' eb=>⟨rfl,I.turned (t':=s.toks) (fun b o hb e=>eb b o hb e) f0 f1 f3 f4 f5⟩
 self:=fun _ _ _ _ _ st h=>wpAny_pyIter_tupleiter st h
theorem zgK {P:Program}{w:World}{K:PySem.W.Frag}{tg:Expr} (it:Addr) (lo:Int) (n:Nat):Turn P w K tg (Itr lo n) [it] it (fun i h=>IsRangeIter h it (lo + (i:Nat) * 1) ((n:Int) - (i:Nat)) 1) where
 mem:=by simp
 obj:=fun i h st b hb=>by
  have e:b = it:=by simpa using hb
  subst e
  exact ⟨_,st,fun v z=>by
   have z':Data.fields _ = Data.cell v:=z
   cases z'⟩
 keep:=fun i h h' st k=>k it (by simp) _ st
 item:=by
  intro X hP hw hK hc i zp s σ H E I hf st hg
  subst hP hw hK
  obtain ⟨f0,f1,f2,f3,f4,f5⟩:=hf it (by simp)
  have W:=Walks.range (prog:=X.prog) (w:=X.w) (I.ok.hd hc) it lo 1 n
  refine W.item i s _ _ hg st fun v h' tk hv st' kk=>?_
  obtain ⟨t,rfl⟩:=hv
  have I1:Inv X zp σ H { s with heap:=h',toks:=tk }:=I.turned (fun b o hb e=>kk b o (by simpa using hb) e) f0 f1 f3 f4 f5
  refine ⟨_,rfl,zhx (s:={ s with heap:=h',toks:=tk }) (n:="range_iterator") st' rfl rfl (by decide) ⟨.int (lo + i),H,I1,⟨t,?_⟩,⟨rfl,rfl⟩,st',fun b hb=>(hf b hb).1⟩⟩
  rw [Int.mul_one]
 done:=by
  intro X hP hw hK hc i zp s σ H E I hf st hg
  subst hP hw hK
  obtain ⟨f0,f1,f2,f3,f4,f5⟩:=hf it (by simp)
  exact wpAny_pyNext_range_end (I.ok.hd hc) st (by have:n<=i:=hg; omega) fun h' eb=>⟨rfl,I.turned (t':=s.toks) (fun b o hb e=>eb b o hb e) f0 f1 f3 f4 f5⟩
 self:=fun _ _ _ _ _ st h=>wpAny_pyIter_rangeiter st h
section
variable {X:Cx}{tg:Expr}
def zhz (K:PySem.W.Frag) (tl:TE):TI:=fun σ H R=>tl σ H fun x H1=>∃ a,x = .ref a/\(∃ xs,SqL K H1 a xs)/\R (Itl K a) H1
def iTup (K:PySem.W.Frag) (tl:TE):TI:=fun σ H R=>tl σ H fun x H1=>∃ a,x = .ref a/\(∃ xs,SqT K H1 a xs)/\R (Itt K a) H1
theorem zat {l:Expr}{tl:TE} (hl:PE X l tl):PI X tg l (zhz X.K tl):=by
 intro zp s σ H R I h
 refine thn (hl zp s σ H _ I h) fun v s1 ⟨x,H1,I1,r1,q1⟩=>?_
 obtain ⟨a,e,⟨xs,hq⟩,q⟩:=q1
 subst e
 cases r1
 obtain ⟨its,rv,p,hz⟩:=I1.list hq
 refine wpAny_pyIter_list p.isList ?_
 refine ⟨s1.heap.objs.size,[s1.heap.objs.size],_,_,H1,rfl,I1.kept (t':=s1.toks) fun b o e=>Heap.get?_push_of_some _ e,zhy a _,⟨_,Heap.get?_push_size _ rfl,rfl,rfl⟩,fun b hb=>?_,q⟩
 have e:b = s1.heap.objs.size:=by simpa using hb
 subst e
 exact I1.fpOk (Nat.le_refl _) (I1.hok.fresh (Nat.le_refl _))
theorem zep {l:Expr}{tl:TE} (hl:PE X l tl):PI X tg l (iTup X.K tl):=by
 intro zp s σ H R I h
 refine thn (hl zp s σ H _ I h) fun v s1 ⟨x,H1,I1,r1,q1⟩=>?_
 obtain ⟨a,e,⟨xs,hq⟩,q⟩:=q1
 subst e
 cases r1
 obtain ⟨its,rv,p,hz⟩:=I1.tuple hq
 refine wpAny_pyIter_tuple (show s1.heap.IsTuple a its.toArray from p) ?_
 refine ⟨s1.heap.objs.size,[s1.heap.objs.size],_,_,H1,rfl,I1.kept (t':=s1.toks) fun b o e=>Heap.get?_push_of_some _ e,zgJ a _,⟨_,Heap.get?_push_size _ rfl,rfl,rfl⟩,fun b hb=>?_,q⟩
 have e:b = s1.heap.objs.size:=by simpa using hb
 subst e
 exact I1.fpOk (Nat.le_refl _) (I1.hok.fresh (Nat.le_refl _))
theorem zjx {zp:List (Addr × Obj)}{σ:St}{H:Hp}{s:Shared}{R:It->Hp->Prop}{E:Value->Shared->Prop}{lo hi:Int}{t u v:Tok}{tk:Nat} (I:Inv X zp σ H s) (h1:-(2 ^ 62)<=lo) (h2:lo < 2 ^ 62) (h3:-(2 ^ 62)<=hi) (h4:hi < 2 ^ 62)
  (q:R (Itr lo (hi - lo).toNat) H):wpAny (model X.prog X.w) X.A (pyIter (.ref s.heap.objs.size)) (PIE X zp σ tg R) E { s with heap:=s.heap.push { cls:=.type "range",data:=.fields #[.int lo t,.int hi u,.int 1 v] },toks:=tk }:=by
 refine wpAny_pyIter_range (IsRange.new ..) (small_one h1 h2 h3 h4) ?_
 have I1:Inv X zp σ H { s with heap:=s.heap.push { cls:=.type "range",data:=.fields #[.int lo t,.int hi u,.int 1 v] },toks:=tk }:=I.kept fun b o e=>Heap.get?_push_of_some _ e
 refine ⟨(s.heap.push { cls:=.type "range",data:=.fields #[.int lo t,.int hi u,.int 1 v] }).objs.size,[(s.heap.push { cls:=.type "range",data:=.fields #[.int lo t,.int hi u,.int 1 v] }).objs.size],_,_,H,rfl,
  I1.kept (t':=tk) fun b o e=>Heap.get?_push_of_some _ e,zgK _ lo (hi - lo).toNat,?_,fun b hb=>?_,q⟩
 ·have e1:lo + ((0:Nat):Int) * 1 = lo:=by simp
  have e2:(((hi - lo).toNat:Nat):Int) - ((0:Nat):Int) = Builtin.Range.rangeSize lo hi 1:=by rw [rangeSize_one]; split <;> omega
  show IsRangeIter _ _ (lo + ((0:Nat):Int) * 1) ((((hi - lo).toNat:Nat):Int) - ((0:Nat):Int)) 1
  rw [e1,e2]
  exact Heap.get?_push_size _ rfl
 ·have e:b = (s.heap.push { cls:=.type "range",data:=.fields #[.int lo t,.int hi u,.int 1 v] }).objs.size:=by simpa using hb
  subst e
  exact I1.fpOk (Nat.le_refl _) (I1.hok.fresh (Nat.le_refl _))
def zmw (ta:TA):TI:=fun σ H R=>ta σ H fun vs H1=>∃ j:Int,vs = [.int j]/\-(2 ^ 62)<=j/\j < 2 ^ 62/\R (Itr 0 j.toNat) H1
theorem Zq {a:Expr}{ta:TA}{p pos:Pos} (hg:Gl X "range") (hm:X.mg "range" = none) (ha:PA X [a] ta) (hs:starEach [a] X.env = [(false,eval a X.env)]:=by rfl):PI X tg (.Call (.Name "range" p) [a] [] pos) (zmw ta):=by
 intro zp s σ H R I h
 refine Call_ (zbX I hg hm boot_range (PyProof.Rows.callWith_type1 (thn (ha pos zp s σ H _ I h) fun us s1 ⟨vs,H1,I1,r1,q1⟩=>?_) hs rfl))
 obtain ⟨j,e,q1,q2,q⟩:=q1
 subst e
 cases r1 with
 | cons r rr=>
  cases rr
  obtain ⟨t,rfl⟩:=r
  exact call_range_1 (zjx I1 (by omega) (by omega) q1 q2 (by simpa using q))
def tFor (wi:TI) (g:TG) (tb:TS):TS:=fun D σ H=>wi σ H fun J H1=>∃ W:Nat->Nat->St->Hp->Prop,(∃ m,W 0 m σ H1)/\∀ i m σ H,W i m σ H->
 (J.stop i H/\D.nx σ H)\/(J.go i H/\∃ N:St->Hp->Prop,(∀ σ' H',N σ' H'->∃ m',m' < m/\W (i + 1) m' σ' H')/\∀ x H',J.yld i H x H'->g x σ H' fun σ2 H2=>tb { D with nx:=N,ct:=N,bk:=D.nx } σ2 H2)
def zct (fp:List Addr) (h:Heap):List (Addr × Obj):=fp.filterMap fun b=>(h.get? b).map fun o=>(b,o)
theorem ZC {fp:List Addr}{h:Heap}{b:Addr}{o:Obj} (hb:b∈fp) (e:h.get? b = some o):(b,o)∈zct fp h:=List.mem_filterMap.mpr ⟨b,hb,by rw [e]; rfl⟩
theorem zhA {fp:List Addr}{h:Heap}{p:Addr × Obj} (hp:p∈zct fp h):p.1∈fp/\h.get? p.1 = some p.2:=by
 obtain ⟨b,hb,e⟩:=List.mem_filterMap.mp hp
 cases q:h.get? b with
 | none=>rw [q] at e; cases e
 | some o=>
  rw [q] at e
  have e':(b,o) = p:=Option.some.inj e
  subst e'
  exact ⟨hb,q⟩
theorem Inv.pinned {zp:List (Addr × Obj)}{σ:St}{H:Hp}{s:Shared}{fp:List Addr} (I:Inv X zp σ H s) (hf:∀ b∈fp,FpOk X zp H b) (ho:∀ b∈fp,∃ o,s.heap.get? b = some o/\∀ v,o.data≠.cell v):Inv X (zp ++ zct fp s.heap) σ H s:=
 I.pins_of fun p hp=>(List.mem_append.mp hp).elim (fun z=>I.pin p (List.mem_append_right _ z)) fun z=>by
  obtain ⟨hb,e⟩:=zhA z
  obtain ⟨f0,f1,f2,_⟩:=hf p.1 hb
  obtain ⟨o,e',d⟩:=ho p.1 hb
  rw [e] at e'; cases e'
  exact ⟨e,f0,f1,f2,d⟩
theorem Inv.unpinned {zp pl:List (Addr × Obj)}{σ:St}{H:Hp}{s:Shared} (I:Inv X (zp ++ pl) σ H s):Inv X zp σ H s:=I.pins_of fun p hp=>I.pin p (List.mem_append_right _ (List.mem_append_left _ hp))
theorem zau {iter:Expr}{body:List Stmt}{wi:TI}{g:TG}{tb:TS}{pos:Pos} (hp:PassesOwn (model X.prog X.w) X.A X.env X.xe) (hc:X.calm = true) (hi:PI X tg iter wi) (hg:PG X tg g) (hb:PSs X body tb)
  (hs:∀ x,foldedSetIterable iter X.env x = pure x:=by intro _; rfl):PS X (.For tg iter body [] pos) (tFor wi g tb):=by
 intro zp s σ H D I h
 refine wpAny_For (thn (hi zp s σ H _ I h) fun v s1 h1=>thn h1 fun itv s2 h2=>?_) hs
 obtain ⟨it,fp,tn,J,H2,e,I2,T,st2,f2,W,⟨m0,w0⟩,turn⟩:=h2
 subst e
 have stat:∀ {H':Hp},(∀ b∈fp,H' b = none)->∀ b∈fp,FpOk X zp H' b:=fun hn b hb=>⟨hn b hb,(f2 b hb).2⟩
 refine codeAny_forLoop_any (fun n s'=>∃ i σ' H',Inv X zp σ' H' s'/\tn i s'.heap/\(∀ b∈fp,H' b = none)/\W i n σ' H') ?_ m0 ⟨0,σ,H2,I2,st2,fun b hb=>(f2 b hb).1,w0⟩
 rintro n s3 ⟨i,σ3,H3,I3,st3,fr3,w3⟩
 rcases turn i n σ3 H3 w3 with ⟨stop,qn⟩ | ⟨go,N,hN,step⟩
 ·refine wpAny_passesOwn hp (thn (T.done X rfl rfl rfl hc i zp s3 σ3 H3 X.xe I3 (stat fr3) st3 stop) fun r s4 ⟨hr,I4⟩=>?_)
  subst hr
  exact wpAny_execs_nil ⟨σ3,H3,I4,qn⟩
 ·refine wpAny_passesOwn hp (thn (T.item X rfl rfl rfl hc i zp s3 σ3 H3 X.xe I3 (stat fr3) st3 go) fun r s4 ⟨u,hr,h4⟩=>?_)
  subst hr
  refine wpAny_passesOwn hp (thn h4 fun _ s5 ⟨x,H5,I5,r5,y5,st5,fr5⟩=>?_)
  have I5':=I5.pinned (stat fr5) (T.obj _ _ st5)
  refine wpAny_passesOwn hp (thn (hg _ s5 σ3 H5 x u _ I5' r5 (step x H5 y5)) fun _ s6 ⟨σ6,H6,I6,q6⟩=>?_)
  refine wpAny_passesOwn hp (thn (hb _ s6 σ6 H6 _ I6 q6) fun f s7 q7=>?_)
  have again:∀ {σ7:St}{H7:Hp},Inv X (zp ++ zct fp s5.heap) σ7 H7 s7->N σ7 H7->∃ m,m < n/\∃ i σ' H',Inv X zp σ' H' s7/\tn i s7.heap/\(∀ b∈fp,H' b = none)/\W i m σ' H':=fun {σ7 H7} I7 n7=>by
   obtain ⟨m',hm,w7⟩:=hN σ7 H7 n7
   refine ⟨m',hm,i + 1,σ7,H7,I7.unpinned,T.keep _ _ _ st5 fun b hb o e=>(I7.pin (b,o) (List.mem_append_right _ (List.mem_append_right _ (ZC hb e)))).1,fun b hb=>?_,w7⟩
   obtain ⟨o,e,d⟩:=T.obj _ _ st5 b hb
   exact (I7.pin (b,o) (List.mem_append_right _ (List.mem_append_right _ (ZC hb e)))).2.1
  cases f with
  | next=>obtain ⟨σ7,H7,I7,n7⟩:=q7; exact again I7 n7
  | cont=>obtain ⟨σ7,H7,I7,n7⟩:=q7; exact again I7 n7
  | brk=>obtain ⟨σ7,H7,I7,q7⟩:=q7; exact ⟨σ7,H7,I7.unpinned,q7⟩
  | ret v=>obtain ⟨x7,σ7,H7,I7,r7,q7⟩:=q7; exact ⟨x7,σ7,H7,I7.unpinned,r7,q7⟩
end
theorem zci {K:PySem.W.Frag}{a:Addr}{xs:List V}{g:TG}{tb:TS}{D:Ends}{σ:St}{H:Hp} (Pv:Nat->St->Hp->Prop) (h0:Pv 0 σ H) (hl:∀ i σ H,i<=xs.length->Pv i σ H->SqL K H a xs)
  (hs:∀ i x σ H,xs[i]? = some x->Pv i σ H->g x σ H fun σ2 H2=>tb { D with nx:=Pv (i + 1),ct:=Pv (i + 1),bk:=D.nx } σ2 H2) (hd:∀ σ H,Pv xs.length σ H->D.nx σ H):
  ∃ W:Nat->Nat->St->Hp->Prop,(∃ m,W 0 m σ H)/\∀ i m σ H,W i m σ H->
   ((Itl K a).stop i H/\D.nx σ H)\/((Itl K a).go i H/\∃ N:St->Hp->Prop,(∀ σ' H',N σ' H'->∃ m',m' < m/\W (i + 1) m' σ' H')/\∀ x H',(Itl K a).yld i H x H'->g x σ H' fun σ2 H2=>tb { D with nx:=N,ct:=N,bk:=D.nx } σ2 H2):=by
 refine ⟨fun i m σ H=>m = xs.length - i/\i<=xs.length/\Pv i σ H,⟨xs.length,by simp,Nat.zero_le _,h0⟩,?_⟩
 rintro i m σ H ⟨rfl,hi,p⟩
 have q:=hl i σ H hi p
 by_cases hlt:i < xs.length
 ·refine .inr ⟨⟨xs,xs[i],q,by simp [hlt]⟩,Pv (i + 1),fun σ' H' p'=>⟨xs.length - (i + 1),by omega,rfl,hlt,p'⟩,fun x H' y=>?_⟩
  obtain ⟨e,y⟩:=y
  subst e
  exact hs i x σ _ (y xs q) p
 ·have e:i = xs.length:=by omega
  subst e
  exact .inl ⟨⟨xs,q,Nat.le_refl _⟩,hd σ H p⟩
theorem zhB {K:PySem.W.Frag}{a:Addr}{xs:List V}{g:TG}{tb:TS}{D:Ends}{σ:St}{H:Hp} (Pv:Nat->St->Hp->Prop) (h0:Pv 0 σ H) (hl:∀ i σ H,i<=xs.length->Pv i σ H->SqT K H a xs)
  (hs:∀ i x σ H,xs[i]? = some x->Pv i σ H->g x σ H fun σ2 H2=>tb { D with nx:=Pv (i + 1),ct:=Pv (i + 1),bk:=D.nx } σ2 H2) (hd:∀ σ H,Pv xs.length σ H->D.nx σ H):
  ∃ W:Nat->Nat->St->Hp->Prop,(∃ m,W 0 m σ H)/\∀ i m σ H,W i m σ H->
   ((Itt K a).stop i H/\D.nx σ H)\/((Itt K a).go i H/\∃ N:St->Hp->Prop,(∀ σ' H',N σ' H'->∃ m',m' < m/\W (i + 1) m' σ' H')/\∀ x H',(Itt K a).yld i H x H'->g x σ H' fun σ2 H2=>tb { D with nx:=N,ct:=N,bk:=D.nx } σ2 H2):=by
 refine ⟨fun i m σ H=>m = xs.length - i/\i<=xs.length/\Pv i σ H,⟨xs.length,by simp,Nat.zero_le _,h0⟩,?_⟩
 rintro i m σ H ⟨rfl,hi,p⟩
 have q:=hl i σ H hi p
 by_cases hlt:i < xs.length
 ·refine .inr ⟨⟨xs,xs[i],q,by simp [hlt]⟩,Pv (i + 1),fun σ' H' p'=>⟨xs.length - (i + 1),by omega,rfl,hlt,p'⟩,fun x H' y=>?_⟩
  obtain ⟨e,y⟩:=y
  subst e
  exact hs i x σ _ (y xs q) p
 ·have e:i = xs.length:=by omega
  subst e
  exact .inl ⟨⟨xs,q,Nat.le_refl _⟩,hd σ H p⟩
theorem zbo {lo:Int}{n:Nat}{g:TG}{tb:TS}{D:Ends}{σ:St}{H:Hp} (Pv:Nat->St->Hp->Prop) (h0:Pv 0 σ H)
  (hs:∀ i σ H,i < n->Pv i σ H->g (.int (lo + i)) σ H fun σ2 H2=>tb { D with nx:=Pv (i + 1),ct:=Pv (i + 1),bk:=D.nx } σ2 H2) (hd:∀ σ H,Pv n σ H->D.nx σ H):
  ∃ W:Nat->Nat->St->Hp->Prop,(∃ m,W 0 m σ H)/\∀ i m σ H,W i m σ H->
   ((Itr lo n).stop i H/\D.nx σ H)\/((Itr lo n).go i H/\∃ N:St->Hp->Prop,(∀ σ' H',N σ' H'->∃ m',m' < m/\W (i + 1) m' σ' H')/\∀ x H',(Itr lo n).yld i H x H'->g x σ H' fun σ2 H2=>tb { D with nx:=N,ct:=N,bk:=D.nx } σ2 H2):=by
 refine ⟨fun i m σ H=>m = n - i/\i<=n/\Pv i σ H,⟨n,by simp,Nat.zero_le _,h0⟩,?_⟩
 rintro i m σ H ⟨rfl,hi,p⟩
 by_cases hlt:i < n
 ·refine .inr ⟨hlt,Pv (i + 1),fun σ' H' p'=>⟨n - (i + 1),by omega,rfl,hlt,p'⟩,fun x H' y=>?_⟩
  obtain ⟨e,y⟩:=y
  subst e y
  exact hs i σ _ hlt p
 ·have e:i = n:=by omega
  subst e
  exact .inl ⟨Nat.le_refl _,hd σ H p⟩
abbrev R2:=V->V->Hp->VK->Prop
def OpR (X:Cx) (f:Value->Value->Sem Value) (r:R2):Prop:=
 ∀ (zp:List (Addr × Obj)) (s:Shared) (σ:St) (H:Hp) (x y:V) (v u:Value) (Q:VK),Inv X zp σ H s->RelV x v->RelV y u->r x y H Q->
  wpAny (model X.prog X.w) X.A (f v u) (EP X zp σ Q) X.xe s
def UnR (X:Cx) (f:Value->Sem Value) (r:V->Hp->VK->Prop):Prop:=
 ∀ (zp:List (Addr × Obj)) (s:Shared) (σ:St) (H:Hp) (x:V) (v:Value) (Q:VK),Inv X zp σ H s->RelV x v->r x H Q->
  wpAny (model X.prog X.w) X.A (f v) (EP X zp σ Q) X.xe s
def zaE (X:Cx) (f:Value) (r:List V->Hp->VK->Prop):Prop:=
 ∀ (zp:List (Addr × Obj)) (s:Shared) (σ:St) (H:Hp) (xs:List V) (us:List Value) (Q:VK),Inv X zp σ H s->Vals xs us->r xs H Q->
  wpAny (model X.prog X.w) X.A (call f us) (EP X zp σ Q) X.xe s
def tOp (r:R2) (ta tb:TE):TE:=fun σ H Q=>ta σ H fun x H1=>tb σ H1 fun y H2=>r x y H2 Q
def tUn (r:V->Hp->VK->Prop) (ta:TE):TE:=fun σ H Q=>ta σ H fun x H1=>r x H1 Q
def rI (C:Int->Int->Prop) (g:Int->Int->V):R2:=fun x y H Q=>∃ i j,x = .int i/\y = .int j/\C i j/\Q (g i j) H
def rI0 (g:Int->Int->V):R2:=fun x y H Q=>∃ i j,x = .int i/\y = .int j/\Q (g i j) H
def rU (g:Int->V):V->Hp->VK->Prop:=fun x H Q=>∃ i,x = .int i/\Q (g i) H
section
variable {X:Cx}{a b c:Expr}{ta tb tc:TE}{pos:Pos}
theorem binT (ha:PE X a ta) (hb:PE X b tb) {zp:List (Addr × Obj)}{s:Shared}{σ:St}{H:Hp}{R:V->V->Hp->Prop} (I:Inv X zp σ H s)
  (h:ta σ H fun x H1=>tb σ H1 fun y H2=>R x y H2) {Q:Value->Shared->Prop}{f:Value->Value->Sem Value}
  (hf:∀ v u s2 x y H2,Inv X zp σ H2 s2->RelV x v->RelV y u->R x y H2->wpAny (model X.prog X.w) X.A (f v u) Q X.xe s2):
  wpAny (model X.prog X.w) X.A (eval a X.env) (fun v s₁=>wpAny (model X.prog X.w) X.A (eval b X.env) (fun u s₂=>wpAny (model X.prog X.w) X.A (f v u) Q X.xe s₂) X.xe s₁) X.xe s:=by
 refine thn (ha zp s σ H _ I h) fun v s1 ⟨x,H1,I1,r1,q1⟩=>?_
 refine thn (hb zp s1 σ H1 _ I1 q1) fun u s2 ⟨y,H2,I2,r2,q2⟩=>?_
 exact hf v u s2 x y H2 I2 r1 r2 q2
theorem zF {op:Operator}{r:R2} (ho:OpR X (binaryOp op) r) (ha:PE X a ta) (hb:PE X b tb):PE X (.BinOp a op b pos) (tOp r ta tb):=by
 intro zp s σ H Q I h
 exact wpAny_BinOp (binT ha hb I h fun v u s2 x y H2 I2 rx ry q=>ho zp s2 σ H2 x y v u Q I2 rx ry q)
theorem zdd {op:UnaryOp}{r:V->Hp->VK->Prop} (ho:UnR X (unaryOp op) r) (ha:PE X a ta):PE X (.UnaryOp op a pos) (tUn r ta):=by
 intro zp s σ H Q I h
 exact UnaryOp_ (thn (ha zp s σ H _ I h) fun v s1 ⟨x,H1,I1,r1,q1⟩=>ho zp s1 σ H1 x v Q I1 r1 q1)
theorem opI {f:Value->Value->Sem Value}{C:Int->Int->Prop}{g:Int->Int->Int}
  (rule:∀ (i j:Int) (t u:Tok) (s:Shared) (Q:Value->Shared->Prop) (E:Value->Shared->Prop),C i j->Q (.int (g i j) s.toks) { s with toks:=s.toks + 1 }->wpAny (model X.prog X.w) X.A (f (.int i t) (.int j u)) Q E s):
  OpR X f (rI C fun i j=>.int (g i j)):=by
 intro zp s σ H x y v u Q I rx ry h
 obtain ⟨i,j,rfl,rfl,hc,q⟩:=h
 obtain ⟨t,rfl⟩:=rx
 obtain ⟨t',rfl⟩:=ry
 exact rule i j t t' s _ _ hc ⟨.int (g i j),H,I.tok _,⟨_,rfl⟩,q⟩
theorem opI0 {f:Value->Value->Sem Value}{g:Int->Int->Int}
  (rule:∀ (i j:Int) (t u:Tok) (s:Shared) (Q:Value->Shared->Prop) (E:Value->Shared->Prop),Q (.int (g i j) s.toks) { s with toks:=s.toks + 1 }->wpAny (model X.prog X.w) X.A (f (.int i t) (.int j u)) Q E s):
  OpR X f (rI0 fun i j=>.int (g i j)):=by
 intro zp s σ H x y v u Q I rx ry h
 obtain ⟨i,j,rfl,rfl,q⟩:=h
 obtain ⟨t,rfl⟩:=rx
 obtain ⟨t',rfl⟩:=ry
 exact rule i j t t' s _ _ ⟨.int (g i j),H,I.tok _,⟨_,rfl⟩,q⟩
theorem opB0 {f:Value->Value->Sem Value}{g:Int->Int->Bool}
  (rule:∀ (i j:Int) (t u:Tok) (s:Shared) (Q:Value->Shared->Prop) (E:Value->Shared->Prop),Q (.bool (g i j)) s->wpAny (model X.prog X.w) X.A (f (.int i t) (.int j u)) Q E s):
  OpR X f (rI0 fun i j=>.bl (g i j)):=by
 intro zp s σ H x y v u Q I rx ry h
 obtain ⟨i,j,rfl,rfl,q⟩:=h
 obtain ⟨t,rfl⟩:=rx
 obtain ⟨t',rfl⟩:=ry
 exact rule i j t t' s _ _ ⟨.bl (g i j),H,I,rfl,q⟩
def CPow (i j:Int):Prop:=0<=j/\j<=1000000/\i.natAbs < 2 ^ 64
def CMul (i j:Int):Prop:=(-(2 ^ 64) < i/\i < 2 ^ 64)\/(-(2 ^ 64) < j/\j < 2 ^ 64)
theorem CMul.ok {i j:Int} (h:CMul i j):IntMulOk i j:=by
 rcases h with ⟨h1,h2⟩ | ⟨h1,h2⟩
 ·exact .of_left (intBits_le_64 h1 h2)
 ·exact .of_right (intBits_le_64 h1 h2)
theorem Ze:OpR X (binaryOp .Add) (rI0 fun i j=>.int (i + j)):=opI0 fun _ _ _ _ _ _ _ q=>add_int q
theorem Zf:OpR X (binaryOp .Sub) (rI0 fun i j=>.int (i - j)):=opI0 fun _ _ _ _ _ _ _ q=>sub_int q
theorem za4:OpR X (binaryOp .Mult) (rI CMul fun i j=>.int (i * j)):=opI fun _ _ _ _ _ _ _ hc q=>mul_int q hc.ok
theorem zaN:OpR X (binaryOp .Mod) (rI (fun _ j=>0 < j) fun i j=>.int (i % j)):=opI fun i j _ _ _ _ _ hc q=>by
 have h1:(0:Int) < j:=hc
 exact mod_int' (by omega) (by rw [Int.fmod_eq_emod_of_nonneg i (by omega)]; exact q)
theorem zcu:OpR X (binaryOp .Pow) (rI CPow fun i j=>.int (i ^ j.toNat)):=opI fun _ _ _ _ _ _ _ hc q=>pow_int_small hc.1 hc.2.1 hc.2.2 q
theorem zlb:OpR X (inplaceOp .Add) (rI0 fun i j=>.int (i + j)):=opI0 fun _ _ _ _ _ _ _ q=>iadd_int q
theorem unI {f:Value->Sem Value}{g:Int->Int}
  (rule:∀ (i:Int) (t:Tok) (s:Shared) (Q:Value->Shared->Prop) (E:Value->Shared->Prop),Q (.int (g i) s.toks) { s with toks:=s.toks + 1 }->wpAny (model X.prog X.w) X.A (f (.int i t)) Q E s):
  UnR X f (rU fun i=>.int (g i)):=by
 intro zp s σ H x v Q I rx h
 obtain ⟨i,rfl,q⟩:=h
 obtain ⟨t,rfl⟩:=rx
 exact rule i t s _ _ ⟨.int (g i),H,I.tok _,⟨_,rfl⟩,q⟩
theorem zbZ:UnR X (unaryOp .USub) (rU fun i=>.int (-i)):=unI fun _ _ _ _ _ q=>neg_int q
end
def scal:V->V->Bool
 | .non,.non=>true | .non,.int _=>true | .int _,.non=>true | .non,.bl _=>true | .bl _,.non=>true | .non,.str _=>true | .str _,.non=>true
 | .int _,.int _=>true | .bl _,.bl _=>true | .str _,.str _=>true | .byt _,.byt _=>true
 | .int _,.str _=>true | .str _,.int _=>true | .bl _,.str _=>true | .str _,.bl _=>true
 | _,_=>false
def rEq:R2:=fun x y H Q=>scal x y = true/\Q (.bl (decide (x = y))) H
def rNe:R2:=fun x y H Q=>scal x y = true/\Q (.bl (!decide (x = y))) H
theorem zhC {i j:Int}:decide (V.int i = V.int j) = (i == j):=by
 rw [Bool.eq_iff_iff]
 simp
theorem zkz {i j:Bool}:decide (V.bl i = V.bl j) = (i == j):=by
 rw [Bool.eq_iff_iff]
 simp
theorem zhD {i j:Str}:decide (V.str i = V.str j) = (i == j):=by
 rw [Bool.eq_iff_iff]
 simp
theorem zhE {i j:Array UInt8}:decide (V.byt i = V.byt j) = (i.toList == j.toList):=by
 rw [Bool.eq_iff_iff]
 cases i
 cases j
 simp
section
variable {X:Cx}{a b c:Expr}{ta tb tc:TE}{pos:Pos}
theorem zW {zp:List (Addr × Obj)}{σ:St}{H:Hp}{s:Shared}{Q:VK}{k k':Bool} (I:Inv X zp σ H s) (q:Q (.bl k) H) (e:k = k'):EP X zp σ Q (.bool k') s:=by
 subst e
 exact ⟨.bl k,H,I,rfl,q⟩
theorem Za:OpR X (compareOp .Eq) rEq:=by
 intro zp s σ H x y v u Q I rx ry h
 obtain ⟨hs,q⟩:=h
 cases x with
 | non=>
  cases rx
  cases y with
  | non=>cases ry; exact PySem.EqNone.eq_none_none (zW I q (by simp))
  | bl j=>cases ry; exact PySem.EqNone.eq_none_bool (zW I q (by simp))
  | int j=>obtain ⟨t',rfl⟩:=ry; exact PySem.EqNone.eq_none_int (zW I q (by simp))
  | str j=>obtain ⟨t',rfl⟩:=ry; exact PySem.EqNone.eq_none_str (zW I q (by simp))
  | _=>exact absurd (show false = true from hs) Bool.false_ne_true
 | bl i=>
  cases rx
  cases y with
  | non=>cases ry; exact PySem.EqNone.eq_bool_none (zW I q (by simp))
  | bl j=>cases ry; exact eq_bool (zW I q zkz)
  | str j=>obtain ⟨t',rfl⟩:=ry; exact PySem.EqMixed.eq_bool_str (zW I q (by simp))
  | _=>exact absurd (show false = true from hs) Bool.false_ne_true
 | int i=>
  obtain ⟨t,rfl⟩:=rx
  cases y with
  | non=>cases ry; exact PySem.EqNone.eq_int_none (zW I q (by simp))
  | int j=>obtain ⟨t',rfl⟩:=ry; exact eq_int (zW I q zhC)
  | str j=>obtain ⟨t',rfl⟩:=ry; exact PySem.EqMixed.eq_int_str (zW I q (by simp))
  | _=>exact absurd (show false = true from hs) Bool.false_ne_true
 | str i=>
  obtain ⟨t,rfl⟩:=rx
  cases y with
  | non=>cases ry; exact PySem.EqNone.eq_str_none (zW I q (by simp))
  | bl j=>cases ry; exact PySem.EqMixed.eq_str_bool (zW I q (by simp))
  | int j=>obtain ⟨t',rfl⟩:=ry; exact PySem.EqMixed.eq_str_int (zW I q (by simp))
  | str j=>obtain ⟨t',rfl⟩:=ry; exact eq_str (zW I q zhD)
  | _=>exact absurd (show false = true from hs) Bool.false_ne_true
 | byt i=>
  obtain ⟨t,rfl⟩:=rx
  cases y with
  | byt j=>obtain ⟨t',rfl⟩:=ry; exact PySem.W.eq_bytes (zW I q zhE)
  | _=>exact absurd (show false = true from hs) Bool.false_ne_true
 | _=>cases y <;> exact absurd (show false = true from hs) Bool.false_ne_true
theorem zjy:OpR X (compareOp .NotEq) rNe:=by
 intro zp s σ H x y v u Q I rx ry h
 obtain ⟨hs,q⟩:=h
 cases x with
 | non=>
  cases rx
  cases y with
  | non=>cases ry; exact PySem.EqNone.ne_none_none (zW I q (by simp))
  | bl j=>cases ry; exact PySem.EqNone.ne_none_bool (zW I q (by simp))
  | int j=>obtain ⟨t',rfl⟩:=ry; exact PySem.EqNone.ne_none_int (zW I q (by simp))
  | str j=>obtain ⟨t',rfl⟩:=ry; exact PySem.EqNone.ne_none_str (zW I q (by simp))
  | _=>exact absurd (show false = true from hs) Bool.false_ne_true
 | bl i=>
  cases rx
  cases y with
  | non=>cases ry; exact PySem.EqNone.ne_bool_none (zW I q (by simp))
  | bl j=>cases ry; exact ne_bool (zW I q (congrArg not zkz))
  | str j=>obtain ⟨t',rfl⟩:=ry; exact PySem.EqMixed.ne_bool_str (zW I q (by simp))
  | _=>exact absurd (show false = true from hs) Bool.false_ne_true
 | int i=>
  obtain ⟨t,rfl⟩:=rx
  cases y with
  | non=>cases ry; exact PySem.EqNone.ne_int_none (zW I q (by simp))
  | int j=>obtain ⟨t',rfl⟩:=ry; exact ne_int (zW I q (congrArg not zhC))
  | str j=>obtain ⟨t',rfl⟩:=ry; exact PySem.EqMixed.ne_int_str (zW I q (by simp))
  | _=>exact absurd (show false = true from hs) Bool.false_ne_true
 | str i=>
  obtain ⟨t,rfl⟩:=rx
  cases y with
  | non=>cases ry; exact PySem.EqNone.ne_str_none (zW I q (by simp))
  | bl j=>cases ry; exact PySem.EqMixed.ne_str_bool (zW I q (by simp))
  | int j=>obtain ⟨t',rfl⟩:=ry; exact PySem.EqMixed.ne_str_int (zW I q (by simp))
  | str j=>obtain ⟨t',rfl⟩:=ry; exact ne_str (zW I q (congrArg not zhD))
  | _=>exact absurd (show false = true from hs) Bool.false_ne_true
 | byt i=>
  obtain ⟨t,rfl⟩:=rx
  cases y with
  | byt j=>obtain ⟨t',rfl⟩:=ry; exact PySem.W.ne_bytes (zW I q (congrArg not zhE))
  | _=>exact absurd (show false = true from hs) Bool.false_ne_true
 | _=>cases y <;> exact absurd (show false = true from hs) Bool.false_ne_true
theorem zfm:OpR X (compareOp .Lt) (rI0 fun i j=>.bl (decide (i < j))):=opB0 fun _ _ _ _ _ _ _ q=>lt_int q
theorem zlc:OpR X (compareOp .LtE) (rI0 fun i j=>.bl (decide (i<=j))):=opB0 fun _ _ _ _ _ _ _ q=>le_int q
theorem zeq:OpR X (compareOp .Gt) (rI0 fun i j=>.bl (decide (j < i))):=opB0 fun _ _ _ _ _ _ _ q=>gt_int q
theorem znD:OpR X (compareOp .GtE) (rI0 fun i j=>.bl (decide (j<=i))):=opB0 fun _ _ _ _ _ _ _ q=>ge_int q
theorem OpR.or {f:Value->Value->Sem Value}{r r':R2} (h:OpR X f r) (h':OpR X f r'):OpR X f (fun x y H Q=>r x y H Q\/r' x y H Q):=by
 intro zp s σ H x y v u Q I rx ry q
 rcases q with q | q
 ·exact h zp s σ H x y v u Q I rx ry q
 ·exact h' zp s σ H x y v u Q I rx ry q
theorem nomark (b:Expr) {op:CmpOp} (h:op≠.In:=by decide) (h2:op≠.NotIn:=by decide):behindInMarks op b = false:=by
 have e1:(op == CmpOp.In) = false:=by cases op <;> first | rfl | exact absurd rfl h
 have e2:(op == CmpOp.NotIn) = false:=by cases op <;> first | rfl | exact absurd rfl h2
 cases b <;> simp [behindInMarks,e1,e2]
theorem zY {op:CmpOp}{r:R2} (ho:OpR X (compareOp op) r) (ha:PE X a ta) (hb:PE X b tb) (hm:behindInMarks op b = false):PE X (.Compare a [op] [b] pos) (tOp r ta tb):=by
 intro zp s σ H Q I h
 exact wpAny_Compare1 (binT ha hb I h fun v u s2 x y H2 I2 rx ry q=>ho zp s2 σ H2 x y v u Q I2 rx ry q) hm
def zjz (t:TE):TT:=fun σ H Q=>t σ H fun x H'=>∃ k,x = .bl k/\Q k H'
theorem zB {op:CmpOp}{r:R2} (ho:OpR X (compareOp op) r) (ha:PE X a ta) (hb:PE X b tb) (hm:behindInMarks op b = false):PT X (.Compare a [op] [b] pos) (zjz (tOp r ta tb)):=by
 intro zp s σ H Q I h
 refine wpAny_isTrue_Compare1 (thn (ha zp s σ H _ I h) fun v s1 ⟨x,H1,I1,r1,q1⟩=>thn (hb zp s1 σ H1 _ I1 q1) fun u s2 ⟨y,H2,I2,r2,q2⟩=>
  thn (ho zp s2 σ H2 x y v u _ I2 r1 r2 q2) fun c s3 ⟨z,H3,I3,r3,k,e,q3⟩=>?_) hm
 subst e
 cases r3
 exact wpAny_truthy_bool ⟨H3,I3,q3⟩
def zhF (r r':R2) (ta tb tc:TE):TE:=fun σ H Q=>ta σ H fun x H1=>tb σ H1 fun y H2=>r x y H2 fun z H3=>∃ k,z = .bl k /\
 (if k = true then tc σ H3 fun w' H4=>r' y w' H4 Q else Q (.bl false) H3)
theorem zjA {op op':CmpOp}{r r':R2} (ho:OpR X (compareOp op) r) (ho':OpR X (compareOp op') r') (ha:PE X a ta) (hb:PE X b tb) (hc:PE X c tc)
  (hm:lastMarks [op,op'] [b,c] = false:=by with_unfolding_all rfl):PE X (.Compare a [op,op'] [b,c] pos) (zhF r r' ta tb tc):=by
 intro zp s σ H Q I h
 refine Compare_chain (thn (ha zp s σ H _ I h) fun v s1 ⟨x,H1,I1,r1,q1⟩=>chain_link (thn (hb zp s1 σ H1 _ I1 q1) fun u s2 ⟨y,H2,I2,r2,q2⟩=>
  thn (ho zp s2 σ H2 x y v u _ I2 r1 r2 q2) fun d s3 ⟨z,H3,I3,r3,k,e,q3⟩=>?_)) hm
 subst e
 cases r3
 refine wpAny_truthy_bool ?_
 cases k with
 | false=>exact ite_ff ⟨.bl false,H3,I3,rfl,q3⟩
 | true=>exact ite_tt (chain_last (thn (hc zp s3 σ H3 _ I3 q3) fun w' s4 ⟨z',H4,I4,r4,q4⟩=>ho' zp s4 σ H4 y z' u w' Q I4 r2 r4 q4))
theorem zcj {op op':CmpOp}{r r':R2} (ho:OpR X (compareOp op) r) (ho':OpR X (compareOp op') r') (ha:PE X a ta) (hb:PE X b tb) (hc:PE X c tc)
  (hm:lastMarks [op,op'] [b,c] = false:=by with_unfolding_all rfl):PT X (.Compare a [op,op'] [b,c] pos) (zjz (zhF r r' ta tb tc)):=by
 intro zp s σ H Q I h
 refine isTrue_chain (thn (ha zp s σ H _ I h) fun v s1 ⟨x,H1,I1,r1,q1⟩=>test_link (thn (hb zp s1 σ H1 _ I1 q1) fun u s2 ⟨y,H2,I2,r2,q2⟩=>
  thn (ho zp s2 σ H2 x y v u _ I2 r1 r2 q2) fun d s3 ⟨z,H3,I3,r3,k,e,q3⟩=>?_)) hm
 subst e
 cases r3
 refine wpAny_truthy_bool ?_
 cases k with
 | false=>
  obtain ⟨k',e',q'⟩:=q3
  cases e'
  exact ite_ff ⟨H3,I3,q'⟩
 | true=>
  refine ite_tt (test_last (thn (hc zp s3 σ H3 _ I3 q3) fun w' s4 ⟨z',H4,I4,r4,q4⟩=>thn (ho' zp s4 σ H4 y z' u w' _ I4 r2 r4 q4) fun d' s5 ⟨z2,H5,I5,r5,k2,e2,q5⟩=>?_))
  subst e2
  cases r5
  exact wpAny_truthy_bool ⟨H5,I5,q5⟩
theorem zer:(sizeLine:Nat) < 2 ^ 63:=by rw [sizeLine_eq]; decide
theorem zab:OpR X (binaryOp .Add) (fun x y H Q=>∃ i j,x = .str i/\y = .str j/\i.length + j.length<=sizeLine/\Q (.str (i ++ j)) H):=by
 intro zp s σ H x y v u Q I rx ry h
 obtain ⟨i,j,rfl,rfl,hz,q⟩:=h
 obtain ⟨t,rfl⟩:=rx
 obtain ⟨t',rfl⟩:=ry
 exact add_str (fun t' tk=>⟨.str (i ++ j),H,I.tok _,⟨_,rfl⟩,q⟩) hz
theorem zbI {x:V}{us:List Value} (r:Vals [x] us):∃ u,us = [u]/\RelV x u:=by
 cases r with
 | cons r1 r2=>cases r2; exact ⟨_,rfl,r1⟩
theorem zgL {x y:V}{us:List Value} (r:Vals [x,y] us):∃ u w',us = [u,w']/\RelV x u/\RelV y w':=by
 cases r with
 | cons r1 r2=>
  cases r2 with
  | cons r3 r4=>cases r4; exact ⟨_,_,rfl,r1,r3⟩
theorem zjB:zaE X (.builtin "abs") (fun xs H Q=>∃ i,xs = [.int i]/\Q (.int (if i < 0 then -i else i)) H):=by
 intro zp s σ H xs us Q I r h
 obtain ⟨i,rfl,q⟩:=h
 obtain ⟨u,rfl,t,rfl⟩:=zbI r
 exact call_abs_int fun u tk=>⟨.int (if i < 0 then -i else i),H,I.tok _,⟨_,rfl⟩,q⟩
theorem zes (hc:X.calm = true):zaE X (.builtin "min") (fun xs H Q=>∃ i j,xs = [.int i,.int j]/\Q (.int (if j < i then j else i)) H):=by
 intro zp s σ H xs us Q I r h
 obtain ⟨i,j,rfl,q⟩:=h
 obtain ⟨u,w',rfl,⟨t,rfl⟩,⟨t',rfl⟩⟩:=zgL r
 refine min_two_ints (I.ok.hd hc) fun h' tk k=>⟨_,H,I.kept k,?_,q⟩
 by_cases hj:j < i
 ·rw [if_pos hj,if_pos hj]; exact ⟨_,rfl⟩
 ·rw [if_neg hj,if_neg hj]; exact ⟨_,rfl⟩
theorem zav:zaE X (.type "int") (fun xs H Q=>(∃ i,xs = [.int i]/\Q (.int i) H)\/∃ k,xs = [.bl k]/\Q (.int (if k then 1 else 0)) H):=by
 intro zp s σ H xs us Q I r h
 rcases h with ⟨i,rfl,q⟩ | ⟨k,rfl,q⟩
 ·obtain ⟨u,rfl,t,rfl⟩:=zbI r
  exact call_int_int ⟨.int i,H,I,⟨_,rfl⟩,q⟩
 ·obtain ⟨u,rfl,r1⟩:=zbI r
  cases r1
  exact call_int_bool ⟨.int (if k then 1 else 0),H,I.tok _,⟨_,rfl⟩,q⟩
theorem zet:zaE X (.type "str") (fun xs H Q=>∃ i,xs = [.int i]/\i.natAbs.log2 < 1920/\Q (.str (toString i)) H):=by
 intro zp s σ H xs us Q I r h
 obtain ⟨i,rfl,hz,q⟩:=h
 obtain ⟨u,rfl,t,rfl⟩:=zbI r
 exact PySem.P.str_of_int hz ⟨.str _,H,I.tok _,⟨_,rfl⟩,q⟩
theorem zjC:zaE X (.builtin "ord") (fun xs H Q=>∃ x,xs = [.str x]/\x.length = 1/\Q (.int (x.cps.getD 0 0:Nat)) H):=by
 intro zp s σ H xs us Q I r h
 obtain ⟨x,rfl,hz,q⟩:=h
 obtain ⟨u,rfl,t,rfl⟩:=zbI r
 exact ord_of_one hz ⟨.int _,H,I.tok _,⟨_,rfl⟩,q⟩
def LenV (K:PySem.W.Frag) (x:V) (H:Hp) (n:Nat):Prop:=
 match x with
 | .str y=>y.length<=sizeLine/\n = y.length
 | .byt y=>y.size<=sizeLine/\n = y.size
 | .ref p=>(∃ xs,SqL K H p xs/\n = xs.length)\/∃ xs,SqT K H p xs/\n = xs.length
 | _=>False
theorem zM:zaE X (.builtin "len") (fun xs H Q=>∃ x n,xs = [x]/\LenV X.K x H n/\Q (.int n) H):=by
 intro zp s σ H xs us Q I r h
 obtain ⟨x,n,rfl,e,q⟩:=h
 obtain ⟨u,rfl,rx⟩:=zbI r
 have hl:=zer
 have hs:sizeLine = 16777216:=sizeLine_eq
 cases x with
 | str y=>
  obtain ⟨t,rfl⟩:=rx
  obtain ⟨hy,e'⟩:y.length<=sizeLine/\n = y.length:=e
  subst e'
  exact len_str (by omega) ⟨.int _,H,I.tok _,⟨_,rfl⟩,q⟩
 | byt y=>
  obtain ⟨t,rfl⟩:=rx
  obtain ⟨hy,e'⟩:y.size<=sizeLine/\n = y.size:=e
  subst e'
  exact PySem.W.len_bytes (by omega) ⟨.int _,H,I.tok _,⟨_,rfl⟩,q⟩
 | ref p=>
  cases rx
  have e':(∃ xs,SqL X.K H p xs/\n = xs.length)\/∃ xs,SqT X.K H p xs/\n = xs.length:=e
  rcases e' with ⟨xs,hx,e'⟩ | ⟨xs,hx,e'⟩
  ·subst e'
   obtain ⟨its,r',pl,hz⟩:=I.list hx
   have hlen:=r'.length
   exact Calls.call_len_list pl.isList (by simp only [List.size_toArray]; omega) ⟨.int xs.length,H,I.tok _,⟨_,by simp only [List.size_toArray]; rw [hlen]⟩,q⟩
  ·subst e'
   obtain ⟨its,r',pl,hz⟩:=I.tuple hx
   have hlen:=r'.length
   exact len_tuple pl (by simp only [List.size_toArray]; omega) ⟨.int xs.length,H,I.tok _,⟨_,by simp only [List.size_toArray]; rw [hlen]⟩,q⟩
 | _=>exact (show False from e).elim
end
structure ObjM (h:Heap) (x dx C:Addr) (mA:Str->Option Value):Prop where
 obj:h.get? x = some (instObj C dx)
 ns:h.Ns1 dx mA
 ne:dx≠x
theorem zhG {h:Heap}{dx:Addr}{mA:Str->Option Value} (n:h.Ns1 dx mA):∃ od,h.get? dx = some od/\∀ name,lookIn name od = some (mA name):=by
 obtain ⟨o,es,ep,ho,hd,hk,_,hm⟩:=n
 refine ⟨o,ho,fun name=>?_⟩
 have e:=hm name
 unfold nsFind findBy at e
 rw [← Array.find?_toList] at e
 unfold lookIn
 rw [hd]
 dsimp only
 split
 ·rename_i y q
  rw [q] at e
  exact congrArg some e
 ·rename_i q
  rw [q] at e
  have a:es.toList.any (·.refKey) = false:=by
   rw [List.any_eq_false]
   intro y hy
   obtain ⟨z,t,hkey⟩:=hk y (Array.mem_toList_iff.mp hy)
   simp [DictEntry.refKey,hkey]
  have a':¬ es.toList.any (·.refKey) = true:=by rw [a]; exact Bool.false_ne_true
  rw [if_neg a']
  exact congrArg some e
theorem ObjM.look {h:Heap}{x dx C:Addr}{mA:Str->Option Value} (I:ObjM h x dx C mA):∃ od,PySem.W.InstAt h x (instObj C dx) C (some od)/\∀ name,lookIn name od = some (mA name):=
 let ⟨od,ho,hl⟩:=zhG I.ns
 ⟨od,⟨I.obj,rfl,rfl,ho⟩,hl⟩
section
variable {prog:Program}{w:World}{A:Around}{E:Value->Shared->Prop}{s:Shared}{K:PySem.W.Frag}{x dx C f:Addr}{mA:Str->Option Value}{name:Str}{v:Value}
theorem zld {expr:Bool}{Q:Value->Shared->Prop} (X:K.In s.heap) (I:ObjM s.heap x dx C mA) (hg:plainGet K C name = true) (hh:hasDictIn K C = true)
  (ha:findIn K (.ref C) name = some none) (hv:mA name = some v) (hv':PySem.W.handedIn v = true) (h:Q v { s with toks:=s.toks + 1 }):
  wpAny (model prog w) A (getAttr (.ref x) name expr) Q E s:=by
 obtain ⟨od,J,hl⟩:=I.look
 exact PySem.W.get_value X J (plainGet_of hg).1 (PySem.W.findObj_own hh ha rfl (by rw [hl,hv])) hv' h
theorem zjD {pl:Sem Bool}{Q:Value × List Value->Shared->Prop} (X:K.In s.heap) (I:ObjM s.heap x dx C mA) (hg:plainGet K C name = true)
  (hf:findIn K (.ref C) name = some (some (.ref f))) (ht:isFn K (.ref f) = true) (hv:mA name = none) (h:Q (.ref f,[.ref x]) s):
  wpAny (model prog w) A (getMethod (.ref x) name pl) Q E s:=by
 obtain ⟨od,J,hl⟩:=I.look
 exact PySem.W.method_fn X J (plainGet_of hg).1 (plainGet_of hg).2 hf (beq_iff_eq.mp ht) (by show (lookIn name od).map (·.isSome) = some false; rw [hl,hv]; rfl) h
theorem zle {ns:List Str}{Q:Unit->Shared->Prop} (X:K.In s.heap) (I:ObjM s.heap x dx C mA)
  (hs:findIn K (.ref C) "__setattr__" = some (some (.builtin "object.__setattr__"))) (hp:plainOver K C = true) (ht:takerIn K C name = some none) (hh:hasDictIn K C = true)
  (hw:PySem.Within mA ns) (hsz:ns.length<=sizeLine)
  (h:∀ h',ObjM h' x dx C (fun y=>if y = name then some v else mA y)->Heap.SameBut dx s.heap h'->Q () { s with heap:=h',toks:=s.toks + 2 }):
  wpAny (model prog w) A (setAttr (.ref x) name v) Q E s:=by
 obtain ⟨od,J,hl⟩:=I.look
 refine PySem.W.set_plain X J hs (PySem.W.osa_open (s:={ s with toks:=s.toks + 1 }) (r:=none) X J hp ht fun b=>?_)
 obtain ⟨cd,hc,hd'⟩:=PySem.W.any_some hh
 have hx:s.heap.get? x = some ⟨.ref C,some dx,.plain,#[]⟩:=I.obj
 refine wpAny_bind (wpAny_pure (wpAny_bind (wpAny_bind (wpAny_loadPart hx (wpAny_bind (PySem.W.Looks.here (s:={ s with toks:=s.toks + 1 }) (PySem.W.looks_clsIn X hc) ?_))))))
 rw [hd']
 refine wpAny_pure (a:=some dx) (wpAny_bind (wpAny_pure (wpAny_bind ?_)))
 refine wpAny_nsSet1 (s:={ s with toks:=s.toks + 1 }) I.ns fun h' hn2 hs2=>?_
 obtain ⟨oD,esD,epD,hoD,hdD,hcD⟩:=hn2.count (PySem.Within.cons name v hw)
 refine wpAny_bind (wpAny_lookBehind hoD (by rw [hdD]; exact pastItsLine_dict (Nat.le_trans hcD (by rw [List.length_cons]; omega))) ?_)
 exact wpAny_pure (h _ ⟨(hs2.2 _ (Ne.symm I.ne)).trans I.obj,hn2,I.ne⟩ hs2)
theorem zjE {R:Result->Shared->Prop}{vs:List Value}{kw:List (Str × Value)} (X:K.In s.heap) (hm:makesIn K C = true)
  (hi:findIn K (.ref C) "__init__" = some (some (.ref f))) (hf:PySem.W.typeIn K (.ref f) = some (.type "function"))
  (h:codeAny (model prog w) (A.under (.builtin "type.__call__" ⟨.ref C :: vs,kw⟩)) (.call (.ref f) ⟨.ref (s.heap.objs.size + 1) :: vs,kw⟩) (PySem.W.InitBack (s.heap.objs.size + 1) R)
   { s with heap:=(s.heap.push emptyDict).push (instObj C s.heap.objs.size) }):
  codeAny (model prog w) A (.call (.ref C) ⟨vs,kw⟩) R s:=by
 obtain ⟨hh,g,d,t,os⟩:=s
 exact PySem.W.make_core (PySem.W.makes_of X hm) (PySem.W.looks_findIn X hi) (fun self=>PySem.W.bind_fn X self hf) (.inl rfl) h
end
def putF (f:Str) (v:V):List (Str × V)->List (Str × V)
 | []=>[(f,v)]
 | (g,x) :: r=>if g = f then (g,v) :: r else (g,x) :: putF f v r
theorem ZA (f g:Str) (v:V):∀ fs:List (Str × V),(putF f v fs).lookup g = if g = f then some v else fs.lookup g
 | []=>by
  show List.lookup g [(f,v)] = _
  by_cases h:g = f
  ·have hb:(g == f) = true:=beq_iff_eq.mpr h
   simp only [List.lookup,hb,if_pos h]
  ·have hb:(g == f) = false:=beq_eq_false_iff_ne.mpr h
   simp only [List.lookup,hb,if_neg h]
 | (k,x) :: r=>by
  have ih:=ZA f g v r
  rw [show putF f v ((k,x) :: r) = (if k = f then (k,v) :: r else (k,x) :: putF f v r) from rfl]
  by_cases hk:k = f
  ·rw [if_pos hk]
   by_cases h:g = k
   ·have hb:(g == k) = true:=beq_iff_eq.mpr h
    simp only [List.lookup,hb,if_pos (h.trans hk)]
   ·have hb:(g == k) = false:=beq_eq_false_iff_ne.mpr h
    simp only [List.lookup,hb,if_neg (fun e:g = f=>h (e.trans hk.symm))]
  ·rw [if_neg hk]
   by_cases h:g = k
   ·have hb:(g == k) = true:=beq_iff_eq.mpr h
    simp only [List.lookup,hb,if_neg (fun e:g = f=>hk (h.symm.trans e))]
   ·have hb:(g == k) = false:=beq_eq_false_iff_ne.mpr h
    simp only [List.lookup,hb]
    exact ih
theorem zcv (f:Str) (v:V):∀ fs:List (Str × V),f∈(putF f v fs).map (·.1)/\∀ g,g∈fs.map (·.1)->g∈(putF f v fs).map (·.1)
 | []=>⟨by simp [putF],fun g h=>by simp at h⟩
 | (k,x) :: r=>by
  obtain ⟨i1,i2⟩:=zcv f v r
  rw [show putF f v ((k,x) :: r) = (if k = f then (k,v) :: r else (k,x) :: putF f v r) from rfl]
  by_cases hk:k = f
  ·rw [if_pos hk]
   subst hk
   exact ⟨by simp,fun g h=>by simpa using h⟩
  ·rw [if_neg hk]
   refine ⟨?_,fun g h=>?_⟩
   ·rw [List.map_cons]
    exact List.mem_cons_of_mem _ i1
   ·rw [List.map_cons] at h ⊢
    rcases List.mem_cons.mp h with e | e
    ·exact List.mem_cons.mpr (.inl e)
    ·exact List.mem_cons_of_mem _ (i2 g e)
theorem zcw (f:Str) (v:V):∀ fs:List (Str × V),(putF f v fs).length<=fs.length + 1
 | []=>by simp [putF]
 | (k,x) :: r=>by
  have ih:=zcw f v r
  rw [show putF f v ((k,x) :: r) = (if k = f then (k,v) :: r else (k,x) :: putF f v r) from rfl]
  by_cases hk:k = f
  ·rw [if_pos hk,List.length_cons,List.length_cons]; omega
  ·rw [if_neg hk,List.length_cons,List.length_cons]; omega
theorem RelO.some_of {v:V}{o:Option Value} (r:RelO (some v) o):∃ u,o = some u/\RelV v u:=by
 cases o with
 | none=>exact (show False from r).elim
 | some u=>exact ⟨u,rfl,r⟩
theorem RelO.none_of {o:Option Value} (r:RelO none o):o = none:=by
 cases o with
 | none=>rfl
 | some u=>exact (show False from r).elim
theorem zhH {v:V}{u:Value} (r:RelV v u):PySem.W.handedIn u = true:=by
 cases v with
 | non=>cases (show u = Value.none from r); rfl
 | bl b=>cases (show u = Value.bool b from r); rfl
 | int i=>obtain ⟨t,e⟩:=(show ∃ t,u = Value.int i t from r); cases e; rfl
 | str x=>obtain ⟨t,e⟩:=(show ∃ t,u = Value.str x t from r); cases e; rfl
 | byt b=>obtain ⟨t,e⟩:=(show ∃ t,u = Value.bytes b t from r); cases e; rfl
 | flt b=>obtain ⟨t,e⟩:=(show ∃ t,u = Value.float b t from r); cases e; rfl
 | ref a=>cases (show u = Value.ref a from r); rfl
 | ty n=>cases (show u = Value.type n from r); rfl
section
variable {P:Program}{w:World}{H H':Hp}{h h':Heap}{a C dx:Addr}{fs fs':List (Str × V)}
theorem zdI (hok:HOk P w H h) (e:H a = some (.ins C dx fs)):∃ mA,ObjM h a dx C mA/\(∀ f,RelO (fs.lookup f) (mA f))/\PySem.Within mA (fs.map (·.1))/\fs.length<=1000/\H dx = some (.own a):=by
 obtain ⟨d,z,ne,ob,mA,n,r,q⟩:=(show Zg P w H h a (.ins C dx fs) from hok a _ e)
 exact ⟨mA,⟨ob,n,ne⟩,r,q,z,d⟩
end
structure Cls (K:PySem.W.Frag) (C:Addr):Prop where
 pg:plainGet K C Str.empty = true
 hd:hasDictIn K C = true
 po:plainOver K C = true
 sa:findIn K (.ref C) "__setattr__" = some (some (.builtin "object.__setattr__"))
theorem Cls.get {K:PySem.W.Frag}{C:Addr} (c:Cls K C) (f:Str):plainGet K C f = true:=c.pg
def Z6 (K:PySem.W.Frag) (C:Addr) (f:Str):Prop:=findIn K (.ref C) f = some none
theorem Z6.taker {K:PySem.W.Frag}{C:Addr}{f:Str} (n:Z6 K C f):takerIn K C f = some none:=by
 unfold takerIn
 rw [show findIn K (.ref C) f = some none from n]
 rfl
structure Meth (K:PySem.W.Frag) (C:Addr) (m:Str) (f:Addr):Prop where
 at_:findIn K (.ref C) m = some (some (.ref f))
 fn:isFn K (.ref f) = true
 kp:keepIn K (.ref f) = true
section
variable {X:Cx}{zp:List (Addr × Obj)}{σ:St}{H:Hp}{s:Shared}{a C dx:Addr}{fs:List (Str × V)}{f:Str}{v:V}{A:Around}{E:Value->Shared->Prop}
theorem zgM {b:Bool}{Q:Value->Shared->Prop} (I:Inv X zp σ H s) (e:H a = some (.ins C dx fs)) (c:Cls X.K C) (n:Z6 X.K C f) (l:fs.lookup f = some v)
  (h:∀ u s',Inv X zp σ H s'->RelV v u->Q u s'):wpAny (model X.prog X.w) A (getAttr (.ref a) f b) Q E s:=by
 obtain ⟨mA,O,r,_,_,_⟩:=zdI I.hok e
 obtain ⟨u,hu,ru⟩:=RelO.some_of (v:=v) (o:=mA f) (by rw [← l]; exact r f)
 exact zld I.kIn O (c.get f) c.hd n hu (zhH ru) (h u _ (I.tok _) ru)
theorem zdm {m:Str}{g:Addr}{pl:Sem Bool}{Q:Value × List Value->Shared->Prop} (I:Inv X zp σ H s) (e:H a = some (.ins C dx fs)) (c:Cls X.K C) (k:Meth X.K C m g) (l:fs.lookup m = none)
  (h:Q (.ref g,[.ref a]) s):wpAny (model X.prog X.w) A (getMethod (.ref a) m pl) Q E s:=by
 obtain ⟨mA,O,r,_,_,_⟩:=zdI I.hok e
 have hn:mA m = none:=RelO.none_of (by rw [← l]; exact r m)
 exact zjD I.kIn O (c.get m) k.at_ k.fn hn h
theorem zgN {y:V}{u:Value}{Q:Unit->Shared->Prop} (I:Inv X zp σ H s) (e:H a = some (.ins C dx fs)) (c:Cls X.K C) (n:Z6 X.K C f) (hl:fs.length < 1000) (ry:RelV y u)
  (h:∀ s',Inv X zp σ (upd H a (.ins C dx (putF f y fs))) s'->Q () s'):wpAny (model X.prog X.w) A (setAttr (.ref a) f u) Q E s:=by
 obtain ⟨mA,O,r,wi,_,ho⟩:=zdI I.hok e
 have hz:(fs.map (·.1)).length<=sizeLine:=by rw [List.length_map,sizeLine_eq]; omega
 refine zle I.kIn O c.sa c.po n.taker c.hd wi hz fun h' O' sb=>h _ ?_
 have hd:∃ o,h'.get? dx = some o:=let ⟨o,_,_,e',_⟩:=O'.ns; ⟨o,e'⟩
 refine I.write (x:=a) (e:=dx) (by rw [e]; exact True.intro) (.inr ho) (fun b q hb z=>(sb.2 b hb).trans z) hd ?_
 refine ⟨by rw [zr O.ne]; exact ho,?_,O.ne,O'.obj,_,O'.ns,fun g=>?_,fun g hg=>?_⟩
 ·have:=zcw f y fs; omega
 ·show RelO ((putF f y fs).lookup g) (if g = f then some u else mA g)
  rw [ZA]
  by_cases q:g = f
  ·rw [if_pos q,if_pos q]; exact ry
  ·rw [if_neg q,if_neg q]; exact r g
 ·by_cases q:g = f
  ·rw [q]; exact (zcv f y fs).1
  ·refine (zcv f y fs).2 g (wi g fun z=>hg ?_)
   show (if g = f then some u else mA g) = none
   rw [if_neg q]; exact z
theorem Inv.made (I:Inv X zp σ H s):Inv X zp σ (upd (upd H s.heap.objs.size (.own (s.heap.objs.size + 1))) (s.heap.objs.size + 1) (.ins C s.heap.objs.size []))
  { s with heap:=(s.heap.push emptyDict).push (instObj C s.heap.objs.size) }:=by
 have e1:(s.heap.push emptyDict).get? s.heap.objs.size = some emptyDict:=Heap.get?_push_size s.heap rfl
 have e2:((s.heap.push emptyDict).push (instObj C s.heap.objs.size)).get? (s.heap.objs.size + 1) = some (instObj C s.heap.objs.size):=by
  have:=Heap.get?_push_size (s.heap.push emptyDict) (o:=instObj C s.heap.objs.size) rfl
  rwa [Heap.size_push] at this
 have e3:(s.heap.push emptyDict).Ns s.heap.objs.size (fun _=>none):=⟨emptyDict,#[],_,e1,rfl,(fun e he=>absurd he (by simp)),fun _=>rfl⟩
 have I1:=I.laid (a:=s.heap.objs.size) (o:=.own (s.heap.objs.size + 1)) (h':=s.heap.push emptyDict) (t':=s.toks) (fun b u q=>Heap.get?_push_of_some _ q) (Nat.le_refl _) ⟨_,e1⟩
 refine I1.laid (a:=s.heap.objs.size + 1) (o:=.ins C s.heap.objs.size []) (t':=s.toks) (fun b u q=>Heap.get?_push_of_some _ q) (Nat.le_of_eq (Heap.size_push _ _)) ?_
 have ne:s.heap.objs.size≠s.heap.objs.size + 1:=Nat.ne_of_lt (Nat.lt_succ_self _)
 refine ⟨by rw [zr ne,zh],Nat.zero_le _,ne,e2,fun _=>none,(Heap.Ns1.of_empty e3).at fun o q=>Heap.get?_push_of_some _ q,fun _=>True.intro,fun y hy=>absurd rfl hy⟩
theorem zlf {prog:Program}{w:World}{env:Env}{e:Expr}{f:Str}{pos:Pos}{s:Shared}{Q:Value->Shared->Prop} (hb:attributeBase e f env (eval e env) = eval e env)
  (h:wpAny (model prog w) A (eval e env) (fun o s₁=>wpAny (model prog w) A (getAttr o f true) Q E s₁) E s):wpAny (model prog w) A (eval (.Attribute e f pos) env) Q E s:=
 Attribute_any_ h (by rw [arm_eval_Attribute,hb])
end
def tFld (K:PySem.W.Frag) (ta:TE) (f:Str):TE:=fun σ H Q=>ta σ H fun x H1=>∃ a C dx fs v,x = .ref a/\H1 a = some (.ins C dx fs)/\Cls K C/\Z6 K C f/\fs.lookup f = some v/\Q v H1
def sFld (K:PySem.W.Frag) (ta tv:TE) (f:Str):TS:=fun D σ H=>tv σ H fun y H1=>ta σ H1 fun x H2=>∃ a C dx fs,x = .ref a/\H2 a = some (.ins C dx fs)/\Cls K C/\Z6 K C f/\fs.length < 1000 /\
 D.nx σ (upd H2 a (.ins C dx (putF f y fs)))
section
variable {X:Cx}{o e value:Expr}{f:Str}{pos pos' tpos:Pos}{ta tv:TE}
theorem zae (he:PE X e ta) (hb:attributeBase e f X.env (eval e X.env) = eval e X.env):PE X (.Attribute e f pos) (tFld X.K ta f):=by
 intro zp s σ H Q I h
 refine zlf hb (thn (he zp s σ H _ I h) fun u s1 ⟨x,H1,I1,rx,a,C,dx,fs,v,ex,ea,c,n,l,q⟩=>?_)
 subst ex
 obtain rfl:u = Value.ref a:=rx
 exact zgM I1 ea c n l fun u' s2 I2 ru=>⟨v,H1,I2,ru,q⟩
theorem zdn (ha:PE X o ta) (hv:PE X value tv) (hs:swapsWith value (some (.Attribute o f pos')) pos.line X.env = pure false):PS X (.Assign [.Attribute o f pos'] value pos) (sFld X.K ta tv f):=by
 intro zp s σ H D I h
 refine plainObj_wpAny_Assign_Attribute (thn (hv zp s σ H _ I h) fun u s1 ⟨y,H1,I1,ry,q⟩=>thn (ha zp s1 σ H1 _ I1 q) fun ov s2 ⟨x,H2,I2,rx,a,C,dx,fs,ex,ea,c,n,l,q2⟩=>?_) hs
 subst ex
 obtain rfl:ov = Value.ref a:=rx
 exact zgN I2 ea c n l ry fun s3 I3=>⟨σ,_,I3,q2⟩
end
section
variable {X:Cx}{zp:List (Addr × Obj)}{σ:St}{H:Hp}{s:Shared}{A:Around}{E:Value->Shared->Prop}{Q:Value->Shared->Prop}{c:Value}{b:Bool}
inductive TyOf (K:PySem.W.Frag) (H:Hp):V->Value->Prop where
 | non:TyOf K H .non (.type "NoneType")
 | bl (x:Bool):TyOf K H (.bl x) (.type "bool")
 | int (i:Int):TyOf K H (.int i) (.type "int")
 | str (x:Str):TyOf K H (.str x) (.type "str")
 | flt (x:UInt64):TyOf K H (.flt x) (.type "float")
 | lst {a:Addr}{xs:List V} (e:H a = some (.lst xs)):TyOf K H (.ref a) (.type "list")
 | frz {a:Addr}{o:Obj}{xs:List V} (e:H a = some (.frz o (.lst xs))):TyOf K H (.ref a) (.type "list")
 | tup {a:Addr}{xs:List V} (e:H a = some (.tup xs)):TyOf K H (.ref a) (.type "tuple")
 | dK {a:Addr}{kvs:List (Key × V)} (e:H a = some (.dK kvs)):TyOf K H (.ref a) (.type "dict")
 | dT {a:Addr}{kvs:List (List Key × V)} (e:H a = some (.dT kvs)):TyOf K H (.ref a) (.type "dict")
 | ins {a C dx:Addr}{fs:List (Str × V)} (e:H a = some (.ins C dx fs)) (cl:Cls K C) (ha:findIn K (.ref C) "__class__" = some (some (.builtin "object.__class__")))
   (hn:PySem.W.specialIn K (.builtin "object.__class__") "__get__" = some (some (.builtin "getset_descriptor.__get__"))) (htk:PySem.W.takesIn K (.builtin "object.__class__") = some true)
   (hm:PySem.W.mroIn K C (.type "object") = some true):TyOf K H (.ref a) (.ref C)
theorem zeu {x:V}{u t:Value} (I:Inv X zp σ H s) (rx:RelV x u) (ty:TyOf X.K H x t) (e:PySem.W.kitOne X.K t c = some b) (h:∀ tk,Q (.bool b) { s with toks:=tk }):
  wpAny (model X.prog X.w) A (call (.builtin "isinstance") [u,c]) Q E s:=by
 cases ty with
 | non=>cases (show u = Value.none from rx); exact kia_one PySem.W.kitx_none I.kIn True.intro e (fun z=>nomatch z) h
 | bl y=>cases (show u = Value.bool y from rx); exact kia_one PySem.W.kitx_bool I.kIn True.intro e (fun z=>nomatch z) h
 | int i=>obtain ⟨t,q⟩:=(show ∃ t,u = Value.int i t from rx); cases q; exact kia_one PySem.W.kitx_int I.kIn True.intro e (fun z=>nomatch z) h
 | str y=>obtain ⟨t,q⟩:=(show ∃ t,u = Value.str y t from rx); cases q; exact kia_one PySem.W.kitx_str I.kIn True.intro e (fun z=>nomatch z) h
 | flt y=>obtain ⟨t,q⟩:=(show ∃ t,u = Value.float y t from rx); cases q; exact kia_one PySem.W.kitx_float I.kIn True.intro e (fun z=>nomatch z) h
 | @lst a xs ea=>
  cases (show u = Value.ref a from rx)
  obtain ⟨_,_,n,_,h1⟩:=(show Zg X.prog X.w H s.heap a (.lst xs) from I.hok a _ ea)
  exact kia_one kitx_list I.kIn ⟨_,h1,rfl⟩ e (fun z=>nomatch z) h
 | @frz a ob xs ea=>
  cases (show u = Value.ref a from rx)
  obtain ⟨_,_,_,n,_,h1⟩:=(show Zg X.prog X.w H s.heap a (.frz ob (.lst xs)) from I.hok a _ ea)
  exact kia_one kitx_list I.kIn ⟨_,h1,rfl⟩ e (fun z=>nomatch z) h
 | @tup a xs ea=>
  cases (show u = Value.ref a from rx)
  obtain ⟨_,_,_,p⟩:=(show Zg X.prog X.w H s.heap a (.tup xs) from I.hok a _ ea)
  obtain ⟨o,h1,h2,_⟩:=p
  exact kia_one kitx_tuple I.kIn ⟨o,h1,h2⟩ e (fun z=>nomatch z) h
 | @dK a kvs ea=>
  cases (show u = Value.ref a from rx)
  obtain ⟨_,_,vs,_,p⟩:=(show Zg X.prog X.w H s.heap a (.dK kvs) from I.hok a _ ea)
  obtain ⟨o,es,ep,h1,h2,_⟩:=p
  exact kia_one kitx_dict I.kIn ⟨o,h1,h2.1⟩ e (fun z=>nomatch z) h
 | @dT a kvs ea=>
  cases (show u = Value.ref a from rx)
  obtain ⟨_,_,xs,_,o,es,ep,h1,h2,_⟩:=(show Zg X.prog X.w H s.heap a (.dT kvs) from I.hok a _ ea)
  exact kia_one kitx_dict I.kIn ⟨o,h1,h2.1⟩ e (fun z=>nomatch z) h
 | @ins a C dx fs ea cl ha hn htk hm=>
  cases (show u = Value.ref a from rx)
  obtain ⟨mA,O,_⟩:=zdI I.hok ea
  obtain ⟨od,J,_⟩:=O.look
  exact kia_one (PySem.W.kitx_own (cl.get _) cl.hd ha hn htk hm) I.kIn J e (fun z=>nomatch z) h
end
structure Room (k:Nat) (A:Around):Prop where
 hd:A.handled = none
 dp:A.depth + 3 * k + 5 < recursionLimit
 un:A.units + 16 * k + 200 < cLine
theorem Room.mono {j k:Nat}{A:Around} (r:Room k A) (h:j<=k):Room j A:=⟨r.hd,by have:=r.dp; omega,by have:=r.un; omega⟩
theorem Room.deeper {k:Nat}{A:Around} (r:Room (k + 1) A) (env:Env):Room k (A.deeper env):=
 ⟨r.hd,by have:=r.dp; show A.depth + 1 + 3 * k + 5 < _; omega,by have:=r.un; show A.units + 3 + 16 * k + 200 < _; omega⟩
theorem zgO {A:Around}{C:Addr}{us:List Value}{kw:List (Str × Value)}:(A.under (.builtin "type.__call__" ⟨.ref C :: us,kw⟩)).depth = A.depth + 1:=by
 first | rfl | simp [Around.under,Code.weight,Code.isCreation,Code.isGuard,Code.isCaller,Code.frames,Code.isFrame,guardIds]
theorem zgP {A:Around}{C:Addr}{us:List Value}{kw:List (Str × Value)}:(A.under (.builtin "type.__call__" ⟨.ref C :: us,kw⟩)).units = A.units + 1:=by
 first | rfl | simp [Around.under,Code.cUnits,Code.frames,Code.isFrame]
theorem Room.make {k:Nat}{A:Around} (r:Room (k + 1) A) (C:Addr) (us:List Value) (kw:List (Str × Value)):Room k (A.under (.builtin "type.__call__" ⟨.ref C :: us,kw⟩)):=
 ⟨r.hd,by have:=r.dp; rw [zgO]; omega,by have:=r.un; rw [zgP]; omega⟩
theorem Room.depth {k:Nat}{A:Around} (r:Room k A):A.depth < recursionLimit:=by have:=r.dp; omega
theorem Room.units {k:Nat}{A:Around} (r:Room k A):A.units + 64 < cLine:=by have:=r.un; omega
def tNil:TA:=fun _ H Q=>Q [] H
def zao (ta:TE) (tr:TA):TA:=fun σ H Q=>ta σ H fun x H1=>tr σ H1 fun xs H2=>Q (x :: xs) H2
section
variable {X:Cx}{e:Expr}{es:List Expr}{te:TE}{t:TA}{pos:Pos}
theorem zd:PA X [] tNil:=fun _ _ _ _ H Q I h=>Calls.spliced_nil ⟨[],H,I,.nil,h⟩
theorem zc (ha:PE X e te) (hr:PA X es t) (hs:starEach (e :: es) X.env = (false,eval e X.env) :: starEach es X.env:=by rfl):PA X (e :: es) (zao te t):=by
 intro pos zp s σ H Q I h
 rw [hs]
 show wpAny _ _ (spliced ((false,eval e X.env) :: backTo pos (starEach es X.env))) _ _ s
 refine Calls.spliced_cons (thn (ha zp s σ H _ I h) fun u s1 ⟨x,H1,I1,r1,q1⟩=>?_)
 exact thn (hr pos zp s1 σ H1 _ I1 q1) fun us s2 ⟨xs,H2,I2,r2,q2⟩=>⟨x :: xs,H2,I2,.cons r1 r2,q2⟩
def tTup (t:TA):TE:=fun σ H Q=>t σ H fun xs H1=>xs.length<=sizeLine/\∀ p,H1 p = none->Q (.ref p) (upd H1 p (.tup xs))
def tLst (t:TA):TE:=fun σ H Q=>t σ H fun xs H1=>xs.length<=sizeLine/\∀ p,H1 p = none->Q (.ref p) (upd H1 p (.lst xs))
theorem zA {x1} (h:PA X es t):PE X (.Tuple es x1 pos) (tTup t):=by
 intro zp s σ H Q I hq
 refine wpAny_Tuple_spliced (thn (h pos zp s σ H _ I hq) fun us s1 ⟨xs,H1,I1,r,z,q⟩=>⟨by rw [← r.length]; exact z,?_⟩)
 have hf:H1 s1.heap.objs.size = none:=I1.hok.fresh (Nat.le_refl _)
 refine ⟨.ref s1.heap.objs.size,upd H1 s1.heap.objs.size (.tup xs),I1.laid (t':=s1.toks) (fun b u e=>Heap.get?_push_of_some _ e) (Nat.le_refl _) ?_,rfl,q _ hf⟩
 exact ⟨z,us,r,⟨_,Heap.get?_push_size _ rfl,rfl,_,rfl⟩⟩
theorem zL (h:PA X es t):PE X (.List es pos) (tLst t):=by
 intro zp s σ H Q I hq
 refine wpAny_List_spliced (thn (h pos zp s σ H _ I hq) fun us s1 ⟨xs,H1,I1,r,z,q⟩=>⟨by rw [← r.length]; exact z,?_⟩)
 have hf:H1 s1.heap.objs.size = none:=I1.hok.fresh (Nat.le_refl _)
 refine ⟨.ref s1.heap.objs.size,upd H1 s1.heap.objs.size (.lst xs),I1.laid (t':=s1.toks) (fun b u e=>Heap.get?_push_of_some _ e) (Nat.le_refl _) ?_,rfl,q _ hf⟩
 exact ⟨z,us,0,r,Heap.get?_push_size _ rfl⟩
end
abbrev Sp:=List V->Hp->VK->XK->Prop
abbrev CXT:=List Env->Hp->Shared->XK->Value->Shared->Prop
structure Env0 (P:Program) (w:World) (K:PySem.W.Frag) (mg:Str->Option Value) (base:Heap) (A:Around) (outer:List Env) (s:Shared) (H:Hp):Prop where
 frames:A.frames = some outer
 mod:Mod K mg base
 bs:∀ b o,base.get? b = some o->s.heap.get? b = some o/\H b = none
 bsz:base.objs.size<=s.heap.objs.size
 funs:s.heap.FunFrames base outer
 frf:∀ b∈frs outer,H b = none
 hok:HOk P w H s.heap
 bare:AllBare s.gens
def CE (outer:List Env) (P:Program) (w:World) (H:Hp) (s:Shared) (Q:VK) (u:Value) (s':Shared):Prop:=
 ∃ v H',s'.os = s.os/\AllBare s'.gens/\Un (frs outer) [] H H' s.heap s'.heap/\HOk P w H' s'.heap/\RelV v u/\Q v H'
def CR (CX:CXT) (outer:List Env) (P:Program) (w:World) (H:Hp) (s:Shared) (Q:VK) (E:XK) (r:Result) (s':Shared):Prop:=
 match r with
 | .ok (.ret u)=>CE outer P w H s Q u s'
 | .ok _=>False
 | .error e=>CX outer H s E e s'
structure FnOk (P:Program) (w:World) (K:PySem.W.Frag) (mg:Str->Option Value) (base:Heap) (CX:CXT) (k:Nat) (f:Addr) (fd:FuncData) (ps:List Str) (sp:Sp):Prop where
 len:∀ vs H Q E,sp vs H Q E->vs.length = ps.length
 run:∀ (A:Around) (outer:List Env) (s:Shared) (H:Hp) (args:Args) (us:List Value) (vs:List V) (Q:VK) (E:XK),Room k A->Env0 P w K mg base A outer s H->BindsTo s fd args (ps.zip us)->Vals vs us->sp vs H Q E->
  codeAny (model P w) A (.call (.ref f) args) (CR CX outer P w H s Q E) s
theorem FnOk.mono {P:Program}{w:World}{K:PySem.W.Frag}{mg:Str->Option Value}{base:Heap}{CX:CXT}{j k:Nat}{f:Addr}{fd:FuncData}{ps:List Str}{sp:Sp} (F:FnOk P w K mg base CX j f fd ps sp) (h:j<=k):
  FnOk P w K mg base CX k f fd ps sp:=⟨F.len,fun A outer s H args us vs Q E hr=>F.run A outer s H args us vs Q E (hr.mono h)⟩
theorem Env0.make {P:Program}{w:World}{K:PySem.W.Frag}{mg:Str->Option Value}{base:Heap}{A:Around}{outer:List Env}{s:Shared}{H:Hp} (e:Env0 P w K mg base A outer s H) (C:Addr) (us:List Value) (kw:List (Str × Value)):
  Env0 P w K mg base (A.under (.builtin "type.__call__" ⟨.ref C :: us,kw⟩)) outer s H:=⟨by first | exact e.frames | (simpa [Around.under,Code.envs,Code.isFrame,pushEnvs] using e.frames),e.mod,e.bs,e.bsz,e.funs,e.frf,e.hok,e.bare⟩
section
variable {X:Cx}{zp:List (Addr × Obj)}{σ:St}{H:Hp}{s s':Shared}
theorem Inv.env0 (I:Inv X zp σ H s):Env0 X.prog X.w X.K X.mg X.base X.A X.stack s H:=
 ⟨I.ok.frames,I.ok.mod,I.bs,Nat.le_trans I.ok.bsz I.sz,I.stack,I.stkFree,I.hok,I.bare⟩
theorem Inv.after {Q:VK}{u:Value} (I:Inv X zp σ H s) (h:CE X.stack X.prog X.w H s Q u s'):EP X zp σ Q u s':=by
 obtain ⟨v,H',os,bare,un,hok,r,q⟩:=h
 obtain ⟨hh,g,d,t,os'⟩:=s'
 obtain rfl:os' = s.os:=os
 exact ⟨v,H',I.call (h':=hh) (g':=g) (d':=d) (t':=t) (ch:=[]) un hok bare (fun b z=>absurd z (by simp)),r,q⟩
end
def zgQ (sp:Sp) (dvs:List V) (E:XK) (t:TA):TE:=fun σ H Q=>t σ H fun vs H1=>sp (vs ++ dvs) H1 Q E
def zgR (C:Addr) (m:Str) (sp:Sp) (dvs:List V) (E:XK) (ta:TE) (t:TA):TE:=fun σ H Q=>ta σ H fun x H1=>∃ a dx fs,x = .ref a/\H1 a = some (.ins C dx fs)/\fs.lookup m = none /\
 t σ H1 fun vs H2=>sp (x :: (vs ++ dvs)) H2 Q E
def zfn (C:Addr) (sp:Sp) (dvs:List V) (E:XK) (t:TA):TE:=fun σ H Q=>t σ H fun vs H1=>∀ x dx,H1 x = none->H1 dx = none->dx≠x->
 sp (.ref x :: (vs ++ dvs)) (upd (upd H1 dx (.own x)) x (.ins C dx [])) (fun v H2=>v = .non/\Q (.ref x) H2) E
def Binds (K:PySem.W.Frag) (fd:FuncData) (ps:List Str) (ds:List Value):Prop:=
 ∀ (s:Shared) (us:List Value),K.In s.heap->(us ++ ds).length = ps.length->BindsTo s fd ⟨us,[]⟩ (ps.zip (us ++ ds))
theorem Binds.all {K:PySem.W.Frag}{fd:FuncData}{ps:List Str} (h:∀ us:List Value,us.length = ps.length->bindArgs fd ⟨us,[]⟩ = pure (ps.zip us)):Binds K fd ps []:=fun s us _ hl=>by
 rw [List.append_nil] at hl ⊢
 exact .of_eq (h us hl)
def Passes (CX:CXT) (X:Cx) (E:XK):Prop:=∀ (zp:List (Addr × Obj)) (σ:St) (H:Hp) (s:Shared) (e:Value) (s':Shared),Inv X zp σ H s->CX X.stack H s E e s'->X.xe e s'
section
variable {X:Cx}{CX:CXT}{k:Nat}{f C:Addr}{fd:FuncData}{ps:List Str}{sp:Sp}{dvs:List V}{ds:List Value}{E:XK}{x m:Str}{p pos apos:Pos}{e o:Expr}{es:List Expr}{ta:TE}{t:TA}
theorem zga {zp:List (Addr × Obj)}{σ:St}{H:Hp}{s:Shared}{Q:VK}{us:List Value}{vs:List V} (F:FnOk X.prog X.w X.K X.mg X.base CX k f fd ps sp) (hr:Room k X.A) (hb:Binds X.K fd ps ds) (hd:Vals dvs ds) (hx:Passes CX X E)
  (I:Inv X zp σ H s) (r:Vals vs us) (h:sp (vs ++ dvs) H Q E):wpAny (model X.prog X.w) X.A (call (.ref f) us) (EP X zp σ Q) X.xe s:=by
 have r2:Vals (vs ++ dvs) (us ++ ds):=r.append hd
 have hl:(us ++ ds).length = ps.length:=by rw [← r2.length]; exact F.len _ _ _ _ h
 refine wpAny_call (codeAny_mono (F.run X.A X.stack s H ⟨us,[]⟩ (us ++ ds) (vs ++ dvs) Q E hr I.env0 (hb s us I.kIn hl) r2 h) fun r s' hq=>?_)
 cases r with
 | error e=>exact hx zp σ H s e s' I hq
 | ok fl=>
  cases fl with
  | ret u=>exact I.after hq
  | next=>exact False.elim hq
  | brk=>exact False.elim hq
  | cont=>exact False.elim hq
theorem zlg (F:FnOk X.prog X.w X.K X.mg X.base CX k f fd ps sp) (hr:Room k X.A) (hg:Gl X x) (hm:X.mg x = some (.ref f)) (hk:keepIn X.K (.ref f) = true) (hb:Binds X.K fd ps ds) (hd:Vals dvs ds) (hx:Passes CX X E)
  (ha:PA X (e :: es) t) (hdb:(x == ("__debug__":Str)) = false:=by decide) (he:starEach (e :: es) X.env = (false,eval e X.env) :: starEach es X.env:=by rfl) (hpl:(backTo pos (starEach es X.env)).any (·.1) = false:=by rfl):
  PE X (.Call (.Name x p) (e :: es) [] pos) (zgQ sp dvs E t):=by
 intro zp s σ H Q I h
 refine wpAny_Call_Name_kw (zdG I hg hm ?_ hdb)
 refine callWith_K (h₀:=X.base) I.ok.mod.kin hk (thn (ha pos zp s σ H _ I h) fun us s1 ⟨vs,H1,I1,r,q⟩=>⟨I1.kIn,?_⟩) he hpl
 exact zga F hr hb hd hx I1 r q
theorem zlh {pl:Sem Bool} (he:PE X o ta) (c:Cls X.K C) (hm:Meth X.K C m f) (F:FnOk X.prog X.w X.K X.mg X.base CX k f fd ps sp) (hr:Room k X.A) (hb:Binds X.K fd ps ds) (hd:Vals dvs ds) (hx:Passes CX X E) (ha:PA X (e :: es) t)
  (hst:starEach (e :: es) X.env = (false,eval e X.env) :: starEach es X.env:=by rfl) (hpl:(backTo pos (starEach es X.env)).any (·.1) = false:=by rfl)
  (ht:eval (.Call (.Attribute o m apos) (e :: es) [] pos) X.env = (do
   let ov ← eval o X.env
   standAt apos.atName
   let (f,first) ← holding [ov] (getMethod ov m pl)
   callWith pos f first (backTo pos (starEach (e :: es) X.env)) (backToKw pos (keywordEach [] X.env))):=by rfl):
  PE X (.Call (.Attribute o m apos) (e :: es) [] pos) (zgR C m sp dvs E ta t):=by
 intro zp s σ H Q I h
 refine PySem.W.methodCall_KW (pl:=pl) (thn (he zp s σ H _ I h) fun u s1 ⟨x,H1,I1,rx,a,dx,fs,ex,ea,l,q⟩=>?_) ht
 subst ex
 obtain rfl:u = Value.ref a:=rx
 refine zdm I1 ea c hm l ?_
 refine callWith_K (first:=[.ref a]) (h₀:=X.base) I.ok.mod.kin hm.kp (thn (ha pos zp s1 σ H1 _ I1 q) fun us s2 ⟨vs,H2,I2,r,q2⟩=>⟨I2.kIn,?_⟩) hst hpl
 exact zga (us:=.ref a :: us) (vs:=.ref a :: vs) F hr hb hd hx I2 (.cons rfl r) q2
theorem zjF {pl:Sem Bool} (he:PE X o ta) (c:Cls X.K C) (hm:Meth X.K C m f) (F:FnOk X.prog X.w X.K X.mg X.base CX k f fd ps sp) (hr:Room k X.A) (hb:Binds X.K fd ps ds) (hd:Vals dvs ds) (hx:Passes CX X E)
  (ht:eval (.Call (.Attribute o m apos) [] [] pos) X.env = (do
   let ov ← eval o X.env
   standAt apos.atName
   let (f,first) ← holding [ov] (getMethod ov m pl)
   callWith pos f first (backTo pos (starEach [] X.env)) (backToKw pos (keywordEach [] X.env))):=by rfl):
  PE X (.Call (.Attribute o m apos) [] [] pos) (zgR C m sp dvs E ta tNil):=by
 intro zp s σ H Q I h
 refine PySem.W.methodCall_KW (pl:=pl) (thn (he zp s σ H _ I h) fun u s1 ⟨x,H1,I1,rx,a,dx,fs,ex,ea,l,q⟩=>?_) ht
 subst ex
 obtain rfl:u = Value.ref a:=rx
 refine zdm I1 ea c hm l ?_
 exact PySem.W.callWith_K0 (first:=[.ref a]) I1.kIn hm.kp (zga (us:=[.ref a]) (vs:=[.ref a]) F hr hb hd hx I1 (.cons rfl .nil) q)
structure Mk (K:PySem.W.Frag) (C f:Addr):Prop where
 makes:makesIn K C = true
 init:findIn K (.ref C) "__init__" = some (some (.ref f))
 fn:isFn K (.ref f) = true
 kp:keepIn K (.ref C) = true
theorem zgb {zp:List (Addr × Obj)}{σ:St}{H:Hp}{s:Shared}{Q:VK}{us:List Value}{vs:List V} (M:Mk X.K C f) (F:FnOk X.prog X.w X.K X.mg X.base CX k f fd ps sp) (hr:Room (k + 1) X.A) (hb:Binds X.K fd ps ds) (hd:Vals dvs ds)
  (hx:Passes CX X E) (I:Inv X zp σ H s) (r:Vals vs us)
  (h:∀ x dx,H x = none->H dx = none->dx≠x->sp (.ref x :: (vs ++ dvs)) (upd (upd H dx (.own x)) x (.ins C dx [])) (fun v H2=>v = .non/\Q (.ref x) H2) E):
  wpAny (model X.prog X.w) X.A (call (.ref C) us) (EP X zp σ Q) X.xe s:=by
 have hq:=h (s.heap.objs.size + 1) s.heap.objs.size (I.hok.fresh (Nat.le_succ _)) (I.hok.fresh (Nat.le_refl _)) (Nat.ne_of_lt (Nat.lt_succ_self _))
 have I2:=Inv.made (C:=C) I
 have r2:Vals (V.ref (s.heap.objs.size + 1) :: (vs ++ dvs)) (Value.ref (s.heap.objs.size + 1) :: (us ++ ds)):=.cons rfl (r.append hd)
 have hl:(Value.ref (s.heap.objs.size + 1) :: us ++ ds).length = ps.length:=by
  have e:=r2.length
  rw [F.len _ _ _ _ hq] at e
  exact e.symm
 refine wpAny_call (zjE (f:=f) I.kIn M.makes M.init (beq_iff_eq.mp M.fn) (codeAny_mono (F.run _ X.stack _ _ ⟨Value.ref (s.heap.objs.size + 1) :: us,[]⟩ (Value.ref (s.heap.objs.size + 1) :: (us ++ ds)) _ _ E (hr.make C us [])
  (I2.env0.make C us []) (hb _ (Value.ref (s.heap.objs.size + 1) :: us) I2.kIn hl) r2 hq) fun r s' hq'=>?_))
 cases r with
 | error e=>exact hx zp σ _ _ e s' I2 hq'
 | ok fl=>
  cases fl with
  | ret u=>
   obtain ⟨v,H',I3,rv,ev,q3⟩:=I2.after hq'
   subst ev
   exact ⟨rv,⟨V.ref (s.heap.objs.size + 1),H',I3,rfl,q3⟩⟩
  | next=>exact False.elim hq'
  | brk=>exact False.elim hq'
  | cont=>exact False.elim hq'
theorem zli (M:Mk X.K C f) (F:FnOk X.prog X.w X.K X.mg X.base CX k f fd ps sp) (hr:Room (k + 1) X.A) (hg:Gl X x) (hm:X.mg x = some (.ref C)) (hb:Binds X.K fd ps ds) (hd:Vals dvs ds) (hx:Passes CX X E)
  (ha:PA X (e :: es) t) (hdb:(x == ("__debug__":Str)) = false:=by decide) (he:starEach (e :: es) X.env = (false,eval e X.env) :: starEach es X.env:=by rfl) (hpl:(backTo pos (starEach es X.env)).any (·.1) = false:=by rfl):
  PE X (.Call (.Name x p) (e :: es) [] pos) (zfn C sp dvs E t):=by
 intro zp s σ H Q I h
 refine wpAny_Call_Name_kw (zdG I hg hm ?_ hdb)
 refine callWith_K (h₀:=X.base) I.ok.mod.kin M.kp (thn (ha pos zp s σ H _ I h) fun us s1 ⟨vs,H1,I1,r,q⟩=>⟨I1.kIn,?_⟩) he hpl
 exact zgb M F hr hb hd hx I1 r q
theorem zjG (M:Mk X.K C f) (F:FnOk X.prog X.w X.K X.mg X.base CX k f fd ps sp) (hr:Room (k + 1) X.A) (hg:Gl X x) (hm:X.mg x = some (.ref C)) (hb:Binds X.K fd ps ds) (hd:Vals dvs ds) (hx:Passes CX X E)
  (hdb:(x == ("__debug__":Str)) = false:=by decide):PE X (.Call (.Name x p) [] [] pos) (zfn C sp dvs E tNil):=by
 intro zp s σ H Q I h
 refine wpAny_Call_Name_kw (zdG I hg hm ?_ hdb)
 exact PySem.W.callWith_K0 I.kIn M.kp (zgb (us:=[]) M F hr hb hd hx I .nil h)
end
section
variable {X:Cx}{CX:CXT}{k:Nat}{f C:Addr}{fd:FuncData}{ps ks:List Str}{sp:Sp}{E:XK}{x m:Str}{p pos apos kpos:Pos}{e o:Expr}{es:List Expr}{kws:List Keyword}{te ta:TE}{t tk:TA}{nm:Option Str}
variable {g:List Value->List Value->List Value}{gV:List V->List V->List V}
end
structure FnScope (N P:List Str) (sc:Scope):Prop where
 kind:sc.kind = .function
 co:sc.isCoroutine = false
 gen:sc.isGenerator = false
 nd:N.Nodup
 pre:N.take P.length = P
 par:∀ x∈P,sc.names.lookup x = some .local\/sc.names.lookup x = some .cell
 nofree:∀ y∈sc.names,y.2≠.free
theorem mkSc {N P:List Str}{sc:Scope} (a:sc.kind = .function) (h:((sc.isCoroutine = false/\sc.isGenerator = false)/\N.Nodup/\N.take P.length = P)/\(∀ x∈P,sc.names.lookup x = some .local\/sc.names.lookup x = some .cell)/\∀ y∈sc.names,y.2≠.free):FnScope N P sc:=⟨a,h.1.1.1,h.1.1.2,h.1.2.1,h.1.2.2,h.2.1,h.2.2⟩
theorem zev {kindOf:Str->Option NameKind}{x:Str}:∀ {binds:List (Str × Value)}{m:Str->Option Value},(∀ v,(x,v) ∉ binds)->bindL kindOf binds m x = m x
 | [],_,_=>rfl
 | (n,v) :: r,m,h=>by
  unfold bindL
  rw [zev fun w hw=>h w (List.mem_cons_of_mem _ hw)]
  split
  ·have:x≠n:=by rintro rfl; exact h v List.mem_cons_self
   simp [this]
  ·rfl
theorem zew {kindOf:Str->Option NameKind}{x:Str}:∀ {binds:List (Str × Value)}{m:Str->Option Value},(∀ v,(x,v) ∉ binds)->bindC kindOf binds m x = m x
 | [],_,_=>rfl
 | (n,v) :: r,m,h=>by
  unfold bindC
  rw [zew fun w hw=>h w (List.mem_cons_of_mem _ hw)]
  split
  ·rfl
  ·have:x≠n:=by rintro rfl; exact h v List.mem_cons_self
   simp [this]
theorem zex {kindOf:Str->Option NameKind}{x:Str}{v:Value}:∀ {P:List Str}{vs:List Value}{i:Nat}{m:Str->Option Value},P.Nodup->P[i]? = some x->vs[i]? = some v->kindOf x = some .local->
  bindL kindOf (P.zip vs) m x = some v
 | [],_,_,_,_,h,_,_=>by simp at h
 | _ :: _,[],_,_,_,_,h,_=>by simp at h
 | p :: P,w :: vs,0,m,nd,h1,h2,hk=>by
  simp at h1 h2; subst h1; subst h2
  show bindL kindOf ((p,w) :: P.zip vs) m p = _
  unfold bindL
  rw [zev fun v hv=>(List.nodup_cons.mp nd).1 (List.of_mem_zip hv).1,if_pos hk]
  simp
 | p :: P,w :: vs,i + 1,m,nd,h1,h2,hk=>by
  show bindL kindOf ((p,w) :: P.zip vs) m x = _
  unfold bindL
  exact zex (i:=i) (List.nodup_cons.mp nd).2 (by simpa using h1) (by simpa using h2) hk
theorem zey {kindOf:Str->Option NameKind}{x:Str}{v:Value}:∀ {P:List Str}{vs:List Value}{i:Nat}{m:Str->Option Value},P.Nodup->P[i]? = some x->vs[i]? = some v->kindOf x≠some .local->
  bindC kindOf (P.zip vs) m x = some v
 | [],_,_,_,_,h,_,_=>by simp at h
 | _ :: _,[],_,_,_,_,h,_=>by simp at h
 | p :: P,w :: vs,0,m,nd,h1,h2,hk=>by
  simp at h1 h2; subst h1; subst h2
  show bindC kindOf ((p,w) :: P.zip vs) m p = _
  unfold bindC
  rw [zew fun v hv=>(List.nodup_cons.mp nd).1 (List.of_mem_zip hv).1,if_neg hk]
  simp
 | p :: P,w :: vs,i + 1,m,nd,h1,h2,hk=>by
  show bindC kindOf ((p,w) :: P.zip vs) m x = _
  unfold bindC
  exact zey (i:=i) (List.nodup_cons.mp nd).2 (by simpa using h1) (by simpa using h2) hk
def start (N:List Str) (vs:List V):St:=vs.map some ++ List.replicate (N.length - vs.length) none
def cxOf (CX:CXT) (P:Program) (w:World) (K:PySem.W.Frag) (mg:Str->Option Value) (base:Heap) (N:List Str) (qual:Str) (scope:Scope) (f:Addr) (cd:Value) (A:Around) (outer:List Env) (s:Shared) (H:Hp) (E:XK):Cx where
 prog:=P
 w:=w
 K:=K
 mg:=mg
 base:=base
 A:=A.deeper (envOfC qual scope s.heap.objs.size f cd)
 N:=N
 s₀:=s
 H₀:=H
 env:=envOfC qual scope s.heap.objs.size f cd
 outer:=outer
 stack:=envOfC qual scope s.heap.objs.size f cd :: outer
 ex:=[]
 calm:=true
 fn:=fun _=>true
 pn:=[]
 xe:=fun e s'=>wpAny (model P w) (A.deeper (envOfC qual scope s.heap.objs.size f cd)) (leaving (envOfC qual scope s.heap.objs.size f cd) e) (fun _ s''=>CX outer H s E e s'') (fun e' s''=>CX outer H s E e' s'') s'
theorem zgc {sc:Scope}{n:Nat}{x:Str} (h:sc.names.lookup x = some .cell):∃ c,(cellsFrom n sc.names []).lookup x = some c:=by
 have q:=PySem.W.cellsFrom_some sc.names n [] (.inl h)
 exact Option.isSome_iff_exists.mp q
theorem zhI {CX:CXT}{P:Program}{w:World}{K:PySem.W.Frag}{mg:Str->Option Value}{base:Heap}{N ps:List Str}{qual:Str}{scope:Scope}{f:Addr}{cd:Value}{A:Around}{outer:List Env}{s s1:Shared}{H:Hp}{E:XK}{us:List Value}{vs:List V}
  (S:FnScope N ps scope) (hd:A.handled = none) (e0:Env0 P w K mg base A outer s H) (hl:vs.length = ps.length) (r:Vals vs us)
  (x:InCallC s s.heap.objs.size (bindL (envOfC qual scope s.heap.objs.size f cd).kindOf (ps.zip us) fun _=>none) (cellsFrom (s.heap.objs.size + 1) scope.names []) (bindC (envOfC qual scope s.heap.objs.size f cd).kindOf (ps.zip us) fun _=>none) s1):
  Inv (cxOf CX P w K mg base N qual scope f cd A outer s H E) [] (start N vs) H s1:=by
 have hpl:ps.length<=N.length:=by have:=congrArg List.length S.pre; rw [List.length_take] at this; omega
 obtain ⟨h1,tk,rfl,hk⟩:=x.done
 have noA:∀ b:Addr,b ∉ (cxOf CX P w K mg base N qual scope f cd A outer s H E).ex:=fun b z=>absurd (show b∈([]:List Addr) from z) (by simp)
 refine ⟨⟨e0.mod,S.kind,rfl,rfl,Nat.le_refl _,fun y z c h1 h2=>?_,fun y hy=>?_,fun y c _ h=>?_,fun _=>hd,Around.frames_deeper e0.frames,.inr ⟨rfl,rfl⟩,fun b z=>absurd z (noA b),e0.bs,e0.bsz,fun b _ _=>noA b,fun b z=>absurd z (noA b),e0.funs,e0.frf⟩,
  rfl,e0.bare,Un.kept hk,⟨_,x.toInCall.ns,fun i y v h1 h2 h3=>?_⟩,fun y c h=>⟨_,x.cell y c h⟩,e0.hok.fresh (Nat.le_refl _),fun y c h=>?_,fun p hp=>absurd (show p∈([]:List (Addr × Obj)) from hp) (by simp),e0.hok.kept hk,?_⟩
 ·exact name_of_addr x.apart (PySem.mem_of_lookup h1) (PySem.mem_of_lookup h2)
 ·have hy:scope.names.lookup y = some .cell\/scope.names.lookup y = some .free:=hy
  rcases hy with hy | hy
  ·exact zgc hy
  ·exact absurd rfl (S.nofree _ (PySem.mem_of_lookup hy))
 ·exact Nat.le_of_lt (x.above y c (PySem.mem_of_lookup h))
 ·have hi:i < vs.length:=by
   unfold start at h2
   by_cases hi:i < vs.length
   ·exact hi
   ·rw [List.getElem?_append_right (by simpa using hi)] at h2
    rw [List.getElem?_replicate] at h2
    split at h2 <;> cases h2
  have ha:vs[i]? = some v:=by
   unfold start at h2
   rw [List.getElem?_append_left (by simpa using hi),List.getElem?_map] at h2
   cases e:vs[i]? with
   | none=>rw [e] at h2; cases h2
   | some a=>rw [e] at h2; cases h2; rfl
  obtain ⟨u,hu,rv⟩:=r.get ha
  have hp:ps[i]? = some y:=by
   rw [← S.pre,List.getElem?_take_of_lt (by omega)]; exact h1
  have ndP:ps.Nodup:=by rw [← S.pre]; exact S.nd.sublist (List.take_sublist _ _)
  refine ⟨u,rv,?_⟩
  rcases S.par y (List.mem_of_getElem? hp) with k | k
  ·exact .inl ⟨k,zex ndP hp hu k⟩
  ·obtain ⟨c,e⟩:=zgc (n:=s.heap.objs.size + 1) k
   refine .inr ⟨.inl k,c,e,?_⟩
   have q:=x.cell y c e
   rw [zey ndP hp hu (by show scope.names.lookup y≠_; rw [k]; decide)] at q
   exact q
 ·exact e0.hok.fresh (Nat.le_of_lt (x.above y c (PySem.mem_of_lookup h)))
 ·unfold start
  show _ = N.length
  rw [List.length_append,List.length_map,List.length_replicate]
  omega
theorem znE {CX:CXT}{P:Program}{w:World}{K:PySem.W.Frag}{mg:Str->Option Value}{base:Heap}{k:Nat}{f:Addr}{name qual:Str}{params:Arguments}{body:List Stmt}{scope:Scope}{dV kV doc pm cdv ct oc:Value}{an od:Option Addr}
  {osl:Array (Option Value)}{N ps:List Str}{sp:Sp} (lk:K.lookup f = some ⟨oc,od,.func (fnOf name qual params body scope dV kV doc pm an cdv ct),osl⟩) (hcd:codeIn K cdv qual = true) (S:FnScope N ps scope)
  (len:∀ vs H Q E,sp vs H Q E->vs.length = ps.length)
  (hbody:∀ (A:Around) (outer:List Env) (s:Shared) (H:Hp) (vs:List V) (Q:VK) (E:XK),Room k (A.deeper (envOfC qual scope s.heap.objs.size f cdv))->sp vs H Q E->
   ∃ t,PSs (cxOf CX P w K mg base N qual scope f cdv A outer s H E) body t/\t { nx:=fun _ H'=>Q .non H',rt:=Q } (start N vs) H):
  FnOk P w K mg base CX (k + 1) f (fnOf name qual params body scope dV kV doc pm an cdv ct) ps sp:=by
 refine ⟨len,fun A outer s H args us vs Q E hr e0 hb r hsp=>?_⟩
 have hl:=len _ _ _ _ hsp
 have KX:K.In s.heap:=e0.mod.kin.keeps fun b o e=>(e0.bs b o e).1
 have lim:s.heap.NoLimit:=e0.mod.nolimit.keeps fun b o e=>(e0.bs b o e).1
 have hkind:∀ y∈ps.zip us,scope.names.lookup y.1 = some .local\/(scope.names.lookup y.1 = some .cell/\((cellsFrom (s.heap.objs.size + 1) scope.names []).lookup y.1).isSome = true):=fun ⟨n,v⟩ hy=>by
  rcases S.par n (List.of_mem_zip hy).1 with q | q
  ·exact .inl q
  ·exact .inr ⟨q,PySem.W.cellsFrom_some _ _ _ (.inl q)⟩
 refine codeAny_call_function hr.depth (KX _ _ lk) rfl S.co S.gen rfl (PySem.W.codeRec_of KX hcd) (hb _ _ _ _ ?_)
 refine wpAny_newFunctionEnv_cells S.kind hkind fun env he s1 x=>?_
 subst he
 refine ⟨lim.keeps x.toInCall.keep,codeAny_func ?_⟩
 obtain ⟨t,ht,hq⟩:=hbody A outer s H vs Q E (hr.deeper _) hsp
 have I:Inv (cxOf CX P w K mg base N qual scope f cdv A outer s H E) [] (start N vs) H s1:=zhI S hr.hd e0 hl r x
 refine wpAny_mono (ht [] s1 (start N vs) H _ I hq) (fun fl s' hs=>?_) fun e s' hs=>hs
 have fin:∀ {σ':St}{H':Hp}{v:V}{u:Value},Inv (cxOf CX P w K mg base N qual scope f cdv A outer s H E) [] σ' H' s'->RelV v u->Q v H'->CE outer P w H s Q u s':=
  fun {σ' H' v u} J rv q=>⟨v,H',J.os,J.bare,J.base,J.hok,rv,q⟩
 cases fl with
 | ret u=>
  obtain ⟨v,σ',H',J,rv,q⟩:=hs
  exact fin J rv q
 | next=>
  obtain ⟨σ',H',J,q⟩:=hs
  exact fin (v:=V.non) (u:=Value.none) J rfl q
 | brk=>
  obtain ⟨_,_,_,q⟩:=hs
  exact False.elim q
 | cont=>
  obtain ⟨_,_,_,q⟩:=hs
  exact False.elim q
section
variable {X:Cx}{x:Str}{p pos:Pos}{e:Expr}{es:List Expr}{t:TA}{id T:String}{r:List V->Hp->VK->Prop}
def tCB (r:List V->Hp->VK->Prop) (t:TA):TE:=fun σ H Q=>t σ H fun vs H1=>r vs H1 Q
theorem zu (hc:zaE X (.builtin id) r) (hg:Gl X x) (hm:X.mg x = none) (hv:bootBuiltins x = some (.builtin id)) (ha:PA X (e :: es) t) (hn:x≠"__name__":=by decide) (hdb:(x == ("__debug__":Str)) = false:=by decide)
  (he:starEach (e :: es) X.env = (false,eval e X.env) :: starEach es X.env:=by rfl) (hpl:(backTo pos (starEach es X.env)).any (·.1) = false:=by rfl):PE X (.Call (.Name x p) (e :: es) [] pos) (tCB r t):=by
 intro zp s σ H Q I h
 refine wpAny_Call_Name_kw (zbX I hg hm hv ?_ hn hdb)
 exact PyProof.Rows.callWith_builtin1 (thn (ha pos zp s σ H _ I h) fun us s1 ⟨vs,H1,I1,r1,q1⟩=>hc zp s1 σ H1 vs us Q I1 r1 q1) he hpl
theorem zE (hc:zaE X (.type T) r) (hg:Gl X x) (hm:X.mg x = none) (hv:bootBuiltins x = some (.type T)) (ha:PA X (e :: es) t) (hn:x≠"__name__":=by decide) (hdb:(x == ("__debug__":Str)) = false:=by decide)
  (he:starEach (e :: es) X.env = (false,eval e X.env) :: starEach es X.env:=by rfl) (hpl:(backTo pos (starEach es X.env)).any (·.1) = false:=by rfl):PE X (.Call (.Name x p) (e :: es) [] pos) (tCB r t):=by
 intro zp s σ H Q I h
 refine wpAny_Call_Name_kw (zbX I hg hm hv ?_ hn hdb)
 exact PyProof.Rows.callWith_type1 (thn (ha pos zp s σ H _ I h) fun us s1 ⟨vs,H1,I1,r1,q1⟩=>hc zp s1 σ H1 vs us Q I1 r1 q1) he hpl
end
section
variable {κ:Type} [DecidableEq κ]
def valV (kvs:List (κ × V)) (k:κ):Option V:=(kvs.find? fun kv=>decide (kv.1 = k)).map (·.2)
def putK (kvs:List (κ × V)) (k:κ) (v:V):List (κ × V):=
 if (kvs.any fun kv=>decide (kv.1 = k)) = true then kvs.map (fun kv=>if kv.1 = k then (kv.1,v) else kv) else kvs ++ [(k,v)]
theorem ZE {p:κ × V}{r:List (κ × V)}{k:κ} (e:p.1 = k):valV (p :: r) k = some p.2:=by simp [valV,List.find?_cons,e]
theorem ZF {p:κ × V}{r:List (κ × V)}{k:κ} (e:¬ p.1 = k):valV (p :: r) k = valV r k:=by simp [valV,List.find?_cons,e]
theorem zbp (k:κ):∀ kvs:List (κ × V),(kvs.any fun kv=>decide (kv.1 = k)) = (valV kvs k).isSome
 | []=>rfl
 | p :: r=>by
  rw [List.any_cons]
  by_cases e:p.1 = k
  ·simp only [ZE e,decide_eq_true e,Bool.true_or,Option.isSome_some]
  ·rw [ZF e,decide_eq_false e,Bool.false_or]; exact zbp k r
theorem zgd (k j:κ) (y:V):∀ kvs:List (κ × V),valV (kvs.map fun kv=>if kv.1 = k then (kv.1,y) else kv) j = (valV kvs j).map fun x=>if j = k then y else x
 | []=>rfl
 | p :: r=>by
  have ih:=zgd k j y r
  rw [List.map_cons]
  by_cases h:p.1 = k
  ·rw [if_pos h]
   by_cases e:p.1 = j
   ·rw [ZE (p:=(p.1,y)) e,ZE e,Option.map_some,if_pos (e.symm.trans h)]
   ·rw [ZF (p:=(p.1,y)) e,ZF e,ih]
  ·rw [if_neg h]
   by_cases e:p.1 = j
   ·rw [ZE (p:=p) e,ZE e,Option.map_some,if_neg (fun z=>h (e.trans z))]
   ·rw [ZF (p:=p) e,ZF e,ih]
theorem zez (k j:κ) (y:V):∀ kvs:List (κ × V),valV kvs k = none->valV (kvs ++ [(k,y)]) j = if j = k then some y else valV kvs j
 | [],_=>by
  by_cases e:k = j
  ·rw [if_pos e.symm]; exact ZE (p:=(k,y)) e
  ·rw [if_neg (fun z=>e z.symm)]; exact ZF (p:=(k,y)) e
 | p :: r,hn=>by
  rw [List.cons_append]
  have hk:¬ p.1 = k:=fun z=>by rw [ZE z] at hn; cases hn
  rw [ZF hk] at hn
  have ih:=zez k j y r hn
  by_cases e:p.1 = j
  ·rw [ZE e,ZE e,if_neg (fun z=>hk (e.trans z))]
  ·rw [ZF e,ZF e,ih]
theorem zdJ (kvs:List (κ × V)) (k j:κ) (y:V):valV (putK kvs k y) j = if j = k then some y else valV kvs j:=by
 unfold putK
 by_cases a:(kvs.any fun kv=>decide (kv.1 = k)) = true
 ·rw [if_pos a,zgd]
  rw [zbp] at a
  by_cases e:j = k
  ·obtain ⟨x,hx⟩:=Option.isSome_iff_exists.mp a
   rw [if_pos e,e,hx,Option.map_some,if_pos rfl]
  ·rw [if_neg e]
   cases valV kvs j with
   | none=>rfl
   | some x=>rw [Option.map_some,if_neg e]
 ·rw [if_neg a]
  refine zez k j y kvs ?_
  rw [zbp] at a
  cases q:valV kvs k with
  | none=>rfl
  | some x=>rw [q] at a; exact (a rfl).elim
theorem zaf (kvs:List (κ × V)) (k:κ) (v:V):(putK kvs k v).length<=kvs.length + 1:=by
 unfold putK
 split
 ·rw [List.length_map]; omega
 ·rw [List.length_append,List.length_cons,List.length_nil]; omega
theorem RelO.isSome_eq {o:Option V}{u:Option Value} (r:RelO o u):o.isSome = u.isSome:=by
 cases o with
 | none=>cases u with
  | none=>rfl
  | some _=>exact (show False from r).elim
 | some _=>cases u with
  | none=>exact (show False from r).elim
  | some _=>rfl
theorem RelO.getD {o:Option V}{u:Option Value}{d:V}{d':Value} (r:RelO o u) (rd:RelV d d'):RelV (o.getD d) (u.getD d'):=by
 cases o with
 | none=>cases u with
  | none=>exact rd
  | some _=>exact (show False from r).elim
 | some _=>cases u with
  | none=>exact (show False from r).elim
  | some _=>exact r
theorem KV.val {kvs:List (κ × V)}{vs:List (κ × Value)} (r:KV kvs vs) (k:κ):RelO (valV kvs k) (valueAt vs k):=by
 unfold KV at r
 induction r with
 | nil=>exact True.intro
 | @cons p q ps qs h t ih=>
  obtain ⟨h1,h2⟩:=h
  by_cases e:p.1 = k
  ·have e':q.1 = k:=h1.symm.trans e
   have b:valueAt (q :: qs) k = some q.2:=by simp [valueAt,List.find?_cons,e']
   rw [ZE e,b]; exact h2
  ·have e':¬ q.1 = k:=fun z=>e (h1.trans z)
   have b:valueAt (q :: qs) k = valueAt qs k:=by simp [valueAt,List.find?_cons,e']
   rw [ZF e,b]; exact ih
theorem KV.any {kvs:List (κ × V)}{vs:List (κ × Value)} (r:KV kvs vs) (k:κ):(kvs.any fun kv=>decide (kv.1 = k)) = vs.any fun kv=>decide (kv.1 = k):=by
 unfold KV at r
 induction r with
 | nil=>rfl
 | cons h t ih=>rw [List.any_cons,List.any_cons,ih,h.1]
theorem KV.repl {kvs:List (κ × V)}{vs:List (κ × Value)} (r:KV kvs vs) (k:κ) {y:V}{u:Value} (ry:RelV y u):
  KV (kvs.map fun kv=>if kv.1 = k then (kv.1,y) else kv) (vs.map fun kv=>if kv.1 = k then (kv.1,u) else kv):=by
 unfold KV at r ⊢
 induction r with
 | nil=>exact .nil
 | @cons p q ps qs h t ih=>
  rw [List.map_cons,List.map_cons]
  refine .cons ?_ ih
  obtain ⟨h1,h2⟩:=h
  by_cases e:p.1 = k
  ·rw [if_pos e,if_pos (h1.symm.trans e)]; exact ⟨h1,ry⟩
  ·rw [if_neg e,if_neg (fun z=>e (h1.trans z))]; exact ⟨h1,h2⟩
theorem KV.put {kvs:List (κ × V)}{vs:List (κ × Value)} (r:KV kvs vs) (k:κ) {y:V}{u:Value} (ry:RelV y u):KV (putK kvs k y) (stored vs k u):=by
 unfold putK stored
 rw [r.any k]
 by_cases e:(vs.any fun kv=>decide (kv.1 = k)) = true
 ·rw [if_pos e,if_pos e]; exact r.repl k ry
 ·rw [if_neg e,if_neg e]; exact Paired.snoc r ⟨rfl,ry⟩
theorem KV.length {kvs:List (κ × V)}{vs:List (κ × Value)} (r:KV kvs vs):kvs.length = vs.length:=Paired.length r
end
theorem zeA {P:Program}{w:World}{k:Key}{u:Value} (r:RelV (kV k) u):(zR P w).is k u = true:=by
 cases k with
 | inl i=>obtain ⟨t,e⟩:=(show ∃ t,u = Value.int i t from r); subst e; exact zfl P w i t
 | inr x=>obtain ⟨t,e⟩:=(show ∃ t,u = Value.str x t from r); subst e; exact za9 P w x t
theorem zeB {P:Program}{w:World}:∀ {ks:List Key}{us:List Value},Vals (ks.map kV) us->ItemsAre (zR P w) ks us
 | [],_,r=>by rw [List.map_nil] at r; cases r; exact .nil
 | k :: ks,_,r=>by
  rw [List.map_cons] at r
  cases r with
  | cons h t=>exact .cons (zeA h) (zeB t)
abbrev KT (H:Hp):List (List Key × V)->List (List Key × Addr × Value)->Prop:=Paired fun p q=>p.1 = q.1/\H q.2.1 = some (.tup (p.1.map kV))/\RelV p.2 q.2.2
theorem KT.val {H:Hp}{kvs:List (List Key × V)}{xs:List (List Key × Addr × Value)} (r:KT H kvs xs) (k:List Key):RelO (valV kvs k) ((atKey xs k).map (·.2)):=by
 induction r with
 | nil=>exact True.intro
 | @cons p q ps qs h t ih=>
  obtain ⟨h1,_,h2⟩:=h
  by_cases e:p.1 = k
  ·have e':q.1 = k:=h1.symm.trans e
   have b:atKey (q :: qs) k = some q.2:=by simp [atKey,List.find?_cons,e']
   rw [ZE e,b]; exact h2
  ·have e':¬ q.1 = k:=fun z=>e (h1.trans z)
   have b:atKey (q :: qs) k = atKey qs k:=by simp [atKey,List.find?_cons,e']
   rw [ZF e,b]; exact ih
theorem KT.repl {H:Hp}{kvs:List (List Key × V)}{xs:List (List Key × Addr × Value)} (r:KT H kvs xs) (k:List Key) {y:V}{u:Value} (ry:RelV y u):
  KT H (kvs.map fun kv=>if kv.1 = k then (kv.1,y) else kv) (xs.map (putAt k u)):=by
 induction r with
 | nil=>exact .nil
 | @cons p q ps qs h t ih=>
  rw [List.map_cons,List.map_cons]
  refine .cons ?_ ih
  obtain ⟨h1,h2,h3⟩:=h
  unfold putAt
  by_cases e:p.1 = k
  ·rw [if_pos e,if_pos (h1.symm.trans e)]; exact ⟨h1,h2,ry⟩
  ·rw [if_neg e,if_neg (fun z=>e (h1.trans z))]; exact ⟨h1,h2,h3⟩
theorem KT.put {H:Hp}{kvs:List (List Key × V)}{xs:List (List Key × Addr × Value)} (r:KT H kvs xs) (k:List Key) {b:Addr}{y:V}{u:Value} (hb:H b = some (.tup (k.map kV))) (ry:RelV y u):
  KT H (putK kvs k y) (storedH xs k b u):=by
 have e:(kvs.any fun kv=>decide (kv.1 = k)) = (atKey xs k).isSome:=by
  rw [zbp,(r.val k).isSome_eq,Option.isSome_map]
 unfold putK storedH
 rw [e]
 by_cases q:(atKey xs k).isSome = true
 ·rw [if_pos q,if_pos q]; exact r.repl k ry
 ·rw [if_neg q,if_neg q]; exact Paired.snoc r ⟨rfl,hb,ry⟩
theorem KT.keeps {H H':Hp}{kvs:List (List Key × V)}{xs:List (List Key × Addr × Value)} (r:KT H kvs xs) (ht:∀ b ys,H b = some (.tup ys)->H' b = some (.tup ys)):KT H' kvs xs:=
 Paired.mapP r fun _ _ z=>⟨z.1,ht _ _ z.2.1,z.2.2⟩
section
variable {P:Program}{w:World}{H:Hp}{h:Heap}{a:Addr}
theorem zmx {u:HO} (ok:HOk P w H h) (e:Rd H a u):Zg P w H h a u:=e.ok ok
theorem zgS {kvs:List (Key × V)} (ok:HOk P w H h) (e:Rd H a (.dK kvs)):kvs.length<=sizeLine/\(a == sysModules) = false/\∃ vs,KV kvs vs/\h.DictOf (zR P w) a vs:=
 show Zg P w H h a (.dK kvs) from zmx ok e
theorem zlj {kvs:List (Key × V)} (ok:HOk P w H h) (e:H a = some (.dK kvs)):kvs.length<=sizeLine/\(a == sysModules) = false/\∃ vs,KV kvs vs/\h.DictOf (zR P w) a vs:=zgS ok (.inl e)
theorem zge {ks:List Key} (ok:HOk P w H h) (e:H a = some (.tup (ks.map kV))):(tupleKind (zR P w)).is h ks a:=by
 obtain ⟨_,its,r,o,h1,h2,n,h3⟩:=(show Zg P w H h a (.tup (ks.map kV)) from ok a _ e)
 exact ⟨o,its.toArray,n,h1,h2,h3,by simpa using zeB r⟩
theorem zhJ {kvs:List (List Key × V)} (ok:HOk P w H h) (e:Rd H a (.dT kvs)):kvs.length<=sizeLine/\(a == sysModules) = false /\
  ∃ xs,KT H kvs xs/\h.DictOfH (tupleKind (zR P w)) a xs:=by
 obtain ⟨z,y,xs,r,o,es,ep,h1,h2,h3,h4,h5⟩:=(show Zg P w H h a (.dT kvs) from zmx ok e)
 refine ⟨z,y,xs,r,o,es,ep,h1,h2,h3,h4,fun x hx=>?_,h5⟩
 have all:∀ {l:List (List Key × V)}{m:List (List Key × Addr × Value)},KT H l m->∀ x∈m,(tupleKind (zR P w)).is h x.1 x.2.1:=by
  intro l m q
  induction q with
  | nil=>intro x hx; exact nomatch hx
  | @cons p q ps qs hq t ih=>
   intro x hx
   rcases List.mem_cons.mp hx with e | hx
   ·subst e
    exact zge ok (by rw [← hq.1]; exact hq.2.1)
   ·exact ih x hx
 exact all r x hx
theorem znF {kvs:List (List Key × V)} (ok:HOk P w H h) (e:H a = some (.dT kvs)):kvs.length<=sizeLine/\(a == sysModules) = false /\
  ∃ xs,KT H kvs xs/\h.DictOfH (tupleKind (zR P w)) a xs:=zhJ ok (.inl e)
end
def DGet (H:Hp) (a:Addr) (y:V) (r:Option V):Prop:=
 (∃ kvs k,Rd H a (.dK kvs)/\y = kV k/\r = valV kvs k)\/∃ kvs k b,Rd H a (.dT kvs)/\y = .ref b/\H b = some (.tup (k.map kV))/\r = valV kvs k
def DPut (H:Hp) (a:Addr) (y v:V) (H':Hp):Prop:=
 (∃ kvs k,H a = some (.dK kvs)/\y = kV k/\kvs.length < sizeLine/\H' = upd H a (.dK (putK kvs k v))) \/
 ∃ kvs k b,H a = some (.dT kvs)/\y = .ref b/\H b = some (.tup (k.map kV))/\kvs.length < sizeLine/\H' = upd H a (.dT (putK kvs k v))
theorem DGet.k {H:Hp}{a:Addr}{kvs:List (Key × V)}{k:Key} (e:H a = some (.dK kvs)):DGet H a (kV k) (valV kvs k):=.inl ⟨kvs,k,.inl e,rfl,rfl⟩
theorem DPut.k {H:Hp}{a:Addr}{kvs:List (Key × V)}{k:Key}{v:V} (e:H a = some (.dK kvs)) (hl:kvs.length < sizeLine):DPut H a (kV k) v (upd H a (.dK (putK kvs k v))):=.inl ⟨kvs,k,e,rfl,hl,rfl⟩
section
variable {X:Cx}{zp:List (Addr × Obj)}{σ:St}{H:Hp}{s:Shared}{a:Addr}{y v:V}{u r:Value}{o:Option V}{A:Around}{E:Value->Shared->Prop}
theorem Inv.big (I:Inv X zp σ H s):sysModules < s.heap.objs.size:=by
 have h:mainGlobals < s.heap.objs.size:=(I.mod.glob.keeps I.bk).lt
 exact Nat.lt_trans (by decide) h
theorem zhK {Q:Value->Shared->Prop} (hu:A.units + 1 < cLine) (I:Inv X zp σ H s) (g:DGet H a y (some v)) (ry:RelV y u) (h:∀ w' s',Inv X zp σ H s'->RelV v w'->Q w' s'):
  wpAny (model X.prog X.w) A (getItem (.ref a) u) Q E s:=by
 rcases g with ⟨kvs,k,e,ey,l⟩ | ⟨kvs,k,b,e,ey,eb,l⟩
 ·subst ey
  obtain ⟨z,hd,vs,rel,dd⟩:=zgS I.hok e
  obtain ⟨w',hw,rw'⟩:=RelO.some_of (v:=v) (o:=valueAt vs k) (by rw [l]; exact rel.val k)
  exact wpAny_getItem_of (zeA ry) dd.mapOf hw (h w' _ (I.tok _) rw')
 ·subst ey
  cases (show u = Value.ref b from ry)
  obtain ⟨z,hd,xs,rel,dd⟩:=zhJ I.hok e
  obtain ⟨w',hw,rw'⟩:=RelO.some_of (v:=v) (o:=(atKey xs k).map (·.2)) (by rw [l]; exact rel.val k)
  obtain ⟨p,hp,hp2⟩:=Option.map_eq_some_iff.mp hw
  refine wpAny_getItem_heap (tupleKind_room_in1 hu) (zge I.hok eb) dd hp ?_
  rw [hp2]
  exact h w' _ (I.tok _) rw'
theorem zfo {h':Heap}{t':Nat}{ob:HO} (I:Inv X zp σ H s) (mu:Mut (H a)) (hs:Heap.SameBut a s.heap h') (he:∃ q,h'.get? a = some q) (new:Zg X.prog X.w (upd H a ob) h' a ob):
  Inv X zp σ (upd H a ob) { s with heap:=h',toks:=t' }:=
 I.write (x:=a) (e:=a) mu (.inl rfl) (fun b q hb z=>(hs.2 b hb).trans z) he new
theorem zkA {P:Program}{w:World}{H':Hp}{h':Heap}{kvs:List (Key × V)}{vs:List (Key × Value)} (z:kvs.length<=sizeLine) (hd:(a == sysModules) = false) (rel:KV kvs vs) (dd:h'.DictOf (zR P w) a vs):
  Zg P w H' h' a (.dK kvs):=⟨z,hd,vs,rel,dd⟩
theorem zhL {H':Hp}{Q:Unit->Shared->Prop} (hu:A.units + 1 < cLine) (I:Inv X zp σ H s) (g:DPut H a y v H') (ry:RelV y u) (rv:RelV v r) (h:∀ s',Inv X zp σ H' s'->Q () s'):
  wpAny (model X.prog X.w) A (setItem (.ref a) u r) Q E s:=by
 rcases g with ⟨kvs,k,e,ey,l,eH⟩ | ⟨kvs,k,b,e,ey,eb,l,eH⟩
 ·subst ey eH
  obtain ⟨z,hd,vs,rel,dd⟩:=zlj I.hok e
  have hz:vs.length<=sizeLine:=by rw [← rel.length]; exact z
  have hl:(putK kvs k v).length<=sizeLine:=by have:=zaf kvs k v; omega
  refine wpAny_setItem_pairs (hsz:=hz) (zeA ry) dd fun h' dd' hs=>h _ ?_
  have he:∃ q,h'.get? a = some q:=let ⟨q,_,_,hq,_⟩:=dd'; ⟨q,hq⟩
  exact zfo I (by rw [e]; exact True.intro) hs he (zkA hl hd (rel.put k rv) dd')
 ·subst ey eH
  cases (show u = Value.ref b from ry)
  obtain ⟨z,hd,xs,rel,dd⟩:=znF I.hok e
  have hz:xs.length<=sizeLine:=by rw [← Paired.length rel]; exact z
  have hl:(putK kvs k v).length<=sizeLine:=by have:=zaf kvs k v; omega
  refine wpAny_setItem_heap (hsz:=hz) (tupleKind_room_in1 hu) (zge I.hok eb) dd fun h' dd' hs=>h _ ?_
  obtain ⟨q,es,ep,hq,h2,h3,h4,_,h5⟩:=dd'
  refine zfo I (by rw [e]; exact True.intro) hs ⟨q,hq⟩ ⟨hl,hd,_,(rel.put k eb rv).keeps fun c ys ec=>?_,q,es,ep,hq,h2,h3,h4,h5⟩
  rw [zr (zk5 ec e (fun z=>nomatch z))]
  exact ec
end
section
variable {X:Cx}{zp:List (Addr × Obj)}{σ:St}{H:Hp}{s:Shared}{a:Addr}{kvs:List (Key × V)}{k:Key}{u:Value}{A:Around}{E:Value->Shared->Prop}
end
def NoSl (i:Expr):Prop:=∀ ov iv,subscripted i false ov iv = operate [ov,iv] (getItem ov iv)
theorem zlk {prog:Program}{w:World}{A:Around}{E:Value->Shared->Prop}{s:Shared}{env:Env}{value slice:Expr}{pos:Pos}{T id:String}{Q:Value->Shared->Prop}
  (hl:typeLookup (.type T) "__getitem__" = pure (some (.builtin id))) (hs:NoSl slice)
  (h:wpAny (model prog w) A (eval value env) (fun o s₁=>wpAny (model prog w) A (eval slice env) (fun i s₂=>s₂.TypeIs o T/\wpAny (model prog w) A (getItem o i) Q E s₂) E s₁) E s):
  wpAny (model prog w) A (eval (.Subscript value slice pos) env) Q E s:=by
 refine Subscript_ (wpAny_mono h (fun o s₁ h₁=>wpAny_mono h₁ (fun i s₂ h₂=>?_) fun _ _ x=>x) fun _ _ x=>x)
 obtain ⟨hT,h₂⟩:=h₂
 unfold subscriptTail
 refine wpAny_bind ?_
 rw [getitemInPython_of_ne hT.not_modules]
 refine wpAny_bind (wpAny_specialOf hT hl ?_)
 have fin:wpAny (model prog w) A (subscripted slice false o i) (fun r s₃=>wpAny (model prog w) A (letTemporaryGo value o r >>= fun _=>pure r) Q E s₃) E s₂:=by
  rw [hs o i]
  exact wpAny_operating (wpAny_mono h₂ (fun r s₃ h₃=>wpAny_bind (wpAny_letTemporaryGo (wpAny_pure h₃))) fun _ _ x=>x)
 first
  | exact wpAny_pure (wpAny_bind fin)
  | exact wpAny_bind (wpAny_pure (wpAny_bind fin))
  | exact wpAny_bind fin
theorem zfp {X:Cx}{zp:List (Addr × Obj)}{σ:St}{H:Hp}{s:Shared}{a:Addr}{y:V}{o:Option V} (I:Inv X zp σ H s) (g:DGet H a y o):s.TypeIs (.ref a) "dict":=by
 rcases g with ⟨kvs,k,e,_,_⟩ | ⟨kvs,k,b,e,_,_,_⟩
 ·obtain ⟨_,_,vs,_,dd⟩:=zgS I.hok e
  exact dd.typeIs
 ·obtain ⟨_,_,xs,_,dd⟩:=zhJ I.hok e
  exact dd.typeIs
def zmy (td ty:TE):TE:=fun σ H Q=>td σ H fun x H1=>ty σ H1 fun y H2=>∃ a v,x = .ref a/\DGet H2 a y (some v)/\Q v H2
def zmz (td ty tv:TE):TS:=fun D σ H=>tv σ H fun v H1=>td σ H1 fun x H2=>ty σ H2 fun y H3=>∃ a H4,x = .ref a/\DPut H3 a y v H4/\D.nx σ H4
section
variable {X:Cx}{o i e value:Expr}{pos pos' tpos:Pos}{td ty tv:TE}
theorem zbb (hu:X.A.units + 1 < cLine) (ho:PE X o td) (hi:PE X i ty) (hs:NoSl i):PE X (.Subscript o i pos) (zmy td ty):=by
 intro zp s σ H Q I h
 refine zlk PySem.F.slot_dict_getitem.lookup hs (thn (ho zp s σ H _ I h) fun u s1 ⟨x,H1,I1,rx,q1⟩=>thn (hi zp s1 σ H1 _ I1 q1) fun iv s2 ⟨y,H2,I2,ry,a,v,ex,g,q2⟩=>?_)
 subst ex
 obtain rfl:u = Value.ref a:=rx
 exact ⟨zfp I2 g,zhK hu I2 g ry fun w' s3 I3 rw'=>⟨v,H2,I3,rw',q2⟩⟩
theorem zbJ (hu:X.A.units + 1 < cLine) (ho:PE X o td) (hi:PE X i ty) (hv:PE X value tv) (hs:swapsWith value (some (.Subscript o i pos')) pos.line X.env = pure false):
  PS X (.Assign [.Subscript o i pos'] value pos) (zmz td ty tv):=by
 intro zp s σ H D I h
 refine wpAny_Assign_Subscript (thn (hv zp s σ H _ I h) fun r s1 ⟨v,H1,I1,rv,q1⟩=>thn (ho zp s1 σ H1 _ I1 q1) fun u s2 ⟨x,H2,I2,rx,q2⟩=>thn (hi zp s2 σ H2 _ I2 q2) fun iv s3 ⟨y,H3,I3,ry,a,H4,ex,g,q3⟩=>?_) hs
 subst ex
 obtain rfl:u = Value.ref a:=rx
 exact zhL hu I3 g ry rv fun s4 I4=>⟨σ,H4,I4,q3⟩
end
theorem zjH {P:Program}{w:World}{H:Hp} (h:Heap) (hb:sysModules < h.objs.size):Zg P w H (h.push { cls:=.type "dict",data:=.dict #[] }) h.objs.size (.dK []):=
 ⟨Nat.zero_le _,beq_eq_false_iff_ne.mpr (Ne.symm (Nat.ne_of_lt hb)),[],.nil,Heap.DictOf.new h⟩
def zkB:TE:=fun _ H Q=>∀ p,H p = none->Q (.ref p) (upd H p (.dK []))
section
variable {X:Cx}{pos:Pos}
theorem zaZ:PE X (.Dict [] [] pos) zkB:=fun zp s σ H Q I h=>
 wpAny_Dict_empty ⟨.ref s.heap.objs.size,_,I.laid (a:=s.heap.objs.size) (o:=.dK []) (t':=s.toks) (fun _ _ q=>Heap.get?_push_of_some _ q) (Nat.le_refl _) (zjH s.heap I.big),rfl,h _ (I.hok.fresh (Nat.le_refl _))⟩
end
structure M1 (X:Cx) (o:Expr) (m:Str) (apos:Pos) (e:Expr) (cpos:Pos):Prop where
 base:attributeBase o m X.env (eval o X.env) = eval o X.env
 few:((backTo cpos (starEach [e] X.env)).all (fun x=>!x.1) && (backToKw cpos (keywordEach [] X.env)).all (fun x=>x.1.isSome)
  && decide (([e]:List Expr).length + ([]:List Keyword).length + (if ([]:List Keyword).isEmpty then 0 else 1) < 30)) = true
 line:(apos.endLine == cpos.line) = true
 trees:backTo cpos (starEach [e] X.env) = [(false,eval e X.env)]
structure M2 (X:Cx) (o:Expr) (m:Str) (apos:Pos) (e f:Expr) (cpos:Pos):Prop where
 base:attributeBase o m X.env (eval o X.env) = eval o X.env
 few:((backTo cpos (starEach [e,f] X.env)).all (fun x=>!x.1) && (backToKw cpos (keywordEach [] X.env)).all (fun x=>x.1.isSome)
  && decide (([e,f]:List Expr).length + ([]:List Keyword).length + (if ([]:List Keyword).isEmpty then 0 else 1) < 30)) = true
 line:(apos.endLine == cpos.line) = true
 trees:backTo cpos (starEach [e,f] X.env) = [(false,eval e X.env),(false,eval f X.env)]
def IsD (H:Hp) (a:Addr):Prop:=(∃ kvs,Rd H a (.dK kvs))\/∃ kvs,Rd H a (.dT kvs)
theorem zmA {X:Cx}{zp:List (Addr × Obj)}{σ:St}{H:Hp}{s:Shared}{a:Addr} (I:Inv X zp σ H s) (d:IsD H a):
  s.TypeIs (.ref a) "dict"/\(∀ b,Value.ref a = .ref b->∃ ob,s.heap.get? b = some ob/\ob.dict = none)/\(a == sysModules) = false:=by
 rcases d with ⟨kvs,e⟩ | ⟨kvs,e⟩
 ·obtain ⟨_,hd,vs,_,dd⟩:=zgS I.hok e
  refine ⟨dd.typeIs,fun b q=>?_,hd⟩
  cases q
  obtain ⟨ob,_,_,h1,h2,_⟩:=dd
  exact ⟨ob,h1,h2.2.1⟩
 ·obtain ⟨_,hd,xs,_,dd⟩:=zhJ I.hok e
  refine ⟨dd.typeIs,fun b q=>?_,hd⟩
  cases q
  obtain ⟨ob,_,_,h1,h2,_⟩:=dd
  exact ⟨ob,h1,h2.2.1⟩
section
variable {X:Cx}{zp:List (Addr × Obj)}{σ:St}{H:Hp}{s:Shared}{a:Addr}{y d:V}{u r:Value}{o:Option V}{A:Around}{E:Value->Shared->Prop}
theorem zmB {Q:Value->Shared->Prop} (hu:A.units + 1 < cLine) (I:Inv X zp σ H s) (g:DGet H a y o) (ry:RelV y u) (h:∀ w' s',Inv X zp σ H s'->RelV (o.getD .non) w'->Q w' s'):
  wpAny (model X.prog X.w) A (call (.builtin "dict.get") [.ref a,u]) Q E s:=by
 rcases g with ⟨kvs,k,e,ey,l⟩ | ⟨kvs,k,b,e,ey,eb,l⟩
 ·subst ey
  obtain ⟨z,hd,vs,rel,dd⟩:=zgS I.hok e
  refine call_meetsIn PySem.F.slot_dict_get dd.typeIs PySem.F.entry_dict_get (PySem.F.args_dict_get_2 _ _) (meets_dict_get (zR X.prog X.w) a (zeA ry) hd) ⟨_,dd.mapOf,h _ _ (I.tok _) ?_⟩
  rw [l]
  exact (rel.val k).getD rfl
 ·subst ey
  cases (show u = Value.ref b from ry)
  obtain ⟨z,hd,xs,rel,dd⟩:=zhJ I.hok e
  refine call_meetsIn PySem.F.slot_dict_get dd.typeIs PySem.F.entry_dict_get (PySem.F.args_dict_get_2 _ _) (meetsH_dict_get (tupleKind (zR X.prog X.w)) a b hd) ⟨tupleKind_room_in1 hu,k,xs,zge I.hok eb,dd,h _ _ (I.tok _) ?_⟩
  rw [l]
  exact (rel.val k).getD rfl
end
def zkC (td ty:TE):TE:=fun σ H Q=>td σ H fun x H1=>∃ a,x = .ref a/\IsD H1 a/\ty σ H1 fun y H2=>∃ o,DGet H2 a y o/\Q (o.getD .non) H2
section
variable {X:Cx}{o e f:Expr}{apos cpos:Pos}{td ty tx:TE}
theorem zck (hu:X.A.units + 1 < cLine) (ho:PE X o td) (he:PE X e ty) (m:M1 X o "get" apos e cpos):PE X (.Call (.Attribute o "get" apos) [e] [] cpos) (zkC td ty):=by
 intro zp s σ H Q I h
 refine wpAny_Call_method m.base m.few m.line PySem.F.plainAttrs_dict PySem.F.slot_dict_get PySem.F.type_dict_get (thn (ho zp s σ H _ I h) fun u s1 ⟨x,H1,I1,rx,a,ex,d,q1⟩=>?_)
 subst ex
 obtain rfl:u = Value.ref a:=rx
 obtain ⟨t1,t2,_⟩:=zmA I1 d
 refine ⟨t1,t2,?_⟩
 rw [m.trees]
 refine Calls.callWith_builtin rfl (Calls.evalArgs_plain (Calls.spliced_cons (thn (he zp s1 σ H1 _ I1 q1) fun iv s2 ⟨y,H2,I2,ry,ov,g,q2⟩=>Calls.spliced_nil ?_)))
 exact zmB hu I2 g ry fun w' s3 I3 rw'=>⟨_,H2,I3,rw',q2⟩
end
section
variable {X:Cx}{zp:List (Addr × Obj)}{σ:St}{H:Hp}{s:Shared}{a:Addr}{kvs:List (Key × V)}{A:Around}{E:Value->Shared->Prop}
theorem zjI {Q:Value->Shared->Prop} (I:Inv X zp σ H s) (e:Rd H a (.dK kvs)) (h:∀ p s',H p = none->Inv X zp σ (upd H p (.dK kvs)) s'->Q (.ref p) s'):wpAny (model X.prog X.w) A (call (.type "dict") [.ref a]) Q E s:=by
 obtain ⟨z,hd,vs,rel,dd⟩:=zgS I.hok e
 refine kt_call_dict hd dd (by rw [← rel.length]; exact z) fun h' dd' hs=>?_
 refine h _ _ (I.hok.fresh (Nat.le_refl _)) (I.laid (a:=s.heap.objs.size) (o:=.dK kvs) (t':=s.toks) (fun b q hq=>?_) (Nat.le_refl _) (zkA z (beq_eq_false_iff_ne.mpr (Ne.symm (Nat.ne_of_lt I.big))) rel dd'))
 exact (hs.2 b (Nat.ne_of_lt (Heap.lt_size hq))).trans (Heap.get?_push_of_some _ hq)
end
section
variable {X:Cx}{zp:List (Addr × Obj)}{σ:St}{H:Hp}{s:Shared}{a:Addr}{y:V}{u:Value}{A:Around}{E:Value->Shared->Prop}
end
end L2
namespace HT
open PySem PyProof.Rows
section
open PySem.SeqAt
open PySem.AutoSeq1 (wpAny_loadPart')
open PySem.MeetsSeq PySem.MeetsSeq2 PySem.MeetsSeq3
end
section
variable {prog:Program}{w:World}{A:Around}{E:Value->Shared->Prop}{s:Shared}
theorem cat_tup {t b:Addr}{vs ws:List Value}{Q:Value->Shared->Prop} (ht:IsTup s.heap t vs.toArray) (hb:IsTup s.heap b ws.toArray) (hv:vs≠[])
  (h1:ws = []->Q (.ref t) s) (h2:ws≠[]->Q (.ref s.heap.objs.size) { s with heap:=s.heap.push { cls:=.type "tuple",data:=.seq (vs ++ ws).toArray } })
  (hsz:vs.length + ws.length<=sizeLine):wpAny (model prog w) A (binaryOp .Add (.ref t) (.ref b)) Q E s:=by
 obtain ⟨⟨cls,dd,data,sl⟩,ho,hc,n,hd⟩:=id ht
 obtain ⟨⟨cls2,dd2,data2,sl2⟩,ho2,hc2,n2,hd2⟩:=id hb
 simp only at hc hd hc2 hd2
 subst hc hd hc2 hd2
 have e:vs.toArray ++ ws.toArray = (vs ++ ws).toArray:=by simp
 by_cases hw:ws = []
 ·exact concat_meets ⟨_,ho,rfl⟩ ⟨_,ho2,rfl⟩ noFill_tuple_add seq_tuple_add PySem.F.slot_tuple_add PySem.F.entry_tuple_add (PySem.F.args_tuple_add_2 _ _)
   (tuple_addW1 t b vs.toArray ws.toArray n n2 dd dd2 sl sl2 (by simpa using hv) (by simp [hw])) ⟨ho,ho2,h1 hw⟩
 ·refine concat_meets ⟨_,ho,rfl⟩ ⟨_,ho2,rfl⟩ noFill_tuple_add seq_tuple_add PySem.F.slot_tuple_add PySem.F.entry_tuple_add (PySem.F.args_tuple_add_2 _ _)
   (tuple_addW2 t b vs.toArray ws.toArray n n2 dd dd2 sl sl2 (by simpa using hv) (by simpa using hw) (by rw [List.size_toArray,List.size_toArray]; exact hsz)) ⟨ho,ho2,?_⟩
  rw [e]
  exact h2 hw
def sIx (n d:Nat):Option Int->Nat
 | none=>d
 | some v=>if v < 0 then (v + (n:Int)).toNat else min v.toNat n
theorem sIx_nat (n d k:Nat):sIx n d (some (k:Int)) = min k n:=by
 show (if (k:Int) < 0 then ((k:Int) + (n:Int)).toNat else min (k:Int).toNat n) = min k n
 rw [if_neg (by omega),Int.toNat_natCast]
theorem zmC (n d:Nat) (hd:d<=n) (o:Option Int):sIx n d o<=n:=by
 cases o with
 | none=>exact hd
 | some v=>
  show (if v < 0 then (v + (n:Int)).toNat else min v.toNat n)<=n
  by_cases hv:v < 0
  ·rw [if_pos hv]; omega
  ·rw [if_neg hv]; exact Nat.min_le_right _ _
theorem zhM (v:Int) (n d:Nat):(if v < 0 then max (v + (n:Int)) 0 else min v (n:Int)) = ((sIx n d (some v):Nat):Int):=by
 show (if v < 0 then max (v + (n:Int)) 0 else min v (n:Int)) = (((if v < 0 then (v + (n:Int)).toNat else min v.toNat n):Nat):Int)
 by_cases hv:v < 0
 ·simp only [if_pos hv]; omega
 ·simp only [if_neg hv]; omega
theorem zgT (lo hi:Option Int) (n:Nat):Builtin.Slice.sliceAdjust lo hi 1 (n:Int) = (((sIx n 0 lo:Nat):Int),((sIx n n hi:Nat):Int)):=by
 have h1:¬ ((1:Int) < 0):=by omega
 unfold Builtin.Slice.sliceAdjust
 simp only [h1,if_false]
 refine Prod.ext ?_ ?_
 ·cases lo with
  | none=>rfl
  | some v=>exact zhM v n 0
 ·cases hi with
  | none=>rfl
  | some v=>exact zhM v n n
theorem zgU (i j:Nat):Builtin.Slice.slicePlaces (i:Int) (j:Int) 1 = j - i:=by
 unfold Builtin.Slice.slicePlaces
 have h1:(1:Int) > 0:=by omega
 simp only [h1,if_true,Int.ediv_one]
 split <;> omega
theorem zdo {v:Value}{o:Option Int}{Q:Option Int->Shared->Prop} (p:IsPart v o) (h:Q o s):wpAny (model prog w) A (Builtin.Slice.slicePartIndex v) Q E s:=by
 cases p with
 | none=>exact slicePart_none h
 | int i t=>exact slicePart_int h
theorem zb7 {sl:Addr}{vl vu:Value}{lo hi:Option Int}{n:Nat}{Q:Int × Int × Nat->Shared->Prop} (hs:s.heap.IsSliceOf sl vl vu .none) (pl:IsPart vl lo) (pu:IsPart vu hi)
  (h:Q (((sIx n 0 lo:Nat):Int),1,sIx n n hi - sIx n 0 lo) s):wpAny (model prog w) A (Builtin.Slice.sliceApplied (.ref sl) (pure (n:Int))) Q E s:=by
 obtain ⟨os,hos,hcs,hds⟩:=id hs
 unfold Builtin.Slice.sliceApplied Builtin.Slice.sliceFields
 refine wpAny_bind (wpAny_bind (wpAny_field hos hds (x:=vl) rfl (wpAny_bind (wpAny_field hos hds (x:=vu) rfl (wpAny_bind (wpAny_field hos hds (x:=.none) rfl (wpAny_pure ?_)))))))
 refine wpAny_bind (slicePart_none ?_)
 show wpAny _ _ (if ((1:Int) == 0) = true then _ else _) _ _ s
 rw [if_neg (by decide)]
 refine wpAny_bind (zdo pl (wpAny_bind (zdo pu (wpAny_bind (wpAny_pure ?_)))))
 show wpAny _ _ (match Builtin.Slice.sliceAdjust lo hi 1 (n:Int) with | (lo,hi)=>pure (lo,(1:Int),Builtin.Slice.slicePlaces lo hi 1)) _ _ s
 rw [zgT lo hi n]
 show wpAny _ _ (pure (((sIx n 0 lo:Nat):Int),(1:Int),Builtin.Slice.slicePlaces ((sIx n 0 lo:Nat):Int) ((sIx n n hi:Nat):Int) 1)) _ _ s
 rw [zgU]
 exact wpAny_pure h
theorem zjJ (xs:Array Value) (i k:Nat):((List.range k).filterMap fun (m:Nat)=>xs[((i:Int) + (m:Int) * 1).toNat]?).toArray = ((xs.toList.drop i).take k).toArray:=by
 have e:(fun (m:Nat)=>xs[((i:Int) + (m:Int) * 1).toNat]?) = fun m=>xs[i + m]?:=by
  funext m
  have:((i:Int) + (m:Int) * 1).toNat = i + m:=by omega
  rw [this]
 rw [e]
 have:=pick_run xs i k
 rw [List.filterMap_map] at this
 have e2:((fun x=>xs[x]?) ∘ fun x=>i + x) = fun m=>xs[i + m]?:=rfl
 rw [e2] at this
 rw [this]
theorem getItem_tuple_cut {t sl:Addr}{items:Array Value}{vl vu:Value}{lo hi:Option Int}{Q:Value->Shared->Prop} (ht:IsTup s.heap t items) (hs:s.heap.IsSliceOf sl vl vu .none) (pl:IsPart vl lo) (pu:IsPart vu hi)
  (hw:¬ (sIx items.size 0 lo = 0/\sIx items.size items.size hi = items.size))
  (h:Q (.ref s.heap.objs.size) { s with heap:=s.heap.push { cls:=.type "tuple",data:=.seq ((items.toList.drop (sIx items.size 0 lo)).take (sIx items.size items.size hi - sIx items.size 0 lo)).toArray } })
  (hsz:items.size<=sizeLine):wpAny (model prog w) A (getItem (.ref t) (.ref sl)) Q E s:=by
 have htake:sizeOk (.seq ((items.toList.drop (sIx items.size 0 lo)).take (sIx items.size items.size hi - sIx items.size 0 lo)).toArray):=by
  show ((items.toList.drop (sIx items.size 0 lo)).take (sIx items.size items.size hi - sIx items.size 0 lo)).toArray.size<=sizeLine
  rw [List.size_toArray,List.length_take,List.length_drop,Array.length_toList]
  omega
 have hj:sIx items.size items.size hi<=items.size:=zmC _ _ (Nat.le_refl _) hi
 obtain ⟨os,hos,hcs,hds⟩:=id hs
 have hTs:s.TypeIs (.ref sl) "slice":=⟨os,hos,hcs⟩
 unfold getItem
 try with_reducible refine wpAny_holding ?_
 first | refine wpAny_bind (wpAny_pure ?_) | skip
 refine wpAny_bind (wpAny_sequenceKey ht.typeIs (by decide) ?_)
 refine wpAny_bind (wpAny_callSpecial?_slot (name:=Str.ofString "__getitem__") ht.typeIs PyProof.Rows.slot_tuple_getitem
  (wpAny_call_entry PyProof.Rows.slot_tuple_getitem ht.typeIs entry_tuple_getitem ?_ (args_tuple_getitem _ _)))
 show wpAny _ _ (Builtin.Tuple.tupleItemsOf (.ref t) >>= _) _ _ s
 refine wpAny_bind (tupleItemsOf_ ht ?_)
 refine wpAny_bind (wpAny_typeOf hTs ?_)
 rw [if_pos (by decide)]
 refine wpAny_bind (zb7 hs pl pu ?_)
 have hno:¬ ((((sIx items.size 0 lo:Nat):Int) == 0 && (1:Int) == 1 && (sIx items.size items.size hi - sIx items.size 0 lo) == items.size) = true):=by
  intro q
  rw [Bool.and_eq_true,Bool.and_eq_true] at q
  have q1:((sIx items.size 0 lo:Nat):Int) = 0:=eq_of_beq q.1.1
  have q2:sIx items.size items.size hi - sIx items.size 0 lo = items.size:=eq_of_beq q.2
  exact hw ⟨by omega,by omega⟩
 show wpAny _ _ (if (((sIx items.size 0 lo:Nat):Int) == 0 && (1:Int) == 1 && (sIx items.size items.size hi - sIx items.size 0 lo) == items.size) = true then _ else _) _ _ s
 rw [if_neg hno,zjJ]
 first
  | exact wpAny_bind (m:=Builtin.Tuple.tupleExact _) (wpAny_newObj_type (wpAny_pure ⟨_,rfl,wpAny_pure h⟩) htake)
  | exact wpAny_bind (m:=Builtin.Tuple.tupleExact _) (wpAny_newObj_type (wpAny_bind (wpAny_pure (wpAny_pure ⟨_,rfl,wpAny_pure h⟩))) htake)
  | exact wpAny_bind (wpAny_bind (m:=Builtin.Tuple.tupleExact _) (wpAny_newObj_type (wpAny_pure (wpAny_pure ⟨_,rfl,wpAny_pure h⟩)) htake))
  | exact wpAny_bind (wpAny_bind (m:=Builtin.Tuple.tupleExact _) (wpAny_newObj_type (wpAny_pure ⟨_,rfl,wpAny_pure h⟩) htake))
end
end HT
namespace L2
open PySem PySem.Spec PyProof.Rows
abbrev TO:=St->Hp->(Option Int->Hp->Prop)->Prop
def PO (X:Cx) (e:Option Expr) (t:TO):Prop:=
 ∀ (zp:List (Addr × Obj)) (s:Shared) (σ:St) (H:Hp) (Q:Option Int->Hp->Prop),Inv X zp σ H s->t σ H Q->
  wpAny (model X.prog X.w) X.A (evalPart e X.env) (fun u s'=>∃ o H',Inv X zp σ H' s'/\IsPart u o/\Q o H') X.xe s
def zhN:TO:=fun _ H Q=>Q none H
def zmD (t:TE):TO:=fun σ H Q=>t σ H fun x H1=>∃ i,x = .int i/\Q (some i) H1
section
variable {X:Cx}{e:Expr}{te:TE}{lo hi:Option Expr}{tl th:TO}{pos p2:Pos}
theorem zaF:PO X none zhN:=by
 intro zp s σ H Q I h
 rw [evalPart_none]
 exact wpAny_pure ⟨none,H,I,.none,h⟩
theorem zag (h:PE X e te):PO X (some e) (zmD te):=by
 intro zp s σ H Q I hw
 rw [evalPart_some]
 refine thn (h zp s σ H _ I hw) fun u s1 ⟨x,H1,I1,r1,q1⟩=>?_
 obtain ⟨i,rfl,q⟩:=q1
 obtain ⟨t,rfl⟩:=r1
 exact ⟨some i,H1,I1,.int i t,q⟩
def SlR (X:Cx) (r:V->Option Int->Option Int->Hp->VK->Prop):Prop:=
 ∀ (zp:List (Addr × Obj)) (s:Shared) (σ:St) (H:Hp) (x:V) (v vl vu:Value) (lo hi:Option Int) (sl:Addr) (Q:VK),Inv X zp σ H s->RelV x v->s.heap.IsSliceOf sl vl vu .none->IsPart vl lo->IsPart vu hi->r x lo hi H Q->
  ∃ T id,typeLookup (.type T) "__getitem__" = pure (some (.builtin id))/\s.TypeIs v T/\wpAny (model X.prog X.w) X.A (getItem v (.ref sl)) (EP X zp σ Q) X.xe s
def tSl (r:V->Option Int->Option Int->Hp->VK->Prop) (te:TE) (tl th:TO):TE:=fun σ H Q=>te σ H fun x H1=>tl σ H1 fun l H2=>th σ H2 fun u H3=>r x l u H3 Q
theorem ZX {r:V->Option Int->Option Int->Hp->VK->Prop} (hr:SlR X r) (he:PE X e te) (hl:PO X lo tl) (hu:PO X hi th):PE X (.Subscript e (.Slice lo hi none p2) pos) (tSl r te tl th):=by
 intro zp s σ H Q I h
 refine Subscript_ (thn (he zp s σ H _ I h) fun v s1 ⟨x,H1,I1,r1,q1⟩=>?_)
 refine wpAny_Slice (thn (hl zp s1 σ H1 _ I1 q1) fun vl s2 ⟨l,H2,I2,pl,q2⟩=>thn (hu zp s2 σ H2 _ I2 q2) fun vu s3 ⟨u,H3,I3,pu,q3⟩=>?_)
 rw [evalPart_none]
 refine wpAny_pure ?_
 have I4:Inv X zp σ H3 { s3 with heap:=s3.heap.push { cls:=.type "slice",data:=.fields #[vl,vu,.none] } }:=I3.kept (t':=s3.toks) fun b ob q=>Heap.get?_push_of_some _ q
 obtain ⟨T,id,hT,ht,hg⟩:=hr zp { s3 with heap:=s3.heap.push { cls:=.type "slice",data:=.fields #[vl,vu,.none] } } σ H3 x v vl vu l u s3.heap.objs.size Q I4 r1 (Heap.IsSliceOf.new ..) pl pu q3
 show wpAny (model X.prog X.w) X.A (subscriptTail e (.Slice lo hi none p2) v (.ref s3.heap.objs.size)) (EP X zp σ Q) X.xe { s3 with heap:=s3.heap.push { cls:=.type "slice",data:=.fields #[vl,vu,.none] } }
 exact tail_any (ops:=[.ref s3.heap.objs.size,v]) ht hT hg (by with_unfolding_all rfl)
def cutV (xs:List V) (lo hi:Option Int):List V:=(xs.drop (HT.sIx xs.length 0 lo)).take (HT.sIx xs.length xs.length hi - HT.sIx xs.length 0 lo)
theorem zcx (xs:List V) (lo hi:Option Int):(cutV xs lo hi).length<=xs.length:=by
 unfold cutV
 rw [List.length_take,List.length_drop]
 omega
def rSlT (K:PySem.W.Frag):V->Option Int->Option Int->Hp->VK->Prop:=fun x lo hi H Q=>∃ a xs,x = .ref a/\SqT K H a xs /\
 ¬ (HT.sIx xs.length 0 lo = 0/\HT.sIx xs.length xs.length hi = xs.length)/\∀ p,H p = none->Q (.ref p) (upd H p (.tup (cutV xs lo hi)))
theorem zkD:SlR X (rSlT X.K):=by
 intro zp s σ H x v vl vu lo hi sl Q I rx hs pl pu h
 obtain ⟨a,xs,rfl,hx,hw,q⟩:=h
 cases rx
 obtain ⟨its,r,ht,hz⟩:=I.tuple hx
 have hlen:its.toArray.size = xs.length:=by rw [List.size_toArray]; exact r.length.symm
 refine ⟨"tuple",_,PyProof.Rows.slot_tuple_getitem.lookup,ht.typeIs,?_⟩
 refine HT.getItem_tuple_cut ht hs pl pu (by rw [hlen]; exact hw) ?_ (by rw [hlen]; exact hz)
 rw [hlen]
 refine ⟨.ref s.heap.objs.size,_,I.laid (t':=s.toks) (o:=.tup (cutV xs lo hi)) (fun b ob q=>Heap.get?_push_of_some _ q) (Nat.le_refl _) ?_,rfl,q _ (I.hok.fresh (Nat.le_refl _))⟩
 exact ⟨Nat.le_trans (zcx xs lo hi) hz,_,(r.drop (HT.sIx xs.length 0 lo)).take (HT.sIx xs.length xs.length hi - HT.sIx xs.length 0 lo),IsTup.new _ _⟩
def zmE (K:PySem.W.Frag):R2:=fun x y H Q=>∃ a b xs ys,x = .ref a/\y = .ref b/\SqT K H a xs/\SqT K H b ys/\xs≠[]/\xs.length + ys.length<=sizeLine /\
 (ys = []->Q (.ref a) H)/\(ys≠[]->∀ p,H p = none->Q (.ref p) (upd H p (.tup (xs ++ ys))))
theorem Vals.nil_iff {xs:List V}{us:List Value} (r:Vals xs us):us = [] ↔ xs = []:=by
 cases r with
 | nil=>simp
 | cons _ _=>simp
theorem zcy:OpR X (binaryOp .Add) (zmE X.K):=by
 intro zp s σ H x y v u Q I rx ry h
 obtain ⟨a,b,xs,ys,rfl,rfl,ha,hb,hx,hz,q1,q2⟩:=h
 cases rx
 cases ry
 obtain ⟨its,r1,p1,_⟩:=I.tuple ha
 obtain ⟨its2,r2,p2,_⟩:=I.tuple hb
 refine HT.cat_tup p1 p2 (fun z=>hx (r1.nil_iff.mp z)) (fun z=>⟨.ref a,H,I,rfl,q1 (r2.nil_iff.mp z)⟩) (fun z=>?_) (by rw [← r1.length,← r2.length]; exact hz)
 refine ⟨.ref s.heap.objs.size,_,I.laid (t':=s.toks) (o:=.tup (xs ++ ys)) (fun b ob q=>Heap.get?_push_of_some _ q) (Nat.le_refl _) ?_,rfl,q2 (fun w=>z (r2.nil_iff.mpr w)) _ (I.hok.fresh (Nat.le_refl _))⟩
 exact ⟨by rw [List.length_append]; exact hz,_,r1.append r2,IsTup.new _ _⟩
end
def ixN (n:Nat) (i:Int):Option Nat:=if 0<=i then (if i < n then some i.toNat else none) else if -(n:Int)<=i then some (i + n).toNat else none
def atI {α:Type} (xs:List α) (i:Int):Option α:=(ixN xs.length i).bind fun j=>xs[j]?
theorem zhO {n:Nat}{i:Int}{j:Nat} (h:ixN n i = some j):seqIndex? i n = some j/\j < n/\-(n:Int)<=i/\i < n:=by
 unfold ixN at h
 by_cases h0:0<=i
 ·rw [if_pos h0] at h
  by_cases h1:i < n
  ·rw [if_pos h1] at h
   have e:i.toNat = j:=Option.some.inj h
   exact ⟨by rw [seqIndex_of h0 h1,e],by omega,by omega,h1⟩
  ·rw [if_neg h1] at h; cases h
 ·rw [if_neg h0] at h
  by_cases h1:-(n:Int)<=i
  ·rw [if_pos h1] at h
   have e:(i + n).toNat = j:=Option.some.inj h
   exact ⟨by rw [seqIndex_neg (by omega) h1,e],by omega,h1,by omega⟩
  ·rw [if_neg h1] at h; cases h
theorem zfq {α:Type}{xs:List α}{i:Int}{v:α} (h:atI xs i = some v):∃ j,seqIndex? i xs.length = some j/\xs[j]? = some v/\j < xs.length/\-(xs.length:Int)<=i/\i < xs.length:=by
 unfold atI at h
 cases e:ixN xs.length i with
 | none=>rw [e] at h; cases h
 | some j=>
  rw [e] at h
  obtain ⟨h1,h2,h3,h4⟩:=zhO e
  exact ⟨j,h1,h,h2,h3,h4⟩
theorem zG {α:Type}{xs:List α}{j:Nat}{v:α} (h:xs[j]? = some v):atI xs (j:Int) = some v:=by
 have hj:j < xs.length:=(List.getElem?_eq_some_iff.mp h).1
 have e:ixN xs.length (j:Int) = some j:=by
  unfold ixN
  rw [if_pos (by omega),if_pos (by omega)]; simp
 unfold atI; rw [e]; exact h
theorem zcl {α:Type} (xs:List α) (v:α):atI (xs ++ [v]) (-1) = some v:=by
 have hl:(xs ++ [v]).length = xs.length + 1:=by simp
 have e:ixN (xs ++ [v]).length (-1) = some xs.length:=by
  unfold ixN
  rw [hl,if_neg (by decide),if_pos (by omega)]
  congr 1
  omega
 unfold atI
 rw [e]
 show (xs ++ [v])[xs.length]? = some v
 simp
def zhP (b:Expr):Prop:=∀ o i,subscripted b false o i = operate [o,i] (getItem o i)
def IxR (X:Cx) (r:R2):Prop:=
 ∀ (value slice:Expr) (zp:List (Addr × Obj)) (s:Shared) (σ:St) (H:Hp) (x y:V) (v u:Value) (Q:VK),Inv X zp σ H s->RelV x v->RelV y u->r x y H Q->
  subscripted slice false v u = operate [v,u] (getItem v u)->wpAny (model X.prog X.w) X.A (subscriptTail value slice v u) (EP X zp σ Q) X.xe s
def MtR (X:Cx) (id:String) (r:V->List V->Hp->VK->Prop):Prop:=
 ∀ (zp:List (Addr × Obj)) (s:Shared) (σ:St) (H:Hp) (x:V) (xs:List V) (v:Value) (us:List Value) (Q:VK),Inv X zp σ H s->RelV x v->Vals xs us->r x xs H Q->
  wpAny (model X.prog X.w) X.A (call (.builtin id) (v :: us)) (EP X zp σ Q) X.xe s
section
variable {X:Cx}{a b:Expr}{ta tb:TE}{pos:Pos}
theorem zD {r:R2} (hr:IxR X r) (ha:PE X a ta) (hb:PE X b tb) (hs:zhP b):PE X (.Subscript a b pos) (tOp r ta tb):=by
 intro zp s σ H Q I h
 exact Subscript_ (binT ha hb I h fun v u s2 x y H2 I2 rx ry q=>hr a b zp s2 σ H2 x y v u Q I2 rx ry q (hs _ _))
def rIxL (K:PySem.W.Frag):R2:=fun x y H Q=>∃ p xs i v,x = .ref p/\y = .int i/\SqL K H p xs/\atI xs i = some v/\Q v H
def rIxT (K:PySem.W.Frag):R2:=fun x y H Q=>∃ p xs i v,x = .ref p/\y = .int i/\SqT K H p xs/\atI xs i = some v/\Q v H
def rIxS:R2:=fun x y H Q=>∃ z i c,x = .str z/\y = .int i/\z.length<=sizeLine/\atI z.cps.toList i = some c/\Q (.str ⟨#[c]⟩) H
theorem zy:IxR X (rIxL X.K):=by
 intro value slice zp s σ H x y v u Q I rx ry h hs
 obtain ⟨p,xs,i,z,rfl,rfl,hq,he,q⟩:=h
 cases rx
 obtain ⟨t,rfl⟩:=ry
 obtain ⟨its,r,pl,hz⟩:=I.list hq
 obtain ⟨j,h1,h2,h3,h4,h5⟩:=zfq he
 obtain ⟨w,ew,rw'⟩:=r.get h2
 have hl:=r.length
 have hn:=zer
 have fin:EP X zp σ Q w s:=⟨z,H,I,rw',q⟩
 by_cases h0:0<=i
 ·have hj:i.toNat = j:=by
   rw [seqIndex_of h0 h5] at h1
   exact Option.some.inj h1
  exact item_listR pl.isList h0 (by omega) (by rw [hj]; simpa using ew) fin hs
 ·have hj:(i + (its.toArray.size:Int)).toNat = j:=by
   rw [seqIndex_neg (by omega) h4] at h1
   rw [List.size_toArray,← hl]
   exact Option.some.inj h1
  exact subscriptTail_builtinR (x:=w) pl.isList.typeIs slot_list_getitem.lookup
   (wpAny_getItem_list_neg (Q:=fun r s'=>r = w/\EP X zp σ Q r s') pl.isList (by omega) (by rw [List.size_toArray] <;> omega) (by omega) (by rw [hj]; simpa using ew) ⟨rfl,fin⟩) hs
theorem zS:IxR X (rIxT X.K):=by
 intro value slice zp s σ H x y v u Q I rx ry h hs
 obtain ⟨p,xs,i,z,rfl,rfl,hq,he,q⟩:=h
 cases rx
 obtain ⟨t,rfl⟩:=ry
 obtain ⟨its,r,pl,hz⟩:=I.tuple hq
 obtain ⟨j,h1,h2,h3,h4,h5⟩:=zfq he
 obtain ⟨w,ew,rw'⟩:=r.get h2
 have hl:=r.length
 have hn:=zer
 have fin:EP X zp σ Q w s:=⟨z,H,I,rw',q⟩
 exact subscriptTail_builtinR (x:=w) pl.typeIs slot_tuple_getitem.lookup
  (getItem_tuple (j:=j) (Q:=fun r s'=>r = w/\EP X zp σ Q r s') pl (by omega) (by omega) (by rw [List.size_toArray,← hl]; exact h1) (by simpa using ew) ⟨rfl,fin⟩) hs
theorem zeC:IxR X rIxS:=by
 intro value slice zp s σ H x y v u Q I rx ry h hs
 obtain ⟨z,i,c,rfl,rfl,hz,he,q⟩:=h
 obtain ⟨t,rfl⟩:=rx
 obtain ⟨t',rfl⟩:=ry
 obtain ⟨j,h1,h2,h3,h4,h5⟩:=zfq he
 have hl:z.cps.toList.length = z.length:=by simp [Str.length]
 rw [hl] at h1 h4 h5
 have hn:=zer
 exact tail_any (typeIs_str s z t) slot_str_getitem.lookup (getItem_str (c:=c) (by
  have e1:decide (i < -(2 ^ 63:Int)) = false:=decide_eq_false (by omega)
  have e2:decide (i ≥ 2 ^ 63) = false:=decide_eq_false (by omega)
  rw [e1,e2,Bool.or_false]) (by rw [h1]; simpa using h2) ⟨.str ⟨#[c]⟩,H,I.tok _,⟨_,rfl⟩,q⟩) hs
theorem zgV (its:List Value) (n j:Nat) (u:Value):Obj.mapSeq (·.setIfInBounds j u) { cls:=.type "list",data:=.seq its.toArray n } = { cls:=.type "list",data:=.seq (its.set j u).toArray n }:=by
 simp [Obj.mapSeq]
theorem Inv.lst {zp:List (Addr × Obj)}{σ:St}{H:Hp}{s:Shared}{p:Addr}{xs:List V} (I:Inv X zp σ H s) (h:H p = some (.lst xs)):
  ∃ (its:List Value) (n:Nat),Vals xs its/\s.heap.get? p = some { cls:=.type "list",data:=.seq its.toArray n }/\xs.length<=sizeLine:=by
 obtain ⟨z,its,n,r,e⟩:=I.hok p _ h
 exact ⟨its,n,r,e,z⟩
theorem Inv.lstUpd {zp:List (Addr × Obj)}{σ:St}{H:Hp}{s:Shared}{p:Addr}{xs ys:List V}{its its':List Value}{n n':Nat}{f:Obj->Obj} (I:Inv X zp σ H s) (h:H p = some (.lst xs))
  (ho:s.heap.get? p = some { cls:=.type "list",data:=.seq its.toArray n }) (hf:f { cls:=.type "list",data:=.seq its.toArray n } = { cls:=.type "list",data:=.seq its'.toArray n' }) (r:Vals ys its') (hz:ys.length<=sizeLine) (t:Nat):
  Inv X zp σ (upd H p (.lst ys)) { s with heap:=s.heap.update p f,toks:=t }:=by
 have e:(s.heap.update p f).get? p = some { cls:=.type "list",data:=.seq its'.toArray n' }:=by
  rw [Heap.get?_update_self f ho (by rw [hf] <;> rfl),hf]
 refine I.write (x:=p) (e:=p) (by rw [h]; trivial) (.inl rfl) (fun b u hb q=>(Heap.get?_update_other _ _ (Ne.symm hb)).trans q) ⟨_,e⟩ ?_
 exact ⟨hz,its',n',r,e⟩
def znG:V->V->V->Hp->(Hp->Prop)->Prop:=fun o i v H Q=>∃ p xs k j,o = .ref p/\i = .int k/\H p = some (.lst xs)/\ixN xs.length k = some j/\Q (upd H p (.lst (xs.set j v)))
theorem zbq:PSet X znG:=by
 intro zp s σ H o i v ov iv u Q I ro ri rv h
 obtain ⟨p,xs,k,j,rfl,rfl,hp,hj,q⟩:=h
 cases ro
 obtain ⟨t,rfl⟩:=ri
 obtain ⟨its,n,r,ho,hz⟩:=I.lst hp
 obtain ⟨h1,h2,h3,h4⟩:=zhO hj
 have hl:=r.length
 have hn:=zer
 have I':Inv X zp σ (upd H p (.lst (xs.set j v))) { s with heap:=s.heap.update p (Obj.mapSeq (·.setIfInBounds j u)) }:=
  I.lstUpd hp ho (zgV its n j u) (r.set rv j) (by rw [List.length_set]; exact hz) s.toks
 by_cases h0:0<=k
 ·have hk:k.toNat = j:=by
   rw [seqIndex_of h0 h4] at h1
   exact Option.some.inj h1
  exact PySem.W.ki_setAt ho h0 (by omega) (by rw [List.size_toArray,← hl]; exact h4) (by rw [hk]; exact ⟨_,I',q⟩)
 ·have hk:(k + (its.toArray.size:Int)).toNat = j:=by
   rw [seqIndex_neg (by omega) h3] at h1
   rw [List.size_toArray,← hl]
   exact Option.some.inj h1
  exact PySem.W.ki_setBack ho (by omega) (by rw [List.size_toArray,← hl]; exact h3) (by omega) (by rw [hk]; exact ⟨_,I',q⟩)
theorem zeD (lo hi:Option Int) (n:Nat):(sliceBounds lo hi none n).1 = ((HT.sIx n 0 lo:Nat):Int)/\(sliceBounds lo hi none n).2.1 = ((HT.sIx n n hi:Nat):Int)/\(sliceBounds lo hi none n).2.2 = 1:=by
 refine ⟨?_,?_,rfl⟩
 ·cases lo with
  | none=>simp [sliceBounds,HT.sIx]
  | some i=>
   simp only [sliceBounds,HT.sIx,Option.getD_none,show (1:Int) > 0 by decide,if_true]
   by_cases h:i < 0
   ·simp only [h,if_true] <;> omega
   ·simp only [h,if_false] <;> omega
 ·cases hi with
  | none=>simp [sliceBounds,HT.sIx]
  | some i=>
   simp only [sliceBounds,HT.sIx,Option.getD_none,show (1:Int) > 0 by decide,if_true]
   by_cases h:i < 0
   ·simp only [h,if_true] <;> omega
   ·simp only [h,if_false] <;> omega
theorem zdK (its:List Value) (lo hi:Option Int):slicePick its.toArray lo hi none = ((its.drop (HT.sIx its.length 0 lo)).take (HT.sIx its.length its.length hi - HT.sIx its.length 0 lo)).toArray:=by
 obtain ⟨h1,h2,h3⟩:=zeD lo hi its.toArray.size
 unfold slicePick
 rw [h1,h2,h3]
 simp only [sliceRange_one,pick_run,List.size_toArray] <;> rfl
def rSlL (K:PySem.W.Frag):V->Option Int->Option Int->Hp->VK->Prop:=fun x lo hi H Q=>∃ a xs,x = .ref a/\SqL K H a xs/\∀ p,H p = none->Q (.ref p) (upd H p (.lst (cutV xs lo hi)))
theorem zfr:SlR X (rSlL X.K):=by
 intro zp s σ H x v vl vu lo hi sl Q I rx hs pl pu h
 obtain ⟨a,xs,rfl,hx,q⟩:=h
 cases rx
 obtain ⟨its,r,ht,hz⟩:=I.list hx
 have hlen:=r.length
 refine ⟨"list",_,slot_list_getitem.lookup,ht.isList.typeIs,?_⟩
 refine wpAny_getItem_list_slice ht.isList hs pl pu .none (by simp) ?_ (by rw [List.size_toArray] <;> omega)
 rw [zdK,← hlen]
 refine ⟨.ref s.heap.objs.size,_,I.laid (t':=s.toks) (o:=.lst (cutV xs lo hi)) (fun b ob q=>Heap.get?_push_of_some _ q) (Nat.le_refl _) ?_,rfl,q _ (I.hok.fresh (Nat.le_refl _))⟩
 exact ⟨Nat.le_trans (zcx xs lo hi) hz,_,0,(r.drop (HT.sIx xs.length 0 lo)).take (HT.sIx xs.length xs.length hi - HT.sIx xs.length 0 lo),Heap.get?_push_size _ rfl⟩
def zeE:V->Bool
 | .non=>true
 | .bl _=>true
 | .int _=>true
 | .str _=>true
 | _=>false
def eqV:V->V->Bool
 | .non,.non=>true
 | .bl a,.bl b=>a == b
 | .bl a,.int b=>(if a then 1 else 0) == b
 | .int a,.bl b=>a == (if b then 1 else 0)
 | .int a,.int b=>a == b
 | .str a,.str b=>a == b
 | _,_=>false
theorem zmF {A:Around}{s:Shared}{y x:V}{u v:Value} (ry:RelV y u) (rx:RelV x v) (fy:zeE y = true) (fx:zeE x = true):SeqAt.EqAt A s u v (eqV y x):=by
 cases y with
 | non=>
  cases ry
  cases x with
  | non=>cases rx; exact SeqAt.EqAt.same _
  | bl b=>cases rx; exact SeqAt.EqAt.none_bool b
  | int b=>obtain ⟨t,rfl⟩:=rx; exact SeqAt.EqAt.none_int b t
  | str b=>obtain ⟨t,rfl⟩:=rx; exact SeqAt.EqAt.none_str b t
  | _=>exact absurd (show false = true from fx) Bool.false_ne_true
 | bl a=>
  cases ry
  cases x with
  | non=>cases rx; exact SeqAt.EqAt.bool_none a
  | bl b=>cases rx; exact SeqAt.EqAt.bool_bool a b
  | int b=>obtain ⟨t,rfl⟩:=rx; exact SeqAt.EqAt.bool_int a b t
  | str b=>obtain ⟨t,rfl⟩:=rx; exact SeqAt.EqAt.bool_str a b t
  | _=>exact absurd (show false = true from fx) Bool.false_ne_true
 | int a=>
  obtain ⟨t',rfl⟩:=ry
  cases x with
  | non=>cases rx; exact SeqAt.EqAt.int_none a t'
  | bl b=>cases rx; exact SeqAt.EqAt.int_bool a t' b
  | int b=>obtain ⟨t,rfl⟩:=rx; exact SeqAt.EqAt.int_int a t' b t
  | str b=>obtain ⟨t,rfl⟩:=rx; exact SeqAt.EqAt.int_str a t' b t
  | _=>exact absurd (show false = true from fx) Bool.false_ne_true
 | str a=>
  obtain ⟨t',rfl⟩:=ry
  cases x with
  | non=>cases rx; exact SeqAt.EqAt.str_none a t'
  | bl b=>cases rx; exact SeqAt.EqAt.str_bool a t' b
  | int b=>obtain ⟨t,rfl⟩:=rx; exact SeqAt.EqAt.str_int a t' b t
  | str b=>obtain ⟨t,rfl⟩:=rx; exact SeqAt.EqAt.str_str a t' b t
  | _=>exact absurd (show false = true from fx) Bool.false_ne_true
 | _=>exact absurd (show false = true from fy) Bool.false_ne_true
def eqU (x:V) (u:Value):Bool:=match u with
 | .none=>eqV .non x
 | .bool b=>eqV (.bl b) x
 | .int i _=>eqV (.int i) x
 | .str z _=>eqV (.str z) x
 | _=>false
theorem zkE {x y:V}{u:Value} (r:RelV y u) (f:zeE y = true):eqU x u = eqV y x:=by
 cases y with
 | non=>cases r; rfl
 | bl b=>cases r; rfl
 | int i=>obtain ⟨t,rfl⟩:=r; rfl
 | str z=>obtain ⟨t,rfl⟩:=r; rfl
 | _=>exact absurd (show false = true from f) Bool.false_ne_true
theorem zcz {x:V}:∀ {xs:List V}{us:List Value},Vals xs us->xs.all zeE = true->us.any (eqU x) = xs.any fun y=>eqV y x
 | _,_,.nil,_=>rfl
 | y :: xs,u :: us,.cons r t,f=>by
  rw [List.all_cons,Bool.and_eq_true] at f
  rw [List.any_cons,List.any_cons,zkE r f.1,zcz t f.2]
theorem zbr {A:Around}{s:Shared}{x:V}{v:Value} (rx:RelV x v) (fx:zeE x = true):∀ {xs:List V}{us:List Value},Vals xs us->xs.all zeE = true->∀ u∈us,SeqAt.EqAt A s u v (eqU x u)
 | _,_,.nil,_=>fun u hu=>by cases hu
 | y :: xs,u :: us,.cons r t,f=>fun u' hu=>by
  rw [List.all_cons,Bool.and_eq_true] at f
  rcases List.mem_cons.mp hu with rfl | hu
  ·rw [zkE r f.1]; exact zmF r rx f.1 fx
  ·exact zbr rx fx t f.2 u' hu
def inV (x:V) (xs:List V):Bool:=xs.any fun y=>eqV y x
def rIn (K:PySem.W.Frag) (neg:Bool):R2:=fun x y H Q=>∃ p xs,y = .ref p/\(SqL K H p xs\/SqT K H p xs)/\zeE x = true/\xs.all zeE = true/\Q (.bl (if neg then !inV x xs else inV x xs)) H
theorem zah:OpR X (compareOp .In) (rIn X.K false):=by
 intro zp s σ H x y v u Q I rx ry h
 obtain ⟨p,xs,rfl,hq,fx,fs,q⟩:=h
 cases ry
 rcases hq with hq | hq
 ·obtain ⟨its,r,pl,hz⟩:=I.list hq
  refine SeqAt.in_listAt (eqU x) pl.isList (fun w hw=>zbr rx fx r fs w (by simpa using hw)) ⟨.bl _,H,I,rfl,?_⟩
  rw [show its.toArray.any (eqU x) = its.any (eqU x) by simp,zcz r fs]
  exact q
 ·obtain ⟨its,r,pl,hz⟩:=I.tuple hq
  refine SeqAt.in_tupleAt (eqU x) pl (fun w hw=>zbr rx fx r fs w (by simpa using hw)) ⟨.bl _,H,I,rfl,?_⟩
  rw [show its.toArray.any (eqU x) = its.any (eqU x) by simp,zcz r fs]
  exact q
theorem zeF:OpR X (compareOp .NotIn) (rIn X.K true):=by
 intro zp s σ H x y v u Q I rx ry h
 obtain ⟨p,xs,rfl,hq,fx,fs,q⟩:=h
 cases ry
 rcases hq with hq | hq
 ·obtain ⟨its,r,pl,hz⟩:=I.list hq
  refine SeqAt.notIn_listAt (eqU x) pl.isList (fun w hw=>zbr rx fx r fs w (by simpa using hw)) ⟨.bl _,H,I,rfl,?_⟩
  rw [show its.toArray.any (eqU x) = its.any (eqU x) by simp,zcz r fs]
  exact q
 ·obtain ⟨its,r,pl,hz⟩:=I.tuple hq
  refine SeqAt.notIn_tupleAt (eqU x) pl (fun w hw=>zbr rx fx r fs w (by simpa using hw)) ⟨.bl _,H,I,rfl,?_⟩
  rw [show its.toArray.any (eqU x) = its.any (eqU x) by simp,zcz r fs]
  exact q
theorem Zr:zaE X (.type "list") (fun xs H Q=>∃ p ys,xs = [.ref p]/\(SqL X.K H p ys\/SqT X.K H p ys)/\∀ l,H l = none->Q (.ref l) (upd H l (.lst ys))):=by
 intro zp s σ H xs us Q I r h
 obtain ⟨p,ys,rfl,hq,q⟩:=h
 obtain ⟨u,rfl,rx⟩:=zbI r
 cases rx
 have fin:∀ (its:List Value),Vals ys its->ys.length<=sizeLine->∀ (h':Heap) (c':Nat),(∀ b o',s.heap.get? b = some o'->h'.get? b = some o')->
   h'.get? s.heap.objs.size = some { cls:=.type "list",dict:=none,data:=.seq its.toArray c',slots:=#[] }->EP X zp σ Q (.ref s.heap.objs.size) { s with heap:=h' }:=fun its r' hz h' c' kp e=>
  ⟨.ref s.heap.objs.size,_,I.laid (t':=s.toks) kp (Nat.le_refl _) (show Zg X.prog X.w _ h' _ (.lst ys) from ⟨hz,its,c',r',e⟩),rfl,q _ (I.hok.fresh (Nat.le_refl _))⟩
 rcases hq with hq | hq
 ·obtain ⟨its,r',pl,hz⟩:=I.list hq
  have hlen:=r'.length
  obtain ⟨o,ho,hc,n,hd⟩:=pl.isList
  exact call_list_seq p (.inl rfl) ho hc hd (fun h' c' kp e=>fin its r' hz h' c' kp e) (by simp only [List.size_toArray] <;> omega)
 ·obtain ⟨its,r',pl,hz⟩:=I.tuple hq
  have hlen:=r'.length
  obtain ⟨o,ho,hc,n,hd⟩:=pl
  exact call_list_seq p (.inr rfl) ho hc hd (fun h' c' kp e=>fin its r' hz h' c' kp e) (by simp only [List.size_toArray] <;> omega)
theorem zN:zaE X (.type "tuple") (fun xs H Q=>∃ p ys,xs = [.ref p]/\((SqL X.K H p ys/\∀ l,H l = none->Q (.ref l) (upd H l (.tup ys)))\/(SqT X.K H p ys/\Q (.ref p) H))):=by
 intro zp s σ H xs us Q I r h
 obtain ⟨p,ys,rfl,h⟩:=h
 obtain ⟨u,rfl,rx⟩:=zbI r
 cases rx
 rcases h with ⟨hq,q⟩ | ⟨hq,q⟩
 ·obtain ⟨its,r',pl,hz⟩:=I.list hq
  have hlen:=r'.length
  refine call_tuple_list pl.isList (fun h' kp=>?_) (by simp only [List.size_toArray] <;> omega)
  have I1:Inv X zp σ H { s with heap:=h' }:=I.kept (t':=s.toks) kp
  have I2:Inv X zp σ (upd H h'.objs.size (.tup ys)) { s with heap:=h'.push { cls:=.type "tuple",data:=.seq its.toArray } }:=
   I1.laid (t':=s.toks) (fun b o e=>Heap.get?_push_of_some _ e) (Nat.le_refl _) (show Zg X.prog X.w _ _ _ (.tup ys) from ⟨hz,its,r',IsTup.new _ _⟩)
  exact ⟨.ref h'.objs.size,_,I2,rfl,q _ (I1.hok.fresh (Nat.le_refl _))⟩
 ·obtain ⟨its,r',pl,hz⟩:=I.tuple hq
  exact call_tuple_same pl ⟨.ref p,H,I,rfl,q⟩
def tyV (K:PySem.W.Frag) (T:String) (x:V) (H:Hp):Prop:=match x with
 | .str _=>T = "str"
 | .int _=>T = "int"
 | .ref p=>(T = "list"/\∃ xs,SqL K H p xs)\/(T = "tuple"/\∃ o,K.lookup p = some o/\o.cls = .type "tuple"/\o.dict = none) \/
   (T = "dict"/\((∃ kvs,H p = some (.dK kvs))\/∃ kvs,H p = some (.dT kvs)))\/(T = "set"/\∃ S n,H p = some (.set S n))
 | _=>False
theorem zkF {zp:List (Addr × Obj)}{σ:St}{H:Hp}{s:Shared}{T:String}{x:V}{v:Value} (I:Inv X zp σ H s) (r:RelV x v) (ty:tyV X.K T x H):
  s.TypeIs v T/\∀ a,v = .ref a->∃ ob,s.heap.get? a = some ob/\ob.dict = none:=by
 cases x with
 | str z=>
  obtain ⟨t,rfl⟩:=r
  cases (show T = "str" from ty)
  exact ⟨typeIs_str s z t,fun _ e=>nomatch e⟩
 | int i=>
  obtain ⟨t,rfl⟩:=r
  cases (show T = "int" from ty)
  exact ⟨typeIs_int s i t,fun _ e=>nomatch e⟩
 | ref p=>
  cases r
  rcases ty with ⟨rfl,xs,hq⟩ | ⟨rfl,o,hk,hc,hd⟩ | ⟨rfl,hk⟩ | ⟨rfl,S,n,hk⟩
  ·obtain ⟨its,_,pl,_⟩:=I.list hq
   refine ⟨pl.isList.typeIs,fun a e=>?_⟩
   cases e
   obtain ⟨o,n,e,c,hd,_⟩:=pl
   exact ⟨o,e,hd⟩
  ·refine ⟨⟨o,I.kIn p o hk,hc⟩,fun a e=>?_⟩
   cases e
   exact ⟨o,I.kIn _ o hk,hd⟩
  ·have z:∃ o,s.heap.get? p = some o/\o.ExactDict:=by
    rcases hk with ⟨kvs,hk⟩ | ⟨kvs,hk⟩
    ·obtain ⟨_,_,_,_,o,_,_,e,ex,_⟩:=I.hok p _ hk
     exact ⟨o,e,ex⟩
    ·obtain ⟨_,_,_,_,o,_,_,e,ex,_⟩:=I.hok p _ hk
     exact ⟨o,e,ex⟩
   obtain ⟨o,e,ex⟩:=z
   refine ⟨⟨o,e,ex.1⟩,fun a e2=>?_⟩
   cases e2
   exact ⟨o,e,ex.2.1⟩
  ·obtain ⟨o,_,_,_,e,ex,_⟩:=I.hok p _ hk
   refine ⟨⟨o,e,ex.1⟩,fun a e2=>?_⟩
   cases e2
   exact ⟨o,e,ex.2.1⟩
 | _=>exact False.elim ty
def tBM0 (K:PySem.W.Frag) (T:String) (r:V->List V->Hp->VK->Prop) (to:TE):TE:=fun σ H Q=>to σ H fun x H1=>tyV K T x H1/\r x [] H1 Q
def tBM (K:PySem.W.Frag) (T:String) (r:V->List V->Hp->VK->Prop) (to:TE) (t:TA):TE:=fun σ H Q=>to σ H fun x H1=>tyV K T x H1/\t σ H1 fun xs H2=>r x xs H2 Q
variable {o e:Expr}{es:List Expr}{to:TE}{t:TA}{name:Str}{apos cpos:Pos}{T id:String}{r:V->List V->Hp->VK->Prop}
theorem zmG (pa:PlainAttrs T) (slot:Slot T name id) (hty:typeOf (.builtin id) = pure (.type "method_descriptor")) (hm:MtR X id r) (ho:PE X o to)
  (hbase:attributeBase o name X.env (eval o X.env) = eval o X.env:=by rfl) (hline:(apos.endLine == cpos.line) = true:=by rfl):PE X (.Call (.Attribute o name apos) [] [] cpos) (tBM0 X.K T r to):=by
 intro zp s σ H Q I h
 refine wpAny_Call_method0_late hbase hline (thn (ho zp s σ H _ I h) fun v s1 ⟨x,H1,I1,r1,ty,q1⟩=>?_)
 obtain ⟨h1,h2⟩:=zkF I1 r1 ty
 exact ⟨T,id,pa,slot,hty,h1,h2,Calls.callWith_builtin rfl (PySem.evalArgs_none (hm zp s1 σ H1 x [] v [] Q I1 r1 .nil q1))⟩
theorem zb8 (pa:PlainAttrs T) (slot:Slot T name id) (hty:typeOf (.builtin id) = pure (.type "method_descriptor")) (hm:MtR X id r) (ho:PE X o to) (ha:PA X (e :: es) t)
  (hbase:attributeBase o name X.env (eval o X.env) = eval o X.env:=by rfl)
  (hfew:((backTo cpos (starEach (e :: es) X.env)).all (fun x=>!x.1) && (backToKw cpos (keywordEach [] X.env)).all (fun x=>x.1.isSome)
   && decide ((e :: es).length + ([]:List Keyword).length + (if ([]:List Keyword).isEmpty then 0 else 1) < 30)) = true:=by rfl)
  (hline:(apos.endLine == cpos.line) = true:=by rfl) (hs:starEach (e :: es) X.env = (false,eval e X.env) :: starEach es X.env:=by rfl) (hplain:(backTo cpos (starEach es X.env)).any (·.1) = false:=by rfl):
  PE X (.Call (.Attribute o name apos) (e :: es) [] cpos) (tBM X.K T r to t):=by
 intro zp s σ H Q I h
 refine wpAny_Call_method_late hbase hfew hline rfl (thn (ho zp s σ H _ I h) fun v s1 ⟨x,H1,I1,r1,ty,q1⟩=>?_)
 obtain ⟨h1,h2⟩:=zkF I1 r1 ty
 refine ⟨T,id,pa,slot,hty,h1,h2,?_⟩
 have hA:=ha cpos zp s1 σ H1 _ I1 q1
 rw [hs] at hA ⊢
 refine Calls.callWith_builtin (by show (false || (backTo cpos (starEach es X.env)).any (·.1)) = false; rw [hplain] <;> rfl) (Calls.evalArgs_plain ?_)
 exact thn hA fun us s2 ⟨vs,H2,I2,r2,q2⟩=>hm zp s2 σ H2 x vs v us Q I2 r1 r2 q2
end
def MtM (X:Cx) (id:String) (r:V->List V->Hp->VK->Prop):Prop:=
 ∀ (zp:List (Addr × Obj)) (s:Shared) (σ:St) (H:Hp) (x:V) (xs:List V) (v:Value) (us:List Value) (Q:VK),Inv X zp σ H s->RelV x v->Vals xs us->r x xs H Q->
  wpAny (model X.prog X.w) X.A (call (.builtin id) (v :: us)) (EP X zp σ Q) X.xe s
theorem Vals.one:∀ {x:V}{us:List Value},Vals [x] us->∃ u,us = [u]/\RelV x u
 | _,_,.cons r .nil=>⟨_,rfl,r⟩
theorem Vals.zero:∀ {us:List Value},Vals [] us->us = []
 | _,.nil=>rfl
theorem Vals.dropLast {xs:List V}{us:List Value} (h:Vals xs us):Vals xs.dropLast us.dropLast:=by
 induction h with
 | nil=>exact .nil
 | cons r t ih=>
  cases t with
  | nil=>exact .nil
  | cons q t'=>exact .cons r ih
theorem Vals.rep {xs:List V}{us:List Value} (h:Vals xs us):∀ k:Nat,Vals (List.replicate k xs).flatten (List.replicate k us).flatten
 | 0=>.nil
 | k + 1=>by
  rw [List.replicate_succ,List.replicate_succ,List.flatten_cons,List.flatten_cons]
  exact Vals.append h (Vals.rep h k)
theorem zgW {α:Type} (l:List α):l.eraseIdx (l.length - 1) = l.dropLast:=by
 induction l with
 | nil=>rfl
 | cons a r ih=>
  cases r with
  | nil=>rfl
  | cons b r=>
   have e:(a :: b :: r).length - 1 = ((b :: r).length - 1) + 1:=by
    have h1:(a :: b :: r).length = r.length + 2:=rfl
    have h2:(b :: r).length = r.length + 1:=rfl
    omega
   rw [e,List.eraseIdx_cons_succ,ih]
   all_goals rfl
theorem zeG (its:List Value):∀ (k:Nat) (acc:List Value),
  List.foldl (fun x1 x2=>x1 ++ x2) acc.toArray (List.replicate k its.toArray) = (acc ++ (List.replicate k its).flatten).toArray
 | 0,acc=>by simp
 | k + 1,acc=>by
  have e:acc.toArray ++ its.toArray = (acc ++ its).toArray:=by simp
  have e2:(acc ++ its) ++ (List.replicate k its).flatten = acc ++ (List.replicate (k + 1) its).flatten:=by
   rw [List.replicate_succ,List.flatten_cons,List.append_assoc]
  rw [← e2,← zeG its k (acc ++ its),← e,List.replicate_succ,List.foldl_cons]
section
variable {X:Cx}{zp:List (Addr × Obj)}{σ:St}{H:Hp}{s:Shared}{l b:Addr}{xs ys zs:List V}
theorem Inv.lset {its its':List Value}{n:Nat}{f:Array Value->Array Value}{t':Nat} (I:Inv X zp σ H s) (hH:H l = some (.lst xs))
  (e:s.heap.get? l = some { cls:=.type "list",data:=.seq its.toArray n }) (hf:f its.toArray = its'.toArray) (hv:Vals ys its') (hz:ys.length<=sizeLine):
  Inv X zp σ (upd H l (.lst ys)) { s with heap:=s.heap.update l (Obj.mapSeq f),toks:=t' }:=by
 have q:=PySem.IsL.update e f
 rw [hf] at q
 refine I.write (x:=l) (e:=l) (by rw [hH]; exact trivial) (.inl rfl) (fun b' u hb hu=>(Heap.get?_update_other s.heap (Obj.mapSeq f) (Ne.symm hb)).trans hu) ⟨_,q⟩ ?_
 exact ⟨hz,its',_,hv,q⟩
theorem Inv.lnew {its:List Value}{t':Nat} (I:Inv X zp σ H s) (hv:Vals ys its) (hz:ys.length<=sizeLine):
  Inv X zp σ (upd H s.heap.objs.size (.lst ys)) { s with heap:=s.heap.push { cls:=.type "list",data:=.seq its.toArray },toks:=t' }:=
 I.laid (fun _ _ q=>Heap.get?_push_of_some _ q) (Nat.le_refl _) ⟨hz,its,0,hv,Heap.get?_push_size _ rfl⟩
theorem Inv.fresh (I:Inv X zp σ H s):H s.heap.objs.size = none:=I.hok.fresh (Nat.le_refl _)
theorem Inv.lstM (I:Inv X zp σ H s) (hH:H l = some (.lst xs)):xs.length<=sizeLine/\∃ (its:List Value) (n:Nat),Vals xs its/\xs.length = its.length/\s.heap.get? l = some { cls:=.type "list",data:=.seq its.toArray n }:=by
 obtain ⟨z,its,n,r,e⟩:=I.hok l _ hH
 exact ⟨z,its,n,r,r.length,e⟩
theorem zgf {n:Nat} (h:n<=sizeLine):Builtin.List.listTooLong n = false:=by
 unfold Builtin.List.listTooLong
 exact decide_eq_false (by omega)
end
section
variable {X:Cx}
def zll:V->List V->Hp->VK->Prop:=fun x vs H Q=>∃ l xs y,x = .ref l/\vs = [y]/\H l = some (.lst xs)/\xs.length < sizeLine/\Q .non (upd H l (.lst (xs ++ [y])))
theorem zai:MtM X "list.append" zll:=by
 intro zp s σ H x vs v us Q I rx rv h
 obtain ⟨l,xs,y,rfl,rfl,hH,hz,q⟩:=h
 cases rx
 obtain ⟨u,rfl,ru⟩:=rv.one
 obtain ⟨z,its,n,r,hl,e⟩:=I.lstM hH
 refine call_meets F.slot_list_append ⟨_,e,rfl⟩ F.entry_list_append (F.args_list_append_2 _ _) (PySem.list_append l its.toArray n u (by rw [List.size_toArray]; omega)) ⟨e,?_⟩
 refine ⟨.non,_,I.lset (its':=its ++ [u]) hH e (by simp) (r.append (.cons ru .nil)) ?_,rfl,q⟩
 rw [List.length_append,List.length_singleton]
 omega
def zlm:V->List V->Hp->VK->Prop:=fun x vs H Q=>∃ l b xs zs,x = .ref l/\vs = [.ref b]/\H l = some (.lst xs)/\H b = some (.lst zs)/\xs.length + zs.length<=sizeLine/\Q .non (upd H l (.lst (xs ++ zs)))
theorem zhQ:MtM X "list.extend" zlm:=by
 intro zp s σ H x vs v us Q I rx rv h
 obtain ⟨l,b,xs,zs,rfl,rfl,hH,hB,hz,q⟩:=h
 cases rx
 obtain ⟨u,rfl,ru⟩:=rv.one
 cases ru
 obtain ⟨z,its,n,r,hl,e⟩:=I.lstM hH
 obtain ⟨z2,its2,n2,r2,hl2,e2⟩:=I.lstM hB
 have hsz:its.toArray.size + its2.toArray.size<=sizeLine:=by rw [List.size_toArray,List.size_toArray]; omega
 have hlong:¬ (!its.toArray.isEmpty && Builtin.List.listTooLong (its.toArray.size + its2.toArray.size)) = true:=by
  rw [zgf hsz,Bool.and_false]
  exact Bool.false_ne_true
 refine call_meets F.slot_list_extend ⟨_,e,rfl⟩ F.entry_list_extend (F.args_list_extend_2 _ _)
  (AutoSeq1.list_extend_list_list_0 l its.toArray n b its2.toArray n2 hlong (by rw [List.size_toArray]; omega) (by omega)) ⟨e,e2,?_⟩
 refine ⟨.non,_,I.lset (its':=its ++ its2) hH e (by simp) (r.append r2) ?_,rfl,q⟩
 rw [List.length_append]
 omega
def rPop:V->List V->Hp->VK->Prop:=fun x vs H Q=>∃ l xs y,x = .ref l/\vs = []/\H l = some (.lst xs)/\xs[xs.length - 1]? = some y/\Q y (upd H l (.lst xs.dropLast))
theorem zmH:MtM X "list.pop" rPop:=by
 intro zp s σ H x vs v us Q I rx rv h
 obtain ⟨l,xs,y,rfl,rfl,hH,hy,q⟩:=h
 cases rx
 have hus:=rv.zero
 subst hus
 obtain ⟨z,its,n,r,hl,e⟩:=I.lstM hH
 obtain ⟨u,hu,ru⟩:=r.get hy
 have hy':its.toArray[its.toArray.size - 1]? = some u:=by
  show its.toArray[its.length - 1]? = some u
  rw [← Array.getElem?_toList,← hl]
  exact hu
 refine call_meets F.slot_list_pop ⟨_,e,rfl⟩ F.entry_list_pop (F.args_list_pop_1 _) (MeetsSeq.list_pop_last l its.toArray n u hy' (by rw [List.size_toArray]; omega)) ⟨e,?_⟩
 refine ⟨y,_,I.lset (its':=its.dropLast) hH e ?_ r.dropLast ?_,ru,q⟩
 ·show its.toArray.eraseIdxIfInBounds (its.toArray.size - 1) = its.dropLast.toArray
  rw [List.size_toArray,List.eraseIdxIfInBounds_toArray,zgW]
 ·rw [List.length_dropLast]
  omega
def rCat:R2:=fun x y H Q=>∃ l b xs zs,x = .ref l/\y = .ref b/\H l = some (.lst xs)/\H b = some (.lst zs)/\xs.length + zs.length<=sizeLine/\∀ p,H p = none->Q (.ref p) (upd H p (.lst (xs ++ zs)))
theorem zeH:OpR X (binaryOp .Add) rCat:=by
 intro zp s σ H x y v u Q I rx ry h
 obtain ⟨l,b,xs,zs,rfl,rfl,hH,hB,hz,q⟩:=h
 cases rx
 cases ry
 obtain ⟨z,its,n,r,hl,e⟩:=I.lstM hH
 obtain ⟨z2,its2,n2,r2,hl2,e2⟩:=I.lstM hB
 refine PySem.P.add_list e e2 ?_ (by rw [List.size_toArray,List.size_toArray]; omega)
 have ea:its.toArray ++ its2.toArray = (its ++ its2).toArray:=by simp
 rw [ea]
 exact ⟨.ref _,_,I.lnew (t':=s.toks) (r.append r2) (by rw [List.length_append]; omega),rfl,q _ I.fresh⟩
def rRep:R2:=fun x y H Q=>∃ l k xs,x = .ref l/\y = .int k/\H l = some (.lst xs)/\-(2 ^ 63)<=k/\k < 2 ^ 63/\xs.length * k.toNat<=sizeLine /\
 ∀ p,H p = none->Q (.ref p) (upd H p (.lst (List.replicate k.toNat xs).flatten))
theorem zln {α:Type} (xs:List α) (k:Nat):(List.replicate k xs).flatten.length = k * xs.length:=by
 induction k with
 | zero=>simp
 | succ k ih=>rw [List.replicate_succ,List.flatten_cons,List.length_append,ih,Nat.succ_mul,Nat.add_comm]
theorem zhR:OpR X (binaryOp .Mult) rRep:=by
 intro zp s σ H x y v u Q I rx ry h
 obtain ⟨l,k,xs,rfl,rfl,hH,h1,h2,hz,q⟩:=h
 cases rx
 obtain ⟨t,rfl⟩:=ry
 obtain ⟨z,its,n,r,hl,e⟩:=I.lstM hH
 have hlen:its.toArray.size * k.toNat<=sizeLine:=by rw [List.size_toArray,← hl]; exact hz
 have hcap:¬ its.toArray.size * k.toNat > (2 ^ 63 - 1) / 8:=by
  have:(sizeLine:Nat)<=(2 ^ 63 - 1) / 8:=by decide
  omega
 have hfit:¬ (!Builtin.List.listFitsIndex k) = true:=by
  rw [fitsIndex_both h1 h2]
  exact Bool.false_ne_true
 have hlong:¬ Builtin.List.listTooLong (its.toArray.size * k.toNat) = true:=by
  rw [zgf hlen]
  exact Bool.false_ne_true
 have hnew:List.foldl (fun x1 x2=>x1 ++ x2) #[] (List.replicate (if its.toArray.isEmpty = true then 0 else k.toNat) its.toArray) = (List.replicate k.toNat its).flatten.toArray:=by
  have f0:∀ m:Nat,List.foldl (fun x1 x2=>x1 ++ x2) #[] (List.replicate m its.toArray) = (List.replicate m its).flatten.toArray:=fun m=>by
   have:=zeG its m []
   rw [List.nil_append] at this
   exact this
  rw [f0]
  cases its with
  | nil=>simp
  | cons a r'=>rw [if_neg (by simp)]
 refine wpAny_binaryOp_repeat_ref (T:="list") (U:="int") (by decide) ⟨_,e,rfl⟩ (fun s'=>typeIs_int s' k t) noFill_list_mul F.fills_int_mul F.slot_int_rmul repeat_list F.slot_int_index.lookup
  (call_meets F.slot_int_rmul (typeIs_int s k t) F.entry_int_rmul (F.args_int_rmul_2 _ _) (int___rmul___int_list k t l its.toArray n)
   ⟨e,rfl,⟨_,e,rfl⟩,call_meets F.slot_list_mul ⟨_,e,rfl⟩ F.entry_list_mul (F.args_list_mul_2 _ _) (AutoListH.list___mul___list_int_3 l its.toArray n k t hfit hcap hlong) ⟨e,?_⟩⟩)
 rw [hnew]
 exact ⟨.ref _,_,I.lnew (t':=s.toks) (r.rep k.toNat) (by rw [zln,Nat.mul_comm]; exact hz),rfl,q _ I.fresh⟩
end
section
variable {prog:Program}{w:World}{A:Around}{E:Value->Shared->Prop}{s:Shared}
set_option maxRecDepth 100000 in
end
section
variable {X:Cx}
end
end L2
namespace Att
open PySem PySem.W PySem.Calls PyProof.Rows
theorem zcA {P:Params}{h:Heap}:∀ (ns:List Int) (vs:List Value),WellAll P h vs (ns.map WData.int)->IntsAre vs ns:=by
 intro ns
 induction ns with
 | nil=>
  intro vs w
  rw [List.map_nil] at w
  cases w
  exact .nil
 | cons n ns ih=>
  intro vs w
  rw [List.map_cons] at w
  cases w with
  | cons a b=>
   cases a
   exact .cons _ _ (ih _ b)
theorem zhS {l:OpenLaw}{n:Nat} (hn:l.most = some n) {P:Params}{h:Heap}{args:List WData}{vals:List Value}
  (hpre:l.row.toRowW.claim.pre args = true) (hwl:WellAll P h vals args):
  ∃ a vs ns,vals = [Value.ref a]/\args = [WData.list (ns.map WData.int)]/\h.get? a = some { cls:=.type "list",data:=.seq vs.toArray }/\IntsAre vs ns/\ns.length<=n:=by
 have hsh:WShape.hasAll [] args [.list .int] = true:=(pre_splitW hpre).1
 have hc:l.pre.holds [] { args:=args } = true:=(pre_splitW hpre).2
 obtain ⟨d,r,rfl,h1,h2⟩:=hasAllW_cons hsh
 obtain rfl:=hasAllW_nil h2
 obtain ⟨xs,rfl,h3⟩:=hasW_list h1
 obtain ⟨ns,rfl⟩:=items_int h3
 have hlen:ns.length<=n:=by
  unfold OpenLaw.pre at hc
  have h4:(WTm.not (.lt (.lit (.int (n:Int))) (.len (.arg 0)))).holds [] { args:=[.list (ns.map .int)] } = true:=by
   have h4:=(holds_andW hc).1
   rw [hn] at h4
   exact h4
  have h5:=condW_of h4 (w_not (w_lt w_lit (w_len_list (w_arg rfl))))
  rw [List.length_map] at h5
  refine Nat.le_of_not_lt fun q=>?_
  have q':(n:Int) < ((ns.length:Nat):Int):=by omega
  first
   | (rw [decide_eq_true q'] at h5; exact absurd h5 (by decide))
   | (simp at h5; omega)
 cases hwl with
 | cons w1 w2=>
  cases w2
  cases w1 with
  | list ho hall=>exact ⟨_,_,ns,rfl,rfl,ho,zcA ns _ hall,hlen⟩
theorem zhT (l:OpenLaw) (args:List WData):l.row.toRowW.claim.post args (.bool true) args = true:=
 postW_of (r:=l.row.toRowW) (X:=(true == true))
  (show WShape.has [] (.bool true) .bool = true by first | rfl | decide | simp [WShape.has,WShape.arms,WShape.armsAll])
  (show (WTm.eq .res (.lit (.bool true))).value [] { args:=args,res:=some (.bool true),after:=args } = some (.bool (true == true)) from w_eq_bool (w_res rfl) w_lit) rfl
theorem attach_call {l:OpenLaw}{n:Nat}{q:Program}{loose:List Str}{XP:(Str->Option Value)->Heap->Prop}{YP:World->Heap->Prop}{d:DefRec}
  (hn:l.most = some n) (hdf:d.params.defaults = [])
  (call:∀ (w:World) (s₀ s₁:Shared) (mg mb:Str->Option Value) (fa:Addr) (o:Obj) (pm cd doc:Value) (a:Addr) (vs:List Value) (ns:List Int),
   Ground q loose [] XP w s₀ mg mb s₁.heap->YP w s₁.heap->
   s₁.heap.get? fa = some o->o.data = .func (docDef d.name d.params d.body d.scope pm cd doc)->s₁.heap.CodeRec cd d.name->mg d.name = some (.ref fa)->
   s₁.heap.get? a = some { cls:=.type "list",data:=.seq vs.toArray }->IntsAre vs ns->ns.length<=n->s₁.gens = #[]->
   codeAny (model l.prog w) callerA (.call (.ref fa) ⟨[.ref a],[]⟩) (fun r s'=>r = .ok (.ret (.bool true))/\OldK s₁.heap s'.heap/\s'.os = s₁.os/\AllBare s'.gens) s₁):
  WalkO q loose XP YP l.row.toRowW d [] (fun f vs=>PySem.call f vs):=by
 intro w s₀ s₁ mg mb G Y fa o pm cd doc dV kV ho hd hcd hD hmg hg args vals as hpre hlay hrd hwl hlo
 obtain rfl:dV = .none:=Dflts.none hD hdf
 obtain rfl:kV = .none:=Dflts.noKw hD
 obtain ⟨a,vs,ns,rfl,rfl,hobj,hints,hlen⟩:=zhS hn hpre hwl
 refine enter_call (codeAny_mono (call w s₀ s₁ mg mb fa o pm cd doc a vs ns G Y ho (fd_plain hd) hcd hmg hobj hints hlen hg) fun r s' hq=>?_)
 obtain ⟨rfl,h2,h3,h4⟩:=hq
 exact ⟨.inl ⟨.bool true,.bool true,[],rfl,fun _=>rfl,.bool true,zhT l _,fun _=>⟨List.Pairwise.nil,fun _ hm=>(nomatch hm)⟩⟩,h2,h3,h4⟩
section
variable {prog:Program}{w:World}{A:Around}{E:Value->Shared->Prop}{s:Shared}{K:Frag}
def ledger (h:Heap) (L d:Addr):List (Addr × Obj):=(List.range h.objs.size).filterMap fun a=>if a = L\/a = d then none else (h.get? a).map fun o=>(a,o)
end
end Att
namespace L2
open PySem PySem.Spec PyProof.Rows
theorem zeI:∀ {vs:List Value}{ns:List Int},IntsAre vs ns->Vals (ns.map V.int) vs
 | _,_,.nil=>.nil
 | _,_,.cons n t h=>.cons ⟨t,rfl⟩ (zeI h)
def Only (H:Hp):Prop:=∀ b,H b = none\/∃ o xs,H b = some (.frz o (.lst xs))
theorem zjK {P:Program}{w:World}{K:PySem.W.Frag}{mg mb:Str->Option Value}{CX:CXT}{k:Nat}{fa a:Addr}{fd:FuncData}{x:Str}{sp:Sp}{s₁:Shared}{vs:List Value}{ns:List Int}
  (KX:K.In s₁.heap) (hns:s₁.heap.Ns mainGlobals mg) (hb:s₁.heap.Ns builtinsNs mb) (hbb:∀ x:Str,x≠"__name__"->mb x = bootBuiltins x) (hlim:s₁.heap.NoLimit) (hg:s₁.gens = #[])
  (ha:s₁.heap.get? a = some { cls:=.type "list",data:=.seq vs.toArray }) (hi:IntsAre vs ns) (hl:ns.length<=sizeLine) (hr:Room k callerA)
  (F:∀ base:Heap,K.In base->base.Ns mainGlobals mg->FnOk P w K mg base CX k fa fd [x] sp) (hbind:∀ (s:Shared) (u:Value),BindsTo s fd ⟨[u],[]⟩ [(x,u)])
  (hsp:∀ H:Hp,Only H->SqL K H a (ns.map V.int)->sp [.ref a] H (fun v _=>v = .bl true) fun _ _ _=>False)
  (hCX:∀ H e s',CX [] H s₁ (fun _ _ _=>False) e s'->False):
  codeAny (model P w) callerA (.call (.ref fa) ⟨[.ref a],[]⟩) (fun r s'=>r = .ok (.ret (.bool true))/\OldK s₁.heap s'.heap/\s'.os = s₁.os/\AllBare s'.gens) s₁:=by
 have rv:=zeI hi
 have lenV:=hi.length
 have core:∀ H:Hp,Only H->SqL K H a (ns.map V.int)->HOk P w H s₁.heap->(∀ b,H b≠none->b = a)->(H a≠none->K.lookup a = none)->
   codeAny (model P w) callerA (.call (.ref fa) ⟨[.ref a],[]⟩) (fun r s'=>r = .ok (.ret (.bool true))/\OldK s₁.heap s'.heap/\s'.os = s₁.os/\AllBare s'.gens) s₁:=by
  intro H hO hS hok hA hK
  have base_of:∀ {b:Addr}{o:Obj},s₁.heap.get? b = some o->H b = none->(hidT s₁.heap H).get? b = some o:=fun e n=>zjw e n
  have noA:∀ {b:Addr}{o:Obj}{es:Array DictEntry}{ep:Nat},s₁.heap.get? b = some o->o.data = .dict es ep->H b = none:=fun {b o es ep} e d=>by
   cases q:H b with
   | none=>rfl
   | some u=>
    have e':b = a:=hA b (by rw [q]; simp)
    subst e'
    rw [ha] at e; cases e
    have d':Data.seq vs.toArray _ = Data.dict es ep:=d
    cases d'
  have nsK:∀ {b:Addr}{m:Str->Option Value},s₁.heap.Ns b m->(hidT s₁.heap H).Ns b m:=fun {b m} ⟨o,es,ep,e,d,r⟩=>⟨o,es,ep,base_of e (noA e d),d,r⟩
  have hKb:K.In (hidT s₁.heap H):=fun b o e=>base_of (KX b o e) (by
   cases q:H b with
   | none=>rfl
   | some u=>
    have e':b = a:=hA b (by rw [q]; simp)
    subst e'
    rw [hK (by rw [q]; simp)] at e; cases e)
  have hM:Mod K mg (hidT s₁.heap H):=⟨hKb,nsK hns,⟨mb,nsK hb,hbb⟩,let ⟨mc,h1,h2⟩:=hlim; ⟨mc,nsK h1,h2⟩⟩
  have e0:Env0 P w K mg (hidT s₁.heap H) callerA [] s₁ H:=⟨rfl,hM,fun b o e=>zk6 e,Nat.le_of_eq (zhw _ _),trivial,fun b hb=>absurd (show b∈([]:List Addr) from hb) (by simp),hok,.of_eq hg⟩
  refine codeAny_mono ((F _ hKb (nsK hns)).run callerA [] s₁ H ⟨[.ref a],[]⟩ [.ref a] [.ref a] _ _ hr e0 (hbind s₁ (.ref a)) (.cons rfl .nil) (hsp H hO hS)) fun r s' h=>?_
  cases r with
  | error e=>exact (hCX H e s' h).elim
  | ok fl=>
   cases fl with
   | next=>exact False.elim h
   | brk=>exact False.elim h
   | cont=>exact False.elim h
   | ret u=>
    obtain ⟨v,H',os,bare,un,hok',r',q⟩:=h
    have q':v = .bl true:=q
    subst q'
    obtain rfl:u = Value.bool true:=r'
    refine ⟨rfl,OldK.of_keep fun b o e=>?_,os,bare⟩
    cases q:H b with
    | none=>exact un.keep b o e q (by intro z; exact absurd (show b∈([]:List Addr) from z) (by simp)) (by simp)
    | some u=>
     rcases hO b with z | ⟨ob,xs,z⟩
     ·rw [q] at z; cases z
     ·have z2:=un.frzs b ob _ z
      obtain ⟨e1,_⟩:=hok b _ z
      obtain ⟨e2,_⟩:=hok' b _ z2
      rw [e] at e1; cases e1
      exact e2
 cases hk:K.lookup a with
 | some o=>
  have e:=KX a o hk
  rw [ha] at e
  cases e
  refine core (fun _=>none) (fun _=>.inl rfl) (.inr ⟨_,vs.toArray,_,hk,rfl,rfl,rfl,by rw [List.size_toArray,lenV]; exact hl,by simpa using rv⟩) (fun b u z=>by have z':(none:Option HO) = some u:=z; cases z') (fun b z=>absurd rfl z) fun z=>absurd rfl z
 | none=>
  refine core (fun b=>if b = a then some (.frz { cls:=.type "list",data:=.seq vs.toArray } (.lst (ns.map V.int))) else none) (fun b=>?_) (.inl (.inr ⟨{ cls:=.type "list",data:=.seq vs.toArray },if_pos rfl⟩)) (fun b u z=>?_) (fun b z=>?_) fun _=>hk
  ·by_cases hb:b = a
   ·exact .inr ⟨_,_,if_pos hb⟩
   ·exact .inl (if_neg hb)
  ·by_cases hb:b = a
   ·have z':=(if_pos hb).symm.trans z
    cases z'
    subst hb
    exact ⟨ha,by rw [List.length_map]; exact hl,vs,_,rv,ha⟩
   ·have z':=(if_neg hb).symm.trans z
    cases z'
  ·by_cases hb:b = a
   ·exact hb
   ·exact absurd (if_neg hb) z
abbrev KOf {K:PySem.W.Frag}{h:Heap} (_:K.In h):PySem.W.Frag:=K
theorem zlo {l:PySem.W.OpenLaw}{n k:Nat}{q:Program}{loose:List Str}{XP:(Str->Option Value)->Heap->Prop}{YP:World->Heap->Prop}{d:DefRec}{K:Params->PySem.W.Frag}{CX:World->CXT}{sp:World->Sp}{x:Str}
  (hn:l.most = some n) (hn2:n<=sizeLine) (hdf:d.params.defaults = []) (hr:Room k callerA)
  (hY:∀ (w:World) (h:Heap),YP w h->(K w.params).In h)
  (F:∀ (w:World) (mg:Str->Option Value) (fa:Addr) (h:Heap),(K w.params).In h->h.Ns mainGlobals mg->mg d.name = some (.ref fa)->
   ∃ fd:FuncData,(∀ (s:Shared) (u:Value),BindsTo s fd ⟨[u],[]⟩ [(x,u)]) /\
    ∀ base:Heap,(K w.params).In base->base.Ns mainGlobals mg->FnOk l.prog w (K w.params) mg base (CX w) k fa fd [x] (sp w))
  (hsp:∀ (w:World) (H:Hp) (a:Addr) (ns:List Int),ns.length<=n->Only H->SqL (K w.params) H a (ns.map V.int)->sp w [.ref a] H (fun v _=>v = .bl true) fun _ _ _=>False)
  (hCX:∀ (w:World) (H:Hp) (s:Shared) (e:Value) (s':Shared),CX w [] H s (fun _ _ _=>False) e s'->False):
  PySem.W.WalkO q loose XP YP l.row.toRowW d [] (fun f vs=>PySem.call f vs):=by
 refine Att.attach_call hn hdf fun w s₀ s₁ mg mb fa o pm cd doc a vs ns G Y ho hd hcd hmg hobj hints hlen hg=>?_
 have KX:=hY w _ Y
 obtain ⟨fd,hb,hF⟩:=F w mg fa _ KX G.T.g hmg
 exact zjK KX G.T.g G.T.b G.T.builtins G.T.nolimit hg hobj hints (Nat.le_trans hlen hn2) hr hF hb (fun H hO hS=>hsp w H a ns hlen hO hS) fun H e s'=>hCX w H s₁ e s'
end L2
namespace L2
open PySem PySem.Spec PyProof.Rows
def zbK (s:Stmt) (j:Nat):Stmt:=match s with
 | .ClassDef _ _ _ body _ _ _ _ _ _ _=>body.getD j (.Pass ⟨0,0,0,0⟩)
 | _=>.Pass ⟨0,0,0,0⟩
def Zk (s:Stmt):Arguments:=match s with
 | .FunctionDef _ a _ _ _ _ _ _ _ _=>a
 | _=>{ posonlyargs:=[],args:=[],vararg:=none,kwonlyargs:=[],kw_defaults:=[],kwarg:=none,defaults:=[] }
def Zb (s:Stmt):List Stmt:=match s with
 | .FunctionDef _ _ b _ _ _ _ _ _ _=>b
 | _=>[]
def zn (s:Stmt):Scope:=match s with
 | .FunctionDef _ _ _ _ _ _ sc _ _ _=>sc
 | _=>{ kind:=.function,names:=[],isGenerator:=false,isCoroutine:=false }
abbrev CX0:CXT:=fun _ _ _ _ _ _=>False
abbrev E0:XK:=fun _ _ _=>False
theorem zgX {X:Cx}:Passes CX0 X E0:=fun _ _ _ _ _ _ _ h=>h.elim
structure Fun (K:PySem.W.Frag) (x qual:Str) (st:Stmt) (f:Addr) (fd:FuncData):Prop where
 ex:∃ (oc:Value) (od:Option Addr) (kV doc pm:Value) (an:Option Addr) (cdv ct:Value) (osl:Array (Option Value)),
  fd = fnOf x qual (Zk st) (Zb st) (zn st) .none kV doc pm an cdv ct/\K.lookup f = some ⟨oc,od,.func fd,osl⟩/\codeIn K cdv qual = true
 kp:keepIn K (.ref f) = true
section
variable {P:Program}{w:World}{K:PySem.W.Frag}{mg:Str->Option Value}{base:Heap}
theorem Fun.ok {x qual:Str}{st:Stmt}{f:Addr}{fd:FuncData}{N ps:List Str}{k:Nat}{sp:Sp} (F:Fun K x qual st f fd) (S:FnScope N ps (zn st)) (len:∀ vs H Q E,sp vs H Q E->vs.length = ps.length)
  (hbody:∀ (cdv:Value) (A:Around) (outer:List Env) (s:Shared) (H:Hp) (vs:List V) (Q:VK) (E:XK),Room k (A.deeper (envOfC qual (zn st) s.heap.objs.size f cdv))->sp vs H Q E->
   ∃ t,PSs (cxOf CX0 P w K mg base N qual (zn st) f cdv A outer s H E).nox (Zb st) t/\t { nx:=fun _ H'=>Q .non H',rt:=Q } (start N vs) H):FnOk P w K mg base CX0 (k + 1) f fd ps sp:=by
 obtain ⟨oc,od,kV,doc,pm,an,cdv,ct,osl,rfl,lk,hcd⟩:=F.ex
 refine znE lk hcd S len fun A outer s H vs Q E hr hsp=>?_
 obtain ⟨t,h,q⟩:=hbody cdv A outer s H vs Q E hr hsp
 exact ⟨t,h.nox,q⟩
theorem Fun.binds {x qual:Str}{st:Stmt}{f:Addr}{fd:FuncData}{ps:List Str} (F:Fun K x qual st f fd)
  (h:∀ (kV doc pm:Value) (an:Option Addr) (cdv ct:Value) (us:List Value),us.length = ps.length->bindArgs (fnOf x qual (Zk st) (Zb st) (zn st) .none kV doc pm an cdv ct) ⟨us,[]⟩ = pure (ps.zip us)):Binds K fd ps []:=by
 obtain ⟨oc,od,kV,doc,pm,an,cdv,ct,osl,rfl,lk,hcd⟩:=F.ex
 exact .all (h kV doc pm an cdv ct)
theorem us_1 {us:List Value} (h:us.length = 1):∃ x0,us = [x0]:=by
 match us,h with
 | [x0],_=>exact ⟨x0,rfl⟩
theorem us_2 {us:List Value} (h:us.length = 2):∃ x0 x1,us = [x0,x1]:=by
 match us,h with
 | [x0,x1],_=>exact ⟨x0,x1,rfl⟩
theorem us_3 {us:List Value} (h:us.length = 3):∃ x0 x1 x2,us = [x0,x1,x2]:=by
 match us,h with
 | [x0,x1,x2],_=>exact ⟨x0,x1,x2,rfl⟩
theorem us_4 {us:List Value} (h:us.length = 4):∃ x0 x1 x2 x3,us = [x0,x1,x2,x3]:=by
 match us,h with
 | [x0,x1,x2,x3],_=>exact ⟨x0,x1,x2,x3,rfl⟩
theorem us_5 {us:List Value} (h:us.length = 5):∃ x0 x1 x2 x3 x4,us = [x0,x1,x2,x3,x4]:=by
 match us,h with
 | [x0,x1,x2,x3,x4],_=>exact ⟨x0,x1,x2,x3,x4,rfl⟩
theorem us_6 {us:List Value} (h:us.length = 6):∃ x0 x1 x2 x3 x4 x5,us = [x0,x1,x2,x3,x4,x5]:=by
 match us,h with
 | [x0,x1,x2,x3,x4,x5],_=>exact ⟨x0,x1,x2,x3,x4,x5,rfl⟩
theorem Fun.b1 {x qual:Str}{st:Stmt}{f:Addr}{fd:FuncData}{z0:Str} (F:Fun K x qual st f fd) (h:∀ (kV doc pm:Value) (an:Option Addr) (cdv ct:Value) (x0:Value),bindArgs (fnOf x qual (Zk st) (Zb st) (zn st) .none kV doc pm an cdv ct) ⟨[x0],[]⟩ = pure ([z0].zip [x0])):Binds K fd [z0] []:=F.binds fun a b c d e g us hl=>by obtain ⟨x0,rfl⟩:=us_1 hl; exact h a b c d e g x0
theorem Fun.b2 {x qual:Str}{st:Stmt}{f:Addr}{fd:FuncData}{z0 z1:Str} (F:Fun K x qual st f fd) (h:∀ (kV doc pm:Value) (an:Option Addr) (cdv ct:Value) (x0 x1:Value),bindArgs (fnOf x qual (Zk st) (Zb st) (zn st) .none kV doc pm an cdv ct) ⟨[x0,x1],[]⟩ = pure ([z0,z1].zip [x0,x1])):Binds K fd [z0,z1] []:=F.binds fun a b c d e g us hl=>by obtain ⟨x0,x1,rfl⟩:=us_2 hl; exact h a b c d e g x0 x1
theorem Fun.b3 {x qual:Str}{st:Stmt}{f:Addr}{fd:FuncData}{z0 z1 z2:Str} (F:Fun K x qual st f fd) (h:∀ (kV doc pm:Value) (an:Option Addr) (cdv ct:Value) (x0 x1 x2:Value),bindArgs (fnOf x qual (Zk st) (Zb st) (zn st) .none kV doc pm an cdv ct) ⟨[x0,x1,x2],[]⟩ = pure ([z0,z1,z2].zip [x0,x1,x2])):Binds K fd [z0,z1,z2] []:=F.binds fun a b c d e g us hl=>by obtain ⟨x0,x1,x2,rfl⟩:=us_3 hl; exact h a b c d e g x0 x1 x2
theorem Fun.b4 {x qual:Str}{st:Stmt}{f:Addr}{fd:FuncData}{z0 z1 z2 z3:Str} (F:Fun K x qual st f fd) (h:∀ (kV doc pm:Value) (an:Option Addr) (cdv ct:Value) (x0 x1 x2 x3:Value),bindArgs (fnOf x qual (Zk st) (Zb st) (zn st) .none kV doc pm an cdv ct) ⟨[x0,x1,x2,x3],[]⟩ = pure ([z0,z1,z2,z3].zip [x0,x1,x2,x3])):Binds K fd [z0,z1,z2,z3] []:=F.binds fun a b c d e g us hl=>by obtain ⟨x0,x1,x2,x3,rfl⟩:=us_4 hl; exact h a b c d e g x0 x1 x2 x3
theorem Fun.b5 {x qual:Str}{st:Stmt}{f:Addr}{fd:FuncData}{z0 z1 z2 z3 z4:Str} (F:Fun K x qual st f fd) (h:∀ (kV doc pm:Value) (an:Option Addr) (cdv ct:Value) (x0 x1 x2 x3 x4:Value),bindArgs (fnOf x qual (Zk st) (Zb st) (zn st) .none kV doc pm an cdv ct) ⟨[x0,x1,x2,x3,x4],[]⟩ = pure ([z0,z1,z2,z3,z4].zip [x0,x1,x2,x3,x4])):Binds K fd [z0,z1,z2,z3,z4] []:=F.binds fun a b c d e g us hl=>by obtain ⟨x0,x1,x2,x3,x4,rfl⟩:=us_5 hl; exact h a b c d e g x0 x1 x2 x3 x4
theorem Fun.b6 {x qual:Str}{st:Stmt}{f:Addr}{fd:FuncData}{z0 z1 z2 z3 z4 z5:Str} (F:Fun K x qual st f fd) (h:∀ (kV doc pm:Value) (an:Option Addr) (cdv ct:Value) (x0 x1 x2 x3 x4 x5:Value),bindArgs (fnOf x qual (Zk st) (Zb st) (zn st) .none kV doc pm an cdv ct) ⟨[x0,x1,x2,x3,x4,x5],[]⟩ = pure ([z0,z1,z2,z3,z4,z5].zip [x0,x1,x2,x3,x4,x5])):Binds K fd [z0,z1,z2,z3,z4,z5] []:=F.binds fun a b c d e g us hl=>by obtain ⟨x0,x1,x2,x3,x4,x5,rfl⟩:=us_6 hl; exact h a b c d e g x0 x1 x2 x3 x4 x5
theorem zb0 {x qual:Str}{st:Stmt}{f:Addr}{oc:Value}{od an:Option Addr}{osl:Array (Option Value)}{kV doc pm cdv ct:Value} (l:K.lookup f = some ⟨oc,od,.func (fnOf x qual (Zk st) (Zb st) (zn st) .none kV doc pm an cdv ct),osl⟩)
  (c:codeIn K cdv qual = true) (k:keepIn K (.ref f) = true):Fun K x qual st f (fnOf x qual (Zk st) (Zb st) (zn st) .none kV doc pm an cdv ct):=⟨⟨oc,od,kV,doc,pm,an,cdv,ct,osl,rfl,l,c⟩,k⟩
end
theorem zcB {A:Around}{k:Nat} (hr:Room k A):A.units + 1 < cLine:=Nat.lt_of_le_of_lt (Nat.add_le_add_left (by decide:1<=64) _) hr.units
theorem zaj {n:Nat} (h:n<=1000):n < sizeLine:=Nat.lt_of_le_of_lt h (by decide)
section
variable {X:Cx}
theorem pv (i:Nat) {x:Str}{pos:Pos} (hN:X.N[i]? = some x:=by rfl) (hv:Vis X.env.scope x:=by first | exact Or.inl rfl | exact Or.inr (Or.inl rfl) | exact Or.inr (Or.inr rfl)) (hd:(x == ("__debug__":Str)) = false:=by decide)
  (hcd:(x == ("__classdict__":Str)) = false:=by decide):PE X (.Name x pos) (tVar i):=zmq hN hv hd hcd
end
theorem iteF {A B:Prop} (h:B):if false = true then A else B:=by
 rw [if_neg Bool.false_ne_true]
 exact h
theorem iteT {A B:Prop} (h:A):if true = true then A else B:=by
 rw [if_pos rfl]
 exact h
theorem ite2 {c A B:Prop} [Decidable c] (h1:c->A) (h2:¬ c->B):if c then A else B:=by
 by_cases h:c
 ·rw [if_pos h]
  exact h1 h
 ·rw [if_neg h]
  exact h2 h
def Same (H H':Hp):Prop:=∀ b o,H b = some o->H' b = some o
theorem Same.refl (H:Hp):Same H H:=fun _ _ h=>h
theorem Same.trans {H H1 H2:Hp} (a:Same H H1) (b:Same H1 H2):Same H H2:=fun c o h=>b c o (a c o h)
theorem Same.free {H H':Hp} (e:Same H H') {l:Addr} (h:H' l = Option.none):H l = Option.none:=by
 cases q:H l with
 | none=>rfl
 | some o=>
  rw [e l o q] at h
  cases h
theorem Same.seq {K:PySem.W.Frag}{H H':Hp}{a:Addr}{xs:List V} (e:Same H H') (h:SqL K H a xs):SqL K H' a xs:=by
 rcases h with (h | ⟨o,h⟩) | h
 ·exact .inl (.inl (e _ _ h))
 ·exact .inl (.inr ⟨o,e _ _ h⟩)
 ·exact .inr h
section
variable {κ:Type} [DecidableEq κ]
theorem zjL {kvs:List (κ × V)}{k:κ} (h:valV kvs k = none):¬ k∈kvs.map (·.1):=by
 intro m
 obtain ⟨p,hp,e⟩:=List.mem_map.mp m
 have q:(kvs.any fun kv=>decide (kv.1 = k)) = true:=List.any_eq_true.mpr ⟨p,hp,decide_eq_true e⟩
 rw [zbp,h] at q
 exact absurd q (by simp)
end
theorem HOk.track {P:Program}{w:World}{H:Hp}{h:Heap}{a:Addr}{o:HO} (x:HOk P w H h) (hn:H a = none) (new:Zg P w (upd H a o) h a o):HOk P w (upd H a o) h:=fun b u e=>by
 by_cases hb:b = a
 ·subst hb; rw [zh] at e; cases e; exact new
 ·rw [zr hb] at e
  exact (x b u e).stay (fun c v _ q=>q) (fun c q=>by rw [zr (zm q hn)]; exact q) fun c xs q=>by rw [zr (zm q hn)]; exact q
theorem HOk.other {P:Program}{w:World}{H:Hp}{h h':Heap}{a:Addr} (x:HOk P w H h) (hn:H a = none) (hs:Heap.SameBut a h h'):HOk P w H h':=fun b u e=>
 (x b u e).stay (fun c v hc q=>(hs.2 c (by
  rintro rfl
  rcases hc with rfl | hc
  ·rw [hn] at e; cases e
  ·rw [hn] at hc; cases hc)).trans q) (fun _ q=>q) fun _ _ q=>q
section
variable {prog:Program}{w:World}{A:Around}{R:Result->Shared->Prop}{s:Shared}
theorem zcC {elt target iter:Expr}{ifs:List Expr}{scope:Scope}{pos:Pos}{it acc:Value}{env:Env} (I:Nat->Shared->Prop)
  (turn:∀ n s,I n s->wpAny (model prog w) A (pyNext it) (fun r s₁=>match r with
   | none=>R (.ok .next) s₁
   | some v=>wpAny (model prog w) A (letOwnedTupleGo target it v) (fun _ s₀=>wpAny (model prog w) A (assign target env v) (fun _ s₂=>
     wpAny (model prog w) A (forIn ifs true fun c r=>if r = true then do let ok ← isTrue c env (eval c env); pure (ForInStep.yield ok) else pure (ForInStep.yield r)) (fun ok s₃=>
      if ok = true then wpAny (model prog w) A (eval elt env) (fun x s₄=>
       wpAny (model prog w) A (call (.builtin "list.append") [acc,x]) (fun _ s₅=>∃ m,m < n/\I m s₅) (notedBy (model prog w) A env fun e s'=>R (.error e) s') s₄) (notedBy (model prog w) A env fun e s'=>R (.error e) s') s₃
      else ∃ m,m < n/\I m s₃) (notedBy (model prog w) A env fun e s'=>R (.error e) s') s₂) (notedBy (model prog w) A env fun e s'=>R (.error e) s') s₀) (notedBy (model prog w) A env fun e s'=>R (.error e) s') s₁) (notedBy (model prog w) A env fun e s'=>R (.error e) s') s)
  (n:Nat) (h:I n s):codeAny (model prog w) A (.compLoop (.ListComp elt [⟨target,iter,ifs,0⟩] scope pos) 0 it acc env) R s:=by
 refine codeAny_loop rfl I (fun n s hI=>?_) n h
 show wpAny _ A ((compTurn (.ListComp elt [⟨target,iter,ifs,0⟩] scope pos) 0 it acc env).onRaise (fun x=>do noteFrame x env; theTreesLotGoes x)) _ _ s
 refine wpAny_noted ?_
 rw [compTurn_list]
 refine wpAny_bind (wpAny_standAt (wpAny_bind (wpAny_mono (turn n s hI) (fun r s₁ h₁=>?_) fun _ _ h'=>h')))
 cases r with
 | none=>exact wpAny_pure h₁
 | some v=>
  refine wpAny_bind (wpAny_mono h₁ (fun _ s₀ h₀=>?_) fun _ _ h'=>h')
  refine wpAny_bind (wpAny_mono h₀ (fun _ s₂ h₂=>wpAny_bind (wpAny_mono h₂ (fun ok s₃ h₃=>?_) fun _ _ h'=>h')) fun _ _ h'=>h')
  cases ok with
  | false=>exact wpAny_pure ⟨rfl,h₃⟩
  | true=>
   exact wpAny_bind (wpAny_bind (wpAny_mono h₃ (fun x s₄ h₄=>wpAny_bind (wpAny_mono h₄ (fun _ s₅ h₅=>wpAny_pure (wpAny_pure ⟨rfl,h₅⟩)) fun _ _ h'=>h')) fun _ _ h'=>h'))
end
def zH (X:Cx) (scope:Scope) (cl:List (Str × Addr)) (NY:List Str) (C:Addr) (s:Shared) (H:Hp) (fp:List Addr):Cx where
 prog:=X.prog
 w:=X.w
 K:=X.K
 mg:=X.mg
 base:=X.base
 A:=X.A
 N:=NY
 s₀:=s
 H₀:=H
 env:=compEnvC scope cl C X.env
 outer:=X.stack
 stack:=X.stack
 ex:=fp
 fn:=fun _=>false
 calm:=true
 pn:=[]
 xe:=notedBy (model X.prog X.w) X.A (compEnvC scope cl C X.env) fun e s'=>compPost (model X.prog X.w) X.A X.xe none (fun _ _=>False) .none C (.error e) s'
def ClOk:List (Str × Addr)->List (Str × Addr)->Prop
 | [],_=>True
 | p :: r,cells=>cells.lookup p.1 = some p.2/\ClOk r cells
theorem ClOk.mem:∀ {cl cells:List (Str × Addr)},ClOk cl cells->∀ {x:Str}{c:Addr},cl.lookup x = some c->cells.lookup x = some c
 | [],_,_,_,_,e=>by simp at e
 | (y,d) :: r,cells,h,x,c,e=>by
  rw [List.lookup_cons] at e
  split at e
  ·rename_i q
   have q':x = y:=by simpa using q
   subst q'
   cases e
   exact h.1
  ·exact ClOk.mem h.2 e
def FrOk (X:Cx) (scope:Scope) (cl:List (Str × Addr)):List Nat->List Str->Prop
 | [],[]=>True
 | i :: r,y :: ys=>(X.N[i]? = some y/\scope.names.lookup y = some .free/\Vis X.env.scope y/\X.env.kindOf y≠some .local/\∃ c,cl.lookup y = some c)/\FrOk X scope cl r ys
 | _,_=>False
def PIfs (X:Cx) (ifs:List Expr) (t:TT):Prop:=
 ∀ (zp:List (Addr × Obj)) (s:Shared) (σ:St) (H:Hp) (Q:Bool->Hp->Prop),Inv X zp σ H s->t σ H Q->
  wpAny (model X.prog X.w) X.A (forIn ifs true fun c r=>if r = true then do let ok ← isTrue c X.env (eval c X.env); pure (ForInStep.yield ok) else pure (ForInStep.yield r)) (TP X zp σ Q) X.xe s
theorem Zn {X:Cx}:PIfs X [] (fun _ H Q=>Q true H):=fun _ _ _ H _ I h=>wpAny_tests_nil ⟨H,I,h⟩
def frees (fr:List Nat) (σ:St):St:=fr.map fun k=>(σ[k]?).join
def zcD (fr:List Nat) (wi:TI) (tt:TT) (te:TE):TE:=fun σ H Q=>wi σ H fun J H1=>∃ W:Nat->Nat->List V->Hp->Prop,(∃ m,W 0 m [] H1)/\∀ i m vs H,W i m vs H->vs.length<=sizeLine /\
 ((J.stop i H/\∀ D,H D = none->Q (.ref D) (upd H D (.lst vs))) \/
  (J.go i H/\∀ v H',J.yld i H v H'->tt (some v :: frees fr σ) H' fun b H2=>if b = true then te (some v :: frees fr σ) H2 fun y H3=>∃ m',m' < m/\W (i + 1) m' (vs ++ [y]) H3 else ∃ m',m' < m/\W (i + 1) m' vs H2))
def relF (env:Env) (p:Str × NameKind):Str × NameKind:=if (p.2 == NameKind.free && env.scope.kind == .function && env.kindOf p.1 == some .cell) = true then (p.1,NameKind.cell) else (p.1,p.2)
theorem zjM (env:Env) (p:Str × NameKind):(relF env p).1 = p.1:=by unfold relF; split <;> rfl
theorem zbc {env:Env}:∀ {names:List (Str × NameKind)}{x:Str},(names.map (relF env)).lookup x = (names.lookup x).map fun k=>(relF env (x,k)).2
 | [],_=>rfl
 | (n,k) :: r,x=>by
  have ih:=@zbc env r x
  rw [List.map_cons]
  have e:relF env (n,k) = (n,(relF env (n,k)).2):=Prod.ext (zjM env (n,k)) rfl
  rw [e]
  cases hx:x == n with
  | true=>
   have q':x = n:=by simpa using hx
   subst q'
   simp only [List.lookup_cons,hx,Option.map_some]
  | false=>simp only [List.lookup_cons,hx]; exact ih
theorem zak {env:Env}{names:List (Str × NameKind)}{x:Str} (h:names.lookup x = some .free):
  (names.map (relF env)).lookup x = some .cell\/(names.map (relF env)).lookup x = some .free:=by
 rw [zbc,h,Option.map_some]
 unfold relF
 split
 ·exact .inl rfl
 ·exact .inr rfl
theorem ZG {env:Env}{names:List (Str × NameKind)}{x:Str} (hn:∀ y∈names,y.2≠.cell) (h:(names.map (relF env)).lookup x = some .cell\/(names.map (relF env)).lookup x = some .free):(x,NameKind.free)∈names:=by
 rw [zbc] at h
 cases q:names.lookup x with
 | none=>rw [q] at h; simp at h
 | some k=>
  rw [q] at h
  have hm:=PySem.mem_of_lookup q
  have hk:k = .free:=by
   unfold relF at h
   simp only [Option.map_some,Option.some.injEq] at h
   split at h
   ·rename_i c
    simp only [Bool.and_eq_true] at c
    simpa using c.1.1
   ·rcases h with h | h
    ·exact absurd h (hn _ hm)
    ·exact h
  rw [← hk]
  exact hm
theorem zcE {X:Cx}{scope:Scope}{cl:List (Str × Addr)}{σ:St}:∀ {fr:List Nat}{ys:List Str},FrOk X scope cl fr ys->∀ (j:Nat) (y:Str) (v:V),ys[j]? = some y->(frees fr σ)[j]? = some (some v)->
  ∃ i:Nat,X.N[i]? = some y/\σ[i]? = some (some v)/\scope.names.lookup y = some .free/\Vis X.env.scope y/\X.env.kindOf y≠some .local/\∃ c,cl.lookup y = some c
 | [],[],_,j,y,v,e,_=>by simp at e
 | [],_ :: _,h,_,_,_,_,_=>h.elim
 | _ :: _,[],h,_,_,_,_,_=>h.elim
 | i :: r,z :: ys,h,0,y,v,e1,e2=>by
  have e1':z = y:=by simpa using e1
  subst e1'
  have e2':(σ[i]?).join = some v:=by simpa [frees] using e2
  have:σ[i]? = some (some v):=by
   cases q:σ[i]? with
   | none=>rw [q] at e2'; cases e2'
   | some o=>rw [q] at e2'; cases o with
    | none=>cases e2'
    | some u=>cases e2'; rfl
  exact ⟨i,h.1.1,this,h.1.2.1,h.1.2.2.1,h.1.2.2.2.1,h.1.2.2.2.2⟩
 | i :: r,z :: ys,h,j + 1,y,v,e1,e2=>zcE (fr:=r) (ys:=ys) h.2 j y v (by simpa using e1) (by simpa [frees] using e2)
theorem zcF {X:Cx}{scope:Scope}{cl:List (Str × Addr)}{σ:St}:∀ {fr:List Nat}{ys:List Str},FrOk X scope cl fr ys->(frees fr σ).length = ys.length
 | [],[],_=>rfl
 | [],_ :: _,h=>h.elim
 | _ :: _,[],h=>h.elim
 | i :: r,z :: ys,h=>by
  have:=zcF (σ:=σ) (fr:=r) (ys:=ys) h.2
  simp only [frees,List.map_cons,List.length_cons,List.length_map] at *
  omega
theorem Zx {X:Cx}{elt iter:Expr}{x:Str}{px pos:Pos}{ifs:List Expr}{scope:Scope}{cl:List (Str × Addr)} (fr:List Nat) (ys:List Str) {wi:TI}{tt:TT}{te:TE}
  (hc:X.calm = true) (hclos:closureFor scope X.env = pure cl) (hcell:∀ y∈scope.names,y.2≠.cell) (hkind:scope.kind = .function) (hnames:∀ y∈scope.names,y.2 = .local->scope.names.lookup y.1 = some .local)
  (hx:scope.names.lookup x = some .local) (hnd:(x :: ys).Nodup) (hcl:ClOk cl X.env.cells) (hall:(scope.names.all fun y=>y.2 != .free || (cl.lookup y.1).isSome) = true) (hfr:FrOk X scope cl fr ys)
  (hi:PI X (.Name x px) iter wi)
  (hY:∀ C s H fp,PIfs (zH X scope cl (x :: ys) C s H fp) ifs tt/\PE (zH X scope cl (x :: ys) C s H fp) elt te)
  (hs:∀ v,foldedSetIterable iter X.env v = pure v:=by intro _; rfl):
  PE X (.ListComp elt [⟨.Name x px,iter,ifs,0⟩] scope pos) (zcD fr wi tt te):=by
 intro zp s σ H Q I h
 rw [eval_ListComp]
 refine wpAny_comprehension_free (use:=none) rfl hs hclos hkind hnames (wpAny_mono (hi zp s σ H _ I h) (fun v s1 h1=>wpAny_mono h1 (fun itv s2 h2=>?_) fun _ _ e=>e) fun _ _ e=>e)
 obtain ⟨it,fp,tn,J,H2,rfl,I2,T,st2,f2,W,⟨m0,w0⟩,turn⟩:=h2
 refine wpAny_newObj_type (wpAny_newFunctionEnv hcell (by intro y hy; simp at hy) (fun h₁ hns₁ hsb₁=>?_) hkind)
 dsimp only at hns₁ hsb₁ ⊢
 generalize hP2:s2.heap.push { cls:=.type "list",dict:=none,data:=.seq ([]:List Value).toArray } = P2 at hns₁ hsb₁ ⊢
 have hC:P2.objs.size = s2.heap.objs.size + 1:=by rw [← hP2,Heap.size_push]
 have hDC:s2.heap.objs.size≠P2.objs.size:=by rw [hC]; exact Nat.ne_of_lt (Nat.lt_succ_self _)
 have hCle:s2.heap.objs.size<=P2.objs.size:=by rw [hC]; exact Nat.le_succ _
 have below:∀ b,b < s2.heap.objs.size->b≠P2.objs.size/\b≠s2.heap.objs.size:=fun b hb=>⟨by rw [hC]; exact Nat.ne_of_lt (Nat.lt_succ_of_lt hb),Nat.ne_of_lt hb⟩
 have old:∀ b o,s2.heap.get? b = some o->h₁.get? b = some o:=fun b o e=>hsb₁.extBut b o (below b (Heap.lt_size e)).1 (Heap.get?_push_of_some _ (hP2 ▸ Heap.get?_push_of_some _ e))
 have hacc:h₁.get? s2.heap.objs.size = some { cls:=.type "list",data:=.seq ([]:List Value).toArray }:=hsb₁.extBut _ _ hDC (Heap.get?_push_of_some _ (hP2 ▸ Heap.get?_push_size _ rfl))
 have fpl:∀ b∈fp,b < s2.heap.objs.size:=fun b hb=>by
  obtain ⟨o,e,_⟩:=T.obj _ _ st2 b hb
  exact Heap.lt_size e
 have tlt:∀ b o,H2 b = some o->b < s2.heap.objs.size:=fun b o e=>I2.hok.lt e
 generalize hCg:P2.objs.size = C at hns₁ hsb₁ hDC hCle below ⊢
 generalize hDg:s2.heap.objs.size = D at hDC below hacc fpl tlt ⊢
 have hDle:D<=C:=by rw [← hDg]; exact hCle
 have cls:∀ y c,cl.lookup y = some c->X.env.cells.lookup y = some c:=fun y c e=>hcl.mem e
 have clt:∀ y c,cl.lookup y = some c->c < D:=fun y c e=>by
  obtain ⟨v,q⟩:=I2.cell y c (cls y c e)
  rw [← hDg]; exact q.lt
 have sub:∀ b∈frs X.stack,b < D:=fun b hb=>by
  rcases List.mem_cons.mp (I2.stkSub b hb) with e | hb
  ·rw [e,← hDg]; exact I2.lt
  ·obtain ⟨_,o,ho,_⟩:=I2.ok.funs.mem hb
   rw [← hDg]; exact Nat.lt_of_lt_of_le (Heap.lt_size ho) I2.sz
 obtain ⟨YI,YE⟩:=hY C s2 H2 fp
 have Yok:(zH X scope cl (x :: ys) C s2 H2 fp).Ok:=by
  refine ⟨I2.ok.mod,hkind,I2.ok.glob,I2.ok.blt,hCle,?_,?_,?_,fun _=>I2.ok.hd hc,I2.ok.frames,.inl rfl,?_,I2.bs,Nat.le_trans I2.ok.bsz I2.sz,?_,?_,I2.stack,I2.stkFree⟩
  ·exact fun y z c e1 e2=>I2.ok.inj y z c (cls y c e1) (cls z c e2)
  ·intro y hy
   have hm:=ZG (env:=X.env) (names:=scope.names) (x:=y) hcell hy
   have q:=List.all_eq_true.mp hall _ hm
   show ∃ c,cl.lookup y = some c
   exact Option.isSome_iff_exists.mp (by simpa using q)
  ·intro y c hf _
   exact absurd hf (by show ¬ false = true; decide)
  ·intro b hb
   refine ⟨(below b (fpl b hb)).1,fun y c e z=>?_⟩
   exact (f2 b hb).2.2.2.2.1 y c (cls y c e) z
  ·intro b o e hb
   have hb:b∈fp:=hb
   rcases (f2 b hb).2.2.2.1 with z | z
   ·exact I2.ok.noex b o e z
   ·exact absurd (Nat.lt_of_lt_of_le (Heap.lt_size e) (Nat.le_trans I2.ok.bsz z)) (Nat.lt_irrefl _)
  ·intro b hb hf
   have hb:b∈fp:=hb
   rcases List.mem_cons.mp (I2.stkSub b hf) with e | hf
   ·exact (f2 b hb).2.1 e
   ·exact (f2 b hb).2.2.1 hf
 have hvis:Loc (zH X scope cl (x :: ys) C s2 H2 fp).env.scope x:=.inl (lookup_relabel_local hx)
 have start:∀ tk,Inv (zH X scope cl (x :: ys) C s2 H2 fp) [] (none :: frees fr σ) H2 { s2 with heap:=h₁,toks:=tk }:=fun tk=>by
  refine ⟨Yok,rfl,I2.bare,Un.kept old,⟨_,hns₁,fun i y v e1 e2 e3=>?_⟩,fun y c e=>?_,?_,fun y c e=>?_,fun p hp=>absurd (show p∈([]:List (Addr × Obj)) from hp) (by simp),I2.hok.kept old,?_⟩
  ·cases i with
   | zero=>simp at e2
   | succ j=>
    obtain ⟨i',n1,n2,n3,n4,n5,c,n6⟩:=zcE hfr j y v (by simpa [zH] using e1) (by simpa using e2)
    obtain ⟨m,hn,hl⟩:=I2.loc
    obtain ⟨u,r,l⟩:=hl i' y v n1 n2 n4
    refine ⟨u,r,.inr ⟨zak n3,c,n6,?_⟩⟩
    rcases l with ⟨k,_⟩ | ⟨k,c',e,z⟩
    ·exact absurd k n5
    ·rw [cls y c n6] at e
     cases e
     obtain ⟨o,ho,hd⟩:=z
     exact ⟨o,old _ _ ho,hd⟩
  ·obtain ⟨v,o,ho,hd⟩:=I2.cell y c (cls y c e)
   exact ⟨v,o,old _ _ ho,hd⟩
  ·show H2 C = none
   cases q:H2 C with
   | none=>rfl
   | some o=>exact absurd (tlt C o q) (Nat.not_lt.mpr hDle)
  ·exact I2.freeC y c (cls y c e)
  ·show (none :: frees fr σ).length = (x :: ys).length
   rw [List.length_cons,List.length_cons,zcF hfr]
 have fpY:∀ {pl:List (Addr × Obj)}{H':Hp},(∀ b∈fp,H' b = none)->(∀ p∈pl,p.1 = D)->∀ b∈fp,FpOk (zH X scope cl (x :: ys) C s2 H2 fp) pl H' b:=fun {pl H'} hn hpl b hb=>by
  refine ⟨hn b hb,(below b (fpl b hb)).1,Yok.exfs b hb,.inl hb,fun y c e z=>(f2 b hb).2.2.2.2.1 y c (cls y c e) z,fun p hp=>?_⟩
  have hp:p∈[] ++ pl:=hp
  rw [List.nil_append] at hp
  rw [hpl p hp]
  exact (below b (fpl b hb)).2.symm
 have loop:∀ s₃:Shared,(∃ tk,s₃ = { s2 with heap:=h₁,toks:=tk })->
   codeAny (model X.prog X.w) X.A (.compLoop (.ListComp elt [⟨.Name x px,iter,ifs,0⟩] scope pos) 0 (.ref it) (.ref D) (compEnvC scope cl C X.env))
    (compPost (model X.prog X.w) X.A X.xe none (EP X zp σ Q) (.ref D) C) s₃:=by
  rintro s₃ ⟨tk,rfl⟩
  refine zcC
   (fun k s'=>∃ i vs ws nn H',Inv (zH X scope cl (x :: ys) C s2 H2 fp) [] (none :: frees fr σ) H' s'/\tn i s'.heap/\(∀ b∈fp,H' b = none)/\H' D = none /\
    s'.heap.get? D = some { cls:=.type "list",data:=.seq (ws:List Value).toArray nn }/\Vals vs ws/\W i k vs H') ?_ m0
   ⟨0,[],[],0,H2,start tk,T.keep _ _ _ st2 fun b _ o e=>old b o e,fun b hb=>(f2 b hb).1,?_,hacc,.nil,w0⟩
  ·rintro n s3 ⟨i,vs,ws,nn,H3,I3,st3,fr3,hD3,ho3,rv3,w3⟩
   have I3':Inv (zH X scope cl (x :: ys) C s2 H2 fp) [(D,{ cls:=.type "list",data:=.seq ws.toArray nn })] (none :: frees fr σ) H3 s3:=I3.pins_of fun p hp=>by
    have e:p = (D,{ cls:=.type "list",data:=.seq ws.toArray nn }):=by simpa using hp
    subst e
    refine ⟨ho3,hD3,hDC,fun z=>absurd (sub D z) (Nat.lt_irrefl _),fun v z=>?_⟩
    have z':Data.seq ws.toArray nn = Data.cell v:=z
    cases z'
   have fp3:=fpY (pl:=[(D,{ cls:=.type "list",data:=.seq ws.toArray nn })]) fr3 (fun p hp=>by rw [List.mem_singleton.mp hp])
   obtain ⟨hsz,alt⟩:=turn i n vs H3 w3
   rcases alt with ⟨stop,fin⟩ | ⟨go,step⟩
   ·refine thn (T.done (zH X scope cl (x :: ys) C s2 H2 fp) rfl rfl rfl rfl i _ s3 _ H3 _ I3' fp3 st3 stop) fun r s4 ⟨hr,I4⟩=>?_
    subst hr
    have pD:=I4.pin (D,{ cls:=.type "list",data:=.seq ws.toArray nn }) (by show _∈[] ++ _; simp)
    obtain ⟨m4,hn4,_⟩:=I4.loc
    refine ⟨m4,hn4,fun h' hs'=>?_⟩
    have hC4:H3 C = none:=I4.free
    have hok':HOk X.prog X.w (upd H3 D (.lst vs)) h':=by
     refine HOk.track (I4.hok.other hC4 hs') hD3 ⟨hsz,ws,nn,rv3,(hs'.2 D hDC).trans pD.1⟩
    have b4:=I4.base
    have un:Un (frs X.stack) fp H2 (upd H3 D (.lst vs)) s2.heap h':=by
     have lt:∀ b o,s2.heap.get? b = some o->b < D:=fun b o e=>by rw [← hDg]; exact Heap.lt_size e
     refine ⟨fun b o e n hb hx=>(hs'.2 b (below b (lt b o e)).1).trans (b4.keep b o e n hb hx),fun b o e n hb hx=>?_,fun b o e n hx=>?_,fun b o e hx=>?_,fun b zs e=>?_,fun b o u e=>?_,fun b ps e=>?_⟩
     ·obtain ⟨sl,q⟩:=b4.slot b o e n hb hx
      exact ⟨sl,(hs'.2 b (below b (lt b o e)).1).trans q⟩
     ·rw [zr (below b (lt b o e)).2]; exact b4.free b o e n hx
     ·obtain ⟨o',q⟩:=b4.there b o e hx
      exact ⟨o',(hs'.2 b (below b (lt b o e)).1).trans q⟩
     ·rw [zr (below b (tlt b _ e)).2]; exact b4.tups b zs e
     ·rw [zr (below b (tlt b _ e)).2]; exact b4.frzs b o u e
     ·rw [zr (below b (tlt b _ e)).2]; exact b4.tbls b ps e
    refine ⟨.ref D,upd H3 D (.lst vs),?_,rfl,fin D hD3⟩
    exact I2.call' (s':={ s4 with heap:=h' }) (ch:=fp) I4.os un hok' I4.bare fun b hb=>⟨(f2 b hb).2.2.2.1,(f2 b hb).2.1,(f2 b hb).2.2.2.2.1,(f2 b hb).2.2.2.2.2⟩
   ·refine thn (T.item (zH X scope cl (x :: ys) C s2 H2 fp) rfl rfl rfl rfl i _ s3 _ H3 _ I3' fp3 st3 go) fun r s4 ⟨u,hr,h4⟩=>?_
    subst hr
    refine thn h4 fun _ s5 ⟨v,H5,I5,r5,y5,st5,fr5⟩=>?_
    have fp5:=fpY (pl:=[(D,{ cls:=.type "list",data:=.seq ws.toArray nn })]) fr5 (fun p hp=>by rw [List.mem_singleton.mp hp])
    have I5':=I5.pinned fp5 (T.obj _ _ st5)
    refine thn (zV (X:=zH X scope cl (x :: ys) C s2 H2 fp) (i:=0) (pos:=px) hnd rfl hvis (.inr (lookup_relabel_local hx)) _ s5 _ H5 v u (fun σ' H'=>σ' = some v :: frees fr σ/\H' = H5) I5' r5 ⟨rfl,rfl⟩) fun _ s6 ⟨σ6,H6,I6,e6,e6'⟩=>?_
    subst e6 e6'
    refine thn (YI _ s6 _ _ _ I6 (step v H6 y5)) fun b s7 ⟨H7,I7,q7⟩=>?_
    have back:∀ {H8:Hp}{s8:Shared},Inv (zH X scope cl (x :: ys) C s2 H2 fp) ([(D,{ cls:=.type "list",data:=.seq ws.toArray nn })] ++ zct fp s5.heap) (some v :: frees fr σ) H8 s8->
      s8.heap.get? D = some { cls:=.type "list",data:=.seq ws.toArray nn }/\H8 D = none/\(∀ b∈fp,H8 b = none)/\(∀ b∈fp,∀ o,s5.heap.get? b = some o->s8.heap.get? b = some o):=fun {H8 s8} I8=>by
     have pD:=I8.pin (D,{ cls:=.type "list",data:=.seq ws.toArray nn }) (by show _∈[] ++ _; simp)
     refine ⟨pD.1,pD.2.1,fun b hb=>?_,fun b hb o e=>?_⟩
     ·obtain ⟨o,e,d⟩:=T.obj _ _ st5 b hb
      exact (I8.pin (b,o) (List.mem_append_right _ (List.mem_append_right _ (ZC hb e)))).2.1
     ·exact (I8.pin (b,o) (List.mem_append_right _ (List.mem_append_right _ (ZC hb e)))).1
    have weak:∀ {H8:Hp}{s8:Shared},Inv (zH X scope cl (x :: ys) C s2 H2 fp) [] (some v :: frees fr σ) H8 s8->Inv (zH X scope cl (x :: ys) C s2 H2 fp) [] (none :: frees fr σ) H8 s8:=fun {H8 s8} I8=>
     I8.weak rfl fun i v' e=>by
      cases i with
      | zero=>simp at e
      | succ j=>simpa using e
    have nopin:∀ {H8:Hp}{s8:Shared}{pl:List (Addr × Obj)},Inv (zH X scope cl (x :: ys) C s2 H2 fp) pl (some v :: frees fr σ) H8 s8->Inv (zH X scope cl (x :: ys) C s2 H2 fp) [] (some v :: frees fr σ) H8 s8:=fun {H8 s8 pl} I8=>
     I8.pins_of fun p hp=>absurd hp (by simp)
    cases b with
    | false=>
     rw [if_neg Bool.false_ne_true] at q7 ⊢
     obtain ⟨m',hm,w7⟩:=q7
     obtain ⟨k1,k2,k3,k4⟩:=back I7
     exact ⟨m',hm,i + 1,vs,ws,nn,H7,weak (nopin I7),T.keep _ _ _ st5 k4,k3,k2,k1,rv3,w7⟩
    | true=>
     rw [if_pos rfl] at q7 ⊢
     refine thn (YE _ s7 _ _ _ I7 q7) fun u8 s8 ⟨y8,H8,I8,r8,m',hm,w8⟩=>?_
     obtain ⟨k1,k2,k3,k4⟩:=back I8
     refine append_at (hsz:=by rw [List.size_toArray,← rv3.length]; exact hsz) k1 fun h9 hs9 ho9=>?_
     have I9:Inv (zH X scope cl (x :: ys) C s2 H2 fp) [] (some v :: frees fr σ) H8 { s8 with heap:=h9 }:=
      (nopin I8).turned (t':=s8.toks) (it:=D) (fun b o hb e=>(hs9.2 b hb).trans e) k2 hDC (.inr (by rw [← hDg]; exact Nat.le_refl _)) (fun y c e=>Nat.ne_of_lt (clt y c e)) fun p hp=>absurd (show p∈([]:List (Addr × Obj)) from hp) (by simp)
     refine ⟨m',hm,i + 1,vs ++ [y8],ws ++ [u8],nn + 1,H8,weak I9,?_,k3,k2,?_,rv3.append (.cons r8 .nil),w8⟩
     ·refine T.keep _ _ _ st5 fun b hb o e=>?_
      exact (hs9.2 b (below b (fpl b hb)).2).trans (k4 b hb o e)
     ·rw [ho9,List.push_toArray]
  ·cases q:H2 D with
   | none=>rfl
   | some o=>exact absurd (tlt D o q) (Nat.lt_irrefl _)
 exact codeAny_compStart_list (loop _ ⟨_,rfl⟩) (T.self _ 0 _ _ _ (T.keep _ _ _ st2 fun b _ o e=>old b o e) (loop _ ⟨_,rfl⟩))
def Have (P:Program) (w:World) (K:PySem.W.Frag) (mg:Str->Option Value) (base:Heap) (x:Str) (k:Nat) (ps:List Str) (sp:Sp):Prop:=
 ∃ (f:Addr) (fd:FuncData),FnOk P w K mg base CX0 k f fd ps sp/\Binds K fd ps []/\keepIn K (.ref f) = true/\mg x = some (.ref f)
theorem Have.mono {P:Program}{w:World}{K:PySem.W.Frag}{mg:Str->Option Value}{base:Heap}{x:Str}{j k:Nat}{ps:List Str}{sp:Sp} (h:Have P w K mg base x j ps sp) (e:j<=k):Have P w K mg base x k ps sp:=
 let ⟨f,fd,F,r⟩:=h; ⟨f,fd,F.mono e,r⟩
theorem Have.up {P:Program}{w:World}{K:PySem.W.Frag}{mg:Str->Option Value}{base:Heap}{j k:Nat}{ps:List Str}{sp:Sp}{x:Str} (h:Have P w K mg base x j ps sp) (e:Nat.ble j k = true):Have P w K mg base x k ps sp:=h.mono (Nat.le_of_ble_eq_true e)
section
variable {X:Cx}{x:Str}{k:Nat}{ps:List Str}{sp:Sp}{e:Expr}{es:List Expr}{t:TA}{p pos:Pos}
theorem zt (G:Have X.prog X.w X.K X.mg X.base x k ps sp) (hr:Room k X.A) (hg:Gl X x) (ha:PA X (e :: es) t) (hdb:(x == ("__debug__":Str)) = false:=by decide)
  (he:starEach (e :: es) X.env = (false,eval e X.env) :: starEach es X.env:=by rfl) (hpl:(backTo pos (starEach es X.env)).any (·.1) = false:=by rfl):
  PE X (.Call (.Name x p) (e :: es) [] pos) (zgQ sp [] E0 t):=by
 obtain ⟨f,fd,F,b,kp,m⟩:=G
 exact zlg F hr hg m kp b .nil zgX ha hdb he hpl
end
section
variable {X:Cx}
def znH (i j:Int):Prop:=0 < j/\j.natAbs.log2 < 9000
theorem zjN:OpR X (binaryOp .FloorDiv) (rI znH fun i j=>.int (i / j)):=opI fun i j _ _ _ _ _ hc q=>by
 have h1:(0:Int) < j:=hc.1
 exact floordiv_int (by omega) (by rw [Int.fdiv_eq_ediv_of_nonneg i (by omega)]; exact q) (.inl (PyProof.noPylong_of_log2 hc.2))
def zbs:List String:=["NoneType","bool","int","str","list","tuple","dict"]
def isi (A T:String):Option Bool:=if zbs.contains A && zbs.contains T then some (A == T || (A == "bool" && T == "int")) else none
theorem zhU {A:String} (h:zbs.contains A = true):A = "NoneType"\/A = "bool"\/A = "int"\/A = "str"\/A = "list"\/A = "tuple"\/A = "dict":=by
 have:A∈zbs:=by simpa using h
 simpa [zbs] using this
theorem zeJ {K:PySem.W.Frag}{A T:String}{b:Bool} (h:isi A T = some b):PySem.W.kitOne K (.type A) (.type T) = some b:=by
 unfold isi at h
 split at h
 ·rename_i c
  rw [Bool.and_eq_true] at c
  cases h
  rcases zhU c.1 with rfl | rfl | rfl | rfl | rfl | rfl | rfl <;> rcases zhU c.2 with rfl | rfl | rfl | rfl | rfl | rfl | rfl <;> kernel_rfl
 ·cases h
theorem Zo:zaE X (.builtin "isinstance") (fun xs H Q=>∃ v T A b,xs = [v,.ty T]/\TyOf X.K H v (.type A)/\isi A T = some b/\Q (.bl b) H):=by
 intro zp s σ H xs us Q I r h
 obtain ⟨v,T,A,b,rfl,ty,e,q⟩:=h
 obtain ⟨u,c,rfl,ru,rc⟩:=zgL r
 cases (show c = Value.type T from rc)
 exact zeu I ru ty (zeJ e) fun tk=>⟨.bl b,H,I.tok tk,rfl,q⟩
theorem zfs {A:Around}{P:Program}{w:World}{xs:List Bool}{its:List Value} (r:Vals (xs.map V.bl) its):TruthOf P w A (fun i v=>its.toArray[i]? = some v) (fun i=>xs.getD i true):=by
 intro i v s Q E hv h
 have hv':its[i]? = some v:=by simpa using hv
 have hl:=r.length
 rw [List.length_map] at hl
 have hi:i < xs.length:=by rw [hl]; exact (List.getElem?_eq_some_iff.mp hv').1
 obtain ⟨u,hu,ru⟩:=r.get (i:=i) (x:=V.bl xs[i]) (by rw [List.getElem?_map,List.getElem?_eq_getElem hi]; rfl)
 rw [hv'] at hu
 cases hu
 cases ru
 refine wpAny_truthy_bool ?_
 have e:xs.getD i true = xs[i]:=by rw [List.getD_eq_getElem?_getD,List.getElem?_eq_getElem hi]; rfl
 have h:Q (xs.getD i true) s:=h
 rw [e] at h
 exact h
theorem zhV (xs:List Bool):(List.range xs.length).all (fun i=>xs.getD i true) = xs.all id:=by
 rw [Bool.eq_iff_iff,List.all_eq_true,List.all_eq_true]
 constructor
 ·intro h x hx
  obtain ⟨i,hi,rfl⟩:=List.mem_iff_getElem.mp hx
  have:=h i (List.mem_range.mpr hi)
  rw [List.getD_eq_getElem?_getD,List.getElem?_eq_getElem hi] at this
  exact this
 ·intro h i hi
  have hi:=List.mem_range.mp hi
  rw [List.getD_eq_getElem?_getD,List.getElem?_eq_getElem hi]
  exact h _ (List.getElem_mem hi)
theorem ZY (hc:X.calm = true):zaE X (.builtin "all") (fun xs H Q=>∃ (p:Addr) (bs:List Bool),xs = [.ref p]/\SqL X.K H p (bs.map V.bl)/\Q (.bl (bs.all id)) H):=by
 intro zp s σ H xs us Q I r h
 obtain ⟨p,bs,rfl,hq,q⟩:=h
 obtain ⟨u,rfl,rx⟩:=zbI r
 cases rx
 obtain ⟨its,r',pl,hz⟩:=I.list hq
 have hl:=pl.isList
 obtain ⟨o,ho,_⟩:=id hl
 have hlt:=Heap.lt_size ho
 refine call_all_walk (wpAny_pyIter_list hl ?_)
 refine ⟨_,_,_,_,_,_,fun i=>bs.getD i true,rfl,Walks.list (A:=X.A.in1) (I.ok.hd hc) s.heap.objs.size p (Nat.ne_of_lt hlt) its.toArray,⟨⟨_,Heap.get?_push_size _ rfl,rfl,rfl⟩,hl.push _⟩,zfs r',fun h' tk hk=>?_⟩
 have e:(List.range its.toArray.size).all (fun i=>bs.getD i true) = bs.all id:=by
  have hl2:=r'.length
  rw [List.length_map] at hl2
  rw [List.size_toArray,← hl2]
  exact zhV bs
 rw [e]
 refine ⟨.bl (bs.all id),H,I.kept (h':=h') (t':=tk) fun b o e=>?_,rfl,q⟩
 exact hk b o (fun hm=>absurd (Heap.lt_size e) (by rw [List.mem_singleton.mp hm]; exact Nat.lt_irrefl _)) (Heap.get?_push_of_some _ e)
end
section
variable {prog:Program}{w:World}{A:Around}{R:Result->Shared->Prop}{I l:Addr}{vs:List Value}{ns:List Int}{d:Value}
end
def Its (z:Str):It:=⟨fun i _=>i < z.cps.size,fun i H x H'=>H' = H/\∃ c,z.cps[i]? = some c/\x = .str ⟨#[c]⟩,fun i _=>i = z.cps.size⟩
theorem zjO {P:Program}{w:World}{K:PySem.W.Frag}{tg:Expr}{it:Addr}{T:String}{z:Str}{t:Tok}
  (W:∀ A:Around,A.handled = none->Walks P w A it [it] [it] z.cps.size (SignAt z) (fun i h=>h.IsStrIter it T z t i))
  (hT:["enumerate","zip","dict_itemiterator","dict_reverseitemiterator","odict_iterator","itertools.zip_longest","itertools.pairwise"].contains T = false)
  (self:∀ (A:Around) (i:Nat) (s:Shared) (Q:Value->Shared->Prop) (E:Value->Shared->Prop),s.heap.IsStrIter it T z t i->Q (.ref it) s->wpAny (model P w) A (pyIter (.ref it)) Q E s):
  Turn P w K tg (Its z) [it] it (fun i h=>h.IsStrIter it T z t i) where
 mem:=by simp
 obj:=fun i h st b hb=>by
  have e:b = it:=by simpa using hb
  subst e
  obtain ⟨o,e,c,d⟩:=st
  exact ⟨o,e,fun v z=>by rw [d] at z; cases z⟩
 keep:=fun i h h' st k=>by
  obtain ⟨o,e,c⟩:=st
  exact ⟨o,k it (by simp) o e,c⟩
 item:=by
  intro X hP hw hK hc i zp s σ H E I hf st hg
  subst hP hw hK
  obtain ⟨f0,f1,f2,f3,f4,f5⟩:=hf it (by simp)
  refine (W X.A (I.ok.hd hc)).item i s _ _ hg st fun v h' tk hP st' kk=>?_
  obtain ⟨c,u,hcu,rfl⟩:=hP
  have I1:Inv X zp σ H { s with heap:=h',toks:=tk }:=I.turned (fun b o hb e=>kk b o (by simpa using hb) e) f0 f1 f3 f4 f5
  obtain ⟨o,e,cc,d⟩:=id st'
  exact ⟨_,rfl,zhx (s:={ s with heap:=h',toks:=tk }) e cc d hT ⟨.str ⟨#[c]⟩,H,I1,⟨u,rfl⟩,⟨rfl,c,hcu,rfl⟩,st',fun b hb=>(hf b hb).1⟩⟩
 done:=by
  intro X hP hw hK hc i zp s σ H E I hf st hg
  subst hP hw hK
  obtain ⟨f0,f1,f2,f3,f4,f5⟩:=hf it (by simp)
  have hg:i = z.cps.size:=hg
  subst hg
  exact (W X.A (I.ok.hd hc)).done s _ _ st fun h' tk kk=>⟨rfl,I.turned (fun b o hb e=>kk b o (by simpa using hb) e) f0 f1 f3 f4 f5⟩
 self:=fun A i s Q E st h=>self A i s Q E st h
def iStr (te:TE):TI:=fun σ H R=>te σ H fun x H1=>∃ z,x = .str z/\R (Its z) H1
theorem zmI {X:Cx}{tg e:Expr}{te:TE} (he:PE X e te):PI X tg e (iStr te):=by
 intro zp s σ H R I h
 refine thn (he zp s σ H _ I h) fun v s1 ⟨x,H1,I1,r1,q1⟩=>?_
 obtain ⟨z,rfl,q⟩:=q1
 obtain ⟨t,rfl⟩:=r1
 have fin:∀ (T:String),(∀ A:Around,A.handled = none->Walks X.prog X.w A s1.heap.objs.size [s1.heap.objs.size] [s1.heap.objs.size] z.cps.size (SignAt z) (fun i h=>h.IsStrIter s1.heap.objs.size T z t i))->
   ["enumerate","zip","dict_itemiterator","dict_reverseitemiterator","odict_iterator","itertools.zip_longest","itertools.pairwise"].contains T = false->
   (∀ (A:Around) (i:Nat) (s:Shared) (Q:Value->Shared->Prop) (E:Value->Shared->Prop),s.heap.IsStrIter s1.heap.objs.size T z t i->Q (.ref s1.heap.objs.size) s->wpAny (model X.prog X.w) A (pyIter (.ref s1.heap.objs.size)) Q E s)->
   PIE X zp σ tg R (.ref s1.heap.objs.size) { s1 with heap:=s1.heap.push { cls:=.type T,data:=.fields #[.str z t,.int 0 0] } }:=fun T W hT self=>by
  refine ⟨s1.heap.objs.size,[s1.heap.objs.size],_,_,H1,rfl,I1.kept (t':=s1.toks) fun b o e=>Heap.get?_push_of_some _ e,zjO W hT self,⟨_,Heap.get?_push_size _ rfl,rfl,rfl⟩,fun b hb=>?_,q⟩
  have e:b = s1.heap.objs.size:=by simpa using hb
  subst e
  exact I1.fpOk (Nat.le_refl _) (I1.hok.fresh (Nat.le_refl _))
 cases ha:z.cps.all (· < 128)
 ·exact wpAny_pyIter_wide ha (fin "str_iterator" (fun A hA=>Walks.strWide hA _ z t) (by decide) fun A i s Q E st h=>wpAny_pyIter_striter_wide st h)
 ·exact wpAny_pyIter_ascii ha (fin "str_ascii_iterator" (fun A hA=>Walks.strAscii hA _ z t) (by decide) fun A i s Q E st h=>wpAny_pyIter_striter_ascii st h)
theorem zeK {X:Cx}:OpR X (compareOp .LtE) (fun x y H Q=>∃ i j:Str,x = .str i/\y = .str j/\Q (.bl (!decide (j.cps.toList < i.cps.toList))) H):=by
 intro zp s σ H x y v u Q I rx ry h
 obtain ⟨i,j,rfl,rfl,q⟩:=h
 obtain ⟨t,rfl⟩:=rx
 obtain ⟨t',rfl⟩:=ry
 exact PySem.P.le_str ⟨.bl _,H,I,rfl,q⟩
theorem Z8 {X:Cx}{x:Str}{i:Int}{pos:Pos} (hg:Gl X x) (hm:∃ t,X.mg x = some (.int i t)) (hd:(x == ("__debug__":Str)) = false:=by decide):PE X (.Name x pos) (tC (.int i)):=by
 obtain ⟨t,hm⟩:=hm
 exact zX hg hm ⟨t,rfl⟩ hd
theorem znI {X:Cx}{op:Operator}{r:R2} (h:OpR X (inplaceOp op) r):PIp X op r:=fun zp s σ H x y v u Q I rx ry q=>h zp s σ H x y v u Q I rx ry q
theorem ZM {X:Cx}{x:Str}{T:String}{pos:Pos} (hg:Gl X x) (hm:X.mg x = none) (hv:bootBuiltins x = some (.type T)) (hn:x≠"__name__":=by decide) (hd:(x == ("__debug__":Str)) = false:=by decide):PE X (.Name x pos) (tC (.ty T)):=zk8 hg hm hv rfl hn hd
theorem Same.new {H:Hp}{p:Addr}{o:HO} (h:H p = none):Same H (upd H p o):=fun b u q=>by rw [zr (zm q h)]; exact q
theorem Same.seqT {K:PySem.W.Frag}{H H':Hp}{a:Addr}{xs:List V} (e:Same H H') (h:SqT K H a xs):SqT K H' a xs:=by
 rcases h with (h | ⟨o,h⟩) | h
 ·exact .inl (.inl (e _ _ h))
 ·exact .inl (.inr ⟨o,e _ _ h⟩)
 ·exact .inr h
theorem zal {α:Type}{xs:List α}{i:Nat}{x:α} (h:xs[i]? = some x):xs.take (i + 1) = xs.take i ++ [x]:=by
 rw [List.take_add_one,h]; rfl
theorem zlp {fr:List Nat}{j:Nat}{te:TE}{σ:St}{H:Hp}{Q:VK}{z:Str} (outs:List V) (hσ:σ[j]? = some (some (.str z))) (hl:outs.length = z.cps.size) (hz:z.cps.size<=sizeLine)
  (step:∀ (i c:Nat) (y:V) (H1:Hp) (R:VK),z.cps[i]? = some c->outs[i]? = some y->Same H H1->(∀ H2,Same H1 H2->R y H2)->te (some (.str ⟨#[c]⟩) :: frees fr σ) H1 R)
  (fin:∀ (H1:Hp) (D:Addr),Same H H1->H1 D = none->Q (.ref D) (upd H1 D (.lst outs))):zcD fr (iStr (tVar j)) (fun _ H Q=>Q true H) te σ H Q:=by
 refine ⟨_,hσ,z,rfl,fun i m us H1=>i<=z.cps.size/\m = z.cps.size - i/\us = outs.take i/\Same H H1,⟨_,Nat.zero_le _,rfl,by simp,Same.refl _⟩,fun i m us H1 hW=>?_⟩
 obtain ⟨hi,hm,hu,sm⟩:=hW
 refine ⟨by rw [hu,List.length_take]; omega,?_⟩
 by_cases hlt:i < z.cps.size
 ·refine .inr ⟨hlt,fun v H' hy=>?_⟩
  obtain ⟨rfl,c,hc,rfl⟩:=hy
  have hy:outs[i]? = some outs[i]:=List.getElem?_eq_getElem (by omega)
  refine iteT ?_
  refine step i c outs[i] H' _ hc hy sm fun H2 s2=>⟨z.cps.size - (i + 1),by omega,by omega,rfl,?_,sm.trans s2⟩
  rw [hu,zal hy]
 ·have e:i = z.cps.size:=by omega
  refine .inl ⟨e,fun D hD=>?_⟩
  have e2:us = outs:=by rw [hu,List.take_of_length_le (by omega)]
  rw [e2]
  exact fin H1 D sm hD
theorem zbt:isi "tuple" "tuple" = some true:=by decide +kernel
theorem zcG:isi "int" "tuple" = some false:=by decide +kernel
theorem zbu:isi "str" "tuple" = some false:=by decide +kernel
theorem zkG:isi "bool" "tuple" = some false:=by decide +kernel
theorem zhW:isi "NoneType" "tuple" = some false:=by decide +kernel
theorem zkH:isi "list" "tuple" = some false:=by decide +kernel
theorem zkI:isi "dict" "tuple" = some false:=by decide +kernel
theorem zdp:isi "tuple" "str" = some false:=by decide +kernel
theorem zdq:isi "int" "str" = some false:=by decide +kernel
theorem za5:isi "str" "str" = some true:=by decide +kernel
theorem zkJ:isi "bool" "str" = some false:=by decide +kernel
theorem zhX:isi "NoneType" "str" = some false:=by decide +kernel
theorem zkK:isi "list" "str" = some false:=by decide +kernel
theorem zkL:isi "dict" "str" = some false:=by decide +kernel
theorem zmJ:isi "tuple" "int" = some false:=by decide +kernel
theorem zkM:isi "int" "int" = some true:=by decide +kernel
theorem zmK:isi "str" "int" = some false:=by decide +kernel
theorem zmL:isi "bool" "int" = some true:=by decide +kernel
theorem zmM:isi "NoneType" "int" = some false:=by decide +kernel
theorem zmN:isi "list" "int" = some false:=by decide +kernel
theorem zmO:isi "dict" "int" = some false:=by decide +kernel
theorem zhY:isi "int" "bool" = some false:=by decide +kernel
theorem zmP:isi "bool" "bool" = some true:=by decide +kernel
theorem zI:bootBuiltins (Str.ofString "tuple") = some (.type "tuple"):=by kernel_rfl
theorem ZH:bootBuiltins (Str.ofString "str") = some (.type "str"):=by kernel_rfl
theorem Z0:bootBuiltins (Str.ofString "int") = some (.type "int"):=by kernel_rfl
theorem za0:bootBuiltins (Str.ofString "bool") = some (.type "bool"):=by kernel_rfl
theorem zO:bootBuiltins (Str.ofString "isinstance") = some (.builtin "isinstance"):=by kernel_rfl
theorem zhZ:bootBuiltins (Str.ofString "ord") = some (.builtin "ord"):=by kernel_rfl
theorem zh0:bootBuiltins (Str.ofString "abs") = some (.builtin "abs"):=by kernel_rfl
theorem zbv:bootBuiltins (Str.ofString "all") = some (.builtin "all"):=by kernel_rfl
end L2
namespace D
open PySem L2
def top (i:Nat):Stmt:=PySem.Challenge.pw_leastforge_k33_books.main.body.getD i (.Pass ⟨0,0,0,0⟩)
abbrev Zc:Stmt:=zbK (top 1) 0
abbrev ZO:Stmt:=zbK (top 1) 1
abbrev Zd:Stmt:=zbK (top 1) 2
abbrev ZP:Stmt:=zbK (top 1) 3
abbrev zbd:Stmt:=top 8
abbrev zcH:Stmt:=top 9
abbrev zaS:Stmt:=top 10
abbrev zh1:Stmt:=top 11
abbrev zbL:Stmt:=top 12
abbrev zh2:Stmt:=top 13
abbrev zh3:Stmt:=top 19
abbrev zft:Stmt:=top 20
abbrev zdL:Stmt:=top 21
abbrev zbe:Stmt:=top 22
abbrev zaT:Stmt:=top 23
abbrev zcI:Stmt:=top 24
abbrev zbM:Stmt:=top 25
abbrev zcJ:Stmt:=top 26
abbrev zbN:Stmt:=top 27
abbrev zdM:Stmt:=top 28
abbrev zdN:Stmt:=top 29
abbrev zcK:Stmt:=top 30
abbrev zcL:Stmt:=top 31
abbrev zbO:Stmt:=top 34
abbrev zbf:Stmt:=top 38
abbrev zam:Stmt:=top 39
abbrev zbP:Stmt:=top 40
abbrev Zj:Stmt:=zbK (top 43) 0
abbrev zac:Stmt:=zbK (top 43) 1
abbrev zcM:Stmt:=top 44
abbrev zbQ:Stmt:=top 45
abbrev zcN:Stmt:=top 46
abbrev zcO:Stmt:=top 47
abbrev zdO:Stmt:=top 48
abbrev zdP:Stmt:=top 49
abbrev zdQ:Stmt:=top 50
abbrev zfu:Stmt:=top 51
abbrev zaG:Stmt:=top 52
abbrev zcP:Stmt:=top 53
abbrev zh4:Stmt:=top 54
abbrev zcQ:Stmt:=top 55
abbrev zcR:Stmt:=top 56
abbrev zdR:Stmt:=top 57
abbrev zaU:Stmt:=top 59
abbrev zaH:Stmt:=top 60
abbrev zbg:Stmt:=top 61
abbrev zh5:Stmt:=top 62
abbrev zlq:Stmt:=top 64
abbrev sBox:Stmt:=top 65
abbrev zlr:Stmt:=top 66
abbrev zls:Stmt:=top 67
abbrev zfv:Stmt:=top 68
abbrev zh6:Stmt:=top 69
abbrev zbh:Stmt:=top 70
abbrev zh7:Stmt:=top 71
abbrev zdS:Stmt:=top 72
abbrev zfw:Stmt:=top 73
abbrev zbi:Stmt:=top 74
abbrev zh8:Stmt:=top 75
abbrev zdT:Stmt:=top 76
abbrev zfx:Stmt:=top 77
abbrev zdU:Stmt:=top 78
abbrev zdV:Stmt:=top 79
abbrev zbR:Stmt:=top 80
abbrev zdW:Stmt:=top 81
abbrev zdX:Stmt:=top 82
abbrev zdY:Stmt:=top 83
abbrev zcS:Stmt:=top 84
abbrev sLaw:Stmt:=top 85
end D
namespace L2
open PySem PySem.Spec PyProof.Rows
theorem seqI {t u:TS}{D:Ends}{σ:St}{H:Hp} (Pv:St->Hp->Prop) (h2:∀ σ' H',Pv σ' H'->u D σ' H') (h1:∀ {N:St->Hp->Prop},(∀ σ' H',Pv σ' H'->N σ' H')->t { D with nx:=N } σ H):tSeq t u D σ H:=h1 h2
theorem pos (n:Nat):(0:Int) < (((n + 1:Nat):Int)):=by omega
end L2
namespace D
open PySem L2
def zP (H:Hp) (b:Addr):Prop:=∃ a f m:Int,H b = some (.lst [.int a,.int f,.int m])
structure Step (b:Addr) (H H':Hp):Prop where
 box:zP H' b
 keep:∀ c o,c≠b->H c = some o->H' c = some o
theorem Step.refl {b:Addr}{H:Hp} (h:zP H b):Step b H H:=⟨h,fun _ _ _ e=>e⟩
theorem Step.trans {b:Addr}{H H1 H2:Hp} (x:Step b H H1) (y:Step b H1 H2):Step b H H2:=⟨y.box,fun c o hc e=>y.keep c o hc (x.keep c o hc e)⟩
theorem Step.new {b p:Addr}{H:Hp}{o:HO} (h:zP H b) (hp:H p = none):Step b H (upd H p o):=by
 obtain ⟨a,f,m,e⟩:=h
 exact ⟨⟨a,f,m,by rw [zr (zm e hp)]; exact e⟩,fun c u _ e=>by rw [zr (zm e hp)]; exact e⟩
theorem Step.put {b:Addr}{H:Hp} (a f m:Int):Step b H (upd H b (.lst [.int a,.int f,.int m])):=⟨⟨a,f,m,zh⟩,fun c o hc e=>by rw [zr hc]; exact e⟩
theorem Step.keepN {b:Addr}{H H':Hp} (x:Step b H H') {c:Addr}{o:HO} (hb:zP H b) (e:H c = some o) (ho:∀ a f m:Int,o≠.lst [.int a,.int f,.int m]):H' c = some o:=by
 obtain ⟨a,f,m,e'⟩:=hb
 exact x.keep c o (zk5 e e' (ho a f m)) e
def zkN (K:PySem.W.Frag):Sp:=fun vs H Q _=>∃ (a:Addr) (ns:List Int) (k:Int),vs = [.ref a,.int k]/\SqL K H a (ns.map V.int)/\0<=k/\∀ i:Int,Q (.int i) H
def zmQ (K:PySem.W.Frag):Sp:=fun vs H Q _=>∃ (a:Addr) (ns:List Int) (k:Int),vs = [.ref a,.int k]/\SqL K H a (ns.map V.int)/\0<=k/\∀ (x f m:Int) (p:Addr),H p = none->Q (.ref p) (upd H p (.lst [.int x,.int f,.int m]))
def Z7:Sp:=fun vs H Q _=>∃ (b:Addr) (n:Int),vs = [.ref b,.int n]/\zP H b/\0 < n/\n < 10 ^ 61/\∀ (r:Int) (H':Hp),0<=r->r < n->Step b H H'->Q (.int r) H'
def Signs (x:Str):Prop:=∀ c∈x.cps.toList,32<=c/\c<=126/\c≠34/\c≠37
def zh9:Sp:=fun vs H Q _=>∃ (b:Addr) (n:Int),vs = [.ref b,.int n]/\zP H b/\0<=n/\n < 10000/\∀ (x:Str) (H':Hp),(x.length:Int)<=n->Signs x->Step b H H'->Q (.str x) H'
def zdZ:Sp:=fun vs H Q _=>∃ b:Addr,vs = [.ref b]/\zP H b/\∀ (i:Int) (H':Hp),-(10 ^ 60) < i->i < 10 ^ 60->Step b H H'->Q (.int i) H'
section
variable {P:Program}{w:World}{K:PySem.W.Frag}{mg:Str->Option Value}{base:Heap}{f:Addr}{fd:FuncData}{k n:Nat}{ARun ABook:Addr}
theorem zmR:FnScope ["_law_script","_law_k"] ["_law_script","_law_k"] (zn zlq):=mkSc rfl (by decide +kernel)
theorem zlt (F:Fun K "_law_cell" "_law_cell" zlq f fd) (m_len:mg "len" = none):FnOk P w K mg base CX0 (k + 1) f fd ["_law_script","_law_k"] (zkN K):=by
 refine F.ok zmR (by rintro _ _ _ _ ⟨_,_,_,rfl,_⟩; rfl) fun cdv A outer s H vs Q E hr h=>?_
 obtain ⟨a,ns,j,rfl,hS,h0,q⟩:=h
 refine ⟨_,(zi (zJ (zB zfm (pv 1) (zu zM rfl m_len PySem.boot_len (zc (pv 0) zd)) (nomark _)) (zl (zq (zD zy (pv 0) (pv 1) (fun _ _=>rfl)))) zx)
  (zl (zq (zF Ze (zF za4 zj (pv 1)) zj)))),?_⟩
 refine ⟨_,rfl,_,rfl,_,_,rfl,.inl ⟨_,hS,rfl⟩,_,_,rfl,rfl,_,rfl,?_⟩
 refine ite2 (fun c=>?_) (fun c=>?_)
 ·have c':j < (((ns.map V.int).length:Nat):Int):=of_decide_eq_true c
  rw [List.length_map] at c'
  have hj:j.toNat < ns.length:=by omega
  have ej:j = ((j.toNat:Nat):Int):=by omega
  have at1:atI (ns.map V.int) ((j.toNat:Nat):Int) = some (.int ns[j.toNat]):=zG (by rw [List.getElem?_map,List.getElem?_eq_getElem hj]; rfl)
  rw [← ej] at at1
  exact ⟨_,rfl,_,rfl,a,_,j,.int ns[j.toNat],rfl,rfl,hS,at1,q _⟩
 ·exact ⟨_,rfl,_,_,rfl,rfl,.inl ⟨by decide,by decide⟩,_,_,rfl,rfl,q _⟩
theorem zjP:FnScope ["_law_script","_law_k","_law_cell_here","_law_number_here","_law_mixed"] ["_law_script","_law_k"] (zn sBox):=mkSc rfl (by decide +kernel)
theorem zmS (F:Fun K "_law_box" "_law_box" sBox f fd) (G_lcell:Have P w K mg base "_law_cell" k ["_law_script","_law_k"] (zkN K)):FnOk P w K mg base CX0 (k + 1) f fd ["_law_script","_law_k"] (zmQ K):=by
 refine F.ok zjP (by rintro _ _ _ _ ⟨_,_,_,rfl,_⟩; rfl) fun cdv A outer s H vs Q E hr h=>?_
 obtain ⟨a,ns,j,rfl,hS,h0,q⟩:=h
 refine ⟨_,(zi (zw (i:=2) zjP.nd rfl (Or.inl rfl) (zt G_lcell hr rfl (zc (pv 0) (zc (pv 1) zd))))
  (zi (zw (i:=3) zjP.nd rfl (Or.inl rfl) (zF zaN (zF za4 (zF Ze (zF zaN (pv 2) zj) zj) zj) zj))
  (zi (zw (i:=4) zjP.nd rfl (Or.inl rfl) (zF zaN (zF Ze (zF za4 (pv 3) (zF Ze (zF zaN (pv 3) zj) zj)) (zF za4 zj (pv 1))) zj))
  (zi (zJ (zB Za (zF zaN (zt G_lcell hr rfl (zc (pv 0) (zc zj zd))) zj) zj (nomark _)) (zl (zq (zL (zc (pv 2) (zc zj (zc (pv 4) zd)))))) zx)
  (zl (zq (zL (zc (pv 4) (zc zj (zc zj zd)))))))))),?_⟩
 refine ⟨_,rfl,_,rfl,a,ns,j,rfl,hS,h0,fun c=>?_⟩
 refine ⟨_,rfl,_,_,rfl,rfl,pos _,_,_,rfl,rfl,_,_,rfl,rfl,.inr ⟨by decide,by decide⟩,_,_,rfl,rfl,pos _,?_⟩
 have b1:0<=(c % 2147483629 + 11) * 69621 % 2147483629:=Int.emod_nonneg _ (by decide)
 have b2:(c % 2147483629 + 11) * 69621 % 2147483629 < 2147483629:=Int.emod_lt_of_pos _ (by decide)
 refine ⟨_,rfl,_,rfl,_,_,rfl,rfl,pos _,_,_,rfl,rfl,_,_,rfl,rfl,.inl ⟨by omega,by omega⟩,_,rfl,_,_,rfl,rfl,.inl ⟨by decide,by decide⟩,_,_,rfl,rfl,_,_,rfl,rfl,pos _,?_⟩
 refine ⟨_,rfl,a,ns,0,rfl,hS,Int.le_refl 0,fun c0=>?_⟩
 refine ⟨_,_,rfl,rfl,pos _,rfl,_,rfl,?_⟩
 refine ite2 (fun e=>?_) (fun e=>?_)
 ·exact ⟨_,rfl,_,rfl,zl3,fun p hp=>q _ _ _ p hp⟩
 ·exact ⟨_,rfl,zl3,fun p hp=>q _ _ _ p hp⟩
theorem zgg:FnScope ["_law_box_here","_law_wide","_law_found"] ["_law_box_here","_law_wide"] (zn zlr):=mkSc rfl (by decide +kernel)
theorem zmT {n:Int} (h0:0 < n) (h:n < 10 ^ 61):n.natAbs.log2 < 9000:=by
 have h1:n.natAbs < 2 ^ 210:=by
  have:(10:Int) ^ 61<=2 ^ 210:=by decide
  omega
 have:=(Nat.log2_lt (by omega)).mpr h1
 omega
theorem zlu (F:Fun K "_law_take" "_law_take" zlr f fd):FnOk P w K mg base CX0 (k + 1) f fd ["_law_box_here","_law_wide"] Z7:=by
 refine F.ok zgg (by rintro _ _ _ _ ⟨_,_,rfl,_⟩; rfl) fun cdv A outer s H vs Q E hr h=>?_
 obtain ⟨b,n,rfl,⟨a0,f0,m,hb⟩,hn,hn2,q⟩:=h
 refine ⟨_,(zi (zJ (zbm (zB Za (zD zy (pv 0) zj (fun _ _=>rfl)) zj (nomark _)) (zaD (zB zah (zD zy (pv 0) zj (fun _ _=>rfl)) (zA (zc zj (zc (zdd zbZ zj) zd))) (by rfl)))).pt (zi (zaM (zD zy (pv 0) zj (fun _ _=>rfl)) (zcs (pv 0) zj zbq))
  (zl (zaM zj (zcs (pv 0) zj zbq)))) zx)
  (zi (zJ (zB Za (zD zy (pv 0) zj (fun _ _=>rfl)) zj (nomark _)) (zi (zw (i:=2) zgg.nd rfl (Or.inl rfl) (zF zaN (zD zy (pv 0) zj (fun _ _=>rfl)) (pv 1)))
  (zi (zaM (zF zjN (zD zy (pv 0) zj (fun _ _=>rfl)) (pv 1)) (zcs (pv 0) zj zbq))
  (zl (zq (pv 2))))) zx)
  (zi (zaM (zF zaN (zF Ze (zF za4 (zD zy (pv 0) zj (fun _ _=>rfl)) zj) zj) zj) (zcs (pv 0) zj zbq))
  (zi (zw (i:=2) zgg.nd rfl (Or.inl rfl) (zF zaN (zF za4 (zD zy (pv 0) zj (fun _ _=>rfl)) (zF Ze (zF zaN (zD zy (pv 0) zj (fun _ _=>rfl)) zj) zj)) zj))
  (zi (zJ (zB zeq (pv 1) (zF zcu zj zj) (nomark _)) (zl (zw (i:=2) zgg.nd rfl (Or.inl rfl) (zF Ze (zF zcu (pv 2) zj) (pv 2)))) zx)
  (zl (zq (zF zaN (pv 2) (pv 1))))))))),?_⟩
 refine seqI (fun σ' H'=>σ' = [some (.ref b),some (.int n),none]/\Step b H H') (fun σ' H1 h1=>?_) (fun rest=>?_)
 ·obtain ⟨rfl,st1⟩:=h1
  obtain ⟨a,f,m,hb1⟩:=st1.box
  refine ⟨_,rfl,b,_,1,.int f,rfl,rfl,SqL.of hb1,rfl,rfl,_,rfl,?_⟩
  refine ite2 (fun e=>?_) (fun e=>?_)
  ·refine ⟨_,rfl,b,_,0,.int a,rfl,rfl,SqL.of hb1,rfl,_,rfl,_,_,rfl,rfl,hn,?_⟩
   refine ⟨_,rfl,b,_,0,.int a,rfl,rfl,SqL.of hb1,rfl,_,rfl,_,_,rfl,rfl,⟨hn,zmT hn hn2⟩,_,rfl,b,_,0,0,rfl,rfl,hb1,rfl,?_⟩
   exact ⟨_,rfl,q _ _ (Int.emod_nonneg _ (by omega)) (Int.emod_lt_of_pos _ hn) (st1.trans (Step.put _ _ _))⟩
  ·refine ⟨_,rfl,b,_,0,.int a,rfl,rfl,SqL.of hb1,rfl,_,_,rfl,rfl,.inr ⟨by decide,by decide⟩,_,_,rfl,rfl,_,_,rfl,rfl,pos _,_,rfl,b,_,0,0,rfl,rfl,hb1,rfl,?_⟩
   refine ⟨_,rfl,b,_,0,_,rfl,rfl,SqL.of zh,rfl,_,rfl,b,_,0,_,rfl,rfl,SqL.of zh,rfl,_,_,rfl,rfl,pos _,_,_,rfl,rfl,_,_,rfl,rfl,.inr ⟨?_,?_⟩,_,_,rfl,rfl,pos _,?_⟩
   ·have:=Int.emod_nonneg ((a * 69621 + 104729) % 2147483587) (show (16807:Int)≠0 by decide)
    omega
   ·have:=Int.emod_lt_of_pos ((a * 69621 + 104729) % 2147483587) (show (0:Int) < 16807 by decide)
    omega
   dsimp only [ZD]
   refine seqI (t:=tIfS _ _ _) (fun σ' H'=>∃ x:Int,σ' = [some (.ref b),some (.int n),some (.int x)]/\Step b H H') (fun σ' H1 h1=>?_) (fun rest=>?_)
   ·obtain ⟨x,rfl,st2⟩:=h1
    exact ⟨_,rfl,_,rfl,_,_,rfl,rfl,hn,q _ _ (Int.emod_nonneg _ (by omega)) (Int.emod_lt_of_pos _ hn) st2⟩
   ·refine ⟨_,rfl,_,_,rfl,rfl,⟨by decide,by decide,by decide⟩,_,_,rfl,rfl,_,rfl,?_⟩
    refine ite2 (fun e=>?_) (fun e=>?_)
    ·refine ⟨_,rfl,_,_,rfl,rfl,⟨by decide,by decide,?_⟩,_,rfl,_,_,rfl,rfl,rest _ _ ⟨_,rfl,st1.trans (Step.put _ _ _)⟩⟩
     have l1:=Int.emod_nonneg ((a * 69621 + 104729) % 2147483587 * ((a * 69621 + 104729) % 2147483587 % 16807 + 1)) (show (2147483579:Int)≠0 by decide)
     have l2:=Int.emod_lt_of_pos ((a * 69621 + 104729) % 2147483587 * ((a * 69621 + 104729) % 2147483587 % 16807 + 1)) (show (0:Int) < 2147483579 by decide)
     omega
    ·exact rest _ _ ⟨_,rfl,st1.trans (Step.put _ _ _)⟩
 ·refine ⟨_,rfl,b,_,1,.int f0,rfl,rfl,SqL.of hb,rfl,rfl,_,rfl,?_⟩
  refine ite2 (fun e=>?_) (fun e=>?_)
  ·refine ⟨_,rfl,b,_,0,.int a0,rfl,rfl,SqL.of hb,rfl,_,rfl,zl2,fun t ht=>?_⟩
   have hb2:upd H t (.tup [.int 0,.int (-1)]) b = some (.lst [.int a0,.int f0,.int m]):=by rw [zr (zm hb ht)]; exact hb
   refine ⟨t,_,rfl,.inr (SqT.of zh),rfl,rfl,_,rfl,?_⟩
   refine ite2 (fun e=>?_) (fun e=>?_)
   ·refine ⟨_,rfl,b,_,2,.int m,rfl,rfl,SqL.of hb2,rfl,_,rfl,b,_,0,0,rfl,rfl,hb2,rfl,?_⟩
    refine ⟨_,rfl,b,_,1,1,rfl,rfl,zh,rfl,?_⟩
    exact rest _ _ ⟨rfl,((Step.new ⟨_,_,_,hb⟩ ht).trans (Step.put _ _ _)).trans (Step.put _ _ _)⟩
   ·exact rest _ _ ⟨rfl,Step.new ⟨_,_,_,hb⟩ ht⟩
  ·refine iteF ?_
   exact rest _ _ ⟨rfl,Step.refl ⟨_,_,_,hb⟩⟩
inductive W where
 | num (i:Int)
 | txt (x:Str)
 | lst (ws:List W)
mutual
def W.size:W->Int
 | .num _=>1
 | .txt x=>1 + (x.length:Int)
 | .lst ws=>1 + sizes ws
def sizes:List W->Int
 | []=>0
 | w :: r=>w.size + sizes r
end
mutual
def W.depth:W->Nat
 | .num _=>0
 | .txt _=>0
 | .lst ws=>1 + depths ws
def depths:List W->Nat
 | []=>0
 | w :: r=>max w.depth (depths r)
end
mutual
def W.Ok:W->Prop
 | .num i=>-(10 ^ 60) < i/\i < 10 ^ 60
 | .txt x=>x.length<=400/\Signs x
 | .lst ws=>ws.length<=60/\Oks ws
def Oks:List W->Prop
 | []=>True
 | w :: r=>w.Ok/\Oks r
end
theorem zgY (ws:List W) (w:W):sizes (ws ++ [w]) = sizes ws + w.size:=by
 induction ws with
 | nil=>simp [sizes]
 | cons x r ih=>simp only [List.cons_append,sizes,ih]; omega
theorem zfy (ws:List W) (w:W):depths (ws ++ [w]) = max (depths ws) w.depth:=by
 induction ws with
 | nil=>simp [depths]
 | cons x r ih=>simp only [List.cons_append,depths,ih]; omega
theorem zjQ (ws:List W) (w:W):Oks (ws ++ [w]) ↔ Oks ws/\w.Ok:=by
 induction ws with
 | nil=>simp [Oks]
 | cons x r ih=>simp only [List.cons_append,Oks,ih,and_assoc]
theorem zcT {ws:List W} (h:Oks ws):∀ w∈ws,w.Ok:=by
 induction ws with
 | nil=>intro w hw; cases hw
 | cons x r ih=>
  intro w hw
  rcases List.mem_cons.mp hw with rfl | hw
  ·exact h.1
  ·exact ih h.2 w hw
theorem zad {ws:List W}:∀ w∈ws,w.depth<=depths ws:=by
 induction ws with
 | nil=>intro w hw; cases hw
 | cons x r ih=>
  intro w hw
  simp only [depths]
  rcases List.mem_cons.mp hw with rfl | hw
  ·omega
  ·have:=ih w hw
   omega
inductive RW (H:Hp):V->W->Prop where
 | num (i:Int):RW H (.int i) (.num i)
 | txt (x:Str):RW H (.str x) (.txt x)
 | lst {a:Addr}{vs:List V}{ws:List W}:H a = some (.tup vs)->vs.length = ws.length->(∀ (i:Nat) (v:V) (w:W),vs[i]? = some v->ws[i]? = some w->RW H v w)->RW H (.ref a) (.lst ws)
structure RWs (H:Hp) (vs:List V) (ws:List W):Prop where
 len:vs.length = ws.length
 at':∀ (i:Nat) (v:V) (w:W),vs[i]? = some v->ws[i]? = some w->RW H v w
def Tups (H H':Hp):Prop:=∀ a vs,H a = some (.tup vs)->H' a = some (.tup vs)
theorem RW.mono {H H':Hp} (t:Tups H H') {v:V}{w:W} (h:RW H v w):RW H' v w:=by
 induction h with
 | num i=>exact .num i
 | txt x=>exact .txt x
 | lst e l _ ih=>exact .lst (t _ _ e) l ih
theorem RWs.mono {H H':Hp} (t:Tups H H') {vs:List V}{ws:List W} (h:RWs H vs ws):RWs H' vs ws:=⟨h.len,fun i v w a b=>(h.at' i v w a b).mono t⟩
theorem RWs.snoc {H:Hp}{vs:List V}{ws:List W}{v:V}{w:W} (h:RWs H vs ws) (x:RW H v w):RWs H (vs ++ [v]) (ws ++ [w]):=by
 refine ⟨by rw [List.length_append,List.length_append,h.len]; rfl,fun i v' w' a b=>?_⟩
 by_cases hi:i < vs.length
 ·rw [List.getElem?_append_left hi] at a
  rw [List.getElem?_append_left (h.len ▸ hi)] at b
  exact h.at' i v' w' a b
 ·rw [List.getElem?_append_right (by omega)] at a
  rw [List.getElem?_append_right (by have:=h.len; omega)] at b
  have hi0:i - vs.length = 0:=by
   have:=(List.getElem?_eq_some_iff.mp a).1
   simp at this
   omega
  have hi1:i - ws.length = 0:=by have:=h.len; omega
  rw [hi0] at a
  rw [hi1] at b
  have e1:v = v':=by simpa using a
  have e2:w = w':=by simpa using b
  rw [← e1,← e2]
  exact x
theorem Step.tups {b:Addr}{H H':Hp} (x:Step b H H') (hb:zP H b):Tups H H':=fun a vs e=>x.keepN hb e (fun _ _ _ z=>nomatch z)
theorem zjR {H:Hp}{p:Addr}{o:HO} (h:H p = none):Tups H (upd H p o):=fun a vs e=>by rw [zr (zm e h)]; exact e
theorem zcm {H:Hp}{p:Addr}{xs:List V}{o:HO} (h:H p = some (.lst xs)):Tups H (upd H p o):=fun a vs e=>by rw [zr (zk5 e h (fun z=>nomatch z))]; exact e
def zbw:Str:=Str.ofString " !#$&'()*+,-./0123456789:;<=>?@ABCDEFGHIJKLMNOPQRSTUVWXYZ"
def zbx:Str:=Str.ofString "[\\]^_`abcdefghijklmnopqrstuvwxyz{|}~"
theorem zaw:(zbw ++ zbx).length = 93:=by decide +kernel
theorem zia:∀ c∈(zbw ++ zbx).cps.toList,32<=c/\c<=126/\c≠34/\c≠37:=by decide +kernel
theorem Zs (x:Str):x.cps.toList.length = x.length:=by simp [Str.length]
theorem zan (x y:Str):(x ++ y).cps.toList = x.cps.toList ++ y.cps.toList:=by
 show (x.cps ++ y.cps).toList = _
 simp
theorem zcU (x y:Str):(x ++ y).length = x.length + y.length:=by
 rw [← Zs,zan,List.length_append,Zs,Zs]
mutual
theorem zjS:∀ w:W,1<=w.size
 | .num _=>by simp [W.size]
 | .txt x=>by simp only [W.size]; omega
 | .lst ws=>by have:=sizes_nn ws; simp only [W.size]; omega
theorem sizes_nn:∀ ws:List W,0<=sizes ws
 | []=>by simp [sizes]
 | w :: r=>by have h1:=zjS w; have h2:=sizes_nn r; simp only [sizes]; omega
end
theorem zdr:FnScope ["_law_box_here","_law_most","_law_signs","_law_found","_law_k"] ["_law_box_here","_law_most"] (zn zls):=mkSc rfl (by decide +kernel)
theorem small {n:Nat} (h:n<=1000000):n<=sizeLine:=Nat.le_trans h (by decide)
theorem zlv (F:Fun K "_law_text" "_law_text" zls f fd) (G_ltake:Have P w K mg base "_law_take" k ["_law_box_here","_law_wide"] Z7) (m_len:mg "len" = none) (m_range:mg "range" = none):
  FnOk P w K mg base CX0 (k + 1) f fd ["_law_box_here","_law_most"] zh9:=by
 refine F.ok zdr (by rintro _ _ _ _ ⟨_,_,rfl,_⟩; rfl) fun cdv A outer s H vs Q E hr h=>?_
 obtain ⟨b,n,rfl,hb,hn,hn2,q⟩:=h
 refine ⟨_,(zi (zw (i:=2) zdr.nd rfl (Or.inl rfl) zo)
  (zi (zw (i:=2) zdr.nd rfl (Or.inl rfl) (zF zab (pv 2) zo))
  (zi (zw (i:=3) zdr.nd rfl (Or.inl rfl) zo)
  (zi (zau PassesOwn.never rfl (Zq rfl m_range (zc (zt G_ltake hr rfl (zc (pv 0) (zc (zF Ze (pv 1) zj) zd))) zd)) (zV (i:=4) zdr.nd rfl (Or.inl rfl)) (zl (zw (i:=3) zdr.nd rfl (Or.inl rfl) (zF zab (pv 3) (zD zeC (pv 2) (zt G_ltake hr rfl (zc (pv 0) (zc (zu zM rfl m_len PySem.boot_len (zc (pv 2) zd)) zd))) (fun _ _=>rfl))))))
  (zl (zq (pv 3))))))),?_⟩
 refine ⟨_,rfl,zbw,zbx,rfl,rfl,small (by decide +kernel),?_⟩
 refine ⟨_,rfl,_,rfl,_,_,rfl,rfl,b,n + 1,rfl,hb,by omega,by omega,fun r H1 h0 h1 st=>?_⟩
 refine ⟨r,rfl,by omega,by omega,zbo (n:=r.toNat) (fun i σ' H'=>∃ (x:Str) (o:Option V),σ' = [some (.ref b),some (.int n),some (.str (zbw ++ zbx)),some (.str x),o]/\x.length = i/\Signs x/\Step b H H')
  ⟨Str.ofString "",none,rfl,rfl,?_,st⟩ (fun i σ' H' hi h=>?_) (fun σ' H' h=>?_)⟩
 ·intro c hc
  have e0:(Str.ofString "").cps.toList = []:=by decide +kernel
  rw [e0] at hc
  cases hc
 ·obtain ⟨x,o,rfl,hx,sx,st1⟩:=h
  refine ⟨_,rfl,_,rfl,_,rfl,_,rfl,_,_,rfl,⟨small (by rw [zaw]; decide),rfl⟩,b,_,rfl,st1.box,by rw [zaw]; decide,by rw [zaw]; decide,fun r2 H2 r0 r1 st2=>?_⟩
  rw [zaw] at r1
  have hr2:r2.toNat < (zbw ++ zbx).cps.toList.length:=by rw [Zs,zaw]; omega
  have er2:r2 = ((r2.toNat:Nat):Int):=by omega
  have a1:atI (zbw ++ zbx).cps.toList ((r2.toNat:Nat):Int) = some (zbw ++ zbx).cps.toList[r2.toNat]:=zG (List.getElem?_eq_getElem hr2)
  rw [← er2] at a1
  refine ⟨_,r2,_,rfl,rfl,small (by rw [zaw]; decide),a1,x,_,rfl,rfl,small ?_,?_⟩
  ·have:(Str.mk #[(zbw ++ zbx).cps.toList[r2.toNat]]).length = 1:=rfl
   rw [this]
   omega
  ·refine ⟨_,_,rfl,?_,?_,st1.trans st2⟩
   ·rw [zcU,hx]
    rfl
   ·intro c hc
    rw [zan] at hc
    rcases List.mem_append.mp hc with hc | hc
    ·exact sx c hc
    ·have:c = (zbw ++ zbx).cps.toList[r2.toNat]:=by simpa using hc
     rw [this]
     exact zia _ (List.getElem_mem _)
 ·obtain ⟨x,o,rfl,hx,sx,st1⟩:=h
  exact ⟨_,rfl,q x H' (by omega) sx st1⟩
theorem zgh:FnScope ["_law_box_here","_law_kind"] ["_law_box_here"] (zn zfv):=mkSc rfl (by decide +kernel)
theorem zib (F:Fun K "_law_number" "_law_number" zfv f fd) (G_ltake:Have P w K mg base "_law_take" k ["_law_box_here","_law_wide"] Z7):
  FnOk P w K mg base CX0 (k + 1) f fd ["_law_box_here"] zdZ:=by
 refine F.ok zgh (by rintro _ _ _ _ ⟨_,rfl,_⟩; rfl) fun cdv A outer s H vs Q E hr h=>?_
 obtain ⟨b,rfl,hb,q⟩:=h
 refine ⟨_,(zi (zw (i:=1) zgh.nd rfl (Or.inl rfl) (zt G_ltake hr rfl (zc (pv 0) (zc zj zd))))
  (zi (zJ (zB Za (pv 1) zj (nomark _)) (zl (zq (zF Ze (zF Zf (zt G_ltake hr rfl (zc (pv 0) (zc (zF Zf (zF za4 zj (zF zcu zj zj)) zj) zd))) (zF zcu zj zj)) zj))) zx)
  (zi (zJ (zB Za (pv 1) zj (nomark _)) (zl (zq (zD zy (zL (zc (zF Zf (zF zcu zj zj) zj) (zc (zF Zf zj (zF zcu zj zj)) (zc zj (zc (zdd zbZ zj) zd))))) (zt G_ltake hr rfl (zc (pv 0) (zc zj zd))) (fun _ _=>rfl)))) zx)
  (zl (zq (zF Zf (zt G_ltake hr rfl (zc (pv 0) (zc zj zd))) zj)))))),?_⟩
 refine ⟨_,rfl,b,4,rfl,hb,by decide,by decide,fun r H1 h0 h1 st=>?_⟩
 refine ⟨_,rfl,rfl,_,rfl,?_⟩
 refine ite2 (fun e=>?_) (fun e=>?_)
 ·refine ⟨_,rfl,_,_,rfl,rfl,⟨by decide,by decide,by decide⟩,_,_,rfl,rfl,.inl ⟨by decide,by decide⟩,_,_,rfl,rfl,b,_,rfl,st.box,by decide,by decide,fun r2 H2 r0 r1 st2=>?_⟩
  refine ⟨_,_,rfl,rfl,⟨by decide,by decide,by decide⟩,_,_,rfl,rfl,_,_,rfl,rfl,q _ _ ?_ ?_ (st.trans st2)⟩
  ·have:(10:Int) ^ (60:Int).toNat = 10 ^ 60:=rfl
   omega
  ·have:(10:Int) ^ (60:Int).toNat = 10 ^ 60:=rfl
   have r1:r2 < 2 * 10 ^ 60 - 1:=r1
   omega
 ·refine ⟨_,rfl,rfl,_,rfl,?_⟩
  refine ite2 (fun e=>?_) (fun e=>?_)
  ·refine ⟨_,_,rfl,rfl,⟨by decide,by decide,by decide⟩,_,_,rfl,rfl,_,_,rfl,rfl,⟨by decide,by decide,by decide⟩,_,_,rfl,rfl,_,rfl,zl4,fun p hp=>?_⟩
   have st1:=st.trans (Step.new (o:=.lst [.int (10 ^ 60 - 1),.int (1 - 10 ^ 60),.int 0,.int (-1)]) st.box hp)
   refine ⟨_,rfl,b,4,rfl,st1.box,by decide,by decide,fun r2 H2 r0 r1 st2=>?_⟩
   have hp2:H2 p = some (.lst [.int (10 ^ 60 - 1),.int (1 - 10 ^ 60),.int 0,.int (-1)]):=by
    obtain ⟨a',f',m',e'⟩:=st.box
    exact st2.keep p _ (zm e' hp).symm zh
   have hcases:r2 = 0\/r2 = 1\/r2 = 2\/r2 = 3:=by omega
   rcases hcases with rfl | rfl | rfl | rfl
   ·exact ⟨p,_,0,_,rfl,rfl,SqL.of hp2,rfl,q _ _ (by decide) (by decide) (st1.trans st2)⟩
   ·exact ⟨p,_,1,_,rfl,rfl,SqL.of hp2,rfl,q _ _ (by decide) (by decide) (st1.trans st2)⟩
   ·exact ⟨p,_,2,_,rfl,rfl,SqL.of hp2,rfl,q _ _ (by decide) (by decide) (st1.trans st2)⟩
   ·exact ⟨p,_,3,_,rfl,rfl,SqL.of hp2,rfl,q _ _ (by decide) (by decide) (st1.trans st2)⟩
  ·refine ⟨_,rfl,b,12,rfl,st.box,by decide,by decide,fun r2 H2 r0 r1 st2=>?_⟩
   exact ⟨_,_,rfl,rfl,q _ _ (by have:(3:Int) < 10 ^ 60:=(by decide); omega) (by have:(12:Int) < 10 ^ 60:=(by decide); omega) (st.trans st2)⟩
def zbS (n:Nat):Sp:=fun vs H Q _=>∃ (b:Addr) (room deep:Int),vs = [.ref b,.int room,.int deep]/\zP H b/\1<=room/\room < 1000/\0<=deep/\deep < n /\
 ∀ (v:V) (x:W) (H':Hp),RW H' v x->x.Ok->(x.depth:Int)<=deep->x.size<=16 * room->Step b H H'->Q v H'
theorem zaV:FnScope ["_law_box_here","_law_room","_law_deep","_law_kind","_law_wide","_law_left","_law_found","_law_k","_law_share"] ["_law_box_here","_law_room","_law_deep"] (zn zh6):=mkSc rfl (by decide +kernel)
theorem zjT {n:Nat} (F:Fun K "_law_worth" "_law_worth" zh6 f fd) (G_ltake:Have P w K mg base "_law_take" k ["_law_box_here","_law_wide"] Z7) (G_ltext:Have P w K mg base "_law_text" k ["_law_box_here","_law_most"] zh9)
  (G_lnumber:Have P w K mg base "_law_number" k ["_law_box_here"] zdZ) (G_lworth:Have P w K mg base "_law_worth" k ["_law_box_here","_law_room","_law_deep"] (zbS n))
  (m_min:mg "min" = none) (m_range:mg "range" = none) (m_tuple:mg "tuple" = none):FnOk P w K mg base CX0 (k + 1) f fd ["_law_box_here","_law_room","_law_deep"] (zbS (n + 1)):=by
 refine F.ok zaV (by rintro _ _ _ _ ⟨_,_,_,rfl,_⟩; rfl) fun cdv A outer s H vs Q E hr h=>?_
 obtain ⟨b,room,deep,rfl,hb,hr1,hr2,hd0,hd1,q⟩:=h
 refine ⟨_,(zi (zw (i:=3) zaV.nd rfl (Or.inl rfl) (zt G_ltake hr rfl (zc (pv 0) (zc zj zd))))
  (zi (zJ (zb6 (zB Za (pv 3) zj (nomark _)) (zaR (zbm (zB Za (pv 3) zj (nomark _)) (zaD (zB zfm (pv 2) zj (nomark _)))).pt)).pt (zl (zq (zt G_lnumber hr rfl (zc (pv 0) zd)))) zx)
  (zi (zJ (zB Za (pv 3) zj (nomark _)) (zl (zq (zt G_ltext hr rfl (zc (pv 0) (zc zj zd))))) zx)
  (zi (zw (i:=4) zaV.nd rfl (Or.inl rfl) (zt G_ltake hr rfl (zc (pv 0) (zc (zu (zes rfl) rfl m_min PyProof.Rows.boot_min (zc (pv 1) (zc zj zd))) zd))))
  (zi (zw (i:=5) zaV.nd rfl (Or.inl rfl) (zF Zf (pv 1) zj))
  (zi (zw (i:=6) zaV.nd rfl (Or.inl rfl) (zL zd))
  (zi (zau PassesOwn.never rfl (Zq rfl m_range (zc (pv 4) zd)) (zV (i:=7) zaV.nd rfl (Or.inl rfl)) (zi (zw (i:=8) zaV.nd rfl (Or.inl rfl) (zF Ze zj (zt G_ltake hr rfl (zc (pv 0) (zc (zF Zf (pv 5) (zF Zf (zF Zf (pv 4) zj) (pv 7))) zd)))))
  (zi (ZN (zb8 PySem.F.plainAttrs_list PySem.F.slot_list_append PySem.F.type_list_append zai (pv 6) (zc (zt G_lworth hr rfl (zc (pv 0) (zc (pv 8) (zc (zF Zf (pv 2) zj) zd)))) zd)))
  (zl (zw (i:=5) zaV.nd rfl (Or.inl rfl) (zF Zf (pv 5) (pv 8)))))))
  (zl (zq (zE zN rfl m_tuple zI (zc (pv 6) zd))))))))))),?_⟩
 refine ⟨_,rfl,b,3,rfl,hb,by decide,by decide,fun kd H1 k0 k1 st=>?_⟩
 dsimp only [ZD]
 refine seqI (t:=tIfS _ _ _) (fun σ' H'=>σ' = [some (.ref b),some (.int room),some (.int deep),some (.int kd),none,none,none,none,none]/\Step b H H'/\(kd = 1\/(kd = 2/\1<=deep))) (fun σ' H2 h2=>?_) (fun rest=>?_)
 ·obtain ⟨rfl,st2,hk⟩:=h2
  refine ⟨_,rfl,rfl,_,rfl,?_⟩
  refine ite2 (fun e=>?_) (fun e=>?_)
  ·refine ⟨_,rfl,b,15,rfl,st2.box,by decide,by decide,fun x H3 hx sx st3=>?_⟩
   refine q _ _ _ (.txt x) ⟨by omega,sx⟩ (by show ((0:Nat):Int)<=deep; omega) ?_ (st2.trans st3)
   show 1 + (x.length:Int)<=16 * room
   omega
  ·have e':¬ V.int kd = V.int 1:=of_decide_eq_false (Bool.eq_false_iff.mpr e)
   have hk2:kd = 2/\1<=deep:=by
    rcases hk with hk | hk
    ·exact absurd (by rw [hk]) e'
    ·exact hk
   refine ⟨_,rfl,_,rfl,room,61,rfl,b,_,rfl,st2.box,?_,?_,fun wide H3 w0 w1 st3=>?_⟩
   ·split <;> omega
   ·split <;> omega
   have w2:wide < room/\wide < 61:=by
    revert w1
    split <;> intro w1 <;> omega
   refine ⟨_,rfl,_,_,rfl,rfl,zl0,fun l hl=>?_⟩
   have st4:=(st2.trans st3).trans (Step.new (o:=.lst []) st3.box hl)
   have lb:l≠b:=by
    obtain ⟨a',f',m',e'⟩:=st3.box
    exact (zm e' hl).symm
   have hlH:H l = none:=by
    cases e:H l with
    | none=>rfl
    | some o=>
     have:=(st2.trans st3).keep l o lb e
     rw [hl] at this
     cases this
   refine ⟨_,rfl,wide,rfl,by omega,by omega,zbo (n:=wide.toNat) (fun i σ' H'=>∃ (left:Int) (vs:List V) (ws:List W) (o1 o2:Option V),
     σ' = [some (.ref b),some (.int room),some (.int deep),some (.int kd),some (.int wide),some (.int left),some (.ref l),o1,o2]/\H' l = some (.lst vs)/\RWs H' vs ws/\ws.length = i/\Oks ws/\(depths ws:Int)<=deep - 1 /\
     sizes ws<=16 * (room - 1 - left)/\wide - i<=left/\Step b H H')
    ⟨room - 1,[],[],none,none,rfl,zh,⟨rfl,fun i v w e=>by simp at e⟩,rfl,trivial,by show ((0:Nat):Int)<=deep - 1; omega,by simp [sizes],by omega,st4⟩ (fun i σ' H' hi h=>?_) (fun σ' H' h=>?_)⟩
   ·obtain ⟨left,vs,ws,o1,o2,rfl,hl',hrw,hlen,hok,hdp,hsz,hleft,st5⟩:=h
    have nn:=sizes_nn ws
    refine ⟨_,rfl,_,rfl,_,rfl,_,_,rfl,rfl,_,rfl,_,_,rfl,rfl,_,_,rfl,rfl,b,_,rfl,st5.box,?_,?_,fun r H5 r0 r1 st6=>?_⟩
    ·omega
    ·have:(2000:Int) < 10 ^ 61:=by decide
     omega
    have hl5:H5 l = some (.lst vs):=st6.keep l _ lb hl'
    refine ⟨_,_,rfl,rfl,_,rfl,.inl ⟨rfl,_,SqL.of hl5⟩,_,rfl,_,rfl,_,rfl,_,_,rfl,rfl,b,_,_,rfl,st6.box,?_,?_,?_,?_,fun v x H6 rx okx dx sx st7=>?_⟩
    ·omega
    ·omega
    ·omega
    ·omega
    have hl6:H6 l = some (.lst vs):=st7.keep l _ lb hl5
    have hlv:vs.length<=61:=by have:=hrw.len; omega
    refine ⟨l,vs,v,rfl,rfl,hl6,Nat.lt_of_le_of_lt hlv (by decide),?_⟩
    refine ⟨_,rfl,_,rfl,_,_,rfl,rfl,?_⟩
    have t6:Tups H' H6:=fun a us e=>(st7.tups st6.box) a us ((st6.tups st5.box) a us e)
    have t7:=zcm (o:=.lst (vs ++ [v])) hl6
    refine ⟨_,vs ++ [v],ws ++ [x],_,_,rfl,zh,((hrw.mono t6).mono t7).snoc (rx.mono t7),?_,(zjQ _ _).mpr ⟨hok,okx⟩,?_,?_,?_,?_⟩
    ·rw [List.length_append,hlen]; rfl
    ·rw [zfy]; omega
    ·rw [zgY]; omega
    ·omega
    ·refine ⟨?_,fun c o hc e=>?_⟩
     ·obtain ⟨a',f',m',e'⟩:=st7.box
      exact ⟨a',f',m',by rw [zr lb.symm]; exact e'⟩
     ·rw [zr (zm e hlH)]
      exact (st5.trans (st6.trans st7)).keep c o hc e
   ·obtain ⟨left,vs,ws,o1,o2,rfl,hl',hrw,hlen,hok,hdp,hsz,hleft,st5⟩:=h
    refine ⟨_,rfl,l,vs,rfl,.inl ⟨SqL.of hl',fun t ht=>?_⟩⟩
    have t6:=zjR (o:=.tup vs) ht
    refine q _ (.lst ws) _ (.lst zh hrw.len fun i v x a b=>(hrw.at' i v x a b).mono t6) ⟨by omega,hok⟩ ?_ ?_ (st5.trans (Step.new st5.box ht))
    ·show ((1 + depths ws:Nat):Int)<=deep
     omega
    ·show 1 + sizes ws<=16 * room
     omega
 ·refine ⟨_,rfl,rfl,_,rfl,?_⟩
  have fin:∀ H2,Step b H H2->zdZ [.ref b] H2 Q E0:=fun H2 st2=>⟨b,rfl,st2.box,fun i H3 i0 i1 st3=>q _ (.num i) _ (.num i) ⟨i0,i1⟩ (by show ((0:Nat):Int)<=deep; omega) (by show (1:Int)<=16 * room; omega) (st2.trans st3)⟩
  refine ite2 (fun e=>?_) (fun e=>?_)
  ·refine iteT ?_
   exact ⟨_,rfl,fin H1 st⟩
  ·have e':¬ V.int kd = V.int 0:=of_decide_eq_false (Bool.eq_false_iff.mpr e)
   have kne:kd≠0:=fun z=>e' (by rw [z])
   refine ⟨_,rfl,rfl,_,rfl,?_⟩
   refine ite2 (fun e2=>?_) (fun e2=>?_)
   ·have e2':V.int kd = V.int 2:=of_decide_eq_true e2
    have kd2:kd = 2:=by injection e2'
    refine ⟨_,rfl,_,_,rfl,rfl,_,rfl,?_⟩
    refine ite2 (fun e3=>?_) (fun e3=>?_)
    ·exact ⟨_,rfl,fin H1 st⟩
    ·have e3':¬ deep < 1:=of_decide_eq_false (Bool.eq_false_iff.mpr e3)
     exact rest _ _ ⟨rfl,st,.inr ⟨kd2,by omega⟩⟩
   ·have e2':¬ V.int kd = V.int 2:=of_decide_eq_false (Bool.eq_false_iff.mpr e2)
    have kne2:kd≠2:=fun z=>e2' (by rw [z])
    refine iteF ?_
    exact rest _ _ ⟨rfl,st,.inl (by omega)⟩
inductive T where
 | non
 | bl (b:Bool)
 | num (i:Int)
 | txt (x:Str)
 | tup (ts:List T)
 | lst
 | dic
mutual
def T.size:T->Int
 | .txt x=>1 + (x.length:Int)
 | .tup ts=>1 + tsizes ts
 | _=>1
def tsizes:List T->Int
 | []=>0
 | t :: r=>t.size + tsizes r
end
mutual
def T.nodes:T->Nat
 | .tup ts=>1 + tnodes ts
 | _=>1
def tnodes:List T->Nat
 | []=>0
 | t :: r=>t.nodes + tnodes r
end
def zb9 (c:Nat):Bool:=decide (32<=c) && (decide (c<=126) && (decide (c≠34) && decide (c≠37)))
def zbj (x:Str):Bool:=x.cps.toList.all zb9
def zds (lv:Int):T->Bool
 | .num i=>decide (-(10 ^ 60) < i/\i < 10 ^ 60)
 | .txt x=>decide (x.length<=400) && zbj x
 | .tup ts=>decide (ts.length<=60) && decide (0 < lv)
 | _=>false
mutual
def zcV:T->Int->Bool
 | .tup ts,lv=>decide (ts.length<=60) && decide (0 < lv) && fitsA ts (lv - 1)
 | .num i,_=>decide (-(10 ^ 60) < i/\i < 10 ^ 60)
 | .txt x,_=>decide (x.length<=400) && zbj x
 | .non,_=>false
 | .bl _,_=>false
 | .lst,_=>false
 | .dic,_=>false
def fitsA:List T->Int->Bool
 | [],_=>true
 | t :: r,lv=>zcV t lv && fitsA r lv
end
def Z9 (t:T):Bool:=zcV t 12 && decide (t.size<=1000)
mutual
def T.Sm:T->Prop
 | .txt x=>x.length<=100000
 | .tup ts=>ts.length<=100000/\Sms ts
 | _=>True
def Sms:List T->Prop
 | []=>True
 | t :: r=>t.Sm/\Sms r
end
mutual
theorem zeL:∀ t:T,1<=t.size
 | .non=>by simp [T.size]
 | .bl _=>by simp [T.size]
 | .num _=>by simp [T.size]
 | .lst=>by simp [T.size]
 | .dic=>by simp [T.size]
 | .txt x=>by simp only [T.size]; omega
 | .tup ts=>by have:=tsizes_nn ts; simp only [T.size]; omega
theorem tsizes_nn:∀ ts:List T,0<=tsizes ts
 | []=>by simp [tsizes]
 | t :: r=>by have h1:=zeL t; have h2:=tsizes_nn r; simp only [tsizes]; omega
end
theorem zlw {ts:List T} (h:Sms ts):∀ t∈ts,t.Sm:=by
 induction ts with
 | nil=>intro t ht; cases ht
 | cons x r ih=>
  intro t ht
  rcases List.mem_cons.mp ht with rfl | ht
  ·exact h.1
  ·exact ih h.2 t ht
inductive RT (H:Hp):V->T->Prop where
 | non:RT H .non .non
 | bl (b:Bool):RT H (.bl b) (.bl b)
 | num (i:Int):RT H (.int i) (.num i)
 | txt (x:Str):RT H (.str x) (.txt x)
 | tup {a:Addr}{vs:List V}{ts:List T}:H a = some (.tup vs)->vs.length = ts.length->(∀ (i:Nat) (v:V) (t:T),vs[i]? = some v->ts[i]? = some t->RT H v t)->RT H (.ref a) (.tup ts)
 | lst {a:Addr}{vs:List V}:H a = some (.lst vs)->RT H (.ref a) .lst
 | dic {a:Addr}{kvs:List (Key × V)}:H a = some (.dK kvs)->RT H (.ref a) .dic
theorem RT.mono {H H':Hp} (s:Same H H') {v:V}{t:T} (h:RT H v t):RT H' v t:=by
 induction h with
 | non=>exact .non
 | bl b=>exact .bl b
 | num i=>exact .num i
 | txt x=>exact .txt x
 | tup e l _ ih=>exact .tup (s _ _ e) l ih
 | lst e=>exact .lst (s _ _ e)
 | dic e=>exact .dic (s _ _ e)
def zkO:T->Bool
 | .num _=>true
 | _=>false
def zcW:Sp:=fun vs H Q _=>∃ (v:V) (t:T),vs = [v]/\RT H v t/\Q (.bl (zkO t)) H
def zgi:Sp:=fun vs H Q _=>∃ c:Nat,vs = [.str ⟨#[c]⟩]/\Q (.bl (zb9 c)) H
def zkP:Sp:=fun vs H Q _=>∃ (v:V) (t:T) (lv:Int),vs = [v,.int lv]/\RT H v t/\t.Sm/\∀ H',Same H H'->Q (.bl (zds lv t)) H'
def ZR:T->Int
 | .txt x=>1 + (x.length:Int)
 | _=>1
def zic:Sp:=fun vs H Q _=>∃ (v:V) (t:T),vs = [v]/\RT H v t/\t.Sm/\Q (.int (ZR t)) H
def zeM:Sp:=fun vs H Q _=>∃ (v:V) (t:T),vs = [v]/\RT H v t/\t.Sm/\∀ H',Same H H'->Q (.bl (Z9 t)) H'
theorem zkQ (a b:Nat):decide (([a]:List Nat) < [b]) = decide (a < b):=by
 rw [Bool.eq_iff_iff,decide_eq_true_iff,decide_eq_true_iff]
 constructor
 ·intro h
  rcases List.cons_lt_cons_iff.mp h with h | ⟨_,h⟩
  ·exact h
  ·exact absurd h (List.not_lt_nil _)
 ·exact fun h=>List.cons_lt_cons_iff.mpr (.inl h)
theorem zjU:FnScope ["thing"] ["thing"] (zn zbd):=mkSc rfl (by decide +kernel)
theorem zjV (F:Fun K "is_number" "is_number" zbd f fd) (m_isi:mg "isinstance" = none) (m_int:mg "int" = none) (m_bool:mg "bool" = none):FnOk P w K mg base CX0 (k + 1) f fd ["thing"] zcW:=by
 refine F.ok zjU (by rintro _ _ _ _ ⟨_,_,rfl,_⟩; rfl) fun cdv A outer s H vs Q E hr h=>?_
 obtain ⟨v,t,rfl,rt,q⟩:=h
 refine ⟨_,(zl (zq (Z5 (zu Zo rfl m_isi zO (zc (pv 0) (zc (ZM rfl m_int Z0) zd))) (zap (zf9 (zu Zo rfl m_isi zO (zc (pv 0) (zc (ZM rfl m_bool za0) zd)))))))),?_⟩
 cases rt with
 | non=>exact ⟨_,rfl,_,_,_,_,rfl,.non,zmM,_,rfl,iteF q⟩
 | bl b=>exact ⟨_,rfl,_,_,_,_,rfl,.bl b,zmL,_,rfl,iteT ⟨_,rfl,_,_,_,_,rfl,.bl b,zmP,_,rfl,q⟩⟩
 | num i=>exact ⟨_,rfl,_,_,_,_,rfl,.int i,zkM,_,rfl,iteT ⟨_,rfl,_,_,_,_,rfl,.int i,zhY,_,rfl,q⟩⟩
 | txt x=>exact ⟨_,rfl,_,_,_,_,rfl,.str x,zmK,_,rfl,iteF q⟩
 | tup e _ _=>exact ⟨_,rfl,_,_,_,_,rfl,.tup e,zmJ,_,rfl,iteF q⟩
 | lst e=>exact ⟨_,rfl,_,_,_,_,rfl,.lst e,zmN,_,rfl,iteF q⟩
 | dic e=>exact ⟨_,rfl,_,_,_,_,rfl,.dK e,zmO,_,rfl,iteF q⟩
theorem zid:FnScope ["sign"] ["sign"] (zn zcH):=mkSc rfl (by decide +kernel)
theorem zgZ (c d:Nat):(!decide (V.str ⟨#[c]⟩ = V.str ⟨#[d]⟩)) = decide (c≠d):=by
 rw [Bool.eq_iff_iff]
 simp
theorem zie (F:Fun K "is_sign" "is_sign" zcH f fd) (m_ord:mg "ord" = none) (m_PERCENT:∃ t,mg "PERCENT" = some (.int 37 t)):FnOk P w K mg base CX0 (k + 1) f fd ["sign"] zgi:=by
 refine F.ok zid (by rintro _ _ _ _ ⟨_,rfl,_⟩; rfl) fun cdv A outer s H vs Q E hr h=>?_
 obtain ⟨c,rfl,q⟩:=h
 refine ⟨_,(zl (zq (Z5 (zjA zeK zeK zo (pv 0) zo) (Z5 (zY zjy (pv 0) zo (nomark _)) (zap (zY zjy (zu (zjC) rfl m_ord zhZ (zc (pv 0) zd)) (Z8 rfl m_PERCENT) (nomark _))))))),?_⟩
 have e32:(Str.ofString " ").cps.toList = [32]:=by decide +kernel
 have e126:(Str.ofString "~").cps.toList = [126]:=by decide +kernel
 have e34:Str.ofString "\"" = ⟨#[34]⟩:=by decide +kernel
 have l1:(!decide ((Str.mk #[c]).cps.toList < (Str.ofString " ").cps.toList)) = decide (32<=c):=by rw [e32]; show (!decide (([c]:List Nat) < [32])) = _; rw [zkQ,Bool.eq_iff_iff]; simp
 have l2:(!decide ((Str.ofString "~").cps.toList < (Str.mk #[c]).cps.toList)) = decide (c<=126):=by rw [e126]; show (!decide (([126]:List Nat) < [c])) = _; rw [zkQ,Bool.eq_iff_iff]; simp
 have l3:(!decide (V.str ⟨#[c]⟩ = V.str (Str.ofString "\""))) = decide (c≠34):=by rw [e34]; exact zgZ c 34
 have l4:(!decide (V.int ((((Str.mk #[c]).cps.getD 0 0:Nat)):Int) = V.int 37)) = decide (c≠37):=by
  show (!decide (V.int (c:Int) = V.int 37)) = decide (c≠37)
  rw [Bool.eq_iff_iff]
  simp
  omega
 refine ⟨_,rfl,_,_,rfl,rfl,_,rfl,?_⟩
 have fin:∀ b:Bool,zb9 c = b->Q (.bl b) H:=fun b e=>by rw [← e]; exact q
 refine ite2 (fun e=>?_) (fun e=>?_)
 ·have e1:decide (32<=c) = true:=by rw [← l1]; exact e
  refine ⟨_,_,rfl,rfl,_,rfl,?_⟩
  refine ite2 (fun e=>?_) (fun e=>?_)
  ·have e2:decide (c<=126) = true:=by rw [← l2]; exact e
   refine ⟨_,rfl,rfl,_,rfl,?_⟩
   refine ite2 (fun e=>?_) (fun e=>?_)
   ·have e3:decide (c≠34) = true:=by rw [← l3]; exact e
    refine ⟨_,rfl,_,rfl,rfl,rfl,fin _ ?_⟩
    rw [l4]
    unfold zb9
    rw [e1,e2,e3]
    rfl
   ·have e3:decide (c≠34) = false:=by rw [← l3]; exact Bool.eq_false_iff.mpr e
    refine fin _ ?_
    unfold zb9
    rw [e1,e2,e3]
    rfl
  ·have e2:decide (c<=126) = false:=by rw [← l2]; exact Bool.eq_false_iff.mpr e
   refine fin _ ?_
   unfold zb9
   rw [e1,e2]
   rfl
 ·have e1:decide (32<=c) = false:=by rw [← l1]; exact Bool.eq_false_iff.mpr e
  refine ⟨_,rfl,iteF (fin _ ?_)⟩
  unfold zb9
  rw [e1]
  rfl
theorem zlx:FnScope ["thing","levels"] ["thing","levels"] (zn zaS):=mkSc rfl (by decide +kernel)
theorem all_map {α:Type} (p:α->Bool) (l:List α):(l.map p).all id = l.all p:=by rw [List.all_map]; rfl
theorem zly (F:Fun K "fits_alone" "fits_alone" zaS f fd) (G_is_number:Have P w K mg base "is_number" k ["thing"] zcW) (G_is_sign:Have P w K mg base "is_sign" k ["sign"] zgi)
  (m_isi:mg "isinstance" = none) (m_str:mg "str" = none) (m_tuple:mg "tuple" = none) (m_len:mg "len" = none) (m_all:mg "all" = none) (m_abs:mg "abs" = none) (m_MOST_SIGNS:∃ t,mg "MOST_SIGNS" = some (.int 400 t)) (m_MOST_ITEMS:∃ t,mg "MOST_ITEMS" = some (.int 60 t)):
  FnOk P w K mg base CX0 (k + 1) f fd ["thing","levels"] zkP:=by
 refine F.ok zlx (by rintro _ _ _ _ ⟨_,_,_,rfl,_⟩; rfl) fun cdv A outer s H vs Q E hr h=>?_
 obtain ⟨v,t,lv,rfl,rt,sm,q⟩:=h
 refine ⟨_,(zi (zJ (zQ (zt G_is_number hr rfl (zc (pv 0) zd))) (zl (zq (zY zfm (zu (zjB) rfl m_abs zh0 (zc (pv 0) zd)) (zF zcu zj zj) (nomark _)))) zx)
  (zi (zJ (zQ (zu Zo rfl m_isi zO (zc (pv 0) (zc (ZM rfl m_str ZH) zd)))) (zl (zq (Z5 (zY zlc (zu zM rfl m_len PySem.boot_len (zc (pv 0) zd)) (Z8 rfl m_MOST_SIGNS) (nomark _)) (zap (zu (ZY rfl) rfl m_all zbv (zc (Zx [] [] rfl rfl (by decide +kernel) rfl (by decide +kernel) rfl (by decide +kernel) trivial rfl trivial (zmI (pv 0)) (fun C s H fp=>⟨Zn,(zt G_is_sign hr rfl (zc (pv 0) zd))⟩)) zd)))))) zx)
  (zl (zq (Z5 (zu Zo rfl m_isi zO (zc (pv 0) (zc (ZM rfl m_tuple zI) zd))) (Z5 (zY zlc (zu zM rfl m_len PySem.boot_len (zc (pv 0) zd)) (Z8 rfl m_MOST_ITEMS) (nomark _)) (zap (zY zeq (pv 1) zj (nomark _))))))))),?_⟩
 have q0:∀ b:Bool,zds lv t = b->Q (.bl b) H:=fun b e=>by rw [← e]; exact q H (Same.refl H)
 refine ⟨_,rfl,v,t,rfl,rt,_,rfl,?_⟩
 cases rt with
 | non=>exact iteF ⟨_,rfl,_,_,_,_,rfl,.non,zhX,_,rfl,iteF ⟨_,rfl,_,_,_,_,rfl,.non,zhW,_,rfl,iteF (q0 _ rfl)⟩⟩
 | bl b=>exact iteF ⟨_,rfl,_,_,_,_,rfl,.bl b,zkJ,_,rfl,iteF ⟨_,rfl,_,_,_,_,rfl,.bl b,zkG,_,rfl,iteF (q0 _ rfl)⟩⟩
 | lst e=>exact iteF ⟨_,rfl,_,_,_,_,rfl,.lst e,zkK,_,rfl,iteF ⟨_,rfl,_,_,_,_,rfl,.lst e,zkH,_,rfl,iteF (q0 _ rfl)⟩⟩
 | dic e=>exact iteF ⟨_,rfl,_,_,_,_,rfl,.dK e,zkL,_,rfl,iteF ⟨_,rfl,_,_,_,_,rfl,.dK e,zkI,_,rfl,iteF (q0 _ rfl)⟩⟩
 | num i=>
  refine iteT ⟨_,rfl,i,rfl,_,_,rfl,rfl,⟨by decide,by decide,by decide⟩,_,_,rfl,rfl,q0 _ ?_⟩
  show decide (-(10 ^ 60) < i/\i < 10 ^ 60) = decide ((if i < 0 then -i else i) < 10 ^ (60:Int).toNat)
  have e:(10:Int) ^ (60:Int).toNat = 10 ^ 60:=rfl
  rw [e,Bool.eq_iff_iff,decide_eq_true_iff,decide_eq_true_iff]
  constructor
  ·intro h
   split <;> omega
  ·split <;> intro h <;> omega
 | txt x=>
  refine iteF ⟨_,rfl,_,_,_,_,rfl,.str x,za5,_,rfl,iteT ?_⟩
  have hx:x.length<=100000:=sm
  refine ⟨_,rfl,_,_,rfl,⟨small (by omega),rfl⟩,_,_,rfl,rfl,_,rfl,?_⟩
  refine ite2 (fun e=>?_) (fun e=>?_)
  ·have e1:(x.length:Int)<=400:=of_decide_eq_true e
   dsimp only [tRet,tOp,tC,tCB,zao,tNil]
   have hsz:x.cps.size = x.length:=rfl
   refine zlp (x.cps.toList.map fun c=>V.bl (zb9 c)) (by rfl) (by rw [List.length_map]; simp) (by rw [hsz]; exact small (by omega)) (fun i c y H1 R hc hy s1 hR=>?_) (fun H1 D s1 hD=>?_)
   ·have hc':x.cps.toList[i]? = some c:=by simpa using hc
    rw [List.getElem?_map,hc'] at hy
    cases hy
    exact ⟨_,rfl,c,rfl,hR _ (Same.refl _)⟩
   ·refine ⟨D,x.cps.toList.map zb9,rfl,SqL.of ?_,?_⟩
    ·rw [zh,List.map_map]; rfl
    ·have:=q _ (s1.trans (Same.new (o:=.lst (x.cps.toList.map fun c=>V.bl (zb9 c))) hD))
     rw [all_map]
     have e3:zds lv (.txt x) = x.cps.toList.all zb9:=by
      show (decide (x.length<=400) && zbj x) = _
      rw [decide_eq_true (by omega)]
      rfl
     rw [← e3]
     exact this
  ·have e1:¬ (x.length:Int)<=400:=of_decide_eq_false (Bool.eq_false_iff.mpr e)
   refine q0 _ ?_
   show (decide (x.length<=400) && zbj x) = _
   rw [decide_eq_false (by omega)]
   rfl
 | @tup a vs ts e l _=>
  refine iteF ⟨_,rfl,_,_,_,_,rfl,.tup e,zdp,_,rfl,iteF ?_⟩
  refine ⟨_,rfl,_,_,_,_,rfl,.tup e,zbt,_,rfl,iteT ?_⟩
  refine ⟨_,rfl,_,_,rfl,.inr ⟨_,SqT.of e,rfl⟩,_,_,rfl,rfl,_,rfl,?_⟩
  refine ite2 (fun c=>?_) (fun c=>?_)
  ·have c1:(vs.length:Int)<=60:=of_decide_eq_true c
   refine ⟨_,rfl,_,_,rfl,rfl,q0 _ ?_⟩
   show (decide (ts.length<=60) && decide (0 < lv)) = _
   rw [decide_eq_true (by omega),Bool.true_and]
  ·have c1:¬ (vs.length:Int)<=60:=of_decide_eq_false (Bool.eq_false_iff.mpr c)
   refine q0 _ ?_
   show (decide (ts.length<=60) && decide (0 < lv)) = _
   rw [decide_eq_false (by omega),Bool.false_and]
theorem zjW:FnScope ["worth"] ["worth"] (zn zh1):=mkSc rfl (by decide +kernel)
theorem zjX (F:Fun K "size_alone" "size_alone" zh1 f fd) (m_isi:mg "isinstance" = none) (m_str:mg "str" = none) (m_len:mg "len" = none):FnOk P w K mg base CX0 (k + 1) f fd ["worth"] zic:=by
 refine F.ok zjW (by rintro _ _ _ _ ⟨_,_,rfl,_⟩; rfl) fun cdv A outer s H vs Q E hr h=>?_
 obtain ⟨v,t,rfl,rt,sm,q⟩:=h
 refine ⟨_,zl (zq (ZW (zQ (zu Zo rfl m_isi zO (zc (pv 0) (zc (ZM rfl m_str ZH) zd)))) (zF Ze zj (zu zM rfl m_len PySem.boot_len (zc (pv 0) zd))) zj)),?_⟩
 cases rt with
 | non=>exact ⟨_,rfl,_,_,_,_,rfl,.non,zhX,_,rfl,iteF q⟩
 | bl b=>exact ⟨_,rfl,_,_,_,_,rfl,.bl b,zkJ,_,rfl,iteF q⟩
 | num i=>exact ⟨_,rfl,_,_,_,_,rfl,.int i,zdq,_,rfl,iteF q⟩
 | lst e=>exact ⟨_,rfl,_,_,_,_,rfl,.lst e,zkK,_,rfl,iteF q⟩
 | dic e=>exact ⟨_,rfl,_,_,_,_,rfl,.dK e,zkL,_,rfl,iteF q⟩
 | tup e _ _=>exact ⟨_,rfl,_,_,_,_,rfl,.tup e,zdp,_,rfl,iteF q⟩
 | txt x=>
  have hx:x.length<=100000:=sm
  refine ⟨_,rfl,_,_,_,_,rfl,.str x,za5,_,rfl,iteT ?_⟩
  exact ⟨_,rfl,_,_,rfl,⟨small (by omega),rfl⟩,_,_,rfl,rfl,q⟩
structure StR (H0 H:Hp) (vs:List V) (ps:List (T × Int)):Prop where
 len:vs.length = ps.length
 at':∀ (i:Nat) (v:V) (p:T × Int),vs[i]? = some v->ps[i]? = some p->∃ (a:Addr) (u:V),v = .ref a/\H a = some (.tup [u,.int p.2])/\RT H0 u p.1
theorem StR.mono {H0 H H':Hp} (s:Tups H H') {vs:List V}{ps:List (T × Int)} (h:StR H0 H vs ps):StR H0 H' vs ps:=
 ⟨h.len,fun i v p e1 e2=>let ⟨a,u,x,y,z⟩:=h.at' i v p e1 e2; ⟨a,u,x,s _ _ y,z⟩⟩
theorem StR.nil {H0 H:Hp}:StR H0 H [] []:=⟨rfl,fun i v p e=>by simp at e⟩
theorem StR.app {H0 H:Hp}{vs us:List V}{ps qs:List (T × Int)} (h:StR H0 H vs ps) (g:StR H0 H us qs):StR H0 H (vs ++ us) (ps ++ qs):=by
 refine ⟨by rw [List.length_append,List.length_append,h.len,g.len],fun i v p e1 e2=>?_⟩
 by_cases hi:i < vs.length
 ·rw [List.getElem?_append_left hi] at e1
  rw [List.getElem?_append_left (h.len ▸ hi)] at e2
  exact h.at' i v p e1 e2
 ·rw [List.getElem?_append_right (by omega)] at e1
  rw [List.getElem?_append_right (by have:=h.len; omega)] at e2
  rw [h.len] at e1
  exact g.at' _ v p e1 e2
theorem StR.one {H0 H:Hp}{a:Addr}{u:V}{p:T × Int} (e:H a = some (.tup [u,.int p.2])) (r:RT H0 u p.1):StR H0 H [.ref a] [p]:=by
 refine ⟨rfl,fun i v' p' e1 e2=>?_⟩
 cases i with
 | zero=>
  have q1:V.ref a = v':=by simpa using e1
  have q2:p = p':=by simpa using e2
  subst q1 q2
  exact ⟨a,u,rfl,e,r⟩
 | succ j=>simp at e1
theorem StR.front {H0 H:Hp}{vs:List V}{ps:List (T × Int)}{v:V}{p:T × Int} (h:StR H0 H (vs ++ [v]) (ps ++ [p])):StR H0 H vs ps/\∃ (a:Addr) (u:V),v = .ref a/\H a = some (.tup [u,.int p.2])/\RT H0 u p.1:=by
 have l:=h.len
 rw [List.length_append,List.length_append] at l
 have l':vs.length = ps.length:=by simpa using l
 refine ⟨⟨l',fun i v' p' e1 e2=>?_⟩,?_⟩
 ·have h1:=(List.getElem?_eq_some_iff.mp e1).1
  exact h.at' i v' p' (by rw [List.getElem?_append_left h1]; exact e1) (by rw [List.getElem?_append_left (l' ▸ h1)]; exact e2)
 ·exact h.at' vs.length v p (by rw [List.getElem?_append_right (Nat.le_refl _)]; simp) (by rw [l',List.getElem?_append_right (Nat.le_refl _)]; simp)
theorem zax {H H':Hp} (s:Same H H'):Tups H H':=fun a vs e=>s a _ e
theorem zeN {H H1:Hp}{l:Addr}{o:HO} (s:Same H H1) (hl:H l = none):Same H (upd H1 l o):=fun c u e=>by rw [zr (zm e hl)]; exact s c u e
def szs:List (T × Int)->Int
 | []=>0
 | p :: r=>p.1.size + szs r
def nds:List (T × Int)->Nat
 | []=>0
 | p :: r=>p.1.nodes + nds r
def fts:List (T × Int)->Bool
 | []=>true
 | p :: r=>zcV p.1 p.2 && fts r
theorem zif (a b:List (T × Int)):szs (a ++ b) = szs a + szs b:=by
 induction a with
 | nil=>simp [szs]
 | cons p r ih=>simp only [List.cons_append,szs,ih]; omega
theorem zig (a b:List (T × Int)):nds (a ++ b) = nds a + nds b:=by
 induction a with
 | nil=>simp [nds]
 | cons p r ih=>simp only [List.cons_append,nds,ih]; omega
theorem zih (a b:List (T × Int)):fts (a ++ b) = (fts a && fts b):=by
 induction a with
 | nil=>simp [fts]
 | cons p r ih=>simp only [List.cons_append,fts,ih,Bool.and_assoc]
theorem zkR:∀ ps:List (T × Int),0<=szs ps
 | []=>by simp [szs]
 | p :: r=>by have h1:=zeL p.1; have h2:=zkR r; simp only [szs]; omega
theorem zlz (ts:List T) (lv:Int):szs (ts.map fun t=>(t,lv)) = tsizes ts:=by
 induction ts with
 | nil=>rfl
 | cons t r ih=>simp only [List.map_cons,szs,tsizes,ih]
theorem zlA (ts:List T) (lv:Int):nds (ts.map fun t=>(t,lv)) = tnodes ts:=by
 induction ts with
 | nil=>rfl
 | cons t r ih=>simp only [List.map_cons,nds,tnodes,ih]
theorem zlB (ts:List T) (lv:Int):fts (ts.map fun t=>(t,lv)) = fitsA ts lv:=by
 induction ts with
 | nil=>rfl
 | cons t r ih=>simp only [List.map_cons,fts,fitsA,ih]
def valB (ps:List (T × Int)) (whole:Int):Bool:=fts ps && decide (whole + szs ps<=1000)
theorem zg0 {t:T}{lv:Int} (h:zds lv t = false):zcV t lv = false:=by
 cases t with
 | tup ts=>
  have h:(decide (ts.length<=60) && decide (0 < lv)) = false:=h
  simp only [zcV,h,Bool.false_and]
 | num i=>exact h
 | txt x=>exact h
 | non=>rfl
 | bl b=>rfl
 | lst=>rfl
 | dic=>rfl
theorem zg1 {t:T}{lv:Int} (h:zds lv t = true) (hn:∀ ts,t≠.tup ts):zcV t lv = true/\t.size = ZR t:=by
 cases t with
 | tup ts=>exact absurd rfl (hn ts)
 | num i=>exact ⟨h,rfl⟩
 | txt x=>exact ⟨h,rfl⟩
 | non=>cases h
 | bl b=>cases h
 | lst=>cases h
 | dic=>cases h
theorem zg2 (t:T):ZR t<=t.size/\1<=ZR t:=by
 cases t with
 | tup ts=>have:=tsizes_nn ts; simp only [ZR,T.size]; omega
 | txt x=>simp only [ZR,T.size]; omega
 | _=>simp [ZR,T.size]
theorem ZS:FnScope ["thing","waiting","whole","pair","item","levels"] ["thing"] (zn zbL):=mkSc rfl (by decide +kernel)
theorem zg3 (F:Fun K "is_worth" "is_worth" zbL f fd) (G_fits_alone:Have P w K mg base "fits_alone" k ["thing","levels"] zkP) (G_size_alone:Have P w K mg base "size_alone" k ["worth"] zic)
  (m_isi:mg "isinstance" = none) (m_tuple:mg "tuple" = none) (m_len:mg "len" = none) (m_MOST_DEPTH:∃ t,mg "MOST_DEPTH" = some (.int 12 t)) (m_MOST_SIZE:∃ t,mg "MOST_SIZE" = some (.int 1000 t)):
  FnOk P w K mg base CX0 (k + 1) f fd ["thing"] zeM:=by
 refine F.ok ZS (by rintro _ _ _ _ ⟨_,_,rfl,_⟩; rfl) fun cdv A outer s H vs Q E hr h=>?_
 obtain ⟨v,t,rfl,rt,sm,q⟩:=h
 refine ⟨_,(zi (zw (i:=1) ZS.nd rfl (Or.inl rfl) (zL (zc (zA (zc (pv 0) (zc (Z8 rfl m_MOST_DEPTH) zd))) zd)))
  (zi (zw (i:=2) ZS.nd rfl (Or.inl rfl) zj)
  (zi (zch PassesOwn.never (zB zeq (zu zM rfl m_len PySem.boot_len (zc (pv 1) zd)) zj (nomark _)) (zi (zw (i:=3) ZS.nd rfl (Or.inl rfl) (zmG PySem.F.plainAttrs_list PySem.F.slot_list_pop PySem.F.type_list_pop zmH (pv 1)))
  (zi (zw (i:=4) ZS.nd rfl (Or.inl rfl) (zD zS (pv 3) zj (fun _ _=>rfl)))
  (zi (zw (i:=5) ZS.nd rfl (Or.inr rfl) (zD zS (pv 3) zj (fun _ _=>rfl)))
  (zi (zJ (Zh (zQ (zt G_fits_alone hr rfl (zc (pv 4) (zc (pv 5) zd))))) (zl (zq zcq)) zx)
  (zi (zmv (i:=2) ZS.nd rfl (Or.inl rfl) (zt G_size_alone hr rfl (zc (pv 4) zd)) (znI zlb))
  (zi (zJ (zB zeq (pv 2) (Z8 rfl m_MOST_SIZE) (nomark _)) (zl (zq zcq)) zx)
  (zl (zJ (zQ (zu Zo rfl m_isi zO (zc (pv 4) (zc (ZM rfl m_tuple zI) zd)))) (zl (ZN (zb8 PySem.F.plainAttrs_list PySem.F.slot_list_extend PySem.F.type_list_extend zhQ (pv 1) (zc (Zx [5] ["levels"] rfl rfl (by decide +kernel) rfl (by decide +kernel) rfl (by decide +kernel) ⟨rfl,trivial⟩ rfl ⟨⟨rfl,rfl,Or.inr (Or.inl rfl),(by show (some NameKind.cell:Option NameKind)≠some .local; decide),⟨_,rfl⟩⟩,trivial⟩ (zep (pv 4)) (fun C s H fp=>⟨Zn,(zA (zc (pv 0) (zc (zF Zf (pv 1) zj) zd)))⟩)) zd)))) zx)))))))))
  (zl (zq zcq))))),?_⟩
 refine ⟨_,rfl,zl2,fun a ha=>?_⟩
 refine ⟨zl1,fun l hl=>?_⟩
 have s1:Same H (upd (upd H a (.tup [v,.int 12])) l (.lst [.ref a])):=(Same.new ha).trans (Same.new hl)
 have hlH:H l = none:=by
  cases e:H l with
  | none=>rfl
  | some o=>have:=Same.new (o:=.tup [v,.int 12]) ha l o e; rw [hl] at this; cases this
 have ea:upd (upd H a (.tup [v,.int 12])) l (.lst [.ref a]) a = some (.tup [v,.int 12]):=by rw [zr (zm zh hl)]; exact zh
 have st0:StR H (upd (upd H a (.tup [v,.int 12])) l (.lst [.ref a])) [.ref a] [(t,12)]:=StR.one (p:=(t,12)) ea rt
 refine ⟨fun m σ' H'=>∃ (vs:List V) (ps:List (T × Int)) (whole:Int) (o3 o4 o5:Option V),σ' = [some v,some (.ref l),some (.int whole),o3,o4,o5]/\H' l = some (.lst vs)/\StR H H' vs ps/\m = nds ps/\0<=whole/\whole<=1000 /\
   (vs.length:Int)<=60 * whole + 1/\(∀ p∈ps,p.1.Sm)/\valB ps whole = Z9 t/\Same H H',
  ⟨_,[.ref a],[(t,12)],0,none,none,none,rfl,zh,st0,rfl,Int.le_refl _,by decide,by simp,fun p hp=>by rw [List.mem_singleton.mp hp]; exact sm,?_,s1⟩,fun m σ' H' hW=>?_⟩
 ·unfold valB Z9
  simp only [fts,szs,Bool.and_true]
  congr 2
  rw [eq_iff_iff]
  constructor <;> intro h <;> omega
 obtain ⟨vs,ps,whole,o3,o4,o5,rfl,hlv,hst,hm,hw0,hw1,hvl,hsm,hval,sH⟩:=hW
 refine ⟨_,rfl,_,_,rfl,.inl ⟨_,SqL.of hlv,rfl⟩,_,_,rfl,rfl,_,rfl,?_⟩
 refine ite2 (fun c=>?_) (fun c=>?_)
 ·have c1:(0:Int) < vs.length:=of_decide_eq_true c
  refine ⟨_,fun _ _ h=>h,?_⟩
  rcases List.eq_nil_or_concat vs with rfl | ⟨vs',vl,e⟩
  ·simp at c1
  rw [List.concat_eq_append] at e
  subst e
  rcases List.eq_nil_or_concat ps with rfl | ⟨ps',p,e⟩
  ·have:=hst.len; simp at this
  rw [List.concat_eq_append] at e
  subst e
  obtain ⟨hst',ap,u,rfl,hap,rtu⟩:=hst.front
  have ed:(vs' ++ [V.ref ap]).dropLast = vs':=List.dropLast_concat
  have smp:p.1.Sm:=hsm p (by simp)
  refine ⟨_,rfl,.inl ⟨rfl,_,SqL.of hlv⟩,l,_,.ref ap,rfl,rfl,hlv,by simp,?_⟩
  rw [ed]
  have sH1:Same H (upd H' l (.lst vs')):=zeN sH hlH
  have hap1:upd H' l (.lst vs') ap = some (.tup [u,.int p.2]):=zcm hlv _ _ hap
  refine ⟨_,rfl,ap,_,0,u,rfl,rfl,SqT.of hap1,rfl,?_⟩
  refine ⟨_,rfl,ap,_,1,.int p.2,rfl,rfl,SqT.of hap1,rfl,?_⟩
  refine ⟨_,rfl,_,rfl,u,p.1,p.2,rfl,rtu.mono sH1,smp,fun H2 s2=>⟨_,rfl,?_⟩⟩
  have vb:valB (ps' ++ [p]) whole = ((fts ps' && zcV p.1 p.2) && decide (whole + (szs ps' + p.1.size)<=1000)):=by
   unfold valB
   rw [zih,zif]
   simp only [fts,szs,Bool.and_true]
   congr 2
   rw [eq_iff_iff]
   constructor <;> intro h <;> omega
  have hsn:=zkR ps'
  have hal:=zg2 p.1
  have sH2:=sH1.trans s2
  cases hal1:zds p.2 p.1 with
  | false=>
   refine iteT ?_
   have:Z9 t = false:=by
    rw [← hval,vb,zg0 hal1]
    simp
   have fin:=q _ sH2
   rw [this] at fin
   exact fin
  | true=>
   refine iteF ?_
   refine ⟨_,rfl,_,rfl,u,p.1,rfl,rtu.mono sH2,smp,_,_,rfl,rfl,?_⟩
   refine ⟨_,rfl,_,_,rfl,rfl,_,rfl,?_⟩
   refine ite2 (fun c2=>?_) (fun c2=>?_)
   ·have c3:(1000:Int) < whole + ZR p.1:=of_decide_eq_true c2
    have:Z9 t = false:=by
     rw [← hval,vb,decide_eq_false (by omega)]
     simp
    have fin:=q _ sH2
    rw [this] at fin
    exact fin
   ·have c3:¬ (1000:Int) < whole + ZR p.1:=of_decide_eq_false (Bool.eq_false_iff.mpr c2)
    have hl2:H2 l = some (.lst vs'):=s2 _ _ zh
    have hst2:StR H H2 vs' ps':=(hst'.mono (zcm hlv)).mono (zax s2)
    have hvl':((vs'.length:Nat):Int) + 1<=60 * whole + 1:=by
     rw [List.length_append] at hvl
     have:([V.ref ap]:List V).length = 1:=rfl
     omega
    have hnd:nds (ps' ++ [p]) = nds ps' + p.1.nodes:=by rw [zig]; simp [nds]
    have hsm':∀ p'∈ps',p'.1.Sm:=fun p' hp'=>hsm p' (List.mem_append_left _ hp')
    have leaf:∀ (t':T),p.1 = t'->(∀ ts,t'≠.tup ts)->p.1.nodes = 1->∃ m',m' < m/\∃ (vs:List V) (ps:List (T × Int)) (whole':Int) (o3 o4 o5:Option V),[some v,some (.ref l),some (.int (whole + ZR p.1)),some (.ref ap),some u,some (.int p.2)] = [some v,some (.ref l),some (.int whole'),o3,o4,o5]/\H2 l = some (.lst vs)/\StR H H2 vs ps/\m' = nds ps/\0<=whole'/\whole'<=1000 /\
      (vs.length:Int)<=60 * whole' + 1/\(∀ p∈ps,p.1.Sm)/\valB ps whole' = Z9 t/\Same H H2:=fun t' e hn hnode=>by
     obtain ⟨hf,hz⟩:=zg1 hal1 (by rw [e]; exact hn)
     refine ⟨nds ps',by omega,vs',ps',whole + ZR p.1,_,_,_,rfl,hl2,hst2,rfl,by omega,by omega,by omega,hsm',?_,sH2⟩
     rw [← hval,vb,hf,hz]
     unfold valB
     rw [Bool.and_true]
     congr 2
     rw [eq_iff_iff]
     constructor <;> intro h <;> omega
    obtain ⟨tt,lv⟩:=p
    have rt2:RT H2 u tt:=rtu.mono sH2
    cases rt2 with
    | non=>exact ⟨_,rfl,_,_,_,_,rfl,.non,zhW,_,rfl,iteF (leaf _ rfl (fun _ z=>nomatch z) rfl)⟩
    | bl b=>exact ⟨_,rfl,_,_,_,_,rfl,.bl b,zkG,_,rfl,iteF (leaf _ rfl (fun _ z=>nomatch z) rfl)⟩
    | num i=>exact ⟨_,rfl,_,_,_,_,rfl,.int i,zcG,_,rfl,iteF (leaf _ rfl (fun _ z=>nomatch z) rfl)⟩
    | txt x=>exact ⟨_,rfl,_,_,_,_,rfl,.str x,zbu,_,rfl,iteF (leaf _ rfl (fun _ z=>nomatch z) rfl)⟩
    | lst e=>exact ⟨_,rfl,_,_,_,_,rfl,.lst e,zkH,_,rfl,iteF (leaf _ rfl (fun _ z=>nomatch z) rfl)⟩
    | dic e=>exact ⟨_,rfl,_,_,_,_,rfl,.dK e,zkI,_,rfl,iteF (leaf _ rfl (fun _ z=>nomatch z) rfl)⟩
    | @tup a2 us ts e2 l2 at2=>
     refine ⟨_,rfl,_,_,_,_,rfl,.tup e2,zbt,_,rfl,iteT ?_⟩
     have ha60:ts.length<=60:=by
      have h:(decide (ts.length<=60) && decide (0 < lv)) = true:=hal1
      rw [Bool.and_eq_true] at h
      exact of_decide_eq_true h.1
     have hlv0:0 < lv:=by
      have h:(decide (ts.length<=60) && decide (0 < lv)) = true:=hal1
      rw [Bool.and_eq_true] at h
      exact of_decide_eq_true h.2
     refine ⟨_,rfl,.inl ⟨rfl,_,SqL.of hl2⟩,?_⟩
     have at0:∀ (i:Nat) (x:V) (t':T),us[i]? = some x->ts[i]? = some t'->RT H x t':=by
      cases rtu with
      | @tup a3 us3 ts3 e3 l3 at3=>
       have:us3 = us:=by
        have h1:=sH2 _ _ e3
        rw [e2] at h1
        cases h1
        rfl
       subst this
       exact at3
     dsimp only [zao,tNil]
     refine ⟨_,rfl,a2,rfl,⟨us,SqT.of e2⟩,fun i m2 xs H3=>i<=us.length/\m2 = us.length - i/\StR H H3 xs ((ts.take i).map fun t'=>(t',lv - 1))/\Same H2 H3,⟨_,Nat.zero_le _,rfl,by simpa using StR.nil,Same.refl _⟩,fun i m2 xs H3 hW=>?_⟩
     obtain ⟨hi,hm2,hxs,s3⟩:=hW
     have hxl:xs.length<=60:=by
      have:=hxs.len
      rw [List.length_map,List.length_take] at this
      omega
     refine ⟨small (by omega),?_⟩
     have e3:=s3 _ _ e2
     by_cases hlt:i < us.length
     ·refine .inr ⟨⟨us,us[i],SqT.of e3,List.getElem?_eq_getElem hlt⟩,fun y H4 hy=>?_⟩
      obtain ⟨rfl,hy⟩:=hy
      have hy:=hy us (SqT.of e3)
      have hti:ts[i]? = some ts[i]:=List.getElem?_eq_getElem (by omega)
      refine iteT ?_
      refine ⟨_,rfl,_,rfl,_,_,rfl,rfl,zl2,fun a5 ha5=>?_⟩
      have s5:=Same.new (o:=.tup [y,.int (lv - 1)]) ha5
      refine ⟨us.length - (i + 1),by omega,by omega,rfl,?_,s3.trans s5⟩
      rw [zal hti,List.map_append]
      exact (hxs.mono (zax s5)).app (StR.one (p:=(ts[i],lv - 1)) zh (at0 i y ts[i] hy hti))
     ·have ei:i = us.length:=by omega
      refine .inl ⟨⟨us,SqT.of e3,by omega⟩,fun D hD=>?_⟩
      have et:ts.take i = ts:=List.take_of_length_le (by omega)
      rw [et] at hxs
      have hl3:=s3 _ _ hl2
      have hl4:upd H3 D (.lst xs) l = some (.lst vs'):=by rw [zr (zm hl3 hD)]; exact hl3
      refine ⟨l,D,vs',xs,rfl,rfl,hl4,zh,?_,?_⟩
      ·have h60:vs'.length<=60001:=by omega
       exact small (by omega)
      ·have s4:=Same.new (o:=.lst xs) hD
       have t5:=zcm (o:=.lst (vs' ++ xs)) hl4
       refine ⟨nds ps' + tnodes ts,?_,vs' ++ xs,ps' ++ ts.map (fun t'=>(t',lv - 1)),whole + 1,_,_,_,rfl,zh,?_,?_,by omega,?_,?_,?_,?_,?_⟩
       ·have:(T.tup ts).nodes = 1 + tnodes ts:=rfl
        have h9:nds (ps' ++ [(T.tup ts,lv)]) = nds ps' + (T.tup ts).nodes:=hnd
        omega
       ·exact ((((hst2.mono (zax s3)).mono (zax s4)).mono t5)).app ((hxs.mono (zax s4)).mono t5)
       ·rw [zig,zlA]
       ·have:ZR (T.tup ts) = 1:=rfl
        have c4:¬ (1000:Int) < whole + ZR (T.tup ts):=c3
        omega
       ·rw [List.length_append]
        omega
       ·intro p' hp'
        rcases List.mem_append.mp hp' with hp' | hp'
        ·exact hsm' p' hp'
        ·obtain ⟨t',ht',rfl⟩:=List.mem_map.mp hp'
         exact zlw (show Sms ts from (show ts.length<=100000/\Sms ts from smp).2) t' ht'
       ·rw [← hval,vb]
        unfold valB
        rw [zih,zlB,zif,zlz]
        have f1:zcV (T.tup ts) lv = fitsA ts (lv - 1):=by
         show (decide (ts.length<=60) && decide (0 < lv) && fitsA ts (lv - 1)) = _
         rw [decide_eq_true ha60,decide_eq_true hlv0]
         rfl
        have f2:(T.tup ts).size = 1 + tsizes ts:=rfl
        show _ = ((fts ps' && zcV (T.tup ts) lv) && decide (whole + (szs ps' + (T.tup ts).size)<=1000))
        rw [f1,f2]
        congr 2
        rw [eq_iff_iff]
        constructor <;> intro h <;> omega
       ·exact zeN ((sH2.trans s3).trans s4) hlH
 ·have c1:¬ (0:Int) < vs.length:=of_decide_eq_false (Bool.eq_false_iff.mpr c)
  have hv0:vs = []:=List.length_eq_zero_iff.mp (by omega)
  have hp0:ps = []:=List.length_eq_zero_iff.mp (by rw [← hst.len,hv0]; rfl)
  have:Z9 t = true:=by
   rw [← hval,hp0]
   unfold valB
   simp only [fts,szs,Bool.true_and]
   exact decide_eq_true (by omega)
  have fin:=q _ sH
  rw [this] at fin
  exact fin
end
end D
namespace L2
open PySem PySem.Spec PyProof.Rows PySem.Builtin
section
variable {prog:Program}{w:World}{A:Around}{E:Value->Shared->Prop}{s:Shared}
end
theorem zjY {X:Cx}:OpR X (binaryOp .Add) (fun x y H Q=>∃ (a b:Addr) (ys:List V),x = .ref a/\y = .ref b/\SqT X.K H a []/\SqT X.K H b ys/\Q (.ref b) H):=by
 intro zp s σ H x y v u Q I rx ry h
 obtain ⟨a,b,ys,rfl,rfl,ha,hb,q⟩:=h
 cases rx
 cases ry
 obtain ⟨its,r1,p1,_⟩:=I.tuple ha
 obtain ⟨its2,r2,p2,_⟩:=I.tuple hb
 have e0:its = []:=by cases r1; rfl
 subst e0
 obtain ⟨⟨cls,dd,data,sl⟩,ho,hc,n,hd⟩:=id p1
 obtain ⟨⟨cls2,dd2,data2,sl2⟩,ho2,hc2,n2,hd2⟩:=id p2
 simp only at hc hd hc2 hd2
 subst hc hd hc2 hd2
 exact concat_meets ⟨_,ho,rfl⟩ ⟨_,ho2,rfl⟩ noFill_tuple_add seq_tuple_add PySem.F.slot_tuple_add PySem.F.entry_tuple_add (PySem.F.args_tuple_add_2 _ _)
  (tuple_addW0 a b #[] its2.toArray n n2 dd dd2 sl sl2 rfl) ⟨ho,ho2,⟨.ref b,H,I,rfl,q⟩⟩
end L2
namespace L2
open PySem PySem.Spec PyProof.Rows
theorem zg4 {ys:List Str}:∀ {us:List Value},Vals (ys.map V.str) us->StrsAre us ys:=by
 induction ys with
 | nil=>intro us r; rw [List.map_nil] at r; cases r; exact .nil
 | cons n ns ih=>
  intro us r
  rw [List.map_cons] at r
  cases r with
  | cons r1 r2=>
   obtain ⟨t,e⟩:=r1
   subst e
   exact .cons n t (ih r2)
theorem zii {X:Cx}:MtR X "str.join" (fun x xs H Q=>∃ (sep:Str) (p:Addr) (ys:List Str),x = .str sep/\xs = [.ref p]/\SqL X.K H p (ys.map V.str)/\(ys.map (·.length)).sum + ys.length * sep.length<=16777216/\Q (.str (Txt.join sep ys)) H):=by
 intro zp s σ H x xs v us Q I rx rv h
 obtain ⟨sep,p,ys,rfl,rfl,hq,hz,q⟩:=h
 obtain ⟨t,rfl⟩:=rx
 obtain ⟨u,rfl,ru⟩:=zbI rv
 cases ru
 obtain ⟨its,r,pl,_⟩:=I.list hq
 exact PyProof.Rows.join_list pl.isList (by simpa using zg4 r) hz fun t' k=>⟨.str _,H,I.tok k,⟨t',rfl⟩,q⟩
theorem zdt (cs:List Nat):Txt.join (Str.ofString "") (cs.map fun c=>(⟨#[c]⟩:Str)) = ⟨cs.toArray⟩:=by
 have e0:(Str.ofString "").cps = #[]:=by decide +kernel
 have fold:∀ (r:List Nat) (acc:Array Nat),((r.map fun c=>(⟨#[c]⟩:Str)).foldl (fun acc p=>acc ++ (Str.ofString "").cps ++ p.cps) acc) = acc ++ r.toArray:=fun r=>by
  induction r with
  | nil=>intro acc; simp
  | cons c r ih=>
   intro acc
   rw [List.map_cons,List.foldl_cons,ih,e0]
   simp
 cases cs with
 | nil=>rfl
 | cons c r=>
  show (⟨(r.map fun c=>(⟨#[c]⟩:Str)).foldl (fun acc p=>acc ++ (Str.ofString "").cps ++ p.cps) #[c]⟩:Str) = _
  rw [fold]
  simp
end L2
namespace D
open PySem L2
mutual
def eqW:W->W->Bool
 | .num i,.num j=>i == j
 | .txt x,.txt y=>x == y
 | .lst ws,.lst zs=>eqWs ws zs
 | .num _,.txt _=>false
 | .num _,.lst _=>false
 | .txt _,.num _=>false
 | .txt _,.lst _=>false
 | .lst _,.num _=>false
 | .lst _,.txt _=>false
def eqWs:List W->List W->Bool
 | [],[]=>true
 | w :: r,z :: s=>eqW w z && eqWs r s
 | [],_ :: _=>false
 | _ :: _,[]=>false
end
mutual
theorem zd0:∀ w:W,eqW w w = true
 | .num i=>by simp [eqW]
 | .txt x=>by simp [eqW]
 | .lst ws=>eqWs_refl ws
theorem eqWs_refl:∀ ws:List W,eqWs ws ws = true
 | []=>rfl
 | w :: r=>by simp only [eqWs,zd0 w,eqWs_refl r,Bool.and_self]
end
mutual
theorem zjZ:∀ w z:W,eqW w z = eqW z w
 | .num i,.num j=>by simp only [eqW]; exact BEq.comm
 | .txt x,.txt y=>by simp only [eqW]; exact BEq.comm
 | .lst ws,.lst zs=>by simp only [eqW]; exact eqWs_symm ws zs
 | .num _,.txt _=>rfl
 | .num _,.lst _=>rfl
 | .txt _,.num _=>rfl
 | .txt _,.lst _=>rfl
 | .lst _,.num _=>rfl
 | .lst _,.txt _=>rfl
theorem eqWs_symm:∀ ws zs:List W,eqWs ws zs = eqWs zs ws
 | [],[]=>rfl
 | w :: r,z :: s=>by simp only [eqWs,zjZ w z,eqWs_symm r s]
 | [],_ :: _=>rfl
 | _ :: _,[]=>rfl
end
theorem zgj:∀ ws zs:List W,eqWs ws zs = ((List.range (min ws.length zs.length)).all (fun j=>eqW (ws.getD j (.num 0)) (zs.getD j (.num 0))) && ws.length == zs.length)
 | [],[]=>rfl
 | [],_ :: _=>rfl
 | _ :: _,[]=>rfl
 | w :: r,z :: s=>by
  rw [eqWs,zgj r s]
  have e:min (w :: r).length (z :: s).length = min r.length s.length + 1:=by simp only [List.length_cons]; omega
  rw [e,List.range_succ_eq_map,List.all_cons,List.all_map]
  have e2:((w :: r).length == (z :: s).length) = (r.length == s.length):=by simp
  rw [e2,Bool.and_assoc]
  rfl
theorem RW.inj {H:Hp}{v:V}{x:W} (h:RW H v x):∀ {y:W},RW H v y->x = y:=by
 induction h with
 | num i=>intro y g; cases g; rfl
 | txt z=>intro y g; cases g; rfl
 | @lst a vs ws e l _ ih=>
  intro y g
  cases g with
  | @lst _ vs2 zs e2 l2 at2=>
   rw [e] at e2
   cases e2
   congr 1
   refine List.ext_getElem (by omega) fun i h1 h2=>?_
   exact ih i vs[i] ws[i] (List.getElem?_eq_getElem (by omega)) (List.getElem?_eq_getElem h1) (at2 i vs[i] zs[i] (List.getElem?_eq_getElem (by omega)) (List.getElem?_eq_getElem h2))
end D
namespace L2
open PySem PySem.Spec PyProof.Rows
theorem Z2 {X:Cx}:zaE X (.builtin "isinstance") (fun xs H Q=>∃ v T A b,xs = [v,.ty T]/\(TyOf X.K H v (.type A)\/(A = "tuple"/\∃ a ys,v = .ref a/\SqT X.K H a ys))/\isi A T = some b/\Q (.bl b) H):=by
 intro zp s σ H xs us Q I r h
 obtain ⟨v,T,A,b,rfl,ty,e,q⟩:=h
 obtain ⟨u,c,rfl,ru,rc⟩:=zgL r
 cases (show c = Value.type T from rc)
 rcases ty with ty | ⟨rfl,a,ys,rfl,hs⟩
 ·exact zeu I ru ty (zeJ e) fun tk=>⟨.bl b,H,I.tok tk,rfl,q⟩
 ·cases (show u = Value.ref a from ru)
  obtain ⟨its,_,p,_⟩:=I.tuple hs
  obtain ⟨o,h1,h2,_⟩:=p
  exact kia_one kitx_tuple I.kIn ⟨o,h1,h2⟩ (zeJ e) (fun z=>nomatch z) fun tk=>⟨.bl b,H,I.tok tk,rfl,q⟩
theorem zij (x:Str) (l u:Option Int):∀ c∈(Txt.slice x l u).cps.toList,c∈x.cps.toList:=by
 intro c hc
 unfold Txt.slice at hc
 split at hc
 ·exact hc
 ·rw [List.toList_toArray] at hc
  obtain ⟨i,_,e⟩:=List.mem_filterMap.mp hc
  have e2:x.cps.toList[i]? = some c:=by simpa using e
  exact List.mem_of_getElem? e2
theorem zfz {X:Cx}:SlR X (fun x lo hi H Q=>∃ z:Str,x = .str z/\z.length<=1000000/\∀ r:Str,r.length<=z.length->(∀ c∈r.cps.toList,c∈z.cps.toList)->Q (.str r) H):=by
 intro zp s σ H x v vl vu lo hi sl Q I rx hs pl pu h
 obtain ⟨z,rfl,hz,q⟩:=h
 obtain ⟨t,rfl⟩:=rx
 refine ⟨"str",_,PySem.F.slot_str_getitem.lookup,typeIs_str _ _ _,?_⟩
 have hz':z.length<=sizeLine:=Nat.le_trans hz (by decide)
 have fin:∀ (l u:Option (Int × Tok)),partValue l = vl->partValue u = vu->wpAny (model X.prog X.w) X.A (getItem (.str z t) (.ref sl)) (EP X zp σ Q) X.xe s:=fun l u e1 e2=>by
  obtain ⟨o,ho,hc,hd⟩:=hs
  refine wpAny_getItem_str_slice (l:=l) (u:=u) (st:=none) ⟨o,ho,hc,by rw [hd,e1,e2]; rfl⟩ rfl (post_val_or_str ⟨Nat.le_trans (Txt.slice_le z _ _) hz',fun t' k=>?_⟩)
  exact ⟨.str _,H,I.tok k,⟨t',rfl⟩,q _ (Txt.slice_le z _ _) (zij z _ _)⟩
 cases pl with
 | none=>cases pu with
  | none=>exact fin none none rfl rfl
  | int j tj=>exact fin none (some (j,tj)) rfl rfl
 | int i ti=>cases pu with
  | none=>exact fin (some (i,ti)) none rfl rfl
  | int j tj=>exact fin (some (i,ti)) (some (j,tj)) rfl rfl
theorem ZU:bootBuiltins (Str.ofString "list") = some (.type "list"):=by kernel_rfl
end L2
namespace D
open PySem L2
mutual
def W.Th:W->Prop
 | .num _=>True
 | .txt x=>x.length<=100000/\Signs x
 | .lst ws=>ws.length<=1000/\Ths ws
def Ths:List W->Prop
 | []=>True
 | w :: r=>w.Th/\Ths r
end
mutual
theorem zeO:∀ w:W,w.Ok->w.Th
 | .num _,_=>trivial
 | .txt _,h=>⟨Nat.le_trans h.1 (by decide),h.2⟩
 | .lst ws,h=>⟨Nat.le_trans h.1 (by decide),ths_of ws h.2⟩
theorem ths_of:∀ ws:List W,Oks ws->Ths ws
 | [],_=>trivial
 | w :: r,h=>⟨zeO w h.1,ths_of r h.2⟩
end
theorem zik {ws:List W} (h:Ths ws):∀ w∈ws,w.Th:=by
 induction ws with
 | nil=>intro w hw; cases hw
 | cons x r ih=>
  intro w hw
  rcases List.mem_cons.mp hw with rfl | hw
  ·exact h.1
  ·exact ih h.2 w hw
theorem zkS {ws:List W} (h:∀ w∈ws,w.Th):Ths ws:=by
 induction ws with
 | nil=>trivial
 | cons x r ih=>exact ⟨h x List.mem_cons_self,ih fun w hw=>h w (List.mem_cons_of_mem _ hw)⟩
mutual
def zeP:W->Bool
 | .num i=>decide (-(10 ^ 60) < i/\i < 10 ^ 60)
 | .txt x=>decide (x.length<=400)
 | .lst ws=>decide (ws.length<=60) && fitsWs ws
def fitsWs:List W->Bool
 | []=>true
 | w :: r=>zeP w && fitsWs r
end
mutual
def W.toT:W->T
 | .num i=>.num i
 | .txt x=>.txt x
 | .lst ws=>.tup (toTs ws)
def toTs:List W->List T
 | []=>[]
 | w :: r=>w.toT :: toTs r
end
theorem zd1:∀ ws:List W,toTs ws = ws.map W.toT
 | []=>rfl
 | w :: r=>by simp only [toTs,List.map_cons,zd1 r]
theorem zd2 (ws:List W):(toTs ws).length = ws.length:=by rw [zd1,List.length_map]
mutual
theorem zgk:∀ w:W,w.toT.size = w.size
 | .num _=>rfl
 | .txt _=>rfl
 | .lst ws=>by simp only [W.toT,T.size,W.size,sizes_toT ws]
theorem sizes_toT:∀ ws:List W,tsizes (toTs ws) = sizes ws
 | []=>rfl
 | w :: r=>by simp only [toTs,tsizes,sizes,zgk w,sizes_toT r]
end
mutual
theorem zkT:∀ w:W,w.Th->w.toT.Sm
 | .num _,_=>trivial
 | .txt _,h=>h.1
 | .lst ws,h=>⟨by rw [zd2]; exact Nat.le_trans h.1 (by decide),sms_toT ws h.2⟩
theorem sms_toT:∀ ws:List W,Ths ws->Sms (toTs ws)
 | [],_=>trivial
 | w :: r,h=>⟨zkT w h.1,sms_toT r h.2⟩
end
theorem zg5 {x:Str} (h:Signs x):zbj x = true:=by
 unfold zbj
 rw [List.all_eq_true]
 intro c hc
 have:=h c hc
 simp [zb9,this]
mutual
theorem zgl:∀ (w:W) (lv:Nat),w.Th->zcV w.toT (lv:Int) = (zeP w && decide (w.depth<=lv))
 | .num i,lv,_=>by
  show decide (-(10 ^ 60) < i/\i < 10 ^ 60) = (decide (-(10 ^ 60) < i/\i < 10 ^ 60) && decide (0<=lv))
  rw [decide_eq_true (Nat.zero_le lv),Bool.and_true]
 | .txt x,lv,h=>by
  show (decide (x.length<=400) && zbj x) = (decide (x.length<=400) && decide (0<=lv))
  rw [zg5 h.2,decide_eq_true (Nat.zero_le lv)]
 | .lst ws,lv,h=>by
  show (decide ((toTs ws).length<=60) && decide (0 < (lv:Int)) && fitsA (toTs ws) ((lv:Int) - 1)) = ((decide (ws.length<=60) && fitsWs ws) && decide (1 + depths ws<=lv))
  rw [zd2]
  cases lv with
  | zero=>
   rw [decide_eq_false (show ¬ (0:Int) < ((0:Nat):Int) by omega),decide_eq_false (show ¬ 1 + depths ws<=0 by omega)]
   simp
  | succ n=>
   have e:((n + 1:Nat):Int) - 1 = (n:Int):=by omega
   rw [decide_eq_true (show (0:Int) < ((n + 1:Nat):Int) by omega),e,fits_toTs ws n h.2,Bool.and_true,← Bool.and_assoc]
   congr 2
   rw [eq_iff_iff]
   constructor <;> intro h <;> omega
theorem fits_toTs:∀ (ws:List W) (lv:Nat),Ths ws->fitsA (toTs ws) (lv:Int) = (fitsWs ws && decide (depths ws<=lv))
 | [],lv,_=>by
  show true = (true && decide (0<=lv))
  rw [decide_eq_true (Nat.zero_le lv)]
  rfl
 | w :: r,lv,h=>by
  show (zcV w.toT lv && fitsA (toTs r) lv) = ((zeP w && fitsWs r) && decide (max w.depth (depths r)<=lv))
  rw [zgl w lv h.1,fits_toTs r lv h.2]
  have e:decide (max w.depth (depths r)<=lv) = (decide (w.depth<=lv) && decide (depths r<=lv)):=by
   rw [Bool.eq_iff_iff,Bool.and_eq_true,decide_eq_true_iff,decide_eq_true_iff,decide_eq_true_iff]
   omega
  rw [e]
  cases zeP w <;> cases fitsWs r <;> cases decide (w.depth<=lv) <;> cases decide (depths r<=lv) <;> rfl
end
def zil (x:W):Bool:=zeP x && (decide (x.size<=1000) && decide ((x.depth:Int)<=12))
theorem zfA {x:W} (h:x.Th):Z9 x.toT = zil x:=by
 unfold Z9 zil
 have:=zgl x 12 h
 rw [show (12:Int) = ((12:Nat):Int) from rfl,this,zgk]
 have e:decide ((x.depth:Int)<=((12:Nat):Int)) = decide (x.depth<=12):=by
  rw [Bool.eq_iff_iff,decide_eq_true_iff,decide_eq_true_iff]
  omega
 rw [e]
 cases zeP x <;> cases decide (x.depth<=12) <;> cases decide (x.size<=1000) <;> rfl
theorem RW.toRT {H:Hp}{v:V}{x:W} (h:RW H v x):RT H v x.toT:=by
 induction h with
 | num i=>exact .num i
 | txt x=>exact .txt x
 | @lst a vs ws e l _ ih=>
  refine .tup e (by rw [zd2]; exact l) fun i v t hv ht=>?_
  rw [zd1,List.getElem?_map] at ht
  obtain ⟨w,hw,rfl⟩:=Option.map_eq_some_iff.mp ht
  exact ih i v w hv hw
inductive RS (K:PySem.W.Frag) (H:Hp):V->W->Prop where
 | num (i:Int):RS K H (.int i) (.num i)
 | txt (x:Str):RS K H (.str x) (.txt x)
 | lst {a:Addr}{vs:List V}{ws:List W}:SqT K H a vs->vs.length = ws.length->(∀ (i:Nat) (v:V) (w:W),vs[i]? = some v->ws[i]? = some w->RS K H v w)->RS K H (.ref a) (.lst ws)
theorem RS.mono {K:PySem.W.Frag}{H H':Hp} (t:Same H H') {v:V}{w:W} (h:RS K H v w):RS K H' v w:=by
 induction h with
 | num i=>exact .num i
 | txt x=>exact .txt x
 | lst e l _ ih=>exact .lst (t.seqT e) l ih
theorem RW.toRS {K:PySem.W.Frag}{H:Hp}{v:V}{w:W} (h:RW H v w):RS K H v w:=by
 induction h with
 | num i=>exact .num i
 | txt x=>exact .txt x
 | lst e l _ ih=>exact .lst (SqT.of e) l ih
theorem zC {H H':Hp} (s:Same H H'):Tups H H':=fun a vs e=>s a _ e
theorem Step.ofSame {b:Addr}{H H':Hp} (hb:zP H b) (s:Same H H'):Step b H H':=⟨by obtain ⟨x,y,z,e⟩:=hb; exact ⟨x,y,z,s _ _ e⟩,fun c o _ e=>s c o e⟩
def zmU:W:=.lst [.txt "wrong",.txt "great",.txt ""]
def Z4 (x:W):W:=if zil x = true then .lst [.txt "made",x] else zmU
def RM (K:PySem.W.Frag) (H:Hp) (v:V) (w:W):Prop:=RS K H v w/\∀ m x,w = .lst [m,x]->∃ a u,v = .ref a/\SqT K H a [.str "made",u]/\RW H u x
def zaO (K:PySem.W.Frag) (n:Nat):Sp:=fun vs H Q _=>∃ (v:V) (x:W),vs = [v]/\RW H v x/\x.Th/\x.depth < n/\∀ (u:V) (H':Hp),Same H H'->RM K H' u (Z4 x)->Q u H'
theorem RS.two {K:PySem.W.Frag}{H:Hp}{a:Addr}{u1 u2:V}{w1 w2:W} (e:SqT K H a [u1,u2]) (r1:RS K H u1 w1) (r2:RS K H u2 w2):RS K H (.ref a) (.lst [w1,w2]):=
 .lst e rfl fun i v w hv hw=>match i,hv,hw with
  | 0,hv,hw=>by
   have a1:u1 = v:=by simpa using hv
   have a2:w1 = w:=by simpa using hw
   rw [← a1,← a2]; exact r1
  | 1,hv,hw=>by
   have a1:u2 = v:=by simpa using hv
   have a2:w2 = w:=by simpa using hw
   rw [← a1,← a2]; exact r2
  | j + 2,hv,hw=>by simp at hv
theorem RS.three {K:PySem.W.Frag}{H:Hp}{a:Addr}{u1 u2 u3:V}{w1 w2 w3:W} (e:SqT K H a [u1,u2,u3]) (r1:RS K H u1 w1) (r2:RS K H u2 w2) (r3:RS K H u3 w3):RS K H (.ref a) (.lst [w1,w2,w3]):=
 .lst e rfl fun i v w hv hw=>match i,hv,hw with
  | 0,hv,hw=>by
   have a1:u1 = v:=by simpa using hv
   have a2:w1 = w:=by simpa using hw
   rw [← a1,← a2]; exact r1
  | 1,hv,hw=>by
   have a1:u2 = v:=by simpa using hv
   have a2:w2 = w:=by simpa using hw
   rw [← a1,← a2]; exact r2
  | 2,hv,hw=>by
   have a1:u3 = v:=by simpa using hv
   have a2:w3 = w:=by simpa using hw
   rw [← a1,← a2]; exact r3
  | j + 3,hv,hw=>by simp at hv
theorem RM.three {K:PySem.W.Frag}{H:Hp}{a:Addr}{u1 u2 u3:V}{w1 w2 w3:W} (e:SqT K H a [u1,u2,u3]) (r1:RS K H u1 w1) (r2:RS K H u2 w2) (r3:RS K H u3 w3):RM K H (.ref a) (.lst [w1,w2,w3]):=
 ⟨RS.three e r1 r2 r3,fun m x h=>by simp at h⟩
theorem RM.two {K:PySem.W.Frag}{H:Hp}{a:Addr}{u2:V}{w2:W} (e:SqT K H a [.str "made",u2]) (r1:RS K H (.str "made") (.txt "made")) (r2:RW H u2 w2):RM K H (.ref a) (.lst [.txt "made",w2]):=
 ⟨RS.two e r1 r2.toRS,fun m x h=>by
  have e2:w2 = x:=by simpa using (show _/\w2 = x by simpa using h).2
  subst e2
  exact ⟨a,u2,rfl,e,r2⟩⟩
section
variable {P:Program}{w:World}{K:PySem.W.Frag}{mg:Str->Option Value}{base:Heap}{f:Addr}{fd:FuncData}{k n:Nat}{ARun ABook:Addr}
theorem zlC:FnScope ["thing"] ["thing"] (zn zh3):=mkSc rfl (by decide +kernel)
theorem zlD {n:Nat}{g:Addr} (F:Fun K "made" "made" zh3 f fd) (G_is_worth:Have P w K mg base "is_worth" k ["thing"] zeM)
  (m_GREAT:mg "GREAT" = some (.ref g)) (hg:∀ H:Hp,SqT K H g [.str "wrong",.str "great",.str ""]):FnOk P w K mg base CX0 (k + 1) f fd ["thing"] (zaO K n):=by
 refine F.ok zlC (by rintro _ _ _ _ ⟨_,_,rfl,_⟩; rfl) fun cdv A outer s H vs Q E hr h=>?_
 obtain ⟨v,x,rfl,rw,hth,hn,q⟩:=h
 refine ⟨_,(zl (zq (ZW (zQ (zt G_is_worth hr rfl (zc (pv 0) zd))) (zA (zc zo (zc (pv 0) zd))) (zX (v:=.ref g) rfl m_GREAT rfl)))),?_⟩
 refine ⟨_,rfl,v,x.toT,rfl,rw.toRT,zkT x hth,fun H1 s1=>⟨_,rfl,?_⟩⟩
 rw [zfA hth]
 cases hgd:zil x with
 | true=>
  refine iteT ⟨_,rfl,zl2,fun a ha=>?_⟩
  have s2:=Same.new (o:=.tup [.str "made",v]) ha
  refine q _ _ (s1.trans s2) ?_
  unfold Z4
  rw [if_pos hgd]
  exact RM.two (SqT.of zh) (.txt _) (rw.mono (zC (s1.trans s2)))
 | false=>
  refine iteF (q _ _ s1 ?_)
  unfold Z4
  rw [if_neg (by rw [hgd]; decide)]
  exact RM.three (hg H1) (.txt _) (.txt _) (.txt _)
end
end D
namespace L2
open PySem PySem.Spec PyProof.Rows
section
variable {prog:Program}{w:World}{A:Around}{E:Value->Shared->Prop}{s:Shared}
open HT in
end
end L2
namespace D
open PySem L2
theorem zmV {H:Hp}{ws zs:List W}{its its2:List Value}{vs us:List V} (r1:Vals vs its) (r2:Vals us its2) (l1:vs.length = ws.length) (l2:us.length = zs.length):
  ((List.range (min its.toArray.size its2.toArray.size)).all (fun j=>eqW (ws.getD j (.num 0)) (zs.getD j (.num 0))) && its.toArray.size == its2.toArray.size) = eqW (.lst ws) (.lst zs):=by
 have e1:its.toArray.size = ws.length:=by rw [List.size_toArray,← r1.length,l1]
 have e2:its2.toArray.size = zs.length:=by rw [List.size_toArray,← r2.length,l2]
 rw [e1,e2]
 exact (zgj ws zs).symm
theorem zkU {X:Cx}{zp:List (Addr × Obj)}{σ:St}{H:Hp}{s:Shared} (I:Inv X zp σ H s):∀ (n:Nat) (A:Around) (x y:W) (u v:V) (U V':Value),x.depth < n->RW H u x->RW H v y->RelV u U->RelV v V'->A.units + n + 2 < cLine->
  SeqAt.EqAt A s U V' (eqW x y):=by
 intro n
 induction n with
 | zero=>intro A x y u v U V' h; omega
 | succ n ih=>
  intro A x y u v U V' hd rx ry r1 r2 hu
  have hu0:A.units < cLine:=by omega
  cases rx with
  | num i=>
   obtain ⟨t,rfl⟩:=r1
   cases ry with
   | num j=>obtain ⟨t2,rfl⟩:=r2; exact SeqAt.EqAt.int_int i t j t2
   | txt z=>obtain ⟨t2,rfl⟩:=r2; exact SeqAt.EqAt.int_str i t z t2
   | lst e _ _=>
    cases r2
    obtain ⟨its,_,p,_⟩:=I.tuple (SqT.of e)
    exact SeqAt.EqAt.int_tuple i t p hu0
  | txt z=>
   obtain ⟨t,rfl⟩:=r1
   cases ry with
   | num j=>obtain ⟨t2,rfl⟩:=r2; exact SeqAt.EqAt.str_int z t j t2
   | txt z2=>obtain ⟨t2,rfl⟩:=r2; exact SeqAt.EqAt.str_str z t z2 t2
   | lst e _ _=>
    cases r2
    obtain ⟨its,_,p,_⟩:=I.tuple (SqT.of e)
    exact SeqAt.EqAt.str_tuple z t p hu0
  | @lst a vs ws e l at1=>
   cases r1
   obtain ⟨its,rv,p,_⟩:=I.tuple (SqT.of e)
   cases ry with
   | num j=>obtain ⟨t2,rfl⟩:=r2; exact SeqAt.EqAt.tuple_int j t2 p hu0
   | txt z2=>obtain ⟨t2,rfl⟩:=r2; exact SeqAt.EqAt.tuple_str z2 t2 p hu0
   | @lst b us zs e2 l2 at2=>
    cases r2
    obtain ⟨its2,rv2,p2,_⟩:=I.tuple (SqT.of e2)
    by_cases hab:a = b
    ·subst hab
     have:W.lst ws = W.lst zs:=RW.inj (.lst e l at1) (.lst e2 l2 at2)
     rw [this,zd0]
     exact SeqAt.EqAt.same _
    ·rw [← zmV (H:=H) rv rv2 l l2]
     refine SeqAt.EqAt.of_refs hab (SeqAt.RcAt.tuples p p2 hu0 fun j h1 h2=>?_)
     have j1:j < its.length:=by simpa using h1
     have j2:j < its2.length:=by simpa using h2
     have k1:j < vs.length:=by rw [rv.length]; exact j1
     have k2:j < us.length:=by rw [rv2.length]; exact j2
     have m1:j < ws.length:=by omega
     have m2:j < zs.length:=by omega
     obtain ⟨U1,hU1,rU1⟩:=rv.get (List.getElem?_eq_getElem k1)
     obtain ⟨U2,hU2,rU2⟩:=rv2.get (List.getElem?_eq_getElem k2)
     have f1:its.toArray[j] = U1:=by have:=(List.getElem?_eq_some_iff.mp hU1).2; simpa using this
     have f2:its2.toArray[j] = U2:=by have:=(List.getElem?_eq_some_iff.mp hU2).2; simpa using this
     rw [f1,f2]
     have g1:ws.getD j (.num 0) = ws[j]:=by rw [List.getD_eq_getElem?_getD,List.getElem?_eq_getElem m1]; rfl
     have g2:zs.getD j (.num 0) = zs[j]:=by rw [List.getD_eq_getElem?_getD,List.getElem?_eq_getElem m2]; rfl
     rw [g1,g2]
     have hdj:=zad ws[j] (List.getElem_mem m1)
     have hd':1 + depths ws < n + 1:=hd
     have hu1:A.in1.units = A.units + 1:=rfl
     exact ih A.in1 ws[j] zs[j] vs[j] us[j] U1 U2 (by omega) (at1 j _ _ (List.getElem?_eq_getElem k1) (List.getElem?_eq_getElem m1)) (at2 j _ _ (List.getElem?_eq_getElem k2) (List.getElem?_eq_getElem m2)) rU1 rU2 (by omega)
theorem zmW {X:Cx} (hu:X.A.units + 64 < cLine):OpR X (compareOp .Eq) (fun x y H Q=>∃ wx wy:W,RW H x wx/\RW H y wy/\wx.depth < 50/\Q (.bl (eqW wx wy)) H):=by
 intro zp s σ H x y v u Q I rx ry h
 obtain ⟨wx,wy,hx,hy,hd,q⟩:=h
 have hu0:X.A.units < cLine:=by omega
 have fin:EP X zp σ Q (.bool (eqW wx wy)) s:=⟨.bl _,H,I,rfl,q⟩
 cases hx with
 | num i=>
  obtain ⟨t,rfl⟩:=rx
  cases hy with
  | num j=>obtain ⟨t2,rfl⟩:=ry; exact SeqAt.RcAt.int_int i t j t2 _ _ _ _ fin
  | txt z=>obtain ⟨t2,rfl⟩:=ry; exact SeqAt.RcAt.int_str i t z t2 _ _ _ _ fin
  | lst e _ _=>
   cases ry
   obtain ⟨its,_,p,_⟩:=I.tuple (SqT.of e)
   exact SeqAt.RcAt.int_tuple i t p hu0 _ _ _ _ fin
 | txt z=>
  obtain ⟨t,rfl⟩:=rx
  cases hy with
  | num j=>obtain ⟨t2,rfl⟩:=ry; exact SeqAt.RcAt.str_int z t j t2 _ _ _ _ fin
  | txt z2=>obtain ⟨t2,rfl⟩:=ry; exact SeqAt.RcAt.str_str z t z2 t2 _ _ _ _ fin
  | lst e _ _=>
   cases ry
   obtain ⟨its,_,p,_⟩:=I.tuple (SqT.of e)
   exact SeqAt.RcAt.str_tuple z t p hu0 _ _ _ _ fin
 | @lst a vs ws e l at1=>
  cases rx
  obtain ⟨its,rv,p,_⟩:=I.tuple (SqT.of e)
  cases hy with
  | num j=>obtain ⟨t2,rfl⟩:=ry; exact SeqAt.RcAt.tuple_int j t2 p hu0 _ _ _ _ fin
  | txt z2=>obtain ⟨t2,rfl⟩:=ry; exact SeqAt.RcAt.tuple_str z2 t2 p hu0 _ _ _ _ fin
  | @lst b us zs e2 l2 at2=>
   cases ry
   obtain ⟨its2,rv2,p2,_⟩:=I.tuple (SqT.of e2)
   rw [← zmV (H:=H) rv rv2 l l2] at fin
   refine SeqAt.RcAt.tuples p p2 hu0 (fun j h1 h2=>?_) _ _ _ _ fin
   have j1:j < its.length:=by simpa using h1
   have j2:j < its2.length:=by simpa using h2
   have k1:j < vs.length:=by rw [rv.length]; exact j1
   have k2:j < us.length:=by rw [rv2.length]; exact j2
   have m1:j < ws.length:=by omega
   have m2:j < zs.length:=by omega
   obtain ⟨U1,hU1,rU1⟩:=rv.get (List.getElem?_eq_getElem k1)
   obtain ⟨U2,hU2,rU2⟩:=rv2.get (List.getElem?_eq_getElem k2)
   have f1:its.toArray[j] = U1:=by have:=(List.getElem?_eq_some_iff.mp hU1).2; simpa using this
   have f2:its2.toArray[j] = U2:=by have:=(List.getElem?_eq_some_iff.mp hU2).2; simpa using this
   rw [f1,f2]
   have g1:ws.getD j (.num 0) = ws[j]:=by rw [List.getD_eq_getElem?_getD,List.getElem?_eq_getElem m1]; rfl
   have g2:zs.getD j (.num 0) = zs[j]:=by rw [List.getD_eq_getElem?_getD,List.getElem?_eq_getElem m2]; rfl
   rw [g1,g2]
   have hdj:=zad ws[j] (List.getElem_mem m1)
   have hd':1 + depths ws < 50:=hd
   have hu1:X.A.in1.units = X.A.units + 1:=rfl
   exact zkU I 50 X.A.in1 ws[j] zs[j] vs[j] us[j] U1 U2 (by omega) (at1 j _ _ (List.getElem?_eq_getElem k1) (List.getElem?_eq_getElem m1)) (at2 j _ _ (List.getElem?_eq_getElem k2) (List.getElem?_eq_getElem m2)) rU1 rU2 (by omega)
end D
namespace L2
open PySem PySem.Spec PyProof.Rows
structure QSs (X:Cx) (st:List Stmt) (t:TS):Prop where
 un:PSs X st t
structure QIfs (X:Cx) (ifs:List Expr) (t:TT):Prop where
 un:PIfs X ifs t
structure QGs (X:Cx) (ts:List Expr) (t:TGs):Prop where
 un:PGs X ts t
structure QE (X:Cx) (e:Expr) (t:TE):Prop where
 un:PE X e t
structure QT (X:Cx) (e:Expr) (t:TT):Prop where
 un:PT X e t
structure QW (X:Cx) (e:Expr) (t:TT):Prop where
 un:PW X e t
structure QA (X:Cx) (es:List Expr) (t:TA):Prop where
 un:PA X es t
structure QS (X:Cx) (st:Stmt) (t:TS):Prop where
 un:PS X st t
structure QI (X:Cx) (tg iter:Expr) (wi:TI):Prop where
 un:PI X tg iter wi
structure QG (X:Cx) (tg:Expr) (t:TG):Prop where
 un:PG X tg t
structure QO (X:Cx) (e:Option Expr) (t:TO):Prop where
 un:PO X e t
structure QC (X:Cx) (op:CmpOp) (a b:Expr) (t:TE):Prop where
 un:PC X op a b t
theorem Fun.okQ {P:Program}{w:World}{K:PySem.W.Frag}{mg:Str->Option Value}{base:Heap}{x qual:Str}{st:Stmt}{f:Addr}{fd:FuncData}{N ps:List Str}{k:Nat}{sp:Sp} (F:Fun K x qual st f fd) (sc:FnScope N ps (zn st)) (h1:∀ (vs:List V) (H:Hp) (Q:VK) (E:XK),sp vs H Q E->vs.length = ps.length)
  (h2:∀ (cdv:Value) (A:Around) (outer:List Env) (s:Shared) (H:Hp) (vs:List V) (Q:VK) (E:XK),Room k (A.deeper (PyProof.Rows.envOfC qual (zn st) s.heap.objs.size f cdv))->sp vs H Q E->
   ∃ t:TS,QSs (cxOf CX0 P w K mg base N qual (zn st) f cdv A outer s H E).nox (Zb st) t/\t { nx:=fun _ H'=>Q V.non H',rt:=Q } (L2.start N vs) H):FnOk P w K mg base CX0 (k + 1) f fd ps sp:=
 F.ok sc h1 fun cdv A outer s H vs Q E hr h=>let ⟨t,a,b⟩:=h2 cdv A outer s H vs Q E hr h; ⟨t,a.un,b⟩
end L2
namespace D
open PySem L2
theorem zx {X:Cx}:QSs X [] zla:=⟨L2.zx ⟩
theorem zi {X:Cx}{st:Stmt}{rest:List Stmt}{t u:TS} (h0:QS X st t) (h1:QSs X rest u):QSs X (st :: rest) (tSeq t u):=⟨L2.zi h0.un h1.un⟩
theorem zl {X:Cx}{st:Stmt}{t:TS} (h0:QS X st t):QSs X [st] t:=⟨L2.zl h0.un⟩
theorem zq {X:Cx}{e:Expr}{te:TE}{pos:Pos} (h0:QE X e te):QS X (Stmt.Return (some e) pos) (tRet te):=⟨L2.zq h0.un⟩
theorem zJ {X:Cx}{t u:TS}{pos:Pos}{c:Expr}{a b:List Stmt}{tc:TT} (h0:QT X c tc) (h1:QSs X a t) (h2:QSs X b u):QS X (Stmt.If c a b pos) (tIfS tc t u):=⟨L2.zJ h0.un h1.un h2.un⟩
theorem zw {X:Cx}{pos:Pos}{i:Nat}{x:Str}{e:Expr}{te:TE}{pos':Pos} (h0:X.N.Nodup) (h1:X.N[i]? = some x) (h2:L2.Loc X.env.scope x) (h3:QE X e te) (h4:autoParam (swapsWith e (some (Expr.Name x pos')) pos.line X.env = pure false) L2.zw._auto_1) (h5:autoParam (X.fn x = true\/List.lookup x X.env.scope.names = some NameKind.local) L2.zw._auto_2):QS X (Stmt.Assign [Expr.Name x pos'] e pos) (tAsg te (ZD i)):=⟨L2.zw h0 h1 h2 h3.un h4 h5⟩
theorem zaM {X:Cx}{pos:Pos}{tg e:Expr}{te:TE}{g:TG} (h0:QE X e te) (h1:QG X tg g) (h2:autoParam (swapsWithSole [tg] e pos.line X.env = pure false) L2.zaM._auto_1) (h3:autoParam (swappedStores [tg] e X.env = pure none) L2.zaM._auto_2) (h4:autoParam (List.map (fun (x:Bool × (Value->Sem Unit))=>x.snd) (assignEach [tg] X.env) = [assign tg X.env]) L2.zaM._auto_3):QS X (Stmt.Assign [tg] e pos) (tAsg te g):=⟨L2.zaM h0.un h1.un h2 h3 h4⟩
theorem ZN {X:Cx}{e:Expr}{te:TE}{pos:Pos} (h0:QE X e te) (h1:autoParam (swapsWith e none pos.line X.env = pure false) L2.ZN._auto_1):QS X (Stmt.Expr e pos) (zmu te):=⟨L2.ZN h0.un h1⟩
theorem zau {X:Cx}{tg iter:Expr}{body:List Stmt}{wi:TI}{g:TG}{tb:TS}{pos:Pos} (h0:PassesOwn (model X.prog X.w) X.A X.env X.xe) (h1:X.calm = true) (h2:QI X tg iter wi) (h3:QG X tg g) (h4:QSs X body tb) (h5:autoParam (∀ (x:Value),foldedSetIterable iter X.env x = pure x) L2.zau._auto_1):QS X (Stmt.For tg iter body [] pos) (tFor wi g tb):=⟨L2.zau h0 h1 h2.un h3.un h4.un h5⟩
theorem zch {X:Cx}{pos:Pos}{c:Expr}{body:List Stmt}{tc:TT}{tb:TS} (h0:PassesOwn (model X.prog X.w) X.A X.env X.xe) (h1:QT X c tc) (h2:QSs X body tb):QS X (Stmt.While c body [] pos) (zky tc tb):=⟨L2.zch h0 h1.un h2.un⟩
theorem zj {X:Cx}{i:Int}{j:Nat}{pos:Pos}:QE X (Expr.Constant (Const.int i) j pos) (tC (V.int i)):=⟨L2.zj ⟩
theorem zo {X:Cx}{x:Str}{j:Nat}{pos:Pos}:QE X (Expr.Constant (Const.str x) j pos) (tC (V.str x)):=⟨L2.zo ⟩
theorem zcq {X:Cx}{b:Bool}{j:Nat}{pos:Pos}:QE X (Expr.Constant (Const.bool b) j pos) (tC (V.bl b)):=⟨L2.zcq ⟩
theorem zen {X:Cx}{j:Nat}{pos:Pos}:QE X (Expr.Constant Const.none j pos) (tC V.non):=⟨L2.zen ⟩
theorem pv {X:Cx} (i:Nat) {x:Str}{pos:Pos} (h0:autoParam (X.N[i]? = some x) L2.pv._auto_1) (h1:autoParam (Vis X.env.scope x) L2.pv._auto_2) (h2:autoParam ((x == Str.ofString "__debug__") = false) L2.pv._auto_3) (h3:autoParam ((x == Str.ofString "__classdict__") = false) L2.pv._auto_4):QE X (Expr.Name x pos) (tVar i):=⟨L2.pv i h0 h1 h2 h3⟩
theorem zX {X:Cx}{x:Str}{v:V}{u:Value}{pos:Pos} (h0:Gl X x) (h1:X.mg x = some u) (h2:RelV v u) (h3:autoParam ((x == Str.ofString "__debug__") = false) L2.zX._auto_1):QE X (Expr.Name x pos) (tC v):=⟨L2.zX h0 h1 h2 h3⟩
theorem Z8 {X:Cx}{x:Str}{i:Int}{pos:Pos} (h0:Gl X x) (h1:(∃ (t:Tok),X.mg x = some (Value.int i t))) (h2:autoParam ((x == Str.ofString "__debug__") = false) L2.Z8._auto_1):QE X (Expr.Name x pos) (tC (V.int i)):=⟨L2.Z8 h0 h1 h2⟩
theorem ZM {X:Cx}{x:Str}{T:String}{pos:Pos} (h0:Gl X x) (h1:X.mg x = none) (h2:bootBuiltins x = some (Value.type T)) (h3:autoParam (x≠Str.ofString "__name__") L2.ZM._auto_1) (h4:autoParam ((x == Str.ofString "__debug__") = false) L2.ZM._auto_2):QE X (Expr.Name x pos) (tC (V.ty T)):=⟨L2.ZM h0 h1 h2 h3 h4⟩
theorem zF {X:Cx}{a b:Expr}{ta tb:TE}{pos:Pos}{op:Operator}{r:R2} (h0:OpR X (binaryOp op) r) (h1:QE X a ta) (h2:QE X b tb):QE X (a.BinOp op b pos) (tOp r ta tb):=⟨L2.zF h0 h1.un h2.un⟩
theorem zdd {X:Cx}{a:Expr}{ta:TE}{pos:Pos}{op:UnaryOp}{r:V->Hp->VK->Prop} (h0:UnR X (unaryOp op) r) (h1:QE X a ta):QE X (Expr.UnaryOp op a pos) (tUn r ta):=⟨L2.zdd h0 h1.un⟩
theorem zY {X:Cx}{a b:Expr}{ta tb:TE}{pos:Pos}{op:CmpOp}{r:R2} (h0:OpR X (compareOp op) r) (h1:QE X a ta) (h2:QE X b tb) (h3:behindInMarks op b = false):QE X (a.Compare [op] [b] pos) (tOp r ta tb):=⟨L2.zY h0 h1.un h2.un h3⟩
theorem zB {X:Cx}{a b:Expr}{ta tb:TE}{pos:Pos}{op:CmpOp}{r:R2} (h0:OpR X (compareOp op) r) (h1:QE X a ta) (h2:QE X b tb) (h3:behindInMarks op b = false):QT X (a.Compare [op] [b] pos) (zjz (tOp r ta tb)):=⟨L2.zB h0 h1.un h2.un h3⟩
theorem zeo {X:Cx}{a b:Expr}{pos:Pos}{op:CmpOp}{t:TE} (h0:QC X op a b t) (h1:autoParam (behindInMarks op b = false) L2.zeo._auto_1):QE X (a.Compare [op] [b] pos) t:=⟨L2.zeo h0.un h1⟩
theorem zbY {X:Cx}{a b:Expr}{pos:Pos}{op:CmpOp}{t:TE} (h0:QC X op a b t) (h1:autoParam (behindInMarks op b = false) L2.zbY._auto_1):QT X (a.Compare [op] [b] pos) (tB t):=⟨L2.zbY h0.un h1⟩
theorem zcj {X:Cx}{a b c:Expr}{ta tb tc:TE}{pos:Pos}{op op':CmpOp}{r r':R2} (h0:OpR X (compareOp op) r) (h1:OpR X (compareOp op') r') (h2:QE X a ta) (h3:QE X b tb) (h4:QE X c tc) (h5:autoParam (lastMarks [op,op'] [b,c] = false) L2.zcj._auto_1):QT X (a.Compare [op,op'] [b,c] pos) (zjz (zhF r r' ta tb tc)):=⟨L2.zcj h0 h1 h2.un h3.un h4.un h5⟩
theorem Z5 {X:Cx}{a b:Expr}{ta tb:TE}{pos:Pos}{rest:List Expr} (h0:QE X a ta) (h1:QE X (Expr.BoolOp BoolOp.And (b :: rest) pos) tb):QE X (Expr.BoolOp BoolOp.And (a :: b :: rest) pos) (zms ta tb):=⟨L2.Z5 h0.un h1.un⟩
theorem zk9 {X:Cx}{a b:Expr}{ta tb:TE}{pos:Pos}{rest:List Expr} (h0:QE X a ta) (h1:QE X (Expr.BoolOp BoolOp.Or (b :: rest) pos) tb):QE X (Expr.BoolOp BoolOp.Or (a :: b :: rest) pos) (tOrV ta tb):=⟨L2.zk9 h0.un h1.un⟩
theorem zap {X:Cx}{a:Expr}{pos:Pos}{op:BoolOp}{t:TE} (h0:QE X a t):QE X (Expr.BoolOp op [a] pos) t:=⟨L2.zap h0.un⟩
theorem zf9 {X:Cx}{a:Expr}{ta:TE}{pos:Pos} (h0:QE X a ta):QE X (Expr.UnaryOp UnaryOp.Not a pos) (zmt ta):=⟨L2.zf9 h0.un⟩
theorem ZW {X:Cx}{a b:Expr}{ta tb:TE}{pos:Pos}{tA:TT}{c:Expr} (h0:QT X c tA) (h1:QE X a ta) (h2:QE X b tb):QE X (c.IfExp a b pos) (tIf tA ta tb):=⟨L2.ZW h0.un h1.un h2.un⟩
theorem zQ {X:Cx}{e:Expr}{t:TE} (h:QE X e t) (he:∀ whole,isTrue e X.env whole = (do let v ← whole; standAt e.pos; holding [v] (truthy v)):=by intro _; rfl):QT X e (tB t):=⟨L2.zQ h.un he⟩
theorem Zh {X:Cx}{a:Expr}{pos:Pos}{tA:TT} (h0:QT X a tA):QT X (Expr.UnaryOp UnaryOp.Not a pos) (tNot tA):=⟨L2.Zh h0.un⟩
theorem zbm {X:Cx}{a b:Expr}{pos:Pos}{tA tB':TT}{rest:List Expr} (h0:QT X a tA) (h1:QW X (Expr.BoolOp BoolOp.And (b :: rest) pos) tB'):QW X (Expr.BoolOp BoolOp.And (a :: b :: rest) pos) (tAnd tA tB'):=⟨L2.zbm h0.un h1.un⟩
theorem zaD {X:Cx}{a:Expr}{pos:Pos}{tA:TT} (h0:QT X a tA):QW X (Expr.BoolOp BoolOp.And [a] pos) tA:=⟨L2.zaD h0.un⟩
theorem zb6 {X:Cx}{a b:Expr}{pos:Pos}{tA tB':TT}{rest:List Expr} (h0:QT X a tA) (h1:QW X (Expr.BoolOp BoolOp.Or (b :: rest) pos) tB'):QW X (Expr.BoolOp BoolOp.Or (a :: b :: rest) pos) (tOr tA tB'):=⟨L2.zb6 h0.un h1.un⟩
theorem zaR {X:Cx}{a:Expr}{pos:Pos}{tA:TT} (h0:QT X a tA):QW X (Expr.BoolOp BoolOp.Or [a] pos) tA:=⟨L2.zaR h0.un⟩
theorem PW.pt {X:Cx}{e:Expr}{t:TT} (h0:QW X e t):QT X e t:=⟨L2.PW.pt h0.un⟩
theorem zt {X:Cx}{x:Str}{k:Nat}{ps:List Str}{sp:Sp}{e:Expr}{es:List Expr}{t:TA}{p pos:Pos} (h0:Have X.prog X.w X.K X.mg X.base x k ps sp) (h1:Room k X.A) (h2:Gl X x) (h3:QA X (e :: es) t) (h4:autoParam ((x == Str.ofString "__debug__") = false) L2.zt._auto_1) (h5:autoParam (starEach (e :: es) X.env = (false,eval e X.env) :: starEach es X.env) L2.zt._auto_2) (h6:autoParam (((backTo pos (starEach es X.env)).any fun (x:Bool × Sem Value)=>x.fst) = false) L2.zt._auto_3):QE X ((Expr.Name x p).Call (e :: es) [] pos) (zgQ sp [] E0 t):=⟨L2.zt h0 h1 h2 h3.un h4 h5 h6⟩
theorem zu {X:Cx}{x:Str}{p pos:Pos}{e:Expr}{es:List Expr}{t:TA}{id:String}{r:List V->Hp->VK->Prop} (h0:zaE X (Value.builtin id) r) (h1:Gl X x) (h2:X.mg x = none) (h3:bootBuiltins x = some (Value.builtin id)) (h4:QA X (e :: es) t) (h5:autoParam (x≠Str.ofString "__name__") L2.zu._auto_1) (h6:autoParam ((x == Str.ofString "__debug__") = false) L2.zu._auto_2) (h7:autoParam (starEach (e :: es) X.env = (false,eval e X.env) :: starEach es X.env) L2.zu._auto_3) (h8:autoParam (((backTo pos (starEach es X.env)).any fun (x:Bool × Sem Value)=>x.fst) = false) L2.zu._auto_4):QE X ((Expr.Name x p).Call (e :: es) [] pos) (tCB r t):=⟨L2.zu h0 h1 h2 h3 h4.un h5 h6 h7 h8⟩
theorem zE {X:Cx}{x:Str}{p pos:Pos}{e:Expr}{es:List Expr}{t:TA}{T:String}{r:List V->Hp->VK->Prop} (h0:zaE X (Value.type T) r) (h1:Gl X x) (h2:X.mg x = none) (h3:bootBuiltins x = some (Value.type T)) (h4:QA X (e :: es) t) (h5:autoParam (x≠Str.ofString "__name__") L2.zE._auto_1) (h6:autoParam ((x == Str.ofString "__debug__") = false) L2.zE._auto_2) (h7:autoParam (starEach (e :: es) X.env = (false,eval e X.env) :: starEach es X.env) L2.zE._auto_3) (h8:autoParam (((backTo pos (starEach es X.env)).any fun (x:Bool × Sem Value)=>x.fst) = false) L2.zE._auto_4):QE X ((Expr.Name x p).Call (e :: es) [] pos) (tCB r t):=⟨L2.zE h0 h1 h2 h3 h4.un h5 h6 h7 h8⟩
theorem zb8 {X:Cx}{o e:Expr}{es:List Expr}{to:TE}{t:TA}{name:Str}{apos cpos:Pos}{T id:String}{r:V->List V->Hp->VK->Prop} (pa:PlainAttrs T) (slot:Slot T name id) (hty:typeOf (.builtin id) = pure (.type "method_descriptor")) (hm:MtR X id r) (ho:QE X o to) (ha:QA X (e :: es) t)
  (hbase:attributeBase o name X.env (eval o X.env) = eval o X.env:=by rfl)
  (hfew:((backTo cpos (starEach (e :: es) X.env)).all (fun x=>!x.1) && (backToKw cpos (keywordEach [] X.env)).all (fun x=>x.1.isSome)
   && decide ((e :: es).length + ([]:List Keyword).length + (if ([]:List Keyword).isEmpty then 0 else 1) < 30)) = true:=by rfl)
  (hline:(apos.endLine == cpos.line) = true:=by rfl) (hs:starEach (e :: es) X.env = (false,eval e X.env) :: starEach es X.env:=by rfl) (hplain:(backTo cpos (starEach es X.env)).any (·.1) = false:=by rfl):
  QE X (.Call (.Attribute o name apos) (e :: es) [] cpos) (tBM X.K T r to t):=⟨L2.zb8 pa slot hty hm ho.un ha.un hbase hfew hline hs hplain⟩
theorem zD {X:Cx}{a b:Expr}{ta tb:TE}{pos:Pos}{r:R2} (h0:IxR X r) (h1:QE X a ta) (h2:QE X b tb) (h3:zhP b):QE X (a.Subscript b pos) (tOp r ta tb):=⟨L2.zD h0 h1.un h2.un h3⟩
theorem ZX {X:Cx}{e:Expr}{te:TE}{lo hi:Option Expr}{tl th:TO}{pos p2:Pos}{r:V->Option Int->Option Int->Hp->VK->Prop} (h0:SlR X r) (h1:QE X e te) (h2:QO X lo tl) (h3:QO X hi th):QE X (e.Subscript (Expr.Slice lo hi none p2) pos) (tSl r te tl th):=⟨L2.ZX h0 h1.un h2.un h3.un⟩
theorem zaF {X:Cx}:QO X none zhN:=⟨L2.zaF ⟩
theorem zag {X:Cx}{e:Expr}{te:TE} (h0:QE X e te):QO X (some e) (zmD te):=⟨L2.zag h0.un⟩
theorem zL {X:Cx}{es:List Expr}{t:TA}{pos:Pos} (h0:QA X es t):QE X (Expr.List es pos) (tLst t):=⟨L2.zL h0.un⟩
theorem zA {X:Cx}{es:List Expr}{t:TA}{pos:Pos}{x1:Nat} (h0:QA X es t):QE X (Expr.Tuple es x1 pos) (tTup t):=⟨L2.zA h0.un⟩
theorem zd {X:Cx}:QA X [] tNil:=⟨L2.zd ⟩
theorem zc {X:Cx}{e:Expr}{es:List Expr}{te:TE}{t:TA} (h0:QE X e te) (h1:QA X es t) (h2:autoParam (starEach (e :: es) X.env = (false,eval e X.env) :: starEach es X.env) L2.zc._auto_1):QA X (e :: es) (zao te t):=⟨L2.zc h0.un h1.un h2⟩
theorem zaZ {X:Cx}{pos:Pos}:QE X (Expr.Dict [] [] pos) zkB:=⟨L2.zaZ ⟩
theorem zbb {X:Cx}{o i:Expr}{pos:Pos}{td ty:TE} (h0:X.A.units + 1 < cLine) (h1:QE X o td) (h2:QE X i ty) (h3:NoSl i):QE X (o.Subscript i pos) (zmy td ty):=⟨L2.zbb h0 h1.un h2.un h3⟩
theorem zcr {X:Cx}{a:Expr}{ta:TE}{j:Nat}{pos':Pos} (h0:QE X a ta):QC X CmpOp.Is a (Expr.Constant Const.none j pos') (tIsN ta):=⟨L2.zcr h0.un⟩
theorem zdH {X:Cx}{a:Expr}{ta:TE}{j:Nat}{pos':Pos} (h0:QE X a ta):QC X CmpOp.IsNot a (Expr.Constant Const.none j pos') (zmr ta):=⟨L2.zdH h0.un⟩
theorem zbJ {X:Cx}{o i value:Expr}{pos pos':Pos}{td ty tv:TE} (h0:X.A.units + 1 < cLine) (h1:QE X o td) (h2:QE X i ty) (h3:QE X value tv) (h4:swapsWith value (some (o.Subscript i pos')) pos.line X.env = pure false):QS X (Stmt.Assign [o.Subscript i pos'] value pos) (zmz td ty tv):=⟨L2.zbJ h0 h1.un h2.un h3.un h4⟩
theorem zck {X:Cx}{o e:Expr}{apos cpos:Pos}{td ty:TE} (h0:X.A.units + 1 < cLine) (h1:QE X o td) (h2:QE X e ty) (h3:M1 X o (Str.ofString "get") apos e cpos):QE X ((o.Attribute (Str.ofString "get") apos).Call [e] [] cpos) (zkC td ty):=⟨L2.zck h0 h1.un h2.un h3⟩
theorem Zx {X:Cx}{elt iter:Expr}{x:Str}{px pos:Pos}{ifs:List Expr}{scope:Scope}{cl:List (Str × Addr)} (fr:List Nat) (ys:List Str) {wi:TI}{tt:TT}{te:TE} (h0:X.calm = true) (h1:closureFor scope X.env = pure cl) (h2:(∀ (y:Str × NameKind),y∈scope.names->y.snd≠NameKind.cell)) (h3:scope.kind = ScopeKind.function) (h4:(∀ (y:Str × NameKind),y∈scope.names->y.snd = NameKind.local->List.lookup y.fst scope.names = some NameKind.local)) (h5:List.lookup x scope.names = some NameKind.local) (h6:(x :: ys).Nodup) (h7:ClOk cl X.env.cells) (h8:(scope.names.all fun (y:Str × NameKind)=>y.snd != NameKind.free || (List.lookup y.fst cl).isSome) = true) (h9:FrOk X scope cl fr ys) (h10:QI X (Expr.Name x px) iter wi) (h11:(∀ (C:Addr) (s:Shared) (H:Hp) (fp:List Addr),QIfs (zH X scope cl (x :: ys) C s H fp) ifs tt/\QE (zH X scope cl (x :: ys) C s H fp) elt te)) (h12:autoParam (∀ (v:Value),foldedSetIterable iter X.env v = pure v) L2.Zx._auto_1):QE X (elt.ListComp [{ target:=Expr.Name x px,iter:=iter,ifs:=ifs,is_async:=0 }] scope pos) (zcD fr wi tt te):=⟨L2.Zx fr ys h0 h1 h2 h3 h4 h5 h6 h7 h8 h9 h10.un (fun C s H fp=>⟨(h11 C s H fp).1.un,(h11 C s H fp).2.un⟩) h12⟩
theorem Zn {X:Cx}:QIfs X [] fun (x:St) (H:Hp) (Q:Bool->Hp->Prop)=>Q true H:=⟨L2.Zn ⟩
theorem zat {X:Cx}{tg l:Expr}{tl:TE} (h0:QE X l tl):QI X tg l (zhz X.K tl):=⟨L2.zat h0.un⟩
theorem zep {X:Cx}{tg l:Expr}{tl:TE} (h0:QE X l tl):QI X tg l (iTup X.K tl):=⟨L2.zep h0.un⟩
theorem Zq {X:Cx}{tg a:Expr}{ta:TA}{p pos:Pos} (h0:Gl X (Str.ofString "range")) (h1:X.mg (Str.ofString "range") = none) (h2:QA X [a] ta) (h3:autoParam (starEach [a] X.env = [(false,eval a X.env)]) L2.Zq._auto_1):QI X tg ((Expr.Name (Str.ofString "range") p).Call [a] [] pos) (zmw ta):=⟨L2.Zq h0 h1 h2.un h3⟩
theorem zV {X:Cx}{pos:Pos}{i:Nat}{x:Str} (h0:X.N.Nodup) (h1:X.N[i]? = some x) (h2:L2.Loc X.env.scope x) (h3:autoParam (X.fn x = true\/List.lookup x X.env.scope.names = some NameKind.local) L2.zV._auto_1):QG X (Expr.Name x pos) (ZD i):=⟨L2.zV h0 h1 h2 h3⟩
theorem zbn {X:Cx}{pos:Pos}{es:List Expr}{k:Nat}{t:TGs}{n:Nat} (h0:X.calm = true) (h1:QGs X es t) (h2:autoParam ((assignEach es X.env).length = n) L2.zbn._auto_1) (h3:autoParam (List.findIdx? (fun (x:Bool × (Value->Sem Unit))=>x.fst) (assignEach es X.env) = none) L2.zbn._auto_2):QG X (Expr.Tuple es k pos) (gTup X.K n t):=⟨L2.zbn h0 h1.un h2 h3⟩
theorem zba {X:Cx}:QGs X [] gNil:=⟨L2.zba ⟩
theorem Zt {X:Cx}{e:Expr}{es:List Expr}{t:TG}{u:TGs} (h0:QG X e t) (h1:QGs X es u) (h2:autoParam (List.map (fun (x:Bool × (Value->Sem Unit))=>x.snd) (assignEach (e :: es) X.env) = assign e X.env :: List.map (fun (x:Bool × (Value->Sem Unit))=>x.snd) (assignEach es X.env)) L2.Zt._auto_1):QGs X (e :: es) (zgI t u):=⟨L2.Zt h0.un h1.un h2⟩
theorem zcs {X:Cx}{pos:Pos}{o i:Expr}{to ti:TE}{t:TSet} (ho:QE X o to) (hi:QE X i ti) (hs:PSet X t)
  (ha:∀ v,assign (.Subscript o i pos) X.env v = (do
   let ov ← holding [v] (eval o X.env)
   let iv ← holding [v,ov] (eval i X.env)
   standAt pos
   holding [v,ov,iv] (setItem ov iv v)
   release [v,ov,iv] []):=by intro _; rfl):QG X (.Subscript o i pos) (gSub to ti t):=⟨L2.zcs ho.un hi.un hs ha⟩
theorem zae {X:Cx}{e:Expr}{f:Str}{pos:Pos}{ta:TE} (h0:QE X e ta) (h1:attributeBase e f X.env (eval e X.env) = eval e X.env):QE X (e.Attribute f pos) (tFld X.K ta f):=⟨L2.zae h0.un h1⟩
theorem zdn {X:Cx}{o value:Expr}{f:Str}{pos pos':Pos}{ta tv:TE} (h0:QE X o ta) (h1:QE X value tv) (h2:swapsWith value (some (o.Attribute f pos')) pos.line X.env = pure false):QS X (Stmt.Assign [o.Attribute f pos'] value pos) (sFld X.K ta tv f):=⟨L2.zdn h0.un h1.un h2⟩
end D
namespace L2
open PySem PySem.Spec PyProof.Rows
def MD (P:Program) (w:World) (K:PySem.W.Frag) (g:Addr) (kvs:List (Key × V)):Prop:=
 ∃ (o:Obj) (vs:List (Key × Value)),K.lookup g = some o/\PySem.Obj.IsDictOf (zR P w) o vs/\KV kvs vs/\(g == sysModules) = false
theorem MD.dict {P:Program}{w:World}{K:PySem.W.Frag}{g:Addr}{kvs:List (Key × V)}{h:Heap} (m:MD P w K g kvs) (x:K.In h):∃ vs,KV kvs vs/\h.DictOf (zR P w) g vs/\(g == sysModules) = false:=by
 obtain ⟨o,vs,e,d,r,n⟩:=m
 exact ⟨vs,r,Heap.dictOf_iff.mpr ⟨o,x _ _ e,d⟩,n⟩
theorem zgm {P:Program}{w:World}:∀ l:List (Str × Tok × V × Value),Pairs (zR P w) (l.map fun p=>(⟨hashStr w p.1,.str p.1 p.2.1,p.2.2.2⟩:DictEntry)) (l.map fun p=>((Sum.inr p.1:Key),p.2.2.2))
 | []=>.nil
 | p :: r=>.cons (za9 P w p.1 p.2.1) rfl (zgm r)
theorem zmX:∀ l:List (Str × Tok × V × Value),(∀ p∈l,RelV p.2.2.1 p.2.2.2)->KV (l.map fun p=>((Sum.inr p.1:Key),p.2.2.1)) (l.map fun p=>((Sum.inr p.1:Key),p.2.2.2))
 | [],_=>.nil
 | p :: r,h=>.cons ⟨rfl,h p List.mem_cons_self⟩ (zmX r fun q hq=>h q (List.mem_cons_of_mem _ hq))
theorem zim {P:Program}{w:World}{K:PySem.W.Frag}{g:Addr} (l:List (Str × Tok × V × Value)) {ep:Nat} (e:K.lookup g = some ⟨.type "dict",none,.dict (l.map fun p=>(⟨hashStr w p.1,.str p.1 p.2.1,p.2.2.2⟩:DictEntry)).toArray ep,#[]⟩)
  (n:(g == sysModules) = false) (hr:∀ p∈l,RelV p.2.2.1 p.2.2.2) (nd:(l.map (·.1)).Nodup):MD P w K g (l.map fun p=>((Sum.inr p.1:Key),p.2.2.1)):=by
 refine ⟨_,l.map fun p=>((Sum.inr p.1:Key),p.2.2.2),e,⟨_,_,⟨rfl,rfl,rfl⟩,rfl,?_,?_,?_⟩,zmX l hr,n⟩
 ·intro x hx
  have hx':x∈l.map fun p=>(⟨hashStr w p.1,.str p.1 p.2.1,p.2.2.2⟩:DictEntry):=by simpa using hx
  obtain ⟨p,_,rfl⟩:=List.mem_map.mp hx'
  exact ⟨Sum.inr p.1,za9 P w p.1 p.2.1,rfl⟩
 ·rw [List.toList_toArray]
  exact zgm l
 ·rw [List.map_map]
  have:(l.map ((fun x:Key × Value=>x.1) ∘ fun p=>((Sum.inr p.1:Key),p.2.2.2))) = (l.map (·.1)).map (Sum.inr:Str->Key):=by rw [List.map_map]; rfl
  rw [this]
  exact List.pairwise_map.mpr (List.Pairwise.imp (fun {a b} (h:a≠b) (e:(Sum.inr a:Key) = Sum.inr b)=>h (by simpa using e)) nd)
theorem zkV {X:Cx}:OpR X (compareOp .In) (fun x y H Q=>∃ (g:Addr) (kvs:List (Key × V)) (k:Key),x = kV k/\y = .ref g/\MD X.prog X.w X.K g kvs/\Q (.bl (valV kvs k).isSome) H):=by
 intro zp s σ H x y v u Q I rx ry h
 obtain ⟨g,kvs,k,rfl,rfl,m,q⟩:=h
 cases ry
 obtain ⟨vs,rel,dd,hd⟩:=m.dict I.kIn
 refine wpAny_in_of (zeA rx) hd dd.mapOf ?_
 rw [← (rel.val k).isSome_eq]
 exact ⟨.bl _,H,I.tok _,rfl,q⟩
theorem zin {X:Cx}:OpR X (compareOp .NotIn) (fun x y H Q=>∃ (g:Addr) (kvs:List (Key × V)) (k:Key),x = kV k/\y = .ref g/\MD X.prog X.w X.K g kvs/\Q (.bl (!(valV kvs k).isSome)) H):=by
 intro zp s σ H x y v u Q I rx ry h
 obtain ⟨g,kvs,k,rfl,rfl,m,q⟩:=h
 cases ry
 obtain ⟨vs,rel,dd,hd⟩:=m.dict I.kIn
 refine wpAny_notIn_of (zeA rx) hd dd.mapOf ?_
 rw [← (rel.val k).isSome_eq]
 exact ⟨.bl _,H,I.tok _,rfl,q⟩
theorem zio {X:Cx}:IxR X (fun x y H Q=>∃ (g:Addr) (kvs:List (Key × V)) (k:Key) (v:V),x = .ref g/\y = kV k/\MD X.prog X.w X.K g kvs/\valV kvs k = some v/\Q v H):=by
 intro value slice zp s σ H x y v u Q I rx ry h hs
 obtain ⟨g,kvs,k,z,rfl,rfl,m,hv,q⟩:=h
 cases rx
 obtain ⟨vs,rel,dd,hd⟩:=m.dict I.kIn
 obtain ⟨w',hw,rw'⟩:=RelO.some_of (v:=z) (o:=valueAt vs k) (by rw [← hv]; exact rel.val k)
 exact tail_any dd.typeIs PySem.F.slot_dict_getitem.lookup (wpAny_getItem_of (zeA ry) dd.mapOf hw ⟨z,H,I.tok _,rw',q⟩) hs
def Zl (P:Program) (w:World) (K:PySem.W.Frag) (mg:Str->Option Value) (base:Heap) (f:Addr) (k:Nat) (ps:List Str) (sp:Sp):Prop:=∃ fd:FuncData,FnOk P w K mg base CX0 k f fd ps sp/\Binds K fd ps []/\keepIn K (.ref f) = true
theorem Zl.mono {P:Program}{w:World}{K:PySem.W.Frag}{mg:Str->Option Value}{base:Heap}{f:Addr}{j k:Nat}{ps:List Str}{sp:Sp} (h:Zl P w K mg base f j ps sp) (e:j<=k):Zl P w K mg base f k ps sp:=
 let ⟨fd,F,r⟩:=h; ⟨fd,F.mono e,r⟩
theorem Zl.up {P:Program}{w:World}{K:PySem.W.Frag}{mg:Str->Option Value}{base:Heap}{j k:Nat}{ps:List Str}{sp:Sp}{f:Addr} (h:Zl P w K mg base f j ps sp) (e:Nat.ble j k = true):Zl P w K mg base f k ps sp:=h.mono (Nat.le_of_ble_eq_true e)
def zkW (P:Program) (w:World) (K:PySem.W.Frag) (mg:Str->Option Value) (base:Heap) (k:Nat) (tf:TE) (t:TA):TE:=fun σ H Q=>tf σ H fun x H1=>∃ (f:Addr) (ps:List Str) (sp:Sp),x = .ref f/\Zl P w K mg base f k ps sp/\t σ H1 fun vs H2=>sp vs H2 Q E0
theorem zby {X:Cx}{k:Nat}{fe e:Expr}{es:List Expr}{tf:TE}{t:TA}{pos:Pos} (hr:Room k X.A) (hf:PE X fe tf) (ha:PA X (e :: es) t)
  (hev:eval (.Call fe (e :: es) [] pos) X.env = (do callWith pos (← eval fe X.env) [] (backTo pos (starEach (e :: es) X.env)) (backToKw pos (keywordEach [] X.env))):=by rfl)
  (he:starEach (e :: es) X.env = (false,eval e X.env) :: starEach es X.env:=by rfl) (hpl:(backTo pos (starEach es X.env)).any (·.1) = false:=by rfl):
  PE X (.Call fe (e :: es) [] pos) (zkW X.prog X.w X.K X.mg X.base k tf t):=by
 intro zp s σ H Q I h
 refine Call_ (thn (hf zp s σ H _ I h) fun fv s1 ⟨x,H1,I1,rx,f,ps,sp,ex,⟨fd,F,b,kp⟩,q1⟩=>?_) hev
 subst ex
 obtain rfl:fv = Value.ref f:=rx
 refine callWith_K (h₀:=X.base) I.ok.mod.kin kp (thn (ha pos zp s1 σ H1 _ I1 q1) fun us s2 ⟨vs,H2,I2,r,q⟩=>⟨I2.kIn,?_⟩) he hpl
 exact zga F hr b .nil zgX I2 r (by rw [List.append_nil]; exact q)
end L2
namespace D
open PySem L2
theorem zby {X:Cx}{k:Nat}{fe e:Expr}{es:List Expr}{tf:TE}{t:TA}{pos:Pos} (hr:Room k X.A) (hf:QE X fe tf) (ha:QA X (e :: es) t)
  (hev:eval (.Call fe (e :: es) [] pos) X.env = (do callWith pos (← eval fe X.env) [] (backTo pos (starEach (e :: es) X.env)) (backToKw pos (keywordEach [] X.env))):=by rfl)
  (he:starEach (e :: es) X.env = (false,eval e X.env) :: starEach es X.env:=by rfl) (hpl:(backTo pos (starEach es X.env)).any (·.1) = false:=by rfl):
  QE X (.Call fe (e :: es) [] pos) (zkW X.prog X.w X.K X.mg X.base k tf t):=⟨L2.zby hr hf.un ha.un hev he hpl⟩
end D
namespace L2
open PySem PySem.Spec PyProof.Rows PySem.Builtin PySem.Builtin.Str
theorem zlE {X:Cx}:OpR X (binaryOp .Mult) (rI IntMulOk fun i j=>.int (i * j)):=opI fun _ _ _ _ _ _ _ hc q=>mul_int q hc
def zmY (i j:Int):Prop:=j≠0/\j.natAbs.log2 < 9000
theorem ziq {X:Cx}:OpR X (binaryOp .FloorDiv) (rI zmY fun i j=>.int (i.fdiv j)):=opI fun _ _ _ _ _ _ _ hc q=>floordiv_int hc.1 q (.inl (PyProof.noPylong_of_log2 hc.2))
def znJ (K:PySem.W.Frag):R2:=fun x y H Q=>(∃ i j,x = .str i/\y = .str j/\i.length + j.length<=sizeLine/\Q (.str (i ++ j)) H)\/zmE K x y H Q \/
 ∃ (a b:Addr) (ys:List V),x = .ref a/\y = .ref b/\SqT K H a []/\SqT K H b ys/\Q (.ref b) H
theorem zlF {X:Cx}:OpR X (binaryOp .Add) (znJ X.K):=OpR.or zab (OpR.or zcy zjY)
theorem zlG {K:PySem.W.Frag}{A T1 T2:String}{b1 b2:Bool} (h1:isi A T1 = some b1) (h2:isi A T2 = some b2):kitAny K (.type A) [.type T1,.type T2] = some (b1 || b2):=by
 unfold kitAny
 rw [zeJ h1]
 cases b1 with
 | true=>rfl
 | false=>
  show kitAny K (.type A) [.type T2] = _
  unfold kitAny
  rw [zeJ h2]
  cases b2 <;> rfl
theorem zir {X:Cx}:zaE X (.builtin "isinstance") (fun xs H Q=>∃ v A p T1 T2 b1 b2,xs = [v,.ref p]/\TyOf X.K H v (.type A)/\H p = some (.tup [.ty T1,.ty T2])/\isi A T1 = some b1/\isi A T2 = some b2/\Q (.bl (b1 || b2)) H):=by
 intro zp s σ H xs us Q I r h
 obtain ⟨v,A,p,T1,T2,b1,b2,rfl,ty,hp,e1,e2,q⟩:=h
 obtain ⟨u,c,rfl,rx,rc⟩:=zgL r
 cases (show c = Value.ref p from rc)
 obtain ⟨_,its,ri,⟨o,ho,hc,hd⟩⟩:=(show Zg X.prog X.w H s.heap p (.tup [.ty T1,.ty T2]) from I.hok p _ hp)
 obtain ⟨n,hd⟩:=hd
 have eits:its = [.type T1,.type T2]:=by
  cases ri with
  | cons r1 r2=>
  cases r2 with
  | cons r3 r4=>
  cases r4
  cases (show _ = Value.type T1 from r1)
  cases (show _ = Value.type T2 from r3)
  rfl
 have htp:s.heap.get? p = some ⟨.type "tuple",o.dict,.seq its.toArray n,o.slots⟩:=by
  rw [ho]
  cases o
  simp only at hc hd
  rw [hc,hd]
 have ha:=zlG (K:=X.K) e1 e2
 rw [eits] at htp
 have fin:∀ tk,EP X zp σ Q (.bool (b1 || b2)) { s with toks:=tk }:=fun tk=>⟨.bl _,H,I.tok tk,rfl,q⟩
 cases ty with
 | non=>cases (show u = Value.none from rx); exact kia_tup PySem.W.kitx_none I.kIn True.intro htp ha (fun z=>nomatch z) fin
 | bl y=>cases (show u = Value.bool y from rx); exact kia_tup PySem.W.kitx_bool I.kIn True.intro htp ha (fun z=>nomatch z) fin
 | int i=>obtain ⟨t,q⟩:=(show ∃ t,u = Value.int i t from rx); cases q; exact kia_tup PySem.W.kitx_int I.kIn True.intro htp ha (fun z=>nomatch z) fin
 | str y=>obtain ⟨t,q⟩:=(show ∃ t,u = Value.str y t from rx); cases q; exact kia_tup PySem.W.kitx_str I.kIn True.intro htp ha (fun z=>nomatch z) fin
 | flt y=>obtain ⟨t,q⟩:=(show ∃ t,u = Value.float y t from rx); cases q; exact kia_tup PySem.W.kitx_float I.kIn True.intro htp ha (fun z=>nomatch z) fin
 | @lst a xs ea=>
  cases (show u = Value.ref a from rx)
  obtain ⟨_,_,n,_,h1⟩:=(show Zg X.prog X.w H s.heap a (.lst xs) from I.hok a _ ea)
  exact kia_tup kitx_list I.kIn ⟨_,h1,rfl⟩ htp ha (fun z=>nomatch z) fin
 | @frz a ob xs ea=>
  cases (show u = Value.ref a from rx)
  obtain ⟨_,_,_,n,_,h1⟩:=(show Zg X.prog X.w H s.heap a (.frz ob (.lst xs)) from I.hok a _ ea)
  exact kia_tup kitx_list I.kIn ⟨_,h1,rfl⟩ htp ha (fun z=>nomatch z) fin
 | @tup a xs ea=>
  cases (show u = Value.ref a from rx)
  obtain ⟨_,_,_,p⟩:=(show Zg X.prog X.w H s.heap a (.tup xs) from I.hok a _ ea)
  obtain ⟨o,h1,h2,_⟩:=p
  exact kia_tup kitx_tuple I.kIn ⟨o,h1,h2⟩ htp ha (fun z=>nomatch z) fin
 | @dK a kvs ea=>
  cases (show u = Value.ref a from rx)
  obtain ⟨_,_,vs,_,p⟩:=(show Zg X.prog X.w H s.heap a (.dK kvs) from I.hok a _ ea)
  obtain ⟨o,es,ep,h1,h2,_⟩:=p
  exact kia_tup kitx_dict I.kIn ⟨o,h1,h2.1⟩ htp ha (fun z=>nomatch z) fin
 | @dT a kvs ea=>
  cases (show u = Value.ref a from rx)
  obtain ⟨_,_,xs,_,o,es,ep,h1,h2,_⟩:=(show Zg X.prog X.w H s.heap a (.dT kvs) from I.hok a _ ea)
  exact kia_tup kitx_dict I.kIn ⟨o,h1,h2.1⟩ htp ha (fun z=>nomatch z) fin
end L2
namespace L2
open PySem PySem.Spec PyProof.Rows
theorem zd3 {X:Cx}{i:Nat}{y:Str}{py spos:Pos}{elt iter:Expr}{x:Str}{px pos:Pos}{ifs:List Expr}{scope:Scope}{cl:List (Str × Addr)} (fr:List Nat) (ys:List Str) {wi:TI}{tt:TT}{te:TE}
  (hc:X.calm = true) (hclos:closureFor scope X.env = pure cl) (hcell:∀ y∈scope.names,y.2≠.cell) (hkind:scope.kind = .function) (hnames:∀ y∈scope.names,y.2 = .local->scope.names.lookup y.1 = some .local)
  (hx:scope.names.lookup x = some .local) (hnd:(x :: ys).Nodup) (hcl:ClOk cl X.env.cells) (hall:(scope.names.all fun y=>y.2 != .free || (cl.lookup y.1).isSome) = true) (hfr:FrOk X scope cl fr ys)
  (hi:PI X (.Name x px) iter wi)
  (hY:∀ C s H fp,PIfs (zH X scope cl (x :: ys) C s H fp) ifs tt/\PE (zH X scope cl (x :: ys) C s H fp) elt te)
  (hN:X.N.Nodup) (hiy:X.N[i]? = some y) (hy:Loc X.env.scope y) (hsw:swapsWith (.ListComp elt [⟨.Name x px,iter,ifs,0⟩] scope pos) (some (.Name y py)) spos.line X.env = pure true:=by rfl)
  (hf:X.fn y = true\/X.env.scope.names.lookup y = some .local:=by first | exact .inl rfl | exact .inr rfl | assumption)
  (hs:∀ v,foldedSetIterable iter X.env v = pure v:=by intro _; rfl):
  PS X (.Assign [.Name y py] (.ListComp elt [⟨.Name x px,iter,ifs,0⟩] scope pos) spos) (tAsg (zcD fr wi tt te) (ZD i)):=by
 intro zp s σ H Dn I h
 rw [exec_Assign_Name_used _ _ _ _ hsw]
 refine wpAny_bind (wpAny_standAt (wpAny_bind ?_))
 refine (show wpAny _ X.A (do let _ ← comprehension (.ListComp elt [⟨.Name x px,iter,ifs,0⟩] scope pos) scope X.env _ (newList []) false (eval iter X.env) (some (assign (.Name y py) X.env))) _ _ s from ?_)
 refine wpAny_bind (wpAny_mono (wpAny_comprehension_free (use:=some (assign (.Name y py) X.env)) (Q:=fun _ s'=>SP X zp Dn .next s') rfl hs hclos hkind hnames (wpAny_mono (hi zp s σ H _ I h) (fun v s1 h1=>wpAny_mono h1 (fun itv s2 h2=>?_) fun _ _ e=>e) fun _ _ e=>e)) (fun _ s' hq=>wpAny_pure (wpAny_pure hq)) fun _ _ e=>e)
 obtain ⟨it,fp,tn,J,H2,rfl,I2,T,st2,f2,W,⟨m0,w0⟩,turn⟩:=h2
 refine wpAny_newObj_type (wpAny_newFunctionEnv hcell (by intro y hy; simp at hy) (fun h₁ hns₁ hsb₁=>?_) hkind)
 dsimp only at hns₁ hsb₁ ⊢
 generalize hP2:s2.heap.push { cls:=.type "list",dict:=none,data:=.seq ([]:List Value).toArray } = P2 at hns₁ hsb₁ ⊢
 have hC:P2.objs.size = s2.heap.objs.size + 1:=by rw [← hP2,Heap.size_push]
 have hDC:s2.heap.objs.size≠P2.objs.size:=by rw [hC]; exact Nat.ne_of_lt (Nat.lt_succ_self _)
 have hCle:s2.heap.objs.size<=P2.objs.size:=by rw [hC]; exact Nat.le_succ _
 have below:∀ b,b < s2.heap.objs.size->b≠P2.objs.size/\b≠s2.heap.objs.size:=fun b hb=>⟨by rw [hC]; exact Nat.ne_of_lt (Nat.lt_succ_of_lt hb),Nat.ne_of_lt hb⟩
 have old:∀ b o,s2.heap.get? b = some o->h₁.get? b = some o:=fun b o e=>hsb₁.extBut b o (below b (Heap.lt_size e)).1 (Heap.get?_push_of_some _ (hP2 ▸ Heap.get?_push_of_some _ e))
 have hacc:h₁.get? s2.heap.objs.size = some { cls:=.type "list",data:=.seq ([]:List Value).toArray }:=hsb₁.extBut _ _ hDC (Heap.get?_push_of_some _ (hP2 ▸ Heap.get?_push_size _ rfl))
 have fpl:∀ b∈fp,b < s2.heap.objs.size:=fun b hb=>by
  obtain ⟨o,e,_⟩:=T.obj _ _ st2 b hb
  exact Heap.lt_size e
 have tlt:∀ b o,H2 b = some o->b < s2.heap.objs.size:=fun b o e=>I2.hok.lt e
 generalize hCg:P2.objs.size = C at hns₁ hsb₁ hDC hCle below ⊢
 generalize hDg:s2.heap.objs.size = D at hDC below hacc fpl tlt ⊢
 have hDle:D<=C:=by rw [← hDg]; exact hCle
 have cls:∀ y c,cl.lookup y = some c->X.env.cells.lookup y = some c:=fun y c e=>hcl.mem e
 have clt:∀ y c,cl.lookup y = some c->c < D:=fun y c e=>by
  obtain ⟨v,q⟩:=I2.cell y c (cls y c e)
  rw [← hDg]; exact q.lt
 have sub:∀ b∈frs X.stack,b < D:=fun b hb=>by
  rcases List.mem_cons.mp (I2.stkSub b hb) with e | hb
  ·rw [e,← hDg]; exact I2.lt
  ·obtain ⟨_,o,ho,_⟩:=I2.ok.funs.mem hb
   rw [← hDg]; exact Nat.lt_of_lt_of_le (Heap.lt_size ho) I2.sz
 obtain ⟨YI,YE⟩:=hY C s2 H2 fp
 have Yok:(zH X scope cl (x :: ys) C s2 H2 fp).Ok:=by
  refine ⟨I2.ok.mod,hkind,I2.ok.glob,I2.ok.blt,hCle,?_,?_,?_,fun _=>I2.ok.hd hc,I2.ok.frames,.inl rfl,?_,I2.bs,Nat.le_trans I2.ok.bsz I2.sz,?_,?_,I2.stack,I2.stkFree⟩
  ·exact fun y z c e1 e2=>I2.ok.inj y z c (cls y c e1) (cls z c e2)
  ·intro y hy
   have hm:=ZG (env:=X.env) (names:=scope.names) (x:=y) hcell hy
   have q:=List.all_eq_true.mp hall _ hm
   show ∃ c,cl.lookup y = some c
   exact Option.isSome_iff_exists.mp (by simpa using q)
  ·intro y c hf _
   exact absurd hf (by show ¬ false = true; decide)
  ·intro b hb
   refine ⟨(below b (fpl b hb)).1,fun y c e z=>?_⟩
   exact (f2 b hb).2.2.2.2.1 y c (cls y c e) z
  ·intro b o e hb
   have hb:b∈fp:=hb
   rcases (f2 b hb).2.2.2.1 with z | z
   ·exact I2.ok.noex b o e z
   ·exact absurd (Nat.lt_of_lt_of_le (Heap.lt_size e) (Nat.le_trans I2.ok.bsz z)) (Nat.lt_irrefl _)
  ·intro b hb hf
   have hb:b∈fp:=hb
   rcases List.mem_cons.mp (I2.stkSub b hf) with e | hf
   ·exact (f2 b hb).2.1 e
   ·exact (f2 b hb).2.2.1 hf
 have hvis:Loc (zH X scope cl (x :: ys) C s2 H2 fp).env.scope x:=.inl (lookup_relabel_local hx)
 have start:∀ tk,Inv (zH X scope cl (x :: ys) C s2 H2 fp) [] (none :: frees fr σ) H2 { s2 with heap:=h₁,toks:=tk }:=fun tk=>by
  refine ⟨Yok,rfl,I2.bare,Un.kept old,⟨_,hns₁,fun i y v e1 e2 e3=>?_⟩,fun y c e=>?_,?_,fun y c e=>?_,fun p hp=>absurd (show p∈([]:List (Addr × Obj)) from hp) (by simp),I2.hok.kept old,?_⟩
  ·cases i with
   | zero=>simp at e2
   | succ j=>
    obtain ⟨i',n1,n2,n3,n4,n5,c,n6⟩:=zcE hfr j y v (by simpa [zH] using e1) (by simpa using e2)
    obtain ⟨m,hn,hl⟩:=I2.loc
    obtain ⟨u,r,l⟩:=hl i' y v n1 n2 n4
    refine ⟨u,r,.inr ⟨zak n3,c,n6,?_⟩⟩
    rcases l with ⟨k,_⟩ | ⟨k,c',e,z⟩
    ·exact absurd k n5
    ·rw [cls y c n6] at e
     cases e
     obtain ⟨o,ho,hd⟩:=z
     exact ⟨o,old _ _ ho,hd⟩
  ·obtain ⟨v,o,ho,hd⟩:=I2.cell y c (cls y c e)
   exact ⟨v,o,old _ _ ho,hd⟩
  ·show H2 C = none
   cases q:H2 C with
   | none=>rfl
   | some o=>exact absurd (tlt C o q) (Nat.not_lt.mpr hDle)
  ·exact I2.freeC y c (cls y c e)
  ·show (none :: frees fr σ).length = (x :: ys).length
   rw [List.length_cons,List.length_cons,zcF hfr]
 have fpY:∀ {pl:List (Addr × Obj)}{H':Hp},(∀ b∈fp,H' b = none)->(∀ p∈pl,p.1 = D)->∀ b∈fp,FpOk (zH X scope cl (x :: ys) C s2 H2 fp) pl H' b:=fun {pl H'} hn hpl b hb=>by
  refine ⟨hn b hb,(below b (fpl b hb)).1,Yok.exfs b hb,.inl hb,fun y c e z=>(f2 b hb).2.2.2.2.1 y c (cls y c e) z,fun p hp=>?_⟩
  have hp:p∈[] ++ pl:=hp
  rw [List.nil_append] at hp
  rw [hpl p hp]
  exact (below b (fpl b hb)).2.symm
 have loop:∀ s₃:Shared,(∃ tk,s₃ = { s2 with heap:=h₁,toks:=tk })->
   codeAny (model X.prog X.w) X.A (.compLoop (.ListComp elt [⟨.Name x px,iter,ifs,0⟩] scope pos) 0 (.ref it) (.ref D) (compEnvC scope cl C X.env))
    (compPost (model X.prog X.w) X.A X.xe (some (assign (.Name y py) X.env)) (fun _ s'=>SP X zp Dn .next s') (.ref D) C) s₃:=by
  rintro s₃ ⟨tk,rfl⟩
  refine zcC
   (fun k s'=>∃ i vs ws nn H',Inv (zH X scope cl (x :: ys) C s2 H2 fp) [] (none :: frees fr σ) H' s'/\tn i s'.heap/\(∀ b∈fp,H' b = none)/\H' D = none /\
    s'.heap.get? D = some { cls:=.type "list",data:=.seq (ws:List Value).toArray nn }/\Vals vs ws/\W i k vs H') ?_ m0
   ⟨0,[],[],0,H2,start tk,T.keep _ _ _ st2 fun b _ o e=>old b o e,fun b hb=>(f2 b hb).1,?_,hacc,.nil,w0⟩
  ·rintro n s3 ⟨i,vs,ws,nn,H3,I3,st3,fr3,hD3,ho3,rv3,w3⟩
   have I3':Inv (zH X scope cl (x :: ys) C s2 H2 fp) [(D,{ cls:=.type "list",data:=.seq ws.toArray nn })] (none :: frees fr σ) H3 s3:=I3.pins_of fun p hp=>by
    have e:p = (D,{ cls:=.type "list",data:=.seq ws.toArray nn }):=by simpa using hp
    subst e
    refine ⟨ho3,hD3,hDC,fun z=>absurd (sub D z) (Nat.lt_irrefl _),fun v z=>?_⟩
    have z':Data.seq ws.toArray nn = Data.cell v:=z
    cases z'
   have fp3:=fpY (pl:=[(D,{ cls:=.type "list",data:=.seq ws.toArray nn })]) fr3 (fun p hp=>by rw [List.mem_singleton.mp hp])
   obtain ⟨hsz,alt⟩:=turn i n vs H3 w3
   rcases alt with ⟨stop,fin⟩ | ⟨go,step⟩
   ·refine thn (T.done (zH X scope cl (x :: ys) C s2 H2 fp) rfl rfl rfl rfl i _ s3 _ H3 _ I3' fp3 st3 stop) fun r s4 ⟨hr,I4⟩=>?_
    subst hr
    have pD:=I4.pin (D,{ cls:=.type "list",data:=.seq ws.toArray nn }) (by show _∈[] ++ _; simp)
    obtain ⟨m4,hn4,_⟩:=I4.loc
    have hC4:H3 C = none:=I4.free
    have hok4:HOk X.prog X.w (upd H3 D (.lst vs)) s4.heap:=HOk.track I4.hok hD3 ⟨hsz,ws,nn,rv3,pD.1⟩
    have b4:=I4.base
    have un4:Un (frs X.stack) fp H2 (upd H3 D (.lst vs)) s2.heap s4.heap:=by
     have lt:∀ b o,s2.heap.get? b = some o->b < D:=fun b o e=>by rw [← hDg]; exact Heap.lt_size e
     refine ⟨b4.keep,b4.slot,fun b o e n hx=>?_,b4.there,fun b zs e=>?_,fun b o u e=>?_,fun b ps e=>?_⟩
     ·rw [zr (below b (lt b o e)).2]; exact b4.free b o e n hx
     ·rw [zr (below b (tlt b _ e)).2]; exact b4.tups b zs e
     ·rw [zr (below b (tlt b _ e)).2]; exact b4.frzs b o u e
     ·rw [zr (below b (tlt b _ e)).2]; exact b4.tbls b ps e
    have I5:Inv X zp σ (upd H3 D (.lst vs)) s4:=I2.call' (ch:=fp) I4.os un4 hok4 I4.bare fun b hb=>⟨(f2 b hb).2.2.2.1,(f2 b hb).2.1,(f2 b hb).2.2.2.2.1,(f2 b hb).2.2.2.2.2⟩
    have fC:FpOk X zp (upd H3 D (.lst vs)) C:=I2.fpOk (by rw [hDg]; exact hDle) (by rw [zr hDC.symm]; exact hC4)
    refine (show wpAny _ X.A (assign (.Name y py) X.env (.ref D)) _ _ s4 from wpAny_assign_Name (zem I5 hN hiy hy (v:=.ref D) rfl (fun s5 I6 ⟨a,hsa,ha⟩=>?_) hf))
    have aC:C≠a:=by
     rcases ha with ha | ha
     ·rw [ha]; exact fC.2.1
     ·exact (fC.2.2.2.2.1 _ _ ha).symm
    refine ⟨m4,hn4.sameBut hsa aC,fun h' hs'=>⟨_,upd H3 D (.lst vs),I6.turned (t':=s5.toks) (it:=C) (fun b o hb e=>(hs'.2 b hb).trans e) fC.1 fC.2.1 fC.2.2.2.1 fC.2.2.2.2.1 fC.2.2.2.2.2,fin D hD3⟩⟩
   ·refine thn (T.item (zH X scope cl (x :: ys) C s2 H2 fp) rfl rfl rfl rfl i _ s3 _ H3 _ I3' fp3 st3 go) fun r s4 ⟨u,hr,h4⟩=>?_
    subst hr
    refine thn h4 fun _ s5 ⟨v,H5,I5,r5,y5,st5,fr5⟩=>?_
    have fp5:=fpY (pl:=[(D,{ cls:=.type "list",data:=.seq ws.toArray nn })]) fr5 (fun p hp=>by rw [List.mem_singleton.mp hp])
    have I5':=I5.pinned fp5 (T.obj _ _ st5)
    refine thn (zV (X:=zH X scope cl (x :: ys) C s2 H2 fp) (i:=0) (pos:=px) hnd rfl hvis (.inr (lookup_relabel_local hx)) _ s5 _ H5 v u (fun σ' H'=>σ' = some v :: frees fr σ/\H' = H5) I5' r5 ⟨rfl,rfl⟩) fun _ s6 ⟨σ6,H6,I6,e6,e6'⟩=>?_
    subst e6 e6'
    refine thn (YI _ s6 _ _ _ I6 (step v H6 y5)) fun b s7 ⟨H7,I7,q7⟩=>?_
    have back:∀ {H8:Hp}{s8:Shared},Inv (zH X scope cl (x :: ys) C s2 H2 fp) ([(D,{ cls:=.type "list",data:=.seq ws.toArray nn })] ++ zct fp s5.heap) (some v :: frees fr σ) H8 s8->
      s8.heap.get? D = some { cls:=.type "list",data:=.seq ws.toArray nn }/\H8 D = none/\(∀ b∈fp,H8 b = none)/\(∀ b∈fp,∀ o,s5.heap.get? b = some o->s8.heap.get? b = some o):=fun {H8 s8} I8=>by
     have pD:=I8.pin (D,{ cls:=.type "list",data:=.seq ws.toArray nn }) (by show _∈[] ++ _; simp)
     refine ⟨pD.1,pD.2.1,fun b hb=>?_,fun b hb o e=>?_⟩
     ·obtain ⟨o,e,d⟩:=T.obj _ _ st5 b hb
      exact (I8.pin (b,o) (List.mem_append_right _ (List.mem_append_right _ (ZC hb e)))).2.1
     ·exact (I8.pin (b,o) (List.mem_append_right _ (List.mem_append_right _ (ZC hb e)))).1
    have weak:∀ {H8:Hp}{s8:Shared},Inv (zH X scope cl (x :: ys) C s2 H2 fp) [] (some v :: frees fr σ) H8 s8->Inv (zH X scope cl (x :: ys) C s2 H2 fp) [] (none :: frees fr σ) H8 s8:=fun {H8 s8} I8=>
     I8.weak rfl fun i v' e=>by
      cases i with
      | zero=>simp at e
      | succ j=>simpa using e
    have nopin:∀ {H8:Hp}{s8:Shared}{pl:List (Addr × Obj)},Inv (zH X scope cl (x :: ys) C s2 H2 fp) pl (some v :: frees fr σ) H8 s8->Inv (zH X scope cl (x :: ys) C s2 H2 fp) [] (some v :: frees fr σ) H8 s8:=fun {H8 s8 pl} I8=>
     I8.pins_of fun p hp=>absurd hp (by simp)
    cases b with
    | false=>
     rw [if_neg Bool.false_ne_true] at q7 ⊢
     obtain ⟨m',hm,w7⟩:=q7
     obtain ⟨k1,k2,k3,k4⟩:=back I7
     exact ⟨m',hm,i + 1,vs,ws,nn,H7,weak (nopin I7),T.keep _ _ _ st5 k4,k3,k2,k1,rv3,w7⟩
    | true=>
     rw [if_pos rfl] at q7 ⊢
     refine thn (YE _ s7 _ _ _ I7 q7) fun u8 s8 ⟨y8,H8,I8,r8,m',hm,w8⟩=>?_
     obtain ⟨k1,k2,k3,k4⟩:=back I8
     refine append_at (hsz:=by rw [List.size_toArray,← rv3.length]; exact hsz) k1 fun h9 hs9 ho9=>?_
     have I9:Inv (zH X scope cl (x :: ys) C s2 H2 fp) [] (some v :: frees fr σ) H8 { s8 with heap:=h9 }:=
      (nopin I8).turned (t':=s8.toks) (it:=D) (fun b o hb e=>(hs9.2 b hb).trans e) k2 hDC (.inr (by rw [← hDg]; exact Nat.le_refl _)) (fun y c e=>Nat.ne_of_lt (clt y c e)) fun p hp=>absurd (show p∈([]:List (Addr × Obj)) from hp) (by simp)
     refine ⟨m',hm,i + 1,vs ++ [y8],ws ++ [u8],nn + 1,H8,weak I9,?_,k3,k2,?_,rv3.append (.cons r8 .nil),w8⟩
     ·refine T.keep _ _ _ st5 fun b hb o e=>?_
      exact (hs9.2 b (below b (fpl b hb)).2).trans (k4 b hb o e)
     ·rw [ho9,List.push_toArray]
  ·cases q:H2 D with
   | none=>rfl
   | some o=>exact absurd (tlt D o q) (Nat.lt_irrefl _)
 exact codeAny_compStart_list (loop _ ⟨_,rfl⟩) (T.self _ 0 _ _ _ (T.keep _ _ _ st2 fun b _ o e=>old b o e) (loop _ ⟨_,rfl⟩))
end L2
namespace D
open PySem L2
theorem zd3 {X:Cx}{i:Nat}{y:Str}{py spos:Pos}{elt iter:Expr}{x:Str}{px pos:Pos}{ifs:List Expr}{scope:Scope}{cl:List (Str × Addr)} (fr:List Nat) (ys:List Str) {wi:TI}{tt:TT}{te:TE}
  (hc:X.calm = true) (hclos:closureFor scope X.env = pure cl) (hcell:∀ y∈scope.names,y.2≠.cell) (hkind:scope.kind = .function) (hnames:∀ y∈scope.names,y.2 = .local->scope.names.lookup y.1 = some .local)
  (hx:scope.names.lookup x = some .local) (hnd:(x :: ys).Nodup) (hcl:ClOk cl X.env.cells) (hall:(scope.names.all fun y=>y.2 != .free || (cl.lookup y.1).isSome) = true) (hfr:FrOk X scope cl fr ys)
  (hi:QI X (.Name x px) iter wi)
  (hY:∀ C s H fp,QIfs (zH X scope cl (x :: ys) C s H fp) ifs tt/\QE (zH X scope cl (x :: ys) C s H fp) elt te)
  (hN:X.N.Nodup) (hiy:X.N[i]? = some y) (hy:L2.Loc X.env.scope y) (hsw:swapsWith (.ListComp elt [⟨.Name x px,iter,ifs,0⟩] scope pos) (some (.Name y py)) spos.line X.env = pure true:=by rfl)
  (hf:X.fn y = true\/X.env.scope.names.lookup y = some .local:=by first | exact .inl rfl | exact .inr rfl | assumption)
  (hs:∀ v,foldedSetIterable iter X.env v = pure v:=by intro _; rfl):
  QS X (.Assign [.Name y py] (.ListComp elt [⟨.Name x px,iter,ifs,0⟩] scope pos) spos) (tAsg (zcD fr wi tt te) (ZD i)):=
 ⟨L2.zd3 fr ys hc hclos hcell hkind hnames hx hnd hcl hall hfr hi.un (fun C s H fp=>⟨(hY C s H fp).1.un,(hY C s H fp).2.un⟩) hN hiy hy hsw hf hs⟩
end D
namespace L2
open PySem PySem.Spec PyProof.Rows
theorem zaq {X:Cx}:zaE X (.type "dict") (fun xs H Q=>∃ (a:Addr) (kvs:List (Key × V)),xs = [.ref a]/\H a = some (.dK kvs)/\∀ p,H p = none->Q (.ref p) (upd H p (.dK kvs))):=by
 intro zp s σ H xs us Q I r h
 obtain ⟨a,kvs,rfl,e,q⟩:=h
 obtain ⟨u,rfl,rx⟩:=zbI r
 cases rx
 exact zjI I (.inl e) fun p s' hp I'=>⟨.ref p,_,I',rfl,q p hp⟩
def zkX (P:Program) (w:World) (K:PySem.W.Frag) (td ty tx:TE):TE:=fun σ H Q=>td σ H fun x H1=>∃ (g:Addr) (kvs:List (Key × V)),x = .ref g/\MD P w K g kvs/\ty σ H1 fun y H2=>tx σ H2 fun z H3=>∃ k:Key,y = kV k/\Q ((valV kvs k).getD z) H3
theorem zd4 {X:Cx}{o e f:Expr}{apos cpos:Pos}{td ty tx:TE} (ho:PE X o td) (he:PE X e ty) (hf:PE X f tx) (m:M2 X o "get" apos e f cpos):PE X (.Call (.Attribute o "get" apos) [e,f] [] cpos) (zkX X.prog X.w X.K td ty tx):=by
 intro zp s σ H Q I h
 refine wpAny_Call_method m.base m.few m.line PySem.F.plainAttrs_dict PySem.F.slot_dict_get PySem.F.type_dict_get (thn (ho zp s σ H _ I h) fun u s1 ⟨x,H1,I1,rx,a,kvs,ex,d,q1⟩=>?_)
 subst ex
 obtain rfl:u = Value.ref a:=rx
 obtain ⟨vs1,rel1,dd1,hd1⟩:=d.dict I1.kIn
 refine ⟨dd1.typeIs,fun b q=>?_,?_⟩
 ·cases q
  obtain ⟨ob,_,_,h1,h2,_⟩:=dd1
  exact ⟨ob,h1,h2.2.1⟩
 rw [m.trees]
 refine Calls.callWith_builtin rfl (Calls.evalArgs_plain (Calls.spliced_cons (thn (he zp s1 σ H1 _ I1 q1) fun iv s2 ⟨y,H2,I2,ry,q2⟩=>
  Calls.spliced_cons (thn (hf zp s2 σ H2 _ I2 q2) fun fv s3 ⟨z,H3,I3,rz,k,ey,q3⟩=>Calls.spliced_nil ?_))))
 subst ey
 obtain ⟨vs,rel,dd,hd⟩:=d.dict I3.kIn
 refine call_meetsIn PySem.F.slot_dict_get dd.typeIs PySem.F.entry_dict_get (PySem.F.args_dict_get_3 _ _ _) (meets_dict_get_default (zR X.prog X.w) a (zeA ry) hd fv) ⟨_,dd.mapOf,?_⟩
 exact ⟨_,H3,I3.tok _,(rel.val k).getD rz,q3⟩
end L2
namespace D
open PySem L2
theorem zd4 {X:Cx}{o e f:Expr}{apos cpos:Pos}{td ty tx:TE} (ho:QE X o td) (he:QE X e ty) (hf:QE X f tx) (m:M2 X o "get" apos e f cpos):QE X (.Call (.Attribute o "get" apos) [e,f] [] cpos) (zkX X.prog X.w X.K td ty tx):=⟨L2.zd4 ho.un he.un hf.un m⟩
end D
namespace L2
open PySem PySem.Spec PyProof.Rows
def zaI (P:Program) (w:World) (K:PySem.W.Frag) (mg:Str->Option Value) (base:Heap) (C:Addr) (m:Str) (k:Nat) (ps:List Str) (sp:Sp):Prop:=
 ∃ (f:Addr) (fd:FuncData),FnOk P w K mg base CX0 k f fd ps sp/\Binds K fd ps []/\Meth K C m f/\Cls K C
def zbk (P:Program) (w:World) (K:PySem.W.Frag) (mg:Str->Option Value) (base:Heap) (C:Addr) (x:Str) (k:Nat) (ps:List Str) (sp:Sp):Prop:=
 ∃ (f:Addr) (fd:FuncData) (j:Nat),k = j + 1/\FnOk P w K mg base CX0 j f fd ps sp/\Binds K fd ps []/\Mk K C f/\mg x = some (.ref C)
theorem zaI.mono {P:Program}{w:World}{K:PySem.W.Frag}{mg:Str->Option Value}{base:Heap}{C:Addr}{m:Str}{j k:Nat}{ps:List Str}{sp:Sp} (h:zaI P w K mg base C m j ps sp) (e:j<=k):zaI P w K mg base C m k ps sp:=
 let ⟨f,fd,F,r⟩:=h; ⟨f,fd,F.mono e,r⟩
theorem zaI.up {P:Program}{w:World}{K:PySem.W.Frag}{mg:Str->Option Value}{base:Heap}{j k:Nat}{ps:List Str}{sp:Sp}{C:Addr}{m:Str} (h:zaI P w K mg base C m j ps sp) (e:Nat.ble j k = true):zaI P w K mg base C m k ps sp:=h.mono (Nat.le_of_ble_eq_true e)
theorem zbk.mono {P:Program}{w:World}{K:PySem.W.Frag}{mg:Str->Option Value}{base:Heap}{C:Addr}{m:Str}{j k:Nat}{ps:List Str}{sp:Sp} (h:zbk P w K mg base C m j ps sp) (e:j<=k):zbk P w K mg base C m k ps sp:=by
 obtain ⟨f,fd,i,rfl,F,r⟩:=h
 exact ⟨f,fd,k - 1,by omega,F.mono (by omega),r⟩
theorem zbk.up {P:Program}{w:World}{K:PySem.W.Frag}{mg:Str->Option Value}{base:Heap}{j k:Nat}{ps:List Str}{sp:Sp}{C:Addr}{m:Str} (h:zbk P w K mg base C m j ps sp) (e:Nat.ble j k = true):zbk P w K mg base C m k ps sp:=h.mono (Nat.le_of_ble_eq_true e)
section
variable {X:Cx}{C:Addr}{x m:Str}{k:Nat}{ps:List Str}{sp:Sp}{e o:Expr}{es:List Expr}{ta:TE}{t:TA}{p pos apos:Pos}
theorem pe_m (G:zaI X.prog X.w X.K X.mg X.base C m k ps sp) (hr:Room k X.A) (ho:PE X o ta) (ha:PA X (e :: es) t) {pl:Sem Bool}
  (hst:starEach (e :: es) X.env = (false,eval e X.env) :: starEach es X.env:=by rfl) (hpl:(backTo pos (starEach es X.env)).any (·.1) = false:=by rfl)
  (ht:eval (.Call (.Attribute o m apos) (e :: es) [] pos) X.env = (do
   let ov ← eval o X.env
   standAt apos.atName
   let (f,first) ← holding [ov] (getMethod ov m pl)
   callWith pos f first (backTo pos (starEach (e :: es) X.env)) (backToKw pos (keywordEach [] X.env))):=by rfl):
  PE X (.Call (.Attribute o m apos) (e :: es) [] pos) (zgR C m sp [] E0 ta t):=by
 obtain ⟨f,fd,F,b,mm,c⟩:=G
 exact zlh ho c mm F hr b .nil zgX ha hst hpl ht
theorem zlH (G:zaI X.prog X.w X.K X.mg X.base C m k ps sp) (hr:Room k X.A) (ho:PE X o ta) {pl:Sem Bool}
  (ht:eval (.Call (.Attribute o m apos) [] [] pos) X.env = (do
   let ov ← eval o X.env
   standAt apos.atName
   let (f,first) ← holding [ov] (getMethod ov m pl)
   callWith pos f first (backTo pos (starEach [] X.env)) (backToKw pos (keywordEach [] X.env))):=by rfl):
  PE X (.Call (.Attribute o m apos) [] [] pos) (zgR C m sp [] E0 ta tNil):=by
 obtain ⟨f,fd,F,b,mm,c⟩:=G
 exact zjF ho c mm F hr b .nil zgX ht
theorem zis (G:zbk X.prog X.w X.K X.mg X.base C x k ps sp) (hr:Room k X.A) (hg:Gl X x) (ha:PA X (e :: es) t) (hdb:(x == ("__debug__":Str)) = false:=by decide)
  (he:starEach (e :: es) X.env = (false,eval e X.env) :: starEach es X.env:=by rfl) (hpl:(backTo pos (starEach es X.env)).any (·.1) = false:=by rfl):
  PE X (.Call (.Name x p) (e :: es) [] pos) (zfn C sp [] E0 t):=by
 obtain ⟨f,fd,j,rfl,F,b,mk,mg⟩:=G
 exact zli mk F hr hg mg b .nil zgX ha hdb he hpl
theorem zcX (G:zbk X.prog X.w X.K X.mg X.base C x k ps sp) (hr:Room k X.A) (hg:Gl X x) (hdb:(x == ("__debug__":Str)) = false:=by decide):
  PE X (.Call (.Name x p) [] [] pos) (zfn C sp [] E0 tNil):=by
 obtain ⟨f,fd,j,rfl,F,b,mk,mg⟩:=G
 exact zjG mk F hr hg mg b .nil zgX hdb
end
end L2
namespace D
open PySem L2
section
variable {X:Cx}{C:Addr}{x m:Str}{k:Nat}{ps:List Str}{sp:Sp}{e o:Expr}{es:List Expr}{ta:TE}{t:TA}{p pos apos:Pos}
theorem pe_m (G:zaI X.prog X.w X.K X.mg X.base C m k ps sp) (hr:Room k X.A) (ho:QE X o ta) (ha:QA X (e :: es) t) {pl:Sem Bool}
  (hst:starEach (e :: es) X.env = (false,eval e X.env) :: starEach es X.env:=by rfl) (hpl:(backTo pos (starEach es X.env)).any (·.1) = false:=by rfl)
  (ht:eval (.Call (.Attribute o m apos) (e :: es) [] pos) X.env = (do
   let ov ← eval o X.env
   standAt apos.atName
   let (f,first) ← holding [ov] (getMethod ov m pl)
   callWith pos f first (backTo pos (starEach (e :: es) X.env)) (backToKw pos (keywordEach [] X.env))):=by rfl):
  QE X (.Call (.Attribute o m apos) (e :: es) [] pos) (zgR C m sp [] E0 ta t):=⟨L2.pe_m G hr ho.un ha.un hst hpl ht⟩
theorem zlH (G:zaI X.prog X.w X.K X.mg X.base C m k ps sp) (hr:Room k X.A) (ho:QE X o ta) {pl:Sem Bool}
  (ht:eval (.Call (.Attribute o m apos) [] [] pos) X.env = (do
   let ov ← eval o X.env
   standAt apos.atName
   let (f,first) ← holding [ov] (getMethod ov m pl)
   callWith pos f first (backTo pos (starEach [] X.env)) (backToKw pos (keywordEach [] X.env))):=by rfl):
  QE X (.Call (.Attribute o m apos) [] [] pos) (zgR C m sp [] E0 ta tNil):=⟨L2.zlH G hr ho.un ht⟩
theorem zis (G:zbk X.prog X.w X.K X.mg X.base C x k ps sp) (hr:Room k X.A) (hg:Gl X x) (ha:QA X (e :: es) t) (hdb:(x == ("__debug__":Str)) = false:=by decide)
  (he:starEach (e :: es) X.env = (false,eval e X.env) :: starEach es X.env:=by rfl) (hpl:(backTo pos (starEach es X.env)).any (·.1) = false:=by rfl):
  QE X (.Call (.Name x p) (e :: es) [] pos) (zfn C sp [] E0 t):=⟨L2.zis G hr hg ha.un hdb he hpl⟩
theorem zlI {K:PySem.W.Frag}{f:Str} (hK:X.K = K) (he:QE X e ta) (hb:attributeBase e f X.env (eval e X.env) = eval e X.env):QE X (.Attribute e f pos) (tFld K ta f):=hK ▸ zae he hb
theorem zcX (G:zbk X.prog X.w X.K X.mg X.base C x k ps sp) (hr:Room k X.A) (hg:Gl X x) (hdb:(x == ("__debug__":Str)) = false:=by decide):
  QE X (.Call (.Name x p) [] [] pos) (zfn C sp [] E0 tNil):=⟨L2.zcX G hr hg hdb⟩
end
end D
namespace L2
open PySem PySem.Spec PyProof.Rows
theorem Inv.turnedL {X:Cx}{zp:List (Addr × Obj)}{σ:St}{H:Hp}{s:Shared}{h':Heap}{t':Nat}{fp:List Addr} (I:Inv X zp σ H s) (k:∀ b o,b ∉ fp->s.heap.get? b = some o->h'.get? b = some o) (hf:∀ b∈fp,FpOk X zp H b):
  Inv X zp σ H { s with heap:=h',toks:=t' }:=by
 have nit:∀ b u,H b = some u->b ∉ fp:=fun b u e z=>by
  have:=(hf b z).1
  rw [e] at this
  cases this
 refine I.step (g':=s.gens) (d':=s.drawn) (ch:=fp) (fun b hb=>?_) (fun b o _ _ hc e _=>k b o hc e) (fun b o _ _ hc e _=>⟨o.slots,k b o hc e⟩) (fun _ _ _ _ n=>n)
  (fun b o hc e=>⟨o,k b o hc e⟩) (fun _ _ e=>e) (fun _ _ _ e=>e) (fun b ps e=>⟨#[],by rw [e]; simp⟩) (fun m hm=>?_) (fun b u e=>?_) I.bare
 ·obtain ⟨f0,f1,f2,f3,f4,f5⟩:=hf b hb
  exact ⟨f3,f1,f4,f5⟩
 ·obtain ⟨o,es,ep,ho,r⟩:=hm
  exact ⟨o,es,ep,k _ o (fun z=>(hf _ z).2.1 rfl) ho,r⟩
 ·refine (I.hok b u e).stay (fun c v hc q=>k c v ?_ q) (fun _ q=>q) fun _ _ q=>q
  rcases hc with z | z
  ·rw [z]; exact nit b u e
  ·exact nit c _ z
theorem zd5 {h:Heap}{o u:Obj}{b:Addr} (e:(h.push o).get? b = some u) (hb:b < h.objs.size):h.get? b = some u:=by
 rcases Heap.get?_push_cases e with ⟨r,_⟩ | r
 ·rw [r] at hb
  exact absurd hb (Nat.lt_irrefl _)
 ·exact r
def Ite (K:PySem.W.Frag) (a:Addr):It:=
 ⟨fun i H=>∃ xs x,SqL K H a xs/\xs[i]? = some x,fun i H x H'=>∃ t y,H t = none/\x = .ref t/\(∀ xs,SqL K H a xs->xs[i]? = some y)/\H' = upd H t (.tup [.int i,y]),fun i H=>∃ xs,SqL K H a xs/\xs.length<=i⟩
theorem zit {P:Program}{w:World}{K:PySem.W.Frag}{elts:List Expr}{k:Nat}{pos:Pos} (a e it:Addr) (hei:e≠it):Turn P w K (.Tuple elts k pos) (Ite K a) [e,it] e (fun i h=>(∃ old,IsEnum h e it i old)/\h.IsListIter it a i) where
 mem:=by simp
 obj:=fun i h st b hb=>by
  obtain ⟨⟨old,he⟩,hit⟩:=st
  have hc:b = e\/b = it:=by simpa using hb
  rcases hc with rfl | rfl
  ·exact ⟨_,he,fun v z=>by
    have z':Data.fields _ = Data.cell v:=z
    cases z'⟩
  ·obtain ⟨o,eo,c,d⟩:=hit
   exact ⟨o,eo,fun v z=>by rw [d] at z; cases z⟩
 keep:=fun i h h' st kk=>by
  obtain ⟨⟨old,he⟩,hit⟩:=st
  exact ⟨⟨old,kk e (by simp) _ he⟩,hit.at fun o x=>kk it (by simp) o x⟩
 item:=by
  intro X hP hw hK hc i zp s σ H E I hf st hg
  subst hP hw hK
  obtain ⟨⟨old,he⟩,hit⟩:=st
  obtain ⟨xs,x,hq,hx⟩:=hg
  obtain ⟨its,rv,p,hz⟩:=I.list hq
  obtain ⟨u,hu,ru⟩:=rv.get hx
  have hfr:H s.heap.objs.size = none:=I.hok.fresh (Nat.le_refl _)
  have helt:e < s.heap.objs.size:=Heap.lt_size he
  have hilt:it < s.heap.objs.size:=by obtain ⟨_,z,_⟩:=hit; exact Heap.lt_size z
  refine wpAny_pyNext_enum_item he hit p.isList (x:=u) (by simpa using hu) hei fun h' ho hit' hT hsz hk=>⟨_,rfl,wpAny_letOwnedTupleGo_enum ho fun h2 he2 hs2=>?_⟩
  have I1:Inv X zp σ (upd H s.heap.objs.size (.tup [.int i,x])) { s with heap:=s.heap.push { cls:=.type "tuple",data:=.seq #[.int i s.toks,u] },toks:=s.toks }:=
   I.laid (t':=s.toks) (fun b u e=>Heap.get?_push_of_some _ e) (Nat.le_refl _) ⟨zl2,[.int i s.toks,u],.cons ⟨_,rfl⟩ (.cons ru .nil),⟨_,Heap.get?_push_size _ rfl,rfl,_,rfl⟩⟩
  have nn:∀ b∈[e,it],upd H s.heap.objs.size (.tup [.int i,x]) b = none:=fun b hb=>by
   rw [zr (fun z=>by
    have hc:b = e\/b = it:=by simpa using hb
    rcases hc with r | r
    ·rw [← r,z] at helt; exact Nat.lt_irrefl _ helt
    ·rw [← r,z] at hilt; exact Nat.lt_irrefl _ hilt)]
   exact (hf b hb).1
  have I2:Inv X zp σ (upd H s.heap.objs.size (.tup [.int i,x])) { s with heap:=h2,toks:=s.toks + 1 }:=by
   refine Inv.turnedL (s:={ s with heap:=s.heap.push { cls:=.type "tuple",data:=.seq #[.int i s.toks,u] },toks:=s.toks }) (h':=h2) (t':=s.toks + 1) (fp:=[e,it]) I1 (fun b o hb eb=>?_) (fun b hb=>?_)
   ·have hbe:b≠e:=fun z=>hb (by simp [z])
    have hbi:b≠it:=fun z=>hb (by simp [z])
    refine (hs2.2 b hbe).trans ?_
    by_cases hbs:b = s.heap.objs.size
    ·subst hbs
     have e1:(s.heap.push { cls:=.type "tuple",data:=.seq #[.int i s.toks,u] }).get? s.heap.objs.size = some { cls:=.type "tuple",data:=.seq #[.int i s.toks,u] }:=Heap.get?_push_size _ rfl
     have eb:(s.heap.push { cls:=.type "tuple",data:=.seq #[.int i s.toks,u] }).get? s.heap.objs.size = some o:=eb
     rw [e1] at eb
     cases eb
     exact hT
    ·refine hk b o hbe hbi ?_
     have eb:(s.heap.push { cls:=.type "tuple",data:=.seq #[.int i s.toks,u] }).get? b = some o:=eb
     have hlt:=Heap.lt_size eb
     rw [Heap.size_push] at hlt
     exact zd5 eb (Nat.lt_of_le_of_ne (Nat.le_of_lt_succ hlt) hbs)
   ·obtain ⟨f0,f1,f2,f3,f4,f5⟩:=hf b hb
    exact ⟨nn b hb,f1,f2,f3,f4,f5⟩
  refine ⟨.ref s.heap.objs.size,_,I2,rfl,⟨s.heap.objs.size,x,hfr,rfl,fun ys hy=>by rw [I.list_inj hy hq]; exact hx,rfl⟩,⟨⟨_,by simpa using he2⟩,hit'.at fun o y=>(hs2.2 it hei.symm).trans y⟩,nn⟩
 done:=by
  intro X hP hw hK hc i zp s σ H E I hf st hg
  subst hP hw hK
  obtain ⟨⟨old,he⟩,hit⟩:=st
  obtain ⟨xs,hq,hx⟩:=hg
  obtain ⟨its,rv,p,hz⟩:=I.list hq
  have hl:=rv.length
  refine wpAny_pyNext_enum_end (I.ok.hd hc) he hit p.isList (by simp; omega) fun h' eb=>⟨rfl,?_⟩
  exact I.turnedL (t':=s.toks) (fp:=[e,it]) (fun b o hb e'=>eb b o (fun z=>hb (by simp [z])) e') hf
 self:=fun _ _ _ _ _ st h=>by
  obtain ⟨⟨old,he⟩,_⟩:=st
  exact wpAny_pyIter_enum he h
theorem ziu:bootBuiltins (Str.ofString "enumerate") = some (.type "enumerate"):=by kernel_rfl
def zmZ (K:PySem.W.Frag) (ta:TA):TI:=fun σ H R=>ta σ H fun vs H1=>∃ (a:Addr) (xs:List V),vs = [.ref a]/\SqL K H1 a xs/\R (Ite K a) H1
theorem zfB {X:Cx}{elts:List Expr}{k:Nat}{ps:Pos}{a:Expr}{ta:TA}{p pos:Pos} (hg:Gl X "enumerate") (hm:X.mg "enumerate" = none) (ha:PA X [a] ta) (hs:starEach [a] X.env = [(false,eval a X.env)]:=by rfl):
  PI X (.Tuple elts k ps) (.Call (.Name "enumerate" p) [a] [] pos) (zmZ X.K ta):=by
 intro zp s σ H R I h
 refine Call_ (zbX I hg hm ziu (PyProof.Rows.callWith_type1 (thn (ha pos zp s σ H _ I h) fun us s1 ⟨vs,H1,I1,r1,q1⟩=>?_) hs rfl))
 obtain ⟨b,xs,e,hq,q⟩:=q1
 subst e
 obtain ⟨u,rfl,rx⟩:=zbI r1
 cases rx
 obtain ⟨its,rv,pl,hz⟩:=I1.list hq
 refine call_enumerate_list pl.isList fun h' he hi hsz hk=>?_
 have hne:s1.heap.objs.size + 1≠s1.heap.objs.size:=Nat.succ_ne_self _
 refine wpAny_pyIter_enum he ?_
 have I2:Inv X zp σ H1 { s1 with heap:=h',toks:=s1.toks }:=I1.kept (t':=s1.toks) hk
 refine ⟨s1.heap.objs.size + 1,[s1.heap.objs.size + 1,s1.heap.objs.size],_,_,H1,rfl,I2,zit b _ _ hne,⟨⟨_,he⟩,hi⟩,fun c hc=>?_,q⟩
 have hcs:c = s1.heap.objs.size + 1\/c = s1.heap.objs.size:=by simpa using hc
 have hle:s1.heap.objs.size<=c:=by
  rcases hcs with r | r
  ·rw [r]; exact Nat.le_succ _
  ·rw [r]; exact Nat.le_refl _
 exact I1.fpOk hle (I1.hok.fresh hle)
theorem zj0 {K:PySem.W.Frag}{a:Addr}{xs:List V}{g:TG}{tb:TS}{D:Ends}{σ:St}{H:Hp} (Pv:Nat->St->Hp->Prop) (h0:Pv 0 σ H) (hl:∀ i σ H,i<=xs.length->Pv i σ H->SqL K H a xs)
  (hs:∀ i x t σ H,xs[i]? = some x->H t = none->Pv i σ H->g (.ref t) σ (upd H t (.tup [.int i,x])) fun σ2 H2=>tb { D with nx:=Pv (i + 1),ct:=Pv (i + 1),bk:=D.nx } σ2 H2) (hd:∀ σ H,Pv xs.length σ H->D.nx σ H):
  ∃ W:Nat->Nat->St->Hp->Prop,(∃ m,W 0 m σ H)/\∀ i m σ H,W i m σ H->
   ((Ite K a).stop i H/\D.nx σ H)\/((Ite K a).go i H/\∃ N:St->Hp->Prop,(∀ σ' H',N σ' H'->∃ m',m' < m/\W (i + 1) m' σ' H')/\∀ x H',(Ite K a).yld i H x H'->g x σ H' fun σ2 H2=>tb { D with nx:=N,ct:=N,bk:=D.nx } σ2 H2):=by
 refine ⟨fun i m σ H=>m = xs.length - i/\i<=xs.length/\Pv i σ H,⟨xs.length,by simp,Nat.zero_le _,h0⟩,?_⟩
 rintro i m σ H ⟨rfl,hi,p⟩
 have q:=hl i σ H hi p
 by_cases hlt:i < xs.length
 ·refine .inr ⟨⟨xs,xs[i],q,by simp [hlt]⟩,Pv (i + 1),fun σ' H' p'=>⟨xs.length - (i + 1),by omega,rfl,hlt,p'⟩,fun x H' y=>?_⟩
  obtain ⟨t,y,ht,rfl,hy,rfl⟩:=y
  exact hs i y t σ H (hy xs q) ht p
 ·have e:i = xs.length:=by omega
  subst e
  exact .inl ⟨⟨xs,q,Nat.le_refl _⟩,hd σ H p⟩
end L2
namespace D
open PySem L2
theorem zfB {X:Cx}{elts:List Expr}{k:Nat}{ps:Pos}{a:Expr}{ta:TA}{p pos:Pos} (hg:Gl X "enumerate") (hm:X.mg "enumerate" = none) (ha:QA X [a] ta) (hs:starEach [a] X.env = [(false,eval a X.env)]:=by rfl):
  QI X (.Tuple elts k ps) (.Call (.Name "enumerate" p) [a] [] pos) (zmZ X.K ta):=⟨L2.zfB hg hm ha.un hs⟩
end D
namespace D
open PySem L2 PySem.Spec PyProof.Rows
theorem ziv {xs:List V}{its:List Value} (r:Vals xs its) {j:Nat}{x:V} (h:xs[j]? = some x) (hj:j < its.toArray.size):RelV x its.toArray[j]:=by
 obtain ⟨u,hu,ru⟩:=r.get h
 have e:its.toArray[j] = u:=by
  have:=(List.getElem?_eq_some_iff.mp hu).2
  simpa using this
 rw [e]
 exact ru
theorem zlJ {X:Cx} (hu:X.A.units + 64 < cLine):OpR X (compareOp .NotEq) (fun x y H Q=>∃ (a b:Addr) (us vs:List V) (ws:List W),x = .ref a/\y = .ref b/\SqL X.K H a us/\SqL X.K H b vs/\RWs H us ws/\RWs H vs ws/\depths ws < 50/\Q (.bl false) H):=by
 intro zp s σ H x y v u Q I rx ry h
 obtain ⟨a,b,us,vs,ws,rfl,rfl,ha,hb,r1,r2,hd,q⟩:=h
 cases rx
 cases ry
 obtain ⟨its,v1,p1,_⟩:=I.list ha
 obtain ⟨its2,v2,p2,_⟩:=I.list hb
 have l1:=v1.length
 have l2:=v2.length
 have m1:=r1.len
 have m2:=r2.len
 have key:SeqAt.RcNeAt X.A s (.ref a) (.ref b) (!(List.range its.toArray.size).all fun _=>true):=by
  refine SeqAt.RcNeAt.lists p1.isList p2.isList (by rw [List.size_toArray,List.size_toArray]; omega) (by omega) (fun j h1 h2=>?_)
  have j1:j < us.length:=by rw [l1]; simpa using h1
  have e1:us[j]? = some us[j]:=List.getElem?_eq_getElem j1
  have e2:vs[j]? = some vs[j]:=List.getElem?_eq_getElem (by omega)
  have e3:ws[j]? = some ws[j]:=List.getElem?_eq_getElem (by omega)
  have hdj:=zad ws[j] (List.getElem_mem (by omega))
  have hu1:X.A.in1.units = X.A.units + 1:=rfl
  have:=zkU I 51 X.A.in1 ws[j] ws[j] us[j] vs[j] _ _ (by omega) (r1.at' j _ _ e1 e3) (r2.at' j _ _ e2 e3) (ziv v1 e1 h1) (ziv v2 e2 h2) (by omega)
  rw [zd0] at this
  exact this
 have e:(!(List.range its.toArray.size).all fun _=>true) = false:=by simp
 rw [e] at key
 exact key X.prog X.w _ _ ⟨.bl false,H,I,rfl,q⟩
theorem zm0 {X:Cx} (hu:X.A.units < cLine):OpR X (compareOp .NotEq) (fun x y H Q=>∃ (a b:Addr) (us:List V),x = .ref a/\y = .ref b/\SqL X.K H a us/\SqL X.K H b []/\Q (.bl (!us.isEmpty)) H):=by
 intro zp s σ H x y v u Q I rx ry h
 obtain ⟨a,b,us,rfl,rfl,ha,hb,q⟩:=h
 cases rx
 cases ry
 obtain ⟨its,v1,p1,_⟩:=I.list ha
 obtain ⟨its2,v2,p2,_⟩:=I.list hb
 have l1:=v1.length
 have l2:=v2.length
 cases us with
 | nil=>
  have key:SeqAt.RcNeAt X.A s (.ref a) (.ref b) (!(List.range its.toArray.size).all fun _=>true):=
   SeqAt.RcNeAt.lists p1.isList p2.isList (by rw [List.size_toArray,List.size_toArray]; omega) hu (fun j h1 h2=>by
    have h3:j < its.length:=by simpa using h1
    exact absurd h3 (by rw [← l1]; exact Nat.not_lt_zero _))
  have e:(!(List.range its.toArray.size).all fun _=>true) = false:=by simp
  rw [e] at key
  exact key X.prog X.w _ _ ⟨.bl false,H,I,rfl,q⟩
 | cons x r=>
  have hsz:(its.toArray.size != its2.toArray.size) = true:=by
   rw [List.size_toArray,List.size_toArray,← l1,← l2]
   simp
  exact SeqAt.RcNeAt.lists_lengths p1.isList p2.isList hsz hu X.prog X.w _ _ ⟨.bl true,H,I,rfl,q⟩
theorem zkY {X:Cx} (hu:X.A.units < cLine):OpR X (compareOp .Eq) (fun x y H Q=>∃ (a b:Addr) (us:List V),x = .ref a/\y = .ref b/\SqL X.K H a us/\SqL X.K H b []/\Q (.bl us.isEmpty) H):=by
 intro zp s σ H x y v u Q I rx ry h
 obtain ⟨a,b,us,rfl,rfl,ha,hb,q⟩:=h
 cases rx
 cases ry
 obtain ⟨its,v1,p1,_⟩:=I.list ha
 obtain ⟨its2,v2,p2,_⟩:=I.list hb
 have l1:=v1.length
 have l2:=v2.length
 cases us with
 | nil=>
  refine SeqAt.eq_listAt (e:=fun _=>true) p1.isList p2.isList (by rw [List.size_toArray,List.size_toArray]; omega) hu (fun j h1 h2=>?_) ?_
  ·have h3:j < its.length:=by simpa using h1
   exact absurd h3 (by rw [← l1]; exact Nat.not_lt_zero _)
  ·have e:((List.range its.toArray.size).all fun _=>true) = true:=by simp
   rw [e]
   exact ⟨.bl true,H,I,rfl,q⟩
 | cons x r=>
  have hsz:(its.toArray.size != its2.toArray.size) = true:=by
   rw [List.size_toArray,List.size_toArray,← l1,← l2]
   simp
  exact SeqAt.eq_list_lengthsAt p1.isList p2.isList hsz hu ⟨.bl false,H,I,rfl,q⟩
end D
namespace L2
open PySem PySem.Spec PyProof.Rows
def ziw (n:Nat) (wi:TI) (g:TG) (tt:TT) (te:TE):TE:=fun σ H Q=>wi σ H fun J H1=>∃ W:Nat->Nat->List V->Hp->Prop,(∃ m,W 0 m [] H1)/\∀ i m vs H,W i m vs H->vs.length<=sizeLine /\
 ((J.stop i H/\∀ D,H D = none->Q (.ref D) (upd H D (.lst vs))) \/
  (J.go i H/\∀ v H',J.yld i H v H'->g v (List.replicate n none) H' fun σ2 H2=>tt σ2 H2 fun b H3=>if b = true then te σ2 H3 fun y H4=>∃ m',m' < m/\W (i + 1) m' (vs ++ [y]) H4 else ∃ m',m' < m/\W (i + 1) m' vs H3))
theorem zcY {X:Cx}{elt iter tg:Expr}{pos:Pos}{ifs:List Expr}{scope:Scope}{cl:List (Str × Addr)} (NY:List Str) {wi:TI}{g:TG}{tt:TT}{te:TE}
  (hc:X.calm = true) (hclos:closureFor scope X.env = pure cl) (hcell:∀ y∈scope.names,y.2≠.cell) (hkind:scope.kind = .function) (hnames:∀ y∈scope.names,y.2 = .local->scope.names.lookup y.1 = some .local)
  (hcl:ClOk cl X.env.cells) (hall:(scope.names.all fun y=>y.2 != .free || (cl.lookup y.1).isSome) = true)
  (hi:PI X tg iter wi) (hg:∀ C s H fp,PG (zH X scope cl NY C s H fp) tg g)
  (hY:∀ C s H fp,PIfs (zH X scope cl NY C s H fp) ifs tt/\PE (zH X scope cl NY C s H fp) elt te)
  (hs:∀ v,foldedSetIterable iter X.env v = pure v:=by intro _; rfl):
  PE X (.ListComp elt [⟨tg,iter,ifs,0⟩] scope pos) (ziw NY.length wi g tt te):=by
 intro zp s σ H Q I h
 rw [eval_ListComp]
 refine wpAny_comprehension_free (use:=none) rfl hs hclos hkind hnames (wpAny_mono (hi zp s σ H _ I h) (fun v s1 h1=>wpAny_mono h1 (fun itv s2 h2=>?_) fun _ _ e=>e) fun _ _ e=>e)
 obtain ⟨it,fp,tn,J,H2,rfl,I2,T,st2,f2,W,⟨m0,w0⟩,turn⟩:=h2
 refine wpAny_newObj_type (wpAny_newFunctionEnv hcell (by intro y hy; simp at hy) (fun h₁ hns₁ hsb₁=>?_) hkind)
 dsimp only at hns₁ hsb₁ ⊢
 generalize hP2:s2.heap.push { cls:=.type "list",dict:=none,data:=.seq ([]:List Value).toArray } = P2 at hns₁ hsb₁ ⊢
 have hC:P2.objs.size = s2.heap.objs.size + 1:=by rw [← hP2,Heap.size_push]
 have hDC:s2.heap.objs.size≠P2.objs.size:=by rw [hC]; exact Nat.ne_of_lt (Nat.lt_succ_self _)
 have hCle:s2.heap.objs.size<=P2.objs.size:=by rw [hC]; exact Nat.le_succ _
 have below:∀ b,b < s2.heap.objs.size->b≠P2.objs.size/\b≠s2.heap.objs.size:=fun b hb=>⟨by rw [hC]; exact Nat.ne_of_lt (Nat.lt_succ_of_lt hb),Nat.ne_of_lt hb⟩
 have old:∀ b o,s2.heap.get? b = some o->h₁.get? b = some o:=fun b o e=>hsb₁.extBut b o (below b (Heap.lt_size e)).1 (Heap.get?_push_of_some _ (hP2 ▸ Heap.get?_push_of_some _ e))
 have hacc:h₁.get? s2.heap.objs.size = some { cls:=.type "list",data:=.seq ([]:List Value).toArray }:=hsb₁.extBut _ _ hDC (Heap.get?_push_of_some _ (hP2 ▸ Heap.get?_push_size _ rfl))
 have fpl:∀ b∈fp,b < s2.heap.objs.size:=fun b hb=>by
  obtain ⟨o,e,_⟩:=T.obj _ _ st2 b hb
  exact Heap.lt_size e
 have tlt:∀ b o,H2 b = some o->b < s2.heap.objs.size:=fun b o e=>I2.hok.lt e
 generalize hCg:P2.objs.size = C at hns₁ hsb₁ hDC hCle below ⊢
 generalize hDg:s2.heap.objs.size = D at hDC below hacc fpl tlt ⊢
 have hDle:D<=C:=by rw [← hDg]; exact hCle
 have cls:∀ y c,cl.lookup y = some c->X.env.cells.lookup y = some c:=fun y c e=>hcl.mem e
 have clt:∀ y c,cl.lookup y = some c->c < D:=fun y c e=>by
  obtain ⟨v,q⟩:=I2.cell y c (cls y c e)
  rw [← hDg]; exact q.lt
 have sub:∀ b∈frs X.stack,b < D:=fun b hb=>by
  rcases List.mem_cons.mp (I2.stkSub b hb) with e | hb
  ·rw [e,← hDg]; exact I2.lt
  ·obtain ⟨_,o,ho,_⟩:=I2.ok.funs.mem hb
   rw [← hDg]; exact Nat.lt_of_lt_of_le (Heap.lt_size ho) I2.sz
 obtain ⟨YI,YE⟩:=hY C s2 H2 fp
 have YG:=hg C s2 H2 fp
 have Yok:(zH X scope cl NY C s2 H2 fp).Ok:=by
  refine ⟨I2.ok.mod,hkind,I2.ok.glob,I2.ok.blt,hCle,?_,?_,?_,fun _=>I2.ok.hd hc,I2.ok.frames,.inl rfl,?_,I2.bs,Nat.le_trans I2.ok.bsz I2.sz,?_,?_,I2.stack,I2.stkFree⟩
  ·exact fun y z c e1 e2=>I2.ok.inj y z c (cls y c e1) (cls z c e2)
  ·intro y hy
   have hm:=ZG (env:=X.env) (names:=scope.names) (x:=y) hcell hy
   have q:=List.all_eq_true.mp hall _ hm
   show ∃ c,cl.lookup y = some c
   exact Option.isSome_iff_exists.mp (by simpa using q)
  ·intro y c hf _
   exact absurd hf (by show ¬ false = true; decide)
  ·intro b hb
   refine ⟨(below b (fpl b hb)).1,fun y c e z=>?_⟩
   exact (f2 b hb).2.2.2.2.1 y c (cls y c e) z
  ·intro b o e hb
   have hb:b∈fp:=hb
   rcases (f2 b hb).2.2.2.1 with z | z
   ·exact I2.ok.noex b o e z
   ·exact absurd (Nat.lt_of_lt_of_le (Heap.lt_size e) (Nat.le_trans I2.ok.bsz z)) (Nat.lt_irrefl _)
  ·intro b hb hf
   have hb:b∈fp:=hb
   rcases List.mem_cons.mp (I2.stkSub b hf) with e | hf
   ·exact (f2 b hb).2.1 e
   ·exact (f2 b hb).2.2.1 hf
 have start:∀ tk,Inv (zH X scope cl NY C s2 H2 fp) [] (List.replicate NY.length none) H2 { s2 with heap:=h₁,toks:=tk }:=fun tk=>by
  refine ⟨Yok,rfl,I2.bare,Un.kept old,⟨_,hns₁,fun i y v e1 e2 e3=>?_⟩,fun y c e=>?_,?_,fun y c e=>?_,fun p hp=>absurd (show p∈([]:List (Addr × Obj)) from hp) (by simp),I2.hok.kept old,?_⟩
  ·rw [List.getElem?_replicate] at e2
   split at e2 <;> simp at e2
  ·obtain ⟨v,o,ho,hd⟩:=I2.cell y c (cls y c e)
   exact ⟨v,o,old _ _ ho,hd⟩
  ·show H2 C = none
   cases q:H2 C with
   | none=>rfl
   | some o=>exact absurd (tlt C o q) (Nat.not_lt.mpr hDle)
  ·exact I2.freeC y c (cls y c e)
  ·show (List.replicate NY.length (none:Option V)).length = NY.length
   rw [List.length_replicate]
 have fpY:∀ {pl:List (Addr × Obj)}{H':Hp},(∀ b∈fp,H' b = none)->(∀ p∈pl,p.1 = D)->∀ b∈fp,FpOk (zH X scope cl NY C s2 H2 fp) pl H' b:=fun {pl H'} hn hpl b hb=>by
  refine ⟨hn b hb,(below b (fpl b hb)).1,Yok.exfs b hb,.inl hb,fun y c e z=>(f2 b hb).2.2.2.2.1 y c (cls y c e) z,fun p hp=>?_⟩
  have hp:p∈[] ++ pl:=hp
  rw [List.nil_append] at hp
  rw [hpl p hp]
  exact (below b (fpl b hb)).2.symm
 have loop:∀ s₃:Shared,(∃ tk,s₃ = { s2 with heap:=h₁,toks:=tk })->
   codeAny (model X.prog X.w) X.A (.compLoop (.ListComp elt [⟨tg,iter,ifs,0⟩] scope pos) 0 (.ref it) (.ref D) (compEnvC scope cl C X.env))
    (compPost (model X.prog X.w) X.A X.xe none (EP X zp σ Q) (.ref D) C) s₃:=by
  rintro s₃ ⟨tk,rfl⟩
  refine zcC
   (fun k s'=>∃ i vs ws nn H',Inv (zH X scope cl NY C s2 H2 fp) [] (List.replicate NY.length none) H' s'/\tn i s'.heap/\(∀ b∈fp,H' b = none)/\H' D = none /\
    s'.heap.get? D = some { cls:=.type "list",data:=.seq (ws:List Value).toArray nn }/\Vals vs ws/\W i k vs H') ?_ m0
   ⟨0,[],[],0,H2,start tk,T.keep _ _ _ st2 fun b _ o e=>old b o e,fun b hb=>(f2 b hb).1,?_,hacc,.nil,w0⟩
  ·rintro n s3 ⟨i,vs,ws,nn,H3,I3,st3,fr3,hD3,ho3,rv3,w3⟩
   have I3':Inv (zH X scope cl NY C s2 H2 fp) [(D,{ cls:=.type "list",data:=.seq ws.toArray nn })] (List.replicate NY.length none) H3 s3:=I3.pins_of fun p hp=>by
    have e:p = (D,{ cls:=.type "list",data:=.seq ws.toArray nn }):=by simpa using hp
    subst e
    refine ⟨ho3,hD3,hDC,fun z=>absurd (sub D z) (Nat.lt_irrefl _),fun v z=>?_⟩
    have z':Data.seq ws.toArray nn = Data.cell v:=z
    cases z'
   have fp3:=fpY (pl:=[(D,{ cls:=.type "list",data:=.seq ws.toArray nn })]) fr3 (fun p hp=>by rw [List.mem_singleton.mp hp])
   obtain ⟨hsz,alt⟩:=turn i n vs H3 w3
   rcases alt with ⟨stop,fin⟩ | ⟨go,step⟩
   ·refine thn (T.done (zH X scope cl NY C s2 H2 fp) rfl rfl rfl rfl i _ s3 _ H3 _ I3' fp3 st3 stop) fun r s4 ⟨hr,I4⟩=>?_
    subst hr
    have pD:=I4.pin (D,{ cls:=.type "list",data:=.seq ws.toArray nn }) (by show _∈[] ++ _; simp)
    obtain ⟨m4,hn4,_⟩:=I4.loc
    refine ⟨m4,hn4,fun h' hs'=>?_⟩
    have hC4:H3 C = none:=I4.free
    have hok':HOk X.prog X.w (upd H3 D (.lst vs)) h':=by
     refine HOk.track (I4.hok.other hC4 hs') hD3 ⟨hsz,ws,nn,rv3,(hs'.2 D hDC).trans pD.1⟩
    have b4:=I4.base
    have un:Un (frs X.stack) fp H2 (upd H3 D (.lst vs)) s2.heap h':=by
     have lt:∀ b o,s2.heap.get? b = some o->b < D:=fun b o e=>by rw [← hDg]; exact Heap.lt_size e
     refine ⟨fun b o e n hb hx=>(hs'.2 b (below b (lt b o e)).1).trans (b4.keep b o e n hb hx),fun b o e n hb hx=>?_,fun b o e n hx=>?_,fun b o e hx=>?_,fun b zs e=>?_,fun b o u e=>?_,fun b ps e=>?_⟩
     ·obtain ⟨sl,q⟩:=b4.slot b o e n hb hx
      exact ⟨sl,(hs'.2 b (below b (lt b o e)).1).trans q⟩
     ·rw [zr (below b (lt b o e)).2]; exact b4.free b o e n hx
     ·obtain ⟨o',q⟩:=b4.there b o e hx
      exact ⟨o',(hs'.2 b (below b (lt b o e)).1).trans q⟩
     ·rw [zr (below b (tlt b _ e)).2]; exact b4.tups b zs e
     ·rw [zr (below b (tlt b _ e)).2]; exact b4.frzs b o u e
     ·rw [zr (below b (tlt b _ e)).2]; exact b4.tbls b ps e
    refine ⟨.ref D,upd H3 D (.lst vs),?_,rfl,fin D hD3⟩
    exact I2.call' (s':={ s4 with heap:=h' }) (ch:=fp) I4.os un hok' I4.bare fun b hb=>⟨(f2 b hb).2.2.2.1,(f2 b hb).2.1,(f2 b hb).2.2.2.2.1,(f2 b hb).2.2.2.2.2⟩
   ·refine thn (T.item (zH X scope cl NY C s2 H2 fp) rfl rfl rfl rfl i _ s3 _ H3 _ I3' fp3 st3 go) fun r s4 ⟨u,hr,h4⟩=>?_
    subst hr
    refine thn h4 fun _ s5 ⟨v,H5,I5,r5,y5,st5,fr5⟩=>?_
    have fp5:=fpY (pl:=[(D,{ cls:=.type "list",data:=.seq ws.toArray nn })]) fr5 (fun p hp=>by rw [List.mem_singleton.mp hp])
    have I5':=I5.pinned fp5 (T.obj _ _ st5)
    refine thn (YG _ s5 _ H5 v u _ I5' r5 (step v H5 y5)) fun _ s6 ⟨σ6,H6,I6,q6⟩=>?_
    refine thn (YI _ s6 _ _ _ I6 q6) fun b s7 ⟨H7,I7,q7⟩=>?_
    have back:∀ {H8:Hp}{s8:Shared},Inv (zH X scope cl NY C s2 H2 fp) ([(D,{ cls:=.type "list",data:=.seq ws.toArray nn })] ++ zct fp s5.heap) σ6 H8 s8->
      s8.heap.get? D = some { cls:=.type "list",data:=.seq ws.toArray nn }/\H8 D = none/\(∀ b∈fp,H8 b = none)/\(∀ b∈fp,∀ o,s5.heap.get? b = some o->s8.heap.get? b = some o):=fun {H8 s8} I8=>by
     have pD:=I8.pin (D,{ cls:=.type "list",data:=.seq ws.toArray nn }) (by show _∈[] ++ _; simp)
     refine ⟨pD.1,pD.2.1,fun b hb=>?_,fun b hb o e=>?_⟩
     ·obtain ⟨o,e,d⟩:=T.obj _ _ st5 b hb
      exact (I8.pin (b,o) (List.mem_append_right _ (List.mem_append_right _ (ZC hb e)))).2.1
     ·exact (I8.pin (b,o) (List.mem_append_right _ (List.mem_append_right _ (ZC hb e)))).1
    have weak:∀ {H8:Hp}{s8:Shared},Inv (zH X scope cl NY C s2 H2 fp) [] σ6 H8 s8->Inv (zH X scope cl NY C s2 H2 fp) [] (List.replicate NY.length none) H8 s8:=fun {H8 s8} I8=>
     I8.weak (by rw [List.length_replicate]; exact I8.len.symm) fun i v' e=>by
      rw [List.getElem?_replicate] at e
      split at e <;> simp at e
    have nopin:∀ {H8:Hp}{s8:Shared}{pl:List (Addr × Obj)},Inv (zH X scope cl NY C s2 H2 fp) pl σ6 H8 s8->Inv (zH X scope cl NY C s2 H2 fp) [] σ6 H8 s8:=fun {H8 s8 pl} I8=>
     I8.pins_of fun p hp=>absurd hp (by simp)
    cases b with
    | false=>
     rw [if_neg Bool.false_ne_true] at q7 ⊢
     obtain ⟨m',hm,w7⟩:=q7
     obtain ⟨k1,k2,k3,k4⟩:=back I7
     exact ⟨m',hm,i + 1,vs,ws,nn,H7,weak (nopin I7),T.keep _ _ _ st5 k4,k3,k2,k1,rv3,w7⟩
    | true=>
     rw [if_pos rfl] at q7 ⊢
     refine thn (YE _ s7 _ _ _ I7 q7) fun u8 s8 ⟨y8,H8,I8,r8,m',hm,w8⟩=>?_
     obtain ⟨k1,k2,k3,k4⟩:=back I8
     refine append_at (hsz:=by rw [List.size_toArray,← rv3.length]; exact hsz) k1 fun h9 hs9 ho9=>?_
     have I9:Inv (zH X scope cl NY C s2 H2 fp) [] σ6 H8 { s8 with heap:=h9 }:=
      (nopin I8).turned (t':=s8.toks) (it:=D) (fun b o hb e=>(hs9.2 b hb).trans e) k2 hDC (.inr (by rw [← hDg]; exact Nat.le_refl _)) (fun y c e=>Nat.ne_of_lt (clt y c e)) fun p hp=>absurd (show p∈([]:List (Addr × Obj)) from hp) (by simp)
     refine ⟨m',hm,i + 1,vs ++ [y8],ws ++ [u8],nn + 1,H8,weak I9,?_,k3,k2,?_,rv3.append (.cons r8 .nil),w8⟩
     ·refine T.keep _ _ _ st5 fun b hb o e=>?_
      exact (hs9.2 b (below b (fpl b hb)).2).trans (k4 b hb o e)
     ·rw [ho9,List.push_toArray]
  ·cases q:H2 D with
   | none=>rfl
   | some o=>exact absurd (tlt D o q) (Nat.lt_irrefl _)
 exact codeAny_compStart_list (loop _ ⟨_,rfl⟩) (T.self _ 0 _ _ _ (T.keep _ _ _ st2 fun b _ o e=>old b o e) (loop _ ⟨_,rfl⟩))
theorem zj1 {K:PySem.W.Frag}{fr:List Nat}{te:TE}{σ:St}{H:Hp}{F:Addr->Hp->List V->Prop}{a:Addr}{vs:List V} (outs:List V) (hS:SqL K H a vs) (hl:outs.length = vs.length) (hz:vs.length<=sizeLine)
  (step:∀ (i:Nat) (v y:V) (H1:Hp) (R:VK),vs[i]? = some v->outs[i]? = some y->Same H H1->(∀ H2,Same H1 H2->R y H2)->te (some v :: frees fr σ) H1 R)
  (fin:∀ (H1:Hp) (D:Addr),Same H H1->H1 D = none->F D H1 outs):
  ∃ W:Nat->Nat->List V->Hp->Prop,(∃ m,W 0 m [] H)/\∀ i m vs H,W i m vs H->vs.length<=sizeLine /\
   (((Itl K a).stop i H/\∀ D,H D = none->F D H vs) \/
    ((Itl K a).go i H/\∀ v H',(Itl K a).yld i H v H'->if true = true then te (some v :: frees fr σ) H' fun y H3=>∃ m',m' < m/\W (i + 1) m' (vs ++ [y]) H3 else ∃ m',m' < m/\W (i + 1) m' vs H')):=by
 refine ⟨fun i m us H1=>i<=vs.length/\m = vs.length - i/\us = outs.take i/\Same H H1,⟨_,Nat.zero_le _,rfl,by simp,Same.refl _⟩,fun i m us H1 hW=>?_⟩
 obtain ⟨hi,hm,hu,sm⟩:=hW
 refine ⟨by rw [hu,List.length_take]; omega,?_⟩
 by_cases hlt:i < vs.length
 ·refine .inr ⟨⟨vs,vs[i],sm.seq hS,List.getElem?_eq_getElem hlt⟩,fun v H' hy=>?_⟩
  obtain ⟨rfl,hv⟩:=hy
  have hv:=hv vs (sm.seq hS)
  have hy:outs[i]? = some outs[i]:=List.getElem?_eq_getElem (by omega)
  refine iteT ?_
  refine step i v outs[i] H' _ hv hy sm fun H2 s2=>⟨vs.length - (i + 1),by omega,by omega,rfl,?_,sm.trans s2⟩
  rw [hu,zal hy]
 ·have e:i = vs.length:=by omega
  refine .inl ⟨⟨vs,sm.seq hS,by omega⟩,fun D hD=>?_⟩
  have e2:us = outs:=by rw [hu,List.take_of_length_le (by omega)]
  rw [e2]
  exact fin H1 D sm hD
end L2
namespace D
open PySem L2
theorem zcY {X:Cx}{elt iter tg:Expr}{pos:Pos}{ifs:List Expr}{scope:Scope}{cl:List (Str × Addr)} (NY:List Str) {wi:TI}{g:TG}{tt:TT}{te:TE}
  (hc:X.calm = true) (hclos:closureFor scope X.env = pure cl) (hcell:∀ y∈scope.names,y.2≠.cell) (hkind:scope.kind = .function) (hnames:∀ y∈scope.names,y.2 = .local->scope.names.lookup y.1 = some .local)
  (hcl:ClOk cl X.env.cells) (hall:(scope.names.all fun y=>y.2 != .free || (cl.lookup y.1).isSome) = true)
  (hi:QI X tg iter wi) (hg:∀ C s H fp,QG (zH X scope cl NY C s H fp) tg g)
  (hY:∀ C s H fp,QIfs (zH X scope cl NY C s H fp) ifs tt/\QE (zH X scope cl NY C s H fp) elt te)
  (hs:∀ v,foldedSetIterable iter X.env v = pure v:=by intro _; rfl):
  QE X (.ListComp elt [⟨tg,iter,ifs,0⟩] scope pos) (ziw NY.length wi g tt te):=⟨L2.zcY NY hc hclos hcell hkind hnames hcl hall hi.un (fun C s H fp=>(hg C s H fp).un) (fun C s H fp=>⟨(hY C s H fp).1.un,(hY C s H fp).2.un⟩) hs⟩
end D
namespace L2
open PySem PySem.Spec PyProof.Rows
section
variable {prog:Program}{w:World}{A:Around}{E:Value->Shared->Prop}{s:Shared}
theorem zdu {it l:Addr}{i:Nat}{its:Array Value}{x:Value}{Q:Value->Shared->Prop} (st:s.heap.IsTupleIter it l i) (tp:s.heap.IsTuple l its) (ex:its[i]? = some x)
  (q:∀ h',h'.IsTupleIter it l (i + 1)->Heap.SameBut it s.heap h'->Q x { s with heap:=h' }):wpAny (model prog w) A (Builtin.SmallTypes.nextOf (.ref it)) Q E s:=by
 obtain ⟨o,g1,g2,g3⟩:=id st
 obtain ⟨p,f1,_,n,f3⟩:=tp
 unfold Builtin.SmallTypes.nextOf
 refine wpAny_bind (wpAny_callSpecial?_slot (name:=Str.ofString "__next__") st.typeIs F.slot_tuple_iterator_next (wpAny_call_entry F.slot_tuple_iterator_next st.typeIs F.entry_tuple_iterator_next ?_ (F.args_tuple_iterator_next_1 _)))
 show wpAny _ _ (field (.ref it) 0 >>= _) _ _ s; refine wpAny_bind (wpAny_field g1 g3 (x:=.ref l) rfl ?_)
 show wpAny _ _ (if (Value.ref l == Value.none) = true then _ else _) _ _ s; rw [if_neg (show ¬ ((Value.ref l == Value.none) = true) from Bool.false_ne_true)]
 show wpAny _ _ (field (.ref it) 1 >>= _) _ _ s; refine wpAny_bind (wpAny_field g1 g3 (x:=.int i 0) rfl ?_)
 show wpAny _ _ (seqItems? (.ref l) >>= _) _ _ s; refine wpAny_bind (wpAny_seqItems f1 f3 ?_)
 simp only [Int.toNat_natCast,ex]
 refine wpAny_bind (wpAny_setField g1 g3 (by simp) (wpAny_pure ⟨x,rfl,wpAny_pure (q _ ?_ (Heap.SameBut.update ..))⟩))
 refine ⟨_,Heap.get?_update_self _ g1 (Obj.isFreed_of_fields (Obj.data_mapFields g3 _)),(Obj.cls_mapFields ..).trans g2,?_⟩
 rw [Obj.data_mapFields g3]; simp [rawInt]
theorem zde {it l:Addr}{i:Nat}{its:Array Value}{Q:Value->Shared->Prop} (hh:A.handled = none) (st:s.heap.IsTupleIter it l i) (tp:s.heap.IsTuple l its) (ex:its[i]? = none)
  (q:∀ h' e,Heap.ExtBut it s.heap h'->(∃ o,h'.get? e = some o/\o.cls = .type "StopIteration")->E (.ref e) { s with heap:=h' }):wpAny (model prog w) A (Builtin.SmallTypes.nextOf (.ref it)) Q E s:=by
 obtain ⟨o,g1,g2,g3⟩:=id st
 obtain ⟨p,f1,_,n,f3⟩:=tp
 unfold Builtin.SmallTypes.nextOf
 refine wpAny_bind (wpAny_callSpecial?_slot (name:=Str.ofString "__next__") st.typeIs F.slot_tuple_iterator_next (wpAny_call_entry F.slot_tuple_iterator_next st.typeIs F.entry_tuple_iterator_next ?_ (F.args_tuple_iterator_next_1 _)))
 show wpAny _ _ (field (.ref it) 0 >>= _) _ _ s; refine wpAny_bind (wpAny_field g1 g3 (x:=.ref l) rfl ?_)
 show wpAny _ _ (if (Value.ref l == Value.none) = true then _ else _) _ _ s; rw [if_neg (show ¬ ((Value.ref l == Value.none) = true) from Bool.false_ne_true)]
 show wpAny _ _ (field (.ref it) 1 >>= _) _ _ s; refine wpAny_bind (wpAny_field g1 g3 (x:=.int i 0) rfl ?_)
 show wpAny _ _ (seqItems? (.ref l) >>= _) _ _ s; refine wpAny_bind (wpAny_seqItems f1 f3 ?_)
 simp only [Int.toNat_natCast,ex]
 refine wpAny_bind (wpAny_rule (wpAny_bind (wpAny_setField g1 g3 (by simp) ?_)))
 show wpAny _ _ (newExc (.type "StopIteration") [] >>= _) _ _ _; refine wpAny_bind ?_; simp only [newExc,newTuple]; refine wpAny_bind (wpAny_newObj_type ?_ (by size_fits))
 refine wpAny_bind (m:=firstArgMember _ _) (wpAny_of_eq (a:=Value.none) (by first | rfl | (simp only [firstArgMember]; rfl)) ?_); refine wpAny_newObj_type ?_ (by size_fits)
 simp only [raiseNew]; refine wpAny_bind (wpAny_handled ?_); first | rw [show A.in1.handled = none from hh] | rw [hh]
 refine wpAny_bind (wpAny_pure (wpAny_throw ?_)); exact q _ _ (((Heap.SameBut.update ..).extBut.push _).push _) ⟨_,Heap.get?_push_size _ rfl,rfl⟩
structure ZT (h:Heap) (z TI TO i1 i2 l1 l2:Addr) (k:Nat) (f0:Value):Prop where
 zip:IsZip h z TI TO f0
 ti:IsPair h TI (.ref i1) (.ref i2)
 to:∃ a b,IsPair h TO a b
 it1:h.IsTupleIter i1 l1 k
 it2:h.IsTupleIter i2 l2 k
theorem zlK {z TI TO i1 i2 l1 l2:Addr}{k:Nat}{xs ys:Array Value}{x y:Value}{Q:Option Value->Shared->Prop} (D:ZipApart z TI TO i1 i2 l1 l2) (Z:ZT s.heap z TI TO i1 i2 l1 l2 k .none)
  (t1:s.heap.IsTuple l1 xs) (t2:s.heap.IsTuple l2 ys) (e1:xs[k]? = some x) (e2:ys[k]? = some y)
  (q:∀ h',ZT h' z TI TO i1 i2 l1 l2 (k + 1) (rawInt s.heap.objs.size)->IsPair h' s.heap.objs.size x y->(∀ c o,c≠z->c≠TO->c≠i1->c≠i2->s.heap.get? c = some o->h'.get? c = some o)->
   Q (some (.ref s.heap.objs.size)) { s with heap:=h' }):wpAny (model prog w) A (pyNext (.ref z)) Q E s:=by
 obtain ⟨hz,hI,⟨a,b,hO⟩,j1,j2⟩:=Z
 have ty:s.TypeIs (.ref z) "zip":=⟨_,hz,rfl⟩
 unfold pyNext
 refine wpAny_bind (wpAny_attempt (wpAny_callSpecial?_slot (name:=Str.ofString "__next__") ty F.slot_zip_next (wpAny_call_entry F.slot_zip_next ty F.entry_zip_next ?_ (F.args_zip_next_1 _))))
 show wpAny _ _ (field (.ref z) 2 >>= _) _ _ _; refine wpAny_bind (wpAny_field hz rfl (x:=.bool false) rfl ?_)
 show wpAny _ _ (field (.ref z) 3 >>= _) _ _ _; refine wpAny_bind (wpAny_field hz rfl (x:=.ref TI) rfl ?_)
 refine wpAny_bind (wpAny_seqItems hI rfl ?_)
 show wpAny _ _ (Builtin.SmallTypes.ownedTupleIsFree (.ref z) >>= _) _ _ _; refine wpAny_bind ?_; unfold Builtin.SmallTypes.ownedTupleIsFree
 refine wpAny_bind (wpAny_field hz rfl (x:=.none) rfl (wpAny_pure ?_)); simp only [if_true]
 refine wpAny_bind (wpAny_rule ?_); refine wpAny_bind (wpAny_field hz rfl (x:=.ref TO) rfl ?_)
 refine wpAny_bind (wpAny_setField_rec hz (by simp) fun ha za sa=>?_)
 replace za:IsZip ha z TI TO .ellipsis:=za
 refine wpAny_bind ?_
 simp only [List.zipIdx_cons,List.zipIdx_nil,List.forIn_cons,List.forIn_nil]
 refine wpAny_bind (wpAny_bind (wpAny_onRaise ?_)); show wpAny _ _ (Builtin.SmallTypes.nextOf (.ref i1) >>= _) _ _ _
 refine wpAny_bind (zdu (j1.extBut sa.extBut D.i1z) (t1.extBut sa.extBut D.l1z) e1 fun hb jb sb=>wpAny_pure ?_)
 have Ob:IsPair hb TO a b:=sb.extBut _ _ D.TOi1 (sa.extBut _ _ D.TOz hO)
 refine wpAny_bind (wpAny_seqItems Ob rfl ?_)
 refine wpAny_bind (wpAny_updateSeq_pair Ob fun hc Oc sc=>?_)
 replace Oc:IsPair hc TO x b:=Oc
 refine wpAny_bind (wpAny_letGo (wpAny_pure ?_)); refine wpAny_bind (wpAny_bind (wpAny_onRaise ?_)); show wpAny _ _ (Builtin.SmallTypes.nextOf (.ref i2) >>= _) _ _ _
 refine wpAny_bind (zdu (((j2.extBut sa.extBut D.i2z).extBut sb.extBut D.i12.symm).extBut sc.extBut D.TOi2.symm) (((t2.extBut sa.extBut D.l2z).extBut sb.extBut D.l2i1).extBut sc.extBut D.l2TO) e2 fun hd jd sd=>wpAny_pure ?_)
 have Od:IsPair hd TO x b:=sd.extBut _ _ D.TOi2 Oc
 refine wpAny_bind (wpAny_seqItems Od rfl ?_)
 refine wpAny_bind (wpAny_updateSeq_pair Od fun he Oe se=>?_)
 replace Oe:IsPair he TO x y:=Oe
 refine wpAny_bind (wpAny_letGo (wpAny_pure (wpAny_pure ?_))); refine wpAny_bind (wpAny_seqItems Oe rfl ?_); refine wpAny_bind (wpAny_newTuple ?_)
 have size:he.objs.size = s.heap.objs.size:=by rw [se.1,sd.1,sc.1,sb.1,sa.1]
 have ze:IsZip he z TI TO .ellipsis:=se.extBut _ _ D.TOz.symm (sd.extBut _ _ D.i2z.symm (sc.extBut _ _ D.TOz.symm (sb.extBut _ _ D.i1z.symm za)))
 have ke:∀ c o,c≠z->c≠TO->c≠i1->c≠i2->s.heap.get? c = some o->he.get? c = some o:=fun c o n1 n2 n3 n4 e=>se.extBut _ _ n2 (sd.extBut _ _ n4 (sc.extBut _ _ n2 (sb.extBut _ _ n3 (sa.extBut _ _ n1 e))))
 have m1:he.IsTupleIter i1 l1 (k + 1):=((jb.extBut sc.extBut D.TOi1.symm).extBut sd.extBut D.i12).extBut se.extBut D.TOi1.symm
 have m2:he.IsTupleIter i2 l2 (k + 1):=jd.extBut se.extBut D.TOi2.symm
 have lz:z < he.objs.size:=Heap.lt_size ze
 show wpAny _ _ (Builtin.SmallTypes.ownedTupleHandOut (.ref z) (.ref he.objs.size) >>= _) _ _ _; refine wpAny_bind ?_; unfold Builtin.SmallTypes.ownedTupleHandOut
 have zf:IsZip (he.push { cls:=.type "tuple",data:=.seq #[x,y] }) z TI TO .ellipsis:=Heap.get?_push_of_some _ ze
 refine wpAny_bind (wpAny_setField_rec zf (by simp) fun hg zg sg=>?_)
 replace zg:IsZip hg z TI TO (rawInt he.objs.size):=zg
 refine wpAny_setField_rec zg (by simp) fun hk zk sk=>?_
 replace zk:IsZip hk z TI TO (rawInt he.objs.size):=zk
 have up:∀ c o,c≠z->he.get? c = some o->hk.get? c = some o:=fun c o n1 e=>sk.extBut _ _ n1 (sg.extBut _ _ n1 (Heap.get?_push_of_some _ e))
 have Tk:IsPair hk he.objs.size x y:=sk.extBut _ _ (Nat.ne_of_gt lz) (sg.extBut _ _ (Nat.ne_of_gt lz) (Heap.get?_push_size _ rfl))
 rw [size] at zk Tk
 refine wpAny_pure ⟨_,rfl,wpAny_pure ?_⟩
 show Q (some (.ref he.objs.size)) _; rw [size]
 refine q hk ⟨zk,up _ _ D.TIz (ke _ _ D.TIz D.TITO D.TIi1 D.TIi2 hI),⟨_,_,up _ _ D.TOz Oe⟩,m1.at fun o e=>up _ o D.i1z e,m2.at fun o e=>up _ o D.i2z e⟩ Tk fun c o n1 n2 n3 n4 e=>up c o n1 (ke c o n1 n2 n3 n4 e)
theorem zm1 {z TI TO i1 i2 l1 l2:Addr}{k:Nat}{xs:Array Value}{Q:Option Value->Shared->Prop} (hh:A.handled = none) (D:ZipApart z TI TO i1 i2 l1 l2) (Z:ZT s.heap z TI TO i1 i2 l1 l2 k .none)
  (t1:s.heap.IsTuple l1 xs) (e1:xs[k]? = none) (q:∀ h',(∀ c o,c≠z->c≠TO->c≠i1->c≠i2->s.heap.get? c = some o->h'.get? c = some o)->Q none { s with heap:=h' }):wpAny (model prog w) A (pyNext (.ref z)) Q E s:=by
 obtain ⟨hz,hI,⟨a,b,hO⟩,j1,j2⟩:=Z
 have ty:s.TypeIs (.ref z) "zip":=⟨_,hz,rfl⟩
 unfold pyNext
 refine wpAny_bind (wpAny_attempt (wpAny_callSpecial?_slot (name:=Str.ofString "__next__") ty F.slot_zip_next (wpAny_call_entry F.slot_zip_next ty F.entry_zip_next ?_ (F.args_zip_next_1 _))))
 show wpAny _ _ (field (.ref z) 2 >>= _) _ _ _; refine wpAny_bind (wpAny_field hz rfl (x:=.bool false) rfl ?_)
 show wpAny _ _ (field (.ref z) 3 >>= _) _ _ _; refine wpAny_bind (wpAny_field hz rfl (x:=.ref TI) rfl ?_)
 refine wpAny_bind (wpAny_seqItems hI rfl ?_)
 show wpAny _ _ (Builtin.SmallTypes.ownedTupleIsFree (.ref z) >>= _) _ _ _; refine wpAny_bind ?_; unfold Builtin.SmallTypes.ownedTupleIsFree
 refine wpAny_bind (wpAny_field hz rfl (x:=.none) rfl (wpAny_pure ?_)); simp only [if_true]
 refine wpAny_bind (wpAny_rule ?_); refine wpAny_bind (wpAny_field hz rfl (x:=.ref TO) rfl ?_)
 refine wpAny_bind (wpAny_setField_rec hz (by simp) fun ha za sa=>?_)
 replace za:IsZip ha z TI TO .ellipsis:=za
 refine wpAny_bind ?_
 simp only [List.zipIdx_cons,List.zipIdx_nil,List.forIn_cons,List.forIn_nil]
 refine wpAny_bind (wpAny_bind (wpAny_onRaise ?_)); show wpAny _ _ (Builtin.SmallTypes.nextOf (.ref i1) >>= _) _ _ _
 refine wpAny_bind (zde hh (j1.extBut sa.extBut D.i1z) (t1.extBut sa.extBut D.l1z) e1 fun hb e sb ee=>?_)
 obtain ⟨oe,ge,ce⟩:=ee
 have zb:IsZip hb z TI TO .ellipsis:=sb _ _ D.i1z.symm za
 have nz:e≠z:=fun t=>by subst t; rw [zb] at ge; cases ge; simp at ce
 refine wpAny_setField_rec zb (by simp) fun hc _ sc=>?_
 have gc:hc.get? e = some oe:=sc.extBut _ _ nz ge
 refine wpAny_bind (wpAny_isInstance (T:="StopIteration") (b:=true) ⟨oe,gc,ce⟩ isSubtype_stop ?_)
 exact wpAny_pure (q _ fun c o n1 _ n3 _ t=>sc.extBut _ _ n1 (sb _ _ n3 (sa.extBut _ _ n1 t)))
end
abbrev zt1 (h:Heap) (a:Addr):Heap:=h.push { cls:=.type "tuple_iterator",data:=.fields #[.ref a,.int 0 0] }
abbrev zt2 (h:Heap) (a b:Addr):Heap:=(zt1 h a).push { cls:=.type "tuple_iterator",data:=.fields #[.ref b,.int 0 0] }
abbrev zt3 (h:Heap) (a b:Addr):Heap:=(zt2 h a b).push { cls:=.type "tuple",data:=.seq #[.ref h.objs.size,.ref (zt1 h a).objs.size] }
abbrev zt4 (h:Heap) (a b:Addr):Heap:=(zt3 h a b).push { cls:=.type "tuple",data:=.seq #[.none,.none] }
abbrev zt5 (h:Heap) (a b:Addr):Heap:=(zt4 h a b).push { cls:=.type "zip",data:=.fields #[.none,.bool false,.bool false,.ref (zt2 h a b).objs.size,.ref (zt3 h a b).objs.size] }
theorem zj2 (a b:Addr) (xs ys:Array Value):Meets (Builtin.«zip.__new__» ⟨[.type "zip",.ref a,.ref b],[]⟩) (fun _ R s=>s.heap.IsTuple a xs/\s.heap.IsTuple b ys/\R (.ok (.ret (.ref (zt4 s.heap a b).objs.size))) { s with heap:=zt5 s.heap a b }):=
 .of_wp fun prog w A R s h=>by
  obtain ⟨hp,g,d,tk,os⟩:=s; obtain ⟨h1,h2,h⟩:=h
  have hsub:=sub_zip
  have L1:Heap.IsTuple (Shared.heap ⟨hp,g,d,tk,os⟩) a xs:=h1
  have L2':Heap.IsTuple (Shared.heap ⟨hp.push { cls:=.type "tuple_iterator",data:=.fields #[.ref a,.int 0 0] },g,d,tk,os⟩) b ys:=Heap.IsTuple.push h2 _
  wp_walk using wpAny_pyIter_tuple L1,wpAny_pyIter_tuple L2'
  exact ⟨_,rfl,h⟩
section
variable {prog:Program}{w:World}{A:Around}{E:Value->Shared->Prop}{s:Shared}
theorem zlL {a b:Addr}{xs ys:Array Value}{Q:Value->Shared->Prop} (t1:s.heap.IsTuple a xs) (t2:s.heap.IsTuple b ys)
  (h:∀ h',ZT h' (s.heap.objs.size + 4) (s.heap.objs.size + 2) (s.heap.objs.size + 3) s.heap.objs.size (s.heap.objs.size + 1) a b 0 .none->(∀ c o,s.heap.get? c = some o->h'.get? c = some o)->Q (.ref (s.heap.objs.size + 4)) { s with heap:=h' }):
  wpAny (model prog w) A (call (.type "zip") [.ref a,.ref b]) Q E s:=by
 refine callType_new F.called_zip (by decide) (F.typeCall_zip_2 _ _) (F.newCall_zip_2 _ _) (fun obj=>F.args_object_init_3 obj _ _) F.entry_zip_new (zj2 a b xs ys) ⟨t1,t2,?_⟩
 have n1:(zt1 s.heap a).objs.size = s.heap.objs.size + 1:=Heap.size_push ..
 have n2:(zt2 s.heap a b).objs.size = s.heap.objs.size + 2:=by rw [Heap.size_push,n1]
 have n3:(zt3 s.heap a b).objs.size = s.heap.objs.size + 3:=by rw [Heap.size_push,n2]
 have n4:(zt4 s.heap a b).objs.size = s.heap.objs.size + 4:=by rw [Heap.size_push,n3]
 have o5:(zt5 s.heap a b).get? (zt4 s.heap a b).objs.size = some _:=Heap.get?_push_size _ rfl
 have o4:(zt5 s.heap a b).get? (zt3 s.heap a b).objs.size = some _:=Heap.get?_push_of_some _ (Heap.get?_push_size _ rfl)
 have o3:(zt5 s.heap a b).get? (zt2 s.heap a b).objs.size = some _:=Heap.get?_push_of_some _ (Heap.get?_push_of_some _ (Heap.get?_push_size _ rfl))
 have o2:(zt5 s.heap a b).get? (zt1 s.heap a).objs.size = some _:=Heap.get?_push_of_some _ (Heap.get?_push_of_some _ (Heap.get?_push_of_some _ (Heap.get?_push_size _ rfl)))
 have o1:(zt5 s.heap a b).get? s.heap.objs.size = some _:=Heap.get?_push_of_some _ (Heap.get?_push_of_some _ (Heap.get?_push_of_some _ (Heap.get?_push_of_some _ (Heap.get?_push_size _ rfl))))
 show _/\_
 rw [n2,n3,n4] at o5
 rw [n1,n2] at o3
 rw [n3] at o4
 rw [n1] at o2
 rw [n4]
 exact ⟨⟨_,o5,rfl⟩,h _ ⟨o5,o3,⟨_,_,o4⟩,⟨_,o1,rfl,rfl⟩,⟨_,o2,rfl,rfl⟩⟩ fun c o x=>Heap.get?_push_of_some _ (Heap.get?_push_of_some _ (Heap.get?_push_of_some _ (Heap.get?_push_of_some _ (Heap.get?_push_of_some _ x))))⟩
end
def Itz (K:PySem.W.Frag) (a b:Addr):It:=
 ⟨fun i H=>∃ xs x ys y,SqT K H a xs/\SqT K H b ys/\xs[i]? = some x/\ys[i]? = some y,
  fun i H v H'=>∃ t x y,H t = none/\v = .ref t/\(∀ xs,SqT K H a xs->xs[i]? = some x)/\(∀ ys,SqT K H b ys->ys[i]? = some y)/\H' = upd H t (.tup [x,y]),
  fun i H=>∃ xs,SqT K H a xs/\xs.length<=i⟩
theorem zj3 {P:Program}{w:World}{K:PySem.W.Frag}{elts:List Expr}{kk:Nat}{pos:Pos} (a b z TI TO i1 i2:Addr) (D:ZipApart z TI TO i1 i2 a b):Turn P w K (.Tuple elts kk pos) (Itz K a b) [z,TI,TO,i1,i2] z (fun i h=>ZT h z TI TO i1 i2 a b i .none) where
 mem:=by simp
 obj:=fun i h st c hc=>by
  obtain ⟨hz,hI,⟨x,y,hO⟩,⟨o1,g1,_,d1⟩,o2,g2,_,d2⟩:=st
  have hc:c = z\/c = TI\/c = TO\/c = i1\/c = i2:=by simpa using hc
  rcases hc with rfl | rfl | rfl | rfl | rfl
  ·exact ⟨_,hz,fun v q=>by have q':Data.fields _ = Data.cell v:=q; cases q'⟩
  ·exact ⟨_,hI,fun v q=>by have q':Data.seq _ _ = Data.cell v:=q; cases q'⟩
  ·exact ⟨_,hO,fun v q=>by have q':Data.seq _ _ = Data.cell v:=q; cases q'⟩
  ·exact ⟨o1,g1,fun v q=>by rw [d1] at q; cases q⟩
  ·exact ⟨o2,g2,fun v q=>by rw [d2] at q; cases q⟩
 keep:=fun i h h' st k=>by
  obtain ⟨hz,hI,⟨x,y,hO⟩,j1,j2⟩:=st
  exact ⟨k z (by simp) _ hz,k TI (by simp) _ hI,⟨x,y,k TO (by simp) _ hO⟩,j1.at fun o e=>k i1 (by simp) o e,j2.at fun o e=>k i2 (by simp) o e⟩
 item:=by
  intro X hP hw hK hc i zp s σ H E I hf st hg
  subst hP hw hK
  obtain ⟨xs,x,ys,y,q1,q2,e1,e2⟩:=hg
  obtain ⟨as,r1,p1,_⟩:=I.tuple q1
  obtain ⟨bs,r2,p2,_⟩:=I.tuple q2
  obtain ⟨u1,m1,v1⟩:=r1.get e1
  obtain ⟨u2,m2,v2⟩:=r2.get e2
  have hfr:H s.heap.objs.size = none:=I.hok.fresh (Nat.le_refl _)
  have old:∀ c∈[z,TI,TO,i1,i2],c < s.heap.objs.size:=fun c hc=>by
   obtain ⟨hz,hI,⟨x,y,hO⟩,⟨o1,g1,_⟩,o2,g2,_⟩:=st
   have hc:c = z\/c = TI\/c = TO\/c = i1\/c = i2:=by simpa using hc
   rcases hc with rfl | rfl | rfl | rfl | rfl
   ·exact Heap.lt_size hz
   ·exact Heap.lt_size hI
   ·exact Heap.lt_size hO
   ·exact Heap.lt_size g1
   ·exact Heap.lt_size g2
  refine zlK D st (show s.heap.IsTuple a as.toArray from p1) (show s.heap.IsTuple b bs.toArray from p2) (x:=u1) (y:=u2) (by simpa using m1) (by simpa using m2) fun h1 Z1 T1 k1=>⟨_,rfl,wpAny_letOwnedTupleGo_zip Z1.zip fun h2 z2 s2=>?_⟩
  have I1:Inv X zp σ (upd H s.heap.objs.size (.tup [x,y])) { s with heap:=s.heap.push { cls:=.type "tuple",data:=.seq #[u1,u2] },toks:=s.toks }:=
   I.laid (t':=s.toks) (fun b u e=>Heap.get?_push_of_some _ e) (Nat.le_refl _) ⟨zl2,[u1,u2],.cons v1 (.cons v2 .nil),⟨_,Heap.get?_push_size _ rfl,rfl,_,rfl⟩⟩
  have nn:∀ c∈[z,TI,TO,i1,i2],upd H s.heap.objs.size (.tup [x,y]) c = none:=fun c hc=>by
   rw [zr (Nat.ne_of_lt (old c hc))]
   exact (hf c hc).1
  have ap:∀ c,c ∉ [z,TI,TO,i1,i2]->c≠z/\c≠TO/\c≠i1/\c≠i2:=fun c hc=>⟨fun t=>hc (by simp [t]),fun t=>hc (by simp [t]),fun t=>hc (by simp [t]),fun t=>hc (by simp [t])⟩
  have I2:Inv X zp σ (upd H s.heap.objs.size (.tup [x,y])) { s with heap:=h2,toks:=s.toks }:=by
   refine Inv.turnedL (s:={ s with heap:=s.heap.push { cls:=.type "tuple",data:=.seq #[u1,u2] },toks:=s.toks }) (h':=h2) (t':=s.toks) (fp:=[z,TI,TO,i1,i2]) I1 (fun c o hc ec=>?_) (fun c hc=>?_)
   ·obtain ⟨c1,c2,c3,c4⟩:=ap c hc
    refine (s2.2 c c1).trans ?_
    by_cases hcs:c = s.heap.objs.size
    ·subst hcs
     have f1:(s.heap.push { cls:=.type "tuple",data:=.seq #[u1,u2] }).get? s.heap.objs.size = some { cls:=.type "tuple",data:=.seq #[u1,u2] }:=Heap.get?_push_size _ rfl
     have ec:(s.heap.push { cls:=.type "tuple",data:=.seq #[u1,u2] }).get? s.heap.objs.size = some o:=ec
     rw [f1] at ec
     cases ec
     exact T1
    ·refine k1 c o c1 c2 c3 c4 ?_
     have ec:(s.heap.push { cls:=.type "tuple",data:=.seq #[u1,u2] }).get? c = some o:=ec
     have hlt:=Heap.lt_size ec
     rw [Heap.size_push] at hlt
     exact zd5 ec (Nat.lt_of_le_of_ne (Nat.le_of_lt_succ hlt) hcs)
   ·obtain ⟨f0,f1,f2,f3,f4,f5⟩:=hf c hc
    exact ⟨nn c hc,f1,f2,f3,f4,f5⟩
  obtain ⟨x5,y5,O5⟩:=Z1.to
  refine ⟨.ref s.heap.objs.size,_,I2,rfl,⟨s.heap.objs.size,x,y,hfr,rfl,fun zs hy=>by rw [I.tuple_inj hy q1]; exact e1,fun zs hy=>by rw [I.tuple_inj hy q2]; exact e2,rfl⟩,?_,nn⟩
  exact ⟨z2,(s2.2 _ D.TIz).trans Z1.ti,⟨x5,y5,(s2.2 _ D.TOz).trans O5⟩,Z1.it1.at fun o e=>(s2.2 _ D.i1z).trans e,Z1.it2.at fun o e=>(s2.2 _ D.i2z).trans e⟩
 done:=by
  intro X hP hw hK hc i zp s σ H E I hf st hg
  subst hP hw hK
  obtain ⟨xs,q1,hx⟩:=hg
  obtain ⟨as,r1,p1,_⟩:=I.tuple q1
  have hl:=r1.length
  refine zm1 (I.ok.hd hc) D st (show s.heap.IsTuple a as.toArray from p1) (by simp; omega) fun h' eb=>⟨rfl,?_⟩
  exact I.turnedL (t':=s.toks) (fp:=[z,TI,TO,i1,i2]) (fun c o hc e=>eb c o (fun t=>hc (by simp [t])) (fun t=>hc (by simp [t])) (fun t=>hc (by simp [t])) (fun t=>hc (by simp [t])) e) hf
 self:=fun _ _ _ _ _ st h=>wpAny_pyIter_zip st.zip h
theorem zgn:bootBuiltins (Str.ofString "zip") = some (.type "zip"):=by kernel_rfl
def iZip (K:PySem.W.Frag) (ta:TA):TI:=fun σ H R=>ta σ H fun vs H1=>∃ (a b:Addr) (xs ys:List V),vs = [.ref a,.ref b]/\SqT K H1 a xs/\SqT K H1 b ys/\(xs.length<=sizeLine->R (Itz K a b) H1)
theorem zix {X:Cx}{elts:List Expr}{k:Nat}{ps:Pos}{a b:Expr}{ta:TA}{p pos:Pos} (hg:Gl X "zip") (hm:X.mg "zip" = none) (ha:PA X [a,b] ta) (hs:starEach [a,b] X.env = (false,eval a X.env) :: starEach [b] X.env:=by rfl)
  (hpl:(backTo pos (starEach [b] X.env)).any (·.1) = false:=by rfl):
  PI X (.Tuple elts k ps) (.Call (.Name "zip" p) [a,b] [] pos) (iZip X.K ta):=by
 intro zp s σ H R I h
 refine Call_ (zbX I hg hm zgn (PyProof.Rows.callWith_type1 (thn (ha pos zp s σ H _ I h) fun us s1 ⟨vs,H1,I1,r1,q1⟩=>?_) hs hpl))
 obtain ⟨c,d,xs,ys,e,q2,q3,q⟩:=q1
 subst e
 obtain ⟨u,u',rfl,rx,ry⟩:=zgL r1
 cases rx
 cases ry
 obtain ⟨as,r2,p1,hz⟩:=I1.tuple q2
 obtain ⟨bs,r3,p2,_⟩:=I1.tuple q3
 obtain ⟨oc,gc,_⟩:=id p1
 obtain ⟨od,gd,_⟩:=id p2
 refine zlL (show s1.heap.IsTuple c as.toArray from p1) (show s1.heap.IsTuple d bs.toArray from p2) fun h' Z hk=>?_
 refine wpAny_pyIter_zip Z.zip ?_
 have I2:Inv X zp σ H1 { s1 with heap:=h',toks:=s1.toks }:=I1.kept (t':=s1.toks) hk
 refine ⟨s1.heap.objs.size + 4,[s1.heap.objs.size + 4,s1.heap.objs.size + 2,s1.heap.objs.size + 3,s1.heap.objs.size,s1.heap.objs.size + 1],_,_,H1,rfl,I2,zj3 c d _ _ _ _ _ (zipApart_new (Heap.lt_size gc) (Heap.lt_size gd)),Z,fun e he=>?_,q hz⟩
 have hle:s1.heap.objs.size<=e:=by
  have hc:e = s1.heap.objs.size + 4\/e = s1.heap.objs.size + 2\/e = s1.heap.objs.size + 3\/e = s1.heap.objs.size\/e = s1.heap.objs.size + 1:=by simpa using he
  rcases hc with r | r | r | r | r <;> rw [r] <;> first | exact Nat.le_refl _ | exact Nat.le_add_right _ _
 exact I1.fpOk hle (I1.hok.fresh hle)
end L2
namespace D
open PySem L2
theorem zix {X:Cx}{elts:List Expr}{k:Nat}{ps:Pos}{a b:Expr}{ta:TA}{p pos:Pos} (hg:Gl X "zip") (hm:X.mg "zip" = none) (ha:QA X [a,b] ta) (hs:starEach [a,b] X.env = (false,eval a X.env) :: starEach [b] X.env:=by rfl)
  (hpl:(backTo pos (starEach [b] X.env)).any (·.1) = false:=by rfl):QI X (.Tuple elts k ps) (.Call (.Name "zip" p) [a,b] [] pos) (iZip X.K ta):=⟨L2.zix hg hm ha.un hs hpl⟩
end D
namespace L2
open PySem PySem.Spec PyProof.Rows
section
variable {prog:Program}{w:World}{A:Around}{E:Value->Shared->Prop}{s:Shared}
abbrev zgo (h:Heap) (z TI TO:Addr) (f0:Value) (f1:Bool):Prop:=
 h.get? z = some { cls:=.type "zip",dict:=none,data:=.fields #[f0,.bool f1,.bool false,.ref TI,.ref TO],slots:=#[] }
structure ZL (h:Heap) (z TI TO i1 i2 l1 l2:Addr) (k:Nat) (xs ys:Array Value):Prop where
 zip:IsZip h z TI TO .none\/∃ (T:Addr) (o:Obj) (f:Bool),zgo h z TI TO (rawInt T) f/\h.get? T = some o/\T≠z/\T≠TO/\T≠i1/\T≠i2
 ti:IsPair h TI (.ref i1) (.ref i2)
 to:∃ a b,IsPair h TO a b
 it1:h.IsListIter i1 l1 k
 it2:h.IsListIter i2 l2 k
 ls1:h.IsList l1 xs
 ls2:h.IsList l2 ys
theorem alive {a:Addr}{o:Obj}{Q:Option Obj->Shared->Prop} (ho:s.heap.get? a = some o) (h:Q (some o) s):wpAny (model prog w) A (loadIfAlive a) Q E s:=by
 have h':Q (s.heap.get? a) s:=by rw [ho]; exact h
 exact fun _ _ _=>h'
theorem zgp {z TI TO T:Addr}{o:Obj}{f:Bool}{Q:Bool->Shared->Prop} (hz:zgo s.heap z TI TO (rawInt T) f) (hT:s.heap.get? T = some o)
  (q:∀ h1,zgo h1 z TI TO (rawInt T) true->Heap.SameBut z s.heap h1->Q false { s with heap:=h1 }):wpAny (model prog w) A (Builtin.SmallTypes.ownedTupleIsFree (.ref z)) Q E s:=by
 unfold Builtin.SmallTypes.ownedTupleIsFree
 refine wpAny_bind (wpAny_field hz rfl (x:=rawInt T) rfl ?_)
 show wpAny _ _ (loadIfAlive ((T:Int).toNat) >>= _) _ _ _
 rw [Int.toNat_natCast]
 refine wpAny_bind (alive hT ?_)
 simp only [Option.isNone_some,Bool.false_eq_true,if_false]
 refine wpAny_bind (wpAny_field hz rfl (x:=.bool f) rfl ?_)
 cases f with
 | true=>
  rw [if_neg (show ¬ ((Value.bool true != Value.bool true) = true) from Bool.false_ne_true)]
  exact wpAny_pure (q s.heap hz (Heap.SameBut.refl _ _))
 | false=>
  rw [if_pos (show (Value.bool false != Value.bool true) = true from rfl)]
  refine wpAny_bind (wpAny_setField_rec hz (by simp) fun h1 z1 s1=>?_)
  exact wpAny_pure (q h1 z1 s1)
theorem zlM {z TI TO i1 i2 l1 l2:Addr}{k:Nat}{xs ys:Array Value}{x y:Value}{Q:Option Value->Shared->Prop} (D:ZipApart z TI TO i1 i2 l1 l2) (Z:ZL s.heap z TI TO i1 i2 l1 l2 k xs ys) (e1:xs[k]? = some x) (e2:ys[k]? = some y)
  (q:∀ h',ZL h' z TI TO i1 i2 l1 l2 (k + 1) xs ys->IsPair h' s.heap.objs.size x y->(∀ c o,c≠z->c≠TO->c≠i1->c≠i2->s.heap.get? c = some o->h'.get? c = some o)->Q (some (.ref s.heap.objs.size)) { s with heap:=h' }):
  wpAny (model prog w) A (pyNext (.ref z)) Q E s:=by
 obtain ⟨zz,hI,⟨a,b,hO⟩,j1,j2,L1,L2⟩:=Z
 have lt:∀ {c o},s.heap.get? c = some o->s.heap.objs.size≠c:=fun e=>Nat.ne_of_gt (Heap.lt_size e)
 have n1:s.heap.objs.size≠i1:=by obtain ⟨_,e,_⟩:=j1; exact lt e
 have n2:s.heap.objs.size≠i2:=by obtain ⟨_,e,_⟩:=j2; exact lt e
 rcases zz with hz | ⟨T,o,f,hz,hT,nz,nO,ni1,ni2⟩
 ·refine wpAny_pyNext_zip_item D hz hI hO j1 j2 L1 L2 e1 e2 fun h' a1 a2 a3 a4 a5 a6 a7=>q h' ⟨.inr ⟨_,_,false,a1,a5,lt hz,lt hO,n1,n2⟩,a7 _ _ D.TIz D.TITO D.TIi1 D.TIi2 hI,⟨_,_,a2⟩,a3,a4,L1.at fun o e=>a7 _ o D.l1z D.l1TO D.l1i1 D.l1i2 e,L2.at fun o e=>a7 _ o D.l2z D.l2TO D.l2i1 D.l2i2 e⟩ a5 a7
 ·have ty:s.TypeIs (.ref z) "zip":=⟨_,hz,rfl⟩
  unfold pyNext
  refine wpAny_bind (wpAny_attempt (wpAny_callSpecial?_slot (name:=Str.ofString "__next__") ty F.slot_zip_next (wpAny_call_entry F.slot_zip_next ty F.entry_zip_next ?_ (F.args_zip_next_1 _))))
  show wpAny _ _ (field (.ref z) 2 >>= _) _ _ _; refine wpAny_bind (wpAny_field hz rfl (x:=.bool false) rfl ?_)
  show wpAny _ _ (field (.ref z) 3 >>= _) _ _ _; refine wpAny_bind (wpAny_field hz rfl (x:=.ref TI) rfl ?_)
  refine wpAny_bind (wpAny_seqItems hI rfl ?_)
  show wpAny _ _ (Builtin.SmallTypes.ownedTupleIsFree (.ref z) >>= _) _ _ _
  refine wpAny_bind (zgp hz hT fun h1 z1 s1=>?_)
  simp only [Bool.false_eq_true,if_false]
  refine wpAny_bind ?_
  simp only [List.forIn_toArray,List.forIn_cons,List.forIn_nil]
  refine wpAny_bind (wpAny_bind (wpAny_holding ?_)); show wpAny _ _ (Builtin.SmallTypes.nextOf (.ref i1) >>= _) _ _ _
  refine wpAny_bind (wpAny_nextOf_list_item (j1.extBut s1.extBut D.i1z) (L1.extBut s1.extBut D.l1z) e1 fun h2 j12 s2=>wpAny_pure ?_)
  refine wpAny_pure ?_
  refine wpAny_bind (wpAny_bind (wpAny_holding ?_)); show wpAny _ _ (Builtin.SmallTypes.nextOf (.ref i2) >>= _) _ _ _
  refine wpAny_bind (wpAny_nextOf_list_item ((j2.extBut s1.extBut D.i2z).extBut s2.extBut D.i12.symm) ((L2.extBut s1.extBut D.l2z).extBut s2.extBut D.l2i1) e2 fun h3 j23 s3=>wpAny_pure ?_)
  refine wpAny_pure (wpAny_pure ?_)
  show wpAny _ _ (newTuple [x,y] >>= _) _ _ _
  refine wpAny_bind (wpAny_newTuple ?_)
  have size:h3.objs.size = s.heap.objs.size:=by rw [s3.1,s2.1,s1.1]
  have ke:∀ c o,c≠z->c≠i1->c≠i2->s.heap.get? c = some o->(h3.push { cls:=.type "tuple",data:=.seq #[x,y] }).get? c = some o:=fun c o n1 n2 n3 e=>Heap.get?_push_of_some _ (s3.extBut _ _ n3 (s2.extBut _ _ n2 (s1.extBut _ _ n1 e)))
  have zz:zgo (h3.push { cls:=.type "tuple",data:=.seq #[x,y] }) z TI TO (rawInt T) true:=Heap.get?_push_of_some _ (s3.extBut _ _ D.i2z.symm (s2.extBut _ _ D.i1z.symm z1))
  refine wpAny_pure ⟨_,rfl,wpAny_pure ?_⟩
  show Q (some (.ref h3.objs.size)) _
  have tp:IsPair (h3.push { cls:=.type "tuple",data:=.seq #[x,y] }) h3.objs.size x y:=Heap.get?_push_size _ rfl
  rw [size] at tp ⊢
  refine q _ ⟨.inr ⟨T,o,true,zz,ke T o nz ni1 ni2 hT,nz,nO,ni1,ni2⟩,ke _ _ D.TIz D.TIi1 D.TIi2 hI,⟨_,_,ke _ _ D.TOz D.TOi1 D.TOi2 hO⟩,?_,?_,L1.at fun o e=>ke _ o D.l1z D.l1i1 D.l1i2 e,L2.at fun o e=>ke _ o D.l2z D.l2i1 D.l2i2 e⟩ tp fun c o n1 _ n3 n4 e=>ke c o n1 n3 n4 e
  ·exact (j12.extBut s3.extBut D.i12).at fun o e=>Heap.get?_push_of_some _ e
  ·exact j23.at fun o e=>Heap.get?_push_of_some _ e
theorem zm2 {z TI TO i1 i2 l1 l2:Addr}{k:Nat}{xs ys:Array Value}{Q:Option Value->Shared->Prop} (hh:A.handled = none) (D:ZipApart z TI TO i1 i2 l1 l2) (Z:ZL s.heap z TI TO i1 i2 l1 l2 k xs ys) (he:xs[k]? = none\/ys[k]? = none)
  (q:∀ h',(∀ c o,c≠z->c≠TO->c≠i1->c≠i2->s.heap.get? c = some o->h'.get? c = some o)->Q none { s with heap:=h' }):wpAny (model prog w) A (pyNext (.ref z)) Q E s:=by
 obtain ⟨zz,hI,⟨a,b,hO⟩,j1,j2,L1,L2⟩:=Z
 rcases zz with hz | ⟨T,o,f,hz,hT,nz,nO,ni1,ni2⟩
 ·exact wpAny_pyNext_zip_end hh D hz hI hO j1 j2 L1 L2 he q
 ·have ty:s.TypeIs (.ref z) "zip":=⟨_,hz,rfl⟩
  unfold pyNext
  refine wpAny_bind (wpAny_attempt (wpAny_callSpecial?_slot (name:=Str.ofString "__next__") ty F.slot_zip_next (wpAny_call_entry F.slot_zip_next ty F.entry_zip_next ?_ (F.args_zip_next_1 _))))
  show wpAny _ _ (field (.ref z) 2 >>= _) _ _ _; refine wpAny_bind (wpAny_field hz rfl (x:=.bool false) rfl ?_)
  show wpAny _ _ (field (.ref z) 3 >>= _) _ _ _; refine wpAny_bind (wpAny_field hz rfl (x:=.ref TI) rfl ?_)
  refine wpAny_bind (wpAny_seqItems hI rfl ?_)
  show wpAny _ _ (Builtin.SmallTypes.ownedTupleIsFree (.ref z) >>= _) _ _ _
  refine wpAny_bind (zgp hz hT fun h1 z1 s1=>?_)
  simp only [Bool.false_eq_true,if_false]
  refine wpAny_bind ?_
  simp only [List.forIn_toArray,List.forIn_cons,List.forIn_nil]
  refine wpAny_bind (wpAny_bind (wpAny_holding ?_)); show wpAny _ _ (Builtin.SmallTypes.nextOf (.ref i1) >>= _) _ _ _
  cases hx:xs[k]? with
  | none=>
   refine wpAny_bind (wpAny_nextOf_list_end hh (j1.extBut s1.extBut D.i1z) (L1.extBut s1.extBut D.l1z) hx fun h2 e s2 ee=>?_)
   obtain ⟨oe,ge,ce⟩:=ee
   refine wpAny_bind (wpAny_isInstance (T:="StopIteration") (b:=true) ⟨oe,ge,ce⟩ isSubtype_stop ?_)
   exact wpAny_pure (q _ fun c o n1 _ n3 _ e=>s2 _ _ n3 (s1.extBut _ _ n1 e))
  | some x=>
   have hy:ys[k]? = none:=by rcases he with h | h; rw [hx] at h; cases h; exact h
   refine wpAny_bind (wpAny_nextOf_list_item (j1.extBut s1.extBut D.i1z) (L1.extBut s1.extBut D.l1z) hx fun h2 j12 s2=>wpAny_pure ?_)
   refine wpAny_pure ?_
   refine wpAny_bind (wpAny_bind (wpAny_holding ?_)); show wpAny _ _ (Builtin.SmallTypes.nextOf (.ref i2) >>= _) _ _ _
   refine wpAny_bind (wpAny_nextOf_list_end hh ((j2.extBut s1.extBut D.i2z).extBut s2.extBut D.i12.symm) ((L2.extBut s1.extBut D.l2z).extBut s2.extBut D.l2i1) hy fun h3 e s3 ee=>?_)
   obtain ⟨oe,ge,ce⟩:=ee
   refine wpAny_bind (wpAny_isInstance (T:="StopIteration") (b:=true) ⟨oe,ge,ce⟩ isSubtype_stop ?_)
   exact wpAny_pure (q _ fun c o n1 _ n3 n4 e=>s3 _ _ n4 (s2.extBut _ _ n3 (s1.extBut _ _ n1 e)))
end
def Prs (H:Hp) (xs ys:List V) (ts:List Addr):Prop:=∀ (j:Nat) (t:Addr) (x y:V),ts[j]? = some t->xs[j]? = some x->ys[j]? = some y->H t = some (.tup [x,y])
abbrev ziy (h:Heap) (S:Addr) (acc:Array Value) (c:Nat):Prop:=h.get? S = some { cls:=.type "list",dict:=none,data:=.seq acc c,slots:=#[] }
section
variable {X:Cx}{zp:List (Addr × Obj)}{σ:St}{A:Around}{R:Result->Shared->Prop}{z TI TO i1 i2 l1 l2 S:Addr}{xs ys:List V}{as bs:List Value}
theorem zlN (hh:A.handled = none) (D:ZipApart z TI TO i1 i2 l1 l2) (va:Vals xs as) (vb:Vals ys bs) (hS:S ∉ [z,TI,TO,i1,i2]) (s1:S≠l1) (s2:S≠l2) (res:Value) (hn:xs.length<=sizeLine):
  ∀ (k i:Nat) (s:Shared) (H:Hp) (ts:List Addr) (acc:Array Value) (c:Nat),min xs.length ys.length - i = k->i<=min xs.length ys.length->Inv X zp σ H s->(∀ b∈[S,z,TI,TO,i1,i2],FpOk X zp H b)->
   ZL s.heap z TI TO i1 i2 l1 l2 i as.toArray bs.toArray->ziy s.heap S acc c->acc.toList = ts.map Value.ref->ts.length = i->Prs H xs ys ts->
   (∀ (s':Shared) (H':Hp) (ts':List Addr) (acc':Array Value) (c':Nat),Inv X zp σ H' s'->(∀ b o,H b = some o->H' b = some o)->ziy s'.heap S acc' c'->acc'.toList = ts'.map Value.ref->ts'.length = min xs.length ys.length->Prs H' xs ys ts'->R (.ok (.ret res)) s')->
   codeAny (model X.prog X.w) A (.builtin "list.extend.loop" ⟨[.ref S,.ref z,res],[]⟩) R s:=by
 intro k
 have la:=va.length
 have lb:=vb.length
 induction k with
 | zero=>
  intro i s H ts acc c hk hi I hf Z LS ha hl hp q
  refine codeAny_builtin PySem.F.entry_extend_loop ?_
  rw [Around.under_plainId PySem.F.plain_extend_loop _]
  show wpAny _ A.in1 (pyNext (.ref z) >>= _) _ _ s
  refine wpAny_bind (zm2 hh D Z ?_ fun h' kp=>?_)
  ·rcases Nat.le_total xs.length ys.length with h | h
   ·exact .inl (by simp; omega)
   ·exact .inr (by simp; omega)
  have nS:S≠z/\S≠TO/\S≠i1/\S≠i2:=by simp at hS; exact ⟨hS.1,hS.2.2.1,hS.2.2.2.1,hS.2.2.2.2⟩
  refine wpAny_pure (q _ H ts acc c (I.turnedL (t':=s.toks) (fp:=[S,z,TI,TO,i1,i2]) (fun b o hb e=>kp b o (fun t=>hb (by simp [t])) (fun t=>hb (by simp [t])) (fun t=>hb (by simp [t])) (fun t=>hb (by simp [t])) e) hf) (fun b o e=>e) (kp S _ nS.1 nS.2.1 nS.2.2.1 nS.2.2.2 LS) ha (by omega) hp)
 | succ k ih=>
  intro i s H ts acc c hk hi I hf Z LS ha hl hp q
  refine codeAny_builtin PySem.F.entry_extend_loop ?_
  rw [Around.under_plainId PySem.F.plain_extend_loop _]
  show wpAny _ A.in1 (pyNext (.ref z) >>= _) _ _ s
  have ix:i < xs.length:=by omega
  have iy:i < ys.length:=by omega
  obtain ⟨u,eu,ru⟩:=va.get (List.getElem?_eq_getElem ix)
  obtain ⟨v,ev,rv⟩:=vb.get (List.getElem?_eq_getElem iy)
  have old:∀ b∈[S,z,TI,TO,i1,i2],b < s.heap.objs.size:=fun b hb=>by
   obtain ⟨hz,hI,⟨x,y,hO⟩,⟨o1,g1,_⟩,⟨o2,g2,_⟩,_,_⟩:=id Z
   have hc:b = S\/b = z\/b = TI\/b = TO\/b = i1\/b = i2:=by simpa using hb
   rcases hc with rfl | rfl | rfl | rfl | rfl | rfl
   ·exact Heap.lt_size LS
   ·rcases hz with hz | ⟨_,_,_,hz,_⟩ <;> exact Heap.lt_size hz
   ·exact Heap.lt_size hI
   ·exact Heap.lt_size hO
   ·exact Heap.lt_size g1
   ·exact Heap.lt_size g2
  have nS:S≠z/\S≠TI/\S≠TO/\S≠i1/\S≠i2:=by simp at hS; exact ⟨hS.1,hS.2.1,hS.2.2.1,hS.2.2.2.1,hS.2.2.2.2⟩
  refine wpAny_bind (zlM D Z (x:=u) (y:=v) (by simpa using eu) (by simpa using ev) fun h1 Z1 T1 k1=>?_)
  have LS1:ziy h1 S acc c:=k1 S _ nS.1 nS.2.2.1 nS.2.2.2.1 nS.2.2.2.2 LS
  have sz:acc.size = i:=by rw [← Array.length_toList,ha,List.length_map]; exact hl
  show wpAny _ A.in1 (updateSeq S (·.push (.ref s.heap.objs.size)) >>= _) _ _ _
  refine wpAny_bind ?_
  have I1:Inv X zp σ (upd H s.heap.objs.size (.tup [xs[i],ys[i]])) { s with heap:=s.heap.push { cls:=.type "tuple",data:=.seq #[u,v] },toks:=s.toks }:=
   I.laid (t':=s.toks) (fun b u e=>Heap.get?_push_of_some _ e) (Nat.le_refl _) ⟨zl2,[u,v],.cons ru (.cons rv .nil),⟨_,Heap.get?_push_size _ rfl,rfl,_,rfl⟩⟩
  have hf1:∀ b∈[S,z,TI,TO,i1,i2],FpOk X zp (upd H s.heap.objs.size (.tup [xs[i],ys[i]])) b:=fun b hb=>by
   obtain ⟨f0,f1⟩:=hf b hb
   exact ⟨by rw [zr (Nat.ne_of_lt (old b hb))]; exact f0,f1⟩
  refine wpAny_updateSeq LS1 rfl (wpAny_pure ⟨plainId_quiet PySem.F.plain_extend_loop _,?_⟩) (by rw [sz]; omega) (by show (acc.push (.ref s.heap.objs.size)).size<=sizeLine + 1; rw [Array.size_push,sz]; omega)
  have oth:∀ b o,b≠S->h1.get? b = some o->(h1.update S (Obj.mapSeq (·.push (.ref s.heap.objs.size)))).get? b = some o:=fun b o hb e=>(Heap.get?_update_other _ _ (Ne.symm hb)).trans e
  refine ih (i + 1) _ (upd H s.heap.objs.size (.tup [xs[i],ys[i]])) (ts ++ [s.heap.objs.size]) (acc.push (.ref s.heap.objs.size)) _ (by omega) (by omega) ?_ hf1 ?_ (Heap.get?_update_self _ LS1 rfl) (by simp [ha]) (by simp [hl]) ?_ fun s' H' ts' acc' c' I' sm LS' ha' hl' hp'=>q s' H' ts' acc' c' I' (fun b o e=>sm b o ?_) LS' ha' hl' hp'
  ·refine Inv.turnedL (s:={ s with heap:=s.heap.push { cls:=.type "tuple",data:=.seq #[u,v] },toks:=s.toks }) (t':=s.toks) (fp:=[S,z,TI,TO,i1,i2]) I1 (fun b o hb e=>?_) hf1
   refine oth b o (fun t=>hb (by simp [t])) ?_
   by_cases hcs:b = s.heap.objs.size
   ·subst hcs
    have f1:(s.heap.push { cls:=.type "tuple",data:=.seq #[u,v] }).get? s.heap.objs.size = some { cls:=.type "tuple",data:=.seq #[u,v] }:=Heap.get?_push_size _ rfl
    have e:(s.heap.push { cls:=.type "tuple",data:=.seq #[u,v] }).get? s.heap.objs.size = some o:=e
    rw [f1] at e
    cases e
    exact T1
   ·refine k1 b o (fun t=>hb (by simp [t])) (fun t=>hb (by simp [t])) (fun t=>hb (by simp [t])) (fun t=>hb (by simp [t])) ?_
    have e:(s.heap.push { cls:=.type "tuple",data:=.seq #[u,v] }).get? b = some o:=e
    have hlt:=Heap.lt_size e
    rw [Heap.size_push] at hlt
    exact zd5 e (Nat.lt_of_le_of_ne (Nat.le_of_lt_succ hlt) hcs)
  ·obtain ⟨hz,hI,⟨x,y,hO⟩,j1,j2,L1,L2⟩:=Z1
   have tS:s.heap.objs.size≠S:=Nat.ne_of_gt (old S (by simp))
   refine ⟨?_,oth _ _ nS.2.1.symm hI,⟨x,y,oth _ _ nS.2.2.1.symm hO⟩,j1.at fun o e=>oth _ o nS.2.2.2.1.symm e,j2.at fun o e=>oth _ o nS.2.2.2.2.symm e,L1.at fun o e=>oth _ o s1.symm e,L2.at fun o e=>oth _ o s2.symm e⟩
   rcases hz with hz | ⟨T,o,f,hz,hT,r⟩
   ·exact .inl (oth _ _ nS.1.symm hz)
   ·by_cases hTS:T = S
    ·subst hTS
     exact .inr ⟨T,_,f,oth _ _ nS.1.symm hz,Heap.get?_update_self _ LS1 rfl,r⟩
    ·exact .inr ⟨T,o,f,oth _ _ nS.1.symm hz,oth _ _ hTS hT,r⟩
  ·intro j t x y ej ex ey
   by_cases hj:j < ts.length
   ·rw [List.getElem?_append_left hj] at ej
    have:=hp j t x y ej ex ey
    rw [zr (fun z=>by rw [z,I.fresh] at this; cases this)]
    exact this
   ·have hji:j = i:=by
     have:=(List.getElem?_eq_some_iff.mp ej).1
     simp only [List.length_append,List.length_cons,List.length_nil] at this
     omega
    subst hji
    rw [← hl,List.getElem?_append_right (Nat.le_refl _),Nat.sub_self] at ej
    cases ej
    rw [List.getElem?_eq_getElem ix] at ex
    rw [List.getElem?_eq_getElem iy] at ey
    cases ex
    cases ey
    exact zh
  ·rw [zr (fun z=>by rw [z,I.fresh] at e; cases e)]
   exact e
end
abbrev nl (h:Heap):Heap:=h.push { cls:=.type "list",data:=.seq ([]:List Value).toArray }
theorem zg6:typeLookup (.type "zip") "__len__" = pure none:=by rw [typeLookup_type,builtinLookup_eq_fast]; kernel_rfl
theorem zfC:typeLookup (.type "zip") "__length_hint__" = pure none:=by rw [typeLookup_type,builtinLookup_eq_fast]; kernel_rfl
section
variable {X:Cx}{zp:List (Addr × Obj)}{σ:St}{A:Around}{E:Value->Shared->Prop}{s:Shared}{H:Hp}{z TI TO i1 i2 l1 l2:Addr}{xs ys:List V}{as bs:List Value}
theorem ZL.ty {s:Shared}{k:Nat}{xs ys:Array Value} (Z:ZL s.heap z TI TO i1 i2 l1 l2 k xs ys):s.TypeIs (.ref z) "zip":=by
 rcases Z.zip with h | ⟨_,_,_,h,_⟩ <;> exact ⟨_,h,rfl⟩
theorem ZL.old {h:Heap}{k:Nat}{xs ys:Array Value} (Z:ZL h z TI TO i1 i2 l1 l2 k xs ys):∀ b∈[z,TI,TO,i1,i2,l1,l2],b < h.objs.size:=fun b hb=>by
 obtain ⟨hz,hI,⟨x,y,hO⟩,⟨o1,g1,_⟩,⟨o2,g2,_⟩,⟨o3,g3,_⟩,⟨o4,g4,_⟩⟩:=Z
 have hc:b = z\/b = TI\/b = TO\/b = i1\/b = i2\/b = l1\/b = l2:=by simpa using hb
 rcases hc with rfl | rfl | rfl | rfl | rfl | rfl | rfl
 ·rcases hz with hz | ⟨_,_,_,hz,_⟩ <;> exact Heap.lt_size hz
 ·exact Heap.lt_size hI
 ·exact Heap.lt_size hO
 ·exact Heap.lt_size g1
 ·exact Heap.lt_size g2
 ·exact Heap.lt_size ‹_›
 ·exact Heap.lt_size ‹_›
theorem ZL.keep {h h':Heap}{k:Nat}{xs ys:Array Value} (Z:ZL h z TI TO i1 i2 l1 l2 k xs ys) (e:∀ b o,h.get? b = some o->h'.get? b = some o):ZL h' z TI TO i1 i2 l1 l2 k xs ys:=by
 obtain ⟨hz,hI,⟨x,y,hO⟩,j1,j2,L1,L2⟩:=Z
 refine ⟨?_,e _ _ hI,⟨x,y,e _ _ hO⟩,j1.at fun o q=>e _ o q,j2.at fun o q=>e _ o q,L1.at fun o q=>e _ o q,L2.at fun o q=>e _ o q⟩
 rcases hz with hz | ⟨T,o,f,hz,hT,r⟩
 ·exact .inl (e _ _ hz)
 ·exact .inr ⟨T,o,f,e _ _ hz,e _ _ hT,r⟩
def ZQ (X:Cx) (zp:List (Addr × Obj)) (σ:St) (H:Hp) (xs ys:List V) (H':Hp) (ts:List Addr) (s':Shared):Prop:=
 Inv X zp σ H' s'/\(∀ b o,H b = some o->H' b = some o)/\ts.length = min xs.length ys.length/\Prs H' xs ys ts
theorem zfD {Q:List Value->Shared->Prop} (hh:A.handled = none) (D:ZipApart z TI TO i1 i2 l1 l2) (va:Vals xs as) (vb:Vals ys bs) (hn:xs.length<=sizeLine) (I:Inv X zp σ H s) (hf:∀ b∈[z,TI,TO,i1,i2],FpOk X zp H b)
  (Z:ZL s.heap z TI TO i1 i2 l1 l2 0 as.toArray bs.toArray) (q:∀ (H':Hp) (ts:List Addr) (s':Shared),ZQ X zp σ H xs ys H' ts s'->Q (ts.map Value.ref) s'):wpAny (model X.prog X.w) A (collect (.ref z)) Q E s:=by
 have old:=Z.old
 have hSI:s.heap.objs.size≠z:=Nat.ne_of_gt (old z (by simp))
 unfold collect
 refine wpAny_bind (wpAny_runValue (codeAny_builtin PySem.F.entry_proto_collect ?_))
 rw [Around.under_plainId PySem.F.plain_proto_collect _]
 show wpAny _ A.in1 (newList [] >>= fun l=>again (.builtin "list.__iadd__" ⟨[l,.ref z],[]⟩)) _ _ s
 refine wpAny_bind (wpAny_newObj_type ?_)
 refine wpAny_pure ⟨plainId_quiet PySem.F.plain_list_iadd _,codeAny_builtin PySem.F.entry_list_iadd ?_⟩
 rw [Around.under_plainId PySem.F.plain_list_iadd _]
 have Z1:ZL (nl s.heap) z TI TO i1 i2 l1 l2 0 as.toArray bs.toArray:=Z.keep fun b o e=>Heap.get?_push_of_some _ e
 have ty:Shared.TypeIs { s with heap:=nl s.heap } (.ref z) "zip":=ZL.ty (s:={ s with heap:=nl s.heap }) Z1
 show wpAny _ A.in1 (Builtin.List.listExtendWith (.ref s.heap.objs.size) (.ref z) (.ref s.heap.objs.size)) _ _ _
 unfold Builtin.List.listExtendWith
 refine wpAny_bind (wpAny_typeOf ty ?_)
 have d1:Builtin.List.listSameRef (.ref s.heap.objs.size) (.ref z) = false:=by simp [Builtin.List.listSameRef,hSI]
 have d2:(Value.type "zip" == Value.type "list") = false:=by decide
 have d3:(Value.type "zip" == Value.type "tuple") = false:=by decide
 simp only [d1,d2,d3,Bool.or_false,Bool.false_eq_true,if_false]
 have self:∀ {Q':Value->Shared->Prop}{E':Value->Shared->Prop}{A':Around},Q' (.ref z) { s with heap:=nl s.heap }->wpAny (model X.prog X.w) A' (pyIter (.ref z)) Q' E' { s with heap:=nl s.heap }:=fun h=>by
  refine wpAny_pyIter_slot ty F.slot_zip_iter (wpAny_call_entry F.slot_zip_iter ty F.entry_zip_iter ?_ (F.args_zip_iter_1 _))
  show wpAny _ _ (ret (.ref z)) _ _ _
  exact wpAny_pure ⟨_,rfl,"zip",_,ty,F.slot_zip_next.lookup,h⟩
 refine wpAny_bind (self ?_)
 refine wpAny_bind (wpAny_holding ?_)
 unfold Builtin.List.listLengthHint
 refine wpAny_bind (wpAny_specialOf ty zg6 ?_)
 show wpAny _ A.in1 (specialOf (Value.ref z) (Str.ofString "__length_hint__") >>= _) _ _ _
 refine wpAny_bind (wpAny_specialOf ty zfC ?_)
 refine wpAny_pure ?_
 show wpAny _ A.in1 (rule "list.extend.makes-room" >>= fun _=>Builtin.List.listTouch (.ref s.heap.objs.size) >>= fun _=>
  again (.builtin "list.extend.loop" ⟨[.ref s.heap.objs.size,.ref z,.ref s.heap.objs.size],[]⟩)) _ _ _
 refine wpAny_bind (wpAny_rule ?_)
 have g1:(nl s.heap).get? s.heap.objs.size = some { cls:=.type "list",data:=.seq ([]:List Value).toArray }:=Heap.get?_push_size _ rfl
 refine wpAny_bind ?_
 show wpAny _ A.in1 (updateSeq s.heap.objs.size (·.push .none) >>= fun _=>updateSeq s.heap.objs.size (·.pop)) _ _ _
 refine wpAny_bind (wpAny_updateSeq g1 rfl ?_)
 have g2:=Heap.get?_update_self (Obj.mapSeq (·.push Value.none)) g1 rfl
 refine wpAny_updateSeq g2 rfl ?_
 have g3:=Heap.get?_update_self (Obj.mapSeq (·.pop)) g2 rfl
 have kp:∀ b o,s.heap.get? b = some o->
   (((nl s.heap).update s.heap.objs.size (Obj.mapSeq (·.push Value.none))).update s.heap.objs.size (Obj.mapSeq (·.pop))).get? b = some o:=
  fun b o e=>(Heap.get?_update_other _ _ (Nat.ne_of_gt (Heap.lt_size e))).trans ((Heap.get?_update_other _ _ (Nat.ne_of_gt (Heap.lt_size e))).trans (Heap.get?_push_of_some _ e))
 refine wpAny_pure ⟨plainId_quiet PySem.F.plain_extend_loop _,zlN (X:=X) (zp:=zp) (σ:=σ) (xs:=xs) (ys:=ys) hh D va vb (S:=s.heap.objs.size) (fun hm=>?_) (Nat.ne_of_gt (old l1 (by simp))) (Nat.ne_of_gt (old l2 (by simp))) _ hn _ 0 _ H [] _ _ rfl (Nat.zero_le _) (I.kept (t':=s.toks) kp) (fun b hb=>?_) (Z.keep kp) g3 rfl rfl (fun j t x y e=>by simp at e) fun s' H' ts' acc' c' I' sm LS' ha' hl' hp'=>?_⟩
 ·have:=old s.heap.objs.size (by simp at hm ⊢; rcases hm with h | h | h | h | h <;> simp [h])
  exact absurd this (Nat.lt_irrefl _)
 ·rcases List.mem_cons.mp hb with rfl | hb
  ·exact I.fpOk (Nat.le_refl _) I.fresh
  ·exact hf b hb
 show wpAny _ A (load s.heap.objs.size >>= _) _ _ s'
 refine wpAny_bind (wpAny_load LS' ?_)
 refine wpAny_pure ?_
 show Q acc'.toList s'
 rw [ha']
 exact q H' ts' s' ⟨I',sm,hl',hp'⟩
end
section
variable {X:Cx}{zp:List (Addr × Obj)}{σ:St}{A:Around}{E:Value->Shared->Prop}{s:Shared}{H:Hp}{z TI TO i1 i2 l1 l2:Addr}{xs ys:List V}{as bs:List Value}
theorem zeQ:∀ ts:List Addr,Vals (ts.map V.ref) (ts.map Value.ref)
 | []=>.nil
 | _ :: ts=>.cons rfl (zeQ ts)
def ZT2 (X:Cx) (zp:List (Addr × Obj)) (σ:St) (H:Hp) (xs ys:List V) (v:Value) (s':Shared):Prop:=
 ∃ (H2:Hp) (ts:List Addr) (t:Addr),v = .ref t/\Inv X zp σ H2 s'/\Same H H2/\H t = none/\ts.length = min xs.length ys.length/\Prs H2 xs ys ts/\H2 t = some (.tup (ts.map V.ref))
theorem zdf {Q₁:Value->Shared->Prop} (hh:A.handled = none) (D:ZipApart z TI TO i1 i2 l1 l2) (va:Vals xs as) (vb:Vals ys bs) (hn:xs.length<=sizeLine) (I:Inv X zp σ H s) (hf:∀ b∈[z,TI,TO,i1,i2],FpOk X zp H b)
  (Z:ZL s.heap z TI TO i1 i2 l1 l2 0 as.toArray bs.toArray) (q:∀ v s',s'.TypeIs v "tuple"->ZT2 X zp σ H xs ys v s'->Q₁ v s'):
  codeAny (model X.prog X.w) A (.call (.builtin "tuple.__new__") ⟨[.type "tuple",.ref z],[]⟩) (wants Q₁ E) s:=by
 refine codeAny_of_tree ?_
 show wpAny _ A.in1 (do checkBuiltinCall "tuple.__new__" ⟨[.type "tuple",.ref z],[]⟩; again (.builtin "tuple.__new__" ⟨[.type "tuple",.ref z],[]⟩)) _ _ s
 refine wpAny_bind (wpAny_of_eq (F.newCall_tuple_1 _) (wpAny_pure ⟨plainId_quiet F.plain_tuple_new _,codeAny_builtin F.entry_tuple_new ?_⟩))
 rw [Around.under_plainId F.plain_tuple_new _]
 have hsub:=sub_tuple_self
 have hinit:=init_tuple_lookup
 have hmh:=madeHere_tuple
 have hTI:=Z.ty
 have hcol:∀ {Q:List Value->Shared->Prop}{E:Value->Shared->Prop},(∀ (H':Hp) (ts:List Addr) (s':Shared),ZQ X zp σ H xs ys H' ts s'->Q (ts.map Value.ref) s')->wpAny (model X.prog X.w) A.in1 (collect (.ref z)) Q E s:=fun {Q E} q=>zfD (A:=A.in1) (by simpa using hh) D va vb hn I hf Z q
 wp_walk using wpAny_typeOf hTI,hcol
 intro H1 ts s1 h
 obtain ⟨I1,sm,hl,hp⟩:=h
 show wpAny _ _ (Builtin.Tuple.tupleExact (ts.map Value.ref).toArray >>= fun v=>ret v) _ _ _
 unfold Builtin.Tuple.tupleExact
 have hle:ts.length<=sizeLine:=by rw [hl]; exact Nat.le_trans (Nat.min_le_left ..) hn
 refine wpAny_bind (wpAny_newObj_type ?_ (by show (ts.map Value.ref).toArray.size<=sizeLine; simpa using hle))
 refine wpAny_pure ?_
 have I2:Inv X zp σ (upd H1 s1.heap.objs.size (.tup (ts.map V.ref))) { s1 with heap:=s1.heap.push { cls:=.type "tuple",data:=.seq (ts.map Value.ref).toArray },toks:=s1.toks }:=
  I1.laid (t':=s1.toks) (fun b u e=>Heap.get?_push_of_some _ e) (Nat.le_refl _) ⟨by simpa using hle,_,zeQ ts,⟨_,Heap.get?_push_size _ rfl,rfl,_,rfl⟩⟩
 have fr:=I1.fresh
 have up:Same H1 (upd H1 s1.heap.objs.size (.tup (ts.map V.ref))):=fun b o e=>by rw [zr (fun z=>by rw [z,fr] at e; cases e)]; exact e
 exact q _ _ ⟨_,Heap.get?_push_size _ rfl,rfl⟩ ⟨_,ts,_,rfl,I2,Same.trans sm up,Same.free sm fr,hl,fun j t x y e1 e2 e3=>up _ _ (hp j t x y e1 e2 e3),zh⟩
theorem zdg {Q:Value->Shared->Prop} (hh:A.handled = none) (D:ZipApart z TI TO i1 i2 l1 l2) (va:Vals xs as) (vb:Vals ys bs) (hn:xs.length<=sizeLine) (I:Inv X zp σ H s) (hf:∀ b∈[z,TI,TO,i1,i2],FpOk X zp H b)
  (Z:ZL s.heap z TI TO i1 i2 l1 l2 0 as.toArray bs.toArray) (q:∀ v s',ZT2 X zp σ H xs ys v s'->Q v s'):wpAny (model X.prog X.w) A (call (.type "tuple") [.ref z]) Q E s:=by
 refine callType_codes (Q₁:=fun obj s₁=>s₁.TypeIs obj "tuple"/\Q obj s₁) F.called_tuple (F.typeCall_tuple_1 _) F.entry_object_init
  (zdf (by simpa using hh) D va vb hn I hf Z fun v s' ty h=>⟨ty,q v s' h⟩) fun obj s₁ h₁=>?_
 exact ⟨h₁.1,F.args_object_init_2 obj _,object_init_meets F.called_tuple.init.lookup F.called_tuple.made (by decide) X.prog X.w A.in1 _ s₁ ⟨h₁.1,rfl,h₁.2⟩⟩
end
def tTZ (K:PySem.W.Frag) (ta:TA):TE:=fun σ H Q=>ta σ H fun vs H1=>∃ (a b:Addr) (xs ys:List V),vs = [.ref a,.ref b]/\SqL K H1 a xs/\SqL K H1 b ys /\
 ∀ (ts:List Addr) (t:Addr) (H2:Hp),Same H1 H2->H1 t = none->ts.length = min xs.length ys.length->Prs H2 xs ys ts->H2 t = some (.tup (ts.map V.ref))->Q (.ref t) H2
theorem zfE {X:Cx}{a b:Expr}{ta:TA}{p p2 pos pos2:Pos} (hc:X.calm = true) (hg:Gl X "zip") (hm:X.mg "zip" = none) (hgt:Gl X "tuple") (hmt:X.mg "tuple" = none) (ha:PA X [a,b] ta) (hs:starEach [a,b] X.env = (false,eval a X.env) :: starEach [b] X.env:=by rfl)
  (hpl:(backTo pos2 (starEach [b] X.env)).any (·.1) = false:=by rfl) (hs2:starEach [.Call (.Name "zip" p2) [a,b] [] pos2] X.env = (false,eval (.Call (.Name "zip" p2) [a,b] [] pos2) X.env) :: starEach [] X.env:=by rfl) (hpl2:(backTo pos (starEach [] X.env)).any (·.1) = false:=by rfl):
  PE X (.Call (.Name "tuple" p) [.Call (.Name "zip" p2) [a,b] [] pos2] [] pos) (tTZ X.K ta):=by
 intro zp s σ H Q I h
 refine wpAny_Call_Name_kw (zbX I hgt hmt zI (PyProof.Rows.callWith_type1 ?_ hs2 hpl2))
 rw [hs2]
 show wpAny _ _ (spliced ((false,eval (.Call (.Name "zip" p2) [a,b] [] pos2) X.env) :: backTo pos (starEach [] X.env))) _ _ s
 refine Calls.spliced_cons ?_
 refine wpAny_Call_Name_kw (zbX I hg hm zgn (PyProof.Rows.callWith_type1 (thn (ha pos2 zp s σ H _ I h) fun us s1 ⟨vs,H1,I1,r1,q1⟩=>?_) hs hpl))
 obtain ⟨c,d,xs,ys,e,q2,q3,q⟩:=q1
 subst e
 obtain ⟨u,u',rfl,rx,ry⟩:=zgL r1
 cases rx
 cases ry
 obtain ⟨as,r2,p1,hz1⟩:=I1.list q2
 obtain ⟨bs,r3,p2,hz2⟩:=I1.list q3
 obtain ⟨oc,_,gc,_⟩:=id p1
 obtain ⟨od,_,gd,_⟩:=id p2
 refine call_zip_2 p1.isList p2.isList fun h' z1 z2 z3 z4 z5 z6 hk=>?_
 have I2:Inv X zp σ H1 { s1 with heap:=h',toks:=s1.toks }:=I1.kept (t':=s1.toks) hk
 refine Calls.spliced_nil ?_
 have fp:∀ b∈[s1.heap.objs.size + 4,s1.heap.objs.size + 2,s1.heap.objs.size + 3,s1.heap.objs.size,s1.heap.objs.size + 1],FpOk X zp H1 b:=fun e he=>by
  have hle:s1.heap.objs.size<=e:=by
   have hc:e = s1.heap.objs.size + 4\/e = s1.heap.objs.size + 2\/e = s1.heap.objs.size + 3\/e = s1.heap.objs.size\/e = s1.heap.objs.size + 1:=by simpa using he
   rcases hc with r | r | r | r | r <;> rw [r] <;> first | exact Nat.le_refl _ | exact Nat.le_add_right _ _
  exact I1.fpOk hle (I1.hok.fresh hle)
 refine zdg (X:=X) (zp:=zp) (σ:=σ) (H:=H1) (I.ok.hd hc) (zipApart_new (Heap.lt_size gc) (Heap.lt_size gd)) r2 r3 hz1 I2 fp ⟨.inl z1,z2,⟨_,_,z3⟩,z4,z5,p1.isList.at fun o e=>hk _ o e,p2.isList.at fun o e=>hk _ o e⟩ fun v s' hz=>?_
 obtain ⟨H2,ts,t,rfl,I3,sm,fr,hl,hp,et⟩:=hz
 exact ⟨.ref t,H2,I3,rfl,q ts t H2 sm fr hl hp et⟩
end L2
namespace D
open PySem L2
theorem zfE {X:Cx}{a b:Expr}{ta:TA}{p p2 pos pos2:Pos} (hc:X.calm = true) (hg:Gl X "zip") (hm:X.mg "zip" = none) (hgt:Gl X "tuple") (hmt:X.mg "tuple" = none) (ha:QA X [a,b] ta) (hs:starEach [a,b] X.env = (false,eval a X.env) :: starEach [b] X.env:=by rfl)
  (hpl:(backTo pos2 (starEach [b] X.env)).any (·.1) = false:=by rfl) (hs2:starEach [.Call (.Name "zip" p2) [a,b] [] pos2] X.env = (false,eval (.Call (.Name "zip" p2) [a,b] [] pos2) X.env) :: starEach [] X.env:=by rfl) (hpl2:(backTo pos (starEach [] X.env)).any (·.1) = false:=by rfl):
  QE X (.Call (.Name "tuple" p) [.Call (.Name "zip" p2) [a,b] [] pos2] [] pos) (tTZ X.K ta):=⟨L2.zfE hc hg hm hgt hmt ha.un hs hpl hs2 hpl2⟩
end D
namespace L2
open PySem PySem.Spec PyProof.Rows
def txOf:Value->Str
 | .str z _=>z
 | _=>Str.ofString ""
section
variable {P:Program}{w:World}{A:Around}{E:Value->Shared->Prop}
end
section
variable {P:Program}{w:World}{A:Around}{E:Value->Shared->Prop}
set_option maxHeartbeats 8000000 in
end
section
variable {P:Program}{w:World}{A:Around}{E:Value->Shared->Prop}
end
section
variable {P:Program}{w:World}{A:Around}{E:Value->Shared->Prop}
end
theorem zg7 (v:Value) (h:∃ z tk,v = .str z tk):txOf v = strOf v:=by
 obtain ⟨z,tk,rfl⟩:=h
 rfl
section
variable {P:Program}{w:World}{A:Around}{E:Value->Shared->Prop}
abbrev lO (xs:Array Value) (c:Nat):Obj:={ cls:=.type "list",dict:=none,data:=.seq xs c,slots:=#[] }
theorem zfF {s:Shared}{a:Addr}{T:String}{oa:Obj}{n:Nat}{Gd:(Nat->Value->Prop)->Prop}{R:List Value->Shared->Prop} (hoa:s.heap.get? a = some oa) (hca:oa.cls = .type T) (hT2:(Value.type T == .type "list" || Value.type T == .type "tuple") = false) (hn1:n<=sizeLine)
  (hnt:∀ (s1:Shared) (Q:Bool->Shared->Prop) (E:Value->Shared->Prop),s1.TypeIs (.ref a) T->Q false s1->wpAny (model P w) A.in1 (Builtin.List.listLengthHint (.ref a)) Q E s1)
  (it:∀ (Q:Value->Shared->Prop) (E:Value->Shared->Prop),(∀ (I:Addr) (fp:List Addr) (h1:Heap) (d1:Drawn) (St:Nat->Heap->Prop) (Pi:Nat->Value->Prop),Gd Pi->(∀ b o,(s.heap.push (lO #[] 0)).get? b = some o->h1.get? b = some o)->s.heap.objs.size < I->s.heap.objs.size ∉ fp->Walks P w A.in1 I fp [I] n Pi St->St 0 h1->Q (.ref I) { s with heap:=h1,drawn:=d1 })->wpAny (model P w) A.in1 (pyIter (.ref a)) Q E { s with heap:=s.heap.push (lO #[] 0) })
  (h:∀ (h':Heap) (tk:Nat) (d':Drawn) (acc:Array Value) (Pi:Nat->Value->Prop),Gd Pi->(∀ b o,s.heap.get? b = some o->h'.get? b = some o)->s.heap.objs.size<=h'.objs.size->ItemsOf Pi acc n->R acc.toList { s with heap:=h',toks:=tk,drawn:=d' }):
  wpAny (model P w) A (collect (.ref a)) R E s:=by
 have haS:a≠s.heap.objs.size:=Nat.ne_of_lt (Heap.lt_size hoa)
 unfold collect
 refine wpAny_bind (wpAny_runValue (codeAny_builtin entry_proto_collect' ?_))
 rw [Around.under_plainId PySem.F.plain_proto_collect _]
 refine (show wpAny _ A.in1 (newList [] >>= fun l=>again (.builtin "list.__iadd__" ⟨[l,.ref a],[]⟩)) _ _ s from wpAny_bind (wpAny_newObj_type (wpAny_pure ⟨plainId_quiet PySem.F.plain_list_iadd _,codeAny_builtin entry_list_iadd' ?_⟩)))
 rw [Around.under_plainId PySem.F.plain_list_iadd _]
 have kp0:∀ b o,s.heap.get? b = some o->(s.heap.push (lO #[] 0)).get? b = some o:=fun b o e=>Heap.get?_push_of_some _ e
 have gS:(s.heap.push (lO #[] 0)).get? s.heap.objs.size = some (lO #[] 0):=Heap.get?_push_size _ rfl
 have hT1:Shared.TypeIs { s with heap:=s.heap.push (lO #[] 0) } (.ref a) T:=⟨oa,kp0 a _ hoa,hca⟩
 refine (show wpAny _ A.in1 (Builtin.List.listExtendWith (.ref s.heap.objs.size) (.ref a) (.ref s.heap.objs.size)) _ _ { s with heap:=s.heap.push (lO #[] 0) } from ?_)
 unfold Builtin.List.listExtendWith
 refine wpAny_bind (wpAny_typeOf hT1 ?_)
 have h1:Builtin.List.listSameRef (.ref s.heap.objs.size) (.ref a) = false:=by simp [Builtin.List.listSameRef,haS.symm]
 rw [if_neg (by rw [h1,Bool.false_or,hT2]; exact Bool.false_ne_true)]
 refine wpAny_bind (it _ _ fun I fp h1 d1 St Pi hgd kp hI hSf Wk0 st=>?_)
 have kp1:∀ b o,s.heap.get? b = some o->h1.get? b = some o:=fun b o e=>kp b o (kp0 b o e)
 have hI':s.heap.objs.size<=I:=Nat.le_of_lt hI
 refine wpAny_bind (wpAny_holding (hnt _ _ _ ⟨oa,kp1 a _ hoa,hca⟩ ?_))
 have gS1:=kp _ _ gS
 have loop:∀ (h2:Heap) (c:Nat),St 0 h2->(∀ b o,b≠s.heap.objs.size->h1.get? b = some o->h2.get? b = some o)->h2.get? s.heap.objs.size = some (lO #[] c)->
   codeAny (model P w) A (.builtin "list.extend.loop" ⟨[.ref s.heap.objs.size,.ref I,.ref s.heap.objs.size],[]⟩) (fun q s'=>∃ (h':Heap) (tk:Nat) (acc:Array Value) (c':Nat),q = .ok (.ret (.ref s.heap.objs.size))/\s' = { s with heap:=h',toks:=tk,drawn:=d1 }/\(∀ b o,s.heap.get? b = some o->h'.get? b = some o)/\h'.get? s.heap.objs.size = some (lO acc c')/\ItemsOf Pi acc n) { s with heap:=h2,drawn:=d1 }:=fun h2 c st2 k2 g2=>by
  refine codeAny_extend_loopS Wk0.toS hn1 s.heap.objs.size hSf (.ref s.heap.objs.size) n 0 { s with heap:=h2,drawn:=d1 } #[] c rfl (Nat.zero_le _) st2 g2 (ItemsOf.nil _) fun s' acc' c' hm gS' hacc=>?_
  obtain ⟨h',g',d',tk',os'⟩:=s'
  have eg:g' = s.gens:=hm.gens
  have ed:d' = d1:=hm.drawn
  have eo:os' = s.os:=hm.os
  subst eg ed eo
  refine ⟨h',tk',acc',c',rfl,rfl,fun b o e=>?_,gS',hacc⟩
  have hb:b < s.heap.objs.size:=Heap.lt_size e
  refine hm.heap b o (fun z=>?_) (k2 b o (Nat.ne_of_lt hb) (kp1 b o e))
  rcases List.mem_cons.mp z with z | z
  ·exact absurd z (Nat.ne_of_lt hb)
  ·exact absurd (List.mem_singleton.mp z) (Nat.ne_of_lt (Nat.lt_of_lt_of_le hb hI'))
 refine wpAny_ite_split (fun _=>?_) (fun _=>?_)
 ·refine wpAny_bind (wpAny_rule (wpAny_bind ?_))
  refine (show wpAny _ _ (updateSeq s.heap.objs.size (·.push .none) >>= fun _=>updateSeq s.heap.objs.size (·.pop)) _ _ _ from wpAny_bind (wpAny_updateSeq gS1 rfl ?_))
  have gS2:=Heap.get?_update_self (Obj.mapSeq (·.push Value.none)) gS1 rfl
  refine wpAny_updateSeq (hz:=by seq_fits) gS2 rfl ?_
  have gS3:=Heap.get?_update_self (Obj.mapSeq (·.pop)) gS2 rfl
  have oth:∀ b o,b≠s.heap.objs.size->h1.get? b = some o->((h1.update s.heap.objs.size (Obj.mapSeq (·.push Value.none))).update s.heap.objs.size (Obj.mapSeq (·.pop))).get? b = some o:=fun b o hb e=>(Heap.get?_update_other _ _ (Ne.symm hb)).trans ((Heap.get?_update_other _ _ (Ne.symm hb)).trans e)
  have st3:=Wk0.frame 0 h1 _ st fun b hb o e=>oth b o (fun z=>hSf (z ▸ hb)) e
  refine wpAny_pure ⟨plainId_quiet PySem.F.plain_extend_loop _,codeAny_mono (loop _ _ st3 oth gS3) fun q s2 y=>?_⟩
  obtain ⟨h',tk,acc,c',rfl,rfl,hk,hS',hacc⟩:=y
  exact (show wpAny _ A (load s.heap.objs.size >>= _) _ _ _ from wpAny_bind (wpAny_load hS' (wpAny_pure (h h' tk d1 acc Pi hgd hk (Nat.le_of_lt (Heap.lt_size hS')) hacc))))
 ·refine wpAny_pure ⟨plainId_quiet PySem.F.plain_extend_loop _,codeAny_mono (loop _ _ st (fun _ _ _ e=>e) gS1) fun q s2 y=>?_⟩
  obtain ⟨h',tk,acc,c',rfl,rfl,hk,hS',hacc⟩:=y
  exact (show wpAny _ A (load s.heap.objs.size >>= _) _ _ _ from wpAny_bind (wpAny_load hS' (wpAny_pure (h h' tk d1 acc Pi hgd hk (Nat.le_of_lt (Heap.lt_size hS')) hacc))))
theorem zeR {s:Shared}{a:Addr}{vs:List (Key × Value)}{ds:List Str}{R:List Value->Shared->Prop} (hh:A.handled = none) (lo:(a == sysModules) = false) (hD:s.heap.DictOf (zR P w) a vs) (hk:vs.map (·.1) = ds.map Sum.inr) (hn:ds.length<=1000)
  (h:∀ (h':Heap) (tk:Nat) (d':Drawn) (us:List Value),(∀ b o,s.heap.get? b = some o->h'.get? b = some o)->s.heap.objs.size<=h'.objs.size->(∀ v∈us,∃ z tk,v = .str z tk)->(us.map txOf).Perm ds->R us { s with heap:=h',toks:=tk,drawn:=d' }):
  wpAny (model P w) A (collect (.ref a)) R E s:=by
 obtain ⟨oa,hoa,hca⟩:=hD.typeIs (s:=s)
 obtain ⟨ep,hat⟩:=hD.dictAt
 have haS:a < s.heap.objs.size:=Heap.lt_size hoa
 have sz:(s.heap.push (lO #[] 0)).objs.size = s.heap.objs.size + 1:=Heap.size_push ..
 have hh2:A.in1.handled = none:=by simpa using hh
 have hl:vs.length = ds.length:=by have:=congrArg List.length hk; simpa using this
 refine zfF (n:=vs.length) (Gd:=fun Pi=>Pi = fun i v=>∃ k x,vs[i]? = some (k,x)/\(zR P w).is k v = true) hoa hca (by decide) (Nat.le_trans (by rw [hl]; exact hn) (by decide)) (fun s1 Q E hT q=>PySem.W.kdl_hint_dict hT q) (fun Q E q=>?_) fun h' tk d' acc Pi hgd kp hle hacc=>?_
 ·have Wk:=Walks.dictKeys (prog:=P) (w:=w) (A:=A.in1) (knd:=zR P w) hh2 (s.heap.push (lO #[] 0)).objs.size a (Nat.ne_of_lt (by rw [sz]; exact Nat.lt_succ_of_lt haS)) vs ep
  have hat1:=hat.push (lO #[] 0)
  refine wpAny_pyIter_dict (s:={ s with heap:=s.heap.push (lO #[] 0) }) lo hat1 (q _ _ _ s.drawn _ _ rfl (fun b o e=>Heap.get?_push_of_some _ e) (by rw [sz]; exact Nat.lt_succ_self _) (fun z=>?_) Wk ⟨⟨_,Heap.get?_push_size _ rfl,rfl,rfl⟩,hat1.push _⟩)
  rcases List.mem_cons.mp z with z | z
  ·rw [sz] at z
   exact absurd z (Nat.ne_of_lt (Nat.lt_succ_self _))
  ·exact absurd (List.mem_singleton.mp z).symm (Nat.ne_of_lt haS)
 ·subst hgd
  have all:∀ (k:Nat) (hk':k < acc.size),∃ tk,acc[k] = .str (ds[k]'(by rw [← hl,← hacc.1]; exact hk')) tk:=fun k hk'=>by
   obtain ⟨key,x,e1,e2⟩:=hacc.2 k acc[k] (Array.getElem?_eq_getElem hk')
   have:(vs.map (·.1))[k]? = some key:=by rw [List.getElem?_map,e1]; rfl
   rw [hk,List.getElem?_map,List.getElem?_eq_getElem (by rw [← hl,← hacc.1]; exact hk')] at this
   cases this
   rw [zdl] at e2
   rcases zU e2 with ⟨i,t,e,_⟩ | ⟨y,t,e,e3⟩
   ·cases e
   ·cases e
    exact ⟨t,e3⟩
  refine h h' tk d' acc.toList kp hle (fun v hv=>?_) (.of_eq ?_)
  ·obtain ⟨k,hk',rfl⟩:=List.getElem_of_mem hv
   obtain ⟨t,e⟩:=all k (by simpa using hk')
   exact ⟨_,t,by simpa using e⟩
  ·apply List.ext_getElem
   ·rw [List.length_map,Array.length_toList,hacc.1,hl]
   ·intro k h1 h2
    obtain ⟨t,e⟩:=all k (by simpa using h1)
    rw [List.getElem_map,Array.getElem_toList,e]
    rfl
theorem zlO {s:Shared}{D:Addr}{vs:List Value}{n:Nat}{Q:Value->Shared->Prop} (ho:s.heap.get? D = some (seqObj "list" vs.toArray n)) (hv:∀ v∈vs,∃ z tk,v = .str z tk) (h64:vs.length < 64)
  (h:∀ (h':Heap) (out:List Value) (ss:List Str) (e:Nat),(∀ b o,b≠D->s.heap.get? b = some o->h'.get? b = some o)->h'.get? D = some (seqObj "list" out.toArray e)->StrsAre out ss->ss.Perm (vs.map txOf)->sortedS ss = true->Q .none { s with heap:=h' }):
  wpAny (model P w) A (call (.builtin "list.sort") [.ref D]) Q E s:=by
 have hS:=strsAre_map vs fun v hm=>hv v hm
 have hm:vs.map strOf = vs.map txOf:=List.map_congr_left fun v hm=>(zg7 v (hv v hm)).symm
 refine wpAny_call_entry slot_list_sort ⟨_,ho,rfl⟩ entry_list_sort (list_sort_treeK strKind_oneLt ho hS.keysOf (fun v₁ v₂ rest e=>keyKind_strs (by rw [← e]; exact hS)) h64 fun st' hp hs=>⟨_,rfl,?_⟩) (args_list_sort _)
 obtain ⟨ss',h1,h2,h3⟩:=sorted_out_str hS hp hs
 obtain ⟨e,he⟩:=sortedHeap_at (out:=(arrOf st').map (·.2)) ho
 exact h _ ((arrOf st').map (·.2)).toList ss' e (fun b o hb eo=>(sortedHeap_old hb (Heap.lt_size eo)).trans eo) he h1 (by rw [← hm]; exact h2) h3
end
section
variable {P:Program}{w:World}{A:Around}{E:Value->Shared->Prop}
theorem zg8 {s:Shared}{a:Addr}{ds:List Str}{Q:Value->Shared->Prop}
  (hcol:∀ (R:List Value->Shared->Prop),(∀ (h':Heap) (tk:Nat) (d':Drawn) (vs:List Value),(∀ b o,s.heap.get? b = some o->h'.get? b = some o)->s.heap.objs.size<=h'.objs.size->(∀ v∈vs,∃ z tk,v = .str z tk)->(vs.map txOf).Perm ds->R vs { s with heap:=h',toks:=tk,drawn:=d' })->wpAny (model P w) A.in1 (collect (.ref a)) R E s) (h64:ds.length < 64)
  (h:∀ (D:Addr) (h':Heap) (tk:Nat) (d':Drawn) (out:List Value) (ss:List Str) (e:Nat),(∀ b o,s.heap.get? b = some o->h'.get? b = some o)->s.heap.objs.size<=D->h'.get? D = some (seqObj "list" out.toArray e)->StrsAre out ss->ss.Perm ds->sortedS ss = true->Q (.ref D) { s with heap:=h',toks:=tk,drawn:=d' }):
  wpAny (model P w) A (call (.builtin "sorted") [.ref a]) Q E s:=by
 refine Calls.call_function_entry kind_sorted plain_sorted entry_sorted (args_sorted1 _) ?_
 unfold Builtin.«sorted»
 refine wpAny_bind (m:=checkCount "sorted" 1 1 _) (wpAny_pure (wpAny_bind (hcol _ fun h1 tk d1 vs kp hle hst hpm=>?_)))
 have hl:vs.length = ds.length:=by rw [← hpm.length_eq,List.length_map]
 refine wpAny_bind (wpAny_newList ?_ (by rw [hl]; exact Nat.le_trans (Nat.le_of_lt h64) (by decide)))
 have gD:(h1.push (seqObj "list" vs.toArray 0)).get? h1.objs.size = some (seqObj "list" vs.toArray 0):=Heap.get?_push_size _ rfl
 refine wpAny_bind (wpAny_holding (zlO gD hst (by omega) fun h2 out ss e k2 g2 hs hp hS=>?_))
 refine wpAny_pure ⟨_,rfl,h h1.objs.size h2 tk d1 out ss e (fun b o eb=>?_) ?_ g2 hs (hp.trans hpm) hS⟩
 ·have hb:=kp b o eb
  exact k2 b o (Nat.ne_of_lt (Heap.lt_size hb)) (Heap.get?_push_of_some _ hb)
 ·exact hle
end
theorem zeS:∀ (p:Str) (l:List Str),risingS p l = true->(p :: l).Pairwise fun a b=>a.cps.toList<=b.cps.toList
 | p,[],_=>by simp
 | p,x :: r,h=>by
  unfold risingS at h
  rw [Bool.and_eq_true] at h
  have ih:=zeS x r h.2
  have hpx:p.cps.toList<=x.cps.toList:=fun z=>by
   have:=h.1
   rw [ltCps_eq,decide_eq_true z] at this
   cases this
  rw [List.pairwise_cons]
  refine ⟨fun b hb=>?_,ih⟩
  rcases List.mem_cons.mp hb with rfl | hb
  ·exact hpx
  ·exact List.le_trans hpx (List.rel_of_pairwise_cons ih hb)
theorem zeT {l:List Str} (h:sortedS l = true):l.Pairwise fun a b=>a.cps.toList<=b.cps.toList:=by
 cases l with
 | nil=>exact .nil
 | cons x r=>exact zeS x r h
theorem zm3 {a b:Str} (h:a.cps.toList = b.cps.toList):a = b:=by
 obtain ⟨⟨x⟩⟩:=a
 obtain ⟨⟨y⟩⟩:=b
 have:x = y:=h
 subst this
 rfl
theorem zg9 {l₁ l₂:List Str} (h1:sortedS l₁ = true) (h2:sortedS l₂ = true) (p:l₁.Perm l₂):l₁ = l₂:=
 List.Perm.eq_of_pairwise (fun a b _ _ h h'=>zm3 (List.le_antisymm h h')) (zeT h1) (zeT h2) p
theorem Inv.drawn {X:Cx}{zp:List (Addr × Obj)}{σ:List (Option V)}{H:Hp}{s:Shared} (I:Inv X zp σ H s) (d':Drawn):Inv X zp σ H { s with drawn:=d' }:=⟨I.ok,I.os,I.bare,I.base,I.loc,I.cell,I.free,I.freeC,I.pin,I.hok,I.len⟩
theorem ziz:∀ {us:List Value}{ss:List Str},StrsAre us ss->Vals (ss.map V.str) us
 | _,_,.nil=>.nil
 | _,_,.cons y t h=>.cons ⟨t,rfl⟩ (ziz h)
theorem zaP {X:Cx} (hc:X.calm = true):zaE X (.builtin "sorted") (fun xs H Q=>∃ (a:Addr) (kvs:List (Key × V)) (ds:List Str),xs = [.ref a]/\H a = some (.dK kvs)/\kvs.map (·.1) = ds.map Sum.inr/\ds.length < 64/\∀ (l:Addr) (ss:List Str),H l = none->ss.Perm ds->sortedS ss = true->Q (.ref l) (upd H l (.lst (ss.map V.str)))):=by
 intro zp s σ H xs us Q I r h
 obtain ⟨a,kvs,ds,rfl,ea,hk,hn,q⟩:=h
 obtain ⟨u,rfl,rx⟩:=zbI r
 cases rx
 obtain ⟨hz0,lo,vs,rv,dd⟩:=zlj I.hok ea
 have hkv:vs.map (·.1) = ds.map Sum.inr:=by
  rw [← hk]
  clear dd hk ea hz0
  induction rv with
  | nil=>rfl
  | cons h _ ih=>rw [List.map_cons,List.map_cons,ih,h.1]
 refine zg8 (ds:=ds) (fun R hR=>zeR (A:=X.A.in1) (by simpa using I.ok.hd hc) lo dd hkv (by omega) hR) hn fun D h' tk d' out ss e kp hD g hs hp hS'=>?_
 have hl:ss.length < 64:=by rw [hp.length_eq]; exact hn
 exact ⟨.ref D,_,(I.drawn d').laid (t':=tk) kp hD (show Zg X.prog X.w _ h' _ (.lst (ss.map V.str)) from ⟨by rw [List.length_map]; exact Nat.le_trans (Nat.le_of_lt hl) (by decide),out,e,ziz hs,g⟩),rfl,q D ss (I.hok.fresh hD) hp hS'⟩
section
variable {X:Cx}{zp:List (Addr × Obj)}{σ:List (Option V)}{H:Hp}{s:Shared}{a:Addr}{kvs:List (Key × V)}{o:Obj}
theorem Inv.freeze (I:Inv X zp σ H s) (e:H a = some (.dK kvs)) (ho:s.heap.get? a = some o):Inv X zp σ (upd H a (.frz o (.dK kvs))) s:=by
 have hok:=(show Zg X.prog X.w H s.heap a (.dK kvs) from I.hok a _ e)
 exact zfo (h':=s.heap) (t':=s.toks) I (by rw [e]; exact True.intro) ⟨rfl,fun _ _=>rfl⟩ ⟨o,ho⟩ ⟨ho,hok⟩
theorem Inv.thaw (I:Inv X zp σ H s) (e:H a = some (.frz o (.dK kvs))) (h0:∀ o u,X.H₀ a≠some (.frz o u)):Inv X zp σ (upd H a (.dK kvs)) s:=by
 have nn:∀ {b},H b = none->upd H a (.dK kvs) b = none:=fun {b} h=>by
  rw [zr (fun z=>by rw [z,e] at h; cases h)]; exact h
 refine ⟨I.ok,I.os,I.bare,⟨I.base.keep,I.base.slot,fun b o q n hx=>nn (I.base.free b o q n hx),I.base.there,fun b xs q=>?_,fun b o u q=>?_,fun b ps q=>?_⟩,I.loc,I.cell,nn I.free,fun x c h=>nn (I.freeC x c h),fun p hp=>?_,fun b u q=>?_,I.len⟩
 ·have:=I.base.tups b xs q
  rw [zr (fun z=>by rw [z,e] at this; cases this)]; exact this
 ·have:=I.base.frzs b o u q
  rw [zr (fun z=>by rw [z] at q; exact h0 _ _ q)]; exact this
 ·obtain ⟨more,this⟩:=I.base.tbls b ps q
  exact ⟨more,by rw [zr (fun z=>by rw [z,e] at this; cases this)]; exact this⟩
 ·obtain ⟨h1,h2,h3⟩:=I.pin p hp
  exact ⟨h1,nn h2,h3⟩
 ·by_cases hb:b = a
  ·subst hb
   rw [zh] at q
   cases q
   exact (show Zg X.prog X.w H s.heap b (.frz o (.dK kvs)) from I.hok b _ e).2
  ·rw [zr hb] at q
   refine (I.hok b u q).stay (fun _ _ _ r=>r) (fun c r=>?_) (fun c xs r=>?_)
   ·rw [zr (fun z=>by rw [z,e] at r; cases r)]; exact r
   ·rw [zr (fun z=>by rw [z,e] at r; cases r)]; exact r
end
def Itd (a:Addr) (kvs:List (Key × V)) (o:Obj):It:=
 ⟨fun i H=>H a = some (.frz o (.dK kvs))/\i < kvs.length,fun i H x H'=>H' = H/\∃ kv,kvs[i]? = some kv/\x = kV kv.1,fun i H=>H a = some (.frz o (.dK kvs))/\kvs.length<=i⟩
theorem zlP {P:Program}{w:World}{k:Key}{v:Value} (h:(zR P w).is k v = true):RelV (kV k) v:=by
 rw [zdl] at h
 rcases zU h with ⟨i,t,e,e'⟩ | ⟨y,t,e,e'⟩
 ·subst e; exact ⟨t,e'⟩
 ·subst e; exact ⟨t,e'⟩
theorem KV.keyAt {kvs:List (Key × V)}{vs:List (Key × Value)} (r:KV kvs vs) {i:Nat}{kv:Key × V} (h:kvs[i]? = some kv):∃ x,vs[i]? = some (kv.1,x):=by
 induction r generalizing i with
 | nil=>simp at h
 | @cons p q ps qs hpq _ ih=>
  cases i with
  | zero=>
   cases h
   obtain ⟨k',v⟩:=q
   exact ⟨v,by rw [hpq.1]; rfl⟩
  | succ i=>exact ih h
theorem ziA {P:Program}{w:World}{K:PySem.W.Frag}{tg:Expr} (a it:Addr) {kvs:List (Key × V)}{vs:List (Key × Value)}{o:Obj}{ep:Nat} (rel:KV kvs vs) (hD:∀ h:Heap,h.get? a = some o->h.DictAt (zR P w) a vs ep):
  Turn P w K tg (Itd a kvs o) [it] it (fun i h=>h.IsKeyIter it a i vs.length ep) where
 mem:=by simp
 obj:=fun i h st b hb=>by
  have e:b = it:=by simpa using hb
  subst e
  obtain ⟨o,e,c,d⟩:=st
  exact ⟨o,e,fun v z=>by rw [d] at z; cases z⟩
 keep:=fun i h h' st k=>st.at fun o e=>k it (by simp) o e
 item:=by
  intro X hP hw hK hc i zp s σ H E I hf st hg
  subst hP hw hK
  obtain ⟨e,hi⟩:=hg
  have ho:=(show Zg X.prog X.w H s.heap a (.frz o (.dK kvs)) from I.hok a _ e).1
  obtain ⟨x,hx⟩:=rel.keyAt (List.getElem?_eq_getElem hi)
  obtain ⟨f0,f1,f2,f3,f4,f5⟩:=hf it (by simp)
  refine wpAny_pyNext_dict_item st (hD _ ho) hx fun key h' hkey st' sb=>?_
  have I1:Inv X zp σ H { s with heap:=h' }:=I.turned (t':=s.toks) (fun b o hb e=>(sb.2 b hb).trans e) f0 f1 f3 f4 f5
  obtain ⟨o',e',c',d'⟩:=id st'
  exact ⟨key,rfl,zhx (s:={ s with heap:=h' }) e' c' d' (by decide) ⟨kV kvs[i].1,H,I1,zlP hkey,⟨rfl,_,List.getElem?_eq_getElem hi,rfl⟩,st',fun b hb=>(hf b hb).1⟩⟩
 done:=by
  intro X hP hw hK hc i zp s σ H E I hf st hg
  subst hP hw hK
  obtain ⟨e,hi⟩:=hg
  have ho:=(show Zg X.prog X.w H s.heap a (.frz o (.dK kvs)) from I.hok a _ e).1
  obtain ⟨f0,f1,f2,f3,f4,f5⟩:=hf it (by simp)
  have hl:=rel.length
  exact wpAny_pyNext_dict_end (I.ok.hd hc) st (hD _ ho) (List.getElem?_eq_none (by omega)) fun h' eb=>⟨rfl,I.turned (t':=s.toks) (fun b o hb e=>eb b o hb e) f0 f1 f3 f4 f5⟩
 self:=fun A i s Q E st h=>wpAny_pyIter_keyiter st h
def zm4 (H₀:Hp) (te:TE):TI:=fun σ H R=>te σ H fun x H1=>∃ a kvs,x = .ref a/\H1 a = some (.dK kvs)/\∀ o,(∀ o' u,H₀ a≠some (.frz o' u))->R (Itd a kvs o) (upd H1 a (.frz o (.dK kvs)))
theorem zfG {X:Cx}{tg e:Expr}{te:TE} (he:PE X e te):PI X tg e (zm4 X.H₀ te):=by
 intro zp s σ H R I h
 refine thn (he zp s σ H _ I h) fun v s1 ⟨x,H1,I1,r1,q1⟩=>?_
 obtain ⟨a,kvs,rfl,ea,q⟩:=q1
 cases r1
 obtain ⟨hz,lo,vs,rel,dd⟩:=zlj I1.hok ea
 obtain ⟨o,es,ep,ho,r⟩:=dd
 have hat:s1.heap.DictAt (zR X.prog X.w) a vs ep:=⟨o,es,ho,r⟩
 refine wpAny_pyIter_dict lo hat ?_
 have I2:=(I1.freeze ea ho).kept (t':=s1.toks) (h':=s1.heap.push { cls:=.type "dict_keyiterator",data:=.fields #[.ref a,.int 0 0,.int vs.length 0,.int ep 0] }) fun b o e=>Heap.get?_push_of_some _ e
 refine ⟨s1.heap.objs.size,[s1.heap.objs.size],_,_,_,rfl,I2,ziA a _ rel fun h e=>⟨o,es,e,r⟩,⟨_,Heap.get?_push_size _ rfl,rfl,rfl⟩,fun b hb=>?_,q o fun o' u e=>by
  have:=I1.base.frzs a o' u e
  rw [ea] at this
  cases this⟩
 have e:b = s1.heap.objs.size:=by simpa using hb
 subst e
 refine (I1.freeze ea ho).fpOk (Nat.le_refl _) ((I1.freeze ea ho).hok.fresh (Nat.le_refl _))
end L2
namespace D
open PySem L2
theorem zfG {X:Cx}{tg e:Expr}{te:TE} (h0:QE X e te):QI X tg e (zm4 X.H₀ te):=⟨L2.zfG h0.un⟩
inductive Wd where
 | add | sub | mul | div | less | same | join | list | item | count | figs
def zdh:W:=.lst [.txt "wrong",.txt "kind",.txt ""]
def zfH:W:=.lst [.txt "wrong",.txt "nought",.txt ""]
def zkZ:W:=.lst [.txt "wrong",.txt "place",.txt ""]
def zgq (b:Bool):W:=.lst [.txt "made",.num (if b then 1 else 0)]
def two (f:Int->Int->W):List W->W
 | [.num a,.num b]=>f a b
 | _=>zdh
def recW:Wd->List W->W
 | .add,ws=>two (fun a b=>Z4 (.num (a + b))) ws
 | .sub,ws=>two (fun a b=>Z4 (.num (a - b))) ws
 | .mul,ws=>two (fun a b=>Z4 (.num (a * b))) ws
 | .div,ws=>two (fun a b=>if b = 0 then zfH else Z4 (.num (a.fdiv b))) ws
 | .less,ws=>two (fun a b=>zgq (decide (a < b))) ws
 | .figs,[.num a]=>Z4 (.txt (Str.ofString (toString a)))
 | .figs,_=>zdh
 | .same,[x,y]=>zgq (eqW x y)
 | .same,_=>zdh
 | .join,[.txt x,.txt y]=>Z4 (.txt (x ++ y))
 | .join,[.lst xs,.lst ys]=>Z4 (.lst (xs ++ ys))
 | .join,_=>zdh
 | .list,ws=>Z4 (.lst ws)
 | .item,[.lst xs,.num i]=>if 0<=i/\i < (xs.length:Int) then Z4 (xs.getD i.toNat (.num 0)) else zkZ
 | .item,_=>zdh
 | .count,[.txt x]=>Z4 (.num x.length)
 | .count,[.lst xs]=>Z4 (.num xs.length)
 | .count,_=>zdh
def zk0:Sp:=fun vs H Q _=>∃ (u v:V) (x y:W),vs = [u,v]/\RW H u x/\RW H v y/\x.depth < 50/\Q (.bl (eqW x y)) H
def zfI (K:PySem.W.Frag):Sp:=fun vs H Q _=>∃ b:Bool,vs = [.bl b]/\∀ (u:V) (H':Hp),Same H H'->RM K H' u (zgq b)->Q u H'
def Zp (K:PySem.W.Frag) (pre:List W->Prop) (r:List W->W):Sp:=fun vs H Q _=>∃ (l:Addr) (us:List V) (ws:List W),vs = [.ref l]/\H l = some (.lst us)/\RWs H us ws/\Oks ws/\depths ws<=12/\ws.length<=8/\pre ws /\
 ∀ (u:V) (H':Hp),Same H H'->RM K H' u (r ws)->Q u H'
theorem rws1 {H:Hp}{us:List V}{x:W} (h:RWs H us [x]):∃ u,us = [u]/\RW H u x:=by
 match us,h.len with
 | [u],_=>exact ⟨u,rfl,h.at' 0 u x rfl rfl⟩
theorem rws2 {H:Hp}{us:List V}{x y:W} (h:RWs H us [x,y]):∃ u v,us = [u,v]/\RW H u x/\RW H v y:=by
 match us,h.len with
 | [u,v],_=>exact ⟨u,v,rfl,h.at' 0 u x rfl rfl,h.at' 1 v y rfl rfl⟩
theorem rwn2 {H:Hp}{us:List V}{a b:Int} (h:RWs H us [.num a,.num b]):us = [.int a,.int b]:=by
 obtain ⟨u,v,rfl,r1,r2⟩:=rws2 h
 cases r1
 cases r2
 rfl
theorem zlQ {ws:List W} (h:ws.length = 2):∃ x y,ws = [x,y]:=by
 match ws,h with
 | [x,y],_=>exact ⟨x,y,rfl⟩
theorem zm5 {ws:List W} (h:ws.length = 1):∃ x,ws = [x]:=by
 match ws,h with
 | [x],_=>exact ⟨x,rfl⟩
theorem ok60 {a:Int} (h:(W.num a).Ok):a.natAbs.log2 < 1920:=by
 have h1:-(10 ^ 60) < a:=h.1
 have h2:a < 10 ^ 60:=h.2
 by_cases h0:a.natAbs = 0
 ·rw [h0]; decide
 ·have:=(Nat.log2_lt h0).mpr (show a.natAbs < 2 ^ 200 by
   have:(10:Int) ^ 60 < 2 ^ 200:=by decide
   omega)
  omega
theorem ziB {a:Int} (h:a.natAbs.log2 < 1920):Builtin.Int.intBits a<=1920:=by
 unfold Builtin.Int.intBits
 split <;> omega
theorem znK {a b:Int} (h1:a.natAbs.log2 < 1920) (h2:b.natAbs.log2 < 1920):IntMulOk a b:=by
 unfold IntMulOk
 have:=ziB h1
 have:=ziB h2
 have e:Builtin.Int.intTooBig (Builtin.Int.intBits a + Builtin.Int.intBits b) = false:=by
  unfold Builtin.Int.intTooBig
  have hb:10000<=bitsLine:=by decide
  exact decide_eq_false (by omega)
 rw [e]
 simp
theorem zeU (a:Int):Signs (Str.ofString (toString a)):=fun c hc=>by
 by_cases h:c = 45\/(48<=c/\c<=57)
 ·omega
 ·exact absurd hc (PyProof.Rows.int_text_free' c (by omega) a)
section
variable {P:Program}{w:World}{K:PySem.W.Frag}{mg:Str->Option Value}{base:Heap}{f:Addr}{fd:FuncData}{k n:Nat}{ARun ABook:Addr}
theorem zlR:FnScope ["one","other"] ["one","other"] (zn zh2):=mkSc rfl (by decide +kernel)
theorem zlS (F:Fun K "same" "same" zh2 f fd):FnOk P w K mg base CX0 (k + 1) f fd ["one","other"] (zk0):=by
 refine F.okQ zlR (by rintro _ _ _ _ ⟨_,_,_,_,rfl,_⟩; rfl) fun cdv A outer s H vs Q E hr h=>?_
 obtain ⟨u,v,x,y,rfl,rx,ry,hd,q⟩:=h
 refine ⟨_,(zl (zq (zY (zmW hr.units) (pv 0) (pv 1) (nomark _)))),?_⟩
 exact ⟨_,rfl,_,rfl,x,y,rx,ry,hd,q⟩
theorem zj4:FnScope ["is_so"] ["is_so"] (zn zft):=mkSc rfl (by decide +kernel)
theorem zj5 (F:Fun K "truth" "truth" zft f fd):FnOk P w K mg base CX0 (k + 1) f fd ["is_so"] (zfI K):=by
 refine F.okQ zj4 (by rintro _ _ _ _ ⟨_,rfl,_⟩; rfl) fun cdv A outer s H vs Q E hr h=>?_
 obtain ⟨b,rfl,q⟩:=h
 refine ⟨_,(zl (zq (zA (zc zo (zc (ZW (zQ (pv 0)) zj zj) zd))))),?_⟩
 refine ⟨_,rfl,_,rfl,?_⟩
 cases b with
 | true=>exact iteT ⟨zl2,fun a ha=>q _ _ (Same.new ha) (RM.two (SqT.of zh) (.txt _) (.num _))⟩
 | false=>exact iteF ⟨zl2,fun a ha=>q _ _ (Same.new ha) (RM.two (SqT.of zh) (.txt _) (.num _))⟩
theorem ziC:FnScope ["worths"] ["worths"] (zn zdL):=mkSc rfl (by decide +kernel)
theorem ziD (F:Fun K "summed" "summed" zdL f fd) (G_made:Have P w K mg base "made" k ["thing"] (zaO K 24)):FnOk P w K mg base CX0 (k + 1) f fd ["worths"] (Zp K (fun ws=>∃ a b,ws = [.num a,.num b]) (recW .add)):=by
 refine F.okQ ziC (by rintro _ _ _ _ ⟨_,_,_,rfl,_⟩; rfl) fun cdv A outer s H vs Q E hr h=>?_
 obtain ⟨l,us,ws,rfl,hl,hw,ok,hd,hn,⟨a,b,rfl⟩,q⟩:=h
 have e:=rwn2 hw
 subst e
 refine ⟨_,(zl (zq (zt G_made hr rfl (zc (zF Ze (zD zy (pv 0) zj (fun _ _=>rfl)) (zD zy (pv 0) zj (fun _ _=>rfl))) zd)))),?_⟩
 refine ⟨_,rfl,l,_,0,_,rfl,rfl,SqL.of hl,rfl,_,rfl,l,_,1,_,rfl,rfl,SqL.of hl,rfl,_,_,rfl,rfl,?_⟩
 exact ⟨_,.num (a + b),rfl,.num _,trivial,(by show 0 < 24; decide),q⟩
theorem zeV:FnScope ["worths"] ["worths"] (zn zbe):=mkSc rfl (by decide +kernel)
theorem zeW (F:Fun K "differing" "differing" zbe f fd) (G_made:Have P w K mg base "made" k ["thing"] (zaO K 24)):FnOk P w K mg base CX0 (k + 1) f fd ["worths"] (Zp K (fun ws=>∃ a b,ws = [.num a,.num b]) (recW .sub)):=by
 refine F.okQ zeV (by rintro _ _ _ _ ⟨_,_,_,rfl,_⟩; rfl) fun cdv A outer s H vs Q E hr h=>?_
 obtain ⟨l,us,ws,rfl,hl,hw,ok,hd,hn,⟨a,b,rfl⟩,q⟩:=h
 have e:=rwn2 hw
 subst e
 refine ⟨_,(zl (zq (zt G_made hr rfl (zc (zF Zf (zD zy (pv 0) zj (fun _ _=>rfl)) (zD zy (pv 0) zj (fun _ _=>rfl))) zd)))),?_⟩
 refine ⟨_,rfl,l,_,0,_,rfl,rfl,SqL.of hl,rfl,_,rfl,l,_,1,_,rfl,rfl,SqL.of hl,rfl,_,_,rfl,rfl,?_⟩
 exact ⟨_,.num (a - b),rfl,.num _,trivial,(by show 0 < 24; decide),q⟩
theorem zd6:FnScope ["worths"] ["worths"] (zn zaT):=mkSc rfl (by decide +kernel)
theorem zd7 (F:Fun K "multiplied" "multiplied" zaT f fd) (G_made:Have P w K mg base "made" k ["thing"] (zaO K 24)):FnOk P w K mg base CX0 (k + 1) f fd ["worths"] (Zp K (fun ws=>∃ a b,ws = [.num a,.num b]) (recW .mul)):=by
 refine F.okQ zd6 (by rintro _ _ _ _ ⟨_,_,_,rfl,_⟩; rfl) fun cdv A outer s H vs Q E hr h=>?_
 obtain ⟨l,us,ws,rfl,hl,hw,ok,hd,hn,⟨a,b,rfl⟩,q⟩:=h
 have e:=rwn2 hw
 subst e
 refine ⟨_,(zl (zq (zt G_made hr rfl (zc (zF zlE (zD zy (pv 0) zj (fun _ _=>rfl)) (zD zy (pv 0) zj (fun _ _=>rfl))) zd)))),?_⟩
 refine ⟨_,rfl,l,_,0,_,rfl,rfl,SqL.of hl,rfl,_,rfl,l,_,1,_,rfl,rfl,SqL.of hl,rfl,_,_,rfl,rfl,znK (ok60 ok.1) (ok60 ok.2.1),?_⟩
 exact ⟨_,.num (a * b),rfl,.num _,trivial,(by show 0 < 24; decide),q⟩
theorem zha:FnScope ["worths"] ["worths"] (zn zcI):=mkSc rfl (by decide +kernel)
theorem zhb (F:Fun K "divided" "divided" zcI f fd) (G_made:Have P w K mg base "made" k ["thing"] (zaO K 24)) {g_NOUGHT:Addr} (m_NOUGHT:mg "NOUGHT" = some (.ref g_NOUGHT)) (t_NOUGHT:∀ H:Hp,SqT K H g_NOUGHT [.str "wrong",.str "nought",.str ""]):FnOk P w K mg base CX0 (k + 1) f fd ["worths"] (Zp K (fun ws=>∃ a b,ws = [.num a,.num b]) (recW .div)):=by
 refine F.okQ zha (by rintro _ _ _ _ ⟨_,_,_,rfl,_⟩; rfl) fun cdv A outer s H vs Q E hr h=>?_
 obtain ⟨l,us,ws,rfl,hl,hw,ok,hd,hn,⟨a,b,rfl⟩,q⟩:=h
 have e:=rwn2 hw
 subst e
 refine ⟨_,(zi (zJ (zB Za (zD zy (pv 0) zj (fun _ _=>rfl)) zj (nomark _)) (zl (zq (zX (v:=.ref g_NOUGHT) rfl m_NOUGHT rfl))) zx) (zl (zq (zt G_made hr rfl (zc (zF ziq (zD zy (pv 0) zj (fun _ _=>rfl)) (zD zy (pv 0) zj (fun _ _=>rfl))) zd))))),?_⟩
 refine ⟨_,rfl,l,_,1,_,rfl,rfl,SqL.of hl,rfl,rfl,_,rfl,?_⟩
 have er:recW .div [.num a,.num b] = if b = 0 then zfH else Z4 (.num (a.fdiv b)):=rfl
 rw [er] at q
 refine ite2 (fun e=>?_) (fun e=>?_)
 ·have hb:b = 0:=by simpa using of_decide_eq_true e
  rw [if_pos hb] at q
  exact q _ _ (Same.refl _) (RM.three (t_NOUGHT H) (.txt _) (.txt _) (.txt _))
 ·have hb:b≠0:=fun z=>e (by rw [z]; rfl)
  rw [if_neg hb] at q
  refine ⟨_,rfl,l,_,0,_,rfl,rfl,SqL.of hl,rfl,_,rfl,l,_,1,_,rfl,rfl,SqL.of hl,rfl,_,_,rfl,rfl,⟨hb,?_⟩,?_⟩
  ·have:=ok60 ok.2.1; omega
  ·exact ⟨_,.num (a.fdiv b),rfl,.num _,trivial,(by show 0 < 24; decide),q⟩
theorem zfJ:FnScope ["worths"] ["worths"] (zn zbM):=mkSc rfl (by decide +kernel)
theorem zfK (F:Fun K "lessened" "lessened" zbM f fd) (G_truth:Have P w K mg base "truth" k ["is_so"] (zfI K)):FnOk P w K mg base CX0 (k + 1) f fd ["worths"] (Zp K (fun ws=>∃ a b,ws = [.num a,.num b]) (recW .less)):=by
 refine F.okQ zfJ (by rintro _ _ _ _ ⟨_,_,_,rfl,_⟩; rfl) fun cdv A outer s H vs Q E hr h=>?_
 obtain ⟨l,us,ws,rfl,hl,hw,ok,hd,hn,⟨a,b,rfl⟩,q⟩:=h
 have e:=rwn2 hw
 subst e
 refine ⟨_,(zl (zq (zt G_truth hr rfl (zc (zY zfm (zD zy (pv 0) zj (fun _ _=>rfl)) (zD zy (pv 0) zj (fun _ _=>rfl)) (nomark _)) zd)))),?_⟩
 refine ⟨_,rfl,l,_,0,_,rfl,rfl,SqL.of hl,rfl,_,rfl,l,_,1,_,rfl,rfl,SqL.of hl,rfl,_,_,rfl,rfl,?_⟩
 exact ⟨_,rfl,q⟩
theorem zhc:FnScope ["worths"] ["worths"] (zn zcJ):=mkSc rfl (by decide +kernel)
theorem zhd (F:Fun K "figured" "figured" zcJ f fd) (G_made:Have P w K mg base "made" k ["thing"] (zaO K 24)) (m_str:mg "str" = none):FnOk P w K mg base CX0 (k + 1) f fd ["worths"] (Zp K (fun ws=>∃ a,ws = [.num a]) (recW .figs)):=by
 refine F.okQ zhc (by rintro _ _ _ _ ⟨_,_,_,rfl,_⟩; rfl) fun cdv A outer s H vs Q E hr h=>?_
 obtain ⟨l,us,ws,rfl,hl,hw,ok,hd,hn,⟨a,rfl⟩,q⟩:=h
 obtain ⟨u,rfl,ru⟩:=rws1 hw
 cases ru
 refine ⟨_,(zl (zq (zt G_made hr rfl (zc (zE zet rfl m_str ZH (zc (zD zy (pv 0) zj (fun _ _=>rfl)) zd)) zd)))),?_⟩
 refine ⟨_,rfl,l,_,0,_,rfl,rfl,SqL.of hl,rfl,a,rfl,ok60 ok.1,?_⟩
 refine ⟨_,.txt (Str.ofString (toString a)),rfl,.txt _,⟨?_,zeU a⟩,(by show 0 < 24; decide),q⟩
 have:=PyProof.Rows.int_text_len_1921 (ok60 ok.1)
 omega
theorem zfL:FnScope ["worths"] ["worths"] (zn zbN):=mkSc rfl (by decide +kernel)
theorem zfM (F:Fun K "compared" "compared" zbN f fd) (G_truth:Have P w K mg base "truth" k ["is_so"] (zfI K)) (G_same:Have P w K mg base "same" k ["one","other"] (zk0)):FnOk P w K mg base CX0 (k + 1) f fd ["worths"] (Zp K (fun ws=>ws.length = 2) (recW .same)):=by
 refine F.okQ zfL (by rintro _ _ _ _ ⟨_,_,_,rfl,_⟩; rfl) fun cdv A outer s H vs Q E hr h=>?_
 obtain ⟨l,us,ws,rfl,hl,hw,ok,hd,hn,h2,q⟩:=h
 obtain ⟨x,y,rfl⟩:=zlQ h2
 obtain ⟨u,v,rfl,ru,rv⟩:=rws2 hw
 have hd2:max x.depth (max y.depth 0)<=12:=hd
 refine ⟨_,(zl (zq (zt G_truth hr rfl (zc (zt G_same hr rfl (zc (zD zy (pv 0) zj (fun _ _=>rfl)) (zc (zD zy (pv 0) zj (fun _ _=>rfl)) zd))) zd)))),?_⟩
 refine ⟨_,rfl,l,_,0,_,rfl,rfl,SqL.of hl,rfl,_,rfl,l,_,1,_,rfl,rfl,SqL.of hl,rfl,u,v,x,y,rfl,ru,rv,by omega,?_⟩
 exact ⟨_,rfl,q⟩
theorem ziE:FnScope ["worths"] ["worths"] (zn zdN):=mkSc rfl (by decide +kernel)
theorem ziF (F:Fun K "listed" "listed" zdN f fd) (G_made:Have P w K mg base "made" k ["thing"] (zaO K 24)) (m_tuple:mg "tuple" = none):FnOk P w K mg base CX0 (k + 1) f fd ["worths"] (Zp K (fun _=>True) (recW .list)):=by
 refine F.okQ ziE (by rintro _ _ _ _ ⟨_,_,_,rfl,_⟩; rfl) fun cdv A outer s H vs Q E hr h=>?_
 obtain ⟨l,us,ws,rfl,hl,hw,ok,hd,hn,_,q⟩:=h
 refine ⟨_,(zl (zq (zt G_made hr rfl (zc (zE zN rfl m_tuple zI (zc (pv 0) zd)) zd)))),?_⟩
 refine ⟨_,rfl,l,us,rfl,.inl ⟨SqL.of hl,fun t ht=>?_⟩⟩
 have s1:=Same.new (o:=.tup us) ht
 refine ⟨_,.lst ws,rfl,.lst zh hw.len fun i v w a b=>(hw.at' i v w a b).mono (zC s1),⟨by omega,ths_of ws ok⟩,?_,fun u H' s2 r=>q u H' (s1.trans s2) r⟩
 show 1 + depths ws < 24
 omega
theorem zhe:FnScope ["worths"] ["worths"] (zn zcL):=mkSc rfl (by decide +kernel)
theorem zhf (F:Fun K "counted" "counted" zcL f fd) (G_made:Have P w K mg base "made" k ["thing"] (zaO K 24)) (m_isi:mg "isinstance" = none) (m_len:mg "len" = none) (m_str:mg "str" = none) (m_tuple:mg "tuple" = none) {g_KIND:Addr} (m_KIND:mg "KIND" = some (.ref g_KIND)) (t_KIND:∀ H:Hp,SqT K H g_KIND [.str "wrong",.str "kind",.str ""]):FnOk P w K mg base CX0 (k + 1) f fd ["worths"] (Zp K (fun ws=>ws.length = 1) (recW .count)):=by
 refine F.okQ zhe (by rintro _ _ _ _ ⟨_,_,_,rfl,_⟩; rfl) fun cdv A outer s H vs Q E hr h=>?_
 obtain ⟨l,us,ws,rfl,hl,hw,ok,hd,hn,h1,q⟩:=h
 obtain ⟨x,rfl⟩:=zm5 h1
 obtain ⟨u,rfl,ru⟩:=rws1 hw
 refine ⟨_,(zl (zq (ZW (zQ (zu zir rfl m_isi zO (zc (zD zy (pv 0) zj (fun _ _=>rfl)) (zc (zA (zc (ZM rfl m_str ZH) (zc (ZM rfl m_tuple zI) zd))) zd)))) (zt G_made hr rfl (zc (zu zM rfl m_len PySem.boot_len (zc (zD zy (pv 0) zj (fun _ _=>rfl)) zd)) zd)) (zX (v:=.ref g_KIND) rfl m_KIND rfl)))),?_⟩
 refine ⟨_,rfl,l,_,0,_,rfl,rfl,SqL.of hl,rfl,zl2,fun p hp=>?_⟩
 have s1:=Same.new (o:=.tup [.ty "str",.ty "tuple"]) hp
 cases ru with
 | num i=>
  refine ⟨_,_,p,_,_,_,_,rfl,.int i,zh,zdq,zcG,_,rfl,iteF (q _ _ s1 ?_)⟩
  exact RM.three (t_KIND _) (.txt _) (.txt _) (.txt _)
 | txt z=>
  refine ⟨_,_,p,_,_,_,_,rfl,.str z,zh,za5,zbu,_,rfl,iteT ?_⟩
  have hz:z.length<=400:=ok.1.1
  refine ⟨_,rfl,l,_,0,_,rfl,rfl,SqL.of (s1 _ _ hl),rfl,_,_,rfl,⟨small (by omega),rfl⟩,?_⟩
  exact ⟨_,.num z.length,rfl,.num _,trivial,(by show 0 < 24; decide),fun u H' s2 r=>q u H' (s1.trans s2) r⟩
 | @lst a vs ws e ll at'=>
  refine ⟨_,_,p,_,_,_,_,rfl,.tup (s1 _ _ e),zh,zdp,zbt,_,rfl,iteT ?_⟩
  refine ⟨_,rfl,l,_,0,_,rfl,rfl,SqL.of (s1 _ _ hl),rfl,_,_,rfl,.inr ⟨_,SqT.of (s1 _ _ e),rfl⟩,?_⟩
  rw [ll]
  exact ⟨_,.num ws.length,rfl,.num _,trivial,(by show 0 < 24; decide),fun u H' s2 r=>q u H' (s1.trans s2) r⟩
end
end D
namespace L2
open PySem
theorem zlT {K:PySem.W.Frag}{fr:List Nat}{j:Nat}{te:TE}{σ:St}{H:Hp}{Q:VK}{a:Addr}{vs:List V} (outs:List V) (hσ:σ[j]? = some (some (.ref a))) (hS:SqL K H a vs) (hl:outs.length = vs.length) (hz:vs.length<=sizeLine)
  (step:∀ (i:Nat) (v y:V) (H1:Hp) (R:VK),vs[i]? = some v->outs[i]? = some y->Same H H1->(∀ H2,Same H1 H2->R y H2)->te (some v :: frees fr σ) H1 R)
  (fin:∀ (H1:Hp) (D:Addr),Same H H1->H1 D = none->Q (.ref D) (upd H1 D (.lst outs))):zcD fr (zhz K (tVar j)) (fun _ H Q=>Q true H) te σ H Q:=by
 refine ⟨_,hσ,a,rfl,⟨vs,hS⟩,fun i m us H1=>i<=vs.length/\m = vs.length - i/\us = outs.take i/\Same H H1,⟨_,Nat.zero_le _,rfl,by simp,Same.refl _⟩,fun i m us H1 hW=>?_⟩
 obtain ⟨hi,hm,hu,sm⟩:=hW
 refine ⟨by rw [hu,List.length_take]; omega,?_⟩
 by_cases hlt:i < vs.length
 ·refine .inr ⟨⟨vs,vs[i],sm.seq hS,List.getElem?_eq_getElem hlt⟩,fun v H' hy=>?_⟩
  obtain ⟨rfl,hv⟩:=hy
  have hv:=hv vs (sm.seq hS)
  have hy:outs[i]? = some outs[i]:=List.getElem?_eq_getElem (by omega)
  refine iteT ?_
  refine step i v outs[i] H' _ hv hy sm fun H2 s2=>⟨vs.length - (i + 1),by omega,by omega,rfl,?_,sm.trans s2⟩
  rw [hu,zal hy]
 ·have e:i = vs.length:=by omega
  refine .inl ⟨⟨vs,sm.seq hS,by omega⟩,fun D hD=>?_⟩
  have e2:us = outs:=by rw [hu,List.take_of_length_le (by omega)]
  rw [e2]
  exact fin H1 D sm hD
end L2
namespace D
open PySem L2
def wdS:Wd->Str
 | .add=>"+" | .sub=>"-" | .mul=>"*" | .div=>"/" | .less=>"less" | .same=>"same" | .join=>"join" | .list=>"list" | .item=>"item" | .count=>"count" | .figs=>"figures"
def arity:Wd->Nat->Prop
 | .list,_=>True
 | .count,n=>n = 1
 | .figs,n=>n = 1
 | _,n=>n = 2
def ziG (K:PySem.W.Frag):Sp:=fun vs H Q _=>∃ (d:Wd) (l:Addr) (us:List V) (ws:List W),vs = [.str (wdS d),.ref l]/\H l = some (.lst us)/\RWs H us ws/\Oks ws/\depths ws<=12/\ws.length<=8/\arity d ws.length /\
 ∀ (u:V) (H':Hp),Same H H'->RM K H' u (recW d ws)->Q u H'
def kvsN (f1 f2 f3 f4 f5 f6:Addr):List (Key × V):=[(.inr "+",.ref f1),(.inr "-",.ref f2),(.inr "*",.ref f3),(.inr "/",.ref f4),(.inr "less",.ref f5),(.inr "figures",.ref f6)]
def kvsO (f7 f8 f9 f10 f11:Addr):List (Key × V):=[(.inr "same",.ref f7),(.inr "join",.ref f8),(.inr "list",.ref f9),(.inr "item",.ref f10),(.inr "count",.ref f11)]
def Zu:W->Bool
 | .num _=>true
 | _=>false
theorem zeX (x:W):zkO x.toT = Zu x:=by cases x <;> rfl
theorem zbz (f:Int->Int->W):∀ {ws:List W},ws.all Zu = false->two f ws = zdh
 | [],_=>rfl
 | [_],h=>by
  rename_i x
  cases x <;> rfl
 | [x,y],h=>by
  cases x with
  | num a=>
   cases y with
   | num b=>simp [Zu] at h
   | txt z=>rfl
   | lst z=>rfl
  | txt z=>rfl
  | lst z=>rfl
 | x :: y :: z :: r,h=>by cases x <;> cases y <;> rfl
theorem ziH:∀ {ws:List W},ws.all Zu = true->ws.length = 2->∃ a b,ws = [.num a,.num b]
 | [x,y],h,_=>by
  cases x with
  | num a=>
   cases y with
   | num b=>exact ⟨a,b,rfl⟩
   | txt z=>simp [Zu] at h
   | lst z=>simp [Zu] at h
  | txt z=>simp [Zu] at h
  | lst z=>simp [Zu] at h
theorem znL:∀ {ws:List W},ws.all Zu = true->ws.length = 1->∃ a,ws = [.num a]
 | [x],h,_=>by
  cases x with
  | num a=>exact ⟨a,rfl⟩
  | txt z=>simp [Zu] at h
  | lst z=>simp [Zu] at h
section
variable {P:Program}{w:World}{K:PySem.W.Frag}{mg:Str->Option Value}{base:Heap}{f:Addr}{fd:FuncData}{k n:Nat}{ARun ABook:Addr}
theorem zaW:FnScope ["worths","one","other","are_texts","are_lists"] ["worths"] (zn zdM):=mkSc rfl (by decide +kernel)
theorem ziI (F:Fun K "joined" "joined" zdM f fd) (G_made:Have P w K mg base "made" k ["thing"] (zaO K 24)) (m_isi:mg "isinstance" = none) (m_str:mg "str" = none) (m_tuple:mg "tuple" = none) {g_KIND:Addr} (m_KIND:mg "KIND" = some (.ref g_KIND)) (t_KIND:∀ H:Hp,SqT K H g_KIND [.str "wrong",.str "kind",.str ""]):FnOk P w K mg base CX0 (k + 1) f fd ["worths"] (Zp K (fun ws=>ws.length = 2) (recW .join)):=by
 refine F.okQ zaW (by rintro _ _ _ _ ⟨_,_,_,rfl,_⟩; rfl) fun cdv A outer s H vs Q E hr h=>?_
 obtain ⟨l,us,ws,rfl,hl,hw,ok,hd,hn,h2,q⟩:=h
 obtain ⟨x,y,rfl⟩:=zlQ h2
 obtain ⟨u,v,rfl,ru,rv⟩:=rws2 hw
 have hd2:max x.depth (max y.depth 0)<=12:=hd
 refine ⟨_,(zi (zw (i:=1) zaW.nd rfl (Or.inl rfl) (zD zy (pv 0) zj (fun _ _=>rfl)))
  (zi (zw (i:=2) zaW.nd rfl (Or.inl rfl) (zD zy (pv 0) zj (fun _ _=>rfl)))
  (zi (zw (i:=3) zaW.nd rfl (Or.inl rfl) (Z5 (zu Zo rfl m_isi zO (zc (pv 1) (zc (ZM rfl m_str ZH) zd))) (zap (zu Zo rfl m_isi zO (zc (pv 2) (zc (ZM rfl m_str ZH) zd))))))
  (zi (zw (i:=4) zaW.nd rfl (Or.inl rfl) (Z5 (zu Zo rfl m_isi zO (zc (pv 1) (zc (ZM rfl m_tuple zI) zd))) (zap (zu Zo rfl m_isi zO (zc (pv 2) (zc (ZM rfl m_tuple zI) zd))))))
  (zl (zq (ZW (PW.pt (zb6 (zQ (pv 3)) (zaR (zQ (pv 4))))) (zt G_made hr rfl (zc (zF zlF (pv 1) (pv 2)) zd)) (zX (v:=.ref g_KIND) rfl m_KIND rfl)))))))),?_⟩
 refine ⟨_,rfl,l,_,0,_,rfl,rfl,SqL.of hl,rfl,_,rfl,l,_,1,_,rfl,rfl,SqL.of hl,rfl,?_⟩
 have kd:recW .join [x,y] = zdh->Q (.ref g_KIND) H:=fun e=>q _ _ (Same.refl _) (by rw [e]; exact RM.three (t_KIND _) (.txt _) (.txt _) (.txt _))
 cases ru with
 | num i=>
  refine ⟨_,rfl,_,_,_,_,rfl,.int i,zdq,_,rfl,iteF ⟨_,rfl,_,_,_,_,rfl,.int i,zcG,_,rfl,iteF ?_⟩⟩
  exact ⟨_,rfl,_,rfl,iteF ⟨_,rfl,_,rfl,iteF (kd (by cases y <;> rfl))⟩⟩
 | txt z=>
  have no:∀ (b:Bool),_:=fun (b:Bool)=>(b:Bool)
  cases rv with
  | num j=>
   refine ⟨_,rfl,_,_,_,_,rfl,.str z,za5,_,rfl,iteT ⟨_,rfl,_,_,_,_,rfl,.int j,zdq,_,rfl,_,_,_,_,rfl,.str z,zbu,_,rfl,iteF ?_⟩⟩
   exact ⟨_,rfl,_,rfl,iteF ⟨_,rfl,_,rfl,iteF (kd rfl)⟩⟩
  | txt z2=>
   refine ⟨_,rfl,_,_,_,_,rfl,.str z,za5,_,rfl,iteT ⟨_,rfl,_,_,_,_,rfl,.str z2,za5,_,rfl,_,_,_,_,rfl,.str z,zbu,_,rfl,iteF ?_⟩⟩
   have h1:z.length<=400:=ok.1.1
   have h3:z2.length<=400:=ok.2.1.1
   refine ⟨_,rfl,_,rfl,iteT (iteT ⟨_,rfl,_,rfl,.inl ⟨z,z2,rfl,rfl,small (by omega),?_⟩⟩)⟩
   refine ⟨_,.txt (z ++ z2),rfl,.txt _,⟨by rw [zcU]; omega,fun c hc=>?_⟩,(by show 0 < 24; decide),q⟩
   rw [zan] at hc
   rcases List.mem_append.mp hc with hc | hc
   ·exact ok.1.2 c hc
   ·exact ok.2.1.2 c hc
  | @lst a vs ws e ll at'=>
   refine ⟨_,rfl,_,_,_,_,rfl,.str z,za5,_,rfl,iteT ⟨_,rfl,_,_,_,_,rfl,.tup e,zdp,_,rfl,_,_,_,_,rfl,.str z,zbu,_,rfl,iteF ?_⟩⟩
   exact ⟨_,rfl,_,rfl,iteF ⟨_,rfl,_,rfl,iteF (kd rfl)⟩⟩
 | @lst a vs xs e ll at'=>
  refine ⟨_,rfl,_,_,_,_,rfl,.tup e,zdp,_,rfl,iteF ⟨_,rfl,_,_,_,_,rfl,.tup e,zbt,_,rfl,iteT ?_⟩⟩
  cases rv with
  | num j=>
   refine ⟨_,rfl,_,_,_,_,rfl,.int j,zcG,?_⟩
   exact ⟨_,rfl,_,rfl,iteF ⟨_,rfl,_,rfl,iteF (kd rfl)⟩⟩
  | txt z2=>
   refine ⟨_,rfl,_,_,_,_,rfl,.str z2,zbu,?_⟩
   exact ⟨_,rfl,_,rfl,iteF ⟨_,rfl,_,rfl,iteF (kd rfl)⟩⟩
  | @lst b us2 ys e2 ll2 at2=>
   refine ⟨_,rfl,_,_,_,_,rfl,.tup e2,zbt,?_⟩
   refine ⟨_,rfl,_,rfl,iteF ⟨_,rfl,_,rfl,iteT ?_⟩⟩
   have l1:xs.length<=60:=ok.1.1
   have l2:ys.length<=60:=ok.2.1.1
   have hth:(W.lst (xs ++ ys)).Th:=⟨by rw [List.length_append]; omega,zkS fun z hz=>by
    rcases List.mem_append.mp hz with hz | hz
    ·exact zeO z (zcT ok.1.2 z hz)
    ·exact zeO z (zcT ok.2.1.2 z hz)⟩
   have hdp:(W.lst (xs ++ ys)).depth < 24:=by
    have e1:(W.lst xs).depth = 1 + depths xs:=rfl
    have e3:(W.lst ys).depth = 1 + depths ys:=rfl
    have e4:∀ (a b:List W),depths (a ++ b) = max (depths a) (depths b):=fun a b=>by
     induction a with
     | nil=>simp [depths]
     | cons x r ih=>simp only [List.cons_append,depths,ih]; omega
    show 1 + depths (xs ++ ys) < 24
    rw [e4]
    omega
   by_cases hx:vs = []
   ·have ex:xs = []:=List.length_eq_zero_iff.mp (by rw [← ll,hx]; rfl)
    subst ex
    subst hx
    refine ⟨_,rfl,_,rfl,.inr (.inr ⟨a,b,us2,rfl,rfl,SqT.of e,SqT.of e2,?_⟩)⟩
    exact ⟨_,.lst ([] ++ ys),rfl,.lst e2 ll2 at2,hth,hdp,q⟩
   ·refine ⟨_,rfl,_,rfl,.inr (.inl ⟨a,b,vs,us2,rfl,rfl,SqT.of e,SqT.of e2,hx,small (by omega),fun hy=>?_,fun hy p hp=>?_⟩)⟩
    ·have ey:ys = []:=List.length_eq_zero_iff.mp (by rw [← ll2,hy]; rfl)
     subst ey
     exact ⟨_,.lst (xs ++ []),rfl,by rw [List.append_nil]; exact .lst e ll at',hth,hdp,q⟩
    ·have s1:=Same.new (o:=.tup (vs ++ us2)) hp
     refine ⟨_,.lst (xs ++ ys),rfl,.lst zh (by rw [List.length_append,List.length_append,ll,ll2]) fun i v w a1 a2=>?_,hth,hdp,fun u H' s2 r=>q u H' (s1.trans s2) r⟩
     by_cases hi:i < vs.length
     ·rw [List.getElem?_append_left hi] at a1
      rw [List.getElem?_append_left (by omega)] at a2
      exact (at' i v w a1 a2).mono (zC s1)
     ·rw [List.getElem?_append_right (by omega)] at a1
      rw [List.getElem?_append_right (by omega),← ll] at a2
      exact (at2 _ v w a1 a2).mono (zC s1)
theorem zbT:FnScope ["worths","items","place"] ["worths"] (zn zcK):=mkSc rfl (by decide +kernel)
theorem zhg (F:Fun K "item_at" "item_at" zcK f fd) (G_made:Have P w K mg base "made" k ["thing"] (zaO K 24)) (G_is_number:Have P w K mg base "is_number" k ["thing"] (zcW)) (m_isi:mg "isinstance" = none) (m_len:mg "len" = none) (m_tuple:mg "tuple" = none) {g_KIND:Addr} (m_KIND:mg "KIND" = some (.ref g_KIND)) (t_KIND:∀ H:Hp,SqT K H g_KIND [.str "wrong",.str "kind",.str ""]) {g_PLACE:Addr} (m_PLACE:mg "PLACE" = some (.ref g_PLACE)) (t_PLACE:∀ H:Hp,SqT K H g_PLACE [.str "wrong",.str "place",.str ""]):FnOk P w K mg base CX0 (k + 1) f fd ["worths"] (Zp K (fun ws=>ws.length = 2) (recW .item)):=by
 refine F.okQ zbT (by rintro _ _ _ _ ⟨_,_,_,rfl,_⟩; rfl) fun cdv A outer s H vs Q E hr h=>?_
 obtain ⟨l,us,ws,rfl,hl,hw,ok,hd,hn,h2,q⟩:=h
 obtain ⟨x,y,rfl⟩:=zlQ h2
 obtain ⟨u,v,rfl,ru,rv⟩:=rws2 hw
 have hd2:max x.depth (max y.depth 0)<=12:=hd
 refine ⟨_,(zi (zw (i:=1) zbT.nd rfl (Or.inl rfl) (zD zy (pv 0) zj (fun _ _=>rfl)))
  (zi (zw (i:=2) zbT.nd rfl (Or.inl rfl) (zD zy (pv 0) zj (fun _ _=>rfl)))
  (zi (zJ (PW.pt (zb6 (Zh (zQ (zu Zo rfl m_isi zO (zc (pv 1) (zc (ZM rfl m_tuple zI) zd))))) (zaR (Zh (zQ (zt G_is_number hr rfl (zc (pv 2) zd))))))) (zl (zq (zX (v:=.ref g_KIND) rfl m_KIND rfl))) zx)
  (zl (zq (ZW (zcj zlc zfm zj (pv 2) (zu zM rfl m_len PySem.boot_len (zc (pv 1) zd))) (zt G_made hr rfl (zc (zD zS (pv 1) (pv 2) (fun _ _=>rfl)) zd)) (zX (v:=.ref g_PLACE) rfl m_PLACE rfl))))))),?_⟩
 refine ⟨_,rfl,l,_,0,_,rfl,rfl,SqL.of hl,rfl,_,rfl,l,_,1,_,rfl,rfl,SqL.of hl,rfl,?_⟩
 have kd:recW .item [x,y] = zdh->Q (.ref g_KIND) H:=fun e=>q _ _ (Same.refl _) (by rw [e]; exact RM.three (t_KIND _) (.txt _) (.txt _) (.txt _))
 cases ru with
 | num i=>exact ⟨_,rfl,_,_,_,_,rfl,.int i,zcG,_,rfl,iteT (iteT (kd rfl))⟩
 | txt z=>exact ⟨_,rfl,_,_,_,_,rfl,.str z,zbu,_,rfl,iteT (iteT (kd rfl))⟩
 | @lst a vs xs e ll at'=>
  refine ⟨_,rfl,_,_,_,_,rfl,.tup e,zbt,_,rfl,iteF ⟨_,rfl,v,y.toT,rfl,rv.toRT,_,rfl,?_⟩⟩
  cases rv with
  | txt z=>exact iteT (kd rfl)
  | lst e2 ll2 at2=>exact iteT (kd rfl)
  | num i=>
   refine iteF ?_
   have er:recW .item [.lst xs,.num i] = if 0<=i/\i < (xs.length:Int) then Z4 (xs.getD i.toNat (.num 0)) else zkZ:=rfl
   rw [er] at q
   have pl:¬ (0<=i/\i < (xs.length:Int))->Q (.ref g_PLACE) H:=fun hc=>by
    rw [if_neg hc] at q
    exact q _ _ (Same.refl _) (RM.three (t_PLACE _) (.txt _) (.txt _) (.txt _))
   refine ⟨_,rfl,_,_,rfl,rfl,_,rfl,?_⟩
   refine ite2 (fun c1=>?_) (fun c1=>?_)
   ·have c1':0<=i:=of_decide_eq_true c1
    refine ⟨_,rfl,_,_,rfl,.inr ⟨_,SqT.of e,rfl⟩,_,_,rfl,rfl,_,rfl,?_⟩
    refine ite2 (fun c2=>?_) (fun c2=>pl fun hc=>c2 (decide_eq_true (by rw [ll]; exact hc.2)))
    have c2':i < (vs.length:Int):=of_decide_eq_true c2
    have hi:i.toNat < xs.length:=by omega
    have hv:vs[i.toNat]? = some vs[i.toNat]:=List.getElem?_eq_getElem (by omega)
    have hx:xs[i.toNat]? = some xs[i.toNat]:=List.getElem?_eq_getElem hi
    rw [if_pos ⟨c1',by omega⟩,List.getD_eq_getElem?_getD,hx] at q
    have hat:atI vs i = some vs[i.toNat]:=by
     have:=zG hv
     rw [show ((i.toNat:Nat):Int) = i by omega] at this
     exact this
    have hm:=List.mem_of_getElem? hx
    have hdm:=zad xs[i.toNat] hm
    have e1:(W.lst xs).depth = 1 + depths xs:=rfl
    refine ⟨_,rfl,_,rfl,a,vs,i,_,rfl,rfl,SqT.of e,hat,?_⟩
    exact ⟨_,xs[i.toNat],rfl,at' _ _ _ hv hx,zeO _ (zcT ok.1.2 _ hm),by omega,q⟩
   ·exact ⟨_,rfl,iteF (pl fun hc=>c1 (decide_eq_true hc.1))⟩
theorem zfN:FnScope ["word","worths"] ["word","worths"] (zn zbO):=mkSc rfl (by decide +kernel)
theorem zfO (F:Fun K "reckoned" "reckoned" zbO f fd) (G_is_number:Have P w K mg base "is_number" k ["thing"] (zcW)) (m_all:mg "all" = none) {g_KIND:Addr} (m_KIND:mg "KIND" = some (.ref g_KIND)) (t_KIND:∀ H:Hp,SqT K H g_KIND [.str "wrong",.str "kind",.str ""]) {g_NUMBER_DEEDS g_OTHER_DEEDS f1 f2 f3 f4 f5 f6 f7 f8 f9 f10 f11:Addr} (m_NUMBER_DEEDS:mg "NUMBER_DEEDS" = some (.ref g_NUMBER_DEEDS)) (d_NUM:MD P w K g_NUMBER_DEEDS (kvsN f1 f2 f3 f4 f5 f6)) (m_OTHER_DEEDS:mg "OTHER_DEEDS" = some (.ref g_OTHER_DEEDS)) (d_OTH:MD P w K g_OTHER_DEEDS (kvsO f7 f8 f9 f10 f11)) (c1:Zl P w K mg base f1 k ["worths"] (Zp K (fun ws=>∃ a b,ws = [.num a,.num b]) (recW .add))) (c2:Zl P w K mg base f2 k ["worths"] (Zp K (fun ws=>∃ a b,ws = [.num a,.num b]) (recW .sub))) (c3:Zl P w K mg base f3 k ["worths"] (Zp K (fun ws=>∃ a b,ws = [.num a,.num b]) (recW .mul))) (c4:Zl P w K mg base f4 k ["worths"] (Zp K (fun ws=>∃ a b,ws = [.num a,.num b]) (recW .div))) (c5:Zl P w K mg base f5 k ["worths"] (Zp K (fun ws=>∃ a b,ws = [.num a,.num b]) (recW .less))) (c6:Zl P w K mg base f6 k ["worths"] (Zp K (fun ws=>∃ a,ws = [.num a]) (recW .figs))) (c7:Zl P w K mg base f7 k ["worths"] (Zp K (fun ws=>ws.length = 2) (recW .same))) (c8:Zl P w K mg base f8 k ["worths"] (Zp K (fun ws=>ws.length = 2) (recW .join))) (c9:Zl P w K mg base f9 k ["worths"] (Zp K (fun _=>True) (recW .list))) (c10:Zl P w K mg base f10 k ["worths"] (Zp K (fun ws=>ws.length = 2) (recW .item))) (c11:Zl P w K mg base f11 k ["worths"] (Zp K (fun ws=>ws.length = 1) (recW .count))):FnOk P w K mg base CX0 (k + 1) f fd ["word","worths"] (ziG K):=by
 refine F.okQ zfN (by rintro _ _ _ _ ⟨_,_,_,_,rfl,_⟩; rfl) fun cdv A outer s H vs Q E hr h=>?_
 obtain ⟨d,l,us,ws,rfl,hl,hw,ok,hd,hn,ha,q⟩:=h
 refine ⟨_,(zi (zJ (zB zin (pv 0) (zX (v:=.ref g_NUMBER_DEEDS) rfl m_NUMBER_DEEDS rfl) (by rfl)) (zl (zq (zby hr (zD zio (zX (v:=.ref g_OTHER_DEEDS) rfl m_OTHER_DEEDS rfl) (pv 0) (fun _ _=>rfl)) (zc (pv 1) zd)))) zx)
  (zi (zJ (Zh (zQ (zu (ZY rfl) rfl m_all zbv (zc (Zx [] [] rfl rfl (by decide +kernel) rfl (by decide +kernel) rfl (by decide +kernel) trivial rfl trivial (zat (pv 1)) (fun C s H fp=>⟨Zn,(zt G_is_number hr rfl (zc (pv 0) zd))⟩)) zd)))) (zl (zq (zX (v:=.ref g_KIND) rfl m_KIND rfl))) zx)
  (zl (zq (zby hr (zD zio (zX (v:=.ref g_NUMBER_DEEDS) rfl m_NUMBER_DEEDS rfl) (pv 0) (fun _ _=>rfl)) (zc (pv 1) zd)))))),?_⟩
 refine ⟨_,rfl,g_NUMBER_DEEDS,_,.inr (wdS d),rfl,rfl,d_NUM,_,rfl,?_⟩
 have facts:(∃ (f0:Addr) (pre:List W->Prop),valV (kvsN f1 f2 f3 f4 f5 f6) (.inr (wdS d)) = some (.ref f0)/\Zl P w K mg base f0 k ["worths"] (Zp K pre (recW d))/\(ws.all Zu = true->pre ws)/\(ws.all Zu = false->recW d ws = zdh)) \/
   (valV (kvsN f1 f2 f3 f4 f5 f6) (.inr (wdS d)) = none/\∃ (f0:Addr) (pre:List W->Prop),valV (kvsO f7 f8 f9 f10 f11) (.inr (wdS d)) = some (.ref f0)/\Zl P w K mg base f0 k ["worths"] (Zp K pre (recW d))/\pre ws):=by
  cases d with
  | add=>exact .inl ⟨f1,_,rfl,c1,fun h=>ziH h ha,zbz _⟩
  | sub=>exact .inl ⟨f2,_,rfl,c2,fun h=>ziH h ha,zbz _⟩
  | mul=>exact .inl ⟨f3,_,rfl,c3,fun h=>ziH h ha,zbz _⟩
  | div=>exact .inl ⟨f4,_,rfl,c4,fun h=>ziH h ha,zbz _⟩
  | less=>exact .inl ⟨f5,_,rfl,c5,fun h=>ziH h ha,zbz _⟩
  | figs=>exact .inl ⟨f6,_,rfl,c6,fun h=>znL h ha,fun h=>by
    obtain ⟨x,rfl⟩:=zm5 ha
    cases x with
    | num a=>simp [Zu] at h
    | txt z=>rfl
    | lst z=>rfl⟩
  | same=>exact .inr ⟨rfl,f7,_,rfl,c7,ha⟩
  | join=>exact .inr ⟨rfl,f8,_,rfl,c8,ha⟩
  | list=>exact .inr ⟨rfl,f9,_,rfl,c9,trivial⟩
  | item=>exact .inr ⟨rfl,f10,_,rfl,c10,ha⟩
  | count=>exact .inr ⟨rfl,f11,_,rfl,c11,ha⟩
 rcases facts with ⟨f0,pre,hv,hf,h1,h2⟩ | ⟨hv,f0,pre,hv2,hf,h1⟩
 ·rw [hv]
  refine iteF ?_
  dsimp only [zla,tRet,tOp,tC,tCB,zao,tNil,tB,tNot,tIfS,tSeq]
  refine zlT (ws.map fun x=>V.bl (Zu x)) (by rfl) (SqL.of hl) (by rw [List.length_map,hw.len]) (small (by have:=hw.len; omega)) (fun i v y H1 R hv' hy s1 hR=>?_) (fun H1 D s1 hD=>?_)
  ·rw [List.getElem?_map] at hy
   obtain ⟨x,hx,rfl⟩:=Option.map_eq_some_iff.mp hy
   refine ⟨_,rfl,v,x.toT,rfl,((hw.at' i v x hv' hx).mono (zC s1)).toRT,?_⟩
   rw [zeX]
   exact hR _ (Same.refl _)
  ·have s2:=s1.trans (Same.new (o:=.lst (ws.map fun x=>V.bl (Zu x))) hD)
   refine ⟨D,ws.map Zu,rfl,SqL.of ?_,_,rfl,?_⟩
   ·rw [zh,List.map_map]; rfl
   have e3:(ws.map Zu).all id = ws.all Zu:=by rw [List.all_map]; rfl
   rw [e3]
   cases hall:ws.all Zu with
   | false=>
    refine iteT (q _ _ s2 ?_)
    rw [h2 hall]
    exact RM.three (t_KIND _) (.txt _) (.txt _) (.txt _)
   | true=>
    refine iteF ⟨_,rfl,g_NUMBER_DEEDS,_,.inr (wdS d),.ref f0,rfl,rfl,d_NUM,hv,f0,_,_,rfl,hf,_,rfl,?_⟩
    exact ⟨l,us,ws,rfl,s2 _ _ hl,hw.mono (zC s2),ok,hd,hn,h1 hall,fun u H' s3 r=>q u H' (s2.trans s3) r⟩
 ·rw [hv]
  refine iteT ⟨_,rfl,g_OTHER_DEEDS,_,.inr (wdS d),.ref f0,rfl,rfl,d_OTH,hv2,f0,_,_,rfl,hf,_,rfl,?_⟩
  exact ⟨l,us,ws,rfl,hl,hw,ok,hd,hn,h1,q⟩
def zm6:W->Bool
 | .txt _=>true
 | _=>false
def zm7:W->Bool
 | .lst _=>true
 | _=>false
def tnW:W->String
 | .num _=>"int"
 | .txt _=>"str"
 | .lst _=>"tuple"
theorem isiT (x:W):isi (tnW x) "tuple" = some (zm7 x):=match x with | .num _=>zcG | .txt _=>zbu | .lst _=>zbt
theorem isiS (x:W):isi (tnW x) "str" = some (zm6 x):=match x with | .num _=>zdq | .txt _=>za5 | .lst _=>zdp
theorem zay:bootBuiltins (Str.ofString "dict") = some (.type "dict"):=by kernel_rfl
inductive Res where
 | made (x:W)
 | wrong (ws:List W)
 | stop
inductive R where
 | mk (res:Res) (subs:List R)
def R.res:R->Res
 | .mk r _=>r
def Res.isMade:Res->Bool
 | .made _=>true
 | .wrong _=>false
 | .stop=>false
def Res.toW:Res->W
 | .made x=>.lst [.txt "made",x]
 | .wrong ws=>.lst (.txt "wrong" :: ws)
 | .stop=>.lst []
mutual
def R.toW:R->W
 | .mk r subs=>.lst [r.toW,.lst (toWs subs)]
def toWs:List R->List W
 | []=>[]
 | r :: l=>r.toW :: toWs l
end
theorem zgr:∀ l:List R,(toWs l).length = l.length
 | []=>rfl
 | _ :: l=>by simp only [toWs,List.length_cons,zgr l]
theorem ziJ:∀ (l:List R) (i:Nat),(toWs l)[i]? = (l[i]?).map R.toW
 | [],_=>by simp [toWs]
 | r :: l,0=>by simp [toWs]
 | r :: l,i + 1=>by simp only [toWs,List.getElem?_cons_succ]; exact ziJ l i
def RRes (K:PySem.W.Frag) (H:Hp) (v:V):Res->Prop
 | .made x=>∃ a u,v = .ref a/\SqT K H a [.str "made",u]/\RW H u x
 | .wrong ws=>RS K H v (.lst (.txt "wrong" :: ws))
 | .stop=>v = .non
theorem RRes.mono {K:PySem.W.Frag}{H H':Hp} (t:Same H H') {v:V}:∀ {r:Res},RRes K H v r->RRes K H' v r
 | .made _,⟨a,u,e1,e2,e3⟩=>⟨a,u,e1,t.seqT e2,e3.mono (zC t)⟩
 | .wrong _,h=>RS.mono t h
 | .stop,h=>h
theorem RRes.rs {K:PySem.W.Frag}{H:Hp}{v:V}:∀ {r:Res},r≠.stop->RRes K H v r->RS K H v r.toW
 | .made _,_,⟨a,u,e1,e2,e3⟩=>by rw [e1]; exact RS.two e2 (.txt _) e3.toRS
 | .wrong _,_,h=>h
 | .stop,n,_=>absurd rfl n
theorem RRes.word {K:PySem.W.Frag}{H:Hp}{v:V}:∀ {r:Res},r≠.stop->RRes K H v r->∃ a us,v = .ref a/\SqT K H a (.str (if r.isMade then "made" else "wrong") :: us)
 | .stop,n,_=>absurd rfl n
 | .made _,_,⟨a,u,e1,e2,e3⟩=>⟨a,[u],e1,e2⟩
 | .wrong ws,_,h=>by
  have h:RS K H v (.lst (.txt "wrong" :: ws)):=h
  cases h with
  | @lst a vs _ e l at'=>
   match vs,l with
   | u :: us,_=>
    have:=at' 0 u _ rfl rfl
    cases this
    exact ⟨a,us,rfl,e⟩
inductive RR (K:PySem.W.Frag) (H:Hp):V->R->Prop where
 | mk {a b:Addr}{rv:V}{vs:List V}{res:Res}{rs:List R}:H a = some (.tup [rv,.ref b])->RRes K H rv res->H b = some (.tup vs)->vs.length = rs.length->(∀ (i:Nat) (v:V) (r:R),vs[i]? = some v->rs[i]? = some r->RR K H v r)->RR K H (.ref a) (.mk res rs)
theorem RR.mono {K:PySem.W.Frag}{H H':Hp} (t:Same H H') {v:V}{r:R} (h:RR K H v r):RR K H' v r:=by
 induction h with
 | mk e1 e2 e3 l _ ih=>exact .mk (t _ _ e1) (e2.mono t) (t _ _ e3) l ih
structure RRs (K:PySem.W.Frag) (H:Hp) (vs:List V) (rs:List R):Prop where
 len:vs.length = rs.length
 at':∀ (i:Nat) (v:V) (r:R),vs[i]? = some v->rs[i]? = some r->RR K H v r
theorem RRs.mono {K:PySem.W.Frag}{H H':Hp} (t:Same H H') {vs:List V}{rs:List R} (h:RRs K H vs rs):RRs K H' vs rs:=⟨h.len,fun i v r a b=>(h.at' i v r a b).mono t⟩
theorem RRs.nil {K:PySem.W.Frag}{H:Hp}:RRs K H [] []:=⟨rfl,fun i v r e=>by simp at e⟩
theorem RRs.snoc {K:PySem.W.Frag}{H:Hp}{vs:List V}{rs:List R}{v:V}{r:R} (h:RRs K H vs rs) (x:RR K H v r):RRs K H (vs ++ [v]) (rs ++ [r]):=by
 refine ⟨by rw [List.length_append,List.length_append,h.len]; rfl,fun i v' r' a b=>?_⟩
 by_cases hi:i < vs.length
 ·rw [List.getElem?_append_left hi] at a
  rw [List.getElem?_append_left (by rw [← h.len]; exact hi)] at b
  exact h.at' i v' r' a b
 ·rw [List.getElem?_append_right (by omega)] at a
  rw [List.getElem?_append_right (by rw [← h.len]; omega),← h.len] at b
  have e0:i - vs.length = 0:=by
   have:=(List.getElem?_eq_some_iff.mp a).1
   simp at this
   omega
  rw [e0] at a b
  cases a
  cases b
  exact x
theorem RRs.one {K:PySem.W.Frag}{H:Hp}{v:V}{r:R} (x:RR K H v r):RRs K H [v] [r]:=RRs.nil.snoc x
theorem RRs.two {K:PySem.W.Frag}{H:Hp}{v v2:V}{r r2:R} (x:RR K H v r) (y:RR K H v2 r2):RRs K H [v,v2] [r,r2]:=(RRs.one x).snoc y
theorem RRs.rr {K:PySem.W.Frag}{H:Hp}{a b:Addr}{rv:V}{vs:List V}{res:Res}{rs:List R} (h:RRs K H vs rs) (e1:H a = some (.tup [rv,.ref b])) (e2:RRes K H rv res) (e3:H b = some (.tup vs)):RR K H (.ref a) (.mk res rs):=.mk e1 e2 e3 h.len h.at'
theorem RR.res {K:PySem.W.Frag}{H:Hp}{v:V}{r:R} (h:RR K H v r):∃ a b rv,v = .ref a/\H a = some (.tup [rv,.ref b])/\RRes K H rv r.res:=by
 cases h with
 | @mk a b rv vs res rs e1 e2 e3 l at'=>exact ⟨a,b,rv,rfl,e1,e2⟩
def kvsB:List (Key × V):=[(.inr "let",.int 1),(.inr "each",.int 1),(.inr "over",.int 2)]
def kvsP:List (Key × V):=[(.inr "let",.int 2),(.inr "if",.int 3),(.inr "+",.int 2),(.inr "-",.int 2),(.inr "*",.int 2),(.inr "/",.int 2),(.inr "same",.int 2),(.inr "less",.int 2),(.inr "join",.int 2),(.inr "item",.int 2),(.inr "count",.int 1),(.inr "figures",.int 1),(.inr "each",.int 2),(.inr "over",.int 3),(.inr "look",.int 1),(.inr "else",.int 2),(.inr "cry",.int 1)]
def zdv:Sp:=fun vs H Q _=>∃ d:Wd,vs = [.str (wdS d)]/\Q (.bl true) H
def zgs:Sp:=fun vs H Q _=>∃ d:Wd,vs = [.str (wdS d)]/\Q (.int 0) H
def zeY:Sp:=fun vs H Q _=>∃ (a:Addr) (d:Wd) (us:List V),vs = [.ref a]/\H a = some (.tup (.str (wdS d) :: us))/\us.length<=100/\∀ (l:Addr) (H':Hp),Same H H'->H' l = some (.lst us)->H l = none->Q (.ref l) H'
def ZZ (K:PySem.W.Frag):Sp:=fun vs H Q _=>∃ (v:V) (r:R),vs = [v]/\RR K H v r/\Q (.bl r.res.isMade) H
def ZI (K:PySem.W.Frag):Sp:=fun vs H Q _=>∃ (v:V) (r:R) (x:W),vs = [v]/\RR K H v r/\r.res = .made x/\∀ u,RW H u x->Q u H
def zaa (K:PySem.W.Frag):Sp:=fun vs H Q _=>∃ (l:Addr) (us:List V) (rs:List R) (r:R),vs = [.ref l]/\H l = some (.lst us)/\RRs K H us rs/\rs.getLast? = some r/\∀ (v:V) (H':Hp),Same H H'->RR K H' v (.mk r.res rs)->Q v H'
def ziK:Sp:=fun vs H Q _=>∃ (bd:Addr) (z:Str) (u:V) (kvs:List (Key × V)),vs = [.ref bd,.str z,u]/\H bd = some (.dK kvs)/\kvs.length<=1000/\∀ (p:Addr) (H':Hp),Same H H'->H' p = some (.dK (putK kvs (.inr z) u))->Q (.ref p) H'
theorem zcZ {us:List V}{v:V} (e:us[us.length - 1]? = some v) (h:0 < us.length):atI us (-1) = some v:=by
 have h1:=zal e
 rw [show us.length - 1 + 1 = us.length by omega,List.take_length] at h1
 rw [h1]
 exact zcl _ _
theorem zeZ:FnScope ["word"] ["word"] (zn zbf):=mkSc rfl (by decide +kernel)
theorem ze0 (F:Fun K "has_parts" "has_parts" zbf f fd) {g_PARTS:Addr} (m_PARTS:mg "PARTS" = some (.ref g_PARTS)) (d_PARTS:MD P w K g_PARTS kvsP):FnOk P w K mg base CX0 (k + 1) f fd ["word"] (zdv):=by
 refine F.okQ zeZ (by rintro _ _ _ _ ⟨_,rfl,_⟩; rfl) fun cdv A outer s H vs Q E hr h=>?_
 obtain ⟨d,rfl,q⟩:=h
 refine ⟨_,(zl (zq (zk9 (zY Za (pv 0) zo (nomark _)) (zap (zY zkV (pv 0) (zX (v:=.ref g_PARTS) rfl m_PARTS rfl) (by rfl)))))),?_⟩
 refine ⟨_,rfl,rfl,_,rfl,?_⟩
 refine ite2 (fun e=>?_) (fun e=>?_)
 ·exact q
 refine ⟨_,rfl,g_PARTS,kvsP,.inr (wdS d),rfl,rfl,d_PARTS,?_⟩
 have hs:(valV kvsP (.inr (wdS d))).isSome = true:=by
  cases d
  case list=>exact absurd rfl e
  all_goals rfl
 rw [hs]
 exact q
theorem zca:FnScope ["word"] ["word"] (zn zam):=mkSc rfl (by decide +kernel)
theorem zcb (F:Fun K "binding_count" "binding_count" zam f fd) {g_BINDING:Addr} (m_BINDING:mg "BINDING" = some (.ref g_BINDING)) (d_BINDING:MD P w K g_BINDING kvsB):FnOk P w K mg base CX0 (k + 1) f fd ["word"] (zgs):=by
 refine F.okQ zca (by rintro _ _ _ _ ⟨_,rfl,_⟩; rfl) fun cdv A outer s H vs Q E hr h=>?_
 obtain ⟨d,rfl,q⟩:=h
 refine ⟨_,(zl (zq (zd4 (zX (v:=.ref g_BINDING) rfl m_BINDING rfl) (pv 0) zj ⟨rfl,rfl,rfl,rfl⟩))),?_⟩
 refine ⟨g_BINDING,kvsB,rfl,d_BINDING,_,rfl,.inr (wdS d),rfl,?_⟩
 have hs:valV kvsB (.inr (wdS d)) = none:=by cases d <;> rfl
 rw [hs]
 exact q
theorem zc0:FnScope ["expression","word"] ["expression"] (zn zbP):=mkSc rfl (by decide +kernel)
theorem zfP (F:Fun K "parts_of" "parts_of" zbP f fd) (G_binding_count:Have P w K mg base "binding_count" k ["word"] (zgs)) (G_has_parts:Have P w K mg base "has_parts" k ["word"] (zdv)) (m_list:mg "list" = none):FnOk P w K mg base CX0 (k + 1) f fd ["expression"] (zeY):=by
 refine F.okQ zc0 (by rintro _ _ _ _ ⟨_,_,_,rfl,_⟩; rfl) fun cdv A outer s H vs Q E hr h=>?_
 obtain ⟨a,d,us,rfl,ha,hl,q⟩:=h
 refine ⟨_,(zi (zw (i:=1) zc0.nd rfl (Or.inl rfl) (zD zS (pv 0) zj (fun _ _=>rfl)))
  (zi (zJ (Zh (zQ (zt G_has_parts hr rfl (zc (pv 1) zd)))) (zl (zq (zL zd))) zx)
  (zl (zq (zE Zr rfl m_list ZU (zc (ZX zkD (pv 0) (zag (zF Ze zj (zt G_binding_count hr rfl (zc (pv 1) zd)))) zaF) zd)))))),?_⟩
 refine ⟨_,rfl,a,_,0,_,rfl,rfl,SqT.of ha,zG (j:=0) rfl,?_⟩
 refine ⟨_,rfl,d,rfl,_,rfl,iteF ?_⟩
 refine ⟨_,rfl,_,rfl,d,rfl,_,_,rfl,rfl,_,rfl,a,_,rfl,SqT.of ha,?_,fun p hp=>?_⟩
 ·intro h
  have h1:HT.sIx (V.str (wdS d) :: us).length 0 (some ((1:Nat):Int)) = 0:=h.1
  rw [HT.sIx_nat,List.length_cons] at h1
  omega
 have e:cutV (V.str (wdS d) :: us) (some (1 + 0)) none = us:=by
  show ((V.str (wdS d) :: us).drop (HT.sIx (V.str (wdS d) :: us).length 0 (some ((1:Nat):Int)))).take ((V.str (wdS d) :: us).length - HT.sIx (V.str (wdS d) :: us).length 0 (some ((1:Nat):Int))) = us
  rw [HT.sIx_nat,List.length_cons,show min 1 (us.length + 1) = 1 by omega]
  simp
 have s1:=Same.new (o:=.tup (cutV (V.str (wdS d) :: us) (some (1 + 0)) none)) hp
 refine ⟨p,us,rfl,.inr (SqT.of (by rw [zh]; exact congrArg _ (congrArg _ e))),fun l hl=>q l _ (s1.trans (Same.new hl)) zh (s1.free hl)⟩
theorem zhh:FnScope ["record"] ["record"] (zn zcM):=mkSc rfl (by decide +kernel)
theorem zhi (F:Fun K "is_made" "is_made" zcM f fd):FnOk P w K mg base CX0 (k + 1) f fd ["record"] (ZZ K):=by
 refine F.okQ zhh (by rintro _ _ _ _ ⟨_,_,rfl,_⟩; rfl) fun cdv A outer s H vs Q E hr h=>?_
 obtain ⟨v,r,rfl,rr,q⟩:=h
 refine ⟨_,(zl (zq (Z5 (zeo (zdH (zD zS (pv 0) zj (fun _ _=>rfl)))) (zap (zY Za (zD zS (zD zS (pv 0) zj (fun _ _=>rfl)) zj (fun _ _=>rfl)) zo (nomark _)))))),?_⟩
 obtain ⟨a,b,rv,rfl,ea,rres⟩:=rr.res
 by_cases hst:r.res = .stop
 ·rw [hst] at rres q
  obtain rfl:rv = .non:=rres
  exact ⟨_,rfl,a,_,0,_,rfl,rfl,SqT.of ea,rfl,_,rfl,iteF q⟩
 obtain ⟨c,us,rfl,ec⟩:=rres.word hst
 refine ⟨_,rfl,a,_,0,_,rfl,rfl,SqT.of ea,rfl,?_⟩
 refine ⟨_,rfl,iteT ⟨_,rfl,a,_,0,_,rfl,rfl,SqT.of ea,rfl,c,_,0,_,rfl,rfl,ec,zG (j:=0) rfl,rfl,?_⟩⟩
 cases hm:r.res.isMade with
 | true=>rw [hm] at q; exact q
 | false=>rw [hm] at q; exact q
theorem zfQ:FnScope ["record"] ["record"] (zn zbQ):=mkSc rfl (by decide +kernel)
theorem zfR (F:Fun K "worth_of" "worth_of" zbQ f fd):FnOk P w K mg base CX0 (k + 1) f fd ["record"] (ZI K):=by
 refine F.okQ zfQ (by rintro _ _ _ _ ⟨_,_,_,rfl,_⟩; rfl) fun cdv A outer s H vs Q E hr h=>?_
 obtain ⟨v,r,x,rfl,rr,e,q⟩:=h
 refine ⟨_,(zl (zq (zD zS (zD zS (pv 0) zj (fun _ _=>rfl)) zj (fun _ _=>rfl)))),?_⟩
 obtain ⟨a,b,rv,rfl,ea,rres⟩:=rr.res
 rw [e] at rres
 obtain ⟨c,u,rfl,ec,ru⟩:=rres
 exact ⟨_,rfl,a,_,0,_,rfl,rfl,SqT.of ea,rfl,c,_,1,_,rfl,rfl,ec,rfl,q u ru⟩
theorem zhj:FnScope ["records"] ["records"] (zn zcN):=mkSc rfl (by decide +kernel)
theorem zhk (F:Fun K "as_last" "as_last" zcN f fd) (m_tuple:mg "tuple" = none):FnOk P w K mg base CX0 (k + 1) f fd ["records"] (zaa K):=by
 refine F.okQ zhj (by rintro _ _ _ _ ⟨_,_,_,_,rfl,_⟩; rfl) fun cdv A outer s H vs Q E hr h=>?_
 obtain ⟨l,us,rs,r,rfl,hl,hrs,hr',q⟩:=h
 refine ⟨_,(zl (zq (zA (zc (zD zS (zD zy (pv 0) (zdd zbZ zj) (fun _ _=>rfl)) zj (fun _ _=>rfl)) (zc (zE zN rfl m_tuple zI (zc (pv 0) zd)) zd))))),?_⟩
 have hne:rs≠[]:=fun z=>by rw [z] at hr'; cases hr'
 have hn:0 < rs.length:=List.length_pos_iff.mpr hne
 have hl':=hrs.len
 have e1:us[us.length - 1]? = some us[us.length - 1]:=List.getElem?_eq_getElem (by omega)
 have e2:rs[us.length - 1]? = some r:=by rw [hl',← List.getLast?_eq_getElem?]; exact hr'
 have rr:=hrs.at' _ _ _ e1 e2
 obtain ⟨a,b,rv,ev,ea,rres⟩:=rr.res
 refine ⟨_,rfl,_,rfl,l,us,-1,us[us.length - 1],rfl,rfl,SqL.of hl,zcZ e1 (by omega),a,_,0,_,ev,rfl,SqT.of ea,rfl,_,rfl,l,us,rfl,.inl ⟨SqL.of hl,fun t ht=>⟨zl2,fun a2 ha2=>?_⟩⟩⟩
 have s1:=Same.new (o:=.tup us) ht
 have s2:=Same.new (o:=.tup [rv,.ref t]) ha2
 have s3:=s1.trans s2
 exact q _ _ s3 ((hrs.mono s3).rr zh (rres.mono s3) (s2 _ _ zh))
theorem zdw:FnScope ["bound","name","worth","inner"] ["bound","name","worth"] (zn zcO):=mkSc rfl (by decide +kernel)
theorem zhl (F:Fun K "binding" "binding" zcO f fd) (m_dict:mg "dict" = none):FnOk P w K mg base CX0 (k + 1) f fd ["bound","name","worth"] (ziK):=by
 refine F.okQ zdw (by rintro _ _ _ _ ⟨_,_,_,_,rfl,_⟩; rfl) fun cdv A outer s H vs Q E hr h=>?_
 obtain ⟨bd,z,u,kvs,rfl,hb,hk,q⟩:=h
 refine ⟨_,(zi (zw (i:=3) zdw.nd rfl (Or.inl rfl) (zE zaq rfl m_dict zay (zc (pv 0) zd)))
  (zi (zbJ (zcB hr) (pv 3) (pv 1) (pv 2) rfl)
  (zl (zq (pv 3))))),?_⟩
 refine ⟨_,rfl,bd,kvs,rfl,hb,fun p hp=>?_⟩
 refine ⟨_,rfl,_,rfl,_,rfl,p,_,rfl,DPut.k (k:=.inr z) zh (Nat.lt_of_le_of_lt hk (by decide)),_,rfl,q _ _ (fun c o e=>?_) zh⟩
 rw [zr (zm e hp),zr (zm e hp)]
 exact e
abbrev Env:=Str->Option W
abbrev Ns:=List Str
def put (e:Env) (s:Str) (x:W):Env:=fun t=>if t = s then some x else e t
inductive Ex where
 | lit (x:W)
 | var (s:Str)
 | letE (s:Str) (a b:Ex)
 | ifE (a b c:Ex)
 | elseE (a b:Ex)
 | cryE (a:Ex)
 | lookE (a:Ex)
 | reck (d:Wd) (es:List Ex)
 | eachE (s:Str) (a b:Ex)
mutual
def Ex.toW:Ex->W
 | .lit x=>.lst [.txt "lit",x]
 | .var s=>.lst [.txt "var",.txt s]
 | .letE s a b=>.lst [.txt "let",.txt s,a.toW,b.toW]
 | .ifE a b c=>.lst [.txt "if",a.toW,b.toW,c.toW]
 | .elseE a b=>.lst [.txt "else",a.toW,b.toW]
 | .cryE a=>.lst [.txt "cry",a.toW]
 | .lookE a=>.lst [.txt "look",a.toW]
 | .reck d es=>.lst (.txt (wdS d) :: exWs es)
 | .eachE s a b=>.lst [.txt "each",.txt s,a.toW,b.toW]
def exWs:List Ex->List W
 | []=>[]
 | e :: es=>e.toW :: exWs es
end
mutual
def Ex.high:Ex->Nat
 | .lit _=>1
 | .var _=>1
 | .letE _ a b=>1 + max a.high b.high
 | .ifE a b c=>1 + max a.high (max b.high c.high)
 | .elseE a b=>1 + max a.high b.high
 | .cryE a=>1 + a.high
 | .lookE a=>1 + a.high
 | .reck _ es=>1 + highs es
 | .eachE _ a b=>1 + max a.high b.high
def highs:List Ex->Nat
 | []=>0
 | e :: es=>max e.high (highs es)
end
def zbl:W->Res
 | .lst [_,x]=>.made x
 | .lst (_ :: ws)=>.wrong ws
 | _=>.wrong []
def R.worth:R->W
 | .mk (.made x) _=>x
 | .mk _ _=>.num 0
def zK (f:W->Ns->R × Ns):List W->Ns->List R × Ns
 | [],ns=>([],ns)
 | w :: ws,ns=>if (f w ns).1.res.isMade then ((f w ns).1 :: (zK f ws (f w ns).2).1,(zK f ws (f w ns).2).2) else ([(f w ns).1],(f w ns).2)
def zb1 (f:W->Ns->R × Ns) (p:W->Ns->Prop):List W->Ns->Prop
 | [],_=>True
 | w :: ws,ns=>p w ns/\((f w ns).1.res.isMade = true->zb1 f p ws (f w ns).2)
def zaQ (l:List R) (r:R):R:=(l.getLast?).getD r
def Zm (l:List R):Bool:=l.all fun r=>r.res.isMade
def found (fs:List Res) (n:Nat):Res:=(fs[n]?).getD .stop
section
variable (fs:List Res)
mutual
def ev:Ex->Env->Ns->R × Ns
 | .lit x,_,ns=>(.mk (.made x) [],ns)
 | .var s,e,ns=>(.mk (.made ((e s).getD (.num 0))) [],ns)
 | .letE s a b,e,ns=>match (ev a e ns).1.res with
  | .made x=>(.mk (ev b (put e s x) (ev a e ns).2).1.res [(ev a e ns).1,(ev b (put e s x) (ev a e ns).2).1],(ev b (put e s x) (ev a e ns).2).2)
  | r=>(.mk r [(ev a e ns).1],(ev a e ns).2)
 | .ifE a b c,e,ns=>match (ev a e ns).1.res with
  | .made (.num i)=>if i = 0 then (.mk (ev c e (ev a e ns).2).1.res [(ev a e ns).1,(ev c e (ev a e ns).2).1],(ev c e (ev a e ns).2).2) else (.mk (ev b e (ev a e ns).2).1.res [(ev a e ns).1,(ev b e (ev a e ns).2).1],(ev b e (ev a e ns).2).2)
  | .made _=>(.mk (.wrong [.txt "kind",.txt ""]) [(ev a e ns).1],(ev a e ns).2)
  | r=>(.mk r [(ev a e ns).1],(ev a e ns).2)
 | .elseE a b,e,ns=>match (ev a e ns).1.res with
  | .wrong _=>(.mk (ev b e (ev a e ns).2).1.res [(ev a e ns).1,(ev b e (ev a e ns).2).1],(ev b e (ev a e ns).2).2)
  | r=>(.mk r [(ev a e ns).1],(ev a e ns).2)
 | .cryE a,e,ns=>match (ev a e ns).1.res with
  | .made x=>(.mk (.wrong [.txt "cried",x]) [(ev a e ns).1],(ev a e ns).2)
  | r=>(.mk r [(ev a e ns).1],(ev a e ns).2)
 | .lookE a,e,ns=>match (ev a e ns).1.res with
  | .made (.txt s)=>(.mk (found fs (ev a e ns).2.length) [(ev a e ns).1],(ev a e ns).2 ++ [s])
  | .made _=>(.mk (.wrong [.txt "kind",.txt ""]) [(ev a e ns).1],(ev a e ns).2)
  | r=>(.mk r [(ev a e ns).1],(ev a e ns).2)
 | .reck d es,e,ns=>if Zm (evs es e ns).1 then (.mk (zbl (recW d ((evs es e ns).1.map R.worth))) (evs es e ns).1,(evs es e ns).2) else (.mk (zaQ (evs es e ns).1 (.mk (.made (.num 0)) [])).res (evs es e ns).1,(evs es e ns).2)
 | .eachE s a b,e,ns=>match (ev a e ns).1.res with
  | .made (.lst ws)=>if ws.length > 10 then (.mk (.wrong [.txt "great",.txt ""]) [(ev a e ns).1],(ev a e ns).2) else
    if Zm (zK (fun w m=>ev b (put e s w) m) ws (ev a e ns).2).1 then (.mk (zbl (Z4 (.lst ((zK (fun w m=>ev b (put e s w) m) ws (ev a e ns).2).1.map R.worth)))) ((ev a e ns).1 :: (zK (fun w m=>ev b (put e s w) m) ws (ev a e ns).2).1),(zK (fun w m=>ev b (put e s w) m) ws (ev a e ns).2).2)
    else (.mk (zaQ (zK (fun w m=>ev b (put e s w) m) ws (ev a e ns).2).1 (ev a e ns).1).res ((ev a e ns).1 :: (zK (fun w m=>ev b (put e s w) m) ws (ev a e ns).2).1),(zK (fun w m=>ev b (put e s w) m) ws (ev a e ns).2).2)
  | .made _=>(.mk (.wrong [.txt "kind",.txt ""]) [(ev a e ns).1],(ev a e ns).2)
  | r=>(.mk r [(ev a e ns).1],(ev a e ns).2)
def evs:List Ex->Env->Ns->List R × Ns
 | [],_,ns=>([],ns)
 | x :: xs,e,ns=>if (ev x e ns).1.res.isMade then ((ev x e ns).1 :: (evs xs e (ev x e ns).2).1,(evs xs e (ev x e ns).2).2) else ([(ev x e ns).1],(ev x e ns).2)
end
mutual
def Fine:Ex->Env->Ns->Prop
 | .lit _,_,_=>True
 | .var s,e,_=>∃ x,e s = some x
 | .letE s a b,e,ns=>Fine a e ns/\∀ x,(ev fs a e ns).1.res = .made x->Fine b (put e s x) (ev fs a e ns).2
 | .ifE a b c,e,ns=>Fine a e ns/\∀ i,(ev fs a e ns).1.res = .made (.num i)->(i≠0->Fine b e (ev fs a e ns).2)/\(i = 0->Fine c e (ev fs a e ns).2)
 | .elseE a b,e,ns=>Fine a e ns/\∀ w,(ev fs a e ns).1.res = .wrong w->Fine b e (ev fs a e ns).2
 | .cryE a,e,ns=>Fine a e ns
 | .lookE a,e,ns=>Fine a e ns/\(ev fs a e ns).2.length<=1000
 | .reck d es,e,ns=>es.length<=100/\Fines es e ns/\(Zm (evs fs es e ns).1 = true->Oks ((evs fs es e ns).1.map R.worth)/\depths ((evs fs es e ns).1.map R.worth)<=12/\(evs fs es e ns).1.length<=8/\arity d (evs fs es e ns).1.length)
 | .eachE s a b,e,ns=>Fine a e ns/\∀ ws,(ev fs a e ns).1.res = .made (.lst ws)->zb1 (fun w m=>ev fs b (put e s w) m) (fun w m=>Fine b (put e s w) m) ws (ev fs a e ns).2/\Ths ((zK (fun w m=>ev fs b (put e s w) m) ws (ev fs a e ns).2).1.map R.worth)/\depths ((zK (fun w m=>ev fs b (put e s w) m) ws (ev fs a e ns).2).1.map R.worth)<=12
def Fines:List Ex->Env->Ns->Prop
 | [],_,_=>True
 | x :: xs,e,ns=>Fine x e ns/\((ev fs x e ns).1.res.isMade = true->Fines xs e (ev fs x e ns).2)
end
end
def EnvR (H:Hp) (kvs:List (Key × V)) (e:Env):Prop:=∀ s x,e s = some x->∃ v,valV kvs (.inr s) = some v/\RW H v x
theorem EnvR.mono {H H':Hp}{kvs:List (Key × V)}{e:Env} (h:EnvR H kvs e) (s:Same H H'):EnvR H' kvs e:=fun z x hx=>let ⟨v,h1,h2⟩:=h z x hx; ⟨v,h1,h2.mono (zC s)⟩
theorem EnvR.put {H:Hp}{kvs:List (Key × V)}{e:Env} (h:EnvR H kvs e) {s:Str}{u:V}{x:W} (r:RW H u x):EnvR H (putK kvs (.inr s) u) (put e s x):=fun z y hy=>by
 unfold D.put at hy
 rw [zdJ]
 by_cases hz:z = s
 ·rw [if_pos hz] at hy
  cases hy
  exact ⟨u,by rw [if_pos (by rw [hz])],r⟩
 ·rw [if_neg hz] at hy
  obtain ⟨v,h1,h2⟩:=h z y hy
  exact ⟨v,by rw [if_neg (fun q=>hz (by simpa using q))]; exact h1,h2⟩
theorem RW.tup {H:Hp}{u:V}{ws:List W} (h:RW H u (.lst ws)):∃ a vs,u = .ref a/\H a = some (.tup vs)/\RWs H vs ws:=by
 cases h with
 | @lst a vs _ e l at'=>exact ⟨a,vs,rfl,e,l,at'⟩
theorem RWs.cons {H:Hp}{vs:List V}{x:W}{ws:List W} (h:RWs H vs (x :: ws)):∃ u us,vs = u :: us/\RW H u x/\RWs H us ws:=by
 match vs,h.len with
 | u :: us,hl=>exact ⟨u,us,rfl,h.at' 0 u x rfl rfl,by simpa using hl,fun i v w a b=>h.at' (i + 1) v w a b⟩
theorem RWs.nil' {H:Hp}{vs:List V} (h:RWs H vs []):vs = []:=List.length_eq_zero_iff.mp h.len
theorem RW.str {H:Hp}{u:V}{s:Str} (h:RW H u (.txt s)):u = .str s:=by cases h; rfl
def Kb (p:Addr) (H H':Hp):Prop:=∀ c o,c≠p->H c = some o->H' c = some o
theorem Kb.put {p:Addr}{H:Hp}{o:HO}:Kb p H (upd H p o):=fun c u hc e=>by rw [zr hc]; exact e
theorem Kb.seqT {K:PySem.W.Frag}{p:Addr}{H H':Hp}{ts:List V} (e:Kb p H H') (hp:H p = some (.lst ts)) {a:Addr}{xs:List V} (h:SqT K H a xs):SqT K H' a xs:=by
 rcases h with (h | ⟨o,h⟩) | h
 ·exact .inl (.inl (e _ _ (fun z=>by rw [z,hp] at h; cases h) h))
 ·exact .inl (.inr ⟨o,e _ _ (fun z=>by rw [z,hp] at h; cases h) h⟩)
 ·exact .inr h
theorem Kb.rs {K:PySem.W.Frag}{p:Addr}{H H':Hp}{ts:List V} (e:Kb p H H') (hp:H p = some (.lst ts)) {v:V}{w:W} (h:RS K H v w):RS K H' v w:=by
 induction h with
 | num i=>exact .num i
 | txt x=>exact .txt x
 | lst e1 l _ ih=>exact .lst (e.seqT hp e1) l ih
theorem Kb.tups {p:Addr}{H H':Hp}{ts:List V} (e:Kb p H H') (hp:H p = some (.lst ts)):Tups H H':=fun a vs h=>e _ _ (fun z=>by rw [z,hp] at h; cases h) h
theorem Kb.res {K:PySem.W.Frag}{p:Addr}{H H':Hp}{ts:List V} (e:Kb p H H') (hp:H p = some (.lst ts)) {v:V}:∀ {r:Res},RRes K H v r->RRes K H' v r
 | .made _,⟨a,u,e1,e2,e3⟩=>⟨a,u,e1,e.seqT hp e2,e3.mono (e.tups hp)⟩
 | .wrong _,h=>Kb.rs e hp h
 | .stop,h=>h
theorem Kb.rr {K:PySem.W.Frag}{p:Addr}{H H':Hp}{ts:List V} (e:Kb p H H') (hp:H p = some (.lst ts)) {v:V}{r:R} (h:RR K H v r):RR K H' v r:=by
 induction h with
 | mk e1 e2 e3 l _ ih=>exact .mk (e.tups hp _ _ e1) (e.res hp e2) (e.tups hp _ _ e3) l ih
theorem Kb.rrs {K:PySem.W.Frag}{p:Addr}{H H':Hp}{ts:List V} (e:Kb p H H') (hp:H p = some (.lst ts)) {vs:List V}{rs:List R} (h:RRs K H vs rs):RRs K H' vs rs:=⟨h.len,fun i v r a b=>e.rr hp (h.at' i v r a b)⟩
def fR (l1 l2:Addr):List (Str × V):=putF "names" (.ref l2) (putF "founds" (.ref l1) [])
theorem zbA (l1 l2:Addr):(fR l1 l2).lookup ("names":Str) = some (.ref l2):=by
 unfold fR
 rw [ZA,if_pos rfl]
theorem ze1 (l1 l2:Addr):(fR l1 l2).lookup ("founds":Str) = some (.ref l1):=by
 unfold fR
 rw [ZA,if_neg (by decide +kernel),ZA,if_pos rfl]
theorem zlU (l1 l2:Addr):(fR l1 l2).lookup ("look":Str) = none:=by
 unfold fR
 rw [ZA,if_neg (by decide +kernel),ZA,if_neg (by decide +kernel)]
 rfl
structure G (l:Addr) (H H':Hp):Prop where
 k:Kb l H H'
 l:∃ xs,H l = some (.lst xs)
structure Rn (K:PySem.W.Frag) (AR:Addr) (fs:List Res) (rp l1 l:Addr) (H:Hp) (ns:Ns):Prop where
 ins:∃ dx,H rp = some (.ins AR dx (fR l1 l))
 fo:∃ us,H l1 = some (.lst us)/\us.length = fs.length/\∀ (i:Nat) (u:V) (r:Res),us[i]? = some u->fs[i]? = some r->RRes K H u r
 na:H l = some (.lst (ns.map V.str))
 ne:l1≠l
 few:fs.length<=1000
section
variable {K:PySem.W.Frag}{AR rp l1 l:Addr}{fs:List Res}{H H1 H2:Hp}{ns:Ns}
theorem G.trans (a:G l H H1) (b:G l H1 H2):G l H H2:=⟨fun c o hc e=>b.k c o hc (a.k c o hc e),a.l⟩
theorem G.same (a:G l H H1) (b:Same H1 H2):G l H H2:=⟨fun c o hc e=>b c o (a.k c o hc e),a.l⟩
theorem Rn.g (r:Rn K AR fs rp l1 l H ns) (s:Same H H1):G l H H1:=⟨fun c o _ e=>s c o e,_,r.na⟩
theorem Rn.same (r:Rn K AR fs rp l1 l H ns) (s:Same H H1):Rn K AR fs rp l1 l H1 ns:=by
 obtain ⟨dx,e1⟩:=r.ins
 obtain ⟨us,e2,e3,e4⟩:=r.fo
 exact ⟨⟨dx,s _ _ e1⟩,⟨us,s _ _ e2,e3,fun i u r a b=>(e4 i u r a b).mono s⟩,s _ _ r.na,r.ne,r.few⟩
theorem G.ts (g:G l H H1):Tups H H1:=let ⟨_,e⟩:=g.l; g.k.tups e
theorem G.t (g:G l H H1) {a:Addr}{vs:List V} (e:H a = some (.tup vs)):H1 a = some (.tup vs):=g.ts a vs e
theorem G.d (g:G l H H1) {a:Addr}{kvs:List (Key × V)} (e:H a = some (.dK kvs)):H1 a = some (.dK kvs):=by
 obtain ⟨_,e'⟩:=g.l
 exact g.k _ _ (fun z=>by rw [z,e'] at e; cases e) e
theorem G.rr (g:G l H H1) {v:V}{r:R} (h:RR K H v r):RR K H1 v r:=let ⟨_,e⟩:=g.l; g.k.rr e h
theorem G.rrs (g:G l H H1) {vs:List V}{rs:List R} (h:RRs K H vs rs):RRs K H1 vs rs:=let ⟨_,e⟩:=g.l; g.k.rrs e h
theorem G.sq (g:G l H H1) {a:Addr}{xs:List V} (h:SqT K H a xs):SqT K H1 a xs:=let ⟨_,e⟩:=g.l; g.k.seqT e h
theorem G.env (g:G l H H1) {kvs:List (Key × V)}{e:Env} (h:EnvR H kvs e):EnvR H1 kvs e:=fun z x hx=>let ⟨v,h1,h2⟩:=h z x hx; ⟨v,h1,h2.mono g.ts⟩
end
def spG (K:PySem.W.Frag) (AR:Addr) (n:Nat) (pre:Ex->Prop):Sp:=fun vs H Q _=>∃ (fs:List Res) (rp l1 l:Addr) (u:V) (bd:Addr) (kvs:List (Key × V)) (e:Env) (x:Ex) (ns:Ns),vs = [.ref rp,u,.ref bd]/\Rn K AR fs rp l1 l H ns/\RW H u x.toW/\H bd = some (.dK kvs)/\kvs.length + 2 * n<=1000/\EnvR H kvs e/\x.high<=n/\Fine fs x e ns/\pre x /\
 ∀ (v:V) (H':Hp),G l H H'->Rn K AR fs rp l1 l H' (ev fs x e ns).2->RR K H' v (ev fs x e ns).1->Q v H'
def ziL (K:PySem.W.Frag) (AR:Addr):Sp:=fun vs H Q _=>∃ (fs:List Res) (rp l1 l:Addr) (z:Str) (ns:Ns),vs = [.ref rp,.str z]/\Rn K AR fs rp l1 l H ns/\ns.length<=1000/\∀ (v:V) (H':Hp),G l H H'->Rn K AR fs rp l1 l H' (ns ++ [z])->RRes K H' v (found fs ns.length)->Q v H'
section
variable {fs:List Res}{s t z:Str}{a b c:Ex}{e:Env}{ns:Ns}{x:W}{w:List W}{i:Int}
theorem zfS (h:(ev fs a e ns).1.res = .made x):ev fs (.letE s a b) e ns = (.mk (ev fs b (put e s x) (ev fs a e ns).2).1.res [(ev fs a e ns).1,(ev fs b (put e s x) (ev fs a e ns).2).1],(ev fs b (put e s x) (ev fs a e ns).2).2):=by rw [ev,h]
theorem zfT (h:(ev fs a e ns).1.res.isMade = false):ev fs (.letE s a b) e ns = (.mk (ev fs a e ns).1.res [(ev fs a e ns).1],(ev fs a e ns).2):=by
 rw [ev]
 cases hr:(ev fs a e ns).1.res with
 | made x=>rw [hr] at h; cases h
 | wrong ws=>rfl
 | stop=>rfl
theorem ziM (h:(ev fs a e ns).1.res.isMade = false):ev fs (.ifE a b c) e ns = (.mk (ev fs a e ns).1.res [(ev fs a e ns).1],(ev fs a e ns).2):=by
 rw [ev]
 cases hr:(ev fs a e ns).1.res with
 | made x=>rw [hr] at h; cases h
 | wrong ws=>rfl
 | stop=>rfl
theorem ziN (h:(ev fs a e ns).1.res = .made (.num 0)):ev fs (.ifE a b c) e ns = (.mk (ev fs c e (ev fs a e ns).2).1.res [(ev fs a e ns).1,(ev fs c e (ev fs a e ns).2).1],(ev fs c e (ev fs a e ns).2).2):=by rw [ev,h]; rfl
theorem ziO (h:(ev fs a e ns).1.res = .made (.num i)) (hi:i≠0):ev fs (.ifE a b c) e ns = (.mk (ev fs b e (ev fs a e ns).2).1.res [(ev fs a e ns).1,(ev fs b e (ev fs a e ns).2).1],(ev fs b e (ev fs a e ns).2).2):=by
 rw [ev,h]
 exact if_neg hi
theorem ze2 (h:(ev fs a e ns).1.res = .made x) (hx:Zu x = false):ev fs (.ifE a b c) e ns = (.mk (.wrong [.txt "kind",.txt ""]) [(ev fs a e ns).1],(ev fs a e ns).2):=by
 rw [ev,h]
 cases x with
 | num i=>cases hx
 | txt _=>rfl
 | lst _=>rfl
theorem zd8 (h:(ev fs a e ns).1.res = .wrong w):ev fs (.elseE a b) e ns = (.mk (ev fs b e (ev fs a e ns).2).1.res [(ev fs a e ns).1,(ev fs b e (ev fs a e ns).2).1],(ev fs b e (ev fs a e ns).2).2):=by rw [ev,h]
theorem za1 (h:∀ w,(ev fs a e ns).1.res≠.wrong w):ev fs (.elseE a b) e ns = (.mk (ev fs a e ns).1.res [(ev fs a e ns).1],(ev fs a e ns).2):=by
 rw [ev]
 cases hr:(ev fs a e ns).1.res with
 | made x=>rfl
 | wrong ws=>exact absurd hr (h ws)
 | stop=>rfl
theorem zfU (h:(ev fs a e ns).1.res = .made x):ev fs (.cryE a) e ns = (.mk (.wrong [.txt "cried",x]) [(ev fs a e ns).1],(ev fs a e ns).2):=by rw [ev,h]
theorem zfV (h:(ev fs a e ns).1.res.isMade = false):ev fs (.cryE a) e ns = (.mk (ev fs a e ns).1.res [(ev fs a e ns).1],(ev fs a e ns).2):=by
 rw [ev]
 cases hr:(ev fs a e ns).1.res with
 | made x=>rw [hr] at h; cases h
 | wrong ws=>rfl
 | stop=>rfl
theorem zd9 (h:(ev fs a e ns).1.res = .made (.txt z)):ev fs (.lookE a) e ns = (.mk (found fs (ev fs a e ns).2.length) [(ev fs a e ns).1],(ev fs a e ns).2 ++ [z]):=by rw [ev,h]
theorem zea (h:(ev fs a e ns).1.res.isMade = false):ev fs (.lookE a) e ns = (.mk (ev fs a e ns).1.res [(ev fs a e ns).1],(ev fs a e ns).2):=by
 rw [ev]
 cases hr:(ev fs a e ns).1.res with
 | made x=>rw [hr] at h; cases h
 | wrong ws=>rfl
 | stop=>rfl
theorem zbB (h:(ev fs a e ns).1.res = .made x) (hx:∀ z,x≠.txt z):ev fs (.lookE a) e ns = (.mk (.wrong [.txt "kind",.txt ""]) [(ev fs a e ns).1],(ev fs a e ns).2):=by
 rw [ev,h]
 cases x with
 | num i=>rfl
 | txt z=>exact absurd rfl (hx z)
 | lst _=>rfl
end
theorem ziP:FnScope ["run","expression","bound"] ["run","expression","bound"] (zn zdO):=mkSc rfl (by decide +kernel)
theorem ziQ (F:Fun K "go_lit" "go_lit" zdO f fd):FnOk P w K mg base CX0 (k + 1) f fd ["run","expression","bound"] (spG K ARun (n + 1) (fun x=>∃ y,x = .lit y)):=by
 refine F.okQ ziP (by rintro _ _ _ _ ⟨_,_,_,_,_,_,_,_,_,_,rfl,_⟩; rfl) fun cdv A outer s H vs Q E hr h=>?_
 obtain ⟨fs,rp,l1,l,u,bd,kvs,e,x,ns,rfl,rn,ru,hb,hk,he,hh,hf,⟨y,rfl⟩,q⟩:=h
 obtain ⟨a,vs,rfl,ea,hw⟩:=ru.tup
 obtain ⟨u0,us,rfl,r0,hw⟩:=hw.cons
 obtain ⟨u1,us,rfl,r1,hw⟩:=hw.cons
 cases hw.nil'
 refine ⟨_,(zl (zq (zA (zc (zA (zc zo (zc (zD zS (pv 1) zj (fun _ _=>rfl)) zd))) (zc (zA zd) zd))))),?_⟩
 refine ⟨_,rfl,a,_,1,_,rfl,rfl,SqT.of ea,rfl,zl2,fun p hp=>⟨zl0,fun p2 hp2=>⟨zl2,fun p3 hp3=>?_⟩⟩⟩
 have s1:=Same.new (o:=.tup [.str "made",u1]) hp
 have s2:=Same.new (o:=.tup []) hp2
 have s3:=Same.new (o:=.tup [.ref p,.ref p2]) hp3
 have s13:=(s1.trans s2).trans s3
 exact q _ _ (rn.g s13) (rn.same s13) (RRs.nil.rr zh ⟨p,u1,rfl,SqT.of ((s2.trans s3) _ _ zh),r1.mono (zC s13)⟩ (s3 _ _ zh))
theorem ziR:FnScope ["run","expression","bound"] ["run","expression","bound"] (zn zdP):=mkSc rfl (by decide +kernel)
theorem ziS (F:Fun K "go_var" "go_var" zdP f fd):FnOk P w K mg base CX0 (k + 1) f fd ["run","expression","bound"] (spG K ARun (n + 1) (fun x=>∃ s,x = .var s)):=by
 refine F.okQ ziR (by rintro _ _ _ _ ⟨_,_,_,_,_,_,_,_,_,_,rfl,_⟩; rfl) fun cdv A outer s H vs Q E hr h=>?_
 obtain ⟨fs,rp,l1,l,u,bd,kvs,e,x,ns,rfl,rn,ru,hb,hk,he,hh,hf,⟨z,rfl⟩,q⟩:=h
 obtain ⟨x0,hf⟩:∃ x,e z = some x:=by simpa only [Fine] using hf
 obtain ⟨a,vs,rfl,ea,hw⟩:=ru.tup
 obtain ⟨u0,us,rfl,r0,hw⟩:=hw.cons
 obtain ⟨u1,us,rfl,r1,hw⟩:=hw.cons
 cases hw.nil'
 cases r1.str
 obtain ⟨v,hv,rv⟩:=he z x0 hf
 refine ⟨_,(zl (zq (zA (zc (zA (zc zo (zc (zbb (zcB hr) (pv 2) (zD zS (pv 1) zj (fun _ _=>rfl)) (fun _ _=>rfl)) zd))) (zc (zA zd) zd))))),?_⟩
 refine ⟨_,rfl,_,rfl,a,_,1,_,rfl,rfl,SqT.of ea,rfl,bd,v,rfl,by rw [← hv]; exact DGet.k (k:=.inr z) hb,zl2,fun p hp=>⟨zl0,fun p2 hp2=>⟨zl2,fun p3 hp3=>?_⟩⟩⟩
 have s1:=Same.new (o:=.tup [.str "made",v]) hp
 have s2:=Same.new (o:=.tup []) hp2
 have s3:=Same.new (o:=.tup [.ref p,.ref p2]) hp3
 have s13:=(s1.trans s2).trans s3
 have hev:ev fs (.var z) e ns = (.mk (.made x0) [],ns):=by rw [ev,hf]; rfl
 rw [hev] at q
 exact q _ _ (rn.g s13) (rn.same s13) (RRs.nil.rr zh ⟨p,v,rfl,SqT.of ((s2.trans s3) _ _ zh),rv.mono (zC s13)⟩ (s3 _ _ zh))
theorem zc1:FnScope ["run","expression","bound","first","inner"] ["run","expression","bound"] (zn zdQ):=mkSc rfl (by decide +kernel)
theorem ziT (F:Fun K "go_let" "go_let" zdQ f fd) (G_as_last:Have P w K mg base "as_last" k ["records"] (zaa K)) (G_record_of:Have P w K mg base "record_of" k ["run","expression","bound"] (spG K ARun n (fun _=>True))) (G_binding:Have P w K mg base "binding" k ["bound","name","worth"] (ziK)) (G_worth_of:Have P w K mg base "worth_of" k ["record"] (ZI K)) (G_is_made:Have P w K mg base "is_made" k ["record"] (ZZ K)):FnOk P w K mg base CX0 (k + 1) f fd ["run","expression","bound"] (spG K ARun (n + 1) (fun x=>∃ s a b,x = .letE s a b)):=by
 refine F.okQ zc1 (by rintro _ _ _ _ ⟨_,_,_,_,_,_,_,_,_,_,rfl,_⟩; rfl) fun cdv A outer s H vs Q E hr h=>?_
 obtain ⟨fs,rp,l1,l,u,bd,kvs,e,x,ns,rfl,rn,ru,hb,hk,he,hh,hf,⟨z,A1,B1,rfl⟩,q⟩:=h
 rw [Ex.toW] at ru
 rw [Ex.high] at hh
 rw [Fine] at hf
 obtain ⟨a,vs,rfl,ea,hw⟩:=ru.tup
 obtain ⟨u0,us,rfl,r0,hw⟩:=hw.cons
 obtain ⟨u1,us,rfl,r1,hw⟩:=hw.cons
 obtain ⟨u2,us,rfl,r2,hw⟩:=hw.cons
 obtain ⟨u3,us,rfl,r3,hw⟩:=hw.cons
 cases hw.nil'
 cases r1.str
 refine ⟨_,(zi (zw (i:=3) zc1.nd rfl (Or.inl rfl) (zt G_record_of hr rfl (zc (pv 0) (zc (zD zS (pv 1) zj (fun _ _=>rfl)) (zc (pv 2) zd)))))
  (zi (zJ (Zh (zQ (zt G_is_made hr rfl (zc (pv 3) zd)))) (zl (zq (zt G_as_last hr rfl (zc (zL (zc (pv 3) zd)) zd)))) zx)
  (zi (zw (i:=4) zc1.nd rfl (Or.inl rfl) (zt G_binding hr rfl (zc (pv 2) (zc (zD zS (pv 1) zj (fun _ _=>rfl)) (zc (zt G_worth_of hr rfl (zc (pv 3) zd)) zd)))))
  (zl (zq (zt G_as_last hr rfl (zc (zL (zc (pv 3) (zc (zt G_record_of hr rfl (zc (pv 0) (zc (zD zS (pv 1) zj (fun _ _=>rfl)) (zc (pv 4) zd)))) zd))) zd))))))),?_⟩
 refine ⟨_,rfl,_,rfl,a,_,2,_,rfl,rfl,SqT.of ea,rfl,_,rfl,fs,rp,l1,l,u2,bd,kvs,e,A1,ns,rfl,rn,r2,hb,by omega,he,by omega,hf.1,trivial,fun v1 H1 g1 rn1 rr1=>?_⟩
 refine ⟨_,rfl,v1,(ev fs A1 e ns).1,rfl,rr1,_,rfl,?_⟩
 cases hm:(ev fs A1 e ns).1.res.isMade with
 | false=>
  refine iteT ⟨_,rfl,zl1,fun p hp=>?_⟩
  have s2:=Same.new (o:=.lst [v1]) hp
  rw [zfT hm] at q
  exact ⟨p,[v1],[(ev fs A1 e ns).1],(ev fs A1 e ns).1,rfl,zh,RRs.one (rr1.mono s2),rfl,fun v H' s3 rr=>q v H' (g1.same (s2.trans s3)) (rn1.same (s2.trans s3)) rr⟩
 | true=>
  obtain ⟨x,hres⟩:∃ x,(ev fs A1 e ns).1.res = .made x:=by
   cases hr:(ev fs A1 e ns).1.res with
   | made x=>exact ⟨x,rfl⟩
   | wrong _=>rw [hr] at hm; cases hm
   | stop=>rw [hr] at hm; cases hm
  rw [zfS hres] at q
  refine iteF ⟨_,rfl,_,rfl,a,_,1,_,rfl,rfl,SqT.of (g1.t ea),rfl,_,rfl,v1,(ev fs A1 e ns).1,x,rfl,rr1,hres,fun ux rx=>?_⟩
  refine ⟨bd,z,ux,kvs,rfl,g1.d hb,by omega,fun p H2 s2 hp=>?_⟩
  have g12:=g1.same s2
  have hl:=zaf kvs (.inr z) ux
  refine ⟨_,rfl,_,rfl,_,rfl,a,_,3,_,rfl,rfl,SqT.of (g12.t ea),rfl,_,rfl,fs,rp,l1,l,u3,p,_,put e z x,B1,_,rfl,rn1.same s2,r3.mono g12.ts,hp,by omega,((g12.env he).put (rx.mono (zC s2))),by omega,hf.2 x hres,trivial,fun v2 H3 g3 rn3 rr2=>⟨zl2,fun p4 hp4=>?_⟩⟩
  have s4:=Same.new (o:=.lst [v1,v2]) hp4
  exact ⟨p4,[v1,v2],[(ev fs A1 e ns).1,_],_,rfl,zh,RRs.two ((g3.rr (rr1.mono s2)).mono s4) (rr2.mono s4),rfl,fun v H' s5 rr=>q v H' ((g12.trans g3).same (s4.trans s5)) (rn3.same (s4.trans s5)) rr⟩
theorem ZJ {r:Res} (h:r.isMade = true):∃ x,r = .made x:=by
 cases r with
 | made x=>exact ⟨x,rfl⟩
 | wrong _=>cases h
 | stop=>cases h
theorem RW.tyW {K:PySem.W.Frag}{H:Hp}{v:V}{x:W} (h:RW H v x):TyOf K H v (.type (tnW x)):=by
 cases h with
 | num i=>exact .int i
 | txt z=>exact .str z
 | lst e _ _=>exact .tup e
theorem ze3:FnScope ["run","expression","bound","first"] ["run","expression","bound"] (zn zdR):=mkSc rfl (by decide +kernel)
theorem ziU (F:Fun K "go_cry" "go_cry" zdR f fd) (G_worth_of:Have P w K mg base "worth_of" k ["record"] (ZI K)) (G_is_made:Have P w K mg base "is_made" k ["record"] (ZZ K)) (G_as_last:Have P w K mg base "as_last" k ["records"] (zaa K)) (G_record_of:Have P w K mg base "record_of" k ["run","expression","bound"] (spG K ARun n (fun _=>True))):FnOk P w K mg base CX0 (k + 1) f fd ["run","expression","bound"] (spG K ARun (n + 1) (fun x=>∃ a,x = .cryE a)):=by
 refine F.okQ ze3 (by rintro _ _ _ _ ⟨_,_,_,_,_,_,_,_,_,_,rfl,_⟩; rfl) fun cdv A outer s H vs Q E hr h=>?_
 obtain ⟨fs,rp,l1,l,u,bd,kvs,e,x,ns,rfl,rn,ru,hb,hk,he,hh,hf,⟨A1,rfl⟩,q⟩:=h
 rw [Ex.toW] at ru
 rw [Ex.high] at hh
 rw [Fine] at hf
 obtain ⟨a,vs,rfl,ea,hw⟩:=ru.tup
 obtain ⟨u0,us,rfl,r0,hw⟩:=hw.cons
 obtain ⟨u1,us,rfl,r1,hw⟩:=hw.cons
 cases hw.nil'
 refine ⟨_,(zi (zw (i:=3) ze3.nd rfl (Or.inl rfl) (zt G_record_of hr rfl (zc (pv 0) (zc (zD zS (pv 1) zj (fun _ _=>rfl)) (zc (pv 2) zd)))))
  (zi (zJ (Zh (zQ (zt G_is_made hr rfl (zc (pv 3) zd)))) (zl (zq (zt G_as_last hr rfl (zc (zL (zc (pv 3) zd)) zd)))) zx)
  (zl (zq (zA (zc (zA (zc zo (zc zo (zc (zt G_worth_of hr rfl (zc (pv 3) zd)) zd)))) (zc (zA (zc (pv 3) zd)) zd))))))),?_⟩
 refine ⟨_,rfl,_,rfl,a,_,1,_,rfl,rfl,SqT.of ea,rfl,_,rfl,fs,rp,l1,l,u1,bd,kvs,e,A1,ns,rfl,rn,r1,hb,by omega,he,by omega,hf,trivial,fun v1 H1 g1 rn1 rr1=>?_⟩
 refine ⟨_,rfl,v1,(ev fs A1 e ns).1,rfl,rr1,_,rfl,?_⟩
 cases hm:(ev fs A1 e ns).1.res.isMade with
 | false=>
  refine iteT ⟨_,rfl,zl1,fun p hp=>?_⟩
  have s2:=Same.new (o:=.lst [v1]) hp
  rw [zfV hm] at q
  exact ⟨p,[v1],[(ev fs A1 e ns).1],(ev fs A1 e ns).1,rfl,zh,RRs.one (rr1.mono s2),rfl,fun v H' s3 rr=>q v H' (g1.same (s2.trans s3)) (rn1.same (s2.trans s3)) rr⟩
 | true=>
  obtain ⟨x,hres⟩:=ZJ hm
  rw [zfU hres] at q
  refine iteF ⟨_,rfl,v1,(ev fs A1 e ns).1,x,rfl,rr1,hres,fun ux rx=>⟨zl3,fun p hp=>⟨_,rfl,zl1,fun p2 hp2=>⟨zl2,fun p3 hp3=>?_⟩⟩⟩⟩
  have s2:=Same.new (o:=.tup [.str "wrong",.str "cried",ux]) hp
  have s3:=Same.new (o:=.tup [v1]) hp2
  have s4:=Same.new (o:=.tup [.ref p,.ref p2]) hp3
  have s24:=(s2.trans s3).trans s4
  refine q _ _ (g1.same s24) (rn1.same s24) ?_
  exact (RRs.one (rr1.mono s24)).rr zh (show RS K _ _ _ from RS.three (SqT.of ((s3.trans s4) _ _ zh)) (.txt _) (.txt _) (rx.mono (zC s24)).toRS) (s4 _ _ zh)
theorem zdx:FnScope ["run","expression","bound","first"] ["run","expression","bound"] (zn zcR):=mkSc rfl (by decide +kernel)
theorem zhm (F:Fun K "go_else" "go_else" zcR f fd) (G_as_last:Have P w K mg base "as_last" k ["records"] (zaa K)) (G_record_of:Have P w K mg base "record_of" k ["run","expression","bound"] (spG K ARun n (fun _=>True))) (G_is_made:Have P w K mg base "is_made" k ["record"] (ZZ K)):FnOk P w K mg base CX0 (k + 1) f fd ["run","expression","bound"] (spG K ARun (n + 1) (fun x=>∃ a b,x = .elseE a b)):=by
 refine F.okQ zdx (by rintro _ _ _ _ ⟨_,_,_,_,_,_,_,_,_,_,rfl,_⟩; rfl) fun cdv A outer s H vs Q E hr h=>?_
 obtain ⟨fs,rp,l1,l,u,bd,kvs,e,x,ns,rfl,rn,ru,hb,hk,he,hh,hf,⟨A1,B1,rfl⟩,q⟩:=h
 rw [Ex.toW] at ru
 rw [Ex.high] at hh
 rw [Fine] at hf
 obtain ⟨a,vs,rfl,ea,hw⟩:=ru.tup
 obtain ⟨u0,us,rfl,r0,hw⟩:=hw.cons
 obtain ⟨u1,us,rfl,r1,hw⟩:=hw.cons
 obtain ⟨u2,us,rfl,r2,hw⟩:=hw.cons
 cases hw.nil'
 refine ⟨_,(zi (zw (i:=3) zdx.nd rfl (Or.inl rfl) (zt G_record_of hr rfl (zc (pv 0) (zc (zD zS (pv 1) zj (fun _ _=>rfl)) (zc (pv 2) zd)))))
  (zi (zJ (PW.pt (zb6 (zbY (zcr (zD zS (pv 3) zj (fun _ _=>rfl)))) (zaR (zQ (zt G_is_made hr rfl (zc (pv 3) zd)))))) (zl (zq (zt G_as_last hr rfl (zc (zL (zc (pv 3) zd)) zd)))) zx)
  (zl (zq (zt G_as_last hr rfl (zc (zL (zc (pv 3) (zc (zt G_record_of hr rfl (zc (pv 0) (zc (zD zS (pv 1) zj (fun _ _=>rfl)) (zc (pv 2) zd)))) zd))) zd)))))),?_⟩
 refine ⟨_,rfl,_,rfl,a,_,1,_,rfl,rfl,SqT.of ea,rfl,_,rfl,fs,rp,l1,l,u1,bd,kvs,e,A1,ns,rfl,rn,r1,hb,by omega,he,by omega,hf.1,trivial,fun v1 H1 g1 rn1 rr1=>?_⟩
 obtain ⟨a1,b1,rv1,ev1,ea1,rres1⟩:=rr1.res
 subst ev1
 cases hres:(ev fs A1 e ns).1.res with
 | stop=>
  rw [hres] at rres1
  obtain rfl:rv1 = .non:=rres1
  refine ⟨_,rfl,a1,_,0,_,rfl,rfl,SqT.of ea1,rfl,_,rfl,iteT ?_⟩
  refine ⟨_,rfl,zl1,fun p hp=>?_⟩
  have s2:=Same.new (o:=.lst [.ref a1]) hp
  rw [za1 (fun w z=>by rw [hres] at z; cases z)] at q
  exact ⟨p,[.ref a1],[(ev fs A1 e ns).1],(ev fs A1 e ns).1,rfl,zh,RRs.one (rr1.mono s2),rfl,fun v H' s3 rr=>q v H' (g1.same (s2.trans s3)) (rn1.same (s2.trans s3)) rr⟩
 | made x=>
  obtain ⟨c1,us1,rfl,ec1⟩:=rres1.word (by rw [hres]; exact fun z=>nomatch z)
  refine ⟨_,rfl,a1,_,0,_,rfl,rfl,SqT.of ea1,rfl,_,rfl,iteF ⟨_,rfl,_,(ev fs A1 e ns).1,rfl,rr1,_,rfl,?_⟩⟩
  rw [hres]
  refine iteT ⟨_,rfl,zl1,fun p hp=>?_⟩
  have s2:=Same.new (o:=.lst [.ref a1]) hp
  rw [za1 (fun w z=>by rw [hres] at z; cases z)] at q
  exact ⟨p,[.ref a1],[(ev fs A1 e ns).1],(ev fs A1 e ns).1,rfl,zh,RRs.one (rr1.mono s2),rfl,fun v H' s3 rr=>q v H' (g1.same (s2.trans s3)) (rn1.same (s2.trans s3)) rr⟩
 | wrong ws=>
  obtain ⟨c1,us1,rfl,ec1⟩:=rres1.word (by rw [hres]; exact fun z=>nomatch z)
  refine ⟨_,rfl,a1,_,0,_,rfl,rfl,SqT.of ea1,rfl,_,rfl,iteF ⟨_,rfl,_,(ev fs A1 e ns).1,rfl,rr1,_,rfl,?_⟩⟩
  rw [hres]
  rw [zd8 hres] at q
  refine iteF ⟨_,rfl,_,rfl,_,rfl,a,_,2,_,rfl,rfl,SqT.of (g1.t ea),rfl,_,rfl,fs,rp,l1,l,u2,bd,kvs,e,B1,_,rfl,rn1,r2.mono g1.ts,g1.d hb,by omega,g1.env he,by omega,hf.2 ws hres,trivial,fun v2 H3 g3 rn3 rr2=>⟨zl2,fun p hp=>?_⟩⟩
  have s4:=Same.new (o:=.lst [.ref a1,v2]) hp
  exact ⟨p,[.ref a1,v2],[(ev fs A1 e ns).1,_],_,rfl,zh,RRs.two ((g3.rr rr1).mono s4) (rr2.mono s4),rfl,fun v H' s5 rr=>q v H' ((g1.trans g3).same (s4.trans s5)) (rn3.same (s4.trans s5)) rr⟩
theorem zeb:FnScope ["run","expression","bound","first","branch"] ["run","expression","bound"] (zn zfu):=mkSc rfl (by decide +kernel)
theorem zj6 (F:Fun K "go_if" "go_if" zfu f fd) (G_as_last:Have P w K mg base "as_last" k ["records"] (zaa K)) (G_record_of:Have P w K mg base "record_of" k ["run","expression","bound"] (spG K ARun n (fun _=>True))) (G_worth_of:Have P w K mg base "worth_of" k ["record"] (ZI K)) (G_is_number:Have P w K mg base "is_number" k ["thing"] (zcW)) (G_is_made:Have P w K mg base "is_made" k ["record"] (ZZ K)) {g_KIND:Addr} (m_KIND:mg "KIND" = some (.ref g_KIND)) (t_KIND:∀ H:Hp,SqT K H g_KIND [.str "wrong",.str "kind",.str ""]):FnOk P w K mg base CX0 (k + 1) f fd ["run","expression","bound"] (spG K ARun (n + 1) (fun x=>∃ a b c,x = .ifE a b c)):=by
 refine F.okQ zeb (by rintro _ _ _ _ ⟨_,_,_,_,_,_,_,_,_,_,rfl,_⟩; rfl) fun cdv A outer s H vs Q E hr h=>?_
 obtain ⟨fs,rp,l1,l,u,bd,kvs,e,x,ns,rfl,rn,ru,hb,hk,he,hh,hf,⟨A1,B1,C1,rfl⟩,q⟩:=h
 rw [Ex.toW] at ru
 rw [Ex.high] at hh
 rw [Fine] at hf
 obtain ⟨a,vs,rfl,ea,hw⟩:=ru.tup
 obtain ⟨u0,us,rfl,r0,hw⟩:=hw.cons
 obtain ⟨u1,us,rfl,r1,hw⟩:=hw.cons
 obtain ⟨u2,us,rfl,r2,hw⟩:=hw.cons
 obtain ⟨u3,us,rfl,r3,hw⟩:=hw.cons
 cases hw.nil'
 refine ⟨_,(zi (zw (i:=3) zeb.nd rfl (Or.inl rfl) (zt G_record_of hr rfl (zc (pv 0) (zc (zD zS (pv 1) zj (fun _ _=>rfl)) (zc (pv 2) zd)))))
  (zi (zJ (Zh (zQ (zt G_is_made hr rfl (zc (pv 3) zd)))) (zl (zq (zt G_as_last hr rfl (zc (zL (zc (pv 3) zd)) zd)))) zx)
  (zi (zJ (Zh (zQ (zt G_is_number hr rfl (zc (zt G_worth_of hr rfl (zc (pv 3) zd)) zd)))) (zl (zq (zA (zc (zX (v:=.ref g_KIND) rfl m_KIND rfl) (zc (zA (zc (pv 3) zd)) zd))))) zx)
  (zi (zw (i:=4) zeb.nd rfl (Or.inl rfl) (ZW (zB zjy (zt G_worth_of hr rfl (zc (pv 3) zd)) zj (nomark _)) (zD zS (pv 1) zj (fun _ _=>rfl)) (zD zS (pv 1) zj (fun _ _=>rfl))))
  (zl (zq (zt G_as_last hr rfl (zc (zL (zc (pv 3) (zc (zt G_record_of hr rfl (zc (pv 0) (zc (pv 4) (zc (pv 2) zd)))) zd))) zd)))))))),?_⟩
 refine ⟨_,rfl,_,rfl,a,_,1,_,rfl,rfl,SqT.of ea,rfl,_,rfl,fs,rp,l1,l,u1,bd,kvs,e,A1,ns,rfl,rn,r1,hb,by omega,he,by omega,hf.1,trivial,fun v1 H1 g1 rn1 rr1=>?_⟩
 refine ⟨_,rfl,v1,(ev fs A1 e ns).1,rfl,rr1,_,rfl,?_⟩
 cases hm:(ev fs A1 e ns).1.res.isMade with
 | false=>
  refine iteT ⟨_,rfl,zl1,fun p hp=>?_⟩
  have s2:=Same.new (o:=.lst [v1]) hp
  rw [ziM hm] at q
  exact ⟨p,[v1],[(ev fs A1 e ns).1],(ev fs A1 e ns).1,rfl,zh,RRs.one (rr1.mono s2),rfl,fun v H' s3 rr=>q v H' (g1.same (s2.trans s3)) (rn1.same (s2.trans s3)) rr⟩
 | true=>
  obtain ⟨x,hres⟩:=ZJ hm
  refine iteF ⟨_,rfl,v1,(ev fs A1 e ns).1,x,rfl,rr1,hres,fun ux rx=>⟨ux,x.toT,rfl,rx.toRT,_,rfl,?_⟩⟩
  rw [zeX]
  cases hn:Zu x with
  | false=>
   refine iteT ⟨_,rfl,zl1,fun p2 hp2=>⟨zl2,fun p3 hp3=>?_⟩⟩
   have s3:=Same.new (o:=.tup [v1]) hp2
   have s4:=Same.new (o:=.tup [.ref g_KIND,.ref p2]) hp3
   have s24:=s3.trans s4
   rw [ze2 hres hn] at q
   exact q _ _ (g1.same s24) (rn1.same s24) ((RRs.one (rr1.mono s24)).rr zh (show RS K _ _ _ from RS.three (t_KIND _) (.txt _) (.txt _) (.txt _)) (s4 _ _ zh))
  | true=>
   cases x with
   | txt _=>cases hn
   | lst _=>cases hn
   | num i=>
    have hfi:=hf.2 i hres
    refine iteF ⟨_,rfl,v1,(ev fs A1 e ns).1,.num i,rfl,rr1,hres,fun ux2 rx2=>?_⟩
    cases rx2
    refine ⟨rfl,_,rfl,?_⟩
    refine ite2 (fun c=>?_) (fun c=>?_)
    ·have hi:i≠0:=fun z=>by rw [z] at c; cases c
     rw [ziO hres hi] at q
     refine ⟨_,rfl,a,_,2,_,rfl,rfl,SqT.of (g1.t ea),rfl,?_⟩
     refine ⟨_,rfl,_,rfl,_,rfl,_,rfl,fs,rp,l1,l,u2,bd,kvs,e,B1,_,rfl,rn1,r2.mono g1.ts,g1.d hb,by omega,g1.env he,by omega,hfi.1 hi,trivial,fun v2 H3 g3 rn3 rr2=>⟨zl2,fun p hp=>?_⟩⟩
     have s4:=Same.new (o:=.lst [v1,v2]) hp
     exact ⟨p,[v1,v2],[(ev fs A1 e ns).1,_],_,rfl,zh,RRs.two ((g3.rr rr1).mono s4) (rr2.mono s4),rfl,fun v H' s5 rr=>q v H' ((g1.trans g3).same (s4.trans s5)) (rn3.same (s4.trans s5)) rr⟩
    ·have hi:i = 0:=by
      apply Classical.byContradiction
      intro z
      exact c (by rw [decide_eq_false (by simpa using z)]; rfl)
     subst hi
     rw [ziN hres] at q
     refine ⟨_,rfl,a,_,3,_,rfl,rfl,SqT.of (g1.t ea),rfl,?_⟩
     refine ⟨_,rfl,_,rfl,_,rfl,_,rfl,fs,rp,l1,l,u3,bd,kvs,e,C1,_,rfl,rn1,r3.mono g1.ts,g1.d hb,by omega,g1.env he,by omega,hfi.2 rfl,trivial,fun v2 H3 g3 rn3 rr2=>⟨zl2,fun p hp=>?_⟩⟩
     have s4:=Same.new (o:=.lst [v1,v2]) hp
     exact ⟨p,[v1,v2],[(ev fs A1 e ns).1,_],_,rfl,zh,RRs.two ((g3.rr rr1).mono s4) (rr2.mono s4),rfl,fun v H' s5 rr=>q v H' ((g1.trans g3).same (s4.trans s5)) (rn3.same (s4.trans s5)) rr⟩
theorem zfW:FnScope ["self","name"] ["self","name"] (zn zac):=mkSc rfl (by decide +kernel)
theorem zfX (F:Fun K "look" "Run.look" zac f fd) (m_len:mg "len" = none) (clR:Cls K ARun) (nF:Z6 K ARun "founds") (nN:Z6 K ARun "names"):FnOk P w K mg base CX0 (k + 1) f fd ["self","name"] (ziL K ARun):=by
 refine F.okQ zfW (by rintro _ _ _ _ ⟨_,_,_,_,_,_,rfl,_⟩; rfl) fun cdv A outer s H vs Q E hr h=>?_
 obtain ⟨fs,rp,l1,l,z,ns,rfl,rn,hns,q⟩:=h
 obtain ⟨dx,hins⟩:=rn.ins
 obtain ⟨us,e1,hlen,hres⟩:=rn.fo
 have na:=rn.na
 refine ⟨_,(zi (ZN (zb8 PySem.F.plainAttrs_list PySem.F.slot_list_append PySem.F.type_list_append zai (zae (pv 0) rfl) (zc (pv 1) zd)))
  (zi (zJ (zB zeq (zu zM rfl m_len PySem.boot_len (zc (zae (pv 0) rfl) zd)) (zu zM rfl m_len PySem.boot_len (zc (zae (pv 0) rfl) zd)) (nomark _)) (zl (zq zen)) zx)
  (zl (zq (zD zy (zae (pv 0) rfl) (zF Zf (zu zM rfl m_len PySem.boot_len (zc (zae (pv 0) rfl) zd)) zj) (fun _ _=>rfl)))))),?_⟩
 refine ⟨_,rfl,rp,ARun,dx,_,_,rfl,hins,clR,nN,zbA _ _,.inl ⟨rfl,_,SqL.of na⟩,_,rfl,l,_,.str z,rfl,rfl,na,zaj (by rw [List.length_map]; omega),?_⟩
 have kb:Kb l H (upd H l (.lst (ns.map V.str ++ [.str z]))):=Kb.put
 have na1:upd H l (.lst (ns.map V.str ++ [.str z])) l = some (.lst (ns.map V.str ++ [.str z])):=zh
 have hins1:=kb _ _ (fun c=>by rw [c,na] at hins; cases hins) hins
 have e11:=kb _ _ rn.ne e1
 have hres1:∀ (i:Nat) (u:V) (r:Res),us[i]? = some u->fs[i]? = some r->RRes K (upd H l (.lst (ns.map V.str ++ [.str z]))) u r:=fun i u r a b=>kb.res na (hres i u r a b)
 have g:G l H (upd H l (.lst (ns.map V.str ++ [.str z]))):=⟨kb,_,na⟩
 generalize upd H l (.lst (ns.map V.str ++ [.str z])) = H1 at na1 hins1 e11 hres1 g
 have rn1:Rn K ARun fs rp l1 l H1 (ns ++ [z]):=⟨⟨dx,hins1⟩,⟨us,e11,hlen,hres1⟩,by rw [na1,List.map_append]; rfl,rn.ne,rn.few⟩
 have hnl:(ns.map V.str ++ [V.str z]).length = ns.length + 1:=by simp
 refine ⟨_,rfl,rp,ARun,dx,_,_,rfl,hins1,clR,nN,zbA _ _,_,_,rfl,.inl ⟨_,SqL.of na1,rfl⟩,_,rfl,rp,ARun,dx,_,_,rfl,hins1,clR,nF,ze1 _ _,_,_,rfl,.inl ⟨_,SqL.of e11,rfl⟩,_,_,rfl,rfl,_,rfl,?_⟩
 by_cases hgt:fs.length < ns.length + 1
 ·rw [show decide (((us.length:Nat):Int) < (((ns.map V.str ++ [V.str z]).length:Nat):Int)) = true from decide_eq_true (by rw [hnl]; omega)]
  refine iteT (q _ _ g rn1 ?_)
  unfold found
  rw [List.getElem?_eq_none (by omega)]
  rfl
 ·rw [show decide (((us.length:Nat):Int) < (((ns.map V.str ++ [V.str z]).length:Nat):Int)) = false from decide_eq_false (by rw [hnl]; omega)]
  have hi:ns.length < us.length:=by omega
  have hi2:ns.length < fs.length:=by omega
  refine iteF ⟨_,rfl,rp,ARun,dx,_,_,rfl,hins1,clR,nF,ze1 _ _,_,rfl,rp,ARun,dx,_,_,rfl,hins1,clR,nN,zbA _ _,_,_,rfl,.inl ⟨_,SqL.of na1,rfl⟩,_,_,rfl,rfl,l1,us,_,us[ns.length],rfl,rfl,SqL.of e11,?_,q _ _ g rn1 ?_⟩
  ·rw [hnl,show (((ns.length + 1:Nat):Int) - 1) = (ns.length:Int) by omega]
   exact zG (List.getElem?_eq_getElem hi)
  ·unfold found
   rw [List.getElem?_eq_getElem hi2]
   exact hres1 ns.length _ _ (List.getElem?_eq_getElem hi) (List.getElem?_eq_getElem hi2)
theorem zdy:FnScope ["run","expression","bound","first"] ["run","expression","bound"] (zn zcQ):=mkSc rfl (by decide +kernel)
theorem zhn (F:Fun K "go_look" "go_look" zcQ f fd) (G_Run_look:zaI P w K mg base ARun "look" k ["self","name"] (ziL K ARun)) (G_worth_of:Have P w K mg base "worth_of" k ["record"] (ZI K)) (G_is_made:Have P w K mg base "is_made" k ["record"] (ZZ K)) (G_as_last:Have P w K mg base "as_last" k ["records"] (zaa K)) (G_record_of:Have P w K mg base "record_of" k ["run","expression","bound"] (spG K ARun n (fun _=>True))) (m_isi:mg "isinstance" = none) (m_str:mg "str" = none) {g_KIND:Addr} (m_KIND:mg "KIND" = some (.ref g_KIND)) (t_KIND:∀ H:Hp,SqT K H g_KIND [.str "wrong",.str "kind",.str ""]):FnOk P w K mg base CX0 (k + 1) f fd ["run","expression","bound"] (spG K ARun (n + 1) (fun x=>∃ a,x = .lookE a)):=by
 refine F.okQ zdy (by rintro _ _ _ _ ⟨_,_,_,_,_,_,_,_,_,_,rfl,_⟩; rfl) fun cdv A outer s H vs Q E hr h=>?_
 obtain ⟨fs,rp,l1,l,u,bd,kvs,e,x,ns,rfl,rn,ru,hb,hk,he,hh,hf,⟨A1,rfl⟩,q⟩:=h
 rw [Ex.toW] at ru
 rw [Ex.high] at hh
 rw [Fine] at hf
 obtain ⟨a,vs,rfl,ea,hw⟩:=ru.tup
 obtain ⟨u0,us,rfl,r0,hw⟩:=hw.cons
 obtain ⟨u1,us,rfl,r1,hw⟩:=hw.cons
 cases hw.nil'
 refine ⟨_,(zi (zw (i:=3) zdy.nd rfl (Or.inl rfl) (zt G_record_of hr rfl (zc (pv 0) (zc (zD zS (pv 1) zj (fun _ _=>rfl)) (zc (pv 2) zd)))))
  (zi (zJ (Zh (zQ (zt G_is_made hr rfl (zc (pv 3) zd)))) (zl (zq (zt G_as_last hr rfl (zc (zL (zc (pv 3) zd)) zd)))) zx)
  (zi (zJ (Zh (zQ (zu Zo rfl m_isi zO (zc (zt G_worth_of hr rfl (zc (pv 3) zd)) (zc (ZM rfl m_str ZH) zd))))) (zl (zq (zA (zc (zX (v:=.ref g_KIND) rfl m_KIND rfl) (zc (zA (zc (pv 3) zd)) zd))))) zx)
  (zl (zq (zA (zc (pe_m G_Run_look hr (pv 0) (zc (zt G_worth_of hr rfl (zc (pv 3) zd)) zd)) (zc (zA (zc (pv 3) zd)) zd)))))))),?_⟩
 refine ⟨_,rfl,_,rfl,a,_,1,_,rfl,rfl,SqT.of ea,rfl,_,rfl,fs,rp,l1,l,u1,bd,kvs,e,A1,ns,rfl,rn,r1,hb,by omega,he,by omega,hf.1,trivial,fun v1 H1 g1 rn1 rr1=>?_⟩
 refine ⟨_,rfl,v1,(ev fs A1 e ns).1,rfl,rr1,_,rfl,?_⟩
 cases hm:(ev fs A1 e ns).1.res.isMade with
 | false=>
  refine iteT ⟨_,rfl,zl1,fun p hp=>?_⟩
  have s2:=Same.new (o:=.lst [v1]) hp
  rw [zea hm] at q
  exact ⟨p,[v1],[(ev fs A1 e ns).1],(ev fs A1 e ns).1,rfl,zh,RRs.one (rr1.mono s2),rfl,fun v H' s3 rr=>q v H' (g1.same (s2.trans s3)) (rn1.same (s2.trans s3)) rr⟩
 | true=>
  obtain ⟨x,hres⟩:=ZJ hm
  have kindC:(∀ z,x≠.txt z)->∀ (p2 p3:Addr) (hp2:H1 p2 = none) (hp3:upd H1 p2 (.tup [v1]) p3 = none),Q (.ref p3) (upd (upd H1 p2 (.tup [v1])) p3 (.tup [.ref g_KIND,.ref p2])):=fun hx p2 p3 hp2 hp3=>by
   have s3:=Same.new (o:=.tup [v1]) hp2
   have s4:=Same.new (o:=.tup [.ref g_KIND,.ref p2]) hp3
   have s24:=s3.trans s4
   rw [zbB hres hx] at q
   exact q _ _ (g1.same s24) (rn1.same s24) ((RRs.one (rr1.mono s24)).rr zh (show RS K _ _ _ from RS.three (t_KIND _) (.txt _) (.txt _) (.txt _)) (s4 _ _ zh))
  refine iteF ⟨_,rfl,v1,(ev fs A1 e ns).1,x,rfl,rr1,hres,fun ux rx=>⟨_,_,_,_,rfl,rx.tyW,isiS _,_,rfl,?_⟩⟩
  cases x with
  | num i=>exact iteT ⟨_,rfl,zl1,fun p2 hp2=>⟨zl2,fun p3 hp3=>kindC (fun z c=>nomatch c) p2 p3 hp2 hp3⟩⟩
  | lst ws=>exact iteT ⟨_,rfl,zl1,fun p2 hp2=>⟨zl2,fun p3 hp3=>kindC (fun z c=>nomatch c) p2 p3 hp2 hp3⟩⟩
  | txt z=>
   rw [zd9 hres] at q
   obtain ⟨dx,hins⟩:=rn1.ins
   refine iteF ⟨_,rfl,rp,dx,_,rfl,hins,zlU _ _,_,rfl,v1,(ev fs A1 e ns).1,.txt z,rfl,rr1,hres,fun ux2 rx2=>?_⟩
   obtain rfl:=rx2.str
   refine ⟨fs,rp,l1,l,z,_,rfl,rn1,hf.2,fun v2 H2 g2 rn2 rres=>⟨_,rfl,zl1,fun p2 hp2=>⟨zl2,fun p3 hp3=>?_⟩⟩⟩
   have s3:=Same.new (o:=.tup [v1]) hp2
   have s4:=Same.new (o:=.tup [v2,.ref p2]) hp3
   have s24:=s3.trans s4
   exact q _ _ ((g1.trans g2).same s24) (rn2.same s24) ((RRs.one ((g2.rr rr1).mono s24)).rr zh (rres.mono s24) (s4 _ _ zh))
end
end D
namespace L2
open PySem
def iSeq (K:PySem.W.Frag) (tl:TE):TI:=fun σ H R=>zhz K tl σ H R\/iTup K tl σ H R
theorem zc2 {X:Cx}{tg l:Expr}{tl:TE} (hl:PE X l tl):PI X tg l (iSeq X.K tl):=fun zp s σ H R I h=>h.elim (fun h=>zat hl zp s σ H R I h) (fun h=>zep hl zp s σ H R I h)
theorem ze4 {K:PySem.W.Frag}{fr:List Nat}{te:TE}{σ:St}{H:Hp}{F:Addr->Hp->List V->Prop}{a:Addr}{vs:List V} (Pv:Nat->List V->Hp->Prop) (hS:SqL K H a vs) (hz:vs.length<=sizeLine) (h0:Pv 0 [] H) (hlen:∀ i us H1,Pv i us H1->us.length = i)
  (step:∀ (i:Nat) (v:V) (us:List V) (H1:Hp) (R:VK),vs[i]? = some v->Pv i us H1->Same H H1->(∀ y H2,Same H1 H2->Pv (i + 1) (us ++ [y]) H2->R y H2)->te (some v :: frees fr σ) H1 R)
  (fin:∀ (us:List V) (H1:Hp) (D:Addr),Pv vs.length us H1->Same H H1->H1 D = none->F D H1 us):
  ∃ W:Nat->Nat->List V->Hp->Prop,(∃ m,W 0 m [] H)/\∀ i m vs H,W i m vs H->vs.length<=sizeLine /\
   (((Itl K a).stop i H/\∀ D,H D = none->F D H vs) \/
    ((Itl K a).go i H/\∀ v H',(Itl K a).yld i H v H'->if true = true then te (some v :: frees fr σ) H' fun y H3=>∃ m',m' < m/\W (i + 1) m' (vs ++ [y]) H3 else ∃ m',m' < m/\W (i + 1) m' vs H')):=by
 refine ⟨fun i m us H1=>i<=vs.length/\m = vs.length - i/\Pv i us H1/\Same H H1,⟨_,Nat.zero_le _,rfl,h0,Same.refl _⟩,fun i m us H1 hW=>?_⟩
 obtain ⟨hi,hm,hu,sm⟩:=hW
 refine ⟨by rw [hlen _ _ _ hu]; omega,?_⟩
 by_cases hlt:i < vs.length
 ·refine .inr ⟨⟨vs,vs[i],sm.seq hS,List.getElem?_eq_getElem hlt⟩,fun v H' hy=>?_⟩
  obtain ⟨rfl,hv⟩:=hy
  have hv:=hv vs (sm.seq hS)
  refine iteT ?_
  exact step i v us H' _ hv hu sm fun y H2 s2 p2=>⟨vs.length - (i + 1),by omega,by omega,rfl,p2,sm.trans s2⟩
 ·have e:i = vs.length:=by omega
  subst e
  exact .inl ⟨⟨vs,sm.seq hS,by omega⟩,fun D hD=>fin us H1 D hu sm hD⟩
end L2
namespace D
open PySem L2
theorem zc2 {X:Cx}{tg l:Expr}{tl:TE} (hl:QE X l tl):QI X tg l (iSeq X.K tl):=⟨L2.zc2 hl.un⟩
theorem zfY:∀ (l:List Ex) (i:Nat),(exWs l)[i]? = (l[i]?).map Ex.toW
 | [],_=>by simp [exWs]
 | r :: l,0=>by simp [exWs]
 | r :: l,i + 1=>by simp only [exWs,List.getElem?_cons_succ]; exact zfY l i
theorem zec:∀ l:List Ex,(exWs l).length = l.length
 | []=>by simp [exWs]
 | _ :: l=>by simp only [exWs,List.length_cons,zec l]
theorem zc3 {x:Ex}:∀ {es:List Ex},x∈es->x.high<=highs es
 | y :: ys,h=>by
  rw [highs]
  rcases List.mem_cons.mp h with rfl | h
  ·omega
  ·have:=zc3 h; omega
theorem Zi (x:W):(∃ y,Z4 x = .lst [.txt "made",y])\/∃ p q,Z4 x = .lst [.txt "wrong",p,q]:=by
 unfold Z4
 split
 ·exact .inl ⟨_,rfl⟩
 ·exact .inr ⟨_,_,rfl⟩
theorem zbC {f:Int->Int->W} (hf:∀ a b,(∃ y,f a b = .lst [.txt "made",y])\/∃ p q,f a b = .lst [.txt "wrong",p,q]) (ws:List W):(∃ y,two f ws = .lst [.txt "made",y])\/∃ p q,two f ws = .lst [.txt "wrong",p,q]:=by
 unfold two
 split
 ·rename_i a b
  exact hf a b
 ·exact .inr ⟨.txt "kind",.txt "",rfl⟩
theorem zj7 (d:Wd) (ws:List W):(∃ y,recW d ws = .lst [.txt "made",y])\/∃ p q,recW d ws = .lst [.txt "wrong",p,q]:=by
 unfold recW
 split
 ·exact zbC (fun _ _=>Zi _) _
 ·exact zbC (fun _ _=>Zi _) _
 ·exact zbC (fun _ _=>Zi _) _
 ·refine zbC (fun _ _=>?_) _
  split
  ·exact .inr ⟨.txt "nought",.txt "",rfl⟩
  ·exact Zi _
 ·exact zbC (fun _ _=>.inl ⟨_,rfl⟩) _
 ·exact Zi _
 ·exact .inr ⟨.txt "kind",.txt "",rfl⟩
 ·exact .inl ⟨_,rfl⟩
 ·exact .inr ⟨.txt "kind",.txt "",rfl⟩
 ·exact Zi _
 ·exact Zi _
 ·exact .inr ⟨.txt "kind",.txt "",rfl⟩
 ·exact Zi _
 ·split
  ·exact Zi _
  ·exact .inr ⟨.txt "place",.txt "",rfl⟩
 ·exact .inr ⟨.txt "kind",.txt "",rfl⟩
 ·exact Zi _
 ·exact Zi _
 ·exact .inr ⟨.txt "kind",.txt "",rfl⟩
theorem RM.res {K:PySem.W.Frag}{H:Hp}{v:V}{w:W} (h:RM K H v w) (f:(∃ y,w = .lst [.txt "made",y])\/∃ p q,w = .lst [.txt "wrong",p,q]):RRes K H v (zbl w):=by
 rcases f with ⟨y,rfl⟩ | ⟨p,q,rfl⟩
 ·exact h.2 _ _ rfl
 ·exact h.1
theorem zaz:∀ {r:R},r.res.isMade = true->r.res = .made r.worth
 | .mk (.made x) _,_=>rfl
 | .mk (.wrong _) _,h=>by cases h
 | .mk .stop _,h=>by cases h
theorem RRs.last {K:PySem.W.Frag}{H:Hp}{vs:List V}{rs:List R} (h:RRs K H vs rs) {r:R} (hr:rs.getLast? = some r):∃ v,vs[vs.length - 1]? = some v/\0 < vs.length/\RR K H v r:=by
 have hne:rs≠[]:=fun z=>by rw [z] at hr; cases hr
 have hn:0 < rs.length:=List.length_pos_iff.mpr hne
 have hl:=h.len
 have e1:vs[vs.length - 1]? = some vs[vs.length - 1]:=List.getElem?_eq_getElem (by omega)
 exact ⟨_,e1,by omega,h.at' _ _ _ e1 (by rw [hl,← List.getLast?_eq_getElem?]; exact hr)⟩
theorem zgt {l:List R}{r x:R} (h:l.getLast? = some r):zaQ l x = r:=by unfold zaQ; rw [h]; rfl
theorem Kb.seqL {K:PySem.W.Frag}{p a:Addr}{H H':Hp}{xs:List V} (e:Kb p H H') (ne:a≠p) (h:SqL K H a xs):SqL K H' a xs:=by
 rcases h with (h | ⟨o,h⟩) | h
 ·exact .inl (.inl (e _ _ ne h))
 ·exact .inl (.inr ⟨o,e _ _ ne h⟩)
 ·exact .inr h
theorem Rn.keep {K:PySem.W.Frag}{AR rp l1 l p:Addr}{fs:List Res}{H H':Hp}{ns:Ns}{xs:List V} (r:Rn K AR fs rp l1 l H ns) (kb:Kb p H H') (ep:H p = some (.lst xs)) (n1:l1≠p) (n2:l≠p):Rn K AR fs rp l1 l H' ns:=by
 obtain ⟨dx,e1⟩:=r.ins
 obtain ⟨us,e2,e3,e4⟩:=r.fo
 exact ⟨⟨dx,kb _ _ (fun z=>by rw [z,ep] at e1; cases e1) e1⟩,⟨us,kb _ _ n1 e2,e3,fun i u r a b=>kb.res ep (e4 i u r a b)⟩,kb _ _ n2 r.na,r.ne,r.few⟩
theorem Rn.fresh {K:PySem.W.Frag}{AR rp l1 l p:Addr}{fs:List Res}{H:Hp}{ns:Ns} (r:Rn K AR fs rp l1 l H ns) (hp:H p = none):l1≠p/\l≠p:=by
 obtain ⟨us,e2,_⟩:=r.fo
 exact ⟨zm e2 hp,zm r.na hp⟩
section
variable {fs:List Res}{e:Env}
theorem za6 (x:Ex) (xs:List Ex) (ns:Ns):evs fs (x :: xs) e ns = if (ev fs x e ns).1.res.isMade then ((ev fs x e ns).1 :: (evs fs xs e (ev fs x e ns).2).1,(evs fs xs e (ev fs x e ns).2).2) else ([(ev fs x e ns).1],(ev fs x e ns).2):=by rw [evs]
theorem zed:∀ {es:List Ex}{ns:Ns}{r:R},(evs fs es e ns).1.getLast? = some r->r.res.isMade = Zm (evs fs es e ns).1
 | [],ns,r,h=>by rw [evs] at h; cases h
 | x :: xs,ns,r,h=>by
  rw [evs] at h ⊢
  cases hx:(ev fs x e ns).1.res.isMade with
  | false=>
   rw [hx,if_neg (by decide)] at h
   rw [if_neg (by decide)]
   cases h
   simp [Zm,hx]
  | true=>
   rw [hx,if_pos rfl] at h
   rw [if_pos rfl]
   unfold Zm
   rw [List.all_cons,hx,Bool.true_and]
   cases hxs:(evs fs xs e (ev fs x e ns).2).1 with
   | nil=>
    have h:((ev fs x e ns).1 :: (evs fs xs e (ev fs x e ns).2).1).getLast? = some r:=h
    rw [hxs] at h
    cases h
    simpa using hx
   | cons y ys=>
    have h:((ev fs x e ns).1 :: (evs fs xs e (ev fs x e ns).2).1).getLast? = some r:=h
    rw [hxs,List.getLast?_cons_cons,← hxs] at h
    have:=zed h
    rw [hxs] at this
    exact this
theorem ziV:∀ {es:List Ex}{ns:Ns},(evs fs es e ns).1.length<=es.length
 | [],ns=>by rw [evs]; exact Nat.le_refl _
 | x :: xs,ns=>by
  rw [evs]
  split
  ·have:=ziV (es:=xs) (ns:=(ev fs x e ns).2)
   simp only [List.length_cons]
   omega
  ·simp
end
def ze5 (K:PySem.W.Frag) (AR:Addr) (n:Nat):Sp:=fun vs H Q _=>∃ (fs:List Res) (rp l1 l la bd:Addr) (us:List V) (kvs:List (Key × V)) (e:Env) (es:List Ex) (ns:Ns),vs = [.ref rp,.ref la,.ref bd]/\Rn K AR fs rp l1 l H ns/\((SqL K H la us/\la≠l)\/SqT K H la us)/\RWs H us (exWs es)/\H bd = some (.dK kvs)/\kvs.length + 2 * n<=1000/\EnvR H kvs e/\highs es<=n/\Fines fs es e ns/\es.length<=100 /\
 ∀ (p:Addr) (vs':List V) (H':Hp),H p = none->G l H H'->Rn K AR fs rp l1 l H' (evs fs es e ns).2->H' p = some (.lst vs')->RRs K H' vs' (evs fs es e ns).1->Q (.ref p) H'
section
variable {P:Program}{w:World}{K:PySem.W.Frag}{mg:Str->Option Value}{base:Heap}{f:Addr}{fd:FuncData}{k n:Nat}{ARun ABook:Addr}
theorem zaJ:FnScope ["run","expressions","bound","records","expression"] ["run","expressions","bound"] (zn zaU):=mkSc rfl (by decide +kernel)
theorem zee (F:Fun K "go_through" "go_through" zaU f fd) (G_is_made:Have P w K mg base "is_made" k ["record"] (ZZ K)) (G_record_of:Have P w K mg base "record_of" k ["run","expression","bound"] (spG K ARun n (fun _=>True))):FnOk P w K mg base CX0 (k + 1) f fd ["run","expressions","bound"] (ze5 K ARun n):=by
 refine F.okQ zaJ (by rintro _ _ _ _ ⟨_,_,_,_,_,_,_,_,_,_,_,rfl,_⟩; rfl) fun cdv A outer s H vs Q E hr h=>?_
 obtain ⟨fs,rp,l1,l,la,bd,us,kvs,e,es,ns,rfl,rn,hl,hw,hb,hk,he,hh,hf,hn,q⟩:=h
 have hul:=hw.len
 rw [zec] at hul
 refine ⟨_,(zi (zw (i:=3) zaJ.nd rfl (Or.inl rfl) (zL zd))
  (zi (zau PassesOwn.never rfl (zc2 (pv 1)) (zV (i:=4) zaJ.nd rfl (Or.inl rfl)) (zi (ZN (zb8 PySem.F.plainAttrs_list PySem.F.slot_list_append PySem.F.type_list_append zai (pv 3) (zc (zt G_record_of hr rfl (zc (pv 0) (zc (pv 4) (zc (pv 2) zd)))) zd)))
  (zl (zJ (Zh (zQ (zt G_is_made hr rfl (zc (zD zy (pv 3) (zdd zbZ zj) (fun _ _=>rfl)) zd)))) (zl (zq (pv 3))) zx))))
  (zl (zq (pv 3))))),?_⟩
 refine ⟨zl0,fun p hp=>?_⟩
 have sP:Same H (upd H p (.lst [])):=Same.new hp
 obtain ⟨n1,n2⟩:=rn.fresh hp
 rcases hl with ⟨hl,hla⟩ | hl
 ·refine .inl ⟨_,rfl,la,rfl,⟨us,sP.seq hl⟩,zci (xs:=us) (fun i σ' H'=>∃ (o:Option V) (vs':List V) (dn:List R) (nsi:Ns),σ' = [some (.ref rp),some (.ref la),some (.ref bd),some (.ref p),o]/\G l H H'/\Rn K ARun fs rp l1 l H' nsi/\H' p = some (.lst vs')/\RRs K H' vs' dn/\evs fs es e ns = (dn ++ (evs fs (es.drop i) e nsi).1,(evs fs (es.drop i) e nsi).2)/\Fines fs (es.drop i) e nsi/\dn.length = i)
   ⟨none,[],[],ns,rfl,rn.g sP,rn.same sP,zh,RRs.nil,rfl,hf,rfl⟩ (fun i σ' H' _ h=>?_) (fun i x σ' H' hx h=>?_) (fun σ' H' h=>?_)⟩
  ·obtain ⟨o,vs',dn,nsi,_,g,_⟩:=h
   exact g.k.seqL hla hl
  ·obtain ⟨o,vs',dn,nsi,rfl,g,rni,ep,rrs,hwk,hfi,hdl⟩:=h
   have hi:i < us.length:=(List.getElem?_eq_some_iff.mp hx).1
   have hie:i < es.length:=by omega
   have hy:es[i]? = some es[i]:=List.getElem?_eq_getElem hie
   have hw':RW H x (es[i]).toW:=hw.at' i x _ hx (by rw [zfY,hy]; rfl)
   have hhy:=zc3 (List.mem_of_getElem? hy)
   have hvl:=rrs.len
   rw [List.drop_eq_getElem_cons hie,za6] at hwk
   rw [List.drop_eq_getElem_cons hie,Fines] at hfi
   refine ⟨_,rfl,.inl ⟨rfl,_,SqL.of ep⟩,_,rfl,_,rfl,_,rfl,fs,rp,l1,l,x,bd,kvs,e,es[i],nsi,rfl,rni,hw'.mono g.ts,g.d hb,hk,g.env he,by omega,hfi.1,trivial,fun v H2 g2 rn2 rr=>?_⟩
   have ep2:=g2.k p _ n2.symm ep
   refine ⟨p,vs',v,rfl,rfl,ep2,zaj (by omega),?_⟩
   have kb:Kb p H2 (upd H2 p (.lst (vs' ++ [v]))):=Kb.put
   have rr3:=kb.rr ep2 rr
   have rrs3:=(kb.rrs ep2 (g2.rrs rrs)).snoc rr3
   have g3:G l H (upd H2 p (.lst (vs' ++ [v]))):=⟨fun c o hc ec=>by rw [zr (zm ec hp)]; exact g2.k _ _ hc (g.k _ _ hc ec),g.l⟩
   have rn3:=rn2.keep kb ep2 n1 n2
   have ep3:upd H2 p (.lst (vs' ++ [v])) p = some (.lst (vs' ++ [v])):=zh
   generalize upd H2 p (.lst (vs' ++ [v])) = H3 at rr3 rrs3 g3 rn3 ep3
   refine ⟨_,rfl,_,rfl,p,vs' ++ [v],-1,v,rfl,rfl,SqL.of ep3,zcl _ _,v,(ev fs es[i] e nsi).1,rfl,rr3,_,rfl,?_⟩
   cases hmd:(ev fs es[i] e nsi).1.res.isMade with
   | false=>
    rw [hmd,if_neg (by decide)] at hwk
    rw [hwk] at q
    exact iteT ⟨_,rfl,q p _ _ hp g3 rn3 ep3 rrs3⟩
   | true=>
    rw [hmd,if_pos rfl] at hwk
    exact iteF ⟨_,vs' ++ [v],dn ++ [(ev fs es[i] e nsi).1],_,rfl,g3,rn3,ep3,rrs3,by rw [hwk,List.append_assoc]; rfl,hfi.2 hmd,by simp [hdl]⟩
  ·obtain ⟨o,vs',dn,nsi,rfl,g,rni,ep,rrs,hwk,hfi,hdl⟩:=h
   rw [hul,List.drop_length,evs,List.append_nil] at hwk
   rw [hwk] at q
   exact ⟨_,rfl,q p vs' _ hp g rni ep rrs⟩
 ·refine .inr ⟨_,rfl,la,rfl,⟨us,sP.seqT hl⟩,zhB (xs:=us) (fun i σ' H'=>∃ (o:Option V) (vs':List V) (dn:List R) (nsi:Ns),σ' = [some (.ref rp),some (.ref la),some (.ref bd),some (.ref p),o]/\G l H H'/\Rn K ARun fs rp l1 l H' nsi/\H' p = some (.lst vs')/\RRs K H' vs' dn/\evs fs es e ns = (dn ++ (evs fs (es.drop i) e nsi).1,(evs fs (es.drop i) e nsi).2)/\Fines fs (es.drop i) e nsi/\dn.length = i)
   ⟨none,[],[],ns,rfl,rn.g sP,rn.same sP,zh,RRs.nil,rfl,hf,rfl⟩ (fun i σ' H' _ h=>?_) (fun i x σ' H' hx h=>?_) (fun σ' H' h=>?_)⟩
  ·obtain ⟨o,vs',dn,nsi,_,g,_⟩:=h
   exact g.sq hl
  ·obtain ⟨o,vs',dn,nsi,rfl,g,rni,ep,rrs,hwk,hfi,hdl⟩:=h
   have hi:i < us.length:=(List.getElem?_eq_some_iff.mp hx).1
   have hie:i < es.length:=by omega
   have hy:es[i]? = some es[i]:=List.getElem?_eq_getElem hie
   have hw':RW H x (es[i]).toW:=hw.at' i x _ hx (by rw [zfY,hy]; rfl)
   have hhy:=zc3 (List.mem_of_getElem? hy)
   have hvl:=rrs.len
   rw [List.drop_eq_getElem_cons hie,za6] at hwk
   rw [List.drop_eq_getElem_cons hie,Fines] at hfi
   refine ⟨_,rfl,.inl ⟨rfl,_,SqL.of ep⟩,_,rfl,_,rfl,_,rfl,fs,rp,l1,l,x,bd,kvs,e,es[i],nsi,rfl,rni,hw'.mono g.ts,g.d hb,hk,g.env he,by omega,hfi.1,trivial,fun v H2 g2 rn2 rr=>?_⟩
   have ep2:=g2.k p _ n2.symm ep
   refine ⟨p,vs',v,rfl,rfl,ep2,zaj (by omega),?_⟩
   have kb:Kb p H2 (upd H2 p (.lst (vs' ++ [v]))):=Kb.put
   have rr3:=kb.rr ep2 rr
   have rrs3:=(kb.rrs ep2 (g2.rrs rrs)).snoc rr3
   have g3:G l H (upd H2 p (.lst (vs' ++ [v]))):=⟨fun c o hc ec=>by rw [zr (zm ec hp)]; exact g2.k _ _ hc (g.k _ _ hc ec),g.l⟩
   have rn3:=rn2.keep kb ep2 n1 n2
   have ep3:upd H2 p (.lst (vs' ++ [v])) p = some (.lst (vs' ++ [v])):=zh
   generalize upd H2 p (.lst (vs' ++ [v])) = H3 at rr3 rrs3 g3 rn3 ep3
   refine ⟨_,rfl,_,rfl,p,vs' ++ [v],-1,v,rfl,rfl,SqL.of ep3,zcl _ _,v,(ev fs es[i] e nsi).1,rfl,rr3,_,rfl,?_⟩
   cases hmd:(ev fs es[i] e nsi).1.res.isMade with
   | false=>
    rw [hmd,if_neg (by decide)] at hwk
    rw [hwk] at q
    exact iteT ⟨_,rfl,q p _ _ hp g3 rn3 ep3 rrs3⟩
   | true=>
    rw [hmd,if_pos rfl] at hwk
    exact iteF ⟨_,vs' ++ [v],dn ++ [(ev fs es[i] e nsi).1],_,rfl,g3,rn3,ep3,rrs3,by rw [hwk,List.append_assoc]; rfl,hfi.2 hmd,by simp [hdl]⟩
  ·obtain ⟨o,vs',dn,nsi,rfl,g,rni,ep,rrs,hwk,hfi,hdl⟩:=h
   rw [hul,List.drop_length,evs,List.append_nil] at hwk
   rw [hwk] at q
   exact ⟨_,rfl,q p vs' _ hp g rni ep rrs⟩
theorem za7:FnScope ["run","expression","bound","records"] ["run","expression","bound"] (zn zaH):=mkSc rfl (by decide +kernel)
theorem zdi (F:Fun K "go_reckoned" "go_reckoned" zaH f fd) (G_reckoned:Have P w K mg base "reckoned" k ["word","worths"] (ziG K)) (G_worth_of:Have P w K mg base "worth_of" k ["record"] (ZI K)) (G_is_made:Have P w K mg base "is_made" k ["record"] (ZZ K)) (G_as_last:Have P w K mg base "as_last" k ["records"] (zaa K)) (G_go_through:Have P w K mg base "go_through" k ["run","expressions","bound"] (ze5 K ARun n)) (G_parts_of:Have P w K mg base "parts_of" k ["expression"] (zeY)) (m_len:mg "len" = none) (m_tuple:mg "tuple" = none):FnOk P w K mg base CX0 (k + 1) f fd ["run","expression","bound"] (spG K ARun (n + 1) (fun x=>∃ d es,x = .reck d es)):=by
 refine F.okQ za7 (by rintro _ _ _ _ ⟨_,_,_,_,_,_,_,_,_,_,rfl,_⟩; rfl) fun cdv A outer s H vs Q E hr h=>?_
 obtain ⟨fs,rp,l1,l,u,bd,kvs,e,x,ns,rfl,rn,ru,hb,hk,he,hh,hf,⟨d,es,rfl⟩,q⟩:=h
 rw [Ex.toW] at ru
 rw [Ex.high] at hh
 rw [Fine] at hf
 obtain ⟨hlen,hfs,hok⟩:=hf
 obtain ⟨a,vs,rfl,ea,hw0⟩:=ru.tup
 obtain ⟨u0,us,rfl,r0,hw⟩:=hw0.cons
 obtain rfl:=r0.str
 have hul:=hw.len
 rw [zec] at hul
 refine ⟨_,(zi (zw (i:=3) za7.nd rfl (Or.inl rfl) (zt G_go_through hr rfl (zc (pv 0) (zc (zt G_parts_of hr rfl (zc (pv 1) zd)) (zc (pv 2) zd)))))
  (zi (zJ (PW.pt (zbm (zB zeq (zu zM rfl m_len PySem.boot_len (zc (pv 3) zd)) zj (nomark _)) (zaD (Zh (zQ (zt G_is_made hr rfl (zc (zD zy (pv 3) (zdd zbZ zj) (fun _ _=>rfl)) zd))))))) (zl (zq (zt G_as_last hr rfl (zc (pv 3) zd)))) zx)
  (zl (zq (zA (zc (zt G_reckoned hr rfl (zc (zD zS (pv 1) zj (fun _ _=>rfl)) (zc (Zx [] [] rfl rfl (by decide +kernel) rfl (by decide +kernel) rfl (by decide +kernel) trivial rfl trivial (zat (pv 3)) (fun C s H fp=>⟨Zn,(zt G_worth_of hr rfl (zc (pv 0) zd))⟩)) zd))) (zc (zE zN rfl m_tuple zI (zc (pv 3) zd)) zd))))))),?_⟩
 refine ⟨_,rfl,_,rfl,a,d,us,rfl,ea,by omega,fun la H1 s1 el hla=>⟨_,rfl,fs,rp,l1,l,la,bd,us,kvs,e,es,ns,rfl,rn.same s1,.inl ⟨SqL.of el,fun z=>zm rn.na hla z.symm⟩,hw.mono (zC s1),s1 _ _ hb,by omega,he.mono s1,by omega,hfs,hlen,fun p vs' H2 hp g2 rn2 ep rrs=>?_⟩⟩
 have g12:=(rn.g s1).trans g2
 have hvl:=rrs.len
 have hev:=ziV (fs:=fs) (e:=e) (es:=es) (ns:=ns)
 refine ⟨_,rfl,_,_,rfl,.inl ⟨_,SqL.of ep,rfl⟩,_,_,rfl,rfl,_,rfl,?_⟩
 have good:Zm (evs fs es e ns).1 = true->tTup (zao (zgQ (ziG K) [] E0 (zao (tOp (rIxT K) (tVar 1) (tC (.int 0))) (zao (zcD [] (zhz K (tVar 3)) (fun _ H Q=>Q true H) (zgQ (ZI K) [] E0 (zao (tVar 0) tNil))) tNil))) (zao (tCB (fun xs H Q=>∃ p ys,xs = [.ref p]/\((SqL K H p ys/\∀ l,H l = none->Q (.ref l) (upd H l (.tup ys)))\/(SqT K H p ys/\Q (.ref p) H))) (zao (tVar 3) tNil)) tNil))
   [some (.ref rp),some (.ref a),some (.ref bd),some (.ref p)] H2 Q:=fun hall=>by
  obtain ⟨ok,dep,l8,ar⟩:=hok hall
  refine ⟨_,rfl,a,_,0,_,rfl,rfl,SqT.of (g12.t ea),zG (j:=0) rfl,_,rfl,p,rfl,⟨_,SqL.of ep⟩,?_⟩
  refine ze4 (K:=K) (vs:=vs') (fun i us H3=>us.length = i/\∀ (j:Nat) (y:V) (r:R),us[j]? = some y->(evs fs es e ns).1[j]? = some r->RW H3 y r.worth) (SqL.of ep) (Nat.le_of_lt (zaj (by omega))) ⟨rfl,fun j y r h=>by simp at h⟩ (fun _ _ _ h=>h.1)
   (fun i v us H3 R hv hP sm r=>?_) (fun us H3 D hP sm hD=>?_)
  ·have hi:=(List.getElem?_eq_some_iff.mp hv).1
   have hi':i < (evs fs es e ns).1.length:=by omega
   have er:(evs fs es e ns).1[i]? = some (evs fs es e ns).1[i]:=List.getElem?_eq_getElem hi'
   have hm:((evs fs es e ns).1[i]).res.isMade = true:=List.all_eq_true.mp hall _ (List.getElem_mem hi')
   refine ⟨_,rfl,v,(evs fs es e ns).1[i],_,rfl,(rrs.at' i v _ hv er).mono sm,zaz hm,fun y ry=>?_⟩
   refine r y H3 (Same.refl _) ⟨by simp [hP.1],fun j z rj hz hrj=>?_⟩
   by_cases hj:j < us.length
   ·rw [List.getElem?_append_left hj] at hz
    exact hP.2 j z rj hz hrj
   ·have hlt:=(List.getElem?_eq_some_iff.mp hz).1
    have ej:j = us.length:=by simp at hlt; omega
    subst ej
    obtain rfl:y = z:=by simpa using hz
    rw [hP.1,er] at hrj
    cases hrj
    exact ry
  ·have s3:=sm.trans (Same.new (o:=.lst us) hD)
   have hP1:us.length = vs'.length:=hP.1
   refine ⟨d,D,us,(evs fs es e ns).1.map R.worth,rfl,zh,⟨by rw [List.length_map]; omega,fun j y z hy hz=>?_⟩,ok,dep,by rw [List.length_map]; exact l8,by rw [List.length_map]; exact ar,fun uu H4 s4 rm=>?_⟩
   ·rw [List.getElem?_map] at hz
    obtain ⟨r,hr,rfl⟩:=Option.map_eq_some_iff.mp hz
    exact (hP.2 j y r hy hr).mono (zC (Same.new (o:=.lst us) hD))
   ·have s34:=s3.trans s4
    refine ⟨_,rfl,p,vs',rfl,.inl ⟨SqL.of (s34 _ _ ep),fun t ht=>⟨zl2,fun a2 ha2=>?_⟩⟩⟩
    have s5:=Same.new (o:=.tup vs') ht
    have s6:=Same.new (o:=.tup [uu,.ref t]) ha2
    have s56:=s5.trans s6
    have hE:ev fs (.reck d es) e ns = (.mk (zbl (recW d ((evs fs es e ns).1.map R.worth))) (evs fs es e ns).1,(evs fs es e ns).2):=by rw [ev,if_pos hall]
    rw [hE] at q
    exact q _ _ ((g12.same s34).same s56) ((rn2.same s34).same s56) ((rrs.mono (s34.trans s56)).rr zh ((rm.res (zj7 _ _)).mono s56) (s6 _ _ zh))
 cases hrs:(evs fs es e ns).1.getLast? with
 | none=>
  have hnil:(evs fs es e ns).1 = []:=List.getLast?_eq_none_iff.mp hrs
  have hv0:vs'.length = 0:=by rw [hvl,hnil]; rfl
  rw [show decide ((0:Int) < ((vs'.length:Nat):Int)) = false from decide_eq_false (by omega)]
  exact iteF (iteF (good (by rw [hnil]; rfl)))
 | some r=>
  obtain ⟨v,ev1,hpos,rr⟩:=rrs.last hrs
  rw [show decide ((0:Int) < ((vs'.length:Nat):Int)) = true from decide_eq_true (by omega)]
  refine iteT ⟨_,rfl,_,rfl,p,vs',-1,v,rfl,rfl,SqL.of ep,zcZ ev1 hpos,v,r,rfl,rr,_,rfl,?_⟩
  cases hm:r.res.isMade with
  | true=>
   refine iteF (good ?_)
   rw [← zed hrs]
   exact hm
  | false=>
   have hE:ev fs (.reck d es) e ns = (.mk r.res (evs fs es e ns).1,(evs fs es e ns).2):=by rw [ev,if_neg (by rw [← zed hrs,hm]; decide),zgt hrs]
   rw [hE] at q
   exact iteT ⟨_,rfl,p,vs',(evs fs es e ns).1,r,rfl,ep,rrs,hrs,fun v' H3 s3 rr3=>q _ _ (g12.same s3) (rn2.same s3) rr3⟩
def zj8:Res:=.wrong [.txt "kind",.txt ""]
def ziW:Res:=.wrong [.txt "great",.txt ""]
def endR (rs:List R) (r r0:R):Option R:=if r.res.isMade then (match r0.worth with
  | .lst ws=>if ws.length > 10 then some (.mk ziW rs) else none
  | _=>some (.mk zj8 rs)) else some (.mk r.res rs)
def endV (K:PySem.W.Frag) (H:Hp) (v:V):Option R->Prop
 | some r=>RR K H v r
 | none=>v = .non
def ziX (K:PySem.W.Frag):Sp:=fun vs H Q _=>∃ (l:Addr) (us:List V) (rs:List R) (r r0:R),vs = [.ref l]/\H l = some (.lst us)/\RRs K H us rs/\rs.getLast? = some r/\rs[0]? = some r0/\(r.res.isMade = true->r0.res.isMade = true) /\
 ∀ (v:V) (H':Hp),Same H H'->endV K H' v (endR rs r r0)->Q v H'
theorem za8:FnScope ["records","walked"] ["records"] (zn zaG):=mkSc rfl (by decide +kernel)
theorem zdj (F:Fun K "ended_ahead" "ended_ahead" zaG f fd) (G_worth_of:Have P w K mg base "worth_of" k ["record"] (ZI K)) (G_is_made:Have P w K mg base "is_made" k ["record"] (ZZ K)) (G_as_last:Have P w K mg base "as_last" k ["records"] (zaa K)) (m_isi:mg "isinstance" = none) (m_len:mg "len" = none) (m_tuple:mg "tuple" = none) {g_KIND:Addr} (m_KIND:mg "KIND" = some (.ref g_KIND)) (t_KIND:∀ H:Hp,SqT K H g_KIND [.str "wrong",.str "kind",.str ""]) (m_MOST_WALKED:∃ t,mg "MOST_WALKED" = some (.int 10 t)) {g_GREAT:Addr} (m_GREAT:mg "GREAT" = some (.ref g_GREAT)) (t_GREAT:∀ H:Hp,SqT K H g_GREAT [.str "wrong",.str "great",.str ""]):FnOk P w K mg base CX0 (k + 1) f fd ["records"] (ziX K):=by
 refine F.okQ za8 (by rintro _ _ _ _ ⟨_,_,_,_,_,rfl,_⟩; rfl) fun cdv A outer s H vs Q E hr h=>?_
 obtain ⟨l,us,rs,r,r0,rfl,el,rrs,hlast,h0,hmm,q⟩:=h
 refine ⟨_,(zi (zJ (Zh (zQ (zt G_is_made hr rfl (zc (zD zy (pv 0) (zdd zbZ zj) (fun _ _=>rfl)) zd)))) (zl (zq (zt G_as_last hr rfl (zc (pv 0) zd)))) zx)
  (zi (zw (i:=1) za8.nd rfl (Or.inl rfl) (zt G_worth_of hr rfl (zc (zD zy (pv 0) zj (fun _ _=>rfl)) zd)))
  (zi (zJ (Zh (zQ (zu Zo rfl m_isi zO (zc (pv 1) (zc (ZM rfl m_tuple zI) zd))))) (zl (zq (zA (zc (zX (v:=.ref g_KIND) rfl m_KIND rfl) (zc (zE zN rfl m_tuple zI (zc (pv 0) zd)) zd))))) zx)
  (zl (zq (ZW (zB zeq (zu zM rfl m_len PySem.boot_len (zc (pv 1) zd)) (Z8 rfl m_MOST_WALKED) (nomark _)) (zA (zc (zX (v:=.ref g_GREAT) rfl m_GREAT rfl) (zc (zE zN rfl m_tuple zI (zc (pv 0) zd)) zd))) zen)))))),?_⟩
 obtain ⟨v,e1,hpos,rr⟩:=rrs.last hlast
 have e0:us[0]? = some us[0]:=List.getElem?_eq_getElem hpos
 have rr0:=rrs.at' 0 _ _ e0 h0
 refine ⟨_,rfl,_,rfl,l,us,-1,v,rfl,rfl,SqL.of el,zcZ e1 hpos,v,r,rfl,rr,_,rfl,?_⟩
 cases hm:r.res.isMade with
 | false=>
  refine iteT ⟨_,rfl,l,us,rs,r,rfl,el,rrs,hlast,fun v' H' s' rr'=>q v' H' s' ?_⟩
  unfold endR
  rw [hm,if_neg (by decide)]
  exact rr'
 | true=>
  refine iteF ⟨_,rfl,l,us,0,us[0],rfl,rfl,SqL.of el,zG (j:=0) e0,us[0],r0,r0.worth,rfl,rr0,zaz (hmm hm),fun y ry=>?_⟩
  have fin:∀ (res:Res) (rv:V) (t a:Addr) (H':Hp),Same H H'->H' a = some (.tup [rv,.ref t])->H' t = some (.tup us)->RRes K H' rv res->RR K H' (.ref a) (.mk res rs):=fun res rv t a H' s' ea et rres=>(rrs.mono s').rr ea rres et
  refine ⟨_,rfl,_,_,_,_,rfl,ry.tyW,isiT _,_,rfl,?_⟩
  have eR:endR rs r r0 = (match r0.worth with
    | .lst ws=>if ws.length > 10 then some (.mk ziW rs) else none
    | _=>some (.mk zj8 rs)):=by unfold endR; rw [hm,if_pos rfl]
  rw [eR] at q
  cases hx:r0.worth with
  | num i=>
   rw [hx] at q
   refine iteT ⟨_,rfl,l,us,rfl,.inl ⟨SqL.of el,fun t ht=>⟨zl2,fun a ha=>?_⟩⟩⟩
   have s2:=(Same.new (o:=.tup us) ht).trans (Same.new (o:=.tup [.ref g_KIND,.ref t]) ha)
   exact q _ _ s2 (fin zj8 _ t a _ s2 zh (Same.new ha _ _ zh) (show RS K _ _ _ from RS.three (t_KIND _) (.txt _) (.txt _) (.txt _)))
  | txt z=>
   rw [hx] at q
   refine iteT ⟨_,rfl,l,us,rfl,.inl ⟨SqL.of el,fun t ht=>⟨zl2,fun a ha=>?_⟩⟩⟩
   have s2:=(Same.new (o:=.tup us) ht).trans (Same.new (o:=.tup [.ref g_KIND,.ref t]) ha)
   exact q _ _ s2 (fin zj8 _ t a _ s2 zh (Same.new ha _ _ zh) (show RS K _ _ _ from RS.three (t_KIND _) (.txt _) (.txt _) (.txt _)))
  | lst ws=>
   rw [hx] at q ry
   obtain ⟨b,ys,rfl,eb,hw⟩:=ry.tup
   have hwl:=hw.len
   refine iteF ⟨_,rfl,_,_,rfl,.inr ⟨_,SqT.of eb,rfl⟩,_,_,rfl,rfl,_,rfl,?_⟩
   by_cases hgt:ws.length > 10
   ·rw [show decide ((10:Int) < ((ys.length:Nat):Int)) = true from decide_eq_true (by omega)]
    refine iteT ⟨_,rfl,l,us,rfl,.inl ⟨SqL.of el,fun t ht=>⟨zl2,fun a ha=>?_⟩⟩⟩
    have s2:=(Same.new (o:=.tup us) ht).trans (Same.new (o:=.tup [.ref g_GREAT,.ref t]) ha)
    dsimp only at q
    rw [if_pos hgt] at q
    exact q _ _ s2 (fin ziW _ t a _ s2 zh (Same.new ha _ _ zh) (show RS K _ _ _ from RS.three (t_GREAT _) (.txt _) (.txt _) (.txt _)))
   ·rw [show decide ((10:Int) < ((ys.length:Nat):Int)) = false from decide_eq_false (by omega)]
    refine iteF ?_
    dsimp only at q
    rw [if_neg hgt] at q
    exact q _ _ (Same.refl _) rfl
theorem ziY (vs:List V) (h:1<=vs.length):cutV vs (some 1) none = vs.drop 1:=by
 show (vs.drop (HT.sIx vs.length 0 (some ((1:Nat):Int)))).take (vs.length - HT.sIx vs.length 0 (some ((1:Nat):Int))) = _
 rw [HT.sIx_nat,Nat.min_eq_left h,List.take_of_length_le (by rw [List.length_drop]; omega)]
theorem RRs.tail {K:PySem.W.Frag}{H:Hp}{vs:List V}{r:R}{rs:List R} (h:RRs K H vs (r :: rs)):∃ v us,vs = v :: us/\RR K H v r/\RRs K H us rs:=by
 match vs,h.len with
 | v :: us,l=>exact ⟨v,us,rfl,h.at' 0 _ _ rfl rfl,by simpa using l,fun i w x a b=>h.at' (i + 1) w x a b⟩
section
variable {fs:List Res}{e:Env}{ns:Ns}
theorem zlV (a:Ex):evs fs [a] e ns = ([(ev fs a e ns).1],(ev fs a e ns).2):=by
 rw [evs]
 split
 ·rw [evs]
 ·rfl
theorem zaK (g:W->Ns->R × Ns) {w:W}{ws:List W}{ns:Ns}:zK g (w :: ws) ns = if (g w ns).1.res.isMade then ((g w ns).1 :: (zK g ws (g w ns).2).1,(zK g ws (g w ns).2).2) else ([(g w ns).1],(g w ns).2):=by rw [zK]
theorem ze6 {r:R}{x:W} (h:r.res = .made x):r.worth = x:=by
 have:=zaz (r:=r) (by rw [h]; rfl)
 rw [h] at this
 exact (Res.made.inj this).symm
theorem zm8 {s:Str}{a b:Ex}{r:R} (h:endR [(ev fs a e ns).1] (ev fs a e ns).1 (ev fs a e ns).1 = some r):ev fs (.eachE s a b) e ns = (r,(ev fs a e ns).2):=by
 unfold endR at h
 rw [ev]
 cases hr:(ev fs a e ns).1.res with
 | wrong ws=>
  rw [hr,show (Res.wrong ws).isMade = false from rfl,if_neg (by decide)] at h
  exact congrArg (·,(ev fs a e ns).2) (Option.some.inj h)
 | stop=>
  rw [hr,show Res.stop.isMade = false from rfl,if_neg (by decide)] at h
  exact congrArg (·,(ev fs a e ns).2) (Option.some.inj h)
 | made x=>
  have hw:=ze6 hr
  rw [hr,show (Res.made x).isMade = true from rfl,if_pos rfl,hw] at h
  cases x with
  | num i=>exact congrArg (·,(ev fs a e ns).2) (Option.some.inj h)
  | txt z=>exact congrArg (·,(ev fs a e ns).2) (Option.some.inj h)
  | lst ws=>
   dsimp only at h ⊢
   by_cases hg:ws.length > 10
   ·rw [if_pos hg] at h ⊢
    exact congrArg (·,(ev fs a e ns).2) (Option.some.inj h)
   ·rw [if_neg hg] at h
    cases h
theorem ziZ {s:Str}{a b:Ex}{ws:List W} (h:(ev fs a e ns).1.res = .made (.lst ws)) (hl:ws.length<=10):ev fs (.eachE s a b) e ns = if Zm (zK (fun w m=>ev fs b (put e s w) m) ws (ev fs a e ns).2).1 then (.mk (zbl (Z4 (.lst ((zK (fun w m=>ev fs b (put e s w) m) ws (ev fs a e ns).2).1.map R.worth)))) ((ev fs a e ns).1 :: (zK (fun w m=>ev fs b (put e s w) m) ws (ev fs a e ns).2).1),(zK (fun w m=>ev fs b (put e s w) m) ws (ev fs a e ns).2).2)
    else (.mk (zaQ (zK (fun w m=>ev fs b (put e s w) m) ws (ev fs a e ns).2).1 (ev fs a e ns).1).res ((ev fs a e ns).1 :: (zK (fun w m=>ev fs b (put e s w) m) ws (ev fs a e ns).2).1),(zK (fun w m=>ev fs b (put e s w) m) ws (ev fs a e ns).2).2):=by
 rw [ev,h]
 dsimp only
 rw [if_neg (by omega)]
end
theorem zj9 {rs:List R}{r r0:R} (h:endR rs r r0 = none):r.res.isMade = true/\∃ ws,r0.worth = .lst ws/\ws.length<=10:=by
 unfold endR at h
 cases hm:r.res.isMade with
 | false=>rw [hm,if_neg (by decide)] at h; cases h
 | true=>
  rw [hm,if_pos rfl] at h
  refine ⟨rfl,?_⟩
  cases hx:r0.worth with
  | num i=>rw [hx] at h; cases h
  | txt z=>rw [hx] at h; cases h
  | lst ws=>
   rw [hx] at h
   dsimp only at h
   by_cases hg:ws.length > 10
   ·rw [if_pos hg] at h; cases h
   ·exact ⟨ws,rfl,by omega⟩
theorem RR.ne_non {K:PySem.W.Frag}{H:Hp}{v:V}{r:R} (h:RR K H v r):(!decide (v = V.non)) = true:=by
 obtain ⟨a,b,rv,rfl,_⟩:=h.res
 rfl
theorem zi0 {K:PySem.W.Frag}{H:Hp}{us:List V}{rs:List R} (h:us.length = rs.length) (g:∀ (j:Nat) (y:V) (r:R),us[j]? = some y->rs[j]? = some r->RW H y r.worth):RWs H us (rs.map R.worth):=
 ⟨by rw [List.length_map]; exact h,fun j y z hy hz=>by
  rw [List.getElem?_map] at hz
  obtain ⟨r,hr,rfl⟩:=Option.map_eq_some_iff.mp hz
  exact g j y r hy hr⟩
theorem zaA:FnScope ["run","expression","bound","records","ended","walked","item"] ["run","expression","bound"] (zn zcP):=mkSc rfl (by decide +kernel)
theorem zho (F:Fun K "go_each" "go_each" zcP f fd) (G_made:Have P w K mg base "made" k ["thing"] (zaO K 24)) (G_worth_of:Have P w K mg base "worth_of" k ["record"] (ZI K)) (G_is_made:Have P w K mg base "is_made" k ["record"] (ZZ K)) (G_as_last:Have P w K mg base "as_last" k ["records"] (zaa K)) (G_record_of:Have P w K mg base "record_of" k ["run","expression","bound"] (spG K ARun n (fun _=>True))) (G_binding:Have P w K mg base "binding" k ["bound","name","worth"] (ziK)) (G_ended_ahead:Have P w K mg base "ended_ahead" k ["records"] (ziX K)) (G_go_through:Have P w K mg base "go_through" k ["run","expressions","bound"] (ze5 K ARun n)) (m_tuple:mg "tuple" = none):FnOk P w K mg base CX0 (k + 1) f fd ["run","expression","bound"] (spG K ARun (n + 1) (fun x=>∃ s a b,x = .eachE s a b)):=by
 refine F.okQ zaA (by rintro _ _ _ _ ⟨_,_,_,_,_,_,_,_,_,_,rfl,_⟩; rfl) fun cdv A outer s H vs Q E hr h=>?_
 obtain ⟨fs,rp,l1,l,u,bd,kvs,e,x,ns,rfl,rn,ru,hb,hk,he,hh,hf,⟨z,A1,B1,rfl⟩,q⟩:=h
 rw [Ex.toW] at ru
 rw [Ex.high] at hh
 rw [Fine] at hf
 obtain ⟨a,vs,rfl,ea,hw0⟩:=ru.tup
 obtain ⟨u0,us,rfl,r0,hw1⟩:=hw0.cons
 obtain ⟨u1,us,rfl,r1,hw2⟩:=hw1.cons
 obtain ⟨u2,us,rfl,r2,hw3⟩:=hw2.cons
 obtain ⟨u3,us,rfl,r3,hw4⟩:=hw3.cons
 obtain rfl:=hw4.nil'
 obtain rfl:=r1.str
 refine ⟨_,(zi (zw (i:=3) zaA.nd rfl (Or.inl rfl) (zt G_go_through hr rfl (zc (pv 0) (zc (ZX zkD (pv 1) (zag zj) (zag zj)) (zc (pv 2) zd)))))
  (zi (zw (i:=4) zaA.nd rfl (Or.inl rfl) (zt G_ended_ahead hr rfl (zc (pv 3) zd)))
  (zi (zJ (zbY (zdH (pv 4))) (zl (zq (pv 4))) zx)
  (zi (zw (i:=5) zaA.nd rfl (Or.inl rfl) (zt G_worth_of hr rfl (zc (zD zy (pv 3) zj (fun _ _=>rfl)) zd)))
  (zi (zau PassesOwn.never rfl (zep (pv 5)) (zV (i:=6) zaA.nd rfl (Or.inl rfl)) (zi (ZN (zb8 PySem.F.plainAttrs_list PySem.F.slot_list_append PySem.F.type_list_append zai (pv 3) (zc (zt G_record_of hr rfl (zc (pv 0) (zc (zD zS (pv 1) zj (fun _ _=>rfl)) (zc (zt G_binding hr rfl (zc (pv 2) (zc (zD zS (pv 1) zj (fun _ _=>rfl)) (zc (pv 6) zd)))) zd)))) zd)))
  (zl (zJ (Zh (zQ (zt G_is_made hr rfl (zc (zD zy (pv 3) (zdd zbZ zj) (fun _ _=>rfl)) zd)))) (zl (zq (zt G_as_last hr rfl (zc (pv 3) zd)))) zx))))
  (zl (zq (zA (zc (zt G_made hr rfl (zc (zE zN rfl m_tuple zI (zc (Zx [] [] rfl rfl (by decide +kernel) rfl (by decide +kernel) rfl (by decide +kernel) trivial rfl trivial (zat (ZX zfr (pv 3) (zag zj) zaF)) (fun C s H fp=>⟨Zn,(zt G_worth_of hr rfl (zc (pv 0) zd))⟩)) zd)) zd)) (zc (zE zN rfl m_tuple zI (zc (pv 3) zd)) zd)))))))))),?_⟩
 refine ⟨_,rfl,_,rfl,_,rfl,_,rfl,a,_,rfl,SqT.of ea,(fun z=>absurd (show (2:Nat) = 0 from z.1) (by decide)),fun p hp=>?_⟩
 have s1:=Same.new (o:=.tup (cutV [u0,.str z,u2,u3] (some 2) (some 3))) hp
 have ep1:upd H p (.tup (cutV [u0,.str z,u2,u3] (some 2) (some 3))) p = some (.tup [u2]):=zh
 generalize upd H p (.tup (cutV [u0,.str z,u2,u3] (some 2) (some 3))) = H1 at s1 ep1
 refine ⟨_,rfl,fs,rp,l1,l,p,bd,[u2],kvs,e,[A1],ns,rfl,rn.same s1,.inr (SqT.of ep1),⟨rfl,fun i v w hv hw=>?_⟩,s1 _ _ hb,by omega,he.mono s1,?_,?_,(by show 1<=100; decide),fun p2 vs' H2 hp2 g2 rn2 ep rrs=>?_⟩
 ·match i,hv,hw with
  | 0,hv,hw=>
   obtain rfl:u2 = v:=by simpa using hv
   obtain rfl:A1.toW = w:=by simpa [exWs] using hw
   exact r2.mono (zC s1)
  | j + 1,hv,hw=>simp at hv
 ·simp only [highs]
  omega
 ·simp only [Fines]
  exact ⟨hf.1,fun _=>trivial⟩
 rw [zlV] at rrs rn2
 have hp20:H p2 = none:=s1.free hp2
 obtain ⟨np1,np2⟩:=rn.fresh hp20
 have g12:=(rn.g s1).trans g2
 refine ⟨_,rfl,p2,vs',[(ev fs A1 e ns).1],(ev fs A1 e ns).1,(ev fs A1 e ns).1,rfl,ep,rrs,rfl,rfl,id,fun v H3 s3 hend=>?_⟩
 have g13:=g12.same s3
 have rn3:=rn2.same s3
 cases hE:endR [(ev fs A1 e ns).1] (ev fs A1 e ns).1 (ev fs A1 e ns).1 with
 | some r=>
  rw [hE] at hend
  have hend:RR K H3 v r:=hend
  refine ⟨_,rfl,_,rfl,?_⟩
  rw [hend.ne_non]
  rw [zm8 hE] at q
  exact iteT ⟨_,rfl,q v H3 g13 rn3 hend⟩
 | none=>
  rw [hE] at hend
  obtain rfl:v = .non:=hend
  obtain ⟨hm,ws,hws,hl10⟩:=zj9 hE
  have hres:(ev fs A1 e ns).1.res = .made (.lst ws):=by rw [zaz hm,hws]
  obtain ⟨hfb,hth,hdp⟩:=hf.2 ws hres
  rw [ziZ hres hl10] at q
  refine ⟨_,rfl,_,rfl,iteF ?_⟩
  have ep3:=s3 _ _ ep
  have rrs3:=rrs.mono s3
  obtain ⟨v0,us0,rfl,rr0,rn0⟩:=rrs3.tail
  refine ⟨_,rfl,p2,_,0,v0,rfl,rfl,SqL.of ep3,zG (j:=0) rfl,v0,(ev fs A1 e ns).1,.lst ws,rfl,rr0,hres,fun y ry=>?_⟩
  obtain ⟨t,ys,rfl,et,hy⟩:=ry.tup
  have hyl:=hy.len
  refine ⟨_,rfl,t,rfl,⟨_,SqT.of et⟩,zhB (xs:=ys) (fun i σ' H'=>∃ (o6:Option V) (vs2:List V) (dn:List R) (nsi:Ns),σ' = [some (.ref rp),some (.ref a),some (.ref bd),some (.ref p2),some .non,some (.ref t),o6]/\G l H H'/\Rn K ARun fs rp l1 l H' nsi/\SqT K H' t ys/\RWs H' ys ws/\H' p2 = some (.lst vs2)/\RRs K H' vs2 ((ev fs A1 e ns).1 :: dn)/\(∀ r∈dn,r.res.isMade = true) /\
    zK (fun w m=>ev fs B1 (put e z w) m) ws (ev fs A1 e ns).2 = (dn ++ (zK (fun w m=>ev fs B1 (put e z w) m) (ws.drop i) nsi).1,(zK (fun w m=>ev fs B1 (put e z w) m) (ws.drop i) nsi).2)/\zb1 (fun w m=>ev fs B1 (put e z w) m) (fun w m=>Fine fs B1 (put e z w) m) (ws.drop i) nsi/\dn.length = i)
   ⟨none,_,[],_,rfl,g13,rn3,SqT.of et,hy,ep3,rrs3,fun r h=>by simp at h,rfl,hfb,rfl⟩ (fun i σ' H' _ h=>?_) (fun i x σ' H' hx h=>?_) (fun σ' H' h=>?_)⟩
  ·obtain ⟨_,_,_,_,_,_,_,sq,_⟩:=h
   exact sq
  ·obtain ⟨o6,vs2,dn,nsi,rfl,g,rni,sq,hyw,ep4,rr4,hdn,hwk,hal,hdl⟩:=h
   have hi:i < ys.length:=(List.getElem?_eq_some_iff.mp hx).1
   have hiw:i < ws.length:=by omega
   have hwi:ws[i]? = some ws[i]:=List.getElem?_eq_getElem hiw
   have rx:=hyw.at' i x _ hx hwi
   have hrl:=rr4.len
   rw [List.length_cons] at hrl
   rw [List.drop_eq_getElem_cons hiw,zaK] at hwk
   rw [List.drop_eq_getElem_cons hiw,zb1] at hal
   refine ⟨_,rfl,.inl ⟨rfl,_,SqL.of ep4⟩,_,rfl,_,rfl,a,_,3,_,rfl,rfl,SqT.of (g.t ea),rfl,_,rfl,_,rfl,a,_,1,_,rfl,rfl,SqT.of (g.t ea),rfl,_,rfl,bd,z,x,kvs,rfl,g.d hb,by omega,fun pb H5 s5 hpb=>?_⟩
   have hlp:=zaf kvs (.inr z) x
   have g5:=g.same s5
   refine ⟨fs,rp,l1,l,u3,pb,_,put e z ws[i],B1,nsi,rfl,rni.same s5,r3.mono g5.ts,hpb,by omega,(g5.env he).put (rx.mono (zC s5)),by omega,hal.1,trivial,fun v6 H6 g6 rn6 rr6=>?_⟩
   have g56:=(rni.g s5).trans g6
   have ep6:=g6.k p2 _ np2.symm (s5 _ _ ep4)
   refine ⟨p2,vs2,v6,rfl,rfl,ep6,zaj (by omega),?_⟩
   have kb:Kb p2 H6 (upd H6 p2 (.lst (vs2 ++ [v6]))):=Kb.put
   have rr7:=kb.rr ep6 rr6
   have rrs7:=(kb.rrs ep6 (g56.rrs rr4)).snoc rr7
   have g7:G l H (upd H6 p2 (.lst (vs2 ++ [v6]))):=⟨fun c o hc ec=>by rw [zr (zm ec hp20)]; exact g56.k _ _ hc (g.k _ _ hc ec),g.l⟩
   have rn7:=rn6.keep kb ep6 np1 np2
   have sq7:SqT K (upd H6 p2 (.lst (vs2 ++ [v6]))) t ys:=kb.seqT ep6 (g56.sq sq)
   have hyw7:RWs (upd H6 p2 (.lst (vs2 ++ [v6]))) ys ws:=⟨hyw.len,fun j v w a b=>((hyw.at' j v w a b).mono g56.ts).mono (kb.tups ep6)⟩
   have ep7:upd H6 p2 (.lst (vs2 ++ [v6])) p2 = some (.lst (vs2 ++ [v6])):=zh
   generalize upd H6 p2 (.lst (vs2 ++ [v6])) = H7 at rr7 rrs7 g7 rn7 sq7 hyw7 ep7
   refine ⟨_,rfl,_,rfl,p2,vs2 ++ [v6],-1,v6,rfl,rfl,SqL.of ep7,zcl _ _,v6,(ev fs B1 (put e z ws[i]) nsi).1,rfl,rr7,_,rfl,?_⟩
   cases hmd:(ev fs B1 (put e z ws[i]) nsi).1.res.isMade with
   | false=>
    rw [hmd,if_neg (by decide)] at hwk
    rw [hwk,if_neg (by simp [Zm,hmd]),show zaQ (dn ++ [(ev fs B1 (put e z ws[i]) nsi).1]) (ev fs A1 e ns).1 = (ev fs B1 (put e z ws[i]) nsi).1 from zgt (by simp)] at q
    exact iteT ⟨_,rfl,p2,vs2 ++ [v6],(ev fs A1 e ns).1 :: dn ++ [(ev fs B1 (put e z ws[i]) nsi).1],(ev fs B1 (put e z ws[i]) nsi).1,rfl,ep7,rrs7,List.getLast?_concat,fun v8 H8 s8 rr8=>q _ _ (g7.same s8) (rn7.same s8) rr8⟩
   | true=>
    rw [hmd,if_pos rfl] at hwk
    refine iteF ⟨_,vs2 ++ [v6],dn ++ [(ev fs B1 (put e z ws[i]) nsi).1],_,rfl,g7,rn7,sq7,hyw7,ep7,rrs7,fun r hr=>?_,by rw [hwk,List.append_assoc]; rfl,hal.2 hmd,by simp [hdl]⟩
    rcases List.mem_append.mp hr with hr | hr
    ·exact hdn r hr
    ·rw [List.mem_singleton.mp hr]; exact hmd
  ·obtain ⟨o6,vs2,dn,nsi,rfl,g,rni,sq,hyw,ep4,rr4,hdn,hwk,hal,hdl⟩:=h
   rw [hyl,List.drop_length,zK,List.append_nil] at hwk
   have hrl:=rr4.len
   rw [List.length_cons] at hrl
   have hall:Zm dn = true:=List.all_eq_true.mpr hdn
   rw [hwk] at hth hdp
   have hdp:depths (dn.map R.worth)<=12:=hdp
   rw [hwk,if_pos hall] at q
   obtain ⟨v9,us9,rfl,rr9,rrn⟩:=rr4.tail
   refine ⟨_,rfl,_,rfl,p2,_,rfl,SqL.of ep4,fun p5 hp5=>?_⟩
   have s5:=Same.new (o:=.lst (cutV (v9 :: us9) (some 1) none)) hp5
   have ep5:upd H' p5 (.lst (cutV (v9 :: us9) (some 1) none)) p5 = some (.lst us9):=by rw [zh,ziY _ (by simp)]; rfl
   generalize upd H' p5 (.lst (cutV (v9 :: us9) (some 1) none)) = H5 at s5 ep5
   have rr5:=rrn.mono s5
   have hl9:=rrn.len
   refine ⟨p5,rfl,⟨_,SqL.of ep5⟩,?_⟩
   refine ze4 (K:=K) (vs:=us9) (fun i us H6=>us.length = i/\∀ (j:Nat) (y:V) (r:R),us[j]? = some y->dn[j]? = some r->RW H6 y r.worth) (SqL.of ep5) (Nat.le_of_lt (zaj (by omega))) ⟨rfl,fun j y r h=>by simp at h⟩ (fun _ _ _ h=>h.1)
    (fun i v us H6 R hv hP sm6 r=>?_) (fun us H6 D hP sm6 hD=>?_)
   ·have hi:=(List.getElem?_eq_some_iff.mp hv).1
    have hi':i < dn.length:=by omega
    have er:dn[i]? = some dn[i]:=List.getElem?_eq_getElem hi'
    refine ⟨_,rfl,v,dn[i],_,rfl,(rr5.at' i v _ hv er).mono sm6,zaz (hdn _ (List.getElem_mem hi')),fun y ry=>?_⟩
    refine r y H6 (Same.refl _) ⟨by simp [hP.1],fun j zz rj hz hrj=>?_⟩
    by_cases hj:j < us.length
    ·rw [List.getElem?_append_left hj] at hz
     exact hP.2 j zz rj hz hrj
    ·have hlt:=(List.getElem?_eq_some_iff.mp hz).1
     have ej:j = us.length:=by simp at hlt; omega
     subst ej
     obtain rfl:y = zz:=by simpa using hz
     rw [hP.1,er] at hrj
     cases hrj
     exact ry
   ·have s7:=Same.new (o:=.lst us) hD
    have hP1:us.length = us9.length:=hP.1
    refine ⟨D,us,rfl,.inl ⟨SqL.of zh,fun t3 ht3=>?_⟩⟩
    have s8:=Same.new (o:=.tup us) ht3
    have s78:=s7.trans s8
    have rws:RWs (upd (upd H6 D (.lst us)) t3 (.tup us)) us (dn.map R.worth):=zi0 (K:=K) (by omega) fun j y r a b=>(hP.2 j y r a b).mono (zC s78)
    refine ⟨.ref t3,.lst (dn.map R.worth),rfl,.lst zh rws.len rws.at',⟨?_,hth⟩,?_,fun uu H9 s9 rm=>?_⟩
    ·rw [List.length_map]
     omega
    ·simp only [W.depth]
     omega
    ·have s69:=(sm6.trans s78).trans s9
     have s49:=s5.trans s69
     refine ⟨_,rfl,p2,_,rfl,.inl ⟨SqL.of (s49 _ _ ep4),fun t5 ht5=>⟨zl2,fun a5 ha5=>?_⟩⟩⟩
     have s10:=(Same.new (o:=.tup (v9 :: us9)) ht5).trans (Same.new (o:=.tup [uu,.ref t5]) ha5)
     exact q _ _ ((g.same s49).same s10) ((rni.same s49).same s10) ((rr4.mono (s49.trans s10)).rr zh ((rm.res (Zi _)).mono s10) (Same.new ha5 _ _ zh))
def kvsG (f1 f2 f3 f4 f5 f6 f7 f8 f9:Addr):List (Key × V):=[(.inr "lit",.ref f1),(.inr "var",.ref f2),(.inr "let",.ref f3),(.inr "if",.ref f4),(.inr "each",.ref f5),(.inr "over",.ref f6),(.inr "look",.ref f7),(.inr "else",.ref f8),(.inr "cry",.ref f9)]
def e0:Env:=fun _=>none
def zi1 (K:PySem.W.Frag) (AR:Addr):Sp:=fun vs H Q _=>∃ (p dx fl:Addr) (us:List V),vs = [.ref p,.ref fl]/\H p = some (.ins AR dx [])/\SqL K H fl us/\∀ l1 l2:Addr,H l1 = none->H l2 = none->l1≠l2->∀ H':Hp,H' p = some (.ins AR dx (fR l1 l2))->H' l1 = some (.lst us)->H' l2 = some (.lst [])->(∀ c o,c≠p->H c = some o->H' c = some o)->Q .non H'
def zi2 (K:PySem.W.Frag):Sp:=fun vs H Q _=>∃ (u:V) (fl:Addr) (us:List V) (fs:List Res) (x:Ex),vs = [u,.ref fl]/\RW H u x.toW/\SqL K H fl us/\us.length = fs.length/\fs.length<=1000/\(∀ (i:Nat) (v:V) (r:Res),us[i]? = some v->fs[i]? = some r->RRes K H v r)/\x.high<=30/\Fine fs x e0 [] /\
 ((ev fs x e0 []).1.res = .stop->∀ (a l:Addr) (H':Hp),Same H H'->H l = none->H' a = some (.tup [.str "look",.ref l])->H' l = some (.lst ((ev fs x e0 []).2.map V.str))->Q (.ref a) H') /\
 ((ev fs x e0 []).1.res≠.stop->∀ (a l:Addr) (rv:V) (H':Hp),Same H H'->H l = none->H' a = some (.tup [.str "ended",.ref l,rv])->H' l = some (.lst ((ev fs x e0 []).2.map V.str))->RR K H' rv (ev fs x e0 []).1->Q (.ref a) H')
theorem RRes.ne_non {K:PySem.W.Frag}{H:Hp}{v:V}{r:Res} (n:r≠.stop) (h:RRes K H v r):decide (v = V.non) = false:=by
 obtain ⟨a,us,rfl,_⟩:=h.word n
 rfl
theorem ze7:FnScope ["run","expression","bound"] ["run","expression","bound"] (zn zbg):=mkSc rfl (by decide +kernel)
theorem ze8 (F:Fun K "record_of" "record_of" zbg f fd) (G_go_reckoned:Have P w K mg base "go_reckoned" k ["run","expression","bound"] (spG K ARun (n + 1) (fun x=>∃ d es,x = .reck d es))) {g_GOING f1 f2 f3 f4 f5 f6 f7 f8 f9:Addr} (m_GOING:mg "GOING" = some (.ref g_GOING)) (d_GOING:MD P w K g_GOING (kvsG f1 f2 f3 f4 f5 f6 f7 f8 f9)) (c1:Zl P w K mg base f1 k ["run","expression","bound"] (spG K ARun (n + 1) (fun x=>∃ y,x = .lit y))) (c2:Zl P w K mg base f2 k ["run","expression","bound"] (spG K ARun (n + 1) (fun x=>∃ s,x = .var s))) (c3:Zl P w K mg base f3 k ["run","expression","bound"] (spG K ARun (n + 1) (fun x=>∃ s a b,x = .letE s a b))) (c4:Zl P w K mg base f4 k ["run","expression","bound"] (spG K ARun (n + 1) (fun x=>∃ a b c,x = .ifE a b c))) (c5:Zl P w K mg base f5 k ["run","expression","bound"] (spG K ARun (n + 1) (fun x=>∃ s a b,x = .eachE s a b))) (c7:Zl P w K mg base f7 k ["run","expression","bound"] (spG K ARun (n + 1) (fun x=>∃ a,x = .lookE a))) (c8:Zl P w K mg base f8 k ["run","expression","bound"] (spG K ARun (n + 1) (fun x=>∃ a b,x = .elseE a b))) (c9:Zl P w K mg base f9 k ["run","expression","bound"] (spG K ARun (n + 1) (fun x=>∃ a,x = .cryE a))):FnOk P w K mg base CX0 (k + 1) f fd ["run","expression","bound"] (spG K ARun (n + 1) (fun _=>True)):=by
 refine F.okQ ze7 (by rintro _ _ _ _ ⟨_,_,_,_,_,_,_,_,_,_,rfl,_⟩; rfl) fun cdv A outer s H vs Q E hr h=>?_
 obtain ⟨fs,rp,l1,l,u,bd,kvs,e,x,ns,rfl,rn,ru,hb,hk,he,hh,hf,_,q⟩:=h
 refine ⟨_,(zi (zJ (zB zkV (zD zS (pv 1) zj (fun _ _=>rfl)) (zX (v:=.ref g_GOING) rfl m_GOING rfl) (by rfl)) (zl (zq (zby hr (zD zio (zX (v:=.ref g_GOING) rfl m_GOING rfl) (zD zS (pv 1) zj (fun _ _=>rfl)) (fun _ _=>rfl)) (zc (pv 0) (zc (pv 1) (zc (pv 2) zd)))))) zx)
  (zl (zq (zt G_go_reckoned hr rfl (zc (pv 0) (zc (pv 1) (zc (pv 2) zd))))))),?_⟩
 have go:∀ (s:Str) (ws:List W),x.toW = .lst (.txt s :: ws)->∃ (a:Addr) (us:List V),u = .ref a/\H a = some (.tup (.str s :: us)):=fun s ws hx=>by
  rw [hx] at ru
  obtain ⟨a,vs,rfl,ea,hw0⟩:=ru.tup
  obtain ⟨u0,us,rfl,r0,_⟩:=hw0.cons
  obtain rfl:=r0.str
  exact ⟨a,us,rfl,ea⟩
 cases x with
 | lit y=>
  obtain ⟨a,us,rfl,ea⟩:=go "lit" _ (by rw [Ex.toW])
  refine ⟨_,rfl,a,_,0,_,rfl,rfl,SqT.of ea,zG (j:=0) rfl,g_GOING,_,.inr "lit",rfl,rfl,d_GOING,_,rfl,iteT ?_⟩
  refine ⟨_,rfl,a,_,0,_,rfl,rfl,SqT.of ea,zG (j:=0) rfl,g_GOING,_,.inr "lit",.ref f1,rfl,rfl,d_GOING,rfl,f1,_,_,rfl,c1,_,rfl,_,rfl,_,rfl,?_⟩
  exact ⟨fs,rp,l1,l,_,bd,kvs,e,_,ns,rfl,rn,ru,hb,hk,he,hh,hf,⟨_,rfl⟩,q⟩
 | var z=>
  obtain ⟨a,us,rfl,ea⟩:=go "var" _ (by rw [Ex.toW])
  refine ⟨_,rfl,a,_,0,_,rfl,rfl,SqT.of ea,zG (j:=0) rfl,g_GOING,_,.inr "var",rfl,rfl,d_GOING,_,rfl,iteT ?_⟩
  refine ⟨_,rfl,a,_,0,_,rfl,rfl,SqT.of ea,zG (j:=0) rfl,g_GOING,_,.inr "var",.ref f2,rfl,rfl,d_GOING,rfl,f2,_,_,rfl,c2,_,rfl,_,rfl,_,rfl,?_⟩
  exact ⟨fs,rp,l1,l,_,bd,kvs,e,_,ns,rfl,rn,ru,hb,hk,he,hh,hf,⟨_,rfl⟩,q⟩
 | letE z a1 b1=>
  obtain ⟨a,us,rfl,ea⟩:=go "let" _ (by rw [Ex.toW])
  refine ⟨_,rfl,a,_,0,_,rfl,rfl,SqT.of ea,zG (j:=0) rfl,g_GOING,_,.inr "let",rfl,rfl,d_GOING,_,rfl,iteT ?_⟩
  refine ⟨_,rfl,a,_,0,_,rfl,rfl,SqT.of ea,zG (j:=0) rfl,g_GOING,_,.inr "let",.ref f3,rfl,rfl,d_GOING,rfl,f3,_,_,rfl,c3,_,rfl,_,rfl,_,rfl,?_⟩
  exact ⟨fs,rp,l1,l,_,bd,kvs,e,_,ns,rfl,rn,ru,hb,hk,he,hh,hf,⟨_,_,_,rfl⟩,q⟩
 | ifE a1 b1 c1'=>
  obtain ⟨a,us,rfl,ea⟩:=go "if" _ (by rw [Ex.toW])
  refine ⟨_,rfl,a,_,0,_,rfl,rfl,SqT.of ea,zG (j:=0) rfl,g_GOING,_,.inr "if",rfl,rfl,d_GOING,_,rfl,iteT ?_⟩
  refine ⟨_,rfl,a,_,0,_,rfl,rfl,SqT.of ea,zG (j:=0) rfl,g_GOING,_,.inr "if",.ref f4,rfl,rfl,d_GOING,rfl,f4,_,_,rfl,c4,_,rfl,_,rfl,_,rfl,?_⟩
  exact ⟨fs,rp,l1,l,_,bd,kvs,e,_,ns,rfl,rn,ru,hb,hk,he,hh,hf,⟨_,_,_,rfl⟩,q⟩
 | eachE z a1 b1=>
  obtain ⟨a,us,rfl,ea⟩:=go "each" _ (by rw [Ex.toW])
  refine ⟨_,rfl,a,_,0,_,rfl,rfl,SqT.of ea,zG (j:=0) rfl,g_GOING,_,.inr "each",rfl,rfl,d_GOING,_,rfl,iteT ?_⟩
  refine ⟨_,rfl,a,_,0,_,rfl,rfl,SqT.of ea,zG (j:=0) rfl,g_GOING,_,.inr "each",.ref f5,rfl,rfl,d_GOING,rfl,f5,_,_,rfl,c5,_,rfl,_,rfl,_,rfl,?_⟩
  exact ⟨fs,rp,l1,l,_,bd,kvs,e,_,ns,rfl,rn,ru,hb,hk,he,hh,hf,⟨_,_,_,rfl⟩,q⟩
 | elseE a1 b1=>
  obtain ⟨a,us,rfl,ea⟩:=go "else" _ (by rw [Ex.toW])
  refine ⟨_,rfl,a,_,0,_,rfl,rfl,SqT.of ea,zG (j:=0) rfl,g_GOING,_,.inr "else",rfl,rfl,d_GOING,_,rfl,iteT ?_⟩
  refine ⟨_,rfl,a,_,0,_,rfl,rfl,SqT.of ea,zG (j:=0) rfl,g_GOING,_,.inr "else",.ref f8,rfl,rfl,d_GOING,rfl,f8,_,_,rfl,c8,_,rfl,_,rfl,_,rfl,?_⟩
  exact ⟨fs,rp,l1,l,_,bd,kvs,e,_,ns,rfl,rn,ru,hb,hk,he,hh,hf,⟨_,_,rfl⟩,q⟩
 | cryE a1=>
  obtain ⟨a,us,rfl,ea⟩:=go "cry" _ (by rw [Ex.toW])
  refine ⟨_,rfl,a,_,0,_,rfl,rfl,SqT.of ea,zG (j:=0) rfl,g_GOING,_,.inr "cry",rfl,rfl,d_GOING,_,rfl,iteT ?_⟩
  refine ⟨_,rfl,a,_,0,_,rfl,rfl,SqT.of ea,zG (j:=0) rfl,g_GOING,_,.inr "cry",.ref f9,rfl,rfl,d_GOING,rfl,f9,_,_,rfl,c9,_,rfl,_,rfl,_,rfl,?_⟩
  exact ⟨fs,rp,l1,l,_,bd,kvs,e,_,ns,rfl,rn,ru,hb,hk,he,hh,hf,⟨_,rfl⟩,q⟩
 | lookE a1=>
  obtain ⟨a,us,rfl,ea⟩:=go "look" _ (by rw [Ex.toW])
  refine ⟨_,rfl,a,_,0,_,rfl,rfl,SqT.of ea,zG (j:=0) rfl,g_GOING,_,.inr "look",rfl,rfl,d_GOING,_,rfl,iteT ?_⟩
  refine ⟨_,rfl,a,_,0,_,rfl,rfl,SqT.of ea,zG (j:=0) rfl,g_GOING,_,.inr "look",.ref f7,rfl,rfl,d_GOING,rfl,f7,_,_,rfl,c7,_,rfl,_,rfl,_,rfl,?_⟩
  exact ⟨fs,rp,l1,l,_,bd,kvs,e,_,ns,rfl,rn,ru,hb,hk,he,hh,hf,⟨_,rfl⟩,q⟩
 | reck d es=>
  obtain ⟨a,us,rfl,ea⟩:=go (wdS d) _ (by rw [Ex.toW])
  refine ⟨_,rfl,a,_,0,_,rfl,rfl,SqT.of ea,zG (j:=0) rfl,g_GOING,_,.inr (wdS d),rfl,rfl,d_GOING,_,rfl,?_⟩
  rw [show valV (kvsG f1 f2 f3 f4 f5 f6 f7 f8 f9) (.inr (wdS d)) = none by cases d <;> rfl]
  exact iteF ⟨_,rfl,_,rfl,_,rfl,fs,rp,l1,l,_,bd,kvs,e,_,ns,rfl,rn,ru,hb,hk,he,hh,hf,⟨_,_,rfl⟩,q⟩
theorem zc4:FnScope ["self","founds"] ["self","founds"] (zn Zj):=mkSc rfl (by decide +kernel)
theorem zc5 (F:Fun K "__init__" "Run.__init__" Zj f fd) (m_list:mg "list" = none) (clR:Cls K ARun) (nF:Z6 K ARun "founds") (nN:Z6 K ARun "names"):FnOk P w K mg base CX0 (k + 1) f fd ["self","founds"] (zi1 K ARun):=by
 refine F.okQ zc4 (by rintro _ _ _ _ ⟨_,_,_,_,rfl,_⟩; rfl) fun cdv A outer s H vs Q E hr h=>?_
 obtain ⟨p,dx,fl,us,rfl,hp,hfl,q⟩:=h
 refine ⟨_,(zi (zdn (pv 0) (zE Zr rfl m_list ZU (zc (pv 1) zd)) rfl)
  (zl (zdn (pv 0) (zL zd) rfl))),?_⟩
 refine ⟨_,rfl,fl,us,rfl,.inl hfl,fun l1 hl1=>?_⟩
 have n1:p≠l1:=zm hp hl1
 refine ⟨_,rfl,p,ARun,dx,[],rfl,(by rw [zr n1]; exact hp),clR,nF,(by show 0 < 1000; decide),zl0,fun l2 hl2=>?_⟩
 have n2:p≠l2:=by
  intro z
  rw [← z,zh] at hl2
  cases hl2
 have n12:l1≠l2:=by
  intro z
  rw [← z,zr n1.symm,zh] at hl2
  cases hl2
 have hl20:H l2 = none:=by
  rw [zr n2.symm,zr n12.symm] at hl2
  exact hl2
 refine ⟨_,rfl,p,ARun,dx,_,rfl,(by rw [zr n2,zh]),clR,nN,(by show 1 < 1000; decide),?_⟩
 refine q l1 l2 hl1 hl20 n12 _ zh (by rw [zr n1.symm,zr n12,zr n1.symm,zh]) (by rw [zr n2.symm,zh]) fun c o hc e=>?_
 rw [zr hc,zr (zm e hl20),zr hc,zr (zm e hl1)]
 exact e
theorem zfZ:FnScope ["rule","founds","run","record"] ["rule","founds"] (zn zh5):=mkSc rfl (by decide +kernel)
theorem zlW (F:Fun K "gone" "gone" zh5 f fd) (G_record_of:Have P w K mg base "record_of" k ["run","expression","bound"] (spG K ARun 30 (fun _=>True))) (G_Run___init__:zbk P w K mg base ARun "Run" k ["self","founds"] (zi1 K ARun)) (m_list:mg "list" = none) (clR:Cls K ARun) (nN:Z6 K ARun "names"):FnOk P w K mg base CX0 (k + 1) f fd ["rule","founds"] (zi2 K):=by
 refine F.okQ zfZ (by rintro _ _ _ _ ⟨_,_,_,_,_,rfl,_⟩; rfl) fun cdv A outer s H vs Q E hr h=>?_
 obtain ⟨u,fl,us,fs,x,rfl,ru,hfl,hlen,few,hres,hh,hf,q1,q2⟩:=h
 refine ⟨_,(zi (zw (i:=2) zfZ.nd rfl (Or.inl rfl) (zis G_Run___init__ hr rfl (zc (pv 1) zd)))
  (zi (zw (i:=3) zfZ.nd rfl (Or.inl rfl) (zt G_record_of hr rfl (zc (pv 2) (zc (pv 0) (zc zaZ zd)))))
  (zi (zJ (zbY (zcr (zD zS (pv 3) zj (fun _ _=>rfl)))) (zl (zq (zA (zc zo (zc (zE Zr rfl m_list ZU (zc (zae (pv 2) rfl) zd)) zd))))) zx)
  (zl (zq (zA (zc zo (zc (zE Zr rfl m_list ZU (zc (zae (pv 2) rfl) zd)) (zc (pv 3) zd))))))))),?_⟩
 refine ⟨_,rfl,fun p dx np ndx nxp=>?_⟩
 have s1:Same H (upd (upd H dx (.own p)) p (.ins ARun dx [])):=fun c o e=>by
  rw [zr (zm e np),zr (zm e ndx)]
  exact e
 refine ⟨p,dx,fl,us,rfl,zh,s1.seq hfl,fun l1 l2 hl1 hl2 n12 H2 hp2 el1 el2 kp=>⟨rfl,?_⟩⟩
 have s2:Same H H2:=fun c o e=>kp c o (zm e np) (s1 c o e)
 have rn2:Rn K ARun fs p l1 l2 H2 []:=⟨⟨dx,hp2⟩,⟨us,el1,hlen,fun i v r a b=>(hres i v r a b).mono s2⟩,el2,n12,few⟩
 have hl20:H l2 = none:=s1.free hl2
 refine ⟨_,rfl,_,rfl,fun d hd=>?_⟩
 have s3:=Same.new (o:=.dK []) hd
 have s23:=s2.trans s3
 refine ⟨fs,p,l1,l2,u,d,[],e0,x,[],rfl,rn2.same s3,ru.mono (zC s23),zh,by decide,(fun s x hx=>by cases hx),hh,hf,trivial,fun rv H4 g4 rn4 rr=>?_⟩
 have s4:Same H H4:=fun c o e=>g4.k c o (zm e hl20) (s23 c o e)
 obtain ⟨dx4,hp4⟩:=rn4.ins
 have na:=rn4.na
 obtain ⟨a,b,rv0,rfl,ea,rres⟩:=rr.res
 refine ⟨_,rfl,a,_,0,_,rfl,rfl,SqT.of ea,rfl,_,rfl,?_⟩
 by_cases hst:(ev fs x e0 []).1.res = .stop
 ·rw [hst] at rres
  obtain rfl:rv0 = .non:=rres
  refine iteT ⟨_,rfl,p,ARun,dx4,_,_,rfl,hp4,clR,nN,zbA _ _,l2,_,rfl,.inl (SqL.of na),fun l3 hl3=>?_⟩
  have s5:=Same.new (o:=.lst ((ev fs x e0 []).2.map V.str)) hl3
  refine ⟨zl2,fun a6 ha6=>?_⟩
  have s6:=Same.new (o:=.tup [.str "look",.ref l3]) ha6
  exact q1 hst a6 l3 _ ((s4.trans s5).trans s6) (s4.free hl3) zh (s6 _ _ zh)
 ·rw [rres.ne_non hst]
  refine iteF ⟨_,rfl,p,ARun,dx4,_,_,rfl,hp4,clR,nN,zbA _ _,l2,_,rfl,.inl (SqL.of na),fun l3 hl3=>?_⟩
  have s5:=Same.new (o:=.lst ((ev fs x e0 []).2.map V.str)) hl3
  refine ⟨_,rfl,zl3,fun a6 ha6=>?_⟩
  have s6:=Same.new (o:=.tup [.str "ended",.ref l3,.ref a]) ha6
  exact q2 hst a6 l3 _ _ ((s4.trans s5).trans s6) (s4.free hl3) zh (s6 _ _ zh) (rr.mono (s5.trans s6))
def zm9:Sp:=fun vs H Q _=>∃ b:Addr,vs = [.ref b]/\zP H b/\∀ (z:Str) (H':Hp),z.length<=8->Signs z->Step b H H'->Q (.str z) H'
def abxy:Str:=Str.ofString "abxy"
def abc:Str:=Str.ofString "abcdefghijklmnopqrstuvwxyz"
theorem Step.ofSame' {b:Addr}{H H':Hp} (hb:zP H b) (s:Same H H'):Step b H H':=⟨by obtain ⟨x,y,z,e⟩:=hb; exact ⟨x,y,z,s _ _ e⟩,fun c o _ e=>s c o e⟩
theorem zf0 {z:Str}{i:Int} (h0:0<=i) (h1:i < z.length):∃ c,atI z.cps.toList i = some c/\c∈z.cps.toList:=by
 have hl:i.toNat < z.cps.toList.length:=by rw [← Zs] at h1; omega
 refine ⟨z.cps.toList[i.toNat],?_,List.getElem_mem hl⟩
 have:=zG (List.getElem?_eq_getElem hl)
 rw [show ((i.toNat:Nat):Int) = i by omega] at this
 exact this
theorem zhp:Signs abxy:=fun c hc=>by
 have e:abxy.cps.toList = [97,98,120,121]:=by decide +kernel
 rw [e] at hc
 simp at hc
 omega
theorem zi3:∀ c∈abc.cps.toList,97<=c/\c<=122:=by decide +kernel
theorem zb2:FnScope ["_law_box_here","_law_letters"] ["_law_box_here"] (zn zbh):=mkSc rfl (by decide +kernel)
theorem ze9 (F:Fun K "_law_variable" "_law_variable" zbh f fd) (G_ltake:Have P w K mg base "_law_take" k ["_law_box_here","_law_wide"] (Z7)) (m_range:mg "range" = none):FnOk P w K mg base CX0 (k + 1) f fd ["_law_box_here"] (zm9):=by
 refine F.okQ zb2 (by rintro _ _ _ _ ⟨_,rfl,_⟩; rfl) fun cdv A outer s H vs Q E hr h=>?_
 obtain ⟨b,rfl,hb,q⟩:=h
 refine ⟨_,(zi (zJ (zB Za (zt G_ltake hr rfl (zc (pv 0) (zc zj zd))) zj (nomark _)) (zl (zq (zD zeC zo (zt G_ltake hr rfl (zc (pv 0) (zc zj zd))) (fun _ _=>rfl)))) zx)
  (zi (zw (i:=1) zb2.nd rfl (Or.inr rfl) zo)
  (zl (zq (zb8 PySem.F.plainAttrs_str PySem.F.slot_str_join PySem.F.type_str_join zii zo (zc (Zx [1,0] ["_law_letters","_law_box_here"] rfl rfl (by decide +kernel) rfl (by decide +kernel) rfl (by decide +kernel) ⟨rfl,rfl,trivial⟩ rfl ⟨⟨rfl,rfl,Or.inr (Or.inl rfl),(by show (some NameKind.cell:Option NameKind)≠some .local; decide),⟨_,rfl⟩⟩,⟨rfl,rfl,Or.inr (Or.inl rfl),(by show (some NameKind.cell:Option NameKind)≠some .local; decide),⟨_,rfl⟩⟩,trivial⟩ (Zq rfl m_range (zc (zF Ze zj (zt G_ltake hr rfl (zc (pv 0) (zc zj zd)))) zd)) (fun C s H fp=>⟨Zn,(zD zeC (pv 1) (zt G_ltake hr rfl (zc (pv 2) (zc zj zd))) (fun _ _=>rfl))⟩)) zd)))))),?_⟩
 refine ⟨_,rfl,b,2,rfl,hb,by decide,by decide,fun r H1 r0 r1 st1=>⟨rfl,_,rfl,ite2 (fun _=>?_) (fun _=>?_)⟩⟩
 ·refine ⟨_,rfl,b,4,rfl,st1.box,by decide,by decide,fun n H2 n0 n1 st2=>?_⟩
  have h4:abxy.length = 4:=by decide +kernel
  obtain ⟨c,hc,hm⟩:=zf0 (z:=abxy) n0 (by omega)
  refine ⟨abxy,n,c,rfl,rfl,by decide +kernel,hc,q _ _ (by show 1<=8; decide) (fun d hd=>?_) (st1.trans st2)⟩
  have:d = c:=by simpa using hd
  rw [this]
  exact zhp c hm
 ·refine ⟨rfl,_,rfl,b,8,rfl,st1.box,by decide,by decide,fun m H3 m0 m1 st3=>?_⟩
  refine ⟨_,_,rfl,rfl,1 + m,rfl,by omega,by omega,fun i j us H'=>i<=(1 + m).toNat/\j = (1 + m).toNat - i/\(∃ cs:List Nat,us = (cs.map fun c=>(⟨#[c]⟩:Str)).map V.str/\cs.length = i/\∀ c∈cs,97<=c/\c<=122)/\Step b H H',⟨_,Nat.zero_le _,rfl,⟨[],rfl,rfl,fun c h=>nomatch h⟩,st1.trans st3⟩,fun i j us H' hW=>?_⟩
  obtain ⟨hi,hj,⟨cs,rfl,hcl,hcs⟩,st4⟩:=hW
  refine ⟨small (by rw [List.length_map,List.length_map]; omega),?_⟩
  by_cases hlt:i < (1 + m).toNat
  ·refine .inr ⟨hlt,fun v' H5 hy=>?_⟩
   obtain ⟨rfl,rfl⟩:=hy
   refine iteT ⟨_,rfl,_,rfl,b,26,rfl,st4.box,by decide,by decide,fun n H6 n0 n1 st6=>?_⟩
   have h26:abc.length = 26:=by decide +kernel
   obtain ⟨c,hc,hm⟩:=zf0 (z:=abc) n0 (by omega)
   refine ⟨abc,n,c,rfl,rfl,by decide +kernel,hc,(1 + m).toNat - (i + 1),by omega,by omega,rfl,⟨cs ++ [c],by simp,by rw [List.length_append,hcl]; rfl,fun d hd=>?_⟩,st4.trans st6⟩
   rcases List.mem_append.mp hd with hd | hd
   ·exact hcs d hd
   ·rw [List.mem_singleton.mp hd]; exact zi3 c hm
  ·refine .inl ⟨(by show (1 + m).toNat<=i; omega),fun D hD=>?_⟩
   have s5:=Same.new (o:=.lst ((cs.map fun c=>(⟨#[c]⟩:Str)).map V.str)) hD
   refine ⟨Str.ofString "",D,cs.map fun c=>(⟨#[c]⟩:Str),rfl,rfl,SqL.of zh,?_,?_⟩
   ·have e0:(Str.ofString "").length = 0:=by decide +kernel
    have e1:((cs.map fun c=>(⟨#[c]⟩:Str)).map (·.length)).sum = cs.length:=by
     rw [List.map_map]
     clear hcs hcl s5 hD
     induction cs with
     | nil=>rfl
     | cons x r ih=>
      rw [List.map_cons,List.sum_cons,List.length_cons]
      have:((fun z:Str=>z.length) ∘ fun c=>(⟨#[c]⟩:Str)) x = 1:=rfl
      omega
    rw [e0,e1]
    omega
   ·rw [zdt]
    refine q _ _ ?_ (fun c hc=>?_) (st4.trans (Step.ofSame' st4.box s5))
    ·show cs.toArray.size<=8
     rw [List.size_toArray]
     omega
    ·have:=hcs c (by simpa using hc)
     omega
def zna:Sp:=fun vs H Q _=>∃ (b l:Addr) (names:List Str),vs = [.ref b,.ref l]/\zP H b/\H l = some (.lst (names.map V.str))/\l≠b/\names≠[]/\names.length<=100/\(∀ z∈names,z.length<=400/\Signs z) /\
 ∀ (v:V) (x:W) (H':Hp),RW H' v (.lst [.txt "lit",x])->x.Ok->x.depth<=3->Step b H H'->Q v H'
theorem RW.pair {H:Hp}{a:Addr}{u1 u2:V}{w1 w2:W} (e:H a = some (.tup [u1,u2])) (r1:RW H u1 w1) (r2:RW H u2 w2):RW H (.ref a) (.lst [w1,w2]):=
 .lst e rfl fun i v w hv hw=>match i,hv,hw with
  | 0,hv,hw=>by
   have a1:u1 = v:=by simpa using hv
   have a2:w1 = w:=by simpa using hw
   rw [← a1,← a2]; exact r1
  | 1,hv,hw=>by
   have a1:u2 = v:=by simpa using hv
   have a2:w2 = w:=by simpa using hw
   rw [← a1,← a2]; exact r2
  | j + 2,hv,hw=>by simp at hv
theorem za2 {H H':Hp} (s:Same H H'):Tups H H':=fun a vs e=>s a _ e
theorem zlX:FnScope ["_law_box_here","_law_names_here"] ["_law_box_here","_law_names_here"] (zn zh7):=mkSc rfl (by decide +kernel)
theorem zlY (F:Fun K "_law_lit" "_law_lit" zh7 f fd) (G_lworth:Have P w K mg base "_law_worth" k ["_law_box_here","_law_room","_law_deep"] (zbS 13)) (G_ltake:Have P w K mg base "_law_take" k ["_law_box_here","_law_wide"] (Z7)) (m_len:mg "len" = none):FnOk P w K mg base CX0 (k + 1) f fd ["_law_box_here","_law_names_here"] (zna):=by
 refine F.okQ zlX (by rintro _ _ _ _ ⟨_,_,_,rfl,_⟩; rfl) fun cdv A outer s H vs Q E hr h=>?_
 obtain ⟨b,l,names,rfl,hb,hl,hlb,hne,hn,hz,q⟩:=h
 have hpos:0 < names.length:=List.length_pos_iff.mpr hne
 refine ⟨_,(zi (zJ (PW.pt (zbm (zB (zm0 (Nat.lt_of_le_of_lt (Nat.le_add_right _ 64) hr.units)) (pv 1) (zL zd) (nomark _)) (zaD (zB Za (zt G_ltake hr rfl (zc (pv 0) (zc zj zd))) zj (nomark _))))) (zl (zq (zA (zc zo (zc (zD zy (pv 1) (zt G_ltake hr rfl (zc (pv 0) (zc (zu zM rfl m_len PySem.boot_len (zc (pv 1) zd)) zd))) (fun _ _=>rfl)) zd))))) zx)
  (zl (zq (zA (zc zo (zc (zt G_lworth hr rfl (zc (pv 0) (zc zj (zc zj zd)))) zd)))))),?_⟩
 refine ⟨_,rfl,zl0,fun e0 he0=>?_⟩
 have s0:=Same.new (o:=.lst []) he0
 have st0:=Step.ofSame' hb s0
 refine ⟨l,e0,names.map V.str,rfl,rfl,SqL.of (s0 _ _ hl),SqL.of zh,_,rfl,?_⟩
 have e1:(!(names.map V.str).isEmpty) = true:=by
  cases names with
  | nil=>exact absurd rfl hne
  | cons x r=>rfl
 rw [e1]
 refine iteT ⟨_,rfl,b,3,rfl,st0.box,by decide,by decide,fun r H1 r0 r1 st1=>⟨rfl,_,rfl,ite2 (fun _=>?_) (fun _=>?_)⟩⟩
 ·have stA:=st0.trans st1
  have hl1:=stA.keep l _ hlb hl
  refine ⟨_,rfl,_,rfl,_,rfl,_,_,rfl,.inl ⟨_,SqL.of hl1,rfl⟩,b,_,rfl,stA.box,by rw [List.length_map]; omega,by rw [List.length_map]; omega,fun n H2 n0 n1 st2=>?_⟩
  rw [List.length_map] at n1
  have hi:n.toNat < names.length:=by omega
  have hat:atI (names.map V.str) n = some (.str names[n.toNat]):=by
   have:=zG (xs:=names.map V.str) (j:=n.toNat) (v:=.str names[n.toNat]) (by rw [List.getElem?_map,List.getElem?_eq_getElem hi]; rfl)
   rw [show ((n.toNat:Nat):Int) = n by omega] at this
   exact this
  have stB:=stA.trans st2
  refine ⟨l,_,n,_,rfl,rfl,SqL.of (stB.keep l _ hlb hl),hat,zl2,fun a ha=>?_⟩
  have s3:=Same.new (o:=.tup [.str "lit",.str names[n.toNat]]) ha
  exact q _ (.txt names[n.toNat]) _ (RW.pair zh (.txt _) (.txt _)) (hz _ (List.getElem_mem hi)) (by simp [W.depth]) (stB.trans (Step.ofSame' stB.box s3))
 ·have stA:=st0.trans st1
  refine ⟨_,rfl,b,6,3,rfl,stA.box,by decide,by decide,by decide,by decide,fun v x H2 rx okx dx sx st2=>⟨zl2,fun a ha=>?_⟩⟩
  have stB:=stA.trans st2
  have s3:=Same.new (o:=.tup [.str "lit",v]) ha
  exact q _ x _ (RW.pair zh (.txt _) (rx.mono (za2 s3))) okx (by omega) (stB.trans (Step.ofSame' stB.box s3))
inductive Wo where
 | lit | var | letw | ifw | add | sub | mul | div | same | less | join | list | item | count | figs | each | over | look | elsew | cry
def woS:Wo->Str
 | .lit=>"lit"
 | .var=>"var"
 | .letw=>"let"
 | .ifw=>"if"
 | .add=>"+"
 | .sub=>"-"
 | .mul=>"*"
 | .div=>"/"
 | .same=>"same"
 | .less=>"less"
 | .join=>"join"
 | .list=>"list"
 | .item=>"item"
 | .count=>"count"
 | .figs=>"figures"
 | .each=>"each"
 | .over=>"over"
 | .look=>"look"
 | .elsew=>"else"
 | .cry=>"cry"
def zdk:List Wo:=[.lit,.var,.letw,.ifw,.add,.sub,.mul,.div,.same,.less,.join,.list,.item,.count,.figs,.each,.over,.look,.elsew,.cry]
def w3:Wo->Bool
 | .ifw=>true
 | .over=>true
 | _=>false
def w1:Wo->Bool
 | .count=>true
 | .figs=>true
 | .look=>true
 | .cry=>true
 | _=>false
def wVL:Wo->Bool
 | .var=>true
 | .list=>true
 | _=>false
def wEO:Wo->Bool
 | .each=>true
 | .over=>true
 | _=>false
def wLit:Wo->Bool
 | .lit=>true
 | _=>false
def wVar:Wo->Bool
 | .var=>true
 | _=>false
def Wo.needs (d:Wo):Int:=if wVL d then 0 else 2 + (if w3 d then 1 else 0) - (if w1 d then 1 else 0)
theorem in3 (d:Wo):inV (.str (woS d)) [.str "if",.str "over"] = w3 d:=by cases d <;> decide +kernel
theorem in1 (d:Wo):inV (.str (woS d)) [.str "count",.str "figures",.str "look",.str "cry"] = w1 d:=by cases d <;> decide +kernel
theorem inVL (d:Wo):inV (.str (woS d)) [.str "var",.str "list"] = wVL d:=by cases d <;> decide +kernel
theorem inEO (d:Wo):inV (.str (woS d)) [.str "each",.str "over"] = wEO d:=by cases d <;> decide +kernel
theorem znb (d:Wo):decide (V.str (woS d) = V.str "lit") = wLit d:=by cases d <;> decide +kernel
theorem znc (d:Wo):decide (V.str (woS d) = V.str "var") = wVar d:=by cases d <;> decide +kernel
def zk1:Sp:=fun vs H Q _=>∃ (b sc:Addr) (us:List V) (spare floors rounds:Int),vs = [.ref b,.ref sc,.int spare,.int floors,.int rounds]/\zP H b/\H sc = some (.lst us)/\sc≠b /\
 ∀ (d:Wo) (H':Hp),Step b H H'->(wLit d = false->d.needs < spare/\(floors = 0->wVL d = true)/\(wVar d = true->us≠[])/\(wEO d = true->rounds≠0))->Q (.str (woS d)) H'
theorem za3:FnScope ["_law_box_here","_law_scope","_law_spare","_law_floors","_law_rounds","_law_words","_law_word_here","_law_needs"] ["_law_box_here","_law_scope","_law_spare","_law_floors","_law_rounds"] (zn zfw):=mkSc rfl (by decide +kernel)
theorem zka (F:Fun K "_law_word" "_law_word" zfw f fd) (G_ltake:Have P w K mg base "_law_take" k ["_law_box_here","_law_wide"] (Z7)) (m_int:mg "int" = none):FnOk P w K mg base CX0 (k + 1) f fd ["_law_box_here","_law_scope","_law_spare","_law_floors","_law_rounds"] (zk1):=by
 refine F.okQ za3 (by rintro _ _ _ _ ⟨_,_,_,_,_,_,rfl,_⟩; rfl) fun cdv A outer s H vs Q E hr h=>?_
 obtain ⟨b,sc,us,spare,floors,rounds,rfl,hb,hsc,hne,q⟩:=h
 refine ⟨_,(zi (zw (i:=5) za3.nd rfl (Or.inl rfl) (zL (zc zo (zc zo (zc zo (zc zo (zc zo (zc zo (zc zo (zc zo (zc zo (zc zo (zc zo (zc zo zd))))))))))))))
  (zi (zw (i:=5) za3.nd rfl (Or.inl rfl) (zF zeH (pv 5) (zL (zc zo (zc zo (zc zo (zc zo (zc zo (zc zo (zc zo (zc zo zd)))))))))))
  (zi (zw (i:=6) za3.nd rfl (Or.inl rfl) (zD zy (pv 5) (zt G_ltake hr rfl (zc (pv 0) (zc zj zd))) (fun _ _=>rfl)))
  (zi (zw (i:=7) za3.nd rfl (Or.inl rfl) (zF Zf (zF Ze zj (zE zav rfl m_int Z0 (zc (zY zah (pv 6) (zA (zc zo (zc zo zd))) (by rfl)) zd))) (zE zav rfl m_int Z0 (zc (zY zah (pv 6) (zA (zc zo (zc zo (zc zo (zc zo zd))))) (by rfl)) zd))))
  (zi (zJ (zB zah (pv 6) (zA (zc zo (zc zo zd))) (by rfl)) (zl (zw (i:=7) za3.nd rfl (Or.inl rfl) zj)) zx)
  (zi (zJ (PW.pt (zb6 (zB Za (pv 6) zo (nomark _)) (zb6 (PW.pt (zbm (zB Za (pv 3) zj (nomark _)) (zaD (zB zeF (pv 6) (zA (zc zo (zc zo zd))) (by rfl))))) (zaR (zB znD (pv 7) (pv 2) (nomark _)))))) (zl (zq zo)) zx)
  (zi (zJ (PW.pt (zb6 (PW.pt (zbm (zB Za (pv 6) zo (nomark _)) (zaD (zB (zkY (Nat.lt_of_le_of_lt (Nat.le_add_right _ 64) hr.units)) (pv 1) (zL zd) (nomark _))))) (zaR (PW.pt (zbm (zB zah (pv 6) (zA (zc zo (zc zo zd))) (by rfl)) (zaD (zB Za (pv 4) zj (nomark _)))))))) (zl (zq zo)) zx)
  (zl (zq (pv 6)))))))))),?_⟩
 refine ⟨zl12,fun p1 h1=>?_⟩
 have st1:=Step.new (o:=.lst ((zdk.take 12).map fun d=>V.str (woS d))) hb h1
 refine ⟨_,rfl,zl8,fun p2 h2=>?_⟩
 have s2:=Same.new (o:=.lst ((zdk.drop 12).map fun d=>V.str (woS d))) h2
 refine ⟨p1,p2,(zdk.take 12).map (fun d=>V.str (woS d)),(zdk.drop 12).map (fun d=>V.str (woS d)),rfl,rfl,s2 _ _ zh,zh,(by decide),fun p3 h3=>?_⟩
 have st2:=st1.trans (Step.ofSame' st1.box s2)
 have st3:=st2.trans (Step.new (o:=.lst (zdk.map fun d=>V.str (woS d))) st2.box h3)
 refine ⟨_,rfl,_,rfl,b,20,rfl,st3.box,by decide,by decide,fun r H1 r0 r1 st4=>?_⟩
 have hi:r.toNat < zdk.length:=by show r.toNat < 20; omega
 obtain ⟨d,hat⟩:∃ d:Wo,atI (zdk.map fun d=>V.str (woS d)) r = some (.str (woS d)):=⟨zdk[r.toNat],by
  have:=zG (xs:=zdk.map fun d=>V.str (woS d)) (j:=r.toNat) (v:=.str (woS zdk[r.toNat])) (by rw [List.getElem?_map,List.getElem?_eq_getElem hi]; rfl)
  rw [show ((r.toNat:Nat):Int) = r by omega] at this
  exact this⟩
 have stA:=st3.trans st4
 refine ⟨p3,_,r,_,rfl,rfl,SqL.of (st4.keep p3 _ (by obtain ⟨x,y,z,e⟩:=st2.box; exact (zm e h3).symm) zh),hat,?_⟩
 refine ⟨_,rfl,zl2,fun q1 hq1=>⟨q1,_,rfl,.inr (SqT.of zh),rfl,rfl,.inr ⟨_,rfl,_,_,rfl,rfl,_,rfl,zl4,fun q2 hq2=>⟨q2,_,rfl,.inr (SqT.of zh),rfl,rfl,.inr ⟨_,rfl,_,_,rfl,rfl,?_⟩⟩⟩⟩⟩
 have stB:=stA.trans (Step.new (o:=.tup [.str "if",.str "over"]) stA.box hq1)
 have stC:=stB.trans (Step.new (o:=.tup [.str "count",.str "figures",.str "look",.str "cry"]) stB.box hq2)
 dsimp only [ZD]
 refine seqI (fun σ' H'=>∃ o5,σ' = [some (.ref b),some (.ref sc),some (.int spare),some (.int floors),some (.int rounds),o5,some (.str (woS d)),some (.int d.needs)]/\Step b H H') (fun σ' H' h=>?_) (fun tl=>?_)
 ·obtain ⟨o5,rfl,stD⟩:=h
  refine seqI (fun σ' H'=>∃ o5,σ' = [some (.ref b),some (.ref sc),some (.int spare),some (.int floors),some (.int rounds),o5,some (.str (woS d)),some (.int d.needs)]/\Step b H H'/\wLit d = false/\d.needs < spare/\(floors = 0->wVL d = true)) (fun σ' H' h=>?_) (fun tl=>?_)
  ·obtain ⟨o5,rfl,stE,hlit,hneed,hfl⟩:=h
   refine ⟨_,rfl,rfl,_,rfl,?_⟩
   rw [show Str.ofString "var" = "var" from rfl,znc]
   cases hv:wVar d with
   | true=>
    refine iteT ⟨_,rfl,zl0,fun e0 he0=>?_⟩
    have stF:=stE.trans (Step.new (o:=.lst []) stE.box he0)
    refine ⟨sc,e0,us,rfl,rfl,SqL.of (stF.keep sc _ hne hsc),SqL.of zh,_,rfl,?_⟩
    cases hus:us with
    | nil=>exact iteT (iteT (q .lit _ stF (fun h=>nomatch h)))
    | cons x r=>
     have hsv:wVar d = true->us≠[]:=fun _ z=>by rw [hus] at z; cases z
     refine iteF ?_
     refine ⟨_,rfl,zl2,fun q5 hq5=>⟨q5,_,rfl,.inr (SqT.of zh),rfl,rfl,_,rfl,?_⟩⟩
     have st9:=stF.trans (Step.new (o:=.tup [.str "each",.str "over"]) stF.box hq5)
     show if inV (.str (woS d)) [.str "each",.str "over"] = true then _ else _
     rw [inEO]
     cases heo:wEO d with
     | true=>
      refine iteT ⟨_,rfl,rfl,_,rfl,ite2 (fun c3=>q .lit _ st9 (fun h=>nomatch h)) (fun c3=>?_)⟩
      exact ⟨_,rfl,q d _ st9 fun _=>⟨hneed,hfl,hsv,fun _ z=>c3 (by rw [z]; rfl)⟩⟩
     | false=>exact iteF (iteF ⟨_,rfl,q d _ st9 fun _=>⟨hneed,hfl,hsv,fun z=>by rw [heo] at z; cases z⟩⟩)
   | false=>
    have hsv:wVar d = true->us≠[]:=fun z=>by rw [hv] at z; cases z
    refine iteF (iteF ?_)
    refine ⟨_,rfl,zl2,fun q5 hq5=>⟨q5,_,rfl,.inr (SqT.of zh),rfl,rfl,_,rfl,?_⟩⟩
    have st9:=stE.trans (Step.new (o:=.tup [.str "each",.str "over"]) stE.box hq5)
    show if inV (.str (woS d)) [.str "each",.str "over"] = true then _ else _
    rw [inEO]
    cases heo:wEO d with
    | true=>
     refine iteT ⟨_,rfl,rfl,_,rfl,ite2 (fun c3=>q .lit _ st9 (fun h=>nomatch h)) (fun c3=>?_)⟩
     exact ⟨_,rfl,q d _ st9 fun _=>⟨hneed,hfl,hsv,fun _ z=>c3 (by rw [z]; rfl)⟩⟩
    | false=>exact iteF (iteF ⟨_,rfl,q d _ st9 fun _=>⟨hneed,hfl,hsv,fun z=>by rw [heo] at z; cases z⟩⟩)
  ·refine ⟨_,rfl,rfl,_,rfl,?_⟩
   rw [show Str.ofString "lit" = "lit" from rfl,znb]
   cases hlit:wLit d with
   | true=>exact iteT (iteT (q .lit _ stD (fun h=>nomatch h)))
   | false=>
    refine iteF ⟨_,rfl,rfl,_,rfl,ite2 (fun c=>?_) (fun c=>iteF ?_)⟩
    ·refine ⟨_,rfl,zl2,fun q4 hq4=>⟨q4,_,rfl,.inr (SqT.of zh),rfl,rfl,_,rfl,?_⟩⟩
     have stE:=stD.trans (Step.new (o:=.tup [.str "var",.str "list"]) stD.box hq4)
     show if (!inV (.str (woS d)) [.str "var",.str "list"]) = true then _ else _
     rw [inVL]
     cases hvl:wVL d with
     | false=>exact iteT (iteT (q .lit _ stE (fun h=>nomatch h)))
     | true=>
      refine iteF ?_
      refine ⟨_,rfl,_,rfl,_,_,rfl,rfl,_,rfl,ite2 (fun c2=>q .lit _ stE (fun h=>nomatch h)) (fun c2=>?_)⟩
      exact tl _ _ ⟨_,rfl,stE,hlit,(by
       have:¬ spare<=d.needs:=fun z=>c2 (decide_eq_true z)
       omega),fun _=>hvl⟩
    ·have hf0:floors≠0:=fun z=>c (by rw [z]; rfl)
     refine ⟨_,rfl,_,rfl,_,_,rfl,rfl,_,rfl,ite2 (fun c2=>q .lit _ stD (fun h=>nomatch h)) (fun c2=>?_)⟩
     exact tl _ _ ⟨_,rfl,stD,hlit,(by
      have:¬ spare<=d.needs:=fun z=>c2 (decide_eq_true z)
      omega),fun z=>absurd z hf0⟩
 ·refine ⟨_,rfl,zl2,fun q3 hq3=>⟨q3,_,rfl,.inr (SqT.of zh),rfl,rfl,_,rfl,?_⟩⟩
  have stD:=stC.trans (Step.new (o:=.tup [.str "var",.str "list"]) stC.box hq3)
  have e3:=in3 d
  have e1:=in1 d
  show if inV (.str (woS d)) [.str "var",.str "list"] = true then _ else _
  rw [inVL]
  cases hvl:wVL d with
  | true=>exact iteT (tl _ _ ⟨_,by show _ = [_,_,_,_,_,_,_,some (V.int d.needs)]; unfold Wo.needs; rw [hvl]; rfl,stD⟩)
  | false=>exact iteF (tl _ _ ⟨_,by show _ = [_,_,_,_,_,_,_,some (V.int d.needs)]; unfold Wo.needs; rw [hvl,← e3,← e1]; rfl,stD⟩)
inductive Rl where
 | lit (x:W)
 | var (s:Str)
 | op (d:Wo) (bs:List Str) (ps:List Rl)
mutual
def Rl.toW:Rl->W
 | .lit x=>.lst [.txt "lit",x]
 | .var s=>.lst [.txt "var",.txt s]
 | .op d bs ps=>.lst (.txt (woS d) :: (bs.map W.txt ++ rlWs ps))
def rlWs:List Rl->List W
 | []=>[]
 | p :: r=>p.toW :: rlWs r
end
mutual
def Rl.many:Rl->Nat
 | .lit _=>1
 | .var _=>1
 | .op _ _ ps=>1 + manys ps
def manys:List Rl->Nat
 | []=>0
 | p :: r=>p.many + manys r
end
mutual
def Rl.high:Rl->Nat
 | .lit _=>0
 | .var _=>0
 | .op _ _ ps=>rhighs ps
def rhighs:List Rl->Nat
 | []=>0
 | p :: r=>max (1 + p.high) (rhighs r)
end
def bcnt:Wo->Nat
 | .letw=>1
 | .each=>1
 | .over=>2
 | _=>0
def Cnt:Wo->Nat->Prop
 | .list,n=>n<=8
 | .ifw,n=>n = 3
 | .over,n=>n = 3
 | .count,n=>n = 1
 | .figs,n=>n = 1
 | .look,n=>n = 1
 | .cry,n=>n = 1
 | _,n=>n = 2
mutual
def Rl.Fit:Rl->List Str->Prop
 | .lit x,_=>x.Ok/\x.depth<=3
 | .var s,sc=>s∈sc
 | .op d bs ps,sc=>wLit d = false/\wVar d = false/\wEO d = false/\bs.length = bcnt d/\Cnt d ps.length/\(∀ z∈bs,z.length<=8/\Signs z)/\Fits ps sc bs
def Fits:List Rl->List Str->List Str->Prop
 | [],_,_=>True
 | [p],sc,bs=>p.Fit (sc ++ bs)
 | p :: q :: r,sc,bs=>p.Fit sc/\Fits (q :: r) sc bs
end
theorem zi4 (l:List Rl) (r:Rl):rlWs (l ++ [r]) = rlWs l ++ [r.toW]:=by
 induction l with
 | nil=>simp [rlWs]
 | cons p l ih=>simp only [List.cons_append,rlWs,ih]
theorem zef:∀ l:List Rl,(rlWs l).length = l.length
 | []=>by simp [rlWs]
 | _ :: l=>by simp only [rlWs,List.length_cons,zef l]
theorem zdz (l:List Rl) (r:Rl):manys (l ++ [r]) = manys l + r.many:=by
 induction l with
 | nil=>simp [manys]
 | cons p l ih=>simp only [List.cons_append,manys,ih]; omega
def Names (H:Hp) (b l:Addr) (names:List Str):Prop:=H l = some (.lst (names.map V.str))/\l≠b/\names≠[]/\names.length<=100/\∀ z∈names,z.length<=400/\Signs z
theorem Names.step {H H':Hp}{b l:Addr}{names:List Str} (h:Names H b l names) (st:Step b H H'):Names H' b l names:=⟨st.keep l _ h.2.1 h.1,h.2⟩
def zhq (n:Nat):Sp:=fun vs H Q _=>∃ (b sc l:Addr) (scope names:List Str) (spare floors rounds:Int),vs = [.ref b,.ref sc,.ref l,.int spare,.int floors,.int rounds]/\zP H b/\Names H b l names/\H sc = some (.lst (scope.map V.str))/\sc≠b/\scope.length + 2 * n<=1000/\1<=spare/\spare<=100/\0<=floors/\floors < n/\rounds = 0 /\
 ∀ (t:Addr) (v:V) (r:Rl) (H':Hp),H' t = some (.tup [v,.int r.many])->RW H' v r.toW->r.Fit scope->(r.many:Int)<=spare->(r.high:Int)<=floors + 1->Step b H H'->Q (.ref t) H'
def zc6 (n:Nat):Sp:=fun vs H Q _=>∃ (b ss l rs:Addr) (as:List Addr) (scopes:List (List Str)) (names:List Str) (rounds:List Int) (spare floors:Int),vs = [.ref b,.ref ss,.ref l,.int spare,.int floors,.ref rs]/\zP H b/\Names H b l names /\
 H ss = some (.lst (as.map V.ref))/\ss≠b/\H rs = some (.lst (rounds.map V.int))/\rs≠b/\as.length = scopes.length/\scopes.length<=rounds.length/\(∀ r∈rounds,r = 0)/\(∀ (i:Nat) (a:Addr) (sc:List Str),as[i]? = some a->scopes[i]? = some sc->H a = some (.lst (sc.map V.str))/\a≠b/\sc.length + 2 * n<=1000) /\
 (scopes.length:Int)<=spare/\spare<=100/\floors < n/\(0<=floors\/scopes = []) /\
 ∀ (t t2:Addr) (us:List V) (ps:List Rl) (H':Hp),H' t = some (.tup [.ref t2,.int (manys ps)])->H' t2 = some (.tup us)->RWs H' us (rlWs ps)->ps.length = scopes.length->(∀ (i:Nat) (p:Rl) (sc:List Str),ps[i]? = some p->scopes[i]? = some sc->p.Fit sc/\(p.high:Int)<=floors + 1)->(manys ps:Int)<=spare->Step b H H'->Q (.ref t) H'
theorem zZ:FnScope ["_law_box_here","_law_scopes","_law_names_here","_law_spare","_law_floors","_law_rounds","_law_found","_law_used","_law_k","_law_scope","_law_rest","_law_part","_law_more"] ["_law_box_here","_law_scopes","_law_names_here","_law_spare","_law_floors","_law_rounds"] (zn zbi):=mkSc rfl (by decide +kernel)
theorem zb3 (F:Fun K "_law_parts_by" "_law_parts_by" zbi f fd) (G_lany:Have P w K mg base "_law_any" k ["_law_box_here","_law_scope","_law_names_here","_law_spare","_law_floors","_law_rounds"] (zhq n)) (m_enumerate:mg "enumerate" = none) (m_len:mg "len" = none) (m_tuple:mg "tuple" = none):FnOk P w K mg base CX0 (k + 1) f fd ["_law_box_here","_law_scopes","_law_names_here","_law_spare","_law_floors","_law_rounds"] (zc6 n):=by
 refine F.okQ zZ (by rintro _ _ _ _ ⟨_,_,_,_,_,_,_,_,_,_,rfl,_⟩; rfl) fun cdv A outer s H vs Q E hr h=>?_
 obtain ⟨b,ss,l,rs,as,scopes,names,rounds,spare,floors,rfl,hb,hnm,hss,hsb,hrs,hrb,hal,hrl,hrr,hsc,hsp,hs100,hfn,hf0,q⟩:=h
 refine ⟨_,(zi (zw (i:=6) zZ.nd rfl (Or.inl rfl) (zL zd))
  (zi (zw (i:=7) zZ.nd rfl (Or.inl rfl) zj)
  (zi (zau PassesOwn.never rfl (zfB rfl m_enumerate (zc (pv 1) zd)) (zbn rfl (Zt (zV (i:=8) zZ.nd rfl (Or.inl rfl)) (Zt (zV (i:=9) zZ.nd rfl (Or.inl rfl)) zba))) (zi (zw (i:=10) zZ.nd rfl (Or.inl rfl) (zF Zf (zF Zf (pv 3) (pv 7)) (zF Zf (zF Zf (zu zM rfl m_len PySem.boot_len (zc (pv 1) zd)) (pv 8)) zj)))
  (zi (zaM (zt G_lany hr rfl (zc (pv 0) (zc (pv 9) (zc (pv 2) (zc (pv 10) (zc (pv 4) (zc (zD zy (pv 5) (pv 8) (fun _ _=>rfl)) zd))))))) (zbn rfl (Zt (zV (i:=11) zZ.nd rfl (Or.inl rfl)) (Zt (zV (i:=12) zZ.nd rfl (Or.inl rfl)) zba))))
  (zi (ZN (zb8 PySem.F.plainAttrs_list PySem.F.slot_list_append PySem.F.type_list_append zai (pv 6) (zc (pv 11) zd)))
  (zl (zw (i:=7) zZ.nd rfl (Or.inl rfl) (zF Ze (pv 7) (pv 12))))))))
  (zl (zq (zA (zc (zE zN rfl m_tuple zI (zc (pv 6) zd)) (zc (pv 7) zd)))))))),?_⟩
 refine ⟨zl0,fun p hp=>?_⟩
 have st0:=Step.new (o:=.lst []) hb hp
 have hpb:p≠b:=fun z=>by
  obtain ⟨x,y,w',e⟩:=hb
  rw [← z,hp] at e
  cases e
 refine ⟨_,rfl,ss,as.map V.ref,rfl,SqL.of (st0.keep ss _ hsb hss),zj0 (xs:=as.map V.ref) (fun i σ' H'=>∃ (o8 o9 o10 o11 o12:Option V) (us:List V) (ps:List Rl),σ' = [some (.ref b),some (.ref ss),some (.ref l),some (.int spare),some (.int floors),some (.ref rs),some (.ref p),some (.int (manys ps)),o8,o9,o10,o11,o12]/\Step b H H'/\H' p = some (.lst us)/\RWs H' us (rlWs ps)/\ps.length = i/\(∀ (i:Nat) (p:Rl) (sc:List Str),ps[i]? = some p->scopes[i]? = some sc->p.Fit sc/\(p.high:Int)<=floors + 1)/\(manys ps:Int) + (scopes.length - i)<=spare)
  ⟨none,none,none,none,none,[],[],rfl,st0,zh,⟨rfl,fun i v w e=>by simp at e⟩,rfl,fun i p sc e=>by simp at e,by simp [manys]; omega⟩ (fun i σ' H' _ h=>?_) (fun i x t σ' H' hx ht h=>?_) (fun σ' H' h=>?_)⟩
 ·obtain ⟨_,_,_,_,_,us,ps,_,st,_⟩:=h
  exact SqL.of (st.keep ss _ hsb hss)
 ·obtain ⟨o8,o9,o10,o11,o12,us,ps,rfl,st,ep,hw,hpl,hfit,hm⟩:=h
  rw [List.getElem?_map] at hx
  obtain ⟨a,ha,rfl⟩:=Option.map_eq_some_iff.mp hx
  have hi:i < as.length:=(List.getElem?_eq_some_iff.mp ha).1
  have hsi:scopes[i]? = some scopes[i]:=List.getElem?_eq_getElem (by omega)
  have hri:rounds[i]? = some rounds[i]:=List.getElem?_eq_getElem (by omega)
  obtain ⟨h1,h2,h3⟩:=hsc i a _ ha hsi
  have r0:=hrr _ (List.mem_of_getElem? hri)
  have hat:atI (rounds.map V.int) (i:Int) = some (.int rounds[i]):=zG (by rw [List.getElem?_map,hri]; rfl)
  have sT:=Same.new (o:=.tup [.int i,.ref a]) ht
  have stT:=st.trans (Step.ofSame' st.box sT)
  have hf:0<=floors:=by
   rcases hf0 with h | h
   ·exact h
   ·have h0:as.length = 0:=by rw [hal,h]; rfl
    omega
  refine ⟨t,_,rfl,SqT.of zh,rfl,_,_,rfl,_,_,rfl,rfl,?_⟩
  refine ⟨_,rfl,_,rfl,_,_,rfl,rfl,_,rfl,_,_,rfl,.inl ⟨_,SqL.of (stT.keep ss _ hsb hss),rfl⟩,_,rfl,_,_,rfl,rfl,_,_,rfl,rfl,_,_,rfl,rfl,?_⟩
  refine ⟨_,rfl,_,rfl,_,rfl,_,rfl,_,rfl,_,rfl,_,rfl,rs,_,_,_,rfl,rfl,SqL.of (stT.keep rs _ hrb hrs),hat,?_⟩
  refine ⟨b,a,l,scopes[i],names,_,floors,rounds[i],rfl,stT.box,hnm.step stT,stT.keep a _ h2 h1,h2,h3,?_,?_,hf,hfn,r0,fun t3 v r H3 et rw3 fit hmany hhigh st3=>?_⟩
  ·rw [List.length_map,hal]; omega
  ·rw [List.length_map,hal]; omega
  rw [List.length_map,hal] at hmany
  have st4:=stT.trans st3
  have ep3:=(Step.ofSame' st.box sT).trans st3 |>.keep p _ hpb ep
  have hul:=hw.len
  rw [zef] at hul
  refine ⟨t3,_,rfl,SqT.of et,rfl,_,_,rfl,_,_,rfl,rfl,?_⟩
  refine ⟨_,rfl,.inl ⟨rfl,us,SqL.of ep3⟩,_,rfl,p,us,v,rfl,rfl,ep3,Nat.lt_of_le_of_lt (show us.length<=100 by omega) (by decide),?_⟩
  refine ⟨_,rfl,_,rfl,_,_,rfl,rfl,?_⟩
  have tq:Tups H3 (upd H3 p (.lst (us ++ [v]))):=fun c zs ec=>by
   rw [zr (fun z=>by rw [z,ep3] at ec; cases ec)]
   exact ec
  have stF:Step b H (upd H3 p (.lst (us ++ [v]))):=⟨by
   obtain ⟨x,y,z,e'⟩:=st4.box
   exact ⟨x,y,z,by rw [zr hpb.symm]; exact e'⟩,fun c o hc e'=>by
   rw [zr (zm e' hp)]
   exact st4.keep c o hc e'⟩
  have tS:Tups H' H3:=fun c zs ec=>st3.tups stT.box c zs (sT _ _ ec)
  refine ⟨some (.int i),some (.ref a),some (.int (spare - manys ps - (((as.map V.ref).length:Int) - i - 1))),some v,some (.int r.many),us ++ [v],ps ++ [r],?_,stF,zh,?_,by rw [List.length_append,hpl]; rfl,fun j p' sc hj hs=>?_,?_⟩
  ·rw [zdz,Int.natCast_add]
   rfl
  ·rw [zi4]
   exact ((hw.mono tS).mono tq).snoc (rw3.mono tq)
  ·by_cases hjl:j < ps.length
   ·rw [List.getElem?_append_left hjl] at hj
    exact hfit j p' sc hj hs
   ·rw [List.getElem?_append_right (by omega)] at hj
    have hj0:j - ps.length = 0:=by
     have:=(List.getElem?_eq_some_iff.mp hj).1
     simp at this
     omega
    rw [hj0] at hj
    cases hj
    have hji:j = i:=by omega
    rw [hji,hsi] at hs
    cases hs
    exact ⟨fit,hhigh⟩
  ·rw [zdz]
   omega
 ·obtain ⟨o8,o9,o10,o11,o12,us,ps,rfl,st,ep,hw,hpl,hfit,hm⟩:=h
  rw [List.length_map,hal] at hpl hm
  refine ⟨_,rfl,p,us,rfl,.inl ⟨SqL.of ep,fun t2 ht2=>⟨_,rfl,zl2,fun t ht=>?_⟩⟩⟩
  have s1:=Same.new (o:=.tup us) ht2
  have s2:=Same.new (o:=.tup [.ref t2,.int (manys ps)]) ht
  have s3:=s1.trans s2
  exact q t t2 us ps _ zh (s2 _ _ zh) (hw.mono (za2 s3)) hpl hfit (by omega) (st.trans (Step.ofSame' st.box s3))
theorem zP.ne {H:Hp}{b p:Addr} (hb:zP H b) (hp:H p = none):p≠b:=fun z=>by
 obtain ⟨x,y,w',e⟩:=hb
 rw [← z,hp] at e
 cases e
def wIf:Wo->Bool
 | .ifw=>true
 | _=>false
def zeg:Wo->Bool
 | .list=>true
 | _=>false
def wB:Wo->Bool
 | .letw=>true
 | .each=>true
 | .over=>true
 | _=>false
def zf1:Wo->Bool
 | .each=>true
 | _=>false
def zcc:Wo->Bool
 | .over=>true
 | _=>false
theorem eqIf (d:Wo):decide (V.str (woS d) = V.str "if") = wIf d:=by cases d <;> decide +kernel
theorem znd (d:Wo):decide (V.str (woS d) = V.str "list") = zeg d:=by cases d <;> decide +kernel
theorem zne (d:Wo):decide (V.str (woS d) = V.str "each") = zf1 d:=by cases d <;> decide +kernel
theorem znf (d:Wo):decide (V.str (woS d) = V.str "over") = zcc d:=by cases d <;> decide +kernel
theorem inB (d:Wo):inV (.str (woS d)) [.str "let",.str "each",.str "over"] = wB d:=by cases d <;> decide +kernel
def Wo.cnt (d:Wo):Int:=2 + (if wIf d then 1 else 0) - (if w1 d then 1 else 0)
theorem zng (d:Wo):1<=d.cnt/\d.cnt<=3:=by cases d <;> decide
theorem zkb (d:Wo) (h:wLit d = false) (h2:wVar d = false) (h3:zeg d = false):d.cnt<=d.needs/\wVL d = false:=by cases d <;> first | (simp_all [wLit,wVar,zeg]; done) | decide
theorem znh (d:Wo) (h:wB d = true):2<=d.needs/\wVL d = false:=by cases d <;> first | (simp [wB] at h; done) | decide
theorem zni (d:Wo) (h:zcc d = true):d.needs = 3/\wB d = true/\bcnt d = 2/\wEO d = true/\zf1 d = false:=by cases d <;> first | (simp [zcc] at h; done) | decide
theorem znM (d:Wo) (h:wB d = true) (h2:zcc d = false):bcnt d = 1:=by cases d <;> first | (simp [wB] at h; done) | (simp [zcc] at h2; done) | decide
theorem znN (d:Wo) (h:wB d = false):bcnt d = 0/\zf1 d = false/\zcc d = false:=by cases d <;> first | (simp [wB] at h; done) | decide
theorem znj (d:Wo) (h:zf1 d = true):wB d = true/\wEO d = true/\zcc d = false:=by cases d <;> first | (simp [zf1] at h; done) | decide
theorem znO (d:Wo) (h:wB d = true) (h2:zcc d = false):Cnt d 2:=by cases d <;> first | (simp [wB] at h; done) | (simp [zcc] at h2; done) | rfl
theorem zlZ (d:Wo) (h1:wLit d = false) (h2:wVar d = false) (h3:zeg d = false) (h4:wB d = false):Cnt d d.cnt.toNat:=by cases d <;> first | (simp [wLit] at h1; done) | (simp [wVar] at h2; done) | (simp [zeg] at h3; done) | (simp [wB] at h4; done) | rfl
theorem zkc (d:Wo) (h:zeg d = true) {n:Nat} (hn:n<=8):Cnt d n:=by cases d <;> first | (simp [zeg] at h; done) | exact hn
def Shp (scopes:List (List Str)) (scope bs:List Str):Prop:=(bs = []/\∀ s∈scopes,s = scope)\/∃ m,scopes = List.replicate m scope ++ [scope ++ bs]
theorem zgu {scope:List Str}:∀ {ps:List Rl},(∀ p∈ps,p.Fit scope)->Fits ps scope []
 | [],_=>by rw [Fits]; trivial
 | [p],h=>by rw [Fits,List.append_nil]; exact h p (by simp)
 | p :: q :: r,h=>by rw [Fits]; exact ⟨h p (by simp),zgu fun x hx=>h x (List.mem_cons_of_mem _ hx)⟩
theorem zfa {scope bs:List Str}:∀ (m:Nat) (ps:List Rl),ps.length = m + 1->(∀ (i:Nat) (p:Rl) (sc:List Str),ps[i]? = some p->(List.replicate m scope ++ [scope ++ bs])[i]? = some sc->p.Fit sc)->Fits ps scope bs
 | 0,[p],_,h=>by rw [Fits]; exact h 0 p _ rfl rfl
 | m + 1,p :: q :: r,hl,h=>by
  rw [Fits]
  refine ⟨h 0 p _ rfl (by rw [List.replicate_succ]; rfl),zfa m (q :: r) (by simpa using hl) fun i x sc hx hs=>h (i + 1) x sc (by simpa using hx) ?_⟩
  rw [List.replicate_succ,List.cons_append,List.getElem?_cons_succ]
  exact hs
 | m + 1,[p],hl,_=>by simp at hl
 | 0,p :: q :: r,hl,_=>by simp at hl
theorem Shp.fits {scopes:List (List Str)}{scope bs:List Str} (h:Shp scopes scope bs) {ps:List Rl} (hl:ps.length = scopes.length) (hp:∀ (i:Nat) (p:Rl) (sc:List Str),ps[i]? = some p->scopes[i]? = some sc->p.Fit sc):Fits ps scope bs:=by
 rcases h with ⟨rfl,h⟩ | ⟨m,rfl⟩
 ·refine zgu fun p hm=>?_
  obtain ⟨i,hi,rfl⟩:=List.getElem_of_mem hm
  have e:scopes[i]? = some (scopes[i]'(by omega)):=List.getElem?_eq_getElem (by omega)
  have:=hp i _ _ (List.getElem?_eq_getElem hi) e
  rw [h _ (List.mem_of_getElem? e)] at this
  exact this
 ·exact zfa m ps (by simpa using hl) hp
theorem zfb {n:Int}:∀ {ps:List Rl},0<=n->(∀ p∈ps,(p.high:Int)<=n - 1)->(rhighs ps:Int)<=n
 | [],h,_=>by simp [rhighs]; exact h
 | p :: r,h,hp=>by
  have h1:=hp p (by simp)
  have h2:=zfb h fun q hq=>hp q (List.mem_cons_of_mem _ hq)
  simp only [rhighs]
  omega
theorem zcn {α:Type} (n:Nat) (x:α):(List.replicate n [x]).flatten = List.replicate n x:=by
 induction n with
 | zero=>rfl
 | succ n ih=>rw [List.replicate_succ,List.flatten_cons,ih,List.replicate_succ]; rfl
def Rd (d:Wo) (b sc l:Addr) (scope:List Str) (spare floors rounds:Int) (H0:Hp) (fin:Bool) (σ:St) (H:Hp):Prop:=
 ∃ (bn ss rs:Addr) (bs:List Str) (as:List Addr) (scopes:List (List Str)) (rl:List Int) (o10:Option V),σ = [some (.ref b),some (.ref sc),some (.ref l),some (.int spare),some (.int floors),some (.int rounds),some (.str (woS d)),some (.ref bn),some (.ref ss),some (.ref rs),o10,none,none]/\Step b H0 H/\H bn = some (.tup (bs.map V.str)) /\
  H ss = some (.lst (as.map V.ref))/\ss≠b/\H rs = some (.lst (rl.map V.int))/\rs≠b/\as.length = scopes.length/\scopes.length<=rl.length/\(∀ r∈rl,r = 0) /\
  (∀ (i:Nat) (a:Addr) (s:List Str),as[i]? = some a->scopes[i]? = some s->H a = some (.lst (s.map V.str))/\a≠b/\s.length<=scope.length + 2)/\(∀ z∈bs,z.length<=8/\Signs z) /\
  (fin = true->(scopes.length:Int)<=spare - 1/\(0<=floors - 1\/scopes = [])/\bs.length = bcnt d/\Cnt d scopes.length/\Shp scopes scope bs)/\(fin = false->∃ z,bs = [z])/\(zf1 d = true->scopes.length<=2)
theorem Zv:FnScope ["_law_box_here","_law_scope","_law_names_here","_law_spare","_law_floors","_law_rounds","_law_word_here","_law_bound","_law_scopes","_law_inner","_law_other","_law_parts","_law_used"] ["_law_box_here","_law_scope","_law_names_here","_law_spare","_law_floors","_law_rounds"] (zn zh8):=mkSc rfl (by decide +kernel)
theorem zl5 (F:Fun K "_law_any" "_law_any" zh8 f fd) (G_lparts_by:Have P w K mg base "_law_parts_by" k ["_law_box_here","_law_scopes","_law_names_here","_law_spare","_law_floors","_law_rounds"] (zc6 n)) (G_lvariable:Have P w K mg base "_law_variable" k ["_law_box_here"] (zm9)) (G_ltake:Have P w K mg base "_law_take" k ["_law_box_here","_law_wide"] (Z7)) (G_llit:Have P w K mg base "_law_lit" k ["_law_box_here","_law_names_here"] (zna)) (G_lword:Have P w K mg base "_law_word" k ["_law_box_here","_law_scope","_law_spare","_law_floors","_law_rounds"] (zk1)) (m_int:mg "int" = none) (m_len:mg "len" = none) (m_list:mg "list" = none) (m_min:mg "min" = none):FnOk P w K mg base CX0 (k + 1) f fd ["_law_box_here","_law_scope","_law_names_here","_law_spare","_law_floors","_law_rounds"] (zhq (n + 1)):=by
 refine F.okQ Zv (by rintro _ _ _ _ ⟨_,_,_,_,_,_,_,_,rfl,_⟩; rfl) fun cdv A outer s H vs Q E hr h=>?_
 obtain ⟨b,sc,l,scope,names,spare,floors,rounds,rfl,hb,hnm,hsc,hsb,hsl,hs1,hs100,hf0,hfn,hr0,q⟩:=h
 refine ⟨_,(zi (zw (i:=6) Zv.nd rfl (Or.inl rfl) (zt G_lword hr rfl (zc (pv 0) (zc (pv 1) (zc (pv 3) (zc (pv 4) (zc (pv 5) zd)))))))
  (zi (zJ (zB Za (pv 6) zo (nomark _)) (zl (zq (zA (zc (zt G_llit hr rfl (zc (pv 0) (zc (pv 2) zd))) (zc zj zd))))) zx)
  (zi (zJ (zB Za (pv 6) zo (nomark _)) (zl (zq (zA (zc (zA (zc zo (zc (zD zy (pv 1) (zt G_ltake hr rfl (zc (pv 0) (zc (zu zM rfl m_len PySem.boot_len (zc (pv 1) zd)) zd))) (fun _ _=>rfl)) zd))) (zc zj zd))))) zx)
  (zi (zw (i:=7) Zv.nd rfl (Or.inl rfl) (zA zd))
  (zi (zw (i:=8) Zv.nd rfl (Or.inl rfl) (zF zhR (zL (zc (pv 1) zd)) (zF Zf (zF Ze zj (zE zav rfl m_int Z0 (zc (zY Za (pv 6) zo (nomark _)) zd))) (zE zav rfl m_int Z0 (zc (zY zah (pv 6) (zA (zc zo (zc zo (zc zo (zc zo zd))))) (by rfl)) zd)))))
  (zi (zw (i:=9) Zv.nd rfl (Or.inl rfl) (zF zhR (zL (zc (pv 5) zd)) zj))
  (zi (zJ (zB Za (pv 6) zo (nomark _)) (zl (zw (i:=8) Zv.nd rfl (Or.inl rfl) (zF zhR (zL (zc (pv 1) zd)) (zu (zes rfl) rfl m_min PyProof.Rows.boot_min (zc (zt G_ltake hr rfl (zc (pv 0) (zc (zD zy (zL (zc zj (zc zj zd))) (zE zav rfl m_int Z0 (zc (zY zeq (pv 4) zj (nomark _)) zd)) (fun _ _=>rfl)) zd))) (zc (zF Zf (pv 3) zj) zd)))))) zx)
  (zi (zJ (zB zah (pv 6) (zA (zc zo (zc zo (zc zo zd)))) (by rfl)) (zi (zw (i:=7) Zv.nd rfl (Or.inl rfl) (zA (zc (zt G_lvariable hr rfl (zc (pv 0) zd)) zd)))
  (zl (zw (i:=8) Zv.nd rfl (Or.inl rfl) (zL (zc (pv 1) (zc (zF zeH (pv 1) (zE Zr rfl m_list ZU (zc (pv 7) zd))) zd)))))) zx)
  (zi (zJ (zB Za (pv 6) zo (nomark _)) (zl (zw (i:=9) Zv.nd rfl (Or.inl rfl) (zL (zc (pv 5) (zc (zF Zf (pv 5) zj) zd))))) zx)
  (zi (zJ (zB Za (pv 6) zo (nomark _)) (zi (zw (i:=10) Zv.nd rfl (Or.inl rfl) (zt G_lvariable hr rfl (zc (pv 0) zd)))
  (zi (zJ (zB Za (pv 10) (zD zS (pv 7) zj (fun _ _=>rfl)) (nomark _)) (zl (zw (i:=10) Zv.nd rfl (Or.inl rfl) (zD zy (zL (zc zo (zc zo zd))) (zE zav rfl m_int Z0 (zc (zY Za (pv 10) zo (nomark _)) zd)) (fun _ _=>rfl)))) zx)
  (zi (zw (i:=7) Zv.nd rfl (Or.inl rfl) (zF zcy (pv 7) (zA (zc (pv 10) zd))))
  (zi (zw (i:=8) Zv.nd rfl (Or.inl rfl) (zL (zc (pv 1) (zc (pv 1) (zc (zF zeH (pv 1) (zE Zr rfl m_list ZU (zc (pv 7) zd))) zd)))))
  (zl (zw (i:=9) Zv.nd rfl (Or.inl rfl) (zL (zc (pv 5) (zc (pv 5) (zc (zF Zf (pv 5) zj) zd)))))))))) zx)
  (zi (zaM (zt G_lparts_by hr rfl (zc (pv 0) (zc (pv 8) (zc (pv 2) (zc (zF Zf (pv 3) zj) (zc (zF Zf (pv 4) zj) (zc (pv 9) zd))))))) (zbn rfl (Zt (zV (i:=11) Zv.nd rfl (Or.inl rfl)) (Zt (zV (i:=12) Zv.nd rfl (Or.inl rfl)) zba))))
  (zl (zq (zA (zc (zF zcy (zF zcy (zA (zc (pv 6) zd)) (pv 7)) (pv 11)) (zc (zF Ze (pv 12) zj) zd)))))))))))))))),?_⟩
 refine ⟨_,rfl,_,rfl,_,rfl,_,rfl,_,rfl,b,sc,_,spare,floors,rounds,rfl,hb,hsc,hsb,fun d H1 st1 hd=>?_⟩
 refine ⟨_,rfl,rfl,_,rfl,?_⟩
 rw [show Str.ofString "lit" = "lit" from rfl,znb]
 cases hlit:wLit d with
 | true=>
  refine iteT ⟨_,rfl,_,rfl,b,l,names,rfl,st1.box,(hnm.step st1).1,hnm.2.1,hnm.2.2.1,hnm.2.2.2.1,hnm.2.2.2.2,fun v x H2 rx okx dx st2=>⟨zl2,fun a ha=>?_⟩⟩
  have st3:=st1.trans st2
  have s3:=Same.new (o:=.tup [v,.int 1]) ha
  exact q a v (.lit x) _ zh (rx.mono (za2 s3)) (by rw [Rl.Fit]; exact ⟨okx,dx⟩) (by simp only [Rl.many]; omega) (by simp only [Rl.high]; omega) (st3.trans (Step.ofSame' st3.box s3))
 | false=>
  obtain ⟨hneed,hfl,hsv,heo⟩:=hd hlit
  have heo:wEO d = false:=by
   cases h:wEO d with
   | true=>exact absurd hr0 (heo h)
   | false=>rfl
  refine iteF ⟨_,rfl,rfl,_,rfl,?_⟩
  rw [show Str.ofString "var" = "var" from rfl,znc]
  cases hvar:wVar d with
  | true=>
   have hpos:0 < scope.length:=List.length_pos_iff.mpr fun z=>hsv hvar (by rw [z]; rfl)
   have hsc1:=st1.keep sc _ hsb hsc
   refine iteT ⟨_,rfl,_,rfl,_,rfl,_,_,rfl,.inl ⟨_,SqL.of hsc1,rfl⟩,b,_,rfl,st1.box,by rw [List.length_map]; omega,by rw [List.length_map]; omega,fun m H2 m0 m1 st2=>?_⟩
   rw [List.length_map] at m1
   have hi:m.toNat < scope.length:=by omega
   have hat:atI (scope.map V.str) m = some (.str scope[m.toNat]):=by
    have:=zG (xs:=scope.map V.str) (j:=m.toNat) (v:=.str scope[m.toNat]) (by rw [List.getElem?_map,List.getElem?_eq_getElem hi]; rfl)
    rw [show ((m.toNat:Nat):Int) = m by omega] at this
    exact this
   have st3:=st1.trans st2
   refine ⟨sc,_,m,_,rfl,rfl,SqL.of (st3.keep sc _ hsb hsc),hat,zl2,fun a ha=>⟨zl2,fun a2 ha2=>?_⟩⟩
   have s4:=Same.new (o:=.tup [.str "var",.str scope[m.toNat]]) ha
   have s5:=Same.new (o:=.tup [.ref a,.int 1]) ha2
   have s45:=s4.trans s5
   exact q a2 (.ref a) (.var scope[m.toNat]) _ zh (by rw [Rl.toW]; exact RW.pair (s5 _ _ zh) (.txt _) (.txt _)) (by rw [Rl.Fit]; exact List.getElem_mem hi) (by simp only [Rl.many]; omega) (by simp only [Rl.high]; omega) (st3.trans (Step.ofSame' st3.box s45))
  | false=>
   refine iteF ?_
   have h1:=st1.box
   have hsc1:=st1.keep sc _ hsb hsc
   refine ⟨zl0,fun bn hbn=>?_⟩
   have st2:=st1.trans (Step.new (o:=.tup []) h1 hbn)
   have e1:=in1 d
   refine ⟨_,rfl,zl1,fun p1 hp1=>⟨_,rfl,rfl,.inr ⟨_,rfl,_,_,rfl,rfl,_,rfl,zl4,fun q2 hq2=>⟨q2,_,rfl,.inr (SqT.of zh),rfl,rfl,.inr ⟨_,rfl,_,_,rfl,rfl,?_⟩⟩⟩⟩⟩
   have st3:=st2.trans (Step.new (o:=.lst [.ref sc]) st2.box hp1)
   have st4:=st3.trans (Step.new (o:=.tup [.str "count",.str "figures",.str "look",.str "cry"]) st3.box hq2)
   obtain ⟨c0,c3⟩:=zng d
   have hcnt:(2 + (if wIf d then 1 else 0) - (if w1 d then 1 else 0):Int) = d.cnt:=rfl
   have hk1:upd (upd (upd H1 bn (.tup [])) p1 (.lst [.ref sc])) q2 (.tup [.str "count",.str "figures",.str "look",.str "cry"]) p1 = some (.lst [.ref sc]):=(Same.new hq2) _ _ zh
   refine ⟨p1,d.cnt,[.ref sc],rfl,?_,hk1,by omega,by omega,by show 1 * _<=sizeLine; exact Nat.le_trans (show 1 * d.cnt.toNat<=3 by omega) (by decide),fun s1 hs1=>?_⟩
   ·rw [← hcnt,← eqIf,← e1]
    rfl
   have hs1b:=zP.ne st4.box hs1
   have st5:=st4.trans (Step.new (o:=.lst (List.replicate d.cnt.toNat [V.ref sc]).flatten) st4.box hs1)
   refine ⟨_,rfl,zl1,fun p2 hp2=>⟨p2,8,[.int rounds],rfl,rfl,zh,by decide,by decide,by show 1 * 8<=sizeLine; decide,fun r1 hr1=>?_⟩⟩
   have st6:=st5.trans (Step.new (o:=.lst [.int rounds]) st5.box hp2)
   have hr1b:=zP.ne st6.box hr1
   have s67:=Same.new (o:=.lst (List.replicate 8 [V.int rounds]).flatten) hr1
   have st7:=st6.trans (Step.ofSame' st6.box s67)
   have ebn:upd (upd (upd (upd (upd (upd H1 bn (.tup [])) p1 (.lst [.ref sc])) q2 (.tup [.str "count",.str "figures",.str "look",.str "cry"])) s1 (.lst (List.replicate d.cnt.toNat [V.ref sc]).flatten)) p2 (.lst [.int rounds])) r1 (.lst (List.replicate 8 [V.int rounds]).flatten) bn = some (.tup []):=s67 _ _ ((Same.new hp2) _ _ ((Same.new hs1) _ _ ((Same.new hq2) _ _ ((Same.new hp1) _ _ zh))))
   have es1:upd (upd (upd (upd (upd (upd H1 bn (.tup [])) p1 (.lst [.ref sc])) q2 (.tup [.str "count",.str "figures",.str "look",.str "cry"])) s1 (.lst (List.replicate d.cnt.toNat [V.ref sc]).flatten)) p2 (.lst [.int rounds])) r1 (.lst (List.replicate 8 [V.int rounds]).flatten) s1 = some (.lst (List.replicate d.cnt.toNat [V.ref sc]).flatten):=s67 _ _ ((Same.new hp2) _ _ zh)
   replace es1:=es1.trans (by rw [zcn])
   dsimp only [ZD]
   refine seqI (fun σ' H'=>∃ (ss:Addr) (m:Nat),σ' = [some (.ref b),some (.ref sc),some (.ref l),some (.int spare),some (.int floors),some (.int rounds),some (.str (woS d)),some (.ref bn),some (.ref ss),some (.ref r1),none,none,none]/\Step b H H'/\H' bn = some (.tup [])/\H' ss = some (.lst (List.replicate m (V.ref sc)))/\ss≠b/\H' r1 = some (.lst (List.replicate 8 (V.int rounds)))/\m<=8/\(wB d = false->(m:Int)<=spare - 1/\(1<=floors\/m = 0)/\Cnt d m)) (fun σ' H' h=>?_) (fun tl=>?_)
   ·obtain ⟨ss,m,rfl,stA,ebA,esA,hsA,erA,hm,hmf⟩:=h
    refine seqI (fun σ' H'=>Rd d b sc l scope spare floors rounds H (!zcc d) σ' H') (fun σ' H' h=>?_) (fun tl=>?_)
    ·refine seqI (fun σ' H'=>Rd d b sc l scope spare floors rounds H (!zcc d) σ' H') (fun σ' H' h=>?_) (fun tl=>?_)
     ·refine seqI (fun σ' H'=>Rd d b sc l scope spare floors rounds H true σ' H') (fun σ' H' h=>?_) (fun tl=>?_)
      ·
       obtain ⟨bn,ss,rs,bs,as,scopes,rl,o10,rfl,stF,ebn,ess,hssb,ers,hrsb,hal,hrl,hrr,hsc',hbs,hfin,_⟩:=h
       obtain ⟨hsp,hfl0,hbc,hcn,hshp⟩:=hfin rfl
       refine ⟨_,rfl,_,rfl,_,rfl,_,rfl,_,_,rfl,rfl,_,rfl,_,_,rfl,rfl,_,rfl,?_⟩
       refine ⟨b,ss,l,rs,as,scopes,names,rl,_,_,rfl,stF.box,hnm.step stF,ess,hssb,ers,hrsb,hal,hrl,hrr,fun i a s0 ha hs0=>?_,by omega,by omega,by omega,hfl0,fun t t2 us ps H9 et et2 hus hpl hfit hmn st9=>?_⟩
       ·obtain ⟨x1,x2,x3⟩:=hsc' i a s0 ha hs0
        exact ⟨x1,x2,by omega⟩
       have stG:=stF.trans st9
       have ebn9:=st9.tups stF.box _ _ ebn
       refine ⟨t,_,rfl,SqT.of et,rfl,_,_,rfl,_,_,rfl,rfl,_,rfl,zl1,fun a1 ha1=>⟨_,rfl,?_⟩⟩
       have sa1:=Same.new (o:=.tup [.str (woS d)]) ha1
       have fin:∀ (a:Addr) (Hx:Hp),Same H9 Hx->Hx a = some (.tup (.str (woS d) :: (bs.map V.str ++ us)))->∀ a3,Hx a3 = none->Q (.ref a3) (upd Hx a3 (.tup [.ref a,.int (manys ps + 1)])):=fun a Hx sx ea a3 ha3=>by
        have s3:=Same.new (o:=.tup [.ref a,.int (manys ps + 1)]) ha3
        refine q a3 (.ref a) (.op d bs ps) _ ?_ ?_ ?_ ?_ ?_ (stG.trans (Step.ofSame' stG.box (sx.trans s3)))
        ·rw [zh]
         simp only [Rl.many]
         rw [show ((1 + manys ps:Nat):Int) = manys ps + 1 by omega]
        ·rw [Rl.toW]
         refine .lst (s3 _ _ ea) (by simp; exact hus.len) fun i v x hv hx=>?_
         match i with
         | 0=>cases hv; cases hx; exact .txt _
         | i + 1=>
          rw [List.getElem?_cons_succ] at hv hx
          by_cases hi:i < bs.length
          ·rw [List.getElem?_append_left (by simpa using hi),List.getElem?_map,List.getElem?_eq_getElem hi] at hv hx
           cases hv; cases hx; exact .txt _
          ·rw [List.getElem?_append_right (by simp; omega),List.length_map] at hv hx
           exact (hus.mono (za2 (sx.trans s3))).2 _ v x hv hx
        ·rw [Rl.Fit]
         exact ⟨hlit,hvar,heo,hbc,by rw [hpl]; exact hcn,hbs,hshp.fits hpl fun i p s0 hp hs=>(hfit i p s0 hp hs).1⟩
        ·simp only [Rl.many]; omega
        ·simp only [Rl.high]
         refine zfb (by omega) fun p hp=>?_
         obtain ⟨i,hi,rfl⟩:=List.getElem_of_mem hp
         have:=(hfit i _ _ (List.getElem?_eq_getElem hi) (List.getElem?_eq_getElem (by omega))).2
         omega
       have hbl:bs.length<=2:=by rw [hbc]; cases d <;> decide
       have hul:us.length<=100:=by
        have:=hus.len
        rw [zef] at this
        omega
       refine ⟨a1,bn,_,_,rfl,rfl,SqT.of zh,SqT.of (sa1 _ _ ebn9),(fun z=>nomatch z),by simp; exact Nat.le_trans (show 1 + bs.length<=200 by omega) (by decide),fun z=>⟨_,rfl,?_⟩,fun _ p6 hp6=>⟨_,rfl,?_⟩⟩
       ·have ea1:upd H9 a1 (.tup [.str (woS d)]) a1 = some (.tup (.str (woS d) :: bs.map V.str)):=by rw [zh,z]
        refine ⟨a1,t2,_,us,rfl,rfl,SqT.of ea1,SqT.of ((sa1) _ _ et2),(fun z=>nomatch z),by simp; exact Nat.le_trans (show bs.length + 1 + us.length<=200 by omega) (by decide),fun z=>?_,fun _ p7 hp7=>?_⟩
        ·refine ⟨_,rfl,_,_,rfl,rfl,zl2,fin a1 _ (sa1) (by rw [ea1,z,List.append_nil])⟩
        ·exact ⟨_,rfl,_,_,rfl,rfl,zl2,fin p7 _ ((sa1).trans (Same.new hp7)) (by rw [zh]; rfl)⟩
       ·have ea6:upd (upd H9 a1 (.tup [.str (woS d)])) p6 (.tup ([.str (woS d)] ++ bs.map V.str)) p6 = some (.tup (.str (woS d) :: bs.map V.str)):=by rw [zh]; rfl
        have s6':=sa1.trans (Same.new (o:=.tup ([.str (woS d)] ++ bs.map V.str)) hp6)
        refine ⟨p6,t2,_,us,rfl,rfl,SqT.of ea6,SqT.of ((s6') _ _ et2),(fun z=>nomatch z),by simp; exact Nat.le_trans (show bs.length + 1 + us.length<=200 by omega) (by decide),fun z=>?_,fun _ p7 hp7=>?_⟩
        ·refine ⟨_,rfl,_,_,rfl,rfl,zl2,fin p6 _ (s6') (by rw [ea6,z,List.append_nil])⟩
        ·exact ⟨_,rfl,_,_,rfl,rfl,zl2,fin p7 _ ((s6').trans (Same.new hp7)) (by rw [zh]; rfl)⟩
      ·have h0:=h
       obtain ⟨bn,ss,rs,bs,as,scopes,rl,o10,rfl,stF,ebn,ess,hssb,ers,hrsb,hal,hrl,hrr,hsc',hbs,hfin,hz,hl2⟩:=h
       refine ⟨_,rfl,rfl,_,rfl,?_⟩
       rw [show Str.ofString "over" = "over" from rfl,znf]
       cases hov:zcc d with
       | false=>
        rw [hov] at h0
        exact iteF (tl _ _ h0)
       | true=>
        rw [(zni d hov).2.2.2.1] at heo
        cases heo
     ·have h0:=h
      obtain ⟨bn,ss,rs,bs,as,scopes,rl,o10,rfl,stF,ebn,ess,hssb,ers,hrsb,hal,hrl,hrr,hsc',hbs,hfin,hz,hl2⟩:=h
      refine ⟨_,rfl,rfl,_,rfl,?_⟩
      rw [show Str.ofString "each" = "each" from rfl,zne]
      cases hea:zf1 d with
      | false=>exact iteF (tl _ _ h0)
      | true=>
       rw [(znj d hea).2.1] at heo
       cases heo
    ·refine ⟨_,rfl,zl3,fun q3 hq3=>⟨q3,_,rfl,.inr (SqT.of zh),rfl,rfl,_,rfl,?_⟩⟩
     have sq:=Same.new (o:=.tup [.str "let",.str "each",.str "over"]) hq3
     have stB:=stA.trans (Step.ofSame' stA.box sq)
     have hscB:=stB.keep sc _ hsb hsc
     show if inV (.str (woS d)) [.str "let",.str "each",.str "over"] = true then _ else _
     rw [inB]
     cases hb0:wB d with
     | false=>
      obtain ⟨x1,x2,x3⟩:=znN d hb0
      obtain ⟨y1,y2,y3⟩:=hmf hb0
      refine iteF (tl _ _ ⟨bn,ss,r1,[],List.replicate m sc,List.replicate m scope,List.replicate 8 rounds,none,rfl,stB,sq _ _ ebA,(sq _ _ esA).trans (by rw [List.map_replicate]),hsA,(sq _ _ erA).trans (by rw [List.map_replicate]),hr1b,by simp,by simp; omega,fun r hr=>?_,fun i a s0 ha hs0=>?_,fun z hz=>(nomatch hz),fun _=>⟨by rw [List.length_replicate]; exact y1,?_,x1.symm,by rw [List.length_replicate]; exact y3,.inl ⟨rfl,fun s hs=>List.eq_of_mem_replicate hs⟩⟩,fun z=>(by rw [x3] at z; cases z),fun z=>(by rw [x2] at z; cases z)⟩)
      ·rw [List.eq_of_mem_replicate hr]; exact hr0
      ·rw [List.eq_of_mem_replicate (List.mem_of_getElem? ha),List.eq_of_mem_replicate (List.mem_of_getElem? hs0)]
       exact ⟨hscB,hsb,by omega⟩
      ·rcases y2 with y | y
       ·left; omega
       ·right; rw [y]; rfl
     | true=>
      obtain ⟨x1,x2⟩:=znh d hb0
      have hf1:1<=floors:=by
       have:floors≠0:=fun z=>by rw [hfl z] at x2; cases x2
       omega
      refine iteT ⟨_,rfl,b,rfl,stB.box,fun z H4 hz8 hzs st4'=>⟨zl1,fun bn2 hbn2=>?_⟩⟩
      have stC:=stB.trans st4'
      have sb2:=Same.new (o:=.tup [.str z]) hbn2
      refine ⟨_,rfl,_,rfl,_,rfl,bn2,[.str z],rfl,.inr (SqT.of zh),fun l3 hl3=>?_⟩
      have sb3:=Same.new (o:=.lst [.str z]) hl3
      have sb23:=sb2.trans sb3
      have hsc3:=sb23 _ _ (stC.keep sc _ hsb hsc)
      refine ⟨sc,l3,_,_,rfl,rfl,hsc3,zh,by rw [List.length_map]; exact Nat.le_trans (show scope.length + 1<=1000 by omega) (by decide),fun p5 hp5=>⟨zl2,fun s5 hs5=>?_⟩⟩
      have sb4:=Same.new (o:=.lst (scope.map V.str ++ [.str z])) hp5
      have sb5:=Same.new (o:=.lst [.ref sc,.ref p5]) hs5
      have sAll:=(sb23.trans sb4).trans sb5
      have hboxC:=stC.box
      have st34:=Step.ofSame' hboxC (sb23.trans sb4)
      refine tl _ _ ⟨bn2,s5,r1,[z],[sc,p5],[scope,scope ++ [z]],List.replicate 8 rounds,none,rfl,stC.trans (Step.ofSame' hboxC sAll),(sb3.trans (sb4.trans sb5)) _ _ zh,zh,zP.ne st34.box hs5,(sAll _ _ (st4'.keep _ _ hr1b (sq _ _ erA))).trans (by rw [List.map_replicate]),hr1b,rfl,by simp,fun r hr=>?_,fun i a s0 ha hs0=>?_,fun y hy=>?_,fun hf=>⟨?_,.inl (by omega),?_,znO d hb0 (by simpa using hf),.inr ⟨1,rfl⟩⟩,fun _=>⟨z,rfl⟩,fun _=>Nat.le_refl _⟩
      ·rw [List.eq_of_mem_replicate hr]; exact hr0
      ·match i with
       | 0=>cases ha; cases hs0; exact ⟨sAll _ _ (stC.keep sc _ hsb hsc),hsb,by omega⟩
       | 1=>
        cases ha; cases hs0
        exact ⟨(sb5 _ _ zh).trans (by rw [List.map_append]; rfl),zP.ne (Step.ofSame' hboxC sb23).box hp5,by rw [List.length_append]; show _ + 1<=_; omega⟩
       | i + 2=>cases ha
      ·rw [List.mem_singleton.mp hy]; exact ⟨hz8,hzs⟩
      ·show (2:Int)<=spare - 1; omega
      ·show 1 = bcnt d
       rw [znM d hb0 (by simpa using hf)]
   ·refine ⟨_,rfl,rfl,_,rfl,?_⟩
    rw [show Str.ofString "list" = "list" from rfl,znd]
    cases hls:zeg d with
    | false=>
     obtain ⟨hcn,hvl⟩:=zkb d hlit hvar hls
     have hf1:1<=floors:=by
      have:floors≠0:=fun z=>by rw [hfl z] at hvl; cases hvl
      omega
     exact iteF (tl _ _ ⟨s1,d.cnt.toNat,rfl,st7,ebn,es1,hs1b,zh.trans (by rw [zcn]; rfl),by omega,fun hwb=>⟨by omega,.inl hf1,zlZ d hlit hvar hls hwb⟩⟩)
    | true=>
     have hwB:wB d = false:=by cases d <;> first | rfl | (simp [zeg] at hls; done)
     refine iteT ⟨_,rfl,zl1,fun p3 hp3=>⟨_,rfl,zl2,fun p4 hp4=>⟨_,rfl,_,_,rfl,rfl,.inr ⟨_,rfl,?_⟩⟩⟩⟩
     have s73:=Same.new (o:=.lst [.ref sc]) hp3
     have s74:=Same.new (o:=.lst [.int 1,.int 9]) hp4
     have s8:=s73.trans s74
     have st8:=st7.trans (Step.ofSame' st7.box s8)
     have hp3b:=zP.ne st7.box hp3
     obtain ⟨wd,hwd,hw0,hw9,hwf⟩:∃ wd:Int,atI [V.int 1,V.int 9] (if (decide (0 < floors)) = true then 1 else 0) = some (.int wd)/\1<=wd/\wd<=9/\(floors = 0->wd = 1):=by
      by_cases hf:0 < floors
      ·exact ⟨9,by rw [decide_eq_true hf]; rfl,by decide,by decide,fun z=>by omega⟩
      ·exact ⟨1,by rw [decide_eq_false hf]; rfl,by decide,by decide,fun z=>rfl⟩
     refine ⟨p4,_,_,_,rfl,rfl,SqL.of zh,hwd,b,wd,rfl,st8.box,by omega,by omega,fun m H2 m0 m1 st9=>?_⟩
     refine ⟨_,rfl,_,_,rfl,rfl,_,_,rfl,?_⟩
     have ep3:H2 p3 = some (.lst [.ref sc]):=st9.keep _ _ hp3b (s74 _ _ zh)
     have hmn:(if spare - 1 < m then spare - 1 else m)<=spare - 1/\(if spare - 1 < m then spare - 1 else m)<=m/\0<=(if spare - 1 < m then spare - 1 else m):=by
      split <;> omega
     generalize hmm:(if spare - 1 < m then spare - 1 else m) = mm at hmn
     refine ⟨p3,mm,[.ref sc],rfl,by rw [← hmm],ep3,by omega,by omega,by show 1 * _<=sizeLine; exact Nat.le_trans (show 1 * mm.toNat<=9 by omega) (by decide),fun s2 hs2=>?_⟩
     have st10:=st8.trans st9
     have s11:=Same.new (o:=.lst (List.replicate mm.toNat [V.ref sc]).flatten) hs2
     have hbnb:bn≠b:=zP.ne h1 hbn
     refine tl _ _ ⟨s2,mm.toNat,rfl,st10.trans (Step.ofSame' st10.box s11),s11 _ _ (st9.keep _ _ hbnb (s8 _ _ ebn)),zh.trans (by rw [zcn]),zP.ne st10.box hs2,s11 _ _ (st9.keep _ _ hr1b (s8 _ _ (zh.trans (by rw [zcn]; rfl)))),by omega,fun _=>⟨by omega,?_,zkc d hls (by omega)⟩⟩
     by_cases hf:floors = 0
     ·right
      have:=hwf hf
      omega
     ·left; omega
structure Cs {α:Type} (st:α->Prop) (C:List Res->Ns->α × Ns) (fs:List Res) (ns:Ns):Prop where
 ge:ns <+: (C fs ns).2
 s1:st (C fs ns).1->(C fs ns).2.length = fs.length + 1
 s0:¬ st (C fs ns).1->(C fs ns).2.length<=fs.length
 c1:∀ j,ns.length<=j->j < fs.length->(C fs ns).2.length<=j->C (fs.take j) ns = C fs ns
 c2:∀ j,ns.length<=j->j < fs.length->j < (C fs ns).2.length->st (C (fs.take j) ns).1/\(C (fs.take j) ns).2 = (C fs ns).2.take (j + 1)
section
variable {α β:Type}{sa:α->Prop}{sb:β->Prop}{fs:List Res}{ns:Ns}
theorem Cs.pure {a:α} (h:¬ sa a) (hn:ns.length<=fs.length):Cs sa (fun _ ns=>(a,ns)) fs ns:=
 ⟨List.prefix_refl _,fun z=>absurd z h,fun _=>hn,fun _ _ _ _=>rfl,fun j h1 _ h3=>absurd h3 (by show ¬ j < ns.length; omega)⟩
theorem zkd {a b:Ns} (h:a <+: b) {j:Nat} (hj:j<=a.length):b.take j = a.take j:=by
 obtain ⟨t,rfl⟩:=h
 exact List.take_append_of_le_length hj
theorem Cs.bind {A:List Res->Ns->α × Ns}{B:List Res->Ns->β × Ns}{D:List Res->Ns->β × Ns} (hA:Cs sa A fs ns)
  (hs:∀ gs,sa (A gs ns).1->sb (D gs ns).1/\(D gs ns).2 = (A gs ns).2)
  (hg:∀ gs,(A gs ns) = (A fs ns)->¬ sa (A fs ns).1->D gs ns = B gs (A fs ns).2)
  (hB:¬ sa (A fs ns).1->Cs sb B fs (A fs ns).2):Cs sb D fs ns:=by
 by_cases h:sa (A fs ns).1
 ·obtain ⟨d1,d2⟩:=hs fs h
  have l1:=hA.s1 h
  refine ⟨by rw [d2]; exact hA.ge,fun _=>by rw [d2]; exact l1,fun z=>absurd d1 z,fun j _ h2 h3=>?_,fun j h1 h2 h3=>?_⟩
  ·rw [d2] at h3; omega
  ·obtain ⟨i1,i2⟩:=hA.c2 j h1 h2 (by omega)
   obtain ⟨e1,e2⟩:=hs (fs.take j) i1
   exact ⟨e1,by rw [e2,i2,d2]⟩
 ·have hb:=hB h
  have e:=hg fs rfl h
  refine ⟨by rw [e]; exact hA.ge.trans hb.ge,fun z=>by rw [e] at z ⊢; exact hb.s1 z,fun z=>by rw [e] at z ⊢; exact hb.s0 z,fun j h1 h2 h3=>?_,fun j h1 h2 h3=>?_⟩
  ·rw [e] at h3 ⊢
   have hle:(A fs ns).2.length<=j:=Nat.le_trans hb.ge.length_le h3
   have eA:=hA.c1 j h1 h2 hle
   rw [hg (fs.take j) eA h]
   exact hb.c1 j hle h2 h3
  ·rw [e] at h3 ⊢
   by_cases hle:(A fs ns).2.length<=j
   ·have eA:=hA.c1 j h1 h2 hle
    rw [hg (fs.take j) eA h]
    exact hb.c2 j hle h2 h3
   ·obtain ⟨i1,i2⟩:=hA.c2 j h1 h2 (by omega)
    obtain ⟨e1,e2⟩:=hs (fs.take j) i1
    refine ⟨e1,?_⟩
    rw [e2,i2,zkd hb.ge (by omega)]
theorem Cs.map {A:List Res->Ns->α × Ns}{D:List Res->Ns->β × Ns} (hA:Cs sa A fs ns) (hd:∀ gs,∃ b,D gs ns = (b,(A gs ns).2)/\(sb b ↔ sa (A gs ns).1)) (he:∀ gs,A gs ns = A fs ns->D gs ns = D fs ns):Cs sb D fs ns:=by
 obtain ⟨b,eb,ib⟩:=hd fs
 refine ⟨by rw [eb]; exact hA.ge,fun z=>by rw [eb] at z ⊢; exact hA.s1 (ib.mp z),fun z=>by rw [eb] at z ⊢; exact hA.s0 (fun y=>z (ib.mpr y)),fun j h1 h2 h3=>?_,fun j h1 h2 h3=>?_⟩
 ·rw [eb] at h3
  exact he _ (hA.c1 j h1 h2 h3)
 ·rw [eb] at h3
  obtain ⟨i1,i2⟩:=hA.c2 j h1 h2 h3
  obtain ⟨b',eb',ib'⟩:=hd (fs.take j)
  rw [eb',eb]
  exact ⟨ib'.mpr i1,i2⟩
end
def stR (r:R):Prop:=r.res = .stop
def r00:R:=.mk (.made (.num 0)) []
def stL (l:List R):Prop:=(zaQ l r00).res = .stop
theorem zf2 (x:R) (l:List R) (d:R):zaQ (x :: l) d = zaQ l x:=by
 unfold zaQ
 cases l with
 | nil=>rfl
 | cons y ys=>
  rw [List.getLast?_cons_cons]
  cases hq:(y :: ys).getLast? with
  | none=>simp at hq
  | some r=>rfl
theorem zbD {x:R}{l:List R} (h:x.res≠.stop):stL (x :: l) ↔ stL l:=by
 unfold stL
 rw [zf2]
 unfold zaQ
 cases l with
 | nil=>exact ⟨fun z=>absurd z h,fun z=>nomatch z⟩
 | cons y ys=>
  cases hq:(y :: ys).getLast? with
  | none=>simp at hq
  | some r=>exact Iff.rfl
theorem zi5 {x:R}:stL [x] ↔ x.res = .stop:=Iff.rfl
theorem znk {l:List R}{d:R} (h:d.res≠.stop):(zaQ l d).res = .stop ↔ stL l:=by
 unfold stL zaQ
 cases hq:l.getLast? with
 | none=>exact ⟨fun z=>absurd z h,fun z=>nomatch z⟩
 | some r=>exact Iff.rfl
theorem zar {l:List R} (h:Zm l = true):¬ stL l:=by
 unfold stL zaQ
 cases hq:l.getLast? with
 | none=>exact fun z=>nomatch z
 | some r=>
  have:=(List.all_eq_true.mp h) r (List.mem_of_getLast? hq)
  intro z
  have z:r.res = .stop:=z
  rw [z] at this
  cases this
theorem zgv (w:W):zbl w≠.stop:=by
 unfold zbl
 split <;> exact fun z=>nomatch z
section
variable {fs:List Res} (ok:∀ r∈fs,r≠Res.stop)
theorem zke {n:Nat} (ok:∀ r∈fs,r≠Res.stop) (h:n < fs.length):found fs n≠.stop:=by
 unfold found
 rw [List.getElem?_eq_getElem h]
 exact ok _ (List.getElem_mem h)
theorem zdA {n:Nat} (h:fs.length<=n):found fs n = .stop:=by
 unfold found
 rw [List.getElem?_eq_none h]
 rfl
theorem zkf {n j:Nat} (h:n < j):found (fs.take j) n = found fs n:=by
 unfold found
 rw [List.getElem?_take_of_lt h]
theorem zl6 (ok:∀ r∈fs,r≠Res.stop) {ns:Ns} (hn:ns.length<=fs.length) (s:Str) (g:Res->R) (hg:∀ r,(g r).res = r):Cs stR (fun fs ns=>(g (found fs ns.length),ns ++ [s])) fs ns:=by
 have hl:(ns ++ [s]).length = ns.length + 1:=by rw [List.length_append]; rfl
 refine ⟨List.prefix_append _ _,fun z=>?_,fun z=>?_,fun j h1 h2 h3=>?_,fun j h1 h2 h3=>?_⟩
 ·have z:found fs ns.length = .stop:=(hg _).symm.trans z
  by_cases h:ns.length < fs.length
  ·exact absurd z (zke ok h)
  ·show (ns ++ [s]).length = _
   omega
 ·show (ns ++ [s]).length<=_
  by_cases h:ns.length < fs.length
  ·omega
  ·exact absurd ((hg _).trans (zdA (by omega))) z
 ·have h3:(ns ++ [s]).length<=j:=h3
  show (g (found (fs.take j) ns.length),ns ++ [s]) = _
  rw [zkf (by omega)]
 ·have h3:j < (ns ++ [s]).length:=h3
  have:j = ns.length:=by omega
  subst this
  refine ⟨(hg _).trans (zdA (by rw [List.length_take]; omega)),?_⟩
  show ns ++ [s] = (ns ++ [s]).take (ns.length + 1)
  rw [← hl,List.take_length]
end
def Res.isStop:Res->Bool
 | .stop=>true
 | _=>false
theorem zl7 {r:Res} (h:r≠.stop):r.isStop = false:=by
 cases r with
 | stop=>exact absurd rfl h
 | made _=>rfl
 | wrong _=>rfl
section
variable {fs:List Res}
theorem zT (r:Res):r = .stop\/(∃ x,r = .made x)\/∃ w,r = .wrong w:=by
 cases r with
 | made x=>exact .inr (.inl ⟨x,rfl⟩)
 | wrong w=>exact .inr (.inr ⟨w,rfl⟩)
 | stop=>exact .inl rfl
theorem Cs.then {e:Env}{a:Ex}{ns:Ns}{B:R->List Res->Ns->R × Ns}{D:List Res->Ns->R × Ns} (hA:Cs stR (fun fs ns=>ev fs a e ns) fs ns) (hD:∀ gs,D gs ns = if (ev gs a e ns).1.res.isStop then (.mk .stop [(ev gs a e ns).1],(ev gs a e ns).2) else B (ev gs a e ns).1 gs (ev gs a e ns).2)
  (hB:(ev fs a e ns).1.res≠.stop->Cs stR (B (ev fs a e ns).1) fs (ev fs a e ns).2):Cs stR D fs ns:=by
 refine Cs.bind (B:=B (ev fs a e ns).1) hA (fun gs h=>?_) (fun gs e1 h=>?_) hB
 ·have h:(ev gs a e ns).1.res = .stop:=h
  rw [hD gs,if_pos (by rw [h]; rfl)]
  exact ⟨rfl,rfl⟩
 ·have h:¬ (ev fs a e ns).1.res = .stop:=h
  have e1:ev gs a e ns = ev fs a e ns:=e1
  rw [hD gs,e1,if_neg (by rw [zl7 h]; decide)]
theorem Zw {r:R}{ns:Ns} (h:r.res≠.stop) (hn:ns.length<=fs.length):Cs stR (fun _ ns=>(r,ns)) fs ns:=Cs.pure h hn
theorem zeh {e:Env}{b:Ex}{ns:Ns} (hB:Cs stR (fun fs ns=>ev fs b e ns) fs ns) (p:R->List R):Cs stR (fun fs ns=>(.mk (ev fs b e ns).1.res (p (ev fs b e ns).1),(ev fs b e ns).2)) fs ns:=
 Cs.map hB (fun gs=>⟨_,rfl,Iff.rfl⟩) fun gs h=>by
  have h:ev gs b e ns = ev fs b e ns:=h
  show (R.mk (ev gs b e ns).1.res (p (ev gs b e ns).1),(ev gs b e ns).2) = _
  rw [h]
end
section
variable {fs:List Res}
theorem zk2 {e:Env}:∀ {es:List Ex}{ns:Ns},(∀ x∈es,∀ ns:Ns,ns.length<=fs.length->Cs stR (fun fs ns=>ev fs x e ns) fs ns)->ns.length<=fs.length->Cs stL (fun fs ns=>evs fs es e ns) fs ns
 | [],ns,_,hn=>by
  have:(fun (fs:List Res) (ns:Ns)=>evs fs [] e ns) = fun _ ns=>([],ns):=by funext fs ns; rw [evs]
  rw [this]
  exact Cs.pure (fun z=>nomatch z) hn
 | x :: xs,ns,h,hn=>by
  have hA:=h x List.mem_cons_self ns hn
  refine Cs.bind (B:=fun gs m=>if (ev fs x e ns).1.res.isMade then ((ev fs x e ns).1 :: (evs gs xs e m).1,(evs gs xs e m).2) else ([(ev fs x e ns).1],m)) hA (fun gs z=>?_) (fun gs e1 z=>?_) (fun z=>?_)
  ·have z:(ev gs x e ns).1.res = .stop:=z
   show stL (evs gs (x :: xs) e ns).1/\(evs gs (x :: xs) e ns).2 = _
   rw [za6,if_neg (by rw [z]; decide)]
   exact ⟨z,rfl⟩
  ·have e1:ev gs x e ns = ev fs x e ns:=e1
   show evs gs (x :: xs) e ns = _
   rw [za6,e1]
  ·have z:(ev fs x e ns).1.res≠.stop:=z
   have hle:=hA.s0 z
   cases hm:(ev fs x e ns).1.res.isMade with
   | true=>
    have ih:=zk2 (es:=xs) (ns:=(ev fs x e ns).2) (fun y hy=>h y (List.mem_cons_of_mem _ hy)) hle
    refine Cs.map ih (fun gs=>⟨(ev fs x e ns).1 :: (evs gs xs e (ev fs x e ns).2).1,rfl,zbD z⟩) fun gs h=>?_
    have h:evs gs xs e (ev fs x e ns).2 = evs fs xs e (ev fs x e ns).2:=h
    show (_ :: (evs gs xs e (ev fs x e ns).2).1,(evs gs xs e (ev fs x e ns).2).2) = (_ :: (evs fs xs e (ev fs x e ns).2).1,(evs fs xs e (ev fs x e ns).2).2)
    rw [h]
   | false=>exact Cs.pure z hle
theorem zgw {F:List Res->W->Ns->R × Ns}:∀ {ws:List W}{ns:Ns},(∀ w∈ws,∀ ns:Ns,ns.length<=fs.length->Cs stR (fun fs ns=>F fs w ns) fs ns)->ns.length<=fs.length->Cs stL (fun fs ns=>zK (F fs) ws ns) fs ns
 | [],ns,_,hn=>by
  have:(fun (fs:List Res) (ns:Ns)=>zK (F fs) [] ns) = fun _ ns=>([],ns):=by funext fs ns; rw [zK]
  rw [this]
  exact Cs.pure (fun z=>nomatch z) hn
 | x :: xs,ns,h,hn=>by
  have hA:=h x List.mem_cons_self ns hn
  refine Cs.bind (B:=fun gs m=>if (F fs x ns).1.res.isMade then ((F fs x ns).1 :: (zK (F gs) xs m).1,(zK (F gs) xs m).2) else ([(F fs x ns).1],m)) hA (fun gs z=>?_) (fun gs e1 z=>?_) (fun z=>?_)
  ·have z:(F gs x ns).1.res = .stop:=z
   show stL (zK (F gs) (x :: xs) ns).1/\(zK (F gs) (x :: xs) ns).2 = _
   rw [zaK,if_neg (by rw [z]; decide)]
   exact ⟨z,rfl⟩
  ·have e1:F gs x ns = F fs x ns:=e1
   show zK (F gs) (x :: xs) ns = _
   rw [zaK,e1]
  ·have z:(F fs x ns).1.res≠.stop:=z
   have hle:=hA.s0 z
   cases hm:(F fs x ns).1.res.isMade with
   | true=>
    have ih:=zgw (ws:=xs) (ns:=(F fs x ns).2) (fun y hy=>h y (List.mem_cons_of_mem _ hy)) hle
    refine Cs.map ih (fun gs=>⟨(F fs x ns).1 :: (zK (F gs) xs (F fs x ns).2).1,rfl,zbD z⟩) fun gs h=>?_
    have h:zK (F gs) xs (F fs x ns).2 = zK (F fs) xs (F fs x ns).2:=h
    show (_ :: (zK (F gs) xs (F fs x ns).2).1,(zK (F gs) xs (F fs x ns).2).2) = (_ :: (zK (F fs) xs (F fs x ns).2).1,(zK (F fs) xs (F fs x ns).2).2)
    rw [h]
   | false=>exact Cs.pure z hle
mutual
theorem csE (ok:∀ r∈fs,r≠Res.stop):∀ (x:Ex) (e:Env) (ns:Ns),ns.length<=fs.length->Cs stR (fun fs ns=>ev fs x e ns) fs ns
 | .lit x,e,ns,hn=>by
  have:(fun (fs:List Res) (ns:Ns)=>ev fs (.lit x) e ns) = fun _ ns=>(.mk (.made x) [],ns):=by funext fs ns; rw [ev]
  rw [this]
  exact Zw (fun z=>nomatch z) hn
 | .var s,e,ns,hn=>by
  have:(fun (fs:List Res) (ns:Ns)=>ev fs (.var s) e ns) = fun _ ns=>(.mk (.made ((e s).getD (.num 0))) [],ns):=by funext fs ns; rw [ev]
  rw [this]
  exact Zw (fun z=>nomatch z) hn
 | .letE s a b,e,ns,hn=>by
  have hA:=csE ok a e ns hn
  refine hA.then (B:=fun r gs m=>match r.res with | .made x=>(.mk (ev gs b (put e s x) m).1.res [r,(ev gs b (put e s x) m).1],(ev gs b (put e s x) m).2) | q=>(.mk q [r],m)) (fun gs=>?_) (fun z=>?_)
  ·show ev gs (.letE s a b) e ns = _
   rw [ev]
   rcases zT (ev gs a e ns).1.res with h | ⟨x,h⟩ | ⟨w,h⟩ <;> rw [h] <;> rfl
  ·have hle:=hA.s0 z
   rcases zT (ev fs a e ns).1.res with h | ⟨x,h⟩ | ⟨w,h⟩
   ·exact absurd h z
   ·rw [h]
    exact zeh (csE ok b (put e s x) _ hle) (fun q=>[(ev fs a e ns).1,q])
   ·rw [h]
    exact Zw (fun z=>nomatch z) hle
 | .ifE a b c,e,ns,hn=>by
  have hA:=csE ok a e ns hn
  refine hA.then (B:=fun r gs m=>match r.res with
   | .made (.num i)=>if i = 0 then (.mk (ev gs c e m).1.res [r,(ev gs c e m).1],(ev gs c e m).2) else (.mk (ev gs b e m).1.res [r,(ev gs b e m).1],(ev gs b e m).2)
   | .made _=>(.mk (.wrong [.txt "kind",.txt ""]) [r],m)
   | q=>(.mk q [r],m)) (fun gs=>?_) (fun z=>?_)
  ·show ev gs (.ifE a b c) e ns = _
   rw [ev]
   rcases zT (ev gs a e ns).1.res with h | ⟨x,h⟩ | ⟨w,h⟩
   ·rw [h]; rfl
   ·rw [h]; cases x <;> rfl
   ·rw [h]; rfl
  ·have hle:=hA.s0 z
   rcases zT (ev fs a e ns).1.res with h | ⟨x,h⟩ | ⟨w,h⟩
   ·exact absurd h z
   ·rw [h]
    cases x with
    | num i=>
     by_cases hi:i = 0
     ·simp only [hi,if_true]
      exact zeh (csE ok c e _ hle) (fun q=>[(ev fs a e ns).1,q])
     ·simp only [hi,if_false]
      exact zeh (csE ok b e _ hle) (fun q=>[(ev fs a e ns).1,q])
    | txt s=>exact Zw (fun z=>nomatch z) hle
    | lst ws=>exact Zw (fun z=>nomatch z) hle
   ·rw [h]
    exact Zw (fun z=>nomatch z) hle
 | .elseE a b,e,ns,hn=>by
  have hA:=csE ok a e ns hn
  refine hA.then (B:=fun r gs m=>match r.res with | .wrong _=>(.mk (ev gs b e m).1.res [r,(ev gs b e m).1],(ev gs b e m).2) | q=>(.mk q [r],m)) (fun gs=>?_) (fun z=>?_)
  ·show ev gs (.elseE a b) e ns = _
   rw [ev]
   rcases zT (ev gs a e ns).1.res with h | ⟨x,h⟩ | ⟨w,h⟩ <;> rw [h] <;> rfl
  ·have hle:=hA.s0 z
   rcases zT (ev fs a e ns).1.res with h | ⟨x,h⟩ | ⟨w,h⟩
   ·exact absurd h z
   ·rw [h]
    exact Zw (fun z=>nomatch z) hle
   ·rw [h]
    exact zeh (csE ok b e _ hle) (fun q=>[(ev fs a e ns).1,q])
 | .cryE a,e,ns,hn=>by
  have hA:=csE ok a e ns hn
  refine hA.then (B:=fun r gs m=>match r.res with | .made x=>(.mk (.wrong [.txt "cried",x]) [r],m) | q=>(.mk q [r],m)) (fun gs=>?_) (fun z=>?_)
  ·show ev gs (.cryE a) e ns = _
   rw [ev]
   rcases zT (ev gs a e ns).1.res with h | ⟨x,h⟩ | ⟨w,h⟩ <;> rw [h] <;> rfl
  ·have hle:=hA.s0 z
   rcases zT (ev fs a e ns).1.res with h | ⟨x,h⟩ | ⟨w,h⟩
   ·exact absurd h z
   ·rw [h]
    exact Zw (fun z=>nomatch z) hle
   ·rw [h]
    exact Zw (fun z=>nomatch z) hle
 | .lookE a,e,ns,hn=>by
  have hA:=csE ok a e ns hn
  refine hA.then (B:=fun r gs m=>match r.res with
   | .made (.txt s)=>(.mk (found gs m.length) [r],m ++ [s])
   | .made _=>(.mk (.wrong [.txt "kind",.txt ""]) [r],m)
   | q=>(.mk q [r],m)) (fun gs=>?_) (fun z=>?_)
  ·show ev gs (.lookE a) e ns = _
   rw [ev]
   rcases zT (ev gs a e ns).1.res with h | ⟨x,h⟩ | ⟨w,h⟩
   ·rw [h]; rfl
   ·rw [h]; cases x <;> rfl
   ·rw [h]; rfl
  ·have hle:=hA.s0 z
   rcases zT (ev fs a e ns).1.res with h | ⟨x,h⟩ | ⟨w,h⟩
   ·exact absurd h z
   ·rw [h]
    cases x with
    | num i=>exact Zw (fun z=>nomatch z) hle
    | lst ws=>exact Zw (fun z=>nomatch z) hle
    | txt s=>exact zl6 ok hle s (fun q=>.mk q [(ev fs a e ns).1]) (fun _=>rfl)
   ·rw [h]
    exact Zw (fun z=>nomatch z) hle
 | .reck d es,e,ns,hn=>by
  have hL:=csL ok es e ns hn
  refine Cs.map hL (fun gs=>?_) (fun gs h=>?_)
  ·by_cases hall:Zm (evs gs es e ns).1 = true
   ·refine ⟨.mk (zbl (recW d ((evs gs es e ns).1.map R.worth))) (evs gs es e ns).1,?_,fun z=>absurd z (zgv _),fun z=>absurd z (zar hall)⟩
    show ev gs (.reck d es) e ns = _
    rw [ev,if_pos hall]
   ·refine ⟨.mk (zaQ (evs gs es e ns).1 (.mk (.made (.num 0)) [])).res (evs gs es e ns).1,?_,Iff.rfl⟩
    show ev gs (.reck d es) e ns = _
    rw [ev,if_neg hall]
  ·have h:evs gs es e ns = evs fs es e ns:=h
   show ev gs (.reck d es) e ns = ev fs (.reck d es) e ns
   rw [ev,ev,h]
 | .eachE s a b,e,ns,hn=>by
  have hA:=csE ok a e ns hn
  refine hA.then (B:=fun r gs m=>match r.res with
   | .made (.lst ws)=>if ws.length > 10 then (.mk (.wrong [.txt "great",.txt ""]) [r],m) else
     if Zm (zK (fun w m=>ev gs b (put e s w) m) ws m).1 then (.mk (zbl (Z4 (.lst ((zK (fun w m=>ev gs b (put e s w) m) ws m).1.map R.worth)))) (r :: (zK (fun w m=>ev gs b (put e s w) m) ws m).1),(zK (fun w m=>ev gs b (put e s w) m) ws m).2)
     else (.mk (zaQ (zK (fun w m=>ev gs b (put e s w) m) ws m).1 r).res (r :: (zK (fun w m=>ev gs b (put e s w) m) ws m).1),(zK (fun w m=>ev gs b (put e s w) m) ws m).2)
   | .made _=>(.mk (.wrong [.txt "kind",.txt ""]) [r],m)
   | q=>(.mk q [r],m)) (fun gs=>?_) (fun z=>?_)
  ·show ev gs (.eachE s a b) e ns = _
   rw [ev]
   rcases zT (ev gs a e ns).1.res with h | ⟨x,h⟩ | ⟨w,h⟩
   ·rw [h]; rfl
   ·rw [h]; cases x <;> rfl
   ·rw [h]; rfl
  ·have hle:=hA.s0 z
   have z':(ev fs a e ns).1.res≠.stop:=z
   rcases zT (ev fs a e ns).1.res with h | ⟨x,h⟩ | ⟨w,h⟩
   ·exact absurd h z
   ·rw [h]
    cases x with
    | num i=>exact Zw (fun z=>nomatch z) hle
    | txt s=>exact Zw (fun z=>nomatch z) hle
    | lst ws=>
     by_cases hl:ws.length > 10
     ·simp only [hl,if_true]
      exact Zw (fun z=>nomatch z) hle
     ·simp only [hl,if_false]
      have hW:=zgw (fs:=fs) (F:=fun gs w m=>ev gs b (put e s w) m) (ws:=ws) (fun w _ m hm=>csE ok b (put e s w) m hm) hle
      refine Cs.map hW (fun gs=>?_) (fun gs h=>?_)
      ·by_cases hall:Zm (zK (fun w m=>ev gs b (put e s w) m) ws (ev fs a e ns).2).1 = true
       ·rw [if_pos hall]
        exact ⟨_,rfl,fun z=>absurd z (zgv _),fun z=>absurd z (zar hall)⟩
       ·rw [if_neg hall]
        exact ⟨_,rfl,znk z'⟩
      ·have h:zK (fun w m=>ev gs b (put e s w) m) ws (ev fs a e ns).2 = zK (fun w m=>ev fs b (put e s w) m) ws (ev fs a e ns).2:=h
       rw [h]
   ·rw [h]
    exact Zw (fun z=>nomatch z) hle
theorem csL (ok:∀ r∈fs,r≠Res.stop):∀ (es:List Ex) (e:Env) (ns:Ns),ns.length<=fs.length->Cs stL (fun fs ns=>evs fs es e ns) fs ns
 | [],e,ns,hn=>zk2 (fun x hx=>nomatch hx) hn
 | x :: xs,e,ns,hn=>by
  have hA:=csE ok x e ns hn
  refine Cs.bind (B:=fun gs m=>if (ev fs x e ns).1.res.isMade then ((ev fs x e ns).1 :: (evs gs xs e m).1,(evs gs xs e m).2) else ([(ev fs x e ns).1],m)) hA (fun gs z=>?_) (fun gs e1 z=>?_) (fun z=>?_)
  ·have z:(ev gs x e ns).1.res = .stop:=z
   show stL (evs gs (x :: xs) e ns).1/\(evs gs (x :: xs) e ns).2 = _
   rw [za6,if_neg (by rw [z]; decide)]
   exact ⟨z,rfl⟩
  ·have e1:ev gs x e ns = ev fs x e ns:=e1
   show evs gs (x :: xs) e ns = _
   rw [za6,e1]
  ·have z:(ev fs x e ns).1.res≠.stop:=z
   have hle:=hA.s0 z
   cases hm:(ev fs x e ns).1.res.isMade with
   | true=>
    have ih:=csL ok xs e (ev fs x e ns).2 hle
    refine Cs.map ih (fun gs=>⟨(ev fs x e ns).1 :: (evs gs xs e (ev fs x e ns).2).1,rfl,zbD z⟩) fun gs h=>?_
    have h:evs gs xs e (ev fs x e ns).2 = evs fs xs e (ev fs x e ns).2:=h
    show (_ :: (evs gs xs e (ev fs x e ns).2).1,(evs gs xs e (ev fs x e ns).2).2) = (_ :: (evs fs xs e (ev fs x e ns).2).1,(evs fs xs e (ev fs x e ns).2).2)
    rw [h]
   | false=>exact Cs.pure z hle
end
end
mutual
theorem znl:∀ w:W,w.Th->zeP w = true->w.Ok
 | .num i,_,h=>(of_decide_eq_true h:-(10 ^ 60) < i/\i < 10 ^ 60)
 | .txt z,t,h=>⟨of_decide_eq_true h,t.2⟩
 | .lst ws,t,h=>by
  have t2:Ths ws:=t.2
  simp only [zeP,Bool.and_eq_true,decide_eq_true_eq] at h
  exact ⟨h.1,oks_th ws t2 h.2⟩
theorem oks_th:∀ ws:List W,Ths ws->fitsWs ws = true->Oks ws
 | [],_,_=>trivial
 | w :: r,t,h=>by
  simp only [fitsWs,Bool.and_eq_true] at h
  exact ⟨znl w t.1 h.1,oks_th r t.2 h.2⟩
end
structure Gd (x:W):Prop where
 ok:x.Ok
 dp:x.depth<=12
theorem Gd.th {x:W} (h:Gd x):x.Th:=zeO x h.ok
theorem gd0:Gd (.num 0):=⟨⟨by decide,by decide⟩,Nat.zero_le _⟩
theorem gd1:Gd (.num 1):=⟨⟨by decide,by decide⟩,Nat.zero_le _⟩
theorem Gd.item {ws:List W} (h:Gd (.lst ws)) {w:W} (hw:w∈ws):Gd w:=by
 have h2:Oks ws:=h.ok.2
 have h3:1 + depths ws<=12:=h.dp
 have:=zad w hw
 exact ⟨zcT h2 w hw,by omega⟩
def ROk:Res->Prop
 | .made y=>Gd y
 | .wrong ws=>∃ c y,ws = [.txt c,y]/\(W.txt c).Th/\y.Th/\y.depth<=12
 | .stop=>True
theorem zl9 {s:Str} (h1:s.length<=400) (h2:∀ c∈s.cps.toList,32<=c/\c<=126/\c≠34/\c≠37):(W.txt s).Ok:=⟨h1,h2⟩
theorem zas {s:Str} (h1:s.length<=400) (h2:∀ c∈s.cps.toList,32<=c/\c<=126/\c≠34/\c≠37):(W.txt s).Th:=zeO _ (zl9 h1 h2)
theorem zbE:(W.txt "").Th:=zas (by decide +kernel) (by decide +kernel)
theorem zkg {c:Str} (h:(W.txt c).Th):ROk (.wrong [.txt c,.txt ""]):=⟨c,_,rfl,h,zbE,Nat.zero_le _⟩
theorem Zy:ROk (.wrong [.txt "kind",.txt ""]):=zkg (zas (by decide +kernel) (by decide +kernel))
theorem zi6:ROk (.wrong [.txt "place",.txt ""]):=zkg (zas (by decide +kernel) (by decide +kernel))
theorem zfc:ROk (.wrong [.txt "great",.txt ""]):=zkg (zas (by decide +kernel) (by decide +kernel))
theorem zhr:ROk (.wrong [.txt "nought",.txt ""]):=zkg (zas (by decide +kernel) (by decide +kernel))
theorem zgx:(W.txt "cried").Th:=zas (by decide +kernel) (by decide +kernel)
theorem ROk.dp:∀ {r:Res},ROk r->r.toW.depth<=13
 | .made y,h=>by
  have:=Gd.dp h
  simp only [Res.toW,W.depth,depths]
  omega
 | .wrong ws,⟨c,y,e,t,t2,d⟩=>by
  rw [e]
  simp only [Res.toW,W.depth,depths]
  omega
 | .stop,_=>by simp only [Res.toW,W.depth,depths]; omega
theorem Zz {z:W} (t:z.Th):ROk (zbl (Z4 z)):=by
 unfold Z4
 split
 ·rename_i g
  unfold zil at g
  simp only [Bool.and_eq_true,decide_eq_true_eq] at g
  exact ⟨znl z t g.1,by omega⟩
 ·exact zfc
theorem zma {xs ys:List W} (h1:Ths xs) (h2:Ths ys):Ths (xs ++ ys):=zkS fun w hw=>by
 rcases List.mem_append.mp hw with h | h
 ·exact zik h1 w h
 ·exact zik h2 w h
theorem zc7 {f:Int->Int->W} (hf:∀ a b,ROk (zbl (f a b))) (ws:List W):ROk (zbl (two f ws)):=by
 unfold two
 split
 ·exact hf _ _
 ·exact Zy
theorem zfd (b:Bool):ROk (zbl (zgq b)):=by
 cases b
 ·exact gd0
 ·exact gd1
theorem zmb {d:Wd}{xs:List W} (ok:Oks xs) (l8:xs.length<=8):ROk (zbl (recW d xs)):=by
 have tx:=ths_of xs ok
 unfold recW
 split
 ·exact zc7 (fun a b=>Zz (z:=.num (a + b)) trivial) _
 ·exact zc7 (fun a b=>Zz (z:=.num (a - b)) trivial) _
 ·exact zc7 (fun a b=>Zz (z:=.num (a * b)) trivial) _
 ·refine zc7 (fun a b=>?_) _
  show ROk (zbl (if b = 0 then zfH else Z4 (.num (a.fdiv b))))
  split
  ·exact zhr
  ·exact Zz (z:=.num (a.fdiv b)) trivial
 ·exact zc7 (fun a b=>zfd _) _
 ·rename_i a
  refine Zz ⟨?_,zeU a⟩
  have:=PyProof.Rows.int_text_len_1921 (ok60 ok.1)
  omega
 ·exact Zy
 ·exact zfd _
 ·exact Zy
 ·rename_i x y
  have o1:x.length<=400/\Signs x:=ok.1
  have o2:y.length<=400/\Signs y:=ok.2.1
  refine Zz ⟨?_,fun c hc=>?_⟩
  ·rw [PySem.Str.length_append]
   omega
  ·rw [zan] at hc
   rcases List.mem_append.mp hc with h | h
   ·exact o1.2 c h
   ·exact o2.2 c h
 ·rename_i xs ys
  have o1:xs.length<=60/\Oks xs:=ok.1
  have o2:ys.length<=60/\Oks ys:=ok.2.1
  refine Zz ⟨?_,zma (ths_of _ o1.2) (ths_of _ o2.2)⟩
  rw [List.length_append]
  omega
 ·exact Zy
 ·exact Zz ⟨by omega,tx⟩
 ·rename_i xs i
  have o1:xs.length<=60/\Oks xs:=ok.1
  split
  ·rename_i hi
   have hlt:i.toNat < xs.length:=by omega
   have:xs.getD i.toNat (.num 0) = xs[i.toNat]:=by rw [List.getD_eq_getElem?_getD,List.getElem?_eq_getElem hlt]; rfl
   rw [this]
   exact Zz (zeO _ (zcT o1.2 _ (List.getElem_mem hlt)))
  ·exact zi6
 ·exact Zy
 ·refine Zz ?_
  trivial
 ·refine Zz ?_
  trivial
 ·exact Zy
theorem zkh:∀ {r:R},ROk r.res->Gd r.worth
 | .mk (.made _) _,h=>h
 | .mk (.wrong _) _,_=>gd0
 | .mk .stop _,_=>gd0
theorem zc8 {rs:List R} (h:∀ r∈rs,ROk r.res):Oks (rs.map R.worth)/\depths (rs.map R.worth)<=12:=by
 induction rs with
 | nil=>exact ⟨trivial,Nat.zero_le _⟩
 | cons r rs ih=>
  have g:=zkh (h r List.mem_cons_self)
  obtain ⟨i1,i2⟩:=ih fun x hx=>h x (List.mem_cons_of_mem _ hx)
  refine ⟨⟨g.ok,i1⟩,?_⟩
  have:=g.dp
  simp only [List.map_cons,depths]
  omega
theorem zfe {l:List R}{r:R}{P:R->Prop} (h:∀ x∈l,P x) (hr:P r):P (zaQ l r):=by
 unfold zaQ
 cases hl:l.getLast? with
 | none=>exact hr
 | some x=>exact h x (List.mem_of_getLast? hl)
mutual
def Wf:Ex->List Str->Prop
 | .lit x,_=>Gd x
 | .var s,sc=>s∈sc
 | .letE s a b,sc=>Wf a sc/\Wf b (sc ++ [s])
 | .ifE a b c,sc=>Wf a sc/\Wf b sc/\Wf c sc
 | .elseE a b,sc=>Wf a sc/\Wf b sc
 | .cryE a,sc=>Wf a sc
 | .lookE a,sc=>Wf a sc
 | .reck d es,sc=>es.length<=8/\arity d es.length/\Wfs es sc
 | .eachE s a b,sc=>Wf a sc/\Wf b (sc ++ [s])
def Wfs:List Ex->List Str->Prop
 | [],_=>True
 | x :: xs,sc=>Wf x sc/\Wfs xs sc
end
def EG (sc:List Str) (e:Env):Prop:=∀ s∈sc,∃ y,e s = some y/\Gd y
theorem EG.put {sc:List Str}{e:Env} (h:EG sc e) {s:Str}{y:W} (g:Gd y):EG (sc ++ [s]) (D.put e s y):=fun t ht=>by
 unfold D.put
 by_cases hts:t = s
 ·rw [if_pos hts]; exact ⟨y,rfl,g⟩
 ·rw [if_neg hts]
  rcases List.mem_append.mp ht with ht | ht
  ·exact h t ht
  ·exact absurd (List.mem_singleton.mp ht) hts
section
variable {fs:List Res}
theorem zdB {F:W->Ns->R × Ns}{p:W->Ns->Prop}:∀ {ws:List W}{ns:Ns},(∀ w∈ws,∀ ns:Ns,ns.length<=fs.length->p w ns/\ROk (F w ns).1.res/\((F w ns).1.res≠.stop->(F w ns).2.length<=fs.length))->ns.length<=fs.length->zb1 F p ws ns/\∀ r∈(zK F ws ns).1,ROk r.res
 | [],ns,_,_=>by rw [zb1,zK]; exact ⟨trivial,fun r h=>nomatch h⟩
 | w :: ws,ns,h,hn=>by
  obtain ⟨h1,h2,h3⟩:=h w List.mem_cons_self ns hn
  rw [zb1,zaK]
  by_cases hm:(F w ns).1.res.isMade = true
  ·have:=zdB (ws:=ws) (ns:=(F w ns).2) (fun x hx=>h x (List.mem_cons_of_mem _ hx)) (h3 (fun z=>by rw [z] at hm; cases hm))
   rw [if_pos hm]
   refine ⟨⟨h1,fun _=>this.1⟩,fun r hr=>?_⟩
   rcases List.mem_cons.mp hr with rfl | hr
   ·exact h2
   ·exact this.2 r hr
  ·rw [if_neg hm]
   exact ⟨⟨h1,fun z=>absurd z hm⟩,fun r hr=>by rw [List.mem_singleton.mp hr]; exact h2⟩
theorem zgy {f:W->Ns->R × Ns}:∀ {ws:List W}{ns:Ns},(zK f ws ns).1.length<=ws.length
 | [],ns=>by rw [zK]; exact Nat.le_refl _
 | w :: ws,ns=>by
  rw [zaK]
  split
  ·have:=zgy (f:=f) (ws:=ws) (ns:=(f w ns).2)
   simp only [List.length_cons]
   omega
  ·simp only [List.length_cons,List.length_nil]
   omega
theorem zi7 (okF:∀ r∈fs,ROk r) (n:Nat):ROk (found fs n):=by
 unfold found
 cases h:fs[n]? with
 | none=>trivial
 | some r=>exact okF r (List.mem_of_getElem? h)
theorem zgz {e:Env}:∀ {es:List Ex}{ns:Ns},Zm (evs fs es e ns).1 = true->(evs fs es e ns).1.length = es.length
 | [],ns,_=>by rw [evs]; rfl
 | x :: xs,ns,h=>by
  rw [za6] at h ⊢
  split
  ·rename_i hm
   rw [if_pos hm] at h
   have h:((ev fs x e ns).1.res.isMade && Zm (evs fs xs e (ev fs x e ns).2).1) = true:=h
   rw [Bool.and_eq_true] at h
   show ((ev fs x e ns).1 :: (evs fs xs e (ev fs x e ns).2).1).length = _
   rw [List.length_cons,List.length_cons,zgz h.2]
  ·rename_i hm
   rw [if_neg hm] at h
   have h:((ev fs x e ns).1.res.isMade && true) = true:=h
   rw [Bool.and_true] at h
   exact absurd h hm
mutual
theorem Z3 (nst:∀ r∈fs,r≠Res.stop) (okF:∀ r∈fs,ROk r) (hl:fs.length<=900):∀ (x:Ex) (sc:List Str) (e:Env) (ns:Ns),Wf x sc->EG sc e->ns.length<=fs.length->Fine fs x e ns/\ROk (ev fs x e ns).1.res
 | .lit x,sc,e,ns,hw,_,_=>by rw [Wf] at hw; rw [Fine,ev]; exact ⟨trivial,hw⟩
 | .var s,sc,e,ns,hw,he,_=>by
  rw [Wf] at hw
  obtain ⟨y,hy,g⟩:=he s hw
  rw [Fine,ev,hy]
  exact ⟨⟨y,rfl⟩,g⟩
 | .letE s a b,sc,e,ns,hw,he,hn=>by
  rw [Wf] at hw
  obtain ⟨f1,r1⟩:=Z3 nst okF hl a sc e ns hw.1 he hn
  have cs:=csE nst a e ns hn
  have go:∀ x,(ev fs a e ns).1.res = .made x->Fine fs b (put e s x) (ev fs a e ns).2/\ROk (ev fs b (put e s x) (ev fs a e ns).2).1.res:=fun x hx=>by
   rw [hx] at r1
   exact Z3 nst okF hl b (sc ++ [s]) (put e s x) _ hw.2 (he.put r1) (cs.s0 (fun z=>by have z:(ev fs a e ns).1.res = .stop:=z; rw [hx] at z; cases z))
  rw [Fine]
  refine ⟨⟨f1,fun x hx=>(go x hx).1⟩,?_⟩
  by_cases hm:(ev fs a e ns).1.res.isMade = true
  ·obtain ⟨x,hx⟩:=ZJ hm
   rw [zfS hx]
   exact (go x hx).2
  ·rw [zfT (by simpa using hm)]
   exact r1
 | .ifE a b c,sc,e,ns,hw,he,hn=>by
  rw [Wf] at hw
  obtain ⟨f1,r1⟩:=Z3 nst okF hl a sc e ns hw.1 he hn
  have cs:=csE nst a e ns hn
  have len:∀ x,(ev fs a e ns).1.res = .made x->(ev fs a e ns).2.length<=fs.length:=fun x hx=>cs.s0 (fun z=>by have z:(ev fs a e ns).1.res = .stop:=z; rw [hx] at z; cases z)
  rw [Fine]
  refine ⟨⟨f1,fun i hi=>⟨fun _=>(Z3 nst okF hl b sc e _ hw.2.1 he (len _ hi)).1,fun _=>(Z3 nst okF hl c sc e _ hw.2.2 he (len _ hi)).1⟩⟩,?_⟩
  by_cases hm:(ev fs a e ns).1.res.isMade = true
  ·obtain ⟨x,hx⟩:=ZJ hm
   cases x with
   | num i=>
    by_cases hi:i = 0
    ·subst hi
     rw [ziN hx]
     exact (Z3 nst okF hl c sc e _ hw.2.2 he (len _ hx)).2
    ·rw [ziO hx hi]
     exact (Z3 nst okF hl b sc e _ hw.2.1 he (len _ hx)).2
   | txt z=>rw [ze2 hx rfl]; exact Zy
   | lst z=>rw [ze2 hx rfl]; exact Zy
  ·rw [ziM (by simpa using hm)]
   exact r1
 | .elseE a b,sc,e,ns,hw,he,hn=>by
  rw [Wf] at hw
  obtain ⟨f1,r1⟩:=Z3 nst okF hl a sc e ns hw.1 he hn
  have cs:=csE nst a e ns hn
  have go:∀ w,(ev fs a e ns).1.res = .wrong w->Fine fs b e (ev fs a e ns).2/\ROk (ev fs b e (ev fs a e ns).2).1.res:=fun w hx=>
   Z3 nst okF hl b sc e _ hw.2 he (cs.s0 (fun z=>by have z:(ev fs a e ns).1.res = .stop:=z; rw [hx] at z; cases z))
  rw [Fine]
  refine ⟨⟨f1,fun w hx=>(go w hx).1⟩,?_⟩
  rcases zT (ev fs a e ns).1.res with h | ⟨x,h⟩ | ⟨w,h⟩
  ·rw [za1 (fun w z=>by rw [h] at z; cases z)]; exact r1
  ·rw [za1 (fun w z=>by rw [h] at z; cases z)]; exact r1
  ·rw [zd8 h]; exact (go w h).2
 | .cryE a,sc,e,ns,hw,he,hn=>by
  rw [Wf] at hw
  obtain ⟨f1,r1⟩:=Z3 nst okF hl a sc e ns hw he hn
  rw [Fine]
  refine ⟨f1,?_⟩
  by_cases hm:(ev fs a e ns).1.res.isMade = true
  ·obtain ⟨x,hx⟩:=ZJ hm
   rw [zfU hx]
   rw [hx] at r1
   exact ⟨"cried",x,rfl,zgx,Gd.th r1,Gd.dp r1⟩
  ·rw [zfV (by simpa using hm)]
   exact r1
 | .lookE a,sc,e,ns,hw,he,hn=>by
  rw [Wf] at hw
  obtain ⟨f1,r1⟩:=Z3 nst okF hl a sc e ns hw he hn
  have cs:=csE nst a e ns hn
  rw [Fine]
  refine ⟨⟨f1,?_⟩,?_⟩
  ·by_cases h:(ev fs a e ns).1.res = .stop
   ·have:(ev fs a e ns).2.length = fs.length + 1:=cs.s1 h
    omega
   ·have:(ev fs a e ns).2.length<=fs.length:=cs.s0 h
    omega
  by_cases hm:(ev fs a e ns).1.res.isMade = true
  ·obtain ⟨x,hx⟩:=ZJ hm
   cases x with
   | num i=>rw [zbB hx (fun z h=>nomatch h)]; exact Zy
   | lst i=>rw [zbB hx (fun z h=>nomatch h)]; exact Zy
   | txt z=>rw [zd9 hx]; exact zi7 okF _
  ·rw [zea (by simpa using hm)]
   exact r1
 | .reck d es,sc,e,ns,hw,he,hn=>by
  rw [Wf] at hw
  obtain ⟨f1,r1⟩:=fineL nst okF hl es sc e ns hw.2.2 he hn
  have hle:=ziV (fs:=fs) (e:=e) (es:=es) (ns:=ns)
  obtain ⟨o1,o2⟩:=zc8 r1
  have h8:=hw.1
  rw [Fine]
  refine ⟨⟨by omega,f1,fun hall=>⟨o1,o2,by omega,by rw [zgz hall]; exact hw.2.1⟩⟩,?_⟩
  rw [ev]
  split
  ·exact zmb o1 (by rw [List.length_map]; omega)
  ·exact zfe (P:=fun r=>ROk r.res) r1 gd0
 | .eachE s a b,sc,e,ns,hw,he,hn=>by
  rw [Wf] at hw
  obtain ⟨f1,r1⟩:=Z3 nst okF hl a sc e ns hw.1 he hn
  have cs:=csE nst a e ns hn
  have go:∀ ws,(ev fs a e ns).1.res = .made (.lst ws)->zb1 (fun w m=>ev fs b (put e s w) m) (fun w m=>Fine fs b (put e s w) m) ws (ev fs a e ns).2/\∀ r∈(zK (fun w m=>ev fs b (put e s w) m) ws (ev fs a e ns).2).1,ROk r.res:=fun ws hx=>by
   rw [hx] at r1
   have g:Gd (.lst ws):=r1
   refine zdB (fs:=fs) (fun w hw' m hm=>?_) (cs.s0 (fun z=>by have z:(ev fs a e ns).1.res = .stop:=z; rw [hx] at z; cases z))
   obtain ⟨i1,i2⟩:=Z3 nst okF hl b (sc ++ [s]) (put e s w) m hw.2 (he.put (g.item hw')) hm
   exact ⟨i1,i2,(csE nst b (put e s w) m hm).s0⟩
  rw [Fine]
  refine ⟨⟨f1,fun ws hx=>?_⟩,?_⟩
  ·obtain ⟨g1,g2⟩:=go ws hx
   obtain ⟨o1,o2⟩:=zc8 g2
   exact ⟨g1,ths_of _ o1,o2⟩
  by_cases hm:(ev fs a e ns).1.res.isMade = true
  ·obtain ⟨x,hx⟩:=ZJ hm
   cases x with
   | num i=>rw [ev,hx]; exact Zy
   | txt i=>rw [ev,hx]; exact Zy
   | lst ws=>
    obtain ⟨g1,g2⟩:=go ws hx
    obtain ⟨o1,o2⟩:=zc8 g2
    by_cases hlen:ws.length<=10
    ·rw [ziZ hx hlen]
     split
     ·refine Zz ⟨?_,ths_of _ o1⟩
      have:(zK (fun w m=>ev fs b (put e s w) m) ws (ev fs a e ns).2).1.length<=ws.length:=zgy
      rw [List.length_map]
      omega
     ·exact zfe (P:=fun r=>ROk r.res) g2 r1
    ·rw [ev,hx]
     show ROk (if ws.length > 10 then _ else _:R × Ns).1.res
     rw [if_pos (by omega)]
     exact zfc
  ·rcases zT (ev fs a e ns).1.res with h | ⟨x,h⟩ | ⟨w,h⟩
   ·rw [ev,h]; trivial
   ·rw [h] at hm; exact absurd rfl hm
   ·rw [h] at r1
    rw [ev,h]; exact r1
theorem fineL (nst:∀ r∈fs,r≠Res.stop) (okF:∀ r∈fs,ROk r) (hl:fs.length<=900):∀ (es:List Ex) (sc:List Str) (e:Env) (ns:Ns),Wfs es sc->EG sc e->ns.length<=fs.length->Fines fs es e ns/\∀ r∈(evs fs es e ns).1,ROk r.res
 | [],sc,e,ns,_,_,_=>by rw [Fines,evs]; exact ⟨trivial,fun r h=>nomatch h⟩
 | x :: xs,sc,e,ns,hw,he,hn=>by
  rw [Wfs] at hw
  obtain ⟨f1,r1⟩:=Z3 nst okF hl x sc e ns hw.1 he hn
  have cs:=csE nst x e ns hn
  rw [Fines,za6]
  by_cases hm:(ev fs x e ns).1.res.isMade = true
  ·obtain ⟨i1,i2⟩:=fineL nst okF hl xs sc e _ hw.2 he (cs.s0 (fun z=>by have z:(ev fs x e ns).1.res = .stop:=z; rw [z] at hm; cases hm))
   rw [if_pos hm]
   refine ⟨⟨f1,fun _=>i1⟩,fun r hr=>?_⟩
   rcases List.mem_cons.mp hr with rfl | hr
   ·exact r1
   ·exact i2 r hr
  ·rw [if_neg hm]
   exact ⟨⟨f1,fun z=>absurd z hm⟩,fun r hr=>by rw [List.mem_singleton.mp hr]; exact r1⟩
end
end
def mkEx:Wo->List Str->List Ex->Ex
 | .letw,[s],[a,b]=>.letE s a b
 | .ifw,_,[a,b,c]=>.ifE a b c
 | .elsew,_,[a,b]=>.elseE a b
 | .cry,_,[a]=>.cryE a
 | .look,_,[a]=>.lookE a
 | .add,_,es=>.reck .add es
 | .sub,_,es=>.reck .sub es
 | .mul,_,es=>.reck .mul es
 | .div,_,es=>.reck .div es
 | .same,_,es=>.reck .same es
 | .less,_,es=>.reck .less es
 | .join,_,es=>.reck .join es
 | .list,_,es=>.reck .list es
 | .item,_,es=>.reck .item es
 | .count,_,es=>.reck .count es
 | .figs,_,es=>.reck .figs es
 | _,_,_=>.lit (.num 0)
theorem zdC (s:Str) (a b:Ex):mkEx .letw [s] [a,b] = .letE s a b:=rfl
theorem zhs (a b c:Ex):mkEx .ifw [] [a,b,c] = .ifE a b c:=rfl
theorem zbU (a b:Ex):mkEx .elsew [] [a,b] = .elseE a b:=rfl
theorem zdD (a:Ex):mkEx .cry [] [a] = .cryE a:=rfl
theorem zbV (a:Ex):mkEx .look [] [a] = .lookE a:=rfl
mutual
def Rl.ex:Rl->Ex
 | .lit x=>.lit x
 | .var s=>.var s
 | .op d bs ps=>mkEx d bs (rlEx ps)
def rlEx:List Rl->List Ex
 | []=>[]
 | p :: r=>p.ex :: rlEx r
end
theorem zgA:∀ l:List Rl,(rlEx l).length = l.length
 | []=>by rw [rlEx]; rfl
 | p :: l=>by rw [rlEx,List.length_cons,List.length_cons,zgA l]
theorem zco {a b:Rl}{sc bs:List Str} (h:Fits [a,b] sc bs):a.Fit sc/\b.Fit (sc ++ bs):=by rw [Fits,Fits] at h; exact h
theorem zdE {a b c:Rl}{sc bs:List Str} (h:Fits [a,b,c] sc bs):a.Fit sc/\b.Fit sc/\c.Fit (sc ++ bs):=by rw [Fits,Fits,Fits] at h; exact h
theorem zcp {a:Rl}{sc bs:List Str} (h:Fits [a] sc bs):a.Fit (sc ++ bs):=by rw [Fits] at h; exact h
theorem zei {sc:List Str}:∀ {ps:List Rl},Fits ps sc []->∀ p∈ps,p.Fit sc
 | [],_,p,hp=>nomatch hp
 | [a],h,p,hp=>by
  rw [Fits,List.append_nil] at h
  rw [List.mem_singleton.mp hp]
  exact h
 | a :: b :: r,h,p,hp=>by
  rw [Fits] at h
  rcases List.mem_cons.mp hp with rfl | hp
  ·exact h.1
  ·exact zei h.2 p hp
theorem zgB {d:Wo}{bs:List Str}{ps:List Rl} (h1:wLit d = false) (h2:wVar d = false) (h3:wEO d = false) (hb:bs.length = bcnt d) (hc:Cnt d ps.length):
  (∃ s a b,d = .letw/\bs = [s]/\ps = [a,b])\/(∃ a b c,d = .ifw/\bs = []/\ps = [a,b,c])\/(∃ a b,d = .elsew/\bs = []/\ps = [a,b])\/(∃ a,d = .cry/\bs = []/\ps = [a])\/(∃ a,d = .look/\bs = []/\ps = [a]) \/
  (∃ w:Wd,woS d = wdS w/\bs = []/\ps.length<=8/\arity w ps.length/\∀ es,mkEx d [] es = .reck w es):=by
 have l0:∀ {α:Type}{l:List α},l.length = 0->l = []:=fun h=>List.length_eq_zero_iff.mp h
 have l1:∀ {α:Type}{l:List α},l.length = 1->∃ a,l = [a]:=fun {α}{l} h=>match l,h with | [a],_=>⟨a,rfl⟩
 have l2:∀ {α:Type}{l:List α},l.length = 2->∃ a b,l = [a,b]:=fun {α}{l} h=>match l,h with | [a,b],_=>⟨a,b,rfl⟩
 have l3:∀ {α:Type}{l:List α},l.length = 3->∃ a b c,l = [a,b,c]:=fun {α}{l} h=>match l,h with | [a,b,c],_=>⟨a,b,c,rfl⟩
 cases d with
 | lit=>cases h1
 | var=>cases h2
 | letw=>
  obtain ⟨s,rfl⟩:=l1 hb
  obtain ⟨a,b,rfl⟩:=l2 hc
  exact .inl ⟨s,a,b,rfl,rfl,rfl⟩
 | ifw=>
  obtain rfl:=l0 hb
  obtain ⟨a,b,c,rfl⟩:=l3 hc
  exact .inr (.inl ⟨a,b,c,rfl,rfl,rfl⟩)
 | elsew=>
  obtain rfl:=l0 hb
  obtain ⟨a,b,rfl⟩:=l2 hc
  exact .inr (.inr (.inl ⟨a,b,rfl,rfl,rfl⟩))
 | cry=>
  obtain rfl:=l0 hb
  obtain ⟨a,rfl⟩:=l1 hc
  exact .inr (.inr (.inr (.inl ⟨a,rfl,rfl,rfl⟩)))
 | look=>
  obtain rfl:=l0 hb
  obtain ⟨a,rfl⟩:=l1 hc
  exact .inr (.inr (.inr (.inr (.inl ⟨a,rfl,rfl,rfl⟩))))
 | each=>cases h3
 | over=>cases h3
 | list=>exact .inr (.inr (.inr (.inr (.inr ⟨.list,rfl,l0 hb,hc,trivial,fun _=>rfl⟩))))
 | add=>exact .inr (.inr (.inr (.inr (.inr ⟨.add,rfl,l0 hb,by have:ps.length = 2:=hc; omega,hc,fun _=>rfl⟩))))
 | sub=>exact .inr (.inr (.inr (.inr (.inr ⟨.sub,rfl,l0 hb,by have:ps.length = 2:=hc; omega,hc,fun _=>rfl⟩))))
 | mul=>exact .inr (.inr (.inr (.inr (.inr ⟨.mul,rfl,l0 hb,by have:ps.length = 2:=hc; omega,hc,fun _=>rfl⟩))))
 | div=>exact .inr (.inr (.inr (.inr (.inr ⟨.div,rfl,l0 hb,by have:ps.length = 2:=hc; omega,hc,fun _=>rfl⟩))))
 | same=>exact .inr (.inr (.inr (.inr (.inr ⟨.same,rfl,l0 hb,by have:ps.length = 2:=hc; omega,hc,fun _=>rfl⟩))))
 | less=>exact .inr (.inr (.inr (.inr (.inr ⟨.less,rfl,l0 hb,by have:ps.length = 2:=hc; omega,hc,fun _=>rfl⟩))))
 | join=>exact .inr (.inr (.inr (.inr (.inr ⟨.join,rfl,l0 hb,by have:ps.length = 2:=hc; omega,hc,fun _=>rfl⟩))))
 | item=>exact .inr (.inr (.inr (.inr (.inr ⟨.item,rfl,l0 hb,by have:ps.length = 2:=hc; omega,hc,fun _=>rfl⟩))))
 | count=>exact .inr (.inr (.inr (.inr (.inr ⟨.count,rfl,l0 hb,by have:ps.length = 1:=hc; omega,hc,fun _=>rfl⟩))))
 | figs=>exact .inr (.inr (.inr (.inr (.inr ⟨.figs,rfl,l0 hb,by have:ps.length = 1:=hc; omega,hc,fun _=>rfl⟩))))
theorem zki (a:Rl):rlEx [a] = [a.ex]:=by rw [rlEx,rlEx]
theorem zkj (a b:Rl):rlEx [a,b] = [a.ex,b.ex]:=by rw [rlEx,rlEx,rlEx]
theorem znm (a b c:Rl):rlEx [a,b,c] = [a.ex,b.ex,c.ex]:=by rw [rlEx,rlEx,rlEx,rlEx]
mutual
theorem zmc:∀ (r:Rl) (sc:List Str),r.Fit sc->r.ex.toW = r.toW/\Wf r.ex sc/\r.ex.high<=r.high + 1
 | .lit x,sc,h=>by
  rw [Rl.Fit] at h
  rw [Rl.ex,Ex.toW,Rl.toW,Wf,Ex.high,Rl.high]
  exact ⟨rfl,⟨h.1,by omega⟩,Nat.le_refl _⟩
 | .var s,sc,h=>by
  rw [Rl.Fit] at h
  rw [Rl.ex,Ex.toW,Rl.toW,Wf,Ex.high,Rl.high]
  exact ⟨rfl,h,Nat.le_refl _⟩
 | .op d bs ps,sc,h=>by
  rw [Rl.Fit] at h
  obtain ⟨h1,h2,h3,hb,hc,_,hf⟩:=h
  have ih:∀ p∈ps,∀ sc,p.Fit sc->p.ex.toW = p.toW/\Wf p.ex sc/\p.ex.high<=p.high + 1:=fun p hp sc=>ex_okL ps p hp sc
  rcases zgB h1 h2 h3 hb hc with ⟨s,a,b,rfl,rfl,rfl⟩ | ⟨a,b,c,rfl,rfl,rfl⟩ | ⟨a,b,rfl,rfl,rfl⟩ | ⟨a,rfl,rfl,rfl⟩ | ⟨a,rfl,rfl,rfl⟩ | ⟨w,ew,rfl,h8,har,hmk⟩
  ·obtain ⟨f1,f2⟩:=zco hf
   obtain ⟨a1,a2,a3⟩:=ih a (by simp) sc f1
   obtain ⟨b1,b2,b3⟩:=ih b (by simp) _ f2
   rw [Rl.ex,zkj]
   simp only [zdC,zhs,zbU,zdD,zbV,Ex.toW,Rl.toW,rlWs,Wf,Ex.high,Rl.high,rhighs,a1,b1]
   exact ⟨rfl,⟨a2,b2⟩,by omega⟩
  ·obtain ⟨f1,f2,f3⟩:=zdE hf
   rw [List.append_nil] at f3
   obtain ⟨a1,a2,a3⟩:=ih a (by simp) sc f1
   obtain ⟨b1,b2,b3⟩:=ih b (by simp) _ f2
   obtain ⟨c1,c2,c3⟩:=ih c (by simp) _ f3
   rw [Rl.ex,znm]
   simp only [zdC,zhs,zbU,zdD,zbV,Ex.toW,Rl.toW,rlWs,Wf,Ex.high,Rl.high,rhighs,a1,b1,c1]
   exact ⟨rfl,⟨a2,b2,c2⟩,by omega⟩
  ·obtain ⟨f1,f2⟩:=zco hf
   rw [List.append_nil] at f2
   obtain ⟨a1,a2,a3⟩:=ih a (by simp) sc f1
   obtain ⟨b1,b2,b3⟩:=ih b (by simp) _ f2
   rw [Rl.ex,zkj]
   simp only [zdC,zhs,zbU,zdD,zbV,Ex.toW,Rl.toW,rlWs,Wf,Ex.high,Rl.high,rhighs,a1,b1]
   exact ⟨rfl,⟨a2,b2⟩,by omega⟩
  ·have f1:=zcp hf
   rw [List.append_nil] at f1
   obtain ⟨a1,a2,a3⟩:=ih a (by simp) sc f1
   rw [Rl.ex,zki]
   simp only [zdC,zhs,zbU,zdD,zbV,Ex.toW,Rl.toW,rlWs,Wf,Ex.high,Rl.high,rhighs,a1]
   exact ⟨rfl,a2,by omega⟩
  ·have f1:=zcp hf
   rw [List.append_nil] at f1
   obtain ⟨a1,a2,a3⟩:=ih a (by simp) sc f1
   rw [Rl.ex,zki]
   simp only [zdC,zhs,zbU,zdD,zbV,Ex.toW,Rl.toW,rlWs,Wf,Ex.high,Rl.high,rhighs,a1]
   exact ⟨rfl,a2,by omega⟩
  ·have hm:=zei hf
   obtain ⟨e1,e2,e3⟩:=ex_okS ps sc hm
   rw [Rl.ex,hmk,Ex.toW,Rl.toW,Wf,Ex.high,Rl.high,zgA,e1,ew]
   exact ⟨rfl,⟨h8,har,e2⟩,by omega⟩
theorem ex_okL:∀ (ps:List Rl),∀ p∈ps,∀ sc,p.Fit sc->p.ex.toW = p.toW/\Wf p.ex sc/\p.ex.high<=p.high + 1
 | [],p,hp=>nomatch hp
 | a :: r,p,hp=>by
  rcases List.mem_cons.mp hp with h | h
  ·intro sc; rw [h]; exact zmc a sc
  ·exact ex_okL r p h
theorem ex_okS:∀ (ps:List Rl) (sc:List Str),(∀ p∈ps,p.Fit sc)->exWs (rlEx ps) = rlWs ps/\Wfs (rlEx ps) sc/\highs (rlEx ps)<=rhighs ps
 | [],sc,_=>by rw [rlEx,exWs,rlWs,Wfs,highs,rhighs]; exact ⟨rfl,trivial,Nat.le_refl _⟩
 | a :: r,sc,h=>by
  obtain ⟨a1,a2,a3⟩:=zmc a sc (h a List.mem_cons_self)
  obtain ⟨i1,i2,i3⟩:=ex_okS r sc fun p hp=>h p (List.mem_cons_of_mem _ hp)
  rw [rlEx,exWs,rlWs,Wfs,highs,rhighs,a1,i1]
  exact ⟨rfl,⟨a2,i2⟩,by omega⟩
end
end
end D
namespace L2
open PySem PySem.Spec PyProof.Rows
theorem znn {K:PySem.W.Frag}{te:TE}{H:Hp}{F:Addr->Hp->List V->Prop}{a b:Addr}{xs ys:List V} (outs:List V) (h1:SqT K H a xs) (h2:SqT K H b ys) (hl:xs.length = ys.length) (ho:outs.length = xs.length) (hz:xs.length<=sizeLine)
  (step:∀ (i:Nat) (x y z:V) (H1:Hp) (R:VK),xs[i]? = some x->ys[i]? = some y->outs[i]? = some z->Same H H1->(∀ H2,Same H1 H2->R z H2)->te [some x,some y] H1 R)
  (sq:∀ H1,Same H H1->SqT K H1 a xs/\SqT K H1 b ys)
  (fin:∀ (H1:Hp) (D:Addr),Same H H1->H1 D = none->F D H1 outs):
  ∃ W:Nat->Nat->List V->Hp->Prop,(∃ m,W 0 m [] H)/\∀ i m vs H,W i m vs H->vs.length<=sizeLine /\
   (((Itz K a b).stop i H/\∀ D,H D = none->F D H vs) \/
    ((Itz K a b).go i H/\∀ v H',(Itz K a b).yld i H v H'->gTup K 2 (zgI (ZD 0) (zgI (ZD 1) gNil)) v (List.replicate 2 none) H' fun σ2 H2=>if true = true then te σ2 H2 fun y H3=>∃ m',m' < m/\W (i + 1) m' (vs ++ [y]) H3 else ∃ m',m' < m/\W (i + 1) m' vs H2)):=by
 refine ⟨fun i m us H1=>i<=xs.length/\m = xs.length - i/\us = outs.take i/\Same H H1,⟨_,Nat.zero_le _,rfl,by simp,Same.refl _⟩,fun i m us H1 hW=>?_⟩
 obtain ⟨hi,hm,hu,sm⟩:=hW
 obtain ⟨q1,q2⟩:=sq H1 sm
 refine ⟨by rw [hu,List.length_take]; omega,?_⟩
 by_cases hlt:i < xs.length
 ·have hlt2:i < ys.length:=by omega
  refine .inr ⟨⟨xs,xs[i],ys,ys[i],q1,q2,List.getElem?_eq_getElem hlt,List.getElem?_eq_getElem hlt2⟩,fun v H' hy=>?_⟩
  obtain ⟨t,x,y,ht,rfl,e1,e2,rfl⟩:=hy
  have hz:outs[i]? = some outs[i]:=List.getElem?_eq_getElem (by omega)
  have s2:Same H1 (upd H1 t (.tup [x,y])):=fun c o e=>by rw [zr (zm e ht)]; exact e
  refine ⟨t,_,rfl,SqT.of zh,rfl,_,_,rfl,_,_,rfl,rfl,?_⟩
  refine iteT ?_
  refine step i x y outs[i] _ _ (e1 xs q1) (e2 ys q2) hz (sm.trans s2) fun H2 s3=>⟨xs.length - (i + 1),by omega,by omega,rfl,?_,(sm.trans s2).trans s3⟩
  rw [hu,zal hz]
 ·have e:i = xs.length:=by omega
  refine .inl ⟨⟨xs,q1,by omega⟩,fun D hD=>?_⟩
  have e2:us = outs:=by rw [hu,List.take_of_length_le (by omega)]
  rw [e2]
  exact fin H1 D sm hD
end L2
namespace D
open PySem L2
def spAl (K:PySem.W.Frag) (n:Nat):Sp:=fun vs H Q _=>∃ (u v:V),vs = [u,v]/\((u = .non/\v = .non/\0 < n)\/∃ x:W,RS K H u x/\RS K H v x/\x.depth < n)/\∀ H',Same H H'->Q (.bl true) H'
section
variable {P:Program}{w:World}{K:PySem.W.Frag}{mg:Str->Option Value}{base:Heap}{f:Addr}{fd:FuncData}{k n:Nat}{ARun ABook:Addr}
theorem zi8:FnScope ["_law_one","_law_other"] ["_law_one","_law_other"] (zn zdX):=mkSc rfl (by decide +kernel)
theorem zi9 {n:Nat} (F:Fun K "_law_alike" "_law_alike" zdX f fd) (G_lalike:Have P w K mg base "_law_alike" k ["_law_one","_law_other"] (spAl K n)) (m_all:mg "all" = none) (m_bool:mg "bool" = none) (m_int:mg "int" = none) (m_isi:mg "isinstance" = none) (m_len:mg "len" = none) (m_str:mg "str" = none) (m_tuple:mg "tuple" = none) (m_zip:mg "zip" = none):FnOk P w K mg base CX0 (k + 1) f fd ["_law_one","_law_other"] (spAl K (n + 1)):=by
 refine F.okQ zi8 (by rintro _ _ _ _ ⟨_,_,rfl,_⟩; rfl) fun cdv A outer s H vs Q E hr h=>?_
 obtain ⟨u,v,rfl,h0,q⟩:=h
 refine ⟨_,(zi (zJ (zQ (zu Z2 rfl m_isi zO (zc (pv 0) (zc (ZM rfl m_tuple zI) zd)))) (zi (zJ (PW.pt (zb6 (Zh (zQ (zu Z2 rfl m_isi zO (zc (pv 1) (zc (ZM rfl m_tuple zI) zd))))) (zaR (zB zjy (zu zM rfl m_len PySem.boot_len (zc (pv 0) zd)) (zu zM rfl m_len PySem.boot_len (zc (pv 1) zd)) (nomark _))))) (zl (zq zcq)) zx)
  (zl (zq (zu (ZY rfl) rfl m_all zbv (zc (zcY ["_law_mine","_law_yours"] rfl rfl (by decide +kernel) rfl (by decide +kernel) trivial rfl (zix rfl m_zip (zc (pv 0) (zc (pv 1) zd))) (fun C s H fp=>(show QG _ _ (gTup K 2 (zgI (ZD 0) (zgI (ZD 1) gNil))) from zbn rfl (Zt (zV (i:=0) (show (["_law_mine","_law_yours"]:List Str).Nodup from by decide +kernel) rfl (Or.inl rfl) (Or.inr rfl)) (Zt (zV (i:=1) (show (["_law_mine","_law_yours"]:List Str).Nodup from by decide +kernel) rfl (Or.inl rfl) (Or.inr rfl)) zba)))) (fun C s H fp=>⟨Zn,(zt G_lalike hr rfl (zc (pv 0) (zc (pv 1) zd)))⟩)) zd))))) zx)
  (zi (zJ (zQ (zu Z2 rfl m_isi zO (zc (pv 0) (zc (ZM rfl m_str ZH) zd)))) (zl (zq (Z5 (zu Z2 rfl m_isi zO (zc (pv 1) (zc (ZM rfl m_str ZH) zd))) (zap (zY Za (pv 0) (pv 1) (nomark _)))))) zx)
  (zi (zJ (zbY (zcr (pv 0))) (zl (zq (zeo (zcr (pv 1))))) zx)
  (zi (zJ (zQ (zu Z2 rfl m_isi zO (zc (pv 0) (zc (ZM rfl m_bool za0) zd)))) (zl (zq (Z5 (zu Z2 rfl m_isi zO (zc (pv 1) (zc (ZM rfl m_bool za0) zd))) (zap (zY Za (pv 0) (pv 1) (nomark _)))))) zx)
  (zl (zq (Z5 (zu Z2 rfl m_isi zO (zc (pv 1) (zc (ZM rfl m_int Z0) zd))) (Z5 (zf9 (zu Z2 rfl m_isi zO (zc (pv 1) (zc (ZM rfl m_bool za0) zd)))) (zap (zY Za (pv 0) (pv 1) (nomark _))))))))))),?_⟩
 have q0:Q (.bl true) H:=q H (Same.refl H)
 rcases h0 with ⟨rfl,rfl,_⟩ | ⟨x,r1,r2,hd⟩
 ·exact ⟨_,rfl,_,_,_,_,rfl,.inl .non,zhW,_,rfl,iteF ⟨_,rfl,_,_,_,_,rfl,.inl .non,zhX,_,rfl,iteF ⟨_,rfl,_,rfl,iteT ⟨_,rfl,q0⟩⟩⟩⟩
 cases x with
 | num i=>
  cases r1
  cases r2
  refine ⟨_,rfl,_,_,_,_,rfl,.inl (.int i),zcG,_,rfl,iteF ⟨_,rfl,_,_,_,_,rfl,.inl (.int i),zdq,_,rfl,iteF ⟨_,rfl,_,rfl,iteF ⟨_,rfl,_,_,_,_,rfl,.inl (.int i),zhY,_,rfl,iteF ?_⟩⟩⟩⟩
  refine ⟨_,rfl,_,_,_,_,rfl,.inl (.int i),zkM,_,rfl,iteT ⟨_,rfl,_,_,_,_,rfl,.inl (.int i),zhY,_,rfl,_,rfl,iteT ⟨_,rfl,_,rfl,rfl,?_⟩⟩⟩
  rw [decide_eq_true (rfl:V.int i = V.int i)]
  exact q0
 | txt z=>
  cases r1
  cases r2
  refine ⟨_,rfl,_,_,_,_,rfl,.inl (.str z),zbu,_,rfl,iteF ⟨_,rfl,_,_,_,_,rfl,.inl (.str z),za5,_,rfl,iteT ?_⟩⟩
  refine ⟨_,rfl,_,_,_,_,rfl,.inl (.str z),za5,_,rfl,iteT ⟨_,rfl,_,rfl,rfl,?_⟩⟩
  rw [decide_eq_true (rfl:V.str z = V.str z)]
  exact q0
 | lst ws=>
  cases r1 with
  | @lst t1 us1 _ e1 l1 at1=>
   cases r2 with
   | @lst t2 us2 _ e2 l2 at2=>
    refine ⟨_,rfl,_,_,_,_,rfl,.inr ⟨rfl,_,_,rfl,e1⟩,zbt,_,rfl,iteT ?_⟩
    refine ⟨_,rfl,_,_,_,_,rfl,.inr ⟨rfl,_,_,rfl,e2⟩,zbt,_,rfl,iteF ⟨_,rfl,_,_,rfl,.inr ⟨_,e1,rfl⟩,_,rfl,_,_,rfl,.inr ⟨_,e2,rfl⟩,rfl,_,rfl,?_⟩⟩
    rw [show (!decide (V.int ((us1.length:Nat):Int) = V.int ((us2.length:Nat):Int))) = false by rw [l1,l2]; simp]
    have hd':1 + depths ws < n + 1:=hd
    refine iteF ⟨_,rfl,_,rfl,t1,t2,us1,us2,rfl,e1,e2,fun hz=>?_⟩
    refine znn (K:=K) (us1.map fun _=>V.bl true) e1 e2 (by omega) (by simp) hz (fun i x y z H1 R hx hy hzz sm r=>?_) (fun H1 sm=>⟨sm.seqT e1,sm.seqT e2⟩) (fun H1 D sm hD=>?_)
    ·rw [List.getElem?_map,hx] at hzz
     cases hzz
     have hi:i < ws.length:=by have:=(List.getElem?_eq_some_iff.mp hx).1; omega
     have hw:ws[i]? = some ws[i]:=List.getElem?_eq_getElem hi
     have hdm:=zad ws[i] (List.getElem_mem hi)
     exact ⟨_,rfl,_,rfl,x,y,rfl,.inr ⟨ws[i],RS.mono sm (at1 i _ _ hx hw),RS.mono sm (at2 i _ _ hy hw),by omega⟩,r⟩
    ·refine ⟨D,us1.map fun _=>true,rfl,SqL.of ?_,?_⟩
     ·rw [zh,List.map_map]; rfl
     ·rw [show ((us1.map fun _=>true).all id) = true by simp]
      exact q _ (sm.trans (Same.new hD))
inductive GR:Nat->R->Prop where
 | mk {n:Nat}{res:Res}{ss:List R}:ROk res->res≠.stop->(∀ r∈ss,GR n r)->GR (n + 1) (.mk res ss)
theorem GR.up {n m:Nat}{r:R} (h:GR n r) (l:n<=m):GR m r:=by
 induction h generalizing m with
 | @mk n res ss a b _ ih=>
  obtain ⟨k,rfl⟩:∃ k,m = k + 1:=⟨m - 1,by omega⟩
  exact .mk a b fun r hr=>ih r hr (by omega)
theorem gr1 {n:Nat}{a:R}{res:Res} (ok:ROk res) (ns:res≠.stop) (ga:GR n a):GR (n + 1) (.mk res [a]):=.mk ok ns fun r hr=>by rw [List.mem_singleton.mp hr]; exact ga
theorem gr2 {n:Nat}{a b:R}{res:Res} (ok:ROk res) (ns:res≠.stop) (ga:GR n a) (gb:GR n b):GR (n + 1) (.mk res [a,b]):=.mk ok ns fun r hr=>by
 rcases List.mem_cons.mp hr with rfl | hr
 ·exact ga
 ·rw [List.mem_singleton.mp hr]; exact gb
theorem ZB {r:Res}{x:W} (h:r = .made x):r≠.stop:=fun z=>by rw [h] at z; cases z
theorem zej {r:Res}{x:List W} (h:r = .wrong x):r≠.stop:=fun z=>by rw [h] at z; cases z
section
variable {fs:List Res}
theorem zgC {F:W->Ns->R × Ns}{n:Nat}:∀ {ws:List W}{ns:Ns},(∀ w∈ws,∀ ns:Ns,ns.length<=fs.length->(F w ns).1.res≠.stop->GR n (F w ns).1/\(F w ns).2.length<=fs.length)->ns.length<=fs.length->¬ stL (zK F ws ns).1->∀ r∈(zK F ws ns).1,GR n r
 | [],ns,_,_,_,r,hr=>by rw [zK] at hr; cases hr
 | w :: ws,ns,h,hn,hs,r,hr=>by
  rw [zaK] at hs hr
  by_cases hm:(F w ns).1.res.isMade = true
  ·rw [if_pos hm] at hs hr
   obtain ⟨x,hx⟩:=ZJ hm
   obtain ⟨g1,g2⟩:=h w List.mem_cons_self ns hn (ZB hx)
   rcases List.mem_cons.mp hr with rfl | hr
   ·exact g1
   ·exact zgC (fun x hx=>h x (List.mem_cons_of_mem _ hx)) g2 (fun z=>hs ((zbD (ZB hx)).mpr z)) r hr
  ·rw [if_neg hm] at hs hr
   rw [List.mem_singleton.mp hr]
   exact (h w List.mem_cons_self ns hn (fun z=>hs (zi5.mpr z))).1
mutual
theorem grE (nst:∀ r∈fs,r≠Res.stop) (okF:∀ r∈fs,ROk r) (hl:fs.length<=900):∀ (x:Ex) (sc:List Str) (e:Env) (ns:Ns),Wf x sc->EG sc e->ns.length<=fs.length->(ev fs x e ns).1.res≠.stop->GR x.high (ev fs x e ns).1
 | .lit x,sc,e,ns,hw,he,hn,hs=>by
  have ok:=(Z3 nst okF hl _ sc e ns hw he hn).2
  rw [ev] at ok hs ⊢
  rw [Ex.high]
  exact .mk ok hs fun r hr=>nomatch hr
 | .var s,sc,e,ns,hw,he,hn,hs=>by
  have ok:=(Z3 nst okF hl _ sc e ns hw he hn).2
  rw [ev] at ok hs ⊢
  rw [Ex.high]
  exact .mk ok hs fun r hr=>nomatch hr
 | .letE s a b,sc,e,ns,hw,he,hn,hs=>by
  have ok:=(Z3 nst okF hl _ sc e ns hw he hn).2
  rw [Wf] at hw
  have r1:=(Z3 nst okF hl a sc e ns hw.1 he hn).2
  have cs:=csE nst a e ns hn
  rw [Ex.high,Nat.add_comm]
  by_cases hm:(ev fs a e ns).1.res.isMade = true
  ·obtain ⟨x,hx⟩:=ZJ hm
   rw [hx] at r1
   rw [zfS hx] at ok hs ⊢
   exact gr2 ok hs ((grE nst okF hl a sc e ns hw.1 he hn (ZB hx)).up (by omega)) ((grE nst okF hl b (sc ++ [s]) (put e s x) _ hw.2 (he.put r1) (cs.s0 (ZB hx)) hs).up (by omega))
  ·rw [zfT (by simpa using hm)] at ok hs ⊢
   exact gr1 ok hs ((grE nst okF hl a sc e ns hw.1 he hn hs).up (by omega))
 | .ifE a b c,sc,e,ns,hw,he,hn,hs=>by
  have ok:=(Z3 nst okF hl _ sc e ns hw he hn).2
  rw [Wf] at hw
  have cs:=csE nst a e ns hn
  rw [Ex.high,Nat.add_comm]
  by_cases hm:(ev fs a e ns).1.res.isMade = true
  ·obtain ⟨x,hx⟩:=ZJ hm
   have ga:=(grE nst okF hl a sc e ns hw.1 he hn (ZB hx)).up (m:=max a.high (max b.high c.high)) (by omega)
   cases x with
   | num i=>
    by_cases hi:i = 0
    ·subst hi
     rw [ziN hx] at ok hs ⊢
     exact gr2 ok hs ga ((grE nst okF hl c sc e _ hw.2.2 he (cs.s0 (ZB hx)) hs).up (by omega))
    ·rw [ziO hx hi] at ok hs ⊢
     exact gr2 ok hs ga ((grE nst okF hl b sc e _ hw.2.1 he (cs.s0 (ZB hx)) hs).up (by omega))
   | txt z=>rw [ze2 hx rfl] at ok hs ⊢; exact gr1 ok hs ga
   | lst z=>rw [ze2 hx rfl] at ok hs ⊢; exact gr1 ok hs ga
  ·rw [ziM (by simpa using hm)] at ok hs ⊢
   exact gr1 ok hs ((grE nst okF hl a sc e ns hw.1 he hn hs).up (by omega))
 | .elseE a b,sc,e,ns,hw,he,hn,hs=>by
  have ok:=(Z3 nst okF hl _ sc e ns hw he hn).2
  rw [Wf] at hw
  have cs:=csE nst a e ns hn
  rw [Ex.high,Nat.add_comm]
  rcases zT (ev fs a e ns).1.res with h | ⟨x,h⟩ | ⟨w,h⟩
  ·rw [za1 (fun w z=>by rw [h] at z; cases z)] at hs
   exact absurd h hs
  ·rw [za1 (fun w z=>by rw [h] at z; cases z)] at ok hs ⊢
   exact gr1 ok hs ((grE nst okF hl a sc e ns hw.1 he hn hs).up (by omega))
  ·rw [zd8 h] at ok hs ⊢
   exact gr2 ok hs ((grE nst okF hl a sc e ns hw.1 he hn (zej h)).up (by omega)) ((grE nst okF hl b sc e _ hw.2 he (cs.s0 (zej h)) hs).up (by omega))
 | .cryE a,sc,e,ns,hw,he,hn,hs=>by
  have ok:=(Z3 nst okF hl _ sc e ns hw he hn).2
  rw [Wf] at hw
  rw [Ex.high,Nat.add_comm]
  by_cases hm:(ev fs a e ns).1.res.isMade = true
  ·obtain ⟨x,hx⟩:=ZJ hm
   rw [zfU hx] at ok hs ⊢
   exact gr1 ok hs (grE nst okF hl a sc e ns hw he hn (ZB hx))
  ·rw [zfV (by simpa using hm)] at ok hs ⊢
   exact gr1 ok hs (grE nst okF hl a sc e ns hw he hn hs)
 | .lookE a,sc,e,ns,hw,he,hn,hs=>by
  have ok:=(Z3 nst okF hl _ sc e ns hw he hn).2
  rw [Wf] at hw
  rw [Ex.high,Nat.add_comm]
  by_cases hm:(ev fs a e ns).1.res.isMade = true
  ·obtain ⟨x,hx⟩:=ZJ hm
   have ga:=grE nst okF hl a sc e ns hw he hn (ZB hx)
   cases x with
   | num i=>rw [zbB hx (fun z h=>nomatch h)] at ok hs ⊢; exact gr1 ok hs ga
   | lst i=>rw [zbB hx (fun z h=>nomatch h)] at ok hs ⊢; exact gr1 ok hs ga
   | txt z=>rw [zd9 hx] at ok hs ⊢; exact gr1 ok hs ga
  ·rw [zea (by simpa using hm)] at ok hs ⊢
   exact gr1 ok hs (grE nst okF hl a sc e ns hw he hn hs)
 | .reck d es,sc,e,ns,hw,he,hn,hs=>by
  have ok:=(Z3 nst okF hl _ sc e ns hw he hn).2
  rw [Wf] at hw
  rw [Ex.high,Nat.add_comm]
  rw [ev] at ok hs ⊢
  by_cases hall:Zm (evs fs es e ns).1 = true
  ·rw [if_pos hall] at ok hs ⊢
   exact .mk ok hs (grL nst okF hl es sc e ns hw.2.2 he hn (zar hall))
  ·rw [if_neg hall] at ok hs ⊢
   exact .mk ok hs (grL nst okF hl es sc e ns hw.2.2 he hn hs)
 | .eachE s a b,sc,e,ns,hw,he,hn,hs=>by
  have ok:=(Z3 nst okF hl _ sc e ns hw he hn).2
  rw [Wf] at hw
  have r1:=(Z3 nst okF hl a sc e ns hw.1 he hn).2
  have cs:=csE nst a e ns hn
  rw [Ex.high,Nat.add_comm]
  rcases zT (ev fs a e ns).1.res with h | ⟨x,hx⟩ | ⟨w,h⟩
  ·rw [ev,h] at hs; exact absurd rfl hs
  ·have ga:=(grE nst okF hl a sc e ns hw.1 he hn (ZB hx)).up (m:=max a.high b.high) (by omega)
   cases x with
   | num i=>rw [ev,hx] at ok hs ⊢; exact gr1 ok hs ga
   | txt i=>rw [ev,hx] at ok hs ⊢; exact gr1 ok hs ga
   | lst ws=>
    rw [hx] at r1
    have g:Gd (.lst ws):=r1
    by_cases hlen:ws.length<=10
    ·have go:=zgC (fs:=fs) (F:=fun w m=>ev fs b (put e s w) m) (n:=max a.high b.high) (ws:=ws) (ns:=(ev fs a e ns).2) (fun w hw' m hm hm2=>⟨(grE nst okF hl b (sc ++ [s]) (put e s w) m hw.2 (he.put (g.item hw')) hm hm2).up (by omega),(csE nst b (put e s w) m hm).s0 hm2⟩) (cs.s0 (ZB hx))
     rw [ziZ hx hlen] at ok hs ⊢
     by_cases hall:Zm (zK (fun w m=>ev fs b (put e s w) m) ws (ev fs a e ns).2).1 = true
     ·rw [if_pos hall] at ok hs ⊢
      exact .mk ok hs fun r hr=>by
       rcases List.mem_cons.mp hr with rfl | hr
       ·exact ga
       ·exact go (zar hall) r hr
     ·rw [if_neg hall] at ok hs ⊢
      exact .mk ok hs fun r hr=>by
       rcases List.mem_cons.mp hr with rfl | hr
       ·exact ga
       ·exact go (fun z=>hs ((znk (ZB hx)).mpr z)) r hr
    ·have hc:ev fs (.eachE s a b) e ns = (.mk (.wrong [.txt "great",.txt ""]) [(ev fs a e ns).1],(ev fs a e ns).2):=by
      rw [ev,hx]
      exact if_pos (by omega)
     rw [hc] at ok hs ⊢
     exact gr1 ok hs ga
  ·rw [ev,h] at ok hs ⊢
   exact gr1 ok hs ((grE nst okF hl a sc e ns hw.1 he hn (zej h)).up (by omega))
theorem grL (nst:∀ r∈fs,r≠Res.stop) (okF:∀ r∈fs,ROk r) (hl:fs.length<=900):∀ (es:List Ex) (sc:List Str) (e:Env) (ns:Ns),Wfs es sc->EG sc e->ns.length<=fs.length->¬ stL (evs fs es e ns).1->∀ r∈(evs fs es e ns).1,GR (highs es) r
 | [],sc,e,ns,hw,he,hn,hs,r,hr=>by rw [evs] at hr; cases hr
 | x :: xs,sc,e,ns,hw,he,hn,hs,r,hr=>by
  rw [Wfs] at hw
  rw [za6] at hs hr
  rw [highs]
  by_cases hm:(ev fs x e ns).1.res.isMade = true
  ·rw [if_pos hm] at hs hr
   obtain ⟨y,hx⟩:=ZJ hm
   rcases List.mem_cons.mp hr with rfl | hr
   ·exact (grE nst okF hl x sc e ns hw.1 he hn (ZB hx)).up (by omega)
   ·exact (grL nst okF hl xs sc e _ hw.2 he ((csE nst x e ns hn).s0 (ZB hx)) (fun z=>hs ((zbD (ZB hx)).mpr z)) r hr).up (by omega)
  ·rw [if_neg hm] at hs hr
   rw [List.mem_singleton.mp hr]
   exact (grE nst okF hl x sc e ns hw.1 he hn (fun z=>hs (zi5.mpr z))).up (by omega)
end
end
theorem zno {ss:List R}{n:Nat} (h:∀ r∈ss,r.toW.depth<=n):depths (toWs ss)<=n:=by
 induction ss with
 | nil=>rw [toWs,depths]; omega
 | cons r l ih=>
  rw [toWs,depths]
  have h1:=h r List.mem_cons_self
  have h2:=ih fun x hx=>h x (List.mem_cons_of_mem _ hx)
  omega
theorem GR.dp {n:Nat}{r:R} (h:GR n r):r.toW.depth<=2 * n + 14:=by
 induction h with
 | @mk n res ss a b _ ih=>
  have h1:=ROk.dp a
  have h2:=zno ih
  rw [R.toW]
  simp only [W.depth,depths]
  omega
theorem GR.rs {K:PySem.W.Frag}{H:Hp}{n:Nat}{r:R} (g:GR n r):∀ {v:V},RR K H v r->RS K H v r.toW:=by
 induction g with
 | @mk n res ss a b _ ih=>
  intro v h
  cases h with
  | @mk a1 b1 rv vs _ _ e1 e2 e3 l at'=>
   rw [R.toW]
   refine RS.two (SqT.of e1) (e2.rs b) (.lst (SqT.of e3) (by rw [zgr]; exact l) fun i v w hv hw=>?_)
   rw [ziJ] at hw
   obtain ⟨r,hr,rfl⟩:=Option.map_eq_some_iff.mp hw
   exact ih r (List.mem_of_getElem? hr) (at' i v r hv hr)
mutual
def Ex.lks:Ex->Nat
 | .lit _=>0
 | .var _=>0
 | .letE _ a b=>a.lks + b.lks
 | .ifE a b c=>a.lks + (b.lks + c.lks)
 | .elseE a b=>a.lks + b.lks
 | .cryE a=>a.lks
 | .lookE a=>a.lks + 1
 | .reck _ es=>lkss es
 | .eachE _ a b=>a.lks + 10 * b.lks
def lkss:List Ex->Nat
 | []=>0
 | e :: es=>e.lks + lkss es
end
theorem zgD {F:W->Ns->R × Ns}{n:Nat} (h:∀ w ns,(F w ns).2.length<=ns.length + n):∀ (ws:List W) (ns:Ns),(zK F ws ns).2.length<=ns.length + ws.length * n
 | [],ns=>by rw [zK]; exact Nat.le_add_right _ _
 | w :: ws,ns=>by
  have h1:=h w ns
  have h2:=zgD h ws (F w ns).2
  rw [zaK,List.length_cons,Nat.succ_mul]
  split
  ·show (zK F ws (F w ns).2).2.length<=_
   omega
  ·show (F w ns).2.length<=_
   omega
section
variable {fs:List Res}
mutual
theorem lksE:∀ (x:Ex) (e:Env) (ns:Ns),(ev fs x e ns).2.length<=ns.length + x.lks
 | .lit x,e,ns=>by rw [ev]; exact Nat.le_add_right _ _
 | .var s,e,ns=>by rw [ev]; exact Nat.le_add_right _ _
 | .letE s a b,e,ns=>by
  have h1:=lksE a e ns
  rw [Ex.lks,ev]
  split
  ·rename_i x _
   have h2:=lksE b (put e s x) (ev fs a e ns).2
   show (ev fs b (put e s x) (ev fs a e ns).2).2.length<=_
   omega
  ·show (ev fs a e ns).2.length<=_
   omega
 | .ifE a b c,e,ns=>by
  have h1:=lksE a e ns
  have h2:=lksE b e (ev fs a e ns).2
  have h3:=lksE c e (ev fs a e ns).2
  rw [Ex.lks,ev]
  split
  ·split
   ·show (ev fs c e (ev fs a e ns).2).2.length<=_
    omega
   ·show (ev fs b e (ev fs a e ns).2).2.length<=_
    omega
  ·show (ev fs a e ns).2.length<=_
   omega
  ·show (ev fs a e ns).2.length<=_
   omega
 | .elseE a b,e,ns=>by
  have h1:=lksE a e ns
  have h2:=lksE b e (ev fs a e ns).2
  rw [Ex.lks,ev]
  split
  ·show (ev fs b e (ev fs a e ns).2).2.length<=_
   omega
  ·show (ev fs a e ns).2.length<=_
   omega
 | .cryE a,e,ns=>by
  have h1:=lksE a e ns
  rw [Ex.lks,ev]
  split <;> exact h1
 | .lookE a,e,ns=>by
  have h1:=lksE a e ns
  rw [Ex.lks,ev]
  split
  ·show ((ev fs a e ns).2 ++ [_]).length<=_
   rw [List.length_append,List.length_singleton]
   omega
  ·show (ev fs a e ns).2.length<=_
   omega
  ·show (ev fs a e ns).2.length<=_
   omega
 | .reck d es,e,ns=>by
  have h1:=lksL es e ns
  rw [Ex.lks,ev]
  split <;> exact h1
 | .eachE s a b,e,ns=>by
  have h1:=lksE a e ns
  rw [Ex.lks,ev]
  split
  ·rename_i ws _
   have h2:=zgD (F:=fun w m=>ev fs b (put e s w) m) (fun w m=>lksE b (put e s w) m) ws (ev fs a e ns).2
   split
   ·show (ev fs a e ns).2.length<=_
    omega
   ·rename_i hl
    have h3:ws.length * b.lks<=10 * b.lks:=Nat.mul_le_mul (by omega) (Nat.le_refl _)
    split
    ·show (zK (fun w m=>ev fs b (put e s w) m) ws (ev fs a e ns).2).2.length<=_
     omega
    ·show (zK (fun w m=>ev fs b (put e s w) m) ws (ev fs a e ns).2).2.length<=_
     omega
  ·show (ev fs a e ns).2.length<=_
   omega
  ·show (ev fs a e ns).2.length<=_
   omega
theorem lksL:∀ (es:List Ex) (e:Env) (ns:Ns),(evs fs es e ns).2.length<=ns.length + lkss es
 | [],e,ns=>by rw [evs]; exact Nat.le_add_right _ _
 | x :: xs,e,ns=>by
  have h1:=lksE x e ns
  have h2:=lksL xs e (ev fs x e ns).2
  rw [lkss,za6]
  split
  ·show (evs fs xs e (ev fs x e ns).2).2.length<=_
   omega
  ·show (ev fs x e ns).2.length<=_
   omega
end
end
mutual
theorem zja:∀ (r:Rl) (sc:List Str),r.Fit sc->r.ex.lks<=r.many
 | .lit x,sc,_=>by rw [Rl.ex,Ex.lks]; exact Nat.zero_le _
 | .var s,sc,_=>by rw [Rl.ex,Ex.lks]; exact Nat.zero_le _
 | .op d bs ps,sc,h=>by
  rw [Rl.Fit] at h
  obtain ⟨h1,h2,h3,hb,hc,_,hf⟩:=h
  have ih:=ex_lksL ps
  rw [Rl.many]
  rcases zgB h1 h2 h3 hb hc with ⟨s,a,b,rfl,rfl,rfl⟩ | ⟨a,b,c,rfl,rfl,rfl⟩ | ⟨a,b,rfl,rfl,rfl⟩ | ⟨a,rfl,rfl,rfl⟩ | ⟨a,rfl,rfl,rfl⟩ | ⟨w,ew,rfl,h8,har,hmk⟩
  ·obtain ⟨f1,f2⟩:=zco hf
   have a1:=ih a (by simp) sc f1
   have b1:=ih b (by simp) _ f2
   rw [Rl.ex,zkj,zdC,Ex.lks,manys,manys,manys]
   omega
  ·obtain ⟨f1,f2,f3⟩:=zdE hf
   have a1:=ih a (by simp) sc f1
   have b1:=ih b (by simp) _ f2
   have c1:=ih c (by simp) _ f3
   rw [Rl.ex,znm,zhs,Ex.lks,manys,manys,manys,manys]
   omega
  ·obtain ⟨f1,f2⟩:=zco hf
   have a1:=ih a (by simp) sc f1
   have b1:=ih b (by simp) _ f2
   rw [Rl.ex,zkj,zbU,Ex.lks,manys,manys,manys]
   omega
  ·have a1:=ih a (by simp) _ (zcp hf)
   rw [Rl.ex,zki,zdD,Ex.lks,manys,manys]
   omega
  ·have a1:=ih a (by simp) _ (zcp hf)
   rw [Rl.ex,zki,zbV,Ex.lks,manys,manys]
   omega
  ·have:=ex_lksS ps sc (zei hf)
   rw [Rl.ex,hmk,Ex.lks]
   omega
theorem ex_lksL:∀ (ps:List Rl),∀ p∈ps,∀ sc,p.Fit sc->p.ex.lks<=p.many
 | [],p,hp=>nomatch hp
 | a :: r,p,hp=>by
  rcases List.mem_cons.mp hp with h | h
  ·intro sc; rw [h]; exact zja a sc
  ·exact ex_lksL r p h
theorem ex_lksS:∀ (ps:List Rl) (sc:List Str),(∀ p∈ps,p.Fit sc)->lkss (rlEx ps)<=manys ps
 | [],sc,_=>by rw [rlEx,lkss]; exact Nat.zero_le _
 | a :: r,sc,h=>by
  have a1:=zja a sc (h a List.mem_cons_self)
  have i1:=ex_lksS r sc fun p hp=>h p (List.mem_cons_of_mem _ hp)
  rw [rlEx,lkss,manys]
  omega
end
end
end D
namespace L2
open PySem PySem.Spec PyProof.Rows
end L2
namespace D
open PySem L2
structure Pp (H:Hp) (a:Addr) (u:V) (ns us:List V) (rv:V):Prop where
 ex:∃ (t:Addr) (ts:List Addr),H a = some (.tup [u,.ref t,rv])/\H t = some (.tup (ts.map V.ref))/\ts.length = ns.length/\Prs H ns us ts
 len:ns.length = us.length
 few:ns.length<=1000
theorem Prs.mono {H H':Hp}{xs ys:List V}{ts:List Addr} (h:Prs H xs ys ts) (s:Same H H'):Prs H' xs ys ts:=fun j t x y a b c=>s _ _ (h j t x y a b c)
end D
namespace L2
open PySem
theorem zek {fr:List Nat}{te:TE}{σ:St}{H:Hp}{F:Addr->Hp->List V->Prop}{n:Int} (Pv:Nat->List V->Hp->Prop) (h0:Pv 0 [] H) (hlen:∀ i us H1,Pv i us H1->us.length = i) (hn:n.toNat<=1000000)
  (step:∀ (i:Nat) (us:List V) (H1:Hp) (R:VK),i < n.toNat->Pv i us H1->(∀ y H2,Pv (i + 1) (us ++ [y]) H2->R y H2)->te (some (.int (0 + (i:Int))) :: frees fr σ) H1 R)
  (fin:∀ (us:List V) (H1:Hp) (D:Addr),Pv n.toNat us H1->H1 D = none->F D H1 us):
  ∃ W:Nat->Nat->List V->Hp->Prop,(∃ m,W 0 m [] H)/\∀ i m us H,W i m us H->us.length<=sizeLine /\
   (((Itr 0 n.toNat).stop i H/\∀ D,H D = none->F D H us) \/
    ((Itr 0 n.toNat).go i H/\∀ v H',(Itr 0 n.toNat).yld i H v H'->if true = true then te (some v :: frees fr σ) H' fun y H3=>∃ m',m' < m/\W (i + 1) m' (us ++ [y]) H3 else ∃ m',m' < m/\W (i + 1) m' us H')):=by
 refine ⟨fun i m us H1=>i<=n.toNat/\m = n.toNat - i/\Pv i us H1,⟨_,Nat.zero_le _,rfl,h0⟩,fun i m us H1 hW=>?_⟩
 obtain ⟨hi,hm,hu⟩:=hW
 have hz:(1000000:Nat)<=sizeLine:=by decide
 refine ⟨by rw [hlen _ _ _ hu]; omega,?_⟩
 by_cases hlt:i < n.toNat
 ·refine .inr ⟨hlt,fun v H' hy=>?_⟩
  obtain ⟨rfl,rfl⟩:=hy
  refine iteT ?_
  exact step i us H' _ hlt hu fun y H2 p2=>⟨n.toNat - (i + 1),by omega,by omega,rfl,p2⟩
 ·have e:i = n.toNat:=by omega
  subst e
  exact .inl ⟨Nat.le_refl _,fun D hD=>fin us H1 D hu hD⟩
end L2
namespace D
open PySem L2
theorem RW.three {H:Hp}{p:Addr}{u v t:V}{x y z:W} (e:H p = some (.tup [u,v,t])) (h1:RW H u x) (h2:RW H v y) (h3:RW H t z):RW H (.ref p) (.lst [x,y,z]):=.lst e rfl fun i a b ha hb=>match i,ha,hb with
 | 0,ha,hb=>by
  obtain rfl:u = a:=by simpa using ha
  obtain rfl:x = b:=by simpa using hb
  exact h1
 | 1,ha,hb=>by
  obtain rfl:v = a:=by simpa using ha
  obtain rfl:y = b:=by simpa using hb
  exact h2
 | 2,ha,hb=>by
  obtain rfl:t = a:=by simpa using ha
  obtain rfl:z = b:=by simpa using hb
  exact h3
 | j + 3,ha,hb=>by simp at ha
def YW (te:TE) (σ:St) (H:Hp) (w:W):Prop:=∀ H1,Same H H1->∀ Q:VK,(∀ v H2,Same H1 H2->RW H2 v w->Q v H2)->te σ H1 Q
def YA (t:TA) (σ:St) (H:Hp) (ws:List W):Prop:=∀ H1,Same H H1->∀ Q:List V->Hp->Prop,(∀ vs H2,Same H1 H2->RWs H2 vs ws->Q vs H2)->t σ H1 Q
theorem YW.run {te:TE}{σ:St}{H:Hp}{w:W}{Q:VK} (h:YW te σ H w) (q:∀ v H2,Same H H2->RW H2 v w->Q v H2):te σ H Q:=h H (Same.refl _) Q q
theorem zb4 {σ:St}{H:Hp}{s:Str}:YW (tC (.str s)) σ H (.txt s):=fun H1 _ Q q=>q _ _ (Same.refl _) (.txt s)
theorem znp {σ:St}{H:Hp}{i:Int}:YW (tC (.int i)) σ H (.num i):=fun H1 _ Q q=>q _ _ (Same.refl _) (.num i)
theorem zgE {σ:St}{H:Hp}{i:Nat}{v:V}{w:W} (e:σ[i]? = some (some v)) (r:RW H v w):YW (tVar i) σ H w:=fun H1 s Q q=>⟨v,e,q _ _ (Same.refl _) (r.mono (zC s))⟩
theorem zjb {σ:St}{H:Hp}:YA tNil σ H []:=fun H1 _ Q q=>q [] _ (Same.refl _) ⟨rfl,fun i v w h=>by simp at h⟩
theorem zaL {te:TE}{t:TA}{σ:St}{H:Hp}{w:W}{ws:List W} (h1:YW te σ H w) (h2:YA t σ H ws):YA (zao te t) σ H (w :: ws):=fun H1 s Q q=>
 h1 H1 s _ fun v H2 s2 r=>h2 H2 (s.trans s2) _ fun vs H3 s3 rs=>q (v :: vs) H3 (s2.trans s3) ⟨by rw [List.length_cons,List.length_cons,rs.len],fun i u x a b=>match i,a,b with
  | 0,a,b=>by
   obtain rfl:v = u:=by simpa using a
   obtain rfl:w = x:=by simpa using b
   exact r.mono (zC s3)
  | j + 1,a,b=>rs.at' j u x (by simpa using a) (by simpa using b)⟩
theorem zjc {t:TA}{σ:St}{H:Hp}{ws:List W} (h:YA t σ H ws) (hl:decide (ws.length<=1000) = true:=by rfl):YW (tTup t) σ H (.lst ws):=fun H1 s Q q=>
 h H1 s _ fun vs H2 s2 rs=>⟨Nat.le_of_lt (zaj (by rw [rs.len]; exact of_decide_eq_true hl)),fun p hp=>by
  have s3:=Same.new (o:=.tup vs) hp
  exact q _ _ (s2.trans s3) (.lst zh rs.len fun i v w a b=>(rs.at' i v w a b).mono (zC s3))⟩
theorem yw1 {te:TE}{σ:St}{H:Hp}{s:Str}{w:W} (h:YW te σ H w):YW (tTup (zao (tC (.str s)) (zao te tNil))) σ H (.lst [.txt s,w]):=zjc (zaL zb4 (zaL h zjb))
theorem yw2 {ta tb:TE}{σ:St}{H:Hp}{s:Str}{w x:W} (h:YW ta σ H w) (h2:YW tb σ H x):YW (tTup (zao (tC (.str s)) (zao ta (zao tb tNil)))) σ H (.lst [.txt s,w,x]):=zjc (zaL zb4 (zaL h (zaL h2 zjb)))
theorem yw3 {ta tb tc:TE}{σ:St}{H:Hp}{s:Str}{w x y:W} (h:YW ta σ H w) (h2:YW tb σ H x) (h3:YW tc σ H y):YW (tTup (zao (tC (.str s)) (zao ta (zao tb (zao tc tNil))))) σ H (.lst [.txt s,w,x,y]):=zjc (zaL zb4 (zaL h (zaL h2 (zaL h3 zjb))))
theorem zaB {K:PySem.W.Frag}{σ:St}{H:Hp}{i j:Nat}{l:Addr}{us:List V}{v:V}{w:W} (e:σ[i]? = some (some (.ref l))) (h:H l = some (.lst us)) (hv:us[j]? = some v) (r:RW H v w):YW (tOp (rIxL K) (tVar i) (tC (.int (j:Int)))) σ H w:=fun H1 s Q q=>
 ⟨_,e,l,us,_,v,rfl,rfl,SqL.of (s _ _ h),zG hv,q _ _ (Same.refl _) (r.mono (zC s))⟩
theorem RW.ref_tup {H:Hp}{v:V}{ws:List W} (h:RW H v (.lst ws)):∃ a us,v = .ref a/\H a = some (.tup us)/\RWs H us ws:=by
 obtain ⟨a,us,rfl,e,r⟩:=h.tup
 exact ⟨a,us,rfl,e,r⟩
def znq:Sp:=fun vs H Q _=>∃ b:Addr,vs = [.ref b]/\zP H b/\∀ (v:V) (r:Res) (H':Hp),RW H' v r.toW->ROk r->r≠.stop->Step b H H'->Q v H'
def NmOk (names:List Str):Prop:=names≠[]/\names.length<=15/\∀ z∈names,1<=z.length/\z.length<=30/\Signs z
structure Rok (x:Ex) (m k:Nat):Prop where
 wf:∀ sc,Wf x sc
 hi:x.high<=m/\x.lks<=k
def zjd:Sp:=fun vs H Q _=>∃ (b l:Addr) (names:List Str),vs = [.ref b,.ref l]/\zP H b/\H l = some (.lst (names.map V.str))/\l≠b/\NmOk names/\∀ (v:V) (x:Ex) (H':Hp),RW H' v x.toW->Rok x 2 0->Step b H H'->Q v H'
theorem zbF {names:List Str}{n:Int} (n0:0<=n) (n1:n < names.length):∃ z∈names,atI (names.map V.str) n = some (.str z):=by
 have hi:n.toNat < names.length:=by omega
 refine ⟨names[n.toNat],List.getElem_mem hi,?_⟩
 have:=zG (xs:=names.map V.str) (j:=n.toNat) (v:=.str names[n.toNat]) (by rw [List.getElem?_map,List.getElem?_eq_getElem hi]; rfl)
 rw [show ((n.toNat:Nat):Int) = n by omega] at this
 exact this
theorem zgF {z:Str} (h:z.length<=400) (s:Signs z):Gd (.txt z):=⟨⟨h,s⟩,Nat.zero_le _⟩
section
variable {P:Program}{w:World}{K:PySem.W.Frag}{mg:Str->Option Value}{base:Heap}{f:Addr}{fd:FuncData}{k n:Nat}{ARun ABook:Addr}
theorem zc9:FnScope ["_law_box_here","_law_kind"] ["_law_box_here"] (zn zbR):=mkSc rfl (by decide +kernel)
theorem zf3 (F:Fun K "_law_outcome" "_law_outcome" zbR f fd) (G_lworth:Have P w K mg base "_law_worth" k ["_law_box_here","_law_room","_law_deep"] (zbS 13)) (G_ltext:Have P w K mg base "_law_text" k ["_law_box_here","_law_most"] (zh9)) (G_ltake:Have P w K mg base "_law_take" k ["_law_box_here","_law_wide"] (Z7)):FnOk P w K mg base CX0 (k + 1) f fd ["_law_box_here"] (znq):=by
 refine F.okQ zc9 (by rintro _ _ _ _ ⟨_,rfl,_⟩; rfl) fun cdv A outer s H vs Q E hr h=>?_
 obtain ⟨b,rfl,hb,q⟩:=h
 refine ⟨_,(zi (zw (i:=1) zc9.nd rfl (Or.inl rfl) (zt G_ltake hr rfl (zc (pv 0) (zc zj zd))))
  (zi (zJ (zB zfm (pv 1) zj (nomark _)) (zl (zq (zA (zc zo (zc (zt G_lworth hr rfl (zc (pv 0) (zc zj (zc zj zd)))) zd))))) zx)
  (zi (zJ (zB Za (pv 1) zj (nomark _)) (zl (zq (zA (zc zo (zc (zD zy (zL (zc zo (zc zo (zc zo (zc zo zd))))) (zt G_ltake hr rfl (zc (pv 0) (zc zj zd))) (fun _ _=>rfl)) (zc zo zd)))))) zx)
  (zi (zJ (zB Za (pv 1) zj (nomark _)) (zl (zq (zA (zc zo (zc (zD zy (zL (zc zo (zc zo zd))) (zt G_ltake hr rfl (zc (pv 0) (zc zj zd))) (fun _ _=>rfl)) (zc (zt G_ltext hr rfl (zc (pv 0) (zc zj zd))) zd)))))) zx)
  (zl (zq (zA (zc zo (zc zo (zc (zt G_lworth hr rfl (zc (pv 0) (zc zj (zc zj zd)))) zd)))))))))),?_⟩
 refine ⟨_,rfl,b,8,rfl,hb,by decide,by decide,fun kd H1 k0 k1 st1=>?_⟩
 have wr:∀ (p:Addr) (c:Str) (t:V) (y:W) (H2:Hp) (hp:H2 p = none),Step b H H2->RW H2 t y->(W.txt c).Th->y.Th->y.depth<=12->Q (.ref p) (upd H2 p (.tup [.str "wrong",.str c,t])):=fun p c t y H2 hp st rt oc oy dy=>by
  have s3:=Same.new (o:=.tup [.str "wrong",.str c,t]) hp
  exact q _ (.wrong [.txt c,y]) _ (RW.three zh (.txt _) (.txt _) (rt.mono (zC s3))) ⟨c,y,rfl,oc,oy,dy⟩ (fun z=>nomatch z) (st.trans (Step.ofSame st.box s3))
 refine ⟨_,rfl,_,_,rfl,rfl,_,rfl,ite2 (fun _=>?_) (fun c4=>?_)⟩
 ·refine ⟨_,rfl,b,6,3,rfl,st1.box,by decide,by decide,by decide,by decide,fun v x H2 rx okx dx sx st2=>⟨zl2,fun p hp=>?_⟩⟩
  have s3:=Same.new (o:=.tup [.str "made",v]) hp
  have st:=st1.trans st2
  exact q _ (.made x) _ (RW.pair zh (.txt _) (rx.mono (zC s3))) ⟨okx,by omega⟩ (fun z=>nomatch z) (st.trans (Step.ofSame st.box s3))
 refine ⟨_,rfl,rfl,_,rfl,ite2 (fun _=>?_) (fun c5=>?_)⟩
 ·refine ⟨zl4,fun l hl=>?_⟩
  have st2:=st1.trans (Step.new (o:=.lst [.str "kind",.str "great",.str "nought",.str "place"]) st1.box hl)
  have el:upd H1 l (.lst [.str "kind",.str "great",.str "nought",.str "place"]) l = some (.lst [.str "kind",.str "great",.str "nought",.str "place"]):=zh
  have nlb:l≠b:=zP.ne st1.box hl
  generalize upd H1 l (.lst [.str "kind",.str "great",.str "nought",.str "place"]) = H2 at st2 el
  refine ⟨_,rfl,b,4,rfl,st2.box,by decide,by decide,fun m H3 m0 m1 st3=>?_⟩
  have el3:=st3.keep l _ nlb el
  have st:=st2.trans st3
  have hm:m = 0\/m = 1\/m = 2\/m = 3:=by omega
  rcases hm with rfl | rfl | rfl | rfl
  ·exact ⟨l,_,0,.str "kind",rfl,rfl,SqL.of el3,zG (j:=0) rfl,zl3,fun p hp=>wr p "kind" (.str "") (.txt "") H3 hp st (.txt _) (zas (by decide +kernel) (by decide +kernel)) zbE (Nat.zero_le _)⟩
  ·exact ⟨l,_,1,.str "great",rfl,rfl,SqL.of el3,zG (j:=1) rfl,zl3,fun p hp=>wr p "great" (.str "") (.txt "") H3 hp st (.txt _) (zas (by decide +kernel) (by decide +kernel)) zbE (Nat.zero_le _)⟩
  ·exact ⟨l,_,2,.str "nought",rfl,rfl,SqL.of el3,zG (j:=2) rfl,zl3,fun p hp=>wr p "nought" (.str "") (.txt "") H3 hp st (.txt _) (zas (by decide +kernel) (by decide +kernel)) zbE (Nat.zero_le _)⟩
  ·exact ⟨l,_,3,.str "place",rfl,rfl,SqL.of el3,zG (j:=3) rfl,zl3,fun p hp=>wr p "place" (.str "") (.txt "") H3 hp st (.txt _) (zas (by decide +kernel) (by decide +kernel)) zbE (Nat.zero_le _)⟩
 refine ⟨_,rfl,rfl,_,rfl,ite2 (fun _=>?_) (fun _=>?_)⟩
 ·refine ⟨zl2,fun l hl=>?_⟩
  have st2:=st1.trans (Step.new (o:=.lst [.str "none",.str "shut"]) st1.box hl)
  have el:upd H1 l (.lst [.str "none",.str "shut"]) l = some (.lst [.str "none",.str "shut"]):=zh
  have nlb:l≠b:=zP.ne st1.box hl
  generalize upd H1 l (.lst [.str "none",.str "shut"]) = H2 at st2 el
  refine ⟨_,rfl,b,2,rfl,st2.box,by decide,by decide,fun m H3 m0 m1 st3=>?_⟩
  have el3:=st3.keep l _ nlb el
  have st:=st2.trans st3
  have hm:m = 0\/m = 1:=by omega
  rcases hm with rfl | rfl
  ·refine ⟨l,_,0,.str "none",rfl,rfl,SqL.of el3,zG (j:=0) rfl,_,rfl,b,15,rfl,st.box,by decide,by decide,fun x H4 hx sx st4=>⟨zl3,fun p hp=>?_⟩⟩
   exact wr p "none" (.str x) (.txt x) H4 hp (st.trans st4) (.txt x) (zas (by decide +kernel) (by decide +kernel)) (zas (by omega) sx) (Nat.zero_le _)
  ·refine ⟨l,_,1,.str "shut",rfl,rfl,SqL.of el3,zG (j:=1) rfl,_,rfl,b,15,rfl,st.box,by decide,by decide,fun x H4 hx sx st4=>⟨zl3,fun p hp=>?_⟩⟩
   exact wr p "shut" (.str x) (.txt x) H4 hp (st.trans st4) (.txt x) (zas (by decide +kernel) (by decide +kernel)) (zas (by omega) sx) (Nat.zero_le _)
 ·refine ⟨_,rfl,b,6,3,rfl,st1.box,by decide,by decide,by decide,by decide,fun v x H2 rx okx dx sx st2=>⟨zl3,fun p hp=>?_⟩⟩
  exact wr p "cried" v x H2 hp (st1.trans st2) rx zgx (zeO _ okx) (by omega)
theorem zda:FnScope ["_law_box_here","_law_names_here","_law_name","_law_spot"] ["_law_box_here","_law_names_here"] (zn zdS):=mkSc rfl (by decide +kernel)
theorem zje (F:Fun K "_law_named" "_law_named" zdS f fd) (G_ltake:Have P w K mg base "_law_take" k ["_law_box_here","_law_wide"] (Z7)) (m_len:mg "len" = none):FnOk P w K mg base CX0 (k + 1) f fd ["_law_box_here","_law_names_here"] (zjd):=by
 refine F.okQ zda (by rintro _ _ _ _ ⟨_,_,_,rfl,_⟩; rfl) fun cdv A outer s H vs Q E hr h=>?_
 obtain ⟨b,l,names,rfl,hb,hl,hlb,hnm,q⟩:=h
 obtain ⟨hne,hn4,hz⟩:=hnm
 have hpos:0 < names.length:=List.length_pos_iff.mpr hne
 refine ⟨_,(zi (zw (i:=2) zda.nd rfl (Or.inl rfl) (zD zy (pv 1) (zt G_ltake hr rfl (zc (pv 0) (zc (zu zM rfl m_len PySem.boot_len (zc (pv 1) zd)) zd))) (fun _ _=>rfl)))
  (zi (zw (i:=3) zda.nd rfl (Or.inl rfl) (zt G_ltake hr rfl (zc (pv 0) (zc (zF za4 zj (zu zM rfl m_len PySem.boot_len (zc (pv 2) zd))) zd))))
  (zi (zJ (zB zfm (pv 3) (zu zM rfl m_len PySem.boot_len (zc (pv 2) zd)) (nomark _)) (zl (zq (zA (zc zo (zc (zA (zc zo (zc (ZX zfz (pv 2) zaF (zag (pv 3))) zd))) (zc (zA (zc zo (zc (ZX zfz (pv 2) (zag (pv 3)) zaF) zd))) zd)))))) zx)
  (zl (zq (zA (zc zo (zc (pv 2) zd)))))))),?_⟩
 refine ⟨_,rfl,_,rfl,_,rfl,_,_,rfl,.inl ⟨_,SqL.of hl,rfl⟩,b,_,rfl,hb,by rw [List.length_map]; omega,by rw [List.length_map]; omega,fun n H1 n0 n1 st1=>?_⟩
 rw [List.length_map] at n1
 obtain ⟨z,hzm,hat⟩:=zbF n0 n1
 obtain ⟨z1,z10,zs⟩:=hz z hzm
 refine ⟨l,_,n,_,rfl,rfl,SqL.of (st1.keep l _ hlb hl),hat,?_⟩
 dsimp only [ZD]
 have h61:(10:Int) ^ 61 > 1000:=by decide
 refine ⟨_,rfl,_,rfl,_,z.length,rfl,⟨small (by omega),rfl⟩,3,z.length,rfl,rfl,.inl ⟨by decide,by decide⟩,b,3 * (z.length:Int),rfl,st1.box,by omega,by omega,fun m H2 m0 m1 st2=>?_⟩
 have st:=st1.trans st2
 refine ⟨_,rfl,_,rfl,_,z.length,rfl,⟨small (by omega),rfl⟩,_,_,rfl,rfl,_,rfl,ite2 (fun _=>?_) (fun _=>?_)⟩
 ·refine ⟨_,rfl,_,rfl,_,rfl,z,rfl,by omega,fun r1 h1 g1=>⟨zl2,fun p1 hp1=>?_⟩⟩
  have s1:=Same.new (o:=.tup [.str "lit",.str r1]) hp1
  refine ⟨_,rfl,_,rfl,_,rfl,z,rfl,by omega,fun r2 h2 g2=>⟨zl2,fun p2 hp2=>⟨zl3,fun p3 hp3=>?_⟩⟩⟩
  have s2:=Same.new (o:=.tup [.str "lit",.str r2]) hp2
  have s3:=Same.new (o:=.tup [.str "join",.ref p1,.ref p2]) hp3
  have d1:Signs r1:=fun c hc=>zs c (g1 c hc)
  have d2:Signs r2:=fun c hc=>zs c (g2 c hc)
  refine q _ (.reck .join [.lit (.txt r1),.lit (.txt r2)]) _ ?_ ⟨fun sc=>?_,?_⟩ (st.trans (Step.ofSame' st.box ((s1.trans s2).trans s3)))
  ·rw [Ex.toW,exWs,exWs,exWs,Ex.toW,Ex.toW]
   exact RW.three zh (.txt _) (RW.pair ((s2.trans s3) _ _ zh) (.txt _) (.txt _)) (RW.pair (s3 _ _ zh) (.txt _) (.txt _))
  ·rw [Wf,Wfs,Wfs,Wfs,Wf,Wf]
   exact ⟨by show 2<=8; decide,rfl,zgF (by omega) d1,zgF (by omega) d2,trivial⟩
  ·rw [Ex.high,highs,highs,highs,Ex.high,Ex.high,Ex.lks,lkss,lkss,lkss,Ex.lks,Ex.lks]; decide
 ·refine ⟨_,rfl,zl2,fun p1 hp1=>?_⟩
  have s1:=Same.new (o:=.tup [.str "lit",.str z]) hp1
  refine q _ (.lit (.txt z)) _ ?_ ⟨fun sc=>?_,?_⟩ (st.trans (Step.ofSame' st.box s1))
  ·rw [Ex.toW]
   exact RW.pair zh (.txt _) (.txt _)
  ·rw [Wf]
   exact zgF (by omega) zs
  ·rw [Ex.high,Ex.lks]; decide
def zjf:Sp:=fun vs H Q _=>∃ (b l:Addr) (names:List Str),vs = [.ref b,.ref l]/\zP H b/\H l = some (.lst (names.map V.str))/\l≠b/\NmOk names/\∀ (v:V) (x:Ex) (H':Hp),RW H' v x.toW->Rok x 6 11->Step b H H'->Q v H'
theorem gd2:Gd (.num 2):=⟨⟨by decide,by decide⟩,Nat.zero_le _⟩
def znP (K:PySem.W.Frag) (xs:List V) (H:Hp) (Q:VK):Prop:=∃ x n,xs = [x]/\LenV K x H n/\Q (.int n) H
def lk (x:Ex):W:=(Ex.lookE x).toW
theorem zkk {x:Ex} (h:Rok x 2 0) (sc:List Str):Wf (.lookE x) sc:=by rw [Wf]; exact h.wf sc
theorem zkl {x:Ex} (h:Rok x 2 0):(Ex.lookE x).high<=3/\(Ex.lookE x).lks<=1:=by rw [Ex.high,Ex.lks]; have:=h.hi; omega
theorem znr (x:W):(Ex.lit x).high = 1/\(Ex.lit x).lks = 0:=by rw [Ex.high,Ex.lks]; exact ⟨rfl,rfl⟩
theorem zns {x:W} (h:Gd x) (sc:List Str):Wf (.lit x) sc:=by rw [Wf]; exact h
theorem znt:∀ X:List Ex,exWs (X.map .lookE) = X.map lk
 | []=>by rw [List.map_nil,exWs]; rfl
 | x :: X=>by rw [List.map_cons,exWs,znt X]; rfl
theorem znu {X:List Ex} (h:∀ x∈X,Rok x 2 0) (sc:List Str):Wfs (X.map .lookE) sc:=by
 induction X with
 | nil=>rw [List.map_nil,Wfs]; trivial
 | cons x X ih=>
  rw [List.map_cons,Wfs]
  exact ⟨zkk (h x List.mem_cons_self) sc,ih fun y hy=>h y (List.mem_cons_of_mem _ hy)⟩
theorem znv {X:List Ex} (h:∀ x∈X,Rok x 2 0):highs (X.map .lookE)<=3/\lkss (X.map .lookE)<=X.length:=by
 induction X with
 | nil=>rw [List.map_nil,highs,lkss]; exact ⟨Nat.zero_le _,Nat.zero_le _⟩
 | cons x X ih=>
  rw [List.map_cons,highs,lkss,List.length_cons]
  have h1:=zkl (h x List.mem_cons_self)
  have h2:=ih fun y hy=>h y (List.mem_cons_of_mem _ hy)
  omega
theorem zmd {ss:List Str} (hl:ss.length<=60) (h:∀ z∈ss,z.length<=400/\Signs z):Gd (.lst (ss.map W.txt)):=by
 have o:Oks (ss.map W.txt)/\depths (ss.map W.txt) = 0:=by
  clear hl
  induction ss with
  | nil=>exact ⟨trivial,rfl⟩
  | cons x r ih=>
   obtain ⟨i1,i2⟩:=ih fun z hz=>h z (List.mem_cons_of_mem _ hz)
   refine ⟨⟨h x List.mem_cons_self,i1⟩,?_⟩
   rw [List.map_cons,depths,i2,W.depth]; rfl
 refine ⟨⟨by rw [List.length_map]; exact hl,o.1⟩,?_⟩
 show 1 + depths (ss.map W.txt)<=12
 omega
theorem zaC:FnScope ["_law_box_here","_law_names_here","_law_looks","_law_plain_one","_law_turn","_law_some","_law_name"] ["_law_box_here","_law_names_here"] (zn zdT):=mkSc rfl (by decide +kernel)
theorem zjg (F:Fun K "_law_sound" "_law_sound" zdT f fd) (G_ltake:Have P w K mg base "_law_take" k ["_law_box_here","_law_wide"] (Z7)) (G_lworth:Have P w K mg base "_law_worth" k ["_law_box_here","_law_room","_law_deep"] (zbS 13)) (G_lnamed:Have P w K mg base "_law_named" k ["_law_box_here","_law_names_here"] (zjd)) (m_len:mg "len" = none) (m_range:mg "range" = none) (m_tuple:mg "tuple" = none):FnOk P w K mg base CX0 (k + 1) f fd ["_law_box_here","_law_names_here"] (zjf):=by
 refine F.okQ zaC (by rintro _ _ _ _ ⟨_,_,_,rfl,_⟩; rfl) fun cdv A outer s H vs Q E hr h=>?_
 obtain ⟨b,l,names,rfl,hb,hl,hlb,hnm,q⟩:=h
 have hpos:0 < names.length:=List.length_pos_iff.mpr hnm.1
 have hn4:=hnm.2.1
 refine ⟨_,(zi (zJ (zB (zkY (Nat.lt_of_le_of_lt (Nat.le_add_right _ 64) hr.units)) (pv 1) (zL zd) (nomark _)) (zl (zq (zA (zc zo (zc (zt G_lworth hr rfl (zc (pv 0) (zc zj (zc zj zd)))) zd))))) zx)
  (zi (zd3 (i:=2) [0,1] ["_law_box_here","_law_names_here"] rfl rfl (by decide +kernel) rfl (by decide +kernel) rfl (by decide +kernel) ⟨rfl,rfl,trivial⟩ rfl ⟨⟨rfl,rfl,Or.inr (Or.inl rfl),(by show (some NameKind.cell:Option NameKind)≠some .local; decide),⟨_,rfl⟩⟩,⟨rfl,rfl,Or.inr (Or.inl rfl),(by show (some NameKind.cell:Option NameKind)≠some .local; decide),⟨_,rfl⟩⟩,trivial⟩ (Zq rfl m_range (zc zj zd)) (fun C s H fp=>⟨Zn,(zA (zc zo (zc (zt G_lnamed hr rfl (zc (pv 1) (zc (pv 2) zd))) zd)))⟩) zaC.nd rfl (Or.inl rfl))
  (zi (zw (i:=3) zaC.nd rfl (Or.inl rfl) (zA (zc zo (zc (zt G_lworth hr rfl (zc (pv 0) (zc zj (zc zj zd)))) zd))))
  (zi (zw (i:=4) zaC.nd rfl (Or.inl rfl) (zt G_ltake hr rfl (zc (pv 0) (zc zj zd))))
  (zi (zJ (zB Za (pv 4) zj (nomark _)) (zl (zq (zD zy (pv 2) zj (fun _ _=>rfl)))) zx)
  (zi (zJ (zB Za (pv 4) zj (nomark _)) (zl (zq (zA (zc zo (zc (zA (zc zo (zc (zD zy (pv 2) zj (fun _ _=>rfl)) (zc (zD zy (pv 2) zj (fun _ _=>rfl)) zd)))) (zc (pv 3) zd)))))) zx)
  (zi (zJ (zB Za (pv 4) zj (nomark _)) (zl (zq (zF zcy (zA (zc zo zd)) (zE zN rfl m_tuple zI (zc (ZX zfr (pv 2) zaF (zag (zt G_ltake hr rfl (zc (pv 0) (zc zj zd))))) zd))))) zx)
  (zi (zJ (zB Za (pv 4) zj (nomark _)) (zl (zq (zA (zc zo (zc (zD zy (pv 2) zj (fun _ _=>rfl)) (zc (zD zy (pv 2) zj (fun _ _=>rfl)) (zc (zD zy (pv 2) zj (fun _ _=>rfl)) zd))))))) zx)
  (zi (zJ (zB Za (pv 4) zj (nomark _)) (zi (zw (i:=5) zaC.nd rfl (Or.inl rfl) (zE zN rfl m_tuple zI (zc (Zx [1,0] ["_law_names_here","_law_box_here"] rfl rfl (by decide +kernel) rfl (by decide +kernel) rfl (by decide +kernel) ⟨rfl,rfl,trivial⟩ rfl ⟨⟨rfl,rfl,Or.inr (Or.inl rfl),(by show (some NameKind.cell:Option NameKind)≠some .local; decide),⟨_,rfl⟩⟩,⟨rfl,rfl,Or.inr (Or.inl rfl),(by show (some NameKind.cell:Option NameKind)≠some .local; decide),⟨_,rfl⟩⟩,trivial⟩ (Zq rfl m_range (zc (zt G_ltake hr rfl (zc (pv 0) (zc zj zd))) zd)) (fun C s H fp=>⟨Zn,(zD (show IxR _ (rIxL K) from zy) (pv 1) (zt G_ltake hr rfl (zc (pv 2) (zc (zu (show zaE _ (.builtin "len") (znP K) from zM) rfl m_len PySem.boot_len (zc (pv 1) zd)) zd))) (fun _ _=>rfl))⟩)) zd)))
  (zl (zq (zA (zc zo (zc zo (zc (zA (zc zo (zc (pv 5) zd))) (zc (zA (zc zo (zc (zA (zc zo (zc (zA (zc zo (zc zo zd))) zd))) (zc (pv 3) zd)))) zd)))))))) zx)
  (zi (zJ (zB Za (pv 4) zj (nomark _)) (zi (zw (i:=6) zaC.nd rfl (Or.inl rfl) (zD zy (pv 1) (zt G_ltake hr rfl (zc (pv 0) (zc (zu zM rfl m_len PySem.boot_len (zc (pv 1) zd)) zd))) (fun _ _=>rfl)))
  (zl (zq (zA (zc zo (zc (zA (zc zo (zc (zA (zc zo (zc (ZX zfz (pv 6) zaF (zag (zdd zbZ zj))) zd))) (zc (zA (zc zo (zc (zD zy (pv 2) zj (fun _ _=>rfl)) zd))) zd)))) zd)))))) zx)
  (zi (zJ (zB Za (pv 4) zj (nomark _)) (zl (zq (zA (zc zo (zc (zA (zc zo (zc (zD zy (pv 2) zj (fun _ _=>rfl)) (zc (zA (zc zo (zc (zD zy (pv 2) zj (fun _ _=>rfl)) zd))) (zc (zD zy (pv 2) zj (fun _ _=>rfl)) zd))))) (zc (zA (zc zo (zc (zD zy (pv 2) zj (fun _ _=>rfl)) (zc (pv 3) zd)))) zd)))))) zx)
  (zi (zJ (zB Za (pv 4) zj (nomark _)) (zl (zq (zA (zc zo (zc zo (zc (zA (zc zo (zc (zD zy (pv 2) zj (fun _ _=>rfl)) (zc (zA (zc zo (zc zj zd))) zd)))) (zc (zA (zc zo (zc (zA (zc zo (zc (zA (zc zo (zc zo zd))) (zc (zD zy (pv 2) zj (fun _ _=>rfl)) zd)))) (zc (zA (zc zo (zc zo zd))) zd)))) zd))))))) zx)
  (zl (zq (zA (zc (zD zy (zL (zc zo (zc zo (zc zo (zc zo zd))))) (zt G_ltake hr rfl (zc (pv 0) (zc zj zd))) (fun _ _=>rfl)) (zc (zD zy (pv 2) zj (fun _ _=>rfl)) (zc (zA (zc zo (zc (zt G_ltake hr rfl (zc (pv 0) (zc zj zd))) zd))) zd)))))))))))))))))),?_⟩
 refine ⟨_,rfl,zl0,fun e0 he0=>?_⟩
 have s0:=Same.new (o:=.lst []) he0
 have st0:=Step.ofSame' hb s0
 refine ⟨l,e0,names.map V.str,rfl,rfl,SqL.of (s0 _ _ hl),SqL.of zh,_,rfl,?_⟩
 have e1:(names.map V.str).isEmpty = false:=by
  cases names with
  | nil=>exact absurd rfl hnm.1
  | cons x r=>rfl
 rw [e1]
 have hl0:=s0 _ _ hl
 generalize upd H e0 (.lst []) = H0 at s0 st0 hl0
 refine iteF ⟨3,rfl,by omega,by omega,zek (n:=3) (fun i us H'=>∃ xs:List Ex,xs.length = i/\RWs H' us (xs.map lk)/\(∀ x∈xs,Rok x 2 0)/\Step b H H') ⟨[],rfl,⟨rfl,fun i v w e=>by simp at e⟩,(fun s h=>nomatch h),st0⟩ (fun i us H' h=>?_) (by decide) (fun i us H' R hi h r=>?_) (fun us H1 D h hD=>?_)⟩
 ·obtain ⟨xs,hxl,hw,_⟩:=h
  rw [hw.len,List.length_map]
  exact hxl
 ·obtain ⟨xs,hxl,hw,hok,st⟩:=h
  refine ⟨_,rfl,_,rfl,b,l,names,rfl,st.box,st.keep _ _ hlb hl,hlb,hnm,fun v x H3 rv rok st4=>⟨zl2,fun p hp=>?_⟩⟩
  have s5:=Same.new (o:=.tup [.str "look",v]) hp
  have st5:=(st.trans st4).trans (Step.ofSame' st4.box s5)
  refine r _ _ ⟨xs ++ [x],by rw [List.length_append,hxl]; rfl,?_,fun y hy=>?_,st5⟩
  ·rw [List.map_append]
   refine (hw.mono (fun a vs e=>s5 _ _ (st4.tups st.box a vs e))).snoc ?_
   show RW _ _ (lk x)
   unfold lk
   rw [Ex.toW]
   exact RW.pair zh (.txt _) (rv.mono (zC s5))
  ·rcases List.mem_append.mp hy with hy | hy
   ·exact hok y hy
   ·rw [List.mem_singleton.mp hy]; exact rok
 obtain ⟨xs,hxl,hw1,hok,st1⟩:=h
 have t1:=Same.new (o:=.lst us) hD
 have eD:upd H1 D (.lst us) D = some (.lst us):=zh
 have st2:=st1.trans (Step.ofSame' st1.box t1)
 have nDb:D≠b:=zP.ne st1.box hD
 have hw2:=hw1.mono (zC t1)
 generalize upd H1 D (.lst us) = H2 at eD st2 hw2
 dsimp only [ZD]
 refine ⟨_,rfl,b,6,3,rfl,st2.box,by decide,by decide,by decide,by decide,fun vw pw H3 rx okx dx sx st3=>⟨zl2,fun pp hpp=>?_⟩⟩
 have t3:=Same.new (o:=.tup [.str "lit",vw]) hpp
 have rP:RW (upd H3 pp (.tup [.str "lit",vw])) (.ref pp) (.lst [.txt "lit",pw]):=RW.pair zh (.txt _) (rx.mono (zC t3))
 have gP:Gd pw:=⟨okx,by omega⟩
 have st4:=(st2.trans st3).trans (Step.ofSame' st3.box t3)
 have eD4:=t3 _ _ (st3.keep _ _ nDb eD)
 have hw4:=hw2.mono (fun a vs e=>t3 _ _ (st3.tups st2.box a vs e))
 generalize upd H3 pp (.tup [.str "lit",vw]) = H4 at rP st4 eD4 hw4
 refine ⟨_,rfl,b,9,rfl,st4.box,by decide,by decide,fun t H5 t0 t1 st5=>?_⟩
 have stA:=st4.trans st5
 have eD5:=st5.keep _ _ nDb eD4
 have hw5:=hw4.mono (st5.tups st4.box)
 have rP5:=rP.mono (st5.tups st4.box)
 have hl5:=stA.keep _ _ hlb hl
 obtain ⟨x0,x1,x2,rfl⟩:∃ a b c,xs = [a,b,c]:=match xs,hxl with | [a,b,c],_=>⟨a,b,c,rfl⟩
 obtain ⟨v0,us,rfl,r0,hw5⟩:=hw5.cons
 obtain ⟨v1,us,rfl,r1,hw5⟩:=hw5.cons
 obtain ⟨v2,us,rfl,r2,hw5⟩:=hw5.cons
 obtain rfl:=hw5.nil'
 have k0:=hok x0 (by simp)
 have k1:=hok x1 (by simp)
 have k2:=hok x2 (by simp)
 clear hok hw4 rP hw2 hw1 eD4 eD st5 st4 st3 st2 st1 t3 rx
 have fin:∀ (X:Ex) {te:TE}{σ:St}{w:W},YW te σ H5 w->w = X.toW->Rok X 6 11->te σ H5 Q:=fun X te σ w hy hw rk=>hy.run fun v H6 s6 r6=>q v X H6 (by rw [← hw]; exact r6) rk (stA.trans (Step.ofSame' stA.box s6))
 have w0:=zkk k0
 have w1:=zkk k1
 have w2:=zkk k2
 have g0:=zkl k0
 have g1:=zkl k1
 have g2:=zkl k2
 have gp:=znr pw
 have wp:=zns gP
 refine ⟨_,rfl,rfl,_,rfl,ite2 (fun _=>?_) (fun _=>?_)⟩
 ·exact fin (.lookE x0) (zaB (j:=0) rfl eD5 rfl r0) rfl ⟨w0,by omega⟩
 refine ⟨_,rfl,rfl,_,rfl,ite2 (fun _=>?_) (fun _=>?_)⟩
 ·exact fin (.elseE (.reck .add [.lookE x0,.lookE x1]) (.lit pw)) (yw2 (yw2 (zaB (j:=0) rfl eD5 rfl r0) (zaB (j:=1) rfl eD5 rfl r1)) (zgE rfl rP5)) (by simp only [Ex.toW,exWs,wdS,lk]) ⟨fun sc=>by simp only [Wf,Wfs]; exact ⟨⟨by show 2<=8; decide,rfl,w0 sc,w1 sc,trivial⟩,wp sc⟩,by simp only [Ex.high,highs,Ex.lks,lkss] at *; omega⟩
 refine ⟨_,rfl,rfl,_,rfl,ite2 (fun _=>?_) (fun _=>?_)⟩
 ·refine ⟨zl1,fun pT hpT=>?_⟩
  have t6:=Same.new (o:=.tup [.str "list"]) hpT
  have eT:upd H5 pT (.tup [.str "list"]) pT = some (.tup [.str "list"]):=zh
  have nTb:pT≠b:=zP.ne stA.box hpT
  have st6:=Step.ofSame' stA.box t6
  generalize upd H5 pT (.tup [.str "list"]) = H6 at t6 eT st6
  refine ⟨_,rfl,_,rfl,b,4,rfl,st6.box,by decide,by decide,fun m H7 m0 m1 st7=>⟨m,rfl,?_⟩⟩
  have hw7:∀ {v:V}{w:W},RW H5 v w->RW H7 v w:=fun r=>r.mono (fun a vs e=>st7.tups st6.box a vs (t6 _ _ e))
  obtain ⟨X,hX,hXl,hXr⟩:∃ X:List Ex,RWs H7 (cutV [v0,v1,v2] none (some m)) (X.map lk)/\X.length<=3/\∀ x∈X,Rok x 2 0:=by
   have nn:RWs H7 [] []:=⟨rfl,fun i v w e=>by simp at e⟩
   have hm:m = 0\/m = 1\/m = 2\/m = 3:=by omega
   rcases hm with rfl | rfl | rfl | rfl
   ·exact ⟨[],nn,by decide,fun x h=>nomatch h⟩
   ·exact ⟨[x0],nn.snoc (hw7 r0),by show 1<=3; decide,fun x h=>by rw [List.mem_singleton.mp h]; exact k0⟩
   ·exact ⟨[x0,x1],(nn.snoc (hw7 r0)).snoc (hw7 r1),by show 2<=3; decide,fun x h=>by simp at h; rcases h with rfl | rfl; exact k0; exact k1⟩
   ·exact ⟨[x0,x1,x2],((nn.snoc (hw7 r0)).snoc (hw7 r1)).snoc (hw7 r2),by show 3<=3; decide,fun x h=>by simp at h; rcases h with rfl | rfl | rfl; exact k0; exact k1; exact k2⟩
  have eD7:=st7.keep _ _ nDb (t6 _ _ eD5)
  have eT7:=st7.keep _ _ nTb eT
  have stB:=(stA.trans st6).trans st7
  have hcl:(cutV [v0,v1,v2] none (some m)).length<=3:=by rw [hX.len,List.length_map]; exact hXl
  have rokX:Rok (.reck .list (X.map .lookE)) 6 11:=⟨fun sc=>by rw [Wf,List.length_map]; exact ⟨by omega,trivial,znu hXr sc⟩,by rw [Ex.high,Ex.lks]; have:=znv hXr; omega⟩
  have eX:(Ex.reck .list (X.map .lookE)).toW = .lst (.txt "list" :: X.map lk):=by rw [Ex.toW,znt]; rfl
  refine ⟨D,_,rfl,SqL.of eD7,fun ps hps=>⟨ps,_,rfl,.inl ⟨SqL.of zh,fun pt hpt=>?_⟩⟩⟩
  have s8:=Same.new (o:=.lst (cutV [v0,v1,v2] none (some m))) hps
  have s9:=Same.new (o:=.tup (cutV [v0,v1,v2] none (some m))) hpt
  have s89:=s8.trans s9
  refine ⟨pT,pt,_,_,rfl,rfl,SqT.of (s89 _ _ eT7),SqT.of zh,by simp,?_,fun hn=>?_,fun hn p hp=>?_⟩
  ·exact Nat.le_trans (show 1 + (cutV [v0,v1,v2] none (some m)).length<=4 by omega) (by decide)
  ·have hX0:X = []:=by
    have:=hX.len
    rw [hn,List.length_map] at this
    exact List.length_eq_zero_iff.mp this.symm
   subst hX0
   refine q _ _ _ ?_ rokX (stB.trans (Step.ofSame' stB.box s89))
   rw [eX]
   exact .lst (s89 _ _ eT7) rfl fun i v w hv hw=>match i,hv,hw with
    | 0,hv,hw=>by
     obtain rfl:V.str "list" = v:=by simpa using hv
     obtain rfl:W.txt "list" = w:=by simpa using hw
     exact .txt _
    | j + 1,hv,hw=>by simp at hv
  ·have s10:=Same.new (o:=.tup ([V.str "list"] ++ cutV [v0,v1,v2] none (some m))) hp
   refine q _ _ _ ?_ rokX (stB.trans (Step.ofSame' stB.box (s89.trans s10)))
   rw [eX]
   refine .lst zh (by simp [hX.len]) fun i v w hv hw=>?_
   match i,hv,hw with
   | 0,hv,hw=>
    obtain rfl:V.str "list" = v:=by simpa using hv
    obtain rfl:W.txt "list" = w:=by simpa using hw
    exact .txt _
   | j + 1,hv,hw=>exact (hX.at' j v w (by simpa using hv) (by simpa using hw)).mono (zC (s89.trans s10))
 refine ⟨_,rfl,rfl,_,rfl,ite2 (fun _=>?_) (fun _=>?_)⟩
 ·exact fin (.ifE (.lookE x0) (.lookE x1) (.lookE x2)) (yw3 (zaB (j:=0) rfl eD5 rfl r0) (zaB (j:=1) rfl eD5 rfl r1) (zaB (j:=2) rfl eD5 rfl r2)) (by simp only [Ex.toW,lk]) ⟨fun sc=>by rw [Wf]; exact ⟨w0 sc,w1 sc,w2 sc⟩,by simp only [Ex.high,highs,Ex.lks,lkss] at *; omega⟩
 refine ⟨_,rfl,rfl,_,rfl,ite2 (fun _=>?_) (fun _=>?_)⟩
 ·refine ⟨_,rfl,b,4,rfl,stA.box,by decide,by decide,fun m H6 m0 m1 st6=>?_⟩
  refine ⟨m,rfl,by omega,by omega,zek (n:=m) (fun i us H'=>∃ ss:List Str,us = ss.map V.str/\ss.length = i/\(∀ z∈ss,z∈names)/\Step b H5 H') ⟨[],rfl,rfl,(fun s h=>nomatch h),st6⟩ (fun i us H' h=>?_) (by omega) (fun i us H' R hi h r=>?_) (fun us H7 D2 h hD2=>?_)⟩
  ·obtain ⟨ss,rfl,hsl,_⟩:=h
   rw [List.length_map]
   exact hsl
  ·obtain ⟨ss,rfl,hsl,hsn,st⟩:=h
   have hl':=st.keep _ _ hlb hl5
   refine ⟨_,rfl,_,rfl,_,rfl,_,_,rfl,.inl ⟨_,SqL.of hl',rfl⟩,b,_,rfl,st.box,by rw [List.length_map]; omega,by rw [List.length_map]; omega,fun n H8 n0 n1 st8=>?_⟩
   rw [List.length_map] at n1
   obtain ⟨z,hzm,hat⟩:=zbF n0 n1
   refine ⟨l,_,n,_,rfl,rfl,SqL.of (st8.keep l _ hlb hl'),hat,r _ _ ⟨ss ++ [z],by simp,by simp [hsl],fun y hy=>?_,st.trans st8⟩⟩
   rcases List.mem_append.mp hy with hy | hy
   ·exact hsn y hy
   ·rw [List.mem_singleton.mp hy]; exact hzm
  obtain ⟨ss,rfl,hsl,hsn,st7⟩:=h
  refine ⟨D2,_,rfl,.inl ⟨SqL.of zh,fun pt hpt=>?_⟩⟩
  have s8:=Same.new (o:=.lst (ss.map V.str)) hD2
  have s9:=Same.new (o:=.tup (ss.map V.str)) hpt
  have s89:=s8.trans s9
  have rS:RW (upd (upd H7 D2 (.lst (ss.map V.str))) pt (.tup (ss.map V.str))) (.ref pt) (.lst (ss.map W.txt)):=.lst zh (by simp) fun i v w hv hw=>by
   rw [List.getElem?_map] at hv hw
   obtain ⟨y,hy,rfl⟩:=Option.map_eq_some_iff.mp hv
   rw [hy] at hw
   cases hw
   exact .txt _
  have rP9:=rP5.mono (fun a vs e=>s89 _ _ (st7.tups stA.box a vs e))
  have stB:=(stA.trans st7).trans (Step.ofSame' st7.box s89)
  generalize upd (upd H7 D2 (.lst (ss.map V.str))) pt (.tup (ss.map V.str)) = H9 at rS rP9 stB
  have gS:Gd (.lst (ss.map W.txt)):=zmd (by omega) fun z hz=>by
   obtain ⟨y1,y10,ys⟩:=hnm.2.2 z (hsn z hz)
   exact ⟨by omega,ys⟩
  dsimp only [ZD]
  refine YW.run (w:=.lst [.txt "each",.txt "x",.lst [.txt "lit",.lst (ss.map W.txt)],.lst [.txt "else",.lst [.txt "look",.lst [.txt "var",.txt "x"]],.lst [.txt "lit",pw]]]) (yw3 zb4 (yw1 (zgE rfl rS)) (yw2 (yw1 (yw1 zb4)) (zgE rfl rP9))) fun v H10 s10 r10=>q v (.eachE "x" (.lit (.lst (ss.map W.txt))) (.elseE (.lookE (.var "x")) (.lit pw))) H10 (by simp only [Ex.toW]; exact r10) ⟨fun sc=>by simp only [Wf]; exact ⟨gS,by simp,gP⟩,by simp only [Ex.high,Ex.lks] at *; omega⟩ (stB.trans (Step.ofSame' stB.box s10))
 refine ⟨_,rfl,rfl,_,rfl,ite2 (fun _=>?_) (fun _=>?_)⟩
 ·refine ⟨_,rfl,_,rfl,_,rfl,_,_,rfl,.inl ⟨_,SqL.of hl5,rfl⟩,b,_,rfl,stA.box,by rw [List.length_map]; omega,by rw [List.length_map]; omega,fun n H6 n0 n1 st6=>?_⟩
  rw [List.length_map] at n1
  obtain ⟨z,hzm,hat⟩:=zbF n0 n1
  obtain ⟨z1,z10,zs⟩:=hnm.2.2 z hzm
  refine ⟨l,_,n,_,rfl,rfl,SqL.of (st6.keep l _ hlb hl5),hat,?_⟩
  dsimp only [ZD]
  have eD6:=st6.keep _ _ nDb eD5
  have r06:=r0.mono (st6.tups stA.box)
  refine ⟨_,rfl,_,rfl,_,rfl,z,rfl,by omega,fun r h1 g1=>⟨zl2,fun p1 hp1=>?_⟩⟩
  have s7:=Same.new (o:=.tup [.str "lit",.str r]) hp1
  have e7:upd H6 p1 (.tup [.str "lit",.str r]) p1 = some (.tup [.str "lit",.str r]):=zh
  have st7:=(stA.trans st6).trans (Step.ofSame' st6.box s7)
  generalize upd H6 p1 (.tup [.str "lit",.str r]) = H7 at s7 e7 st7
  refine YW.run (w:=.lst [.txt "figures",lk x0]) (yw1 (zaB (j:=0) rfl (s7 _ _ eD6) rfl (r06.mono (zC s7)))) fun v H8 s8 r8=>⟨zl3,fun p2 hp2=>⟨zl2,fun p3 hp3=>?_⟩⟩
  have s9:=Same.new (o:=.tup [.str "join",.ref p1,v]) hp2
  have s10:=Same.new (o:=.tup [.str "look",.ref p2]) hp3
  have dr:Signs r:=fun c hc=>zs c (g1 c hc)
  refine q _ (.lookE (.reck .join [.lit (.txt r),.reck .figs [.lookE x0]])) _ ?_ ⟨fun sc=>?_,?_⟩ (st7.trans (Step.ofSame' st7.box ((s8.trans s9).trans s10)))
  ·simp only [Ex.toW,exWs,wdS]
   refine RW.pair zh (.txt _) (RW.three (s10 _ _ zh) (.txt _) (RW.pair ((s9.trans s10) _ _ (s8 _ _ e7)) (.txt _) (.txt _)) ?_)
   have:=r8.mono (zC (s9.trans s10))
   unfold lk at this
   rw [Ex.toW] at this
   exact this
  ·simp only [Wf,Wfs]
   exact ⟨by show 2<=8; decide,rfl,zgF (by omega) dr,⟨by show 1<=8; decide,rfl,w0 sc,trivial⟩,trivial⟩
  ·simp only [Ex.high,highs,Ex.lks,lkss] at *
   omega
 refine ⟨_,rfl,rfl,_,rfl,ite2 (fun _=>?_) (fun _=>?_)⟩
 ·exact fin (.elseE (.ifE (.lookE x0) (.cryE (.lookE x1)) (.lookE x2)) (.reck .list [.lookE x1,.lit pw])) (yw2 (yw3 (zaB (j:=0) rfl eD5 rfl r0) (yw1 (zaB (j:=1) rfl eD5 rfl r1)) (zaB (j:=2) rfl eD5 rfl r2)) (yw2 (zaB (j:=1) rfl eD5 rfl r1) (zgE rfl rP5))) (by simp only [Ex.toW,exWs,wdS,lk]) ⟨fun sc=>by simp only [Wf,Wfs]; exact ⟨⟨w0 sc,w1 sc,w2 sc⟩,by show 2<=8; decide,trivial,w1 sc,wp sc,trivial⟩,by simp only [Ex.high,highs,Ex.lks,lkss] at *; omega⟩
 refine ⟨_,rfl,rfl,_,rfl,ite2 (fun _=>?_) (fun _=>?_)⟩
 ·exact fin (.letE "y" (.elseE (.lookE x0) (.lit (.num 2))) (.reck .list [.reck .same [.var "y",.lookE x1],.var "y"])) (yw3 zb4 (yw2 (zaB (j:=0) rfl eD5 rfl r0) (yw1 znp)) (yw2 (yw2 (yw1 zb4) (zaB (j:=1) rfl eD5 rfl r1)) (yw1 zb4))) (by simp only [Ex.toW,exWs,wdS,lk]) ⟨fun sc=>by simp only [Wf,Wfs]; exact ⟨⟨w0 sc,gd2⟩,by show 2<=8; decide,trivial,⟨by show 2<=8; decide,rfl,by simp,w1 _,trivial⟩,by simp,trivial⟩,by simp only [Ex.high,highs,Ex.lks,lkss] at *; omega⟩
 refine ⟨zl4,fun lw hlw=>?_⟩
 have s6:=Same.new (o:=.lst [.str "+",.str "-",.str "*",.str "less"]) hlw
 have e6:upd H5 lw (.lst [.str "+",.str "-",.str "*",.str "less"]) lw = some (.lst [.str "+",.str "-",.str "*",.str "less"]):=zh
 have nwb:lw≠b:=zP.ne stA.box hlw
 have st6:=Step.ofSame' stA.box s6
 generalize upd H5 lw (.lst [.str "+",.str "-",.str "*",.str "less"]) = H6 at s6 e6 st6
 refine ⟨_,rfl,b,4,rfl,st6.box,by decide,by decide,fun m H7 m0 m1 st7=>?_⟩
 obtain ⟨d,hat,har⟩:∃ d:Wd,atI [V.str "+",.str "-",.str "*",.str "less"] m = some (.str (wdS d))/\arity d 2:=by
  have hm:m = 0\/m = 1\/m = 2\/m = 3:=by omega
  rcases hm with rfl | rfl | rfl | rfl
  ·exact ⟨.add,zG (j:=0) rfl,rfl⟩
  ·exact ⟨.sub,zG (j:=1) rfl,rfl⟩
  ·exact ⟨.mul,zG (j:=2) rfl,rfl⟩
  ·exact ⟨.less,zG (j:=3) rfl,rfl⟩
 have st67:=st6.trans st7
 have r07:=r0.mono (st67.tups stA.box)
 refine ⟨lw,_,m,_,rfl,rfl,SqL.of (st7.keep _ _ nwb e6),hat,_,rfl,D,_,_,v0,rfl,rfl,SqL.of (st67.keep _ _ nDb eD5),zG (j:=0) rfl,_,rfl,b,9,rfl,st67.box,by decide,by decide,fun j H8 j0 j1 st8=>⟨zl2,fun p1 hp1=>⟨zl3,fun p2 hp2=>?_⟩⟩⟩
 have s9:=Same.new (o:=.tup [.str "lit",.int j]) hp1
 have s10:=Same.new (o:=.tup [.str (wdS d),v0,.ref p1]) hp2
 have stB:=(stA.trans st67).trans st8
 have h60:(10:Int) ^ 60 > 1000:=by decide
 have gj:Gd (.num j):=⟨⟨by omega,by omega⟩,Nat.zero_le _⟩
 refine q _ (.reck d [.lookE x0,.lit (.num j)]) _ ?_ ⟨fun sc=>?_,?_⟩ (stB.trans (Step.ofSame' stB.box (s9.trans s10)))
 ·have:=r07.mono (fun a vs e=>(s9.trans s10) _ _ (st8.tups st67.box a vs e))
  rw [Ex.toW,exWs,exWs,exWs,Ex.toW.eq_def (.lit (.num j))]
  exact RW.three zh (.txt _) this (RW.pair (s10 _ _ zh) (.txt _) (.num _))
 ·simp only [Wf,Wfs]
  exact ⟨by show 2<=8; decide,har,w0 sc,gj,trivial⟩
 ·simp only [Ex.high,highs,Ex.lks,lkss] at *
  omega
def zjh:Sp:=fun vs H Q _=>∃ (b l:Addr) (names:List Str),vs = [.ref b,.ref l]/\zP H b/\H l = some (.lst (names.map V.str))/\l≠b/\NmOk names/\∀ (v:V) (x:Ex) (H':Hp),RW H' v x.toW->Wf x []->(x.high<=14/\x.lks<=20)->Step b H H'->Q v H'
theorem zme {K:PySem.W.Frag}{H:Hp}{v:V}:∀ {r:Res},r≠.stop->RW H v r.toW->RRes K H v r
 | .made x,_,h=>by
  obtain ⟨p,vs,rfl,e,hw⟩:=RW.ref_tup h
  obtain ⟨q,us,rfl,rq,hw⟩:=hw.cons
  obtain ⟨r,us,rfl,rr,hw⟩:=hw.cons
  obtain rfl:=hw.nil'
  obtain rfl:=rq.str
  exact ⟨p,r,rfl,SqT.of e,rr⟩
 | .wrong ws,_,h=>RW.toRS h
 | .stop,n,_=>absurd rfl n
theorem eg0:EG [] e0:=fun s hs=>nomatch hs
structure Fo (H:Hp) (us:List V) (fs:List Res):Prop where
 rs:RWs H us (fs.map Res.toW)
 ok:∀ r∈fs,ROk r
 ns:∀ r∈fs,r≠Res.stop
 few:fs.length<=24
theorem Fo.len {H:Hp}{us:List V}{fs:List Res} (h:Fo H us fs):us.length = fs.length:=by rw [h.rs.len,List.length_map]
theorem Fo.mono {H H':Hp}{us:List V}{fs:List Res} (h:Fo H us fs) (t:Tups H H'):Fo H' us fs:=⟨h.rs.mono t,h.ok,h.ns,h.few⟩
theorem Fo.res {K:PySem.W.Frag}{H:Hp}{us:List V}{fs:List Res} (h:Fo H us fs):∀ (i:Nat) (v:V) (r:Res),us[i]? = some v->fs[i]? = some r->RRes K H v r:=fun i v r hv hr=>zme (h.ns r (List.mem_of_getElem? hr)) (h.rs.at' i v _ hv (by rw [List.getElem?_map,hr]; rfl))
theorem Fo.fine {H:Hp}{us:List V}{fs:List Res} (h:Fo H us fs) {x:Ex} (hw:Wf x []):Fine fs x e0 []:=(Z3 h.ns h.ok (by have:=h.few; omega) x [] e0 [] hw eg0 (Nat.zero_le _)).1
theorem Fo.cs {H:Hp}{us:List V}{fs:List Res} (h:Fo H us fs) (x:Ex):Cs stR (fun fs ns=>ev fs x e0 ns) fs []:=csE h.ns x e0 [] (Nat.zero_le _)
structure PO (K:PySem.W.Frag) (H:Hp) (p:Addr) (u rv:V) (us:List V) (fs:List Res) (x:Ex):Prop where
 ru:RW H u x.toW
 wf:Wf x []
 hi:x.high<=14
 fo:Fo H us fs
 nst:(ev fs x e0 []).1.res≠.stop
 nl:(ev fs x e0 []).2.length = fs.length
 pp:Pp H p u ((ev fs x e0 []).2.map V.str) us rv
 rr:RR K H rv (ev fs x e0 []).1
def zf4 (K:PySem.W.Frag):Sp:=fun vs H Q _=>∃ (b l0:Addr) (u:V) (x:Ex) (us0:List V) (fs0:List Res),vs = [.ref b,u,.ref l0]/\zP H b/\RW H u x.toW/\Wf x []/\(x.high<=14/\x.lks<=20)/\H l0 = some (.lst us0)/\l0≠b/\Fo H us0 fs0/\((ev fs0 x e0 []).1.res≠.stop->(ev fs0 x e0 []).2.length = fs0.length)/\∀ (p:Addr) (rv:V) (us:List V) (fs:List Res) (H':Hp),Step b H H'->PO K H' p u rv us fs x->Q (.ref p) H'
def Rp (K:PySem.W.Frag) (H:Hp) (a:Addr) (fs:List Res) (x:Ex):Prop:=
 ((ev fs x e0 []).1.res = .stop/\∃ l:Addr,H a = some (.tup [.str "look",.ref l])) \/
 ((ev fs x e0 []).1.res≠.stop/\(ev fs x e0 []).2.length = fs.length/\∃ (l:Addr) (rv:V),H a = some (.tup [.str "ended",.ref l,rv])/\H l = some (.lst ((ev fs x e0 []).2.map V.str))/\RR K H rv (ev fs x e0 []).1)
structure Lp (K:PySem.W.Frag) (G H:Hp) (b fl rp:Addr) (us:List V) (fs:List Res) (x:Ex):Prop where
 kp:∀ c o,c≠b->c≠fl->G c = some o->H c = some o
 bx:zP H b
 fl':H fl = some (.lst us)
 ne:fl≠b
 fo:Fo H us fs
 rp':Rp K H rp fs x
theorem zkm {x:Ex}{fs:List Res}{r:Res}{H:Hp}{us:List V} (h:Fo H us (fs ++ [r])) (hs:(ev fs x e0 []).1.res = .stop) (hn:(ev (fs ++ [r]) x e0 []).1.res≠.stop):(ev (fs ++ [r]) x e0 []).2.length = (fs ++ [r]).length:=by
 have cs:=h.cs x
 have h0:(ev (fs ++ [r]) x e0 []).2.length<=(fs ++ [r]).length:=cs.s0 hn
 rw [List.length_append] at h0 ⊢
 have h0:(ev (fs ++ [r]) x e0 []).2.length<=fs.length + 1:=h0
 show _ = fs.length + 1
 by_cases hle:(ev (fs ++ [r]) x e0 []).2.length<=fs.length
 ·have e:=cs.c1 fs.length (Nat.zero_le _) (by rw [List.length_append]; exact Nat.lt_succ_self _) hle
  rw [List.take_left'  rfl] at e
  have e:ev fs x e0 [] = ev (fs ++ [r]) x e0 []:=e
  rw [e] at hs
  exact absurd hs hn
 ·omega
theorem zkn:FnScope ["_law_box_here","_law_names_here"] ["_law_box_here","_law_names_here"] (zn zfx):=mkSc rfl (by decide +kernel)
theorem zko (F:Fun K "_law_rule" "_law_rule" zfx f fd) (G_lsound:Have P w K mg base "_law_sound" k ["_law_box_here","_law_names_here"] (zjf)) (G_ltake:Have P w K mg base "_law_take" k ["_law_box_here","_law_wide"] (Z7)) (G_lany:Have P w K mg base "_law_any" k ["_law_box_here","_law_scope","_law_names_here","_law_spare","_law_floors","_law_rounds"] (zhq 14)):FnOk P w K mg base CX0 (k + 1) f fd ["_law_box_here","_law_names_here"] (zjh):=by
 refine F.okQ zkn (by rintro _ _ _ _ ⟨_,_,_,rfl,_⟩; rfl) fun cdv A outer s H vs Q E hr h=>?_
 obtain ⟨b,l,names,rfl,hb,hl,hlb,hnm,q⟩:=h
 refine ⟨_,(zi (zJ (zB Za (zt G_ltake hr rfl (zc (pv 0) (zc zj zd))) zj (nomark _)) (zl (zq (zD zS (zt G_lany hr rfl (zc (pv 0) (zc (zL zd) (zc (pv 1) (zc (zF Ze zj (zt G_ltake hr rfl (zc (pv 0) (zc zj zd)))) (zc zj (zc zj zd))))))) zj (fun _ _=>rfl)))) zx)
  (zl (zq (zt G_lsound hr rfl (zc (pv 0) (zc (pv 1) zd)))))),?_⟩
 refine ⟨_,rfl,b,3,rfl,hb,by decide,by decide,fun r H1 r0 r1 st1=>⟨rfl,_,rfl,ite2 (fun _=>?_) (fun _=>?_)⟩⟩
 ·refine ⟨_,rfl,zl0,fun sc hsc=>?_⟩
  have s2:=Same.new (o:=.lst []) hsc
  have esc:upd H1 sc (.lst []) sc = some (.lst (([]:List Str).map V.str)):=zh
  have nsb:sc≠b:=zP.ne st1.box hsc
  have st2:=st1.trans (Step.ofSame' st1.box s2)
  generalize upd H1 sc (.lst []) = H2 at s2 esc st2
  refine ⟨_,rfl,_,rfl,b,18,rfl,st2.box,by decide,by decide,fun m H3 m0 m1 st3=>⟨_,_,rfl,rfl,?_⟩⟩
  have stA:=st2.trans st3
  refine ⟨b,sc,l,[],names,1 + m,12,0,rfl,stA.box,⟨stA.keep _ _ hlb hl,hlb,hnm.1,by have:=hnm.2.1; omega,fun z hz=>by have:=hnm.2.2 z hz; exact ⟨by omega,this.2.2⟩⟩,st3.keep _ _ nsb esc,nsb,by simp,by omega,by omega,by decide,by decide,rfl,fun t v rl H5 et rv fit hmany hhigh st5=>?_⟩
  obtain ⟨x1,x2,x3⟩:=zmc rl [] fit
  have x4:=zja rl [] fit
  exact ⟨t,_,0,_,rfl,rfl,SqT.of et,zG (j:=0) rfl,q v rl.ex H5 (by rw [x1]; exact rv) x2 (by omega) (stA.trans st5)⟩
 ·exact ⟨_,rfl,_,rfl,b,l,names,rfl,st1.box,st1.keep _ _ hlb hl,hlb,hnm,fun v x H2 rv rk st2=>q v x H2 rv (rk.wf []) (by have:=rk.hi; omega) (st1.trans st2)⟩
theorem zbG:FnScope ["_law_box_here","_law_rule_here","_law_founds","_law_answer"] ["_law_box_here","_law_rule_here","_law_founds"] (zn zdW):=mkSc rfl (by decide +kernel)
theorem zji (F:Fun K "_law_grown" "_law_grown" zdW f fd) (G_gone:Have P w K mg base "gone" k ["rule","founds"] (zi2 K)) (G_loutcome:Have P w K mg base "_law_outcome" k ["_law_box_here"] (znq)) (m_list:mg "list" = none) (m_tuple:mg "tuple" = none) (m_zip:mg "zip" = none):FnOk P w K mg base CX0 (k + 1) f fd ["_law_box_here","_law_rule_here","_law_founds"] (zf4 K):=by
 refine F.okQ zbG (by rintro _ _ _ _ ⟨_,_,_,_,_,_,rfl,_⟩; rfl) fun cdv A outer s H vs Q E hr h=>?_
 obtain ⟨b,l0,u,x,us0,fs0,rfl,hb,ru,wf,⟨hi,hlk⟩,el0,nlb,fo0,hl0,q⟩:=h
 refine ⟨_,(zi (zw (i:=2) zbG.nd rfl (Or.inl rfl) (zE Zr rfl m_list ZU (zc (pv 2) zd)))
  (zi (zw (i:=3) zbG.nd rfl (Or.inl rfl) (zt G_gone hr rfl (zc (pv 1) (zc (pv 2) zd))))
  (zi (zch PassesOwn.never (zB Za (zD zS (pv 3) zj (fun _ _=>rfl)) zo (nomark _)) (zi (ZN (zb8 PySem.F.plainAttrs_list PySem.F.slot_list_append PySem.F.type_list_append zai (pv 2) (zc (zt G_loutcome hr rfl (zc (pv 0) zd)) zd)))
  (zl (zw (i:=3) zbG.nd rfl (Or.inl rfl) (zt G_gone hr rfl (zc (pv 1) (zc (pv 2) zd)))))))
  (zl (zq (zA (zc (pv 1) (zc (zfE rfl rfl m_zip rfl m_tuple (zc (zD zS (pv 3) zj (fun _ _=>rfl)) (zc (pv 2) zd))) (zc (zD zS (pv 3) zj (fun _ _=>rfl)) zd))))))))),?_⟩
 refine ⟨_,rfl,l0,us0,rfl,.inl (SqL.of el0),fun fl hfl=>?_⟩
 have s5:=Same.new (o:=.lst us0) hfl
 have e5:upd H fl (.lst us0) fl = some (.lst us0):=zh
 have nfb:fl≠b:=zP.ne hb hfl
 have hbox5:zP (upd H fl (.lst us0)) b:=by obtain ⟨x,y,z,e⟩:=hb; exact ⟨x,y,z,s5 _ _ e⟩
 generalize upd H fl (.lst us0) = H5 at s5 e5 hbox5
 have ru5:RW H5 u x.toW:=ru.mono (zC s5)
 have fo5:Fo H5 us0 fs0:=fo0.mono (zC s5)
 have ask:∀ (G:Hp) (us:List V) (fs:List Res) (R:VK) {E':XK},RW G u x.toW->G fl = some (.lst us)->Fo G us fs->((ev fs x e0 []).1.res≠.stop->(ev fs x e0 []).2.length = fs.length)->(∀ rp G',Same G G'->Rp K G' rp fs x->R (.ref rp) G')->zi2 K [u,.ref fl] G R E':=fun G us fs R E' rG eG fo hl r=>by
  refine ⟨u,fl,us,fs,x,rfl,rG,SqL.of eG,fo.len,by have:=fo.few; omega,fo.res,by omega,fo.fine wf,fun hs a l G' sm hl0 ea el=>r a G' sm (.inl ⟨hs,l,ea⟩),fun hs a l rv G' sm hl0 ea el rr=>r a G' sm (.inr ⟨hs,hl hs,l,rv,ea,el,rr⟩)⟩
 have nfl:∀ {c o},H c = some o->c≠fl:=fun {c o} e=>zm e hfl
 have stL:∀ {G:Hp}{rp:Addr}{us:List V}{fs:List Res},Lp K H5 G b fl rp us fs x->Step b H G:=fun lp=>⟨lp.bx,fun c o n e=>lp.kp c o n (nfl e) (s5 _ _ e)⟩
 have ruL:∀ {G:Hp}{rp:Addr}{us:List V}{fs:List Res},Lp K H5 G b fl rp us fs x->RW G u x.toW:=fun lp=>ru5.mono fun c vs e=>lp.kp c _ (fun z=>by obtain ⟨_,_,_,e'⟩:=hbox5; rw [z,e'] at e; cases e) (fun z=>by rw [z,e5] at e; cases e) e
 dsimp only [ZD]
 refine ⟨_,rfl,_,rfl,?_⟩
 dsimp only [tNil,List.cons_append,List.nil_append]
 refine ask H5 us0 fs0 _ ru5 e5 fo5 hl0 fun rp G sm hrp=>?_
 refine ⟨fun m σ' G=>∃ (rp:Addr) (us:List V) (fs:List Res),m = 24 - fs.length/\σ' = [some (.ref b),some u,some (.ref fl),some (.ref rp)]/\Lp K H5 G b fl rp us fs x,⟨_,rp,us0,fs0,rfl,rfl,⟨fun c o _ _ e=>sm _ _ e,by obtain ⟨x,y,z,e⟩:=hbox5; exact ⟨x,y,z,sm _ _ e⟩,sm _ _ e5,nfb,fo5.mono (zC sm),hrp⟩⟩,fun m σ' G hW=>?_⟩
 obtain ⟨rp,us,fs,rfl,rfl,lp⟩:=hW
 have hrp:=lp.rp'
 rcases hrp with ⟨hs,l,er⟩ | ⟨hs,hl,l,rv,er,el,rr⟩
 ·refine ⟨_,rfl,rp,_,0,_,rfl,rfl,SqT.of er,zG (j:=0) rfl,rfl,_,rfl,iteT ?_⟩
  have hfew:fs.length < 20:=by
   have h1:(ev fs x e0 []).2.length = fs.length + 1:=(lp.fo.cs x).s1 hs
   have h2:=lksE (fs:=fs) x e0 []
   rw [h1,List.length_nil] at h2
   omega
  have hul:=lp.fo.len
  refine ⟨_,fun σ' H' h=>h,?_⟩
  refine ⟨_,rfl,.inl ⟨rfl,_,SqL.of lp.fl'⟩,_,rfl,b,rfl,lp.bx,fun v r G2 rv rok rns st2=>?_⟩
  have efl2:=st2.keep fl _ lp.ne lp.fl'
  refine ⟨fl,us,v,rfl,rfl,efl2,Nat.lt_of_le_of_lt (show us.length<=1000 by omega) (by decide),_,rfl,_,rfl,?_⟩
  have e3:upd G2 fl (.lst (us ++ [v])) fl = some (.lst (us ++ [v])):=zh
  have k3:∀ c o,c≠fl->G2 c = some o->upd G2 fl (.lst (us ++ [v])) c = some o:=fun c o hc e=>by rw [zr hc]; exact e
  generalize upd G2 fl (.lst (us ++ [v])) = G3 at e3 k3
  have t3:Tups G2 G3:=fun c zs ec=>k3 c _ (fun z=>by rw [z,efl2] at ec; cases ec) ec
  have t2:Tups G G2:=st2.tups lp.bx
  have fo3:Fo G3 (us ++ [v]) (fs ++ [r]):=by
   refine ⟨?_,fun y hy=>?_,fun y hy=>?_,by rw [List.length_append]; show fs.length + 1<=24; omega⟩
   ·rw [List.map_append]
    exact ((lp.fo.rs.mono t2).mono t3).snoc (rv.mono t3)
   ·rcases List.mem_append.mp hy with hy | hy
    ·exact lp.fo.ok y hy
    ·rw [List.mem_singleton.mp hy]; exact rok
   ·rcases List.mem_append.mp hy with hy | hy
    ·exact lp.fo.ns y hy
    ·rw [List.mem_singleton.mp hy]; exact rns
  dsimp only [tNil,List.cons_append,List.nil_append]
  refine ask G3 (us ++ [v]) (fs ++ [r]) _ (((ruL lp).mono t2).mono t3) e3 fo3 (zkm fo3 hs) fun rp2 G4 s4' hrp2=>?_
  refine ⟨24 - (fs ++ [r]).length,by rw [List.length_append]; show 24 - (fs.length + 1) < 24 - fs.length; omega,rp2,us ++ [v],fs ++ [r],rfl,rfl,⟨fun c o c1 c2 e=>s4' _ _ (k3 c o c2 (st2.keep c o c1 (lp.kp c o c1 c2 e))),?_,s4' _ _ e3,lp.ne,fo3.mono (zC s4'),hrp2⟩⟩
  obtain ⟨x,y,z,e⟩:=st2.box
  exact ⟨x,y,z,s4' _ _ (k3 _ _ lp.ne.symm e)⟩
 ·refine ⟨_,rfl,rp,_,0,_,rfl,rfl,SqT.of er,zG (j:=0) rfl,rfl,_,rfl,iteF ?_⟩
  refine ⟨_,rfl,_,rfl,rp,_,1,_,rfl,rfl,SqT.of er,zG (j:=1) rfl,_,rfl,l,fl,_,us,rfl,SqL.of el,SqL.of lp.fl',fun ts t G2 s2 ht hlt hp et=>?_⟩
  refine ⟨_,rfl,rp,_,2,_,rfl,rfl,SqT.of (s2 _ _ er),zG (j:=2) rfl,zl3,fun p hpp=>?_⟩
  have s3:=Same.new (o:=.tup [u,.ref t,rv]) hpp
  have s23:=s2.trans s3
  have hul:=lp.fo.len
  have hfew:=lp.fo.few
  rw [List.length_map] at hlt
  have st:=stL lp
  exact q p rv us fs _ (st.trans (Step.ofSame' st.box s23)) ⟨(ruL lp).mono (zC s23),wf,hi,lp.fo.mono (zC s23),hs,hl,⟨⟨t,ts,zh,s3 _ _ et,by rw [List.length_map]; omega,Prs.mono hp s3⟩,by rw [List.length_map]; omega,by rw [List.length_map]; omega⟩,rr.mono s23⟩
mutual
theorem zbW:∀ (x:Ex) (sc:List Str),Wf x sc->x.toW.depth<=x.high + 13
 | .lit x,sc,h=>by
  rw [Wf] at h
  have:=h.dp
  rw [Ex.toW,Ex.high]
  simp only [W.depth,depths]
  omega
 | .var s,sc,h=>by rw [Ex.toW,Ex.high]; simp only [W.depth,depths]; omega
 | .letE s a b,sc,h=>by
  rw [Wf] at h
  have h1:=zbW a _ h.1
  have h2:=zbW b _ h.2
  rw [Ex.toW,Ex.high]; simp only [W.depth,depths]; omega
 | .ifE a b c,sc,h=>by
  rw [Wf] at h
  have h1:=zbW a _ h.1
  have h2:=zbW b _ h.2.1
  have h3:=zbW c _ h.2.2
  rw [Ex.toW,Ex.high]; simp only [W.depth,depths]; omega
 | .elseE a b,sc,h=>by
  rw [Wf] at h
  have h1:=zbW a _ h.1
  have h2:=zbW b _ h.2
  rw [Ex.toW,Ex.high]; simp only [W.depth,depths]; omega
 | .cryE a,sc,h=>by
  rw [Wf] at h
  have h1:=zbW a _ h
  rw [Ex.toW,Ex.high]; simp only [W.depth,depths]; omega
 | .lookE a,sc,h=>by
  rw [Wf] at h
  have h1:=zbW a _ h
  rw [Ex.toW,Ex.high]; simp only [W.depth,depths]; omega
 | .reck d es,sc,h=>by
  rw [Wf] at h
  have h1:=ex_dps es _ h.2.2
  rw [Ex.toW,Ex.high]; simp only [W.depth,depths]; omega
 | .eachE s a b,sc,h=>by
  rw [Wf] at h
  have h1:=zbW a _ h.1
  have h2:=zbW b _ h.2
  rw [Ex.toW,Ex.high]; simp only [W.depth,depths]; omega
theorem ex_dps:∀ (es:List Ex) (sc:List Str),Wfs es sc->depths (exWs es)<=highs es + 13
 | [],sc,_=>by rw [exWs,highs,depths]; omega
 | x :: xs,sc,h=>by
  rw [Wfs] at h
  have h1:=zbW x _ h.1
  have h2:=ex_dps xs _ h.2
  rw [exWs,highs,depths]; omega
end
def lkW (n:Str) (r:Res):W:=.lst [.txt n,r.toW]
def ppW (fs:List Res) (x:Ex):W:=.lst [x.toW,.lst (List.zipWith lkW (ev fs x e0 []).2 fs),(ev fs x e0 []).1.toW]
theorem zjj:∀ (ns:List Str) (fs:List Res),(∀ r∈fs,ROk r)->depths (List.zipWith lkW ns fs)<=14
 | [],_,_=>by rw [List.zipWith_nil_left]; exact Nat.zero_le _
 | _ :: _,[],_=>by rw [List.zipWith_nil_right]; exact Nat.zero_le _
 | n :: ns,r :: fs,h=>by
  have h1:=(h r List.mem_cons_self).dp
  have h2:=zjj ns fs fun y hy=>h y (List.mem_cons_of_mem _ hy)
  rw [List.zipWith_cons_cons,depths]
  have:(lkW n r).depth<=14:=by simp only [lkW,W.depth,depths]; omega
  omega
theorem PO.gr {K:PySem.W.Frag}{H:Hp}{p:Addr}{u rv:V}{us:List V}{fs:List Res}{x:Ex} (h:PO K H p u rv us fs x):GR x.high (ev fs x e0 []).1:=grE h.fo.ns h.fo.ok (by have:=h.fo.few; omega) x [] e0 [] h.wf eg0 (Nat.zero_le _) h.nst
theorem PO.dp {K:PySem.W.Frag}{H:Hp}{p:Addr}{u rv:V}{us:List V}{fs:List Res}{x:Ex} (h:PO K H p u rv us fs x):(ppW fs x).depth < 60:=by
 have h1:=h.gr.dp
 have h2:=zbW x [] h.wf
 have h3:=zjj (ev fs x e0 []).2 fs h.fo.ok
 have h4:=h.hi
 simp only [ppW,W.depth,depths]
 omega
theorem zkp {K:PySem.W.Frag}{H:Hp}{a:Addr}{u v t:V}{x y z:W} (e:H a = some (.tup [u,v,t])) (h1:RS K H u x) (h2:RS K H v y) (h3:RS K H t z):RS K H (.ref a) (.lst [x,y,z]):=.lst (SqT.of e) rfl fun i a b ha hb=>match i,ha,hb with
 | 0,ha,hb=>by
  obtain rfl:u = a:=by simpa using ha
  obtain rfl:x = b:=by simpa using hb
  exact h1
 | 1,ha,hb=>by
  obtain rfl:v = a:=by simpa using ha
  obtain rfl:y = b:=by simpa using hb
  exact h2
 | 2,ha,hb=>by
  obtain rfl:t = a:=by simpa using ha
  obtain rfl:z = b:=by simpa using hb
  exact h3
 | j + 3,ha,hb=>by simp at ha
theorem PO.rs {K:PySem.W.Frag}{H:Hp}{p:Addr}{u rv:V}{us:List V}{fs:List Res}{x:Ex} (h:PO K H p u rv us fs x):RS K H (.ref p) (ppW fs x):=by
 obtain ⟨⟨t,ts,e1,e2,e3,e4⟩,l,few⟩:=h.pp
 have hul:=h.fo.len
 have hnl:=h.nl
 rw [List.length_map] at e3 l
 refine zkp e1 (RW.toRS h.ru) (.lst (SqT.of e2) (by rw [List.length_map,List.length_zipWith]; omega) fun i v w hv hw=>?_) (h.gr.rs h.rr)
 rw [List.getElem?_map] at hv
 obtain ⟨c,hc,rfl⟩:=Option.map_eq_some_iff.mp hv
 have hi:i < ts.length:=(List.getElem?_eq_some_iff.mp hc).1
 have h1:(ev fs x e0 []).2[i]? = some (ev fs x e0 []).2[i]:=List.getElem?_eq_getElem (by omega)
 have h2:fs[i]? = some fs[i]:=List.getElem?_eq_getElem (by omega)
 have h3:us[i]? = some us[i]:=List.getElem?_eq_getElem (by omega)
 rw [List.getElem?_zipWith,h1,h2] at hw
 obtain rfl:lkW _ _ = w:=by simpa using hw
 exact RS.two (SqT.of (e4 i c _ _ hc (by rw [List.getElem?_map,h1]; rfl) h3)) (.txt _) (RW.toRS (h.fo.rs.at' i _ _ h3 (by rw [List.getElem?_map,h2]; rfl)))
end
end D
namespace L2
open PySem PySem.Spec PyProof.Rows
theorem zkq {X:Cx}:OpR X (binaryOp .Mult) (fun x y H Q=>∃ (z:Str) (k:Int),x = .str z/\y = .int k/\(k = 0\/k = 1)/\∀ r:Str,(r.cps.toList = []\/r.cps.toList = z.cps.toList)->Q (.str r) H):=by
 intro zp s σ H x y v u Q I rx ry h
 obtain ⟨z,k,rfl,rfl,hk,q⟩:=h
 obtain ⟨t,rfl⟩:=rx
 obtain ⟨t',rfl⟩:=ry
 have hok:MulOk z k:=by
  rcases hk with rfl | rfl
  ·exact ⟨by decide,fun h=>absurd (by decide) h,fun h=>absurd (by decide) h⟩
  ·exact ⟨by decide,fun _ h=>by simp at h,fun _ h=>by simp at h⟩
 refine PySem.SB.mul hok fun t' tk=>⟨.str _,H,I.tok tk,⟨_,rfl⟩,q _ ?_⟩
 rcases hk with rfl | rfl
 ·left
  unfold PySem.Txt.mul
  rw [if_pos (by decide)]
  rfl
 ·right
  unfold PySem.Txt.mul
  rw [if_neg (by decide),if_pos (by simp)]
end L2
namespace D
open PySem L2
def dot:Str:=Str.ofString "."
theorem zf5:dot.length = 1:=by decide +kernel
def zdb:Str:=Str.ofString "abcdefghijklmnopqrstuvwxyz0123456789"
def in36 (c:Nat):Bool:=decide (c∈zdb.cps.toList)
theorem zjk:∀ c∈zdb.cps.toList,32<=c/\c<=126/\c≠34/\c≠37:=by decide +kernel
structure Wn (x:Str):Prop where
 lo:1<=x.length
 hi:x.length<=12
 at':∀ c∈x.cps.toList,in36 c = true
theorem Wn.ok {x:Str} (h:Wn x):Signs x:=fun c hc=>zjk c (of_decide_eq_true (h.at' c hc))
def Nm (z:Str):Prop:=1<=z.length/\z.length<=30/\Signs z
theorem Wn.nm {r w:Str} (h1:Wn r) (h2:Wn w):Nm (r ++ dot ++ w):=by
 have a1:=h1.hi
 have a2:=h2.hi
 have a3:=h1.lo
 have e:(r ++ dot ++ w).length = r.length + 1 + w.length:=by rw [← Zs,zan,zan,List.length_append,List.length_append,Zs,Zs,Zs,zf5]
 refine ⟨by omega,by omega,fun c hc=>?_⟩
 rw [zan,zan] at hc
 rcases List.mem_append.mp hc with hc | hc
 ·rcases List.mem_append.mp hc with hc | hc
  ·exact h1.ok c hc
  ·rw [show dot.cps.toList = [46] by decide +kernel,List.mem_singleton] at hc
   rw [hc]; decide
 ·exact h2.ok c hc
theorem zmf:zdb.length = 36:=by decide +kernel
theorem zkr (cs:List Nat):Txt.join (Str.ofString "") (cs.map fun c=>(⟨#[c]⟩:Str)) = ⟨cs.toArray⟩:=zdt cs
theorem zks (cs:List Nat):((cs.map fun c=>(⟨#[c]⟩:Str)).map (·.length)).sum = cs.length:=by
 induction cs with
 | nil=>rfl
 | cons c r ih=>
  rw [List.map_cons,List.map_cons,List.sum_cons,ih,List.length_cons]
  show 1 + r.length = r.length + 1
  omega
theorem at36 {i:Int} (h0:0<=i) (h1:i < 36):∃ c,atI zdb.cps.toList i = some c/\in36 c = true:=by
 obtain ⟨c,h,hm⟩:=zf0 (z:=zdb) h0 (by rw [zmf]; exact h1)
 exact ⟨c,h,decide_eq_true hm⟩
def zjl:Sp:=fun vs H Q _=>∃ (b:Addr) (n:Int),vs = [.ref b,.int n]/\zP H b/\0<=n/\n<=100 /\
 ∀ (l:Addr) (ws:List Str) (H':Hp),H l = none->Step b H H'->H' l = some (.lst (ws.map V.str))->ws.length = n.toNat->(∀ z∈ws,Wn z)->Q (.ref l) H'
section
variable {P:Program}{w:World}{K:PySem.W.Frag}{mg:Str->Option Value}{base:Heap}{f:Addr}{fd:FuncData}{k n:Nat}{ARun ABook:Addr}
theorem ZK:FnScope ["_law_box_here","_law_total","_law_signs","_law_wide","_law_spot","_law_letters","_law_first","_law_more","_law_found","_law_k"] ["_law_box_here","_law_total"] (zn zdU):=mkSc rfl (by decide +kernel)
theorem zjm (F:Fun K "_law_likes" "_law_likes" zdU f fd) (G_ltake:Have P w K mg base "_law_take" k ["_law_box_here","_law_wide"] (Z7)) (m_range:mg "range" = none):FnOk P w K mg base CX0 (k + 1) f fd ["_law_box_here","_law_total"] (zjl):=by
 refine F.okQ ZK (by rintro _ _ _ _ ⟨_,_,rfl,_⟩; rfl) fun cdv A outer s H vs Q E hr h=>?_
 obtain ⟨b,n,rfl,hb,hn0,hn1,q⟩:=h
 refine ⟨_,(zi (zw (i:=2) ZK.nd rfl (Or.inr rfl) zo)
  (zi (zw (i:=3) ZK.nd rfl (Or.inl rfl) (zF Ze zj (zt G_ltake hr rfl (zc (pv 0) (zc zj zd)))))
  (zi (zw (i:=4) ZK.nd rfl (Or.inl rfl) (zt G_ltake hr rfl (zc (pv 0) (zc (pv 3) zd))))
  (zi (zd3 (i:=5) [2,0] ["_law_signs","_law_box_here"] rfl rfl (by decide +kernel) rfl (by decide +kernel) rfl (by decide +kernel) ⟨rfl,rfl,trivial⟩ rfl ⟨⟨rfl,rfl,Or.inr (Or.inl rfl),(by show (some NameKind.cell:Option NameKind)≠some .local; decide),⟨_,rfl⟩⟩,⟨rfl,rfl,Or.inr (Or.inl rfl),(by show (some NameKind.cell:Option NameKind)≠some .local; decide),⟨_,rfl⟩⟩,trivial⟩ (Zq rfl m_range (zc (pv 3) zd)) (fun C s H fp=>⟨Zn,(zD zeC (pv 1) (zt G_ltake hr rfl (zc (pv 2) (zc zj zd))) (fun _ _=>rfl))⟩) ZK.nd rfl (Or.inl rfl))
  (zi (zw (i:=6) ZK.nd rfl (Or.inl rfl) (zt G_ltake hr rfl (zc (pv 0) (zc zj zd))))
  (zi (zw (i:=7) ZK.nd rfl (Or.inl rfl) (zt G_ltake hr rfl (zc (pv 0) (zc zj zd))))
  (zi (zw (i:=8) ZK.nd rfl (Or.inl rfl) (zL zd))
  (zi (zau PassesOwn.never rfl (Zq rfl m_range (zc (pv 1) zd)) (zV (i:=9) ZK.nd rfl (Or.inl rfl)) (zi (zaM (zD zeC (pv 2) (zF zaN (zF Ze (pv 6) (zF za4 zj (pv 9))) zj) (fun _ _=>rfl)) (zcs (pv 5) (pv 4) zbq))
  (zl (ZN (zb8 PySem.F.plainAttrs_list PySem.F.slot_list_append PySem.F.type_list_append zai (pv 8) (zc (zF zab (zb8 PySem.F.plainAttrs_str PySem.F.slot_str_join PySem.F.type_str_join zii zo (zc (pv 5) zd)) (zF zkq zo (zF za4 (pv 7) (zF zaN (pv 9) zj)))) zd))))))
  (zl (zq (pv 8))))))))))),?_⟩
 refine ⟨_,rfl,b,11,rfl,hb,by decide,by decide,fun wd H1 w0 w1 st1=>⟨_,_,rfl,rfl,?_⟩⟩
 refine ⟨_,rfl,_,rfl,b,1 + wd,rfl,st1.box,by omega,Int.lt_of_le_of_lt (show 1 + wd<=11 by omega) (by decide),fun sp H2 sp0 sp1 st2=>?_⟩
 have st12:=st1.trans st2
 refine ⟨_,rfl,1 + wd,rfl,by omega,by omega,zek (n:=1 + wd) (fun i us H'=>∃ cs:List Nat,us = cs.map (fun c=>V.str ⟨#[c]⟩)/\cs.length = i/\(∀ c∈cs,in36 c = true)/\Step b H H') ⟨[],rfl,rfl,(fun c h=>nomatch h),st12⟩ (fun i us H' h=>?_) (by omega) (fun i us H' R hi h r=>?_) (fun us H' D h hD=>?_)⟩
 ·obtain ⟨cs,rfl,hl,_⟩:=h
  rw [List.length_map]; exact hl
 ·obtain ⟨cs,rfl,hl,hc,st⟩:=h
  refine ⟨_,rfl,_,rfl,b,36,rfl,st.box,by decide,by decide,fun r2 H5 a0 a1 st5=>?_⟩
  obtain ⟨c,ec,hcc⟩:=at36 a0 a1
  refine ⟨_,r2,c,rfl,rfl,small (by rw [show (Str.ofString "abcdefghijklmnopqrstuvwxyz0123456789").length = 36 from zmf]; decide),ec,r _ _ ⟨cs ++ [c],by rw [List.map_append]; rfl,by rw [List.length_append,hl]; rfl,fun x hx=>?_,st.trans st5⟩⟩
  rcases List.mem_append.mp hx with hx | hx
  ·exact hc x hx
  ·rw [List.mem_singleton.mp hx]; exact hcc
 obtain ⟨cs,rfl,hl,hc,st3⟩:=h
 have eD:upd H' D (.lst (cs.map fun c=>V.str ⟨#[c]⟩)) D = some (.lst (cs.map fun c=>V.str ⟨#[c]⟩)):=zh
 have st4:=st3.trans (Step.new (o:=.lst (cs.map fun c=>V.str ⟨#[c]⟩)) st3.box hD)
 have nDb:D≠b:=zP.ne st3.box hD
 generalize upd H' D (.lst (cs.map fun c=>V.str ⟨#[c]⟩)) = H4 at eD st4
 refine ⟨_,rfl,b,36,rfl,st4.box,by decide,by decide,fun fi H5 f0 f1 st5=>?_⟩
 refine ⟨_,rfl,b,2,rfl,st5.box,by decide,by decide,fun mo H6 m0 m1 st6=>?_⟩
 refine ⟨zl0,fun l hlf=>?_⟩
 have st46:=st5.trans st6
 have hl6:∀ {c o},c≠b->H4 c = some o->H6 c = some o:=fun h e=>st46.keep _ _ h e
 have s7:=Same.new (o:=.lst []) hlf
 have nlb:l≠b:=zP.ne st6.box hlf
 have hl0:H l = none:=by
  cases e:H l with
  | none=>rfl
  | some o=>rw [(st4.trans st46).keep l o nlb e] at hlf; cases hlf
 have nDl:D≠l:=zm (hl6 nDb eD) hlf
 have e7:upd H6 l (.lst []) l = some (.lst []):=zh
 have eD7:=s7 _ _ (hl6 nDb eD)
 generalize hH7:upd H6 l (.lst []) = H7 at s7 e7 eD7
 have hD0:H D = none:=by
  cases e:H D with
  | none=>rfl
  | some o=>rw [st3.keep D o nDb e] at hD; cases hD
 refine ⟨_,rfl,n,rfl,by omega,by omega,zbo (lo:=0) (n:=n.toNat) (fun i σ' H8=>∃ (o9:Option V) (cs':List Nat) (ws:List Str),σ' = [some (.ref b),some (.int n),some (.str "abcdefghijklmnopqrstuvwxyz0123456789"),some (.int (1 + wd)),some (.int sp),some (.ref D),some (.int fi),some (.int mo),some (.ref l),o9]/\H8 D = some (.lst (cs'.map fun c=>V.str ⟨#[c]⟩))/\cs'.length = (1 + wd).toNat/\(∀ c∈cs',in36 c = true)/\H8 l = some (.lst (ws.map V.str))/\ws.length = i/\(∀ z∈ws,Wn z)/\∀ c o,c≠D->c≠l->H7 c = some o->H8 c = some o)
  ⟨none,cs,[],rfl,eD7,hl,hc,e7,rfl,(fun z h=>nomatch h),fun c o _ _ e=>e⟩ (fun i σ' H8 hi h=>?_) (fun σ' H8 h=>?_)⟩
 ·obtain ⟨o9,cs',ws,rfl,eD8,hcl,hcc,el8,hwl,hww,kp⟩:=h
  have hi':(i:Int) < 100:=by omega
  have md:0<=(fi + 7 * (0 + (i:Int))) % 36/\(fi + 7 * (0 + (i:Int))) % 36 < 36:=by omega
  obtain ⟨c,ec,hc36⟩:=at36 md.1 md.2
  refine ⟨_,rfl,_,rfl,_,rfl,_,_,rfl,rfl,.inl ⟨by decide,by decide⟩,_,_,rfl,rfl,_,_,rfl,rfl,(by show (0:Int) < 36; decide),_,_,c,rfl,rfl,small (by rw [show (Str.ofString "abcdefghijklmnopqrstuvwxyz0123456789").length = 36 from zmf]; decide),ec,?_⟩
  have hsl:sp.toNat < cs'.length:=by omega
  have hix:ixN (cs'.map fun c=>V.str ⟨#[c]⟩).length sp = some sp.toNat:=by
   unfold ixN
   rw [List.length_map,if_pos sp0,if_pos (by omega)]
  refine ⟨_,rfl,_,rfl,D,_,sp,sp.toNat,rfl,rfl,eD8,hix,?_⟩
  have eset:(cs'.map fun c=>V.str ⟨#[c]⟩).set sp.toNat (.str ⟨#[c]⟩) = (cs'.set sp.toNat c).map fun c=>V.str ⟨#[c]⟩:=by rw [List.map_set]
  rw [eset]
  have hcc':∀ x∈cs'.set sp.toNat c,in36 x = true:=fun x hx=>by
   rcases List.mem_or_eq_of_mem_set hx with h | h
   ·exact hcc x h
   ·rw [h]; exact hc36
  have hcl':(cs'.set sp.toNat c).length = (1 + wd).toNat:=by rw [List.length_set]; exact hcl
  generalize cs'.set sp.toNat c = cs2 at hcc' hcl'
  have el9:upd H8 D (.lst (cs2.map fun c=>V.str ⟨#[c]⟩)) l = some (.lst (ws.map V.str)):=by rw [zr nDl.symm]; exact el8
  have eD9:upd H8 D (.lst (cs2.map fun c=>V.str ⟨#[c]⟩)) D = some (.lst ((cs2.map fun c=>(⟨#[c]⟩:Str)).map V.str)):=by rw [zh,List.map_map]; rfl
  refine ⟨_,rfl,.inl ⟨rfl,_,SqL.of el9⟩,rfl,_,rfl,_,D,cs2.map fun c=>(⟨#[c]⟩:Str),rfl,rfl,SqL.of eD9,?_,?_⟩
  ·rw [zks,List.length_map,show (Str.ofString "").length = 0 from by decide +kernel]
   omega
  rw [zkr]
  have hmk:mo * ((0 + (i:Int)) % 2) = 0\/mo * ((0 + (i:Int)) % 2) = 1:=by
   have h1:mo = 0\/mo = 1:=by omega
   rcases h1 with rfl | rfl
   ·left; simp
   ·rw [Int.one_mul]; omega
  refine ⟨_,rfl,_,rfl,_,_,rfl,rfl,(by show (0:Int) < 2; decide),_,_,rfl,rfl,.inl ⟨by omega,by omega⟩,_,_,rfl,rfl,hmk,fun r hr0=>?_⟩
  have hrl:r.cps.toList.length<=1/\∀ x∈r.cps.toList,in36 x = true:=by
   have e0:(Str.ofString "0").cps.toList = [48]:=by decide +kernel
   rcases hr0 with h | h
   ·rw [h]; exact ⟨Nat.zero_le _,fun x hx=>nomatch hx⟩
   ·rw [h,e0]; exact ⟨Nat.le_refl _,fun x hx=>by rw [List.mem_singleton.mp hx]; decide +kernel⟩
  have hcs:(⟨cs2.toArray⟩:Str).cps.toList = cs2:=by show cs2.toArray.toList = cs2; rw [List.toList_toArray]
  have hcl2:(⟨cs2.toArray⟩:Str).length = cs2.length:=by rw [← Zs,hcs]
  have hrl2:r.length<=1:=by rw [← Zs]; exact hrl.1
  have hwd:Wn (⟨cs2.toArray⟩ ++ r):=by
   have hl':(⟨cs2.toArray⟩ ++ r:Str).length = cs2.length + r.length:=by rw [← Zs,zan,List.length_append,Zs,Zs,hcl2]
   refine ⟨by rw [hl']; omega,by rw [hl']; omega,fun x hx=>?_⟩
   rw [zan,hcs] at hx
   rcases List.mem_append.mp hx with hx | hx
   ·exact hcc' x hx
   ·exact hrl.2 x hx
  refine ⟨_,_,rfl,rfl,small (by rw [hcl2]; omega),l,ws.map V.str,_,rfl,rfl,el9,small (by rw [List.length_map]; omega),?_⟩
  refine ⟨_,cs2,ws ++ [⟨cs2.toArray⟩ ++ r],rfl,?_,hcl',hcc',by rw [zh,List.map_append]; rfl,by rw [List.length_append,hwl]; rfl,fun z hz=>?_,fun c' o h1 h2 e=>?_⟩
  ·rw [zr nDl,zh]
  ·rcases List.mem_append.mp hz with hz | hz
   ·exact hww z hz
   ·rw [List.mem_singleton.mp hz]; exact hwd
  ·rw [zr h2,zr h1]; exact kp c' o h1 h2 e
 ·obtain ⟨o9,cs',ws,rfl,eD8,hcl,hcc,el8,hwl,hww,kp⟩:=h
  refine ⟨_,rfl,q l ws H8 hl0 ⟨?_,fun c o hc e=>?_⟩ el8 hwl hww⟩
  ·obtain ⟨x,y,z,e⟩:=st6.box
   exact ⟨x,y,z,kp _ _ nDb.symm nlb.symm (s7 _ _ e)⟩
  ·exact kp _ _ (zm e hD0) (zm e hl0) (s7 _ _ (hl6 hc (st4.keep _ _ hc e)))
theorem znQ {vs:List V} (k:Nat):cutV vs none (some (k:Int)) = vs.take k:=by
 show (vs.drop 0).take (HT.sIx vs.length vs.length (some ((k:Nat):Int)) - 0) = _
 rw [HT.sIx_nat,Nat.sub_zero,List.drop_zero]
 by_cases h:k<=vs.length
 ·rw [Nat.min_eq_left h]
 ·rw [Nat.min_eq_right (by omega),List.take_of_length_le (Nat.le_refl _),List.take_of_length_le (by omega)]
def zjn:Sp:=fun vs H Q _=>∃ (b:Addr) (m:Int),vs = [.ref b,.int m]/\zP H b/\2<=m/\m<=100 /\
 ∀ (l:Addr) (ns:List Str) (H':Hp),H l = none->Step b H H'->H' l = some (.lst (ns.map V.str))->ns≠[]->ns.length<=15->(∀ z∈ns,Nm z)->Q (.ref l) H'
theorem zaX:FnScope ["_law_box_here","_law_most","_law_rooms","_law_names_here","_law_word_here"] ["_law_box_here","_law_most"] (zn zdV):=mkSc rfl (by decide +kernel)
theorem zjo (F:Fun K "_law_names" "_law_names" zdV f fd) (G_ltake:Have P w K mg base "_law_take" k ["_law_box_here","_law_wide"] (Z7)) (G_llikes:Have P w K mg base "_law_likes" k ["_law_box_here","_law_total"] (zjl)):FnOk P w K mg base CX0 (k + 1) f fd ["_law_box_here","_law_most"] (zjn):=by
 refine F.okQ zaX (by rintro _ _ _ _ ⟨_,_,rfl,_⟩; rfl) fun cdv A outer s H vs Q E hr h=>?_
 obtain ⟨b,m,rfl,hb,hm0,hm1,q⟩:=h
 refine ⟨_,(zi (zw (i:=2) zaX.nd rfl (Or.inl rfl) (zt G_llikes hr rfl (zc (pv 0) (zc (zF Ze zj (zt G_ltake hr rfl (zc (pv 0) (zc zj zd)))) zd))))
  (zi (zw (i:=3) zaX.nd rfl (Or.inl rfl) (zL zd))
  (zi (zau PassesOwn.never rfl (zat (zt G_llikes hr rfl (zc (pv 0) (zc (zF Ze zj (zt G_ltake hr rfl (zc (pv 0) (zc zj zd)))) zd)))) (zV (i:=4) zaX.nd rfl (Or.inr rfl)) (zl (zw (i:=3) zaX.nd rfl (Or.inl rfl) (zF zeH (pv 3) (Zx [4] ["_law_word_here"] rfl rfl (by decide +kernel) rfl (by decide +kernel) rfl (by decide +kernel) ⟨rfl,trivial⟩ rfl ⟨⟨rfl,rfl,Or.inr (Or.inl rfl),(by show (some NameKind.cell:Option NameKind)≠some .local; decide),⟨_,rfl⟩⟩,trivial⟩ (zat (pv 2)) (fun C s H fp=>⟨Zn,(zF zab (zF zab (pv 0) zo) (pv 1))⟩))))))
  (zl (zq (ZX zfr (pv 3) zaF (zag (zF Ze zj (zt G_ltake hr rfl (zc (pv 0) (zc (zF Zf (pv 1) zj) zd))))))))))),?_⟩
 refine ⟨_,rfl,_,rfl,b,3,rfl,hb,by decide,by decide,fun r1 H1 a0 a1 st1=>⟨_,_,rfl,rfl,b,1 + r1,rfl,st1.box,by omega,by omega,fun lr rooms H2 hlr st2 er hrl hrw=>⟨zl0,fun l0 hl0=>?_⟩⟩⟩
 have st12:=st1.trans st2
 have nrb:lr≠b:=zP.ne st1.box hlr
 have st3:=st12.trans (Step.new (o:=.lst []) st2.box hl0)
 have e0:upd H2 l0 (.lst []) l0 = some (.lst []):=zh
 have er3:=Same.new (o:=.lst []) hl0 _ _ er
 have n0b:l0≠b:=zP.ne st2.box hl0
 generalize upd H2 l0 (.lst []) = H3 at st3 e0 er3
 refine ⟨_,rfl,_,rfl,b,4,rfl,st3.box,by decide,by decide,fun r2 H4 c0 c1 st4=>⟨_,_,rfl,rfl,b,2 + r2,rfl,st4.box,by omega,by omega,fun lw words H5 hlw st5 ew hwl hww=>?_⟩⟩
 have st45:=st4.trans st5
 have st35:=st3.trans st45
 have er5:=st45.keep lr _ nrb er3
 have e05:=st45.keep l0 _ n0b e0
 have hrn:rooms.length<=3/\1<=rooms.length:=by omega
 have hwn:words.length<=5/\2<=words.length:=by omega
 refine ⟨lw,rfl,⟨_,SqL.of ew⟩,zci (K:=K) (xs:=words.map V.str) (fun i σ' H'=>∃ (o4:Option V) (ln:Addr) (ns:List Str),σ' = [some (.ref b),some (.int m),some (.ref lr),some (.ref ln),o4]/\H' ln = some (.lst (ns.map V.str))/\(∀ z∈ns,Nm z)/\ns.length = i * rooms.length/\Same H5 H')
  ⟨none,l0,[],rfl,e05,(fun z h=>nomatch h),by simp,Same.refl _⟩ (fun i σ' H' _ h=>?_) (fun i x σ' H' hx h=>?_) (fun σ' H' h=>?_)⟩
 ·obtain ⟨_,_,_,_,_,_,_,s6⟩:=h
  exact SqL.of (s6 _ _ ew)
 ·obtain ⟨o4,ln,ns,rfl,en,hnm,hnl,s6⟩:=h
  rw [List.getElem?_map] at hx
  obtain ⟨wd,hwd,rfl⟩:=Option.map_eq_some_iff.mp hx
  have hw:=hww wd (List.mem_of_getElem? hwd)
  have hi:i < words.length:=(List.getElem?_eq_some_iff.mp hwd).1
  have hnl':ns.length<=15:=by
   rw [hnl]
   exact Nat.le_trans (Nat.mul_le_mul (show i<=5 by omega) hrn.1) (by decide)
  refine ⟨_,rfl,_,rfl,lr,rfl,⟨_,SqL.of (s6 _ _ er5)⟩,zj1 (K:=K) (rooms.map fun r=>V.str (r ++ dot ++ wd)) (SqL.of (s6 _ _ er5)) (by rw [List.length_map,List.length_map]) (small (by rw [List.length_map]; omega)) (fun j v y H7 R hv hy s7 hR=>?_) (fun H7 D s7 hD=>?_)⟩
  ·rw [List.getElem?_map] at hv hy
   obtain ⟨ro,hro,rfl⟩:=Option.map_eq_some_iff.mp hv
   rw [hro] at hy
   cases hy
   have hr:=hrw ro (List.mem_of_getElem? hro)
   have h1:=hr.hi
   have h2:=hw.hi
   have hd1:(ro ++ dot).length = ro.length + 1:=by rw [← Zs,zan,List.length_append,Zs,Zs,zf5]
   refine ⟨_,rfl,_,_,rfl,rfl,small (by rw [show (Str.ofString ".").length = 1 from zf5]; omega),_,rfl,_,_,rfl,rfl,small (by rw [show (ro ++ Str.ofString ".").length = ro.length + 1 from hd1]; omega),hR _ (Same.refl _)⟩
  ·have s8:=s7.trans (Same.new (o:=.lst (rooms.map fun r=>V.str (r ++ dot ++ wd))) hD)
   refine ⟨ln,D,ns.map V.str,rooms.map fun r=>V.str (r ++ dot ++ wd),rfl,rfl,s8 _ _ en,zh,small (by rw [List.length_map,List.length_map]; omega),fun p hp=>?_⟩
   refine ⟨_,p,ns ++ rooms.map (fun r=>r ++ dot ++ wd),rfl,by rw [zh,List.map_append,List.map_map]; rfl,fun z hz=>?_,?_,s6.trans (s8.trans (Same.new hp))⟩
   ·rcases List.mem_append.mp hz with hz | hz
    ·exact hnm z hz
    ·obtain ⟨r,hr,rfl⟩:=List.mem_map.mp hz
     exact (hrw r hr).nm hw
   ·rw [List.length_append,List.length_map,hnl,Nat.add_mul]; omega
 ·obtain ⟨o4,ln,ns,rfl,en,hnm,hnl,s6⟩:=h
  rw [List.length_map] at hnl
  have hnl2:2<=ns.length:=by
   rw [hnl]
   exact Nat.le_trans (by decide:2<=2 * 1) (Nat.mul_le_mul hwn.2 hrn.2)
  have hnl3:ns.length<=15:=by
   rw [hnl]
   exact Nat.le_trans (Nat.mul_le_mul hwn.1 hrn.1) (by decide)
  have st6:=st35.trans (Step.ofSame' st5.box s6)
  refine ⟨_,rfl,_,rfl,_,rfl,_,_,rfl,rfl,b,m - 1,rfl,st6.box,by omega,Int.lt_of_le_of_lt (show m - 1<=100 by omega) (by decide),fun r3 H7 d0 d1 st7=>⟨_,_,rfl,rfl,_,rfl,?_⟩⟩
  have nlb:ln≠b:=fun h=>by
   obtain ⟨x,y,z,e⟩:=st6.box
   rw [h,e] at en
   cases ns with
   | nil=>cases en
   | cons a r=>cases en
  refine ⟨ln,_,rfl,SqL.of (st7.keep ln _ nlb en),fun p hp=>?_⟩
  have st8:=st7.trans (Step.new (o:=.lst (cutV (ns.map V.str) none (some (2 + r3)))) st7.box hp)
  have hpb:p≠b:=zP.ne st7.box hp
  have ecut:cutV (ns.map V.str) none (some (2 + r3)) = (ns.take (2 + r3).toNat).map V.str:=by
   have:=znQ (vs:=ns.map V.str) (2 + r3).toNat
   rw [show (((2 + r3).toNat:Nat):Int) = 2 + r3 by omega] at this
   rw [this,List.map_take]
  have st68:=st6.trans st8
  have hpH:H p = none:=by
   cases e:H p with
   | none=>rfl
   | some o=>rw [(st6.trans st7).keep p o hpb e] at hp; cases hp
  refine q p (ns.take (2 + r3).toNat) _ hpH st68 (by rw [zh,ecut]) (fun h=>?_) (Nat.le_trans (by rw [List.length_take]; omega) (Nat.le_refl 15)) (fun z hz=>hnm z (List.mem_of_mem_take hz))
  have:=congrArg List.length h
  rw [List.length_take,List.length_nil] at this
  omega
abbrev Kvs:=List (Key × V)
def fB (d:Addr):List (Str × V):=[("papers",.ref d)]
structure Bk (AB:Addr) (H:Hp) (p d:Addr) (kvs:Kvs):Prop where
 ins:∃ dx,H p = some (.ins AB dx (fB d))
 dk:H d = some (.dK kvs)
theorem Bk.keep {AB:Addr}{H H':Hp}{p d:Addr}{kvs:Kvs} (h:Bk AB H p d kvs) (k:∀ o,H p = some o->H' p = some o) (k2:∀ o,H d = some o->H' d = some o):Bk AB H' p d kvs:=
 ⟨let ⟨dx,e⟩:=h.ins; ⟨dx,k _ e⟩,k2 _ h.dk⟩
theorem Bk.same {AB:Addr}{H H':Hp}{p d:Addr}{kvs:Kvs} (h:Bk AB H p d kvs) (s:Same H H'):Bk AB H' p d kvs:=h.keep (fun _ e=>s _ _ e) (fun _ e=>s _ _ e)
theorem Bk.ne {AB:Addr}{H:Hp}{p d:Addr}{kvs:Kvs} (h:Bk AB H p d kvs):p≠d:=fun z=>by
 obtain ⟨dx,e⟩:=h.ins
 rw [z,h.dk] at e
 cases e
def spBI (AB:Addr):Sp:=fun vs H Q _=>∃ (p dx:Addr),vs = [.ref p]/\H p = some (.ins AB dx [])/\∀ (d:Addr) (H':Hp),H d = none->Bk AB H' p d []->(∀ c o,c≠p->H c = some o->H' c = some o)->Q .non H'
def zgG (AB:Addr):Sp:=fun vs H Q _=>∃ (p d:Addr) (kvs:Kvs) (z:Str) (v:V),vs = [.ref p,.str z,v]/\Bk AB H p d kvs/\kvs.length < 1000/\Q .non (upd H d (.dK (putK kvs (.inr z) v)))
def zmg (AB:Addr):Sp:=fun vs H Q _=>∃ (p d:Addr) (kvs:Kvs) (z:Str),vs = [.ref p,.str z]/\Bk AB H p d kvs/\Q ((valV kvs (.inr z)).getD .non) H
def zf6 (AB:Addr):Sp:=fun vs H Q _=>∃ (p d:Addr) (kvs:Kvs),vs = [.ref p]/\Bk AB H p d kvs/\∀ (p' d':Addr) (H':Hp),Same H H'->H p' = none->H d' = none->Bk AB H' p' d' kvs->Q (.ref p') H'
theorem znw (d:Addr):putF "papers" (.ref d) [] = fB d:=by with_unfolding_all rfl
theorem zmh (d0 d:Addr):putF "papers" (.ref d) (fB d0) = fB d:=by with_unfolding_all rfl
theorem znx {te:TE}{g:TG}{t:TS}{D:Ends}{σ:St}{H:Hp} (h:te σ H (fun v H'=>g v σ H' (fun σ' H''=>t D σ' H''))):tSeq (tAsg te g) t D σ H:=h
theorem zjp {AB:Addr}{σ:St}{H:Hp}{Q:VK} (q:∀ (p d:Addr) (H':Hp),Bk AB H' p d []->Same H H'->H p = none->H d = none->Q (.ref p) H'):zfn AB (spBI AB) [] E0 tNil σ H Q:=by
 intro x dx hx hdx ne
 refine ⟨x,dx,rfl,zh,fun d H' hd bk kp=>⟨rfl,?_⟩⟩
 have n1:d≠x:=fun z=>by rw [z,zh] at hd; cases hd
 have n2:d≠dx:=fun z=>by rw [zr n1,z,zh] at hd; cases hd
 refine q x d H' bk (fun c o e=>kp c o (zm e hx) ?_) hx (by rw [zr n1,zr n2] at hd; exact hd)
 rw [zr (zm e hx),zr (zm e hdx)]
 exact e
theorem zcd:FnScope ["self"] ["self"] (zn Zc):=mkSc rfl (by decide +kernel)
theorem zce (F:Fun K "__init__" "Book.__init__" Zc f fd) (clB:Cls K ABook) (nP:Z6 K ABook "papers"):FnOk P w K mg base CX0 (k + 1) f fd ["self"] (spBI ABook):=by
 refine F.okQ zcd (by rintro _ _ _ _ ⟨_,_,rfl,_⟩; rfl) fun cdv A outer s H vs Q E hr h=>?_
 obtain ⟨p,dx,rfl,hp,q⟩:=h
 refine ⟨_,(zl (zdn (pv 0) zaZ rfl)),?_⟩
 refine fun d hd=>⟨_,rfl,p,ABook,dx,[],rfl,?_,clB,nP,(by show 0 < 1000; decide),?_⟩
 ·rw [zr (zm hp hd)]; exact hp
 have n:p≠d:=zm hp hd
 refine q d _ hd ⟨⟨dx,zh.trans (congrArg (fun z=>some (HO.ins ABook dx z)) (znw d))⟩,?_⟩ (fun c o hc e=>?_)
 ·rw [zr n.symm,zh]
 ·rw [zr hc,zr (zm e hd)]
  exact e
theorem zff:FnScope ["self","name","paper"] ["self","name","paper"] (zn ZO):=mkSc rfl (by decide +kernel)
theorem zfg (F:Fun K "keep" "Book.keep" ZO f fd) (clB:Cls K ABook) (nP:Z6 K ABook "papers"):FnOk P w K mg base CX0 (k + 1) f fd ["self","name","paper"] (zgG ABook):=by
 refine F.okQ zff (by rintro _ _ _ _ ⟨_,_,_,_,_,rfl,_⟩; rfl) fun cdv A outer s H vs Q E hr h=>?_
 obtain ⟨p,d,kvs,z,v,rfl,bk,few,q⟩:=h
 refine ⟨_,(zl (zbJ (zcB hr) (zae (pv 0) rfl) (pv 1) (pv 2) rfl)),?_⟩
 obtain ⟨dx,ei⟩:=bk.ins
 exact ⟨_,rfl,_,rfl,p,ABook,dx,_,.ref d,rfl,ei,clB,nP,rfl,_,rfl,d,_,rfl,.inl ⟨kvs,.inr z,bk.dk,rfl,Nat.lt_of_lt_of_le few (by decide),rfl⟩,q⟩
theorem zcf:FnScope ["self","name"] ["self","name"] (zn Zd):=mkSc rfl (by decide +kernel)
theorem zcg (F:Fun K "paper_of" "Book.paper_of" Zd f fd) (clB:Cls K ABook) (nP:Z6 K ABook "papers"):FnOk P w K mg base CX0 (k + 1) f fd ["self","name"] (zmg ABook):=by
 refine F.okQ zcf (by rintro _ _ _ _ ⟨_,_,_,_,rfl,_⟩; rfl) fun cdv A outer s H vs Q E hr h=>?_
 obtain ⟨p,d,kvs,z,rfl,bk,q⟩:=h
 refine ⟨_,(zl (zq (zck (zcB hr) (zae (pv 0) rfl) (pv 1) ⟨rfl,rfl,rfl,rfl⟩))),?_⟩
 obtain ⟨dx,ei⟩:=bk.ins
 exact ⟨_,rfl,p,ABook,dx,_,.ref d,rfl,ei,clB,nP,rfl,d,rfl,.inl ⟨kvs,.inl bk.dk⟩,_,rfl,_,.inl ⟨kvs,.inr z,.inl bk.dk,rfl,rfl⟩,q⟩
theorem zb5:FnScope ["self","other"] ["self"] (zn ZP):=mkSc rfl (by decide +kernel)
theorem zfh (F:Fun K "copy" "Book.copy" ZP f fd) (G_Book___init__:zbk P w K mg base ABook "Book" k ["self"] (spBI ABook)) (m_dict:mg "dict" = none) (clB:Cls K ABook) (nP:Z6 K ABook "papers"):FnOk P w K mg base CX0 (k + 1) f fd ["self"] (zf6 ABook):=by
 refine F.okQ zb5 (by rintro _ _ _ _ ⟨_,_,_,rfl,_⟩; rfl) fun cdv A outer s H vs Q E hr h=>?_
 obtain ⟨p,d,kvs,rfl,bk,q⟩:=h
 refine ⟨_,(zi (zw (i:=1) zb5.nd rfl (Or.inl rfl) (zcX G_Book___init__ hr rfl))
  (zi (zdn (pv 1) (zE zaq rfl m_dict zay (zc (zae (pv 0) rfl) zd)) rfl)
  (zl (zq (pv 1))))),?_⟩
 obtain ⟨dx,ei⟩:=bk.ins
 refine znx (zjp fun p1 d1 H1 b1 s1 hp1 hd1=>?_)
 obtain ⟨dx1,i1⟩:=b1.ins
 dsimp only [ZD]
 refine ⟨_,rfl,p,ABook,dx,_,.ref d,rfl,s1 _ _ ei,clB,nP,rfl,d,kvs,rfl,s1 _ _ bk.dk,fun d2 hd2=>?_⟩
 have n2:p1≠d2:=zm i1 hd2
 refine ⟨_,rfl,p1,ABook,dx1,_,rfl,(zr n2).trans i1,clB,nP,(by show 1 < 1000; decide),?_⟩
 refine ⟨_,rfl,q p1 d2 _ (fun c o e=>?_) hp1 (s1.free hd2) ⟨⟨dx1,zh.trans (congrArg (fun z=>some (HO.ins ABook dx1 z)) (zmh d1 d2))⟩,?_⟩⟩
 ·rw [zr (zm e hp1),zr (zm (s1 _ _ e) hd2)]
  exact s1 _ _ e
 ·rw [zr n2.symm,zh]
end
end D
namespace L2
open PySem
def zk3 (H₀:Hp) (t:TS):TS:=fun D σ H=>t { D with rt:=fun v H'=>∃ a o kvs,H' a = some (.frz o (.dK kvs))/\(∀ o u,H₀ a≠some (.frz o u))/\D.rt v (upd H' a (.dK kvs)) } σ H
theorem zbH {X:Cx}{st:Stmt}{t:TS} (h:PS X st t):PS X st (zk3 X.H₀ t):=by
 intro zp s σ H D I ht
 refine thn (h zp s σ H _ I ht) fun f s' hs=>?_
 cases f with
 | next=>exact hs
 | brk=>exact hs
 | cont=>exact hs
 | ret u=>
  obtain ⟨v,σ',H',I',r,a,o,kvs,e,h0,q⟩:=hs
  exact ⟨v,σ',_,I'.thaw e h0,r,q⟩
theorem zkt {fr:List Nat}{te:TE}{σ:St}{H:Hp}{F:Addr->Hp->List V->Prop}{a:Addr}{kvs:List (Key × V)}{o:Obj} (outs:List V) (hl:outs.length = kvs.length) (hz:kvs.length<=sizeLine) (hS:H a = some (.frz o (.dK kvs)))
  (step:∀ (i:Nat) (kv:Key × V) (y:V) (H1:Hp) (R:VK),kvs[i]? = some kv->outs[i]? = some y->Same H H1->(∀ H2,Same H1 H2->R y H2)->te (some (kV kv.1) :: frees fr σ) H1 R)
  (fin:∀ (H1:Hp) (D:Addr),Same H H1->H1 D = none->F D H1 outs):
  ∃ W:Nat->Nat->List V->Hp->Prop,(∃ m,W 0 m [] H)/\∀ i m vs H,W i m vs H->vs.length<=sizeLine /\
   (((Itd a kvs o).stop i H/\∀ D,H D = none->F D H vs) \/
    ((Itd a kvs o).go i H/\∀ v H',(Itd a kvs o).yld i H v H'->if true = true then te (some v :: frees fr σ) H' fun y H3=>∃ m',m' < m/\W (i + 1) m' (vs ++ [y]) H3 else ∃ m',m' < m/\W (i + 1) m' vs H')):=by
 refine ⟨fun i m us H1=>i<=kvs.length/\m = kvs.length - i/\us = outs.take i/\Same H H1,⟨_,Nat.zero_le _,rfl,by simp,Same.refl _⟩,fun i m us H1 hW=>?_⟩
 obtain ⟨hi,hm,rfl,sm⟩:=hW
 refine ⟨by rw [List.length_take]; omega,?_⟩
 by_cases hlt:i < kvs.length
 ·refine .inr ⟨⟨sm _ _ hS,hlt⟩,fun v H' hy=>?_⟩
  obtain ⟨rfl,kv,hkv,rfl⟩:=hy
  have hy:outs[i]? = some outs[i]:=List.getElem?_eq_getElem (by omega)
  refine iteT (step i kv outs[i] H' _ hkv hy sm fun H2 s2=>⟨kvs.length - (i + 1),by omega,by omega,rfl,?_,sm.trans s2⟩)
  rw [zal hy]
 ·have e:i = kvs.length:=by omega
  subst e
  exact .inl ⟨⟨sm _ _ hS,Nat.le_refl _⟩,fun D hD=>by rw [List.take_of_length_le (by omega)]; exact fin H1 D sm hD⟩
theorem zny:isi "dict" "dict" = some true:=by decide +kernel
end L2
namespace D
open PySem L2
theorem zbH {X:Cx}{st:Stmt}{t:TS} (h:QS X st t):QS X st (zk3 X.H₀ t):=⟨L2.zbH h.un⟩
def Tq (H H':Hp):Prop:=∀ c xs,L2.Rd H c (.tup xs)->L2.Rd H' c (.tup xs)
theorem Tq.trans {H H' H'':Hp} (a:Tq H H') (b:Tq H' H''):Tq H H'':=fun c xs h=>b c xs (a c xs h)
theorem zjq {H H':Hp} (s:Same H H'):Tq H H':=fun c xs h=>by
 rcases h with h | ⟨o,h⟩
 ·exact .inl (s _ _ h)
 ·exact .inr ⟨o,s _ _ h⟩
theorem zk4 {H H':Hp}{d:Addr} (hd:∀ xs,¬ L2.Rd H d (.tup xs)) (k:∀ c o,c≠d->H c = some o->H' c = some o):Tq H H':=fun c xs h=>by
 have n:c≠d:=fun z=>hd xs (z ▸ h)
 rcases h with h | ⟨o,h⟩
 ·exact .inl (k _ _ n h)
 ·exact .inr ⟨o,k _ _ n h⟩
theorem znz {H:Hp}{d:Addr}{kvs:Kvs} (e:H d = some (.dK kvs)) (xs:List V):¬ L2.Rd H d (.tup xs):=fun h=>by
 rcases h with h | ⟨o,h⟩ <;> rw [e] at h <;> cases h
theorem zdc {H:Hp}{d:Addr}{kvs:Kvs}{u:HO} (e:H d = some (.dK kvs)):Tq H (upd H d u):=zk4 (znz e) fun c o n h=>by rw [zr n]; exact h
theorem zmi {b:Addr}{H H':Hp} (hb:zP H b) (st:Step b H H'):Tq H H':=zk4 (fun xs h=>by
 obtain ⟨x,y,z,e⟩:=hb
 rcases h with h | ⟨o,h⟩ <;> rw [e] at h <;> cases h) st.keep
theorem RS.tq {K:PySem.W.Frag}{H H':Hp} (t:Tq H H') {v:V}{w:W} (h:RS K H v w):RS K H' v w:=by
 induction h with
 | num i=>exact .num i
 | txt x=>exact .txt x
 | lst e l _ ih=>
  refine .lst ?_ l ih
  rcases e with e | e
  ·exact .inl (t _ _ e)
  ·exact .inr e
structure Kt (K:PySem.W.Frag) (H:Hp) (kvs:Kvs) (n:Nat):Prop where
 ks:∃ ds:List Str,kvs.map (·.1) = ds.map Sum.inr
 pv:∀ kv∈kvs,∃ x:W,RS K H kv.2 x/\x.depth < 69
 few:kvs.length<=n
theorem Kt.tq {K:PySem.W.Frag}{H H':Hp}{kvs:Kvs}{n:Nat} (h:Kt K H kvs n) (t:Tq H H'):Kt K H' kvs n:=⟨h.ks,fun kv m=>let ⟨x,r,d⟩:=h.pv kv m; ⟨x,RS.tq t r,d⟩,h.few⟩
theorem Kt.same {K:PySem.W.Frag}{H H':Hp}{kvs:Kvs}{n:Nat} (h:Kt K H kvs n) (s:Same H H'):Kt K H' kvs n:=h.tq (zjq s)
theorem zmj {S:Kvs}{k:Key}{v:V}{p:Key × V} (h:p∈putK S k v):p.2 = v\/p∈S:=by
 unfold putK at h
 split at h
 ·obtain ⟨q,hq,e⟩:=List.mem_map.mp h
  split at e
  ·left; rw [← e]
  ·right; rw [← e]; exact hq
 ·rcases List.mem_append.mp h with h | h
  ·right; exact h
  ·left; rw [List.mem_singleton.mp h]
theorem zku {S:Kvs}{z:Str}{v:V} (h:∃ ds:List Str,S.map (·.1) = ds.map Sum.inr):∃ ds:List Str,(putK S (.inr z) v).map (·.1) = ds.map Sum.inr:=by
 obtain ⟨ds,e⟩:=h
 unfold putK
 split
 ·refine ⟨ds,?_⟩
  rw [List.map_map,← e]
  refine List.map_congr_left fun kv _=>?_
  show (if kv.1 = Sum.inr z then (kv.1,v) else kv).1 = kv.1
  split <;> rfl
 ·exact ⟨ds ++ [z],by rw [List.map_append,List.map_append,e]; rfl⟩
theorem Kt.put {K:PySem.W.Frag}{H:Hp}{kvs:Kvs}{n:Nat} (h:Kt K H kvs n) {z:Str}{v:V}{x:W} (r:RS K H v x) (d:x.depth < 69):Kt K H (putK kvs (.inr z) v) (n + 1):=
 ⟨zku h.ks,fun kv m=>by
  rcases zmj m with e | m
  ·rw [e]; exact ⟨x,r,d⟩
  ·exact h.pv kv m,Nat.le_trans (zaf _ _ _) (Nat.succ_le_succ h.few)⟩
theorem Kt.val {K:PySem.W.Frag}{H:Hp}{kvs:Kvs}{n:Nat} (h:Kt K H kvs n) {k:Key}{v:V} (e:valV kvs k = some v):∃ x:W,RS K H v x/\x.depth < 69:=by
 unfold valV at e
 obtain ⟨kv,hf,rfl⟩:=Option.map_eq_some_iff.mp e
 exact h.pv kv (List.mem_of_find?_eq_some hf)
theorem Kt.both {K:PySem.W.Frag}{H:Hp}{kvs:Kvs}{n:Nat} (h:Kt K H kvs n) (k:Key):((valV kvs k).getD .non = .non/\(valV kvs k).getD .non = V.non/\0 < 70)\/∃ x:W,RS K H ((valV kvs k).getD .non) x/\RS K H ((valV kvs k).getD .non) x/\x.depth < 70:=by
 cases e:valV kvs k with
 | none=>exact .inl ⟨rfl,rfl,by decide⟩
 | some v=>
  obtain ⟨x,r,d⟩:=h.val e
  exact .inr ⟨x,r,r,by omega⟩
theorem zmk {kvs:Kvs}{kv:Key × V} (h:kv∈kvs):∃ v,valV kvs kv.1 = some v:=by
 cases e:valV kvs kv.1 with
 | none=>exact absurd (List.mem_map.mpr ⟨kv,h,rfl⟩) (zjL e)
 | some v=>exact ⟨v,rfl⟩
theorem zjr {H:Hp} (ss:List Str):RWs H (ss.map V.str) (ss.map W.txt):=⟨by simp,fun i v w hv hw=>by
 rw [List.getElem?_map] at hv hw
 obtain ⟨y,hy,rfl⟩:=Option.map_eq_some_iff.mp hv
 rw [hy] at hw
 cases hw
 exact .txt _⟩
theorem zml (ss:List Str):depths (ss.map W.txt) = 0:=by
 induction ss with
 | nil=>rfl
 | cons x r ih=>rw [List.map_cons,depths,ih,W.depth]; rfl
def zf7 (K:PySem.W.Frag) (AB:Addr):Sp:=fun vs H Q _=>∃ (p d kd l:Addr) (kvs:Kvs) (names:List Str) (n:Nat),vs = [.ref p,.ref kd,.ref l]/\Bk AB H p d kvs/\H kd = some (.dK kvs)/\kd≠d/\H l = some (.lst (names.map V.str))/\names.length<=15/\Kt K H kvs n/\n<=60/\∀ H',Same H H'->Q (.bl true) H'
section
variable {P:Program}{w:World}{K:PySem.W.Frag}{mg:Str->Option Value}{base:Heap}{f:Addr}{fd:FuncData}{k n:Nat}{ARun ABook:Addr}
theorem zfi:FnScope ["_law_book","_law_kept","_law_names_here","_law_name"] ["_law_book","_law_kept","_law_names_here"] (zn zdY):=mkSc rfl (by decide +kernel)
theorem zjs (F:Fun K "_law_right" "_law_right" zdY f fd) (G_lalike:Have P w K mg base "_law_alike" k ["_law_one","_law_other"] (spAl K 70)) (G_Book_paper_of:zaI P w K mg base ABook "paper_of" k ["self","name"] (zmg ABook)) (m_all:mg "all" = none) (m_dict:mg "dict" = none) (m_isi:mg "isinstance" = none) (m_sorted:mg "sorted" = none) (clB:Cls K ABook) (nP:Z6 K ABook "papers"):FnOk P w K mg base CX0 (k + 1) f fd ["_law_book","_law_kept","_law_names_here"] (zf7 K ABook):=by
 refine F.okQ zfi (by rintro _ _ _ _ ⟨_,_,_,_,_,_,_,rfl,_⟩; rfl) fun cdv A outer s H vs Q E hr h=>?_
 obtain ⟨p,d,kd,l,kvs,names,n,rfl,bk,ek,nkd,el,hnl,kt,hn,q⟩:=h
 refine ⟨_,(zi (zJ (PW.pt (zb6 (Zh (zQ (zu Zo rfl m_isi zO (zc (zae (pv 0) rfl) (zc (ZM rfl m_dict zay) zd))))) (zaR (zB (zlJ hr.units) (zu (zaP rfl) rfl m_sorted PyProof.Rows.boot_sorted (zc (zae (pv 0) rfl) zd)) (zu (zaP rfl) rfl m_sorted PyProof.Rows.boot_sorted (zc (pv 1) zd)) (nomark _))))) (zl (zbH (zq zcq))) zx)
  (zi (zau PassesOwn.never rfl (zat (zF zeH (pv 2) (zL (zc zo (zc zo (zc zo zd)))))) (zV (i:=3) zfi.nd rfl (Or.inl rfl)) (zl (zJ (Zh (zQ (zt G_lalike hr rfl (zc (zck (zcB hr) (pv 1) (pv 3) ⟨rfl,rfl,rfl,rfl⟩) (zc (pe_m G_Book_paper_of hr (pv 0) (zc (pv 3) zd)) zd))))) (zl (zbH (zq zcq))) zx)))
  (zl (zbH (zq (zu (ZY rfl) rfl m_all zbv (zc (Zx [1,0] ["_law_kept","_law_book"] rfl rfl (by decide +kernel) rfl (by decide +kernel) rfl (by decide +kernel) ⟨rfl,rfl,trivial⟩ rfl ⟨⟨rfl,rfl,Or.inr (Or.inl rfl),(by show (some NameKind.cell:Option NameKind)≠some .local; decide),⟨_,rfl⟩⟩,⟨rfl,rfl,Or.inr (Or.inl rfl),(by show (some NameKind.cell:Option NameKind)≠some .local; decide),⟨_,rfl⟩⟩,trivial⟩ (zfG (pv 1)) (fun C s H fp=>⟨Zn,(zt G_lalike hr rfl (zc (zbb (zcB hr) (pv 1) (pv 0) (fun _ _=>rfl)) (zc (zbb (zcB hr) (zlI (K:=K) rfl (pv 2) rfl) (pv 0) (fun _ _=>rfl)) zd)))⟩)) zd))))))),?_⟩
 obtain ⟨dx,ei⟩:=bk.ins
 obtain ⟨ds,hds⟩:=kt.ks
 have few:=kt.few
 have hdl:ds.length < 64:=by
  have:=congrArg List.length hds
  rw [List.length_map,List.length_map] at this
  omega
 refine ⟨_,rfl,p,ABook,dx,_,.ref d,rfl,ei,clB,nP,rfl,_,_,_,_,rfl,.dK bk.dk,zny,_,rfl,iteF ?_⟩
 refine ⟨_,rfl,p,ABook,dx,_,.ref d,rfl,ei,clB,nP,rfl,d,kvs,ds,rfl,bk.dk,hds,hdl,fun l1 s1 hl1 p1 t1=>?_⟩
 have a1:=Same.new (o:=.lst (s1.map V.str)) hl1
 refine ⟨_,rfl,kd,kvs,ds,rfl,a1 _ _ ek,hds,hdl,fun l2 s2 hl2 p2 t2=>?_⟩
 obtain rfl:s1 = s2:=zg9 t1 t2 (p1.trans p2.symm)
 have a2:=Same.new (o:=.lst (s1.map V.str)) hl2
 refine ⟨l1,l2,_,_,s1.map W.txt,rfl,rfl,SqL.of (a2 _ _ zh),SqL.of zh,zjr _,zjr _,by rw [zml]; decide,_,rfl,iteF ?_⟩
 have a12:=a1.trans a2
 generalize upd (upd H l1 (.lst (s1.map V.str))) l2 (.lst (s1.map V.str)) = H2 at a12
 refine ⟨_,rfl,zl3,fun l3 hl3=>?_⟩
 have a3:=a12.trans (Same.new (o:=.lst [.str "",.str "no.one",.str "a"]) hl3)
 refine ⟨l,l3,names.map V.str,[.str "",.str "no.one",.str "a"],rfl,rfl,a3 _ _ el,zh,small (by rw [List.length_map]; show names.length + 3<=_; omega),fun l4 hl4=>?_⟩
 have a4:=a3.trans (Same.new (o:=.lst (names.map V.str ++ [.str "",.str "no.one",.str "a"])) hl4)
 have e4:upd (upd H2 l3 (.lst [.str "",.str "no.one",.str "a"])) l4 (.lst (names.map V.str ++ [.str "",.str "no.one",.str "a"])) l4 = some (.lst ((names ++ [Str.ofString "","no.one","a"]).map V.str)):=by rw [zh,List.map_append]; rfl
 refine ⟨l4,rfl,⟨_,SqL.of e4⟩,?_⟩
 generalize upd (upd H2 l3 (.lst [.str "",.str "no.one",.str "a"])) l4 (.lst (names.map V.str ++ [.str "",.str "no.one",.str "a"])) = H4 at a4 e4
 refine zci (K:=K) (xs:=(names ++ [Str.ofString "","no.one","a"]).map V.str) (fun i σ' H'=>∃ o3:Option V,σ' = [some (.ref p),some (.ref kd),some (.ref l),o3]/\Same H4 H') ⟨none,rfl,Same.refl _⟩ (fun i σ' H' _ h=>?_) (fun i x σ' H' hx h=>?_) (fun σ' H' h=>?_)
 ·obtain ⟨_,_,s⟩:=h
  exact SqL.of (s _ _ e4)
 ·obtain ⟨o3,rfl,s⟩:=h
  rw [List.getElem?_map] at hx
  obtain ⟨z,_,rfl⟩:=Option.map_eq_some_iff.mp hx
  have aH:=a4.trans s
  have ekH:=aH _ _ ek
  have bkH:=bk.same aH
  exact ⟨_,rfl,kd,rfl,.inl ⟨kvs,.inl ekH⟩,_,rfl,_,.inl ⟨kvs,.inr z,.inl ekH,rfl,rfl⟩,_,rfl,p,dx,_,rfl,aH _ _ ei,rfl,_,rfl,p,d,kvs,z,rfl,bkH,_,_,rfl,(kt.same aH).both _,fun H5 s5=>⟨_,rfl,iteF ⟨_,rfl,s.trans s5⟩⟩⟩
 ·obtain ⟨o3,rfl,s⟩:=h
  have aH:=a4.trans s
  have ekH:=aH _ _ ek
  have bkH:=bk.same aH
  have ktH:=kt.same aH
  refine ⟨_,rfl,kd,kvs,rfl,ekH,fun o hfz=>?_⟩
  have ef:upd H' kd (.frz o (.dK kvs)) kd = some (.frz o (.dK kvs)):=zh
  have back:∀ {G:Hp},Same (upd H' kd (.frz o (.dK kvs))) G->Same H' (upd G kd (.dK kvs)):=fun {G} s c o' e=>by
   by_cases ec:c = kd
   ·rw [ec,ekH] at e
    cases e
    rw [ec]
    exact zh
   ·rw [zr ec]
    exact s _ _ (by rw [zr ec]; exact e)
  have bkF:Bk ABook (upd H' kd (.frz o (.dK kvs))) p d kvs:=bkH.keep (fun o' e=>by
   rw [zr (fun z=>by obtain ⟨dx',e'⟩:=bkH.ins; rw [z,ekH] at e'; cases e')]; exact e) (fun o' e=>by rw [zr nkd.symm]; exact e)
  have ktF:=ktH.tq (zdc (u:=.frz o (.dK kvs)) ekH)
  obtain ⟨dxF,eiF⟩:=bkF.ins
  generalize upd H' kd (.frz o (.dK kvs)) = H5 at ef back bkF ktF eiF
  refine zkt (a:=kd) (o:=o) (kvs:=kvs) (kvs.map fun _=>V.bl true) (by simp) (small (by omega)) ef (fun i kv y H6 R hkv hy s6 r=>?_) fun H6 D s6 hD=>?_
  ·rw [List.getElem?_map,hkv] at hy
   cases hy
   obtain ⟨v,hv⟩:=zmk (List.mem_of_getElem? hkv)
   obtain ⟨x,rx,dxx⟩:=(ktF.same s6).val hv
   exact ⟨_,rfl,_,rfl,kd,v,rfl,.inl ⟨kvs,kv.1,.inr ⟨o,s6 _ _ ef⟩,rfl,hv.symm⟩,_,rfl,p,ABook,dxF,_,.ref d,rfl,s6 _ _ eiF,clB,nP,rfl,_,rfl,d,v,rfl,.inl ⟨kvs,kv.1,.inl (s6 _ _ bkF.dk),rfl,hv.symm⟩,_,_,rfl,.inr ⟨x,rx,rx,by omega⟩,r⟩
  ·refine ⟨D,kvs.map fun _=>true,rfl,SqL.of ?_,?_⟩
   ·rw [zh,List.map_map]; rfl
   ·rw [show ((kvs.map fun _=>true).all id) = true by simp]
    exact ⟨kd,o,kvs,Same.new hD _ _ (s6 _ _ ef),hfz,q _ (aH.trans (back (s6.trans (Same.new hD))))⟩
def zgH (K:PySem.W.Frag) (AB:Addr):Sp:=fun vs H Q _=>∃ (b p d kd l:Addr) (kvs:Kvs) (names:List Str) (n:Nat),vs = [.ref b,.ref p,.ref kd,.ref l]/\zP H b/\Bk AB H p d kvs/\H kd = some (.dK kvs)/\kd≠d/\H l = some (.lst (names.map V.str))/\l≠b/\NmOk names/\Kt K H kvs n/\n<=50 /\
 ∀ (kd':Addr) (kvs':Kvs) (H':Hp),H kd' = none->Bk AB H' p d kvs'->H' kd' = some (.dK kvs')->Kt K H' kvs' (n + 2)->(∀ c o,c≠b->c≠d->H c = some o->H' c = some o)->Q (.ref kd') H'
theorem zjt {H:Hp}:Fo H [] []:=⟨⟨rfl,fun i v w e=>by simp at e⟩,fun r h=>(nomatch h),fun r h=>(nomatch h),Nat.zero_le _⟩
theorem zju {x:Ex} (hs:(ev [] x e0 []).1.res≠.stop):(ev [] x e0 []).2.length = ([]:List Res).length:=by
 have:(ev [] x e0 []).2.length<=0:=((zjt (H:=fun _=>none)).cs x).s0 hs
 show _ = 0
 omega
theorem ZV:FnScope ["_law_box_here","_law_book","_law_kept","_law_names_here","_law_other","_law_mine","_law_theirs","_law_some","_law_part","_law_name"] ["_law_box_here","_law_book","_law_kept","_law_names_here"] (zn zcS):=mkSc rfl (by decide +kernel)
theorem zht (F:Fun K "_law_copied" "_law_copied" zcS f fd) (G_lright:Have P w K mg base "_law_right" k ["_law_book","_law_kept","_law_names_here"] (zf7 K ABook)) (G_Book_keep:zaI P w K mg base ABook "keep" k ["self","name","paper"] (zgG ABook)) (G_lgrown:Have P w K mg base "_law_grown" k ["_law_box_here","_law_rule_here","_law_founds"] (zf4 K)) (G_lrule:Have P w K mg base "_law_rule" k ["_law_box_here","_law_names_here"] (zjh)) (G_ltake:Have P w K mg base "_law_take" k ["_law_box_here","_law_wide"] (Z7)) (G_Book_copy:zaI P w K mg base ABook "copy" k ["self"] (zf6 ABook)) (m_dict:mg "dict" = none) (m_len:mg "len" = none):FnOk P w K mg base CX0 (k + 1) f fd ["_law_box_here","_law_book","_law_kept","_law_names_here"] (zgH K ABook):=by
 refine F.okQ ZV (by rintro _ _ _ _ ⟨_,_,_,_,_,_,_,_,rfl,_⟩; rfl) fun cdv A outer s H vs Q E hr h=>?_
 obtain ⟨b,p,d,kd,l,kvs,names,n,rfl,hb,bk,ek,nkd,el,nlb,nm,kt,hn,q⟩:=h
 refine ⟨_,(zi (zw (i:=4) ZV.nd rfl (Or.inl rfl) (zlH G_Book_copy hr (pv 1)))
  (zi (zw (i:=5) ZV.nd rfl (Or.inl rfl) (zE zaq rfl m_dict zay (zc (pv 2) zd)))
  (zi (zw (i:=6) ZV.nd rfl (Or.inl rfl) (zE zaq rfl m_dict zay (zc (pv 2) zd)))
  (zi (zau PassesOwn.never rfl (zat (zL (zc (zA (zc (pv 1) (zc (pv 5) zd))) (zc (zA (zc (pv 4) (zc (pv 6) zd))) zd)))) (zbn rfl (Zt (zV (i:=7) ZV.nd rfl (Or.inl rfl)) (Zt (zV (i:=8) ZV.nd rfl (Or.inl rfl)) zba))) (zi (zw (i:=9) ZV.nd rfl (Or.inl rfl) (zD zy (pv 3) (zt G_ltake hr rfl (zc (pv 0) (zc (zu zM rfl m_len PySem.boot_len (zc (pv 3) zd)) zd))) (fun _ _=>rfl)))
  (zi (zbJ (zcB hr) (pv 8) (pv 9) (zt G_lgrown hr rfl (zc (pv 0) (zc (zt G_lrule hr rfl (zc (pv 0) (zc (pv 3) zd))) (zc (zL zd) zd)))) rfl)
  (zl (ZN (pe_m G_Book_keep hr (pv 7) (zc (pv 9) (zc (zbb (zcB hr) (pv 8) (pv 9) (fun _ _=>rfl)) zd))))))))
  (zi (zJ (PW.pt (zb6 (Zh (zQ (zt G_lright hr rfl (zc (pv 4) (zc (pv 6) (zc (pv 3) zd)))))) (zaR (Zh (zQ (zt G_lright hr rfl (zc (pv 1) (zc (pv 5) (zc (pv 3) zd))))))))) (zl (zq zen)) zx)
  (zl (zq (pv 5)))))))),?_⟩
 obtain ⟨dx,ei⟩:=bk.ins
 have hpos:0 < names.length:=List.length_pos_iff.mpr nm.1
 have hn15:=nm.2.1
 refine ⟨_,rfl,p,dx,_,rfl,ei,rfl,p,d,kvs,rfl,bk,fun p2 d2 H1 s1 hp2 hd2 b2=>?_⟩
 dsimp only [ZD]
 refine ⟨_,rfl,kd,kvs,rfl,s1 _ _ ek,fun m hm=>?_⟩
 have s2:=s1.trans (Same.new (o:=.dK kvs) hm)
 have em:upd H1 m (.dK kvs) m = some (.dK kvs):=zh
 have b22:=b2.same (Same.new (o:=.dK kvs) hm)
 have nmd2:m≠d2:=(zm b2.dk hm).symm
 have hm0:=s1.free hm
 generalize upd H1 m (.dK kvs) = H2 at s2 em b22
 refine ⟨_,rfl,kd,kvs,rfl,s2 _ _ ek,fun t ht=>?_⟩
 have s3:=s2.trans (Same.new (o:=.dK kvs) ht)
 have et:upd H2 t (.dK kvs) t = some (.dK kvs):=zh
 have em3:=Same.new (o:=.dK kvs) ht _ _ em
 have b23:=b22.same (Same.new (o:=.dK kvs) ht)
 have ntd2:t≠d2:=(zm b22.dk ht).symm
 have nmt:m≠t:=zm em ht
 have ht0:=s2.free ht
 generalize upd H2 t (.dK kvs) = H3 at s3 et em3 b23
 refine ⟨_,rfl,_,rfl,zl2,fun t1 ht1=>?_⟩
 have s4:=Same.new (o:=.tup [.ref p,.ref m]) ht1
 have e1:upd H3 t1 (.tup [.ref p,.ref m]) t1 = some (.tup [.ref p,.ref m]):=zh
 generalize upd H3 t1 (.tup [.ref p,.ref m]) = H4 at s4 e1
 refine ⟨_,rfl,_,rfl,zl2,fun t2 ht2=>?_⟩
 have s5:=Same.new (o:=.tup [.ref p2,.ref t]) ht2
 have e2:upd H4 t2 (.tup [.ref p2,.ref t]) t2 = some (.tup [.ref p2,.ref t]):=zh
 have e15:=s5 _ _ e1
 have s45:=s4.trans s5
 generalize upd H4 t2 (.tup [.ref p2,.ref t]) = H5 at s5 e2 e15 s45
 refine ⟨zl2,fun lt hlt=>?_⟩
 have s6:=Same.new (o:=.lst [.ref t1,.ref t2]) hlt
 have elt:upd H5 lt (.lst [.ref t1,.ref t2]) lt = some (.lst [.ref t1,.ref t2]):=zh
 have e16:=s6 _ _ e15
 have e26:=s6 _ _ e2
 have s36:=s45.trans s6
 have s06:=s3.trans s36
 have nltb:lt≠b:=by
  obtain ⟨x,y,z,e⟩:=hb
  exact (zm ((s3.trans s45) _ _ e) hlt).symm
 refine ⟨lt,rfl,⟨_,SqL.of elt⟩,?_⟩
 generalize upd H5 lt (.lst [.ref t1,.ref t2]) = H6 at s6 elt e16 e26 s36 s06
 have hb6:zP H6 b:=by obtain ⟨x,y,z,e⟩:=hb; exact ⟨x,y,z,s06 _ _ e⟩
 have nd2d:d2≠d:=(zm bk.dk hd2).symm
 have nmd:m≠d:=(zm bk.dk hm0).symm
 have ntd:t≠d:=(zm bk.dk ht0).symm
 refine zci (K:=K) (xs:=[.ref t1,.ref t2]) (fun i σ' H'=>∃ (o7 o8 o9:Option V) (kA kB:Kvs),σ' = [some (.ref b),some (.ref p),some (.ref kd),some (.ref l),some (.ref p2),some (.ref m),some (.ref t),o7,o8,o9]/\zP H' b/\(∀ c o,c≠b->c≠d->H c = some o->H' c = some o)/\H' lt = some (.lst [.ref t1,.ref t2])/\H' t1 = some (.tup [.ref p,.ref m])/\H' t2 = some (.tup [.ref p2,.ref t])/\Bk ABook H' p d kA/\H' m = some (.dK kA)/\Bk ABook H' p2 d2 kB/\H' t = some (.dK kB)/\Kt K H' kA (n + i)/\Kt K H' kB (n + i)) ⟨none,none,none,kvs,kvs,rfl,hb6,fun c o _ _ e=>s06 _ _ e,elt,e16,e26,bk.same s06,s36 _ _ em3,b23.same s36,s36 _ _ et,kt.same s06,kt.same s06⟩ (fun i σ' H' _ h=>?_) (fun i x σ' H' hx h=>?_) (fun σ' H' h=>?_)
 ·obtain ⟨_,_,_,_,_,_,_,_,e,_⟩:=h
  exact SqL.of e
 ·obtain ⟨o7,o8,o9,kA,kB,rfl,hbH,kp,eltH,e1H,e2H,bA,eA,bB,eB,ktA,ktB⟩:=h
  have elH:=kp l _ nlb (fun z=>by rw [z,bk.dk] at el; cases el) el
  have hi2:i < 2:=(List.getElem?_eq_some_iff.mp hx).1
  have nb:∀ {c:Addr}{o:HO},H' c = some o->(∀ x y z,o≠.lst [.int x,.int y,.int z])->c≠b:=fun {c o} e h z=>by
   obtain ⟨x,y,w',e'⟩:=hbH
   rw [z,e'] at e
   exact h x y w' (Option.some.inj e).symm
  have nbd:∀ {c:Addr}{kv:Kvs},H' c = some (.dK kv)->c≠b:=fun e=>nb e (fun _ _ _ z=>nomatch z)
  obtain ⟨tt,PP,DD,MM,kv,rfl,ett,bkP,eM,nMD,ktP,fin⟩:∃ (tt PP DD MM:Addr) (kv:Kvs),x = .ref tt/\H' tt = some (.tup [.ref PP,.ref MM])/\Bk ABook H' PP DD kv/\H' MM = some (.dK kv)/\MM≠DD/\Kt K H' kv (n + i)/\∀ (G:Hp) (kv':Kvs) (o7 o8 o9:Option V),zP G b->(∀ c o,c≠b->c≠DD->c≠MM->H' c = some o->G c = some o)->Tq H' G->Bk ABook G PP DD kv'->G MM = some (.dK kv')->Kt K G kv' (n + i + 1)->
    ∃ (u7 u8 u9:Option V) (kA kB:Kvs),[some (.ref b),some (.ref p),some (.ref kd),some (.ref l),some (.ref p2),some (.ref m),some (.ref t),o7,o8,o9] = [some (.ref b),some (.ref p),some (.ref kd),some (.ref l),some (.ref p2),some (.ref m),some (.ref t),u7,u8,u9]/\zP G b/\(∀ c o,c≠b->c≠d->H c = some o->G c = some o)/\G lt = some (.lst [.ref t1,.ref t2])/\G t1 = some (.tup [.ref p,.ref m])/\G t2 = some (.tup [.ref p2,.ref t])/\Bk ABook G p d kA/\G m = some (.dK kA)/\Bk ABook G p2 d2 kB/\G t = some (.dK kB)/\Kt K G kA (n + (i + 1))/\Kt K G kB (n + (i + 1)):=by
   have up:∀ {G:Hp}{kv:Kvs},Kt K H' kv (n + i)->Tq H' G->Kt K G kv (n + (i + 1)):=fun h t=>⟨(h.tq t).ks,(h.tq t).pv,Nat.le_trans h.few (by omega)⟩
   match i,hx with
   | 0,hx=>
    cases hx
    refine ⟨t1,p,d,m,kA,rfl,e1H,bA,eA,nmd,ktA,fun G kv' v7 v8 v9 hbG kG tq bG eG ktG=>?_⟩
    have k2:∀ {c:Addr}{o:HO},H' c = some o->c≠b->(∀ kv,o≠.dK kv)->G c = some o:=fun {c o} e n h=>kG c o n (fun z=>by rw [z,bA.dk] at e; exact h _ (Option.some.inj e).symm) (fun z=>by rw [z,eA] at e; exact h _ (Option.some.inj e).symm) e
    have k3:∀ {c:Addr}{kv:Kvs},c≠d->c≠m->H' c = some (.dK kv)->G c = some (.dK kv):=fun n1 n2 e=>kG _ _ (nbd e) n1 n2 e
    obtain ⟨dx2,i2⟩:=bB.ins
    exact ⟨v7,v8,v9,kv',kB,rfl,hbG,fun c o c1 c2 e=>kG c o c1 c2 (zm e hm0) (kp c o c1 c2 e),k2 eltH nltb (fun _ z=>nomatch z),k2 e1H (nb e1H fun _ _ _ z=>nomatch z) (fun _ z=>nomatch z),k2 e2H (nb e2H fun _ _ _ z=>nomatch z) (fun _ z=>nomatch z),bG,eG,⟨⟨dx2,k2 i2 (nb i2 fun _ _ _ z=>nomatch z) (fun _ z=>nomatch z)⟩,k3 nd2d nmd2.symm bB.dk⟩,k3 ntd nmt.symm eB,ktG,up ktB tq⟩
   | 1,hx=>
    cases hx
    refine ⟨t2,p2,d2,t,kB,rfl,e2H,bB,eB,ntd2,ktB,fun G kv' v7 v8 v9 hbG kG tq bG eG ktG=>?_⟩
    have k2:∀ {c:Addr}{o:HO},H' c = some o->c≠b->(∀ kv,o≠.dK kv)->G c = some o:=fun {c o} e n h=>kG c o n (fun z=>by rw [z,bB.dk] at e; exact h _ (Option.some.inj e).symm) (fun z=>by rw [z,eB] at e; exact h _ (Option.some.inj e).symm) e
    have k3:∀ {c:Addr}{kv:Kvs},c≠d2->c≠t->H' c = some (.dK kv)->G c = some (.dK kv):=fun n1 n2 e=>kG _ _ (nbd e) n1 n2 e
    obtain ⟨dx2,i2⟩:=bA.ins
    exact ⟨v7,v8,v9,kA,kv',rfl,hbG,fun c o c1 c2 e=>kG c o c1 (zm e hd2) (zm e ht0) (kp c o c1 c2 e),k2 eltH nltb (fun _ z=>nomatch z),k2 e1H (nb e1H fun _ _ _ z=>nomatch z) (fun _ z=>nomatch z),k2 e2H (nb e2H fun _ _ _ z=>nomatch z) (fun _ z=>nomatch z),⟨⟨dx2,k2 i2 (nb i2 fun _ _ _ z=>nomatch z) (fun _ z=>nomatch z)⟩,k3 nd2d.symm ntd.symm bA.dk⟩,k3 nmd2 nmt eA,bG,eG,up ktA tq,ktG⟩
   | j + 2,hx=>exact nomatch hx
  refine ⟨tt,_,rfl,SqT.of ett,rfl,_,_,rfl,_,_,rfl,rfl,?_⟩
  refine ⟨_,rfl,_,rfl,_,rfl,_,_,rfl,.inl ⟨_,SqL.of elH,rfl⟩,b,_,rfl,hbH,by rw [List.length_map]; omega,by rw [List.length_map]; omega,fun j G1 j0 j1 st1=>?_⟩
  rw [List.length_map] at j1
  obtain ⟨z,hzm,hat⟩:=zbF j0 j1
  refine ⟨l,_,j,_,rfl,rfl,SqL.of (st1.keep l _ nlb elH),hat,?_⟩
  dsimp only [ZD]
  refine ⟨_,rfl,_,rfl,_,rfl,b,l,names,rfl,st1.box,st1.keep l _ nlb elH,nlb,nm,fun u x G2 ru wf hi st2=>⟨zl0,fun le hle=>?_⟩⟩
  have st12:=st1.trans st2
  have sE:=Same.new (o:=.lst []) hle
  have nle:le≠b:=zP.ne st2.box hle
  have stE:=Step.ofSame' st2.box sE
  refine ⟨b,le,u,x,[],[],rfl,stE.box,ru.mono (zC sE),wf,hi,zh,nle,zjt,zju,fun pp rv us fs G3 st3 po=>?_⟩
  have stA:=(st12.trans stE).trans st3
  have kA3:∀ {c o},c≠b->H' c = some o->G3 c = some o:=fun n e=>stA.keep _ _ n e
  have eM3:=kA3 (nbd eM) eM
  have few:=ktP.few
  refine ⟨_,rfl,_,rfl,MM,_,rfl,.inl ⟨kv,.inr z,eM3,rfl,Nat.lt_of_le_of_lt (show kv.length<=1000 by omega) (by decide),rfl⟩,?_⟩
  obtain ⟨dxP,iP⟩:=bkP.ins
  have nPM:PP≠MM:=fun z=>by rw [z,eM] at iP; cases iP
  have nPD:=bkP.ne
  have iP3:=kA3 (nb iP fun _ _ _ z=>nomatch z) iP
  have eD3:=kA3 (nbd bkP.dk) bkP.dk
  have bk4:Bk ABook (upd G3 MM (.dK (putK kv (.inr z) (.ref pp)))) PP DD kv:=⟨⟨dxP,by rw [zr nPM]; exact iP3⟩,by rw [zr nMD.symm]; exact eD3⟩
  refine ⟨_,rfl,PP,dxP,_,rfl,(by rw [zr nPM]; exact iP3),rfl,_,rfl,_,rfl,_,rfl,MM,.ref pp,rfl,.inl ⟨_,.inr z,.inl zh,rfl,?_⟩,PP,DD,kv,z,.ref pp,rfl,bk4,by omega,?_⟩
  ·rw [zdJ,if_pos rfl]
  have tqA:Tq H' G3:=zmi hbH stA
  have tqB:=tqA.trans ((zdc (u:=.dK (putK kv (.inr z) (.ref pp))) eM3).trans (zdc (u:=.dK (putK kv (.inr z) (.ref pp))) bk4.dk))
  refine fin _ (putK kv (.inr z) (.ref pp)) _ _ _ ?_ (fun c o c1 c2 c3 e=>by rw [zr c2,zr c3]; exact kA3 c1 e) tqB ⟨⟨dxP,by rw [zr nPD,zr nPM]; exact iP3⟩,zh⟩ (by rw [zr nMD,zh]) ?_
  ·obtain ⟨x,y,w',e⟩:=stA.box
   refine ⟨x,y,w',?_⟩
   rw [zr (nbd bkP.dk).symm,zr (nbd eM).symm]
   exact e
  ·have dpp:=po.dp
   have:=(ktP.tq tqA).put (z:=z) po.rs (by omega)
   exact this.tq ((zdc (u:=.dK (putK kv (.inr z) (.ref pp))) eM3).trans (zdc (u:=.dK (putK kv (.inr z) (.ref pp))) bk4.dk))
 ·obtain ⟨o7,o8,o9,kA,kB,rfl,hbH,kp,eltH,e1H,e2H,bA,eA,bB,eB,ktA,ktB⟩:=h
  have elH:=kp l _ nlb (fun z=>by rw [z,bk.dk] at el; cases el) el
  refine ⟨_,rfl,_,rfl,_,rfl,p2,d2,t,l,kB,names,_,rfl,bB,eB,ntd2,elH,by omega,ktB,by show n + 2<=60; omega,fun G1 g1=>⟨_,rfl,iteF ?_⟩⟩
  refine ⟨_,rfl,_,rfl,_,rfl,p,d,m,l,kA,names,_,rfl,bA.same g1,g1 _ _ eA,nmd,g1 _ _ elH,by omega,ktA.same g1,by show n + 2<=60; omega,fun G2 g2=>⟨_,rfl,iteF ?_⟩⟩
  have g12:=g1.trans g2
  exact ⟨_,rfl,q m kA G2 hm0 (bA.same g12) (g12 _ _ eA) (ktA.same g12) (fun c o c1 c2 e=>g12 _ _ (kp c o c1 c2 e))⟩
def zkv (K:PySem.W.Frag):Sp:=fun vs H Q _=>∃ (a:Addr) (ns:List Int),vs = [.ref a]/\SqL K H a (ns.map V.int)/\ns.length<=63/\∀ H',Q (.bl true) H'
theorem zjv {K:PySem.W.Frag}{H:Hp}:Kt K H [] 0:=⟨⟨[],rfl⟩,(fun _ m=>nomatch m),Nat.le_refl _⟩
theorem znA {sp:Sp}{te:TE}{t:TA}{σ:St}{H:Hp}{Q:VK} (h:te σ H (fun v H1=>t σ H1 (fun vs H2=>sp (v :: vs ++ []) H2 Q E0))):zgQ sp [] E0 (zao te t) σ H Q:=h
theorem zaY:FnScope ["_law_script","_law_box_here","_law_names_here","_law_total","_law_at","_law_book","_law_kept","_law_k","_law_deed","_law_name"] ["_law_script"] (zn sLaw):=mkSc rfl (by decide +kernel)
theorem znB (F:Fun K "law" "law" sLaw f fd) (G_lright:Have P w K mg base "_law_right" k ["_law_book","_law_kept","_law_names_here"] (zf7 K ABook)) (G_Book___init__:zbk P w K mg base ABook "Book" k ["self"] (spBI ABook)) (G_lcopied:Have P w K mg base "_law_copied" k ["_law_box_here","_law_book","_law_kept","_law_names_here"] (zgH K ABook)) (G_lbox:Have P w K mg base "_law_box" k ["_law_script","_law_k"] (zmQ K)) (G_Book_keep:zaI P w K mg base ABook "keep" k ["self","name","paper"] (zgG ABook)) (G_lgrown:Have P w K mg base "_law_grown" k ["_law_box_here","_law_rule_here","_law_founds"] (zf4 K)) (G_lrule:Have P w K mg base "_law_rule" k ["_law_box_here","_law_names_here"] (zjh)) (G_ltake:Have P w K mg base "_law_take" k ["_law_box_here","_law_wide"] (Z7)) (G_lnames:Have P w K mg base "_law_names" k ["_law_box_here","_law_most"] (zjn)) (m_len:mg "len" = none) (m_range:mg "range" = none):FnOk P w K mg base CX0 (k + 1) f fd ["_law_script"] (zkv K):=by
 refine F.okQ zaY (by rintro _ _ _ _ ⟨_,_,rfl,_⟩; rfl) fun cdv A outer s H vs Q E hr h=>?_
 obtain ⟨a,ns,rfl,hS,hns,q⟩:=h
 refine ⟨_,(zi (zw (i:=1) zaY.nd rfl (Or.inl rfl) (zt G_lbox hr rfl (zc (pv 0) (zc zj zd))))
  (zi (zw (i:=2) zaY.nd rfl (Or.inl rfl) (zt G_lnames hr rfl (zc (pv 1) (zc zj zd))))
  (zi (zw (i:=3) zaY.nd rfl (Or.inl rfl) (zF Ze zj (zt G_ltake hr rfl (zc (pv 1) (zc zj zd)))))
  (zi (zw (i:=4) zaY.nd rfl (Or.inl rfl) (zt G_ltake hr rfl (zc (pv 1) (zc (pv 3) zd))))
  (zi (zw (i:=5) zaY.nd rfl (Or.inl rfl) (zcX G_Book___init__ hr rfl))
  (zi (zw (i:=6) zaY.nd rfl (Or.inl rfl) zaZ)
  (zi (zJ (Zh (zQ (zt G_lright hr rfl (zc (pv 5) (zc (pv 6) (zc (pv 2) zd)))))) (zl (zq zcq)) zx)
  (zi (zau PassesOwn.never rfl (Zq rfl m_range (zc (pv 3) zd)) (zV (i:=7) zaY.nd rfl (Or.inl rfl)) (zi (zw (i:=8) zaY.nd rfl (Or.inl rfl) (zt G_lbox hr rfl (zc (pv 0) (zc (zF Ze zj (pv 7)) zd))))
  (zi (zw (i:=9) zaY.nd rfl (Or.inl rfl) (zD zy (pv 2) (zt G_ltake hr rfl (zc (pv 8) (zc (zu zM rfl m_len PySem.boot_len (zc (pv 2) zd)) zd))) (fun _ _=>rfl)))
  (zi (zbJ (zcB hr) (pv 6) (pv 9) (zt G_lgrown hr rfl (zc (pv 8) (zc (zt G_lrule hr rfl (zc (pv 8) (zc (pv 2) zd))) (zc (zL zd) zd)))) rfl)
  (zi (ZN (pe_m G_Book_keep hr (pv 5) (zc (pv 9) (zc (zbb (zcB hr) (pv 6) (pv 9) (fun _ _=>rfl)) zd))))
  (zi (zJ (Zh (zQ (zt G_lright hr rfl (zc (pv 5) (zc (pv 6) (zc (pv 2) zd)))))) (zl (zq zcq)) zx)
  (zl (zJ (zB Za (pv 7) (pv 4) (nomark _)) (zi (zw (i:=6) zaY.nd rfl (Or.inl rfl) (zt G_lcopied hr rfl (zc (zt G_lbox hr rfl (zc (pv 0) (zc zj zd))) (zc (pv 5) (zc (pv 6) (zc (pv 2) zd))))))
  (zl (zJ (zbY (zcr (pv 6))) (zl (zq zcq)) zx))) zx))))))))
  (zl (zq (Z5 (zt G_lright hr rfl (zc (pv 5) (zc (pv 6) (zc (pv 2) zd)))) (zap (zt G_lright hr rfl (zc (zcX G_Book___init__ hr rfl) (zc zaZ (zc (pv 2) zd)))))))))))))))),?_⟩
 refine ⟨_,rfl,a,ns,1,rfl,hS,by decide,fun x1 f1 m1 b1 hb1=>?_⟩
 have hbox1:zP (upd H b1 (.lst [.int x1,.int f1,.int m1])) b1:=⟨_,_,_,zh⟩
 have s1:Same H (upd H b1 (.lst [.int x1,.int f1,.int m1])):=Same.new hb1
 generalize upd H b1 (.lst [.int x1,.int f1,.int m1]) = H1 at hbox1 s1
 have sS:∀ {G:Hp},Step b1 H1 G->Same H G:=fun st c o e=>st.keep c o (zm e hb1) (s1 _ _ e)
 dsimp only [ZD]
 refine ⟨_,rfl,b1,8,rfl,hbox1,by decide,by decide,fun l names H2 hl st2 el hne hnl hnm=>?_⟩
 have nlb:l≠b1:=zP.ne hbox1 hl
 have nm:NmOk names:=⟨hne,hnl,hnm⟩
 have hpos:0 < names.length:=List.length_pos_iff.mpr hne
 dsimp only [ZD]
 refine ⟨_,rfl,b1,11,rfl,st2.box,by decide,by decide,fun tt H3 t0 t1 st3=>⟨_,_,rfl,rfl,?_⟩⟩
 dsimp only [ZD]
 refine ⟨_,rfl,_,rfl,b1,2 + tt,rfl,st3.box,by omega,by omega,fun at' H4 u0 u1 st4=>?_⟩
 have st24:=(st2.trans st3).trans st4
 have el4:=(st3.trans st4).keep l _ nlb el
 have s4:=sS st24
 refine znx (zjp fun p d H5 bk s5 hp5 hd5=>?_)
 dsimp only [ZD]
 refine fun kd hkd=>?_
 have sk:=Same.new (o:=.dK []) hkd
 have s6:=s4.trans (s5.trans sk)
 have nkd:kd≠d:=(zm bk.dk hkd).symm
 have bk6:=bk.same sk
 have ek6:upd H5 kd (.dK []) kd = some (.dK []):=zh
 have el6:=sk _ _ (s5 _ _ el4)
 have hd0:H d = none:=s4.free hd5
 have hkd0:H kd = none:=(s4.trans s5).free hkd
 generalize upd H5 kd (.dK []) = H6 at s6 bk6 ek6 el6
 refine ⟨_,rfl,_,rfl,_,rfl,p,d,kd,l,[],names,0,rfl,bk6,ek6,nkd,el6,hnl,zjv,by decide,fun H7 s7=>⟨_,rfl,iteF ?_⟩⟩
 refine ⟨_,rfl,_,rfl,by omega,by omega,zbo (lo:=0) (n:=(2 + tt).toNat) (fun i σ' H'=>∃ (o7 o8 o9:Option V) (kd:Addr) (kvs:Kvs),σ' = [some (.ref a),some (.ref b1),some (.ref l),some (.int (2 + tt)),some (.int at'),some (.ref p),some (.ref kd),o7,o8,o9]/\Same H H'/\H kd = none/\kd≠d/\H' l = some (.lst (names.map V.str))/\Bk ABook H' p d kvs/\H' kd = some (.dK kvs)/\Kt K H' kvs (3 * i))
  ⟨none,none,none,kd,[],rfl,s6.trans s7,hkd0,nkd,s7 _ _ el6,bk6.same s7,s7 _ _ ek6,zjv⟩ (fun i σ' H' hi h=>?_) (fun σ' H' h=>?_)⟩
 ·obtain ⟨o7,o8,o9,kd,kvs,rfl,sm,hkd0,nkd,elH,bkH,ekH,kt⟩:=h
  have hi13:i < 13:=by omega
  have few:=kt.few
  dsimp only [ZD]
  refine ⟨_,rfl,_,rfl,_,_,rfl,rfl,a,ns,2 + (0 + (i:Int)),rfl,sm.seq hS,by omega,fun x2 f2 m2 b hb=>?_⟩
  have hbox:zP (upd H' b (.lst [.int x2,.int f2,.int m2])) b:=⟨_,_,_,zh⟩
  have sb:Same H' (upd H' b (.lst [.int x2,.int f2,.int m2])):=Same.new hb
  generalize upd H' b (.lst [.int x2,.int f2,.int m2]) = G0 at hbox sb
  have nlb:l≠b:=zm elH hb
  have elG:=sb _ _ elH
  dsimp only [ZD]
  refine ⟨_,rfl,_,rfl,_,rfl,_,_,rfl,.inl ⟨_,SqL.of elG,rfl⟩,b,_,rfl,hbox,by rw [List.length_map]; omega,by rw [List.length_map]; omega,fun j G1 j0 j1 st1=>?_⟩
  rw [List.length_map] at j1
  obtain ⟨z,hzm,hat⟩:=zbF j0 j1
  refine ⟨l,_,j,_,rfl,rfl,SqL.of (st1.keep l _ nlb elG),hat,?_⟩
  dsimp only [ZD]
  refine ⟨_,rfl,_,rfl,_,rfl,b,l,names,rfl,st1.box,st1.keep l _ nlb elG,nlb,nm,fun u x G2 ru wf hi st2=>⟨zl0,fun le hle=>?_⟩⟩
  have sE:=Same.new (o:=.lst []) hle
  have nle:le≠b:=zP.ne st2.box hle
  have stE:=Step.ofSame' st2.box sE
  refine ⟨b,le,u,x,[],[],rfl,stE.box,ru.mono (zC sE),wf,hi,zh,nle,zjt,zju,fun pp rv us fs G3 st3 po=>?_⟩
  have stA:=((st1.trans st2).trans stE).trans st3
  have kA:∀ {c o},H' c = some o->G3 c = some o:=fun {c o} e=>stA.keep _ _ (zm e hb) (sb _ _ e)
  have tqA:Tq H' G3:=zjq fun c o e=>kA e
  refine ⟨_,rfl,_,rfl,kd,_,rfl,.inl ⟨kvs,.inr z,kA ekH,rfl,Nat.lt_of_le_of_lt (show kvs.length<=1000 by omega) (by decide),rfl⟩,?_⟩
  obtain ⟨dxP,iP⟩:=bkH.ins
  have nPM:p≠kd:=fun z=>by rw [z,ekH] at iP; cases iP
  have nPD:=bkH.ne
  have ndl:l≠d:=fun z=>by rw [z,bkH.dk] at elH; cases elH
  have nkl:l≠kd:=fun z=>by rw [z,ekH] at elH; cases elH
  have bk4:Bk ABook (upd G3 kd (.dK (putK kvs (.inr z) (.ref pp)))) p d kvs:=⟨⟨dxP,by rw [zr nPM]; exact kA iP⟩,by rw [zr nkd.symm]; exact kA bkH.dk⟩
  refine ⟨_,rfl,p,dxP,_,rfl,(by rw [zr nPM]; exact kA iP),rfl,_,rfl,_,rfl,_,rfl,kd,.ref pp,rfl,.inl ⟨_,.inr z,.inl zh,rfl,?_⟩,p,d,kvs,z,.ref pp,rfl,bk4,by omega,?_⟩
  ·rw [zdJ,if_pos rfl]
  have kt5:Kt K (upd (upd G3 kd (.dK (putK kvs (.inr z) (.ref pp)))) d (.dK (putK kvs (.inr z) (.ref pp)))) (putK kvs (.inr z) (.ref pp)) (3 * i + 1):=by
   have dpp:=po.dp
   exact ((kt.tq tqA).put (z:=z) po.rs (by omega)).tq ((zdc (u:=.dK (putK kvs (.inr z) (.ref pp))) (kA ekH)).trans (zdc (u:=.dK (putK kvs (.inr z) (.ref pp))) bk4.dk))
  have bk5:Bk ABook (upd (upd G3 kd (.dK (putK kvs (.inr z) (.ref pp)))) d (.dK (putK kvs (.inr z) (.ref pp)))) p d (putK kvs (.inr z) (.ref pp)):=⟨⟨dxP,by rw [zr nPD,zr nPM]; exact kA iP⟩,zh⟩
  have ek5:upd (upd G3 kd (.dK (putK kvs (.inr z) (.ref pp)))) d (.dK (putK kvs (.inr z) (.ref pp))) kd = some (.dK (putK kvs (.inr z) (.ref pp))):=by rw [zr nkd,zh]
  have el5:upd (upd G3 kd (.dK (putK kvs (.inr z) (.ref pp)))) d (.dK (putK kvs (.inr z) (.ref pp))) l = some (.lst (names.map V.str)):=by rw [zr ndl,zr nkl]; exact kA elH
  have sm5:Same H (upd (upd G3 kd (.dK (putK kvs (.inr z) (.ref pp)))) d (.dK (putK kvs (.inr z) (.ref pp)))):=fun c o e=>by
   rw [zr (zm e hd0),zr (zm e hkd0)]
   exact kA (sm _ _ e)
  generalize upd (upd G3 kd (.dK (putK kvs (.inr z) (.ref pp)))) d (.dK (putK kvs (.inr z) (.ref pp))) = G5 at kt5 bk5 ek5 el5 sm5
  generalize putK kvs (.inr z) (.ref pp) = kv5 at kt5 bk5 ek5
  refine ⟨_,rfl,_,rfl,_,rfl,p,d,kd,l,kv5,names,_,rfl,bk5,ek5,nkd,el5,hnl,kt5,by omega,fun G6 s6=>⟨_,rfl,iteF ?_⟩⟩
  have sm6:=sm5.trans s6
  refine ⟨_,rfl,_,rfl,rfl,_,rfl,ite2 (fun _=>?_) (fun _=>?_)⟩
  ·refine ⟨_,rfl,a,ns,20,rfl,sm6.seq hS,by decide,fun x7 f7 m7 b7 hb7=>?_⟩
   have hbox7:zP (upd G6 b7 (.lst [.int x7,.int f7,.int m7])) b7:=⟨_,_,_,zh⟩
   have sb7:Same G6 (upd G6 b7 (.lst [.int x7,.int f7,.int m7])):=Same.new hb7
   generalize upd G6 b7 (.lst [.int x7,.int f7,.int m7]) = G7 at hbox7 sb7
   have s57:=s6.trans sb7
   refine ⟨_,rfl,_,rfl,_,rfl,b7,p,d,kd,l,kv5,names,_,rfl,hbox7,bk5.same s57,s57 _ _ ek5,nkd,s57 _ _ el5,zm (s6 _ _ el5) hb7,nm,kt5.same s57,by omega,fun kd' kv' G8 hk' bk8 ek8 kt8 kp8=>?_⟩
   dsimp only [ZD]
   have sm8:Same H G8:=fun c o e=>kp8 c o (zm (sm6 _ _ e) hb7) (zm e hd0) (sb7 _ _ (sm6 _ _ e))
   have hk0:H kd' = none:=(sm6.trans sb7).free hk'
   refine ⟨_,rfl,_,rfl,iteF ?_⟩
   exact ⟨_,_,_,kd',kv',rfl,sm8,hk0,(fun z=>by rw [z,(bk5.same s57).dk] at hk'; cases hk'),kp8 l _ (zm (s6 _ _ el5) hb7) ndl (s57 _ _ el5),bk8,ek8,⟨kt8.ks,kt8.pv,Nat.le_trans kt8.few (by omega)⟩⟩
  ·exact ⟨_,_,_,kd,kv5,rfl,sm6,hkd0,nkd,s6 _ _ el5,bk5.same s6,s6 _ _ ek5,⟨(kt5.same s6).ks,(kt5.same s6).pv,Nat.le_trans kt5.few (by omega)⟩⟩
 ·obtain ⟨o7,o8,o9,kd,kvs,rfl,sm,hkd0,nkd,elH,bkH,ekH,kt⟩:=h
  refine ⟨_,rfl,_,rfl,_,rfl,p,d,kd,l,kvs,names,_,rfl,bkH,ekH,nkd,elH,hnl,kt,by omega,fun G1 g1=>⟨_,rfl,iteT ?_⟩⟩
  refine znA (zjp fun p2 d2 G2 b2 g2 hp2 hd2=>?_)
  refine fun kd2 hkd2=>?_
  have g3:=Same.new (o:=.dK []) hkd2
  exact ⟨_,rfl,p2,d2,kd2,l,[],names,0,rfl,b2.same g3,zh,(zm b2.dk hkd2).symm,g3 _ _ (g2 _ _ (g1 _ _ elH)),hnl,zjv,by decide,fun G4 _=>q _⟩
end
end D
namespace PySem.W.Fast
def tw898387235364775453:=Nat
def tw14470446414285813278:=Nat
def tw13694469077934095880:=Nat
def tw8298682453161846115:=Nat
def tw2219865291405391146:=Nat
def tw17215116765510472725:=Nat
def tw10823470356768909919:=Nat
def tw24134792771034634:=Nat
def tw13160799375326655494:=Nat
def tw4489214689415696696:=Nat
def tw4063044867421745781:=Nat
def tw17084351672814688857:=Nat
def tw3213187156419457861:=Nat
def tw15316998077204726173:=Nat
def tw7081293437625307573:=Nat
def tw8331556992856044483:=Nat
def tw4965921740987685756:=Nat
def tw2247391999160271257:=Nat
def tw9140109272970463495:=Nat
def tw12915989961444144285:=Nat
def tw5190163390829334860:=Nat
def tw7802681450423848203:=Nat
def tw15373886099960477183:=Nat
def tw759180003833302557:=Nat
def tw1598444335657158103:=Nat
def tw15915705069568088280:=Nat
def tw18295052757876573610:=Nat
def tw7886942642317754225:=Nat
def tw11204165249046851498:=Nat
def tw16310852475662612121:=Nat
def tw8691997270532585548:=Nat
def tw15675372764831647224:=Nat
def tw15170803756780599880:=Nat
def tw11993210032737609695:=Nat
def tw5862853883847294072:=Nat
def tw14485443577268681163:=Nat
def tw6564526310625326924:=Nat
def tw7206155933236432579:=Nat
def tw11835564689151533559:=Nat
def tw8900825398426302068:=Nat
def tw9126367206046986473:=Nat
def tw10937839231866372202:=Nat
def tw17490847702669904342:=Nat
def tw8689863248038928739:=Nat
def tw2493239334605794328:=Nat
def tw2582285543728079929:=Nat
def tw489550563330312438:=Nat
def tw16338494686217657762:=Nat
def tw18422039020268322239:=Nat
def tw3039315321851380078:=Nat
def tw7579532026987312792:=Nat
def tw14791346119242903337:=Nat
def tw11244373570150010837:=Nat
def tw14785967542980398874:=Nat
def tw1526896153918676554:=Nat
def tw12563688200769185090:=Nat
def tw8398501068265823634:=Nat
def tw11820068037025360735:=Nat
def tw14982949360788064863:=Nat
def tw13899150286993088970:=Nat
def tw15718930925837115705:=Nat
def tw16792773557243620533:=Nat
def tw16641246986623096124:=Nat
def tw4636408856821695104:=Nat
def tw2840409095429244868:=Nat
def tw5985455490768929458:=Nat
def tw16865870120815991755:=Nat
def tw16558915990708856259:=Nat
def tw14511456266015161222:=Nat
def tw693434856287656976:=Nat
def tw4564516382008363355:=Nat
def tw9026428118751345894:=Nat
def tw12784313370349136502:=Nat
def tw791071086187896115:=Nat
def tw11907432169529036186:=Nat
def tw1284532606006944126:=Nat
def tw2992608726779620809:=Nat
def tw583903090302492155:=Nat
def tw4545735412003085053:=Nat
def tw3773846650618612077:=Nat
def tw14901697227531880994:=Nat
def tw5763393400912362558:=Nat
def tw3969383829682238913:=Nat
def tw3293795285882950779:=Nat
def tw1724205052851594060:=Nat
def tw17767324032073914376:=Nat
def tw17615074508683686021:=Nat
def tw3670386831120096696:=Nat
def tw1635035895440179393:=Nat
def tw780363930541823539:=Nat
def tw2099346730563587803:=Nat
def tw17402682522748004122:=Nat
def tw15616620776547542951:=Nat
def tw7479512491433648965:=Nat
def tw11286843530114559130:=Nat
def tw14106543031122488515:=Nat
def tw17453739300639822879:=Nat
def tw12981138820521610430:=Nat
def tw14744034943352879762:=Nat
def tw5510573010785047012:=Nat
def tw13039573590735663925:=Nat
def tw996910664213108295:=Nat
def tw8360120586283508524:=Nat
def tw11049823419958070389:=Nat
def tw3015524780808636077:=Nat
def tw861395538663594829:=Nat
def tw7639553712209820501:=Nat
def tw2113804105549095492:=Nat
def tw3273901687312295598:=Nat
def tw1403533518616909650:=Nat
def tw8903698128466736336:=Nat
def tw3617789709791629524:=Nat
def tw6107378941861037345:=Nat
def tw10439297884354091161:=Nat
def tw8034332505611795651:=Nat
def tw8228647163783197483:=Nat
def tw12267076633957870995:=Nat
def tw7524744472020726714:=Nat
def tw15965694126672863934:=Nat
def tw15616427205778395275:=Nat
def tw8832021598635866444:=Nat
def tw6532426066605539891:=Nat
def tw1539419954600371375:=Nat
def tw4625398842047616136:=Nat
def tw1033035520865717808:=Nat
def tw13132026999024422364:=Nat
def tw9451756388519305966:=Nat
def tw2367184046101272613:=Nat
def tw15059365789621600306:=Nat
def tw10529675521545744714:=Nat
def tw3417218097031039155:=Nat
def tw18303896527994668113:=Nat
def tw10326834022210316300:=Nat
def tw12988167912574396062:=Nat
def tw107894044404067177:=Nat
def tw7138839481235983888:=Nat
def tw7699344161348084819:=Nat
def tw8677887643067060957:=Nat
def tw6996120041014669788:=Nat
def tw16007172580417268473:=Nat
def tw10511347897248338347:=Nat
def tw6474617689040634402:=Nat
def tw12698904047759399557:=Nat
def tw7210349082013687566:=Nat
def tw2556019464136737118:=Nat
def tw12998441028467557984:=Nat
def tw830558124977297022:=Nat
def tw16517576474068105537:=Nat
def tw6513376607416606678:=Nat
def tw16203134554932216582:=Nat
def tw17901248493565995593:=Nat
def tw13958521977541370072:=Nat
def tw8855886583188137952:=Nat
def tw17052384915375542432:=Nat
def tw12844677481644851631:=Nat
def tw9790079212810987116:=Nat
def tw11342378967677146637:=Nat
def tw297671753476429462:=Nat
def tw14231770112325404330:=Nat
def tw14152027604718498207:=Nat
def tw1261075764134915253:=Nat
def tw2252984025626552263:=Nat
def tw16124319354778555143:=Nat
def tw5732198222632891118:=Nat
def tw12554439227762914521:=Nat
def tw10779911937090993254:=Nat
def tw6724267591267335237:=Nat
def tw6464424970231589971:=Nat
def tw12980469803310023842:=Nat
def tw3757522934081237614:=Nat
def tw1695913023347382690:=Nat
def tw14513904112814313056:=Nat
def tw4941032836343291315:=Nat
def tw777211734831963537:=Nat
def tw1204776438385687848:=Nat
def tw16618453237940135168:=Nat
def tw11159627708470588589:=Nat
def tw9894537559203764885:=Nat
def tw11058833919900901666:=Nat
def tw8014651547254540033:=Nat
def tw10065082638730329934:=Nat
def tw4260981136517493792:=Nat
def tw8784231694822449724:=Nat
def tw433416288775793602:=Nat
def tw13142119285918861747:=Nat
def tw16180912752387476928:=Nat
def tw2311700520348413433:=Nat
def tw18061908610745448659:=Nat
def tw1245135622246647225:=Nat
def tw15423607208337976289:=Nat
def tw7760487088440619313:=Nat
def tw16813578305382001242:=Nat
def tw15154037334081468688:=Nat
def tw15388111912135779844:=Nat
def tw6646360507702437217:=Nat
def tw15443355331025743706:=Nat
def tw3469443354128462615:=Nat
def tw16965344461983931696:=Nat
def tw15078262845259543874:=Nat
def tw5283247370796797830:=Nat
def tw16309313679430043068:=Nat
def tw13129126977996920256:=Nat
def tw11636053802242124475:=Nat
def tw572411970074997968:=Nat
def tw3346885245456523754:=Nat
def tw15203783900607861735:=Nat
def tw9223587921589159295:=Nat
def tw12423067832016935088:=Nat
def tw15198311832869541741:=Nat
def tw215727710381820849:=Nat
def tw13485134521092729449:=Nat
def tw5609720462165728649:=Nat
def tw5641722025059834290:=Nat
def tw16507286990033438011:=Nat
def tw17671402132291977779:=Nat
def tw15446170762904120200:=Nat
def tw17465627956453368608:=Nat
def tw17953931647222550718:=Nat
def tw890662179652342540:=Nat
def tw1535923643560582202:=Nat
def tw7774960338362396604:=Nat
def tw6666620599252476445:=Nat
def tw5308726019909070847:=Nat
def tw11832407530907761304:=Nat
def tw17918236954957874254:=Nat
def tw10258138925679764351:=Nat
def tw13047293788273481117:=Nat
def tw5350859501677643700:=Nat
def tw1176426917602772917:=Nat
def tw4523520536327268736:=Nat
def tw2505293569759201348:=Nat
def tw17198345363213157040:=Nat
def tw5362067034250867618:=Nat
def tw11155395727249166780:=Nat
def tw14705750622767329473:=Nat
def tw17516472082154732715:=Nat
def tw14373188570555125085:=Nat
def tw15273280055748675660:=Nat
def tw1600565153885121107:=Nat
def tw17866896303720639455:=Nat
def tw10874672854175954976:=Nat
def tw7662109535501711408:=Nat
def tw15710611250483459023:=Nat
def tw2520714841267612226:=Nat
def tw11185495653852655972:=Nat
def tw12428357847244523455:=Nat
def tw16696227360310919705:=Nat
def tw8977302004978997409:=Nat
def tw2125371085582800414:=Nat
def tw11624916050574160332:=Nat
end PySem.W.Fast
namespace D
open PySem L2
theorem zel {P:Program}{w:World}{K:PySem.W.Frag}{mg:Str->Option Value}{base:Heap}{f:Addr}{fd:FuncData}{ps:List Str}{sp:Sp} (no:∀ vs H Q E,¬ sp vs H Q E) (k:Nat):FnOk P w K mg base CX0 k f fd ps sp:=
 ⟨fun vs H Q E h=>absurd h (no vs H Q E),fun A outer s H args us vs Q E _ _ _ _ h=>absurd h (no vs H Q E)⟩
theorem zkw (x:Ex):1<=x.high:=by cases x <;> simp only [Ex.high] <;> omega
def lvP (L:Nat):Nat->Nat
 | 0=>L
 | n + 1=>lvP L n + 2
theorem zfj (L:Nat):∀ n:Nat,L<=lvP L n
 | 0=>Nat.le_refl _
 | n + 1=>Nat.le_trans (zfj L n) (Nat.le_add_right _ 2)
abbrev nI (K:PySem.W.Frag) (s:Str) (f:Addr):Prop:=nsIn K mainGlobals s = some (some (.ref f))
abbrev lI (K:PySem.W.Frag) (f:Addr) (s:Str) (t:Stmt) (oc:Value) (od:Option Addr) (kV dc pm:Value) (an:Option Addr) (cd ct:Value) (sl:Array (Option Value)):Prop:=K.lookup f = some ⟨oc,od,.func (fnOf s s (Zk t) (Zb t) (zn t) .none kV dc pm an cd ct),sl⟩
abbrev cI (K:PySem.W.Frag) (c:Value) (s:Str):Prop:=codeIn K c s = true
abbrev kI (K:PySem.W.Frag) (f:Addr):Prop:=keepIn K (.ref f) = true
theorem hv (P:Program) (w:World) {K:PySem.W.Frag}{mg:Str->Option Value} (base:Heap) (k:Nat)  {ps:List Str}{sp:Sp}{f:Addr}{fd:FuncData}{x:Str} (F:FnOk P w K mg base CX0 (k + 1) f fd ps sp) (b:Binds K fd ps []) (c:keepIn K (.ref f) = true) (m:mg x = some (.ref f)):Have P w K mg base x (k + 1) ps sp:=⟨_,_,F,b,c,m⟩
theorem hvF (P:Program) (w:World) {K:PySem.W.Frag}{mg:Str->Option Value} (base:Heap) (k:Nat)  {ps:List Str}{sp:Sp}{f:Addr}{fd:FuncData} (F:FnOk P w K mg base CX0 (k + 1) f fd ps sp) (b:Binds K fd ps []) (c:keepIn K (.ref f) = true):Zl P w K mg base f (k + 1) ps sp:=⟨_,F,b,c⟩
abbrev gI (K:PySem.W.Frag) (f:Addr) (s:Str) (t:Stmt):Prop:=∃ fd,Fun K s s t f fd
theorem znC {l:PySem.W.OpenLaw}{w:World}{K:PySem.W.Frag}{h:Heap}{mg:Str->Option Value}{fa f0 f1 f2 f3 f4 f5 f6 f7 f8 f9 f10 f11 f12 f13 f14 f15 f16 f17 f18 f19 f20 f21 f22 f23 f24 f25 f26 f27 f28 f29 f30 f31 f32 f33 f34 f35 f36 f37 f38 f39 f40 f41 f42 f43 f44 f45 f46 f47 f48 f49 f50 f51 f52 f53 f54 f55 f56 f57 f58 f59 f60 f61 f62 f63 f64 f65 f66 f67 f68:Addr} (X:K.In h) (G:h.Ns mainGlobals mg) (hfa:mg "law" = some (.ref fa))
  {od0 an0 od1 an1 od2 an2 od3 an3 od27 an27 od28 an28 od68 an68:Option Addr}{sl0 sl1 sl2 sl3 sl27 sl28 sl68:Array (Option Value)}{oc0 kV0 dc0 pm0 cd0 ct0 oc1 kV1 dc1 pm1 cd1 ct1 oc2 kV2 dc2 pm2 cd2 ct2 oc3 kV3 dc3 pm3 cd3 ct3 oc27 kV27 dc27 pm27 cd27 ct27 oc28 kV28 dc28 pm28 cd28 ct28 oc68 kV68 dc68 pm68 cd68 ct68:Value}
  {ABook:Addr} (aC_Book:nsIn K mainGlobals "Book" = some (some (.ref ABook))) (pg_Book:plainGet K ABook Str.empty = true) (hd_Book:hasDictIn K ABook = true) (po_Book:plainOver K ABook = true) (sa_Book:findIn K (.ref ABook) "__setattr__" = some (some (.builtin "object.__setattr__"))) (mk_Book:makesIn K ABook = true) (kc_Book:keepIn K (.ref ABook) = true) (nf_Book_papers:findIn K (.ref ABook) "papers" = some none)
  {ARun:Addr} (aC_Run:nsIn K mainGlobals "Run" = some (some (.ref ARun))) (pg_Run:plainGet K ARun Str.empty = true) (hd_Run:hasDictIn K ARun = true) (po_Run:plainOver K ARun = true) (sa_Run:findIn K (.ref ARun) "__setattr__" = some (some (.builtin "object.__setattr__"))) (mk_Run:makesIn K ARun = true) (kc_Run:keepIn K (.ref ARun) = true) (nf_Run_founds:findIn K (.ref ARun) "founds" = some none) (nf_Run_names:findIn K (.ref ARun) "names" = some none)
  (a0:findIn K (.ref ABook) "__init__" = some (some (.ref f0))) (q0:isFn K (.ref f0) = true) (l0:K.lookup f0 = some ⟨oc0,od0,.func (fnOf "__init__" "Book.__init__" (Zk Zc) (Zb Zc) (zn Zc) .none kV0 dc0 pm0 an0 cd0 ct0),sl0⟩) (c0:codeIn K cd0 "Book.__init__" = true) (k0:keepIn K (.ref f0) = true)
  (a1:findIn K (.ref ABook) "keep" = some (some (.ref f1))) (q1:isFn K (.ref f1) = true) (l1:K.lookup f1 = some ⟨oc1,od1,.func (fnOf "keep" "Book.keep" (Zk ZO) (Zb ZO) (zn ZO) .none kV1 dc1 pm1 an1 cd1 ct1),sl1⟩) (c1:codeIn K cd1 "Book.keep" = true) (k1:keepIn K (.ref f1) = true)
  (a2:findIn K (.ref ABook) "paper_of" = some (some (.ref f2))) (q2:isFn K (.ref f2) = true) (l2:K.lookup f2 = some ⟨oc2,od2,.func (fnOf "paper_of" "Book.paper_of" (Zk Zd) (Zb Zd) (zn Zd) .none kV2 dc2 pm2 an2 cd2 ct2),sl2⟩) (c2:codeIn K cd2 "Book.paper_of" = true) (k2:keepIn K (.ref f2) = true)
  (a3:findIn K (.ref ABook) "copy" = some (some (.ref f3))) (q3:isFn K (.ref f3) = true) (l3:K.lookup f3 = some ⟨oc3,od3,.func (fnOf "copy" "Book.copy" (Zk ZP) (Zb ZP) (zn ZP) .none kV3 dc3 pm3 an3 cd3 ct3),sl3⟩) (c3:codeIn K cd3 "Book.copy" = true) (k3:keepIn K (.ref f3) = true)
  (a4:nI K "is_number" f4) (l4:gI K f4 "is_number" zbd)
  (a5:nI K "is_sign" f5) (l5:gI K f5 "is_sign" zcH)
  (a6:nI K "fits_alone" f6) (l6:gI K f6 "fits_alone" zaS)
  (a7:nI K "size_alone" f7) (l7:gI K f7 "size_alone" zh1)
  (a8:nI K "is_worth" f8) (l8:gI K f8 "is_worth" zbL)
  (a9:nI K "same" f9) (l9:gI K f9 "same" zh2)
  (a10:nI K "made" f10) (l10:gI K f10 "made" zh3)
  (a11:nI K "truth" f11) (l11:gI K f11 "truth" zft)
  (a12:nI K "summed" f12) (l12:gI K f12 "summed" zdL)
  (a13:nI K "differing" f13) (l13:gI K f13 "differing" zbe)
  (a14:nI K "multiplied" f14) (l14:gI K f14 "multiplied" zaT)
  (a15:nI K "divided" f15) (l15:gI K f15 "divided" zcI)
  (a16:nI K "lessened" f16) (l16:gI K f16 "lessened" zbM)
  (a17:nI K "figured" f17) (l17:gI K f17 "figured" zcJ)
  (a18:nI K "compared" f18) (l18:gI K f18 "compared" zbN)
  (a19:nI K "joined" f19) (l19:gI K f19 "joined" zdM)
  (a20:nI K "listed" f20) (l20:gI K f20 "listed" zdN)
  (a21:nI K "item_at" f21) (l21:gI K f21 "item_at" zcK)
  (a22:nI K "counted" f22) (l22:gI K f22 "counted" zcL)
  (a23:nI K "reckoned" f23) (l23:gI K f23 "reckoned" zbO)
  (a24:nI K "has_parts" f24) (l24:gI K f24 "has_parts" zbf)
  (a25:nI K "binding_count" f25) (l25:gI K f25 "binding_count" zam)
  (a26:nI K "parts_of" f26) (l26:gI K f26 "parts_of" zbP)
  (a27:findIn K (.ref ARun) "__init__" = some (some (.ref f27))) (q27:isFn K (.ref f27) = true) (l27:K.lookup f27 = some ⟨oc27,od27,.func (fnOf "__init__" "Run.__init__" (Zk Zj) (Zb Zj) (zn Zj) .none kV27 dc27 pm27 an27 cd27 ct27),sl27⟩) (c27:codeIn K cd27 "Run.__init__" = true) (k27:keepIn K (.ref f27) = true)
  (a28:findIn K (.ref ARun) "look" = some (some (.ref f28))) (q28:isFn K (.ref f28) = true) (l28:K.lookup f28 = some ⟨oc28,od28,.func (fnOf "look" "Run.look" (Zk zac) (Zb zac) (zn zac) .none kV28 dc28 pm28 an28 cd28 ct28),sl28⟩) (c28:codeIn K cd28 "Run.look" = true) (k28:keepIn K (.ref f28) = true)
  (a29:nI K "is_made" f29) (l29:gI K f29 "is_made" zcM)
  (a30:nI K "worth_of" f30) (l30:gI K f30 "worth_of" zbQ)
  (a31:nI K "as_last" f31) (l31:gI K f31 "as_last" zcN)
  (a32:nI K "binding" f32) (l32:gI K f32 "binding" zcO)
  (a33:nI K "go_lit" f33) (l33:gI K f33 "go_lit" zdO)
  (a34:nI K "go_var" f34) (l34:gI K f34 "go_var" zdP)
  (a35:nI K "go_let" f35) (l35:gI K f35 "go_let" zdQ)
  (a36:nI K "go_if" f36) (l36:gI K f36 "go_if" zfu)
  (a37:nI K "ended_ahead" f37) (l37:gI K f37 "ended_ahead" zaG)
  (a38:nI K "go_each" f38) (l38:gI K f38 "go_each" zcP)
  (a39:nI K "go_over" f39) (l39:gI K f39 "go_over" zh4)
  (a40:nI K "go_look" f40) (l40:gI K f40 "go_look" zcQ)
  (a41:nI K "go_else" f41) (l41:gI K f41 "go_else" zcR)
  (a42:nI K "go_cry" f42) (l42:gI K f42 "go_cry" zdR)
  (a43:nI K "go_through" f43) (l43:gI K f43 "go_through" zaU)
  (a44:nI K "go_reckoned" f44) (l44:gI K f44 "go_reckoned" zaH)
  (a45:nI K "record_of" f45) (l45:gI K f45 "record_of" zbg)
  (a46:nI K "gone" f46) (l46:gI K f46 "gone" zh5)
  (a47:nI K "_law_cell" f47) (l47:gI K f47 "_law_cell" zlq)
  (a48:nI K "_law_box" f48) (l48:gI K f48 "_law_box" sBox)
  (a49:nI K "_law_take" f49) (l49:gI K f49 "_law_take" zlr)
  (a50:nI K "_law_text" f50) (l50:gI K f50 "_law_text" zls)
  (a51:nI K "_law_number" f51) (l51:gI K f51 "_law_number" zfv)
  (a52:nI K "_law_worth" f52) (l52:gI K f52 "_law_worth" zh6)
  (a53:nI K "_law_variable" f53) (l53:gI K f53 "_law_variable" zbh)
  (a54:nI K "_law_lit" f54) (l54:gI K f54 "_law_lit" zh7)
  (a55:nI K "_law_named" f55) (l55:gI K f55 "_law_named" zdS)
  (a56:nI K "_law_word" f56) (l56:gI K f56 "_law_word" zfw)
  (a57:nI K "_law_parts_by" f57) (l57:gI K f57 "_law_parts_by" zbi)
  (a58:nI K "_law_any" f58) (l58:gI K f58 "_law_any" zh8)
  (a59:nI K "_law_sound" f59) (l59:gI K f59 "_law_sound" zdT)
  (a60:nI K "_law_rule" f60) (l60:gI K f60 "_law_rule" zfx)
  (a61:nI K "_law_likes" f61) (l61:gI K f61 "_law_likes" zdU)
  (a62:nI K "_law_names" f62) (l62:gI K f62 "_law_names" zdV)
  (a63:nI K "_law_outcome" f63) (l63:gI K f63 "_law_outcome" zbR)
  (a64:nI K "_law_grown" f64) (l64:gI K f64 "_law_grown" zdW)
  (a65:nI K "_law_alike" f65) (l65:gI K f65 "_law_alike" zdX)
  (a66:nI K "_law_right" f66) (l66:gI K f66 "_law_right" zdY)
  (a67:nI K "_law_copied" f67) (l67:gI K f67 "_law_copied" zcS)
  (a68:nI K "law" f68) (l68:lI K f68 "law" sLaw oc68 od68 kV68 dc68 pm68 an68 cd68 ct68 sl68) (c68:cI K cd68 "law") (k68:kI K f68)
  (z0:nsIn K mainGlobals "dict" = some none)
  (z1:nsIn K mainGlobals "isinstance" = some none)
  (z2:nsIn K mainGlobals "int" = some none)
  (z3:nsIn K mainGlobals "bool" = some none)
  (z4:nsIn K mainGlobals "ord" = some none)
  (z5:nsIn K mainGlobals "str" = some none)
  (z6:nsIn K mainGlobals "tuple" = some none)
  (z7:nsIn K mainGlobals "len" = some none)
  (z8:nsIn K mainGlobals "all" = some none)
  (z9:nsIn K mainGlobals "abs" = some none)
  (z10:nsIn K mainGlobals "list" = some none)
  (z11:nsIn K mainGlobals "range" = some none)
  (z12:nsIn K mainGlobals "min" = some none)
  (z13:nsIn K mainGlobals "enumerate" = some none)
  (z14:nsIn K mainGlobals "zip" = some none)
  (z15:nsIn K mainGlobals "sorted" = some none)
  {t0:Tok} (i0:nsIn K mainGlobals "PERCENT" = some (some (.int 37 t0)))
  {t1:Tok} (i1:nsIn K mainGlobals "MOST_SIGNS" = some (some (.int 400 t1)))
  {t2:Tok} (i2:nsIn K mainGlobals "MOST_ITEMS" = some (some (.int 60 t2)))
  {t3:Tok} (i3:nsIn K mainGlobals "MOST_DEPTH" = some (some (.int 12 t3)))
  {t4:Tok} (i4:nsIn K mainGlobals "MOST_SIZE" = some (some (.int 1000 t4)))
  {t5:Tok} (i5:nsIn K mainGlobals "MOST_WALKED" = some (some (.int 10 t5)))
  {g0:Addr}{gd0:Option Addr}{gn0:Nat}{gs0:Array (Option Value)}{u0_0 u0_1 u0_2:Tok} (y0:nsIn K mainGlobals "GREAT" = some (some (.ref g0))) (x0:K.lookup g0 = some ⟨.type "tuple",gd0,.seq #[.str "wrong" u0_0,.str "great" u0_1,.str "" u0_2] gn0,gs0⟩)
  {g1:Addr}{gd1:Option Addr}{gn1:Nat}{gs1:Array (Option Value)}{u1_0 u1_1 u1_2:Tok} (y1:nsIn K mainGlobals "NOUGHT" = some (some (.ref g1))) (x1:K.lookup g1 = some ⟨.type "tuple",gd1,.seq #[.str "wrong" u1_0,.str "nought" u1_1,.str "" u1_2] gn1,gs1⟩)
  {g2:Addr}{gd2:Option Addr}{gn2:Nat}{gs2:Array (Option Value)}{u2_0 u2_1 u2_2:Tok} (y2:nsIn K mainGlobals "KIND" = some (some (.ref g2))) (x2:K.lookup g2 = some ⟨.type "tuple",gd2,.seq #[.str "wrong" u2_0,.str "kind" u2_1,.str "" u2_2] gn2,gs2⟩)
  {g3:Addr}{gd3:Option Addr}{gn3:Nat}{gs3:Array (Option Value)}{u3_0 u3_1 u3_2:Tok} (y3:nsIn K mainGlobals "PLACE" = some (some (.ref g3))) (x3:K.lookup g3 = some ⟨.type "tuple",gd3,.seq #[.str "wrong" u3_0,.str "place" u3_1,.str "" u3_2] gn3,gs3⟩)
  {dg0:Addr}{dn0:Nat}{du0_0 du0_1 du0_2 du0_3 du0_4 du0_5:Tok} (dy0:nsIn K mainGlobals "NUMBER_DEEDS" = some (some (.ref dg0))) (dx0:K.lookup dg0 = some ⟨.type "dict",none,.dict #[⟨hashStr w "+",.str "+" du0_0,.ref f12⟩,⟨hashStr w "-",.str "-" du0_1,.ref f13⟩,⟨hashStr w "*",.str "*" du0_2,.ref f14⟩,⟨hashStr w "/",.str "/" du0_3,.ref f15⟩,⟨hashStr w "less",.str "less" du0_4,.ref f16⟩,⟨hashStr w "figures",.str "figures" du0_5,.ref f17⟩] dn0,#[]⟩) (dz0:(dg0 == sysModules) = false)
  {dg1:Addr}{dn1:Nat}{du1_0 du1_1 du1_2 du1_3 du1_4:Tok} (dy1:nsIn K mainGlobals "OTHER_DEEDS" = some (some (.ref dg1))) (dx1:K.lookup dg1 = some ⟨.type "dict",none,.dict #[⟨hashStr w "same",.str "same" du1_0,.ref f18⟩,⟨hashStr w "join",.str "join" du1_1,.ref f19⟩,⟨hashStr w "list",.str "list" du1_2,.ref f20⟩,⟨hashStr w "item",.str "item" du1_3,.ref f21⟩,⟨hashStr w "count",.str "count" du1_4,.ref f22⟩] dn1,#[]⟩) (dz1:(dg1 == sysModules) = false)
  {dg2:Addr}{dn2:Nat}{du2_0 dv2_0 du2_1 dv2_1 du2_2 dv2_2:Tok} (dy2:nsIn K mainGlobals "BINDING" = some (some (.ref dg2))) (dx2:K.lookup dg2 = some ⟨.type "dict",none,.dict #[⟨hashStr w "let",.str "let" du2_0,.int 1 dv2_0⟩,⟨hashStr w "each",.str "each" du2_1,.int 1 dv2_1⟩,⟨hashStr w "over",.str "over" du2_2,.int 2 dv2_2⟩] dn2,#[]⟩) (dz2:(dg2 == sysModules) = false)
  {dg3:Addr}{dn3:Nat}{du3_0 dv3_0 du3_1 dv3_1 du3_2 dv3_2 du3_3 dv3_3 du3_4 dv3_4 du3_5 dv3_5 du3_6 dv3_6 du3_7 dv3_7 du3_8 dv3_8 du3_9 dv3_9 du3_10 dv3_10 du3_11 dv3_11 du3_12 dv3_12 du3_13 dv3_13 du3_14 dv3_14 du3_15 dv3_15 du3_16 dv3_16:Tok} (dy3:nsIn K mainGlobals "PARTS" = some (some (.ref dg3))) (dx3:K.lookup dg3 = some ⟨.type "dict",none,.dict #[⟨hashStr w "let",.str "let" du3_0,.int 2 dv3_0⟩,⟨hashStr w "if",.str "if" du3_1,.int 3 dv3_1⟩,⟨hashStr w "+",.str "+" du3_2,.int 2 dv3_2⟩,⟨hashStr w "-",.str "-" du3_3,.int 2 dv3_3⟩,⟨hashStr w "*",.str "*" du3_4,.int 2 dv3_4⟩,⟨hashStr w "/",.str "/" du3_5,.int 2 dv3_5⟩,⟨hashStr w "same",.str "same" du3_6,.int 2 dv3_6⟩,⟨hashStr w "less",.str "less" du3_7,.int 2 dv3_7⟩,⟨hashStr w "join",.str "join" du3_8,.int 2 dv3_8⟩,⟨hashStr w "item",.str "item" du3_9,.int 2 dv3_9⟩,⟨hashStr w "count",.str "count" du3_10,.int 1 dv3_10⟩,⟨hashStr w "figures",.str "figures" du3_11,.int 1 dv3_11⟩,⟨hashStr w "each",.str "each" du3_12,.int 2 dv3_12⟩,⟨hashStr w "over",.str "over" du3_13,.int 3 dv3_13⟩,⟨hashStr w "look",.str "look" du3_14,.int 1 dv3_14⟩,⟨hashStr w "else",.str "else" du3_15,.int 2 dv3_15⟩,⟨hashStr w "cry",.str "cry" du3_16,.int 1 dv3_16⟩] dn3,#[]⟩) (dz3:(dg3 == sysModules) = false)
  {dg4:Addr}{dn4:Nat}{du4_0 du4_1 du4_2 du4_3 du4_4 du4_5 du4_6 du4_7 du4_8:Tok} (dy4:nsIn K mainGlobals "GOING" = some (some (.ref dg4))) (dx4:K.lookup dg4 = some ⟨.type "dict",none,.dict #[⟨hashStr w "lit",.str "lit" du4_0,.ref f33⟩,⟨hashStr w "var",.str "var" du4_1,.ref f34⟩,⟨hashStr w "let",.str "let" du4_2,.ref f35⟩,⟨hashStr w "if",.str "if" du4_3,.ref f36⟩,⟨hashStr w "each",.str "each" du4_4,.ref f38⟩,⟨hashStr w "over",.str "over" du4_5,.ref f39⟩,⟨hashStr w "look",.str "look" du4_6,.ref f40⟩,⟨hashStr w "else",.str "else" du4_7,.ref f41⟩,⟨hashStr w "cry",.str "cry" du4_8,.ref f42⟩] dn4,#[]⟩) (dz4:(dg4 == sysModules) = false)
  : ∃ fd:FuncData,(∀ (s:Shared) (v:Value),BindsTo s fd ⟨[v],[]⟩ [("_law_script",v)])/\∀ base:Heap,K.In base->base.Ns mainGlobals mg->FnOk l.prog w K mg base CX0 190 fa fd ["_law_script"] (zkv K):=by
 have e:=hfa.symm.trans (mg_of X G a68)
 cases e
 have F0:=zb0 (st:=Zc) l0 c0 k0
 have b0:=F0.binds (ps:=["self"]) fun _ _ _ _ _ _ us hl=>by obtain ⟨_,rfl⟩:=us_1 hl; rfl
 have F1:=zb0 (st:=ZO) l1 c1 k1
 have b1:=F1.binds (ps:=["self","name","paper"]) fun _ _ _ _ _ _ us hl=>by obtain ⟨_,_,_,rfl⟩:=us_3 hl; rfl
 have F2:=zb0 (st:=Zd) l2 c2 k2
 have b2:=F2.binds (ps:=["self","name"]) fun _ _ _ _ _ _ us hl=>by obtain ⟨_,_,rfl⟩:=us_2 hl; rfl
 have F3:=zb0 (st:=ZP) l3 c3 k3
 have b3:=F3.binds (ps:=["self"]) fun _ _ _ _ _ _ us hl=>by obtain ⟨_,rfl⟩:=us_1 hl; rfl
 obtain ⟨_,F4⟩:=l4
 obtain ⟨_,F5⟩:=l5
 obtain ⟨_,F6⟩:=l6
 obtain ⟨_,F7⟩:=l7
 obtain ⟨_,F8⟩:=l8
 obtain ⟨_,F9⟩:=l9
 obtain ⟨_,F10⟩:=l10
 have b10:=F10.binds (ps:=["thing"]) fun _ _ _ _ _ _ us hl=>by obtain ⟨_,rfl⟩:=us_1 hl; rfl
 have n10:=mg_of X G a10
 obtain ⟨_,F11⟩:=l11
 obtain ⟨_,F12⟩:=l12
 obtain ⟨_,F13⟩:=l13
 obtain ⟨_,F14⟩:=l14
 obtain ⟨_,F15⟩:=l15
 obtain ⟨_,F16⟩:=l16
 obtain ⟨_,F17⟩:=l17
 obtain ⟨_,F18⟩:=l18
 obtain ⟨_,F19⟩:=l19
 obtain ⟨_,F20⟩:=l20
 obtain ⟨_,F21⟩:=l21
 obtain ⟨_,F22⟩:=l22
 obtain ⟨_,F23⟩:=l23
 obtain ⟨_,F24⟩:=l24
 obtain ⟨_,F25⟩:=l25
 obtain ⟨_,F26⟩:=l26
 have F27:=zb0 (st:=Zj) l27 c27 k27
 have b27:=F27.binds (ps:=["self","founds"]) fun _ _ _ _ _ _ us hl=>by obtain ⟨_,_,rfl⟩:=us_2 hl; rfl
 have F28:=zb0 (st:=zac) l28 c28 k28
 have b28:=F28.binds (ps:=["self","name"]) fun _ _ _ _ _ _ us hl=>by obtain ⟨_,_,rfl⟩:=us_2 hl; rfl
 obtain ⟨_,F29⟩:=l29
 obtain ⟨_,F30⟩:=l30
 obtain ⟨_,F31⟩:=l31
 obtain ⟨_,F32⟩:=l32
 obtain ⟨_,F33⟩:=l33
 have b33:=F33.binds (ps:=["run","expression","bound"]) fun _ _ _ _ _ _ us hl=>by obtain ⟨_,_,_,rfl⟩:=us_3 hl; rfl
 have n33:=mg_of X G a33
 obtain ⟨_,F34⟩:=l34
 have b34:=F34.binds (ps:=["run","expression","bound"]) fun _ _ _ _ _ _ us hl=>by obtain ⟨_,_,_,rfl⟩:=us_3 hl; rfl
 have n34:=mg_of X G a34
 obtain ⟨_,F35⟩:=l35
 have b35:=F35.binds (ps:=["run","expression","bound"]) fun _ _ _ _ _ _ us hl=>by obtain ⟨_,_,_,rfl⟩:=us_3 hl; rfl
 have n35:=mg_of X G a35
 obtain ⟨_,F36⟩:=l36
 have b36:=F36.binds (ps:=["run","expression","bound"]) fun _ _ _ _ _ _ us hl=>by obtain ⟨_,_,_,rfl⟩:=us_3 hl; rfl
 have n36:=mg_of X G a36
 obtain ⟨_,F37⟩:=l37
 obtain ⟨_,F38⟩:=l38
 have b38:=F38.binds (ps:=["run","expression","bound"]) fun _ _ _ _ _ _ us hl=>by obtain ⟨_,_,_,rfl⟩:=us_3 hl; rfl
 have n38:=mg_of X G a38
 obtain ⟨_,F39⟩:=l39
 have b39:=F39.binds (ps:=["run","expression","bound"]) fun _ _ _ _ _ _ us hl=>by obtain ⟨_,_,_,rfl⟩:=us_3 hl; rfl
 have n39:=mg_of X G a39
 obtain ⟨_,F40⟩:=l40
 have b40:=F40.binds (ps:=["run","expression","bound"]) fun _ _ _ _ _ _ us hl=>by obtain ⟨_,_,_,rfl⟩:=us_3 hl; rfl
 have n40:=mg_of X G a40
 obtain ⟨_,F41⟩:=l41
 have b41:=F41.binds (ps:=["run","expression","bound"]) fun _ _ _ _ _ _ us hl=>by obtain ⟨_,_,_,rfl⟩:=us_3 hl; rfl
 have n41:=mg_of X G a41
 obtain ⟨_,F42⟩:=l42
 have b42:=F42.binds (ps:=["run","expression","bound"]) fun _ _ _ _ _ _ us hl=>by obtain ⟨_,_,_,rfl⟩:=us_3 hl; rfl
 have n42:=mg_of X G a42
 obtain ⟨_,F43⟩:=l43
 have b43:=F43.binds (ps:=["run","expressions","bound"]) fun _ _ _ _ _ _ us hl=>by obtain ⟨_,_,_,rfl⟩:=us_3 hl; rfl
 have n43:=mg_of X G a43
 obtain ⟨_,F44⟩:=l44
 have b44:=F44.binds (ps:=["run","expression","bound"]) fun _ _ _ _ _ _ us hl=>by obtain ⟨_,_,_,rfl⟩:=us_3 hl; rfl
 have n44:=mg_of X G a44
 obtain ⟨_,F45⟩:=l45
 have b45:=F45.binds (ps:=["run","expression","bound"]) fun _ _ _ _ _ _ us hl=>by obtain ⟨_,_,_,rfl⟩:=us_3 hl; rfl
 have n45:=mg_of X G a45
 obtain ⟨_,F46⟩:=l46
 obtain ⟨_,F47⟩:=l47
 obtain ⟨_,F48⟩:=l48
 obtain ⟨_,F49⟩:=l49
 obtain ⟨_,F50⟩:=l50
 obtain ⟨_,F51⟩:=l51
 obtain ⟨_,F52⟩:=l52
 have b52:=F52.binds (ps:=["_law_box_here","_law_room","_law_deep"]) fun _ _ _ _ _ _ us hl=>by obtain ⟨_,_,_,rfl⟩:=us_3 hl; rfl
 have n52:=mg_of X G a52
 obtain ⟨_,F53⟩:=l53
 obtain ⟨_,F54⟩:=l54
 obtain ⟨_,F55⟩:=l55
 obtain ⟨_,F56⟩:=l56
 obtain ⟨_,F57⟩:=l57
 have b57:=F57.binds (ps:=["_law_box_here","_law_scopes","_law_names_here","_law_spare","_law_floors","_law_rounds"]) fun _ _ _ _ _ _ us hl=>by obtain ⟨_,_,_,_,_,_,rfl⟩:=us_6 hl; rfl
 have n57:=mg_of X G a57
 obtain ⟨_,F58⟩:=l58
 have b58:=F58.binds (ps:=["_law_box_here","_law_scope","_law_names_here","_law_spare","_law_floors","_law_rounds"]) fun _ _ _ _ _ _ us hl=>by obtain ⟨_,_,_,_,_,_,rfl⟩:=us_6 hl; rfl
 have n58:=mg_of X G a58
 obtain ⟨_,F59⟩:=l59
 obtain ⟨_,F60⟩:=l60
 obtain ⟨_,F61⟩:=l61
 obtain ⟨_,F62⟩:=l62
 obtain ⟨_,F63⟩:=l63
 obtain ⟨_,F64⟩:=l64
 obtain ⟨_,F65⟩:=l65
 have b65:=F65.binds (ps:=["_law_one","_law_other"]) fun _ _ _ _ _ _ us hl=>by obtain ⟨_,_,rfl⟩:=us_2 hl; rfl
 have n65:=mg_of X G a65
 obtain ⟨_,F66⟩:=l66
 obtain ⟨_,F67⟩:=l67
 have F68:=zb0 (st:=sLaw) l68 c68 k68
 have cl_Book:Cls K ABook:=⟨pg_Book,hd_Book,po_Book,sa_Book⟩
 have cl_Run:Cls K ARun:=⟨pg_Run,hd_Run,po_Run,sa_Run⟩
 have m_dict:=mg_none_of X G z0
 have m_isinstance:=mg_none_of X G z1
 have m_int:=mg_none_of X G z2
 have m_bool:=mg_none_of X G z3
 have m_ord:=mg_none_of X G z4
 have m_str:=mg_none_of X G z5
 have m_tuple:=mg_none_of X G z6
 have m_len:=mg_none_of X G z7
 have m_all:=mg_none_of X G z8
 have m_abs:=mg_none_of X G z9
 have m_list:=mg_none_of X G z10
 have m_range:=mg_none_of X G z11
 have m_min:=mg_none_of X G z12
 have m_enumerate:=mg_none_of X G z13
 have m_zip:=mg_none_of X G z14
 have m_sorted:=mg_none_of X G z15
 have m_PERCENT:∃ t,mg "PERCENT" = some (.int 37 t):=⟨t0,mg_of X G i0⟩
 have m_MOST_SIGNS:∃ t,mg "MOST_SIGNS" = some (.int 400 t):=⟨t1,mg_of X G i1⟩
 have m_MOST_ITEMS:∃ t,mg "MOST_ITEMS" = some (.int 60 t):=⟨t2,mg_of X G i2⟩
 have m_MOST_DEPTH:∃ t,mg "MOST_DEPTH" = some (.int 12 t):=⟨t3,mg_of X G i3⟩
 have m_MOST_SIZE:∃ t,mg "MOST_SIZE" = some (.int 1000 t):=⟨t4,mg_of X G i4⟩
 have m_MOST_WALKED:∃ t,mg "MOST_WALKED" = some (.int 10 t):=⟨t5,mg_of X G i5⟩
 have m_GREAT:=mg_of X G y0
 have t_GREAT:∀ H:Hp,SqT K H g0 [.str "wrong",.str "great",.str ""]:=fun H=>.inr ⟨_,_,_,x0,rfl,rfl,zl3,(.cons ⟨_,rfl⟩ (.cons ⟨_,rfl⟩ (.cons ⟨_,rfl⟩ .nil)))⟩
 have m_NOUGHT:=mg_of X G y1
 have t_NOUGHT:∀ H:Hp,SqT K H g1 [.str "wrong",.str "nought",.str ""]:=fun H=>.inr ⟨_,_,_,x1,rfl,rfl,zl3,(.cons ⟨_,rfl⟩ (.cons ⟨_,rfl⟩ (.cons ⟨_,rfl⟩ .nil)))⟩
 have m_KIND:=mg_of X G y2
 have t_KIND:∀ H:Hp,SqT K H g2 [.str "wrong",.str "kind",.str ""]:=fun H=>.inr ⟨_,_,_,x2,rfl,rfl,zl3,(.cons ⟨_,rfl⟩ (.cons ⟨_,rfl⟩ (.cons ⟨_,rfl⟩ .nil)))⟩
 have m_PLACE:=mg_of X G y3
 have t_PLACE:∀ H:Hp,SqT K H g3 [.str "wrong",.str "place",.str ""]:=fun H=>.inr ⟨_,_,_,x3,rfl,rfl,zl3,(.cons ⟨_,rfl⟩ (.cons ⟨_,rfl⟩ (.cons ⟨_,rfl⟩ .nil)))⟩
 have m_NUMBER_DEEDS:=mg_of X G dy0
 have d_NUMBER_DEEDS:MD l.prog w K dg0 (kvsN f12 f13 f14 f15 f16 f17):=zim [("+",du0_0,.ref f12,.ref f12),("-",du0_1,.ref f13,.ref f13),("*",du0_2,.ref f14,.ref f14),("/",du0_3,.ref f15,.ref f15),("less",du0_4,.ref f16,.ref f16),("figures",du0_5,.ref f17,.ref f17)] dx0 dz0 (fun p hp=>by simp only [List.mem_cons,List.not_mem_nil,or_false] at hp; rcases hp with rfl | rfl | rfl | rfl | rfl | rfl <;> first | exact rfl | exact ⟨_,rfl⟩) (by show (["+","-","*","/","less","figures"]:List Str).Nodup; decide +kernel)
 have m_OTHER_DEEDS:=mg_of X G dy1
 have d_OTHER_DEEDS:MD l.prog w K dg1 (kvsO f18 f19 f20 f21 f22):=zim [("same",du1_0,.ref f18,.ref f18),("join",du1_1,.ref f19,.ref f19),("list",du1_2,.ref f20,.ref f20),("item",du1_3,.ref f21,.ref f21),("count",du1_4,.ref f22,.ref f22)] dx1 dz1 (fun p hp=>by simp only [List.mem_cons,List.not_mem_nil,or_false] at hp; rcases hp with rfl | rfl | rfl | rfl | rfl <;> first | exact rfl | exact ⟨_,rfl⟩) (by show (["same","join","list","item","count"]:List Str).Nodup; decide +kernel)
 have m_BINDING:=mg_of X G dy2
 have d_BINDING:MD l.prog w K dg2 (kvsB ):=zim [("let",du2_0,.int 1,.int 1 dv2_0),("each",du2_1,.int 1,.int 1 dv2_1),("over",du2_2,.int 2,.int 2 dv2_2)] dx2 dz2 (fun p hp=>by simp only [List.mem_cons,List.not_mem_nil,or_false] at hp; rcases hp with rfl | rfl | rfl <;> first | exact rfl | exact ⟨_,rfl⟩) (by show (["let","each","over"]:List Str).Nodup; decide +kernel)
 have m_PARTS:=mg_of X G dy3
 have d_PARTS:MD l.prog w K dg3 (kvsP ):=zim [("let",du3_0,.int 2,.int 2 dv3_0),("if",du3_1,.int 3,.int 3 dv3_1),("+",du3_2,.int 2,.int 2 dv3_2),("-",du3_3,.int 2,.int 2 dv3_3),("*",du3_4,.int 2,.int 2 dv3_4),("/",du3_5,.int 2,.int 2 dv3_5),("same",du3_6,.int 2,.int 2 dv3_6),("less",du3_7,.int 2,.int 2 dv3_7),("join",du3_8,.int 2,.int 2 dv3_8),("item",du3_9,.int 2,.int 2 dv3_9),("count",du3_10,.int 1,.int 1 dv3_10),("figures",du3_11,.int 1,.int 1 dv3_11),("each",du3_12,.int 2,.int 2 dv3_12),("over",du3_13,.int 3,.int 3 dv3_13),("look",du3_14,.int 1,.int 1 dv3_14),("else",du3_15,.int 2,.int 2 dv3_15),("cry",du3_16,.int 1,.int 1 dv3_16)] dx3 dz3 (fun p hp=>by simp only [List.mem_cons,List.not_mem_nil,or_false] at hp; rcases hp with rfl | rfl | rfl | rfl | rfl | rfl | rfl | rfl | rfl | rfl | rfl | rfl | rfl | rfl | rfl | rfl | rfl <;> first | exact rfl | exact ⟨_,rfl⟩) (by show (["let","if","+","-","*","/","same","less","join","item","count","figures","each","over","look","else","cry"]:List Str).Nodup; decide +kernel)
 have m_GOING:=mg_of X G dy4
 have d_GOING:MD l.prog w K dg4 (kvsG f33 f34 f35 f36 f38 f39 f40 f41 f42):=zim [("lit",du4_0,.ref f33,.ref f33),("var",du4_1,.ref f34,.ref f34),("let",du4_2,.ref f35,.ref f35),("if",du4_3,.ref f36,.ref f36),("each",du4_4,.ref f38,.ref f38),("over",du4_5,.ref f39,.ref f39),("look",du4_6,.ref f40,.ref f40),("else",du4_7,.ref f41,.ref f41),("cry",du4_8,.ref f42,.ref f42)] dx4 dz4 (fun p hp=>by simp only [List.mem_cons,List.not_mem_nil,or_false] at hp; rcases hp with rfl | rfl | rfl | rfl | rfl | rfl | rfl | rfl | rfl <;> first | exact rfl | exact ⟨_,rfl⟩) (by show (["lit","var","let","if","each","over","look","else","cry"]:List Str).Nodup; decide +kernel)
 refine ⟨fnOf "law" "law" (Zk sLaw) (Zb sLaw) (zn sLaw) .none kV68 dc68 pm68 an68 cd68 ct68,fun s v=>.of_eq rfl,fun base _ _=>?_⟩
 have h_Book___init__:zbk l.prog w K mg base ABook "Book" 2 ["self"] (spBI ABook):=⟨_,_,1,rfl,(zce F0 cl_Book nf_Book_papers:FnOk l.prog w K mg base CX0 (0 + 1) _ _ _ _),b0,⟨mk_Book,a0,q0,kc_Book⟩,mg_of X G aC_Book⟩
 have h_Book_keep:zaI l.prog w K mg base ABook "keep" 1 ["self","name","paper"] (zgG ABook):=⟨_,_,(zfg F1 cl_Book nf_Book_papers:FnOk l.prog w K mg base CX0 (0 + 1) _ _ _ _),b1,⟨a1,q1,k1⟩,cl_Book⟩
 have h_Book_paper_of:zaI l.prog w K mg base ABook "paper_of" 1 ["self","name"] (zmg ABook):=⟨_,_,(zcg F2 cl_Book nf_Book_papers:FnOk l.prog w K mg base CX0 (0 + 1) _ _ _ _),b2,⟨a2,q2,k2⟩,cl_Book⟩
 have h_Book_copy:zaI l.prog w K mg base ABook "copy" 3 ["self"] (zf6 ABook):=⟨_,_,(zfh F3 (h_Book___init__.up rfl) m_dict cl_Book nf_Book_papers:FnOk l.prog w K mg base CX0 (2 + 1) _ _ _ _),b3,⟨a3,q3,k3⟩,cl_Book⟩
 have h_is_number:=hv l.prog w base 0 (zjV F4 m_isinstance m_int m_bool) (F4.b1 (by intros; rfl)) F4.2 (mg_of X G a4)
 have h_is_sign:=hv l.prog w base 0 (zie F5 m_ord m_PERCENT) (F5.b1 (by intros; rfl)) F5.2 (mg_of X G a5)
 have h_fits_alone:=hv l.prog w base 1 (zly F6 (h_is_number.up rfl) (h_is_sign.up rfl) m_isinstance m_str m_tuple m_len m_all m_abs m_MOST_SIGNS m_MOST_ITEMS) (F6.b2 (by intros; rfl)) F6.2 (mg_of X G a6)
 have h_size_alone:=hv l.prog w base 0 (zjX F7 m_isinstance m_str m_len) (F7.b1 (by intros; rfl)) F7.2 (mg_of X G a7)
 have h_is_worth:=hv l.prog w base 2 (zg3 F8 (h_fits_alone.up rfl) (h_size_alone.up rfl) m_isinstance m_tuple m_len m_MOST_DEPTH m_MOST_SIZE) (F8.b1 (by intros; rfl)) F8.2 (mg_of X G a8)
 have h_same:=hv l.prog w base 0 (zlS F9 ) (F9.b2 (by intros; rfl)) F9.2 (mg_of X G a9)
 have h_made:Have l.prog w K mg base "made" 4 ["thing"] (zaO K 24):=⟨_,_,(zlD F10 (h_is_worth.up rfl) m_GREAT t_GREAT:FnOk l.prog w K mg base CX0 (3 + 1) _ _ _ _),b10,F10.2,n10⟩
 have h_truth:=hv l.prog w base 0 (zj5 F11 ) (F11.b1 (by intros; rfl)) F11.2 (mg_of X G a11)
 have hf_summed:=hvF l.prog w base 4 (ziD F12 (h_made.up rfl)) (F12.b1 (by intros; rfl)) F12.2
 have hf_differing:=hvF l.prog w base 4 (zeW F13 (h_made.up rfl)) (F13.b1 (by intros; rfl)) F13.2
 have hf_multiplied:=hvF l.prog w base 4 (zd7 F14 (h_made.up rfl)) (F14.b1 (by intros; rfl)) F14.2
 have hf_divided:=hvF l.prog w base 4 (zhb F15 (h_made.up rfl) m_NOUGHT t_NOUGHT) (F15.b1 (by intros; rfl)) F15.2
 have hf_lessened:=hvF l.prog w base 1 (zfK F16 (h_truth.up rfl)) (F16.b1 (by intros; rfl)) F16.2
 have hf_figured:=hvF l.prog w base 4 (zhd F17 (h_made.up rfl) m_str) (F17.b1 (by intros; rfl)) F17.2
 have hf_compared:=hvF l.prog w base 1 (zfM F18 (h_truth.up rfl) (h_same.up rfl)) (F18.b1 (by intros; rfl)) F18.2
 have hf_joined:=hvF l.prog w base 4 (ziI F19 (h_made.up rfl) m_isinstance m_str m_tuple m_KIND t_KIND) (F19.b1 (by intros; rfl)) F19.2
 have hf_listed:=hvF l.prog w base 4 (ziF F20 (h_made.up rfl) m_tuple) (F20.b1 (by intros; rfl)) F20.2
 have hf_item_at:=hvF l.prog w base 4 (zhg F21 (h_made.up rfl) (h_is_number.up rfl) m_isinstance m_len m_tuple m_KIND t_KIND m_PLACE t_PLACE) (F21.b1 (by intros; rfl)) F21.2
 have hf_counted:=hvF l.prog w base 4 (zhf F22 (h_made.up rfl) m_isinstance m_len m_str m_tuple m_KIND t_KIND) (F22.b1 (by intros; rfl)) F22.2
 have h_reckoned:=hv l.prog w base 5 (zfO F23 (h_is_number.up rfl) m_all m_KIND t_KIND m_NUMBER_DEEDS d_NUMBER_DEEDS m_OTHER_DEEDS d_OTHER_DEEDS (hf_summed.up rfl) (hf_differing.up rfl) (hf_multiplied.up rfl) (hf_divided.up rfl) (hf_lessened.up rfl) (hf_figured.up rfl) (hf_compared.up rfl) (hf_joined.up rfl) (hf_listed.up rfl) (hf_item_at.up rfl) (hf_counted.up rfl)) (F23.b2 (by intros; rfl)) F23.2 (mg_of X G a23)
 have h_has_parts:=hv l.prog w base 0 (ze0 F24 m_PARTS d_PARTS) (F24.b1 (by intros; rfl)) F24.2 (mg_of X G a24)
 have h_binding_count:=hv l.prog w base 0 (zcb F25 m_BINDING d_BINDING) (F25.b1 (by intros; rfl)) F25.2 (mg_of X G a25)
 have h_parts_of:=hv l.prog w base 1 (zfP F26 (h_binding_count.up rfl) (h_has_parts.up rfl) m_list) (F26.b1 (by intros; rfl)) F26.2 (mg_of X G a26)
 have h_Run___init__:zbk l.prog w K mg base ARun "Run" 2 ["self","founds"] (zi1 K ARun):=⟨_,_,1,rfl,(zc5 F27 m_list cl_Run nf_Run_founds nf_Run_names:FnOk l.prog w K mg base CX0 (0 + 1) _ _ _ _),b27,⟨mk_Run,a27,q27,kc_Run⟩,mg_of X G aC_Run⟩
 have h_Run_look:zaI l.prog w K mg base ARun "look" 1 ["self","name"] (ziL K ARun):=⟨_,_,(zfX F28 m_len cl_Run nf_Run_founds nf_Run_names:FnOk l.prog w K mg base CX0 (0 + 1) _ _ _ _),b28,⟨a28,q28,k28⟩,cl_Run⟩
 have h_is_made:=hv l.prog w base 0 (zhi F29 ) (F29.b1 (by intros; rfl)) F29.2 (mg_of X G a29)
 have h_worth_of:=hv l.prog w base 0 (zfR F30 ) (F30.b1 (by intros; rfl)) F30.2 (mg_of X G a30)
 have h_as_last:=hv l.prog w base 0 (zhk F31 m_tuple) (F31.b1 (by intros; rfl)) F31.2 (mg_of X G a31)
 have h_binding:=hv l.prog w base 0 (zhl F32 m_dict) (F32.b3 (by intros; rfl)) F32.2 (mg_of X G a32)
 have h_ended_ahead:=hv l.prog w base 1 (zdj F37 (h_worth_of.up rfl) (h_is_made.up rfl) (h_as_last.up rfl) m_isinstance m_len m_tuple m_KIND t_KIND m_MOST_WALKED m_GREAT t_GREAT) (F37.b1 (by intros; rfl)) F37.2 (mg_of X G a37)
 have h_record_of:∀ n:Nat,Have l.prog w K mg base "record_of" (3 * n + 7) ["run","expression","bound"] (spG K ARun n (fun _=>True)):=fun n=>by
  induction n with
  | zero=>exact ⟨_,_,zel (fun vs H Q E h=>by obtain ⟨_,_,_,_,_,_,_,_,x,_,_,_,_,_,_,_,hh,_⟩:=h; exact absurd hh (by have:=zkw x; omega)) _,b45,F45.2,n45⟩
  | succ n ih=>
   have h_go_through:Have l.prog w K mg base "go_through" (3 * n + 7 + 0 + 1) ["run","expressions","bound"] (ze5 K ARun n):=⟨_,_,(zee F43 (h_is_made.mono (by omega)) (ih.mono (by omega)):FnOk l.prog w K mg base CX0 (3 * n + 7 + 0 + 1) _ _ _ (ze5 K ARun n)),b43,F43.2,n43⟩
   have hf_go_lit:Zl l.prog w K mg base f33 (3 * n + 7 + 0 + 1) ["run","expression","bound"] (spG K ARun (n + 1) (fun x=>∃ y,x = .lit y)):=⟨_,(ziQ F33:FnOk l.prog w K mg base CX0 (3 * n + 7 + 0 + 1) _ _ _ (spG K ARun (n + 1) (fun x=>∃ y,x = .lit y))),b33,F33.2⟩
   have hf_go_var:Zl l.prog w K mg base f34 (3 * n + 7 + 0 + 1) ["run","expression","bound"] (spG K ARun (n + 1) (fun x=>∃ s,x = .var s)):=⟨_,(ziS F34:FnOk l.prog w K mg base CX0 (3 * n + 7 + 0 + 1) _ _ _ (spG K ARun (n + 1) (fun x=>∃ s,x = .var s))),b34,F34.2⟩
   have hf_go_let:Zl l.prog w K mg base f35 (3 * n + 7 + 0 + 1) ["run","expression","bound"] (spG K ARun (n + 1) (fun x=>∃ s a b,x = .letE s a b)):=⟨_,(ziT F35 (h_as_last.mono (by omega)) (ih.mono (by omega)) (h_binding.mono (by omega)) (h_worth_of.mono (by omega)) (h_is_made.mono (by omega)):FnOk l.prog w K mg base CX0 (3 * n + 7 + 0 + 1) _ _ _ (spG K ARun (n + 1) (fun x=>∃ s a b,x = .letE s a b))),b35,F35.2⟩
   have hf_go_if:Zl l.prog w K mg base f36 (3 * n + 7 + 0 + 1) ["run","expression","bound"] (spG K ARun (n + 1) (fun x=>∃ a b c,x = .ifE a b c)):=⟨_,(zj6 F36 (h_as_last.mono (by omega)) (ih.mono (by omega)) (h_worth_of.mono (by omega)) (h_is_number.mono (by omega)) (h_is_made.mono (by omega)) m_KIND t_KIND:FnOk l.prog w K mg base CX0 (3 * n + 7 + 0 + 1) _ _ _ (spG K ARun (n + 1) (fun x=>∃ a b c,x = .ifE a b c))),b36,F36.2⟩
   have hf_go_each:Zl l.prog w K mg base f38 (3 * n + 7 + 1 + 1) ["run","expression","bound"] (spG K ARun (n + 1) (fun x=>∃ s a b,x = .eachE s a b)):=⟨_,(zho F38 (h_made.mono (by omega)) (h_worth_of.mono (by omega)) (h_is_made.mono (by omega)) (h_as_last.mono (by omega)) (ih.mono (by omega)) (h_binding.mono (by omega)) (h_ended_ahead.mono (by omega)) (h_go_through.mono (by omega)) m_tuple:FnOk l.prog w K mg base CX0 (3 * n + 7 + 1 + 1) _ _ _ (spG K ARun (n + 1) (fun x=>∃ s a b,x = .eachE s a b))),b38,F38.2⟩
   have hf_go_look:Zl l.prog w K mg base f40 (3 * n + 7 + 0 + 1) ["run","expression","bound"] (spG K ARun (n + 1) (fun x=>∃ a,x = .lookE a)):=⟨_,(zhn F40 (h_Run_look.mono (by omega)) (h_worth_of.mono (by omega)) (h_is_made.mono (by omega)) (h_as_last.mono (by omega)) (ih.mono (by omega)) m_isinstance m_str m_KIND t_KIND:FnOk l.prog w K mg base CX0 (3 * n + 7 + 0 + 1) _ _ _ (spG K ARun (n + 1) (fun x=>∃ a,x = .lookE a))),b40,F40.2⟩
   have hf_go_else:Zl l.prog w K mg base f41 (3 * n + 7 + 0 + 1) ["run","expression","bound"] (spG K ARun (n + 1) (fun x=>∃ a b,x = .elseE a b)):=⟨_,(zhm F41 (h_as_last.mono (by omega)) (ih.mono (by omega)) (h_is_made.mono (by omega)):FnOk l.prog w K mg base CX0 (3 * n + 7 + 0 + 1) _ _ _ (spG K ARun (n + 1) (fun x=>∃ a b,x = .elseE a b))),b41,F41.2⟩
   have hf_go_cry:Zl l.prog w K mg base f42 (3 * n + 7 + 0 + 1) ["run","expression","bound"] (spG K ARun (n + 1) (fun x=>∃ a,x = .cryE a)):=⟨_,(ziU F42 (h_worth_of.mono (by omega)) (h_is_made.mono (by omega)) (h_as_last.mono (by omega)) (ih.mono (by omega)):FnOk l.prog w K mg base CX0 (3 * n + 7 + 0 + 1) _ _ _ (spG K ARun (n + 1) (fun x=>∃ a,x = .cryE a))),b42,F42.2⟩
   have h_go_reckoned:Have l.prog w K mg base "go_reckoned" (3 * n + 7 + 1 + 1) ["run","expression","bound"] (spG K ARun (n + 1) (fun x=>∃ d es,x = .reck d es)):=⟨_,_,(zdi F44 (h_reckoned.mono (by omega)) (h_worth_of.mono (by omega)) (h_is_made.mono (by omega)) (h_as_last.mono (by omega)) (h_go_through.mono (by omega)) (h_parts_of.mono (by omega)) m_len m_tuple:FnOk l.prog w K mg base CX0 (3 * n + 7 + 1 + 1) _ _ _ (spG K ARun (n + 1) (fun x=>∃ d es,x = .reck d es))),b44,F44.2,n44⟩
   have hm:Have l.prog w K mg base "record_of" (3 * n + 7 + 2 + 1) ["run","expression","bound"] (spG K ARun (n + 1) (fun _=>True)):=⟨_,_,(ze8 F45 (h_go_reckoned.mono (by omega))  m_GOING d_GOING (hf_go_lit.mono (by omega)) (hf_go_var.mono (by omega)) (hf_go_let.mono (by omega)) (hf_go_if.mono (by omega)) (hf_go_each.mono (by omega)) (hf_go_look.mono (by omega)) (hf_go_else.mono (by omega)) (hf_go_cry.mono (by omega)):FnOk l.prog w K mg base CX0 (3 * n + 7 + 2 + 1) _ _ _ (spG K ARun (n + 1) (fun _=>True))),b45,F45.2,n45⟩
   exact hm.mono (by omega)
 have h_gone:=hv l.prog w base 97 (zlW F46 ((h_record_of 30).up rfl) (h_Run___init__.up rfl) m_list cl_Run nf_Run_names) (F46.b2 (by intros; rfl)) F46.2 (mg_of X G a46)
 have h_lcell:=hv l.prog w base 0 (zlt F47 m_len) (F47.b2 (by intros; rfl)) F47.2 (mg_of X G a47)
 have h_lbox:=hv l.prog w base 1 (zmS F48 (h_lcell.up rfl)) (F48.b2 (by intros; rfl)) F48.2 (mg_of X G a48)
 have h_ltake:=hv l.prog w base 0 (zlu F49 ) (F49.b2 (by intros; rfl)) F49.2 (mg_of X G a49)
 have h_ltext:=hv l.prog w base 1 (zlv F50 (h_ltake.up rfl) m_len m_range) (F50.b2 (by intros; rfl)) F50.2 (mg_of X G a50)
 have h_lnumber:=hv l.prog w base 1 (zib F51 (h_ltake.up rfl)) (F51.b1 (by intros; rfl)) F51.2 (mg_of X G a51)
 have h_lworth:∀ n:Nat,Have l.prog w K mg base "_law_worth" (n + 3) ["_law_box_here","_law_room","_law_deep"] (zbS n):=fun n=>by
  induction n with
  | zero=>exact ⟨_,_,zel (fun vs H Q E h=>by obtain ⟨b,room,deep,_,_,_,_,h0,h1,_⟩:=h; omega) _,b52,F52.2,n52⟩
  | succ n ih=>exact ⟨_,_,zjT F52 (h_ltake.mono (by omega)) (h_ltext.mono (by omega)) (h_lnumber.mono (by omega)) ih m_min m_range m_tuple,b52,F52.2,n52⟩
 have h_lvariable:=hv l.prog w base 1 (ze9 F53 (h_ltake.up rfl) m_range) (F53.b1 (by intros; rfl)) F53.2 (mg_of X G a53)
 have h_llit:=hv l.prog w base 16 (zlY F54 ((h_lworth 13).up rfl) (h_ltake.up rfl) m_len) (F54.b2 (by intros; rfl)) F54.2 (mg_of X G a54)
 have h_lnamed:=hv l.prog w base 1 (zje F55 (h_ltake.up rfl) m_len) (F55.b2 (by intros; rfl)) F55.2 (mg_of X G a55)
 have h_lword:=hv l.prog w base 1 (zka F56 (h_ltake.up rfl) m_int) (F56.b5 (by intros; rfl)) F56.2 (mg_of X G a56)
 have h_pair:∀ n:Nat,Have l.prog w K mg base "_law_any" (lvP 18 n) ["_law_box_here","_law_scope","_law_names_here","_law_spare","_law_floors","_law_rounds"] (zhq n)/\Have l.prog w K mg base "_law_parts_by" (lvP 18 n + 1) ["_law_box_here","_law_scopes","_law_names_here","_law_spare","_law_floors","_law_rounds"] (zc6 n):=fun n=>by
  induction n with
  | zero=>
   have A0:Have l.prog w K mg base "_law_any" (lvP 18 0) ["_law_box_here","_law_scope","_law_names_here","_law_spare","_law_floors","_law_rounds"] (zhq 0):=⟨_,_,zel (fun vs H Q E h=>by obtain ⟨_,_,_,_,_,_,_,_,_,_,_,_,_,_,_,_,h0,h1,_⟩:=h; omega) _,b58,F58.2,n58⟩
   exact ⟨A0,_,_,zb3 F57 A0 m_enumerate m_len m_tuple,b57,F57.2,n57⟩
  | succ n ih=>
   have A1:Have l.prog w K mg base "_law_any" (lvP 18 (n + 1)) ["_law_box_here","_law_scope","_law_names_here","_law_spare","_law_floors","_law_rounds"] (zhq (n + 1)):=⟨_,_,zl5 F58 ih.2 (h_lvariable.mono (Nat.le_trans (by decide) (Nat.le_succ_of_le (zfj 18 n)))) (h_ltake.mono (Nat.le_trans (by decide) (Nat.le_succ_of_le (zfj 18 n)))) (h_llit.mono (Nat.le_trans (by decide) (Nat.le_succ_of_le (zfj 18 n)))) (h_lword.mono (Nat.le_trans (by decide) (Nat.le_succ_of_le (zfj 18 n)))) m_int m_len m_list m_min,b58,F58.2,n58⟩
   exact ⟨A1,_,_,zb3 F57 A1 m_enumerate m_len m_tuple,b57,F57.2,n57⟩
 have h_lsound:=hv l.prog w base 16 (zjg F59 (h_ltake.up rfl) ((h_lworth 13).up rfl) (h_lnamed.up rfl) m_len m_range m_tuple) (F59.b2 (by intros; rfl)) F59.2 (mg_of X G a59)
 have h_lrule:=hv l.prog w base 48 (zko F60 (h_lsound.up rfl) (h_ltake.up rfl) ((h_pair 14).1.mono (by decide))) (F60.b2 (by intros; rfl)) F60.2 (mg_of X G a60)
 have h_llikes:=hv l.prog w base 1 (zjm F61 (h_ltake.up rfl) m_range) (F61.b2 (by intros; rfl)) F61.2 (mg_of X G a61)
 have h_lnames:=hv l.prog w base 2 (zjo F62 (h_ltake.up rfl) (h_llikes.up rfl)) (F62.b2 (by intros; rfl)) F62.2 (mg_of X G a62)
 have h_loutcome:=hv l.prog w base 16 (zf3 F63 ((h_lworth 13).up rfl) (h_ltext.up rfl) (h_ltake.up rfl)) (F63.b1 (by intros; rfl)) F63.2 (mg_of X G a63)
 have h_lgrown:=hv l.prog w base 98 (zji F64 (h_gone.up rfl) (h_loutcome.up rfl) m_list m_tuple m_zip) (F64.b3 (by intros; rfl)) F64.2 (mg_of X G a64)
 have h_lalike:∀ n:Nat,Have l.prog w K mg base "_law_alike" (n + 1) ["_law_one","_law_other"] (spAl K n):=fun n=>by
  induction n with
  | zero=>exact ⟨_,_,zel (fun vs H Q E h=>by obtain ⟨_,_,_,h0,_⟩:=h; rcases h0 with ⟨_,_,h0⟩ | ⟨_,_,_,h0⟩ <;> exact absurd h0 (Nat.not_lt_zero _)) _,b65,F65.2,n65⟩
  | succ n ih=>exact ⟨_,_,zi9 F65 ih m_all m_bool m_int m_isinstance m_len m_str m_tuple m_zip,b65,F65.2,n65⟩
 have h_lright:=hv l.prog w base 71 (zjs F66 ((h_lalike 70).up rfl) (h_Book_paper_of.up rfl) m_all m_dict m_isinstance m_sorted cl_Book nf_Book_papers) (F66.b3 (by intros; rfl)) F66.2 (mg_of X G a66)
 have h_lcopied:=hv l.prog w base 99 (zht F67 (h_lright.up rfl) (h_Book_keep.up rfl) (h_lgrown.up rfl) (h_lrule.up rfl) (h_ltake.up rfl) (h_Book_copy.up rfl) m_dict m_len) (F67.b4 (by intros; rfl)) F67.2 (mg_of X G a67)
 exact (znB F68 (h_lright.up rfl) (h_Book___init__.up rfl) (h_lcopied.up rfl) (h_lbox.up rfl) (h_Book_keep.up rfl) (h_lgrown.up rfl) (h_lrule.up rfl) (h_ltake.up rfl) (h_lnames.up rfl) m_len m_range:FnOk l.prog w K mg base CX0 (189 + 1) _ _ _ _)
theorem zkx {l:PySem.W.OpenLaw}{q:Program}{loose:List Str}{XP:(Str->Option Value)->Heap->Prop}{YP:World->Heap->Prop}{d:DefRec}{K:Params->PySem.W.Frag} (hn:l.most = some 63) (hdf:d.params.defaults = [])
  (hY:∀ (w:World) (h:Heap),YP w h->(K w.params).In h)
  (F:∀ (w:World) (mg:Str->Option Value) (fa:Addr) (h:Heap),(K w.params).In h->h.Ns mainGlobals mg->mg d.name = some (.ref fa)->
   ∃ fd:FuncData,(∀ (s:Shared) (u:Value),BindsTo s fd ⟨[u],[]⟩ [("_law_script",u)])/\∀ base:Heap,(K w.params).In base->base.Ns mainGlobals mg->FnOk l.prog w (K w.params) mg base CX0 190 fa fd ["_law_script"] (zkv (K w.params))):
  PySem.W.WalkO q loose XP YP l.row.toRowW d [] (fun f vs=>PySem.call f vs):=
 L2.zlo (n:=63) (k:=190) (x:="_law_script") (CX:=fun _=>CX0) (sp:=fun w=>zkv (K w.params)) hn (by decide) hdf ⟨rfl,by decide,by decide⟩ hY F (fun _ _ a ns hl _ hS=>⟨a,ns,rfl,hS,hl,fun _=>rfl⟩) fun _ _ _ _ _ z=>z
end D
open PySem PySem.W PyProof.Rows
set_option maxRecDepth 100000 in
set_option maxHeartbeats 0 in
theorem PySem.Challenge.cw_leastforge_k33_books_holds : PySem.Challenge.rw_leastforge_k33_books.Holds := by
 w_on; o_law; k_head; (case hw=>w_witness2)
 k_fill
 refine D.zkx (l:=PySem.Challenge.rw_leastforge_k33_books) rfl rfl (fun w h Y=>PySem.W.kIn_of Y) ?F
 case F=>
  intro w mg fa h KX G hmg
  apply D.znC KX G hmg
  all_goals try (first | (refine' ⟨_,L2.zb0 ?_ ?_ ?_⟩ <;> try first | k_is | rfl) | ((try unfold D.nI); (try unfold D.lI); (try unfold D.cI); (try unfold D.kI); first | k_is | rfl))
