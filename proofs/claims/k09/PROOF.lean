import PyProof.Rows.All
import Wide.All
import OpenK.AllK
import Wide.FinOn
import Lean
import PyProof.EqAt
import PyProof.EqKinds
import PyProof.TupleCall
import PyProof.EnumMake
import PyProof.WalksEnum
import PyProof.NeKinds
import KE.KTryMore
import PyProof.StationsW
import PyProof.NsDelKeeps
import PyProof.RulesAs
import PySem.Challenge.RW_leastforge_k09_texts_that_write_no_rule
open PySem.W (instObj methodObj lookIn InstAt findIn specialIn takesIn mroIn kitOne kia_one keepIn fnOf codeIn excIn exmOne clsIn nsIn mg_of mg_none_of)
set_option Elab.async false
set_option linter.all false
set_option maxRecDepth 100000
set_option maxHeartbeats 4000000
theorem L2.zl0:0<=PySem.sizeLine:=by decide
theorem L2.zl1:1<=PySem.sizeLine:=by decide
theorem L2.zl2:2<=PySem.sizeLine:=by decide
theorem L2.zl3:3<=PySem.sizeLine:=by decide
theorem L2.zl4:4<=PySem.sizeLine:=by decide
theorem L2.zl5:5<=PySem.sizeLine:=by decide
theorem L2.zl6:6<=PySem.sizeLine:=by decide
theorem L2.zl8:8<=PySem.sizeLine:=by decide
theorem L2.zl12:12<=PySem.sizeLine:=by decide
namespace L2
open PySem PySem.Spec PyProof.Rows
abbrev Key:=Sum Int Str
def zhn:Key->Value->Bool
 | .inl k,v=>Value.isInt k v
 | .inr x,v=>Value.isStrOf x v
def keyH (w:World):Key->Int
 | .inl k=>hashInt k
 | .inr x=>hashStr w x
theorem Zm:∀ {k:Key}{v:Value},zhn k v = true->(∃ i t,k = Sum.inl i/\v = Value.int i t)\/(∃ x t,k = Sum.inr x/\v = Value.str x t)
 | .inl i,v,h=>by
  obtain ⟨t,e⟩:=Value.isInt_shape (k:=i) (v:=v) h
  exact .inl ⟨i,t,rfl,e⟩
 | .inr x,v,h=>by
  obtain ⟨t,e⟩:=Value.isStrOf_shape (x:=x) (v:=v) h
  exact .inr ⟨x,t,rfl,e⟩
theorem zh6 (i:Int) (t:Tok):zhn (.inl i) (.int i t) = true:=by simp [zhn,Value.isInt]
theorem zh7 (x:Str) (t:Tok):zhn (.inr x) (.str x t) = true:=by simp [zhn,Value.isStrOf]
theorem zmv (a b:Int):decide ((Sum.inl a:Key) = Sum.inl b) = (a == b):=by
 by_cases e:a = b
 ·subst e; simp
 ·have h:¬ (Sum.inl a:Key) = Sum.inl b:=fun q=>e (Sum.inl.inj q)
  rw [decide_eq_false h]
  exact (beq_eq_false_iff_ne.mpr e).symm
theorem zmw (a b:Str):decide ((Sum.inr a:Key) = Sum.inr b) = decide (a = b):=by
 by_cases e:a = b
 ·subst e; simp
 ·have h:¬ (Sum.inr a:Key) = Sum.inr b:=fun q=>e (Sum.inr.inj q)
  rw [decide_eq_false h,decide_eq_false e]
theorem zmx (a:Int) (b:Str):decide ((Sum.inl a:Key) = Sum.inr b) = false:=decide_eq_false (fun q=>nomatch q)
theorem zmy (a:Str) (b:Int):decide ((Sum.inr a:Key) = Sum.inl b) = false:=decide_eq_false (fun q=>nomatch q)
def Zd (prog:Program) (w:World):PySem.KeyKind prog w Key where
 is:=zhn
 hash:=keyH w
 inj:=fun v a b ha hb=>by
  rcases Zm ha with ⟨i,t,rfl,rfl⟩ | ⟨x,t,rfl,rfl⟩
  ·rcases Zm hb with ⟨j,u,rfl,e⟩ | ⟨y,u,rfl,e⟩
   ·injection e with e1 _; rw [e1]
   ·exact nomatch e
  ·rcases Zm hb with ⟨j,u,rfl,e⟩ | ⟨y,u,rfl,e⟩
   ·exact nomatch e
   ·injection e with e1 _; rw [e1]
 byValue:=fun k v h=>by
  rcases Zm h with ⟨i,t,rfl,rfl⟩ | ⟨x,t,rfl,rfl⟩ <;> rfl
 pyHash:=fun hv h=>by
  rcases Zm hv with ⟨i,t,rfl,rfl⟩ | ⟨x,t,rfl,rfl⟩
  ·exact wpAny_pyHash_int h
  ·exact wpAny_pyHash_str h
 eqBool:=fun hu hv h=>by
  rcases Zm hu with ⟨i,t,rfl,rfl⟩ | ⟨x,t,rfl,rfl⟩
  ·rcases Zm hv with ⟨j,u,rfl,rfl⟩ | ⟨y,u,rfl,rfl⟩
   ·rw [zmv] at h; exact wpAny_eqBool_int h
   ·rw [zmx] at h; exact SeqAt.EqAt.int_str i t y u _ _ _ _ h
  ·rcases Zm hv with ⟨j,u,rfl,rfl⟩ | ⟨y,u,rfl,rfl⟩
   ·rw [zmy] at h; exact SeqAt.EqAt.str_int x t j u _ _ _ _ h
   ·rw [zmw] at h; exact wpAny_eqBool_str h
 «strs»:=fun k x t v h=>by
  rcases Zm h with ⟨i,u,rfl,e⟩ | ⟨y,u,rfl,e⟩
  ·exact nomatch e
  ·injection e with e1 _
   subst e1
   cases v <;> rfl
theorem zfM (prog:Program) (w:World) (i:Int) (t:Tok):(Zd prog w).is (.inl i) (.int i t) = true:=zh6 i t
theorem ZG (prog:Program) (w:World) (x:Str) (t:Tok):(Zd prog w).is (.inr x) (.str x t) = true:=zh7 x t
inductive V where
 | non | bl (b:Bool) | int (i:Int) | str (x:Str) | byt (b:Array UInt8) | flt (b:UInt64) | ref (a:Addr) | ty (n:String)
 deriving DecidableEq
def RelV:V->Value->Prop
 | .non,u=>u = Value.none
 | .bl b,u=>u = Value.bool b
 | .int i,u=>∃ t,u = Value.int i t
 | .str x,u=>∃ t,u = Value.str x t
 | .byt b,u=>∃ t,u = Value.bytes b t
 | .flt b,u=>∃ t,u = Value.float b t
 | .ref a,u=>u = Value.ref a
 | .ty n,u=>u = Value.type n
abbrev Vals:List V->List Value->Prop:=Paired RelV
theorem Vals.length {xs:List V}{us:List Value} (r:Vals xs us):xs.length = us.length:=Paired.length r
theorem Vals.get:∀ {xs:List V}{us:List Value}{i:Nat}{x:V},Vals xs us->xs[i]? = some x->∃ u,us[i]? = some u/\RelV x u
 | _,_,_,_,.nil,e=>by simp at e
 | _,_,0,_,.cons r _,e=>by simp at e; subst e; exact ⟨_,rfl,r⟩
 | _,_,i + 1,x,.cons _ t,e=>by
  obtain ⟨u,h1,h2⟩:=Vals.get (i:=i) (x:=x) t (by simpa using e)
  exact ⟨u,by simpa using h1,h2⟩
theorem Vals.set {x:V}{u:Value} (r:RelV x u):∀ {xs:List V}{us:List Value} (i:Nat),Vals xs us->Vals (xs.set i x) (us.set i u)
 | _,_,_,.nil=>.nil
 | _,_,0,.cons _ t=>.cons r t
 | _,_,i + 1,.cons q t=>.cons q (Vals.set r i t)
theorem Vals.append:∀ {xs ys:List V}{us ws:List Value},Vals xs us->Vals ys ws->Vals (xs ++ ys) (us ++ ws)
 | _,_,_,_,.nil,s=>s
 | _,_,_,_,.cons r t,s=>.cons r (Vals.append t s)
theorem Vals.take:∀ {xs:List V}{us:List Value} (n:Nat),Vals xs us->Vals (xs.take n) (us.take n)
 | _,_,0,_=>.nil
 | _,_,_ + 1,.nil=>.nil
 | _,_,n + 1,.cons r t=>.cons r (Vals.take n t)
theorem Vals.drop:∀ {xs:List V}{us:List Value} (n:Nat),Vals xs us->Vals (xs.drop n) (us.drop n)
 | _,_,0,r=>r
 | _,_,_ + 1,.nil=>.nil
 | _,_,n + 1,.cons _ t=>Vals.drop n t
def RelO:Option V->Option Value->Prop
 | some v,some u=>RelV v u
 | none,none=>True
 | _,_=>False
def KV {κ:Type}:List (κ × V)->List (κ × Value)->Prop:=Paired fun (p:κ × V) (q:κ × Value)=>p.1 = q.1/\RelV p.2 q.2
def kV:Key->V
 | .inl i=>.int i
 | .inr x=>.str x
inductive HO where
 | lst (xs:List V)
 | tup (xs:List V)
 | dK (kvs:List (Key × V)) | dT (kvs:List (List Key × V))
 | set (S:Int->Bool) (n:Nat)
 | ins (C dx:Addr) (fs:List (Str × V))
 | own (x:Addr)
 | xd (fs:List (Str × V))
 | met (f x:Addr)
 | rng (lo hi:Int)
 | frz (o:Obj) (u:HO)
 | tbl (ps:Array Value)
 | ext (φ:Heap->Prop)
abbrev Hp:=Addr->Option HO
def upd (H:Hp) (a:Addr) (o:HO):Hp:=fun b=>if b = a then some o else H b
theorem zd {H:Hp}{a:Addr}{o:HO}:upd H a o a = some o:=by unfold upd; rw [if_pos rfl]
theorem zu {H:Hp}{a b:Addr}{o:HO} (h:b≠a):upd H a o b = H b:=by unfold upd; rw [if_neg h]
theorem zmz {H:Hp}{a b:Addr}{o u:HO} (h:H a = some o) (h':H b = some u) (d:o≠u):a≠b:=by
 intro e; subst e; rw [h] at h'; exact d (Option.some.inj h')
theorem zr {H:Hp}{a b:Addr}{o:HO} (h:H a = some o) (h':H b = none):a≠b:=by
 intro e; subst e; rw [h] at h'; cases h'
section
variable (P:Program) (w:World)
def ZO (H:Hp) (h:Heap) (a:Addr):HO->Prop
 | .lst xs=>xs.length<=sizeLine/\∃ (its:List Value) (n:Nat),Vals xs its/\h.get? a = some { cls:=.type "list",data:=.seq its.toArray n }
 | .tup xs=>xs.length<=sizeLine/\∃ its:List Value,Vals xs its/\IsTup h a its.toArray
 | .dK kvs=>kvs.length<=sizeLine/\(a == sysModules) = false/\∃ vs,KV kvs vs/\h.DictOf (Zd P w) a vs
 | .dT kvs=>kvs.length<=sizeLine/\(a == sysModules) = false/\∃ xs:List (List Key × Addr × Value),
   Paired (fun (p:List Key × V) (q:List Key × Addr × Value)=>p.1 = q.1/\H q.2.1 = some (.tup (p.1.map kV))/\RelV p.2 q.2.2) kvs xs /\
   ∃ o es ep,h.get? a = some o/\o.ExactDict/\o.data = .dict es ep/\es.toList = xs.map (entryOfKey (tupleKind (Zd P w)))/\(xs.map (·.1)).Nodup
 | .set S n=>h.SetOf (intKind P w) a S n
 | .ins C dx fs=>H dx = some (.own a)/\fs.length<=1000/\dx≠a/\h.get? a = some (instObj C dx) /\
   ∃ mA,h.Ns1 dx mA/\(∀ f,RelO (fs.lookup f) (mA f))/\PySem.Within mA (fs.map (·.1))
 | .own _=>∃ o,h.get? a = some o
 | .xd fs=>∃ mA,h.Ns1 a mA/\∀ f,RelO (fs.lookup f) (mA f)
 | .rng lo hi=>∃ t u v,h.get? a = some { cls:=.type "range",data:=.fields #[.int lo t,.int hi u,.int 1 v] }
 | .frz o u=>h.get? a = some o/\ZO H h a u
 | .tbl ps=>h.get? a = some { cls:=.none,data:=.fields ps }
 | .met f x=>h.get? a = some (methodObj (.ref f) (.ref x))
 | .ext φ=>φ h/\(∃ o,h.get? a = some o)/\∀ h1 h2:Heap,φ h1->(∀ o,h1.get? a = some o->h2.get? a = some o)->φ h2
def HOk (H:Hp) (h:Heap):Prop:=∀ a o,H a = some o->ZO P w H h a o
end
section
variable {P:Program}{w:World}{H H':Hp}{h h':Heap}{a:Addr}{o:HO}
theorem ZO.lt (x:ZO P w H h a o):a < h.objs.size:=by
 cases o with
 | lst xs=>obtain ⟨_,_,_,_,e⟩:=x; exact Heap.lt_size e
 | tup xs=>obtain ⟨_,_,_,p⟩:=x; exact p.lt
 | dK kvs=>obtain ⟨_,_,_,_,o,_,_,e,_⟩:=x; exact Heap.lt_size e
 | dT kvs=>obtain ⟨_,_,_,_,o,_,_,e,_⟩:=x; exact Heap.lt_size e
 | set S n=>obtain ⟨o,_,_,_,e,_⟩:=x; exact Heap.lt_size e
 | ins C dx fs=>obtain ⟨_,_,_,e,_⟩:=x; exact Heap.lt_size e
 | own y=>obtain ⟨_,e⟩:=x; exact Heap.lt_size e
 | xd fs=>obtain ⟨_,⟨_,_,_,e,_⟩,_⟩:=x; exact Heap.lt_size e
 | rng lo hi=>obtain ⟨_,_,_,e⟩:=x; exact Heap.lt_size e
 | frz ob u=>obtain ⟨e,_⟩:=x; exact Heap.lt_size e
 | tbl ps=>exact Heap.lt_size (show h.get? a = some _ from x)
 | met f y=>exact Heap.lt_size (show h.get? a = some _ from x)
 | ext φ=>obtain ⟨_,⟨_,e⟩,_⟩:=x; exact Heap.lt_size e
theorem Paired.mapP {α β:Type}{F G:α->β->Prop}:∀ {l₁:List α}{l₂:List β},Paired F l₁ l₂->(∀ a b,F a b->G a b)->Paired G l₁ l₂
 | _,_,.nil,_=>.nil
 | _,_,.cons r t,f=>.cons (f _ _ r) (Paired.mapP t f)
theorem ZO.stay (x:ZO P w H h a o) (k:∀ b u,(b = a\/H b = some (.own a))->h.get? b = some u->h'.get? b = some u)
  (ho:∀ b,H b = some (.own a)->H' b = some (.own a)) (ht:∀ b xs,H b = some (.tup xs)->H' b = some (.tup xs)):ZO P w H' h' a o:=by
 induction o with
 | lst xs=>obtain ⟨z,its,n,r,e⟩:=x; exact ⟨z,its,n,r,k _ _ (.inl rfl) e⟩
 | tup xs=>obtain ⟨z,its,r,ob,e,c⟩:=x; exact ⟨z,its,r,ob,k _ _ (.inl rfl) e,c⟩
 | dK kvs=>obtain ⟨z,y,vs,r,ob,es,ep,e,c⟩:=x; exact ⟨z,y,vs,r,ob,es,ep,k _ _ (.inl rfl) e,c⟩
 | dT kvs=>
  obtain ⟨z,y,xs,r,ob,es,ep,e,c⟩:=x
  exact ⟨z,y,xs,Paired.mapP r fun p q z=>⟨z.1,ht _ _ z.2.1,z.2.2⟩,ob,es,ep,k _ _ (.inl rfl) e,c⟩
 | set S n=>obtain ⟨ob,es,ep,t,e,c⟩:=x; exact ⟨ob,es,ep,t,k _ _ (.inl rfl) e,c⟩
 | ins C dx fs=>
  obtain ⟨d,z,ne,e,mA,⟨od,es,ep,e2,c⟩,r⟩:=x
  exact ⟨ho _ d,z,ne,k _ _ (.inl rfl) e,mA,⟨od,es,ep,k _ _ (.inr d) e2,c⟩,r⟩
 | own y=>obtain ⟨ob,e⟩:=x; exact ⟨ob,k _ _ (.inl rfl) e⟩
 | xd fs=>obtain ⟨mA,⟨od,es,ep,e,c⟩,r⟩:=x; exact ⟨mA,⟨od,es,ep,k _ _ (.inl rfl) e,c⟩,r⟩
 | rng lo hi=>obtain ⟨t,u,v,e⟩:=x; exact ⟨t,u,v,k _ _ (.inl rfl) e⟩
 | frz ob u ih=>obtain ⟨e,q⟩:=x; exact ⟨k _ _ (.inl rfl) e,ih q⟩
 | tbl ps=>
  have e:h.get? a = some { cls:=.none,data:=.fields ps }:=x
  show h'.get? a = some { cls:=.none,data:=.fields ps }
  exact k a _ (.inl rfl) e
 | met f y=>
  have e:h.get? a = some (methodObj (.ref f) (.ref y)):=x
  show h'.get? a = some (methodObj (.ref f) (.ref y))
  exact k a _ (.inl rfl) e
 | ext φ=>obtain ⟨p,⟨o,e⟩,st⟩:=x; exact ⟨st _ _ p fun o q=>k _ _ (.inl rfl) q,⟨o,k _ _ (.inl rfl) e⟩,st⟩
theorem HOk.lt (x:HOk P w H h) (e:H a = some o):a < h.objs.size:=(x a o e).lt
theorem HOk.fresh (x:HOk P w H h) (e:h.objs.size<=a):H a = none:=by
 cases q:H a with
 | none=>rfl
 | some u=>exact absurd (Nat.lt_of_lt_of_le (x.lt q) e) (Nat.lt_irrefl _)
theorem HOk.kept (x:HOk P w H h) (k:∀ b u,h.get? b = some u->h'.get? b = some u):HOk P w H h':=fun a o e=>
 (x a o e).stay (fun b u _ q=>k b u q) (fun _ q=>q) fun _ _ q=>q
theorem HOk.laid (x:HOk P w H h) (k:∀ b u,h.get? b = some u->h'.get? b = some u) (hp:h.objs.size<=a) (new:ZO P w (upd H a o) h' a o):HOk P w (upd H a o) h':=fun b u e=>by
 have hn:=x.fresh hp
 by_cases hb:b = a
 ·subst hb; rw [zd] at e; cases e; exact new
 ·rw [zu hb] at e
  exact (x b u e).stay (fun c v _ q=>k c v q) (fun c q=>by rw [zu (zr q hn)]; exact q) fun c xs q=>by rw [zu (zr q hn)]; exact q
end
def Rd (H:Hp) (a:Addr) (u:HO):Prop:=H a = some u\/∃ o,H a = some (.frz o u)
theorem Rd.ok {P:Program}{w:World}{H:Hp}{h:Heap}{a:Addr}{u:HO} (r:Rd H a u) (x:HOk P w H h):ZO P w H h a u:=by
 rcases r with r | ⟨o,r⟩
 ·exact x a u r
 ·obtain ⟨_,q⟩:=x a _ r
  exact q
def Mut:Option HO->Prop
 | some (.lst _)=>True
 | some (.dK _)=>True
 | some (.dT _)=>True
 | some (.set _ _)=>True
 | some (.ins _ _ _)=>True
 | some (.ext _)=>True
 | _=>False
section
variable {P:Program}{w:World}{H:Hp}{h h':Heap}{x e:Addr}{o':HO}
theorem HOk.write (ok:HOk P w H h) (mu:Mut (H x)) (he:e = x\/H e = some (.own x)) (k:∀ b u,b≠e->h.get? b = some u->h'.get? b = some u) (heo:∃ u,h'.get? e = some u)
  (new:ZO P w (upd H x o') h' x o'):HOk P w (upd H x o') h':=fun b u q=>by
 have nown:∀ c y,H c = some (.own y)->c≠x:=fun c y r z=>by subst z; rw [r] at mu; exact mu
 have ntup:∀ c xs,H c = some (.tup xs)->c≠x:=fun c xs r z=>by subst z; rw [r] at mu; exact mu
 by_cases hb:b = x
 ·subst hb; rw [zd] at q; cases q; exact new
 ·rw [zu hb] at q
  by_cases hbe:b = e
  ·have q':H b = some (.own x):=by
    rcases he with z | z
    ·exact absurd (hbe.trans z) hb
    ·rw [hbe]; exact z
   rw [q] at q'; cases q'
   obtain ⟨v,hv⟩:=heo
   exact ⟨v,by rw [hbe]; exact hv⟩
  ·refine (ok b u q).stay (fun c v hc r=>k c v ?_ r) (fun c r=>by rw [zu (nown c b r)]; exact r) fun c xs r=>by rw [zu (ntup c xs r)]; exact r
   rcases hc with rfl | hc
   ·exact hbe
   ·rintro rfl
    rcases he with z | z
    ·exact nown c b hc z
    ·rw [hc] at z; cases z; exact hb rfl
end
structure Un (fs ex:List Addr) (H H':Hp) (h h':Heap):Prop where
 keep:∀ b o,h.get? b = some o->H b = none->b ∉ fs->b ∉ ex->h'.get? b = some o
 slot:∀ b o,h.get? b = some o->H b = none->b∈fs->b ∉ ex->∃ sl,h'.get? b = some { o with slots:=sl }
 free:∀ b o,h.get? b = some o->H b = none->b ∉ ex->H' b = none
 there:∀ b o,h.get? b = some o->b ∉ ex->∃ o',h'.get? b = some o'
 tups:∀ b xs,H b = some (.tup xs)->H' b = some (.tup xs)
 frzs:∀ b o u,H b = some (.frz o u)->H' b = some (.frz o u)
 tbls:∀ b ps,H b = some (.tbl ps)->∃ more,H' b = some (.tbl (ps ++ more))
section
variable {fs fs' ex ex':List Addr}{H H1 H2:Hp}{h h1 h2 h':Heap}{a x e:Addr}{o:HO}
theorem Un.any (u:Un fs ex H H1 h h1) {b:Addr}{ob:Obj} (q:h.get? b = some ob) (n:H b = none) (hx:b ∉ ex):∃ sl,h1.get? b = some { ob with slots:=sl }:=by
 by_cases hb:b∈fs
 ·exact u.slot b ob q n hb hx
 ·exact ⟨ob.slots,u.keep b ob q n hb hx⟩
theorem Un.kept (k:∀ b u,h.get? b = some u->h'.get? b = some u):Un fs ex H H h h':=
 ⟨fun b ob q _ _ _=>k b ob q,fun b ob q _ _ _=>⟨ob.slots,k b ob q⟩,fun _ _ _ n _=>n,fun b ob q _=>⟨ob,k b ob q⟩,fun _ _ q=>q,fun _ _ _ q=>q,fun _ ps q=>⟨#[],by rw [q]; simp⟩⟩
theorem Un.refl:Un fs ex H H h h:=Un.kept fun _ _ q=>q
theorem Un.laid (k:∀ b u,h.get? b = some u->h'.get? b = some u) (hp:h.objs.size<=a) (hn:H a = none):Un fs ex H (upd H a o) h h' where
 keep:=fun b u q _ _ _=>k b u q
 slot:=fun b u q _ _ _=>⟨u.slots,k b u q⟩
 free:=fun b u q n _=>by rw [zu (Nat.ne_of_lt (Nat.lt_of_lt_of_le (Heap.lt_size q) hp))]; exact n
 there:=fun b u q _=>⟨u,k b u q⟩
 tups:=fun b xs q=>by rw [zu (zr q hn)]; exact q
 frzs:=fun b u xs q=>by rw [zu (zr q hn)]; exact q
 tbls:=fun b ps q=>⟨#[],by rw [zu (zr q hn),q]; simp⟩
theorem Un.write (mu:Mut (H x)) (he:e = x\/H e = some (.own x)) (k:∀ b u,b≠e->h.get? b = some u->h'.get? b = some u) (heo:∃ u,h'.get? e = some u):Un fs ex H (upd H x o) h h':=by
 have hx:∀ b,H b = none->b≠x:=fun b n z=>by subst z; rw [n] at mu; exact mu
 have hb:∀ b,H b = none->b≠e:=fun b n z=>by
  subst z
  rcases he with r | r
  ·exact hx b n r
  ·rw [n] at r; cases r
 have hm:∀ b u,H b = some u->¬ Mut (some u)->b≠x:=fun b u q nm z=>by subst z; rw [q] at mu; exact nm mu
 refine ⟨fun b u q n _ _=>k b u (hb b n) q,fun b u q n _ _=>⟨u.slots,k b u (hb b n) q⟩,fun b u q n _=>by rw [zu (hx b n)]; exact n,fun b u q _=>?_,
  fun b xs q=>by rw [zu (hm b _ q fun z=>z)]; exact q,fun b u xs q=>by rw [zu (hm b _ q fun z=>z)]; exact q,fun b ps q=>⟨#[],by rw [zu (hm b _ q fun z=>z),q]; simp⟩⟩
 by_cases hbe:b = e
 ·subst hbe; exact heo
 ·exact ⟨u,k b u hbe q⟩
end
def trk (h:Heap) (H:Hp):List Addr:=(List.range h.objs.size).filter fun a=>(H a).isSome
def hidT (h:Heap) (H:Hp):Heap:=PySem.W.hideAll h (trk h H)
theorem zh8 (h:Heap) (H:Hp):(hidT h H).objs.size = h.objs.size:=PySem.W.hideAll_size _ _
theorem zjU {h:Heap}{H:Hp}{b:Addr}{o:Obj} (e:h.get? b = some o) (n:H b = none):(hidT h H).get? b = some o:=
 PySem.W.hideAll_get _ e fun hm=>by
  have q:(H b).isSome = true:=(List.mem_filter.mp hm).2
  rw [n] at q; simp at q
theorem zlq {h:Heap}{H:Hp}{b:Addr}{o:Obj} (e:(hidT h H).get? b = some o):h.get? b = some o/\H b = none:=by
 have e':h.get? b = some o:=PySem.W.of_hideAll (trk h H) e
 refine ⟨e',?_⟩
 cases q:H b with
 | none=>rfl
 | some x=>
  have hm:b∈trk h H:=List.mem_filter.mpr ⟨List.mem_range.mpr (Heap.lt_size e'),by simp [q]⟩
  have z:(hidT h H).get? b = none:=PySem.W.hideAll_none (trk h H) hm
  rw [z] at e; cases e
def zlr (g h:Heap) (L:Addr):List (Addr × Obj):=(List.range h.objs.size).filterMap fun a=>if a = L\/(g.get? a).isSome = true then none else (h.get? a).map fun o=>(a,o)
def rest (g h:Heap) (L d:Addr):List (Addr × Obj):=(zlr g h L).filter fun p=>decide (p.1≠d)
structure Mod (K:PySem.W.Frag) (mg:Str->Option Value) (base:Heap):Prop where
 kin:K.In base
 glob:base.Ns mainGlobals mg
 blt:∃ mb,base.Ns builtinsNs mb/\∀ x:Str,x≠"__name__"->mb x = bootBuiltins x
 nolimit:base.NoLimit
structure Cx where
 prog:Program
 w:World
 K:PySem.W.Frag
 mg:Str->Option Value
 base:Heap
 A:Around
 N:List Str
 s₀:Shared
 H₀:Hp
 env:Env
 outer:List Env
 stack:List Env
 ex:List Addr
 fn:Str->Bool
 calm:Bool
 pn:List (Addr × Obj)
 xe:Value->Shared->Prop
def frs (l:List Env):List Addr:=l.filterMap (·.frame)
abbrev Cx.fs (X:Cx):List Addr:=frs X.outer
def Vis (sc:Scope) (x:Str):Prop:=sc.names.lookup x = some .local\/sc.names.lookup x = some .cell\/sc.names.lookup x = some .free
def Loc (sc:Scope) (x:Str):Prop:=sc.names.lookup x = some .local\/sc.names.lookup x = some .cell
def Look (env:Env) (h:Heap) (m:Str->Option Value) (x:Str) (u:Value):Prop:=
 (env.kindOf x = some .local/\m x = some u)\/((env.kindOf x = some .cell\/env.kindOf x = some .free)/\∃ c,env.cells.lookup x = some c/\h.IsCell c (some u))
structure Cx.Ok (X:Cx):Prop where
 mod:Mod X.K X.mg X.base
 kind:X.env.scope.kind = .function
 glob:X.env.globals = mainGlobals
 blt:X.env.builtins = builtinsNs
 above:X.s₀.heap.objs.size<=X.env.locals
 inj:∀ x y c,X.env.cells.lookup x = some c->X.env.cells.lookup y = some c->x = y
 has:∀ x,(X.env.kindOf x = some .cell\/X.env.kindOf x = some .free)->∃ c,X.env.cells.lookup x = some c
 cab:∀ x c,X.fn x = true->X.env.cells.lookup x = some c->X.s₀.heap.objs.size<=c
 hd:X.calm = true->X.A.handled = none
 frames:X.A.frames = some X.stack
 stk:X.stack = X.outer\/(X.stack = X.env :: X.outer/\X.env.frame = some X.env.locals)
 exf:∀ b∈X.ex,b≠X.env.locals/\∀ x c,X.env.cells.lookup x = some c->c≠b
 bs:∀ b o,X.base.get? b = some o->X.s₀.heap.get? b = some o/\X.H₀ b = none
 bsz:X.base.objs.size<=X.s₀.heap.objs.size
 noex:∀ b o,X.base.get? b = some o->b ∉ X.ex
 exfs:∀ b∈X.ex,b ∉ X.fs
 funs:X.s₀.heap.FunFrames X.base X.outer
 frf:∀ b∈X.fs,X.H₀ b = none
structure Inv (X:Cx) (zp:List (Addr × Obj)) (σ:List (Option V)) (H:Hp) (s:Shared):Prop where
 ok:X.Ok
 os:s.os = X.s₀.os
 bare:AllBare s.gens
 base:Un X.fs X.ex X.H₀ H X.s₀.heap s.heap
 loc:∃ m,s.heap.Ns X.env.locals m/\∀ (i:Nat) (x:Str) (v:V),X.N[i]? = some x->σ[i]? = some (some v)->Vis X.env.scope x->∃ u,RelV v u/\Look X.env s.heap m x u
 cell:∀ x c,X.env.cells.lookup x = some c->∃ v,s.heap.IsCell c v
 free:H X.env.locals = none
 freeC:∀ x c,X.env.cells.lookup x = some c->H c = none
 pin:∀ p∈X.pn ++ zp,s.heap.get? p.1 = some p.2/\H p.1 = none/\p.1≠X.env.locals/\p.1 ∉ X.fs/\∀ v,p.2.data≠.cell v
 hok:HOk X.prog X.w H s.heap
 len:σ.length = X.N.length
section
variable {X:Cx}{zp:List (Addr × Obj)}{σ:List (Option V)}{H H':Hp}{s:Shared}{h':Heap}
theorem Cx.Ok.nofr (ok:X.Ok) {b:Addr}{o:Obj} (e:X.base.get? b = some o):b ∉ X.fs:=fun hb=>by
 have:=(ok.funs.mem hb).1
 rw [e] at this; cases this
theorem Inv.bs (I:Inv X zp σ H s):∀ b o,X.base.get? b = some o->s.heap.get? b = some o/\H b = none:=fun b o e=>
 ⟨I.base.keep b o (I.ok.bs b o e).1 (I.ok.bs b o e).2 (I.ok.nofr e) (I.ok.noex b o e),I.base.free b o (I.ok.bs b o e).1 (I.ok.bs b o e).2 (I.ok.noex b o e)⟩
theorem Inv.bk (I:Inv X zp σ H s):∀ b o,X.base.get? b = some o->s.heap.get? b = some o:=fun b o e=>(I.bs b o e).1
theorem Inv.mod (I:Inv X zp σ H s):Mod X.K X.mg X.base:=I.ok.mod
theorem Inv.kIn (I:Inv X zp σ H s):X.K.In s.heap:=I.ok.mod.kin.keeps I.bk
theorem Inv.lt (I:Inv X zp σ H s):X.env.locals < s.heap.objs.size:=let ⟨_,hn,_⟩:=I.loc; hn.lt
theorem Inv.sz (I:Inv X zp σ H s):X.s₀.heap.objs.size<=s.heap.objs.size:=Nat.le_trans I.ok.above (Nat.le_of_lt I.lt)
theorem Inv.nofs (I:Inv X zp σ H s) {a:Addr} (h:s.heap.objs.size<=a):a ∉ X.fs:=fun hb=>by
 obtain ⟨_,o,ho,_⟩:=I.ok.funs.mem hb
 exact absurd (Nat.lt_of_lt_of_le (Heap.lt_size ho) (Nat.le_trans I.sz h)) (Nat.lt_irrefl _)
theorem Inv.cne (I:Inv X zp σ H s):∀ x c,X.env.cells.lookup x = some c->c≠X.env.locals:=fun x c e z=>by
 obtain ⟨v,o,ho,hd⟩:=I.cell x c e
 obtain ⟨m,⟨o',es,ep,ho',hd',_⟩,_⟩:=I.loc
 rw [z,ho'] at ho; cases ho; rw [hd'] at hd; cases hd
theorem Inv.funs (I:Inv X zp σ H s):s.heap.FunFrames X.base X.outer:=by
 have all:∀ (l:List Env),(∀ b∈frs l,b∈X.fs)->X.s₀.heap.FunFrames X.base l->s.heap.FunFrames X.base l:=by
  intro l
  induction l with
  | nil=>intro _ _; trivial
  | cons env r ih=>
   intro hs hl
   obtain ⟨hk,⟨L,o,hf,hn,ho,hd⟩,hr⟩:=hl
   have hL:L∈X.fs:=hs L (by unfold frs; rw [List.filterMap_cons,hf]; exact List.mem_cons_self)
   obtain ⟨sl,e⟩:=I.base.slot L o ho (I.ok.frf L hL) hL fun z=>I.ok.exfs L z hL
   exact ⟨hk,⟨L,_,hf,hn,e,hd⟩,ih (fun b hb=>hs b (by unfold frs; rw [List.filterMap_cons,hf]; exact List.mem_cons_of_mem _ hb)) hr⟩
 exact all X.outer (fun _ hb=>hb) I.ok.funs
theorem Inv.stack (I:Inv X zp σ H s):s.heap.FunFrames X.base X.stack:=by
 rcases I.ok.stk with e | ⟨e,hf⟩
 ·rw [e]; exact I.funs
 ·rw [e]
  obtain ⟨m,hn,_⟩:=I.loc
  refine .cons (by rw [I.ok.kind]; decide) hf hn ?_ I.funs
  exact Heap.get?_none_of_le (Nat.le_trans I.ok.bsz I.ok.above)
theorem Inv.stkSub (I:Inv X zp σ H s):∀ b∈frs X.stack,b∈X.env.locals :: X.fs:=fun b hb=>by
 rcases I.ok.stk with e | ⟨e,hf⟩
 ·rw [e] at hb; exact List.mem_cons_of_mem _ hb
 ·rw [e] at hb
  unfold frs at hb
  rw [List.filterMap_cons,hf] at hb
  exact hb
theorem Inv.stkFree (I:Inv X zp σ H s):∀ b∈frs X.stack,H b = none:=fun b hb=>by
 rcases List.mem_cons.mp (I.stkSub b hb) with e | hb
 ·rw [e]; exact I.free
 ·obtain ⟨_,o,ho,_⟩:=I.ok.funs.mem hb
  exact I.base.free b o ho (I.ok.frf b hb) fun z=>I.ok.exfs b z hb
theorem Inv.step {g':Array GenState}{t':Nat}{d':Drawn}{ch:List Addr} (I:Inv X zp σ H s)
  (hch:∀ b∈ch,(b∈X.ex\/X.s₀.heap.objs.size<=b)/\b≠X.env.locals/\(∀ x c,X.env.cells.lookup x = some c->c≠b)/\∀ p∈X.pn ++ zp,p.1≠b)
  (keep:∀ b o,b≠X.env.locals->b ∉ X.fs->b ∉ ch->s.heap.get? b = some o->H b = none->h'.get? b = some o)
  (slot:∀ b o,b≠X.env.locals->b∈X.fs->b ∉ ch->s.heap.get? b = some o->H b = none->∃ sl,h'.get? b = some { o with slots:=sl }) (free:∀ b o,b ∉ ch->s.heap.get? b = some o->H b = none->H' b = none)
  (there:∀ b o,b ∉ ch->s.heap.get? b = some o->∃ o',h'.get? b = some o')
  (tups:∀ b xs,H b = some (.tup xs)->H' b = some (.tup xs)) (frzs:∀ b o u,H b = some (.frz o u)->H' b = some (.frz o u)) (tbls:∀ b ps,H b = some (.tbl ps)->∃ more,H' b = some (.tbl (ps ++ more)))
  (ns:∀ m,s.heap.Ns X.env.locals m->h'.Ns X.env.locals m) (hok:HOk X.prog X.w H' h') (hg:AllBare g'):
  Inv X zp σ H' { s with heap:=h',gens:=g',drawn:=d',toks:=t' }:=by
 have neL:∀ b o,X.s₀.heap.get? b = some o->b≠X.env.locals:=fun b o e=>Nat.ne_of_lt (Nat.lt_of_lt_of_le (Heap.lt_size e) I.ok.above)
 have neC:∀ b o,X.s₀.heap.get? b = some o->b ∉ X.ex->b ∉ ch:=fun b o e hx hb=>by
  rcases (hch b hb).1 with z | z
  ·exact hx z
  ·exact absurd (Nat.lt_of_lt_of_le (Heap.lt_size e) z) (Nat.lt_irrefl _)
 have cellK:∀ x c,X.env.cells.lookup x = some c->∀ v,s.heap.IsCell c v->h'.IsCell c v:=fun x c e v ⟨o,ho,hd⟩=>by
  have nch:c ∉ ch:=fun z=>(hch c z).2.2.1 x c e rfl
  by_cases hc:c∈X.fs
  ·obtain ⟨sl,q⟩:=slot c o (I.cne x c e) hc nch ho (I.freeC x c e)
   exact ⟨_,q,hd⟩
  ·exact ⟨o,keep c o (I.cne x c e) hc nch ho (I.freeC x c e),hd⟩
 refine ⟨I.ok,I.os,hg,⟨fun b o e n hb hx=>?_,fun b o e n hb hx=>?_,fun b o e n hx=>?_,fun b o e hx=>?_,fun b xs e=>tups b xs (I.base.tups b xs e),fun b o xs e=>frzs b o xs (I.base.frzs b o xs e),fun b ps e=>?_⟩,?_,fun x c e=>?_,?_,fun x c e=>?_,fun p hp=>?_,hok,I.len⟩
 ·exact keep b o (neL b o e) hb (neC b o e hx) (I.base.keep b o e n hb hx) (I.base.free b o e n hx)
 ·obtain ⟨sl,e1⟩:=I.base.slot b o e n hb hx
  obtain ⟨sl',e2⟩:=slot b _ (neL b o e) hb (neC b o e hx) e1 (I.base.free b o e n hx)
  exact ⟨sl',e2⟩
 ·obtain ⟨o',e1⟩:=I.base.there b o e hx
  exact free b o' (neC b o e hx) e1 (I.base.free b o e n hx)
 ·obtain ⟨o',e1⟩:=I.base.there b o e hx
  exact there b o' (neC b o e hx) e1
 ·obtain ⟨m1,e1⟩:=I.base.tbls b ps e
  obtain ⟨m2,e2⟩:=tbls b _ e1
  exact ⟨m1 ++ m2,by rw [e2,Array.append_assoc]⟩
 ·obtain ⟨m,hn,hl⟩:=I.loc
  refine ⟨m,ns m hn,fun i x v e1 e2 e3=>?_⟩
  obtain ⟨u,r,l⟩:=hl i x v e1 e2 e3
  refine ⟨u,r,?_⟩
  rcases l with l | ⟨k,c,e,z⟩
  ·exact .inl l
  ·exact .inr ⟨k,c,e,cellK x c e _ z⟩
 ·obtain ⟨v,z⟩:=I.cell x c e
  exact ⟨v,cellK x c e v z⟩
 ·obtain ⟨m,⟨o,_,_,ho,_⟩,_⟩:=I.loc
  exact free _ o (fun z=>(hch _ z).2.1 rfl) ho I.free
 ·obtain ⟨v,o,ho,hd⟩:=I.cell x c e
  exact free c o (fun z=>(hch c z).2.2.1 x c e rfl) ho (I.freeC x c e)
 ·obtain ⟨e,n,ne,nf,d⟩:=I.pin p hp
  have nch:p.1 ∉ ch:=fun z=>(hch p.1 z).2.2.2 p hp rfl
  exact ⟨keep p.1 p.2 ne nf nch e n,free p.1 p.2 nch e n,ne,nf,d⟩
theorem Inv.un {t':Nat} (I:Inv X zp σ H s) (u:Un X.fs [] H H' s.heap h') (hok:HOk X.prog X.w H' h'):Inv X zp σ H' { s with heap:=h',toks:=t' }:=by
 obtain ⟨m,⟨o,es,ep,ho,r⟩,_⟩:=id I.loc
 obtain ⟨sl,hL⟩:=u.any ho I.free (by simp)
 exact I.step (g':=s.gens) (d':=s.drawn) (ch:=[]) (fun _ z=>nomatch z) (fun b o _ hb _ e n=>u.keep b o e n hb (by simp)) (fun b o _ hb _ e n=>u.slot b o e n hb (by simp)) (fun b o _ e n=>u.free b o e n (by simp)) (fun b o _ e=>u.there b o e (by simp)) u.tups u.frzs u.tbls (fun m' hm=>by
  obtain ⟨o',es',ep',ho',r'⟩:=hm
  rw [ho] at ho'; cases ho'
  exact ⟨_,es',ep',hL,r'⟩) hok I.bare
theorem Inv.call {g':Array GenState}{t':Nat}{d':Drawn}{ch:List Addr} (I:Inv X zp σ H s) (u:Un (frs X.stack) ch H H' s.heap h') (hok:HOk X.prog X.w H' h') (hg:AllBare g')
  (hch:∀ b∈ch,(b∈X.ex\/X.s₀.heap.objs.size<=b)/\b≠X.env.locals/\(∀ x c,X.env.cells.lookup x = some c->c≠b)/\∀ p∈X.pn ++ zp,p.1≠b):
  Inv X zp σ H' { s with heap:=h',gens:=g',drawn:=d',toks:=t' }:=by
 obtain ⟨m,⟨o,es,ep,ho,r⟩,_⟩:=id I.loc
 obtain ⟨sl,hL⟩:=u.any ho I.free fun z=>(hch _ z).2.1 rfl
 exact I.step (ch:=ch) hch (fun b o hL hb hc e n=>u.keep b o e n (fun z=>(List.mem_cons.mp (I.stkSub b z)).elim hL hb) hc) (fun b o _ _ hc e n=>u.any e n hc) (fun b o hc e n=>u.free b o e n hc) (fun b o hc e=>u.there b o e hc) u.tups u.frzs u.tbls (fun m' hm=>by
  obtain ⟨o',es',ep',ho',r'⟩:=hm
  rw [ho] at ho'; cases ho'
  exact ⟨_,es',ep',hL,r'⟩) hok hg
theorem Inv.turned {t':Nat}{it:Addr} (I:Inv X zp σ H s) (k:∀ b o,b≠it->s.heap.get? b = some o->h'.get? b = some o) (hn:H it = none) (hL:it≠X.env.locals)
  (h1:it∈X.ex\/X.s₀.heap.objs.size<=it) (h2:∀ x c,X.env.cells.lookup x = some c->c≠it) (h3:∀ p∈X.pn ++ zp,p.1≠it):Inv X zp σ H { s with heap:=h',toks:=t' }:=by
 have nit:∀ b u,H b = some u->b≠it:=fun b u e z=>by rw [z,hn] at e; cases e
 refine I.step (g':=s.gens) (d':=s.drawn) (ch:=[it]) (fun b hb=>?_) (fun b o _ _ hc e _=>k b o (fun z=>hc (by simp [z])) e) (fun b o _ _ hc e _=>⟨o.slots,k b o (fun z=>hc (by simp [z])) e⟩) (fun _ _ _ _ n=>n)
  (fun b o hc e=>⟨o,k b o (fun z=>hc (by simp [z])) e⟩) (fun _ _ e=>e) (fun _ _ _ e=>e) (fun b ps e=>⟨#[],by rw [e]; simp⟩) (fun m hm=>?_) (fun b u e=>?_) I.bare
 ·have e:b = it:=by simpa using hb
  subst e
  exact ⟨h1,hL,h2,h3⟩
 ·obtain ⟨o,es,ep,ho,r⟩:=hm
  exact ⟨o,es,ep,k _ o (Ne.symm hL) ho,r⟩
 ·refine (I.hok b u e).stay (fun c v hc q=>k c v ?_ q) (fun _ q=>q) fun _ _ q=>q
  rcases hc with z | z
  ·rw [z]; exact nit b u e
  ·exact nit c _ z
theorem Inv.tok (I:Inv X zp σ H s) (t:Nat):Inv X zp σ H { s with toks:=t }:=I.un (h':=s.heap) (t':=t) Un.refl I.hok
theorem Inv.kept {t':Nat} (I:Inv X zp σ H s) (k:∀ b u,s.heap.get? b = some u->h'.get? b = some u):Inv X zp σ H { s with heap:=h',toks:=t' }:=I.un (Un.kept k) (I.hok.kept k)
theorem Inv.laid {a:Addr}{o:HO}{t':Nat} (I:Inv X zp σ H s) (k:∀ b u,s.heap.get? b = some u->h'.get? b = some u) (hp:s.heap.objs.size<=a) (new:ZO X.prog X.w (upd H a o) h' a o):
  Inv X zp σ (upd H a o) { s with heap:=h',toks:=t' }:=I.un (Un.laid k hp (I.hok.fresh hp)) (I.hok.laid k hp new)
theorem Inv.write {x e:Addr}{o:HO}{t':Nat} (I:Inv X zp σ H s) (mu:Mut (H x)) (he:e = x\/H e = some (.own x)) (k:∀ b u,b≠e->s.heap.get? b = some u->h'.get? b = some u) (heo:∃ u,h'.get? e = some u)
  (new:ZO X.prog X.w (upd H x o) h' x o):Inv X zp σ (upd H x o) { s with heap:=h',toks:=t' }:=I.un (Un.write mu he k heo) (I.hok.write mu he k heo new)
theorem Inv.weak {σ':List (Option V)} (I:Inv X zp σ H s) (hl:σ'.length = σ.length) (w:∀ (i:Nat) v,σ'[i]? = some (some v)->σ[i]? = some (some v)):Inv X zp σ' H s:=
 ⟨I.ok,I.os,I.bare,I.base,let ⟨m,hn,hl'⟩:=I.loc; ⟨m,hn,fun i x v e1 e2 e3=>hl' i x v e1 (w i v e2) e3⟩,I.cell,I.free,I.freeC,I.pin,I.hok,hl.trans I.len⟩
theorem Inv.pins_of {pins':List (Addr × Obj)} (I:Inv X zp σ H s) (h:∀ p∈pins',s.heap.get? p.1 = some p.2/\H p.1 = none/\p.1≠X.env.locals/\p.1 ∉ X.fs/\∀ v,p.2.data≠.cell v):Inv X pins' σ H s:=
 ⟨I.ok,I.os,I.bare,I.base,I.loc,I.cell,I.free,I.freeC,fun p hp=>(List.mem_append.mp hp).elim (fun z=>I.pin p (List.mem_append_left _ z)) (h p),I.hok,I.len⟩
theorem zgn {N:List Str} (hN:N.Nodup) {i j:Nat}{x:Str} (a:N[i]? = some x) (b:N[j]? = some x):i = j:=by
 obtain ⟨h1,e1⟩:=List.getElem?_eq_some_iff.mp a
 obtain ⟨h2,e2⟩:=List.getElem?_eq_some_iff.mp b
 exact (List.getElem_inj hN).mp (e1.trans e2.symm)
theorem zeL {M:Model}{A:Around}{E:Value->Shared->Prop}{i:Nat}{x:Str}{v:V}{u:Value}{Q:Unit->Shared->Prop} (I:Inv X zp σ H s) (hN:X.N.Nodup) (hi:X.N[i]? = some x) (hx:Loc X.env.scope x) (r:RelV v u)
  (h:∀ s',Inv X zp (σ.set i (some v)) H s'->(∃ a,Heap.SameBut a s.heap s'.heap/\(a = X.env.locals\/X.env.cells.lookup x = some a))->Q () s') (hf:X.fn x = true\/X.env.scope.names.lookup x = some .local:=by first | exact .inl rfl | exact .inr rfl | assumption):wpAny M A (storeName X.env x u) Q E s:=by
 obtain ⟨m,hn,hl⟩:=id I.loc
 have hcls:(X.env.scope.kind == .class || (X.env.scope.kind == .module && X.env.locals != X.env.globals)) = false:=by rw [I.ok.kind]; rfl
 have hiσ:i < σ.length:=by rw [I.len]; exact (List.getElem?_eq_some_iff.mp hi).1
 have cne:=I.cne
 have tracked:∀ {a:Addr}{h':Heap},(∃ o,s.heap.get? a = some o/\H a = none)->Heap.SameBut a s.heap h'->HOk X.prog X.w H h':=fun {a h'} ha hs b ob e=>by
  obtain ⟨_,_,hfree⟩:=ha
  refine (I.hok b ob e).stay (fun c w' hc q=>(hs.2 c ?_).trans q) (fun _ q=>q) fun _ _ q=>q
  rintro rfl
  rcases hc with rfl | hc
  ·rw [hfree] at e; cases e
  ·rw [hfree] at hc; cases hc
 rcases hx with hk | hk
 ·refine wpAny_storeName_local hk hn (fun h' hn' hs=>?_) hcls
  obtain ⟨oL,_,_,hoL,_⟩:=id hn
  refine h _ ⟨I.ok,I.os,I.bare,⟨fun b o e n hb hx=>?_,fun b o e n hb hx=>?_,I.base.free,fun b o e hx=>?_,I.base.tups,I.base.frzs,I.base.tbls⟩,⟨_,hn',fun j y v' e1 e2 e3=>?_⟩,fun y c e=>?_,I.free,I.freeC,fun p hp=>?_,tracked ⟨oL,hoL,I.free⟩ hs,by simpa using I.len⟩ ⟨_,hs,.inl rfl⟩
  ·exact (hs.2 b (Nat.ne_of_lt (Nat.lt_of_lt_of_le (Heap.lt_size e) I.ok.above))).trans (I.base.keep b o e n hb hx)
  ·obtain ⟨sl,e1⟩:=I.base.slot b o e n hb hx
   exact ⟨sl,(hs.2 b (Nat.ne_of_lt (Nat.lt_of_lt_of_le (Heap.lt_size e) I.ok.above))).trans e1⟩
  ·obtain ⟨o',e1⟩:=I.base.there b o e hx
   exact ⟨o',(hs.2 b (Nat.ne_of_lt (Nat.lt_of_lt_of_le (Heap.lt_size e) I.ok.above))).trans e1⟩
  ·by_cases hj:j = i
   ·subst hj
    rw [hi] at e1; cases e1
    rw [List.getElem?_set_self hiσ] at e2
    cases e2
    exact ⟨u,r,.inl ⟨hk,by simp⟩⟩
   ·rw [List.getElem?_set_ne (Ne.symm hj)] at e2
    obtain ⟨u',r',q⟩:=hl j y v' e1 e2 e3
    refine ⟨u',r',?_⟩
    rcases q with ⟨k,e⟩ | ⟨k,c,e,z⟩
    ·refine .inl ⟨k,?_⟩
     have:y≠x:=fun e=>hj (zgn hN e1 (e ▸ hi))
     simp [this,e]
    ·exact .inr ⟨k,c,e,z.sameBut hs (cne y c e)⟩
  ·obtain ⟨w',z⟩:=I.cell y c e
   exact ⟨w',z.sameBut hs (cne y c e)⟩
  ·obtain ⟨e,n,ne,nf,d⟩:=I.pin p hp
   exact ⟨(hs.2 p.1 ne).trans e,n,ne,nf,d⟩
 ·have hfn:X.fn x = true:=by
   rcases hf with z | z
   ·exact z
   ·rw [z] at hk; cases hk
  obtain ⟨c,hc⟩:=I.ok.has x (.inl hk)
  obtain ⟨w',z⟩:=I.cell x c hc
  refine wpAny_storeName_cell I.ok.kind hk hc z (fun h' hc' hs=>?_)
  obtain ⟨oc,hoc,hocd⟩:=id z
  refine h { s with heap:=h' } ⟨I.ok,I.os,I.bare,⟨fun b o e n hb hx=>?_,fun b o e n hb hx=>?_,I.base.free,fun b o e hx=>?_,I.base.tups,I.base.frzs,I.base.tbls⟩,⟨m,hn.sameBut hs (Ne.symm (cne x c hc)),fun j y v' e1 e2 e3=>?_⟩,fun y c' e=>?_,I.free,I.freeC,fun p hp=>?_,tracked ⟨oc,hoc,I.freeC x c hc⟩ hs,by simpa using I.len⟩ ⟨c,hs,.inr hc⟩
  ·exact (hs.2 b (Nat.ne_of_lt (Nat.lt_of_lt_of_le (Heap.lt_size e) (I.ok.cab x c hfn hc)))).trans (I.base.keep b o e n hb hx)
  ·obtain ⟨sl,e1⟩:=I.base.slot b o e n hb hx
   exact ⟨sl,(hs.2 b (Nat.ne_of_lt (Nat.lt_of_lt_of_le (Heap.lt_size e) (I.ok.cab x c hfn hc)))).trans e1⟩
  ·obtain ⟨o',e1⟩:=I.base.there b o e hx
   exact ⟨o',(hs.2 b (Nat.ne_of_lt (Nat.lt_of_lt_of_le (Heap.lt_size e) (I.ok.cab x c hfn hc)))).trans e1⟩
  ·by_cases hj:j = i
   ·subst hj
    rw [hi] at e1; cases e1
    rw [List.getElem?_set_self hiσ] at e2
    cases e2
    exact ⟨u,r,.inr ⟨.inl hk,c,hc,hc'⟩⟩
   ·rw [List.getElem?_set_ne (Ne.symm hj)] at e2
    obtain ⟨u',r',q⟩:=hl j y v' e1 e2 e3
    refine ⟨u',r',?_⟩
    rcases q with q | ⟨k,c',e,z'⟩
    ·exact .inl q
    ·refine .inr ⟨k,c',e,z'.sameBut hs ?_⟩
     rintro rfl
     exact hj (zgn hN e1 (I.ok.inj _ _ _ e hc ▸ hi))
  ·by_cases hcc:c' = c
   ·subst hcc; exact ⟨_,hc'⟩
   ·obtain ⟨w2,z2⟩:=I.cell y c' e
    exact ⟨w2,z2.sameBut hs hcc⟩
  ·obtain ⟨e,n,ne,nf,d⟩:=I.pin p hp
   refine ⟨(hs.2 p.1 ?_).trans e,n,ne,nf,d⟩
   intro q
   rw [q,hoc] at e
   have q':oc = p.2:=Option.some.inj e
   exact d w' (by rw [← q']; exact hocd)
theorem zcI {M:Model}{A:Around}{E:Value->Shared->Prop}{i:Nat}{x:Str}{v:V}{u:Value}{Q:Unit->Shared->Prop} (I:Inv X zp σ H s) (hN:X.N.Nodup) (hi:X.N[i]? = some x) (hx:Loc X.env.scope x) (r:RelV v u)
  (h:∀ s',Inv X zp (σ.set i (some v)) H s'->Q () s') (hf:X.fn x = true\/X.env.scope.names.lookup x = some .local:=by first | exact .inl rfl | exact .inr rfl | assumption):wpAny M A (storeName X.env x u) Q E s:=
 zeL I hN hi hx r (fun s' I' _=>h s' I') hf
theorem Inv.call' {s':Shared}{ch:List Addr} (I:Inv X zp σ H s) (ho:s'.os = s.os) (u:Un (frs X.stack) ch H H' s.heap s'.heap) (hok:HOk X.prog X.w H' s'.heap) (hg:AllBare s'.gens)
  (hch:∀ b∈ch,(b∈X.ex\/X.s₀.heap.objs.size<=b)/\b≠X.env.locals/\(∀ x c,X.env.cells.lookup x = some c->c≠b)/\∀ p∈X.pn ++ zp,p.1≠b):Inv X zp σ H' s':=by
 obtain ⟨h',g',d',t',o'⟩:=s'
 have e:o' = s.os:=ho
 subst e
 exact I.call (g':=g') (t':=t') (d':=d') u hok hg hch
end
abbrev XK:=Value->Option Addr->Hp->Prop
abbrev St:=List (Option V)
abbrev VK:=V->Hp->Prop
abbrev TE:=St->Hp->VK->Prop
abbrev TT:=St->Hp->(Bool->Hp->Prop)->Prop
abbrev TA:=St->Hp->(List V->Hp->Prop)->Prop
structure Ends where
 nx:St->Hp->Prop
 rt:VK
 bk:St->Hp->Prop:=fun _ _=>False
 ct:St->Hp->Prop:=fun _ _=>False
abbrev TS:=Ends->St->Hp->Prop
def EP (X:Cx) (zp:List (Addr × Obj)) (σ:St) (Q:VK) (u:Value) (s':Shared):Prop:=∃ v H',Inv X zp σ H' s'/\RelV v u/\Q v H'
def TP (X:Cx) (zp:List (Addr × Obj)) (σ:St) (Q:Bool->Hp->Prop) (b:Bool) (s':Shared):Prop:=∃ H',Inv X zp σ H' s'/\Q b H'
def AP (X:Cx) (zp:List (Addr × Obj)) (σ:St) (Q:List V->Hp->Prop) (us:List Value) (s':Shared):Prop:=∃ vs H',Inv X zp σ H' s'/\Vals vs us/\Q vs H'
def SP (X:Cx) (zp:List (Addr × Obj)) (D:Ends) (f:Flow) (s':Shared):Prop:=
 match f with
 | .next=>∃ σ' H',Inv X zp σ' H' s'/\D.nx σ' H'
 | .brk=>∃ σ' H',Inv X zp σ' H' s'/\D.bk σ' H'
 | .cont=>∃ σ' H',Inv X zp σ' H' s'/\D.ct σ' H'
 | .ret u=>∃ v σ' H',Inv X zp σ' H' s'/\RelV v u/\D.rt v H'
def PE (X:Cx) (e:Expr) (t:TE):Prop:=
 ∀ (zp:List (Addr × Obj)) (s:Shared) (σ:St) (H:Hp) (Q:VK),Inv X zp σ H s->t σ H Q->wpAny (model X.prog X.w) X.A (eval e X.env) (EP X zp σ Q) X.xe s
def PT (X:Cx) (e:Expr) (t:TT):Prop:=
 ∀ (zp:List (Addr × Obj)) (s:Shared) (σ:St) (H:Hp) (Q:Bool->Hp->Prop),Inv X zp σ H s->t σ H Q->wpAny (model X.prog X.w) X.A (isTrue e X.env (eval e X.env)) (TP X zp σ Q) X.xe s
def PW (X:Cx) (e:Expr) (t:TT):Prop:=
 ∀ (whole:Sem Value) (zp:List (Addr × Obj)) (s:Shared) (σ:St) (H:Hp) (Q:Bool->Hp->Prop),Inv X zp σ H s->t σ H Q->wpAny (model X.prog X.w) X.A (isTrue e X.env whole) (TP X zp σ Q) X.xe s
theorem PW.pt {X:Cx}{e:Expr}{t:TT} (h:PW X e t):PT X e t:=h _
def PA (X:Cx) (es:List Expr) (t:TA):Prop:=
 ∀ (pos:Pos) (zp:List (Addr × Obj)) (s:Shared) (σ:St) (H:Hp) (Q:List V->Hp->Prop),Inv X zp σ H s->t σ H Q->wpAny (model X.prog X.w) X.A (spliced (backTo pos (starEach es X.env))) (AP X zp σ Q) X.xe s
def PS (X:Cx) (st:Stmt) (t:TS):Prop:=
 ∀ (zp:List (Addr × Obj)) (s:Shared) (σ:St) (H:Hp) (D:Ends),Inv X zp σ H s->t D σ H->wpAny (model X.prog X.w) X.A (exec st X.env) (SP X zp D) X.xe s
def PSs (X:Cx) (st:List Stmt) (t:TS):Prop:=
 ∀ (zp:List (Addr × Obj)) (s:Shared) (σ:St) (H:Hp) (D:Ends),Inv X zp σ H s->t D σ H->wpAny (model X.prog X.w) X.A (execs st X.env) (SP X zp D) X.xe s
theorem thn {α:Type}{t:Sem α}{Q Q':α->Shared->Prop}{M:Model}{A:Around}{E:Value->Shared->Prop}{s:Shared} (h:wpAny M A t Q E s) (hQ:∀ a s,Q a s->Q' a s):wpAny M A t Q' E s:=wpAny_mono h hQ fun _ _ x=>x
section
variable {X:Cx}
def tVar (i:Nat):TE:=fun σ H Q=>∃ v,σ[i]? = some (some v)/\Q v H
def tC (v:V):TE:=fun _ H Q=>Q v H
theorem zk0 {i:Nat}{x:Str}{pos:Pos} (hN:X.N[i]? = some x) (hv:Vis X.env.scope x) (hd:(x == ("__debug__":Str)) = false:=by decide) (hcd:(x == ("__classdict__":Str)) = false:=by decide):PE X (.Name x pos) (tVar i):=by
 intro zp s σ H Q I h
 obtain ⟨v,e,h⟩:=h
 obtain ⟨m,hn,hl⟩:=I.loc
 obtain ⟨u,r,l⟩:=hl i x v hN e hv
 have fin:EP X zp σ Q u s:=⟨v,H,I,r,h⟩
 rcases l with ⟨hk,hm⟩ | ⟨hk,c,hc,hcell⟩
 ·exact wpAny_Name (wpAny_loadName_local I.ok.kind hk hn hm fin) hd
 ·rcases hk with hk | hk
  ·exact wpAny_Name (wpAny_loadName_cell I.ok.kind hk hc hcell fin) hd
  ·exact wpAny_Name (wpAny_loadName_free I.ok.kind hk hc hcell fin hcd) hd
theorem zf {i j pos}:PE X (.Constant (.int i) j pos) (tC (.int i)):=fun _ _ _ H _ I h=>wpAny_Constant_int ⟨.int i,H,I.tok _,⟨_,rfl⟩,h⟩
theorem zaJ {b j pos}:PE X (.Constant (.bool b) j pos) (tC (.bl b)):=fun _ _ _ H _ I h=>Constant_bool ⟨.bl b,H,I,rfl,h⟩
theorem zh9 {j pos}:PE X (.Constant .none j pos) (tC .non):=fun _ _ _ H _ I h=>Constant_none ⟨.non,H,I,rfl,h⟩
theorem ze {x j pos}:PE X (.Constant (.str x) j pos) (tC (.str x)):=fun _ _ _ H _ I h=>Calls.Constant_str ⟨.str x,H,I.tok _,⟨_,rfl⟩,h⟩
def Gl (X:Cx) (x:Str):Prop:=X.env.kindOf x = some .globalImplicit
theorem zcS {E:Value->Shared->Prop}{zp:List (Addr × Obj)}{s:Shared}{σ:St}{H:Hp}{x:Str}{u:Value}{pos:Pos}{Q:Value->Shared->Prop} (I:Inv X zp σ H s) (hg:Gl X x) (hm:X.mg x = some u) (h:Q u s)
  (hd:(x == ("__debug__":Str)) = false:=by decide):wpAny (model X.prog X.w) X.A (eval (.Name x pos) X.env) Q E s:=
 Calls.Name_function_global I.ok.kind hg (Calls.loadGlobal_global (by rw [I.ok.glob]; exact I.mod.glob.keeps I.bk) hm h) hd
theorem zdH {E:Value->Shared->Prop}{zp:List (Addr × Obj)}{s:Shared}{σ:St}{H:Hp}{x:Str}{u:Value}{pos:Pos}{Q:Value->Shared->Prop} (I:Inv X zp σ H s) (hg:Gl X x) (hm:X.mg x = none) (hv:bootBuiltins x = some u) (h:Q u s)
  (hn:x≠"__name__":=by decide) (hd:(x == ("__debug__":Str)) = false:=by decide):wpAny (model X.prog X.w) X.A (eval (.Name x pos) X.env) Q E s:=by
 obtain ⟨mb,h1,h2⟩:=I.mod.blt
 exact Calls.Name_function_global I.ok.kind hg (Calls.loadGlobal_builtin (by rw [I.ok.glob]; exact I.mod.glob.keeps I.bk) hm (by rw [I.ok.blt]; exact h1.keeps I.bk) ((h2 x hn).trans hv) h) hd
theorem Zt {x:Str}{v:V}{u:Value}{pos:Pos} (hg:Gl X x) (hm:X.mg x = some u) (r:RelV v u) (hd:(x == ("__debug__":Str)) = false:=by decide):PE X (.Name x pos) (tC v):=
 fun _ _ _ H _ I h=>zcS I hg hm ⟨v,H,I,r,h⟩ hd
theorem zls {x:Str}{v:V}{u:Value}{pos:Pos} (hg:Gl X x) (hm:X.mg x = none) (hv:bootBuiltins x = some u) (r:RelV v u) (hn:x≠"__name__":=by decide) (hd:(x == ("__debug__":Str)) = false:=by decide):PE X (.Name x pos) (tC v):=
 fun _ _ _ H _ I h=>zdH I hg hm hv ⟨v,H,I,r,h⟩ hn hd
variable {a b:Expr}{ta tb:TE}{pos:Pos}
def tB (t:TE):TT:=fun σ H Q=>t σ H fun x H1=>∃ c,x = .bl c/\Q c H1
theorem zW {e:Expr}{t:TE} (h:PE X e t) (he:∀ whole,isTrue e X.env whole = (do let v ← whole; standAt e.pos; holding [v] (truthy v)):=by intro _; rfl):PT X e (tB t):=by
 intro zp s σ H Q I hw
 refine isTrue_plain (thn (h zp s σ H _ I hw) fun v s1 ⟨x,H1,I1,r1,q1⟩=>?_) (he _)
 obtain ⟨d,rfl,q⟩:=q1
 cases r1
 exact wpAny_truthy_bool ⟨H1,I1,q⟩
variable {tA tB':TT}{rest:List Expr}
def tAnd (t u:TT):TT:=fun σ H Q=>t σ H fun c H1=>if c = true then u σ H1 Q else Q false H1
def tOr (t u:TT):TT:=fun σ H Q=>t σ H fun c H1=>if c = true then Q true H1 else u σ H1 Q
def tNot (t:TT):TT:=fun σ H Q=>t σ H fun c H1=>Q (!c) H1
theorem ZH (ha:PT X a tA):PW X (.BoolOp .And [a] pos) tA:=by
 intro wh zp s σ H Q I h
 refine isTrue_and (thn (ha zp s σ H Q I h) fun c s1 e=>?_)
 cases c with
 | true=>exact isTrue_and_nil e
 | false=>exact e
theorem zak (ha:PT X a tA):PW X (.BoolOp .Or [a] pos) tA:=by
 intro wh zp s σ H Q I h
 refine isTrue_or (thn (ha zp s σ H Q I h) fun c s1 e=>?_)
 cases c with
 | false=>exact isTrue_or_nil e
 | true=>exact e
theorem zal (ha:PT X a tA) (hb:PW X (.BoolOp .And (b :: rest) pos) tB'):PW X (.BoolOp .And (a :: b :: rest) pos) (tAnd tA tB'):=by
 intro wh zp s σ H Q I h
 refine isTrue_and (thn (ha zp s σ H _ I h) fun c s1 ⟨H1,I1,q1⟩=>?_)
 cases c with
 | true=>exact hb wh zp s1 σ H1 Q I1 q1
 | false=>exact ⟨H1,I1,q1⟩
theorem zaK (ha:PT X a tA) (hb:PW X (.BoolOp .Or (b :: rest) pos) tB'):PW X (.BoolOp .Or (a :: b :: rest) pos) (tOr tA tB'):=by
 intro wh zp s σ H Q I h
 refine isTrue_or (thn (ha zp s σ H _ I h) fun c s1 ⟨H1,I1,q1⟩=>?_)
 cases c with
 | true=>exact ⟨H1,I1,q1⟩
 | false=>exact hb wh zp s1 σ H1 Q I1 q1
theorem ZP (ha:PT X a tA):PT X (.UnaryOp .Not a pos) (tNot tA):=by
 intro zp s σ H Q I h
 exact isTrue_not (ha zp s σ H (fun c H1=>Q (!c) H1) I h)
def zmA (ta tb:TE):TE:=fun σ H Q=>ta σ H fun x H1=>∃ c,x = .bl c/\if c = true then tb σ H1 Q else Q (.bl false) H1
def tOrV (ta tb:TE):TE:=fun σ H Q=>ta σ H fun x H1=>∃ c,x = .bl c/\if c = true then Q (.bl true) H1 else tb σ H1 Q
def zmB (ta:TE):TE:=fun σ H Q=>ta σ H fun x H1=>∃ c,x = .bl c/\Q (.bl (!c)) H1
theorem zao {op}{t:TE} (h:PE X a t):PE X (.BoolOp op [a] pos) t:=fun zp s σ H Q I hw=>BoolOp_one (h zp s σ H Q I hw)
theorem zaB (ha:PE X a ta) (hb:PE X (.BoolOp .And (b :: rest) pos) tb):PE X (.BoolOp .And (a :: b :: rest) pos) (zmA ta tb):=by
 intro zp s σ H Q I h
 refine BoolOp_and (thn (ha zp s σ H _ I h) fun v s1 ⟨x,H1,I1,r1,q1⟩=>?_)
 obtain ⟨c,rfl,q1⟩:=q1
 cases r1
 refine wpAny_truthy_bool ?_
 cases c with
 | true=>exact hb zp s1 σ H1 Q I1 q1
 | false=>exact ⟨.bl false,H1,I1,rfl,q1⟩
theorem zfN (ha:PE X a ta) (hb:PE X (.BoolOp .Or (b :: rest) pos) tb):PE X (.BoolOp .Or (a :: b :: rest) pos) (tOrV ta tb):=by
 intro zp s σ H Q I h
 refine BoolOp_or (thn (ha zp s σ H _ I h) fun v s1 ⟨x,H1,I1,r1,q1⟩=>?_)
 obtain ⟨c,rfl,q1⟩:=q1
 cases r1
 refine wpAny_truthy_bool ?_
 cases c with
 | false=>exact hb zp s1 σ H1 Q I1 q1
 | true=>exact ⟨.bl true,H1,I1,rfl,q1⟩
theorem zeM (ha:PE X a ta):PE X (.UnaryOp .Not a pos) (zmB ta):=by
 intro zp s σ H Q I h
 refine UnaryOp_ (thn (ha zp s σ H _ I h) fun v s1 ⟨x,H1,I1,r1,q1⟩=>?_)
 obtain ⟨c,rfl,q1⟩:=q1
 cases r1
 exact not_of (wpAny_truthy_bool ⟨.bl (!c),H1,I1,rfl,q1⟩)
def tIf (t:TT) (ta tb:TE):TE:=fun σ H Q=>t σ H fun c H1=>if c = true then ta σ H1 Q else tb σ H1 Q
theorem zap {c:Expr} (hc:PT X c tA) (ha:PE X a ta) (hb:PE X b tb):PE X (.IfExp c a b pos) (tIf tA ta tb):=by
 intro zp s σ H Q I h
 refine wpAny_IfExp (thn (hc zp s σ H _ I h) fun d s1 ⟨H1,I1,q1⟩=>?_)
 cases d with
 | true=>exact ha zp s1 σ H1 Q I1 q1
 | false=>exact hb zp s1 σ H1 Q I1 q1
end
def SqL (K:PySem.W.Frag) (H:Hp) (a:Addr) (xs:List V):Prop:=
 Rd H a (.lst xs) \/
  ∃ (o:Obj) (its:Array Value) (n:Nat),K.lookup a = some o/\o.cls = .type "list"/\o.dict = none/\o.data = .seq its n/\its.size<=sizeLine/\Vals xs its.toList
def SqT (K:PySem.W.Frag) (H:Hp) (a:Addr) (xs:List V):Prop:=
 Rd H a (.tup xs) \/
  ∃ (o:Obj) (its:Array Value) (n:Nat),K.lookup a = some o/\o.cls = .type "tuple"/\o.data = .seq its n/\its.size<=sizeLine/\Vals xs its.toList
def absV:Value->Option V
 | .none=>some .non
 | .bool b=>some (.bl b)
 | .int i _=>some (.int i)
 | .str x _=>some (.str x)
 | .bytes b _=>some (.byt b)
 | .float b _=>some (.flt b)
 | .ref a=>some (.ref a)
 | .type n=>some (.ty n)
 | _=>none
theorem RelV.abs {x:V}{u:Value} (r:RelV x u):absV u = some x:=by
 cases x with
 | non=>cases r; rfl
 | bl _=>cases r; rfl
 | int _=>obtain ⟨t,rfl⟩:=r; rfl
 | str _=>obtain ⟨t,rfl⟩:=r; rfl
 | byt _=>obtain ⟨t,rfl⟩:=r; rfl
 | flt _=>obtain ⟨t,rfl⟩:=r; rfl
 | ref _=>cases r; rfl
 | ty _=>cases r; rfl
theorem RelV.inj {x y:V}{u:Value} (r:RelV x u) (q:RelV y u):x = y:=Option.some.inj (r.abs.symm.trans q.abs)
theorem Vals.inj:∀ {xs ys:List V}{us:List Value},Vals xs us->Vals ys us->xs = ys
 | _,_,_,.nil,.nil=>rfl
 | _,_,_,.cons r t,.cons r' t'=>by rw [r.inj r',Vals.inj t t']
section
variable {X:Cx}{zp:List (Addr × Obj)}{σ:St}{H:Hp}{s:Shared}{a:Addr}{xs ys:List V}
theorem SqL.of {K:PySem.W.Frag} (h:H a = some (.lst xs)):SqL K H a xs:=.inl (.inl h)
theorem SqT.of {K:PySem.W.Frag} (h:H a = some (.tup xs)):SqT K H a xs:=.inl (.inl h)
theorem Inv.list (I:Inv X zp σ H s) (h:SqL X.K H a xs):∃ its:List Value,Vals xs its/\PlainL s.heap a its.toArray/\xs.length<=sizeLine:=by
 rcases h with h | ⟨o,its,n,hk,hc,hd,hs,hz,r⟩
 ·obtain ⟨z,its,n,r,e⟩:=h.ok I.hok
  exact ⟨its,r,⟨_,n,e,rfl,rfl,rfl⟩,z⟩
 ·refine ⟨its.toList,r,⟨o,n,I.kIn a o hk,hc,hd,by simpa using hs⟩,?_⟩
  have e:=r.length
  simp only [Array.length_toList] at e
  omega
theorem Inv.tuple (I:Inv X zp σ H s) (h:SqT X.K H a xs):∃ its:List Value,Vals xs its/\IsTup s.heap a its.toArray/\xs.length<=sizeLine:=by
 rcases h with h | ⟨o,its,n,hk,hc,hs,hz,r⟩
 ·obtain ⟨z,its,r,p⟩:=h.ok I.hok
  exact ⟨its,r,p,z⟩
 ·refine ⟨its.toList,r,⟨o,I.kIn a o hk,hc,n,by simpa using hs⟩,?_⟩
  have e:=r.length
  simp only [Array.length_toList] at e
  omega
theorem Inv.list_inj (I:Inv X zp σ H s) (h:SqL X.K H a xs) (h':SqL X.K H a ys):xs = ys:=by
 obtain ⟨its,r,⟨o,n,e,_,_,d⟩,_⟩:=I.list h
 obtain ⟨its',r',⟨o',n',e',_,_,d'⟩,_⟩:=I.list h'
 rw [e] at e'; cases e'
 rw [d] at d'
 injection d' with d1 _
 have:its = its':=by simpa using congrArg Array.toList d1
 subst this
 exact r.inj r'
theorem Inv.tuple_inj (I:Inv X zp σ H s) (h:SqT X.K H a xs) (h':SqT X.K H a ys):xs = ys:=by
 obtain ⟨its,r,⟨o,e,_,n,d⟩,_⟩:=I.tuple h
 obtain ⟨its',r',⟨o',e',_,n',d'⟩,_⟩:=I.tuple h'
 rw [e] at e'; cases e'
 rw [d] at d'
 injection d' with d1 _
 have:its = its':=by simpa using congrArg Array.toList d1
 subst this
 exact r.inj r'
end
abbrev Cx.wish (X:Cx) (E:Value->Shared->Prop):Cx:={ X with xe:=E }
abbrev Cx.nox (X:Cx):Cx:=X.wish fun _ _=>False
theorem Cx.Ok.wish {X:Cx} (ok:X.Ok) (E:Value->Shared->Prop):(X.wish E).Ok:=
 ⟨ok.mod,ok.kind,ok.glob,ok.blt,ok.above,ok.inj,ok.has,ok.cab,ok.hd,ok.frames,ok.stk,ok.exf,ok.bs,ok.bsz,ok.noex,ok.exfs,ok.funs,ok.frf⟩
theorem Cx.Ok.unwish {X:Cx}{E:Value->Shared->Prop} (ok:(X.wish E).Ok):X.Ok:=
 ⟨ok.mod,ok.kind,ok.glob,ok.blt,ok.above,ok.inj,ok.has,ok.cab,ok.hd,ok.frames,ok.stk,ok.exf,ok.bs,ok.bsz,ok.noex,ok.exfs,ok.funs,ok.frf⟩
section
variable {X:Cx}{zp:List (Addr × Obj)}{σ:St}{H:Hp}{s:Shared}{E:Value->Shared->Prop}
theorem Inv.wish (I:Inv X zp σ H s) (E:Value->Shared->Prop):Inv (X.wish E) zp σ H s:=⟨I.ok.wish E,I.os,I.bare,I.base,I.loc,I.cell,I.free,I.freeC,I.pin,I.hok,I.len⟩
theorem Inv.unwish (I:Inv (X.wish E) zp σ H s):Inv X zp σ H s:=⟨I.ok.unwish,I.os,I.bare,I.base,I.loc,I.cell,I.free,I.freeC,I.pin,I.hok,I.len⟩
theorem SP.unwish {D:Ends}{f:Flow}{s':Shared} (h:SP (X.wish E) zp D f s'):SP X zp D f s':=by
 cases f with
 | next=>obtain ⟨σ',H',I,q⟩:=h; exact ⟨σ',H',I.unwish,q⟩
 | brk=>obtain ⟨σ',H',I,q⟩:=h; exact ⟨σ',H',I.unwish,q⟩
 | cont=>obtain ⟨σ',H',I,q⟩:=h; exact ⟨σ',H',I.unwish,q⟩
 | ret u=>obtain ⟨v,σ',H',I,r,q⟩:=h; exact ⟨v,σ',H',I.unwish,r,q⟩
theorem PSs.nox {st:List Stmt}{t:TS} (h:PSs X.nox st t):PSs X st t:=fun zp s σ H D I hw=>
 wpAny_mono (h zp s σ H D (I.wish _) hw) (fun _ _ q=>q.unwish) fun _ _ z=>False.elim z
end
section
variable {X:Cx}{st:Stmt}{rest:List Stmt}{t u:TS}{e:Expr}{te:TE}{pos:Pos}
def zia:TS:=fun D σ H=>D.nx σ H
def tSeq (t u:TS):TS:=fun D σ H=>t { D with nx:=u D } σ H
theorem zq:PSs X [] zia:=fun _ _ σ H _ I h=>wpAny_execs_nil ⟨σ,H,I,h⟩
theorem zb (h1:PS X st t) (h2:PSs X rest u):PSs X (st :: rest) (tSeq t u):=by
 intro zp s σ H D I h
 refine wpAny_execs_cons (thn (h1 zp s σ H { D with nx:=u D } I h) fun f s1 q=>?_)
 cases f with
 | next=>
  obtain ⟨σ',H',I',q⟩:=q
  exact h2 zp s1 σ' H' D I' q
 | ret v=>exact q
 | brk=>exact q
 | cont=>exact q
theorem zg (h1:PS X st t):PSs X [st] t:=by
 intro zp s σ H D I h
 refine wpAny_execs_cons (thn (h1 zp s σ H D I h) fun f s1 q=>?_)
 cases f with
 | next=>exact wpAny_execs_nil q
 | ret v=>exact q
 | brk=>exact q
 | cont=>exact q
theorem Inv.quiet {zp:List (Addr × Obj)}{σ:St}{H:Hp}{s:Shared} (I:Inv X zp σ H s):interactive X.env = false:=by simp [interactive,I.ok.kind]
def zmC (te:TE):TS:=fun D σ H=>te σ H fun _ H1=>D.nx σ H1
theorem ZB (he:PE X e te) (hs:swapsWith e none pos.line X.env = pure false:=by rfl):PS X (.Expr e pos) (zmC te):=by
 intro zp s σ H D I h
 exact wpAny_Expr_any (thn (he zp s σ H _ I h) fun v s1 ⟨x,H1,I1,r1,q1⟩=>⟨σ,H1,I1,q1⟩) I.quiet hs
def tRet (te:TE):TS:=fun D σ H=>te σ H D.rt
theorem zo (he:PE X e te):PS X (.Return (some e) pos) (tRet te):=by
 intro zp s σ H D I h
 exact wpAny_Return_some (thn (he zp s σ H _ I h) fun v s1 ⟨x,H1,I1,r1,q1⟩=>⟨x,σ,H1,I1,r1,q1⟩)
def tIfS (c:TT) (t u:TS):TS:=fun D σ H=>c σ H fun b H1=>if b = true then t D σ H1 else u D σ H1
theorem zB {c:Expr}{a b:List Stmt}{tc:TT} (hc:PT X c tc) (ha:PSs X a t) (hb:PSs X b u):PS X (.If c a b pos) (tIfS tc t u):=by
 intro zp s σ H D I h
 refine wpAny_If (thn (hc zp s σ H _ I h) fun d s1 ⟨H1,I1,q1⟩=>?_)
 cases d with
 | true=>exact ha zp s1 σ H1 D I1 q1
 | false=>exact hb zp s1 σ H1 D I1 q1
end
abbrev TG:=V->St->Hp->(St->Hp->Prop)->Prop
abbrev TGs:=List V->St->Hp->(St->Hp->Prop)->Prop
def PG (X:Cx) (target:Expr) (t:TG):Prop:=
 ∀ (zp:List (Addr × Obj)) (s:Shared) (σ:St) (H:Hp) (v:V) (u:Value) (Q:St->Hp->Prop),Inv X zp σ H s->RelV v u->t v σ H Q->
  wpAny (model X.prog X.w) X.A (assign target X.env u) (fun _ s'=>∃ σ' H',Inv X zp σ' H' s'/\Q σ' H') X.xe s
def PGs (X:Cx) (ts:List Expr) (t:TGs):Prop:=
 ∀ (zp:List (Addr × Obj)) (s:Shared) (σ:St) (H:Hp) (vs:List V) (us:List Value) (Q:St->Hp->Prop),Inv X zp σ H s->Vals vs us->t vs σ H Q->
  wpAny (model X.prog X.w) X.A (assignInOrder ((assignEach ts X.env).map (·.2)) us) (fun _ s'=>∃ σ' H',Inv X zp σ' H' s'/\Q σ' H') X.xe s
abbrev TSet:=V->V->V->Hp->(Hp->Prop)->Prop
def PSet (X:Cx) (t:TSet):Prop:=
 ∀ (zp:List (Addr × Obj)) (s:Shared) (σ:St) (H:Hp) (o i v:V) (ov iv u:Value) (Q:Hp->Prop),Inv X zp σ H s->RelV o ov->RelV i iv->RelV v u->t o i v H Q->
  wpAny (model X.prog X.w) X.A (setItem ov iv u) (fun _ s'=>∃ H',Inv X zp σ H' s'/\Q H') X.xe s
abbrev TIp:=V->V->Hp->VK->Prop
def PIp (X:Cx) (op:Operator) (t:TIp):Prop:=
 ∀ (zp:List (Addr × Obj)) (s:Shared) (σ:St) (H:Hp) (x y:V) (v u:Value) (Q:VK),Inv X zp σ H s->RelV x v->RelV y u->t x y H Q->
  wpAny (model X.prog X.w) X.A (inplaceOp op v u) (EP X zp σ Q) X.xe s
section
variable {X:Cx}{pos:Pos}
def ZI (i:Nat):TG:=fun v σ H Q=>Q (σ.set i (some v)) H
theorem zZ {i:Nat}{x:Str} (hN:X.N.Nodup) (hi:X.N[i]? = some x) (hx:Loc X.env.scope x) (hf:X.fn x = true\/X.env.scope.names.lookup x = some .local:=by first | exact .inl rfl | exact .inr rfl | assumption):PG X (.Name x pos) (ZI i):=by
 intro zp s σ H v u Q I r h
 exact wpAny_assign_Name (zcI I hN hi hx r (fun s' I'=>⟨_,H,I',h⟩) hf)
def gNil:TGs:=fun vs σ H Q=>vs = []/\Q σ H
def zmD (t:TG) (u:TGs):TGs:=fun vs σ H Q=>∃ v r,vs = v :: r/\t v σ H fun σ' H'=>u r σ' H' Q
theorem za8:PGs X [] gNil:=by
 intro zp s σ H vs us Q I r h
 obtain ⟨e,h⟩:=h
 subst e
 cases r
 exact assignInOrder_nil ⟨σ,H,I,h⟩
theorem Zn {e:Expr}{es:List Expr}{t:TG}{u:TGs} (h1:PG X e t) (h2:PGs X es u)
  (hs:(assignEach (e :: es) X.env).map (·.2) = assign e X.env :: (assignEach es X.env).map (·.2):=by rfl):PGs X (e :: es) (zmD t u):=by
 intro zp s σ H vs us Q I r h
 obtain ⟨v,vr,e1,h⟩:=h
 subst e1
 cases r with
 | cons r rr=>
  rw [hs]
  refine assignInOrder_cons (thn (h1 zp s σ H _ _ _ I r h) fun _ s1 ⟨σ1,H1,I1,q1⟩=>?_)
  exact h2 zp s1 σ1 H1 _ _ Q I1 rr q1
def gTup (K:PySem.W.Frag) (n:Nat) (t:TGs):TG:=fun v σ H Q=>∃ a xs,v = .ref a/\SqT K H a xs/\xs.length = n/\t xs σ H Q
theorem zbP {es:List Expr}{k:Nat}{t:TGs}{n:Nat} (hc:X.calm = true) (h:PGs X es t)
  (hn:(assignEach es X.env).length = n:=by rfl) (hst:(assignEach es X.env).findIdx? (·.1) = none:=by rfl):PG X (.Tuple es k pos) (gTup X.K n t):=by
 intro zp s σ H v u Q I r hw
 obtain ⟨a,xs,e1,hq,hl,hw⟩:=hw
 subst e1
 cases r
 obtain ⟨its,rv,ht,hz⟩:=I.tuple hq
 refine assign_Tuple_tuple (I.ok.hd hc) ht (by simp [hn,← hl,rv.length]) hst fun h' hx=>?_
 have I1:Inv X zp σ H { s with heap:=h' }:=I.kept (t':=s.toks) fun b o e=>hx b o (Nat.ne_of_lt (Heap.lt_size e)) e
 exact h zp _ σ H xs _ Q I1 (by simpa using rv) hw
def gSub (to ti:TE) (t:TSet):TG:=fun v σ H Q=>to σ H fun o H1=>ti σ H1 fun i H2=>t o i v H2 fun H3=>Q σ H3
theorem zgo {o i:Expr}{to ti:TE}{t:TSet} (ho:PE X o to) (hi:PE X i ti) (hs:PSet X t)
  (ha:∀ v,assign (.Subscript o i pos) X.env v = (do
   let ov ← holding [v] (eval o X.env)
   let iv ← holding [v,ov] (eval i X.env)
   standAt pos
   holding [v,ov,iv] (setItem ov iv v)
   release [v,ov,iv] []):=by intro _; rfl):PG X (.Subscript o i pos) (gSub to ti t):=by
 intro zp s σ H v u Q I r h
 rw [ha]
 refine wpAny_bind (wpAny_holding (thn (ho zp s σ H _ I h) fun ov s1 ⟨x,H1,I1,r1,q1⟩=>?_))
 refine wpAny_bind (wpAny_holding (thn (hi zp s1 σ H1 _ I1 q1) fun iv s2 ⟨y,H2,I2,r2,q2⟩=>?_))
 refine wpAny_bind (wpAny_standAt (wpAny_bind (wpAny_holding (thn (hs zp s2 σ H2 x y v ov iv u _ I2 r1 r2 r q2) fun _ s3 ⟨H3,I3,q3⟩=>?_))))
 exact wpAny_release ⟨σ,H3,I3,q3⟩
def tAsg (te:TE) (g:TG):TS:=fun D σ H=>te σ H fun x H1=>g x σ H1 D.nx
theorem za9 {tg e:Expr}{te:TE}{g:TG} (he:PE X e te) (hg:PG X tg g) (hs:swapsWithSole [tg] e pos.line X.env = pure false:=by rfl) (hw:swappedStores [tg] e X.env = pure none:=by rfl)
  (h1:(assignEach [tg] X.env).map (·.2) = [assign tg X.env]:=by rfl):PS X (.Assign [tg] e pos) (tAsg te g):=by
 intro zp s σ H D I h
 refine wpAny_Assign_stores (thn (he zp s σ H _ I h) fun v s1 ⟨x,H1,I1,r1,q1⟩=>?_) hs hw
 rw [h1]
 exact thn (hg zp s1 σ H1 x v _ I1 r1 q1) fun _ s2 q=>q
theorem zn {i:Nat}{x:Str}{e:Expr}{te:TE}{pos':Pos} (hN:X.N.Nodup) (hi:X.N[i]? = some x) (hx:Loc X.env.scope x) (he:PE X e te) (hs:swapsWith e (some (.Name x pos')) pos.line X.env = pure false:=by rfl) (hf:X.fn x = true\/X.env.scope.names.lookup x = some .local:=by first | exact .inl rfl | exact .inr rfl | assumption):
  PS X (.Assign [.Name x pos'] e pos) (tAsg te (ZI i)):=by
 intro zp s σ H D I h
 refine wpAny_Assign_Name (thn (he zp s σ H _ I h) fun v s1 ⟨y,H1,I1,r1,q1⟩=>?_) hs
 exact zcI I1 hN hi hx r1 (fun s2 I2=>⟨_,H1,I2,q1⟩) hf
def tAug (i:Nat) (te:TE) (ti:TIp):TS:=fun D σ H=>∃ x,σ[i]? = some (some x)/\te σ H fun y H1=>ti x y H1 fun z H2=>D.nx (σ.set i (some z)) H2
theorem zct {i:Nat}{x:Str}{e:Expr}{te:TE}{op:Operator}{ti:TIp}{pos':Pos} (hN:X.N.Nodup) (hi:X.N[i]? = some x) (hx:Loc X.env.scope x) (he:PE X e te) (ho:PIp X op ti) (hf:X.fn x = true\/X.env.scope.names.lookup x = some .local:=by first | exact .inl rfl | exact .inr rfl | assumption):
  PS X (.AugAssign (.Name x pos') op e pos) (tAug i te ti):=by
 intro zp s σ H D I h
 obtain ⟨v,e1,h⟩:=h
 obtain ⟨m,hn,hl⟩:=I.loc
 have vis:Vis X.env.scope x:=by rcases hx with k | k; exact .inl k; exact .inr (.inl k)
 obtain ⟨u,r,l⟩:=hl i x v hi e1 vis
 refine wpAny_AugAssign_Name ?_
 have go:wpAny (model X.prog X.w) X.A (eval e X.env) (fun w s₂=>wpAny (model X.prog X.w) X.A (inplaceOp op u w) (fun r s₃=>wpAny (model X.prog X.w) X.A (storeName X.env x r) (fun _=>SP X zp D .next) X.xe s₃) X.xe s₂) X.xe s:=by
  refine thn (he zp s σ H _ I h) fun w s1 ⟨y,H1,I1,r1,q1⟩=>?_
  refine thn (ho zp s1 σ H1 v y u w _ I1 r r1 q1) fun z s2 ⟨zv,H2,I2,r2,q2⟩=>?_
  exact zcI I2 hN hi hx r2 (fun s3 I3=>⟨_,H2,I3,q2⟩) hf
 rcases l with ⟨hk,hm⟩ | ⟨hk,c,hc,hcell⟩
 ·exact wpAny_loadName_local I.ok.kind hk hn hm go
 ·rcases hk with hk | hk
  ·exact wpAny_loadName_cell I.ok.kind hk hc hcell go
  ·rcases hx with k | k
   ·have:X.env.scope.names.lookup x = some .free:=hk
    rw [k] at this; cases this
   ·have:X.env.scope.names.lookup x = some .free:=hk
    rw [k] at this; cases this
end
section
variable {X:Cx}{pos:Pos}
def zk1 (c:TT) (tb:TS):TS:=fun D σ H=>∃ W:Nat->St->Hp->Prop,(∃ m,W m σ H)/\∀ m σ H,W m σ H->
 c σ H fun b H1=>if b = true then ∃ N:St->Hp->Prop,(∀ σ' H',N σ' H'->∃ m',m' < m/\W m' σ' H')/\tb { D with nx:=N,ct:=N,bk:=D.nx } σ H1 else D.nx σ H1
theorem zbp {c:Expr}{body:List Stmt}{tc:TT}{tb:TS} (hp:PassesOwn (model X.prog X.w) X.A X.env X.xe) (hc:PT X c tc) (hb:PSs X body tb):PS X (.While c body [] pos) (zk1 tc tb):=by
 intro zp s σ H D I h
 obtain ⟨W,⟨m0,w0⟩,turn⟩:=h
 refine wpAny_While (codeAny_whileLoop (fun n s'=>∃ σ' H',Inv X zp σ' H' s'/\W n σ' H') ?_ m0 ⟨σ,H,I,w0⟩)
 rintro n s1 ⟨σ1,H1,I1,w1⟩
 refine wpAny_passesOwn hp (thn (hc zp s1 σ1 H1 _ I1 (turn n σ1 H1 w1)) fun b s2 ⟨H2,I2,q2⟩=>?_)
 cases b with
 | true=>
  obtain ⟨N,hN,q2⟩:=q2
  rw [if_pos rfl]
  refine wpAny_passesOwn hp (thn (hb zp s2 σ1 H2 _ I2 q2) fun f s3 q3=>?_)
  cases f with
  | next=>
   obtain ⟨σ3,H3,I3,n3⟩:=q3
   obtain ⟨m',hm,w3⟩:=hN σ3 H3 n3
   exact ⟨m',hm,σ3,H3,I3,w3⟩
  | cont=>
   obtain ⟨σ3,H3,I3,n3⟩:=q3
   obtain ⟨m',hm,w3⟩:=hN σ3 H3 n3
   exact ⟨m',hm,σ3,H3,I3,w3⟩
  | brk=>exact q3
  | ret v=>exact q3
 | false=>
  rw [if_neg Bool.false_ne_true]
  exact wpAny_execs_nil ⟨σ1,H2,I2,q2⟩
end
structure It where
 go:Nat->Hp->Prop
 yld:Nat->Hp->V->Hp->Prop
 stop:Nat->Hp->Prop
def FpOk (X:Cx) (zp:List (Addr × Obj)) (H:Hp) (b:Addr):Prop:=
 H b = none/\b≠X.env.locals/\b ∉ X.fs/\(b∈X.ex\/X.s₀.heap.objs.size<=b)/\(∀ x c,X.env.cells.lookup x = some c->c≠b)/\∀ p∈X.pn ++ zp,p.1≠b
theorem Inv.fpOk {X:Cx}{zp:List (Addr × Obj)}{σ:St}{H H':Hp}{s:Shared}{b:Addr} (I:Inv X zp σ H s) (hb:s.heap.objs.size<=b) (hn:H' b = none):FpOk X zp H' b:=by
 refine ⟨hn,Nat.ne_of_gt (Nat.lt_of_lt_of_le I.lt hb),I.nofs hb,.inr (Nat.le_trans I.sz hb),fun x c e z=>?_,fun p hp z=>?_⟩
 ·obtain ⟨v,q⟩:=I.cell x c e
  exact absurd (Nat.lt_of_lt_of_le q.lt (by rw [z]; exact hb)) (Nat.lt_irrefl _)
 ·exact absurd (Nat.lt_of_lt_of_le (Heap.lt_size (I.pin p hp).1) (by rw [z]; exact hb)) (Nat.lt_irrefl _)
structure Turn (P:Program) (w:World) (K:PySem.W.Frag) (tg:Expr) (J:It) (fp:List Addr) (it:Addr) (tn:Nat->Heap->Prop):Prop where
 mem:it∈fp
 obj:∀ i h,tn i h->∀ b∈fp,∃ o,h.get? b = some o/\∀ v,o.data≠.cell v
 keep:∀ i h h',tn i h->(∀ b∈fp,∀ o,h.get? b = some o->h'.get? b = some o)->tn i h'
 item:∀ (X:Cx),X.prog = P->X.w = w->X.K = K->X.calm = true->∀ (i:Nat) (zp:List (Addr × Obj)) (s:Shared) (σ:St) (H:Hp) (E:Value->Shared->Prop),Inv X zp σ H s->(∀ b∈fp,FpOk X zp H b)->tn i s.heap->J.go i H->
  wpAny (model P w) X.A (pyNext (.ref it)) (fun r s1=>∃ u,r = some u /\
   wpAny (model P w) X.A (letOwnedTupleGo tg (.ref it) u) (fun _ s2=>∃ x H',Inv X zp σ H' s2/\RelV x u/\J.yld i H x H'/\tn (i + 1) s2.heap/\∀ b∈fp,H' b = none) E s1) E s
 done:∀ (X:Cx),X.prog = P->X.w = w->X.K = K->X.calm = true->∀ (i:Nat) (zp:List (Addr × Obj)) (s:Shared) (σ:St) (H:Hp) (E:Value->Shared->Prop),Inv X zp σ H s->(∀ b∈fp,FpOk X zp H b)->tn i s.heap->J.stop i H->
  wpAny (model P w) X.A (pyNext (.ref it)) (fun r s1=>r = none/\Inv X zp σ H s1) E s
 self:∀ (A:Around) (i:Nat) (s:Shared) (Q:Value->Shared->Prop) (E:Value->Shared->Prop),tn i s.heap->Q (.ref it) s->wpAny (model P w) A (pyIter (.ref it)) Q E s
abbrev TI:=St->Hp->(It->Hp->Prop)->Prop
def PIE (X:Cx) (zp:List (Addr × Obj)) (σ:St) (tg:Expr) (R:It->Hp->Prop) (itv:Value) (s2:Shared):Prop:=
 ∃ (it:Addr) (fp:List Addr) (tn:Nat->Heap->Prop) (J:It) (H':Hp),itv = .ref it/\Inv X zp σ H' s2/\Turn X.prog X.w X.K tg J fp it tn/\tn 0 s2.heap/\(∀ b∈fp,FpOk X zp H' b)/\R J H'
def PI (X:Cx) (tg iter:Expr) (wi:TI):Prop:=
 ∀ (zp:List (Addr × Obj)) (s:Shared) (σ:St) (H:Hp) (R:It->Hp->Prop),Inv X zp σ H s->wi σ H R->
  wpAny (model X.prog X.w) X.A (eval iter X.env) (fun v s1=>wpAny (model X.prog X.w) X.A (pyIter v) (PIE X zp σ tg R) X.xe s1) X.xe s
theorem zjV {M:Model}{A:Around}{E:Value->Shared->Prop}{s:Shared}{tg:Expr}{it:Addr}{u:Value}{o:Obj}{n:String}{vs:Array Value}{Q:Unit->Shared->Prop} (ho:s.heap.get? it = some o) (hc:o.cls = .type n) (hd:o.data = .fields vs)
  (hn:["enumerate","zip","dict_itemiterator","dict_reverseitemiterator","odict_iterator","itertools.zip_longest","itertools.pairwise"].contains n = false) (hQ:Q () s):wpAny M A (letOwnedTupleGo tg (.ref it) u) Q E s:=by
 unfold letOwnedTupleGo
 cases tg <;> first
  | exact wpAny_pure hQ
  | (
    cases u <;> first
    | exact wpAny_pure hQ
    | (
      refine wpAny_bind (wpAny_load ho ?_)
      rw [hc,hd]
      show wpAny M A (if (["enumerate","zip","dict_itemiterator","dict_reverseitemiterator","odict_iterator","itertools.zip_longest","itertools.pairwise"].contains n && vs[0]? == some (rawInt _)) = true then _ else _) Q E s
      rw [if_neg (by intro h; rw [hn,Bool.false_and] at h; cases h)]
      exact wpAny_pure hQ))
def Itl (K:PySem.W.Frag) (a:Addr):It:=
 ⟨fun i H=>∃ xs x,SqL K H a xs/\xs[i]? = some x,fun i H x H'=>H' = H/\∀ xs,SqL K H a xs->xs[i]? = some x,fun i H=>∃ xs,SqL K H a xs/\xs.length<=i⟩
def Itt (K:PySem.W.Frag) (a:Addr):It:=
 ⟨fun i H=>∃ xs x,SqT K H a xs/\xs[i]? = some x,fun i H x H'=>H' = H/\∀ xs,SqT K H a xs->xs[i]? = some x,fun i H=>∃ xs,SqT K H a xs/\xs.length<=i⟩
def Itr (lo:Int) (n:Nat):It:=⟨fun i _=>i < n,fun i H x H'=>H' = H/\x = .int (lo + i),fun i _=>n<=i⟩
theorem zib {P:Program}{w:World}{K:PySem.W.Frag}{tg:Expr} (a it:Addr):Turn P w K tg (Itl K a) [it] it (fun i h=>h.IsListIter it a i) where
 mem:=by simp
 obj:=fun i h st b hb=>by
  have e:b = it:=by simpa using hb
  subst e
  obtain ⟨o,e,c,d⟩:=st
  exact ⟨o,e,fun v z=>by rw [d] at z; cases z⟩
 keep:=fun i h h' st k=>st.at fun o e=>k it (by simp) o e
 item:=by
  intro X hP hw hK hc i zp s σ H E I hf st hg
  subst hP hw hK
  obtain ⟨xs,x,hq,hx⟩:=hg
  obtain ⟨its,rv,p,hz⟩:=I.list hq
  obtain ⟨u,hu,ru⟩:=rv.get hx
  obtain ⟨f0,f1,f2,f3,f4,f5⟩:=hf it (by simp)
  refine wpAny_pyNext_list_item st p.isList (x:=u) (by simpa using hu) fun h' st' sb=>?_
  have I1:Inv X zp σ H { s with heap:=h' }:=I.turned (t':=s.toks) (fun b o hb e=>(sb.2 b hb).trans e) f0 f1 f3 f4 f5
  obtain ⟨o,e,c,d⟩:=id st'
  exact ⟨u,rfl,zjV (s:={ s with heap:=h' }) e c d (by decide) ⟨x,H,I1,ru,⟨rfl,fun ys hy=>by rw [I.list_inj hy hq]; exact hx⟩,st',fun b hb=>(hf b hb).1⟩⟩
 done:=by
  intro X hP hw hK hc i zp s σ H E I hf st hg
  subst hP hw hK
  obtain ⟨xs,hq,hx⟩:=hg
  obtain ⟨its,rv,p,hz⟩:=I.list hq
  obtain ⟨f0,f1,f2,f3,f4,f5⟩:=hf it (by simp)
  have hl:=rv.length
  exact wpAny_pyNext_list_end (I.ok.hd hc) st p.isList (by simp; omega) fun h' eb=>⟨rfl,I.turned (t':=s.toks) (fun b o hb e=>eb b o hb e) f0 f1 f3 f4 f5⟩
 self:=fun _ _ _ _ _ st h=>wpAny_pyIter_listiter st h
theorem zho {P:Program}{w:World}{K:PySem.W.Frag}{tg:Expr} (a it:Addr):Turn P w K tg (Itt K a) [it] it (fun i h=>h.IsTupleIter it a i) where
 mem:=by simp
 obj:=fun i h st b hb=>by
  have e:b = it:=by simpa using hb
  subst e
  obtain ⟨o,e,c,d⟩:=st
  exact ⟨o,e,fun v z=>by rw [d] at z; cases z⟩
 keep:=fun i h h' st k=>st.at fun o e=>k it (by simp) o e
 item:=by
  intro X hP hw hK hc i zp s σ H E I hf st hg
  subst hP hw hK
  obtain ⟨xs,x,hq,hx⟩:=hg
  obtain ⟨its,rv,p,hz⟩:=I.tuple hq
  obtain ⟨u,hu,ru⟩:=rv.get hx
  obtain ⟨f0,f1,f2,f3,f4,f5⟩:=hf it (by simp)
  refine wpAny_pyNext_tuple_item st (show s.heap.IsTuple a its.toArray from p) (x:=u) (by simpa using hu) fun h' st' sb=>?_
  have I1:Inv X zp σ H { s with heap:=h' }:=I.turned (t':=s.toks) (fun b o hb e=>(sb.2 b hb).trans e) f0 f1 f3 f4 f5
  obtain ⟨o,e,c,d⟩:=id st'
  exact ⟨u,rfl,zjV (s:={ s with heap:=h' }) e c d (by decide) ⟨x,H,I1,ru,⟨rfl,fun ys hy=>by rw [I.tuple_inj hy hq]; exact hx⟩,st',fun b hb=>(hf b hb).1⟩⟩
 done:=by
  intro X hP hw hK hc i zp s σ H E I hf st hg
  subst hP hw hK
  obtain ⟨xs,hq,hx⟩:=hg
  obtain ⟨its,rv,p,hz⟩:=I.tuple hq
  obtain ⟨f0,f1,f2,f3,f4,f5⟩:=hf it (by simp)
  have hl:=rv.length
  exact wpAny_pyNext_tuple_end (I.ok.hd hc) st (show s.heap.IsTuple a its.toArray from p) (by simp; omega) fun h' eb=>⟨rfl,I.turned (t':=s.toks) (fun b o hb e=>eb b o hb e) f0 f1 f3 f4 f5⟩
 self:=fun _ _ _ _ _ st h=>wpAny_pyIter_tupleiter st h
theorem zhp {P:Program}{w:World}{K:PySem.W.Frag}{tg:Expr} (it:Addr) (lo:Int) (n:Nat):Turn P w K tg (Itr lo n) [it] it (fun i h=>IsRangeIter h it (lo + (i:Nat) * 1) ((n:Int) - (i:Nat)) 1) where
 mem:=by simp
 obj:=fun i h st b hb=>by
  have e:b = it:=by simpa using hb
  subst e
  exact ⟨_,st,fun v z=>by
   have z':Data.fields _ = Data.cell v:=z
   cases z'⟩
 keep:=fun i h h' st k=>k it (by simp) _ st
 item:=by
  intro X hP hw hK hc i zp s σ H E I hf st hg
  subst hP hw hK
  obtain ⟨f0,f1,f2,f3,f4,f5⟩:=hf it (by simp)
  have W:=Walks.range (prog:=X.prog) (w:=X.w) (I.ok.hd hc) it lo 1 n
  refine W.item i s _ _ hg st fun v h' tk hv st' kk=>?_
  obtain ⟨t,rfl⟩:=hv
  have I1:Inv X zp σ H { s with heap:=h',toks:=tk }:=I.turned (fun b o hb e=>kk b o (by simpa using hb) e) f0 f1 f3 f4 f5
  refine ⟨_,rfl,zjV (s:={ s with heap:=h',toks:=tk }) (n:="range_iterator") st' rfl rfl (by decide) ⟨.int (lo + i),H,I1,⟨t,?_⟩,⟨rfl,rfl⟩,st',fun b hb=>(hf b hb).1⟩⟩
  rw [Int.mul_one]
 done:=by
  intro X hP hw hK hc i zp s σ H E I hf st hg
  subst hP hw hK
  obtain ⟨f0,f1,f2,f3,f4,f5⟩:=hf it (by simp)
  exact wpAny_pyNext_range_end (I.ok.hd hc) st (by have:n<=i:=hg; omega) fun h' eb=>⟨rfl,I.turned (t':=s.toks) (fun b o hb e=>eb b o hb e) f0 f1 f3 f4 f5⟩
 self:=fun _ _ _ _ _ st h=>wpAny_pyIter_rangeiter st h
section
variable {X:Cx}{tg:Expr}
def zlt (K:PySem.W.Frag) (tl:TE):TI:=fun σ H R=>tl σ H fun x H1=>∃ a,x = .ref a/\(∃ xs,SqL K H1 a xs)/\R (Itl K a) H1
def iTup (K:PySem.W.Frag) (tl:TE):TI:=fun σ H R=>tl σ H fun x H1=>∃ a,x = .ref a/\(∃ xs,SqT K H1 a xs)/\R (Itt K a) H1
theorem zay {l:Expr}{tl:TE} (hl:PE X l tl):PI X tg l (zlt X.K tl):=by
 intro zp s σ H R I h
 refine thn (hl zp s σ H _ I h) fun v s1 ⟨x,H1,I1,r1,q1⟩=>?_
 obtain ⟨a,e,⟨xs,hq⟩,q⟩:=q1
 subst e
 cases r1
 obtain ⟨its,rv,p,hz⟩:=I1.list hq
 refine wpAny_pyIter_list p.isList ?_
 refine ⟨s1.heap.objs.size,[s1.heap.objs.size],_,_,H1,rfl,I1.kept (t':=s1.toks) fun b o e=>Heap.get?_push_of_some _ e,zib a _,⟨_,Heap.get?_push_size _ rfl,rfl,rfl⟩,fun b hb=>?_,q⟩
 have e:b = s1.heap.objs.size:=by simpa using hb
 subst e
 exact I1.fpOk (Nat.le_refl _) (I1.hok.fresh (Nat.le_refl _))
theorem zcu {l:Expr}{tl:TE} (hl:PE X l tl):PI X tg l (iTup X.K tl):=by
 intro zp s σ H R I h
 refine thn (hl zp s σ H _ I h) fun v s1 ⟨x,H1,I1,r1,q1⟩=>?_
 obtain ⟨a,e,⟨xs,hq⟩,q⟩:=q1
 subst e
 cases r1
 obtain ⟨its,rv,p,hz⟩:=I1.tuple hq
 refine wpAny_pyIter_tuple (show s1.heap.IsTuple a its.toArray from p) ?_
 refine ⟨s1.heap.objs.size,[s1.heap.objs.size],_,_,H1,rfl,I1.kept (t':=s1.toks) fun b o e=>Heap.get?_push_of_some _ e,zho a _,⟨_,Heap.get?_push_size _ rfl,rfl,rfl⟩,fun b hb=>?_,q⟩
 have e:b = s1.heap.objs.size:=by simpa using hb
 subst e
 exact I1.fpOk (Nat.le_refl _) (I1.hok.fresh (Nat.le_refl _))
theorem zjW {zp:List (Addr × Obj)}{σ:St}{H:Hp}{s:Shared}{R:It->Hp->Prop}{E:Value->Shared->Prop}{lo hi:Int}{t u v:Tok}{tk:Nat} (I:Inv X zp σ H s) (h1:-(2 ^ 62)<=lo) (h2:lo < 2 ^ 62) (h3:-(2 ^ 62)<=hi) (h4:hi < 2 ^ 62)
  (q:R (Itr lo (hi - lo).toNat) H):wpAny (model X.prog X.w) X.A (pyIter (.ref s.heap.objs.size)) (PIE X zp σ tg R) E { s with heap:=s.heap.push { cls:=.type "range",data:=.fields #[.int lo t,.int hi u,.int 1 v] },toks:=tk }:=by
 refine wpAny_pyIter_range (IsRange.new ..) (small_one h1 h2 h3 h4) ?_
 have I1:Inv X zp σ H { s with heap:=s.heap.push { cls:=.type "range",data:=.fields #[.int lo t,.int hi u,.int 1 v] },toks:=tk }:=I.kept fun b o e=>Heap.get?_push_of_some _ e
 refine ⟨(s.heap.push { cls:=.type "range",data:=.fields #[.int lo t,.int hi u,.int 1 v] }).objs.size,[(s.heap.push { cls:=.type "range",data:=.fields #[.int lo t,.int hi u,.int 1 v] }).objs.size],_,_,H,rfl,
  I1.kept (t':=tk) fun b o e=>Heap.get?_push_of_some _ e,zhp _ lo (hi - lo).toNat,?_,fun b hb=>?_,q⟩
 ·have e1:lo + ((0:Nat):Int) * 1 = lo:=by simp
  have e2:(((hi - lo).toNat:Nat):Int) - ((0:Nat):Int) = Builtin.Range.rangeSize lo hi 1:=by rw [rangeSize_one]; split <;> omega
  show IsRangeIter _ _ (lo + ((0:Nat):Int) * 1) ((((hi - lo).toNat:Nat):Int) - ((0:Nat):Int)) 1
  rw [e1,e2]
  exact Heap.get?_push_size _ rfl
 ·have e:b = (s.heap.push { cls:=.type "range",data:=.fields #[.int lo t,.int hi u,.int 1 v] }).objs.size:=by simpa using hb
  subst e
  exact I1.fpOk (Nat.le_refl _) (I1.hok.fresh (Nat.le_refl _))
def zlu (ta:TA):TI:=fun σ H R=>ta σ H fun vs H1=>∃ j:Int,vs = [.int j]/\-(2 ^ 62)<=j/\j < 2 ^ 62/\R (Itr 0 j.toNat) H1
theorem Z8 {a:Expr}{ta:TA}{p pos:Pos} (hg:Gl X "range") (hm:X.mg "range" = none) (ha:PA X [a] ta) (hs:starEach [a] X.env = [(false,eval a X.env)]:=by rfl):PI X tg (.Call (.Name "range" p) [a] [] pos) (zlu ta):=by
 intro zp s σ H R I h
 refine Call_ (zdH I hg hm boot_range (PyProof.Rows.callWith_type1 (thn (ha pos zp s σ H _ I h) fun us s1 ⟨vs,H1,I1,r1,q1⟩=>?_) hs rfl))
 obtain ⟨j,e,q1,q2,q⟩:=q1
 subst e
 cases r1 with
 | cons r rr=>
  cases rr
  obtain ⟨t,rfl⟩:=r
  exact call_range_1 (zjW I1 (by omega) (by omega) q1 q2 (by simpa using q))
def tFor (wi:TI) (g:TG) (tb:TS):TS:=fun D σ H=>wi σ H fun J H1=>∃ W:Nat->Nat->St->Hp->Prop,(∃ m,W 0 m σ H1)/\∀ i m σ H,W i m σ H->
 (J.stop i H/\D.nx σ H)\/(J.go i H/\∃ N:St->Hp->Prop,(∀ σ' H',N σ' H'->∃ m',m' < m/\W (i + 1) m' σ' H')/\∀ x H',J.yld i H x H'->g x σ H' fun σ2 H2=>tb { D with nx:=N,ct:=N,bk:=D.nx } σ2 H2)
def zdI (fp:List Addr) (h:Heap):List (Addr × Obj):=fp.filterMap fun b=>(h.get? b).map fun o=>(b,o)
theorem zai {fp:List Addr}{h:Heap}{b:Addr}{o:Obj} (hb:b∈fp) (e:h.get? b = some o):(b,o)∈zdI fp h:=List.mem_filterMap.mpr ⟨b,hb,by rw [e]; rfl⟩
theorem zic {fp:List Addr}{h:Heap}{p:Addr × Obj} (hp:p∈zdI fp h):p.1∈fp/\h.get? p.1 = some p.2:=by
 obtain ⟨b,hb,e⟩:=List.mem_filterMap.mp hp
 cases q:h.get? b with
 | none=>rw [q] at e; cases e
 | some o=>
  rw [q] at e
  have e':(b,o) = p:=Option.some.inj e
  subst e'
  exact ⟨hb,q⟩
theorem Inv.pinned {zp:List (Addr × Obj)}{σ:St}{H:Hp}{s:Shared}{fp:List Addr} (I:Inv X zp σ H s) (hf:∀ b∈fp,FpOk X zp H b) (ho:∀ b∈fp,∃ o,s.heap.get? b = some o/\∀ v,o.data≠.cell v):Inv X (zp ++ zdI fp s.heap) σ H s:=
 I.pins_of fun p hp=>(List.mem_append.mp hp).elim (fun z=>I.pin p (List.mem_append_right _ z)) fun z=>by
  obtain ⟨hb,e⟩:=zic z
  obtain ⟨f0,f1,f2,_⟩:=hf p.1 hb
  obtain ⟨o,e',d⟩:=ho p.1 hb
  rw [e] at e'; cases e'
  exact ⟨e,f0,f1,f2,d⟩
theorem Inv.unpinned {zp pl:List (Addr × Obj)}{σ:St}{H:Hp}{s:Shared} (I:Inv X (zp ++ pl) σ H s):Inv X zp σ H s:=I.pins_of fun p hp=>I.pin p (List.mem_append_right _ (List.mem_append_left _ hp))
theorem zaC {iter:Expr}{body:List Stmt}{wi:TI}{g:TG}{tb:TS}{pos:Pos} (hp:PassesOwn (model X.prog X.w) X.A X.env X.xe) (hc:X.calm = true) (hi:PI X tg iter wi) (hg:PG X tg g) (hb:PSs X body tb)
  (hs:∀ x,foldedSetIterable iter X.env x = pure x:=by intro _; rfl):PS X (.For tg iter body [] pos) (tFor wi g tb):=by
 intro zp s σ H D I h
 refine wpAny_For (thn (hi zp s σ H _ I h) fun v s1 h1=>thn h1 fun itv s2 h2=>?_) hs
 obtain ⟨it,fp,tn,J,H2,e,I2,T,st2,f2,W,⟨m0,w0⟩,turn⟩:=h2
 subst e
 have stat:∀ {H':Hp},(∀ b∈fp,H' b = none)->∀ b∈fp,FpOk X zp H' b:=fun hn b hb=>⟨hn b hb,(f2 b hb).2⟩
 refine codeAny_forLoop_any (fun n s'=>∃ i σ' H',Inv X zp σ' H' s'/\tn i s'.heap/\(∀ b∈fp,H' b = none)/\W i n σ' H') ?_ m0 ⟨0,σ,H2,I2,st2,fun b hb=>(f2 b hb).1,w0⟩
 rintro n s3 ⟨i,σ3,H3,I3,st3,fr3,w3⟩
 rcases turn i n σ3 H3 w3 with ⟨stop,qn⟩ | ⟨go,N,hN,step⟩
 ·refine wpAny_passesOwn hp (thn (T.done X rfl rfl rfl hc i zp s3 σ3 H3 X.xe I3 (stat fr3) st3 stop) fun r s4 ⟨hr,I4⟩=>?_)
  subst hr
  exact wpAny_execs_nil ⟨σ3,H3,I4,qn⟩
 ·refine wpAny_passesOwn hp (thn (T.item X rfl rfl rfl hc i zp s3 σ3 H3 X.xe I3 (stat fr3) st3 go) fun r s4 ⟨u,hr,h4⟩=>?_)
  subst hr
  refine wpAny_passesOwn hp (thn h4 fun _ s5 ⟨x,H5,I5,r5,y5,st5,fr5⟩=>?_)
  have I5':=I5.pinned (stat fr5) (T.obj _ _ st5)
  refine wpAny_passesOwn hp (thn (hg _ s5 σ3 H5 x u _ I5' r5 (step x H5 y5)) fun _ s6 ⟨σ6,H6,I6,q6⟩=>?_)
  refine wpAny_passesOwn hp (thn (hb _ s6 σ6 H6 _ I6 q6) fun f s7 q7=>?_)
  have again:∀ {σ7:St}{H7:Hp},Inv X (zp ++ zdI fp s5.heap) σ7 H7 s7->N σ7 H7->∃ m,m < n/\∃ i σ' H',Inv X zp σ' H' s7/\tn i s7.heap/\(∀ b∈fp,H' b = none)/\W i m σ' H':=fun {σ7 H7} I7 n7=>by
   obtain ⟨m',hm,w7⟩:=hN σ7 H7 n7
   refine ⟨m',hm,i + 1,σ7,H7,I7.unpinned,T.keep _ _ _ st5 fun b hb o e=>(I7.pin (b,o) (List.mem_append_right _ (List.mem_append_right _ (zai hb e)))).1,fun b hb=>?_,w7⟩
   obtain ⟨o,e,d⟩:=T.obj _ _ st5 b hb
   exact (I7.pin (b,o) (List.mem_append_right _ (List.mem_append_right _ (zai hb e)))).2.1
  cases f with
  | next=>obtain ⟨σ7,H7,I7,n7⟩:=q7; exact again I7 n7
  | cont=>obtain ⟨σ7,H7,I7,n7⟩:=q7; exact again I7 n7
  | brk=>obtain ⟨σ7,H7,I7,q7⟩:=q7; exact ⟨σ7,H7,I7.unpinned,q7⟩
  | ret v=>obtain ⟨x7,σ7,H7,I7,r7,q7⟩:=q7; exact ⟨x7,σ7,H7,I7.unpinned,r7,q7⟩
end
theorem zdV {K:PySem.W.Frag}{a:Addr}{xs:List V}{g:TG}{tb:TS}{D:Ends}{σ:St}{H:Hp} (Pv:Nat->St->Hp->Prop) (h0:Pv 0 σ H) (hl:∀ i σ H,i<=xs.length->Pv i σ H->SqL K H a xs)
  (hs:∀ i x σ H,xs[i]? = some x->Pv i σ H->g x σ H fun σ2 H2=>tb { D with nx:=Pv (i + 1),ct:=Pv (i + 1),bk:=D.nx } σ2 H2) (hd:∀ σ H,Pv xs.length σ H->D.nx σ H):
  ∃ W:Nat->Nat->St->Hp->Prop,(∃ m,W 0 m σ H)/\∀ i m σ H,W i m σ H->
   ((Itl K a).stop i H/\D.nx σ H)\/((Itl K a).go i H/\∃ N:St->Hp->Prop,(∀ σ' H',N σ' H'->∃ m',m' < m/\W (i + 1) m' σ' H')/\∀ x H',(Itl K a).yld i H x H'->g x σ H' fun σ2 H2=>tb { D with nx:=N,ct:=N,bk:=D.nx } σ2 H2):=by
 refine ⟨fun i m σ H=>m = xs.length - i/\i<=xs.length/\Pv i σ H,⟨xs.length,by simp,Nat.zero_le _,h0⟩,?_⟩
 rintro i m σ H ⟨rfl,hi,p⟩
 have q:=hl i σ H hi p
 by_cases hlt:i < xs.length
 ·refine .inr ⟨⟨xs,xs[i],q,by simp [hlt]⟩,Pv (i + 1),fun σ' H' p'=>⟨xs.length - (i + 1),by omega,rfl,hlt,p'⟩,fun x H' y=>?_⟩
  obtain ⟨e,y⟩:=y
  subst e
  exact hs i x σ _ (y xs q) p
 ·have e:i = xs.length:=by omega
  subst e
  exact .inl ⟨⟨xs,q,Nat.le_refl _⟩,hd σ H p⟩
theorem zcT {lo:Int}{n:Nat}{g:TG}{tb:TS}{D:Ends}{σ:St}{H:Hp} (Pv:Nat->St->Hp->Prop) (h0:Pv 0 σ H)
  (hs:∀ i σ H,i < n->Pv i σ H->g (.int (lo + i)) σ H fun σ2 H2=>tb { D with nx:=Pv (i + 1),ct:=Pv (i + 1),bk:=D.nx } σ2 H2) (hd:∀ σ H,Pv n σ H->D.nx σ H):
  ∃ W:Nat->Nat->St->Hp->Prop,(∃ m,W 0 m σ H)/\∀ i m σ H,W i m σ H->
   ((Itr lo n).stop i H/\D.nx σ H)\/((Itr lo n).go i H/\∃ N:St->Hp->Prop,(∀ σ' H',N σ' H'->∃ m',m' < m/\W (i + 1) m' σ' H')/\∀ x H',(Itr lo n).yld i H x H'->g x σ H' fun σ2 H2=>tb { D with nx:=N,ct:=N,bk:=D.nx } σ2 H2):=by
 refine ⟨fun i m σ H=>m = n - i/\i<=n/\Pv i σ H,⟨n,by simp,Nat.zero_le _,h0⟩,?_⟩
 rintro i m σ H ⟨rfl,hi,p⟩
 by_cases hlt:i < n
 ·refine .inr ⟨hlt,Pv (i + 1),fun σ' H' p'=>⟨n - (i + 1),by omega,rfl,hlt,p'⟩,fun x H' y=>?_⟩
  obtain ⟨e,y⟩:=y
  subst e y
  exact hs i σ _ hlt p
 ·have e:i = n:=by omega
  subst e
  exact .inl ⟨Nat.le_refl _,hd σ H p⟩
abbrev R2:=V->V->Hp->VK->Prop
def OpR (X:Cx) (f:Value->Value->Sem Value) (r:R2):Prop:=
 ∀ (zp:List (Addr × Obj)) (s:Shared) (σ:St) (H:Hp) (x y:V) (v u:Value) (Q:VK),Inv X zp σ H s->RelV x v->RelV y u->r x y H Q->
  wpAny (model X.prog X.w) X.A (f v u) (EP X zp σ Q) X.xe s
def UnR (X:Cx) (f:Value->Sem Value) (r:V->Hp->VK->Prop):Prop:=
 ∀ (zp:List (Addr × Obj)) (s:Shared) (σ:St) (H:Hp) (x:V) (v:Value) (Q:VK),Inv X zp σ H s->RelV x v->r x H Q->
  wpAny (model X.prog X.w) X.A (f v) (EP X zp σ Q) X.xe s
def zaL (X:Cx) (f:Value) (r:List V->Hp->VK->Prop):Prop:=
 ∀ (zp:List (Addr × Obj)) (s:Shared) (σ:St) (H:Hp) (xs:List V) (us:List Value) (Q:VK),Inv X zp σ H s->Vals xs us->r xs H Q->
  wpAny (model X.prog X.w) X.A (call f us) (EP X zp σ Q) X.xe s
def tOp (r:R2) (ta tb:TE):TE:=fun σ H Q=>ta σ H fun x H1=>tb σ H1 fun y H2=>r x y H2 Q
def tUn (r:V->Hp->VK->Prop) (ta:TE):TE:=fun σ H Q=>ta σ H fun x H1=>r x H1 Q
def rI (C:Int->Int->Prop) (g:Int->Int->V):R2:=fun x y H Q=>∃ i j,x = .int i/\y = .int j/\C i j/\Q (g i j) H
def rI0 (g:Int->Int->V):R2:=fun x y H Q=>∃ i j,x = .int i/\y = .int j/\Q (g i j) H
def rU (g:Int->V):V->Hp->VK->Prop:=fun x H Q=>∃ i,x = .int i/\Q (g i) H
section
variable {X:Cx}{a b c:Expr}{ta tb tc:TE}{pos:Pos}
theorem binT (ha:PE X a ta) (hb:PE X b tb) {zp:List (Addr × Obj)}{s:Shared}{σ:St}{H:Hp}{R:V->V->Hp->Prop} (I:Inv X zp σ H s)
  (h:ta σ H fun x H1=>tb σ H1 fun y H2=>R x y H2) {Q:Value->Shared->Prop}{f:Value->Value->Sem Value}
  (hf:∀ v u s2 x y H2,Inv X zp σ H2 s2->RelV x v->RelV y u->R x y H2->wpAny (model X.prog X.w) X.A (f v u) Q X.xe s2):
  wpAny (model X.prog X.w) X.A (eval a X.env) (fun v s₁=>wpAny (model X.prog X.w) X.A (eval b X.env) (fun u s₂=>wpAny (model X.prog X.w) X.A (f v u) Q X.xe s₂) X.xe s₁) X.xe s:=by
 refine thn (ha zp s σ H _ I h) fun v s1 ⟨x,H1,I1,r1,q1⟩=>?_
 refine thn (hb zp s1 σ H1 _ I1 q1) fun u s2 ⟨y,H2,I2,r2,q2⟩=>?_
 exact hf v u s2 x y H2 I2 r1 r2 q2
theorem zi {op:Operator}{r:R2} (ho:OpR X (binaryOp op) r) (ha:PE X a ta) (hb:PE X b tb):PE X (.BinOp a op b pos) (tOp r ta tb):=by
 intro zp s σ H Q I h
 exact wpAny_BinOp (binT ha hb I h fun v u s2 x y H2 I2 rx ry q=>ho zp s2 σ H2 x y v u Q I2 rx ry q)
theorem zhq {op:UnaryOp}{r:V->Hp->VK->Prop} (ho:UnR X (unaryOp op) r) (ha:PE X a ta):PE X (.UnaryOp op a pos) (tUn r ta):=by
 intro zp s σ H Q I h
 exact UnaryOp_ (thn (ha zp s σ H _ I h) fun v s1 ⟨x,H1,I1,r1,q1⟩=>ho zp s1 σ H1 x v Q I1 r1 q1)
theorem opI {f:Value->Value->Sem Value}{C:Int->Int->Prop}{g:Int->Int->Int}
  (rule:∀ (i j:Int) (t u:Tok) (s:Shared) (Q:Value->Shared->Prop) (E:Value->Shared->Prop),C i j->Q (.int (g i j) s.toks) { s with toks:=s.toks + 1 }->wpAny (model X.prog X.w) X.A (f (.int i t) (.int j u)) Q E s):
  OpR X f (rI C fun i j=>.int (g i j)):=by
 intro zp s σ H x y v u Q I rx ry h
 obtain ⟨i,j,rfl,rfl,hc,q⟩:=h
 obtain ⟨t,rfl⟩:=rx
 obtain ⟨t',rfl⟩:=ry
 exact rule i j t t' s _ _ hc ⟨.int (g i j),H,I.tok _,⟨_,rfl⟩,q⟩
theorem opI0 {f:Value->Value->Sem Value}{g:Int->Int->Int}
  (rule:∀ (i j:Int) (t u:Tok) (s:Shared) (Q:Value->Shared->Prop) (E:Value->Shared->Prop),Q (.int (g i j) s.toks) { s with toks:=s.toks + 1 }->wpAny (model X.prog X.w) X.A (f (.int i t) (.int j u)) Q E s):
  OpR X f (rI0 fun i j=>.int (g i j)):=by
 intro zp s σ H x y v u Q I rx ry h
 obtain ⟨i,j,rfl,rfl,q⟩:=h
 obtain ⟨t,rfl⟩:=rx
 obtain ⟨t',rfl⟩:=ry
 exact rule i j t t' s _ _ ⟨.int (g i j),H,I.tok _,⟨_,rfl⟩,q⟩
theorem opB0 {f:Value->Value->Sem Value}{g:Int->Int->Bool}
  (rule:∀ (i j:Int) (t u:Tok) (s:Shared) (Q:Value->Shared->Prop) (E:Value->Shared->Prop),Q (.bool (g i j)) s->wpAny (model X.prog X.w) X.A (f (.int i t) (.int j u)) Q E s):
  OpR X f (rI0 fun i j=>.bl (g i j)):=by
 intro zp s σ H x y v u Q I rx ry h
 obtain ⟨i,j,rfl,rfl,q⟩:=h
 obtain ⟨t,rfl⟩:=rx
 obtain ⟨t',rfl⟩:=ry
 exact rule i j t t' s _ _ ⟨.bl (g i j),H,I,rfl,q⟩
def CPow (i j:Int):Prop:=0<=j/\j<=1000000/\i.natAbs < 2 ^ 64
def CMul (i j:Int):Prop:=(-(2 ^ 64) < i/\i < 2 ^ 64)\/(-(2 ^ 64) < j/\j < 2 ^ 64)
theorem CMul.ok {i j:Int} (h:CMul i j):IntMulOk i j:=by
 rcases h with ⟨h1,h2⟩ | ⟨h1,h2⟩
 ·exact .of_left (intBits_le_64 h1 h2)
 ·exact .of_right (intBits_le_64 h1 h2)
theorem zU:OpR X (binaryOp .Add) (rI0 fun i j=>.int (i + j)):=opI0 fun _ _ _ _ _ _ _ q=>add_int q
theorem Zq:OpR X (binaryOp .Sub) (rI0 fun i j=>.int (i - j)):=opI0 fun _ _ _ _ _ _ _ q=>sub_int q
theorem zcU:OpR X (binaryOp .Mult) (rI CMul fun i j=>.int (i * j)):=opI fun _ _ _ _ _ _ _ hc q=>mul_int q hc.ok
theorem zba:OpR X (binaryOp .Mod) (rI (fun _ j=>0 < j) fun i j=>.int (i % j)):=opI fun i j _ _ _ _ _ hc q=>by
 have h1:(0:Int) < j:=hc
 exact mod_int' (by omega) (by rw [Int.fmod_eq_emod_of_nonneg i (by omega)]; exact q)
theorem zcV:OpR X (binaryOp .Pow) (rI CPow fun i j=>.int (i ^ j.toNat)):=opI fun _ _ _ _ _ _ _ hc q=>pow_int_small hc.1 hc.2.1 hc.2.2 q
theorem zcW:OpR X (inplaceOp .Add) (rI0 fun i j=>.int (i + j)):=opI0 fun _ _ _ _ _ _ _ q=>iadd_int q
theorem unI {f:Value->Sem Value}{g:Int->Int}
  (rule:∀ (i:Int) (t:Tok) (s:Shared) (Q:Value->Shared->Prop) (E:Value->Shared->Prop),Q (.int (g i) s.toks) { s with toks:=s.toks + 1 }->wpAny (model X.prog X.w) X.A (f (.int i t)) Q E s):
  UnR X f (rU fun i=>.int (g i)):=by
 intro zp s σ H x v Q I rx h
 obtain ⟨i,rfl,q⟩:=h
 obtain ⟨t,rfl⟩:=rx
 exact rule i t s _ _ ⟨.int (g i),H,I.tok _,⟨_,rfl⟩,q⟩
theorem zgp:UnR X (unaryOp .USub) (rU fun i=>.int (-i)):=unI fun _ _ _ _ _ q=>neg_int q
end
def scal:V->V->Bool
 | .non,.non=>true | .non,.int _=>true | .int _,.non=>true | .non,.bl _=>true | .bl _,.non=>true | .non,.str _=>true | .str _,.non=>true
 | .int _,.int _=>true | .bl _,.bl _=>true | .str _,.str _=>true | .byt _,.byt _=>true
 | .int _,.str _=>true | .str _,.int _=>true | .bl _,.str _=>true | .str _,.bl _=>true
 | _,_=>false
def rEq:R2:=fun x y H Q=>scal x y = true/\Q (.bl (decide (x = y))) H
def rNe:R2:=fun x y H Q=>scal x y = true/\Q (.bl (!decide (x = y))) H
theorem zid {i j:Int}:decide (V.int i = V.int j) = (i == j):=by
 rw [Bool.eq_iff_iff]
 simp
theorem zk2 {i j:Bool}:decide (V.bl i = V.bl j) = (i == j):=by
 rw [Bool.eq_iff_iff]
 simp
theorem zie {i j:Str}:decide (V.str i = V.str j) = (i == j):=by
 rw [Bool.eq_iff_iff]
 simp
theorem zif {i j:Array UInt8}:decide (V.byt i = V.byt j) = (i.toList == j.toList):=by
 rw [Bool.eq_iff_iff]
 cases i
 cases j
 simp
section
variable {X:Cx}{a b c:Expr}{ta tb tc:TE}{pos:Pos}
theorem zX {zp:List (Addr × Obj)}{σ:St}{H:Hp}{s:Shared}{Q:VK}{k k':Bool} (I:Inv X zp σ H s) (q:Q (.bl k) H) (e:k = k'):EP X zp σ Q (.bool k') s:=by
 subst e
 exact ⟨.bl k,H,I,rfl,q⟩
theorem zS:OpR X (compareOp .Eq) rEq:=by
 intro zp s σ H x y v u Q I rx ry h
 obtain ⟨hs,q⟩:=h
 cases x with
 | non=>
  cases rx
  cases y with
  | non=>cases ry; exact PySem.EqNone.eq_none_none (zX I q (by simp))
  | bl j=>cases ry; exact PySem.EqNone.eq_none_bool (zX I q (by simp))
  | int j=>obtain ⟨t',rfl⟩:=ry; exact PySem.EqNone.eq_none_int (zX I q (by simp))
  | str j=>obtain ⟨t',rfl⟩:=ry; exact PySem.EqNone.eq_none_str (zX I q (by simp))
  | _=>exact absurd (show false = true from hs) Bool.false_ne_true
 | bl i=>
  cases rx
  cases y with
  | non=>cases ry; exact PySem.EqNone.eq_bool_none (zX I q (by simp))
  | bl j=>cases ry; exact eq_bool (zX I q zk2)
  | str j=>obtain ⟨t',rfl⟩:=ry; exact PySem.EqMixed.eq_bool_str (zX I q (by simp))
  | _=>exact absurd (show false = true from hs) Bool.false_ne_true
 | int i=>
  obtain ⟨t,rfl⟩:=rx
  cases y with
  | non=>cases ry; exact PySem.EqNone.eq_int_none (zX I q (by simp))
  | int j=>obtain ⟨t',rfl⟩:=ry; exact eq_int (zX I q zid)
  | str j=>obtain ⟨t',rfl⟩:=ry; exact PySem.EqMixed.eq_int_str (zX I q (by simp))
  | _=>exact absurd (show false = true from hs) Bool.false_ne_true
 | str i=>
  obtain ⟨t,rfl⟩:=rx
  cases y with
  | non=>cases ry; exact PySem.EqNone.eq_str_none (zX I q (by simp))
  | bl j=>cases ry; exact PySem.EqMixed.eq_str_bool (zX I q (by simp))
  | int j=>obtain ⟨t',rfl⟩:=ry; exact PySem.EqMixed.eq_str_int (zX I q (by simp))
  | str j=>obtain ⟨t',rfl⟩:=ry; exact eq_str (zX I q zie)
  | _=>exact absurd (show false = true from hs) Bool.false_ne_true
 | byt i=>
  obtain ⟨t,rfl⟩:=rx
  cases y with
  | byt j=>obtain ⟨t',rfl⟩:=ry; exact PySem.W.eq_bytes (zX I q zif)
  | _=>exact absurd (show false = true from hs) Bool.false_ne_true
 | _=>cases y <;> exact absurd (show false = true from hs) Bool.false_ne_true
theorem zdz:OpR X (compareOp .NotEq) rNe:=by
 intro zp s σ H x y v u Q I rx ry h
 obtain ⟨hs,q⟩:=h
 cases x with
 | non=>
  cases rx
  cases y with
  | non=>cases ry; exact PySem.EqNone.ne_none_none (zX I q (by simp))
  | bl j=>cases ry; exact PySem.EqNone.ne_none_bool (zX I q (by simp))
  | int j=>obtain ⟨t',rfl⟩:=ry; exact PySem.EqNone.ne_none_int (zX I q (by simp))
  | str j=>obtain ⟨t',rfl⟩:=ry; exact PySem.EqNone.ne_none_str (zX I q (by simp))
  | _=>exact absurd (show false = true from hs) Bool.false_ne_true
 | bl i=>
  cases rx
  cases y with
  | non=>cases ry; exact PySem.EqNone.ne_bool_none (zX I q (by simp))
  | bl j=>cases ry; exact ne_bool (zX I q (congrArg not zk2))
  | str j=>obtain ⟨t',rfl⟩:=ry; exact PySem.EqMixed.ne_bool_str (zX I q (by simp))
  | _=>exact absurd (show false = true from hs) Bool.false_ne_true
 | int i=>
  obtain ⟨t,rfl⟩:=rx
  cases y with
  | non=>cases ry; exact PySem.EqNone.ne_int_none (zX I q (by simp))
  | int j=>obtain ⟨t',rfl⟩:=ry; exact ne_int (zX I q (congrArg not zid))
  | str j=>obtain ⟨t',rfl⟩:=ry; exact PySem.EqMixed.ne_int_str (zX I q (by simp))
  | _=>exact absurd (show false = true from hs) Bool.false_ne_true
 | str i=>
  obtain ⟨t,rfl⟩:=rx
  cases y with
  | non=>cases ry; exact PySem.EqNone.ne_str_none (zX I q (by simp))
  | bl j=>cases ry; exact PySem.EqMixed.ne_str_bool (zX I q (by simp))
  | int j=>obtain ⟨t',rfl⟩:=ry; exact PySem.EqMixed.ne_str_int (zX I q (by simp))
  | str j=>obtain ⟨t',rfl⟩:=ry; exact ne_str (zX I q (congrArg not zie))
  | _=>exact absurd (show false = true from hs) Bool.false_ne_true
 | byt i=>
  obtain ⟨t,rfl⟩:=rx
  cases y with
  | byt j=>obtain ⟨t',rfl⟩:=ry; exact PySem.W.ne_bytes (zX I q (congrArg not zif))
  | _=>exact absurd (show false = true from hs) Bool.false_ne_true
 | _=>cases y <;> exact absurd (show false = true from hs) Bool.false_ne_true
theorem zeN:OpR X (compareOp .Lt) (rI0 fun i j=>.bl (decide (i < j))):=opB0 fun _ _ _ _ _ _ _ q=>lt_int q
theorem zhr:OpR X (compareOp .LtE) (rI0 fun i j=>.bl (decide (i<=j))):=opB0 fun _ _ _ _ _ _ _ q=>le_int q
theorem zcy:OpR X (compareOp .Gt) (rI0 fun i j=>.bl (decide (j < i))):=opB0 fun _ _ _ _ _ _ _ q=>gt_int q
theorem znu:OpR X (compareOp .GtE) (rI0 fun i j=>.bl (decide (j<=i))):=opB0 fun _ _ _ _ _ _ _ q=>ge_int q
theorem zbb:OpR X (compareOp .In) (fun x y H Q=>∃ i j,x = .str i/\y = .str j/\Q (.bl (!(Builtin.Str.occurrences j i 0 j.length 1).isEmpty)) H):=by
 intro zp s σ H x y v u Q I rx ry h
 obtain ⟨i,j,rfl,rfl,q⟩:=h
 obtain ⟨t,rfl⟩:=rx
 obtain ⟨t',rfl⟩:=ry
 exact in_str (zX I q rfl)
theorem zeO:OpR X (compareOp .NotIn) (fun x y H Q=>∃ i j,x = .str i/\y = .str j/\Q (.bl (!(!(Builtin.Str.occurrences j i 0 j.length 1).isEmpty))) H):=by
 intro zp s σ H x y v u Q I rx ry h
 obtain ⟨i,j,rfl,rfl,q⟩:=h
 obtain ⟨t,rfl⟩:=rx
 obtain ⟨t',rfl⟩:=ry
 exact notIn_str (zX I q rfl)
theorem OpR.or {f:Value->Value->Sem Value}{r r':R2} (h:OpR X f r) (h':OpR X f r'):OpR X f (fun x y H Q=>r x y H Q\/r' x y H Q):=by
 intro zp s σ H x y v u Q I rx ry q
 rcases q with q | q
 ·exact h zp s σ H x y v u Q I rx ry q
 ·exact h' zp s σ H x y v u Q I rx ry q
theorem nomark (b:Expr) {op:CmpOp} (h:op≠.In:=by decide) (h2:op≠.NotIn:=by decide):behindInMarks op b = false:=by
 have e1:(op == CmpOp.In) = false:=by cases op <;> first | rfl | exact absurd rfl h
 have e2:(op == CmpOp.NotIn) = false:=by cases op <;> first | rfl | exact absurd rfl h2
 cases b <;> simp [behindInMarks,e1,e2]
theorem zK {op:CmpOp}{r:R2} (ho:OpR X (compareOp op) r) (ha:PE X a ta) (hb:PE X b tb) (hm:behindInMarks op b = false):PE X (.Compare a [op] [b] pos) (tOp r ta tb):=by
 intro zp s σ H Q I h
 exact wpAny_Compare1 (binT ha hb I h fun v u s2 x y H2 I2 rx ry q=>ho zp s2 σ H2 x y v u Q I2 rx ry q) hm
def zjX (t:TE):TT:=fun σ H Q=>t σ H fun x H'=>∃ k,x = .bl k/\Q k H'
theorem zj {op:CmpOp}{r:R2} (ho:OpR X (compareOp op) r) (ha:PE X a ta) (hb:PE X b tb) (hm:behindInMarks op b = false):PT X (.Compare a [op] [b] pos) (zjX (tOp r ta tb)):=by
 intro zp s σ H Q I h
 refine wpAny_isTrue_Compare1 (thn (ha zp s σ H _ I h) fun v s1 ⟨x,H1,I1,r1,q1⟩=>thn (hb zp s1 σ H1 _ I1 q1) fun u s2 ⟨y,H2,I2,r2,q2⟩=>
  thn (ho zp s2 σ H2 x y v u _ I2 r1 r2 q2) fun c s3 ⟨z,H3,I3,r3,k,e,q3⟩=>?_) hm
 subst e
 cases r3
 exact wpAny_truthy_bool ⟨H3,I3,q3⟩
def zig (r r':R2) (ta tb tc:TE):TE:=fun σ H Q=>ta σ H fun x H1=>tb σ H1 fun y H2=>r x y H2 fun z H3=>∃ k,z = .bl k /\
 (if k = true then tc σ H3 fun w' H4=>r' y w' H4 Q else Q (.bl false) H3)
theorem zjY {op op':CmpOp}{r r':R2} (ho:OpR X (compareOp op) r) (ho':OpR X (compareOp op') r') (ha:PE X a ta) (hb:PE X b tb) (hc:PE X c tc)
  (hm:lastMarks [op,op'] [b,c] = false:=by with_unfolding_all rfl):PE X (.Compare a [op,op'] [b,c] pos) (zig r r' ta tb tc):=by
 intro zp s σ H Q I h
 refine Compare_chain (thn (ha zp s σ H _ I h) fun v s1 ⟨x,H1,I1,r1,q1⟩=>chain_link (thn (hb zp s1 σ H1 _ I1 q1) fun u s2 ⟨y,H2,I2,r2,q2⟩=>
  thn (ho zp s2 σ H2 x y v u _ I2 r1 r2 q2) fun d s3 ⟨z,H3,I3,r3,k,e,q3⟩=>?_)) hm
 subst e
 cases r3
 refine wpAny_truthy_bool ?_
 cases k with
 | false=>exact ite_ff ⟨.bl false,H3,I3,rfl,q3⟩
 | true=>exact ite_tt (chain_last (thn (hc zp s3 σ H3 _ I3 q3) fun w' s4 ⟨z',H4,I4,r4,q4⟩=>ho' zp s4 σ H4 y z' u w' Q I4 r2 r4 q4))
theorem zcJ {op op':CmpOp}{r r':R2} (ho:OpR X (compareOp op) r) (ho':OpR X (compareOp op') r') (ha:PE X a ta) (hb:PE X b tb) (hc:PE X c tc)
  (hm:lastMarks [op,op'] [b,c] = false:=by with_unfolding_all rfl):PT X (.Compare a [op,op'] [b,c] pos) (zjX (zig r r' ta tb tc)):=by
 intro zp s σ H Q I h
 refine isTrue_chain (thn (ha zp s σ H _ I h) fun v s1 ⟨x,H1,I1,r1,q1⟩=>test_link (thn (hb zp s1 σ H1 _ I1 q1) fun u s2 ⟨y,H2,I2,r2,q2⟩=>
  thn (ho zp s2 σ H2 x y v u _ I2 r1 r2 q2) fun d s3 ⟨z,H3,I3,r3,k,e,q3⟩=>?_)) hm
 subst e
 cases r3
 refine wpAny_truthy_bool ?_
 cases k with
 | false=>
  obtain ⟨k',e',q'⟩:=q3
  cases e'
  exact ite_ff ⟨H3,I3,q'⟩
 | true=>
  refine ite_tt (test_last (thn (hc zp s3 σ H3 _ I3 q3) fun w' s4 ⟨z',H4,I4,r4,q4⟩=>thn (ho' zp s4 σ H4 y z' u w' _ I4 r2 r4 q4) fun d' s5 ⟨z2,H5,I5,r5,k2,e2,q5⟩=>?_))
  subst e2
  cases r5
  exact wpAny_truthy_bool ⟨H5,I5,q5⟩
theorem zeP:(sizeLine:Nat) < 2 ^ 63:=by rw [sizeLine_eq]; decide
theorem zh:OpR X (binaryOp .Add) (fun x y H Q=>∃ i j,x = .str i/\y = .str j/\i.length + j.length<=sizeLine/\Q (.str (i ++ j)) H):=by
 intro zp s σ H x y v u Q I rx ry h
 obtain ⟨i,j,rfl,rfl,hz,q⟩:=h
 obtain ⟨t,rfl⟩:=rx
 obtain ⟨t',rfl⟩:=ry
 exact add_str (fun t' tk=>⟨.str (i ++ j),H,I.tok _,⟨_,rfl⟩,q⟩) hz
theorem zbN {x:V}{us:List Value} (r:Vals [x] us):∃ u,us = [u]/\RelV x u:=by
 cases r with
 | cons r1 r2=>cases r2; exact ⟨_,rfl,r1⟩
theorem zih {x y:V}{us:List Value} (r:Vals [x,y] us):∃ u w',us = [u,w']/\RelV x u/\RelV y w':=by
 cases r with
 | cons r1 r2=>
  cases r2 with
  | cons r3 r4=>cases r4; exact ⟨_,_,rfl,r1,r3⟩
theorem zjZ:zaL X (.builtin "abs") (fun xs H Q=>∃ i,xs = [.int i]/\Q (.int (if i < 0 then -i else i)) H):=by
 intro zp s σ H xs us Q I r h
 obtain ⟨i,rfl,q⟩:=h
 obtain ⟨u,rfl,t,rfl⟩:=zbN r
 exact call_abs_int fun u tk=>⟨.int (if i < 0 then -i else i),H,I.tok _,⟨_,rfl⟩,q⟩
theorem zii (hc:X.calm = true):zaL X (.builtin "max") (fun xs H Q=>∃ i j,xs = [.int i,.int j]/\Q (.int (if j > i then j else i)) H):=by
 intro zp s σ H xs us Q I r h
 obtain ⟨i,j,rfl,q⟩:=h
 obtain ⟨u,w',rfl,⟨t,rfl⟩,⟨t',rfl⟩⟩:=zih r
 refine max_two_ints (I.ok.hd hc) fun h' tk k=>⟨_,H,I.kept k,?_,q⟩
 by_cases hj:j > i
 ·rw [if_pos hj,if_pos hj]; exact ⟨_,rfl⟩
 ·rw [if_neg hj,if_neg hj]; exact ⟨_,rfl⟩
theorem zeQ (hc:X.calm = true):zaL X (.builtin "min") (fun xs H Q=>∃ i j,xs = [.int i,.int j]/\Q (.int (if j < i then j else i)) H):=by
 intro zp s σ H xs us Q I r h
 obtain ⟨i,j,rfl,q⟩:=h
 obtain ⟨u,w',rfl,⟨t,rfl⟩,⟨t',rfl⟩⟩:=zih r
 refine min_two_ints (I.ok.hd hc) fun h' tk k=>⟨_,H,I.kept k,?_,q⟩
 by_cases hj:j < i
 ·rw [if_pos hj,if_pos hj]; exact ⟨_,rfl⟩
 ·rw [if_neg hj,if_neg hj]; exact ⟨_,rfl⟩
theorem zaD:zaL X (.type "int") (fun xs H Q=>(∃ i,xs = [.int i]/\Q (.int i) H)\/∃ k,xs = [.bl k]/\Q (.int (if k then 1 else 0)) H):=by
 intro zp s σ H xs us Q I r h
 rcases h with ⟨i,rfl,q⟩ | ⟨k,rfl,q⟩
 ·obtain ⟨u,rfl,t,rfl⟩:=zbN r
  exact call_int_int ⟨.int i,H,I,⟨_,rfl⟩,q⟩
 ·obtain ⟨u,rfl,r1⟩:=zbN r
  cases r1
  exact call_int_bool ⟨.int (if k then 1 else 0),H,I.tok _,⟨_,rfl⟩,q⟩
theorem zeR:zaL X (.type "str") (fun xs H Q=>∃ i,xs = [.int i]/\i.natAbs.log2 < 1920/\Q (.str (toString i)) H):=by
 intro zp s σ H xs us Q I r h
 obtain ⟨i,rfl,hz,q⟩:=h
 obtain ⟨u,rfl,t,rfl⟩:=zbN r
 exact PySem.P.str_of_int hz ⟨.str _,H,I.tok _,⟨_,rfl⟩,q⟩
theorem zj0:zaL X (.builtin "ord") (fun xs H Q=>∃ x,xs = [.str x]/\x.length = 1/\Q (.int (x.cps.getD 0 0:Nat)) H):=by
 intro zp s σ H xs us Q I r h
 obtain ⟨x,rfl,hz,q⟩:=h
 obtain ⟨u,rfl,t,rfl⟩:=zbN r
 exact ord_of_one hz ⟨.int _,H,I.tok _,⟨_,rfl⟩,q⟩
def LenV (K:PySem.W.Frag) (x:V) (H:Hp) (n:Nat):Prop:=
 match x with
 | .str y=>y.length<=sizeLine/\n = y.length
 | .byt y=>y.size<=sizeLine/\n = y.size
 | .ref p=>(∃ xs,SqL K H p xs/\n = xs.length)\/∃ xs,SqT K H p xs/\n = xs.length
 | _=>False
theorem zz:zaL X (.builtin "len") (fun xs H Q=>∃ x n,xs = [x]/\LenV X.K x H n/\Q (.int n) H):=by
 intro zp s σ H xs us Q I r h
 obtain ⟨x,n,rfl,e,q⟩:=h
 obtain ⟨u,rfl,rx⟩:=zbN r
 have hl:=zeP
 have hs:sizeLine = 16777216:=sizeLine_eq
 cases x with
 | str y=>
  obtain ⟨t,rfl⟩:=rx
  obtain ⟨hy,e'⟩:y.length<=sizeLine/\n = y.length:=e
  subst e'
  exact len_str (by omega) ⟨.int _,H,I.tok _,⟨_,rfl⟩,q⟩
 | byt y=>
  obtain ⟨t,rfl⟩:=rx
  obtain ⟨hy,e'⟩:y.size<=sizeLine/\n = y.size:=e
  subst e'
  exact PySem.W.len_bytes (by omega) ⟨.int _,H,I.tok _,⟨_,rfl⟩,q⟩
 | ref p=>
  cases rx
  have e':(∃ xs,SqL X.K H p xs/\n = xs.length)\/∃ xs,SqT X.K H p xs/\n = xs.length:=e
  rcases e' with ⟨xs,hx,e'⟩ | ⟨xs,hx,e'⟩
  ·subst e'
   obtain ⟨its,r',pl,hz⟩:=I.list hx
   have hlen:=r'.length
   exact Calls.call_len_list pl.isList (by simp only [List.size_toArray]; omega) ⟨.int xs.length,H,I.tok _,⟨_,by simp only [List.size_toArray]; rw [hlen]⟩,q⟩
  ·subst e'
   obtain ⟨its,r',pl,hz⟩:=I.tuple hx
   have hlen:=r'.length
   exact len_tuple pl (by simp only [List.size_toArray]; omega) ⟨.int xs.length,H,I.tok _,⟨_,by simp only [List.size_toArray]; rw [hlen]⟩,q⟩
 | _=>exact (show False from e).elim
end
structure ObjM (h:Heap) (x dx C:Addr) (mA:Str->Option Value):Prop where
 obj:h.get? x = some (instObj C dx)
 ns:h.Ns1 dx mA
 ne:dx≠x
theorem zij {h:Heap}{dx:Addr}{mA:Str->Option Value} (n:h.Ns1 dx mA):∃ od,h.get? dx = some od/\∀ name,lookIn name od = some (mA name):=by
 obtain ⟨o,es,ep,ho,hd,hk,_,hm⟩:=n
 refine ⟨o,ho,fun name=>?_⟩
 have e:=hm name
 unfold nsFind findBy at e
 rw [← Array.find?_toList] at e
 unfold lookIn
 rw [hd]
 dsimp only
 split
 ·rename_i y q
  rw [q] at e
  exact congrArg some e
 ·rename_i q
  rw [q] at e
  have a:es.toList.any (·.refKey) = false:=by
   rw [List.any_eq_false]
   intro y hy
   obtain ⟨z,t,hkey⟩:=hk y (Array.mem_toList_iff.mp hy)
   simp [DictEntry.refKey,hkey]
  have a':¬ es.toList.any (·.refKey) = true:=by rw [a]; exact Bool.false_ne_true
  rw [if_neg a']
  exact congrArg some e
theorem ObjM.look {h:Heap}{x dx C:Addr}{mA:Str->Option Value} (I:ObjM h x dx C mA):∃ od,InstAt h x (instObj C dx) C (some od)/\∀ name,lookIn name od = some (mA name):=
 let ⟨od,ho,hl⟩:=zij I.ns
 ⟨od,⟨I.obj,rfl,rfl,ho⟩,hl⟩
section
variable {prog:Program}{w:World}{A:Around}{E:Value->Shared->Prop}{s:Shared}{K:PySem.W.Frag}{x dx C f:Addr}{mA:Str->Option Value}{name:Str}{v:Value}
end
theorem RelO.some_of {v:V}{o:Option Value} (r:RelO (some v) o):∃ u,o = some u/\RelV v u:=by
 cases o with
 | none=>exact (show False from r).elim
 | some u=>exact ⟨u,rfl,r⟩
section
variable {P:Program}{w:World}{H H':Hp}{h h':Heap}{a C dx:Addr}{fs fs':List (Str × V)}
theorem zlv (hok:HOk P w H h) (e:H a = some (.ins C dx fs)):∃ mA,ObjM h a dx C mA/\(∀ f,RelO (fs.lookup f) (mA f))/\PySem.Within mA (fs.map (·.1))/\fs.length<=1000/\H dx = some (.own a):=by
 obtain ⟨d,z,ne,ob,mA,n,r,q⟩:=(show ZO P w H h a (.ins C dx fs) from hok a _ e)
 exact ⟨mA,⟨ob,n,ne⟩,r,q,z,d⟩
end
structure Cls (K:PySem.W.Frag) (C:Addr):Prop where
 pg:PySem.W.plainGet K C Str.empty = true
 hd:PySem.W.hasDictIn K C = true
 po:PySem.W.plainOver K C = true
 sa:findIn K (.ref C) "__setattr__" = some (some (.builtin "object.__setattr__"))
theorem Cls.get {K:PySem.W.Frag}{C:Addr} (c:Cls K C) (f:Str):PySem.W.plainGet K C f = true:=c.pg
section
variable {X:Cx}{zp:List (Addr × Obj)}{σ:St}{H:Hp}{s:Shared}{a C dx:Addr}{fs:List (Str × V)}{f:Str}{v:V}{A:Around}{E:Value->Shared->Prop}
end
section
variable {X:Cx}{o e value:Expr}{f:Str}{pos pos' tpos:Pos}{ta tv:TE}
end
section
variable {X:Cx}{zp:List (Addr × Obj)}{σ:St}{H:Hp}{s:Shared}{A:Around}{E:Value->Shared->Prop}{Q:Value->Shared->Prop}{c:Value}{b:Bool}
inductive TyOf (K:PySem.W.Frag) (H:Hp):V->Value->Prop where
 | non:TyOf K H .non (.type "NoneType")
 | bl (x:Bool):TyOf K H (.bl x) (.type "bool")
 | int (i:Int):TyOf K H (.int i) (.type "int")
 | str (x:Str):TyOf K H (.str x) (.type "str")
 | flt (x:UInt64):TyOf K H (.flt x) (.type "float")
 | lst {a:Addr}{xs:List V} (e:H a = some (.lst xs)):TyOf K H (.ref a) (.type "list")
 | frz {a:Addr}{o:Obj}{xs:List V} (e:H a = some (.frz o (.lst xs))):TyOf K H (.ref a) (.type "list")
 | tup {a:Addr}{xs:List V} (e:H a = some (.tup xs)):TyOf K H (.ref a) (.type "tuple")
 | dK {a:Addr}{kvs:List (Key × V)} (e:H a = some (.dK kvs)):TyOf K H (.ref a) (.type "dict")
 | dT {a:Addr}{kvs:List (List Key × V)} (e:H a = some (.dT kvs)):TyOf K H (.ref a) (.type "dict")
 | ins {a C dx:Addr}{fs:List (Str × V)} (e:H a = some (.ins C dx fs)) (cl:Cls K C) (ha:findIn K (.ref C) "__class__" = some (some (.builtin "object.__class__")))
   (hn:specialIn K (.builtin "object.__class__") "__get__" = some (some (.builtin "getset_descriptor.__get__"))) (htk:takesIn K (.builtin "object.__class__") = some true)
   (hm:mroIn K C (.type "object") = some true):TyOf K H (.ref a) (.ref C)
theorem zik {x:V}{u t:Value} (I:Inv X zp σ H s) (rx:RelV x u) (ty:TyOf X.K H x t) (e:kitOne X.K t c = some b) (h:∀ tk,Q (.bool b) { s with toks:=tk }):
  wpAny (model X.prog X.w) A (call (.builtin "isinstance") [u,c]) Q E s:=by
 cases ty with
 | non=>cases (show u = Value.none from rx); exact kia_one PySem.W.kitx_none I.kIn True.intro e (fun z=>nomatch z) h
 | bl y=>cases (show u = Value.bool y from rx); exact kia_one PySem.W.kitx_bool I.kIn True.intro e (fun z=>nomatch z) h
 | int i=>obtain ⟨t,q⟩:=(show ∃ t,u = Value.int i t from rx); cases q; exact kia_one PySem.W.kitx_int I.kIn True.intro e (fun z=>nomatch z) h
 | str y=>obtain ⟨t,q⟩:=(show ∃ t,u = Value.str y t from rx); cases q; exact kia_one PySem.W.kitx_str I.kIn True.intro e (fun z=>nomatch z) h
 | flt y=>obtain ⟨t,q⟩:=(show ∃ t,u = Value.float y t from rx); cases q; exact kia_one PySem.W.kitx_float I.kIn True.intro e (fun z=>nomatch z) h
 | @lst a xs ea=>
  cases (show u = Value.ref a from rx)
  obtain ⟨_,_,n,_,h1⟩:=(show ZO X.prog X.w H s.heap a (.lst xs) from I.hok a _ ea)
  exact kia_one PySem.W.kitx_list I.kIn ⟨_,h1,rfl⟩ e (fun z=>nomatch z) h
 | @frz a ob xs ea=>
  cases (show u = Value.ref a from rx)
  obtain ⟨_,_,_,n,_,h1⟩:=(show ZO X.prog X.w H s.heap a (.frz ob (.lst xs)) from I.hok a _ ea)
  exact kia_one PySem.W.kitx_list I.kIn ⟨_,h1,rfl⟩ e (fun z=>nomatch z) h
 | @tup a xs ea=>
  cases (show u = Value.ref a from rx)
  obtain ⟨_,_,_,p⟩:=(show ZO X.prog X.w H s.heap a (.tup xs) from I.hok a _ ea)
  obtain ⟨o,h1,h2,_⟩:=p
  exact kia_one PySem.W.kitx_tuple I.kIn ⟨o,h1,h2⟩ e (fun z=>nomatch z) h
 | @dK a kvs ea=>
  cases (show u = Value.ref a from rx)
  obtain ⟨_,_,vs,_,p⟩:=(show ZO X.prog X.w H s.heap a (.dK kvs) from I.hok a _ ea)
  obtain ⟨o,es,ep,h1,h2,_⟩:=p
  exact kia_one PySem.W.kitx_dict I.kIn ⟨o,h1,h2.1⟩ e (fun z=>nomatch z) h
 | @dT a kvs ea=>
  cases (show u = Value.ref a from rx)
  obtain ⟨_,_,xs,_,o,es,ep,h1,h2,_⟩:=(show ZO X.prog X.w H s.heap a (.dT kvs) from I.hok a _ ea)
  exact kia_one PySem.W.kitx_dict I.kIn ⟨o,h1,h2.1⟩ e (fun z=>nomatch z) h
 | @ins a C dx fs ea cl ha hn htk hm=>
  cases (show u = Value.ref a from rx)
  obtain ⟨mA,O,_⟩:=zlv I.hok ea
  obtain ⟨od,J,_⟩:=O.look
  exact kia_one (PySem.W.kitx_own (cl.get _) cl.hd ha hn htk hm) I.kIn J e (fun z=>nomatch z) h
end
structure Room (k:Nat) (A:Around):Prop where
 hd:A.handled = none
 dp:A.depth + 3 * k + 5 < recursionLimit
 un:A.units + 16 * k + 200 < cLine
theorem Room.mono {j k:Nat}{A:Around} (r:Room k A) (h:j<=k):Room j A:=⟨r.hd,by have:=r.dp; omega,by have:=r.un; omega⟩
theorem Room.deeper {k:Nat}{A:Around} (r:Room (k + 1) A) (env:Env):Room k (A.deeper env):=
 ⟨r.hd,by have:=r.dp; show A.depth + 1 + 3 * k + 5 < _; omega,by have:=r.un; show A.units + 3 + 16 * k + 200 < _; omega⟩
theorem Room.depth {k:Nat}{A:Around} (r:Room k A):A.depth < recursionLimit:=by have:=r.dp; omega
theorem Room.units {k:Nat}{A:Around} (r:Room k A):A.units + 64 < cLine:=by have:=r.un; omega
def tNil:TA:=fun _ H Q=>Q [] H
def zan (ta:TE) (tr:TA):TA:=fun σ H Q=>ta σ H fun x H1=>tr σ H1 fun xs H2=>Q (x :: xs) H2
section
variable {X:Cx}{e:Expr}{es:List Expr}{te:TE}{t:TA}{pos:Pos}
theorem zc:PA X [] tNil:=fun _ _ _ _ H Q I h=>Calls.spliced_nil ⟨[],H,I,.nil,h⟩
theorem za (ha:PE X e te) (hr:PA X es t) (hs:starEach (e :: es) X.env = (false,eval e X.env) :: starEach es X.env:=by rfl):PA X (e :: es) (zan te t):=by
 intro pos zp s σ H Q I h
 rw [hs]
 show wpAny _ _ (spliced ((false,eval e X.env) :: backTo pos (starEach es X.env))) _ _ s
 refine Calls.spliced_cons (thn (ha zp s σ H _ I h) fun u s1 ⟨x,H1,I1,r1,q1⟩=>?_)
 exact thn (hr pos zp s1 σ H1 _ I1 q1) fun us s2 ⟨xs,H2,I2,r2,q2⟩=>⟨x :: xs,H2,I2,.cons r1 r2,q2⟩
def tTup (t:TA):TE:=fun σ H Q=>t σ H fun xs H1=>xs.length<=sizeLine/\∀ p,H1 p = none->Q (.ref p) (upd H1 p (.tup xs))
def tLst (t:TA):TE:=fun σ H Q=>t σ H fun xs H1=>xs.length<=sizeLine/\∀ p,H1 p = none->Q (.ref p) (upd H1 p (.lst xs))
theorem zP {x1} (h:PA X es t):PE X (.Tuple es x1 pos) (tTup t):=by
 intro zp s σ H Q I hq
 refine wpAny_Tuple_spliced (thn (h pos zp s σ H _ I hq) fun us s1 ⟨xs,H1,I1,r,z,q⟩=>⟨by rw [← r.length]; exact z,?_⟩)
 have hf:H1 s1.heap.objs.size = none:=I1.hok.fresh (Nat.le_refl _)
 refine ⟨.ref s1.heap.objs.size,upd H1 s1.heap.objs.size (.tup xs),I1.laid (t':=s1.toks) (fun b u e=>Heap.get?_push_of_some _ e) (Nat.le_refl _) ?_,rfl,q _ hf⟩
 exact ⟨z,us,r,⟨_,Heap.get?_push_size _ rfl,rfl,_,rfl⟩⟩
theorem zx (h:PA X es t):PE X (.List es pos) (tLst t):=by
 intro zp s σ H Q I hq
 refine wpAny_List_spliced (thn (h pos zp s σ H _ I hq) fun us s1 ⟨xs,H1,I1,r,z,q⟩=>⟨by rw [← r.length]; exact z,?_⟩)
 have hf:H1 s1.heap.objs.size = none:=I1.hok.fresh (Nat.le_refl _)
 refine ⟨.ref s1.heap.objs.size,upd H1 s1.heap.objs.size (.lst xs),I1.laid (t':=s1.toks) (fun b u e=>Heap.get?_push_of_some _ e) (Nat.le_refl _) ?_,rfl,q _ hf⟩
 exact ⟨z,us,0,r,Heap.get?_push_size _ rfl⟩
end
abbrev Sp:=List V->Hp->VK->XK->Prop
abbrev CXT:=List Env->Hp->Shared->XK->Value->Shared->Prop
structure Env0 (P:Program) (w:World) (K:PySem.W.Frag) (mg:Str->Option Value) (base:Heap) (A:Around) (outer:List Env) (s:Shared) (H:Hp):Prop where
 frames:A.frames = some outer
 mod:Mod K mg base
 bs:∀ b o,base.get? b = some o->s.heap.get? b = some o/\H b = none
 bsz:base.objs.size<=s.heap.objs.size
 funs:s.heap.FunFrames base outer
 frf:∀ b∈frs outer,H b = none
 hok:HOk P w H s.heap
 bare:AllBare s.gens
def CE (outer:List Env) (P:Program) (w:World) (H:Hp) (s:Shared) (Q:VK) (u:Value) (s':Shared):Prop:=
 ∃ v H',s'.os = s.os/\AllBare s'.gens/\Un (frs outer) [] H H' s.heap s'.heap/\HOk P w H' s'.heap/\RelV v u/\Q v H'
def CR (CX:CXT) (outer:List Env) (P:Program) (w:World) (H:Hp) (s:Shared) (Q:VK) (E:XK) (r:Result) (s':Shared):Prop:=
 match r with
 | .ok (.ret u)=>CE outer P w H s Q u s'
 | .ok _=>False
 | .error e=>CX outer H s E e s'
structure FnOk (P:Program) (w:World) (K:PySem.W.Frag) (mg:Str->Option Value) (base:Heap) (CX:CXT) (k:Nat) (f:Addr) (fd:FuncData) (ps:List Str) (sp:Sp):Prop where
 len:∀ vs H Q E,sp vs H Q E->vs.length = ps.length
 run:∀ (A:Around) (outer:List Env) (s:Shared) (H:Hp) (args:Args) (us:List Value) (vs:List V) (Q:VK) (E:XK),Room k A->Env0 P w K mg base A outer s H->BindsTo s fd args (ps.zip us)->Vals vs us->sp vs H Q E->
  codeAny (model P w) A (.call (.ref f) args) (CR CX outer P w H s Q E) s
theorem FnOk.mono {P:Program}{w:World}{K:PySem.W.Frag}{mg:Str->Option Value}{base:Heap}{CX:CXT}{j k:Nat}{f:Addr}{fd:FuncData}{ps:List Str}{sp:Sp} (F:FnOk P w K mg base CX j f fd ps sp) (h:j<=k):
  FnOk P w K mg base CX k f fd ps sp:=⟨F.len,fun A outer s H args us vs Q E hr=>F.run A outer s H args us vs Q E (hr.mono h)⟩
section
variable {X:Cx}{zp:List (Addr × Obj)}{σ:St}{H:Hp}{s s':Shared}
theorem Inv.env0 (I:Inv X zp σ H s):Env0 X.prog X.w X.K X.mg X.base X.A X.stack s H:=
 ⟨I.ok.frames,I.ok.mod,I.bs,Nat.le_trans I.ok.bsz I.sz,I.stack,I.stkFree,I.hok,I.bare⟩
theorem Inv.after {Q:VK}{u:Value} (I:Inv X zp σ H s) (h:CE X.stack X.prog X.w H s Q u s'):EP X zp σ Q u s':=by
 obtain ⟨v,H',os,bare,un,hok,r,q⟩:=h
 obtain ⟨hh,g,d,t,os'⟩:=s'
 obtain rfl:os' = s.os:=os
 exact ⟨v,H',I.call (h':=hh) (g':=g) (d':=d) (t':=t) (ch:=[]) un hok bare (fun b z=>absurd z (by simp)),r,q⟩
end
def zcX (sp:Sp) (dvs:List V) (E:XK) (t:TA):TE:=fun σ H Q=>t σ H fun vs H1=>sp (vs ++ dvs) H1 Q E
def Binds (K:PySem.W.Frag) (fd:FuncData) (ps:List Str) (ds:List Value):Prop:=
 ∀ (s:Shared) (us:List Value),K.In s.heap->(us ++ ds).length = ps.length->BindsTo s fd ⟨us,[]⟩ (ps.zip (us ++ ds))
theorem Binds.all {K:PySem.W.Frag}{fd:FuncData}{ps:List Str} (h:∀ us:List Value,us.length = ps.length->bindArgs fd ⟨us,[]⟩ = pure (ps.zip us)):Binds K fd ps []:=fun s us _ hl=>by
 rw [List.append_nil] at hl ⊢
 exact .of_eq (h us hl)
def Passes (CX:CXT) (X:Cx) (E:XK):Prop:=∀ (zp:List (Addr × Obj)) (σ:St) (H:Hp) (s:Shared) (e:Value) (s':Shared),Inv X zp σ H s->CX X.stack H s E e s'->X.xe e s'
section
variable {X:Cx}{CX:CXT}{k:Nat}{f C:Addr}{fd:FuncData}{ps:List Str}{sp:Sp}{dvs:List V}{ds:List Value}{E:XK}{x m:Str}{p pos apos:Pos}{e o:Expr}{es:List Expr}{ta:TE}{t:TA}
theorem zk3 {zp:List (Addr × Obj)}{σ:St}{H:Hp}{s:Shared}{Q:VK}{us:List Value}{vs:List V} (F:FnOk X.prog X.w X.K X.mg X.base CX k f fd ps sp) (hr:Room k X.A) (hb:Binds X.K fd ps ds) (hd:Vals dvs ds) (hx:Passes CX X E)
  (I:Inv X zp σ H s) (r:Vals vs us) (h:sp (vs ++ dvs) H Q E):wpAny (model X.prog X.w) X.A (call (.ref f) us) (EP X zp σ Q) X.xe s:=by
 have r2:Vals (vs ++ dvs) (us ++ ds):=r.append hd
 have hl:(us ++ ds).length = ps.length:=by rw [← r2.length]; exact F.len _ _ _ _ h
 refine wpAny_call (codeAny_mono (F.run X.A X.stack s H ⟨us,[]⟩ (us ++ ds) (vs ++ dvs) Q E hr I.env0 (hb s us I.kIn hl) r2 h) fun r s' hq=>?_)
 cases r with
 | error e=>exact hx zp σ H s e s' I hq
 | ok fl=>
  cases fl with
  | ret u=>exact I.after hq
  | next=>exact False.elim hq
  | brk=>exact False.elim hq
  | cont=>exact False.elim hq
theorem zil (F:FnOk X.prog X.w X.K X.mg X.base CX k f fd ps sp) (hr:Room k X.A) (hg:Gl X x) (hm:X.mg x = some (.ref f)) (hk:keepIn X.K (.ref f) = true) (hb:Binds X.K fd ps ds) (hd:Vals dvs ds) (hx:Passes CX X E)
  (ha:PA X (e :: es) t) (hdb:(x == ("__debug__":Str)) = false:=by decide) (he:starEach (e :: es) X.env = (false,eval e X.env) :: starEach es X.env:=by rfl) (hpl:(backTo pos (starEach es X.env)).any (·.1) = false:=by rfl):
  PE X (.Call (.Name x p) (e :: es) [] pos) (zcX sp dvs E t):=by
 intro zp s σ H Q I h
 refine wpAny_Call_Name_kw (zcS I hg hm ?_ hdb)
 refine PySem.W.callWith_K (h₀:=X.base) I.ok.mod.kin hk (thn (ha pos zp s σ H _ I h) fun us s1 ⟨vs,H1,I1,r,q⟩=>⟨I1.kIn,?_⟩) he hpl
 exact zk3 F hr hb hd hx I1 r q
theorem zj1 (F:FnOk X.prog X.w X.K X.mg X.base CX k f fd ps sp) (hr:Room k X.A) (hg:Gl X x) (hm:X.mg x = some (.ref f)) (hk:keepIn X.K (.ref f) = true) (hb:Binds X.K fd ps ds) (hd:Vals dvs ds) (hx:Passes CX X E)
  (hdb:(x == ("__debug__":Str)) = false:=by decide):PE X (.Call (.Name x p) [] [] pos) (zcX sp dvs E tNil):=by
 intro zp s σ H Q I h
 refine wpAny_Call_Name_kw (zcS I hg hm ?_ hdb)
 exact PySem.W.callWith_K0 I.kIn hk (zk3 (us:=[]) F hr hb hd hx I .nil h)
end
section
variable {X:Cx}{CX:CXT}{k:Nat}{f C:Addr}{fd:FuncData}{ps ks:List Str}{sp:Sp}{E:XK}{x m:Str}{p pos apos kpos:Pos}{e o:Expr}{es:List Expr}{kws:List Keyword}{te ta:TE}{t tk:TA}{nm:Option Str}
variable {g:List Value->List Value->List Value}{gV:List V->List V->List V}
end
structure FnScope (N P:List Str) (sc:Scope):Prop where
 kind:sc.kind = .function
 co:sc.isCoroutine = false
 gen:sc.isGenerator = false
 nd:N.Nodup
 pre:N.take P.length = P
 par:∀ x∈P,sc.names.lookup x = some .local\/sc.names.lookup x = some .cell
 nofree:∀ y∈sc.names,y.2≠.free
theorem zeS {kindOf:Str->Option NameKind}{x:Str}:∀ {binds:List (Str × Value)}{m:Str->Option Value},(∀ v,(x,v) ∉ binds)->bindL kindOf binds m x = m x
 | [],_,_=>rfl
 | (n,v) :: r,m,h=>by
  unfold bindL
  rw [zeS fun w hw=>h w (List.mem_cons_of_mem _ hw)]
  split
  ·have:x≠n:=by rintro rfl; exact h v List.mem_cons_self
   simp [this]
  ·rfl
theorem zeT {kindOf:Str->Option NameKind}{x:Str}:∀ {binds:List (Str × Value)}{m:Str->Option Value},(∀ v,(x,v) ∉ binds)->bindC kindOf binds m x = m x
 | [],_,_=>rfl
 | (n,v) :: r,m,h=>by
  unfold bindC
  rw [zeT fun w hw=>h w (List.mem_cons_of_mem _ hw)]
  split
  ·rfl
  ·have:x≠n:=by rintro rfl; exact h v List.mem_cons_self
   simp [this]
theorem zeU {kindOf:Str->Option NameKind}{x:Str}{v:Value}:∀ {P:List Str}{vs:List Value}{i:Nat}{m:Str->Option Value},P.Nodup->P[i]? = some x->vs[i]? = some v->kindOf x = some .local->
  bindL kindOf (P.zip vs) m x = some v
 | [],_,_,_,_,h,_,_=>by simp at h
 | _ :: _,[],_,_,_,_,h,_=>by simp at h
 | p :: P,w :: vs,0,m,nd,h1,h2,hk=>by
  simp at h1 h2; subst h1; subst h2
  show bindL kindOf ((p,w) :: P.zip vs) m p = _
  unfold bindL
  rw [zeS fun v hv=>(List.nodup_cons.mp nd).1 (List.of_mem_zip hv).1,if_pos hk]
  simp
 | p :: P,w :: vs,i + 1,m,nd,h1,h2,hk=>by
  show bindL kindOf ((p,w) :: P.zip vs) m x = _
  unfold bindL
  exact zeU (i:=i) (List.nodup_cons.mp nd).2 (by simpa using h1) (by simpa using h2) hk
theorem zeV {kindOf:Str->Option NameKind}{x:Str}{v:Value}:∀ {P:List Str}{vs:List Value}{i:Nat}{m:Str->Option Value},P.Nodup->P[i]? = some x->vs[i]? = some v->kindOf x≠some .local->
  bindC kindOf (P.zip vs) m x = some v
 | [],_,_,_,_,h,_,_=>by simp at h
 | _ :: _,[],_,_,_,_,h,_=>by simp at h
 | p :: P,w :: vs,0,m,nd,h1,h2,hk=>by
  simp at h1 h2; subst h1; subst h2
  show bindC kindOf ((p,w) :: P.zip vs) m p = _
  unfold bindC
  rw [zeT fun v hv=>(List.nodup_cons.mp nd).1 (List.of_mem_zip hv).1,if_neg hk]
  simp
 | p :: P,w :: vs,i + 1,m,nd,h1,h2,hk=>by
  show bindC kindOf ((p,w) :: P.zip vs) m x = _
  unfold bindC
  exact zeV (i:=i) (List.nodup_cons.mp nd).2 (by simpa using h1) (by simpa using h2) hk
def start (N:List Str) (vs:List V):St:=vs.map some ++ List.replicate (N.length - vs.length) none
def cxOf (CX:CXT) (P:Program) (w:World) (K:PySem.W.Frag) (mg:Str->Option Value) (base:Heap) (N:List Str) (qual:Str) (scope:Scope) (f:Addr) (cd:Value) (A:Around) (outer:List Env) (s:Shared) (H:Hp) (E:XK):Cx where
 prog:=P
 w:=w
 K:=K
 mg:=mg
 base:=base
 A:=A.deeper (envOfC qual scope s.heap.objs.size f cd)
 N:=N
 s₀:=s
 H₀:=H
 env:=envOfC qual scope s.heap.objs.size f cd
 outer:=outer
 stack:=envOfC qual scope s.heap.objs.size f cd :: outer
 ex:=[]
 calm:=true
 fn:=fun _=>true
 pn:=[]
 xe:=fun e s'=>wpAny (model P w) (A.deeper (envOfC qual scope s.heap.objs.size f cd)) (leaving (envOfC qual scope s.heap.objs.size f cd) e) (fun _ s''=>CX outer H s E e s'') (fun e' s''=>CX outer H s E e' s'') s'
theorem zgq {sc:Scope}{n:Nat}{x:Str} (h:sc.names.lookup x = some .cell):∃ c,(cellsFrom n sc.names []).lookup x = some c:=by
 have q:=PySem.W.cellsFrom_some sc.names n [] (.inl h)
 exact Option.isSome_iff_exists.mp q
theorem zim {CX:CXT}{P:Program}{w:World}{K:PySem.W.Frag}{mg:Str->Option Value}{base:Heap}{N ps:List Str}{qual:Str}{scope:Scope}{f:Addr}{cd:Value}{A:Around}{outer:List Env}{s s1:Shared}{H:Hp}{E:XK}{us:List Value}{vs:List V}
  (S:FnScope N ps scope) (hd:A.handled = none) (e0:Env0 P w K mg base A outer s H) (hl:vs.length = ps.length) (r:Vals vs us)
  (x:InCallC s s.heap.objs.size (bindL (envOfC qual scope s.heap.objs.size f cd).kindOf (ps.zip us) fun _=>none) (cellsFrom (s.heap.objs.size + 1) scope.names []) (bindC (envOfC qual scope s.heap.objs.size f cd).kindOf (ps.zip us) fun _=>none) s1):
  Inv (cxOf CX P w K mg base N qual scope f cd A outer s H E) [] (start N vs) H s1:=by
 have hpl:ps.length<=N.length:=by have:=congrArg List.length S.pre; rw [List.length_take] at this; omega
 obtain ⟨h1,tk,rfl,hk⟩:=x.done
 have noA:∀ b:Addr,b ∉ (cxOf CX P w K mg base N qual scope f cd A outer s H E).ex:=fun b z=>absurd (show b∈([]:List Addr) from z) (by simp)
 refine ⟨⟨e0.mod,S.kind,rfl,rfl,Nat.le_refl _,fun y z c h1 h2=>?_,fun y hy=>?_,fun y c _ h=>?_,fun _=>hd,Around.frames_deeper e0.frames,.inr ⟨rfl,rfl⟩,fun b z=>absurd z (noA b),e0.bs,e0.bsz,fun b _ _=>noA b,fun b z=>absurd z (noA b),e0.funs,e0.frf⟩,
  rfl,e0.bare,Un.kept hk,⟨_,x.toInCall.ns,fun i y v h1 h2 h3=>?_⟩,fun y c h=>⟨_,x.cell y c h⟩,e0.hok.fresh (Nat.le_refl _),fun y c h=>?_,fun p hp=>absurd (show p∈([]:List (Addr × Obj)) from hp) (by simp),e0.hok.kept hk,?_⟩
 ·exact name_of_addr x.apart (PySem.mem_of_lookup h1) (PySem.mem_of_lookup h2)
 ·have hy:scope.names.lookup y = some .cell\/scope.names.lookup y = some .free:=hy
  rcases hy with hy | hy
  ·exact zgq hy
  ·exact absurd rfl (S.nofree _ (PySem.mem_of_lookup hy))
 ·exact Nat.le_of_lt (x.above y c (PySem.mem_of_lookup h))
 ·have hi:i < vs.length:=by
   unfold start at h2
   by_cases hi:i < vs.length
   ·exact hi
   ·rw [List.getElem?_append_right (by simpa using hi)] at h2
    rw [List.getElem?_replicate] at h2
    split at h2 <;> cases h2
  have ha:vs[i]? = some v:=by
   unfold start at h2
   rw [List.getElem?_append_left (by simpa using hi),List.getElem?_map] at h2
   cases e:vs[i]? with
   | none=>rw [e] at h2; cases h2
   | some a=>rw [e] at h2; cases h2; rfl
  obtain ⟨u,hu,rv⟩:=r.get ha
  have hp:ps[i]? = some y:=by
   rw [← S.pre,List.getElem?_take_of_lt (by omega)]; exact h1
  have ndP:ps.Nodup:=by rw [← S.pre]; exact S.nd.sublist (List.take_sublist _ _)
  refine ⟨u,rv,?_⟩
  rcases S.par y (List.mem_of_getElem? hp) with k | k
  ·exact .inl ⟨k,zeU ndP hp hu k⟩
  ·obtain ⟨c,e⟩:=zgq (n:=s.heap.objs.size + 1) k
   refine .inr ⟨.inl k,c,e,?_⟩
   have q:=x.cell y c e
   rw [zeV ndP hp hu (by show scope.names.lookup y≠_; rw [k]; decide)] at q
   exact q
 ·exact e0.hok.fresh (Nat.le_of_lt (x.above y c (PySem.mem_of_lookup h)))
 ·unfold start
  show _ = N.length
  rw [List.length_append,List.length_map,List.length_replicate]
  omega
theorem zmE {CX:CXT}{P:Program}{w:World}{K:PySem.W.Frag}{mg:Str->Option Value}{base:Heap}{k:Nat}{f:Addr}{name qual:Str}{params:Arguments}{body:List Stmt}{scope:Scope}{dV kV doc pm cdv ct oc:Value}{an od:Option Addr}
  {osl:Array (Option Value)}{N ps:List Str}{sp:Sp} (lk:K.lookup f = some ⟨oc,od,.func (fnOf name qual params body scope dV kV doc pm an cdv ct),osl⟩) (hcd:codeIn K cdv qual = true) (S:FnScope N ps scope)
  (len:∀ vs H Q E,sp vs H Q E->vs.length = ps.length)
  (hbody:∀ (A:Around) (outer:List Env) (s:Shared) (H:Hp) (vs:List V) (Q:VK) (E:XK),Room k (A.deeper (envOfC qual scope s.heap.objs.size f cdv))->sp vs H Q E->
   ∃ t,PSs (cxOf CX P w K mg base N qual scope f cdv A outer s H E) body t/\t { nx:=fun _ H'=>Q .non H',rt:=Q } (start N vs) H):
  FnOk P w K mg base CX (k + 1) f (fnOf name qual params body scope dV kV doc pm an cdv ct) ps sp:=by
 refine ⟨len,fun A outer s H args us vs Q E hr e0 hb r hsp=>?_⟩
 have hl:=len _ _ _ _ hsp
 have KX:K.In s.heap:=e0.mod.kin.keeps fun b o e=>(e0.bs b o e).1
 have lim:s.heap.NoLimit:=e0.mod.nolimit.keeps fun b o e=>(e0.bs b o e).1
 have hkind:∀ y∈ps.zip us,scope.names.lookup y.1 = some .local\/(scope.names.lookup y.1 = some .cell/\((cellsFrom (s.heap.objs.size + 1) scope.names []).lookup y.1).isSome = true):=fun ⟨n,v⟩ hy=>by
  rcases S.par n (List.of_mem_zip hy).1 with q | q
  ·exact .inl q
  ·exact .inr ⟨q,PySem.W.cellsFrom_some _ _ _ (.inl q)⟩
 refine codeAny_call_function hr.depth (KX _ _ lk) rfl S.co S.gen rfl (PySem.W.codeRec_of KX hcd) (hb _ _ _ _ ?_)
 refine wpAny_newFunctionEnv_cells S.kind hkind fun env he s1 x=>?_
 subst he
 refine ⟨lim.keeps x.toInCall.keep,codeAny_func ?_⟩
 obtain ⟨t,ht,hq⟩:=hbody A outer s H vs Q E (hr.deeper _) hsp
 have I:Inv (cxOf CX P w K mg base N qual scope f cdv A outer s H E) [] (start N vs) H s1:=zim S hr.hd e0 hl r x
 refine wpAny_mono (ht [] s1 (start N vs) H _ I hq) (fun fl s' hs=>?_) fun e s' hs=>hs
 have fin:∀ {σ':St}{H':Hp}{v:V}{u:Value},Inv (cxOf CX P w K mg base N qual scope f cdv A outer s H E) [] σ' H' s'->RelV v u->Q v H'->CE outer P w H s Q u s':=
  fun {σ' H' v u} J rv q=>⟨v,H',J.os,J.bare,J.base,J.hok,rv,q⟩
 cases fl with
 | ret u=>
  obtain ⟨v,σ',H',J,rv,q⟩:=hs
  exact fin J rv q
 | next=>
  obtain ⟨σ',H',J,q⟩:=hs
  exact fin (v:=V.non) (u:=Value.none) J rfl q
 | brk=>
  obtain ⟨_,_,_,q⟩:=hs
  exact False.elim q
 | cont=>
  obtain ⟨_,_,_,q⟩:=hs
  exact False.elim q
section
variable {X:Cx}{x:Str}{p pos:Pos}{e:Expr}{es:List Expr}{t:TA}{id T:String}{r:List V->Hp->VK->Prop}
def tCB (r:List V->Hp->VK->Prop) (t:TA):TE:=fun σ H Q=>t σ H fun vs H1=>r vs H1 Q
theorem zk (hc:zaL X (.builtin id) r) (hg:Gl X x) (hm:X.mg x = none) (hv:bootBuiltins x = some (.builtin id)) (ha:PA X (e :: es) t) (hn:x≠"__name__":=by decide) (hdb:(x == ("__debug__":Str)) = false:=by decide)
  (he:starEach (e :: es) X.env = (false,eval e X.env) :: starEach es X.env:=by rfl) (hpl:(backTo pos (starEach es X.env)).any (·.1) = false:=by rfl):PE X (.Call (.Name x p) (e :: es) [] pos) (tCB r t):=by
 intro zp s σ H Q I h
 refine wpAny_Call_Name_kw (zdH I hg hm hv ?_ hn hdb)
 exact PyProof.Rows.callWith_builtin1 (thn (ha pos zp s σ H _ I h) fun us s1 ⟨vs,H1,I1,r1,q1⟩=>hc zp s1 σ H1 vs us Q I1 r1 q1) he hpl
theorem zC (hc:zaL X (.type T) r) (hg:Gl X x) (hm:X.mg x = none) (hv:bootBuiltins x = some (.type T)) (ha:PA X (e :: es) t) (hn:x≠"__name__":=by decide) (hdb:(x == ("__debug__":Str)) = false:=by decide)
  (he:starEach (e :: es) X.env = (false,eval e X.env) :: starEach es X.env:=by rfl) (hpl:(backTo pos (starEach es X.env)).any (·.1) = false:=by rfl):PE X (.Call (.Name x p) (e :: es) [] pos) (tCB r t):=by
 intro zp s σ H Q I h
 refine wpAny_Call_Name_kw (zdH I hg hm hv ?_ hn hdb)
 exact PyProof.Rows.callWith_type1 (thn (ha pos zp s σ H _ I h) fun us s1 ⟨vs,H1,I1,r1,q1⟩=>hc zp s1 σ H1 vs us Q I1 r1 q1) he hpl
end
section
variable {κ:Type} [DecidableEq κ]
def valV (kvs:List (κ × V)) (k:κ):Option V:=(kvs.find? fun kv=>decide (kv.1 = k)).map (·.2)
theorem zj2 {p:κ × V}{r:List (κ × V)}{k:κ} (e:p.1 = k):valV (p :: r) k = some p.2:=by simp [valV,List.find?_cons,e]
theorem zj3 {p:κ × V}{r:List (κ × V)}{k:κ} (e:¬ p.1 = k):valV (p :: r) k = valV r k:=by simp [valV,List.find?_cons,e]
theorem RelO.isSome_eq {o:Option V}{u:Option Value} (r:RelO o u):o.isSome = u.isSome:=by
 cases o with
 | none=>cases u with
  | none=>rfl
  | some _=>exact (show False from r).elim
 | some _=>cases u with
  | none=>exact (show False from r).elim
  | some _=>rfl
theorem RelO.getD {o:Option V}{u:Option Value}{d:V}{d':Value} (r:RelO o u) (rd:RelV d d'):RelV (o.getD d) (u.getD d'):=by
 cases o with
 | none=>cases u with
  | none=>exact rd
  | some _=>exact (show False from r).elim
 | some _=>cases u with
  | none=>exact (show False from r).elim
  | some _=>exact r
theorem KV.val {kvs:List (κ × V)}{vs:List (κ × Value)} (r:KV kvs vs) (k:κ):RelO (valV kvs k) (valueAt vs k):=by
 unfold KV at r
 induction r with
 | nil=>exact True.intro
 | @cons p q ps qs h t ih=>
  obtain ⟨h1,h2⟩:=h
  by_cases e:p.1 = k
  ·have e':q.1 = k:=h1.symm.trans e
   have b:valueAt (q :: qs) k = some q.2:=by simp [valueAt,List.find?_cons,e']
   rw [zj2 e,b]; exact h2
  ·have e':¬ q.1 = k:=fun z=>e (h1.trans z)
   have b:valueAt (q :: qs) k = valueAt qs k:=by simp [valueAt,List.find?_cons,e']
   rw [zj3 e,b]; exact ih
end
theorem zj4 {P:Program}{w:World}{k:Key}{u:Value} (r:RelV (kV k) u):(Zd P w).is k u = true:=by
 cases k with
 | inl i=>obtain ⟨t,e⟩:=(show ∃ t,u = Value.int i t from r); subst e; exact zfM P w i t
 | inr x=>obtain ⟨t,e⟩:=(show ∃ t,u = Value.str x t from r); subst e; exact ZG P w x t
section
variable {P:Program}{w:World}{H:Hp}{h:Heap}{a:Addr}
end
section
variable {X:Cx}{zp:List (Addr × Obj)}{σ:St}{H:Hp}{s:Shared}{a:Addr}{y v:V}{u r:Value}{o:Option V}{A:Around}{E:Value->Shared->Prop}
end
section
variable {X:Cx}{zp:List (Addr × Obj)}{σ:St}{H:Hp}{s:Shared}{a:Addr}{kvs:List (Key × V)}{k:Key}{u:Value}{A:Around}{E:Value->Shared->Prop}
end
section
variable {X:Cx}{o i e value:Expr}{pos pos' tpos:Pos}{td ty tv:TE}
end
section
variable {X:Cx}{pos:Pos}
end
structure M2 (X:Cx) (o:Expr) (m:Str) (apos:Pos) (e f:Expr) (cpos:Pos):Prop where
 base:attributeBase o m X.env (eval o X.env) = eval o X.env
 few:((backTo cpos (starEach [e,f] X.env)).all (fun x=>!x.1) && (backToKw cpos (keywordEach [] X.env)).all (fun x=>x.1.isSome)
  && decide (([e,f]:List Expr).length + ([]:List Keyword).length + (if ([]:List Keyword).isEmpty then 0 else 1) < 30)) = true
 line:(apos.endLine == cpos.line) = true
 trees:backTo cpos (starEach [e,f] X.env) = [(false,eval e X.env),(false,eval f X.env)]
section
variable {X:Cx}{zp:List (Addr × Obj)}{σ:St}{H:Hp}{s:Shared}{a:Addr}{y d:V}{u r:Value}{o:Option V}{A:Around}{E:Value->Shared->Prop}
end
section
variable {X:Cx}{o e f:Expr}{apos cpos:Pos}{td ty tx:TE}
end
section
variable {X:Cx}{zp:List (Addr × Obj)}{σ:St}{H:Hp}{s:Shared}{a:Addr}{kvs:List (Key × V)}{A:Around}{E:Value->Shared->Prop}
end
section
variable {X:Cx}{zp:List (Addr × Obj)}{σ:St}{H:Hp}{s:Shared}{a:Addr}{y:V}{u:Value}{A:Around}{E:Value->Shared->Prop}
end
end L2
namespace HT
open PySem PyProof.Rows
section
open PySem.SeqAt
open PySem.AutoSeq1 (wpAny_loadPart')
open PySem.MeetsSeq PySem.MeetsSeq2 PySem.MeetsSeq3
end
section
variable {prog:Program}{w:World}{A:Around}{E:Value->Shared->Prop}{s:Shared}
theorem cat_tup {t b:Addr}{vs ws:List Value}{Q:Value->Shared->Prop} (ht:IsTup s.heap t vs.toArray) (hb:IsTup s.heap b ws.toArray) (hv:vs≠[])
  (h1:ws = []->Q (.ref t) s) (h2:ws≠[]->Q (.ref s.heap.objs.size) { s with heap:=s.heap.push { cls:=.type "tuple",data:=.seq (vs ++ ws).toArray } })
  (hsz:vs.length + ws.length<=sizeLine):wpAny (model prog w) A (binaryOp .Add (.ref t) (.ref b)) Q E s:=by
 obtain ⟨⟨cls,dd,data,sl⟩,ho,hc,n,hd⟩:=id ht
 obtain ⟨⟨cls2,dd2,data2,sl2⟩,ho2,hc2,n2,hd2⟩:=id hb
 simp only at hc hd hc2 hd2
 subst hc hd hc2 hd2
 have e:vs.toArray ++ ws.toArray = (vs ++ ws).toArray:=by simp
 by_cases hw:ws = []
 ·exact concat_meets ⟨_,ho,rfl⟩ ⟨_,ho2,rfl⟩ noFill_tuple_add seq_tuple_add PySem.F.slot_tuple_add PySem.F.entry_tuple_add (PySem.F.args_tuple_add_2 _ _)
   (tuple_addW1 t b vs.toArray ws.toArray n n2 dd dd2 sl sl2 (by simpa using hv) (by simp [hw])) ⟨ho,ho2,h1 hw⟩
 ·refine concat_meets ⟨_,ho,rfl⟩ ⟨_,ho2,rfl⟩ noFill_tuple_add seq_tuple_add PySem.F.slot_tuple_add PySem.F.entry_tuple_add (PySem.F.args_tuple_add_2 _ _)
   (tuple_addW2 t b vs.toArray ws.toArray n n2 dd dd2 sl sl2 (by simpa using hv) (by simpa using hw) (by rw [List.size_toArray,List.size_toArray]; exact hsz)) ⟨ho,ho2,?_⟩
  rw [e]
  exact h2 hw
def sIx (n d:Nat):Option Int->Nat
 | none=>d
 | some v=>if v < 0 then (v + (n:Int)).toNat else min v.toNat n
theorem sIx_nat (n d k:Nat):sIx n d (some (k:Int)) = min k n:=by
 show (if (k:Int) < 0 then ((k:Int) + (n:Int)).toNat else min (k:Int).toNat n) = min k n
 rw [if_neg (by omega),Int.toNat_natCast]
theorem zmF (n d:Nat) (hd:d<=n) (o:Option Int):sIx n d o<=n:=by
 cases o with
 | none=>exact hd
 | some v=>
  show (if v < 0 then (v + (n:Int)).toNat else min v.toNat n)<=n
  by_cases hv:v < 0
  ·rw [if_pos hv]; omega
  ·rw [if_neg hv]; exact Nat.min_le_right _ _
theorem zin (v:Int) (n d:Nat):(if v < 0 then max (v + (n:Int)) 0 else min v (n:Int)) = ((sIx n d (some v):Nat):Int):=by
 show (if v < 0 then max (v + (n:Int)) 0 else min v (n:Int)) = (((if v < 0 then (v + (n:Int)).toNat else min v.toNat n):Nat):Int)
 by_cases hv:v < 0
 ·simp only [if_pos hv]; omega
 ·simp only [if_neg hv]; omega
theorem zhs (lo hi:Option Int) (n:Nat):Builtin.Slice.sliceAdjust lo hi 1 (n:Int) = (((sIx n 0 lo:Nat):Int),((sIx n n hi:Nat):Int)):=by
 have h1:¬ ((1:Int) < 0):=by omega
 unfold Builtin.Slice.sliceAdjust
 simp only [h1,if_false]
 refine Prod.ext ?_ ?_
 ·cases lo with
  | none=>rfl
  | some v=>exact zin v n 0
 ·cases hi with
  | none=>rfl
  | some v=>exact zin v n n
theorem zht (i j:Nat):Builtin.Slice.slicePlaces (i:Int) (j:Int) 1 = j - i:=by
 unfold Builtin.Slice.slicePlaces
 have h1:(1:Int) > 0:=by omega
 simp only [h1,if_true,Int.ediv_one]
 split <;> omega
theorem zdJ {v:Value}{o:Option Int}{Q:Option Int->Shared->Prop} (p:IsPart v o) (h:Q o s):wpAny (model prog w) A (Builtin.Slice.slicePartIndex v) Q E s:=by
 cases p with
 | none=>exact slicePart_none h
 | int i t=>exact slicePart_int h
theorem zcz {sl:Addr}{vl vu:Value}{lo hi:Option Int}{n:Nat}{Q:Int × Int × Nat->Shared->Prop} (hs:s.heap.IsSliceOf sl vl vu .none) (pl:IsPart vl lo) (pu:IsPart vu hi)
  (h:Q (((sIx n 0 lo:Nat):Int),1,sIx n n hi - sIx n 0 lo) s):wpAny (model prog w) A (Builtin.Slice.sliceApplied (.ref sl) (pure (n:Int))) Q E s:=by
 obtain ⟨os,hos,hcs,hds⟩:=id hs
 unfold Builtin.Slice.sliceApplied Builtin.Slice.sliceFields
 refine wpAny_bind (wpAny_bind (wpAny_field hos hds (x:=vl) rfl (wpAny_bind (wpAny_field hos hds (x:=vu) rfl (wpAny_bind (wpAny_field hos hds (x:=.none) rfl (wpAny_pure ?_)))))))
 refine wpAny_bind (slicePart_none ?_)
 show wpAny _ _ (if ((1:Int) == 0) = true then _ else _) _ _ s
 rw [if_neg (by decide)]
 refine wpAny_bind (zdJ pl (wpAny_bind (zdJ pu (wpAny_bind (wpAny_pure ?_)))))
 show wpAny _ _ (match Builtin.Slice.sliceAdjust lo hi 1 (n:Int) with | (lo,hi)=>pure (lo,(1:Int),Builtin.Slice.slicePlaces lo hi 1)) _ _ s
 rw [zhs lo hi n]
 show wpAny _ _ (pure (((sIx n 0 lo:Nat):Int),(1:Int),Builtin.Slice.slicePlaces ((sIx n 0 lo:Nat):Int) ((sIx n n hi:Nat):Int) 1)) _ _ s
 rw [zht]
 exact wpAny_pure h
theorem zj5 (xs:Array Value) (i k:Nat):((List.range k).filterMap fun (m:Nat)=>xs[((i:Int) + (m:Int) * 1).toNat]?).toArray = ((xs.toList.drop i).take k).toArray:=by
 have e:(fun (m:Nat)=>xs[((i:Int) + (m:Int) * 1).toNat]?) = fun m=>xs[i + m]?:=by
  funext m
  have:((i:Int) + (m:Int) * 1).toNat = i + m:=by omega
  rw [this]
 rw [e]
 have:=pick_run xs i k
 rw [List.filterMap_map] at this
 have e2:((fun x=>xs[x]?) ∘ fun x=>i + x) = fun m=>xs[i + m]?:=rfl
 rw [e2] at this
 rw [this]
theorem getItem_tuple_cut {t sl:Addr}{items:Array Value}{vl vu:Value}{lo hi:Option Int}{Q:Value->Shared->Prop} (ht:IsTup s.heap t items) (hs:s.heap.IsSliceOf sl vl vu .none) (pl:IsPart vl lo) (pu:IsPart vu hi)
  (hw:¬ (sIx items.size 0 lo = 0/\sIx items.size items.size hi = items.size))
  (h:Q (.ref s.heap.objs.size) { s with heap:=s.heap.push { cls:=.type "tuple",data:=.seq ((items.toList.drop (sIx items.size 0 lo)).take (sIx items.size items.size hi - sIx items.size 0 lo)).toArray } })
  (hsz:items.size<=sizeLine):wpAny (model prog w) A (getItem (.ref t) (.ref sl)) Q E s:=by
 have htake:sizeOk (.seq ((items.toList.drop (sIx items.size 0 lo)).take (sIx items.size items.size hi - sIx items.size 0 lo)).toArray):=by
  show ((items.toList.drop (sIx items.size 0 lo)).take (sIx items.size items.size hi - sIx items.size 0 lo)).toArray.size<=sizeLine
  rw [List.size_toArray,List.length_take,List.length_drop,Array.length_toList]
  omega
 have hj:sIx items.size items.size hi<=items.size:=zmF _ _ (Nat.le_refl _) hi
 obtain ⟨os,hos,hcs,hds⟩:=id hs
 have hTs:s.TypeIs (.ref sl) "slice":=⟨os,hos,hcs⟩
 unfold getItem
 try with_reducible refine wpAny_holding ?_
 first | refine wpAny_bind (wpAny_pure ?_) | skip
 refine wpAny_bind (wpAny_sequenceKey ht.typeIs (by decide) ?_)
 refine wpAny_bind (wpAny_callSpecial?_slot (name:=Str.ofString "__getitem__") ht.typeIs PyProof.Rows.slot_tuple_getitem
  (wpAny_call_entry PyProof.Rows.slot_tuple_getitem ht.typeIs entry_tuple_getitem ?_ (args_tuple_getitem _ _)))
 show wpAny _ _ (Builtin.Tuple.tupleItemsOf (.ref t) >>= _) _ _ s
 refine wpAny_bind (tupleItemsOf_ ht ?_)
 refine wpAny_bind (wpAny_typeOf hTs ?_)
 rw [if_pos (by decide)]
 refine wpAny_bind (zcz hs pl pu ?_)
 have hno:¬ ((((sIx items.size 0 lo:Nat):Int) == 0 && (1:Int) == 1 && (sIx items.size items.size hi - sIx items.size 0 lo) == items.size) = true):=by
  intro q
  rw [Bool.and_eq_true,Bool.and_eq_true] at q
  have q1:((sIx items.size 0 lo:Nat):Int) = 0:=eq_of_beq q.1.1
  have q2:sIx items.size items.size hi - sIx items.size 0 lo = items.size:=eq_of_beq q.2
  exact hw ⟨by omega,by omega⟩
 show wpAny _ _ (if (((sIx items.size 0 lo:Nat):Int) == 0 && (1:Int) == 1 && (sIx items.size items.size hi - sIx items.size 0 lo) == items.size) = true then _ else _) _ _ s
 rw [if_neg hno,zj5]
 first
  | exact wpAny_bind (m:=Builtin.Tuple.tupleExact _) (wpAny_newObj_type (wpAny_pure ⟨_,rfl,wpAny_pure h⟩) htake)
  | exact wpAny_bind (m:=Builtin.Tuple.tupleExact _) (wpAny_newObj_type (wpAny_bind (wpAny_pure (wpAny_pure ⟨_,rfl,wpAny_pure h⟩))) htake)
  | exact wpAny_bind (wpAny_bind (m:=Builtin.Tuple.tupleExact _) (wpAny_newObj_type (wpAny_pure (wpAny_pure ⟨_,rfl,wpAny_pure h⟩)) htake))
  | exact wpAny_bind (wpAny_bind (m:=Builtin.Tuple.tupleExact _) (wpAny_newObj_type (wpAny_pure ⟨_,rfl,wpAny_pure h⟩) htake))
end
end HT
namespace L2
open PySem PySem.Spec PyProof.Rows
abbrev TO:=St->Hp->(Option Int->Hp->Prop)->Prop
def PO (X:Cx) (e:Option Expr) (t:TO):Prop:=
 ∀ (zp:List (Addr × Obj)) (s:Shared) (σ:St) (H:Hp) (Q:Option Int->Hp->Prop),Inv X zp σ H s->t σ H Q->
  wpAny (model X.prog X.w) X.A (evalPart e X.env) (fun u s'=>∃ o H',Inv X zp σ H' s'/\IsPart u o/\Q o H') X.xe s
def zio:TO:=fun _ H Q=>Q none H
def zmG (t:TE):TO:=fun σ H Q=>t σ H fun x H1=>∃ i,x = .int i/\Q (some i) H1
section
variable {X:Cx}{e:Expr}{te:TE}{lo hi:Option Expr}{tl th:TO}{pos p2:Pos}
theorem zae:PO X none zio:=by
 intro zp s σ H Q I h
 rw [evalPart_none]
 exact wpAny_pure ⟨none,H,I,.none,h⟩
theorem Ze (h:PE X e te):PO X (some e) (zmG te):=by
 intro zp s σ H Q I hw
 rw [evalPart_some]
 refine thn (h zp s σ H _ I hw) fun u s1 ⟨x,H1,I1,r1,q1⟩=>?_
 obtain ⟨i,rfl,q⟩:=q1
 obtain ⟨t,rfl⟩:=r1
 exact ⟨some i,H1,I1,.int i t,q⟩
def SlR (X:Cx) (r:V->Option Int->Option Int->Hp->VK->Prop):Prop:=
 ∀ (zp:List (Addr × Obj)) (s:Shared) (σ:St) (H:Hp) (x:V) (v vl vu:Value) (lo hi:Option Int) (sl:Addr) (Q:VK),Inv X zp σ H s->RelV x v->s.heap.IsSliceOf sl vl vu .none->IsPart vl lo->IsPart vu hi->r x lo hi H Q->
  ∃ T id,typeLookup (.type T) "__getitem__" = pure (some (.builtin id))/\s.TypeIs v T/\wpAny (model X.prog X.w) X.A (getItem v (.ref sl)) (EP X zp σ Q) X.xe s
def tSl (r:V->Option Int->Option Int->Hp->VK->Prop) (te:TE) (tl th:TO):TE:=fun σ H Q=>te σ H fun x H1=>tl σ H1 fun l H2=>th σ H2 fun u H3=>r x l u H3 Q
theorem Zg {r:V->Option Int->Option Int->Hp->VK->Prop} (hr:SlR X r) (he:PE X e te) (hl:PO X lo tl) (hu:PO X hi th):PE X (.Subscript e (.Slice lo hi none p2) pos) (tSl r te tl th):=by
 intro zp s σ H Q I h
 refine Subscript_ (thn (he zp s σ H _ I h) fun v s1 ⟨x,H1,I1,r1,q1⟩=>?_)
 refine wpAny_Slice (thn (hl zp s1 σ H1 _ I1 q1) fun vl s2 ⟨l,H2,I2,pl,q2⟩=>thn (hu zp s2 σ H2 _ I2 q2) fun vu s3 ⟨u,H3,I3,pu,q3⟩=>?_)
 rw [evalPart_none]
 refine wpAny_pure ?_
 have I4:Inv X zp σ H3 { s3 with heap:=s3.heap.push { cls:=.type "slice",data:=.fields #[vl,vu,.none] } }:=I3.kept (t':=s3.toks) fun b ob q=>Heap.get?_push_of_some _ q
 obtain ⟨T,id,hT,ht,hg⟩:=hr zp { s3 with heap:=s3.heap.push { cls:=.type "slice",data:=.fields #[vl,vu,.none] } } σ H3 x v vl vu l u s3.heap.objs.size Q I4 r1 (Heap.IsSliceOf.new ..) pl pu q3
 show wpAny (model X.prog X.w) X.A (subscriptTail e (.Slice lo hi none p2) v (.ref s3.heap.objs.size)) (EP X zp σ Q) X.xe { s3 with heap:=s3.heap.push { cls:=.type "slice",data:=.fields #[vl,vu,.none] } }
 exact tail_any (ops:=[.ref s3.heap.objs.size,v]) ht hT hg (by with_unfolding_all rfl)
def cutV (xs:List V) (lo hi:Option Int):List V:=(xs.drop (HT.sIx xs.length 0 lo)).take (HT.sIx xs.length xs.length hi - HT.sIx xs.length 0 lo)
theorem zfO (xs:List V) (lo hi:Option Int):(cutV xs lo hi).length<=xs.length:=by
 unfold cutV
 rw [List.length_take,List.length_drop]
 omega
def rSlT (K:PySem.W.Frag):V->Option Int->Option Int->Hp->VK->Prop:=fun x lo hi H Q=>∃ a xs,x = .ref a/\SqT K H a xs /\
 ¬ (HT.sIx xs.length 0 lo = 0/\HT.sIx xs.length xs.length hi = xs.length)/\∀ p,H p = none->Q (.ref p) (upd H p (.tup (cutV xs lo hi)))
theorem zeW:SlR X (rSlT X.K):=by
 intro zp s σ H x v vl vu lo hi sl Q I rx hs pl pu h
 obtain ⟨a,xs,rfl,hx,hw,q⟩:=h
 cases rx
 obtain ⟨its,r,ht,hz⟩:=I.tuple hx
 have hlen:its.toArray.size = xs.length:=by rw [List.size_toArray]; exact r.length.symm
 refine ⟨"tuple",_,PyProof.Rows.slot_tuple_getitem.lookup,ht.typeIs,?_⟩
 refine HT.getItem_tuple_cut ht hs pl pu (by rw [hlen]; exact hw) ?_ (by rw [hlen]; exact hz)
 rw [hlen]
 refine ⟨.ref s.heap.objs.size,_,I.laid (t':=s.toks) (o:=.tup (cutV xs lo hi)) (fun b ob q=>Heap.get?_push_of_some _ q) (Nat.le_refl _) ?_,rfl,q _ (I.hok.fresh (Nat.le_refl _))⟩
 exact ⟨Nat.le_trans (zfO xs lo hi) hz,_,(r.drop (HT.sIx xs.length 0 lo)).take (HT.sIx xs.length xs.length hi - HT.sIx xs.length 0 lo),IsTup.new _ _⟩
def zj6 (K:PySem.W.Frag):R2:=fun x y H Q=>∃ a b xs ys,x = .ref a/\y = .ref b/\SqT K H a xs/\SqT K H b ys/\xs≠[]/\xs.length + ys.length<=sizeLine /\
 (ys = []->Q (.ref a) H)/\(ys≠[]->∀ p,H p = none->Q (.ref p) (upd H p (.tup (xs ++ ys))))
theorem Vals.nil_iff {xs:List V}{us:List Value} (r:Vals xs us):us = [] ↔ xs = []:=by
 cases r with
 | nil=>simp
 | cons _ _=>simp
theorem zck:OpR X (binaryOp .Add) (zj6 X.K):=by
 intro zp s σ H x y v u Q I rx ry h
 obtain ⟨a,b,xs,ys,rfl,rfl,ha,hb,hx,hz,q1,q2⟩:=h
 cases rx
 cases ry
 obtain ⟨its,r1,p1,_⟩:=I.tuple ha
 obtain ⟨its2,r2,p2,_⟩:=I.tuple hb
 refine HT.cat_tup p1 p2 (fun z=>hx (r1.nil_iff.mp z)) (fun z=>⟨.ref a,H,I,rfl,q1 (r2.nil_iff.mp z)⟩) (fun z=>?_) (by rw [← r1.length,← r2.length]; exact hz)
 refine ⟨.ref s.heap.objs.size,_,I.laid (t':=s.toks) (o:=.tup (xs ++ ys)) (fun b ob q=>Heap.get?_push_of_some _ q) (Nat.le_refl _) ?_,rfl,q2 (fun w=>z (r2.nil_iff.mpr w)) _ (I.hok.fresh (Nat.le_refl _))⟩
 exact ⟨by rw [List.length_append]; exact hz,_,r1.append r2,IsTup.new _ _⟩
end
def ixN (n:Nat) (i:Int):Option Nat:=if 0<=i then (if i < n then some i.toNat else none) else if -(n:Int)<=i then some (i + n).toNat else none
def atI {α:Type} (xs:List α) (i:Int):Option α:=(ixN xs.length i).bind fun j=>xs[j]?
theorem ziq {n:Nat}{i:Int}{j:Nat} (h:ixN n i = some j):seqIndex? i n = some j/\j < n/\-(n:Int)<=i/\i < n:=by
 unfold ixN at h
 by_cases h0:0<=i
 ·rw [if_pos h0] at h
  by_cases h1:i < n
  ·rw [if_pos h1] at h
   have e:i.toNat = j:=Option.some.inj h
   exact ⟨by rw [seqIndex_of h0 h1,e],by omega,by omega,h1⟩
  ·rw [if_neg h1] at h; cases h
 ·rw [if_neg h0] at h
  by_cases h1:-(n:Int)<=i
  ·rw [if_pos h1] at h
   have e:(i + n).toNat = j:=Option.some.inj h
   exact ⟨by rw [seqIndex_neg (by omega) h1,e],by omega,h1,by omega⟩
  ·rw [if_neg h1] at h; cases h
theorem zfP {α:Type}{xs:List α}{i:Int}{v:α} (h:atI xs i = some v):∃ j,seqIndex? i xs.length = some j/\xs[j]? = some v/\j < xs.length/\-(xs.length:Int)<=i/\i < xs.length:=by
 unfold atI at h
 cases e:ixN xs.length i with
 | none=>rw [e] at h; cases h
 | some j=>
  rw [e] at h
  obtain ⟨h1,h2,h3,h4⟩:=ziq e
  exact ⟨j,h1,h,h2,h3,h4⟩
theorem zM {α:Type}{xs:List α}{j:Nat}{v:α} (h:xs[j]? = some v):atI xs (j:Int) = some v:=by
 have hj:j < xs.length:=(List.getElem?_eq_some_iff.mp h).1
 have e:ixN xs.length (j:Int) = some j:=by
  unfold ixN
  rw [if_pos (by omega),if_pos (by omega)]; simp
 unfold atI; rw [e]; exact h
theorem zj7 {α:Type} (xs:List α) (v:α):atI (xs ++ [v]) (-1) = some v:=by
 have hl:(xs ++ [v]).length = xs.length + 1:=by simp
 have e:ixN (xs ++ [v]).length (-1) = some xs.length:=by
  unfold ixN
  rw [hl,if_neg (by decide),if_pos (by omega)]
  congr 1
  omega
 unfold atI
 rw [e]
 show (xs ++ [v])[xs.length]? = some v
 simp
def zir (b:Expr):Prop:=∀ o i,subscripted b false o i = operate [o,i] (getItem o i)
def IxR (X:Cx) (r:R2):Prop:=
 ∀ (value slice:Expr) (zp:List (Addr × Obj)) (s:Shared) (σ:St) (H:Hp) (x y:V) (v u:Value) (Q:VK),Inv X zp σ H s->RelV x v->RelV y u->r x y H Q->
  subscripted slice false v u = operate [v,u] (getItem v u)->wpAny (model X.prog X.w) X.A (subscriptTail value slice v u) (EP X zp σ Q) X.xe s
def MtR (X:Cx) (id:String) (r:V->List V->Hp->VK->Prop):Prop:=
 ∀ (zp:List (Addr × Obj)) (s:Shared) (σ:St) (H:Hp) (x:V) (xs:List V) (v:Value) (us:List Value) (Q:VK),Inv X zp σ H s->RelV x v->Vals xs us->r x xs H Q->
  wpAny (model X.prog X.w) X.A (call (.builtin id) (v :: us)) (EP X zp σ Q) X.xe s
section
variable {X:Cx}{a b:Expr}{ta tb:TE}{pos:Pos}
theorem zy {r:R2} (hr:IxR X r) (ha:PE X a ta) (hb:PE X b tb) (hs:zir b):PE X (.Subscript a b pos) (tOp r ta tb):=by
 intro zp s σ H Q I h
 exact Subscript_ (binT ha hb I h fun v u s2 x y H2 I2 rx ry q=>hr a b zp s2 σ H2 x y v u Q I2 rx ry q (hs _ _))
def rIxL (K:PySem.W.Frag):R2:=fun x y H Q=>∃ p xs i v,x = .ref p/\y = .int i/\SqL K H p xs/\atI xs i = some v/\Q v H
def rIxT (K:PySem.W.Frag):R2:=fun x y H Q=>∃ p xs i v,x = .ref p/\y = .int i/\SqT K H p xs/\atI xs i = some v/\Q v H
def rIxS:R2:=fun x y H Q=>∃ z i c,x = .str z/\y = .int i/\z.length<=sizeLine/\atI z.cps.toList i = some c/\Q (.str ⟨#[c]⟩) H
theorem zQ:IxR X (rIxL X.K):=by
 intro value slice zp s σ H x y v u Q I rx ry h hs
 obtain ⟨p,xs,i,z,rfl,rfl,hq,he,q⟩:=h
 cases rx
 obtain ⟨t,rfl⟩:=ry
 obtain ⟨its,r,pl,hz⟩:=I.list hq
 obtain ⟨j,h1,h2,h3,h4,h5⟩:=zfP he
 obtain ⟨w,ew,rw'⟩:=r.get h2
 have hl:=r.length
 have hn:=zeP
 have fin:EP X zp σ Q w s:=⟨z,H,I,rw',q⟩
 by_cases h0:0<=i
 ·have hj:i.toNat = j:=by
   rw [seqIndex_of h0 h5] at h1
   exact Option.some.inj h1
  exact item_listR pl.isList h0 (by omega) (by rw [hj]; simpa using ew) fin hs
 ·have hj:(i + (its.toArray.size:Int)).toNat = j:=by
   rw [seqIndex_neg (by omega) h4] at h1
   rw [List.size_toArray,← hl]
   exact Option.some.inj h1
  exact subscriptTail_builtinR (x:=w) pl.isList.typeIs slot_list_getitem.lookup
   (wpAny_getItem_list_neg (Q:=fun r s'=>r = w/\EP X zp σ Q r s') pl.isList (by omega) (by rw [List.size_toArray] <;> omega) (by omega) (by rw [hj]; simpa using ew) ⟨rfl,fin⟩) hs
theorem zF:IxR X (rIxT X.K):=by
 intro value slice zp s σ H x y v u Q I rx ry h hs
 obtain ⟨p,xs,i,z,rfl,rfl,hq,he,q⟩:=h
 cases rx
 obtain ⟨t,rfl⟩:=ry
 obtain ⟨its,r,pl,hz⟩:=I.tuple hq
 obtain ⟨j,h1,h2,h3,h4,h5⟩:=zfP he
 obtain ⟨w,ew,rw'⟩:=r.get h2
 have hl:=r.length
 have hn:=zeP
 have fin:EP X zp σ Q w s:=⟨z,H,I,rw',q⟩
 exact subscriptTail_builtinR (x:=w) pl.typeIs slot_tuple_getitem.lookup
  (getItem_tuple (j:=j) (Q:=fun r s'=>r = w/\EP X zp σ Q r s') pl (by omega) (by omega) (by rw [List.size_toArray,← hl]; exact h1) (by simpa using ew) ⟨rfl,fin⟩) hs
theorem zbY:IxR X rIxS:=by
 intro value slice zp s σ H x y v u Q I rx ry h hs
 obtain ⟨z,i,c,rfl,rfl,hz,he,q⟩:=h
 obtain ⟨t,rfl⟩:=rx
 obtain ⟨t',rfl⟩:=ry
 obtain ⟨j,h1,h2,h3,h4,h5⟩:=zfP he
 have hl:z.cps.toList.length = z.length:=by simp [Str.length]
 rw [hl] at h1 h4 h5
 have hn:=zeP
 exact tail_any (typeIs_str s z t) slot_str_getitem.lookup (getItem_str (c:=c) (by
  have e1:decide (i < -(2 ^ 63:Int)) = false:=decide_eq_false (by omega)
  have e2:decide (i ≥ 2 ^ 63) = false:=decide_eq_false (by omega)
  rw [e1,e2,Bool.or_false]) (by rw [h1]; simpa using h2) ⟨.str ⟨#[c]⟩,H,I.tok _,⟨_,rfl⟩,q⟩) hs
theorem zhu (its:List Value) (n j:Nat) (u:Value):Obj.mapSeq (·.setIfInBounds j u) { cls:=.type "list",data:=.seq its.toArray n } = { cls:=.type "list",data:=.seq (its.set j u).toArray n }:=by
 simp [Obj.mapSeq]
theorem Inv.lst {zp:List (Addr × Obj)}{σ:St}{H:Hp}{s:Shared}{p:Addr}{xs:List V} (I:Inv X zp σ H s) (h:H p = some (.lst xs)):
  ∃ (its:List Value) (n:Nat),Vals xs its/\s.heap.get? p = some { cls:=.type "list",data:=.seq its.toArray n }/\xs.length<=sizeLine:=by
 obtain ⟨z,its,n,r,e⟩:=I.hok p _ h
 exact ⟨its,n,r,e,z⟩
theorem Inv.lstUpd {zp:List (Addr × Obj)}{σ:St}{H:Hp}{s:Shared}{p:Addr}{xs ys:List V}{its its':List Value}{n n':Nat}{f:Obj->Obj} (I:Inv X zp σ H s) (h:H p = some (.lst xs))
  (ho:s.heap.get? p = some { cls:=.type "list",data:=.seq its.toArray n }) (hf:f { cls:=.type "list",data:=.seq its.toArray n } = { cls:=.type "list",data:=.seq its'.toArray n' }) (r:Vals ys its') (hz:ys.length<=sizeLine) (t:Nat):
  Inv X zp σ (upd H p (.lst ys)) { s with heap:=s.heap.update p f,toks:=t }:=by
 have e:(s.heap.update p f).get? p = some { cls:=.type "list",data:=.seq its'.toArray n' }:=by
  rw [Heap.get?_update_self f ho (by rw [hf] <;> rfl),hf]
 refine I.write (x:=p) (e:=p) (by rw [h]; trivial) (.inl rfl) (fun b u hb q=>(Heap.get?_update_other _ _ (Ne.symm hb)).trans q) ⟨_,e⟩ ?_
 exact ⟨hz,its',n',r,e⟩
def znv:V->V->V->Hp->(Hp->Prop)->Prop:=fun o i v H Q=>∃ p xs k j,o = .ref p/\i = .int k/\H p = some (.lst xs)/\ixN xs.length k = some j/\Q (upd H p (.lst (xs.set j v)))
theorem zcK:PSet X znv:=by
 intro zp s σ H o i v ov iv u Q I ro ri rv h
 obtain ⟨p,xs,k,j,rfl,rfl,hp,hj,q⟩:=h
 cases ro
 obtain ⟨t,rfl⟩:=ri
 obtain ⟨its,n,r,ho,hz⟩:=I.lst hp
 obtain ⟨h1,h2,h3,h4⟩:=ziq hj
 have hl:=r.length
 have hn:=zeP
 have I':Inv X zp σ (upd H p (.lst (xs.set j v))) { s with heap:=s.heap.update p (Obj.mapSeq (·.setIfInBounds j u)) }:=
  I.lstUpd hp ho (zhu its n j u) (r.set rv j) (by rw [List.length_set]; exact hz) s.toks
 by_cases h0:0<=k
 ·have hk:k.toNat = j:=by
   rw [seqIndex_of h0 h4] at h1
   exact Option.some.inj h1
  exact PySem.W.ki_setAt ho h0 (by omega) (by rw [List.size_toArray,← hl]; exact h4) (by rw [hk]; exact ⟨_,I',q⟩)
 ·have hk:(k + (its.toArray.size:Int)).toNat = j:=by
   rw [seqIndex_neg (by omega) h3] at h1
   rw [List.size_toArray,← hl]
   exact Option.some.inj h1
  exact PySem.W.ki_setBack ho (by omega) (by rw [List.size_toArray,← hl]; exact h3) (by omega) (by rw [hk]; exact ⟨_,I',q⟩)
def zdW:V->Bool
 | .non=>true
 | .bl _=>true
 | .int _=>true
 | .str _=>true
 | _=>false
def eqV:V->V->Bool
 | .non,.non=>true
 | .bl a,.bl b=>a == b
 | .bl a,.int b=>(if a then 1 else 0) == b
 | .int a,.bl b=>a == (if b then 1 else 0)
 | .int a,.int b=>a == b
 | .str a,.str b=>a == b
 | _,_=>false
theorem zmH {A:Around}{s:Shared}{y x:V}{u v:Value} (ry:RelV y u) (rx:RelV x v) (fy:zdW y = true) (fx:zdW x = true):SeqAt.EqAt A s u v (eqV y x):=by
 cases y with
 | non=>
  cases ry
  cases x with
  | non=>cases rx; exact SeqAt.EqAt.same _
  | bl b=>cases rx; exact SeqAt.EqAt.none_bool b
  | int b=>obtain ⟨t,rfl⟩:=rx; exact SeqAt.EqAt.none_int b t
  | str b=>obtain ⟨t,rfl⟩:=rx; exact SeqAt.EqAt.none_str b t
  | _=>exact absurd (show false = true from fx) Bool.false_ne_true
 | bl a=>
  cases ry
  cases x with
  | non=>cases rx; exact SeqAt.EqAt.bool_none a
  | bl b=>cases rx; exact SeqAt.EqAt.bool_bool a b
  | int b=>obtain ⟨t,rfl⟩:=rx; exact SeqAt.EqAt.bool_int a b t
  | str b=>obtain ⟨t,rfl⟩:=rx; exact SeqAt.EqAt.bool_str a b t
  | _=>exact absurd (show false = true from fx) Bool.false_ne_true
 | int a=>
  obtain ⟨t',rfl⟩:=ry
  cases x with
  | non=>cases rx; exact SeqAt.EqAt.int_none a t'
  | bl b=>cases rx; exact SeqAt.EqAt.int_bool a t' b
  | int b=>obtain ⟨t,rfl⟩:=rx; exact SeqAt.EqAt.int_int a t' b t
  | str b=>obtain ⟨t,rfl⟩:=rx; exact SeqAt.EqAt.int_str a t' b t
  | _=>exact absurd (show false = true from fx) Bool.false_ne_true
 | str a=>
  obtain ⟨t',rfl⟩:=ry
  cases x with
  | non=>cases rx; exact SeqAt.EqAt.str_none a t'
  | bl b=>cases rx; exact SeqAt.EqAt.str_bool a t' b
  | int b=>obtain ⟨t,rfl⟩:=rx; exact SeqAt.EqAt.str_int a t' b t
  | str b=>obtain ⟨t,rfl⟩:=rx; exact SeqAt.EqAt.str_str a t' b t
  | _=>exact absurd (show false = true from fx) Bool.false_ne_true
 | _=>exact absurd (show false = true from fy) Bool.false_ne_true
def eqU (x:V) (u:Value):Bool:=match u with
 | .none=>eqV .non x
 | .bool b=>eqV (.bl b) x
 | .int i _=>eqV (.int i) x
 | .str z _=>eqV (.str z) x
 | _=>false
theorem zk4 {x y:V}{u:Value} (r:RelV y u) (f:zdW y = true):eqU x u = eqV y x:=by
 cases y with
 | non=>cases r; rfl
 | bl b=>cases r; rfl
 | int i=>obtain ⟨t,rfl⟩:=r; rfl
 | str z=>obtain ⟨t,rfl⟩:=r; rfl
 | _=>exact absurd (show false = true from f) Bool.false_ne_true
theorem zcY {x:V}:∀ {xs:List V}{us:List Value},Vals xs us->xs.all zdW = true->us.any (eqU x) = xs.any fun y=>eqV y x
 | _,_,.nil,_=>rfl
 | y :: xs,u :: us,.cons r t,f=>by
  rw [List.all_cons,Bool.and_eq_true] at f
  rw [List.any_cons,List.any_cons,zk4 r f.1,zcY t f.2]
theorem zbZ {A:Around}{s:Shared}{x:V}{v:Value} (rx:RelV x v) (fx:zdW x = true):∀ {xs:List V}{us:List Value},Vals xs us->xs.all zdW = true->∀ u∈us,SeqAt.EqAt A s u v (eqU x u)
 | _,_,.nil,_=>fun u hu=>by cases hu
 | y :: xs,u :: us,.cons r t,f=>fun u' hu=>by
  rw [List.all_cons,Bool.and_eq_true] at f
  rcases List.mem_cons.mp hu with rfl | hu
  ·rw [zk4 r f.1]; exact zmH r rx f.1 fx
  ·exact zbZ rx fx t f.2 u' hu
def inV (x:V) (xs:List V):Bool:=xs.any fun y=>eqV y x
def rIn (K:PySem.W.Frag) (neg:Bool):R2:=fun x y H Q=>∃ p xs,y = .ref p/\(SqL K H p xs\/SqT K H p xs)/\zdW x = true/\xs.all zdW = true/\Q (.bl (if neg then !inV x xs else inV x xs)) H
theorem ZQ:OpR X (compareOp .In) (rIn X.K false):=by
 intro zp s σ H x y v u Q I rx ry h
 obtain ⟨p,xs,rfl,hq,fx,fs,q⟩:=h
 cases ry
 rcases hq with hq | hq
 ·obtain ⟨its,r,pl,hz⟩:=I.list hq
  refine SeqAt.in_listAt (eqU x) pl.isList (fun w hw=>zbZ rx fx r fs w (by simpa using hw)) ⟨.bl _,H,I,rfl,?_⟩
  rw [show its.toArray.any (eqU x) = its.any (eqU x) by simp,zcY r fs]
  exact q
 ·obtain ⟨its,r,pl,hz⟩:=I.tuple hq
  refine SeqAt.in_tupleAt (eqU x) pl (fun w hw=>zbZ rx fx r fs w (by simpa using hw)) ⟨.bl _,H,I,rfl,?_⟩
  rw [show its.toArray.any (eqU x) = its.any (eqU x) by simp,zcY r fs]
  exact q
theorem zbc:OpR X (compareOp .NotIn) (rIn X.K true):=by
 intro zp s σ H x y v u Q I rx ry h
 obtain ⟨p,xs,rfl,hq,fx,fs,q⟩:=h
 cases ry
 rcases hq with hq | hq
 ·obtain ⟨its,r,pl,hz⟩:=I.list hq
  refine SeqAt.notIn_listAt (eqU x) pl.isList (fun w hw=>zbZ rx fx r fs w (by simpa using hw)) ⟨.bl _,H,I,rfl,?_⟩
  rw [show its.toArray.any (eqU x) = its.any (eqU x) by simp,zcY r fs]
  exact q
 ·obtain ⟨its,r,pl,hz⟩:=I.tuple hq
  refine SeqAt.notIn_tupleAt (eqU x) pl (fun w hw=>zbZ rx fx r fs w (by simpa using hw)) ⟨.bl _,H,I,rfl,?_⟩
  rw [show its.toArray.any (eqU x) = its.any (eqU x) by simp,zcY r fs]
  exact q
theorem zaq:zaL X (.type "list") (fun xs H Q=>∃ p ys,xs = [.ref p]/\(SqL X.K H p ys\/SqT X.K H p ys)/\∀ l,H l = none->Q (.ref l) (upd H l (.lst ys))):=by
 intro zp s σ H xs us Q I r h
 obtain ⟨p,ys,rfl,hq,q⟩:=h
 obtain ⟨u,rfl,rx⟩:=zbN r
 cases rx
 have fin:∀ (its:List Value),Vals ys its->ys.length<=sizeLine->∀ (h':Heap) (c':Nat),(∀ b o',s.heap.get? b = some o'->h'.get? b = some o')->
   h'.get? s.heap.objs.size = some { cls:=.type "list",dict:=none,data:=.seq its.toArray c',slots:=#[] }->EP X zp σ Q (.ref s.heap.objs.size) { s with heap:=h' }:=fun its r' hz h' c' kp e=>
  ⟨.ref s.heap.objs.size,_,I.laid (t':=s.toks) kp (Nat.le_refl _) (show ZO X.prog X.w _ h' _ (.lst ys) from ⟨hz,its,c',r',e⟩),rfl,q _ (I.hok.fresh (Nat.le_refl _))⟩
 rcases hq with hq | hq
 ·obtain ⟨its,r',pl,hz⟩:=I.list hq
  have hlen:=r'.length
  obtain ⟨o,ho,hc,n,hd⟩:=pl.isList
  exact call_list_seq p (.inl rfl) ho hc hd (fun h' c' kp e=>fin its r' hz h' c' kp e) (by simp only [List.size_toArray] <;> omega)
 ·obtain ⟨its,r',pl,hz⟩:=I.tuple hq
  have hlen:=r'.length
  obtain ⟨o,ho,hc,n,hd⟩:=pl
  exact call_list_seq p (.inr rfl) ho hc hd (fun h' c' kp e=>fin its r' hz h' c' kp e) (by simp only [List.size_toArray] <;> omega)
theorem Zw:zaL X (.type "tuple") (fun xs H Q=>∃ p ys,xs = [.ref p]/\((SqL X.K H p ys/\∀ l,H l = none->Q (.ref l) (upd H l (.tup ys)))\/(SqT X.K H p ys/\Q (.ref p) H))):=by
 intro zp s σ H xs us Q I r h
 obtain ⟨p,ys,rfl,h⟩:=h
 obtain ⟨u,rfl,rx⟩:=zbN r
 cases rx
 rcases h with ⟨hq,q⟩ | ⟨hq,q⟩
 ·obtain ⟨its,r',pl,hz⟩:=I.list hq
  have hlen:=r'.length
  refine call_tuple_list pl.isList (fun h' kp=>?_) (by simp only [List.size_toArray] <;> omega)
  have I1:Inv X zp σ H { s with heap:=h' }:=I.kept (t':=s.toks) kp
  have I2:Inv X zp σ (upd H h'.objs.size (.tup ys)) { s with heap:=h'.push { cls:=.type "tuple",data:=.seq its.toArray } }:=
   I1.laid (t':=s.toks) (fun b o e=>Heap.get?_push_of_some _ e) (Nat.le_refl _) (show ZO X.prog X.w _ _ _ (.tup ys) from ⟨hz,its,r',IsTup.new _ _⟩)
  exact ⟨.ref h'.objs.size,_,I2,rfl,q _ (I1.hok.fresh (Nat.le_refl _))⟩
 ·obtain ⟨its,r',pl,hz⟩:=I.tuple hq
  exact call_tuple_same pl ⟨.ref p,H,I,rfl,q⟩
def tyV (K:PySem.W.Frag) (T:String) (x:V) (H:Hp):Prop:=match x with
 | .str _=>T = "str"
 | .int _=>T = "int"
 | .ref p=>(T = "list"/\∃ xs,SqL K H p xs)\/(T = "tuple"/\∃ o,K.lookup p = some o/\o.cls = .type "tuple"/\o.dict = none) \/
   (T = "dict"/\((∃ kvs,H p = some (.dK kvs))\/∃ kvs,H p = some (.dT kvs)))\/(T = "set"/\∃ S n,H p = some (.set S n))
 | _=>False
theorem zk5 {zp:List (Addr × Obj)}{σ:St}{H:Hp}{s:Shared}{T:String}{x:V}{v:Value} (I:Inv X zp σ H s) (r:RelV x v) (ty:tyV X.K T x H):
  s.TypeIs v T/\∀ a,v = .ref a->∃ ob,s.heap.get? a = some ob/\ob.dict = none:=by
 cases x with
 | str z=>
  obtain ⟨t,rfl⟩:=r
  cases (show T = "str" from ty)
  exact ⟨typeIs_str s z t,fun _ e=>nomatch e⟩
 | int i=>
  obtain ⟨t,rfl⟩:=r
  cases (show T = "int" from ty)
  exact ⟨typeIs_int s i t,fun _ e=>nomatch e⟩
 | ref p=>
  cases r
  rcases ty with ⟨rfl,xs,hq⟩ | ⟨rfl,o,hk,hc,hd⟩ | ⟨rfl,hk⟩ | ⟨rfl,S,n,hk⟩
  ·obtain ⟨its,_,pl,_⟩:=I.list hq
   refine ⟨pl.isList.typeIs,fun a e=>?_⟩
   cases e
   obtain ⟨o,n,e,c,hd,_⟩:=pl
   exact ⟨o,e,hd⟩
  ·refine ⟨⟨o,I.kIn p o hk,hc⟩,fun a e=>?_⟩
   cases e
   exact ⟨o,I.kIn _ o hk,hd⟩
  ·have z:∃ o,s.heap.get? p = some o/\o.ExactDict:=by
    rcases hk with ⟨kvs,hk⟩ | ⟨kvs,hk⟩
    ·obtain ⟨_,_,_,_,o,_,_,e,ex,_⟩:=I.hok p _ hk
     exact ⟨o,e,ex⟩
    ·obtain ⟨_,_,_,_,o,_,_,e,ex,_⟩:=I.hok p _ hk
     exact ⟨o,e,ex⟩
   obtain ⟨o,e,ex⟩:=z
   refine ⟨⟨o,e,ex.1⟩,fun a e2=>?_⟩
   cases e2
   exact ⟨o,e,ex.2.1⟩
  ·obtain ⟨o,_,_,_,e,ex,_⟩:=I.hok p _ hk
   refine ⟨⟨o,e,ex.1⟩,fun a e2=>?_⟩
   cases e2
   exact ⟨o,e,ex.2.1⟩
 | _=>exact False.elim ty
def tBM0 (K:PySem.W.Frag) (T:String) (r:V->List V->Hp->VK->Prop) (to:TE):TE:=fun σ H Q=>to σ H fun x H1=>tyV K T x H1/\r x [] H1 Q
def tBM (K:PySem.W.Frag) (T:String) (r:V->List V->Hp->VK->Prop) (to:TE) (t:TA):TE:=fun σ H Q=>to σ H fun x H1=>tyV K T x H1/\t σ H1 fun xs H2=>r x xs H2 Q
variable {o e:Expr}{es:List Expr}{to:TE}{t:TA}{name:Str}{apos cpos:Pos}{T id:String}{r:V->List V->Hp->VK->Prop}
theorem zcZ (pa:PlainAttrs T) (slot:Slot T name id) (hty:typeOf (.builtin id) = pure (.type "method_descriptor")) (hm:MtR X id r) (ho:PE X o to)
  (hbase:attributeBase o name X.env (eval o X.env) = eval o X.env:=by rfl) (hline:(apos.endLine == cpos.line) = true:=by rfl):PE X (.Call (.Attribute o name apos) [] [] cpos) (tBM0 X.K T r to):=by
 intro zp s σ H Q I h
 refine wpAny_Call_method0_late hbase hline (thn (ho zp s σ H _ I h) fun v s1 ⟨x,H1,I1,r1,ty,q1⟩=>?_)
 obtain ⟨h1,h2⟩:=zk5 I1 r1 ty
 exact ⟨T,id,pa,slot,hty,h1,h2,Calls.callWith_builtin rfl (PySem.evalArgs_none (hm zp s1 σ H1 x [] v [] Q I1 r1 .nil q1))⟩
theorem zaE (pa:PlainAttrs T) (slot:Slot T name id) (hty:typeOf (.builtin id) = pure (.type "method_descriptor")) (hm:MtR X id r) (ho:PE X o to) (ha:PA X (e :: es) t)
  (hbase:attributeBase o name X.env (eval o X.env) = eval o X.env:=by rfl)
  (hfew:((backTo cpos (starEach (e :: es) X.env)).all (fun x=>!x.1) && (backToKw cpos (keywordEach [] X.env)).all (fun x=>x.1.isSome)
   && decide ((e :: es).length + ([]:List Keyword).length + (if ([]:List Keyword).isEmpty then 0 else 1) < 30)) = true:=by rfl)
  (hline:(apos.endLine == cpos.line) = true:=by rfl) (hs:starEach (e :: es) X.env = (false,eval e X.env) :: starEach es X.env:=by rfl) (hplain:(backTo cpos (starEach es X.env)).any (·.1) = false:=by rfl):
  PE X (.Call (.Attribute o name apos) (e :: es) [] cpos) (tBM X.K T r to t):=by
 intro zp s σ H Q I h
 refine wpAny_Call_method_late hbase hfew hline rfl (thn (ho zp s σ H _ I h) fun v s1 ⟨x,H1,I1,r1,ty,q1⟩=>?_)
 obtain ⟨h1,h2⟩:=zk5 I1 r1 ty
 refine ⟨T,id,pa,slot,hty,h1,h2,?_⟩
 have hA:=ha cpos zp s1 σ H1 _ I1 q1
 rw [hs] at hA ⊢
 refine Calls.callWith_builtin (by show (false || (backTo cpos (starEach es X.env)).any (·.1)) = false; rw [hplain] <;> rfl) (Calls.evalArgs_plain ?_)
 exact thn hA fun us s2 ⟨vs,H2,I2,r2,q2⟩=>hm zp s2 σ H2 x vs v us Q I2 r1 r2 q2
end
def MtM (X:Cx) (id:String) (r:V->List V->Hp->VK->Prop):Prop:=
 ∀ (zp:List (Addr × Obj)) (s:Shared) (σ:St) (H:Hp) (x:V) (xs:List V) (v:Value) (us:List Value) (Q:VK),Inv X zp σ H s->RelV x v->Vals xs us->r x xs H Q->
  wpAny (model X.prog X.w) X.A (call (.builtin id) (v :: us)) (EP X zp σ Q) X.xe s
theorem Vals.one:∀ {x:V}{us:List Value},Vals [x] us->∃ u,us = [u]/\RelV x u
 | _,_,.cons r .nil=>⟨_,rfl,r⟩
theorem Vals.zero:∀ {us:List Value},Vals [] us->us = []
 | _,.nil=>rfl
theorem Vals.dropLast {xs:List V}{us:List Value} (h:Vals xs us):Vals xs.dropLast us.dropLast:=by
 induction h with
 | nil=>exact .nil
 | cons r t ih=>
  cases t with
  | nil=>exact .nil
  | cons q t'=>exact .cons r ih
theorem Vals.rep {xs:List V}{us:List Value} (h:Vals xs us):∀ k:Nat,Vals (List.replicate k xs).flatten (List.replicate k us).flatten
 | 0=>.nil
 | k + 1=>by
  rw [List.replicate_succ,List.replicate_succ,List.flatten_cons,List.flatten_cons]
  exact Vals.append h (Vals.rep h k)
theorem zhv {α:Type} (l:List α):l.eraseIdx (l.length - 1) = l.dropLast:=by
 induction l with
 | nil=>rfl
 | cons a r ih=>
  cases r with
  | nil=>rfl
  | cons b r=>
   have e:(a :: b :: r).length - 1 = ((b :: r).length - 1) + 1:=by
    have h1:(a :: b :: r).length = r.length + 2:=rfl
    have h2:(b :: r).length = r.length + 1:=rfl
    omega
   rw [e,List.eraseIdx_cons_succ,ih]
   all_goals rfl
theorem zeX (its:List Value):∀ (k:Nat) (acc:List Value),
  List.foldl (fun x1 x2=>x1 ++ x2) acc.toArray (List.replicate k its.toArray) = (acc ++ (List.replicate k its).flatten).toArray
 | 0,acc=>by simp
 | k + 1,acc=>by
  have e:acc.toArray ++ its.toArray = (acc ++ its).toArray:=by simp
  have e2:(acc ++ its) ++ (List.replicate k its).flatten = acc ++ (List.replicate (k + 1) its).flatten:=by
   rw [List.replicate_succ,List.flatten_cons,List.append_assoc]
  rw [← e2,← zeX its k (acc ++ its),← e,List.replicate_succ,List.foldl_cons]
section
variable {X:Cx}{zp:List (Addr × Obj)}{σ:St}{H:Hp}{s:Shared}{l b:Addr}{xs ys zs:List V}
theorem Inv.lset {its its':List Value}{n:Nat}{f:Array Value->Array Value}{t':Nat} (I:Inv X zp σ H s) (hH:H l = some (.lst xs))
  (e:s.heap.get? l = some { cls:=.type "list",data:=.seq its.toArray n }) (hf:f its.toArray = its'.toArray) (hv:Vals ys its') (hz:ys.length<=sizeLine):
  Inv X zp σ (upd H l (.lst ys)) { s with heap:=s.heap.update l (Obj.mapSeq f),toks:=t' }:=by
 have q:=PySem.IsL.update e f
 rw [hf] at q
 refine I.write (x:=l) (e:=l) (by rw [hH]; exact trivial) (.inl rfl) (fun b' u hb hu=>(Heap.get?_update_other s.heap (Obj.mapSeq f) (Ne.symm hb)).trans hu) ⟨_,q⟩ ?_
 exact ⟨hz,its',_,hv,q⟩
theorem Inv.lnew {its:List Value}{t':Nat} (I:Inv X zp σ H s) (hv:Vals ys its) (hz:ys.length<=sizeLine):
  Inv X zp σ (upd H s.heap.objs.size (.lst ys)) { s with heap:=s.heap.push { cls:=.type "list",data:=.seq its.toArray },toks:=t' }:=
 I.laid (fun _ _ q=>Heap.get?_push_of_some _ q) (Nat.le_refl _) ⟨hz,its,0,hv,Heap.get?_push_size _ rfl⟩
theorem Inv.fresh (I:Inv X zp σ H s):H s.heap.objs.size = none:=I.hok.fresh (Nat.le_refl _)
theorem Inv.lstM (I:Inv X zp σ H s) (hH:H l = some (.lst xs)):xs.length<=sizeLine/\∃ (its:List Value) (n:Nat),Vals xs its/\xs.length = its.length/\s.heap.get? l = some { cls:=.type "list",data:=.seq its.toArray n }:=by
 obtain ⟨z,its,n,r,e⟩:=I.hok l _ hH
 exact ⟨z,its,n,r,r.length,e⟩
theorem zgr {n:Nat} (h:n<=sizeLine):Builtin.List.listTooLong n = false:=by
 unfold Builtin.List.listTooLong
 exact decide_eq_false (by omega)
end
section
variable {X:Cx}
def zlw:V->List V->Hp->VK->Prop:=fun x vs H Q=>∃ l xs y,x = .ref l/\vs = [y]/\H l = some (.lst xs)/\xs.length < sizeLine/\Q .non (upd H l (.lst (xs ++ [y])))
theorem ZR:MtM X "list.append" zlw:=by
 intro zp s σ H x vs v us Q I rx rv h
 obtain ⟨l,xs,y,rfl,rfl,hH,hz,q⟩:=h
 cases rx
 obtain ⟨u,rfl,ru⟩:=rv.one
 obtain ⟨z,its,n,r,hl,e⟩:=I.lstM hH
 refine call_meets F.slot_list_append ⟨_,e,rfl⟩ F.entry_list_append (F.args_list_append_2 _ _) (PySem.list_append l its.toArray n u (by rw [List.size_toArray]; omega)) ⟨e,?_⟩
 refine ⟨.non,_,I.lset (its':=its ++ [u]) hH e (by simp) (r.append (.cons ru .nil)) ?_,rfl,q⟩
 rw [List.length_append,List.length_singleton]
 omega
def zlx:V->List V->Hp->VK->Prop:=fun x vs H Q=>∃ l b xs zs,x = .ref l/\vs = [.ref b]/\H l = some (.lst xs)/\H b = some (.lst zs)/\xs.length + zs.length<=sizeLine/\Q .non (upd H l (.lst (xs ++ zs)))
theorem zc0:MtM X "list.extend" zlx:=by
 intro zp s σ H x vs v us Q I rx rv h
 obtain ⟨l,b,xs,zs,rfl,rfl,hH,hB,hz,q⟩:=h
 cases rx
 obtain ⟨u,rfl,ru⟩:=rv.one
 cases ru
 obtain ⟨z,its,n,r,hl,e⟩:=I.lstM hH
 obtain ⟨z2,its2,n2,r2,hl2,e2⟩:=I.lstM hB
 have hsz:its.toArray.size + its2.toArray.size<=sizeLine:=by rw [List.size_toArray,List.size_toArray]; omega
 have hlong:¬ (!its.toArray.isEmpty && Builtin.List.listTooLong (its.toArray.size + its2.toArray.size)) = true:=by
  rw [zgr hsz,Bool.and_false]
  exact Bool.false_ne_true
 refine call_meets F.slot_list_extend ⟨_,e,rfl⟩ F.entry_list_extend (F.args_list_extend_2 _ _)
  (AutoSeq1.list_extend_list_list_0 l its.toArray n b its2.toArray n2 hlong (by rw [List.size_toArray]; omega) (by omega)) ⟨e,e2,?_⟩
 refine ⟨.non,_,I.lset (its':=its ++ its2) hH e (by simp) (r.append r2) ?_,rfl,q⟩
 rw [List.length_append]
 omega
def rPop:V->List V->Hp->VK->Prop:=fun x vs H Q=>∃ l xs y,x = .ref l/\vs = []/\H l = some (.lst xs)/\xs[xs.length - 1]? = some y/\Q y (upd H l (.lst xs.dropLast))
theorem zis:MtM X "list.pop" rPop:=by
 intro zp s σ H x vs v us Q I rx rv h
 obtain ⟨l,xs,y,rfl,rfl,hH,hy,q⟩:=h
 cases rx
 have hus:=rv.zero
 subst hus
 obtain ⟨z,its,n,r,hl,e⟩:=I.lstM hH
 obtain ⟨u,hu,ru⟩:=r.get hy
 have hy':its.toArray[its.toArray.size - 1]? = some u:=by
  show its.toArray[its.length - 1]? = some u
  rw [← Array.getElem?_toList,← hl]
  exact hu
 refine call_meets F.slot_list_pop ⟨_,e,rfl⟩ F.entry_list_pop (F.args_list_pop_1 _) (MeetsSeq.list_pop_last l its.toArray n u hy' (by rw [List.size_toArray]; omega)) ⟨e,?_⟩
 refine ⟨y,_,I.lset (its':=its.dropLast) hH e ?_ r.dropLast ?_,ru,q⟩
 ·show its.toArray.eraseIdxIfInBounds (its.toArray.size - 1) = its.dropLast.toArray
  rw [List.size_toArray,List.eraseIdxIfInBounds_toArray,zhv]
 ·rw [List.length_dropLast]
  omega
def rCat:R2:=fun x y H Q=>∃ l b xs zs,x = .ref l/\y = .ref b/\H l = some (.lst xs)/\H b = some (.lst zs)/\xs.length + zs.length<=sizeLine/\∀ p,H p = none->Q (.ref p) (upd H p (.lst (xs ++ zs)))
theorem ZZ:OpR X (binaryOp .Add) rCat:=by
 intro zp s σ H x y v u Q I rx ry h
 obtain ⟨l,b,xs,zs,rfl,rfl,hH,hB,hz,q⟩:=h
 cases rx
 cases ry
 obtain ⟨z,its,n,r,hl,e⟩:=I.lstM hH
 obtain ⟨z2,its2,n2,r2,hl2,e2⟩:=I.lstM hB
 refine PySem.P.add_list e e2 ?_ (by rw [List.size_toArray,List.size_toArray]; omega)
 have ea:its.toArray ++ its2.toArray = (its ++ its2).toArray:=by simp
 rw [ea]
 exact ⟨.ref _,_,I.lnew (t':=s.toks) (r.append r2) (by rw [List.length_append]; omega),rfl,q _ I.fresh⟩
def rRep:R2:=fun x y H Q=>∃ l k xs,x = .ref l/\y = .int k/\H l = some (.lst xs)/\-(2 ^ 63)<=k/\k < 2 ^ 63/\xs.length * k.toNat<=sizeLine /\
 ∀ p,H p = none->Q (.ref p) (upd H p (.lst (List.replicate k.toNat xs).flatten))
theorem zly {α:Type} (xs:List α) (k:Nat):(List.replicate k xs).flatten.length = k * xs.length:=by
 induction k with
 | zero=>simp
 | succ k ih=>rw [List.replicate_succ,List.flatten_cons,List.length_append,ih,Nat.succ_mul,Nat.add_comm]
theorem zeY:OpR X (binaryOp .Mult) rRep:=by
 intro zp s σ H x y v u Q I rx ry h
 obtain ⟨l,k,xs,rfl,rfl,hH,h1,h2,hz,q⟩:=h
 cases rx
 obtain ⟨t,rfl⟩:=ry
 obtain ⟨z,its,n,r,hl,e⟩:=I.lstM hH
 have hlen:its.toArray.size * k.toNat<=sizeLine:=by rw [List.size_toArray,← hl]; exact hz
 have hcap:¬ its.toArray.size * k.toNat > (2 ^ 63 - 1) / 8:=by
  have:(sizeLine:Nat)<=(2 ^ 63 - 1) / 8:=by decide
  omega
 have hfit:¬ (!Builtin.List.listFitsIndex k) = true:=by
  rw [fitsIndex_both h1 h2]
  exact Bool.false_ne_true
 have hlong:¬ Builtin.List.listTooLong (its.toArray.size * k.toNat) = true:=by
  rw [zgr hlen]
  exact Bool.false_ne_true
 have hnew:List.foldl (fun x1 x2=>x1 ++ x2) #[] (List.replicate (if its.toArray.isEmpty = true then 0 else k.toNat) its.toArray) = (List.replicate k.toNat its).flatten.toArray:=by
  have f0:∀ m:Nat,List.foldl (fun x1 x2=>x1 ++ x2) #[] (List.replicate m its.toArray) = (List.replicate m its).flatten.toArray:=fun m=>by
   have:=zeX its m []
   rw [List.nil_append] at this
   exact this
  rw [f0]
  cases its with
  | nil=>simp
  | cons a r'=>rw [if_neg (by simp)]
 refine wpAny_binaryOp_repeat_ref (T:="list") (U:="int") (by decide) ⟨_,e,rfl⟩ (fun s'=>typeIs_int s' k t) noFill_list_mul F.fills_int_mul F.slot_int_rmul repeat_list F.slot_int_index.lookup
  (call_meets F.slot_int_rmul (typeIs_int s k t) F.entry_int_rmul (F.args_int_rmul_2 _ _) (int___rmul___int_list k t l its.toArray n)
   ⟨e,rfl,⟨_,e,rfl⟩,call_meets F.slot_list_mul ⟨_,e,rfl⟩ F.entry_list_mul (F.args_list_mul_2 _ _) (AutoListH.list___mul___list_int_3 l its.toArray n k t hfit hcap hlong) ⟨e,?_⟩⟩)
 rw [hnew]
 exact ⟨.ref _,_,I.lnew (t':=s.toks) (r.rep k.toNat) (by rw [zly,Nat.mul_comm]; exact hz),rfl,q _ I.fresh⟩
end
section
variable {prog:Program}{w:World}{A:Around}{E:Value->Shared->Prop}{s:Shared}
set_option maxRecDepth 100000 in
end
section
variable {X:Cx}
end
end L2
namespace Att
open PySem PySem.W PySem.Calls PyProof.Rows
theorem zc1 {P:Params}{h:Heap}:∀ (ns:List Int) (vs:List Value),WellAll P h vs (ns.map WData.int)->IntsAre vs ns:=by
 intro ns
 induction ns with
 | nil=>
  intro vs w
  rw [List.map_nil] at w
  cases w
  exact .nil
 | cons n ns ih=>
  intro vs w
  rw [List.map_cons] at w
  cases w with
  | cons a b=>
   cases a
   exact .cons _ _ (ih _ b)
theorem zit {l:OpenLaw}{n:Nat} (hn:l.most = some n) {P:Params}{h:Heap}{args:List WData}{vals:List Value}
  (hpre:l.row.toRowW.claim.pre args = true) (hwl:WellAll P h vals args):
  ∃ a vs ns,vals = [Value.ref a]/\args = [WData.list (ns.map WData.int)]/\h.get? a = some { cls:=.type "list",data:=.seq vs.toArray }/\IntsAre vs ns/\ns.length<=n:=by
 have hsh:WShape.hasAll [] args [.list .int] = true:=(pre_splitW hpre).1
 have hc:l.pre.holds [] { args:=args } = true:=(pre_splitW hpre).2
 obtain ⟨d,r,rfl,h1,h2⟩:=hasAllW_cons hsh
 obtain rfl:=hasAllW_nil h2
 obtain ⟨xs,rfl,h3⟩:=hasW_list h1
 obtain ⟨ns,rfl⟩:=items_int h3
 have hlen:ns.length<=n:=by
  unfold OpenLaw.pre at hc
  have h4:(WTm.not (.lt (.lit (.int (n:Int))) (.len (.arg 0)))).holds [] { args:=[.list (ns.map .int)] } = true:=by
   have h4:=(holds_andW hc).1
   rw [hn] at h4
   exact h4
  have h5:=condW_of h4 (w_not (w_lt w_lit (w_len_list (w_arg rfl))))
  rw [List.length_map] at h5
  refine Nat.le_of_not_lt fun q=>?_
  have q':(n:Int) < ((ns.length:Nat):Int):=by omega
  first
   | (rw [decide_eq_true q'] at h5; exact absurd h5 (by decide))
   | (simp at h5; omega)
 cases hwl with
 | cons w1 w2=>
  cases w2
  cases w1 with
  | list ho hall=>exact ⟨_,_,ns,rfl,rfl,ho,zc1 ns _ hall,hlen⟩
theorem ziu (l:OpenLaw) (args:List WData):l.row.toRowW.claim.post args (.bool true) args = true:=
 postW_of (r:=l.row.toRowW) (X:=(true == true))
  (show WShape.has [] (.bool true) .bool = true by first | rfl | decide | simp [WShape.has,WShape.arms,WShape.armsAll])
  (show (WTm.eq .res (.lit (.bool true))).value [] { args:=args,res:=some (.bool true),after:=args } = some (.bool (true == true)) from w_eq_bool (w_res rfl) w_lit) rfl
theorem attach_call {l:OpenLaw}{n:Nat}{q:Program}{loose:List Str}{XP:(Str->Option Value)->Heap->Prop}{YP:World->Heap->Prop}{d:DefRec}
  (hn:l.most = some n) (hdf:d.params.defaults = [])
  (call:∀ (w:World) (s₀ s₁:Shared) (mg mb:Str->Option Value) (fa:Addr) (o:Obj) (pm cd doc:Value) (a:Addr) (vs:List Value) (ns:List Int),
   Ground q loose [] XP w s₀ mg mb s₁.heap->YP w s₁.heap->
   s₁.heap.get? fa = some o->o.data = .func (docDef d.name d.params d.body d.scope pm cd doc)->s₁.heap.CodeRec cd d.name->mg d.name = some (.ref fa)->
   s₁.heap.get? a = some { cls:=.type "list",data:=.seq vs.toArray }->IntsAre vs ns->ns.length<=n->s₁.gens = #[]->
   codeAny (model l.prog w) callerA (.call (.ref fa) ⟨[.ref a],[]⟩) (fun r s'=>r = .ok (.ret (.bool true))/\OldK s₁.heap s'.heap/\s'.os = s₁.os/\AllBare s'.gens) s₁):
  WalkO q loose XP YP l.row.toRowW d [] (fun f vs=>PySem.call f vs):=by
 intro w s₀ s₁ mg mb G Y fa o pm cd doc dV kV ho hd hcd hD hmg hg args vals as hpre hlay hrd hwl hlo
 obtain rfl:dV = .none:=Dflts.none hD hdf
 obtain rfl:kV = .none:=Dflts.noKw hD
 obtain ⟨a,vs,ns,rfl,rfl,hobj,hints,hlen⟩:=zit hn hpre hwl
 refine enter_call (codeAny_mono (call w s₀ s₁ mg mb fa o pm cd doc a vs ns G Y ho (fd_plain hd) hcd hmg hobj hints hlen hg) fun r s' hq=>?_)
 obtain ⟨rfl,h2,h3,h4⟩:=hq
 exact ⟨.inl ⟨.bool true,.bool true,[],rfl,fun _=>rfl,.bool true,ziu l _,fun _=>⟨List.Pairwise.nil,fun _ hm=>(nomatch hm)⟩⟩,h2,h3,h4⟩
section
variable {prog:Program}{w:World}{A:Around}{E:Value->Shared->Prop}{s:Shared}{K:Frag}
def ledger (h:Heap) (L d:Addr):List (Addr × Obj):=(List.range h.objs.size).filterMap fun a=>if a = L\/a = d then none else (h.get? a).map fun o=>(a,o)
end
end Att
namespace L2
open PySem PySem.Spec PyProof.Rows
theorem zeZ:∀ {vs:List Value}{ns:List Int},IntsAre vs ns->Vals (ns.map V.int) vs
 | _,_,.nil=>.nil
 | _,_,.cons n t h=>.cons ⟨t,rfl⟩ (zeZ h)
def Only (H:Hp):Prop:=∀ b,H b = none\/∃ o xs,H b = some (.frz o (.lst xs))
theorem zj8 {P:Program}{w:World}{K:PySem.W.Frag}{mg mb:Str->Option Value}{CX:CXT}{k:Nat}{fa a:Addr}{fd:FuncData}{x:Str}{sp:Sp}{s₁:Shared}{vs:List Value}{ns:List Int}
  (KX:K.In s₁.heap) (hns:s₁.heap.Ns mainGlobals mg) (hb:s₁.heap.Ns builtinsNs mb) (hbb:∀ x:Str,x≠"__name__"->mb x = bootBuiltins x) (hlim:s₁.heap.NoLimit) (hg:s₁.gens = #[])
  (ha:s₁.heap.get? a = some { cls:=.type "list",data:=.seq vs.toArray }) (hi:IntsAre vs ns) (hl:ns.length<=sizeLine) (hr:Room k callerA)
  (F:∀ base:Heap,K.In base->base.Ns mainGlobals mg->FnOk P w K mg base CX k fa fd [x] sp) (hbind:∀ (s:Shared) (u:Value),BindsTo s fd ⟨[u],[]⟩ [(x,u)])
  (hsp:∀ H:Hp,Only H->SqL K H a (ns.map V.int)->sp [.ref a] H (fun v _=>v = .bl true) fun _ _ _=>False)
  (hCX:∀ H e s',CX [] H s₁ (fun _ _ _=>False) e s'->False):
  codeAny (model P w) callerA (.call (.ref fa) ⟨[.ref a],[]⟩) (fun r s'=>r = .ok (.ret (.bool true))/\OldK s₁.heap s'.heap/\s'.os = s₁.os/\AllBare s'.gens) s₁:=by
 have rv:=zeZ hi
 have lenV:=hi.length
 have core:∀ H:Hp,Only H->SqL K H a (ns.map V.int)->HOk P w H s₁.heap->(∀ b,H b≠none->b = a)->(H a≠none->K.lookup a = none)->
   codeAny (model P w) callerA (.call (.ref fa) ⟨[.ref a],[]⟩) (fun r s'=>r = .ok (.ret (.bool true))/\OldK s₁.heap s'.heap/\s'.os = s₁.os/\AllBare s'.gens) s₁:=by
  intro H hO hS hok hA hK
  have base_of:∀ {b:Addr}{o:Obj},s₁.heap.get? b = some o->H b = none->(hidT s₁.heap H).get? b = some o:=fun e n=>zjU e n
  have noA:∀ {b:Addr}{o:Obj}{es:Array DictEntry}{ep:Nat},s₁.heap.get? b = some o->o.data = .dict es ep->H b = none:=fun {b o es ep} e d=>by
   cases q:H b with
   | none=>rfl
   | some u=>
    have e':b = a:=hA b (by rw [q]; simp)
    subst e'
    rw [ha] at e; cases e
    have d':Data.seq vs.toArray _ = Data.dict es ep:=d
    cases d'
  have nsK:∀ {b:Addr}{m:Str->Option Value},s₁.heap.Ns b m->(hidT s₁.heap H).Ns b m:=fun {b m} ⟨o,es,ep,e,d,r⟩=>⟨o,es,ep,base_of e (noA e d),d,r⟩
  have hKb:K.In (hidT s₁.heap H):=fun b o e=>base_of (KX b o e) (by
   cases q:H b with
   | none=>rfl
   | some u=>
    have e':b = a:=hA b (by rw [q]; simp)
    subst e'
    rw [hK (by rw [q]; simp)] at e; cases e)
  have hM:Mod K mg (hidT s₁.heap H):=⟨hKb,nsK hns,⟨mb,nsK hb,hbb⟩,let ⟨mc,h1,h2⟩:=hlim; ⟨mc,nsK h1,h2⟩⟩
  have e0:Env0 P w K mg (hidT s₁.heap H) callerA [] s₁ H:=⟨rfl,hM,fun b o e=>zlq e,Nat.le_of_eq (zh8 _ _),trivial,fun b hb=>absurd (show b∈([]:List Addr) from hb) (by simp),hok,.of_eq hg⟩
  refine codeAny_mono ((F _ hKb (nsK hns)).run callerA [] s₁ H ⟨[.ref a],[]⟩ [.ref a] [.ref a] _ _ hr e0 (hbind s₁ (.ref a)) (.cons rfl .nil) (hsp H hO hS)) fun r s' h=>?_
  cases r with
  | error e=>exact (hCX H e s' h).elim
  | ok fl=>
   cases fl with
   | next=>exact False.elim h
   | brk=>exact False.elim h
   | cont=>exact False.elim h
   | ret u=>
    obtain ⟨v,H',os,bare,un,hok',r',q⟩:=h
    have q':v = .bl true:=q
    subst q'
    obtain rfl:u = Value.bool true:=r'
    refine ⟨rfl,OldK.of_keep fun b o e=>?_,os,bare⟩
    cases q:H b with
    | none=>exact un.keep b o e q (by intro z; exact absurd (show b∈([]:List Addr) from z) (by simp)) (by simp)
    | some u=>
     rcases hO b with z | ⟨ob,xs,z⟩
     ·rw [q] at z; cases z
     ·have z2:=un.frzs b ob _ z
      obtain ⟨e1,_⟩:=hok b _ z
      obtain ⟨e2,_⟩:=hok' b _ z2
      rw [e] at e1; cases e1
      exact e2
 cases hk:K.lookup a with
 | some o=>
  have e:=KX a o hk
  rw [ha] at e
  cases e
  refine core (fun _=>none) (fun _=>.inl rfl) (.inr ⟨_,vs.toArray,_,hk,rfl,rfl,rfl,by rw [List.size_toArray,lenV]; exact hl,by simpa using rv⟩) (fun b u z=>by have z':(none:Option HO) = some u:=z; cases z') (fun b z=>absurd rfl z) fun z=>absurd rfl z
 | none=>
  refine core (fun b=>if b = a then some (.frz { cls:=.type "list",data:=.seq vs.toArray } (.lst (ns.map V.int))) else none) (fun b=>?_) (.inl (.inr ⟨{ cls:=.type "list",data:=.seq vs.toArray },if_pos rfl⟩)) (fun b u z=>?_) (fun b z=>?_) fun _=>hk
  ·by_cases hb:b = a
   ·exact .inr ⟨_,_,if_pos hb⟩
   ·exact .inl (if_neg hb)
  ·by_cases hb:b = a
   ·have z':=(if_pos hb).symm.trans z
    cases z'
    subst hb
    exact ⟨ha,by rw [List.length_map]; exact hl,vs,_,rv,ha⟩
   ·have z':=(if_neg hb).symm.trans z
    cases z'
  ·by_cases hb:b = a
   ·exact hb
   ·exact absurd (if_neg hb) z
abbrev KOf {K:PySem.W.Frag}{h:Heap} (_:K.In h):PySem.W.Frag:=K
theorem zlz {l:PySem.W.OpenLaw}{n k:Nat}{q:Program}{loose:List Str}{XP:(Str->Option Value)->Heap->Prop}{YP:World->Heap->Prop}{d:DefRec}{K:Params->PySem.W.Frag}{CX:World->CXT}{sp:World->Sp}{x:Str}
  (hn:l.most = some n) (hn2:n<=sizeLine) (hdf:d.params.defaults = []) (hr:Room k callerA)
  (hY:∀ (w:World) (h:Heap),YP w h->(K w.params).In h)
  (F:∀ (w:World) (mg:Str->Option Value) (fa:Addr) (h:Heap),(K w.params).In h->h.Ns mainGlobals mg->mg d.name = some (.ref fa)->
   ∃ fd:FuncData,(∀ (s:Shared) (u:Value),BindsTo s fd ⟨[u],[]⟩ [(x,u)]) /\
    ∀ base:Heap,(K w.params).In base->base.Ns mainGlobals mg->FnOk l.prog w (K w.params) mg base (CX w) k fa fd [x] (sp w))
  (hsp:∀ (w:World) (H:Hp) (a:Addr) (ns:List Int),ns.length<=n->Only H->SqL (K w.params) H a (ns.map V.int)->sp w [.ref a] H (fun v _=>v = .bl true) fun _ _ _=>False)
  (hCX:∀ (w:World) (H:Hp) (s:Shared) (e:Value) (s':Shared),CX w [] H s (fun _ _ _=>False) e s'->False):
  PySem.W.WalkO q loose XP YP l.row.toRowW d [] (fun f vs=>PySem.call f vs):=by
 refine Att.attach_call hn hdf fun w s₀ s₁ mg mb fa o pm cd doc a vs ns G Y ho hd hcd hmg hobj hints hlen hg=>?_
 have KX:=hY w _ Y
 obtain ⟨fd,hb,hF⟩:=F w mg fa _ KX G.T.g hmg
 exact zj8 KX G.T.g G.T.b G.T.builtins G.T.nolimit hg hobj hints (Nat.le_trans hlen hn2) hr hF hb (fun H hO hS=>hsp w H a ns hlen hO hS) fun H e s'=>hCX w H s₁ e s'
end L2
namespace L2
open PySem PySem.Spec PyProof.Rows
def zcl (s:Stmt):Arguments:=match s with
 | .FunctionDef _ a _ _ _ _ _ _ _ _=>a
 | _=>{ posonlyargs:=[],args:=[],vararg:=none,kwonlyargs:=[],kw_defaults:=[],kwarg:=none,defaults:=[] }
def zaM (s:Stmt):List Stmt:=match s with
 | .FunctionDef _ _ b _ _ _ _ _ _ _=>b
 | _=>[]
def zl (s:Stmt):Scope:=match s with
 | .FunctionDef _ _ _ _ _ _ sc _ _ _=>sc
 | _=>{ kind:=.function,names:=[],isGenerator:=false,isCoroutine:=false }
abbrev CX0:CXT:=fun _ _ _ _ _ _=>False
abbrev E0:XK:=fun _ _ _=>False
theorem zmI {X:Cx}:Passes CX0 X E0:=fun _ _ _ _ _ _ _ h=>h.elim
structure Fun (K:PySem.W.Frag) (x qual:Str) (st:Stmt) (f:Addr) (fd:FuncData):Prop where
 ex:∃ (oc:Value) (od:Option Addr) (kV doc pm:Value) (an:Option Addr) (cdv ct:Value) (osl:Array (Option Value)),
  fd = fnOf x qual (zcl st) (zaM st) (zl st) .none kV doc pm an cdv ct/\K.lookup f = some ⟨oc,od,.func fd,osl⟩/\codeIn K cdv qual = true
 kp:keepIn K (.ref f) = true
section
variable {P:Program}{w:World}{K:PySem.W.Frag}{mg:Str->Option Value}{base:Heap}
theorem Fun.ok {x qual:Str}{st:Stmt}{f:Addr}{fd:FuncData}{N ps:List Str}{k:Nat}{sp:Sp} (F:Fun K x qual st f fd) (S:FnScope N ps (zl st)) (len:∀ vs H Q E,sp vs H Q E->vs.length = ps.length)
  (hbody:∀ (cdv:Value) (A:Around) (outer:List Env) (s:Shared) (H:Hp) (vs:List V) (Q:VK) (E:XK),Room k (A.deeper (envOfC qual (zl st) s.heap.objs.size f cdv))->sp vs H Q E->
   ∃ t,PSs (cxOf CX0 P w K mg base N qual (zl st) f cdv A outer s H E).nox (zaM st) t/\t { nx:=fun _ H'=>Q .non H',rt:=Q } (start N vs) H):FnOk P w K mg base CX0 (k + 1) f fd ps sp:=by
 obtain ⟨oc,od,kV,doc,pm,an,cdv,ct,osl,rfl,lk,hcd⟩:=F.ex
 refine zmE lk hcd S len fun A outer s H vs Q E hr hsp=>?_
 obtain ⟨t,h,q⟩:=hbody cdv A outer s H vs Q E hr hsp
 exact ⟨t,h.nox,q⟩
theorem Fun.binds {x qual:Str}{st:Stmt}{f:Addr}{fd:FuncData}{ps:List Str} (F:Fun K x qual st f fd)
  (h:∀ (kV doc pm:Value) (an:Option Addr) (cdv ct:Value) (us:List Value),us.length = ps.length->bindArgs (fnOf x qual (zcl st) (zaM st) (zl st) .none kV doc pm an cdv ct) ⟨us,[]⟩ = pure (ps.zip us)):Binds K fd ps []:=by
 obtain ⟨oc,od,kV,doc,pm,an,cdv,ct,osl,rfl,lk,hcd⟩:=F.ex
 exact .all (h kV doc pm an cdv ct)
theorem zA {x qual:Str}{st:Stmt}{f:Addr}{oc:Value}{od an:Option Addr}{osl:Array (Option Value)}{kV doc pm cdv ct:Value} (l:K.lookup f = some ⟨oc,od,.func (fnOf x qual (zcl st) (zaM st) (zl st) .none kV doc pm an cdv ct),osl⟩)
  (c:codeIn K cdv qual = true) (k:keepIn K (.ref f) = true):Fun K x qual st f (fnOf x qual (zcl st) (zaM st) (zl st) .none kV doc pm an cdv ct):=⟨⟨oc,od,kV,doc,pm,an,cdv,ct,osl,rfl,l,c⟩,k⟩
end
section
variable {X:Cx}
theorem pv (i:Nat) {x:Str}{pos:Pos} (hN:X.N[i]? = some x:=by rfl) (hv:Vis X.env.scope x:=by first | exact Or.inl rfl | exact Or.inr (Or.inl rfl) | exact Or.inr (Or.inr rfl)) (hd:(x == ("__debug__":Str)) = false:=by decide)
  (hcd:(x == ("__classdict__":Str)) = false:=by decide):PE X (.Name x pos) (tVar i):=zk0 hN hv hd hcd
end
theorem iteF {A B:Prop} (h:B):if false = true then A else B:=by
 rw [if_neg Bool.false_ne_true]
 exact h
theorem iteT {A B:Prop} (h:A):if true = true then A else B:=by
 rw [if_pos rfl]
 exact h
theorem ite2 {c A B:Prop} [Decidable c] (h1:c->A) (h2:¬ c->B):if c then A else B:=by
 by_cases h:c
 ·rw [if_pos h]
  exact h1 h
 ·rw [if_neg h]
  exact h2 h
def Same (H H':Hp):Prop:=∀ b o,H b = some o->H' b = some o
theorem Same.refl (H:Hp):Same H H:=fun _ _ h=>h
theorem Same.trans {H H1 H2:Hp} (a:Same H H1) (b:Same H1 H2):Same H H2:=fun c o h=>b c o (a c o h)
theorem Same.free {H H':Hp} (e:Same H H') {l:Addr} (h:H' l = Option.none):H l = Option.none:=by
 cases q:H l with
 | none=>rfl
 | some o=>
  rw [e l o q] at h
  cases h
theorem Same.seq {K:PySem.W.Frag}{H H':Hp}{a:Addr}{xs:List V} (e:Same H H') (h:SqL K H a xs):SqL K H' a xs:=by
 rcases h with (h | ⟨o,h⟩) | h
 ·exact .inl (.inl (e _ _ h))
 ·exact .inl (.inr ⟨o,e _ _ h⟩)
 ·exact .inr h
section
variable {κ:Type} [DecidableEq κ]
end
theorem HOk.track {P:Program}{w:World}{H:Hp}{h:Heap}{a:Addr}{o:HO} (x:HOk P w H h) (hn:H a = none) (new:ZO P w (upd H a o) h a o):HOk P w (upd H a o) h:=fun b u e=>by
 by_cases hb:b = a
 ·subst hb; rw [zd] at e; cases e; exact new
 ·rw [zu hb] at e
  exact (x b u e).stay (fun c v _ q=>q) (fun c q=>by rw [zu (zr q hn)]; exact q) fun c xs q=>by rw [zu (zr q hn)]; exact q
theorem HOk.other {P:Program}{w:World}{H:Hp}{h h':Heap}{a:Addr} (x:HOk P w H h) (hn:H a = none) (hs:Heap.SameBut a h h'):HOk P w H h':=fun b u e=>
 (x b u e).stay (fun c v hc q=>(hs.2 c (by
  rintro rfl
  rcases hc with rfl | hc
  ·rw [hn] at e; cases e
  ·rw [hn] at hc; cases hc)).trans q) (fun _ q=>q) fun _ _ q=>q
section
variable {prog:Program}{w:World}{A:Around}{R:Result->Shared->Prop}{s:Shared}
theorem ze0 {elt target iter:Expr}{ifs:List Expr}{scope:Scope}{pos:Pos}{it acc:Value}{env:Env} (I:Nat->Shared->Prop)
  (turn:∀ n s,I n s->wpAny (model prog w) A (pyNext it) (fun r s₁=>match r with
   | none=>R (.ok .next) s₁
   | some v=>wpAny (model prog w) A (letOwnedTupleGo target it v) (fun _ s₀=>wpAny (model prog w) A (assign target env v) (fun _ s₂=>
     wpAny (model prog w) A (forIn ifs true fun c r=>if r = true then do let ok ← isTrue c env (eval c env); pure (ForInStep.yield ok) else pure (ForInStep.yield r)) (fun ok s₃=>
      if ok = true then wpAny (model prog w) A (eval elt env) (fun x s₄=>
       wpAny (model prog w) A (call (.builtin "list.append") [acc,x]) (fun _ s₅=>∃ m,m < n/\I m s₅) (notedBy (model prog w) A env fun e s'=>R (.error e) s') s₄) (notedBy (model prog w) A env fun e s'=>R (.error e) s') s₃
      else ∃ m,m < n/\I m s₃) (notedBy (model prog w) A env fun e s'=>R (.error e) s') s₂) (notedBy (model prog w) A env fun e s'=>R (.error e) s') s₀) (notedBy (model prog w) A env fun e s'=>R (.error e) s') s₁) (notedBy (model prog w) A env fun e s'=>R (.error e) s') s)
  (n:Nat) (h:I n s):codeAny (model prog w) A (.compLoop (.ListComp elt [⟨target,iter,ifs,0⟩] scope pos) 0 it acc env) R s:=by
 refine codeAny_loop rfl I (fun n s hI=>?_) n h
 show wpAny _ A ((compTurn (.ListComp elt [⟨target,iter,ifs,0⟩] scope pos) 0 it acc env).onRaise (fun x=>do noteFrame x env; theTreesLotGoes x)) _ _ s
 refine wpAny_noted ?_
 rw [compTurn_list]
 refine wpAny_bind (wpAny_standAt (wpAny_bind (wpAny_mono (turn n s hI) (fun r s₁ h₁=>?_) fun _ _ h'=>h')))
 cases r with
 | none=>exact wpAny_pure h₁
 | some v=>
  refine wpAny_bind (wpAny_mono h₁ (fun _ s₀ h₀=>?_) fun _ _ h'=>h')
  refine wpAny_bind (wpAny_mono h₀ (fun _ s₂ h₂=>wpAny_bind (wpAny_mono h₂ (fun ok s₃ h₃=>?_) fun _ _ h'=>h')) fun _ _ h'=>h')
  cases ok with
  | false=>exact wpAny_pure ⟨rfl,h₃⟩
  | true=>
   exact wpAny_bind (wpAny_bind (wpAny_mono h₃ (fun x s₄ h₄=>wpAny_bind (wpAny_mono h₄ (fun _ s₅ h₅=>wpAny_pure (wpAny_pure ⟨rfl,h₅⟩)) fun _ _ h'=>h')) fun _ _ h'=>h'))
end
def zH (X:Cx) (scope:Scope) (cl:List (Str × Addr)) (NY:List Str) (C:Addr) (s:Shared) (H:Hp) (fp:List Addr):Cx where
 prog:=X.prog
 w:=X.w
 K:=X.K
 mg:=X.mg
 base:=X.base
 A:=X.A
 N:=NY
 s₀:=s
 H₀:=H
 env:=compEnvC scope cl C X.env
 outer:=X.stack
 stack:=X.stack
 ex:=fp
 fn:=fun _=>false
 calm:=true
 pn:=[]
 xe:=notedBy (model X.prog X.w) X.A (compEnvC scope cl C X.env) fun e s'=>compPost (model X.prog X.w) X.A X.xe none (fun _ _=>False) .none C (.error e) s'
def ClOk:List (Str × Addr)->List (Str × Addr)->Prop
 | [],_=>True
 | p :: r,cells=>cells.lookup p.1 = some p.2/\ClOk r cells
theorem ClOk.mem:∀ {cl cells:List (Str × Addr)},ClOk cl cells->∀ {x:Str}{c:Addr},cl.lookup x = some c->cells.lookup x = some c
 | [],_,_,_,_,e=>by simp at e
 | (y,d) :: r,cells,h,x,c,e=>by
  rw [List.lookup_cons] at e
  split at e
  ·rename_i q
   have q':x = y:=by simpa using q
   subst q'
   cases e
   exact h.1
  ·exact ClOk.mem h.2 e
def FrOk (X:Cx) (scope:Scope) (cl:List (Str × Addr)):List Nat->List Str->Prop
 | [],[]=>True
 | i :: r,y :: ys=>(X.N[i]? = some y/\scope.names.lookup y = some .free/\Vis X.env.scope y/\X.env.kindOf y≠some .local/\∃ c,cl.lookup y = some c)/\FrOk X scope cl r ys
 | _,_=>False
def PIfs (X:Cx) (ifs:List Expr) (t:TT):Prop:=
 ∀ (zp:List (Addr × Obj)) (s:Shared) (σ:St) (H:Hp) (Q:Bool->Hp->Prop),Inv X zp σ H s->t σ H Q->
  wpAny (model X.prog X.w) X.A (forIn ifs true fun c r=>if r = true then do let ok ← isTrue c X.env (eval c X.env); pure (ForInStep.yield ok) else pure (ForInStep.yield r)) (TP X zp σ Q) X.xe s
theorem Zj {X:Cx}:PIfs X [] (fun _ H Q=>Q true H):=fun _ _ _ H _ I h=>wpAny_tests_nil ⟨H,I,h⟩
theorem zcL {X:Cx}{c:Expr}{t:TT} (h:PT X c t):PIfs X [c] t:=fun zp s σ H Q I q=>wpAny_tests_one (h zp s σ H Q I q)
def frees (fr:List Nat) (σ:St):St:=fr.map fun k=>(σ[k]?).join
def zbd (fr:List Nat) (wi:TI) (tt:TT) (te:TE):TE:=fun σ H Q=>wi σ H fun J H1=>∃ W:Nat->Nat->List V->Hp->Prop,(∃ m,W 0 m [] H1)/\∀ i m vs H,W i m vs H->vs.length<=sizeLine /\
 ((J.stop i H/\∀ D,H D = none->Q (.ref D) (upd H D (.lst vs))) \/
  (J.go i H/\∀ v H',J.yld i H v H'->tt (some v :: frees fr σ) H' fun b H2=>if b = true then te (some v :: frees fr σ) H2 fun y H3=>∃ m',m' < m/\W (i + 1) m' (vs ++ [y]) H3 else ∃ m',m' < m/\W (i + 1) m' vs H2))
def relF (env:Env) (p:Str × NameKind):Str × NameKind:=if (p.2 == NameKind.free && env.scope.kind == .function && env.kindOf p.1 == some .cell) = true then (p.1,NameKind.cell) else (p.1,p.2)
theorem zj9 (env:Env) (p:Str × NameKind):(relF env p).1 = p.1:=by unfold relF; split <;> rfl
theorem zbQ {env:Env}:∀ {names:List (Str × NameKind)}{x:Str},(names.map (relF env)).lookup x = (names.lookup x).map fun k=>(relF env (x,k)).2
 | [],_=>rfl
 | (n,k) :: r,x=>by
  have ih:=@zbQ env r x
  rw [List.map_cons]
  have e:relF env (n,k) = (n,(relF env (n,k)).2):=Prod.ext (zj9 env (n,k)) rfl
  rw [e]
  cases hx:x == n with
  | true=>
   have q':x = n:=by simpa using hx
   subst q'
   simp only [List.lookup_cons,hx,Option.map_some]
  | false=>simp only [List.lookup_cons,hx]; exact ih
theorem zam {env:Env}{names:List (Str × NameKind)}{x:Str} (h:names.lookup x = some .free):
  (names.map (relF env)).lookup x = some .cell\/(names.map (relF env)).lookup x = some .free:=by
 rw [zbQ,h,Option.map_some]
 unfold relF
 split
 ·exact .inl rfl
 ·exact .inr rfl
theorem zar {env:Env}{names:List (Str × NameKind)}{x:Str} (hn:∀ y∈names,y.2≠.cell) (h:(names.map (relF env)).lookup x = some .cell\/(names.map (relF env)).lookup x = some .free):(x,NameKind.free)∈names:=by
 rw [zbQ] at h
 cases q:names.lookup x with
 | none=>rw [q] at h; simp at h
 | some k=>
  rw [q] at h
  have hm:=PySem.mem_of_lookup q
  have hk:k = .free:=by
   unfold relF at h
   simp only [Option.map_some,Option.some.injEq] at h
   split at h
   ·rename_i c
    simp only [Bool.and_eq_true] at c
    simpa using c.1.1
   ·rcases h with h | h
    ·exact absurd h (hn _ hm)
    ·exact h
  rw [← hk]
  exact hm
theorem zc2 {X:Cx}{scope:Scope}{cl:List (Str × Addr)}{σ:St}:∀ {fr:List Nat}{ys:List Str},FrOk X scope cl fr ys->∀ (j:Nat) (y:Str) (v:V),ys[j]? = some y->(frees fr σ)[j]? = some (some v)->
  ∃ i:Nat,X.N[i]? = some y/\σ[i]? = some (some v)/\scope.names.lookup y = some .free/\Vis X.env.scope y/\X.env.kindOf y≠some .local/\∃ c,cl.lookup y = some c
 | [],[],_,j,y,v,e,_=>by simp at e
 | [],_ :: _,h,_,_,_,_,_=>h.elim
 | _ :: _,[],h,_,_,_,_,_=>h.elim
 | i :: r,z :: ys,h,0,y,v,e1,e2=>by
  have e1':z = y:=by simpa using e1
  subst e1'
  have e2':(σ[i]?).join = some v:=by simpa [frees] using e2
  have:σ[i]? = some (some v):=by
   cases q:σ[i]? with
   | none=>rw [q] at e2'; cases e2'
   | some o=>rw [q] at e2'; cases o with
    | none=>cases e2'
    | some u=>cases e2'; rfl
  exact ⟨i,h.1.1,this,h.1.2.1,h.1.2.2.1,h.1.2.2.2.1,h.1.2.2.2.2⟩
 | i :: r,z :: ys,h,j + 1,y,v,e1,e2=>zc2 (fr:=r) (ys:=ys) h.2 j y v (by simpa using e1) (by simpa [frees] using e2)
theorem zc3 {X:Cx}{scope:Scope}{cl:List (Str × Addr)}{σ:St}:∀ {fr:List Nat}{ys:List Str},FrOk X scope cl fr ys->(frees fr σ).length = ys.length
 | [],[],_=>rfl
 | [],_ :: _,h=>h.elim
 | _ :: _,[],h=>h.elim
 | i :: r,z :: ys,h=>by
  have:=zc3 (σ:=σ) (fr:=r) (ys:=ys) h.2
  simp only [frees,List.map_cons,List.length_cons,List.length_map] at *
  omega
theorem zaF {X:Cx}{elt iter:Expr}{x:Str}{px pos:Pos}{ifs:List Expr}{scope:Scope}{cl:List (Str × Addr)} (fr:List Nat) (ys:List Str) {wi:TI}{tt:TT}{te:TE}
  (hc:X.calm = true) (hclos:closureFor scope X.env = pure cl) (hcell:∀ y∈scope.names,y.2≠.cell) (hkind:scope.kind = .function) (hnames:∀ y∈scope.names,y.2 = .local->scope.names.lookup y.1 = some .local)
  (hx:scope.names.lookup x = some .local) (hnd:(x :: ys).Nodup) (hcl:ClOk cl X.env.cells) (hall:(scope.names.all fun y=>y.2 != .free || (cl.lookup y.1).isSome) = true) (hfr:FrOk X scope cl fr ys)
  (hi:PI X (.Name x px) iter wi)
  (hY:∀ C s H fp,(∃ zp σ,Inv X zp σ H s/\∀ b∈fp,FpOk X zp H b)->PIfs (zH X scope cl (x :: ys) C s H fp) ifs tt/\PE (zH X scope cl (x :: ys) C s H fp) elt te)
  (hs:∀ v,foldedSetIterable iter X.env v = pure v:=by intro _; rfl):
  PE X (.ListComp elt [⟨.Name x px,iter,ifs,0⟩] scope pos) (zbd fr wi tt te):=by
 intro zp s σ H Q I h
 rw [eval_ListComp]
 refine wpAny_comprehension_free (use:=none) rfl hs hclos hkind hnames (wpAny_mono (hi zp s σ H _ I h) (fun v s1 h1=>wpAny_mono h1 (fun itv s2 h2=>?_) fun _ _ e=>e) fun _ _ e=>e)
 obtain ⟨it,fp,tn,J,H2,rfl,I2,T,st2,f2,W,⟨m0,w0⟩,turn⟩:=h2
 refine wpAny_newObj_type (wpAny_newFunctionEnv hcell (by intro y hy; simp at hy) (fun h₁ hns₁ hsb₁=>?_) hkind)
 dsimp only at hns₁ hsb₁ ⊢
 generalize hP2:s2.heap.push { cls:=.type "list",dict:=none,data:=.seq ([]:List Value).toArray } = P2 at hns₁ hsb₁ ⊢
 have hC:P2.objs.size = s2.heap.objs.size + 1:=by rw [← hP2,Heap.size_push]
 have hDC:s2.heap.objs.size≠P2.objs.size:=by rw [hC]; exact Nat.ne_of_lt (Nat.lt_succ_self _)
 have hCle:s2.heap.objs.size<=P2.objs.size:=by rw [hC]; exact Nat.le_succ _
 have below:∀ b,b < s2.heap.objs.size->b≠P2.objs.size/\b≠s2.heap.objs.size:=fun b hb=>⟨by rw [hC]; exact Nat.ne_of_lt (Nat.lt_succ_of_lt hb),Nat.ne_of_lt hb⟩
 have old:∀ b o,s2.heap.get? b = some o->h₁.get? b = some o:=fun b o e=>hsb₁.extBut b o (below b (Heap.lt_size e)).1 (Heap.get?_push_of_some _ (hP2 ▸ Heap.get?_push_of_some _ e))
 have hacc:h₁.get? s2.heap.objs.size = some { cls:=.type "list",data:=.seq ([]:List Value).toArray }:=hsb₁.extBut _ _ hDC (Heap.get?_push_of_some _ (hP2 ▸ Heap.get?_push_size _ rfl))
 have fpl:∀ b∈fp,b < s2.heap.objs.size:=fun b hb=>by
  obtain ⟨o,e,_⟩:=T.obj _ _ st2 b hb
  exact Heap.lt_size e
 have tlt:∀ b o,H2 b = some o->b < s2.heap.objs.size:=fun b o e=>I2.hok.lt e
 generalize hCg:P2.objs.size = C at hns₁ hsb₁ hDC hCle below ⊢
 generalize hDg:s2.heap.objs.size = D at hDC below hacc fpl tlt ⊢
 have hDle:D<=C:=by rw [← hDg]; exact hCle
 have cls:∀ y c,cl.lookup y = some c->X.env.cells.lookup y = some c:=fun y c e=>hcl.mem e
 have clt:∀ y c,cl.lookup y = some c->c < D:=fun y c e=>by
  obtain ⟨v,q⟩:=I2.cell y c (cls y c e)
  rw [← hDg]; exact q.lt
 have sub:∀ b∈frs X.stack,b < D:=fun b hb=>by
  rcases List.mem_cons.mp (I2.stkSub b hb) with e | hb
  ·rw [e,← hDg]; exact I2.lt
  ·obtain ⟨_,o,ho,_⟩:=I2.ok.funs.mem hb
   rw [← hDg]; exact Nat.lt_of_lt_of_le (Heap.lt_size ho) I2.sz
 obtain ⟨YI,YE⟩:=hY C s2 H2 fp ⟨zp,σ,I2,f2⟩
 have Yok:(zH X scope cl (x :: ys) C s2 H2 fp).Ok:=by
  refine ⟨I2.ok.mod,hkind,I2.ok.glob,I2.ok.blt,hCle,?_,?_,?_,fun _=>I2.ok.hd hc,I2.ok.frames,.inl rfl,?_,I2.bs,Nat.le_trans I2.ok.bsz I2.sz,?_,?_,I2.stack,I2.stkFree⟩
  ·exact fun y z c e1 e2=>I2.ok.inj y z c (cls y c e1) (cls z c e2)
  ·intro y hy
   have hm:=zar (env:=X.env) (names:=scope.names) (x:=y) hcell hy
   have q:=List.all_eq_true.mp hall _ hm
   show ∃ c,cl.lookup y = some c
   exact Option.isSome_iff_exists.mp (by simpa using q)
  ·intro y c hf _
   exact absurd hf (by show ¬ false = true; decide)
  ·intro b hb
   refine ⟨(below b (fpl b hb)).1,fun y c e z=>?_⟩
   exact (f2 b hb).2.2.2.2.1 y c (cls y c e) z
  ·intro b o e hb
   have hb:b∈fp:=hb
   rcases (f2 b hb).2.2.2.1 with z | z
   ·exact I2.ok.noex b o e z
   ·exact absurd (Nat.lt_of_lt_of_le (Heap.lt_size e) (Nat.le_trans I2.ok.bsz z)) (Nat.lt_irrefl _)
  ·intro b hb hf
   have hb:b∈fp:=hb
   rcases List.mem_cons.mp (I2.stkSub b hf) with e | hf
   ·exact (f2 b hb).2.1 e
   ·exact (f2 b hb).2.2.1 hf
 have hvis:Loc (zH X scope cl (x :: ys) C s2 H2 fp).env.scope x:=.inl (lookup_relabel_local hx)
 have start:∀ tk,Inv (zH X scope cl (x :: ys) C s2 H2 fp) [] (none :: frees fr σ) H2 { s2 with heap:=h₁,toks:=tk }:=fun tk=>by
  refine ⟨Yok,rfl,I2.bare,Un.kept old,⟨_,hns₁,fun i y v e1 e2 e3=>?_⟩,fun y c e=>?_,?_,fun y c e=>?_,fun p hp=>absurd (show p∈([]:List (Addr × Obj)) from hp) (by simp),I2.hok.kept old,?_⟩
  ·cases i with
   | zero=>simp at e2
   | succ j=>
    obtain ⟨i',n1,n2,n3,n4,n5,c,n6⟩:=zc2 hfr j y v (by simpa [zH] using e1) (by simpa using e2)
    obtain ⟨m,hn,hl⟩:=I2.loc
    obtain ⟨u,r,l⟩:=hl i' y v n1 n2 n4
    refine ⟨u,r,.inr ⟨zam n3,c,n6,?_⟩⟩
    rcases l with ⟨k,_⟩ | ⟨k,c',e,z⟩
    ·exact absurd k n5
    ·rw [cls y c n6] at e
     cases e
     obtain ⟨o,ho,hd⟩:=z
     exact ⟨o,old _ _ ho,hd⟩
  ·obtain ⟨v,o,ho,hd⟩:=I2.cell y c (cls y c e)
   exact ⟨v,o,old _ _ ho,hd⟩
  ·show H2 C = none
   cases q:H2 C with
   | none=>rfl
   | some o=>exact absurd (tlt C o q) (Nat.not_lt.mpr hDle)
  ·exact I2.freeC y c (cls y c e)
  ·show (none :: frees fr σ).length = (x :: ys).length
   rw [List.length_cons,List.length_cons,zc3 hfr]
 have fpY:∀ {pl:List (Addr × Obj)}{H':Hp},(∀ b∈fp,H' b = none)->(∀ p∈pl,p.1 = D)->∀ b∈fp,FpOk (zH X scope cl (x :: ys) C s2 H2 fp) pl H' b:=fun {pl H'} hn hpl b hb=>by
  refine ⟨hn b hb,(below b (fpl b hb)).1,Yok.exfs b hb,.inl hb,fun y c e z=>(f2 b hb).2.2.2.2.1 y c (cls y c e) z,fun p hp=>?_⟩
  have hp:p∈[] ++ pl:=hp
  rw [List.nil_append] at hp
  rw [hpl p hp]
  exact (below b (fpl b hb)).2.symm
 have loop:∀ s₃:Shared,(∃ tk,s₃ = { s2 with heap:=h₁,toks:=tk })->
   codeAny (model X.prog X.w) X.A (.compLoop (.ListComp elt [⟨.Name x px,iter,ifs,0⟩] scope pos) 0 (.ref it) (.ref D) (compEnvC scope cl C X.env))
    (compPost (model X.prog X.w) X.A X.xe none (EP X zp σ Q) (.ref D) C) s₃:=by
  rintro s₃ ⟨tk,rfl⟩
  refine ze0
   (fun k s'=>∃ i vs ws nn H',Inv (zH X scope cl (x :: ys) C s2 H2 fp) [] (none :: frees fr σ) H' s'/\tn i s'.heap/\(∀ b∈fp,H' b = none)/\H' D = none /\
    s'.heap.get? D = some { cls:=.type "list",data:=.seq (ws:List Value).toArray nn }/\Vals vs ws/\W i k vs H') ?_ m0
   ⟨0,[],[],0,H2,start tk,T.keep _ _ _ st2 fun b _ o e=>old b o e,fun b hb=>(f2 b hb).1,?_,hacc,.nil,w0⟩
  ·rintro n s3 ⟨i,vs,ws,nn,H3,I3,st3,fr3,hD3,ho3,rv3,w3⟩
   have I3':Inv (zH X scope cl (x :: ys) C s2 H2 fp) [(D,{ cls:=.type "list",data:=.seq ws.toArray nn })] (none :: frees fr σ) H3 s3:=I3.pins_of fun p hp=>by
    have e:p = (D,{ cls:=.type "list",data:=.seq ws.toArray nn }):=by simpa using hp
    subst e
    refine ⟨ho3,hD3,hDC,fun z=>absurd (sub D z) (Nat.lt_irrefl _),fun v z=>?_⟩
    have z':Data.seq ws.toArray nn = Data.cell v:=z
    cases z'
   have fp3:=fpY (pl:=[(D,{ cls:=.type "list",data:=.seq ws.toArray nn })]) fr3 (fun p hp=>by rw [List.mem_singleton.mp hp])
   obtain ⟨hsz,alt⟩:=turn i n vs H3 w3
   rcases alt with ⟨stop,fin⟩ | ⟨go,step⟩
   ·refine thn (T.done (zH X scope cl (x :: ys) C s2 H2 fp) rfl rfl rfl rfl i _ s3 _ H3 _ I3' fp3 st3 stop) fun r s4 ⟨hr,I4⟩=>?_
    subst hr
    have pD:=I4.pin (D,{ cls:=.type "list",data:=.seq ws.toArray nn }) (by show _∈[] ++ _; simp)
    obtain ⟨m4,hn4,_⟩:=I4.loc
    refine ⟨m4,hn4,fun h' hs'=>?_⟩
    have hC4:H3 C = none:=I4.free
    have hok':HOk X.prog X.w (upd H3 D (.lst vs)) h':=by
     refine HOk.track (I4.hok.other hC4 hs') hD3 ⟨hsz,ws,nn,rv3,(hs'.2 D hDC).trans pD.1⟩
    have b4:=I4.base
    have un:Un (frs X.stack) fp H2 (upd H3 D (.lst vs)) s2.heap h':=by
     have lt:∀ b o,s2.heap.get? b = some o->b < D:=fun b o e=>by rw [← hDg]; exact Heap.lt_size e
     refine ⟨fun b o e n hb hx=>(hs'.2 b (below b (lt b o e)).1).trans (b4.keep b o e n hb hx),fun b o e n hb hx=>?_,fun b o e n hx=>?_,fun b o e hx=>?_,fun b zs e=>?_,fun b o u e=>?_,fun b ps e=>?_⟩
     ·obtain ⟨sl,q⟩:=b4.slot b o e n hb hx
      exact ⟨sl,(hs'.2 b (below b (lt b o e)).1).trans q⟩
     ·rw [zu (below b (lt b o e)).2]; exact b4.free b o e n hx
     ·obtain ⟨o',q⟩:=b4.there b o e hx
      exact ⟨o',(hs'.2 b (below b (lt b o e)).1).trans q⟩
     ·rw [zu (below b (tlt b _ e)).2]; exact b4.tups b zs e
     ·rw [zu (below b (tlt b _ e)).2]; exact b4.frzs b o u e
     ·rw [zu (below b (tlt b _ e)).2]; exact b4.tbls b ps e
    refine ⟨.ref D,upd H3 D (.lst vs),?_,rfl,fin D hD3⟩
    exact I2.call' (s':={ s4 with heap:=h' }) (ch:=fp) I4.os un hok' I4.bare fun b hb=>⟨(f2 b hb).2.2.2.1,(f2 b hb).2.1,(f2 b hb).2.2.2.2.1,(f2 b hb).2.2.2.2.2⟩
   ·refine thn (T.item (zH X scope cl (x :: ys) C s2 H2 fp) rfl rfl rfl rfl i _ s3 _ H3 _ I3' fp3 st3 go) fun r s4 ⟨u,hr,h4⟩=>?_
    subst hr
    refine thn h4 fun _ s5 ⟨v,H5,I5,r5,y5,st5,fr5⟩=>?_
    have fp5:=fpY (pl:=[(D,{ cls:=.type "list",data:=.seq ws.toArray nn })]) fr5 (fun p hp=>by rw [List.mem_singleton.mp hp])
    have I5':=I5.pinned fp5 (T.obj _ _ st5)
    refine thn (zZ (X:=zH X scope cl (x :: ys) C s2 H2 fp) (i:=0) (pos:=px) hnd rfl hvis (.inr (lookup_relabel_local hx)) _ s5 _ H5 v u (fun σ' H'=>σ' = some v :: frees fr σ/\H' = H5) I5' r5 ⟨rfl,rfl⟩) fun _ s6 ⟨σ6,H6,I6,e6,e6'⟩=>?_
    subst e6 e6'
    refine thn (YI _ s6 _ _ _ I6 (step v H6 y5)) fun b s7 ⟨H7,I7,q7⟩=>?_
    have back:∀ {H8:Hp}{s8:Shared},Inv (zH X scope cl (x :: ys) C s2 H2 fp) ([(D,{ cls:=.type "list",data:=.seq ws.toArray nn })] ++ zdI fp s5.heap) (some v :: frees fr σ) H8 s8->
      s8.heap.get? D = some { cls:=.type "list",data:=.seq ws.toArray nn }/\H8 D = none/\(∀ b∈fp,H8 b = none)/\(∀ b∈fp,∀ o,s5.heap.get? b = some o->s8.heap.get? b = some o):=fun {H8 s8} I8=>by
     have pD:=I8.pin (D,{ cls:=.type "list",data:=.seq ws.toArray nn }) (by show _∈[] ++ _; simp)
     refine ⟨pD.1,pD.2.1,fun b hb=>?_,fun b hb o e=>?_⟩
     ·obtain ⟨o,e,d⟩:=T.obj _ _ st5 b hb
      exact (I8.pin (b,o) (List.mem_append_right _ (List.mem_append_right _ (zai hb e)))).2.1
     ·exact (I8.pin (b,o) (List.mem_append_right _ (List.mem_append_right _ (zai hb e)))).1
    have weak:∀ {H8:Hp}{s8:Shared},Inv (zH X scope cl (x :: ys) C s2 H2 fp) [] (some v :: frees fr σ) H8 s8->Inv (zH X scope cl (x :: ys) C s2 H2 fp) [] (none :: frees fr σ) H8 s8:=fun {H8 s8} I8=>
     I8.weak rfl fun i v' e=>by
      cases i with
      | zero=>simp at e
      | succ j=>simpa using e
    have nopin:∀ {H8:Hp}{s8:Shared}{pl:List (Addr × Obj)},Inv (zH X scope cl (x :: ys) C s2 H2 fp) pl (some v :: frees fr σ) H8 s8->Inv (zH X scope cl (x :: ys) C s2 H2 fp) [] (some v :: frees fr σ) H8 s8:=fun {H8 s8 pl} I8=>
     I8.pins_of fun p hp=>absurd hp (by simp)
    cases b with
    | false=>
     rw [if_neg Bool.false_ne_true] at q7 ⊢
     obtain ⟨m',hm,w7⟩:=q7
     obtain ⟨k1,k2,k3,k4⟩:=back I7
     exact ⟨m',hm,i + 1,vs,ws,nn,H7,weak (nopin I7),T.keep _ _ _ st5 k4,k3,k2,k1,rv3,w7⟩
    | true=>
     rw [if_pos rfl] at q7 ⊢
     refine thn (YE _ s7 _ _ _ I7 q7) fun u8 s8 ⟨y8,H8,I8,r8,m',hm,w8⟩=>?_
     obtain ⟨k1,k2,k3,k4⟩:=back I8
     refine append_at (hsz:=by rw [List.size_toArray,← rv3.length]; exact hsz) k1 fun h9 hs9 ho9=>?_
     have I9:Inv (zH X scope cl (x :: ys) C s2 H2 fp) [] (some v :: frees fr σ) H8 { s8 with heap:=h9 }:=
      (nopin I8).turned (t':=s8.toks) (it:=D) (fun b o hb e=>(hs9.2 b hb).trans e) k2 hDC (.inr (by rw [← hDg]; exact Nat.le_refl _)) (fun y c e=>Nat.ne_of_lt (clt y c e)) fun p hp=>absurd (show p∈([]:List (Addr × Obj)) from hp) (by simp)
     refine ⟨m',hm,i + 1,vs ++ [y8],ws ++ [u8],nn + 1,H8,weak I9,?_,k3,k2,?_,rv3.append (.cons r8 .nil),w8⟩
     ·refine T.keep _ _ _ st5 fun b hb o e=>?_
      exact (hs9.2 b (below b (fpl b hb)).2).trans (k4 b hb o e)
     ·rw [ho9,List.push_toArray]
  ·cases q:H2 D with
   | none=>rfl
   | some o=>exact absurd (tlt D o q) (Nat.lt_irrefl _)
 exact codeAny_compStart_list (loop _ ⟨_,rfl⟩) (T.self _ 0 _ _ _ (T.keep _ _ _ st2 fun b _ o e=>old b o e) (loop _ ⟨_,rfl⟩))
theorem Zx {X:Cx}{elt iter:Expr}{x:Str}{px pos:Pos}{ifs:List Expr}{scope:Scope}{cl:List (Str × Addr)} (fr:List Nat) (ys:List Str) {wi:TI}{tt:TT}{te:TE}
  (hc:X.calm = true) (hclos:closureFor scope X.env = pure cl) (hcell:∀ y∈scope.names,y.2≠.cell) (hkind:scope.kind = .function) (hnames:∀ y∈scope.names,y.2 = .local->scope.names.lookup y.1 = some .local)
  (hx:scope.names.lookup x = some .local) (hnd:(x :: ys).Nodup) (hcl:ClOk cl X.env.cells) (hall:(scope.names.all fun y=>y.2 != .free || (cl.lookup y.1).isSome) = true) (hfr:FrOk X scope cl fr ys)
  (hi:PI X (.Name x px) iter wi)
  (hY:∀ C s H fp,PIfs (zH X scope cl (x :: ys) C s H fp) ifs tt/\PE (zH X scope cl (x :: ys) C s H fp) elt te)
  (hs:∀ v,foldedSetIterable iter X.env v = pure v:=by intro _; rfl):
  PE X (.ListComp elt [⟨.Name x px,iter,ifs,0⟩] scope pos) (zbd fr wi tt te):=
 zaF fr ys hc hclos hcell hkind hnames hx hnd hcl hall hfr hi (fun C s H fp _=>hY C s H fp) hs
def Have (P:Program) (w:World) (K:PySem.W.Frag) (mg:Str->Option Value) (base:Heap) (x:Str) (k:Nat) (ps:List Str) (sp:Sp):Prop:=
 ∃ (f:Addr) (fd:FuncData),FnOk P w K mg base CX0 k f fd ps sp/\Binds K fd ps []/\keepIn K (.ref f) = true/\mg x = some (.ref f)
theorem Have.mono {P:Program}{w:World}{K:PySem.W.Frag}{mg:Str->Option Value}{base:Heap}{x:Str}{j k:Nat}{ps:List Str}{sp:Sp} (h:Have P w K mg base x j ps sp) (e:j<=k):Have P w K mg base x k ps sp:=
 let ⟨f,fd,F,r⟩:=h; ⟨f,fd,F.mono e,r⟩
section
variable {X:Cx}{x:Str}{k:Nat}{ps:List Str}{sp:Sp}{e:Expr}{es:List Expr}{t:TA}{p pos:Pos}
theorem zw (G:Have X.prog X.w X.K X.mg X.base x k ps sp) (hr:Room k X.A) (hg:Gl X x) (ha:PA X (e :: es) t) (hdb:(x == ("__debug__":Str)) = false:=by decide)
  (he:starEach (e :: es) X.env = (false,eval e X.env) :: starEach es X.env:=by rfl) (hpl:(backTo pos (starEach es X.env)).any (·.1) = false:=by rfl):
  PE X (.Call (.Name x p) (e :: es) [] pos) (zcX sp [] E0 t):=by
 obtain ⟨f,fd,F,b,kp,m⟩:=G
 exact zil F hr hg m kp b .nil zmI ha hdb he hpl
theorem zdK (G:Have X.prog X.w X.K X.mg X.base x k ps sp) (hr:Room k X.A) (hg:Gl X x) (hdb:(x == ("__debug__":Str)) = false:=by decide):
  PE X (.Call (.Name x p) [] [] pos) (zcX sp [] E0 tNil):=by
 obtain ⟨f,fd,F,b,kp,m⟩:=G
 exact zj1 F hr hg m kp b .nil zmI hdb
end
section
variable {X:Cx}
def znw (i j:Int):Prop:=0 < j/\j.natAbs.log2 < 9000
theorem zka:OpR X (binaryOp .FloorDiv) (rI znw fun i j=>.int (i / j)):=opI fun i j _ _ _ _ _ hc q=>by
 have h1:(0:Int) < j:=hc.1
 exact floordiv_int (by omega) (by rw [Int.fdiv_eq_ediv_of_nonneg i (by omega)]; exact q) (.inl (PyProof.noPylong_of_log2 hc.2))
def zb0:List String:=["NoneType","bool","int","str","list","tuple","dict"]
def isi (A T:String):Option Bool:=if zb0.contains A && zb0.contains T then some (A == T || (A == "bool" && T == "int")) else none
theorem ziv {A:String} (h:zb0.contains A = true):A = "NoneType"\/A = "bool"\/A = "int"\/A = "str"\/A = "list"\/A = "tuple"\/A = "dict":=by
 have:A∈zb0:=by simpa using h
 simpa [zb0] using this
theorem zmJ {K:PySem.W.Frag}{A T:String}{b:Bool} (h:isi A T = some b):kitOne K (.type A) (.type T) = some b:=by
 unfold isi at h
 split at h
 ·rename_i c
  rw [Bool.and_eq_true] at c
  cases h
  rcases ziv c.1 with rfl | rfl | rfl | rfl | rfl | rfl | rfl <;> rcases ziv c.2 with rfl | rfl | rfl | rfl | rfl | rfl | rfl <;> kernel_rfl
 ·cases h
theorem ZE:zaL X (.builtin "isinstance") (fun xs H Q=>∃ v T A b,xs = [v,.ty T]/\TyOf X.K H v (.type A)/\isi A T = some b/\Q (.bl b) H):=by
 intro zp s σ H xs us Q I r h
 obtain ⟨v,T,A,b,rfl,ty,e,q⟩:=h
 obtain ⟨u,c,rfl,ru,rc⟩:=zih r
 cases (show c = Value.type T from rc)
 exact zik I ru ty (zmJ e) fun tk=>⟨.bl b,H,I.tok tk,rfl,q⟩
theorem zfQ {A:Around}{P:Program}{w:World}{xs:List Bool}{its:List Value} (r:Vals (xs.map V.bl) its):TruthOf P w A (fun i v=>its.toArray[i]? = some v) (fun i=>xs.getD i true):=by
 intro i v s Q E hv h
 have hv':its[i]? = some v:=by simpa using hv
 have hl:=r.length
 rw [List.length_map] at hl
 have hi:i < xs.length:=by rw [hl]; exact (List.getElem?_eq_some_iff.mp hv').1
 obtain ⟨u,hu,ru⟩:=r.get (i:=i) (x:=V.bl xs[i]) (by rw [List.getElem?_map,List.getElem?_eq_getElem hi]; rfl)
 rw [hv'] at hu
 cases hu
 cases ru
 refine wpAny_truthy_bool ?_
 have e:xs.getD i true = xs[i]:=by rw [List.getD_eq_getElem?_getD,List.getElem?_eq_getElem hi]; rfl
 have h:Q (xs.getD i true) s:=h
 rw [e] at h
 exact h
theorem ziw (xs:List Bool):(List.range xs.length).all (fun i=>xs.getD i true) = xs.all id:=by
 rw [Bool.eq_iff_iff,List.all_eq_true,List.all_eq_true]
 constructor
 ·intro h x hx
  obtain ⟨i,hi,rfl⟩:=List.mem_iff_getElem.mp hx
  have:=h i (List.mem_range.mpr hi)
  rw [List.getD_eq_getElem?_getD,List.getElem?_eq_getElem hi] at this
  exact this
 ·intro h i hi
  have hi:=List.mem_range.mp hi
  rw [List.getD_eq_getElem?_getD,List.getElem?_eq_getElem hi]
  exact h _ (List.getElem_mem hi)
theorem Z2 (hc:X.calm = true):zaL X (.builtin "all") (fun xs H Q=>∃ (p:Addr) (bs:List Bool),xs = [.ref p]/\SqL X.K H p (bs.map V.bl)/\Q (.bl (bs.all id)) H):=by
 intro zp s σ H xs us Q I r h
 obtain ⟨p,bs,rfl,hq,q⟩:=h
 obtain ⟨u,rfl,rx⟩:=zbN r
 cases rx
 obtain ⟨its,r',pl,hz⟩:=I.list hq
 have hl:=pl.isList
 obtain ⟨o,ho,_⟩:=id hl
 have hlt:=Heap.lt_size ho
 refine call_all_walk (wpAny_pyIter_list hl ?_)
 refine ⟨_,_,_,_,_,_,fun i=>bs.getD i true,rfl,Walks.list (A:=X.A.in1) (I.ok.hd hc) s.heap.objs.size p (Nat.ne_of_lt hlt) its.toArray,⟨⟨_,Heap.get?_push_size _ rfl,rfl,rfl⟩,hl.push _⟩,zfQ r',fun h' tk hk=>?_⟩
 have e:(List.range its.toArray.size).all (fun i=>bs.getD i true) = bs.all id:=by
  have hl2:=r'.length
  rw [List.length_map] at hl2
  rw [List.size_toArray,← hl2]
  exact ziw bs
 rw [e]
 refine ⟨.bl (bs.all id),H,I.kept (h':=h') (t':=tk) fun b o e=>?_,rfl,q⟩
 exact hk b o (fun hm=>absurd (Heap.lt_size e) (by rw [List.mem_singleton.mp hm]; exact Nat.lt_irrefl _)) (Heap.get?_push_of_some _ e)
end
section
variable {prog:Program}{w:World}{A:Around}{R:Result->Shared->Prop}{I l:Addr}{vs:List Value}{ns:List Int}{d:Value}
end
def Its (z:Str):It:=⟨fun i _=>i < z.cps.size,fun i H x H'=>H' = H/\∃ c,z.cps[i]? = some c/\x = .str ⟨#[c]⟩,fun i _=>i = z.cps.size⟩
theorem zkb {P:Program}{w:World}{K:PySem.W.Frag}{tg:Expr}{it:Addr}{T:String}{z:Str}{t:Tok}
  (W:∀ A:Around,A.handled = none->Walks P w A it [it] [it] z.cps.size (SignAt z) (fun i h=>h.IsStrIter it T z t i))
  (hT:["enumerate","zip","dict_itemiterator","dict_reverseitemiterator","odict_iterator","itertools.zip_longest","itertools.pairwise"].contains T = false)
  (self:∀ (A:Around) (i:Nat) (s:Shared) (Q:Value->Shared->Prop) (E:Value->Shared->Prop),s.heap.IsStrIter it T z t i->Q (.ref it) s->wpAny (model P w) A (pyIter (.ref it)) Q E s):
  Turn P w K tg (Its z) [it] it (fun i h=>h.IsStrIter it T z t i) where
 mem:=by simp
 obj:=fun i h st b hb=>by
  have e:b = it:=by simpa using hb
  subst e
  obtain ⟨o,e,c,d⟩:=st
  exact ⟨o,e,fun v z=>by rw [d] at z; cases z⟩
 keep:=fun i h h' st k=>by
  obtain ⟨o,e,c⟩:=st
  exact ⟨o,k it (by simp) o e,c⟩
 item:=by
  intro X hP hw hK hc i zp s σ H E I hf st hg
  subst hP hw hK
  obtain ⟨f0,f1,f2,f3,f4,f5⟩:=hf it (by simp)
  refine (W X.A (I.ok.hd hc)).item i s _ _ hg st fun v h' tk hP st' kk=>?_
  obtain ⟨c,u,hcu,rfl⟩:=hP
  have I1:Inv X zp σ H { s with heap:=h',toks:=tk }:=I.turned (fun b o hb e=>kk b o (by simpa using hb) e) f0 f1 f3 f4 f5
  obtain ⟨o,e,cc,d⟩:=id st'
  exact ⟨_,rfl,zjV (s:={ s with heap:=h',toks:=tk }) e cc d hT ⟨.str ⟨#[c]⟩,H,I1,⟨u,rfl⟩,⟨rfl,c,hcu,rfl⟩,st',fun b hb=>(hf b hb).1⟩⟩
 done:=by
  intro X hP hw hK hc i zp s σ H E I hf st hg
  subst hP hw hK
  obtain ⟨f0,f1,f2,f3,f4,f5⟩:=hf it (by simp)
  have hg:i = z.cps.size:=hg
  subst hg
  exact (W X.A (I.ok.hd hc)).done s _ _ st fun h' tk kk=>⟨rfl,I.turned (fun b o hb e=>kk b o (by simpa using hb) e) f0 f1 f3 f4 f5⟩
 self:=fun A i s Q E st h=>self A i s Q E st h
def iStr (te:TE):TI:=fun σ H R=>te σ H fun x H1=>∃ z,x = .str z/\R (Its z) H1
theorem ze1 {X:Cx}{tg e:Expr}{te:TE} (he:PE X e te):PI X tg e (iStr te):=by
 intro zp s σ H R I h
 refine thn (he zp s σ H _ I h) fun v s1 ⟨x,H1,I1,r1,q1⟩=>?_
 obtain ⟨z,rfl,q⟩:=q1
 obtain ⟨t,rfl⟩:=r1
 have fin:∀ (T:String),(∀ A:Around,A.handled = none->Walks X.prog X.w A s1.heap.objs.size [s1.heap.objs.size] [s1.heap.objs.size] z.cps.size (SignAt z) (fun i h=>h.IsStrIter s1.heap.objs.size T z t i))->
   ["enumerate","zip","dict_itemiterator","dict_reverseitemiterator","odict_iterator","itertools.zip_longest","itertools.pairwise"].contains T = false->
   (∀ (A:Around) (i:Nat) (s:Shared) (Q:Value->Shared->Prop) (E:Value->Shared->Prop),s.heap.IsStrIter s1.heap.objs.size T z t i->Q (.ref s1.heap.objs.size) s->wpAny (model X.prog X.w) A (pyIter (.ref s1.heap.objs.size)) Q E s)->
   PIE X zp σ tg R (.ref s1.heap.objs.size) { s1 with heap:=s1.heap.push { cls:=.type T,data:=.fields #[.str z t,.int 0 0] } }:=fun T W hT self=>by
  refine ⟨s1.heap.objs.size,[s1.heap.objs.size],_,_,H1,rfl,I1.kept (t':=s1.toks) fun b o e=>Heap.get?_push_of_some _ e,zkb W hT self,⟨_,Heap.get?_push_size _ rfl,rfl,rfl⟩,fun b hb=>?_,q⟩
  have e:b = s1.heap.objs.size:=by simpa using hb
  subst e
  exact I1.fpOk (Nat.le_refl _) (I1.hok.fresh (Nat.le_refl _))
 cases ha:z.cps.all (· < 128)
 ·exact wpAny_pyIter_wide ha (fin "str_iterator" (fun A hA=>Walks.strWide hA _ z t) (by decide) fun A i s Q E st h=>wpAny_pyIter_striter_wide st h)
 ·exact wpAny_pyIter_ascii ha (fin "str_ascii_iterator" (fun A hA=>Walks.strAscii hA _ z t) (by decide) fun A i s Q E st h=>wpAny_pyIter_striter_ascii st h)
theorem ze2 {X:Cx}:OpR X (compareOp .LtE) (fun x y H Q=>∃ i j:Str,x = .str i/\y = .str j/\Q (.bl (!decide (j.cps.toList < i.cps.toList))) H):=by
 intro zp s σ H x y v u Q I rx ry h
 obtain ⟨i,j,rfl,rfl,q⟩:=h
 obtain ⟨t,rfl⟩:=rx
 obtain ⟨t',rfl⟩:=ry
 exact PySem.P.le_str ⟨.bl _,H,I,rfl,q⟩
theorem Zo {X:Cx}{x:Str}{i:Int}{pos:Pos} (hg:Gl X x) (hm:∃ t,X.mg x = some (.int i t)) (hd:(x == ("__debug__":Str)) = false:=by decide):PE X (.Name x pos) (tC (.int i)):=by
 obtain ⟨t,hm⟩:=hm
 exact Zt hg hm ⟨t,rfl⟩ hd
theorem zix {X:Cx}{op:Operator}{r:R2} (h:OpR X (inplaceOp op) r):PIp X op r:=fun zp s σ H x y v u Q I rx ry q=>h zp s σ H x y v u Q I rx ry q
theorem zbe {X:Cx}{x:Str}{T:String}{pos:Pos} (hg:Gl X x) (hm:X.mg x = none) (hv:bootBuiltins x = some (.type T)) (hn:x≠"__name__":=by decide) (hd:(x == ("__debug__":Str)) = false:=by decide):PE X (.Name x pos) (tC (.ty T)):=zls hg hm hv rfl hn hd
theorem Same.new {H:Hp}{p:Addr}{o:HO} (h:H p = none):Same H (upd H p o):=fun b u q=>by rw [zu (zr q h)]; exact q
theorem Same.seqT {K:PySem.W.Frag}{H H':Hp}{a:Addr}{xs:List V} (e:Same H H') (h:SqT K H a xs):SqT K H' a xs:=by
 rcases h with (h | ⟨o,h⟩) | h
 ·exact .inl (.inl (e _ _ h))
 ·exact .inl (.inr ⟨o,e _ _ h⟩)
 ·exact .inr h
theorem zV {α:Type}{xs:List α}{i:Nat}{x:α} (h:xs[i]? = some x):xs.take (i + 1) = xs.take i ++ [x]:=by
 rw [List.take_add_one,h]; rfl
theorem zfR {fr:List Nat}{j:Nat}{te:TE}{σ:St}{H:Hp}{Q:VK}{z:Str} (outs:List V) (hσ:σ[j]? = some (some (.str z))) (hl:outs.length = z.cps.size) (hz:z.cps.size<=sizeLine)
  (step:∀ (i c:Nat) (y:V) (H1:Hp) (R:VK),z.cps[i]? = some c->outs[i]? = some y->Same H H1->(∀ H2,Same H1 H2->R y H2)->te (some (.str ⟨#[c]⟩) :: frees fr σ) H1 R)
  (fin:∀ (H1:Hp) (D:Addr),Same H H1->H1 D = none->Q (.ref D) (upd H1 D (.lst outs))):zbd fr (iStr (tVar j)) (fun _ H Q=>Q true H) te σ H Q:=by
 refine ⟨_,hσ,z,rfl,fun i m us H1=>i<=z.cps.size/\m = z.cps.size - i/\us = outs.take i/\Same H H1,⟨_,Nat.zero_le _,rfl,by simp,Same.refl _⟩,fun i m us H1 hW=>?_⟩
 obtain ⟨hi,hm,hu,sm⟩:=hW
 refine ⟨by rw [hu,List.length_take]; omega,?_⟩
 by_cases hlt:i < z.cps.size
 ·refine .inr ⟨hlt,fun v H' hy=>?_⟩
  obtain ⟨rfl,c,hc,rfl⟩:=hy
  have hy:outs[i]? = some outs[i]:=List.getElem?_eq_getElem (by omega)
  refine iteT ?_
  refine step i c outs[i] H' _ hc hy sm fun H2 s2=>⟨z.cps.size - (i + 1),by omega,by omega,rfl,?_,sm.trans s2⟩
  rw [hu,zV hy]
 ·have e:i = z.cps.size:=by omega
  refine .inl ⟨e,fun D hD=>?_⟩
  have e2:us = outs:=by rw [hu,List.take_of_length_le (by omega)]
  rw [e2]
  exact fin H1 D sm hD
theorem ziy {K:PySem.W.Frag}{fr:List Nat}{j:Nat}{te:TE}{σ:St}{H:Hp}{Q:VK}{a:Addr}{vs:List V} (outs:List V) (hσ:σ[j]? = some (some (.ref a))) (hS:SqT K H a vs) (hl:outs.length = vs.length) (hz:vs.length<=sizeLine)
  (step:∀ (i:Nat) (v y:V) (H1:Hp) (R:VK),vs[i]? = some v->outs[i]? = some y->Same H H1->(∀ H2,Same H1 H2->R y H2)->te (some v :: frees fr σ) H1 R)
  (fin:∀ (H1:Hp) (D:Addr),Same H H1->H1 D = none->Q (.ref D) (upd H1 D (.lst outs))):zbd fr (iTup K (tVar j)) (fun _ H Q=>Q true H) te σ H Q:=by
 refine ⟨_,hσ,a,rfl,⟨vs,hS⟩,fun i m us H1=>i<=vs.length/\m = vs.length - i/\us = outs.take i/\Same H H1,⟨_,Nat.zero_le _,rfl,by simp,Same.refl _⟩,fun i m us H1 hW=>?_⟩
 obtain ⟨hi,hm,hu,sm⟩:=hW
 refine ⟨by rw [hu,List.length_take]; omega,?_⟩
 by_cases hlt:i < vs.length
 ·refine .inr ⟨⟨vs,vs[i],sm.seqT hS,List.getElem?_eq_getElem hlt⟩,fun v H' hy=>?_⟩
  obtain ⟨rfl,hv⟩:=hy
  have hv:=hv vs (sm.seqT hS)
  have hy:outs[i]? = some outs[i]:=List.getElem?_eq_getElem (by omega)
  refine iteT ?_
  refine step i v outs[i] H' _ hv hy sm fun H2 s2=>⟨vs.length - (i + 1),by omega,by omega,rfl,?_,sm.trans s2⟩
  rw [hu,zV hy]
 ·have e:i = vs.length:=by omega
  refine .inl ⟨⟨vs,sm.seqT hS,by omega⟩,fun D hD=>?_⟩
  have e2:us = outs:=by rw [hu,List.take_of_length_le (by omega)]
  rw [e2]
  exact fin H1 D sm hD
theorem ze3:isi "tuple" "tuple" = some true:=by decide +kernel
theorem zgs:isi "int" "tuple" = some false:=by decide +kernel
theorem zgt:isi "str" "tuple" = some false:=by decide +kernel
theorem ziz:isi "bool" "tuple" = some false:=by decide +kernel
theorem ziA:isi "NoneType" "tuple" = some false:=by decide +kernel
theorem ziB:isi "list" "tuple" = some false:=by decide +kernel
theorem ziC:isi "dict" "tuple" = some false:=by decide +kernel
theorem zgu:isi "tuple" "str" = some false:=by decide +kernel
theorem zgv:isi "int" "str" = some false:=by decide +kernel
theorem ze4:isi "str" "str" = some true:=by decide +kernel
theorem zgw:isi "bool" "str" = some false:=by decide +kernel
theorem zgx:isi "NoneType" "str" = some false:=by decide +kernel
theorem zgy:isi "list" "str" = some false:=by decide +kernel
theorem zgz:isi "dict" "str" = some false:=by decide +kernel
theorem zmK:isi "tuple" "int" = some false:=by decide +kernel
theorem zmL:isi "int" "int" = some true:=by decide +kernel
theorem zmM:isi "str" "int" = some false:=by decide +kernel
theorem zmN:isi "bool" "int" = some true:=by decide +kernel
theorem zmO:isi "NoneType" "int" = some false:=by decide +kernel
theorem zmP:isi "list" "int" = some false:=by decide +kernel
theorem zmQ:isi "dict" "int" = some false:=by decide +kernel
theorem zmR:isi "int" "bool" = some false:=by decide +kernel
theorem zmS:isi "bool" "bool" = some true:=by decide +kernel
theorem Za:bootBuiltins (Str.ofString "tuple") = some (.type "tuple"):=by kernel_rfl
theorem zaG:bootBuiltins (Str.ofString "str") = some (.type "str"):=by kernel_rfl
theorem Z9:bootBuiltins (Str.ofString "int") = some (.type "int"):=by kernel_rfl
theorem zhw:bootBuiltins (Str.ofString "bool") = some (.type "bool"):=by kernel_rfl
theorem zT:bootBuiltins (Str.ofString "isinstance") = some (.builtin "isinstance"):=by kernel_rfl
theorem ziD:bootBuiltins (Str.ofString "ord") = some (.builtin "ord"):=by kernel_rfl
theorem ziE:bootBuiltins (Str.ofString "abs") = some (.builtin "abs"):=by kernel_rfl
theorem zb1:bootBuiltins (Str.ofString "all") = some (.builtin "all"):=by kernel_rfl
end L2
namespace D
open PySem L2
def top (i:Nat):Stmt:=PySem.Challenge.pw_leastforge_k09_texts_that_write_no_rule.main.body.getD i (.Pass ⟨0,0,0,0⟩)
abbrev zaN:Stmt:=top 15
abbrev zb2:Stmt:=top 16
abbrev zas:Stmt:=top 17
abbrev zgA:Stmt:=top 18
abbrev zbq:Stmt:=top 19
abbrev zag:Stmt:=top 30
abbrev zaO:Stmt:=top 31
abbrev ZS:Stmt:=top 32
abbrev Z3:Stmt:=top 33
abbrev zbr:Stmt:=top 34
abbrev Zk:Stmt:=top 35
abbrev zbs:Stmt:=top 36
abbrev zaP:Stmt:=top 37
abbrev zb3:Stmt:=top 38
abbrev zb4:Stmt:=top 39
abbrev zbt:Stmt:=top 40
abbrev zb5:Stmt:=top 41
abbrev zbu:Stmt:=top 46
abbrev zbv:Stmt:=top 47
abbrev zaQ:Stmt:=top 48
abbrev zbw:Stmt:=top 49
abbrev zaR:Stmt:=top 50
abbrev zat:Stmt:=top 54
abbrev ZT:Stmt:=top 55
abbrev zaS:Stmt:=top 56
abbrev ZU:Stmt:=top 57
abbrev zaT:Stmt:=top 59
abbrev Zs:Stmt:=top 60
abbrev Z4:Stmt:=top 61
abbrev zaU:Stmt:=top 62
abbrev Zl:Stmt:=top 63
abbrev Z5:Stmt:=top 64
abbrev zaV:Stmt:=top 65
abbrev zkc:Stmt:=top 67
abbrev sBox:Stmt:=top 68
abbrev zkd:Stmt:=top 69
abbrev zke:Stmt:=top 70
abbrev zdX:Stmt:=top 71
abbrev zgB:Stmt:=top 72
abbrev zaW:Stmt:=top 73
abbrev zgC:Stmt:=top 74
abbrev zdY:Stmt:=top 76
abbrev zaX:Stmt:=top 77
abbrev zgD:Stmt:=top 78
abbrev zcM:Stmt:=top 79
abbrev zb6:Stmt:=top 80
abbrev ZF:Stmt:=top 81
abbrev zbx:Stmt:=top 82
abbrev zah:Stmt:=top 83
abbrev Zb:Stmt:=top 84
abbrev zb7:Stmt:=top 85
abbrev sLaw:Stmt:=top 86
end D
namespace L2
open PySem PySem.Spec PyProof.Rows
theorem seqI {t u:TS}{D:Ends}{σ:St}{H:Hp} (Pv:St->Hp->Prop) (h2:∀ σ' H',Pv σ' H'->u D σ' H') (h1:(∀ σ' H',Pv σ' H'->u D σ' H')->t { D with nx:=u D } σ H):tSeq t u D σ H:=h1 h2
theorem pos (n:Nat):(0:Int) < (((n + 1:Nat):Int)):=by omega
end L2
namespace D
open PySem L2
def Zr (H:Hp) (b:Addr):Prop:=∃ a f m:Int,H b = some (.lst [.int a,.int f,.int m])
structure Step (b:Addr) (H H':Hp):Prop where
 box:Zr H' b
 keep:∀ c o,c≠b->H c = some o->H' c = some o
theorem Step.refl {b:Addr}{H:Hp} (h:Zr H b):Step b H H:=⟨h,fun _ _ _ e=>e⟩
theorem Step.trans {b:Addr}{H H1 H2:Hp} (x:Step b H H1) (y:Step b H1 H2):Step b H H2:=⟨y.box,fun c o hc e=>y.keep c o hc (x.keep c o hc e)⟩
theorem Step.new {b p:Addr}{H:Hp}{o:HO} (h:Zr H b) (hp:H p = none):Step b H (upd H p o):=by
 obtain ⟨a,f,m,e⟩:=h
 exact ⟨⟨a,f,m,by rw [zu (zr e hp)]; exact e⟩,fun c u _ e=>by rw [zu (zr e hp)]; exact e⟩
theorem Step.put {b:Addr}{H:Hp} (a f m:Int):Step b H (upd H b (.lst [.int a,.int f,.int m])):=⟨⟨a,f,m,zd⟩,fun c o hc e=>by rw [zu hc]; exact e⟩
theorem Step.keepN {b:Addr}{H H':Hp} (x:Step b H H') {c:Addr}{o:HO} (hb:Zr H b) (e:H c = some o) (ho:∀ a f m:Int,o≠.lst [.int a,.int f,.int m]):H' c = some o:=by
 obtain ⟨a,f,m,e'⟩:=hb
 exact x.keep c o (zmz e e' (ho a f m)) e
def ziF (K:PySem.W.Frag):Sp:=fun vs H Q _=>∃ (a:Addr) (ns:List Int) (k:Int),vs = [.ref a,.int k]/\SqL K H a (ns.map V.int)/\0<=k/\∀ i:Int,Q (.int i) H
def zlA (K:PySem.W.Frag):Sp:=fun vs H Q _=>∃ (a:Addr) (ns:List Int) (k:Int),vs = [.ref a,.int k]/\SqL K H a (ns.map V.int)/\0<=k/\∀ (x f m:Int) (p:Addr),H p = none->Q (.ref p) (upd H p (.lst [.int x,.int f,.int m]))
def za5:Sp:=fun vs H Q _=>∃ (b:Addr) (n:Int),vs = [.ref b,.int n]/\Zr H b/\0 < n/\n < 10 ^ 61/\∀ (r:Int) (H':Hp),0<=r->r < n->Step b H H'->Q (.int r) H'
def Signs (x:Str):Prop:=∀ c∈x.cps.toList,32<=c/\c<=126/\c≠34/\c≠37
def ziG:Sp:=fun vs H Q _=>∃ (b:Addr) (n:Int),vs = [.ref b,.int n]/\Zr H b/\0<=n/\n < 10000/\∀ (x:Str) (H':Hp),(x.length:Int)<=n->Signs x->Step b H H'->Q (.str x) H'
def zcN:Sp:=fun vs H Q _=>∃ b:Addr,vs = [.ref b]/\Zr H b/\∀ (i:Int) (H':Hp),-(10 ^ 60) < i->i < 10 ^ 60->Step b H H'->Q (.int i) H'
section
variable {P:Program}{w:World}{K:PySem.W.Frag}{mg:Str->Option Value}{base:Heap}{f:Addr}{fd:FuncData}{k n:Nat}{zN AForgeError ANoName ANoRow ANoRule ANoStep ANoThing ANoWorth:Addr}
theorem zmT:FnScope ["_law_script","_law_k"] ["_law_script","_law_k"] (zl zkc):=⟨rfl,rfl,rfl,by decide +kernel,rfl,by decide +kernel,by decide +kernel⟩
theorem zlB (F:Fun K "_law_cell" "_law_cell" zkc f fd) (m_len:mg "len" = none):FnOk P w K mg base CX0 (k + 1) f fd ["_law_script","_law_k"] (ziF K):=by
 refine F.ok zmT (fun vs H Q E h=>?_) (fun cdv A outer s H vs Q E hr h=>?_)
 ·obtain ⟨a,ns,k,rfl,_⟩:=h
  rfl
 obtain ⟨a,ns,j,rfl,hS,h0,q⟩:=h
 refine ⟨_,(zb (zB (zj zeN (pv 1) (zk zz rfl m_len PySem.boot_len (za (pv 0) zc)) (nomark _)) (zg (zo (zy zQ (pv 0) (pv 1) (fun _ _=>rfl)))) zq)
  (zg (zo (zi zU (zi zcU zf (pv 1)) zf)))),?_⟩
 refine ⟨_,rfl,_,rfl,_,_,rfl,.inl ⟨_,hS,rfl⟩,_,_,rfl,rfl,_,rfl,?_⟩
 refine ite2 (fun c=>?_) (fun c=>?_)
 ·have c':j < (((ns.map V.int).length:Nat):Int):=of_decide_eq_true c
  rw [List.length_map] at c'
  have hj:j.toNat < ns.length:=by omega
  have ej:j = ((j.toNat:Nat):Int):=by omega
  have at1:atI (ns.map V.int) ((j.toNat:Nat):Int) = some (.int ns[j.toNat]):=zM (by rw [List.getElem?_map,List.getElem?_eq_getElem hj]; rfl)
  rw [← ej] at at1
  exact ⟨_,rfl,_,rfl,a,_,j,.int ns[j.toNat],rfl,rfl,hS,at1,q _⟩
 ·exact ⟨_,rfl,_,_,rfl,rfl,.inl ⟨by decide,by decide⟩,_,_,rfl,rfl,q _⟩
theorem zkf:FnScope ["_law_script","_law_k","_law_cell_here","_law_number_here","_law_mixed"] ["_law_script","_law_k"] (zl sBox):=⟨rfl,rfl,rfl,by decide +kernel,rfl,by decide +kernel,by decide +kernel⟩
theorem zmU (F:Fun K "_law_box" "_law_box" sBox f fd) (G_lcell:Have P w K mg base "_law_cell" k ["_law_script","_law_k"] (ziF K)):FnOk P w K mg base CX0 (k + 1) f fd ["_law_script","_law_k"] (zlA K):=by
 refine F.ok zkf (fun vs H Q E h=>?_) (fun cdv A outer s H vs Q E hr h=>?_)
 ·obtain ⟨a,ns,k,rfl,_⟩:=h
  rfl
 obtain ⟨a,ns,j,rfl,hS,h0,q⟩:=h
 refine ⟨_,(zb (zn (i:=2) zkf.nd rfl (Or.inl rfl) (zw G_lcell hr rfl (za (pv 0) (za (pv 1) zc))))
  (zb (zn (i:=3) zkf.nd rfl (Or.inl rfl) (zi zba (zi zcU (zi zU (zi zba (pv 2) zf) zf) zf) zf))
  (zb (zn (i:=4) zkf.nd rfl (Or.inl rfl) (zi zba (zi zU (zi zcU (pv 3) (zi zU (zi zba (pv 3) zf) zf)) (zi zcU zf (pv 1))) zf))
  (zb (zB (zj zS (zi zba (zw G_lcell hr rfl (za (pv 0) (za zf zc))) zf) zf (nomark _)) (zg (zo (zx (za (pv 2) (za zf (za (pv 4) zc)))))) zq)
  (zg (zo (zx (za (pv 4) (za zf (za zf zc)))))))))),?_⟩
 refine ⟨_,rfl,_,rfl,a,ns,j,rfl,hS,h0,fun c=>?_⟩
 refine ⟨_,rfl,_,_,rfl,rfl,pos _,_,_,rfl,rfl,_,_,rfl,rfl,.inr ⟨by decide,by decide⟩,_,_,rfl,rfl,pos _,?_⟩
 have b1:0<=(c % 2147483629 + 11) * 69621 % 2147483629:=Int.emod_nonneg _ (by decide)
 have b2:(c % 2147483629 + 11) * 69621 % 2147483629 < 2147483629:=Int.emod_lt_of_pos _ (by decide)
 refine ⟨_,rfl,_,rfl,_,_,rfl,rfl,pos _,_,_,rfl,rfl,_,_,rfl,rfl,.inl ⟨by omega,by omega⟩,_,rfl,_,_,rfl,rfl,.inl ⟨by decide,by decide⟩,_,_,rfl,rfl,_,_,rfl,rfl,pos _,?_⟩
 refine ⟨_,rfl,a,ns,0,rfl,hS,Int.le_refl 0,fun c0=>?_⟩
 refine ⟨_,_,rfl,rfl,pos _,rfl,_,rfl,?_⟩
 refine ite2 (fun e=>?_) (fun e=>?_)
 ·exact ⟨_,rfl,_,rfl,zl3,fun p hp=>q _ _ _ p hp⟩
 ·exact ⟨_,rfl,zl3,fun p hp=>q _ _ _ p hp⟩
theorem zgE:FnScope ["_law_box_here","_law_wide","_law_found"] ["_law_box_here","_law_wide"] (zl zkd):=⟨rfl,rfl,rfl,by decide +kernel,rfl,by decide +kernel,by decide +kernel⟩
theorem zmV {n:Int} (h0:0 < n) (h:n < 10 ^ 61):n.natAbs.log2 < 9000:=by
 have h1:n.natAbs < 2 ^ 210:=by
  have:(10:Int) ^ 61<=2 ^ 210:=by decide
  omega
 have:=(Nat.log2_lt (by omega)).mpr h1
 omega
theorem zlC (F:Fun K "_law_take" "_law_take" zkd f fd):FnOk P w K mg base CX0 (k + 1) f fd ["_law_box_here","_law_wide"] za5:=by
 refine F.ok zgE (fun vs H Q E h=>?_) (fun cdv A outer s H vs Q E hr h=>?_)
 ·obtain ⟨b,n,rfl,_⟩:=h
  rfl
 obtain ⟨b,n,rfl,⟨a0,f0,m,hb⟩,hn,hn2,q⟩:=h
 refine ⟨_,(zb (zB (zal (zj zS (zy zQ (pv 0) zf (fun _ _=>rfl)) zf (nomark _)) (ZH (zj ZQ (zy zQ (pv 0) zf (fun _ _=>rfl)) (zP (za zf (za (zhq zgp zf) zc))) (by rfl)))).pt (zb (za9 (zy zQ (pv 0) zf (fun _ _=>rfl)) (zgo (pv 0) zf zcK))
  (zg (za9 zf (zgo (pv 0) zf zcK)))) zq)
  (zb (zB (zj zS (zy zQ (pv 0) zf (fun _ _=>rfl)) zf (nomark _)) (zb (zn (i:=2) zgE.nd rfl (Or.inl rfl) (zi zba (zy zQ (pv 0) zf (fun _ _=>rfl)) (pv 1)))
  (zb (za9 (zi zka (zy zQ (pv 0) zf (fun _ _=>rfl)) (pv 1)) (zgo (pv 0) zf zcK))
  (zg (zo (pv 2))))) zq)
  (zb (za9 (zi zba (zi zU (zi zcU (zy zQ (pv 0) zf (fun _ _=>rfl)) zf) zf) zf) (zgo (pv 0) zf zcK))
  (zb (zn (i:=2) zgE.nd rfl (Or.inl rfl) (zi zba (zi zcU (zy zQ (pv 0) zf (fun _ _=>rfl)) (zi zU (zi zba (zy zQ (pv 0) zf (fun _ _=>rfl)) zf) zf)) zf))
  (zb (zB (zj zcy (pv 1) (zi zcV zf zf) (nomark _)) (zg (zn (i:=2) zgE.nd rfl (Or.inl rfl) (zi zU (zi zcV (pv 2) zf) (pv 2)))) zq)
  (zg (zo (zi zba (pv 2) (pv 1))))))))),?_⟩
 refine seqI (fun σ' H'=>σ' = [some (.ref b),some (.int n),none]/\Step b H H') (fun σ' H1 h1=>?_) (fun rest=>?_)
 ·obtain ⟨rfl,st1⟩:=h1
  obtain ⟨a,f,m,hb1⟩:=st1.box
  refine ⟨_,rfl,b,_,1,.int f,rfl,rfl,SqL.of hb1,rfl,rfl,_,rfl,?_⟩
  refine ite2 (fun e=>?_) (fun e=>?_)
  ·refine ⟨_,rfl,b,_,0,.int a,rfl,rfl,SqL.of hb1,rfl,_,rfl,_,_,rfl,rfl,hn,?_⟩
   refine ⟨_,rfl,b,_,0,.int a,rfl,rfl,SqL.of hb1,rfl,_,rfl,_,_,rfl,rfl,⟨hn,zmV hn hn2⟩,_,rfl,b,_,0,0,rfl,rfl,hb1,rfl,?_⟩
   exact ⟨_,rfl,q _ _ (Int.emod_nonneg _ (by omega)) (Int.emod_lt_of_pos _ hn) (st1.trans (Step.put _ _ _))⟩
  ·refine ⟨_,rfl,b,_,0,.int a,rfl,rfl,SqL.of hb1,rfl,_,_,rfl,rfl,.inr ⟨by decide,by decide⟩,_,_,rfl,rfl,_,_,rfl,rfl,pos _,_,rfl,b,_,0,0,rfl,rfl,hb1,rfl,?_⟩
   refine ⟨_,rfl,b,_,0,_,rfl,rfl,SqL.of zd,rfl,_,rfl,b,_,0,_,rfl,rfl,SqL.of zd,rfl,_,_,rfl,rfl,pos _,_,_,rfl,rfl,_,_,rfl,rfl,.inr ⟨?_,?_⟩,_,_,rfl,rfl,pos _,?_⟩
   ·have:=Int.emod_nonneg ((a * 69621 + 104729) % 2147483587) (show (16807:Int)≠0 by decide)
    omega
   ·have:=Int.emod_lt_of_pos ((a * 69621 + 104729) % 2147483587) (show (0:Int) < 16807 by decide)
    omega
   dsimp only [ZI]
   refine seqI (t:=tIfS _ _ _) (fun σ' H'=>∃ x:Int,σ' = [some (.ref b),some (.int n),some (.int x)]/\Step b H H') (fun σ' H1 h1=>?_) (fun rest=>?_)
   ·obtain ⟨x,rfl,st2⟩:=h1
    exact ⟨_,rfl,_,rfl,_,_,rfl,rfl,hn,q _ _ (Int.emod_nonneg _ (by omega)) (Int.emod_lt_of_pos _ hn) st2⟩
   ·refine ⟨_,rfl,_,_,rfl,rfl,⟨by decide,by decide,by decide⟩,_,_,rfl,rfl,_,rfl,?_⟩
    refine ite2 (fun e=>?_) (fun e=>?_)
    ·refine ⟨_,rfl,_,_,rfl,rfl,⟨by decide,by decide,?_⟩,_,rfl,_,_,rfl,rfl,rest _ _ ⟨_,rfl,st1.trans (Step.put _ _ _)⟩⟩
     have l1:=Int.emod_nonneg ((a * 69621 + 104729) % 2147483587 * ((a * 69621 + 104729) % 2147483587 % 16807 + 1)) (show (2147483579:Int)≠0 by decide)
     have l2:=Int.emod_lt_of_pos ((a * 69621 + 104729) % 2147483587 * ((a * 69621 + 104729) % 2147483587 % 16807 + 1)) (show (0:Int) < 2147483579 by decide)
     omega
    ·exact rest _ _ ⟨_,rfl,st1.trans (Step.put _ _ _)⟩
 ·refine ⟨_,rfl,b,_,1,.int f0,rfl,rfl,SqL.of hb,rfl,rfl,_,rfl,?_⟩
  refine ite2 (fun e=>?_) (fun e=>?_)
  ·refine ⟨_,rfl,b,_,0,.int a0,rfl,rfl,SqL.of hb,rfl,_,rfl,zl2,fun t ht=>?_⟩
   have hb2:upd H t (.tup [.int 0,.int (-1)]) b = some (.lst [.int a0,.int f0,.int m]):=by rw [zu (zr hb ht)]; exact hb
   refine ⟨t,_,rfl,.inr (SqT.of zd),rfl,rfl,_,rfl,?_⟩
   refine ite2 (fun e=>?_) (fun e=>?_)
   ·refine ⟨_,rfl,b,_,2,.int m,rfl,rfl,SqL.of hb2,rfl,_,rfl,b,_,0,0,rfl,rfl,hb2,rfl,?_⟩
    refine ⟨_,rfl,b,_,1,1,rfl,rfl,zd,rfl,?_⟩
    exact rest _ _ ⟨rfl,((Step.new ⟨_,_,_,hb⟩ ht).trans (Step.put _ _ _)).trans (Step.put _ _ _)⟩
   ·exact rest _ _ ⟨rfl,Step.new ⟨_,_,_,hb⟩ ht⟩
  ·refine iteF ?_
   exact rest _ _ ⟨rfl,Step.refl ⟨_,_,_,hb⟩⟩
inductive W where
 | num (i:Int)
 | txt (x:Str)
 | lst (ws:List W)
mutual
def W.size:W->Int
 | .num _=>1
 | .txt x=>1 + (x.length:Int)
 | .lst ws=>1 + sizes ws
def sizes:List W->Int
 | []=>0
 | w :: r=>w.size + sizes r
end
mutual
def W.depth:W->Nat
 | .num _=>0
 | .txt _=>0
 | .lst ws=>1 + depths ws
def depths:List W->Nat
 | []=>0
 | w :: r=>max w.depth (depths r)
end
mutual
def W.Ok:W->Prop
 | .num i=>-(10 ^ 60) < i/\i < 10 ^ 60
 | .txt x=>x.length<=400/\Signs x
 | .lst ws=>ws.length<=60/\Oks ws
def Oks:List W->Prop
 | []=>True
 | w :: r=>w.Ok/\Oks r
end
theorem zhx (ws:List W) (w:W):sizes (ws ++ [w]) = sizes ws + w.size:=by
 induction ws with
 | nil=>simp [sizes]
 | cons x r ih=>simp only [List.cons_append,sizes,ih]; omega
theorem zfS (ws:List W) (w:W):depths (ws ++ [w]) = max (depths ws) w.depth:=by
 induction ws with
 | nil=>simp [depths]
 | cons x r ih=>simp only [List.cons_append,depths,ih]; omega
theorem zkg (ws:List W) (w:W):Oks (ws ++ [w]) ↔ Oks ws/\w.Ok:=by
 induction ws with
 | nil=>simp [Oks]
 | cons x r ih=>simp only [List.cons_append,Oks,ih,and_assoc]
theorem zlD {ws:List W} (h:Oks ws):∀ w∈ws,w.Ok:=by
 induction ws with
 | nil=>intro w hw; cases hw
 | cons x r ih=>
  intro w hw
  rcases List.mem_cons.mp hw with rfl | hw
  ·exact h.1
  ·exact ih h.2 w hw
theorem zcm {ws:List W}:∀ w∈ws,w.depth<=depths ws:=by
 induction ws with
 | nil=>intro w hw; cases hw
 | cons x r ih=>
  intro w hw
  simp only [depths]
  rcases List.mem_cons.mp hw with rfl | hw
  ·omega
  ·have:=ih w hw
   omega
inductive RW (H:Hp):V->W->Prop where
 | num (i:Int):RW H (.int i) (.num i)
 | txt (x:Str):RW H (.str x) (.txt x)
 | lst {a:Addr}{vs:List V}{ws:List W}:H a = some (.tup vs)->vs.length = ws.length->(∀ (i:Nat) (v:V) (w:W),vs[i]? = some v->ws[i]? = some w->RW H v w)->RW H (.ref a) (.lst ws)
structure RWs (H:Hp) (vs:List V) (ws:List W):Prop where
 len:vs.length = ws.length
 at':∀ (i:Nat) (v:V) (w:W),vs[i]? = some v->ws[i]? = some w->RW H v w
def Tups (H H':Hp):Prop:=∀ a vs,H a = some (.tup vs)->H' a = some (.tup vs)
theorem RW.mono {H H':Hp} (t:Tups H H') {v:V}{w:W} (h:RW H v w):RW H' v w:=by
 induction h with
 | num i=>exact .num i
 | txt x=>exact .txt x
 | lst e l _ ih=>exact .lst (t _ _ e) l ih
theorem RWs.mono {H H':Hp} (t:Tups H H') {vs:List V}{ws:List W} (h:RWs H vs ws):RWs H' vs ws:=⟨h.len,fun i v w a b=>(h.at' i v w a b).mono t⟩
theorem RWs.snoc {H:Hp}{vs:List V}{ws:List W}{v:V}{w:W} (h:RWs H vs ws) (x:RW H v w):RWs H (vs ++ [v]) (ws ++ [w]):=by
 refine ⟨by rw [List.length_append,List.length_append,h.len]; rfl,fun i v' w' a b=>?_⟩
 by_cases hi:i < vs.length
 ·rw [List.getElem?_append_left hi] at a
  rw [List.getElem?_append_left (h.len ▸ hi)] at b
  exact h.at' i v' w' a b
 ·rw [List.getElem?_append_right (by omega)] at a
  rw [List.getElem?_append_right (by have:=h.len; omega)] at b
  have hi0:i - vs.length = 0:=by
   have:=(List.getElem?_eq_some_iff.mp a).1
   simp at this
   omega
  have hi1:i - ws.length = 0:=by have:=h.len; omega
  rw [hi0] at a
  rw [hi1] at b
  have e1:v = v':=by simpa using a
  have e2:w = w':=by simpa using b
  rw [← e1,← e2]
  exact x
theorem Step.tups {b:Addr}{H H':Hp} (x:Step b H H') (hb:Zr H b):Tups H H':=fun a vs e=>x.keepN hb e (fun _ _ _ z=>nomatch z)
theorem zdZ {H:Hp}{p:Addr}{o:HO} (h:H p = none):Tups H (upd H p o):=fun a vs e=>by rw [zu (zr e h)]; exact e
theorem Z6 {H:Hp}{p:Addr}{xs:List V}{o:HO} (h:H p = some (.lst xs)):Tups H (upd H p o):=fun a vs e=>by rw [zu (zmz e h (fun z=>nomatch z))]; exact e
def zb8:Str:=Str.ofString " !#$&'()*+,-./0123456789:;<=>?@ABCDEFGHIJKLMNOPQRSTUVWXYZ"
def zb9:Str:=Str.ofString "[\\]^_`abcdefghijklmnopqrstuvwxyz{|}~"
theorem zaH:(zb8 ++ zb9).length = 93:=by decide +kernel
theorem ziH:∀ c∈(zb8 ++ zb9).cps.toList,32<=c/\c<=126/\c≠34/\c≠37:=by decide +kernel
theorem zt (x:Str):x.cps.toList.length = x.length:=by simp [Str.length]
theorem Zf (x y:Str):(x ++ y).cps.toList = x.cps.toList ++ y.cps.toList:=by
 show (x.cps ++ y.cps).toList = _
 simp
theorem zD (x y:Str):(x ++ y).length = x.length + y.length:=by
 rw [← zt,Zf,List.length_append,zt,zt]
mutual
theorem zgF:∀ w:W,1<=w.size
 | .num _=>by simp [W.size]
 | .txt x=>by simp only [W.size]; omega
 | .lst ws=>by have:=sizes_nn ws; simp only [W.size]; omega
theorem sizes_nn:∀ ws:List W,0<=sizes ws
 | []=>by simp [sizes]
 | w :: r=>by have h1:=zgF w; have h2:=sizes_nn r; simp only [sizes]; omega
end
theorem zdL:FnScope ["_law_box_here","_law_most","_law_signs","_law_found","_law_k"] ["_law_box_here","_law_most"] (zl zke):=⟨rfl,rfl,rfl,by decide +kernel,rfl,by decide +kernel,by decide +kernel⟩
theorem small {n:Nat} (h:n<=1000000):n<=sizeLine:=Nat.le_trans h (by decide)
theorem zlE (F:Fun K "_law_text" "_law_text" zke f fd) (G_ltake:Have P w K mg base "_law_take" k ["_law_box_here","_law_wide"] za5) (m_len:mg "len" = none) (m_range:mg "range" = none):
  FnOk P w K mg base CX0 (k + 1) f fd ["_law_box_here","_law_most"] ziG:=by
 refine F.ok zdL (fun vs H Q E h=>?_) (fun cdv A outer s H vs Q E hr h=>?_)
 ·obtain ⟨b,n,rfl,_⟩:=h
  rfl
 obtain ⟨b,n,rfl,hb,hn,hn2,q⟩:=h
 refine ⟨_,(zb (zn (i:=2) zdL.nd rfl (Or.inl rfl) ze)
  (zb (zn (i:=2) zdL.nd rfl (Or.inl rfl) (zi zh (pv 2) ze))
  (zb (zn (i:=3) zdL.nd rfl (Or.inl rfl) ze)
  (zb (zaC PassesOwn.never rfl (Z8 rfl m_range (za (zw G_ltake hr rfl (za (pv 0) (za (zi zU (pv 1) zf) zc))) zc)) (zZ (i:=4) zdL.nd rfl (Or.inl rfl)) (zg (zn (i:=3) zdL.nd rfl (Or.inl rfl) (zi zh (pv 3) (zy zbY (pv 2) (zw G_ltake hr rfl (za (pv 0) (za (zk zz rfl m_len PySem.boot_len (za (pv 2) zc)) zc))) (fun _ _=>rfl))))))
  (zg (zo (pv 3))))))),?_⟩
 refine ⟨_,rfl,zb8,zb9,rfl,rfl,small (by decide +kernel),?_⟩
 refine ⟨_,rfl,_,rfl,_,_,rfl,rfl,b,n + 1,rfl,hb,by omega,by omega,fun r H1 h0 h1 st=>?_⟩
 refine ⟨r,rfl,by omega,by omega,zcT (n:=r.toNat) (fun i σ' H'=>∃ (x:Str) (o:Option V),σ' = [some (.ref b),some (.int n),some (.str (zb8 ++ zb9)),some (.str x),o]/\x.length = i/\Signs x/\Step b H H')
  ⟨Str.ofString "",none,rfl,rfl,?_,st⟩ (fun i σ' H' hi h=>?_) (fun σ' H' h=>?_)⟩
 ·intro c hc
  have e0:(Str.ofString "").cps.toList = []:=by decide +kernel
  rw [e0] at hc
  cases hc
 ·obtain ⟨x,o,rfl,hx,sx,st1⟩:=h
  refine ⟨_,rfl,_,rfl,_,rfl,_,rfl,_,_,rfl,⟨small (by rw [zaH]; decide),rfl⟩,b,_,rfl,st1.box,by rw [zaH]; decide,by rw [zaH]; decide,fun r2 H2 r0 r1 st2=>?_⟩
  rw [zaH] at r1
  have hr2:r2.toNat < (zb8 ++ zb9).cps.toList.length:=by rw [zt,zaH]; omega
  have er2:r2 = ((r2.toNat:Nat):Int):=by omega
  have a1:atI (zb8 ++ zb9).cps.toList ((r2.toNat:Nat):Int) = some (zb8 ++ zb9).cps.toList[r2.toNat]:=zM (List.getElem?_eq_getElem hr2)
  rw [← er2] at a1
  refine ⟨_,r2,_,rfl,rfl,small (by rw [zaH]; decide),a1,x,_,rfl,rfl,small ?_,?_⟩
  ·have:(Str.mk #[(zb8 ++ zb9).cps.toList[r2.toNat]]).length = 1:=rfl
   rw [this]
   omega
  ·refine ⟨_,_,rfl,?_,?_,st1.trans st2⟩
   ·rw [zD,hx]
    rfl
   ·intro c hc
    rw [Zf] at hc
    rcases List.mem_append.mp hc with hc | hc
    ·exact sx c hc
    ·have:c = (zb8 ++ zb9).cps.toList[r2.toNat]:=by simpa using hc
     rw [this]
     exact ziH _ (List.getElem_mem _)
 ·obtain ⟨x,o,rfl,hx,sx,st1⟩:=h
  exact ⟨_,rfl,q x H' (by omega) sx st1⟩
theorem zgG:FnScope ["_law_box_here","_law_kind"] ["_law_box_here"] (zl zdX):=⟨rfl,rfl,rfl,by decide +kernel,rfl,by decide +kernel,by decide +kernel⟩
theorem ziI (F:Fun K "_law_number" "_law_number" zdX f fd) (G_ltake:Have P w K mg base "_law_take" k ["_law_box_here","_law_wide"] za5):
  FnOk P w K mg base CX0 (k + 1) f fd ["_law_box_here"] zcN:=by
 refine F.ok zgG (fun vs H Q E h=>?_) (fun cdv A outer s H vs Q E hr h=>?_)
 ·obtain ⟨b,rfl,_⟩:=h
  rfl
 obtain ⟨b,rfl,hb,q⟩:=h
 refine ⟨_,(zb (zn (i:=1) zgG.nd rfl (Or.inl rfl) (zw G_ltake hr rfl (za (pv 0) (za zf zc))))
  (zb (zB (zj zS (pv 1) zf (nomark _)) (zg (zo (zi zU (zi Zq (zw G_ltake hr rfl (za (pv 0) (za (zi Zq (zi zcU zf (zi zcV zf zf)) zf) zc))) (zi zcV zf zf)) zf))) zq)
  (zb (zB (zj zS (pv 1) zf (nomark _)) (zg (zo (zy zQ (zx (za (zi Zq (zi zcV zf zf) zf) (za (zi Zq zf (zi zcV zf zf)) (za zf (za (zhq zgp zf) zc))))) (zw G_ltake hr rfl (za (pv 0) (za zf zc))) (fun _ _=>rfl)))) zq)
  (zg (zo (zi Zq (zw G_ltake hr rfl (za (pv 0) (za zf zc))) zf)))))),?_⟩
 refine ⟨_,rfl,b,4,rfl,hb,by decide,by decide,fun r H1 h0 h1 st=>?_⟩
 refine ⟨_,rfl,rfl,_,rfl,?_⟩
 refine ite2 (fun e=>?_) (fun e=>?_)
 ·refine ⟨_,rfl,_,_,rfl,rfl,⟨by decide,by decide,by decide⟩,_,_,rfl,rfl,.inl ⟨by decide,by decide⟩,_,_,rfl,rfl,b,_,rfl,st.box,by decide,by decide,fun r2 H2 r0 r1 st2=>?_⟩
  refine ⟨_,_,rfl,rfl,⟨by decide,by decide,by decide⟩,_,_,rfl,rfl,_,_,rfl,rfl,q _ _ ?_ ?_ (st.trans st2)⟩
  ·have:(10:Int) ^ (60:Int).toNat = 10 ^ 60:=rfl
   omega
  ·have:(10:Int) ^ (60:Int).toNat = 10 ^ 60:=rfl
   have r1:r2 < 2 * 10 ^ 60 - 1:=r1
   omega
 ·refine ⟨_,rfl,rfl,_,rfl,?_⟩
  refine ite2 (fun e=>?_) (fun e=>?_)
  ·refine ⟨_,_,rfl,rfl,⟨by decide,by decide,by decide⟩,_,_,rfl,rfl,_,_,rfl,rfl,⟨by decide,by decide,by decide⟩,_,_,rfl,rfl,_,rfl,zl4,fun p hp=>?_⟩
   have st1:=st.trans (Step.new (o:=.lst [.int (10 ^ 60 - 1),.int (1 - 10 ^ 60),.int 0,.int (-1)]) st.box hp)
   refine ⟨_,rfl,b,4,rfl,st1.box,by decide,by decide,fun r2 H2 r0 r1 st2=>?_⟩
   have hp2:H2 p = some (.lst [.int (10 ^ 60 - 1),.int (1 - 10 ^ 60),.int 0,.int (-1)]):=by
    obtain ⟨a',f',m',e'⟩:=st.box
    exact st2.keep p _ (zr e' hp).symm zd
   have hcases:r2 = 0\/r2 = 1\/r2 = 2\/r2 = 3:=by omega
   rcases hcases with rfl | rfl | rfl | rfl
   ·exact ⟨p,_,0,_,rfl,rfl,SqL.of hp2,rfl,q _ _ (by decide) (by decide) (st1.trans st2)⟩
   ·exact ⟨p,_,1,_,rfl,rfl,SqL.of hp2,rfl,q _ _ (by decide) (by decide) (st1.trans st2)⟩
   ·exact ⟨p,_,2,_,rfl,rfl,SqL.of hp2,rfl,q _ _ (by decide) (by decide) (st1.trans st2)⟩
   ·exact ⟨p,_,3,_,rfl,rfl,SqL.of hp2,rfl,q _ _ (by decide) (by decide) (st1.trans st2)⟩
  ·refine ⟨_,rfl,b,12,rfl,st.box,by decide,by decide,fun r2 H2 r0 r1 st2=>?_⟩
   exact ⟨_,_,rfl,rfl,q _ _ (by have:(3:Int) < 10 ^ 60:=(by decide); omega) (by have:(12:Int) < 10 ^ 60:=(by decide); omega) (st.trans st2)⟩
def zd0 (n:Nat):Sp:=fun vs H Q _=>∃ (b:Addr) (room deep:Int),vs = [.ref b,.int room,.int deep]/\Zr H b/\1<=room/\room < 1000/\0<=deep/\deep < n /\
 ∀ (v:V) (x:W) (H':Hp),RW H' v x->x.Ok->(x.depth:Int)<=deep->x.size<=16 * room->Step b H H'->Q v H'
theorem zbf:FnScope ["_law_box_here","_law_room","_law_deep","_law_kind","_law_wide","_law_left","_law_found","_law_k","_law_share"] ["_law_box_here","_law_room","_law_deep"] (zl zgB):=⟨rfl,rfl,rfl,by decide +kernel,rfl,by decide +kernel,by decide +kernel⟩
theorem zkh {n:Nat} (F:Fun K "_law_worth" "_law_worth" zgB f fd) (G_ltake:Have P w K mg base "_law_take" k ["_law_box_here","_law_wide"] za5) (G_ltext:Have P w K mg base "_law_text" k ["_law_box_here","_law_most"] ziG)
  (G_lnumber:Have P w K mg base "_law_number" k ["_law_box_here"] zcN) (G_lworth:Have P w K mg base "_law_worth" k ["_law_box_here","_law_room","_law_deep"] (zd0 n))
  (m_min:mg "min" = none) (m_range:mg "range" = none) (m_tuple:mg "tuple" = none):FnOk P w K mg base CX0 (k + 1) f fd ["_law_box_here","_law_room","_law_deep"] (zd0 (n + 1)):=by
 refine F.ok zbf (fun vs H Q E h=>?_) (fun cdv A outer s H vs Q E hr h=>?_)
 ·obtain ⟨b,room,deep,rfl,_⟩:=h
  rfl
 obtain ⟨b,room,deep,rfl,hb,hr1,hr2,hd0,hd1,q⟩:=h
 refine ⟨_,(zb (zn (i:=3) zbf.nd rfl (Or.inl rfl) (zw G_ltake hr rfl (za (pv 0) (za zf zc))))
  (zb (zB (zaK (zj zS (pv 3) zf (nomark _)) (zak (zal (zj zS (pv 3) zf (nomark _)) (ZH (zj zeN (pv 2) zf (nomark _)))).pt)).pt (zg (zo (zw G_lnumber hr rfl (za (pv 0) zc)))) zq)
  (zb (zB (zj zS (pv 3) zf (nomark _)) (zg (zo (zw G_ltext hr rfl (za (pv 0) (za zf zc))))) zq)
  (zb (zn (i:=4) zbf.nd rfl (Or.inl rfl) (zw G_ltake hr rfl (za (pv 0) (za (zk (zeQ rfl) rfl m_min PyProof.Rows.boot_min (za (pv 1) (za zf zc))) zc))))
  (zb (zn (i:=5) zbf.nd rfl (Or.inl rfl) (zi Zq (pv 1) zf))
  (zb (zn (i:=6) zbf.nd rfl (Or.inl rfl) (zx zc))
  (zb (zaC PassesOwn.never rfl (Z8 rfl m_range (za (pv 4) zc)) (zZ (i:=7) zbf.nd rfl (Or.inl rfl)) (zb (zn (i:=8) zbf.nd rfl (Or.inl rfl) (zi zU zf (zw G_ltake hr rfl (za (pv 0) (za (zi Zq (pv 5) (zi Zq (zi Zq (pv 4) zf) (pv 7))) zc)))))
  (zb (ZB (zaE PySem.F.plainAttrs_list PySem.F.slot_list_append PySem.F.type_list_append ZR (pv 6) (za (zw G_lworth hr rfl (za (pv 0) (za (pv 8) (za (zi Zq (pv 2) zf) zc)))) zc)))
  (zg (zn (i:=5) zbf.nd rfl (Or.inl rfl) (zi Zq (pv 5) (pv 8)))))))
  (zg (zo (zC Zw rfl m_tuple Za (za (pv 6) zc))))))))))),?_⟩
 refine ⟨_,rfl,b,3,rfl,hb,by decide,by decide,fun kd H1 k0 k1 st=>?_⟩
 dsimp only [ZI]
 refine seqI (t:=tIfS _ _ _) (fun σ' H'=>σ' = [some (.ref b),some (.int room),some (.int deep),some (.int kd),none,none,none,none,none]/\Step b H H'/\(kd = 1\/(kd = 2/\1<=deep))) (fun σ' H2 h2=>?_) (fun rest=>?_)
 ·obtain ⟨rfl,st2,hk⟩:=h2
  refine ⟨_,rfl,rfl,_,rfl,?_⟩
  refine ite2 (fun e=>?_) (fun e=>?_)
  ·refine ⟨_,rfl,b,15,rfl,st2.box,by decide,by decide,fun x H3 hx sx st3=>?_⟩
   refine q _ _ _ (.txt x) ⟨by omega,sx⟩ (by show ((0:Nat):Int)<=deep; omega) ?_ (st2.trans st3)
   show 1 + (x.length:Int)<=16 * room
   omega
  ·have e':¬ V.int kd = V.int 1:=of_decide_eq_false (Bool.eq_false_iff.mpr e)
   have hk2:kd = 2/\1<=deep:=by
    rcases hk with hk | hk
    ·exact absurd (by rw [hk]) e'
    ·exact hk
   refine ⟨_,rfl,_,rfl,room,61,rfl,b,_,rfl,st2.box,?_,?_,fun wide H3 w0 w1 st3=>?_⟩
   ·split <;> omega
   ·split <;> omega
   have w2:wide < room/\wide < 61:=by
    revert w1
    split <;> intro w1 <;> omega
   refine ⟨_,rfl,_,_,rfl,rfl,zl0,fun l hl=>?_⟩
   have st4:=(st2.trans st3).trans (Step.new (o:=.lst []) st3.box hl)
   have lb:l≠b:=by
    obtain ⟨a',f',m',e'⟩:=st3.box
    exact (zr e' hl).symm
   have hlH:H l = none:=by
    cases e:H l with
    | none=>rfl
    | some o=>
     have:=(st2.trans st3).keep l o lb e
     rw [hl] at this
     cases this
   refine ⟨_,rfl,wide,rfl,by omega,by omega,zcT (n:=wide.toNat) (fun i σ' H'=>∃ (left:Int) (vs:List V) (ws:List W) (o1 o2:Option V),
     σ' = [some (.ref b),some (.int room),some (.int deep),some (.int kd),some (.int wide),some (.int left),some (.ref l),o1,o2]/\H' l = some (.lst vs)/\RWs H' vs ws/\ws.length = i/\Oks ws/\(depths ws:Int)<=deep - 1 /\
     sizes ws<=16 * (room - 1 - left)/\wide - i<=left/\Step b H H')
    ⟨room - 1,[],[],none,none,rfl,zd,⟨rfl,fun i v w e=>by simp at e⟩,rfl,trivial,by show ((0:Nat):Int)<=deep - 1; omega,by simp [sizes],by omega,st4⟩ (fun i σ' H' hi h=>?_) (fun σ' H' h=>?_)⟩
   ·obtain ⟨left,vs,ws,o1,o2,rfl,hl',hrw,hlen,hok,hdp,hsz,hleft,st5⟩:=h
    have nn:=sizes_nn ws
    refine ⟨_,rfl,_,rfl,_,rfl,_,_,rfl,rfl,_,rfl,_,_,rfl,rfl,_,_,rfl,rfl,b,_,rfl,st5.box,?_,?_,fun r H5 r0 r1 st6=>?_⟩
    ·omega
    ·have:(2000:Int) < 10 ^ 61:=by decide
     omega
    have hl5:H5 l = some (.lst vs):=st6.keep l _ lb hl'
    refine ⟨_,_,rfl,rfl,_,rfl,.inl ⟨rfl,_,SqL.of hl5⟩,_,rfl,_,rfl,_,rfl,_,_,rfl,rfl,b,_,_,rfl,st6.box,?_,?_,?_,?_,fun v x H6 rx okx dx sx st7=>?_⟩
    ·omega
    ·omega
    ·omega
    ·omega
    have hl6:H6 l = some (.lst vs):=st7.keep l _ lb hl5
    have hlv:vs.length<=61:=by have:=hrw.len; omega
    refine ⟨l,vs,v,rfl,rfl,hl6,Nat.lt_of_le_of_lt hlv (by decide),?_⟩
    refine ⟨_,rfl,_,rfl,_,_,rfl,rfl,?_⟩
    have t6:Tups H' H6:=fun a us e=>(st7.tups st6.box) a us ((st6.tups st5.box) a us e)
    have t7:=Z6 (o:=.lst (vs ++ [v])) hl6
    refine ⟨_,vs ++ [v],ws ++ [x],_,_,rfl,zd,((hrw.mono t6).mono t7).snoc (rx.mono t7),?_,(zkg _ _).mpr ⟨hok,okx⟩,?_,?_,?_,?_⟩
    ·rw [List.length_append,hlen]; rfl
    ·rw [zfS]; omega
    ·rw [zhx]; omega
    ·omega
    ·refine ⟨?_,fun c o hc e=>?_⟩
     ·obtain ⟨a',f',m',e'⟩:=st7.box
      exact ⟨a',f',m',by rw [zu lb.symm]; exact e'⟩
     ·rw [zu (zr e hlH)]
      exact (st5.trans (st6.trans st7)).keep c o hc e
   ·obtain ⟨left,vs,ws,o1,o2,rfl,hl',hrw,hlen,hok,hdp,hsz,hleft,st5⟩:=h
    refine ⟨_,rfl,l,vs,rfl,.inl ⟨SqL.of hl',fun t ht=>?_⟩⟩
    have t6:=zdZ (o:=.tup vs) ht
    refine q _ (.lst ws) _ (.lst zd hrw.len fun i v x a b=>(hrw.at' i v x a b).mono t6) ⟨by omega,hok⟩ ?_ ?_ (st5.trans (Step.new st5.box ht))
    ·show ((1 + depths ws:Nat):Int)<=deep
     omega
    ·show 1 + sizes ws<=16 * room
     omega
 ·refine ⟨_,rfl,rfl,_,rfl,?_⟩
  have fin:∀ H2,Step b H H2->zcN [.ref b] H2 Q E0:=fun H2 st2=>⟨b,rfl,st2.box,fun i H3 i0 i1 st3=>q _ (.num i) _ (.num i) ⟨i0,i1⟩ (by show ((0:Nat):Int)<=deep; omega) (by show (1:Int)<=16 * room; omega) (st2.trans st3)⟩
  refine ite2 (fun e=>?_) (fun e=>?_)
  ·refine iteT ?_
   exact ⟨_,rfl,fin H1 st⟩
  ·have e':¬ V.int kd = V.int 0:=of_decide_eq_false (Bool.eq_false_iff.mpr e)
   have kne:kd≠0:=fun z=>e' (by rw [z])
   refine ⟨_,rfl,rfl,_,rfl,?_⟩
   refine ite2 (fun e2=>?_) (fun e2=>?_)
   ·have e2':V.int kd = V.int 2:=of_decide_eq_true e2
    have kd2:kd = 2:=by injection e2'
    refine ⟨_,rfl,_,_,rfl,rfl,_,rfl,?_⟩
    refine ite2 (fun e3=>?_) (fun e3=>?_)
    ·exact ⟨_,rfl,fin H1 st⟩
    ·have e3':¬ deep < 1:=of_decide_eq_false (Bool.eq_false_iff.mpr e3)
     exact rest _ _ ⟨rfl,st,.inr ⟨kd2,by omega⟩⟩
   ·have e2':¬ V.int kd = V.int 2:=of_decide_eq_false (Bool.eq_false_iff.mpr e2)
    have kne2:kd≠2:=fun z=>e2' (by rw [z])
    refine iteF ?_
    exact rest _ _ ⟨rfl,st,.inl (by omega)⟩
inductive T where
 | non
 | bl (b:Bool)
 | num (i:Int)
 | txt (x:Str)
 | tup (ts:List T)
 | lst
 | dic
mutual
def T.size:T->Int
 | .txt x=>1 + (x.length:Int)
 | .tup ts=>1 + tsizes ts
 | _=>1
def tsizes:List T->Int
 | []=>0
 | t :: r=>t.size + tsizes r
end
mutual
def T.nodes:T->Nat
 | .tup ts=>1 + tnodes ts
 | _=>1
def tnodes:List T->Nat
 | []=>0
 | t :: r=>t.nodes + tnodes r
end
def zcn (c:Nat):Bool:=decide (32<=c) && (decide (c<=126) && (decide (c≠34) && decide (c≠37)))
def zaY (x:Str):Bool:=x.cps.toList.all zcn
def zdM (lv:Int):T->Bool
 | .num i=>decide (-(10 ^ 60) < i/\i < 10 ^ 60)
 | .txt x=>decide (x.length<=400) && zaY x
 | .tup ts=>decide (ts.length<=60) && decide (0 < lv)
 | _=>false
mutual
def zca:T->Int->Bool
 | .tup ts,lv=>decide (ts.length<=60) && decide (0 < lv) && fitsA ts (lv - 1)
 | .num i,_=>decide (-(10 ^ 60) < i/\i < 10 ^ 60)
 | .txt x,_=>decide (x.length<=400) && zaY x
 | .non,_=>false
 | .bl _,_=>false
 | .lst,_=>false
 | .dic,_=>false
def fitsA:List T->Int->Bool
 | [],_=>true
 | t :: r,lv=>zca t lv && fitsA r lv
end
def Zp (t:T):Bool:=zca t 12 && decide (t.size<=1000)
mutual
def T.Sm:T->Prop
 | .txt x=>x.length<=100000
 | .tup ts=>ts.length<=100000/\Sms ts
 | _=>True
def Sms:List T->Prop
 | []=>True
 | t :: r=>t.Sm/\Sms r
end
mutual
theorem ze5:∀ t:T,1<=t.size
 | .non=>by simp [T.size]
 | .bl _=>by simp [T.size]
 | .num _=>by simp [T.size]
 | .lst=>by simp [T.size]
 | .dic=>by simp [T.size]
 | .txt x=>by simp only [T.size]; omega
 | .tup ts=>by have:=tsizes_nn ts; simp only [T.size]; omega
theorem tsizes_nn:∀ ts:List T,0<=tsizes ts
 | []=>by simp [tsizes]
 | t :: r=>by have h1:=ze5 t; have h2:=tsizes_nn r; simp only [tsizes]; omega
end
theorem zfT {ts:List T} (h:Sms ts):∀ t∈ts,t.Sm:=by
 induction ts with
 | nil=>intro t ht; cases ht
 | cons x r ih=>
  intro t ht
  rcases List.mem_cons.mp ht with rfl | ht
  ·exact h.1
  ·exact ih h.2 t ht
inductive RT (H:Hp):V->T->Prop where
 | non:RT H .non .non
 | bl (b:Bool):RT H (.bl b) (.bl b)
 | num (i:Int):RT H (.int i) (.num i)
 | txt (x:Str):RT H (.str x) (.txt x)
 | tup {a:Addr}{vs:List V}{ts:List T}:H a = some (.tup vs)->vs.length = ts.length->(∀ (i:Nat) (v:V) (t:T),vs[i]? = some v->ts[i]? = some t->RT H v t)->RT H (.ref a) (.tup ts)
 | lst {a:Addr}{vs:List V}:H a = some (.lst vs)->RT H (.ref a) .lst
 | dic {a:Addr}{kvs:List (Key × V)}:H a = some (.dK kvs)->RT H (.ref a) .dic
theorem RT.mono {H H':Hp} (s:Same H H') {v:V}{t:T} (h:RT H v t):RT H' v t:=by
 induction h with
 | non=>exact .non
 | bl b=>exact .bl b
 | num i=>exact .num i
 | txt x=>exact .txt x
 | tup e l _ ih=>exact .tup (s _ _ e) l ih
 | lst e=>exact .lst (s _ _ e)
 | dic e=>exact .dic (s _ _ e)
def zmW:T->Bool
 | .num _=>true
 | _=>false
def zfU:Sp:=fun vs H Q _=>∃ (v:V) (t:T),vs = [v]/\RT H v t/\Q (.bl (zmW t)) H
def zd1:Sp:=fun vs H Q _=>∃ c:Nat,vs = [.str ⟨#[c]⟩]/\Q (.bl (zcn c)) H
def ziJ:Sp:=fun vs H Q _=>∃ (v:V) (t:T) (lv:Int),vs = [v,.int lv]/\RT H v t/\t.Sm/\∀ H',Same H H'->Q (.bl (zdM lv t)) H'
def Z0:T->Int
 | .txt x=>1 + (x.length:Int)
 | _=>1
def zfV:Sp:=fun vs H Q _=>∃ (v:V) (t:T),vs = [v]/\RT H v t/\t.Sm/\Q (.int (Z0 t)) H
def zc4:Sp:=fun vs H Q _=>∃ (v:V) (t:T),vs = [v]/\RT H v t/\t.Sm/\∀ H',Same H H'->Q (.bl (Zp t)) H'
theorem zk6 (a b:Nat):decide (([a]:List Nat) < [b]) = decide (a < b):=by
 rw [Bool.eq_iff_iff,decide_eq_true_iff,decide_eq_true_iff]
 constructor
 ·intro h
  rcases List.cons_lt_cons_iff.mp h with h | ⟨_,h⟩
  ·exact h
  ·exact absurd h (List.not_lt_nil _)
 ·exact fun h=>List.cons_lt_cons_iff.mpr (.inl h)
theorem zki:FnScope ["thing"] ["thing"] (zl zaN):=⟨rfl,rfl,rfl,by decide +kernel,rfl,by decide +kernel,by decide +kernel⟩
theorem zkj (F:Fun K "is_number" "is_number" zaN f fd) (m_isi:mg "isinstance" = none) (m_int:mg "int" = none) (m_bool:mg "bool" = none):FnOk P w K mg base CX0 (k + 1) f fd ["thing"] zfU:=by
 refine F.ok zki (fun vs H Q E h=>?_) (fun cdv A outer s H vs Q E hr h=>?_)
 ·obtain ⟨v,t,rfl,_⟩:=h
  rfl
 obtain ⟨v,t,rfl,rt,q⟩:=h
 refine ⟨_,(zg (zo (zaB (zk ZE rfl m_isi zT (za (pv 0) (za (zbe rfl m_int Z9) zc))) (zao (zeM (zk ZE rfl m_isi zT (za (pv 0) (za (zbe rfl m_bool zhw) zc)))))))),?_⟩
 cases rt with
 | non=>exact ⟨_,rfl,_,_,_,_,rfl,.non,zmO,_,rfl,iteF q⟩
 | bl b=>exact ⟨_,rfl,_,_,_,_,rfl,.bl b,zmN,_,rfl,iteT ⟨_,rfl,_,_,_,_,rfl,.bl b,zmS,_,rfl,q⟩⟩
 | num i=>exact ⟨_,rfl,_,_,_,_,rfl,.int i,zmL,_,rfl,iteT ⟨_,rfl,_,_,_,_,rfl,.int i,zmR,_,rfl,q⟩⟩
 | txt x=>exact ⟨_,rfl,_,_,_,_,rfl,.str x,zmM,_,rfl,iteF q⟩
 | tup e _ _=>exact ⟨_,rfl,_,_,_,_,rfl,.tup e,zmK,_,rfl,iteF q⟩
 | lst e=>exact ⟨_,rfl,_,_,_,_,rfl,.lst e,zmP,_,rfl,iteF q⟩
 | dic e=>exact ⟨_,rfl,_,_,_,_,rfl,.dK e,zmQ,_,rfl,iteF q⟩
theorem ziK:FnScope ["sign"] ["sign"] (zl zb2):=⟨rfl,rfl,rfl,by decide +kernel,rfl,by decide +kernel,by decide +kernel⟩
theorem zhy (c d:Nat):(!decide (V.str ⟨#[c]⟩ = V.str ⟨#[d]⟩)) = decide (c≠d):=by
 rw [Bool.eq_iff_iff]
 simp
theorem ziL (F:Fun K "is_sign" "is_sign" zb2 f fd) (m_ord:mg "ord" = none) (m_PERCENT:∃ t,mg "PERCENT" = some (.int 37 t)):FnOk P w K mg base CX0 (k + 1) f fd ["sign"] zd1:=by
 refine F.ok ziK (fun vs H Q E h=>?_) (fun cdv A outer s H vs Q E hr h=>?_)
 ·obtain ⟨c,rfl,_⟩:=h
  rfl
 obtain ⟨c,rfl,q⟩:=h
 refine ⟨_,(zg (zo (zaB (zjY ze2 ze2 ze (pv 0) ze) (zaB (zK zdz (pv 0) ze (nomark _)) (zao (zK zdz (zk (zj0) rfl m_ord ziD (za (pv 0) zc)) (Zo rfl m_PERCENT) (nomark _))))))),?_⟩
 have e32:(Str.ofString " ").cps.toList = [32]:=by decide +kernel
 have e126:(Str.ofString "~").cps.toList = [126]:=by decide +kernel
 have e34:Str.ofString "\"" = ⟨#[34]⟩:=by decide +kernel
 have l1:(!decide ((Str.mk #[c]).cps.toList < (Str.ofString " ").cps.toList)) = decide (32<=c):=by rw [e32]; show (!decide (([c]:List Nat) < [32])) = _; rw [zk6,Bool.eq_iff_iff]; simp
 have l2:(!decide ((Str.ofString "~").cps.toList < (Str.mk #[c]).cps.toList)) = decide (c<=126):=by rw [e126]; show (!decide (([126]:List Nat) < [c])) = _; rw [zk6,Bool.eq_iff_iff]; simp
 have l3:(!decide (V.str ⟨#[c]⟩ = V.str (Str.ofString "\""))) = decide (c≠34):=by rw [e34]; exact zhy c 34
 have l4:(!decide (V.int ((((Str.mk #[c]).cps.getD 0 0:Nat)):Int) = V.int 37)) = decide (c≠37):=by
  show (!decide (V.int (c:Int) = V.int 37)) = decide (c≠37)
  rw [Bool.eq_iff_iff]
  simp
  omega
 refine ⟨_,rfl,_,_,rfl,rfl,_,rfl,?_⟩
 have fin:∀ b:Bool,zcn c = b->Q (.bl b) H:=fun b e=>by rw [← e]; exact q
 refine ite2 (fun e=>?_) (fun e=>?_)
 ·have e1:decide (32<=c) = true:=by rw [← l1]; exact e
  refine ⟨_,_,rfl,rfl,_,rfl,?_⟩
  refine ite2 (fun e=>?_) (fun e=>?_)
  ·have e2:decide (c<=126) = true:=by rw [← l2]; exact e
   refine ⟨_,rfl,rfl,_,rfl,?_⟩
   refine ite2 (fun e=>?_) (fun e=>?_)
   ·have e3:decide (c≠34) = true:=by rw [← l3]; exact e
    refine ⟨_,rfl,_,rfl,rfl,rfl,fin _ ?_⟩
    rw [l4]
    unfold zcn
    rw [e1,e2,e3]
    rfl
   ·have e3:decide (c≠34) = false:=by rw [← l3]; exact Bool.eq_false_iff.mpr e
    refine fin _ ?_
    unfold zcn
    rw [e1,e2,e3]
    rfl
  ·have e2:decide (c<=126) = false:=by rw [← l2]; exact Bool.eq_false_iff.mpr e
   refine fin _ ?_
   unfold zcn
   rw [e1,e2]
   rfl
 ·have e1:decide (32<=c) = false:=by rw [← l1]; exact Bool.eq_false_iff.mpr e
  refine ⟨_,rfl,iteF (fin _ ?_)⟩
  unfold zcn
  rw [e1]
  rfl
theorem zlF:FnScope ["thing","levels"] ["thing","levels"] (zl zas):=⟨rfl,rfl,rfl,by decide +kernel,rfl,by decide +kernel,by decide +kernel⟩
theorem all_map {α:Type} (p:α->Bool) (l:List α):(l.map p).all id = l.all p:=by rw [List.all_map]; rfl
theorem zlG (F:Fun K "fits_alone" "fits_alone" zas f fd) (G_is_number:Have P w K mg base "is_number" k ["thing"] zfU) (G_is_sign:Have P w K mg base "is_sign" k ["sign"] zd1)
  (m_isi:mg "isinstance" = none) (m_str:mg "str" = none) (m_tuple:mg "tuple" = none) (m_len:mg "len" = none) (m_all:mg "all" = none) (m_abs:mg "abs" = none) (m_MOST_SIGNS:∃ t,mg "MOST_SIGNS" = some (.int 400 t)) (m_MOST_ITEMS:∃ t,mg "MOST_ITEMS" = some (.int 60 t)):
  FnOk P w K mg base CX0 (k + 1) f fd ["thing","levels"] ziJ:=by
 refine F.ok zlF (fun vs H Q E h=>?_) (fun cdv A outer s H vs Q E hr h=>?_)
 ·obtain ⟨v,t,lv,rfl,_⟩:=h
  rfl
 obtain ⟨v,t,lv,rfl,rt,sm,q⟩:=h
 refine ⟨_,(zb (zB (zW (zw G_is_number hr rfl (za (pv 0) zc))) (zg (zo (zK zeN (zk (zjZ) rfl m_abs ziE (za (pv 0) zc)) (zi zcV zf zf) (nomark _)))) zq)
  (zb (zB (zW (zk ZE rfl m_isi zT (za (pv 0) (za (zbe rfl m_str zaG) zc)))) (zg (zo (zaB (zK zhr (zk zz rfl m_len PySem.boot_len (za (pv 0) zc)) (Zo rfl m_MOST_SIGNS) (nomark _)) (zao (zk (Z2 rfl) rfl m_all zb1 (za (Zx [] [] rfl rfl (by decide +kernel) rfl (by decide +kernel) rfl (by decide +kernel) trivial rfl trivial (ze1 (pv 0)) (fun C s H fp=>⟨Zj,(zw G_is_sign hr rfl (za (pv 0) zc))⟩)) zc)))))) zq)
  (zg (zo (zaB (zk ZE rfl m_isi zT (za (pv 0) (za (zbe rfl m_tuple Za) zc))) (zaB (zK zhr (zk zz rfl m_len PySem.boot_len (za (pv 0) zc)) (Zo rfl m_MOST_ITEMS) (nomark _)) (zao (zK zcy (pv 1) zf (nomark _))))))))),?_⟩
 have q0:∀ b:Bool,zdM lv t = b->Q (.bl b) H:=fun b e=>by rw [← e]; exact q H (Same.refl H)
 refine ⟨_,rfl,v,t,rfl,rt,_,rfl,?_⟩
 cases rt with
 | non=>exact iteF ⟨_,rfl,_,_,_,_,rfl,.non,zgx,_,rfl,iteF ⟨_,rfl,_,_,_,_,rfl,.non,ziA,_,rfl,iteF (q0 _ rfl)⟩⟩
 | bl b=>exact iteF ⟨_,rfl,_,_,_,_,rfl,.bl b,zgw,_,rfl,iteF ⟨_,rfl,_,_,_,_,rfl,.bl b,ziz,_,rfl,iteF (q0 _ rfl)⟩⟩
 | lst e=>exact iteF ⟨_,rfl,_,_,_,_,rfl,.lst e,zgy,_,rfl,iteF ⟨_,rfl,_,_,_,_,rfl,.lst e,ziB,_,rfl,iteF (q0 _ rfl)⟩⟩
 | dic e=>exact iteF ⟨_,rfl,_,_,_,_,rfl,.dK e,zgz,_,rfl,iteF ⟨_,rfl,_,_,_,_,rfl,.dK e,ziC,_,rfl,iteF (q0 _ rfl)⟩⟩
 | num i=>
  refine iteT ⟨_,rfl,i,rfl,_,_,rfl,rfl,⟨by decide,by decide,by decide⟩,_,_,rfl,rfl,q0 _ ?_⟩
  show decide (-(10 ^ 60) < i/\i < 10 ^ 60) = decide ((if i < 0 then -i else i) < 10 ^ (60:Int).toNat)
  have e:(10:Int) ^ (60:Int).toNat = 10 ^ 60:=rfl
  rw [e,Bool.eq_iff_iff,decide_eq_true_iff,decide_eq_true_iff]
  constructor
  ·intro h
   split <;> omega
  ·split <;> intro h <;> omega
 | txt x=>
  refine iteF ⟨_,rfl,_,_,_,_,rfl,.str x,ze4,_,rfl,iteT ?_⟩
  have hx:x.length<=100000:=sm
  refine ⟨_,rfl,_,_,rfl,⟨small (by omega),rfl⟩,_,_,rfl,rfl,_,rfl,?_⟩
  refine ite2 (fun e=>?_) (fun e=>?_)
  ·have e1:(x.length:Int)<=400:=of_decide_eq_true e
   dsimp only [tRet,tOp,tC,tCB,zan,tNil]
   have hsz:x.cps.size = x.length:=rfl
   refine zfR (x.cps.toList.map fun c=>V.bl (zcn c)) (by rfl) (by rw [List.length_map]; simp) (by rw [hsz]; exact small (by omega)) (fun i c y H1 R hc hy s1 hR=>?_) (fun H1 D s1 hD=>?_)
   ·have hc':x.cps.toList[i]? = some c:=by simpa using hc
    rw [List.getElem?_map,hc'] at hy
    cases hy
    exact ⟨_,rfl,c,rfl,hR _ (Same.refl _)⟩
   ·refine ⟨D,x.cps.toList.map zcn,rfl,SqL.of ?_,?_⟩
    ·rw [zd,List.map_map]; rfl
    ·have:=q _ (s1.trans (Same.new (o:=.lst (x.cps.toList.map fun c=>V.bl (zcn c))) hD))
     rw [all_map]
     have e3:zdM lv (.txt x) = x.cps.toList.all zcn:=by
      show (decide (x.length<=400) && zaY x) = _
      rw [decide_eq_true (by omega)]
      rfl
     rw [← e3]
     exact this
  ·have e1:¬ (x.length:Int)<=400:=of_decide_eq_false (Bool.eq_false_iff.mpr e)
   refine q0 _ ?_
   show (decide (x.length<=400) && zaY x) = _
   rw [decide_eq_false (by omega)]
   rfl
 | @tup a vs ts e l _=>
  refine iteF ⟨_,rfl,_,_,_,_,rfl,.tup e,zgu,_,rfl,iteF ?_⟩
  refine ⟨_,rfl,_,_,_,_,rfl,.tup e,ze3,_,rfl,iteT ?_⟩
  refine ⟨_,rfl,_,_,rfl,.inr ⟨_,SqT.of e,rfl⟩,_,_,rfl,rfl,_,rfl,?_⟩
  refine ite2 (fun c=>?_) (fun c=>?_)
  ·have c1:(vs.length:Int)<=60:=of_decide_eq_true c
   refine ⟨_,rfl,_,_,rfl,rfl,q0 _ ?_⟩
   show (decide (ts.length<=60) && decide (0 < lv)) = _
   rw [decide_eq_true (by omega),Bool.true_and]
  ·have c1:¬ (vs.length:Int)<=60:=of_decide_eq_false (Bool.eq_false_iff.mpr c)
   refine q0 _ ?_
   show (decide (ts.length<=60) && decide (0 < lv)) = _
   rw [decide_eq_false (by omega),Bool.false_and]
theorem zkk:FnScope ["worth"] ["worth"] (zl zgA):=⟨rfl,rfl,rfl,by decide +kernel,rfl,by decide +kernel,by decide +kernel⟩
theorem zkl (F:Fun K "size_alone" "size_alone" zgA f fd) (m_isi:mg "isinstance" = none) (m_str:mg "str" = none) (m_len:mg "len" = none):FnOk P w K mg base CX0 (k + 1) f fd ["worth"] zfV:=by
 refine F.ok zkk (fun vs H Q E h=>?_) (fun cdv A outer s H vs Q E hr h=>?_)
 ·obtain ⟨v,x,rfl,_⟩:=h
  rfl
 obtain ⟨v,t,rfl,rt,sm,q⟩:=h
 refine ⟨_,zg (zo (zap (zW (zk ZE rfl m_isi zT (za (pv 0) (za (zbe rfl m_str zaG) zc)))) (zi zU zf (zk zz rfl m_len PySem.boot_len (za (pv 0) zc))) zf)),?_⟩
 cases rt with
 | non=>exact ⟨_,rfl,_,_,_,_,rfl,.non,zgx,_,rfl,iteF q⟩
 | bl b=>exact ⟨_,rfl,_,_,_,_,rfl,.bl b,zgw,_,rfl,iteF q⟩
 | num i=>exact ⟨_,rfl,_,_,_,_,rfl,.int i,zgv,_,rfl,iteF q⟩
 | lst e=>exact ⟨_,rfl,_,_,_,_,rfl,.lst e,zgy,_,rfl,iteF q⟩
 | dic e=>exact ⟨_,rfl,_,_,_,_,rfl,.dK e,zgz,_,rfl,iteF q⟩
 | tup e _ _=>exact ⟨_,rfl,_,_,_,_,rfl,.tup e,zgu,_,rfl,iteF q⟩
 | txt x=>
  have hx:x.length<=100000:=sm
  refine ⟨_,rfl,_,_,_,_,rfl,.str x,ze4,_,rfl,iteT ?_⟩
  exact ⟨_,rfl,_,_,rfl,⟨small (by omega),rfl⟩,_,_,rfl,rfl,q⟩
structure StR (H0 H:Hp) (vs:List V) (ps:List (T × Int)):Prop where
 len:vs.length = ps.length
 at':∀ (i:Nat) (v:V) (p:T × Int),vs[i]? = some v->ps[i]? = some p->∃ (a:Addr) (u:V),v = .ref a/\H a = some (.tup [u,.int p.2])/\RT H0 u p.1
theorem StR.mono {H0 H H':Hp} (s:Tups H H') {vs:List V}{ps:List (T × Int)} (h:StR H0 H vs ps):StR H0 H' vs ps:=
 ⟨h.len,fun i v p e1 e2=>let ⟨a,u,x,y,z⟩:=h.at' i v p e1 e2; ⟨a,u,x,s _ _ y,z⟩⟩
theorem StR.nil {H0 H:Hp}:StR H0 H [] []:=⟨rfl,fun i v p e=>by simp at e⟩
theorem StR.app {H0 H:Hp}{vs us:List V}{ps qs:List (T × Int)} (h:StR H0 H vs ps) (g:StR H0 H us qs):StR H0 H (vs ++ us) (ps ++ qs):=by
 refine ⟨by rw [List.length_append,List.length_append,h.len,g.len],fun i v p e1 e2=>?_⟩
 by_cases hi:i < vs.length
 ·rw [List.getElem?_append_left hi] at e1
  rw [List.getElem?_append_left (h.len ▸ hi)] at e2
  exact h.at' i v p e1 e2
 ·rw [List.getElem?_append_right (by omega)] at e1
  rw [List.getElem?_append_right (by have:=h.len; omega)] at e2
  rw [h.len] at e1
  exact g.at' _ v p e1 e2
theorem StR.one {H0 H:Hp}{a:Addr}{u:V}{p:T × Int} (e:H a = some (.tup [u,.int p.2])) (r:RT H0 u p.1):StR H0 H [.ref a] [p]:=by
 refine ⟨rfl,fun i v' p' e1 e2=>?_⟩
 cases i with
 | zero=>
  have q1:V.ref a = v':=by simpa using e1
  have q2:p = p':=by simpa using e2
  subst q1 q2
  exact ⟨a,u,rfl,e,r⟩
 | succ j=>simp at e1
theorem StR.front {H0 H:Hp}{vs:List V}{ps:List (T × Int)}{v:V}{p:T × Int} (h:StR H0 H (vs ++ [v]) (ps ++ [p])):StR H0 H vs ps/\∃ (a:Addr) (u:V),v = .ref a/\H a = some (.tup [u,.int p.2])/\RT H0 u p.1:=by
 have l:=h.len
 rw [List.length_append,List.length_append] at l
 have l':vs.length = ps.length:=by simpa using l
 refine ⟨⟨l',fun i v' p' e1 e2=>?_⟩,?_⟩
 ·have h1:=(List.getElem?_eq_some_iff.mp e1).1
  exact h.at' i v' p' (by rw [List.getElem?_append_left h1]; exact e1) (by rw [List.getElem?_append_left (l' ▸ h1)]; exact e2)
 ·exact h.at' vs.length v p (by rw [List.getElem?_append_right (Nat.le_refl _)]; simp) (by rw [l',List.getElem?_append_right (Nat.le_refl _)]; simp)
theorem ZL {H H':Hp} (s:Same H H'):Tups H H':=fun a vs e=>s a _ e
theorem zcb {H H1:Hp}{l:Addr}{o:HO} (s:Same H H1) (hl:H l = none):Same H (upd H1 l o):=fun c u e=>by rw [zu (zr e hl)]; exact s c u e
def szs:List (T × Int)->Int
 | []=>0
 | p :: r=>p.1.size + szs r
def nds:List (T × Int)->Nat
 | []=>0
 | p :: r=>p.1.nodes + nds r
def fts:List (T × Int)->Bool
 | []=>true
 | p :: r=>zca p.1 p.2 && fts r
theorem ziM (a b:List (T × Int)):szs (a ++ b) = szs a + szs b:=by
 induction a with
 | nil=>simp [szs]
 | cons p r ih=>simp only [List.cons_append,szs,ih]; omega
theorem zd2 (a b:List (T × Int)):nds (a ++ b) = nds a + nds b:=by
 induction a with
 | nil=>simp [nds]
 | cons p r ih=>simp only [List.cons_append,nds,ih]; omega
theorem ziN (a b:List (T × Int)):fts (a ++ b) = (fts a && fts b):=by
 induction a with
 | nil=>simp [fts]
 | cons p r ih=>simp only [List.cons_append,fts,ih,Bool.and_assoc]
theorem zk7:∀ ps:List (T × Int),0<=szs ps
 | []=>by simp [szs]
 | p :: r=>by have h1:=ze5 p.1; have h2:=zk7 r; simp only [szs]; omega
theorem zlH (ts:List T) (lv:Int):szs (ts.map fun t=>(t,lv)) = tsizes ts:=by
 induction ts with
 | nil=>rfl
 | cons t r ih=>simp only [List.map_cons,szs,tsizes,ih]
theorem ziO (ts:List T) (lv:Int):nds (ts.map fun t=>(t,lv)) = tnodes ts:=by
 induction ts with
 | nil=>rfl
 | cons t r ih=>simp only [List.map_cons,nds,tnodes,ih]
theorem zlI (ts:List T) (lv:Int):fts (ts.map fun t=>(t,lv)) = fitsA ts lv:=by
 induction ts with
 | nil=>rfl
 | cons t r ih=>simp only [List.map_cons,fts,fitsA,ih]
def valB (ps:List (T × Int)) (whole:Int):Bool:=fts ps && decide (whole + szs ps<=1000)
theorem zhz {t:T}{lv:Int} (h:zdM lv t = false):zca t lv = false:=by
 cases t with
 | tup ts=>
  have h:(decide (ts.length<=60) && decide (0 < lv)) = false:=h
  simp only [zca,h,Bool.false_and]
 | num i=>exact h
 | txt x=>exact h
 | non=>rfl
 | bl b=>rfl
 | lst=>rfl
 | dic=>rfl
theorem zhA {t:T}{lv:Int} (h:zdM lv t = true) (hn:∀ ts,t≠.tup ts):zca t lv = true/\t.size = Z0 t:=by
 cases t with
 | tup ts=>exact absurd rfl (hn ts)
 | num i=>exact ⟨h,rfl⟩
 | txt x=>exact ⟨h,rfl⟩
 | non=>cases h
 | bl b=>cases h
 | lst=>cases h
 | dic=>cases h
theorem zhB (t:T):Z0 t<=t.size/\1<=Z0 t:=by
 cases t with
 | tup ts=>have:=tsizes_nn ts; simp only [Z0,T.size]; omega
 | txt x=>simp only [Z0,T.size]; omega
 | _=>simp [Z0,T.size]
theorem Z1:FnScope ["thing","waiting","whole","pair","item","levels"] ["thing"] (zl zbq):=⟨rfl,rfl,rfl,by decide +kernel,rfl,by decide +kernel,by decide +kernel⟩
theorem zhC (F:Fun K "is_worth" "is_worth" zbq f fd) (G_fits_alone:Have P w K mg base "fits_alone" k ["thing","levels"] ziJ) (G_size_alone:Have P w K mg base "size_alone" k ["worth"] zfV)
  (m_isi:mg "isinstance" = none) (m_tuple:mg "tuple" = none) (m_len:mg "len" = none) (m_MOST_DEPTH:∃ t,mg "MOST_DEPTH" = some (.int 12 t)) (m_MOST_SIZE:∃ t,mg "MOST_SIZE" = some (.int 1000 t)):
  FnOk P w K mg base CX0 (k + 1) f fd ["thing"] zc4:=by
 refine F.ok Z1 (fun vs H Q E h=>?_) (fun cdv A outer s H vs Q E hr h=>?_)
 ·obtain ⟨v,t,rfl,_⟩:=h
  rfl
 obtain ⟨v,t,rfl,rt,sm,q⟩:=h
 refine ⟨_,(zb (zn (i:=1) Z1.nd rfl (Or.inl rfl) (zx (za (zP (za (pv 0) (za (Zo rfl m_MOST_DEPTH) zc))) zc)))
  (zb (zn (i:=2) Z1.nd rfl (Or.inl rfl) zf)
  (zb (zbp PassesOwn.never (zj zcy (zk zz rfl m_len PySem.boot_len (za (pv 1) zc)) zf (nomark _)) (zb (zn (i:=3) Z1.nd rfl (Or.inl rfl) (zcZ PySem.F.plainAttrs_list PySem.F.slot_list_pop PySem.F.type_list_pop zis (pv 1)))
  (zb (zn (i:=4) Z1.nd rfl (Or.inl rfl) (zy zF (pv 3) zf (fun _ _=>rfl)))
  (zb (zn (i:=5) Z1.nd rfl (Or.inr rfl) (zy zF (pv 3) zf (fun _ _=>rfl)))
  (zb (zB (ZP (zW (zw G_fits_alone hr rfl (za (pv 4) (za (pv 5) zc))))) (zg (zo zaJ)) zq)
  (zb (zct (i:=2) Z1.nd rfl (Or.inl rfl) (zw G_size_alone hr rfl (za (pv 4) zc)) (zix zcW))
  (zb (zB (zj zcy (pv 2) (Zo rfl m_MOST_SIZE) (nomark _)) (zg (zo zaJ)) zq)
  (zg (zB (zW (zk ZE rfl m_isi zT (za (pv 4) (za (zbe rfl m_tuple Za) zc)))) (zg (ZB (zaE PySem.F.plainAttrs_list PySem.F.slot_list_extend PySem.F.type_list_extend zc0 (pv 1) (za (Zx [5] ["levels"] rfl rfl (by decide +kernel) rfl (by decide +kernel) rfl (by decide +kernel) ⟨rfl,trivial⟩ rfl ⟨⟨rfl,rfl,Or.inr (Or.inl rfl),(by show (some NameKind.cell:Option NameKind)≠some .local; decide),⟨_,rfl⟩⟩,trivial⟩ (zcu (pv 4)) (fun C s H fp=>⟨Zj,(zP (za (pv 0) (za (zi Zq (pv 1) zf) zc)))⟩)) zc)))) zq)))))))))
  (zg (zo zaJ))))),?_⟩
 refine ⟨_,rfl,zl2,fun a ha=>?_⟩
 refine ⟨zl1,fun l hl=>?_⟩
 have s1:Same H (upd (upd H a (.tup [v,.int 12])) l (.lst [.ref a])):=(Same.new ha).trans (Same.new hl)
 have hlH:H l = none:=by
  cases e:H l with
  | none=>rfl
  | some o=>have:=Same.new (o:=.tup [v,.int 12]) ha l o e; rw [hl] at this; cases this
 have ea:upd (upd H a (.tup [v,.int 12])) l (.lst [.ref a]) a = some (.tup [v,.int 12]):=by rw [zu (zr zd hl)]; exact zd
 have st0:StR H (upd (upd H a (.tup [v,.int 12])) l (.lst [.ref a])) [.ref a] [(t,12)]:=StR.one (p:=(t,12)) ea rt
 refine ⟨fun m σ' H'=>∃ (vs:List V) (ps:List (T × Int)) (whole:Int) (o3 o4 o5:Option V),σ' = [some v,some (.ref l),some (.int whole),o3,o4,o5]/\H' l = some (.lst vs)/\StR H H' vs ps/\m = nds ps/\0<=whole/\whole<=1000 /\
   (vs.length:Int)<=60 * whole + 1/\(∀ p∈ps,p.1.Sm)/\valB ps whole = Zp t/\Same H H',
  ⟨_,[.ref a],[(t,12)],0,none,none,none,rfl,zd,st0,rfl,Int.le_refl _,by decide,by simp,fun p hp=>by rw [List.mem_singleton.mp hp]; exact sm,?_,s1⟩,fun m σ' H' hW=>?_⟩
 ·unfold valB Zp
  simp only [fts,szs,Bool.and_true]
  congr 2
  rw [eq_iff_iff]
  constructor <;> intro h <;> omega
 obtain ⟨vs,ps,whole,o3,o4,o5,rfl,hlv,hst,hm,hw0,hw1,hvl,hsm,hval,sH⟩:=hW
 refine ⟨_,rfl,_,_,rfl,.inl ⟨_,SqL.of hlv,rfl⟩,_,_,rfl,rfl,_,rfl,?_⟩
 refine ite2 (fun c=>?_) (fun c=>?_)
 ·have c1:(0:Int) < vs.length:=of_decide_eq_true c
  refine ⟨_,fun _ _ h=>h,?_⟩
  rcases List.eq_nil_or_concat vs with rfl | ⟨vs',vl,e⟩
  ·simp at c1
  rw [List.concat_eq_append] at e
  subst e
  rcases List.eq_nil_or_concat ps with rfl | ⟨ps',p,e⟩
  ·have:=hst.len; simp at this
  rw [List.concat_eq_append] at e
  subst e
  obtain ⟨hst',ap,u,rfl,hap,rtu⟩:=hst.front
  have ed:(vs' ++ [V.ref ap]).dropLast = vs':=List.dropLast_concat
  have smp:p.1.Sm:=hsm p (by simp)
  refine ⟨_,rfl,.inl ⟨rfl,_,SqL.of hlv⟩,l,_,.ref ap,rfl,rfl,hlv,by simp,?_⟩
  rw [ed]
  have sH1:Same H (upd H' l (.lst vs')):=zcb sH hlH
  have hap1:upd H' l (.lst vs') ap = some (.tup [u,.int p.2]):=Z6 hlv _ _ hap
  refine ⟨_,rfl,ap,_,0,u,rfl,rfl,SqT.of hap1,rfl,?_⟩
  refine ⟨_,rfl,ap,_,1,.int p.2,rfl,rfl,SqT.of hap1,rfl,?_⟩
  refine ⟨_,rfl,_,rfl,u,p.1,p.2,rfl,rtu.mono sH1,smp,fun H2 s2=>⟨_,rfl,?_⟩⟩
  have vb:valB (ps' ++ [p]) whole = ((fts ps' && zca p.1 p.2) && decide (whole + (szs ps' + p.1.size)<=1000)):=by
   unfold valB
   rw [ziN,ziM]
   simp only [fts,szs,Bool.and_true]
   congr 2
   rw [eq_iff_iff]
   constructor <;> intro h <;> omega
  have hsn:=zk7 ps'
  have hal:=zhB p.1
  have sH2:=sH1.trans s2
  cases hal1:zdM p.2 p.1 with
  | false=>
   refine iteT ?_
   have:Zp t = false:=by
    rw [← hval,vb,zhz hal1]
    simp
   have fin:=q _ sH2
   rw [this] at fin
   exact fin
  | true=>
   refine iteF ?_
   refine ⟨_,rfl,_,rfl,u,p.1,rfl,rtu.mono sH2,smp,_,_,rfl,rfl,?_⟩
   refine ⟨_,rfl,_,_,rfl,rfl,_,rfl,?_⟩
   refine ite2 (fun c2=>?_) (fun c2=>?_)
   ·have c3:(1000:Int) < whole + Z0 p.1:=of_decide_eq_true c2
    have:Zp t = false:=by
     rw [← hval,vb,decide_eq_false (by omega)]
     simp
    have fin:=q _ sH2
    rw [this] at fin
    exact fin
   ·have c3:¬ (1000:Int) < whole + Z0 p.1:=of_decide_eq_false (Bool.eq_false_iff.mpr c2)
    have hl2:H2 l = some (.lst vs'):=s2 _ _ zd
    have hst2:StR H H2 vs' ps':=(hst'.mono (Z6 hlv)).mono (ZL s2)
    have hvl':((vs'.length:Nat):Int) + 1<=60 * whole + 1:=by
     rw [List.length_append] at hvl
     have:([V.ref ap]:List V).length = 1:=rfl
     omega
    have hnd:nds (ps' ++ [p]) = nds ps' + p.1.nodes:=by rw [zd2]; simp [nds]
    have hsm':∀ p'∈ps',p'.1.Sm:=fun p' hp'=>hsm p' (List.mem_append_left _ hp')
    have leaf:∀ (t':T),p.1 = t'->(∀ ts,t'≠.tup ts)->p.1.nodes = 1->∃ m',m' < m/\∃ (vs:List V) (ps:List (T × Int)) (whole':Int) (o3 o4 o5:Option V),[some v,some (.ref l),some (.int (whole + Z0 p.1)),some (.ref ap),some u,some (.int p.2)] = [some v,some (.ref l),some (.int whole'),o3,o4,o5]/\H2 l = some (.lst vs)/\StR H H2 vs ps/\m' = nds ps/\0<=whole'/\whole'<=1000 /\
      (vs.length:Int)<=60 * whole' + 1/\(∀ p∈ps,p.1.Sm)/\valB ps whole' = Zp t/\Same H H2:=fun t' e hn hnode=>by
     obtain ⟨hf,hz⟩:=zhA hal1 (by rw [e]; exact hn)
     refine ⟨nds ps',by omega,vs',ps',whole + Z0 p.1,_,_,_,rfl,hl2,hst2,rfl,by omega,by omega,by omega,hsm',?_,sH2⟩
     rw [← hval,vb,hf,hz]
     unfold valB
     rw [Bool.and_true]
     congr 2
     rw [eq_iff_iff]
     constructor <;> intro h <;> omega
    obtain ⟨tt,lv⟩:=p
    have rt2:RT H2 u tt:=rtu.mono sH2
    cases rt2 with
    | non=>exact ⟨_,rfl,_,_,_,_,rfl,.non,ziA,_,rfl,iteF (leaf _ rfl (fun _ z=>nomatch z) rfl)⟩
    | bl b=>exact ⟨_,rfl,_,_,_,_,rfl,.bl b,ziz,_,rfl,iteF (leaf _ rfl (fun _ z=>nomatch z) rfl)⟩
    | num i=>exact ⟨_,rfl,_,_,_,_,rfl,.int i,zgs,_,rfl,iteF (leaf _ rfl (fun _ z=>nomatch z) rfl)⟩
    | txt x=>exact ⟨_,rfl,_,_,_,_,rfl,.str x,zgt,_,rfl,iteF (leaf _ rfl (fun _ z=>nomatch z) rfl)⟩
    | lst e=>exact ⟨_,rfl,_,_,_,_,rfl,.lst e,ziB,_,rfl,iteF (leaf _ rfl (fun _ z=>nomatch z) rfl)⟩
    | dic e=>exact ⟨_,rfl,_,_,_,_,rfl,.dK e,ziC,_,rfl,iteF (leaf _ rfl (fun _ z=>nomatch z) rfl)⟩
    | @tup a2 us ts e2 l2 at2=>
     refine ⟨_,rfl,_,_,_,_,rfl,.tup e2,ze3,_,rfl,iteT ?_⟩
     have ha60:ts.length<=60:=by
      have h:(decide (ts.length<=60) && decide (0 < lv)) = true:=hal1
      rw [Bool.and_eq_true] at h
      exact of_decide_eq_true h.1
     have hlv0:0 < lv:=by
      have h:(decide (ts.length<=60) && decide (0 < lv)) = true:=hal1
      rw [Bool.and_eq_true] at h
      exact of_decide_eq_true h.2
     refine ⟨_,rfl,.inl ⟨rfl,_,SqL.of hl2⟩,?_⟩
     have at0:∀ (i:Nat) (x:V) (t':T),us[i]? = some x->ts[i]? = some t'->RT H x t':=by
      cases rtu with
      | @tup a3 us3 ts3 e3 l3 at3=>
       have:us3 = us:=by
        have h1:=sH2 _ _ e3
        rw [e2] at h1
        cases h1
        rfl
       subst this
       exact at3
     dsimp only [zan,tNil]
     refine ⟨_,rfl,a2,rfl,⟨us,SqT.of e2⟩,fun i m2 xs H3=>i<=us.length/\m2 = us.length - i/\StR H H3 xs ((ts.take i).map fun t'=>(t',lv - 1))/\Same H2 H3,⟨_,Nat.zero_le _,rfl,by simpa using StR.nil,Same.refl _⟩,fun i m2 xs H3 hW=>?_⟩
     obtain ⟨hi,hm2,hxs,s3⟩:=hW
     have hxl:xs.length<=60:=by
      have:=hxs.len
      rw [List.length_map,List.length_take] at this
      omega
     refine ⟨small (by omega),?_⟩
     have e3:=s3 _ _ e2
     by_cases hlt:i < us.length
     ·refine .inr ⟨⟨us,us[i],SqT.of e3,List.getElem?_eq_getElem hlt⟩,fun y H4 hy=>?_⟩
      obtain ⟨rfl,hy⟩:=hy
      have hy:=hy us (SqT.of e3)
      have hti:ts[i]? = some ts[i]:=List.getElem?_eq_getElem (by omega)
      refine iteT ?_
      refine ⟨_,rfl,_,rfl,_,_,rfl,rfl,zl2,fun a5 ha5=>?_⟩
      have s5:=Same.new (o:=.tup [y,.int (lv - 1)]) ha5
      refine ⟨us.length - (i + 1),by omega,by omega,rfl,?_,s3.trans s5⟩
      rw [zV hti,List.map_append]
      exact (hxs.mono (ZL s5)).app (StR.one (p:=(ts[i],lv - 1)) zd (at0 i y ts[i] hy hti))
     ·have ei:i = us.length:=by omega
      refine .inl ⟨⟨us,SqT.of e3,by omega⟩,fun D hD=>?_⟩
      have et:ts.take i = ts:=List.take_of_length_le (by omega)
      rw [et] at hxs
      have hl3:=s3 _ _ hl2
      have hl4:upd H3 D (.lst xs) l = some (.lst vs'):=by rw [zu (zr hl3 hD)]; exact hl3
      refine ⟨l,D,vs',xs,rfl,rfl,hl4,zd,?_,?_⟩
      ·have h60:vs'.length<=60001:=by omega
       exact small (by omega)
      ·have s4:=Same.new (o:=.lst xs) hD
       have t5:=Z6 (o:=.lst (vs' ++ xs)) hl4
       refine ⟨nds ps' + tnodes ts,?_,vs' ++ xs,ps' ++ ts.map (fun t'=>(t',lv - 1)),whole + 1,_,_,_,rfl,zd,?_,?_,by omega,?_,?_,?_,?_,?_⟩
       ·have:(T.tup ts).nodes = 1 + tnodes ts:=rfl
        have h9:nds (ps' ++ [(T.tup ts,lv)]) = nds ps' + (T.tup ts).nodes:=hnd
        omega
       ·exact ((((hst2.mono (ZL s3)).mono (ZL s4)).mono t5)).app ((hxs.mono (ZL s4)).mono t5)
       ·rw [zd2,ziO]
       ·have:Z0 (T.tup ts) = 1:=rfl
        have c4:¬ (1000:Int) < whole + Z0 (T.tup ts):=c3
        omega
       ·rw [List.length_append]
        omega
       ·intro p' hp'
        rcases List.mem_append.mp hp' with hp' | hp'
        ·exact hsm' p' hp'
        ·obtain ⟨t',ht',rfl⟩:=List.mem_map.mp hp'
         exact zfT (show Sms ts from (show ts.length<=100000/\Sms ts from smp).2) t' ht'
       ·rw [← hval,vb]
        unfold valB
        rw [ziN,zlI,ziM,zlH]
        have f1:zca (T.tup ts) lv = fitsA ts (lv - 1):=by
         show (decide (ts.length<=60) && decide (0 < lv) && fitsA ts (lv - 1)) = _
         rw [decide_eq_true ha60,decide_eq_true hlv0]
         rfl
        have f2:(T.tup ts).size = 1 + tsizes ts:=rfl
        show _ = ((fts ps' && zca (T.tup ts) lv) && decide (whole + (szs ps' + (T.tup ts).size)<=1000))
        rw [f1,f2]
        congr 2
        rw [eq_iff_iff]
        constructor <;> intro h <;> omega
       ·exact zcb ((sH2.trans s3).trans s4) hlH
 ·have c1:¬ (0:Int) < vs.length:=of_decide_eq_false (Bool.eq_false_iff.mpr c)
  have hv0:vs = []:=List.length_eq_zero_iff.mp (by omega)
  have hp0:ps = []:=List.length_eq_zero_iff.mp (by rw [← hst.len,hv0]; rfl)
  have:Zp t = true:=by
   rw [← hval,hp0]
   unfold valB
   simp only [fts,szs,Bool.true_and]
   exact decide_eq_true (by omega)
  have fin:=q _ sH
  rw [this] at fin
  exact fin
end
end D
namespace L2
open PySem PySem.Spec PyProof.Rows PySem.Builtin
section
variable {prog:Program}{w:World}{A:Around}{E:Value->Shared->Prop}{s:Shared}
end
theorem zkm {X:Cx}:OpR X (binaryOp .Add) (fun x y H Q=>∃ (a b:Addr) (ys:List V),x = .ref a/\y = .ref b/\SqT X.K H a []/\SqT X.K H b ys/\Q (.ref b) H):=by
 intro zp s σ H x y v u Q I rx ry h
 obtain ⟨a,b,ys,rfl,rfl,ha,hb,q⟩:=h
 cases rx
 cases ry
 obtain ⟨its,r1,p1,_⟩:=I.tuple ha
 obtain ⟨its2,r2,p2,_⟩:=I.tuple hb
 have e0:its = []:=by cases r1; rfl
 subst e0
 obtain ⟨⟨cls,dd,data,sl⟩,ho,hc,n,hd⟩:=id p1
 obtain ⟨⟨cls2,dd2,data2,sl2⟩,ho2,hc2,n2,hd2⟩:=id p2
 simp only at hc hd hc2 hd2
 subst hc hd hc2 hd2
 exact concat_meets ⟨_,ho,rfl⟩ ⟨_,ho2,rfl⟩ noFill_tuple_add seq_tuple_add PySem.F.slot_tuple_add PySem.F.entry_tuple_add (PySem.F.args_tuple_add_2 _ _)
  (tuple_addW0 a b #[] its2.toArray n n2 dd dd2 sl sl2 rfl) ⟨ho,ho2,⟨.ref b,H,I,rfl,q⟩⟩
end L2
namespace L2
open PySem PySem.Spec PyProof.Rows
theorem zhD {ys:List Str}:∀ {us:List Value},Vals (ys.map V.str) us->StrsAre us ys:=by
 induction ys with
 | nil=>intro us r; rw [List.map_nil] at r; cases r; exact .nil
 | cons n ns ih=>
  intro us r
  rw [List.map_cons] at r
  cases r with
  | cons r1 r2=>
   obtain ⟨t,e⟩:=r1
   subst e
   exact .cons n t (ih r2)
theorem zd3 {X:Cx}:MtR X "str.join" (fun x xs H Q=>∃ (sep:Str) (p:Addr) (ys:List Str),x = .str sep/\xs = [.ref p]/\SqL X.K H p (ys.map V.str)/\(ys.map (·.length)).sum + ys.length * sep.length<=16777216/\Q (.str (Txt.join sep ys)) H):=by
 intro zp s σ H x xs v us Q I rx rv h
 obtain ⟨sep,p,ys,rfl,rfl,hq,hz,q⟩:=h
 obtain ⟨t,rfl⟩:=rx
 obtain ⟨u,rfl,ru⟩:=zbN rv
 cases ru
 obtain ⟨its,r,pl,_⟩:=I.list hq
 exact PyProof.Rows.join_list pl.isList (by simpa using zhD r) hz fun t' k=>⟨.str _,H,I.tok k,⟨t',rfl⟩,q⟩
theorem zhE (cs:List Nat):Txt.join (Str.ofString "") (cs.map fun c=>(⟨#[c]⟩:Str)) = ⟨cs.toArray⟩:=by
 have e0:(Str.ofString "").cps = #[]:=by decide +kernel
 have fold:∀ (r:List Nat) (acc:Array Nat),((r.map fun c=>(⟨#[c]⟩:Str)).foldl (fun acc p=>acc ++ (Str.ofString "").cps ++ p.cps) acc) = acc ++ r.toArray:=fun r=>by
  induction r with
  | nil=>intro acc; simp
  | cons c r ih=>
   intro acc
   rw [List.map_cons,List.foldl_cons,ih,e0]
   simp
 cases cs with
 | nil=>rfl
 | cons c r=>
  show (⟨(r.map fun c=>(⟨#[c]⟩:Str)).foldl (fun acc p=>acc ++ (Str.ofString "").cps ++ p.cps) #[c]⟩:Str) = _
  rw [fold]
  simp
theorem zlJ {fr:List Nat}{ta:TA}{te:TE}{σ:St}{H:Hp}{Q:VK} (outs:List V) (hσ:∀ R:List V->Hp->Prop,R [.int outs.length] H->ta σ H R) (hz:outs.length<=1000000)
  (step:∀ (i:Nat) (y:V) (H1:Hp) (R:VK),outs[i]? = some y->Same H H1->(∀ H2,Same H1 H2->R y H2)->te (some (.int (0 + (i:Int))) :: frees fr σ) H1 R)
  (fin:∀ (H1:Hp) (D:Addr),Same H H1->H1 D = none->Q (.ref D) (upd H1 D (.lst outs))):zbd fr (zlu ta) (fun _ H Q=>Q true H) te σ H Q:=by
 have hz2:outs.length<=sizeLine:=Nat.le_trans hz (by decide)
 refine hσ _ ⟨outs.length,rfl,by omega,by omega,fun i m us H1=>i<=outs.length/\m = outs.length - i/\us = outs.take i/\Same H H1,⟨_,Nat.zero_le _,rfl,by simp,Same.refl _⟩,fun i m us H1 hW=>?_⟩
 obtain ⟨hi,hm,hu,sm⟩:=hW
 refine ⟨by rw [hu,List.length_take]; omega,?_⟩
 by_cases hlt:i < outs.length
 ·refine .inr ⟨(by show i < (outs.length:Int).toNat; omega),fun v H' hy=>?_⟩
  obtain ⟨rfl,rfl⟩:=hy
  have hy:outs[i]? = some outs[i]:=List.getElem?_eq_getElem hlt
  refine iteT ?_
  refine step i outs[i] H' _ hy sm fun H2 s2=>⟨outs.length - (i + 1),by omega,by omega,rfl,?_,sm.trans s2⟩
  rw [hu,zV hy]
 ·refine .inl ⟨(by show (outs.length:Int).toNat<=i; omega),fun D hD=>?_⟩
  have e2:us = outs:=by rw [hu,List.take_of_length_le (by omega)]
  rw [e2]
  exact fin H1 D sm hD
end L2
namespace D
open PySem L2
mutual
def eqW:W->W->Bool
 | .num i,.num j=>i == j
 | .txt x,.txt y=>x == y
 | .lst ws,.lst zs=>eqWs ws zs
 | .num _,.txt _=>false
 | .num _,.lst _=>false
 | .txt _,.num _=>false
 | .txt _,.lst _=>false
 | .lst _,.num _=>false
 | .lst _,.txt _=>false
def eqWs:List W->List W->Bool
 | [],[]=>true
 | w :: r,z :: s=>eqW w z && eqWs r s
 | [],_ :: _=>false
 | _ :: _,[]=>false
end
mutual
theorem zd4:∀ w:W,eqW w w = true
 | .num i=>by simp [eqW]
 | .txt x=>by simp [eqW]
 | .lst ws=>eqWs_refl ws
theorem eqWs_refl:∀ ws:List W,eqWs ws ws = true
 | []=>rfl
 | w :: r=>by simp only [eqWs,zd4 w,eqWs_refl r,Bool.and_self]
end
mutual
theorem zkn:∀ w z:W,eqW w z = eqW z w
 | .num i,.num j=>by simp only [eqW]; exact BEq.comm
 | .txt x,.txt y=>by simp only [eqW]; exact BEq.comm
 | .lst ws,.lst zs=>by simp only [eqW]; exact eqWs_symm ws zs
 | .num _,.txt _=>rfl
 | .num _,.lst _=>rfl
 | .txt _,.num _=>rfl
 | .txt _,.lst _=>rfl
 | .lst _,.num _=>rfl
 | .lst _,.txt _=>rfl
theorem eqWs_symm:∀ ws zs:List W,eqWs ws zs = eqWs zs ws
 | [],[]=>rfl
 | w :: r,z :: s=>by simp only [eqWs,zkn w z,eqWs_symm r s]
 | [],_ :: _=>rfl
 | _ :: _,[]=>rfl
end
theorem zgH:∀ ws zs:List W,eqWs ws zs = ((List.range (min ws.length zs.length)).all (fun j=>eqW (ws.getD j (.num 0)) (zs.getD j (.num 0))) && ws.length == zs.length)
 | [],[]=>rfl
 | [],_ :: _=>rfl
 | _ :: _,[]=>rfl
 | w :: r,z :: s=>by
  rw [eqWs,zgH r s]
  have e:min (w :: r).length (z :: s).length = min r.length s.length + 1:=by simp only [List.length_cons]; omega
  rw [e,List.range_succ_eq_map,List.all_cons,List.all_map]
  have e2:((w :: r).length == (z :: s).length) = (r.length == s.length):=by simp
  rw [e2,Bool.and_assoc]
  rfl
theorem RW.inj {H:Hp}{v:V}{x:W} (h:RW H v x):∀ {y:W},RW H v y->x = y:=by
 induction h with
 | num i=>intro y g; cases g; rfl
 | txt z=>intro y g; cases g; rfl
 | @lst a vs ws e l _ ih=>
  intro y g
  cases g with
  | @lst _ vs2 zs e2 l2 at2=>
   rw [e] at e2
   cases e2
   congr 1
   refine List.ext_getElem (by omega) fun i h1 h2=>?_
   exact ih i vs[i] ws[i] (List.getElem?_eq_getElem (by omega)) (List.getElem?_eq_getElem h1) (at2 i vs[i] zs[i] (List.getElem?_eq_getElem (by omega)) (List.getElem?_eq_getElem h2))
end D
namespace L2
open PySem PySem.Spec PyProof.Rows
theorem zby:bootBuiltins (Str.ofString "list") = some (.type "list"):=by kernel_rfl
end L2
namespace D
open PySem L2
mutual
def W.Th:W->Prop
 | .num _=>True
 | .txt x=>x.length<=100000/\Signs x
 | .lst ws=>ws.length<=1000/\Ths ws
def Ths:List W->Prop
 | []=>True
 | w :: r=>w.Th/\Ths r
end
mutual
theorem zlK:∀ w:W,w.Ok->w.Th
 | .num _,_=>trivial
 | .txt _,h=>⟨Nat.le_trans h.1 (by decide),h.2⟩
 | .lst ws,h=>⟨Nat.le_trans h.1 (by decide),ths_of ws h.2⟩
theorem ths_of:∀ ws:List W,Oks ws->Ths ws
 | [],_=>trivial
 | w :: r,h=>⟨zlK w h.1,ths_of r h.2⟩
end
mutual
def ze6:W->Bool
 | .num i=>decide (-(10 ^ 60) < i/\i < 10 ^ 60)
 | .txt x=>decide (x.length<=400)
 | .lst ws=>decide (ws.length<=60) && fitsWs ws
def fitsWs:List W->Bool
 | []=>true
 | w :: r=>ze6 w && fitsWs r
end
mutual
def W.toT:W->T
 | .num i=>.num i
 | .txt x=>.txt x
 | .lst ws=>.tup (toTs ws)
def toTs:List W->List T
 | []=>[]
 | w :: r=>w.toT :: toTs r
end
theorem zcc:∀ ws:List W,toTs ws = ws.map W.toT
 | []=>rfl
 | w :: r=>by simp only [toTs,List.map_cons,zcc r]
theorem zbz (ws:List W):(toTs ws).length = ws.length:=by rw [zcc,List.length_map]
mutual
theorem zd5:∀ w:W,w.toT.size = w.size
 | .num _=>rfl
 | .txt _=>rfl
 | .lst ws=>by simp only [W.toT,T.size,W.size,sizes_toT ws]
theorem sizes_toT:∀ ws:List W,tsizes (toTs ws) = sizes ws
 | []=>rfl
 | w :: r=>by simp only [toTs,tsizes,sizes,zd5 w,sizes_toT r]
end
mutual
theorem zk8:∀ w:W,w.Th->w.toT.Sm
 | .num _,_=>trivial
 | .txt _,h=>h.1
 | .lst ws,h=>⟨by rw [zbz]; exact Nat.le_trans h.1 (by decide),sms_toT ws h.2⟩
theorem sms_toT:∀ ws:List W,Ths ws->Sms (toTs ws)
 | [],_=>trivial
 | w :: r,h=>⟨zk8 w h.1,sms_toT r h.2⟩
end
theorem zhF {x:Str} (h:Signs x):zaY x = true:=by
 unfold zaY
 rw [List.all_eq_true]
 intro c hc
 have:=h c hc
 simp [zcn,this]
mutual
theorem zgI:∀ (w:W) (lv:Nat),w.Th->zca w.toT (lv:Int) = (ze6 w && decide (w.depth<=lv))
 | .num i,lv,_=>by
  show decide (-(10 ^ 60) < i/\i < 10 ^ 60) = (decide (-(10 ^ 60) < i/\i < 10 ^ 60) && decide (0<=lv))
  rw [decide_eq_true (Nat.zero_le lv),Bool.and_true]
 | .txt x,lv,h=>by
  show (decide (x.length<=400) && zaY x) = (decide (x.length<=400) && decide (0<=lv))
  rw [zhF h.2,decide_eq_true (Nat.zero_le lv)]
 | .lst ws,lv,h=>by
  show (decide ((toTs ws).length<=60) && decide (0 < (lv:Int)) && fitsA (toTs ws) ((lv:Int) - 1)) = ((decide (ws.length<=60) && fitsWs ws) && decide (1 + depths ws<=lv))
  rw [zbz]
  cases lv with
  | zero=>
   rw [decide_eq_false (show ¬ (0:Int) < ((0:Nat):Int) by omega),decide_eq_false (show ¬ 1 + depths ws<=0 by omega)]
   simp
  | succ n=>
   have e:((n + 1:Nat):Int) - 1 = (n:Int):=by omega
   rw [decide_eq_true (show (0:Int) < ((n + 1:Nat):Int) by omega),e,fits_toTs ws n h.2,Bool.and_true,← Bool.and_assoc]
   congr 2
   rw [eq_iff_iff]
   constructor <;> intro h <;> omega
theorem fits_toTs:∀ (ws:List W) (lv:Nat),Ths ws->fitsA (toTs ws) (lv:Int) = (fitsWs ws && decide (depths ws<=lv))
 | [],lv,_=>by
  show true = (true && decide (0<=lv))
  rw [decide_eq_true (Nat.zero_le lv)]
  rfl
 | w :: r,lv,h=>by
  show (zca w.toT lv && fitsA (toTs r) lv) = ((ze6 w && fitsWs r) && decide (max w.depth (depths r)<=lv))
  rw [zgI w lv h.1,fits_toTs r lv h.2]
  have e:decide (max w.depth (depths r)<=lv) = (decide (w.depth<=lv) && decide (depths r<=lv)):=by
   rw [Bool.eq_iff_iff,Bool.and_eq_true,decide_eq_true_iff,decide_eq_true_iff,decide_eq_true_iff]
   omega
  rw [e]
  cases ze6 w <;> cases fitsWs r <;> cases decide (w.depth<=lv) <;> cases decide (depths r<=lv) <;> rfl
end
def zlL (x:W):Bool:=ze6 x && (decide (x.size<=1000) && decide ((x.depth:Int)<=12))
theorem zfW {x:W} (h:x.Th):Zp x.toT = zlL x:=by
 unfold Zp zlL
 have:=zgI x 12 h
 rw [show (12:Int) = ((12:Nat):Int) from rfl,this,zd5]
 have e:decide ((x.depth:Int)<=((12:Nat):Int)) = decide (x.depth<=12):=by
  rw [Bool.eq_iff_iff,decide_eq_true_iff,decide_eq_true_iff]
  omega
 rw [e]
 cases ze6 x <;> cases decide (x.depth<=12) <;> cases decide (x.size<=1000) <;> rfl
theorem RW.toRT {H:Hp}{v:V}{x:W} (h:RW H v x):RT H v x.toT:=by
 induction h with
 | num i=>exact .num i
 | txt x=>exact .txt x
 | @lst a vs ws e l _ ih=>
  refine .tup e (by rw [zbz]; exact l) fun i v t hv ht=>?_
  rw [zcc,List.getElem?_map] at ht
  obtain ⟨w,hw,rfl⟩:=Option.map_eq_some_iff.mp ht
  exact ih i v w hv hw
theorem Zu {H H':Hp} (s:Same H H'):Tups H H':=fun a vs e=>s a _ e
section
variable {P:Program}{w:World}{K:PySem.W.Frag}{mg:Str->Option Value}{base:Heap}{f:Addr}{fd:FuncData}{k n:Nat}{zN AForgeError ANoName ANoRow ANoRule ANoStep ANoThing ANoWorth:Addr}
end
end D
namespace L2
open PySem PySem.Spec PyProof.Rows
section
variable {prog:Program}{w:World}{A:Around}{E:Value->Shared->Prop}{s:Shared}
open HT in
end
end L2
namespace D
open PySem L2
theorem zmX {H:Hp}{ws zs:List W}{its its2:List Value}{vs us:List V} (r1:Vals vs its) (r2:Vals us its2) (l1:vs.length = ws.length) (l2:us.length = zs.length):
  ((List.range (min its.toArray.size its2.toArray.size)).all (fun j=>eqW (ws.getD j (.num 0)) (zs.getD j (.num 0))) && its.toArray.size == its2.toArray.size) = eqW (.lst ws) (.lst zs):=by
 have e1:its.toArray.size = ws.length:=by rw [List.size_toArray,← r1.length,l1]
 have e2:its2.toArray.size = zs.length:=by rw [List.size_toArray,← r2.length,l2]
 rw [e1,e2]
 exact (zgH ws zs).symm
theorem zmY {X:Cx}{zp:List (Addr × Obj)}{σ:St}{H:Hp}{s:Shared} (I:Inv X zp σ H s):∀ (n:Nat) (A:Around) (x y:W) (u v:V) (U V':Value),x.depth < n->RW H u x->RW H v y->RelV u U->RelV v V'->A.units + n + 2 < cLine->
  SeqAt.EqAt A s U V' (eqW x y):=by
 intro n
 induction n with
 | zero=>intro A x y u v U V' h; omega
 | succ n ih=>
  intro A x y u v U V' hd rx ry r1 r2 hu
  have hu0:A.units < cLine:=by omega
  cases rx with
  | num i=>
   obtain ⟨t,rfl⟩:=r1
   cases ry with
   | num j=>obtain ⟨t2,rfl⟩:=r2; exact SeqAt.EqAt.int_int i t j t2
   | txt z=>obtain ⟨t2,rfl⟩:=r2; exact SeqAt.EqAt.int_str i t z t2
   | lst e _ _=>
    cases r2
    obtain ⟨its,_,p,_⟩:=I.tuple (SqT.of e)
    exact SeqAt.EqAt.int_tuple i t p hu0
  | txt z=>
   obtain ⟨t,rfl⟩:=r1
   cases ry with
   | num j=>obtain ⟨t2,rfl⟩:=r2; exact SeqAt.EqAt.str_int z t j t2
   | txt z2=>obtain ⟨t2,rfl⟩:=r2; exact SeqAt.EqAt.str_str z t z2 t2
   | lst e _ _=>
    cases r2
    obtain ⟨its,_,p,_⟩:=I.tuple (SqT.of e)
    exact SeqAt.EqAt.str_tuple z t p hu0
  | @lst a vs ws e l at1=>
   cases r1
   obtain ⟨its,rv,p,_⟩:=I.tuple (SqT.of e)
   cases ry with
   | num j=>obtain ⟨t2,rfl⟩:=r2; exact SeqAt.EqAt.tuple_int j t2 p hu0
   | txt z2=>obtain ⟨t2,rfl⟩:=r2; exact SeqAt.EqAt.tuple_str z2 t2 p hu0
   | @lst b us zs e2 l2 at2=>
    cases r2
    obtain ⟨its2,rv2,p2,_⟩:=I.tuple (SqT.of e2)
    by_cases hab:a = b
    ·subst hab
     have:W.lst ws = W.lst zs:=RW.inj (.lst e l at1) (.lst e2 l2 at2)
     rw [this,zd4]
     exact SeqAt.EqAt.same _
    ·rw [← zmX (H:=H) rv rv2 l l2]
     refine SeqAt.EqAt.of_refs hab (SeqAt.RcAt.tuples p p2 hu0 fun j h1 h2=>?_)
     have j1:j < its.length:=by simpa using h1
     have j2:j < its2.length:=by simpa using h2
     have k1:j < vs.length:=by rw [rv.length]; exact j1
     have k2:j < us.length:=by rw [rv2.length]; exact j2
     have m1:j < ws.length:=by omega
     have m2:j < zs.length:=by omega
     obtain ⟨U1,hU1,rU1⟩:=rv.get (List.getElem?_eq_getElem k1)
     obtain ⟨U2,hU2,rU2⟩:=rv2.get (List.getElem?_eq_getElem k2)
     have f1:its.toArray[j] = U1:=by have:=(List.getElem?_eq_some_iff.mp hU1).2; simpa using this
     have f2:its2.toArray[j] = U2:=by have:=(List.getElem?_eq_some_iff.mp hU2).2; simpa using this
     rw [f1,f2]
     have g1:ws.getD j (.num 0) = ws[j]:=by rw [List.getD_eq_getElem?_getD,List.getElem?_eq_getElem m1]; rfl
     have g2:zs.getD j (.num 0) = zs[j]:=by rw [List.getD_eq_getElem?_getD,List.getElem?_eq_getElem m2]; rfl
     rw [g1,g2]
     have hdj:=zcm ws[j] (List.getElem_mem m1)
     have hd':1 + depths ws < n + 1:=hd
     have hu1:A.in1.units = A.units + 1:=rfl
     exact ih A.in1 ws[j] zs[j] vs[j] us[j] U1 U2 (by omega) (at1 j _ _ (List.getElem?_eq_getElem k1) (List.getElem?_eq_getElem m1)) (at2 j _ _ (List.getElem?_eq_getElem k2) (List.getElem?_eq_getElem m2)) rU1 rU2 (by omega)
theorem zmZ {X:Cx} (hu:X.A.units + 64 < cLine):OpR X (compareOp .Eq) (fun x y H Q=>∃ wx wy:W,RW H x wx/\RW H y wy/\wx.depth < 50/\Q (.bl (eqW wx wy)) H):=by
 intro zp s σ H x y v u Q I rx ry h
 obtain ⟨wx,wy,hx,hy,hd,q⟩:=h
 have hu0:X.A.units < cLine:=by omega
 have fin:EP X zp σ Q (.bool (eqW wx wy)) s:=⟨.bl _,H,I,rfl,q⟩
 cases hx with
 | num i=>
  obtain ⟨t,rfl⟩:=rx
  cases hy with
  | num j=>obtain ⟨t2,rfl⟩:=ry; exact SeqAt.RcAt.int_int i t j t2 _ _ _ _ fin
  | txt z=>obtain ⟨t2,rfl⟩:=ry; exact SeqAt.RcAt.int_str i t z t2 _ _ _ _ fin
  | lst e _ _=>
   cases ry
   obtain ⟨its,_,p,_⟩:=I.tuple (SqT.of e)
   exact SeqAt.RcAt.int_tuple i t p hu0 _ _ _ _ fin
 | txt z=>
  obtain ⟨t,rfl⟩:=rx
  cases hy with
  | num j=>obtain ⟨t2,rfl⟩:=ry; exact SeqAt.RcAt.str_int z t j t2 _ _ _ _ fin
  | txt z2=>obtain ⟨t2,rfl⟩:=ry; exact SeqAt.RcAt.str_str z t z2 t2 _ _ _ _ fin
  | lst e _ _=>
   cases ry
   obtain ⟨its,_,p,_⟩:=I.tuple (SqT.of e)
   exact SeqAt.RcAt.str_tuple z t p hu0 _ _ _ _ fin
 | @lst a vs ws e l at1=>
  cases rx
  obtain ⟨its,rv,p,_⟩:=I.tuple (SqT.of e)
  cases hy with
  | num j=>obtain ⟨t2,rfl⟩:=ry; exact SeqAt.RcAt.tuple_int j t2 p hu0 _ _ _ _ fin
  | txt z2=>obtain ⟨t2,rfl⟩:=ry; exact SeqAt.RcAt.tuple_str z2 t2 p hu0 _ _ _ _ fin
  | @lst b us zs e2 l2 at2=>
   cases ry
   obtain ⟨its2,rv2,p2,_⟩:=I.tuple (SqT.of e2)
   rw [← zmX (H:=H) rv rv2 l l2] at fin
   refine SeqAt.RcAt.tuples p p2 hu0 (fun j h1 h2=>?_) _ _ _ _ fin
   have j1:j < its.length:=by simpa using h1
   have j2:j < its2.length:=by simpa using h2
   have k1:j < vs.length:=by rw [rv.length]; exact j1
   have k2:j < us.length:=by rw [rv2.length]; exact j2
   have m1:j < ws.length:=by omega
   have m2:j < zs.length:=by omega
   obtain ⟨U1,hU1,rU1⟩:=rv.get (List.getElem?_eq_getElem k1)
   obtain ⟨U2,hU2,rU2⟩:=rv2.get (List.getElem?_eq_getElem k2)
   have f1:its.toArray[j] = U1:=by have:=(List.getElem?_eq_some_iff.mp hU1).2; simpa using this
   have f2:its2.toArray[j] = U2:=by have:=(List.getElem?_eq_some_iff.mp hU2).2; simpa using this
   rw [f1,f2]
   have g1:ws.getD j (.num 0) = ws[j]:=by rw [List.getD_eq_getElem?_getD,List.getElem?_eq_getElem m1]; rfl
   have g2:zs.getD j (.num 0) = zs[j]:=by rw [List.getD_eq_getElem?_getD,List.getElem?_eq_getElem m2]; rfl
   rw [g1,g2]
   have hdj:=zcm ws[j] (List.getElem_mem m1)
   have hd':1 + depths ws < 50:=hd
   have hu1:X.A.in1.units = X.A.units + 1:=rfl
   exact zmY I 50 X.A.in1 ws[j] zs[j] vs[j] us[j] U1 U2 (by omega) (at1 j _ _ (List.getElem?_eq_getElem k1) (List.getElem?_eq_getElem m1)) (at2 j _ _ (List.getElem?_eq_getElem k2) (List.getElem?_eq_getElem m2)) rU1 rU2 (by omega)
end D
namespace L2
open PySem PySem.Spec PyProof.Rows
structure QSs (X:Cx) (st:List Stmt) (t:TS):Prop where
 un:PSs X st t
structure QIfs (X:Cx) (ifs:List Expr) (t:TT):Prop where
 un:PIfs X ifs t
structure QGs (X:Cx) (ts:List Expr) (t:TGs):Prop where
 un:PGs X ts t
structure QE (X:Cx) (e:Expr) (t:TE):Prop where
 un:PE X e t
structure QT (X:Cx) (e:Expr) (t:TT):Prop where
 un:PT X e t
structure QW (X:Cx) (e:Expr) (t:TT):Prop where
 un:PW X e t
structure QA (X:Cx) (es:List Expr) (t:TA):Prop where
 un:PA X es t
structure QS (X:Cx) (st:Stmt) (t:TS):Prop where
 un:PS X st t
structure QI (X:Cx) (tg iter:Expr) (wi:TI):Prop where
 un:PI X tg iter wi
structure QG (X:Cx) (tg:Expr) (t:TG):Prop where
 un:PG X tg t
structure QO (X:Cx) (e:Option Expr) (t:TO):Prop where
 un:PO X e t
theorem Fun.okQ {P:Program}{w:World}{K:PySem.W.Frag}{mg:Str->Option Value}{base:Heap}{x qual:Str}{st:Stmt}{f:Addr}{fd:FuncData}{N ps:List Str}{k:Nat}{sp:Sp} (F:Fun K x qual st f fd) (sc:FnScope N ps (zl st)) (h1:∀ (vs:List V) (H:Hp) (Q:VK) (E:XK),sp vs H Q E->vs.length = ps.length)
  (h2:∀ (cdv:Value) (A:Around) (outer:List Env) (s:Shared) (H:Hp) (vs:List V) (Q:VK) (E:XK),Room k (A.deeper (PyProof.Rows.envOfC qual (zl st) s.heap.objs.size f cdv))->sp vs H Q E->
   ∃ t:TS,QSs (cxOf CX0 P w K mg base N qual (zl st) f cdv A outer s H E).nox (zaM st) t/\t { nx:=fun _ H'=>Q V.non H',rt:=Q } (L2.start N vs) H):FnOk P w K mg base CX0 (k + 1) f fd ps sp:=
 F.ok sc h1 fun cdv A outer s H vs Q E hr h=>let ⟨t,a,b⟩:=h2 cdv A outer s H vs Q E hr h; ⟨t,a.un,b⟩
theorem zbA {X:Cx}{x:Str}{z:Str}{pos:Pos} (hg:Gl X x) (hm:∃ t,X.mg x = some (.str z t)) (hd:(x == ("__debug__":Str)) = false:=by decide):PE X (.Name x pos) (tC (.str z)):=by
 obtain ⟨t,hm⟩:=hm
 exact Zt hg hm ⟨t,rfl⟩ hd
end L2
namespace D
open PySem L2
theorem zq {X:Cx}:QSs X [] zia:=⟨L2.zq ⟩
theorem zb {X:Cx}{st:Stmt}{rest:List Stmt}{t u:TS} (h0:QS X st t) (h1:QSs X rest u):QSs X (st :: rest) (tSeq t u):=⟨L2.zb h0.un h1.un⟩
theorem zg {X:Cx}{st:Stmt}{t:TS} (h0:QS X st t):QSs X [st] t:=⟨L2.zg h0.un⟩
theorem zo {X:Cx}{e:Expr}{te:TE}{pos:Pos} (h0:QE X e te):QS X (Stmt.Return (some e) pos) (tRet te):=⟨L2.zo h0.un⟩
theorem zB {X:Cx}{t u:TS}{pos:Pos}{c:Expr}{a b:List Stmt}{tc:TT} (h0:QT X c tc) (h1:QSs X a t) (h2:QSs X b u):QS X (Stmt.If c a b pos) (tIfS tc t u):=⟨L2.zB h0.un h1.un h2.un⟩
theorem zn {X:Cx}{pos:Pos}{i:Nat}{x:Str}{e:Expr}{te:TE}{pos':Pos} (h0:X.N.Nodup) (h1:X.N[i]? = some x) (h2:L2.Loc X.env.scope x) (h3:QE X e te) (h4:autoParam (swapsWith e (some (Expr.Name x pos')) pos.line X.env = pure false) L2.zn._auto_1) (h5:autoParam (X.fn x = true\/List.lookup x X.env.scope.names = some NameKind.local) L2.zn._auto_2):QS X (Stmt.Assign [Expr.Name x pos'] e pos) (tAsg te (ZI i)):=⟨L2.zn h0 h1 h2 h3.un h4 h5⟩
theorem za9 {X:Cx}{pos:Pos}{tg e:Expr}{te:TE}{g:TG} (h0:QE X e te) (h1:QG X tg g) (h2:autoParam (swapsWithSole [tg] e pos.line X.env = pure false) L2.za9._auto_1) (h3:autoParam (swappedStores [tg] e X.env = pure none) L2.za9._auto_2) (h4:autoParam (List.map (fun (x:Bool × (Value->Sem Unit))=>x.snd) (assignEach [tg] X.env) = [assign tg X.env]) L2.za9._auto_3):QS X (Stmt.Assign [tg] e pos) (tAsg te g):=⟨L2.za9 h0.un h1.un h2 h3 h4⟩
theorem ZB {X:Cx}{e:Expr}{te:TE}{pos:Pos} (h0:QE X e te) (h1:autoParam (swapsWith e none pos.line X.env = pure false) L2.ZB._auto_1):QS X (Stmt.Expr e pos) (zmC te):=⟨L2.ZB h0.un h1⟩
theorem zaC {X:Cx}{tg iter:Expr}{body:List Stmt}{wi:TI}{g:TG}{tb:TS}{pos:Pos} (h0:PassesOwn (model X.prog X.w) X.A X.env X.xe) (h1:X.calm = true) (h2:QI X tg iter wi) (h3:QG X tg g) (h4:QSs X body tb) (h5:autoParam (∀ (x:Value),foldedSetIterable iter X.env x = pure x) L2.zaC._auto_1):QS X (Stmt.For tg iter body [] pos) (tFor wi g tb):=⟨L2.zaC h0 h1 h2.un h3.un h4.un h5⟩
theorem zbp {X:Cx}{pos:Pos}{c:Expr}{body:List Stmt}{tc:TT}{tb:TS} (h0:PassesOwn (model X.prog X.w) X.A X.env X.xe) (h1:QT X c tc) (h2:QSs X body tb):QS X (Stmt.While c body [] pos) (zk1 tc tb):=⟨L2.zbp h0 h1.un h2.un⟩
theorem zct {X:Cx}{pos:Pos}{i:Nat}{x:Str}{e:Expr}{te:TE}{op:Operator}{ti:TIp}{pos':Pos} (h0:X.N.Nodup) (h1:X.N[i]? = some x) (h2:L2.Loc X.env.scope x) (h3:QE X e te) (h4:PIp X op ti) (h5:autoParam (X.fn x = true\/List.lookup x X.env.scope.names = some NameKind.local) L2.zct._auto_1):QS X (Stmt.AugAssign (Expr.Name x pos') op e pos) (tAug i te ti):=⟨L2.zct h0 h1 h2 h3.un h4 h5⟩
theorem zf {X:Cx}{i:Int}{j:Nat}{pos:Pos}:QE X (Expr.Constant (Const.int i) j pos) (tC (V.int i)):=⟨L2.zf ⟩
theorem ze {X:Cx}{x:Str}{j:Nat}{pos:Pos}:QE X (Expr.Constant (Const.str x) j pos) (tC (V.str x)):=⟨L2.ze ⟩
theorem zaJ {X:Cx}{b:Bool}{j:Nat}{pos:Pos}:QE X (Expr.Constant (Const.bool b) j pos) (tC (V.bl b)):=⟨L2.zaJ ⟩
theorem zh9 {X:Cx}{j:Nat}{pos:Pos}:QE X (Expr.Constant Const.none j pos) (tC V.non):=⟨L2.zh9 ⟩
theorem pv {X:Cx} (i:Nat) {x:Str}{pos:Pos} (h0:autoParam (X.N[i]? = some x) L2.pv._auto_1) (h1:autoParam (Vis X.env.scope x) L2.pv._auto_2) (h2:autoParam ((x == Str.ofString "__debug__") = false) L2.pv._auto_3) (h3:autoParam ((x == Str.ofString "__classdict__") = false) L2.pv._auto_4):QE X (Expr.Name x pos) (tVar i):=⟨L2.pv i h0 h1 h2 h3⟩
theorem Zt {X:Cx}{x:Str}{v:V}{u:Value}{pos:Pos} (h0:Gl X x) (h1:X.mg x = some u) (h2:RelV v u) (h3:autoParam ((x == Str.ofString "__debug__") = false) L2.Zt._auto_1):QE X (Expr.Name x pos) (tC v):=⟨L2.Zt h0 h1 h2 h3⟩
theorem Zo {X:Cx}{x:Str}{i:Int}{pos:Pos} (h0:Gl X x) (h1:(∃ (t:Tok),X.mg x = some (Value.int i t))) (h2:autoParam ((x == Str.ofString "__debug__") = false) L2.Zo._auto_1):QE X (Expr.Name x pos) (tC (V.int i)):=⟨L2.Zo h0 h1 h2⟩
theorem zbe {X:Cx}{x:Str}{T:String}{pos:Pos} (h0:Gl X x) (h1:X.mg x = none) (h2:bootBuiltins x = some (Value.type T)) (h3:autoParam (x≠Str.ofString "__name__") L2.zbe._auto_1) (h4:autoParam ((x == Str.ofString "__debug__") = false) L2.zbe._auto_2):QE X (Expr.Name x pos) (tC (V.ty T)):=⟨L2.zbe h0 h1 h2 h3 h4⟩
theorem zi {X:Cx}{a b:Expr}{ta tb:TE}{pos:Pos}{op:Operator}{r:R2} (h0:OpR X (binaryOp op) r) (h1:QE X a ta) (h2:QE X b tb):QE X (a.BinOp op b pos) (tOp r ta tb):=⟨L2.zi h0 h1.un h2.un⟩
theorem zhq {X:Cx}{a:Expr}{ta:TE}{pos:Pos}{op:UnaryOp}{r:V->Hp->VK->Prop} (h0:UnR X (unaryOp op) r) (h1:QE X a ta):QE X (Expr.UnaryOp op a pos) (tUn r ta):=⟨L2.zhq h0 h1.un⟩
theorem zK {X:Cx}{a b:Expr}{ta tb:TE}{pos:Pos}{op:CmpOp}{r:R2} (h0:OpR X (compareOp op) r) (h1:QE X a ta) (h2:QE X b tb) (h3:behindInMarks op b = false):QE X (a.Compare [op] [b] pos) (tOp r ta tb):=⟨L2.zK h0 h1.un h2.un h3⟩
theorem zj {X:Cx}{a b:Expr}{ta tb:TE}{pos:Pos}{op:CmpOp}{r:R2} (h0:OpR X (compareOp op) r) (h1:QE X a ta) (h2:QE X b tb) (h3:behindInMarks op b = false):QT X (a.Compare [op] [b] pos) (zjX (tOp r ta tb)):=⟨L2.zj h0 h1.un h2.un h3⟩
theorem zcJ {X:Cx}{a b c:Expr}{ta tb tc:TE}{pos:Pos}{op op':CmpOp}{r r':R2} (h0:OpR X (compareOp op) r) (h1:OpR X (compareOp op') r') (h2:QE X a ta) (h3:QE X b tb) (h4:QE X c tc) (h5:autoParam (lastMarks [op,op'] [b,c] = false) L2.zcJ._auto_1):QT X (a.Compare [op,op'] [b,c] pos) (zjX (zig r r' ta tb tc)):=⟨L2.zcJ h0 h1 h2.un h3.un h4.un h5⟩
theorem zaB {X:Cx}{a b:Expr}{ta tb:TE}{pos:Pos}{rest:List Expr} (h0:QE X a ta) (h1:QE X (Expr.BoolOp BoolOp.And (b :: rest) pos) tb):QE X (Expr.BoolOp BoolOp.And (a :: b :: rest) pos) (zmA ta tb):=⟨L2.zaB h0.un h1.un⟩
theorem zfN {X:Cx}{a b:Expr}{ta tb:TE}{pos:Pos}{rest:List Expr} (h0:QE X a ta) (h1:QE X (Expr.BoolOp BoolOp.Or (b :: rest) pos) tb):QE X (Expr.BoolOp BoolOp.Or (a :: b :: rest) pos) (tOrV ta tb):=⟨L2.zfN h0.un h1.un⟩
theorem zao {X:Cx}{a:Expr}{pos:Pos}{op:BoolOp}{t:TE} (h0:QE X a t):QE X (Expr.BoolOp op [a] pos) t:=⟨L2.zao h0.un⟩
theorem zeM {X:Cx}{a:Expr}{ta:TE}{pos:Pos} (h0:QE X a ta):QE X (Expr.UnaryOp UnaryOp.Not a pos) (zmB ta):=⟨L2.zeM h0.un⟩
theorem zap {X:Cx}{a b:Expr}{ta tb:TE}{pos:Pos}{tA:TT}{c:Expr} (h0:QT X c tA) (h1:QE X a ta) (h2:QE X b tb):QE X (c.IfExp a b pos) (tIf tA ta tb):=⟨L2.zap h0.un h1.un h2.un⟩
theorem zW {X:Cx}{e:Expr}{t:TE} (h:QE X e t) (he:∀ whole,isTrue e X.env whole = (do let v ← whole; standAt e.pos; holding [v] (truthy v)):=by intro _; rfl):QT X e (tB t):=⟨L2.zW h.un he⟩
theorem ZP {X:Cx}{a:Expr}{pos:Pos}{tA:TT} (h0:QT X a tA):QT X (Expr.UnaryOp UnaryOp.Not a pos) (tNot tA):=⟨L2.ZP h0.un⟩
theorem zal {X:Cx}{a b:Expr}{pos:Pos}{tA tB':TT}{rest:List Expr} (h0:QT X a tA) (h1:QW X (Expr.BoolOp BoolOp.And (b :: rest) pos) tB'):QW X (Expr.BoolOp BoolOp.And (a :: b :: rest) pos) (tAnd tA tB'):=⟨L2.zal h0.un h1.un⟩
theorem ZH {X:Cx}{a:Expr}{pos:Pos}{tA:TT} (h0:QT X a tA):QW X (Expr.BoolOp BoolOp.And [a] pos) tA:=⟨L2.ZH h0.un⟩
theorem zaK {X:Cx}{a b:Expr}{pos:Pos}{tA tB':TT}{rest:List Expr} (h0:QT X a tA) (h1:QW X (Expr.BoolOp BoolOp.Or (b :: rest) pos) tB'):QW X (Expr.BoolOp BoolOp.Or (a :: b :: rest) pos) (tOr tA tB'):=⟨L2.zaK h0.un h1.un⟩
theorem zak {X:Cx}{a:Expr}{pos:Pos}{tA:TT} (h0:QT X a tA):QW X (Expr.BoolOp BoolOp.Or [a] pos) tA:=⟨L2.zak h0.un⟩
theorem PW.pt {X:Cx}{e:Expr}{t:TT} (h0:QW X e t):QT X e t:=⟨L2.PW.pt h0.un⟩
theorem zw {X:Cx}{x:Str}{k:Nat}{ps:List Str}{sp:Sp}{e:Expr}{es:List Expr}{t:TA}{p pos:Pos} (h0:Have X.prog X.w X.K X.mg X.base x k ps sp) (h1:Room k X.A) (h2:Gl X x) (h3:QA X (e :: es) t) (h4:autoParam ((x == Str.ofString "__debug__") = false) L2.zw._auto_1) (h5:autoParam (starEach (e :: es) X.env = (false,eval e X.env) :: starEach es X.env) L2.zw._auto_2) (h6:autoParam (((backTo pos (starEach es X.env)).any fun (x:Bool × Sem Value)=>x.fst) = false) L2.zw._auto_3):QE X ((Expr.Name x p).Call (e :: es) [] pos) (zcX sp [] E0 t):=⟨L2.zw h0 h1 h2 h3.un h4 h5 h6⟩
theorem zdK {X:Cx}{x:Str}{k:Nat}{ps:List Str}{sp:Sp}{p pos:Pos} (h0:Have X.prog X.w X.K X.mg X.base x k ps sp) (h1:Room k X.A) (h2:Gl X x) (h3:autoParam ((x == Str.ofString "__debug__") = false) L2.zdK._auto_1):QE X ((Expr.Name x p).Call [] [] pos) (zcX sp [] E0 tNil):=⟨L2.zdK h0 h1 h2 h3⟩
theorem zk {X:Cx}{x:Str}{p pos:Pos}{e:Expr}{es:List Expr}{t:TA}{id:String}{r:List V->Hp->VK->Prop} (h0:zaL X (Value.builtin id) r) (h1:Gl X x) (h2:X.mg x = none) (h3:bootBuiltins x = some (Value.builtin id)) (h4:QA X (e :: es) t) (h5:autoParam (x≠Str.ofString "__name__") L2.zk._auto_1) (h6:autoParam ((x == Str.ofString "__debug__") = false) L2.zk._auto_2) (h7:autoParam (starEach (e :: es) X.env = (false,eval e X.env) :: starEach es X.env) L2.zk._auto_3) (h8:autoParam (((backTo pos (starEach es X.env)).any fun (x:Bool × Sem Value)=>x.fst) = false) L2.zk._auto_4):QE X ((Expr.Name x p).Call (e :: es) [] pos) (tCB r t):=⟨L2.zk h0 h1 h2 h3 h4.un h5 h6 h7 h8⟩
theorem zC {X:Cx}{x:Str}{p pos:Pos}{e:Expr}{es:List Expr}{t:TA}{T:String}{r:List V->Hp->VK->Prop} (h0:zaL X (Value.type T) r) (h1:Gl X x) (h2:X.mg x = none) (h3:bootBuiltins x = some (Value.type T)) (h4:QA X (e :: es) t) (h5:autoParam (x≠Str.ofString "__name__") L2.zC._auto_1) (h6:autoParam ((x == Str.ofString "__debug__") = false) L2.zC._auto_2) (h7:autoParam (starEach (e :: es) X.env = (false,eval e X.env) :: starEach es X.env) L2.zC._auto_3) (h8:autoParam (((backTo pos (starEach es X.env)).any fun (x:Bool × Sem Value)=>x.fst) = false) L2.zC._auto_4):QE X ((Expr.Name x p).Call (e :: es) [] pos) (tCB r t):=⟨L2.zC h0 h1 h2 h3 h4.un h5 h6 h7 h8⟩
theorem zaE {X:Cx}{o e:Expr}{es:List Expr}{to:TE}{t:TA}{name:Str}{apos cpos:Pos}{T id:String}{r:V->List V->Hp->VK->Prop} (pa:PlainAttrs T) (slot:Slot T name id) (hty:typeOf (.builtin id) = pure (.type "method_descriptor")) (hm:MtR X id r) (ho:QE X o to) (ha:QA X (e :: es) t)
  (hbase:attributeBase o name X.env (eval o X.env) = eval o X.env:=by rfl)
  (hfew:((backTo cpos (starEach (e :: es) X.env)).all (fun x=>!x.1) && (backToKw cpos (keywordEach [] X.env)).all (fun x=>x.1.isSome)
   && decide ((e :: es).length + ([]:List Keyword).length + (if ([]:List Keyword).isEmpty then 0 else 1) < 30)) = true:=by rfl)
  (hline:(apos.endLine == cpos.line) = true:=by rfl) (hs:starEach (e :: es) X.env = (false,eval e X.env) :: starEach es X.env:=by rfl) (hplain:(backTo cpos (starEach es X.env)).any (·.1) = false:=by rfl):
  QE X (.Call (.Attribute o name apos) (e :: es) [] cpos) (tBM X.K T r to t):=⟨L2.zaE pa slot hty hm ho.un ha.un hbase hfew hline hs hplain⟩
theorem zcZ {X:Cx}{o:Expr}{to:TE}{name:Str}{apos cpos:Pos}{T id:String}{r:V->List V->Hp->VK->Prop} (h0:PlainAttrs T) (h1:Slot T name id) (h2:typeOf (Value.builtin id) = pure (Value.type "method_descriptor")) (h3:MtR X id r) (h4:QE X o to) (h5:autoParam (attributeBase o name X.env (eval o X.env) = eval o X.env) L2.zcZ._auto_1) (h6:autoParam ((apos.endLine == cpos.line) = true) L2.zcZ._auto_2):QE X ((o.Attribute name apos).Call [] [] cpos) (tBM0 X.K T r to):=⟨L2.zcZ h0 h1 h2 h3 h4.un h5 h6⟩
theorem zy {X:Cx}{a b:Expr}{ta tb:TE}{pos:Pos}{r:R2} (h0:IxR X r) (h1:QE X a ta) (h2:QE X b tb) (h3:zir b):QE X (a.Subscript b pos) (tOp r ta tb):=⟨L2.zy h0 h1.un h2.un h3⟩
theorem Zg {X:Cx}{e:Expr}{te:TE}{lo hi:Option Expr}{tl th:TO}{pos p2:Pos}{r:V->Option Int->Option Int->Hp->VK->Prop} (h0:SlR X r) (h1:QE X e te) (h2:QO X lo tl) (h3:QO X hi th):QE X (e.Subscript (Expr.Slice lo hi none p2) pos) (tSl r te tl th):=⟨L2.Zg h0 h1.un h2.un h3.un⟩
theorem zae {X:Cx}:QO X none zio:=⟨L2.zae ⟩
theorem Ze {X:Cx}{e:Expr}{te:TE} (h0:QE X e te):QO X (some e) (zmG te):=⟨L2.Ze h0.un⟩
theorem zx {X:Cx}{es:List Expr}{t:TA}{pos:Pos} (h0:QA X es t):QE X (Expr.List es pos) (tLst t):=⟨L2.zx h0.un⟩
theorem zP {X:Cx}{es:List Expr}{t:TA}{pos:Pos}{x1:Nat} (h0:QA X es t):QE X (Expr.Tuple es x1 pos) (tTup t):=⟨L2.zP h0.un⟩
theorem zc {X:Cx}:QA X [] tNil:=⟨L2.zc ⟩
theorem za {X:Cx}{e:Expr}{es:List Expr}{te:TE}{t:TA} (h0:QE X e te) (h1:QA X es t) (h2:autoParam (starEach (e :: es) X.env = (false,eval e X.env) :: starEach es X.env) L2.za._auto_1):QA X (e :: es) (zan te t):=⟨L2.za h0.un h1.un h2⟩
theorem Zx {X:Cx}{elt iter:Expr}{x:Str}{px pos:Pos}{ifs:List Expr}{scope:Scope}{cl:List (Str × Addr)} (fr:List Nat) (ys:List Str) {wi:TI}{tt:TT}{te:TE} (h0:X.calm = true) (h1:closureFor scope X.env = pure cl) (h2:(∀ (y:Str × NameKind),y∈scope.names->y.snd≠NameKind.cell)) (h3:scope.kind = ScopeKind.function) (h4:(∀ (y:Str × NameKind),y∈scope.names->y.snd = NameKind.local->List.lookup y.fst scope.names = some NameKind.local)) (h5:List.lookup x scope.names = some NameKind.local) (h6:(x :: ys).Nodup) (h7:ClOk cl X.env.cells) (h8:(scope.names.all fun (y:Str × NameKind)=>y.snd != NameKind.free || (List.lookup y.fst cl).isSome) = true) (h9:FrOk X scope cl fr ys) (h10:QI X (Expr.Name x px) iter wi) (h11:(∀ (C:Addr) (s:Shared) (H:Hp) (fp:List Addr),QIfs (zH X scope cl (x :: ys) C s H fp) ifs tt/\QE (zH X scope cl (x :: ys) C s H fp) elt te)) (h12:autoParam (∀ (v:Value),foldedSetIterable iter X.env v = pure v) L2.Zx._auto_1):QE X (elt.ListComp [{ target:=Expr.Name x px,iter:=iter,ifs:=ifs,is_async:=0 }] scope pos) (zbd fr wi tt te):=⟨L2.Zx fr ys h0 h1 h2 h3 h4 h5 h6 h7 h8 h9 h10.un (fun C s H fp=>⟨(h11 C s H fp).1.un,(h11 C s H fp).2.un⟩) h12⟩
theorem Zj {X:Cx}:QIfs X [] fun (x:St) (H:Hp) (Q:Bool->Hp->Prop)=>Q true H:=⟨L2.Zj ⟩
theorem zcL {X:Cx}{c:Expr}{t:TT} (h0:QT X c t):QIfs X [c] t:=⟨L2.zcL h0.un⟩
theorem zay {X:Cx}{tg l:Expr}{tl:TE} (h0:QE X l tl):QI X tg l (zlt X.K tl):=⟨L2.zay h0.un⟩
theorem zcu {X:Cx}{tg l:Expr}{tl:TE} (h0:QE X l tl):QI X tg l (iTup X.K tl):=⟨L2.zcu h0.un⟩
theorem ze1 {X:Cx}{tg e:Expr}{te:TE} (h0:QE X e te):QI X tg e (iStr te):=⟨L2.ze1 h0.un⟩
theorem Z8 {X:Cx}{tg a:Expr}{ta:TA}{p pos:Pos} (h0:Gl X (Str.ofString "range")) (h1:X.mg (Str.ofString "range") = none) (h2:QA X [a] ta) (h3:autoParam (starEach [a] X.env = [(false,eval a X.env)]) L2.Z8._auto_1):QI X tg ((Expr.Name (Str.ofString "range") p).Call [a] [] pos) (zlu ta):=⟨L2.Z8 h0 h1 h2.un h3⟩
theorem zZ {X:Cx}{pos:Pos}{i:Nat}{x:Str} (h0:X.N.Nodup) (h1:X.N[i]? = some x) (h2:L2.Loc X.env.scope x) (h3:autoParam (X.fn x = true\/List.lookup x X.env.scope.names = some NameKind.local) L2.zZ._auto_1):QG X (Expr.Name x pos) (ZI i):=⟨L2.zZ h0 h1 h2 h3⟩
theorem zbP {X:Cx}{pos:Pos}{es:List Expr}{k:Nat}{t:TGs}{n:Nat} (h0:X.calm = true) (h1:QGs X es t) (h2:autoParam ((assignEach es X.env).length = n) L2.zbP._auto_1) (h3:autoParam (List.findIdx? (fun (x:Bool × (Value->Sem Unit))=>x.fst) (assignEach es X.env) = none) L2.zbP._auto_2):QG X (Expr.Tuple es k pos) (gTup X.K n t):=⟨L2.zbP h0 h1.un h2 h3⟩
theorem za8 {X:Cx}:QGs X [] gNil:=⟨L2.za8 ⟩
theorem Zn {X:Cx}{e:Expr}{es:List Expr}{t:TG}{u:TGs} (h0:QG X e t) (h1:QGs X es u) (h2:autoParam (List.map (fun (x:Bool × (Value->Sem Unit))=>x.snd) (assignEach (e :: es) X.env) = assign e X.env :: List.map (fun (x:Bool × (Value->Sem Unit))=>x.snd) (assignEach es X.env)) L2.Zn._auto_1):QGs X (e :: es) (zmD t u):=⟨L2.Zn h0.un h1.un h2⟩
theorem zbA {X:Cx}{x:Str}{z:Str}{pos:Pos} (hg:Gl X x) (hm:∃ t,X.mg x = some (.str z t)) (hd:(x == ("__debug__":Str)) = false:=by decide):QE X (.Name x pos) (tC (.str z)):=⟨L2.zbA hg hm hd⟩
end D
namespace L2
open PySem PySem.Spec PyProof.Rows
def MD (P:Program) (w:World) (K:PySem.W.Frag) (g:Addr) (kvs:List (Key × V)):Prop:=
 ∃ (o:Obj) (vs:List (Key × Value)),K.lookup g = some o/\PySem.Obj.IsDictOf (Zd P w) o vs/\KV kvs vs/\(g == sysModules) = false
theorem MD.dict {P:Program}{w:World}{K:PySem.W.Frag}{g:Addr}{kvs:List (Key × V)}{h:Heap} (m:MD P w K g kvs) (x:K.In h):∃ vs,KV kvs vs/\h.DictOf (Zd P w) g vs/\(g == sysModules) = false:=by
 obtain ⟨o,vs,e,d,r,n⟩:=m
 exact ⟨vs,r,Heap.dictOf_iff.mpr ⟨o,x _ _ e,d⟩,n⟩
theorem zgJ {P:Program}{w:World}:∀ l:List (Str × Tok × V × Value),Pairs (Zd P w) (l.map fun p=>(⟨hashStr w p.1,.str p.1 p.2.1,p.2.2.2⟩:DictEntry)) (l.map fun p=>((Sum.inr p.1:Key),p.2.2.2))
 | []=>.nil
 | p :: r=>.cons (ZG P w p.1 p.2.1) rfl (zgJ r)
theorem zm0:∀ l:List (Str × Tok × V × Value),(∀ p∈l,RelV p.2.2.1 p.2.2.2)->KV (l.map fun p=>((Sum.inr p.1:Key),p.2.2.1)) (l.map fun p=>((Sum.inr p.1:Key),p.2.2.2))
 | [],_=>.nil
 | p :: r,h=>.cons ⟨rfl,h p List.mem_cons_self⟩ (zm0 r fun q hq=>h q (List.mem_cons_of_mem _ hq))
theorem zm1 {P:Program}{w:World}{K:PySem.W.Frag}{g:Addr} (l:List (Str × Tok × V × Value)) {ep:Nat} (e:K.lookup g = some ⟨.type "dict",none,.dict (l.map fun p=>(⟨hashStr w p.1,.str p.1 p.2.1,p.2.2.2⟩:DictEntry)).toArray ep,#[]⟩)
  (n:(g == sysModules) = false) (hr:∀ p∈l,RelV p.2.2.1 p.2.2.2) (nd:(l.map (·.1)).Nodup):MD P w K g (l.map fun p=>((Sum.inr p.1:Key),p.2.2.1)):=by
 refine ⟨_,l.map fun p=>((Sum.inr p.1:Key),p.2.2.2),e,⟨_,_,⟨rfl,rfl,rfl⟩,rfl,?_,?_,?_⟩,zm0 l hr,n⟩
 ·intro x hx
  have hx':x∈l.map fun p=>(⟨hashStr w p.1,.str p.1 p.2.1,p.2.2.2⟩:DictEntry):=by simpa using hx
  obtain ⟨p,_,rfl⟩:=List.mem_map.mp hx'
  exact ⟨Sum.inr p.1,ZG P w p.1 p.2.1,rfl⟩
 ·rw [List.toList_toArray]
  exact zgJ l
 ·rw [List.map_map]
  have:(l.map ((fun x:Key × Value=>x.1) ∘ fun p=>((Sum.inr p.1:Key),p.2.2.2))) = (l.map (·.1)).map (Sum.inr:Str->Key):=by rw [List.map_map]; rfl
  rw [this]
  exact List.pairwise_map.mpr (List.Pairwise.imp (fun {a b} (h:a≠b) (e:(Sum.inr a:Key) = Sum.inr b)=>h (by simpa using e)) nd)
theorem zm2 {X:Cx}:OpR X (compareOp .In) (fun x y H Q=>∃ (g:Addr) (kvs:List (Key × V)) (k:Key),x = kV k/\y = .ref g/\MD X.prog X.w X.K g kvs/\Q (.bl (valV kvs k).isSome) H):=by
 intro zp s σ H x y v u Q I rx ry h
 obtain ⟨g,kvs,k,rfl,rfl,m,q⟩:=h
 cases ry
 obtain ⟨vs,rel,dd,hd⟩:=m.dict I.kIn
 refine wpAny_in_of (zj4 rx) hd dd.mapOf ?_
 rw [← (rel.val k).isSome_eq]
 exact ⟨.bl _,H,I.tok _,rfl,q⟩
theorem ziP {X:Cx}:OpR X (compareOp .NotIn) (fun x y H Q=>∃ (g:Addr) (kvs:List (Key × V)) (k:Key),x = kV k/\y = .ref g/\MD X.prog X.w X.K g kvs/\Q (.bl (!(valV kvs k).isSome)) H):=by
 intro zp s σ H x y v u Q I rx ry h
 obtain ⟨g,kvs,k,rfl,rfl,m,q⟩:=h
 cases ry
 obtain ⟨vs,rel,dd,hd⟩:=m.dict I.kIn
 refine wpAny_notIn_of (zj4 rx) hd dd.mapOf ?_
 rw [← (rel.val k).isSome_eq]
 exact ⟨.bl _,H,I.tok _,rfl,q⟩
theorem zm3 {X:Cx}:IxR X (fun x y H Q=>∃ (g:Addr) (kvs:List (Key × V)) (k:Key) (v:V),x = .ref g/\y = kV k/\MD X.prog X.w X.K g kvs/\valV kvs k = some v/\Q v H):=by
 intro value slice zp s σ H x y v u Q I rx ry h hs
 obtain ⟨g,kvs,k,z,rfl,rfl,m,hv,q⟩:=h
 cases rx
 obtain ⟨vs,rel,dd,hd⟩:=m.dict I.kIn
 obtain ⟨w',hw,rw'⟩:=RelO.some_of (v:=z) (o:=valueAt vs k) (by rw [← hv]; exact rel.val k)
 exact tail_any dd.typeIs PySem.F.slot_dict_getitem.lookup (wpAny_getItem_of (zj4 ry) dd.mapOf hw ⟨z,H,I.tok _,rw',q⟩) hs
end L2
namespace D
open PySem L2
end D
namespace L2
open PySem PySem.Spec PyProof.Rows PySem.Builtin PySem.Builtin.Str
def znx (K:PySem.W.Frag):R2:=fun x y H Q=>(∃ i j,x = .str i/\y = .str j/\i.length + j.length<=sizeLine/\Q (.str (i ++ j)) H)\/zj6 K x y H Q \/
 ∃ (a b:Addr) (ys:List V),x = .ref a/\y = .ref b/\SqT K H a []/\SqT K H b ys/\Q (.ref b) H
theorem zlM {X:Cx}:OpR X (binaryOp .Add) (znx X.K):=OpR.or zh (OpR.or zck zkm)
theorem zaz {X:Cx}:SlR X (fun x lo hi H Q=>∃ z:Str,x = .str z/\z.length<=1000000/\Q (.str (Txt.slice z lo hi)) H):=by
 intro zp s σ H x v vl vu lo hi sl Q I rx hs pl pu h
 obtain ⟨z,rfl,hz,q⟩:=h
 obtain ⟨t,rfl⟩:=rx
 refine ⟨"str",_,PySem.F.slot_str_getitem.lookup,typeIs_str _ _ _,?_⟩
 have hz':z.length<=sizeLine:=Nat.le_trans hz (by decide)
 have fin:∀ (l u:Option (Int × Tok)),partValue l = vl->partValue u = vu->Q (.str (Txt.slice z (l.map (·.1)) (u.map (·.1)))) H->wpAny (model X.prog X.w) X.A (getItem (.str z t) (.ref sl)) (EP X zp σ Q) X.xe s:=fun l u e1 e2 q=>by
  obtain ⟨o,ho,hc,hd⟩:=hs
  refine wpAny_getItem_str_slice (l:=l) (u:=u) (st:=none) ⟨o,ho,hc,by rw [hd,e1,e2]; rfl⟩ rfl (post_val_or_str ⟨Nat.le_trans (Txt.slice_le z _ _) hz',fun t' k=>?_⟩)
  exact ⟨.str _,H,I.tok k,⟨t',rfl⟩,q⟩
 cases pl with
 | none=>cases pu with
  | none=>exact fin none none rfl rfl q
  | int j tj=>exact fin none (some (j,tj)) rfl rfl q
 | int i ti=>cases pu with
  | none=>exact fin (some (i,ti)) none rfl rfl q
  | int j tj=>exact fin (some (i,ti)) (some (j,tj)) rfl rfl q
end L2
namespace L2
open PySem PySem.Spec PyProof.Rows
theorem zc5 {X:Cx}{i:Nat}{y:Str}{py spos:Pos}{elt iter:Expr}{x:Str}{px pos:Pos}{ifs:List Expr}{scope:Scope}{cl:List (Str × Addr)} (fr:List Nat) (ys:List Str) {wi:TI}{tt:TT}{te:TE}
  (hc:X.calm = true) (hclos:closureFor scope X.env = pure cl) (hcell:∀ y∈scope.names,y.2≠.cell) (hkind:scope.kind = .function) (hnames:∀ y∈scope.names,y.2 = .local->scope.names.lookup y.1 = some .local)
  (hx:scope.names.lookup x = some .local) (hnd:(x :: ys).Nodup) (hcl:ClOk cl X.env.cells) (hall:(scope.names.all fun y=>y.2 != .free || (cl.lookup y.1).isSome) = true) (hfr:FrOk X scope cl fr ys)
  (hi:PI X (.Name x px) iter wi)
  (hY:∀ C s H fp,PIfs (zH X scope cl (x :: ys) C s H fp) ifs tt/\PE (zH X scope cl (x :: ys) C s H fp) elt te)
  (hN:X.N.Nodup) (hiy:X.N[i]? = some y) (hy:Loc X.env.scope y) (hsw:swapsWith (.ListComp elt [⟨.Name x px,iter,ifs,0⟩] scope pos) (some (.Name y py)) spos.line X.env = pure true:=by rfl)
  (hf:X.fn y = true\/X.env.scope.names.lookup y = some .local:=by first | exact .inl rfl | exact .inr rfl | assumption)
  (hs:∀ v,foldedSetIterable iter X.env v = pure v:=by intro _; rfl):
  PS X (.Assign [.Name y py] (.ListComp elt [⟨.Name x px,iter,ifs,0⟩] scope pos) spos) (tAsg (zbd fr wi tt te) (ZI i)):=by
 intro zp s σ H Dn I h
 rw [exec_Assign_Name_used _ _ _ _ hsw]
 refine wpAny_bind (wpAny_standAt (wpAny_bind ?_))
 refine (show wpAny _ X.A (do let _ ← comprehension (.ListComp elt [⟨.Name x px,iter,ifs,0⟩] scope pos) scope X.env _ (newList []) false (eval iter X.env) (some (assign (.Name y py) X.env))) _ _ s from ?_)
 refine wpAny_bind (wpAny_mono (wpAny_comprehension_free (use:=some (assign (.Name y py) X.env)) (Q:=fun _ s'=>SP X zp Dn .next s') rfl hs hclos hkind hnames (wpAny_mono (hi zp s σ H _ I h) (fun v s1 h1=>wpAny_mono h1 (fun itv s2 h2=>?_) fun _ _ e=>e) fun _ _ e=>e)) (fun _ s' hq=>wpAny_pure (wpAny_pure hq)) fun _ _ e=>e)
 obtain ⟨it,fp,tn,J,H2,rfl,I2,T,st2,f2,W,⟨m0,w0⟩,turn⟩:=h2
 refine wpAny_newObj_type (wpAny_newFunctionEnv hcell (by intro y hy; simp at hy) (fun h₁ hns₁ hsb₁=>?_) hkind)
 dsimp only at hns₁ hsb₁ ⊢
 generalize hP2:s2.heap.push { cls:=.type "list",dict:=none,data:=.seq ([]:List Value).toArray } = P2 at hns₁ hsb₁ ⊢
 have hC:P2.objs.size = s2.heap.objs.size + 1:=by rw [← hP2,Heap.size_push]
 have hDC:s2.heap.objs.size≠P2.objs.size:=by rw [hC]; exact Nat.ne_of_lt (Nat.lt_succ_self _)
 have hCle:s2.heap.objs.size<=P2.objs.size:=by rw [hC]; exact Nat.le_succ _
 have below:∀ b,b < s2.heap.objs.size->b≠P2.objs.size/\b≠s2.heap.objs.size:=fun b hb=>⟨by rw [hC]; exact Nat.ne_of_lt (Nat.lt_succ_of_lt hb),Nat.ne_of_lt hb⟩
 have old:∀ b o,s2.heap.get? b = some o->h₁.get? b = some o:=fun b o e=>hsb₁.extBut b o (below b (Heap.lt_size e)).1 (Heap.get?_push_of_some _ (hP2 ▸ Heap.get?_push_of_some _ e))
 have hacc:h₁.get? s2.heap.objs.size = some { cls:=.type "list",data:=.seq ([]:List Value).toArray }:=hsb₁.extBut _ _ hDC (Heap.get?_push_of_some _ (hP2 ▸ Heap.get?_push_size _ rfl))
 have fpl:∀ b∈fp,b < s2.heap.objs.size:=fun b hb=>by
  obtain ⟨o,e,_⟩:=T.obj _ _ st2 b hb
  exact Heap.lt_size e
 have tlt:∀ b o,H2 b = some o->b < s2.heap.objs.size:=fun b o e=>I2.hok.lt e
 generalize hCg:P2.objs.size = C at hns₁ hsb₁ hDC hCle below ⊢
 generalize hDg:s2.heap.objs.size = D at hDC below hacc fpl tlt ⊢
 have hDle:D<=C:=by rw [← hDg]; exact hCle
 have cls:∀ y c,cl.lookup y = some c->X.env.cells.lookup y = some c:=fun y c e=>hcl.mem e
 have clt:∀ y c,cl.lookup y = some c->c < D:=fun y c e=>by
  obtain ⟨v,q⟩:=I2.cell y c (cls y c e)
  rw [← hDg]; exact q.lt
 have sub:∀ b∈frs X.stack,b < D:=fun b hb=>by
  rcases List.mem_cons.mp (I2.stkSub b hb) with e | hb
  ·rw [e,← hDg]; exact I2.lt
  ·obtain ⟨_,o,ho,_⟩:=I2.ok.funs.mem hb
   rw [← hDg]; exact Nat.lt_of_lt_of_le (Heap.lt_size ho) I2.sz
 obtain ⟨YI,YE⟩:=hY C s2 H2 fp
 have Yok:(zH X scope cl (x :: ys) C s2 H2 fp).Ok:=by
  refine ⟨I2.ok.mod,hkind,I2.ok.glob,I2.ok.blt,hCle,?_,?_,?_,fun _=>I2.ok.hd hc,I2.ok.frames,.inl rfl,?_,I2.bs,Nat.le_trans I2.ok.bsz I2.sz,?_,?_,I2.stack,I2.stkFree⟩
  ·exact fun y z c e1 e2=>I2.ok.inj y z c (cls y c e1) (cls z c e2)
  ·intro y hy
   have hm:=zar (env:=X.env) (names:=scope.names) (x:=y) hcell hy
   have q:=List.all_eq_true.mp hall _ hm
   show ∃ c,cl.lookup y = some c
   exact Option.isSome_iff_exists.mp (by simpa using q)
  ·intro y c hf _
   exact absurd hf (by show ¬ false = true; decide)
  ·intro b hb
   refine ⟨(below b (fpl b hb)).1,fun y c e z=>?_⟩
   exact (f2 b hb).2.2.2.2.1 y c (cls y c e) z
  ·intro b o e hb
   have hb:b∈fp:=hb
   rcases (f2 b hb).2.2.2.1 with z | z
   ·exact I2.ok.noex b o e z
   ·exact absurd (Nat.lt_of_lt_of_le (Heap.lt_size e) (Nat.le_trans I2.ok.bsz z)) (Nat.lt_irrefl _)
  ·intro b hb hf
   have hb:b∈fp:=hb
   rcases List.mem_cons.mp (I2.stkSub b hf) with e | hf
   ·exact (f2 b hb).2.1 e
   ·exact (f2 b hb).2.2.1 hf
 have hvis:Loc (zH X scope cl (x :: ys) C s2 H2 fp).env.scope x:=.inl (lookup_relabel_local hx)
 have start:∀ tk,Inv (zH X scope cl (x :: ys) C s2 H2 fp) [] (none :: frees fr σ) H2 { s2 with heap:=h₁,toks:=tk }:=fun tk=>by
  refine ⟨Yok,rfl,I2.bare,Un.kept old,⟨_,hns₁,fun i y v e1 e2 e3=>?_⟩,fun y c e=>?_,?_,fun y c e=>?_,fun p hp=>absurd (show p∈([]:List (Addr × Obj)) from hp) (by simp),I2.hok.kept old,?_⟩
  ·cases i with
   | zero=>simp at e2
   | succ j=>
    obtain ⟨i',n1,n2,n3,n4,n5,c,n6⟩:=zc2 hfr j y v (by simpa [zH] using e1) (by simpa using e2)
    obtain ⟨m,hn,hl⟩:=I2.loc
    obtain ⟨u,r,l⟩:=hl i' y v n1 n2 n4
    refine ⟨u,r,.inr ⟨zam n3,c,n6,?_⟩⟩
    rcases l with ⟨k,_⟩ | ⟨k,c',e,z⟩
    ·exact absurd k n5
    ·rw [cls y c n6] at e
     cases e
     obtain ⟨o,ho,hd⟩:=z
     exact ⟨o,old _ _ ho,hd⟩
  ·obtain ⟨v,o,ho,hd⟩:=I2.cell y c (cls y c e)
   exact ⟨v,o,old _ _ ho,hd⟩
  ·show H2 C = none
   cases q:H2 C with
   | none=>rfl
   | some o=>exact absurd (tlt C o q) (Nat.not_lt.mpr hDle)
  ·exact I2.freeC y c (cls y c e)
  ·show (none :: frees fr σ).length = (x :: ys).length
   rw [List.length_cons,List.length_cons,zc3 hfr]
 have fpY:∀ {pl:List (Addr × Obj)}{H':Hp},(∀ b∈fp,H' b = none)->(∀ p∈pl,p.1 = D)->∀ b∈fp,FpOk (zH X scope cl (x :: ys) C s2 H2 fp) pl H' b:=fun {pl H'} hn hpl b hb=>by
  refine ⟨hn b hb,(below b (fpl b hb)).1,Yok.exfs b hb,.inl hb,fun y c e z=>(f2 b hb).2.2.2.2.1 y c (cls y c e) z,fun p hp=>?_⟩
  have hp:p∈[] ++ pl:=hp
  rw [List.nil_append] at hp
  rw [hpl p hp]
  exact (below b (fpl b hb)).2.symm
 have loop:∀ s₃:Shared,(∃ tk,s₃ = { s2 with heap:=h₁,toks:=tk })->
   codeAny (model X.prog X.w) X.A (.compLoop (.ListComp elt [⟨.Name x px,iter,ifs,0⟩] scope pos) 0 (.ref it) (.ref D) (compEnvC scope cl C X.env))
    (compPost (model X.prog X.w) X.A X.xe (some (assign (.Name y py) X.env)) (fun _ s'=>SP X zp Dn .next s') (.ref D) C) s₃:=by
  rintro s₃ ⟨tk,rfl⟩
  refine ze0
   (fun k s'=>∃ i vs ws nn H',Inv (zH X scope cl (x :: ys) C s2 H2 fp) [] (none :: frees fr σ) H' s'/\tn i s'.heap/\(∀ b∈fp,H' b = none)/\H' D = none /\
    s'.heap.get? D = some { cls:=.type "list",data:=.seq (ws:List Value).toArray nn }/\Vals vs ws/\W i k vs H') ?_ m0
   ⟨0,[],[],0,H2,start tk,T.keep _ _ _ st2 fun b _ o e=>old b o e,fun b hb=>(f2 b hb).1,?_,hacc,.nil,w0⟩
  ·rintro n s3 ⟨i,vs,ws,nn,H3,I3,st3,fr3,hD3,ho3,rv3,w3⟩
   have I3':Inv (zH X scope cl (x :: ys) C s2 H2 fp) [(D,{ cls:=.type "list",data:=.seq ws.toArray nn })] (none :: frees fr σ) H3 s3:=I3.pins_of fun p hp=>by
    have e:p = (D,{ cls:=.type "list",data:=.seq ws.toArray nn }):=by simpa using hp
    subst e
    refine ⟨ho3,hD3,hDC,fun z=>absurd (sub D z) (Nat.lt_irrefl _),fun v z=>?_⟩
    have z':Data.seq ws.toArray nn = Data.cell v:=z
    cases z'
   have fp3:=fpY (pl:=[(D,{ cls:=.type "list",data:=.seq ws.toArray nn })]) fr3 (fun p hp=>by rw [List.mem_singleton.mp hp])
   obtain ⟨hsz,alt⟩:=turn i n vs H3 w3
   rcases alt with ⟨stop,fin⟩ | ⟨go,step⟩
   ·refine thn (T.done (zH X scope cl (x :: ys) C s2 H2 fp) rfl rfl rfl rfl i _ s3 _ H3 _ I3' fp3 st3 stop) fun r s4 ⟨hr,I4⟩=>?_
    subst hr
    have pD:=I4.pin (D,{ cls:=.type "list",data:=.seq ws.toArray nn }) (by show _∈[] ++ _; simp)
    obtain ⟨m4,hn4,_⟩:=I4.loc
    have hC4:H3 C = none:=I4.free
    have hok4:HOk X.prog X.w (upd H3 D (.lst vs)) s4.heap:=HOk.track I4.hok hD3 ⟨hsz,ws,nn,rv3,pD.1⟩
    have b4:=I4.base
    have un4:Un (frs X.stack) fp H2 (upd H3 D (.lst vs)) s2.heap s4.heap:=by
     have lt:∀ b o,s2.heap.get? b = some o->b < D:=fun b o e=>by rw [← hDg]; exact Heap.lt_size e
     refine ⟨b4.keep,b4.slot,fun b o e n hx=>?_,b4.there,fun b zs e=>?_,fun b o u e=>?_,fun b ps e=>?_⟩
     ·rw [zu (below b (lt b o e)).2]; exact b4.free b o e n hx
     ·rw [zu (below b (tlt b _ e)).2]; exact b4.tups b zs e
     ·rw [zu (below b (tlt b _ e)).2]; exact b4.frzs b o u e
     ·rw [zu (below b (tlt b _ e)).2]; exact b4.tbls b ps e
    have I5:Inv X zp σ (upd H3 D (.lst vs)) s4:=I2.call' (ch:=fp) I4.os un4 hok4 I4.bare fun b hb=>⟨(f2 b hb).2.2.2.1,(f2 b hb).2.1,(f2 b hb).2.2.2.2.1,(f2 b hb).2.2.2.2.2⟩
    have fC:FpOk X zp (upd H3 D (.lst vs)) C:=I2.fpOk (by rw [hDg]; exact hDle) (by rw [zu hDC.symm]; exact hC4)
    refine (show wpAny _ X.A (assign (.Name y py) X.env (.ref D)) _ _ s4 from wpAny_assign_Name (zeL I5 hN hiy hy (v:=.ref D) rfl (fun s5 I6 ⟨a,hsa,ha⟩=>?_) hf))
    have aC:C≠a:=by
     rcases ha with ha | ha
     ·rw [ha]; exact fC.2.1
     ·exact (fC.2.2.2.2.1 _ _ ha).symm
    refine ⟨m4,hn4.sameBut hsa aC,fun h' hs'=>⟨_,upd H3 D (.lst vs),I6.turned (t':=s5.toks) (it:=C) (fun b o hb e=>(hs'.2 b hb).trans e) fC.1 fC.2.1 fC.2.2.2.1 fC.2.2.2.2.1 fC.2.2.2.2.2,fin D hD3⟩⟩
   ·refine thn (T.item (zH X scope cl (x :: ys) C s2 H2 fp) rfl rfl rfl rfl i _ s3 _ H3 _ I3' fp3 st3 go) fun r s4 ⟨u,hr,h4⟩=>?_
    subst hr
    refine thn h4 fun _ s5 ⟨v,H5,I5,r5,y5,st5,fr5⟩=>?_
    have fp5:=fpY (pl:=[(D,{ cls:=.type "list",data:=.seq ws.toArray nn })]) fr5 (fun p hp=>by rw [List.mem_singleton.mp hp])
    have I5':=I5.pinned fp5 (T.obj _ _ st5)
    refine thn (zZ (X:=zH X scope cl (x :: ys) C s2 H2 fp) (i:=0) (pos:=px) hnd rfl hvis (.inr (lookup_relabel_local hx)) _ s5 _ H5 v u (fun σ' H'=>σ' = some v :: frees fr σ/\H' = H5) I5' r5 ⟨rfl,rfl⟩) fun _ s6 ⟨σ6,H6,I6,e6,e6'⟩=>?_
    subst e6 e6'
    refine thn (YI _ s6 _ _ _ I6 (step v H6 y5)) fun b s7 ⟨H7,I7,q7⟩=>?_
    have back:∀ {H8:Hp}{s8:Shared},Inv (zH X scope cl (x :: ys) C s2 H2 fp) ([(D,{ cls:=.type "list",data:=.seq ws.toArray nn })] ++ zdI fp s5.heap) (some v :: frees fr σ) H8 s8->
      s8.heap.get? D = some { cls:=.type "list",data:=.seq ws.toArray nn }/\H8 D = none/\(∀ b∈fp,H8 b = none)/\(∀ b∈fp,∀ o,s5.heap.get? b = some o->s8.heap.get? b = some o):=fun {H8 s8} I8=>by
     have pD:=I8.pin (D,{ cls:=.type "list",data:=.seq ws.toArray nn }) (by show _∈[] ++ _; simp)
     refine ⟨pD.1,pD.2.1,fun b hb=>?_,fun b hb o e=>?_⟩
     ·obtain ⟨o,e,d⟩:=T.obj _ _ st5 b hb
      exact (I8.pin (b,o) (List.mem_append_right _ (List.mem_append_right _ (zai hb e)))).2.1
     ·exact (I8.pin (b,o) (List.mem_append_right _ (List.mem_append_right _ (zai hb e)))).1
    have weak:∀ {H8:Hp}{s8:Shared},Inv (zH X scope cl (x :: ys) C s2 H2 fp) [] (some v :: frees fr σ) H8 s8->Inv (zH X scope cl (x :: ys) C s2 H2 fp) [] (none :: frees fr σ) H8 s8:=fun {H8 s8} I8=>
     I8.weak rfl fun i v' e=>by
      cases i with
      | zero=>simp at e
      | succ j=>simpa using e
    have nopin:∀ {H8:Hp}{s8:Shared}{pl:List (Addr × Obj)},Inv (zH X scope cl (x :: ys) C s2 H2 fp) pl (some v :: frees fr σ) H8 s8->Inv (zH X scope cl (x :: ys) C s2 H2 fp) [] (some v :: frees fr σ) H8 s8:=fun {H8 s8 pl} I8=>
     I8.pins_of fun p hp=>absurd hp (by simp)
    cases b with
    | false=>
     rw [if_neg Bool.false_ne_true] at q7 ⊢
     obtain ⟨m',hm,w7⟩:=q7
     obtain ⟨k1,k2,k3,k4⟩:=back I7
     exact ⟨m',hm,i + 1,vs,ws,nn,H7,weak (nopin I7),T.keep _ _ _ st5 k4,k3,k2,k1,rv3,w7⟩
    | true=>
     rw [if_pos rfl] at q7 ⊢
     refine thn (YE _ s7 _ _ _ I7 q7) fun u8 s8 ⟨y8,H8,I8,r8,m',hm,w8⟩=>?_
     obtain ⟨k1,k2,k3,k4⟩:=back I8
     refine append_at (hsz:=by rw [List.size_toArray,← rv3.length]; exact hsz) k1 fun h9 hs9 ho9=>?_
     have I9:Inv (zH X scope cl (x :: ys) C s2 H2 fp) [] (some v :: frees fr σ) H8 { s8 with heap:=h9 }:=
      (nopin I8).turned (t':=s8.toks) (it:=D) (fun b o hb e=>(hs9.2 b hb).trans e) k2 hDC (.inr (by rw [← hDg]; exact Nat.le_refl _)) (fun y c e=>Nat.ne_of_lt (clt y c e)) fun p hp=>absurd (show p∈([]:List (Addr × Obj)) from hp) (by simp)
     refine ⟨m',hm,i + 1,vs ++ [y8],ws ++ [u8],nn + 1,H8,weak I9,?_,k3,k2,?_,rv3.append (.cons r8 .nil),w8⟩
     ·refine T.keep _ _ _ st5 fun b hb o e=>?_
      exact (hs9.2 b (below b (fpl b hb)).2).trans (k4 b hb o e)
     ·rw [ho9,List.push_toArray]
  ·cases q:H2 D with
   | none=>rfl
   | some o=>exact absurd (tlt D o q) (Nat.lt_irrefl _)
 exact codeAny_compStart_list (loop _ ⟨_,rfl⟩) (T.self _ 0 _ _ _ (T.keep _ _ _ st2 fun b _ o e=>old b o e) (loop _ ⟨_,rfl⟩))
end L2
namespace D
open PySem L2
theorem zc5 {X:Cx}{i:Nat}{y:Str}{py spos:Pos}{elt iter:Expr}{x:Str}{px pos:Pos}{ifs:List Expr}{scope:Scope}{cl:List (Str × Addr)} (fr:List Nat) (ys:List Str) {wi:TI}{tt:TT}{te:TE}
  (hc:X.calm = true) (hclos:closureFor scope X.env = pure cl) (hcell:∀ y∈scope.names,y.2≠.cell) (hkind:scope.kind = .function) (hnames:∀ y∈scope.names,y.2 = .local->scope.names.lookup y.1 = some .local)
  (hx:scope.names.lookup x = some .local) (hnd:(x :: ys).Nodup) (hcl:ClOk cl X.env.cells) (hall:(scope.names.all fun y=>y.2 != .free || (cl.lookup y.1).isSome) = true) (hfr:FrOk X scope cl fr ys)
  (hi:QI X (.Name x px) iter wi)
  (hY:∀ C s H fp,QIfs (zH X scope cl (x :: ys) C s H fp) ifs tt/\QE (zH X scope cl (x :: ys) C s H fp) elt te)
  (hN:X.N.Nodup) (hiy:X.N[i]? = some y) (hy:L2.Loc X.env.scope y) (hsw:swapsWith (.ListComp elt [⟨.Name x px,iter,ifs,0⟩] scope pos) (some (.Name y py)) spos.line X.env = pure true:=by rfl)
  (hf:X.fn y = true\/X.env.scope.names.lookup y = some .local:=by first | exact .inl rfl | exact .inr rfl | assumption)
  (hs:∀ v,foldedSetIterable iter X.env v = pure v:=by intro _; rfl):
  QS X (.Assign [.Name y py] (.ListComp elt [⟨.Name x px,iter,ifs,0⟩] scope pos) spos) (tAsg (zbd fr wi tt te) (ZI i)):=
 ⟨L2.zc5 fr ys hc hclos hcell hkind hnames hx hnd hcl hall hfr hi.un (fun C s H fp=>⟨(hY C s H fp).1.un,(hY C s H fp).2.un⟩) hN hiy hy hsw hf hs⟩
end D
namespace L2
open PySem PySem.Spec PyProof.Rows
def zk9 (P:Program) (w:World) (K:PySem.W.Frag) (td ty tx:TE):TE:=fun σ H Q=>td σ H fun x H1=>∃ (g:Addr) (kvs:List (Key × V)),x = .ref g/\MD P w K g kvs/\ty σ H1 fun y H2=>tx σ H2 fun z H3=>∃ k:Key,y = kV k/\Q ((valV kvs k).getD z) H3
theorem zd6 {X:Cx}{o e f:Expr}{apos cpos:Pos}{td ty tx:TE} (ho:PE X o td) (he:PE X e ty) (hf:PE X f tx) (m:M2 X o "get" apos e f cpos):PE X (.Call (.Attribute o "get" apos) [e,f] [] cpos) (zk9 X.prog X.w X.K td ty tx):=by
 intro zp s σ H Q I h
 refine wpAny_Call_method m.base m.few m.line PySem.F.plainAttrs_dict PySem.F.slot_dict_get PySem.F.type_dict_get (thn (ho zp s σ H _ I h) fun u s1 ⟨x,H1,I1,rx,a,kvs,ex,d,q1⟩=>?_)
 subst ex
 obtain rfl:u = Value.ref a:=rx
 obtain ⟨vs1,rel1,dd1,hd1⟩:=d.dict I1.kIn
 refine ⟨dd1.typeIs,fun b q=>?_,?_⟩
 ·cases q
  obtain ⟨ob,_,_,h1,h2,_⟩:=dd1
  exact ⟨ob,h1,h2.2.1⟩
 rw [m.trees]
 refine Calls.callWith_builtin rfl (Calls.evalArgs_plain (Calls.spliced_cons (thn (he zp s1 σ H1 _ I1 q1) fun iv s2 ⟨y,H2,I2,ry,q2⟩=>
  Calls.spliced_cons (thn (hf zp s2 σ H2 _ I2 q2) fun fv s3 ⟨z,H3,I3,rz,k,ey,q3⟩=>Calls.spliced_nil ?_))))
 subst ey
 obtain ⟨vs,rel,dd,hd⟩:=d.dict I3.kIn
 refine call_meetsIn PySem.F.slot_dict_get dd.typeIs PySem.F.entry_dict_get (PySem.F.args_dict_get_3 _ _ _) (meets_dict_get_default (Zd X.prog X.w) a (zj4 ry) hd fv) ⟨_,dd.mapOf,?_⟩
 exact ⟨_,H3,I3.tok _,(rel.val k).getD rz,q3⟩
end L2
namespace D
open PySem L2
theorem zd6 {X:Cx}{o e f:Expr}{apos cpos:Pos}{td ty tx:TE} (ho:QE X o td) (he:QE X e ty) (hf:QE X f tx) (m:M2 X o "get" apos e f cpos):QE X (.Call (.Attribute o "get" apos) [e,f] [] cpos) (zk9 X.prog X.w X.K td ty tx):=⟨L2.zd6 ho.un he.un hf.un m⟩
end D
namespace L2
open PySem PySem.Spec PyProof.Rows
section
variable {X:Cx}{C:Addr}{x m:Str}{k:Nat}{ps:List Str}{sp:Sp}{e o:Expr}{es:List Expr}{ta:TE}{t:TA}{p pos apos:Pos}
end
end L2
namespace D
open PySem L2
section
variable {X:Cx}{C:Addr}{x m:Str}{k:Nat}{ps:List Str}{sp:Sp}{e o:Expr}{es:List Expr}{ta:TE}{t:TA}{p pos apos:Pos}
end
end D
namespace L2
open PySem PySem.Spec PyProof.Rows
theorem Inv.turnedL {X:Cx}{zp:List (Addr × Obj)}{σ:St}{H:Hp}{s:Shared}{h':Heap}{t':Nat}{fp:List Addr} (I:Inv X zp σ H s) (k:∀ b o,b ∉ fp->s.heap.get? b = some o->h'.get? b = some o) (hf:∀ b∈fp,FpOk X zp H b):
  Inv X zp σ H { s with heap:=h',toks:=t' }:=by
 have nit:∀ b u,H b = some u->b ∉ fp:=fun b u e z=>by
  have:=(hf b z).1
  rw [e] at this
  cases this
 refine I.step (g':=s.gens) (d':=s.drawn) (ch:=fp) (fun b hb=>?_) (fun b o _ _ hc e _=>k b o hc e) (fun b o _ _ hc e _=>⟨o.slots,k b o hc e⟩) (fun _ _ _ _ n=>n)
  (fun b o hc e=>⟨o,k b o hc e⟩) (fun _ _ e=>e) (fun _ _ _ e=>e) (fun b ps e=>⟨#[],by rw [e]; simp⟩) (fun m hm=>?_) (fun b u e=>?_) I.bare
 ·obtain ⟨f0,f1,f2,f3,f4,f5⟩:=hf b hb
  exact ⟨f3,f1,f4,f5⟩
 ·obtain ⟨o,es,ep,ho,r⟩:=hm
  exact ⟨o,es,ep,k _ o (fun z=>(hf _ z).2.1 rfl) ho,r⟩
 ·refine (I.hok b u e).stay (fun c v hc q=>k c v ?_ q) (fun _ q=>q) fun _ _ q=>q
  rcases hc with z | z
  ·rw [z]; exact nit b u e
  ·exact nit c _ z
theorem zgK {h:Heap}{o u:Obj}{b:Addr} (e:(h.push o).get? b = some u) (hb:b < h.objs.size):h.get? b = some u:=by
 rcases Heap.get?_push_cases e with ⟨r,_⟩ | r
 ·rw [r] at hb
  exact absurd hb (Nat.lt_irrefl _)
 ·exact r
def Ite (K:PySem.W.Frag) (a:Addr):It:=
 ⟨fun i H=>∃ xs x,SqL K H a xs/\xs[i]? = some x,fun i H x H'=>∃ t y,H t = none/\x = .ref t/\(∀ xs,SqL K H a xs->xs[i]? = some y)/\H' = upd H t (.tup [.int i,y]),fun i H=>∃ xs,SqL K H a xs/\xs.length<=i⟩
theorem ziQ {P:Program}{w:World}{K:PySem.W.Frag}{elts:List Expr}{k:Nat}{pos:Pos} (a e it:Addr) (hei:e≠it):Turn P w K (.Tuple elts k pos) (Ite K a) [e,it] e (fun i h=>(∃ old,IsEnum h e it i old)/\h.IsListIter it a i) where
 mem:=by simp
 obj:=fun i h st b hb=>by
  obtain ⟨⟨old,he⟩,hit⟩:=st
  have hc:b = e\/b = it:=by simpa using hb
  rcases hc with rfl | rfl
  ·exact ⟨_,he,fun v z=>by
    have z':Data.fields _ = Data.cell v:=z
    cases z'⟩
  ·obtain ⟨o,eo,c,d⟩:=hit
   exact ⟨o,eo,fun v z=>by rw [d] at z; cases z⟩
 keep:=fun i h h' st kk=>by
  obtain ⟨⟨old,he⟩,hit⟩:=st
  exact ⟨⟨old,kk e (by simp) _ he⟩,hit.at fun o x=>kk it (by simp) o x⟩
 item:=by
  intro X hP hw hK hc i zp s σ H E I hf st hg
  subst hP hw hK
  obtain ⟨⟨old,he⟩,hit⟩:=st
  obtain ⟨xs,x,hq,hx⟩:=hg
  obtain ⟨its,rv,p,hz⟩:=I.list hq
  obtain ⟨u,hu,ru⟩:=rv.get hx
  have hfr:H s.heap.objs.size = none:=I.hok.fresh (Nat.le_refl _)
  have helt:e < s.heap.objs.size:=Heap.lt_size he
  have hilt:it < s.heap.objs.size:=by obtain ⟨_,z,_⟩:=hit; exact Heap.lt_size z
  refine wpAny_pyNext_enum_item he hit p.isList (x:=u) (by simpa using hu) hei fun h' ho hit' hT hsz hk=>⟨_,rfl,wpAny_letOwnedTupleGo_enum ho fun h2 he2 hs2=>?_⟩
  have I1:Inv X zp σ (upd H s.heap.objs.size (.tup [.int i,x])) { s with heap:=s.heap.push { cls:=.type "tuple",data:=.seq #[.int i s.toks,u] },toks:=s.toks }:=
   I.laid (t':=s.toks) (fun b u e=>Heap.get?_push_of_some _ e) (Nat.le_refl _) ⟨zl2,[.int i s.toks,u],.cons ⟨_,rfl⟩ (.cons ru .nil),⟨_,Heap.get?_push_size _ rfl,rfl,_,rfl⟩⟩
  have nn:∀ b∈[e,it],upd H s.heap.objs.size (.tup [.int i,x]) b = none:=fun b hb=>by
   rw [zu (fun z=>by
    have hc:b = e\/b = it:=by simpa using hb
    rcases hc with r | r
    ·rw [← r,z] at helt; exact Nat.lt_irrefl _ helt
    ·rw [← r,z] at hilt; exact Nat.lt_irrefl _ hilt)]
   exact (hf b hb).1
  have I2:Inv X zp σ (upd H s.heap.objs.size (.tup [.int i,x])) { s with heap:=h2,toks:=s.toks + 1 }:=by
   refine Inv.turnedL (s:={ s with heap:=s.heap.push { cls:=.type "tuple",data:=.seq #[.int i s.toks,u] },toks:=s.toks }) (h':=h2) (t':=s.toks + 1) (fp:=[e,it]) I1 (fun b o hb eb=>?_) (fun b hb=>?_)
   ·have hbe:b≠e:=fun z=>hb (by simp [z])
    have hbi:b≠it:=fun z=>hb (by simp [z])
    refine (hs2.2 b hbe).trans ?_
    by_cases hbs:b = s.heap.objs.size
    ·subst hbs
     have e1:(s.heap.push { cls:=.type "tuple",data:=.seq #[.int i s.toks,u] }).get? s.heap.objs.size = some { cls:=.type "tuple",data:=.seq #[.int i s.toks,u] }:=Heap.get?_push_size _ rfl
     have eb:(s.heap.push { cls:=.type "tuple",data:=.seq #[.int i s.toks,u] }).get? s.heap.objs.size = some o:=eb
     rw [e1] at eb
     cases eb
     exact hT
    ·refine hk b o hbe hbi ?_
     have eb:(s.heap.push { cls:=.type "tuple",data:=.seq #[.int i s.toks,u] }).get? b = some o:=eb
     have hlt:=Heap.lt_size eb
     rw [Heap.size_push] at hlt
     exact zgK eb (Nat.lt_of_le_of_ne (Nat.le_of_lt_succ hlt) hbs)
   ·obtain ⟨f0,f1,f2,f3,f4,f5⟩:=hf b hb
    exact ⟨nn b hb,f1,f2,f3,f4,f5⟩
  refine ⟨.ref s.heap.objs.size,_,I2,rfl,⟨s.heap.objs.size,x,hfr,rfl,fun ys hy=>by rw [I.list_inj hy hq]; exact hx,rfl⟩,⟨⟨_,by simpa using he2⟩,hit'.at fun o y=>(hs2.2 it hei.symm).trans y⟩,nn⟩
 done:=by
  intro X hP hw hK hc i zp s σ H E I hf st hg
  subst hP hw hK
  obtain ⟨⟨old,he⟩,hit⟩:=st
  obtain ⟨xs,hq,hx⟩:=hg
  obtain ⟨its,rv,p,hz⟩:=I.list hq
  have hl:=rv.length
  refine wpAny_pyNext_enum_end (I.ok.hd hc) he hit p.isList (by simp; omega) fun h' eb=>⟨rfl,?_⟩
  exact I.turnedL (t':=s.toks) (fp:=[e,it]) (fun b o hb e'=>eb b o (fun z=>hb (by simp [z])) e') hf
 self:=fun _ _ _ _ _ st h=>by
  obtain ⟨⟨old,he⟩,_⟩:=st
  exact wpAny_pyIter_enum he h
theorem ze7:bootBuiltins (Str.ofString "enumerate") = some (.type "enumerate"):=by kernel_rfl
def zm4 (K:PySem.W.Frag) (ta:TA):TI:=fun σ H R=>ta σ H fun vs H1=>∃ (a:Addr) (xs:List V),vs = [.ref a]/\SqL K H1 a xs/\R (Ite K a) H1
theorem zc6 {X:Cx}{elts:List Expr}{k:Nat}{ps:Pos}{a:Expr}{ta:TA}{p pos:Pos} (hg:Gl X "enumerate") (hm:X.mg "enumerate" = none) (ha:PA X [a] ta) (hs:starEach [a] X.env = [(false,eval a X.env)]:=by rfl):
  PI X (.Tuple elts k ps) (.Call (.Name "enumerate" p) [a] [] pos) (zm4 X.K ta):=by
 intro zp s σ H R I h
 refine Call_ (zdH I hg hm ze7 (PyProof.Rows.callWith_type1 (thn (ha pos zp s σ H _ I h) fun us s1 ⟨vs,H1,I1,r1,q1⟩=>?_) hs rfl))
 obtain ⟨b,xs,e,hq,q⟩:=q1
 subst e
 obtain ⟨u,rfl,rx⟩:=zbN r1
 cases rx
 obtain ⟨its,rv,pl,hz⟩:=I1.list hq
 refine call_enumerate_list pl.isList fun h' he hi hsz hk=>?_
 have hne:s1.heap.objs.size + 1≠s1.heap.objs.size:=Nat.succ_ne_self _
 refine wpAny_pyIter_enum he ?_
 have I2:Inv X zp σ H1 { s1 with heap:=h',toks:=s1.toks }:=I1.kept (t':=s1.toks) hk
 refine ⟨s1.heap.objs.size + 1,[s1.heap.objs.size + 1,s1.heap.objs.size],_,_,H1,rfl,I2,ziQ b _ _ hne,⟨⟨_,he⟩,hi⟩,fun c hc=>?_,q⟩
 have hcs:c = s1.heap.objs.size + 1\/c = s1.heap.objs.size:=by simpa using hc
 have hle:s1.heap.objs.size<=c:=by
  rcases hcs with r | r
  ·rw [r]; exact Nat.le_succ _
  ·rw [r]; exact Nat.le_refl _
 exact I1.fpOk hle (I1.hok.fresh hle)
theorem zd7 {K:PySem.W.Frag}{a:Addr}{xs:List V}{g:TG}{tb:TS}{D:Ends}{σ:St}{H:Hp} (Pv:Nat->St->Hp->Prop) (h0:Pv 0 σ H) (hl:∀ i σ H,i<=xs.length->Pv i σ H->SqL K H a xs)
  (hs:∀ i x t σ H,xs[i]? = some x->H t = none->Pv i σ H->g (.ref t) σ (upd H t (.tup [.int i,x])) fun σ2 H2=>tb { D with nx:=Pv (i + 1),ct:=Pv (i + 1),bk:=D.nx } σ2 H2) (hd:∀ σ H,Pv xs.length σ H->D.nx σ H):
  ∃ W:Nat->Nat->St->Hp->Prop,(∃ m,W 0 m σ H)/\∀ i m σ H,W i m σ H->
   ((Ite K a).stop i H/\D.nx σ H)\/((Ite K a).go i H/\∃ N:St->Hp->Prop,(∀ σ' H',N σ' H'->∃ m',m' < m/\W (i + 1) m' σ' H')/\∀ x H',(Ite K a).yld i H x H'->g x σ H' fun σ2 H2=>tb { D with nx:=N,ct:=N,bk:=D.nx } σ2 H2):=by
 refine ⟨fun i m σ H=>m = xs.length - i/\i<=xs.length/\Pv i σ H,⟨xs.length,by simp,Nat.zero_le _,h0⟩,?_⟩
 rintro i m σ H ⟨rfl,hi,p⟩
 have q:=hl i σ H hi p
 by_cases hlt:i < xs.length
 ·refine .inr ⟨⟨xs,xs[i],q,by simp [hlt]⟩,Pv (i + 1),fun σ' H' p'=>⟨xs.length - (i + 1),by omega,rfl,hlt,p'⟩,fun x H' y=>?_⟩
  obtain ⟨t,y,ht,rfl,hy,rfl⟩:=y
  exact hs i y t σ H (hy xs q) ht p
 ·have e:i = xs.length:=by omega
  subst e
  exact .inl ⟨⟨xs,q,Nat.le_refl _⟩,hd σ H p⟩
end L2
namespace D
open PySem L2
theorem zc6 {X:Cx}{elts:List Expr}{k:Nat}{ps:Pos}{a:Expr}{ta:TA}{p pos:Pos} (hg:Gl X "enumerate") (hm:X.mg "enumerate" = none) (ha:QA X [a] ta) (hs:starEach [a] X.env = [(false,eval a X.env)]:=by rfl):
  QI X (.Tuple elts k ps) (.Call (.Name "enumerate" p) [a] [] pos) (zm4 X.K ta):=⟨L2.zc6 hg hm ha.un hs⟩
end D
namespace D
open PySem L2 PySem.Spec PyProof.Rows
theorem zgL {X:Cx} (hu:X.A.units < cLine):OpR X (compareOp .NotEq) (fun x y H Q=>∃ (a b:Addr) (us:List V),x = .ref a/\y = .ref b/\SqL X.K H a us/\SqL X.K H b []/\Q (.bl (!us.isEmpty)) H):=by
 intro zp s σ H x y v u Q I rx ry h
 obtain ⟨a,b,us,rfl,rfl,ha,hb,q⟩:=h
 cases rx
 cases ry
 obtain ⟨its,v1,p1,_⟩:=I.list ha
 obtain ⟨its2,v2,p2,_⟩:=I.list hb
 have l1:=v1.length
 have l2:=v2.length
 cases us with
 | nil=>
  have key:SeqAt.RcNeAt X.A s (.ref a) (.ref b) (!(List.range its.toArray.size).all fun _=>true):=
   SeqAt.RcNeAt.lists p1.isList p2.isList (by rw [List.size_toArray,List.size_toArray]; omega) hu (fun j h1 h2=>by
    have h3:j < its.length:=by simpa using h1
    exact absurd h3 (by rw [← l1]; exact Nat.not_lt_zero _))
  have e:(!(List.range its.toArray.size).all fun _=>true) = false:=by simp
  rw [e] at key
  exact key X.prog X.w _ _ ⟨.bl false,H,I,rfl,q⟩
 | cons x r=>
  have hsz:(its.toArray.size != its2.toArray.size) = true:=by
   rw [List.size_toArray,List.size_toArray,← l1,← l2]
   simp
  exact SeqAt.RcNeAt.lists_lengths p1.isList p2.isList hsz hu X.prog X.w _ _ ⟨.bl true,H,I,rfl,q⟩
theorem zla {X:Cx} (hu:X.A.units < cLine):OpR X (compareOp .Eq) (fun x y H Q=>∃ (a b:Addr) (us:List V),x = .ref a/\y = .ref b/\SqL X.K H a us/\SqL X.K H b []/\Q (.bl us.isEmpty) H):=by
 intro zp s σ H x y v u Q I rx ry h
 obtain ⟨a,b,us,rfl,rfl,ha,hb,q⟩:=h
 cases rx
 cases ry
 obtain ⟨its,v1,p1,_⟩:=I.list ha
 obtain ⟨its2,v2,p2,_⟩:=I.list hb
 have l1:=v1.length
 have l2:=v2.length
 cases us with
 | nil=>
  refine SeqAt.eq_listAt (e:=fun _=>true) p1.isList p2.isList (by rw [List.size_toArray,List.size_toArray]; omega) hu (fun j h1 h2=>?_) ?_
  ·have h3:j < its.length:=by simpa using h1
   exact absurd h3 (by rw [← l1]; exact Nat.not_lt_zero _)
  ·have e:((List.range its.toArray.size).all fun _=>true) = true:=by simp
   rw [e]
   exact ⟨.bl true,H,I,rfl,q⟩
 | cons x r=>
  have hsz:(its.toArray.size != its2.toArray.size) = true:=by
   rw [List.size_toArray,List.size_toArray,← l1,← l2]
   simp
  exact SeqAt.eq_list_lengthsAt p1.isList p2.isList hsz hu ⟨.bl false,H,I,rfl,q⟩
end D
namespace L2
open PySem PySem.Spec PyProof.Rows
def txOf:Value->Str
 | .str z _=>z
 | _=>Str.ofString ""
def byTx (w:World):Bool:=w.params.followText "set-order"
def Tabled (w:World) (t:SetTable) (n:Nat):Prop:=t.led = !byTx w/\(n = 0\/t.plain = false)
def zbO (P:Program) (w:World) (a:Addr) (ds:List Str) (h:Heap):Prop:=
 ∃ (o:Obj) (es:Array (Int × Value)) (ep:Nat) (t:SetTable),h.get? a = some o/\o.ExactSet/\o.data = .set es ep t/\ElemsOf (Zd P w) es.toList/\(∀ e∈es.toList,∃ z tk,e.2 = .str z tk) /\
  (es.toList.map fun e=>txOf e.2).Perm ds/\es.size < scanBound/\t.fits es.size = true/\Tabled w t es.size
def addS (ds:List Str) (z:Str):List Str:=if z∈ds then ds else ds ++ [z]
theorem zko (t:SetTable) (n:Nat):(t.orStandIn n).led = t.led/\(t.plain = false->(t.orStandIn n).plain = false):=by
 unfold SetTable.orStandIn
 split
 ·exact ⟨rfl,id⟩
 ·exact ⟨rfl,fun _=>rfl⟩
theorem ziR (t:SetTable) (es:Array (Int × Value)) (h:Int) (x:Value):(layNew t es h x).2.1.led = t.led/\(t.plain = false->(layNew t es h x).2.1.plain = false):=by
 unfold layNew
 split
 ·rename_i slot dm _
  obtain ⟨a,b⟩:=zko (t.put slot).1 (SetTable.insertAt es (t.put slot).2 (h,x)).size
  exact ⟨a,fun z=>b z⟩
 ·exact ⟨rfl,fun _=>rfl⟩
theorem ze8 {t t':SetTable}{hs:Array Int}{n:Nat}{order:Array Nat} (e:t.relaid hs n = some (t',order)):t'.led = t.led/\t'.plain = t.plain:=by
 unfold SetTable.relaid SetTable.laid at e
 cases hc:SetTable.layClean (SetTable.sizeAbove n - 1) hs with
 | none=>rw [hc] at e; cases e
 | some ow=>
  rw [hc] at e
  cases e
  exact ⟨rfl,rfl⟩
theorem zfX (t:SetTable) (es:Array (Int × Value)) (n:Nat):(relayAll t es n).2.1.led = t.led/\(t.plain = false->(relayAll t es n).2.1.plain = false):=by
 unfold relayAll
 split
 ·rename_i t' order e
  obtain ⟨a,b⟩:=ze8 e
  dsimp only
  split
  ·exact ⟨a,fun z=>b.trans z⟩
  ·exact ⟨rfl,fun _=>rfl⟩
 ·exact ⟨rfl,fun _=>rfl⟩
theorem zbO.store {P:Program}{w:World}{h:Heap}{a:Addr}{o:Obj}{es es':Array (Int × Value)}{ep:Nat}{t t':SetTable}{ds:List Str} (ho:h.get? a = some o) (hex:o.ExactSet) (hd:o.data = .set es ep t)
  (hel:ElemsOf (Zd P w) es'.toList) (htx:∀ e∈es'.toList,∃ z tk,e.2 = .str z tk) (hp:(es'.toList.map fun e=>txOf e.2).Perm ds) (hb:es'.size < scanBound) (hf:t'.fits es'.size = true) (hm:Tabled w t' es'.size):
  (h.update a (Obj.putSet es' t')).get? a = some { o with data:=.set es' (ep + 1) t' }/\zbO P w a ds (h.update a (Obj.putSet es' t')):=by
 have g:(h.update a (Obj.putSet es' t')).get? a = some { o with data:=.set es' (ep + 1) t' }:=by
  rw [← putSet_of es' t' hd]
  exact Heap.get?_update_self _ ho (by rw [putSet_of es' t' hd]; rfl)
 exact ⟨g,_,es',ep + 1,t',g,hex,rfl,hel,htx,hp,hb,hf,hm⟩
section
variable {P:Program}{w:World}{A:Around}{E:Value->Shared->Prop}
theorem zhG {s:Shared}{a:Addr}{ds:List Str}{z:Str}{tk:Tok}{Q:Bool->Shared->Prop} (hS:zbO P w a ds s.heap) (room:ds.length + 1 < scanBound)
  (h:∀ (b:Bool) (h':Heap),Heap.SameBut a s.heap h'->zbO P w a (addS ds z) h'->Q b { s with heap:=h' }):
  wpAny (model P w) A (setAddHashed a (.str z tk) ((Zd P w).hash (.inr z))) Q E s:=by
 have hS0:=hS
 obtain ⟨o,es,ep,t,ho,hex,hd,hel,htx,hpm,hb,hf,hmk⟩:=hS
 have hsz:es.size = ds.length:=by
  have:=hpm.length_eq
  rw [List.length_map,Array.length_toList] at this
  exact this
 have is:=ZG P w z tk
 unfold setAddHashed setAddHashedIn
 refine wpAny_holding (wpAny_bind (wpAny_setState_of ho hd hf ?_))
 dsimp only
 rw [byScan_of (knd:=Zd P w) (x:=.str z tk) rfl hb hel]
 simp only [↓reduceIte]
 unfold setAddByScan
 refine wpAny_bind (wpAny_bind (wpAny_rule (wpAny_bind (wpAny_setScan_of is ho hd hf hel ?_))))
 cases hr:es.toList.findIdx? (fun e=>(Zd P w).is (.inr z) e.2) with
 | some j=>
  obtain ⟨hj,hpj,_⟩:=List.findIdx?_eq_some_iff_getElem.mp hr
  have hin:z∈ds:=by
   obtain ⟨y,u,e⟩:=htx _ (List.getElem_mem hj)
   have hzy:z = y:=by
    rw [e] at hpj
    have:=(Zd P w).inj (.str y u) (.inr z) (.inr y) hpj (ZG P w y u)
    exact Sum.inr.inj this
   refine hpm.mem_iff.mp (List.mem_map.mpr ⟨_,List.getElem_mem hj,?_⟩)
   rw [e,hzy]
   rfl
  have key:=h false s.heap (Heap.SameBut.refl a s.heap) (by unfold addS; rw [if_pos hin]; exact hS0)
  exact wpAny_pure (wpAny_pure key)
 | none=>
  have hout:z ∉ ds:=fun hz=>by
   obtain ⟨e,he,hze⟩:=List.mem_map.mp (hpm.mem_iff.mpr hz)
   obtain ⟨y,u,ey⟩:=htx e he
   have h1:=List.findIdx?_eq_none_iff.mp hr e he
   rw [ey] at h1 hze
   have:y = z:=hze
   subst this
   rw [ZG] at h1
   cases h1
  have ead:addS ds z = ds ++ [z]:=by unfold addS; rw [if_neg hout]
  dsimp only
  have hperm:=layNew_perm t es ((Zd P w).hash (.inr z)) (.str z tk)
  have hfits:=layNew_fits t es ((Zd P w).hash (.inr z)) (.str z tk)
  have hmark:=ziR t es ((Zd P w).hash (.inr z)) (.str z tk)
  generalize layNew t es ((Zd P w).hash (.inr z)) (.str z tk) = L at hperm hfits hmark ⊢
  obtain ⟨es1,t1,dm,gave⟩:=L
  dsimp only at hperm hfits hmark ⊢
  rw [Array.toList_push] at hperm
  have hel1:ElemsOf (Zd P w) es1.toList:=(hel.push is rfl).perm hperm
  have htx1:∀ e∈es1.toList,∃ z tk,e.2 = .str z tk:=fun e he=>by
   rcases List.mem_append.mp (hperm.mem_iff.mp he) with h1 | h1
   ·exact htx e h1
   ·rw [List.mem_singleton.mp h1]; exact ⟨_,_,rfl⟩
  have hpm1:(es1.toList.map fun e=>txOf e.2).Perm (ds ++ [z]):=by
   refine (hperm.map _).trans ?_
   rw [List.map_append]
   exact hpm.append (List.Perm.refl _)
  have hsz1:es1.size = ds.length + 1:=by
   have:=hpm1.length_eq
   rw [List.length_map,Array.length_toList,List.length_append] at this
   exact this
  have hb1:es1.size < scanBound:=by omega
  have gw:∀ (b:Bool) (s1:Shared) (Q':Unit->Shared->Prop),Q' () s1->wpAny (model P w) A (match b with | true=>rule "set.scan.the-table-gave-way" | false=>pure ()) Q' E s1:=fun b s1 Q' hq=>by
   cases b
   ·exact wpAny_pure hq
   ·exact wpAny_rule hq
  refine wpAny_bind (gw _ _ _ ?_)
  have tail:∀ t2:SetTable,t2.fits es1.size = true->Tabled w t2 es1.size->wpAny (model P w) A (storeSet a es1 t2 >>= fun _=>if (!dm && t2.tooFull) = true then (match (relayAll t2 es1 (SetTable.grown es1.size)).2.2 with | true=>rule "set.scan.the-table-gave-way" | false=>pure ()) >>= fun _=>storeSet a (relayAll t2 es1 (SetTable.grown es1.size)).1 (relayAll t2 es1 (SetTable.grown es1.size)).2.1 >>= fun _=>pure (some true) else pure (some true))
    (fun r s'=>wpAny (model P w) A (match r with | some added=>pure added | none=>setAddHashedIn a (.str z tk) ((Zd P w).hash (.inr z)) 99999) Q E s') E s:=fun t2 hf2 hm2=>by
   obtain ⟨g1,S1⟩:=zbO.store (es':=es1) (t':=t2) (ds:=ds ++ [z]) ho hex hd hel1 htx1 hpm1 hb1 hf2 hm2
   refine wpAny_bind (wpAny_storeSet_of ho hd ?_ (fits_of_scanBound hb1))
   have sb1:=Heap.SameBut.update s.heap a (Obj.putSet es1 t2)
   split
   ·have hp:=relayAll_perm t2 es1 (SetTable.grown es1.size)
    have hfr:=relayAll_fits t2 es1 (SetTable.grown es1.size)
    have hmr:=zfX t2 es1 (SetTable.grown es1.size)
    generalize relayAll t2 es1 (SetTable.grown es1.size) = Rl at hp hfr hmr ⊢
    obtain ⟨es2,t3,gv⟩:=Rl
    dsimp only at hp hfr hmr ⊢
    have hz2:es2.size = es1.size:=by rw [← Array.length_toList,hp.length_eq,Array.length_toList]
    have hb2:es2.size < scanBound:=by rw [hz2]; exact hb1
    refine wpAny_bind (gw _ _ _ (wpAny_bind (wpAny_storeSet_of g1 rfl ?_ (fits_of_scanBound hb2))))
    obtain ⟨_,S2⟩:=zbO.store (es':=es2) (t':=t3) (ds:=ds ++ [z]) g1 hex rfl (hel1.perm hp) (fun e he=>htx1 e (hp.mem_iff.mp he)) ((hp.map _).trans hpm1) hb2 hfr ⟨hmr.1.trans hm2.1,.inr (hmr.2 (hm2.2.resolve_left (by omega)))⟩
    exact wpAny_pure (wpAny_pure (h true _ (sb1.trans (Heap.SameBut.update _ a _)) (by rw [ead]; exact S2)))
   ·exact wpAny_pure (wpAny_pure (h true _ sb1 (by rw [ead]; exact S1)))
  split
  ·refine wpAny_bind ?_
   rw [hashByValue_scannable 8 rfl]
   exact wpAny_pure (tail { t1 with plain:=false } (SetTable.fits_plain_off hfits) ⟨hmark.1.trans hmk.1,.inr rfl⟩)
  ·rename_i hpl
   exact wpAny_bind (wpAny_pure (tail t1 hfits ⟨hmark.1.trans hmk.1,.inr (by simpa using hpl)⟩))
def allS (ys:List Str):List Str:=ys.foldl addS []
theorem ziS (ys:List Str) (z:Str):allS (ys ++ [z]) = addS (allS ys) z:=by unfold allS; rw [List.foldl_append]; rfl
theorem zkp {ds:List Str}{z y:Str}:y∈addS ds z ↔ y∈ds\/y = z:=by
 unfold addS
 split
 ·exact ⟨.inl,fun h=>h.elim id fun e=>by rw [e]; assumption⟩
 ·rw [List.mem_append,List.mem_singleton]
theorem zkq {ds:List Str}{z:Str}:(addS ds z).length<=ds.length + 1:=by
 unfold addS
 split
 ·omega
 ·rw [List.length_append]; exact Nat.le_refl _
theorem ze9 {y:Str}:∀ (ys ds:List Str),y∈ys.foldl addS ds ↔ y∈ds\/y∈ys
 | [],ds=>by simp
 | z :: ys,ds=>by rw [List.foldl_cons,ze9 ys,zkp,List.mem_cons]; exact or_assoc
theorem zfa:∀ (ys ds:List Str),(ys.foldl addS ds).length<=ds.length + ys.length
 | [],ds=>by simp
 | z :: ys,ds=>by
  have h1:=zfa ys (addS ds z)
  have h2:=zkq (ds:=ds) (z:=z)
  rw [List.foldl_cons,List.length_cons]
  omega
theorem zkr {ys:List Str}{y:Str}:y∈allS ys ↔ y∈ys:=by unfold allS; rw [ze9]; simp
theorem zgM (ys:List Str):(allS ys).length<=ys.length:=by have:=zfa ys []; simpa [allS] using this
theorem zfY {R:Result->Shared->Prop}{I:Addr}{fp wr:List Addr}{G:Array GenState->Array GenState->Prop}{Pi:Nat->Value->Prop}{St:Nat->Shared->Prop} (ys:List Str)
  (Wk:WalksS P w A.in1 I fp wr G ys.length Pi St) (S:Addr) (hSf:S ∉ fp) (hk:∀ i v,Pi i v->∃ z tk,ys[i]? = some z/\v = .str z tk) (hb:ys.length + 1 < scanBound):
  ∀ (m i:Nat) (s:Shared),m + i = ys.length->St i s->zbO P w S (allS (ys.take i)) s.heap->
   (∀ s',Moved (S :: wr) G s s'->zbO P w S (allS ys) s'.heap->R (.ok (.ret .none)) s')->codeAny (model P w) A (.builtin "set.update.loop" ⟨[.ref S,.ref I],[]⟩) R s:=by
 have out:S ∉ wr:=fun z=>hSf (Wk.sub _ z)
 have wid:∀ b∈wr,b∈S :: wr:=fun b z=>.tail _ z
 have held:∀ (s s':Shared) (ds:List Str),zbO P w S ds s.heap->(∀ o,s.heap.get? S = some o->s'.heap.get? S = some o)->zbO P w S ds s'.heap:=fun s s' ds ⟨o,es,ep,t,ho,rest⟩ k=>⟨o,es,ep,t,k o ho,rest⟩
 intro m
 induction m with
 | zero=>
  intro i s hi st hs fin
  obtain rfl:i = ys.length:=by omega
  rw [List.take_length] at hs
  refine codeAny_builtin PyProof.Rows.F.entry_set_update_loop ?_
  rw [Around.under_plainId PyProof.Rows.F.plain_set_update_loop _]
  refine (show wpAny _ A.in1 (pyNext (.ref I) >>= _) _ _ s from wpAny_bind (Wk.done s _ _ st fun s' mv=>?_))
  exact (show wpAny _ A.in1 (ret Value.none) _ _ s' from wpAny_pure (fin s' (mv.mono wid) (held s s' _ hs fun o e=>mv.heap S o out e)))
 | succ m ih=>
  intro i s hi st hs fin
  have lt:i < ys.length:=by omega
  refine codeAny_builtin PyProof.Rows.F.entry_set_update_loop ?_
  rw [Around.under_plainId PyProof.Rows.F.plain_set_update_loop _]
  refine (show wpAny _ A.in1 (pyNext (.ref I) >>= _) _ _ s from wpAny_bind (Wk.item i s _ _ lt st fun v s' hv st' mv=>?_))
  obtain ⟨z,tk,hz,rfl⟩:=hk i v hv
  have hs':=held s s' _ hs fun o e=>mv.heap S o out e
  refine (show wpAny _ A.in1 (holding [.str z tk] (setAdd S (.str z tk)) >>= _) _ _ s' from wpAny_bind (wpAny_holding ?_))
  unfold setAdd
  refine wpAny_holding (wpAny_bind ((Zd P w).pyHash (k:=.inr z) (ZG P w z tk) ?_))
  have hl:=zgM (ys.take i)
  rw [List.length_take] at hl
  refine zhG (s:={ s' with toks:=s'.toks + 1 }) hs' (by omega) fun b h' sb S2=>?_
  rw [← ziS,show ys.take i ++ [z] = ys.take (i + 1) by rw [List.take_succ,hz]; rfl] at S2
  refine wpAny_pure ⟨plainId_quiet PyProof.Rows.F.plain_set_update_loop _,ih (i + 1) _ (by omega) (Wk.frame _ s' _ _ st' (Nat.le_succ _) fun b hb' o e=>?_) S2 fun s'' mv'' z'=>?_⟩
  ·rw [sb.2 b (fun z:b = S=>hSf (by rw [← z]; exact hb'))]; exact e
  ·refine fin s'' (Moved.trans Wk.gtrans ((mv.mono wid).then_heap (Nat.le_succ _) fun b o hb' e=>?_) mv'') z'
   rw [sb.2 b (fun y:b = S=>hb' (by rw [y]; exact List.mem_cons_self))]; exact e
end
section
variable {P:Program}{w:World}{A:Around}{E:Value->Shared->Prop}
abbrev setO (led:Bool):Obj:={ cls:=.type "set",dict:=none,data:=.set #[] 0 (.fresh 0 0 led) }
theorem zhH {s:Shared} (a:Value) {Q₁:Value->Shared->Prop} (h:Q₁ (.ref s.heap.objs.size) { s with heap:=s.heap.push (setO (!byTx w)) }):
  codeAny (model P w) A (.call (.builtin "set.__new__") ⟨[.type "set",a],[]⟩) (wants Q₁ E) s:=by
 refine codeAny_of_tree (show wpAny _ A.in1 (checkBuiltinCall "set.__new__" ⟨[.type "set",a],[]⟩ >>= fun _=>again (.builtin "set.__new__" ⟨[.type "set",a],[]⟩)) _ _ s from ?_)
 refine wpAny_bind (wpAny_of_eq (PySem.F.newCall_set_1 a) (wpAny_pure ⟨plainId_quiet PySem.F.plain_set_new _,codeAny_builtin PySem.F.entry_set_new ?_⟩))
 rw [Around.under_plainId PySem.F.plain_set_new _]
 unfold Builtin.«set.__new__» Builtin.Frozenset.newClass
 have hsub:=PySem.sub_set_self
 obtain ⟨hp,g,d,tk,os⟩:=s
 dsimp only
 wp_walk
 refine wpAny_askSetting (wpAny_pure ?_)
 simp only [newObj]
 exact wpAny_bind (wpAny_alloc (wpAny_pure (wpAny_pure h)))
set_option maxHeartbeats 8000000 in
theorem ziT {s:Shared}{l:Addr}{items:Array Value}{ys:List Str}{Q:Value->Shared->Prop} (hh:A.handled = none) (hl:s.heap.IsList l items) (hz:items.size = ys.length)
  (hk:∀ (i:Nat) (v:Value),items[i]? = some v->∃ z tk,ys[i]? = some z/\v = .str z tk) (hb:ys.length + 1 < scanBound)
  (h:∀ (h':Heap) (tk:Nat),zbO P w s.heap.objs.size (allS ys) h'->(∀ b o,b < s.heap.objs.size->s.heap.get? b = some o->h'.get? b = some o)->Q (.ref s.heap.objs.size) { s with heap:=h',toks:=tk }):
  wpAny (model P w) A (call (.type "set") [.ref l]) Q E s:=by
 obtain ⟨_,_,hmro⟩:=PySem.F.called_set.mro
 have hmade:=PySem.F.called_set.made
 have hsub:=PySem.F.called_set.sub
 refine wpAny_call (codeAny_of_tree (show wpAny _ _ (callAny (.type "set") _) _ _ _ from wpAny_pure ⟨Code.quiet_builtin _ (by decide +kernel),codeAny_builtin PySem.F.entry_type_call ?_⟩))
 rw [Around.under_plain (weight_type_call_type "set" [.ref l] []) rfl]
 have h1:=PySem.F.called_set.notType
 have h2:=PySem.F.called_set.canCreate
 have hct:=PySem.F.typeCall_set_1 (.ref l)
 repeat any_goals (first | assumption | wp_step)
 refine codeAny_mono (zhH (.ref l) (E:=E) (Q₁:=fun obj s₁=>obj = .ref s.heap.objs.size/\s₁ = { s with heap:=s.heap.push (setO (!byTx w)) }) ⟨rfl,rfl⟩) fun r s₁ hr=>?_
 cases r with
 | error e=>exact hr
 | ok fl=>
  cases fl with
  | ret obj=>
   obtain ⟨rfl,rfl⟩:=hr
   have gS:(s.heap.push (setO (!byTx w))).get? s.heap.objs.size = some (setO (!byTx w)):=Heap.get?_push_size _ rfl
   have tS:Shared.TypeIs { s with heap:=s.heap.push (setO (!byTx w)) } (.ref s.heap.objs.size) "set":=⟨_,gS,rfl⟩
   have hli:=PySem.F.called_set.init.lookup
   have hbi:=PySem.F.called_set.init.bind (.ref s.heap.objs.size)
   repeat any_goals (first | assumption | wp_step)
   refine codeAny_mono (codeAny_call_builtin (R:=wants (fun r s₂=>r = .none/\∃ h' tk,s₂ = { s with heap:=h',toks:=tk }/\zbO P w s.heap.objs.size (allS ys) h'/\∀ b o,b < s.heap.objs.size->s.heap.get? b = some o->h'.get? b = some o) E)
    PySem.F.called_set.init.plain PySem.F.entry_set_init (check_set_init_1 tS ?_)) fun r₂ s₂ hr₂=>?_
   ·obtain ⟨ol,hol,hcl,nl,hdl⟩:=hl
    obtain ⟨ocls,odict,odata,oslots⟩:=ol
    simp only at hcl hdl
    subst hcl hdl
    have hol':(s.heap.push (setO (!byTx w))).get? l = some { cls:=.type "list",dict:=odict,data:=.seq items nl,slots:=oslots }:=Heap.get?_push_of_some _ hol
    have hsls:=PySem.F.sub_list_set
    have hslf:=PySem.F.sub_list_frozenset
    have hne:(Value.type "list" == Value.type "dict") = false:=by decide
    have hl1:(s.heap.push (setO (!byTx w))).IsList l items:=⟨_,hol',rfl,nl,rfl⟩
    unfold Builtin.«set.__init__» noKeywords Builtin.Frozenset.updateFrom
    generalize hPI:pyIter = PI
    wp_walk
    subst hPI
    refine wpAny_pyIter_list hl1 (wpAny_bind (wpAny_runValue ?_))
    have hlS:l < s.heap.objs.size:=Heap.lt_size hol
    have hh3:A.in1.in1.in1.handled = none:=by simp [hh]
    have sz:(s.heap.push (setO (!byTx w))).objs.size = s.heap.objs.size + 1:=Heap.size_push ..
    have n1:l≠(s.heap.push (setO (!byTx w))).objs.size:=by rw [sz]; exact Nat.ne_of_lt (Nat.lt_succ_of_lt hlS)
    have n2:s.heap.objs.size ∉ [(s.heap.push (setO (!byTx w))).objs.size,l]:=by
     intro z
     rcases List.mem_cons.mp z with z | z
     ·rw [sz] at z
      exact absurd z (Nat.ne_of_lt (Nat.lt_succ_self _))
     ·exact absurd (List.mem_singleton.mp z) (Nat.ne_of_gt hlS)
    have Wl:=(Walks.list (prog:=P) (w:=w) hh3 _ l n1 items).toS
    rw [hz] at Wl
    refine zfY ys Wl s.heap.objs.size n2 (fun i v hv=>hk i v hv) hb ys.length 0 _ (by omega)
     ⟨⟨_,Heap.get?_push_size _ rfl,rfl,rfl⟩,(hl1.push _)⟩ ?c0 ?cR
    case c0=>
     have hget:=Heap.get?_push_of_some { cls:=.type "list_iterator",data:=.fields #[.ref l,.int 0 0] } gS
     exact ⟨_,#[],0,_,hget,⟨rfl,rfl,rfl⟩,rfl,(fun e he=>by simp at he),(fun e he=>by simp at he),(by simp [allS]),by decide,by rfl,rfl,.inl rfl⟩
    case cR=>
     intro s' hm hS'
     obtain ⟨h',g',d',tk',os'⟩:=s'
     have eg:g' = s.gens:=hm.gens
     have ed:d' = s.drawn:=hm.drawn
     have eo:os' = s.os:=hm.os
     subst eg ed eo
     refine wpAny_pure (show wpAny _ _ (ret Value.none) _ _ _ from wpAny_pure ⟨rfl,h',tk',rfl,hS',fun b o hb e=>?_⟩)
     refine hm.heap b o ?_ (Heap.get?_push_of_some _ (Heap.get?_push_of_some _ e))
     intro z
     rcases List.mem_cons.mp z with z | z
     ·exact absurd z (Nat.ne_of_lt hb)
     ·have z:=List.mem_singleton.mp z
      rw [sz] at z
      exact absurd z (Nat.ne_of_lt (Nat.lt_succ_of_lt hb))
   ·cases r₂ with
    | error e=>exact hr₂
    | ok fl₂=>
     cases fl₂ with
     | ret r=>
      obtain ⟨rfl,h',tk,rfl,hS',hk'⟩:=hr₂
      repeat any_goals (first | assumption | wp_step)
      exact h _ _ hS' hk'
     | _=>exact hr₂.elim
  | _=>exact hr.elim
end
def SetH (P:Program) (w:World) (a:Addr) (ds:List Str):HO:=.ext (zbO P w a ds)
theorem zfZ {X:Cx} (hc:X.calm = true):zaL X (.type "set") (fun xs H Q=>∃ (p:Addr) (ys:List Str),xs = [.ref p]/\SqL X.K H p (ys.map V.str)/\ys.length<=1000/\∀ l,H l = none->Q (.ref l) (upd H l (SetH X.prog X.w l (allS ys)))):=by
 intro zp s σ H xs us Q I r h
 obtain ⟨p,ys,rfl,hq,hz,q⟩:=h
 obtain ⟨u,rfl,rx⟩:=zbN r
 cases rx
 obtain ⟨its,rv,pl,_⟩:=I.list hq
 have l1:=rv.length
 rw [List.length_map] at l1
 have lz:its.toArray.size = ys.length:=by rw [List.size_toArray,l1]
 refine ziT (I.ok.hd hc) pl.isList lz (fun i v hv=>?_) (by unfold scanBound; omega) (fun h' tk hS kp=>?_)
 ·have hv':its[i]? = some v:=by simpa using hv
  have hi:i < ys.length:=by rw [l1]; exact (List.getElem?_eq_some_iff.mp hv').1
  obtain ⟨u1,hu1,t1,rfl⟩:=rv.get (i:=i) (x:=V.str ys[i]) (by rw [List.getElem?_map,List.getElem?_eq_getElem hi]; rfl)
  rw [hu1] at hv'
  cases hv'
  exact ⟨_,_,List.getElem?_eq_getElem hi,rfl⟩
 ·have kp':∀ b o,s.heap.get? b = some o->h'.get? b = some o:=fun b o e=>kp b o (Heap.lt_size e) e
  refine ⟨.ref s.heap.objs.size,_,I.laid (t':=tk) kp' (Nat.le_refl _) (show ZO X.prog X.w _ h' _ (SetH X.prog X.w s.heap.objs.size (allS ys)) from ⟨hS,?_,fun h1 h2 ⟨o,es,ep,t,ho,rest⟩ hk=>⟨o,es,ep,t,hk o ho,rest⟩⟩),rfl,q _ (I.hok.fresh (Nat.le_refl _))⟩
  obtain ⟨o,es,ep,t,ho,rest⟩:=hS
  exact ⟨o,ho⟩
theorem ZV:Slot "set_iterator" "__next__" "set_iterator.__next__":=
 .of (owner:="set_iterator") (n:="__next__") (by rw [typeLookup_type,builtinLookup_eq_fast]; kernel_rfl)
  (by decide +kernel) (by decide +kernel) (by decide +kernel) (.inl (by decide +kernel)) (by rw [isSubtype_type]; kernel_rfl)
theorem zcd:Slot "set_iterator" "__iter__" "set_iterator.__iter__":=
 .of (owner:="set_iterator") (n:="__iter__") (by rw [typeLookup_type,builtinLookup_eq_fast]; kernel_rfl)
  (by decide +kernel) (by decide +kernel) (by decide +kernel) (.inl (by decide +kernel)) (by rw [isSubtype_type]; kernel_rfl)
theorem zdA:entryFor table "set_iterator.__next__" = some Builtin.«set_iterator.__next__»:=entryFor_of_tree (by kernel_rfl)
theorem zdB:entryFor table "set_iterator.__iter__" = some Builtin.«dict_keyiterator.__iter__»:=
 entryFor_alias (id':="dict_keyiterator.__iter__") (by kernel_rfl) (by decide +kernel) (by decide +kernel) (by kernel_rfl)
theorem zdC:entryFor table "set.__iter__" = some Builtin.«frozenset.__iter__»:=
 entryFor_alias (id':="frozenset.__iter__") (by kernel_rfl) (by decide +kernel) (by decide +kernel) (by kernel_rfl)
theorem zfb:Manifest.owners.lookup (String.ofList "rotareti_tes".toList.reverse) = some Manifest.sig_set_iterator:=by kernel_rfl
theorem zd8 (a:Value):argsOk "set_iterator.__next__" ⟨[a],[]⟩:=by
 unfold argsOk
 rw [signature?_of (id:="set_iterator.__next__") (n:="__txen__".toList) (o:="rotareti_tes".toList) (by kernel_rfl) zfb]
 kernel_rfl
theorem zd9 (a:Value):argsOk "set_iterator.__iter__" ⟨[a],[]⟩:=by
 unfold argsOk
 rw [signature?_of (id:="set_iterator.__iter__") (n:="__reti__".toList) (o:="rotareti_tes".toList) (by kernel_rfl) zfb]
 kernel_rfl
theorem zdN {α:Type}{l:List α}{i:Nat} (h:i < l.length):(l[i] :: l.eraseIdx i).Perm l:=by
 rw [List.eraseIdx_eq_take_drop_succ]
 refine List.perm_middle.symm.trans ?_
 rw [List.getElem_cons_drop h,List.take_append_drop]
theorem ziU {α:Type} (nx:Nat->Nat):∀ (fuel k:Nat) (left:List α) (out:Array α),fuel = left.length->(pickOrder.go nx fuel k left out).toList.Perm (out.toList ++ left)
 | 0,k,left,out,h=>by
  have:left = []:=List.length_eq_zero_iff.mp h.symm
  subst this
  unfold pickOrder.go
  simp
 | fuel + 1,k,left,out,h=>by
  have hpos:0 < left.length:=by omega
  have hi:nx k % left.length < left.length:=Nat.mod_lt _ hpos
  unfold pickOrder.go
  rw [List.getElem?_eq_getElem hi]
  refine (ziU nx fuel (k + 1) _ _ (by rw [List.length_eraseIdx,if_pos hi]; omega)).trans ?_
  rw [Array.toList_push,List.append_assoc]
  exact List.Perm.append_left _ (zdN hi)
theorem ziV {α:Type} (nx:Nat->Nat) (xs:Array α):(pickOrder nx xs).toList.Perm xs.toList:=by
 have:=ziU nx xs.size 0 xs.toList #[] (by rw [Array.length_toList])
 simpa [pickOrder] using this
section
variable {P:Program}{w:World}{A:Around}{E:Value->Shared->Prop}
theorem zks {α:Type} (n:Nat):∀ (xs:List α) (s:Shared) (Q:List α->Shared->Prop),xs.length = n->(∀ (ys:List α) d',ys.Perm xs->Q ys { s with drawn:=d' })->wpAny (model P w) A (drawOrder n xs) Q E s:=by
 induction n with
 | zero=>
  intro xs s Q h q
  have:xs = []:=List.length_eq_zero_iff.mp h
  subst this
  unfold drawOrder
  exact wpAny_pure (q [] s.drawn .nil)
 | succ n ih=>
  intro xs s Q h q
  cases xs with
  | nil=>cases h
  | cons x xs=>
  unfold drawOrder
  refine wpAny_bind (fun Γ p hΓ=>?_)
  show Sem.wp _ _ (Sem.choose .order (x :: xs).length Sem.pure) _ _ _ _
  rw [Sem.wp_choose]
  refine ⟨by simp,?_⟩
  rw [Sem.wp_pure]
  have hi:(model P w).w.draws .order (s.drawn.get .order) % (x :: xs).length < (x :: xs).length:=Nat.mod_lt _ (by simp)
  generalize (model P w).w.draws .order (s.drawn.get .order) % (x :: xs).length = i at hi ⊢
  show wpAny (model P w) A (match (x :: xs)[i]? with | some y=>drawOrder n ((x :: xs).eraseIdx i) >>= fun l=>pure (y :: l) | none=>unsupported "internal:drawOrder") Q E _
  rw [List.getElem?_eq_getElem hi]
  refine wpAny_bind (ih _ _ _ (by rw [List.length_eraseIdx,if_pos hi]; omega) fun ys d' hp=>wpAny_pure (q _ d' ?_))
  exact (List.Perm.cons _ hp).trans (zdN hi)
end
def ItAt (w:World) (I a pl:Addr) (es:Array (Int × Value)) (ep:Nat) (t:SetTable) (ord:List Value) (i:Nat) (h:Heap):Prop:=
 (∃ o,h.get? a = some o/\o.data = .set es ep t)/\∃ (oI:Obj) (first:Value),h.get? I = some oI/\oI.cls = .type "set_iterator"/\oI.data = .fields #[first,rawInt i,.ref a,rawInt es.size,rawInt ep] /\
  ((byTx w = true/\first = rawInt 0/\ord = (pickOrder (w.params.setOrder a ep) es).toList.map (·.2)) \/
   (byTx w = false/\∃ (ps:List Nat) (op:Obj) (c:Nat),first = .ref pl/\h.get? pl = some op/\op.data = .seq (ps.map fun (p:Nat)=>rawInt p).toArray c/\ord.length = ps.length/\∀ (j p:Nat),ps[j]? = some p->∃ e,es[p]? = some e/\ord[j]? = some e.2) \/
   (byTx w = false/\es.size<=1/\t.led = true/\ord = es.toList.map (·.2)/\∃ sl:Nat,first = rawInt sl/\(i = 0->sl = 0)/\(0 < i->∀ j,t.place[0]? = some j->sl = j + 1)))
section
variable {P:Program}{w:World}{A:Around}{E:Value->Shared->Prop}
theorem zlN {s:Shared}{Q:PySem.Fin->Shared->Prop}{E':Value->Shared->Prop} (hh:A.handled = none)
  (h:∀ (x:Addr) (h':Heap),(∀ b o,s.heap.get? b = some o->h'.get? b = some o)->(∃ o,h'.get? x = some o/\o.cls = .type "StopIteration")->E' (.ref x) { s with heap:=h' }):
  wpAny (model P w) A (newExc (.type "StopIteration") [] >>= fun e=>raiseNew e) Q E' s:=by
 refine wpAny_bind ?_
 simp only [newExc,newTuple]
 refine wpAny_bind (wpAny_newObj_type ?_ (by size_fits))
 refine wpAny_bind (m:=firstArgMember _ _) (wpAny_of_eq (a:=Value.none) (by first | rfl | (simp only [firstArgMember]; rfl)) ?_)
 refine wpAny_newObj_type ?_ (by size_fits)
 simp only [raiseNew]
 refine wpAny_bind (wpAny_handled ?_)
 rw [hh]
 refine wpAny_bind (wpAny_pure (wpAny_throw (h _ _ (fun b o e=>Heap.get?_push_of_some _ (Heap.get?_push_of_some _ e)) ⟨_,Heap.get?_push_size _ rfl,rfl⟩)))
theorem zce {s:Shared}{Q:Bool->Shared->Prop} (h:Q (byTx w) s):wpAny (model P w) A setsByText Q E s:=by
 unfold setsByText
 exact wpAny_bind (wpAny_askSetting (wpAny_pure h))
theorem zkt {s:Shared}{a:Addr}{oa:Obj}{es:Array (Int × Value)}{ep sl g:Nat}{t:SetTable}{Q:Option (Value × Nat)->Shared->Prop} (hb:byTx w = true) (hoa:s.heap.get? a = some oa) (hda:oa.data = .set es ep t) (hf:t.fits es.size = true)
  (h:Q (((pickOrder (w.params.setOrder a ep) es)[g]?).map fun e=>(e.2,sl)) s):wpAny (model P w) A (setNext a sl g ep) Q E s:=by
 unfold setNext
 refine wpAny_bind (wpAny_setState_of hoa hda hf (wpAny_bind (zce ?_)))
 rw [hb]
 simp only [↓reduceIte,bne_self_eq_false,Bool.false_eq_true]
 unfold setWalk
 refine wpAny_bind (wpAny_bind (wpAny_setState_of hoa hda hf (wpAny_bind (zce ?_))))
 rw [hb]
 simp only [↓reduceIte]
 exact wpAny_bind (wpAny_askSetting (wpAny_pure (wpAny_pure h)))
theorem zku {s:Shared}{a:Addr}{oa:Obj}{es:Array (Int × Value)}{ep sl g:Nat}{t:SetTable}{Q:Option (Value × Nat)->Shared->Prop} (hb:byTx w = false) (hled:t.led = true) (h1:es.size<=1) (hoa:s.heap.get? a = some oa) (hda:oa.data = .set es ep t) (hf:t.fits es.size = true)
  (h:Q (match es[SetTable.below t.place sl]?,t.place[SetTable.below t.place sl]? with | some (_,x),some j=>some (x,j + 1) | _,_=>none) s):wpAny (model P w) A (setNext a sl g ep) Q E s:=by
 unfold setNext
 refine wpAny_bind (wpAny_setState_of hoa hda hf (wpAny_bind (zce ?_)))
 rw [hb]
 simp only [↓reduceIte,Bool.false_eq_true]
 split
 ·rename_i hd
  have hd':(!t.plain && decide (es.size > 1)) = true:=hd
  rw [Bool.and_eq_true,decide_eq_true_eq] at hd'
  omega
 ·refine wpAny_bind (show wpAny _ _ (if (!t.led && !es.isEmpty) = true then unsupported "set:maker-not-led" else pure ()) _ _ s from ?_)
  rw [hled,Bool.not_true,Bool.false_and,if_neg Bool.false_ne_true]
  exact wpAny_pure (wpAny_pure h)
theorem ziW {s:Shared}{a:Addr}{oa:Obj}{es:Array (Int × Value)}{ep p:Nat}{t:SetTable}{e:Int × Value}{Q:Value->Shared->Prop} (hoa:s.heap.get? a = some oa) (hda:oa.data = .set es ep t) (hf:t.fits es.size = true) (he:es[p]? = some e) (h:Q e.2 s):
  wpAny (model P w) A (setNextDrawn a p ep) Q E s:=by
 unfold setNextDrawn
 refine wpAny_bind (wpAny_setState_of hoa hda hf ?_)
 simp only [bne_self_eq_false,Bool.false_eq_true,↓reduceIte]
 rw [he]
 exact wpAny_pure h
theorem zm5 {xs:Array Nat} (h:xs.size = 1):∃ j,xs = #[j]:=by
 obtain ⟨l⟩:=xs
 match l,h with
 | [j],_=>exact ⟨j,rfl⟩
theorem ziX {t:SetTable}{j:Nat} (h:t.place = #[j]):SetTable.below t.place 0 = 0/\SetTable.below t.place (j + 1) = 1:=by
 rw [h]
 unfold SetTable.below
 constructor
 ·simp [SetTable.below.go]
 ·simp [SetTable.below.go]
theorem ziY {t:SetTable}{j:Nat} (h:t.place = #[]):SetTable.below t.place j = 0:=by
 rw [h]
 rfl
theorem fld {h:Heap}{I:Addr}{o:Obj}{vs:Array Value} (ho:h.get? I = some o) (hd:o.data = .fields vs) (k:Nat) (x:Value):
  (∃ o',(h.update I (Obj.mapFields (·.setIfInBounds k x))).get? I = some o'/\o'.cls = o.cls/\o'.data = .fields (vs.setIfInBounds k x))/\∀ b q,b≠I->h.get? b = some q->(h.update I (Obj.mapFields (·.setIfInBounds k x))).get? b = some q:=
 ⟨⟨_,Heap.get?_update_self _ ho (Obj.isFreed_of_fields (Obj.data_mapFields hd _)),Obj.cls_mapFields ..,Obj.data_mapFields hd _⟩,fun b q hb e=>(Heap.get?_update_other _ _ (Ne.symm hb)).trans e⟩
theorem zgN {s:Shared}{I a pl:Addr}{es:Array (Int × Value)}{ep:Nat}{t:SetTable}{ord:List Value}{i:Nat}{Q:Option Value->Shared->Prop} (hh:A.handled = none) (hf:t.fits es.size = true) (hz:ord.length = es.size) (hne:a≠I) (hnp:pl≠I)
  (h:ItAt w I a pl es ep t ord i s.heap)
  (item:∀ (v:Value) (h':Heap),ord[i]? = some v->ItAt w I a pl es ep t ord (i + 1) h'->(∀ b o,b≠I->s.heap.get? b = some o->h'.get? b = some o)->Q (some v) { s with heap:=h' })
  (done:ord[i]? = none->∀ h':Heap,(∀ b o,b≠I->s.heap.get? b = some o->h'.get? b = some o)->Q none { s with heap:=h' }):
  wpAny (model P w) A (pyNext (.ref I)) Q E s:=by
 obtain ⟨⟨oa,hoa,hda⟩,oI,first,hI,hc,hd,mode⟩:=h
 have hT:s.TypeIs (.ref I) "set_iterator":=⟨oI,hI,hc⟩
 unfold pyNext
 refine wpAny_bind (wpAny_attempt (wpAny_callSpecial?_slot (name:=Str.ofString "__next__") hT ZV (wpAny_call_entry ZV hT zdA ?_ (zd8 _))))
 unfold Builtin.«set_iterator.__next__»
 refine wpAny_bind (wpAny_pure (wpAny_bind (wpAny_fieldsOf hI hd ?_)))
 have stop:∀ (h2:Heap),ord[i]? = none->(∀ b o,b≠I->s.heap.get? b = some o->h2.get? b = some o)->wpAny (model P w) A.in1 (newExc (.type "StopIteration") [] >>= fun e=>(raiseNew e:Sem PySem.Fin)) (fun fin s'=>∃ v,fin = .done (.ret v)/\wpAny (model P w) A (match (Except.ok (some v):Except Value (Option Value)) with | Except.ok (some v)=>pure (some v) | Except.ok none=>unsupported "iter:the-iterator's-class-has-lost-its-__next__-amid-the-walk" | Except.error e=>do
   let b ← isInstance e (Value.type "StopIteration")
   if b = true then pure none else throw e) Q E s') (fun e s'=>wpAny (model P w) A (match (Except.error e:Except Value (Option Value)) with | Except.ok (some v)=>pure (some v) | Except.ok none=>unsupported "iter:the-iterator's-class-has-lost-its-__next__-amid-the-walk" | Except.error e=>do
   let b ← isInstance e (Value.type "StopIteration")
   if b = true then pure none else throw e) Q E s') { s with heap:=h2 }:=fun h2 hn hk=>by
  refine zlN (A:=A.in1) (by simpa using hh) fun x h' hk' hx=>?_
  obtain ⟨ox,hox,hcx⟩:=hx
  refine wpAny_bind (wpAny_isInstance (T:="StopIteration") (b:=true) ⟨ox,hox,hcx⟩ isSubtype_stop ?_)
  exact wpAny_pure (done hn h' fun b o hb e=>hk' b o (hk b o hb e))
 refine wpAny_bind (wpAny_setEntries_of hoa hda hf ?_)
 rw [if_neg (by simp)]
 have hlt:∀ {v},ord[i]? = some v->i < es.size:=fun {v} e=>by rw [← hz]; exact (List.getElem?_eq_some_iff.mp e).1
 rcases mode with ⟨hb,rfl,hord⟩ | ⟨hb,ps,op,c,rfl,hop,hdp,hlen,hps⟩ | ⟨hb,h1,hled,hord,sl,rfl,hs0,hs1⟩
 ·refine wpAny_bind (zkt hb hoa hda hf ?_)
  have hoi:ord[i]? = ((pickOrder (w.params.setOrder a ep) es)[i]?).map (·.2):=by rw [hord,List.getElem?_map,Array.getElem?_toList]
  show wpAny _ _ (match (((pickOrder (w.params.setOrder a ep) es)[i]?).map fun e=>(e.2,(0:Nat))) with | some (x,next)=>_ | none=>_) _ _ s
  cases hp:(pickOrder (w.params.setOrder a ep) es)[i]? with
  | none=>
   rw [hp] at hoi
   obtain ⟨⟨o1,g1,c1,d1⟩,k1⟩:=fld hI hd 2 .none
   exact wpAny_bind (wpAny_setField hI hd (by simp) (stop _ hoi k1))
  | some e=>
   rw [hp] at hoi
   obtain ⟨⟨o1,g1,c1,d1⟩,k1⟩:=fld hI hd 0 (rawInt (0:Nat))
   obtain ⟨⟨o2,g2,c2,d2⟩,k2⟩:=fld g1 d1 1 (rawInt ((i:Int) + 1))
   refine wpAny_bind (wpAny_setField hI hd (by simp) (wpAny_bind (wpAny_setField g1 d1 (by simp) ?_)))
   have kk:∀ b q,b≠I->s.heap.get? b = some q->_:=fun b q hb e'=>k2 b q hb (k1 b q hb e')
   exact wpAny_pure ⟨_,rfl,wpAny_pure (item _ _ hoi ⟨⟨oa,kk a _ hne hoa,hda⟩,o2,rawInt 0,g2,c2.trans (c1.trans hc),by rw [d2]; simp [rawInt],.inl ⟨hb,rfl,hord⟩⟩ kk)⟩
 ·refine wpAny_bind (wpAny_seqItems hop hdp ?_)
  show wpAny _ _ (match ((ps.map fun (p:Nat)=>rawInt p).toArray)[i]? with | some (Value.int place tok)=>_ | some _=>_ | none=>_) _ _ s
  rw [List.getElem?_toArray,List.getElem?_map]
  cases hp:ps[i]? with
  | none=>
   have hoi:ord[i]? = none:=List.getElem?_eq_none (by rw [hlen]; exact List.getElem?_eq_none_iff.mp hp)
   obtain ⟨⟨o1,g1,c1,d1⟩,k1⟩:=fld hI hd 0 (rawInt 0)
   obtain ⟨⟨o2,g2,c2,d2⟩,k2⟩:=fld g1 d1 2 .none
   exact wpAny_bind (wpAny_setField hI hd (by simp) (wpAny_bind (wpAny_setField g1 d1 (by simp) (stop _ hoi fun b q hb e'=>k2 b q hb (k1 b q hb e')))))
  | some p=>
   obtain ⟨e,he,hoi⟩:=hps i p hp
   obtain ⟨⟨o1,g1,c1,d1⟩,k1⟩:=fld hI hd 1 (rawInt ((i:Int) + 1))
   refine wpAny_bind (show wpAny _ _ (setNextDrawn a p ep) _ _ s from ziW hoa hda hf he (wpAny_bind (wpAny_setField hI hd (by simp) ?_)))
   exact wpAny_pure ⟨_,rfl,wpAny_pure (item _ _ hoi ⟨⟨oa,k1 a _ hne hoa,hda⟩,o1,_,g1,c1.trans hc,by rw [d1]; simp [rawInt],.inr (.inl ⟨hb,ps,op,c,rfl,k1 pl _ hnp hop,hdp,hlen,hps⟩)⟩ k1)⟩
 ·refine wpAny_bind (zku hb hled h1 hoa hda hf ?_)
  have hpz:t.place.size = es.size:=by
   have:=hf
   unfold SetTable.fits at this
   rw [Bool.and_eq_true,beq_iff_eq] at this
   exact this.1
  show wpAny _ _ (match (match es[SetTable.below t.place sl]?,t.place[SetTable.below t.place sl]? with | some (_,x),some j=>some (x,j + 1) | _,_=>none) with | some (x,next)=>_ | none=>_) _ _ s
  have fin:ord[i]? = none->wpAny (model P w) A.in1 (setField (.ref I) 2 .none >>= fun _=>newExc (.type "StopIteration") [] >>= fun e=>(raiseNew e:Sem PySem.Fin)) _ _ s:=fun hoi=>by
   obtain ⟨⟨o1,g1,c1,d1⟩,k1⟩:=fld hI hd 2 .none
   exact wpAny_bind (wpAny_setField hI hd (by simp) (stop _ hoi k1))
  by_cases h0:es.size = 0
  ·have hp0:t.place = #[]:=Array.eq_empty_of_size_eq_zero (by omega)
   rw [ziY hp0,Array.getElem?_eq_none (by omega)]
   exact fin (List.getElem?_eq_none (by omega))
  ·have he1:es.size = 1:=by omega
   obtain ⟨j,hj⟩:∃ j,t.place = #[j]:=by
    have:t.place.size = 1:=by omega
    exact zm5 this
   obtain ⟨b0,b1⟩:=ziX hj
   by_cases hi0:i = 0
   ·subst hi0
    rw [hs0 rfl,b0,hj,Array.getElem?_eq_getElem (show 0 < es.size by omega)]
    obtain ⟨⟨o1,g1,c1,d1⟩,k1⟩:=fld hI hd 0 (rawInt ((j + 1:Nat):Int))
    obtain ⟨⟨o2,g2,c2,d2⟩,k2⟩:=fld g1 d1 1 (rawInt (((0:Nat):Int) + 1))
    have hoi:ord[0]? = some es[0].2:=by rw [hord,List.getElem?_map,Array.getElem?_toList,Array.getElem?_eq_getElem (show 0 < es.size by omega)]; rfl
    have kk:∀ b q,b≠I->s.heap.get? b = some q->_:=fun b q hb e'=>k2 b q hb (k1 b q hb e')
    refine wpAny_bind (wpAny_setField hI hd (by simp) (wpAny_bind (wpAny_setField g1 d1 (by simp) ?_)))
    exact wpAny_pure ⟨_,rfl,wpAny_pure (item _ _ hoi ⟨⟨oa,kk a _ hne hoa,hda⟩,o2,rawInt ((j + 1:Nat):Int),g2,c2.trans (c1.trans hc),by rw [d2]; simp [rawInt],.inr (.inr ⟨hb,h1,hled,hord,j + 1,rfl,(fun z=>by omega),fun _ j' hj'=>by rw [hj] at hj'; simpa using hj'⟩)⟩ kk)⟩
   ·rw [hs1 (by omega) j (by rw [hj]; rfl),b1,Array.getElem?_eq_none (by omega)]
    exact fin (List.getElem?_eq_none (by omega))
theorem zkv (hh:A.handled = none) (I a pl:Addr) {es:Array (Int × Value)}{ep:Nat}{t:SetTable}{ord:List Value} (hf:t.fits es.size = true) (hz:ord.length = es.size) (hne:a≠I) (hnp:pl≠I):
  Walks P w A I [I,a,pl] [I] ord.length (fun i v=>ord[i]? = some v) (fun i h=>ItAt w I a pl es ep t ord i h) where
 sub:=fun b hb=>by rw [List.mem_singleton.mp hb]; exact List.mem_cons_self
 frame:=fun i h h' st hk=>by
  obtain ⟨⟨oa,hoa,hda⟩,oI,first,hI,hc,hd,mode⟩:=st
  refine ⟨⟨oa,hk a (by simp) _ hoa,hda⟩,oI,first,hk I (by simp) _ hI,hc,hd,?_⟩
  rcases mode with m | ⟨hb,ps,op,c,e1,hop,rest⟩ | m
  ·exact .inl m
  ·exact .inr (.inl ⟨hb,ps,op,c,e1,hk pl (by simp) _ hop,rest⟩)
  ·exact .inr (.inr m)
 item:=fun i s Q E hi st hQ=>by
  refine zgN hh hf hz hne hnp st (fun v h' hv st' kp=>hQ v h' s.toks hv st' fun b o hb e=>kp b o (fun z=>hb (by simp [z])) e) (fun hn=>?_)
  rw [List.getElem?_eq_getElem hi] at hn
  cases hn
 done:=fun s Q E st hQ=>by
  refine zgN hh hf hz hne hnp st (fun v h' hv=>?_) (fun hn h' kp=>hQ h' s.toks fun b o hb e=>kp b o (fun z=>hb (by simp [z])) e)
  rw [List.getElem?_eq_none (Nat.le_refl _)] at hv
  cases hv
 self:=fun i s Q E st hQ=>by
  obtain ⟨_,oI,first,hI,hc,_⟩:=st
  have hT:s.TypeIs (.ref I) "set_iterator":=⟨oI,hI,hc⟩
  refine wpAny_pyIter_slot hT zcd (wpAny_call_entry zcd hT zdB ?_ (zd9 _))
  exact (show wpAny _ _ (ret (Value.ref I)) _ _ s from wpAny_pure ⟨_,rfl,"set_iterator",_,hT,ZV.lookup,hQ⟩)
theorem zkw {s:Shared}{a:Addr}{ds:List Str}{Q:Value->Shared->Prop} (hS:zbO P w a ds s.heap)
  (h:∀ (I pl:Addr) (h':Heap) (d':Drawn) (es:Array (Int × Value)) (ep:Nat) (t:SetTable) (ord:List Value),(∀ b o,s.heap.get? b = some o->h'.get? b = some o)->s.heap.objs.size<=I->pl≠I->(pl = a\/s.heap.objs.size<=pl)->t.fits es.size = true->ord.length = es.size->ord.Perm (es.toList.map (·.2))->(∀ v∈ord,∃ z tk,v = .str z tk)->(ord.map txOf).Perm ds->ItAt w I a pl es ep t ord 0 h'->Q (.ref I) { s with heap:=h',drawn:=d' }):
  wpAny (model P w) A (pyIter (.ref a)) Q E s:=by
 obtain ⟨o,es,ep,t,ho,hex,hd,hel,htx,hpm,hb,hf,hmk⟩:=hS
 have hT:s.TypeIs (.ref a) "set":=⟨o,ho,hex.1⟩
 have haI:a < s.heap.objs.size:=Heap.lt_size ho
 refine wpAny_pyIter_slot hT PySem.F.slot_set_iter (wpAny_call_entry PySem.F.slot_set_iter hT zdC ?_ (PySem.F.args_set_iter_1 _))
 unfold Builtin.«frozenset.__iter__»
 have hvals:∀ ord:List Value,ord.Perm (es.toList.map (·.2))->ord.length = es.size/\(∀ v∈ord,∃ z tk,v = .str z tk)/\(ord.map txOf).Perm ds:=fun ord hp=>by
  refine ⟨by rw [hp.length_eq,List.length_map,Array.length_toList],fun v hv=>?_,?_⟩
  ·obtain ⟨e,he,rfl⟩:=List.mem_map.mp (hp.mem_iff.mp hv)
   exact htx e he
  ·have:=hp.map txOf
   rw [List.map_map] at this
   exact this.trans hpm
 refine wpAny_bind (m:=Builtin.Frozenset.slot0 "__iter__" _) (wpAny_pure ?_)
 refine wpAny_bind (show wpAny _ _ (setEntries a >>= fun x=>pure x.size) _ _ s from wpAny_bind (wpAny_setEntries_of ho hd hf (wpAny_pure ?_)))
 refine wpAny_bind ?_
 unfold setDrawn
 refine wpAny_bind (wpAny_setState_of ho hd hf (wpAny_bind (zce (wpAny_pure ?_))))
 show wpAny _ _ (if (!byTx w && (!t.plain && decide (es.size > 1))) = true then _ else _) _ _ s
 split
 ·rename_i hdr
  rw [Bool.and_eq_true,Bool.and_eq_true,decide_eq_true_eq] at hdr
  have hb0:byTx w = false:=by simpa using hdr.1
  refine wpAny_bind (zks es.size (List.range es.size) s _ (by simp) fun ps d' hps=>?_)
  have hpl:ps.length = es.size:=by rw [hps.length_eq,List.length_range]
  refine wpAny_bind (wpAny_newObj_type ?_ (by show (List.map _ ps).toArray.size<=sizeLine; rw [List.size_toArray,List.length_map,hpl]; exact fits_of_scanBound hb))
  have kp1:∀ b q,s.heap.get? b = some q->(s.heap.push { cls:=.type "tuple",data:=.seq (ps.map fun (p:Nat)=>rawInt p).toArray }).get? b = some q:=fun b q e=>Heap.get?_push_of_some _ e
  refine wpAny_bind (wpAny_setEpoch_of (kp1 a _ ho) hd hf (wpAny_bind (wpAny_newObj_type ?_)))
  refine wpAny_pure ⟨_,rfl,"set_iterator",_,⟨_,Heap.get?_push_size _ rfl,rfl⟩,ZV.lookup,?_⟩
  have kp2:∀ b q,s.heap.get? b = some q->((s.heap.push { cls:=.type "tuple",data:=.seq (ps.map fun (p:Nat)=>rawInt p).toArray }).push { cls:=.type "set_iterator",data:=.fields #[.ref s.heap.objs.size,rawInt 0,.ref a,rawInt es.size,rawInt ep] }).get? b = some q:=fun b q e=>Heap.get?_push_of_some _ (kp1 b q e)
  have hin:∀ p∈ps,p < es.size:=fun p hp=>List.mem_range.mp (hps.mem_iff.mp hp)
  have ho':(ps.map fun p=>(es.toList.map (·.2)).getD p .none).Perm (es.toList.map (·.2)):=by
   refine (hps.map _).trans (List.Perm.of_eq ?_)
   apply List.ext_getElem (by simp)
   intro k h1 h2
   simp at h2
   simp [h2]
  obtain ⟨h1,h2,h3⟩:=hvals _ ho'
  have sz:(s.heap.push { cls:=.type "tuple",data:=.seq (ps.map fun (p:Nat)=>rawInt p).toArray }).objs.size = s.heap.objs.size + 1:=Heap.size_push ..
  refine h _ s.heap.objs.size _ d' es ep t _ kp2 (by rw [sz]; exact Nat.le_succ _) (Nat.ne_of_lt (by rw [sz]; exact Nat.lt_succ_self _)) (.inr (Nat.le_refl _)) hf h1 ho' h2 h3 ⟨⟨o,kp2 a _ ho,hd⟩,_,.ref s.heap.objs.size,Heap.get?_push_size _ rfl,rfl,rfl,.inr (.inl ⟨hb0,ps,_,_,rfl,Heap.get?_push_of_some _ (Heap.get?_push_size _ rfl),rfl,by rw [List.length_map],fun j p hj=>?_⟩)⟩
  have hp:=hin p (List.mem_of_getElem? hj)
  refine ⟨es[p],Array.getElem?_eq_getElem hp,?_⟩
  rw [List.getElem?_map,hj]
  simp [hp]
 ·rename_i hdr
  refine wpAny_bind (wpAny_pure (wpAny_bind (wpAny_setEpoch_of ho hd hf (wpAny_bind (wpAny_newObj_type ?_)))))
  refine wpAny_pure ⟨_,rfl,"set_iterator",_,⟨_,Heap.get?_push_size _ rfl,rfl⟩,ZV.lookup,?_⟩
  have kp:∀ b o,s.heap.get? b = some o->(s.heap.push { cls:=.type "set_iterator",data:=.fields #[rawInt 0,rawInt 0,.ref a,rawInt es.size,rawInt ep] }).get? b = some o:=fun b o e=>Heap.get?_push_of_some _ e
  cases hbt:byTx w with
  | true=>
   have hp:((pickOrder (w.params.setOrder a ep) es).toList.map (·.2)).Perm (es.toList.map (·.2)):=(ziV _ es).map _
   obtain ⟨h1,h2,h3⟩:=hvals _ hp
   exact h s.heap.objs.size a _ s.drawn es ep t _ kp (Nat.le_refl _) (Nat.ne_of_lt haI) (.inl rfl) hf h1 hp h2 h3 ⟨⟨o,kp a _ ho,hd⟩,_,rawInt 0,Heap.get?_push_size _ rfl,rfl,rfl,.inl ⟨hbt,rfl,rfl⟩⟩
  | false=>
   have hsz:es.size<=1:=by
    rw [hbt] at hdr
    rcases hmk.2 with h0 | h0
    ·omega
    ·rw [h0] at hdr
     simp at hdr
     omega
   obtain ⟨h1,h2,h3⟩:=hvals _ (.refl _)
   exact h s.heap.objs.size a _ s.drawn es ep t _ kp (Nat.le_refl _) (Nat.ne_of_lt haI) (.inl rfl) hf h1 (.refl _) h2 h3 ⟨⟨o,kp a _ ho,hd⟩,_,rawInt 0,Heap.get?_push_size _ rfl,rfl,rfl,.inr (.inr ⟨hbt,hsz,by rw [hmk.1,hbt]; rfl,rfl,0,rfl,fun _=>rfl,fun z=>absurd z (Nat.lt_irrefl _)⟩)⟩
end
theorem zhI (v:Value) (h:∃ z tk,v = .str z tk):txOf v = strOf v:=by
 obtain ⟨z,tk,rfl⟩:=h
 rfl
section
variable {P:Program}{w:World}{A:Around}{E:Value->Shared->Prop}
theorem zkx {s:Shared}{r:Addr}{Q:Bool->Shared->Prop} (hT:s.TypeIs (.ref r) "set") (h:Q false s):wpAny (model P w) A (Builtin.List.listLengthHint (.ref r)) Q E s:=by
 unfold Builtin.List.listLengthHint
 refine wpAny_bind (wpAny_specialOf hT PySem.F.slot_set_len.lookup ?_)
 generalize hid:("set.__len__":String) = id0
 wp_delta
 rw [show splitId id0 = some ("set","__len__") from by subst hid; decide +kernel]
 subst hid
 refine wpAny_bind (wpAny_isInstance (T:="set") (b:=true) hT PySem.sub_set_self ?_)
 refine wpAny_ite_split (fun hab=>absurd hab (by decide)) (fun _=>?_)
 refine wpAny_ite_split (fun _=>?_) (fun hab=>absurd (by decide +kernel) hab)
 exact wpAny_bind (wpAny_typeOf hT (wpAny_pure h))
abbrev lO (xs:Array Value) (c:Nat):Obj:={ cls:=.type "list",dict:=none,data:=.seq xs c,slots:=#[] }
theorem zf0 {s:Shared}{a:Addr}{T:String}{oa:Obj}{n:Nat}{Gd:(Nat->Value->Prop)->Prop}{R:List Value->Shared->Prop} (hoa:s.heap.get? a = some oa) (hca:oa.cls = .type T) (hT2:(Value.type T == .type "list" || Value.type T == .type "tuple") = false) (hn1:n<=sizeLine)
  (hnt:∀ (s1:Shared) (Q:Bool->Shared->Prop) (E:Value->Shared->Prop),s1.TypeIs (.ref a) T->Q false s1->wpAny (model P w) A.in1 (Builtin.List.listLengthHint (.ref a)) Q E s1)
  (it:∀ (Q:Value->Shared->Prop) (E:Value->Shared->Prop),(∀ (I:Addr) (fp:List Addr) (h1:Heap) (d1:Drawn) (St:Nat->Heap->Prop) (Pi:Nat->Value->Prop),Gd Pi->(∀ b o,(s.heap.push (lO #[] 0)).get? b = some o->h1.get? b = some o)->s.heap.objs.size < I->s.heap.objs.size ∉ fp->Walks P w A.in1 I fp [I] n Pi St->St 0 h1->Q (.ref I) { s with heap:=h1,drawn:=d1 })->wpAny (model P w) A.in1 (pyIter (.ref a)) Q E { s with heap:=s.heap.push (lO #[] 0) })
  (h:∀ (h':Heap) (tk:Nat) (d':Drawn) (acc:Array Value) (Pi:Nat->Value->Prop),Gd Pi->(∀ b o,s.heap.get? b = some o->h'.get? b = some o)->s.heap.objs.size<=h'.objs.size->ItemsOf Pi acc n->R acc.toList { s with heap:=h',toks:=tk,drawn:=d' }):
  wpAny (model P w) A (collect (.ref a)) R E s:=by
 have haS:a≠s.heap.objs.size:=Nat.ne_of_lt (Heap.lt_size hoa)
 unfold collect
 refine wpAny_bind (wpAny_runValue (codeAny_builtin entry_proto_collect' ?_))
 rw [Around.under_plainId PySem.F.plain_proto_collect _]
 refine (show wpAny _ A.in1 (newList [] >>= fun l=>again (.builtin "list.__iadd__" ⟨[l,.ref a],[]⟩)) _ _ s from wpAny_bind (wpAny_newObj_type (wpAny_pure ⟨plainId_quiet PySem.F.plain_list_iadd _,codeAny_builtin entry_list_iadd' ?_⟩)))
 rw [Around.under_plainId PySem.F.plain_list_iadd _]
 have kp0:∀ b o,s.heap.get? b = some o->(s.heap.push (lO #[] 0)).get? b = some o:=fun b o e=>Heap.get?_push_of_some _ e
 have gS:(s.heap.push (lO #[] 0)).get? s.heap.objs.size = some (lO #[] 0):=Heap.get?_push_size _ rfl
 have hT1:Shared.TypeIs { s with heap:=s.heap.push (lO #[] 0) } (.ref a) T:=⟨oa,kp0 a _ hoa,hca⟩
 refine (show wpAny _ A.in1 (Builtin.List.listExtendWith (.ref s.heap.objs.size) (.ref a) (.ref s.heap.objs.size)) _ _ { s with heap:=s.heap.push (lO #[] 0) } from ?_)
 unfold Builtin.List.listExtendWith
 refine wpAny_bind (wpAny_typeOf hT1 ?_)
 have h1:Builtin.List.listSameRef (.ref s.heap.objs.size) (.ref a) = false:=by simp [Builtin.List.listSameRef,haS.symm]
 rw [if_neg (by rw [h1,Bool.false_or,hT2]; exact Bool.false_ne_true)]
 refine wpAny_bind (it _ _ fun I fp h1 d1 St Pi hgd kp hI hSf Wk0 st=>?_)
 have kp1:∀ b o,s.heap.get? b = some o->h1.get? b = some o:=fun b o e=>kp b o (kp0 b o e)
 have hI':s.heap.objs.size<=I:=Nat.le_of_lt hI
 refine wpAny_bind (wpAny_holding (hnt _ _ _ ⟨oa,kp1 a _ hoa,hca⟩ ?_))
 have gS1:=kp _ _ gS
 have loop:∀ (h2:Heap) (c:Nat),St 0 h2->(∀ b o,b≠s.heap.objs.size->h1.get? b = some o->h2.get? b = some o)->h2.get? s.heap.objs.size = some (lO #[] c)->
   codeAny (model P w) A (.builtin "list.extend.loop" ⟨[.ref s.heap.objs.size,.ref I,.ref s.heap.objs.size],[]⟩) (fun q s'=>∃ (h':Heap) (tk:Nat) (acc:Array Value) (c':Nat),q = .ok (.ret (.ref s.heap.objs.size))/\s' = { s with heap:=h',toks:=tk,drawn:=d1 }/\(∀ b o,s.heap.get? b = some o->h'.get? b = some o)/\h'.get? s.heap.objs.size = some (lO acc c')/\ItemsOf Pi acc n) { s with heap:=h2,drawn:=d1 }:=fun h2 c st2 k2 g2=>by
  refine codeAny_extend_loopS Wk0.toS hn1 s.heap.objs.size hSf (.ref s.heap.objs.size) n 0 { s with heap:=h2,drawn:=d1 } #[] c rfl (Nat.zero_le _) st2 g2 (ItemsOf.nil _) fun s' acc' c' hm gS' hacc=>?_
  obtain ⟨h',g',d',tk',os'⟩:=s'
  have eg:g' = s.gens:=hm.gens
  have ed:d' = d1:=hm.drawn
  have eo:os' = s.os:=hm.os
  subst eg ed eo
  refine ⟨h',tk',acc',c',rfl,rfl,fun b o e=>?_,gS',hacc⟩
  have hb:b < s.heap.objs.size:=Heap.lt_size e
  refine hm.heap b o (fun z=>?_) (k2 b o (Nat.ne_of_lt hb) (kp1 b o e))
  rcases List.mem_cons.mp z with z | z
  ·exact absurd z (Nat.ne_of_lt hb)
  ·exact absurd (List.mem_singleton.mp z) (Nat.ne_of_lt (Nat.lt_of_lt_of_le hb hI'))
 refine wpAny_ite_split (fun _=>?_) (fun _=>?_)
 ·refine wpAny_bind (wpAny_rule (wpAny_bind ?_))
  refine (show wpAny _ _ (updateSeq s.heap.objs.size (·.push .none) >>= fun _=>updateSeq s.heap.objs.size (·.pop)) _ _ _ from wpAny_bind (wpAny_updateSeq gS1 rfl ?_))
  have gS2:=Heap.get?_update_self (Obj.mapSeq (·.push Value.none)) gS1 rfl
  refine wpAny_updateSeq (hz:=by seq_fits) gS2 rfl ?_
  have gS3:=Heap.get?_update_self (Obj.mapSeq (·.pop)) gS2 rfl
  have oth:∀ b o,b≠s.heap.objs.size->h1.get? b = some o->((h1.update s.heap.objs.size (Obj.mapSeq (·.push Value.none))).update s.heap.objs.size (Obj.mapSeq (·.pop))).get? b = some o:=fun b o hb e=>(Heap.get?_update_other _ _ (Ne.symm hb)).trans ((Heap.get?_update_other _ _ (Ne.symm hb)).trans e)
  have st3:=Wk0.frame 0 h1 _ st fun b hb o e=>oth b o (fun z=>hSf (z ▸ hb)) e
  refine wpAny_pure ⟨plainId_quiet PySem.F.plain_extend_loop _,codeAny_mono (loop _ _ st3 oth gS3) fun q s2 y=>?_⟩
  obtain ⟨h',tk,acc,c',rfl,rfl,hk,hS',hacc⟩:=y
  exact (show wpAny _ A (load s.heap.objs.size >>= _) _ _ _ from wpAny_bind (wpAny_load hS' (wpAny_pure (h h' tk d1 acc Pi hgd hk (Nat.le_of_lt (Heap.lt_size hS')) hacc))))
 ·refine wpAny_pure ⟨plainId_quiet PySem.F.plain_extend_loop _,codeAny_mono (loop _ _ st (fun _ _ _ e=>e) gS1) fun q s2 y=>?_⟩
  obtain ⟨h',tk,acc,c',rfl,rfl,hk,hS',hacc⟩:=y
  exact (show wpAny _ A (load s.heap.objs.size >>= _) _ _ _ from wpAny_bind (wpAny_load hS' (wpAny_pure (h h' tk d1 acc Pi hgd hk (Nat.le_of_lt (Heap.lt_size hS')) hacc))))
theorem zf1 {s:Shared}{a:Addr}{ds:List Str}{R:List Value->Shared->Prop} (hh:A.handled = none) (hS:zbO P w a ds s.heap) (hn:ds.length<=1000)
  (h:∀ (h':Heap) (tk:Nat) (d':Drawn) (vs:List Value),(∀ b o,s.heap.get? b = some o->h'.get? b = some o)->s.heap.objs.size<=h'.objs.size->(∀ v∈vs,∃ z tk,v = .str z tk)->(vs.map txOf).Perm ds->R vs { s with heap:=h',toks:=tk,drawn:=d' }):
  wpAny (model P w) A (collect (.ref a)) R E s:=by
 obtain ⟨oa,hoa,hexa⟩:∃ o,s.heap.get? a = some o/\o.ExactSet:=by
  obtain ⟨o,es,ep,t,ho,hex,_⟩:=hS
  exact ⟨o,ho,hex⟩
 have haS:a < s.heap.objs.size:=Heap.lt_size hoa
 have hS1:zbO P w a ds (s.heap.push (lO #[] 0)):=by
  obtain ⟨o,es,ep,t,ho,rest⟩:=hS
  exact ⟨o,es,ep,t,Heap.get?_push_of_some _ ho,rest⟩
 have sz:(s.heap.push (lO #[] 0)).objs.size = s.heap.objs.size + 1:=Heap.size_push ..
 have hh2:A.in1.handled = none:=by simpa using hh
 refine zf0 (n:=ds.length) (Gd:=fun Pi=>∃ ord:List Value,(Pi = fun i v=>ord[i]? = some v)/\(∀ v∈ord,∃ z tk,v = .str z tk)/\(ord.map txOf).Perm ds) hoa hexa.1 (by decide) (Nat.le_trans hn (by decide)) (fun s1 Q E hT q=>zkx hT q) (fun Q E q=>?_) fun h' tk d' acc Pi hgd kp hle hacc=>?_
 ·refine zkw (A:=A.in1) hS1 fun I pl h1 d1 es ep t ord kp hI hplI hpla hf hz hpo hst hpm st=>?_
  rw [show ({ s with heap:=s.heap.push (lO #[] 0) }:Shared).heap.objs.size = s.heap.objs.size + 1 from sz] at hI hpla
  have haI:a≠I:=Nat.ne_of_lt (Nat.lt_of_lt_of_le haS (Nat.le_of_succ_le hI))
  have hl:ord.length = ds.length:=by rw [← hpm.length_eq,List.length_map]
  have Wk:=zkv (P:=P) (w:=w) (A:=A.in1) hh2 I a pl (ep:=ep) hf hz haI hplI
  rw [hl] at Wk
  refine q I [I,a,pl] h1 d1 _ _ ⟨ord,rfl,hst,hpm⟩ kp hI (fun z=>?_) Wk st
  rcases List.mem_cons.mp z with z | z
  ·exact absurd z (Nat.ne_of_lt hI)
  ·rcases List.mem_cons.mp z with z | z
   ·exact absurd z.symm (Nat.ne_of_lt haS)
   ·have e:=List.mem_singleton.mp z
    rcases hpla with e' | e'
    ·rw [e'] at e
     exact absurd e.symm (Nat.ne_of_lt haS)
    ·exact absurd e (Nat.ne_of_lt e')
 ·obtain ⟨ord,rfl,hst,hpm⟩:=hgd
  have hl:ord.length = ds.length:=by rw [← hpm.length_eq,List.length_map]
  have eord:acc.toList = ord:=by
   apply List.ext_getElem?
   intro k
   by_cases hk:k < acc.size
   ·have:=hacc.2 k acc[k] (Array.getElem?_eq_getElem hk)
    rw [Array.getElem?_toList,Array.getElem?_eq_getElem hk,this]
   ·rw [List.getElem?_eq_none (by rw [Array.length_toList]; omega),List.getElem?_eq_none (by rw [hl,← hacc.1]; omega)]
  rw [eord]
  exact h h' tk d' ord kp hle hst hpm
theorem zlO {s:Shared}{D:Addr}{vs:List Value}{n:Nat}{Q:Value->Shared->Prop} (ho:s.heap.get? D = some (seqObj "list" vs.toArray n)) (hv:∀ v∈vs,∃ z tk,v = .str z tk) (h64:vs.length < 64)
  (h:∀ (h':Heap) (out:List Value) (ss:List Str) (e:Nat),(∀ b o,b≠D->s.heap.get? b = some o->h'.get? b = some o)->h'.get? D = some (seqObj "list" out.toArray e)->StrsAre out ss->ss.Perm (vs.map txOf)->sortedS ss = true->Q .none { s with heap:=h' }):
  wpAny (model P w) A (call (.builtin "list.sort") [.ref D]) Q E s:=by
 have hS:=strsAre_map vs fun v hm=>hv v hm
 have hm:vs.map strOf = vs.map txOf:=List.map_congr_left fun v hm=>(zhI v (hv v hm)).symm
 refine wpAny_call_entry slot_list_sort ⟨_,ho,rfl⟩ entry_list_sort (list_sort_treeK strKind_oneLt ho hS.keysOf (fun v₁ v₂ rest e=>keyKind_strs (by rw [← e]; exact hS)) h64 fun st' hp hs=>⟨_,rfl,?_⟩) (args_list_sort _)
 obtain ⟨ss',h1,h2,h3⟩:=sorted_out_str hS hp hs
 obtain ⟨e,he⟩:=sortedHeap_at (out:=(arrOf st').map (·.2)) ho
 exact h _ ((arrOf st').map (·.2)).toList ss' e (fun b o hb eo=>(sortedHeap_old hb (Heap.lt_size eo)).trans eo) he h1 (by rw [← hm]; exact h2) h3
end
section
variable {P:Program}{w:World}{A:Around}{E:Value->Shared->Prop}
theorem zhJ {s:Shared}{a:Addr}{ds:List Str}{Q:Value->Shared->Prop}
  (hcol:∀ (R:List Value->Shared->Prop),(∀ (h':Heap) (tk:Nat) (d':Drawn) (vs:List Value),(∀ b o,s.heap.get? b = some o->h'.get? b = some o)->s.heap.objs.size<=h'.objs.size->(∀ v∈vs,∃ z tk,v = .str z tk)->(vs.map txOf).Perm ds->R vs { s with heap:=h',toks:=tk,drawn:=d' })->wpAny (model P w) A.in1 (collect (.ref a)) R E s) (h64:ds.length < 64)
  (h:∀ (D:Addr) (h':Heap) (tk:Nat) (d':Drawn) (out:List Value) (ss:List Str) (e:Nat),(∀ b o,s.heap.get? b = some o->h'.get? b = some o)->s.heap.objs.size<=D->h'.get? D = some (seqObj "list" out.toArray e)->StrsAre out ss->ss.Perm ds->sortedS ss = true->Q (.ref D) { s with heap:=h',toks:=tk,drawn:=d' }):
  wpAny (model P w) A (call (.builtin "sorted") [.ref a]) Q E s:=by
 refine Calls.call_function_entry kind_sorted plain_sorted entry_sorted (args_sorted1 _) ?_
 unfold Builtin.«sorted»
 refine wpAny_bind (m:=checkCount "sorted" 1 1 _) (wpAny_pure (wpAny_bind (hcol _ fun h1 tk d1 vs kp hle hst hpm=>?_)))
 have hl:vs.length = ds.length:=by rw [← hpm.length_eq,List.length_map]
 refine wpAny_bind (wpAny_newList ?_ (by rw [hl]; exact Nat.le_trans (Nat.le_of_lt h64) (by decide)))
 have gD:(h1.push (seqObj "list" vs.toArray 0)).get? h1.objs.size = some (seqObj "list" vs.toArray 0):=Heap.get?_push_size _ rfl
 refine wpAny_bind (wpAny_holding (zlO gD hst (by omega) fun h2 out ss e k2 g2 hs hp hS=>?_))
 refine wpAny_pure ⟨_,rfl,h h1.objs.size h2 tk d1 out ss e (fun b o eb=>?_) ?_ g2 hs (hp.trans hpm) hS⟩
 ·have hb:=kp b o eb
  exact k2 b o (Nat.ne_of_lt (Heap.lt_size hb)) (Heap.get?_push_of_some _ hb)
 ·exact hle
end
def zlP (l:List Str):Prop:=sortedS l = true
theorem Inv.drawn {X:Cx}{zp:List (Addr × Obj)}{σ:List (Option V)}{H:Hp}{s:Shared} (I:Inv X zp σ H s) (d':Drawn):Inv X zp σ H { s with drawn:=d' }:=⟨I.ok,I.os,I.bare,I.base,I.loc,I.cell,I.free,I.freeC,I.pin,I.hok,I.len⟩
theorem ziZ:∀ {us:List Value}{ss:List Str},StrsAre us ss->Vals (ss.map V.str) us
 | _,_,.nil=>.nil
 | _,_,.cons y t h=>.cons ⟨t,rfl⟩ (ziZ h)
theorem zc7 {X:Cx} (hc:X.calm = true):zaL X (.builtin "sorted") (fun xs H Q=>∃ (a:Addr) (ds:List Str),xs = [.ref a]/\H a = some (SetH X.prog X.w a ds)/\ds.length < 64/\∀ (l:Addr) (ss:List Str),H l = none->ss.Perm ds->sortedS ss = true->Q (.ref l) (upd H l (.lst (ss.map V.str)))):=by
 intro zp s σ H xs us Q I r h
 obtain ⟨a,ds,rfl,ea,hn,q⟩:=h
 obtain ⟨u,rfl,rx⟩:=zbN r
 cases rx
 obtain ⟨hS,_⟩:=(show ZO X.prog X.w H s.heap a (SetH X.prog X.w a ds) from I.hok a _ ea)
 refine zhJ (ds:=ds) (fun R hR=>zf1 (A:=X.A.in1) (by simpa using I.ok.hd hc) hS (by omega) hR) hn fun D h' tk d' out ss e kp hD g hs hp hS'=>?_
 have hl:ss.length < 64:=by rw [hp.length_eq]; exact hn
 exact ⟨.ref D,_,(I.drawn d').laid (t':=tk) kp hD (show ZO X.prog X.w _ h' _ (.lst (ss.map V.str)) from ⟨by rw [List.length_map]; exact Nat.le_trans (Nat.le_of_lt hl) (by decide),out,e,ziZ hs,g⟩),rfl,q D ss (I.hok.fresh hD) hp hS'⟩
end L2
namespace D
open PySem L2
end D
namespace L2
open PySem PySem.Spec PyProof.Rows
def cutH (h:Heap) (S:List Addr):Heap:=⟨h.objs.mapIdx fun i o=>if i∈S then { o with data:=.freed } else o,h.life⟩
theorem zi0 {h:Heap}{S:List Addr}{b:Addr} (hb:b∈S):(cutH h S).get? b = none:=by
 cases e:(cutH h S).get? b with
 | none=>rfl
 | some o=>
  obtain ⟨h1,h2⟩:=Heap.get?_some_iff.mp e
  unfold cutH at h1
  rw [Array.getElem?_mapIdx] at h1
  obtain ⟨o',_,rfl⟩:=Option.map_eq_some_iff.mp h1
  rw [if_pos hb] at h2
  cases h2
theorem zea {h:Heap}{S:List Addr}{b:Addr} (hb:b ∉ S):(cutH h S).get? b = h.get? b:=by
 unfold Heap.get? cutH
 simp only [Array.getElem?_mapIdx]
 cases h.objs[b]? with
 | none=>rfl
 | some o=>simp only [Option.map_some,if_neg hb]
def Flies (tr:Bool) (h0:Heap) (H:Hp) (h:Heap) (e:Addr) (cls:Value):Prop:=
 h0.get? e = none/\H e = none/\∃ oe vs,h.get? e = some oe/\(oe.cls = cls/\oe.dict = none)/\oe.data = .fields vs/\1 < vs.size /\
  ((tr = false/\vs[1]? = some .none)\/∃ T oT ts fl,vs[1]? = some (.ref T)/\h0.get? T = none/\H T = none/\T≠e/\h.get? T = some oT/\oT.data = .fields ts/\ts[3]? = some fl)
theorem Flies.earlier {tr:Bool}{h0 h1:Heap}{H:Hp}{h:Heap}{e:Addr}{cls:Value} (x:Flies tr h0 H h e cls) (k:∀ b o,h1.get? b = some o->∃ o',h0.get? b = some o'):Flies tr h1 H h e cls:=by
 have no:∀ b,h0.get? b = none->h1.get? b = none:=fun b hb=>by
  cases q:h1.get? b with
  | none=>rfl
  | some o=>obtain ⟨o',e⟩:=k b o q; rw [hb] at e; cases e
 obtain ⟨a,b,oe,vs,c,d,f,g,r⟩:=x
 refine ⟨no _ a,b,oe,vs,c,d,f,g,?_⟩
 rcases r with r | ⟨T,oT,ts,fl,r1,r2,r3⟩
 ·exact .inl r
 ·exact .inr ⟨T,oT,ts,fl,r1,no _ r2,r3⟩
structure Old (X:Cx) (zp:List (Addr × Obj)) (h0:Heap):Prop where
 ent:∀ b o,X.s₀.heap.get? b = some o->b ∉ X.ex->∃ o',h0.get? b = some o'
 loc:∃ o,h0.get? X.env.locals = some o
 cel:∀ x c,X.env.cells.lookup x = some c->∃ o,h0.get? c = some o
 pin:∀ p∈X.pn ++ zp,∃ o,h0.get? p.1 = some o
theorem Inv.old {X:Cx}{zp:List (Addr × Obj)}{σ:St}{H:Hp}{s:Shared} (I:Inv X zp σ H s):Old X zp s.heap:=
 ⟨fun b o e hx=>I.base.there b o e hx,(let ⟨_,⟨o,_,_,e,_⟩,_⟩:=I.loc; ⟨o,e⟩),fun x c e=>(let ⟨_,o,e,_⟩:=I.cell x c e; ⟨o,e⟩),fun p hp=>⟨_,(I.pin p hp).1⟩⟩
section
variable {X:Cx}{zp:List (Addr × Obj)}{σ:St}{H:Hp}{h0:Heap}{s1:Shared}
theorem Old.flown (O:Old X zp h0) (J:Inv X zp σ H s1) {S:List Addr}{h':Heap} (hS:∀ b∈S,h0.get? b = none/\H b = none)
  (k:∀ b o,b ∉ S->b ∉ frs X.stack->s1.heap.get? b = some o->h'.get? b = some o)
  (f:∀ b o,b ∉ S->s1.heap.get? b = some o->∃ sl,h'.get? b = some { o with slots:=sl }):Inv X zp σ H { s1 with heap:=h' }:=by
 have old:∀ {b:Addr}{o:Obj},h0.get? b = some o->b ∉ S:=fun {b o} e hb=>by rw [(hS b hb).1] at e; cases e
 have cellk:∀ {c:Addr}{v:Option Value},c ∉ S->s1.heap.IsCell c v->h'.IsCell c v:=fun {c v} hc z=>by
  obtain ⟨o,ho,hd⟩:=z
  obtain ⟨sl,q⟩:=f c o hc ho
  exact ⟨_,q,hd⟩
 have cold:∀ x c,X.env.cells.lookup x = some c->c ∉ S:=fun x c e=>by
  obtain ⟨o,ho⟩:=O.cel x c e
  exact old ho
 refine ⟨J.ok,J.os,J.bare,?_,?_,fun x c e=>?_,J.free,J.freeC,fun p hp=>?_,?_,J.len⟩
 ·refine ⟨fun b o e n hb hx=>?_,fun b o e n hb hx=>?_,J.base.free,fun b o e hx=>?_,J.base.tups,J.base.frzs,J.base.tbls⟩
  ·obtain ⟨o',q⟩:=O.ent b o e hx
   refine k b o (old q) (fun z=>?_) (J.base.keep b o e n hb hx)
   rcases List.mem_cons.mp (J.stkSub b z) with z | z
   ·exact absurd (Nat.lt_of_lt_of_le (Heap.lt_size e) J.ok.above) (by rw [z]; exact Nat.lt_irrefl _)
   ·exact hb z
  ·obtain ⟨o',q⟩:=O.ent b o e hx
   obtain ⟨sl,q2⟩:=J.base.slot b o e n hb hx
   obtain ⟨sl2,q3⟩:=f b _ (old q) q2
   exact ⟨sl2,q3⟩
  ·obtain ⟨o',q⟩:=O.ent b o e hx
   obtain ⟨o2,q2⟩:=J.base.there b o e hx
   obtain ⟨sl2,q3⟩:=f b _ (old q) q2
   exact ⟨_,q3⟩
 ·obtain ⟨m,⟨o,es,ep,ho,r⟩,hl⟩:=J.loc
  obtain ⟨o0,ho0⟩:=O.loc
  obtain ⟨sl,q⟩:=f _ o (old ho0) ho
  refine ⟨m,⟨_,es,ep,q,r⟩,fun i x v h1 h2 h3=>?_⟩
  obtain ⟨u,ru,lk⟩:=hl i x v h1 h2 h3
  refine ⟨u,ru,?_⟩
  rcases lk with lk | ⟨lk,c,hc,z⟩
  ·exact .inl lk
  ·exact .inr ⟨lk,c,hc,cellk (cold x c hc) z⟩
 ·obtain ⟨v,z⟩:=J.cell x c e
  exact ⟨v,cellk (cold x c e) z⟩
 ·obtain ⟨h1,h2,h3,h4,h5⟩:=J.pin p hp
  obtain ⟨o0,ho0⟩:=O.pin p hp
  refine ⟨k p.1 p.2 (old ho0) (fun z=>?_) h1,h2,h3,h4,h5⟩
  rcases List.mem_cons.mp (J.stkSub _ z) with z | z
  ·exact h3 z
  ·exact h4 z
 ·intro a o e
  have ne:∀ b u,H b = some u->b ∉ S/\b ∉ frs X.stack:=fun b u q=>⟨fun z=>(by rw [(hS b z).2] at q; cases q),fun z=>(by rw [J.stkFree b z] at q; cases q)⟩
  refine (J.hok a o e).stay (fun b u hb q=>?_) (fun _ q=>q) fun _ _ q=>q
  rcases hb with rfl | hb
  ·exact k _ u (ne _ _ e).1 (ne _ _ e).2 q
  ·exact k _ u (ne _ _ hb).1 (ne _ _ hb).2 q
theorem ZO.there {P:Program}{w:World}{H:Hp}{h:Heap}{a:Addr}{o:HO} (x:ZO P w H h a o):∃ ob,h.get? a = some ob:=by
 cases o with
 | lst xs=>obtain ⟨_,_,_,_,e⟩:=x; exact ⟨_,e⟩
 | tup xs=>obtain ⟨_,_,_,ob,e,_⟩:=x; exact ⟨_,e⟩
 | dK kvs=>obtain ⟨_,_,_,_,o,_,_,e,_⟩:=x; exact ⟨_,e⟩
 | dT kvs=>obtain ⟨_,_,_,_,o,_,_,e,_⟩:=x; exact ⟨_,e⟩
 | set S n=>obtain ⟨o,_,_,_,e,_⟩:=x; exact ⟨_,e⟩
 | ins C dx fs=>obtain ⟨_,_,_,e,_⟩:=x; exact ⟨_,e⟩
 | own y=>exact x
 | xd fs=>obtain ⟨_,⟨_,_,_,e,_⟩,_⟩:=x; exact ⟨_,e⟩
 | rng lo hi=>obtain ⟨_,_,_,e⟩:=x; exact ⟨_,e⟩
 | frz ob u=>exact ⟨_,x.1⟩
 | tbl ps=>exact ⟨_,x⟩
 | met f y=>exact ⟨_,x⟩
 | ext φ=>exact x.2.1
theorem HOk.noneAt {P:Program}{w:World}{H:Hp}{h:Heap}{a:Addr} (x:HOk P w H h) (e:h.get? a = none):H a = none:=by
 cases q:H a with
 | none=>rfl
 | some o=>obtain ⟨ob,z⟩:=(x a o q).there; rw [e] at z; cases z
theorem zfc {M:Model}{E:Value->Shared->Prop}{env:Env}{outer:List Env}{L e:Addr}{oe:Obj}{vs:Array Value}{head:Value}{hn:Bool}{Q:Unit->Shared->Prop}
  (O:Old X zp h0) (J:Inv X zp σ H s1) (k01:∀ b o,h0.get? b = some o->∃ o',s1.heap.get? b = some o') (hst:X.stack = env :: outer) (hf:env.frame = some L)
  (he:s1.heap.get? e = some oe) (hd:oe.data = .fields vs) (hdn:oe.dict = none) (hsz:1 < vs.size) (e0:h0.get? e = none) (eH:H e = none)
  (q:∀ h',Inv X zp σ H { s1 with heap:=h' }->Flies true h0 H h' e oe.cls->(∀ b o,s1.heap.get? b = some o->∃ o',h'.get? b = some o')->Q () { s1 with heap:=h' }):
  wpAny M X.A (do let a ← frameOf env; let pl ← entryPlaceOf L hn; let b ← EntryCells.newEntry head a .none (rawInt L) .none pl; setField (.ref e) 1 b) Q E s1:=by
 have fr:=J.ok.frames
 have fs:=J.stack
 rw [hst] at fr fs
 have ene:e ∉ frs X.stack:=fun hm=>by
  rw [hst] at hm
  obtain ⟨_,o,ho,hnf⟩:=fs.mem hm
  rw [he] at ho
  cases ho
  exact hnf vs hd
 refine wpAny_bind (wpAny_frameOf_fun fr fs hf fun g1 hg1=>wpAny_bind (wpAny_entryPlaceOf fun pl hp=>?_))
 unfold EntryCells.newEntry; unfold newFields
 refine wpAny_bind (wpAny_newObj_type ?_ (hp.sizeOk5 _ _ _ _ _))
 have he1:g1.get? e = some oe:=(hg1.2.1 e (by rw [hst] at ene; exact ene)).trans he
 have nTe:g1.objs.size≠e:=Nat.ne_of_gt (Heap.lt_size he1)
 refine wpAny_setField (Heap.get?_push_of_some _ he1) hd hsz ?_
 dsimp only
 generalize hob:({ cls:=.type "traceback",dict:=none,data:=.fields ([head,.ref L,.none,rawInt L,.none] ++ (if pl.isEmpty then List.replicate 6 Value.none else pl)).toArray }:Obj) = ob
 have hobd:ob.data = .fields ([head,.ref L,.none,rawInt L,.none] ++ (if pl.isEmpty then List.replicate 6 Value.none else pl)).toArray:=by rw [← hob]
 have hobf:ob.isFreed = false:=Obj.isFreed_of_fields hobd
 have pk:∀ b o,b≠e->g1.get? b = some o->((g1.push ob).update e (Obj.mapFields (·.setIfInBounds 1 (Value.ref g1.objs.size)))).get? b = some o:=fun b o hb h=>
  (Heap.get?_update_other _ _ (Ne.symm hb)).trans (Heap.get?_push_of_some _ h)
 have pT:((g1.push ob).update e (Obj.mapFields (·.setIfInBounds 1 (Value.ref g1.objs.size)))).get? g1.objs.size = some ob:=(Heap.get?_update_other _ _ (Ne.symm nTe)).trans (Heap.get?_push_size _ hobf)
 have hdm:=Obj.data_mapFields hd (·.setIfInBounds 1 (Value.ref g1.objs.size))
 have pe:((g1.push ob).update e (Obj.mapFields (·.setIfInBounds 1 (Value.ref g1.objs.size)))).get? e = some (oe.mapFields (·.setIfInBounds 1 (Value.ref g1.objs.size))):=Heap.get?_update_self _ (Heap.get?_push_of_some _ he1) (Obj.isFreed_of_fields hdm)
 generalize ((g1.push ob).update e (Obj.mapFields (·.setIfInBounds 1 (Value.ref g1.objs.size)))) = h' at pk pT pe
 have nst:∀ b,b ∉ frs X.stack->b ∉ (env :: outer).filterMap (·.frame):=fun b hb=>by rw [hst] at hb; exact hb
 have kk:∀ b o,b ∉ [e]->b ∉ frs X.stack->s1.heap.get? b = some o->h'.get? b = some o:=fun b o hb hb2 h=>pk b o (fun z=>hb (by simp [z])) ((hg1.2.1 b (nst b hb2)).trans h)
 have ff:∀ b o,b ∉ [e]->s1.heap.get? b = some o->∃ sl,h'.get? b = some { o with slots:=sl }:=fun b o hb h=>by
  obtain ⟨sl,z⟩:=hg1.2.2 b o h
  exact ⟨sl,pk b _ (fun z=>hb (by simp [z])) z⟩
 have sT:s1.heap.get? g1.objs.size = none:=by
  cases z:s1.heap.get? g1.objs.size with
  | none=>rfl
  | some o=>have:=Heap.lt_size z; rw [hg1.1] at this; exact absurd this (Nat.lt_irrefl _)
 have hcm:(oe.mapFields (·.setIfInBounds 1 (Value.ref g1.objs.size))).cls = oe.cls:=Obj.cls_mapFields _ _
 have hdd:(oe.mapFields (·.setIfInBounds 1 (Value.ref g1.objs.size))).dict = none:=by
  rw [← hdn]; unfold Obj.mapFields; split <;> rfl
 have h3:∃ fl,(([head,.ref L,.none,rawInt L,.none] ++ (if pl.isEmpty then List.replicate 6 Value.none else pl)).toArray)[3]? = some fl:=⟨_,rfl⟩
 obtain ⟨fl,h3⟩:=h3
 refine q h' (O.flown J (S:=[e]) (fun b hb=>?_) kk ff) ⟨e0,eH,_,_,pe,⟨hcm,hdd⟩,hdm,by rw [Array.size_setIfInBounds]; exact hsz,.inr ⟨_,ob,_,fl,Array.getElem?_setIfInBounds_self_of_lt hsz,?_,J.hok.noneAt sT,nTe,pT,hobd,h3⟩⟩ fun b o h=>?_
 ·rw [List.mem_singleton.mp hb]; exact ⟨e0,eH⟩
 ·cases z:h0.get? g1.objs.size with
  | none=>rfl
  | some o=>obtain ⟨o',z2⟩:=k01 _ o z; rw [sT] at z2; cases z2
 ·by_cases hb:b∈[e]
  ·rw [List.mem_singleton.mp hb]; exact ⟨_,pe⟩
  ·obtain ⟨sl,z⟩:=ff b o hb h; exact ⟨_,z⟩
theorem zeb {M:Model}{E:Value->Shared->Prop}{env:Env}{outer:List Env}{L e:Addr}{cls:Value}{tr:Bool}{Q:Unit->Shared->Prop}
  (O:Old X zp h0) (J:Inv X zp σ H s1) (k01:∀ b o,h0.get? b = some o->∃ o',s1.heap.get? b = some o') (hst:X.stack = env :: outer) (hf:env.frame = some L)
  (fl:Flies tr h0 H s1.heap e cls) (q:∀ h',Inv X zp σ H { s1 with heap:=h' }->Flies true h0 H h' e cls->(∀ b o,s1.heap.get? b = some o->∃ o',h'.get? b = some o')->Q () { s1 with heap:=h' }):
  wpAny M X.A (noteFrame (.ref e) env) Q E s1:=by
 obtain ⟨e0,eH,oe,vs,he,hc,hd,hsz,r⟩:=fl
 unfold noteFrame
 simp only [hf]
 rcases r with ⟨_,h1⟩ | ⟨T,oT,ts,f,h1,T0,TH,Te,hT,hdT,h3⟩
 ·refine wpAny_bind (wpAny_field he hd h1 ?_)
  rw [if_neg (by decide)]
  exact zfc O J k01 hst hf he hd hc.2 hsz e0 eH (by rw [hc.1]; exact q)
 ·refine wpAny_bind (wpAny_field he hd h1 ?_)
  rw [if_pos (by simp)]
  refine wpAny_bind (wpAny_field hT hdT h3 (?_))
  by_cases hfl:(f == rawInt L) = true
  ·rw [if_pos hfl]
   exact wpAny_pure (q s1.heap J ⟨e0,eH,oe,vs,he,hc,hd,hsz,.inr ⟨T,oT,ts,f,h1,T0,TH,Te,hT,hdT,h3⟩⟩ fun b o z=>⟨o,z⟩)
  ·rw [if_neg hfl]
   have hs3:=(Array.getElem?_eq_some_iff.mp h3).1
   refine wpAny_bind (wpAny_setField hT hdT hs3 ?_)
   have he':(s1.heap.update T (Obj.mapFields (·.setIfInBounds 3 Value.none))).get? e = some oe:=(Heap.get?_update_other _ _ Te).trans he
   have kk:∀ b o,b ∉ [T]->s1.heap.get? b = some o->(s1.heap.update T (Obj.mapFields (·.setIfInBounds 3 Value.none))).get? b = some o:=fun b o hb h=>(Heap.get?_update_other _ _ (fun z=>hb (by simp [z]))).trans h
   have th:∀ b o,s1.heap.get? b = some o->∃ o',(s1.heap.update T (Obj.mapFields (·.setIfInBounds 3 Value.none))).get? b = some o':=fun b o h=>by
    by_cases hb:b∈[T]
    ·rw [List.mem_singleton.mp hb]; exact ⟨_,Heap.get?_update_self _ hT (Obj.isFreed_of_fields (Obj.data_mapFields hdT _))⟩
    ·exact ⟨o,kk b o hb h⟩
   have J':=O.flown J (S:=[T]) (fun b hb=>by rw [List.mem_singleton.mp hb]; exact ⟨T0,TH⟩) (fun b o hb _ h=>kk b o hb h) fun b o hb h=>⟨o.slots,kk b o hb h⟩
   refine zfc (s1:={ s1 with heap:=s1.heap.update T (Obj.mapFields (·.setIfInBounds 3 Value.none)) }) O J' (fun b o h=>?_) hst hf he' hd hc.2 hsz e0 eH (by rw [hc.1]; exact fun h' a b c=>q h' a b fun b o z=>(let ⟨o',z'⟩:=th b o z; c b o' z'))
   obtain ⟨o',h'⟩:=k01 b o h
   exact ⟨o',kk b o' (fun z=>by rw [List.mem_singleton.mp z,T0] at h; cases h) h'⟩
theorem zbB {M:Model}{A:Around}{E:Value->Shared->Prop}{x:Option Addr}{e:Addr}{cls:Value}{Q:Unit->Shared->Prop}
  (O:Old X zp h0) (J:Inv X zp σ H s1) (fl:Flies true h0 H s1.heap e cls)
  (q:∀ h',Inv X zp σ H { s1 with heap:=h' }->Flies true h0 H h' e cls->(∀ b o,s1.heap.get? b = some o->∃ o',h'.get? b = some o')->Q () { s1 with heap:=h' }):wpAny M A (setFlight (.ref e) x) Q E s1:=by
 obtain ⟨e0,eH,oe,vs,he,hc,hd,hsz,r⟩:=fl
 rcases r with ⟨z,_⟩ | ⟨T,oT,ts,f,h1,T0,TH,Te,hT,hdT,h3⟩
 ·cases z
 unfold setFlight; refine wpAny_bind (wpAny_field he hd h1 (?_))
 rw [if_pos (by simp)]
 have hs3:=(Array.getElem?_eq_some_iff.mp h3).1
 refine wpAny_setField hT hdT hs3 (q _ ?_ ⟨e0,eH,oe,vs,(Heap.get?_update_other _ _ Te).trans he,hc,hd,hsz,.inr ⟨T,_,_,_,h1,T0,TH,Te,Heap.get?_update_self _ hT (Obj.isFreed_of_fields (Obj.data_mapFields hdT _)),Obj.data_mapFields hdT _,Array.getElem?_setIfInBounds_self_of_lt hs3⟩⟩ fun b o h=>?_)
 rotate_left
 ·by_cases hb:b∈[T]
  ·rw [List.mem_singleton.mp hb]; exact ⟨_,Heap.get?_update_self _ hT (Obj.isFreed_of_fields (Obj.data_mapFields hdT _))⟩
  ·exact ⟨o,(Heap.get?_update_other _ _ (fun z=>hb (by simp [z]))).trans h⟩
 exact O.flown J (S:=[T]) (fun b hb=>by rw [List.mem_singleton.mp hb]; exact ⟨T0,TH⟩) (fun b o hb _ h=>(Heap.get?_update_other _ _ (fun z=>hb (by simp [z]))).trans h) fun b o hb h=>⟨o.slots,(Heap.get?_update_other _ _ (fun z=>hb (by simp [z]))).trans h⟩
theorem zi1 {M:Model}{E:Value->Shared->Prop}{env:Env}{outer:List Env}{L e:Addr}{cls:Value}{tr:Bool}{Q:Unit->Shared->Prop}
  (O:Old X zp h0) (J:Inv X zp σ H s1) (k01:∀ b o,h0.get? b = some o->∃ o',s1.heap.get? b = some o') (hst:X.stack = env :: outer) (hf:env.frame = some L)
  (fl:Flies tr h0 H s1.heap e cls) (q:∀ h',Inv X zp σ H { s1 with heap:=h' }->Flies true h0 H h' e cls->(∀ b o,s1.heap.get? b = some o->∃ o',h'.get? b = some o')->Q () { s1 with heap:=h' }):
  wpAny M X.A (leaving env (.ref e)) Q E s1:=by
 unfold leaving
 exact wpAny_bind (zeb O J k01 hst hf fl fun h' J' fl' t1=>zbB (s1:={ s1 with heap:=h' }) O J' fl' fun h2 J2 f2 t2=>q h2 J2 f2 fun b o z=>(let ⟨o',z'⟩:=t1 b o z; t2 b o' z'))
end
def CX1 (P:Program) (w:World):CXT:=fun outer H s E e s'=>∃ (ea C:Addr) (H':Hp),e = .ref ea/\s'.os = s.os/\AllBare s'.gens/\Un (frs outer) [] H H' s.heap s'.heap/\HOk P w H' s'.heap/\Flies true s.heap H' s'.heap ea (.ref C)/\E (.ref C) none H'
def Lets (X:Cx) (E:XK):Prop:=∀ (zp:List (Addr × Obj)) (h0:Heap) (σ:St) (H:Hp) (s1:Shared) (tr:Bool) (ea C:Addr),Old X zp h0->Inv X zp σ H s1->(∀ b o,h0.get? b = some o->∃ o',s1.heap.get? b = some o')->
 Flies tr h0 H s1.heap ea (.ref C)->E (.ref C) none H->X.xe (.ref ea) s1
theorem Lets.passes {X:Cx}{E:XK} (h:Lets X E):Passes (CX1 X.prog X.w) X E:=by
 intro zp σ H s e s' I ⟨ea,C,H',he,ho,hb,un,hok,fl,hE⟩
 subst he
 exact h zp s.heap σ H' s' true ea C I.old (I.call' ho un hok hb (by simp)) (fun b o q=>un.there b o q (by simp)) fl hE
section
variable {P:Program}{w:World}{K:PySem.W.Frag}{mg:Str->Option Value}{base:Heap}{N:List Str}{qual:Str}{scope:Scope}{f:Addr}{cd:Value}{A:Around}{outer:List Env}{s:Shared}{H:Hp}{E:XK}
theorem zaf:Lets (cxOf (CX1 P w) P w K mg base N qual scope f cd A outer s H E) E:=by
 intro zp h0 σ H1 s1 tr ea C O J k01 fl hE
 refine zi1 O J k01 rfl rfl fl fun h' J' fl' _=>?_
 exact ⟨ea,C,H1,rfl,J'.os,J'.bare,J'.base,J'.hok,fl'.earlier fun b o q=>O.ent b o q (by show b ∉ ([]:List Addr); simp),hE⟩
theorem zm6:PassesOwn (model (cxOf (CX1 P w) P w K mg base N qual scope f cd A outer s H E).prog (cxOf (CX1 P w) P w K mg base N qual scope f cd A outer s H E).w) (cxOf (CX1 P w) P w K mg base N qual scope f cd A outer s H E).A (cxOf (CX1 P w) P w K mg base N qual scope f cd A outer s H E).env (cxOf (CX1 P w) P w K mg base N qual scope f cd A outer s H E).xe:=PassesOwn.leaving
end
theorem zlQ {X:Cx}{E:XK}{scope:Scope}{cl:List (Str × Addr)}{NY:List Str}{C:Addr}{s:Shared}{H:Hp}{fp:List Addr} (hl:Lets X E) (hst:X.stack = X.env :: X.outer) (hf:∃ L,X.env.frame = some L)
  (hI:∃ zp σ,Inv X zp σ H s/\∀ b∈fp,FpOk X zp H b):Lets (zH X scope cl NY C s H fp) E:=by
 intro zp h0 σ H1 s1 tr ea D O J k01 fl hE
 obtain ⟨px,σx,IX,fpx⟩:=hI
 obtain ⟨L,hL⟩:=hf
 show wpAny (model X.prog X.w) X.A (noteFrame (.ref ea) X.env) (fun _ s''=>compPost (model X.prog X.w) X.A X.xe none (fun _ _=>False) .none C (.error (.ref ea)) s'') _ s1
 refine zeb (X:=zH X scope cl NY C s H fp) O J k01 hst hL fl fun h' J' fl' th=>?_
 obtain ⟨m,hn,_⟩:=J'.loc
 refine ⟨m,hn,fun h2 hs cenv hce=>?_⟩
 have hCab:s.heap.objs.size<=C:=J.ok.above
 have ltC:∀ b o,s.heap.get? b = some o->b≠C:=fun b o e z=>absurd (Nat.lt_of_lt_of_le (Heap.lt_size e) hCab) (by rw [z]; exact Nat.lt_irrefl _)
 have HC:H1 C = none:=J'.free
 have oc:∃ o,h0.get? C = some o:=O.loc
 have eC:ea≠C:=fun z=>by obtain ⟨o,e⟩:=oc; rw [← z,fl'.1] at e; cases e
 have hok2:HOk X.prog X.w H1 h2:=J'.hok.other HC hs
 have b4:=J'.base
 have un:Un (frs X.stack) fp H H1 s.heap h2:=by
  refine ⟨fun b o e n hb hx=>(hs.2 b (ltC b o e)).trans (b4.keep b o e n hb hx),fun b o e n hb hx=>?_,b4.free,fun b o e hx=>?_,b4.tups,b4.frzs,b4.tbls⟩
  ·obtain ⟨sl,q⟩:=b4.slot b o e n hb hx
   exact ⟨sl,(hs.2 b (ltC b o e)).trans q⟩
  ·obtain ⟨o',q⟩:=b4.there b o e hx
   exact ⟨o',(hs.2 b (ltC b o e)).trans q⟩
 have K2:Inv X px σx H1 { s1 with heap:=h2 }:=IX.call' (s':={ s1 with heap:=h2 }) (ch:=fp) J'.os un hok2 J'.bare fun b hb=>⟨(fpx b hb).2.2.2.1,(fpx b hb).2.1,(fpx b hb).2.2.2.2.1,(fpx b hb).2.2.2.2.2⟩
 have nofp:∀ b,b∈fp->FpOk X px H b:=fpx
 have cut:∀ b,h0.get? b = none->(cutH h0 [C]).get? b = none:=fun b hb=>by
  by_cases z:b∈[C]
  ·exact zi0 z
  ·rw [zea z]; exact hb
 have into:∀ b o,s.heap.get? b = some o->b ∉ fp->∃ o',(cutH h0 [C]).get? b = some o':=fun b o e hx=>by
  obtain ⟨o',q⟩:=O.ent b o e hx
  exact ⟨o',by rw [zea (fun z=>ltC b o e (List.mem_singleton.mp z))]; exact q⟩
 have OX:Old X px (cutH h0 [C]):=by
  refine ⟨fun b o e hx=>?_,?_,fun x c e=>?_,fun p hp=>?_⟩
  ·obtain ⟨o',q⟩:=IX.base.there b o e hx
   refine into b o' q fun z=>?_
   rcases (fpx b z).2.2.2.1 with y | y
   ·exact hx y
   ·exact absurd (Nat.lt_of_lt_of_le (Heap.lt_size e) y) (Nat.lt_irrefl _)
  ·obtain ⟨_,⟨o,_,_,e,_⟩,_⟩:=IX.loc
   exact into _ o e fun z=>(fpx _ z).2.1 rfl
  ·obtain ⟨_,o,ho,_⟩:=IX.cell x c e
   exact into c o ho fun z=>(fpx c z).2.2.2.2.1 x c e rfl
  ·exact into p.1 p.2 (IX.pin p hp).1 fun z=>(fpx p.1 z).2.2.2.2.2 p hp rfl
 obtain ⟨e0,eH,oe,vs,he,hc,hd,hsz,r⟩:=fl'
 rcases r with ⟨z,_⟩ | ⟨T,oT,ts,g,h1,T0,TH,Te,hT,hdT,h3⟩
 ·cases z
 have TC:T≠C:=fun z=>by obtain ⟨o,e⟩:=oc; rw [← z,T0] at e; cases e
 have f2:Flies true (cutH h0 [C]) H1 h2 ea (.ref D):=⟨cut _ e0,eH,oe,vs,(hs.2 ea eC).trans he,hc,hd,hsz,.inr ⟨T,oT,ts,g,h1,cut _ T0,TH,Te,(hs.2 T TC).trans hT,hdT,h3⟩⟩
 unfold PySem.passOn
 refine wpAny_bind (wpAny_field ((hs.2 ea eC).trans he) hd h1 ?_)
 rw [if_neg (by simp)]
 refine wpAny_bind (zbB (s1:={ s1 with heap:=h2 }) OX K2 f2 fun h3 J3 f3 t3=>wpAny_throw ?_)
 refine hl px (cutH h0 [C]) σx H1 _ true ea D OX J3 (fun b o e=>?_) f3 hE
 have hb:b ∉ [C]:=fun z=>by rw [zi0 z] at e; cases e
 rw [zea hb] at e
 obtain ⟨o1,e1⟩:=k01 b o e
 obtain ⟨o2,e2⟩:=th b o1 e1
 exact t3 b o2 ((hs.2 b (fun z=>hb (by simp [z]))).trans e2)
def Zy (P:Program) (w:World) (K:PySem.W.Frag) (mg:Str->Option Value) (base:Heap) (x:Str) (k:Nat) (ps:List Str) (sp:Sp):Prop:=
 ∃ (f:Addr) (fd:FuncData),FnOk P w K mg base (CX1 P w) k f fd ps sp/\Binds K fd ps []/\keepIn K (.ref f) = true/\mg x = some (.ref f)
theorem Zy.mono {P:Program}{w:World}{K:PySem.W.Frag}{mg:Str->Option Value}{base:Heap}{x:Str}{j k:Nat}{ps:List Str}{sp:Sp} (h:Zy P w K mg base x j ps sp) (e:j<=k):Zy P w K mg base x k ps sp:=
 let ⟨f,fd,F,r⟩:=h; ⟨f,fd,F.mono e,r⟩
section
variable {X:Cx}{E:XK}{x:Str}{k:Nat}{ps:List Str}{sp:Sp}{e:Expr}{es:List Expr}{t:TA}{p pos:Pos}
theorem ZW (G:Zy X.prog X.w X.K X.mg X.base x k ps sp) (hr:Room k X.A) (hl:Lets X E) (hg:Gl X x) (ha:PA X (e :: es) t) (hdb:(x == ("__debug__":Str)) = false:=by decide)
  (he:starEach (e :: es) X.env = (false,eval e X.env) :: starEach es X.env:=by rfl) (hpl:(backTo pos (starEach es X.env)).any (·.1) = false:=by rfl):
  PE X (.Call (.Name x p) (e :: es) [] pos) (zcX sp [] E t):=by
 obtain ⟨f,fd,F,b,kp,m⟩:=G
 exact zil F hr hg m kp b .nil hl.passes ha hdb he hpl
end
theorem Fun.okX {P:Program}{w:World}{K:PySem.W.Frag}{mg:Str->Option Value}{base:Heap}{x qual:Str}{st:Stmt}{f:Addr}{fd:FuncData}{N ps:List Str}{k:Nat}{sp:Sp} (F:Fun K x qual st f fd) (sc:FnScope N ps (zl st)) (h1:∀ (vs:List V) (H:Hp) (Q:VK) (E:XK),sp vs H Q E->vs.length = ps.length)
  (h2:∀ (cdv:Value) (A:Around) (outer:List Env) (s:Shared) (H:Hp) (vs:List V) (Q:VK) (E:XK),Room k (A.deeper (PyProof.Rows.envOfC qual (zl st) s.heap.objs.size f cdv))->sp vs H Q E->
   ∃ t:TS,QSs (cxOf (CX1 P w) P w K mg base N qual (zl st) f cdv A outer s H E) (zaM st) t/\t { nx:=fun _ H'=>Q V.non H',rt:=Q } (L2.start N vs) H):FnOk P w K mg base (CX1 P w) (k + 1) f fd ps sp:=by
 obtain ⟨oc,od,kV,doc,pm,an,cdv,ct,osl,rfl,lk,hcd⟩:=F.ex
 refine zmE lk hcd sc h1 fun A outer s H vs Q E hr hsp=>?_
 obtain ⟨t,h,q⟩:=h2 cdv A outer s H vs Q E hr hsp
 exact ⟨t,h.un,q⟩
def vErr:List Value:=[.type "ValueError",.type "Exception",.type "BaseException",.type "object"]
theorem zm7 {K:PySem.W.Frag}{h:Heap}{C:Addr}{bmB:List Value}{newId:String} (X:K.In h) (q:excIn K C bmB newId = true):
  ∃ bm N nm q bs hdct sn sub ab col dd k0 k1 k2 k3 k5 mN,h.get? C = some (excClassObj nm q C N bs bm hdct sn sub ab col dd k0 k1 k2 k3 k5 newId)/\h.Ns N mN/\mN "__init__" = none/\OwnTail h bmB bm:=by
 unfold excIn at q
 split at q
 case h_2=>cases q
 rename_i dd cd sl ho
 split at q
 case h_2=>cases q
 rename_i C' bm k0 k1 k2 k3 n k5 hm hs
 simp only [Bool.and_eq_true,Bool.not_eq_true',beq_iff_eq] at q
 obtain ⟨⟨⟨⟨⟨rfl,rfl⟩,hdel⟩,ht⟩,hk⟩,hi⟩:=q
 obtain ⟨nm,bs,mr,ns,qn,hd,sn,sub,ab,col,dl⟩:=cd
 dsimp only at hm hdel hk hi
 subst hm hdel
 obtain ⟨l⟩:=sl
 simp only at hs
 subst hs
 exact ⟨bm,ns,nm,qn,bs,hd,sn,sub,ab,col,dd,k0,k1,k2,k3,k5,_,X _ _ ho,.of_isNs (PySem.W.isNs_of_in X hk),PySem.W.nsMap_none_of_in X hk hi,PySem.W.tail_of_in X ht⟩
def zlb (E:XK) (C:Addr) (t:TA):TS:=fun _ σ H=>t σ H fun vs H1=>vs.length<=sizeLine/\E (.ref C) none H1
theorem Zz {X:Cx}{E:XK}{C:Addr}{x:Str}{e:Expr}{es:List Expr}{t:TA}{np cpos pos:Pos} (hl:Lets X E) (hc:X.calm = true) (hk:excIn X.K C vErr "ValueError.__new__" = true) (hm:X.mg x = some (.ref C)) (hg:Gl X x)
  (ha:PA X (e :: es) t) (hd:(x == ("__debug__":Str)) = false:=by decide) (he:starEach (e :: es) X.env = (false,eval e X.env) :: starEach es X.env:=by rfl) (hpl:(backTo cpos (starEach es X.env)).any (·.1) = false:=by rfl):
  PS X (.Raise (some (.Call (.Name x np) (e :: es) [] cpos)) none pos) (zlb E C t):=by
 intro zp s σ H D I h
 obtain ⟨bm,N,nm,qn,bs,hdct,sn,sub,ab,col,dd,k0,k1,k2,k3,k5,mN,hC,hN,hni,T⟩:=zm7 I.mod.kin hk
 refine wpAny_Raise_call_subT (C:=C) (nm:=nm) (q:=qn) (N:=N) (bs:=bs) (bm:=bm) (hdct:=hdct) (sn:=sn) (sub:=sub) (ab:=ab) (col:=col) (dd:=dd) (k0:=k0) (k1:=k1) (k2:=k2) (k3:=k3) (k5:=k5) (mN:=mN) PySem.F.excBase_ValueError (T.hasType (by decide +kernel)) (I.ok.hd hc) ?_ hni (zcS I hg hm ⟨rfl,?_⟩ hd)
 ·rw [he]
  show (false || (backTo cpos (starEach es X.env)).any (·.1)) = false
  rw [hpl]; rfl
 have hA:=ha cpos zp s σ H _ I h
 rw [he] at hA ⊢
 refine Calls.evalArgs_plain (wpAny_mono hA (fun us s2 h2=>?_) fun _ _ y=>y)
 obtain ⟨vs,H2,I2,r2,hz,hE⟩:=h2
 have k2:=I2.bk
 refine ⟨rfl,by show us.length<=_; rw [← r2.length]; exact hz,k2 _ _ hC,hN.keeps k2,T.keeps k2,fun h' ea hm=>?_⟩
 obtain ⟨tp,h1,h2,h3⟩:=hm.there
 have J:Inv X zp σ H2 { s2 with heap:=h' }:=I2.kept (t':=s2.toks) hm.keeps
 exact hl zp s2.heap σ H2 { s2 with heap:=h' } false ea C I2.old J (fun b o q=>⟨o,hm.keeps b o q⟩) ⟨hm.new,I2.hok.noneAt hm.new,_,_,h1,⟨rfl,rfl⟩,rfl,(by show 1 < 6; decide),.inl ⟨rfl,rfl⟩⟩ hE
def excO (a C:Addr):HO:=.ext fun h=>∃ o vs,h.get? a = some o/\o.cls = .ref C/\o.dict = none/\o.data = .fields vs
theorem zlR {P:Program}{w:World}{H:Hp}{h:Heap}{a C:Addr}{o:Obj}{vs:Array Value} (e:h.get? a = some o) (c:o.cls = .ref C) (d:o.dict = none) (f:o.data = .fields vs):ZO P w H h a (excO a C):=
 ⟨⟨o,vs,e,c,d,f⟩,⟨o,e⟩,fun h1 h2 ⟨o,vs,e,r⟩ k=>⟨o,vs,k o e,r⟩⟩
section
variable {X:Cx}{zp:List (Addr × Obj)}{σ:St}{H:Hp}{h0:Heap}{s:Shared}
theorem Inv.tracked {a:Addr}{o:HO} (J:Inv X zp σ H s) (O:Old X zp h0) (a0:h0.get? a = none) (aH:H a = none) (new:ZO X.prog X.w (upd H a o) s.heap a o):Inv X zp σ (upd H a o) s:=by
 have ne:∀ b u,h0.get? b = some u->b≠a:=fun b u e z=>by rw [z,a0] at e; cases e
 have nH:∀ b u,H b = some u->b≠a:=fun b u e z=>by rw [z,aH] at e; cases e
 have b4:=J.base
 refine ⟨J.ok,J.os,J.bare,⟨b4.keep,b4.slot,fun b u e n hx=>?_,b4.there,fun b xs e=>?_,fun b u v e=>?_,fun b ps e=>?_⟩,J.loc,J.cell,?_,fun x c e=>?_,fun p hp=>?_,J.hok.track aH new,J.len⟩
 ·obtain ⟨o',q⟩:=O.ent b u e hx
  rw [zu (ne b o' q)]
  exact b4.free b u e n hx
 ·have:=b4.tups b xs e
  rw [zu (nH _ _ this)]
  exact this
 ·have:=b4.frzs b u v e
  rw [zu (nH _ _ this)]
  exact this
 ·obtain ⟨more,this⟩:=b4.tbls b ps e
  exact ⟨more,by rw [zu (nH _ _ this)]; exact this⟩
 ·obtain ⟨o',q⟩:=O.loc
  rw [zu (ne _ o' q)]
  exact J.free
 ·obtain ⟨o',q⟩:=O.cel x c e
  rw [zu (ne _ o' q)]
  exact J.freeC x c e
 ·obtain ⟨h1,h2,h3⟩:=J.pin p hp
  obtain ⟨o',q⟩:=O.pin p hp
  exact ⟨h1,by rw [zu (ne _ o' q)]; exact h2,h3⟩
theorem Inv.renamed {σ':St}{h':Heap}{m':Str->Option Value}{t':Nat} (J:Inv X zp σ H s) (hs:Heap.SameBut X.env.locals s.heap h') (hn:h'.Ns X.env.locals m') (hl:σ'.length = σ.length)
  (hw:∀ (i:Nat) (x:Str) (v:V),X.N[i]? = some x->σ'[i]? = some (some v)->Vis X.env.scope x->∃ u,RelV v u/\Look X.env s.heap m' x u):Inv X zp σ' H { s with heap:=h',toks:=t' }:=by
 have b4:=J.base
 have ne:∀ b u,X.s₀.heap.get? b = some u->b≠X.env.locals:=fun b u e z=>absurd (Nat.lt_of_lt_of_le (Heap.lt_size e) J.ok.above) (by rw [z]; exact Nat.lt_irrefl _)
 have ck:∀ {c:Addr}{v:Option Value}{x:Str},X.env.cells.lookup x = some c->s.heap.IsCell c v->h'.IsCell c v:=fun {c v x} e z=>by
  obtain ⟨o,ho,hd⟩:=z
  exact ⟨o,(hs.2 c (J.cne x c e)).trans ho,hd⟩
 refine ⟨J.ok,J.os,J.bare,⟨fun b u e n hb hx=>(hs.2 b (ne b u e)).trans (b4.keep b u e n hb hx),fun b u e n hb hx=>?_,b4.free,fun b u e hx=>?_,b4.tups,b4.frzs,b4.tbls⟩,⟨m',hn,fun i x v h1 h2 h3=>?_⟩,fun x c e=>?_,J.free,J.freeC,fun p hp=>?_,J.hok.other J.free hs,hl.trans J.len⟩
 ·obtain ⟨sl,q⟩:=b4.slot b u e n hb hx
  exact ⟨sl,(hs.2 b (ne b u e)).trans q⟩
 ·obtain ⟨o',q⟩:=b4.there b u e hx
  exact ⟨o',(hs.2 b (ne b u e)).trans q⟩
 ·obtain ⟨u,r,lk⟩:=hw i x v h1 h2 h3
  refine ⟨u,r,?_⟩
  rcases lk with lk | ⟨lk,c,hc,z⟩
  ·exact .inl lk
  ·exact .inr ⟨lk,c,hc,ck hc z⟩
 ·obtain ⟨v,z⟩:=J.cell x c e
  exact ⟨v,ck e z⟩
 ·obtain ⟨h1,h2,h3,h4⟩:=J.pin p hp
  exact ⟨(hs.2 _ h3).trans h1,h2,h3,h4⟩
end
abbrev Cx.by (X:Cx) (E:Value->Shared->Prop) (pn:List (Addr × Obj)):Cx:={ X with xe:=E,pn:=pn }
section
variable {X:Cx}{zp pins':List (Addr × Obj)}{σ:St}{H:Hp}{s:Shared}{E:Value->Shared->Prop}
theorem Cx.Ok.by (ok:X.Ok) (E:Value->Shared->Prop) (pn:List (Addr × Obj)):(X.by E pn).Ok:=
 ⟨ok.mod,ok.kind,ok.glob,ok.blt,ok.above,ok.inj,ok.has,ok.cab,ok.hd,ok.frames,ok.stk,ok.exf,ok.bs,ok.bsz,ok.noex,ok.exfs,ok.funs,ok.frf⟩
theorem Cx.Ok.unby {pn:List (Addr × Obj)} (ok:(X.by E pn).Ok):X.Ok:=
 ⟨ok.mod,ok.kind,ok.glob,ok.blt,ok.above,ok.inj,ok.has,ok.cab,ok.hd,ok.frames,ok.stk,ok.exf,ok.bs,ok.bsz,ok.noex,ok.exfs,ok.funs,ok.frf⟩
theorem Inv.by (I:Inv X zp σ H s) (E:Value->Shared->Prop):Inv (X.by E (X.pn ++ zp)) [] σ H s:=
 ⟨I.ok.by E _,I.os,I.bare,I.base,I.loc,I.cell,I.free,I.freeC,fun p hp=>I.pin p (by simpa using hp),I.hok,I.len⟩
theorem Inv.unby (I:Inv (X.by E (X.pn ++ zp)) pins' σ H s):Inv X zp σ H s:=
 ⟨I.ok.unby,I.os,I.bare,I.base,I.loc,I.cell,I.free,I.freeC,fun p hp=>I.pin p (List.mem_append_left _ hp),I.hok,I.len⟩
theorem SP.unby {D:Ends}{f:Flow}{s':Shared} (h:SP (X.by E (X.pn ++ zp)) [] D f s'):SP X zp D f s':=by
 cases f with
 | next=>obtain ⟨σ',H',I,q⟩:=h; exact ⟨σ',H',I.unby,q⟩
 | brk=>obtain ⟨σ',H',I,q⟩:=h; exact ⟨σ',H',I.unby,q⟩
 | cont=>obtain ⟨σ',H',I,q⟩:=h; exact ⟨σ',H',I.unby,q⟩
 | ret u=>obtain ⟨v,σ',H',I,r,q⟩:=h; exact ⟨v,σ',H',I.unby,r,q⟩
abbrev Cx.suite (X:Cx) (e:Value):Cx:={ X with A:=X.A.mark (some e),calm:=false,xe:=fun _ _=>False }
theorem Inv.suite (I:Inv X zp σ H s) (e:Value):Inv (X.suite e) zp σ H s:=
 ⟨⟨I.ok.mod,I.ok.kind,I.ok.glob,I.ok.blt,I.ok.above,I.ok.inj,I.ok.has,I.ok.cab,(fun z=>nomatch z),I.ok.frames,I.ok.stk,I.ok.exf,I.ok.bs,I.ok.bsz,I.ok.noex,I.ok.exfs,I.ok.funs,I.ok.frf⟩,I.os,I.bare,I.base,I.loc,I.cell,I.free,I.freeC,I.pin,I.hok,I.len⟩
theorem Inv.unsuite {e:Value} (I:Inv (X.suite e) zp σ H s) (ok:X.Ok):Inv X zp σ H s:=⟨ok,I.os,I.bare,I.base,I.loc,I.cell,I.free,I.freeC,I.pin,I.hok,I.len⟩
end
def zf2 (K:PySem.W.Frag) (CF:Addr) (N:List Str) (i:Nat) (D:Ends):XK:=fun c _ H1=>∃ C,c = .ref C/\exmOne K (.ref C) (.ref CF) = some true/\∀ ea,H1 ea = none->D.nx ((List.replicate N.length none).set i (some (.ref ea))) (upd H1 ea (excO ea C))
def tTry (K:PySem.W.Frag) (CF:Addr) (N:List Str) (i:Nat) (tb:XK->TS):TS:=fun D σ H=>tb (zf2 K CF N i D) D σ H
theorem zi2 {X:Cx}{body:List Stmt}{tb:XK->TS}{i j:Nat}{y n F:Str}{CF:Addr}{np py pn pa hpos pos:Pos} (hst:X.stack = X.env :: X.outer) (hf:∃ L,X.env.frame = some L) (hm:X.mg F = some (.ref CF)) (hg:Gl X F)
  (hN:X.N.Nodup) (hi:X.N[i]? = some y) (hy:Loc X.env.scope y) (hj:X.N[j]? = some n) (hn:X.env.kindOf n = some .local) (yn:y≠n)
  (hb:∀ Ex pl E1,Lets (X.by Ex pl) E1->PSs (X.by Ex pl) body (tb E1)) (hd:(F == ("__debug__":Str)) = false:=by decide) (hdn:(n == ("__debug__":Str)) = false:=by decide) (hcn:(n == ("__classdict__":Str)) = false:=by decide)
  (hs:swapsWith (.Name n pn) (some (.Name y py)) pa.line X.env = pure false:=by rfl) (hfy:X.fn y = true\/X.env.scope.names.lookup y = some .local:=by first | exact .inl rfl | exact .inr rfl | assumption) (hfn:X.fn n = true\/X.env.scope.names.lookup n = some .local:=by first | exact .inl rfl | exact .inr rfl | assumption):
  PS X (.Try body [.ExceptHandler (some (.Name F np)) (some n) [.Assign [.Name y py] (.Name n pn) pa] hpos] [] [] pos) (tTry X.K CF X.N i tb):=by
 intro zp s σ H D I h
 obtain ⟨L,hL⟩:=hf
 have lets:Lets (X.by (fun e s₁=>wpAny (model X.prog X.w) X.A (noteFrame e X.env) (fun _ s₂=>wpAny (model X.prog X.w) X.A (setFlight e none) (fun _ s₃=>wpAny (model X.prog X.w) X.A (handleBy e X.env [.ExceptHandler (some (.Name F np)) (some n) [.Assign [.Name y py] (.Name n pn) pa] hpos]) (SP X zp D) X.xe s₃) X.xe s₂) X.xe s₁) (X.pn ++ zp)) (zf2 X.K CF X.N i D):=by
  intro px h0 σ1 H1 s1 tr ea C O J k01 fl hE
  have JX:Inv X zp σ1 H1 s1:=J.unby
  have OX:Old X zp h0:=⟨O.ent,O.loc,O.cel,fun p hp=>O.pin p (List.mem_append_left _ hp)⟩
  clear O J
  refine zeb OX JX k01 hst hL fl fun h2 J2 fl2 _=>?_
  refine zbB (s1:={ s1 with heap:=h2 }) OX J2 fl2 fun h3 J3 fl3 _=>?_
  obtain ⟨C',hC,hex,hD⟩:=hE
  cases hC
  refine wpAny_handleBy_cons (codeAny_handlers_test ?_) (by intro z; cases z)
  refine zcS (X:=X.suite (.ref ea)) (J3.suite _) hg hm ?_ hd
  obtain ⟨e0,eH,oe,vs,he,hc,hdd,hsz,r⟩:=id fl3
  have LT:PySem.W.Looks (model X.prog X.w) h3 (typeOf (.ref ea)) (.ref C):=hc.1 ▸ (PySem.W.Looks.ld he).andThen .now
  refine PySem.W.Looks.here (PySem.W.exm_one (J3.kIn) LT hex) ?_
  show codeAny _ _ _ _ _
  refine codeAny_handlers_suite_as (?_)
  refine zbB (s1:={ s1 with heap:=h3 }) OX J3 fl3 fun h4 J4 fl4 _=>?_
  obtain ⟨e0,eH,oe,vs,he,hc,hdd,hsz,r⟩:=fl4
  have old:∀ b u,h0.get? b = some u->b≠ea:=fun b u e z=>by rw [z,e0] at e; cases e
  have P4:Inv X ((ea,oe) :: zp) σ1 H1 { s1 with heap:=h4 }:=J4.pins_of fun p hp=>by
   rcases List.mem_cons.mp hp with rfl | hp
   ·refine ⟨he,eH,fun z=>?_,fun z=>?_,fun v z=>?_⟩
    ·obtain ⟨o',q⟩:=OX.loc
     exact old _ o' q z.symm
    ·obtain ⟨_,o',q,_⟩:=J4.ok.funs.mem z
     obtain ⟨o2,q2⟩:=OX.ent _ o' q fun z2=>J4.ok.exfs _ z2 z
     exact old _ o2 q2 rfl
    ·rw [hdd] at z; cases z
   ·exact J4.pin p (List.mem_append_right _ hp)
  have P5:Inv X ((ea,oe) :: zp) (List.replicate X.N.length none) H1 { s1 with heap:=h4 }:=P4.weak (by rw [List.length_replicate]; exact P4.len.symm) fun k v e=>by
   rw [List.getElem?_replicate] at e
   split at e <;> cases e
  have hjl:j < X.N.length:=(List.getElem?_eq_some_iff.mp hj).1
  have hil:i < X.N.length:=(List.getElem?_eq_some_iff.mp hi).1
  have hvn:Vis X.env.scope n:=.inl hn
  refine zcI (X:=X.suite (.ref ea)) (v:=.ref ea) (P5.suite _) hN hj (.inl hn) rfl (fun s5 I5=>?_) hfn
  have run:=zg (zn (X:=X.suite (.ref ea)) hN hi hy (zk0 (X:=X.suite (.ref ea)) (pos:=pn) hj hvn hdn hcn) hs hfy) ((ea,oe) :: zp) s5 _ H1
   { nx:=fun σ' H'=>σ' = ((List.replicate X.N.length none).set j (some (.ref ea))).set i (some (.ref ea))/\H' = H1,rt:=fun _ _=>False } I5 ⟨.ref ea,by rw [List.getElem?_set_self (by rw [List.length_replicate]; exact hjl)],rfl,rfl⟩
  refine wpAny_mono run (fun f s6 q6=>?_) (fun _ _ z=>z.elim)
  cases f with
  | brk=>obtain ⟨_,_,_,z⟩:=q6; exact z.elim
  | cont=>obtain ⟨_,_,_,z⟩:=q6; exact z.elim
  | ret u=>obtain ⟨_,_,_,_,_,z⟩:=q6; exact z.elim
  | next=>
   obtain ⟨σ6,H6,I6,rfl,rfl⟩:=q6
   have J6:Inv X ((ea,oe) :: zp) _ H6 s6:=I6.unsuite J4.ok
   obtain ⟨m,hnm,hlk⟩:=J6.loc
   refine wpAny_nameGoes_keeps hn hnm (by rw [J4.ok.kind]; rfl) fun h7 v hn7 hs7=>?_
   have J7:Inv X ((ea,oe) :: zp) ((List.replicate X.N.length none).set i (some (.ref ea))) H6 { s6 with heap:=h7,toks:=s6.toks + 1 }:=by
    refine J6.renamed hs7 hn7 (by simp) fun k x v' h1 h2 h3=>?_
    by_cases hki:k = i
    ·subst hki
     rw [hi] at h1
     cases h1
     rw [List.getElem?_set_self (by rw [List.length_replicate]; exact hil)] at h2
     cases h2
     obtain ⟨u,r,lk⟩:=hlk k y (.ref ea) hi (by rw [List.getElem?_set_self (by rw [List.length_set,List.length_replicate]; exact hil)]) h3
     refine ⟨u,r,?_⟩
     rcases lk with ⟨l1,l2⟩ | lk
     ·exact .inl ⟨l1,by show (if y = n then v else m y) = some u; rw [if_neg yn]; exact l2⟩
     ·exact .inr lk
    ·rw [List.getElem?_set_ne (Ne.symm hki),List.getElem?_replicate] at h2
     split at h2 <;> cases h2
   have pe:=(J7.pin (ea,oe) (by simp)).1
   have J8:Inv X zp ((List.replicate X.N.length none).set i (some (.ref ea))) H6 { s6 with heap:=h7,toks:=s6.toks + 1 }:=J7.pins_of fun p hp=>J7.pin p (List.mem_append_right _ (List.mem_cons_of_mem _ hp))
   exact ⟨_,_,J8.tracked OX e0 eH (zlR pe hc.1 hc.2 hdd),hD ea eH⟩
 refine wpAny_Try_except (wpAny_mono (hb _ (X.pn ++ zp) (zf2 X.K CF X.N i D) lets [] s σ H D (I.by _) h) (fun f s1 q=>?_) (fun e s1 q=>q))
 have q':=SP.unby q
 cases f with
 | next=>exact wpAny_execs_nil q'
 | brk=>exact q'
 | cont=>exact q'
 | ret u=>exact q'
structure IsX (K:PySem.W.Frag) (C:Addr):Prop where
 ga:findIn K (.ref C) "__getattribute__" = some (some (.builtin "BaseException.__getattribute__"))
 gh:findIn K (.ref C) "__getattr__" = some none
 ha:findIn K (.ref C) "__class__" = some (some (.builtin "object.__class__"))
 hn:specialIn K (.builtin "object.__class__") "__get__" = some (some (.builtin "getset_descriptor.__get__"))
 htk:takesIn K (.builtin "object.__class__") = some true
 hm:mroIn K C (.type "object") = some true
 hb:mroIn K C (.type "BaseException") = some true
section
variable {prog:Program}{w:World}{A:Around}{E:Value->Shared->Prop}{K:PySem.W.Frag}{s:Shared}{a C:Addr}{o:Obj}
theorem zlS {Q:Option Value->Shared->Prop} (Z:IsX K C) (X:K.In s.heap) (I:InstAt s.heap a o C none) (h:Q (some (.ref C)) { s with toks:=s.toks + 1 }):
  wpAny (model prog w) A (getAttr? (.ref a) "__class__") Q E s:=by
 obtain ⟨hh,g,d,t,os⟩:=s
 have T0:=I.type (M:=model prog w)
 have L1:=PySem.W.looks_findIn (M:=model prog w) X Z.ga
 have L2:=PySem.W.looks_findIn (M:=model prog w) X Z.gh
 have L3:=PySem.W.looks_mroIn (M:=model prog w) X Z.hb
 have hc:(clsIn K C).isSome = true:=by
  obtain ⟨cd,e,_⟩:=Option.bind_eq_some_iff.mp Z.hm
  rw [e]; rfl
 have hf:PySem.W.findObj K C none "__class__" = some (.bind (.builtin "getset_descriptor.__get__") (.builtin "object.__class__")):=by
  obtain ⟨cd,hcd⟩:=Option.isSome_iff_exists.mp hc
  unfold PySem.W.findObj
  rw [hcd,Option.bind_some,Z.ha,Option.bind_some]
  simp [Z.hn,Z.htk]
 have L4:=PySem.W.looks_find (M:=model prog w) X I hf
 unfold getAttr?; unfold getAttrBy?; unfold getAttrBy
 refine wpAny_bind (wpAny_mkText (wpAny_bind (wpAny_attempt (wpAny_holding ?_))))
 refine wpAny_bind (T0.at (wpAny_bind (L1.at ?_)))
 show wpAny _ _ (getAttrByItsOwn _ _ _ _ _ _) _ _ _
 unfold getAttrByItsOwn
 refine wpAny_bind (L2.at (wpAny_bind (wpAny_attempt (wpAny_holding ?_))))
 show wpAny _ _ (boundAndCalled _ _ _) _ _ _
 unfold boundAndCalled
 refine wpAny_bind (wpAny_of_eq (PySem.F.excAttr_ValueError.ga.bind (.ref a)) ?_)
 refine wpAny_call (codeAny_call_builtin PySem.F.excAttr_ValueError.ga.plain PySem.F.entry_bexc_ga ?_)
 have hbk:builtinKind "BaseException.__getattribute__" = some .slot:=by decide +kernel
 have hsp:splitId "BaseException.__getattribute__" = some ("BaseException","__getattribute__"):=by decide +kernel
 have hao:=PySem.F.args_bexc_ga (.ref a) (.str "__class__" t)
 have fin:∀ (Q':Fin->Shared->Prop) (E':Value->Shared->Prop),Q' (.done (.ret (.ref C))) ⟨hh,g,d,t + 1,os⟩->wpAny (model prog w) (A.in1) (Builtin.«object.__getattribute__» ⟨[.ref a,.str "__class__" t],[]⟩) Q' E' ⟨hh,g,d,t + 1,os⟩:=fun Q' E' hq=>by
  unfold Builtin.«object.__getattribute__»; refine wpAny_bind (wpAny_pure (?_))
  refine wpAny_bind (wpAny_pure (wpAny_bind (T0.at (wpAny_bind (L4.at ?_)))))
  show wpAny _ _ (holding [_] (call _ [_,_,_]) >>= ret) _ _ _
  refine wpAny_bind (wpAny_holding (wpAny_call (PySem.W.class_get (s:=⟨hh,g,d,t + 1,os⟩) (ox:=o) (od:=none) X I Z.hm ?_)))
  exact wpAny_pure hq
 simp only [checkBuiltinCall,hbk,hsp]
 show wpAny _ _ (isInstance (.ref a) (Value.type "BaseException") >>= _) _ _ _
 refine wpAny_bind ?_
 unfold isInstance
 refine wpAny_bind (T0.at (L3.at ?_))
 rw [if_neg (by decide)]
 refine wpAny_of_eq hao (fin _ _ ?_)
 show wpAny (model prog w) A (handedOut (.ref C)) _ _ _
 refine wpAny_of_eq (PySem.W.handedOut_of rfl) ?_
 exact wpAny_pure h
theorem zky (Z:IsX K C):PySem.W.KitX K (.ref a) (.ref C) (fun h=>∃ o,InstAt h a o C none) where
 ty:=fun _ _ _ ⟨_,I⟩=>I.type
 it:=fun _ _ X _=>by
  obtain ⟨cd,e,_⟩:=Option.bind_eq_some_iff.mp Z.hm
  unfold clsIn at e
  split at e
  ·rename_i c' d' cd' sl' ho
   intro A' Q' E' s' k q
   unfold isType loadHead
   have:=k _ _ (X _ _ ho)
   exact wpAny_bind (wpAny_loadPart this (wpAny_pure q))
  ·cases e
 ne:=fun h tp dd its n sl X ht=>by
  obtain ⟨cd,e,_⟩:=Option.bind_eq_some_iff.mp Z.hm
  refine Bool.eq_false_iff.mpr (fun q=>?_)
  have e2:C = tp:=Value.ref.inj (beq_iff_eq.mp q)
  subst e2
  unfold clsIn at e
  split at e
  ·rename_i c' d' cd' sl' ho
   cases (X _ _ ho).symm.trans ht
  ·cases e
 ca:=fun X ⟨_,I⟩ k=>zlS Z X I k
end
theorem zaa {X:Cx}{C:Addr}{c:V}{u:Value}{b:Bool} (Z:IsX X.K C) (rc:∀ v,RelV c v->v = u) (e:kitOne X.K (.ref C) u = some b):zaL X (.builtin "isinstance") (fun xs H Q=>∃ a,xs = [.ref a,c]/\H a = some (excO a C)/\Q (.bl b) H):=by
 intro zp s σ H xs us Q I r h
 obtain ⟨a,rfl,ea,q⟩:=h
 obtain ⟨u1,u2,rfl,r1,r2⟩:=zih r
 cases (show u1 = Value.ref a from r1)
 rw [rc _ r2]
 obtain ⟨⟨o,vs,h1,h2,h3,h4⟩,_⟩:=(show ZO X.prog X.w H s.heap a (excO a C) from I.hok a _ ea)
 refine kia_one (zky Z) I.kIn ⟨o,h1,h2,(by unfold PySem.W.notCls; rw [h4]),(by rw [h3]; trivial)⟩ e (fun z=>nomatch z) fun tk=>⟨.bl b,H,I.tok tk,rfl,q⟩
theorem zcA:bootBuiltins (Str.ofString "ValueError") = some (.type "ValueError"):=by kernel_rfl
end L2
namespace D
open PySem L2
section
variable {X:Cx}{E:XK}{x:Str}{k:Nat}{ps:List Str}{sp:Sp}{e:Expr}{es:List Expr}{t:TA}{p pos:Pos}
theorem ZW (G:Zy X.prog X.w X.K X.mg X.base x k ps sp) (hr:Room k X.A) (hl:Lets X E) (hg:Gl X x) (ha:QA X (e :: es) t) (hdb:(x == ("__debug__":Str)) = false:=by decide)
  (he:starEach (e :: es) X.env = (false,eval e X.env) :: starEach es X.env:=by rfl) (hpl:(backTo pos (starEach es X.env)).any (·.1) = false:=by rfl):
  QE X (.Call (.Name x p) (e :: es) [] pos) (zcX sp [] E t):=⟨L2.ZW G hr hl hg ha.un hdb he hpl⟩
theorem Zz {C:Addr}{np cpos:Pos} (hl:Lets X E) (hc:X.calm = true) (hk:excIn X.K C vErr "ValueError.__new__" = true) (hm:X.mg x = some (.ref C)) (hg:Gl X x)
  (ha:QA X (e :: es) t) (hd:(x == ("__debug__":Str)) = false:=by decide) (he:starEach (e :: es) X.env = (false,eval e X.env) :: starEach es X.env:=by rfl) (hpl:(backTo cpos (starEach es X.env)).any (·.1) = false:=by rfl):
  QS X (.Raise (some (.Call (.Name x np) (e :: es) [] cpos)) none pos) (zlb E C t):=⟨L2.Zz hl hc hk hm hg ha.un hd he hpl⟩
theorem zi2 {body:List Stmt}{tb:XK->TS}{i j:Nat}{y n F:Str}{CF:Addr}{np py pn pa hpos:Pos} (hst:X.stack = X.env :: X.outer) (hf:∃ L,X.env.frame = some L) (hm:X.mg F = some (.ref CF)) (hg:Gl X F)
  (hN:X.N.Nodup) (hi:X.N[i]? = some y) (hy:Loc X.env.scope y) (hj:X.N[j]? = some n) (hn:X.env.kindOf n = some .local) (yn:y≠n)
  (hb:∀ Ex pl E1,Lets (X.by Ex pl) E1->QSs (X.by Ex pl) body (tb E1)) (hd:(F == ("__debug__":Str)) = false:=by decide) (hdn:(n == ("__debug__":Str)) = false:=by decide) (hcn:(n == ("__classdict__":Str)) = false:=by decide)
  (hs:swapsWith (.Name n pn) (some (.Name y py)) pa.line X.env = pure false:=by rfl) (hfy:X.fn y = true\/X.env.scope.names.lookup y = some .local:=by first | exact .inl rfl | exact .inr rfl | assumption) (hfn:X.fn n = true\/X.env.scope.names.lookup n = some .local:=by first | exact .inl rfl | exact .inr rfl | assumption):
  QS X (.Try body [.ExceptHandler (some (.Name F np)) (some n) [.Assign [.Name y py] (.Name n pn) pa] hpos] [] [] pos) (tTry X.K CF X.N i tb):=⟨L2.zi2 hst hf hm hg hN hi hy hj hn yn (fun Ex pl E1 h=>(hb Ex pl E1 h).un) hd hdn hcn hs hfy hfn⟩
end
theorem zaF {X:Cx}{elt iter:Expr}{x:Str}{px pos:Pos}{ifs:List Expr}{scope:Scope}{cl:List (Str × Addr)} (fr:List Nat) (ys:List Str) {wi:TI}{tt:TT}{te:TE} (h0:X.calm = true) (h1:closureFor scope X.env = pure cl) (h2:(∀ (y:Str × NameKind),y∈scope.names->y.snd≠NameKind.cell)) (h3:scope.kind = ScopeKind.function) (h4:(∀ (y:Str × NameKind),y∈scope.names->y.snd = NameKind.local->List.lookup y.fst scope.names = some NameKind.local)) (h5:List.lookup x scope.names = some NameKind.local) (h6:(x :: ys).Nodup) (h7:ClOk cl X.env.cells) (h8:(scope.names.all fun (y:Str × NameKind)=>y.snd != NameKind.free || (List.lookup y.fst cl).isSome) = true) (h9:FrOk X scope cl fr ys) (h10:QI X (Expr.Name x px) iter wi)
  (h11:∀ (C:Addr) (s:Shared) (H:Hp) (fp:List Addr),(∃ zp σ,Inv X zp σ H s/\∀ b∈fp,FpOk X zp H b)->QIfs (zH X scope cl (x :: ys) C s H fp) ifs tt/\QE (zH X scope cl (x :: ys) C s H fp) elt te)
  (hs:∀ v,foldedSetIterable iter X.env v = pure v:=by intro _; rfl):QE X (.ListComp elt [⟨.Name x px,iter,ifs,0⟩] scope pos) (zbd fr wi tt te):=
 ⟨L2.zaF fr ys h0 h1 h2 h3 h4 h5 h6 h7 h8 h9 h10.un (fun C s H fp hI=>⟨(h11 C s H fp hI).1.un,(h11 C s H fp hI).2.un⟩) hs⟩
end D
namespace L2
open PySem PySem.Spec PyProof.Rows
theorem zkz {X:Cx}:MtR X "str.find" (fun x xs H Q=>∃ (z y:Str) (i:Int),x = .str z/\xs = [.str y,.int i]/\Q (.int (Txt.find3 z y i)) H):=by
 intro zp s σ H x xs v us Q I rx rv h
 obtain ⟨z,y,i,rfl,rfl,q⟩:=h
 obtain ⟨t,rfl⟩:=rx
 obtain ⟨u,u2,rfl,⟨tu,rfl⟩,⟨tv,rfl⟩⟩:=zih rv
 exact SC.find3 ⟨.int _,H,I.tok _,⟨_,rfl⟩,q⟩
theorem zi3 {X:Cx}:MtR X "str.startswith" (fun x xs H Q=>∃ (z y:Str),x = .str z/\xs = [.str y]/\Q (.bl (Txt.startswith z y)) H):=by
 intro zp s σ H x xs v us Q I rx rv h
 obtain ⟨z,y,rfl,rfl,q⟩:=h
 obtain ⟨t,rfl⟩:=rx
 obtain ⟨u,rfl,tu,rfl⟩:=zbN rv
 exact SC.startswith ⟨.bl _,H,I,rfl,q⟩
theorem zec {X:Cx}:zaL X (.type "int") (fun xs H Q=>∃ (x:Str) (n:Int),xs = [.str x]/\PySem.intText? x = some n/\x.length<=640/\Q (.int n) H):=by
 intro zp s σ H xs us Q I r h
 obtain ⟨x,n,rfl,hn,hl,q⟩:=h
 obtain ⟨u,rfl,t,rfl⟩:=zbN r
 exact PySem.W.KIN.call_text hn hl ⟨.int n,H,I.tok _,⟨_,rfl⟩,q⟩
theorem zkA {K:PySem.W.Frag}{fr:List Nat}{tl te:TE}{σ:St}{H:Hp}{Q:VK}{a:Addr}{vs:List V} (Pv:Nat->List V->Hp->Prop) (hσ:∀ R:VK,R (.ref a) H->tl σ H R) (hS:SqT K H a vs) (hz:vs.length<=sizeLine) (h0:Pv 0 [] H) (hlen:∀ i us H1,Pv i us H1->us.length = i)
  (step:∀ (i:Nat) (v:V) (us:List V) (H1:Hp) (R:VK),vs[i]? = some v->Pv i us H1->Same H H1->(∀ y H2,Same H1 H2->Pv (i + 1) (us ++ [y]) H2->R y H2)->te (some v :: frees fr σ) H1 R)
  (fin:∀ (us:List V) (H1:Hp) (D:Addr),Pv vs.length us H1->Same H H1->H1 D = none->Q (.ref D) (upd H1 D (.lst us))):zbd fr (iTup K tl) (fun _ H Q=>Q true H) te σ H Q:=by
 refine hσ _ ⟨a,rfl,⟨vs,hS⟩,fun i m us H1=>i<=vs.length/\m = vs.length - i/\Pv i us H1/\Same H H1,⟨_,Nat.zero_le _,rfl,h0,Same.refl _⟩,fun i m us H1 hW=>?_⟩
 obtain ⟨hi,hm,hu,sm⟩:=hW
 refine ⟨by rw [hlen _ _ _ hu]; omega,?_⟩
 by_cases hlt:i < vs.length
 ·refine .inr ⟨⟨vs,vs[i],sm.seqT hS,List.getElem?_eq_getElem hlt⟩,fun v H' hy=>?_⟩
  obtain ⟨rfl,hv⟩:=hy
  have hv:=hv vs (sm.seqT hS)
  refine iteT ?_
  exact step i v us H' _ hv hu sm fun y H2 s2 p2=>⟨vs.length - (i + 1),by omega,by omega,rfl,p2,sm.trans s2⟩
 ·have e:i = vs.length:=by omega
  subst e
  exact .inl ⟨⟨vs,sm.seqT hS,by omega⟩,fun D hD=>fin us H1 D hu sm hD⟩
end L2
namespace D
open PySem L2
theorem zgO {z:Str}{a b:Nat} (h1:a<=b) (h2:b<=z.length):(Txt.slice z (some (a:Int)) (some (b:Int))).cps.toList = (z.cps.toList.drop a).take (b - a):=by
 have e:=PyProof.Rows.slice_closes (x:=z) (i:=(a:Int)) (j:=(b:Int)) ⟨by omega,by omega,by rw [zt]; omega⟩
 have e2:=eq_of_beq e
 rw [e2]
 simp
 try (congr 1; omega)
theorem zaZ {z:Str}{a:Nat} (h1:a<=z.length):(Txt.slice z (some (a:Int)) none).cps.toList = z.cps.toList.drop a:=by
 rw [PyProof.Rows.slice_from_eq (x:=z) (i:=(a:Int)) (b:=(z.length:Int)) (by omega) (by omega) rfl]
 simp
 rw [List.take_of_length_le]
 rw [List.length_drop,zt]
 omega
theorem zed {z:Str}{i c:Nat} (h:z.cps.toList[i]? = some c):z.cps.getD i 0 = c:=by
 have:z.cps[i]? = some c:=by simpa using h
 simp [Array.getD_eq_getD_getElem?,this]
theorem zhK {z:Str}{pre q r:List Nat} (hz:z.cps.toList = pre ++ 34 :: (q ++ 34 :: r)) (hq:∀ c∈q,c≠34):Txt.find3 z ⟨#[34]⟩ (((pre.length:Nat):Int) + 1) = ((pre.length + 1 + q.length:Nat):Int):=by
 have hl:z.length = pre.length + 1 + q.length + 1 + r.length:=by
  rw [← zt,hz]; simp; omega
 have hf:fromIndex z.length (((pre.length:Nat):Int) + 1) = pre.length + 1:=by
  unfold fromIndex
  rw [if_neg (by omega)]
  omega
 have atq:z.cps.toList[pre.length + 1 + q.length]? = some 34:=by
  rw [hz,List.getElem?_append_right (by omega)]
  rw [show pre.length + 1 + q.length - pre.length = (q.length) + 1 by omega,List.getElem?_cons_succ,List.getElem?_append_right (by omega)]
  simp
 have atv:∀ v,pre.length + 1<=v->v < pre.length + 1 + q.length->z.cps.getD v 0≠34:=fun v h1 h2=>by
  have hv:v - pre.length - 1 < q.length:=by omega
  obtain ⟨u,hu⟩:∃ u,u = v - pre.length - 1:=⟨_,rfl⟩
  have hv2:u < q.length:=by omega
  have e:z.cps.toList[v]? = some (q[u]):=by
   rw [hz,List.getElem?_append_right (by omega)]
   rw [show v - pre.length = u + 1 by omega,List.getElem?_cons_succ,List.getElem?_append_left hv2]
   simp
  rw [zed e]
  exact hq _ (List.getElem_mem hv2)
 rcases StrLaws.find3_spec z 34 (((pre.length:Nat):Int) + 1) with ⟨_,hn⟩ | ⟨k,hk,h1,h2,h3,h4⟩
 ·exact absurd (zed atq) (hn _ (by omega) (by omega))
 ·rw [hk]
  rw [hf] at h1 h4
  have:k = pre.length + 1 + q.length:=by
   rcases Nat.lt_trichotomy k (pre.length + 1 + q.length) with h | h | h
   ·exact absurd h3 (atv k h1 h)
   ·exact h
   ·exact absurd (zed atq) (h4 _ (by omega) h)
  rw [this]
def zkB:Str:=Str.ofString " \n()\""
def zkC:Str:=Str.ofString " \n"
def zkD:Str:=Str.ofString "0123456789"
def wBr:Str:=Str.ofString "()"
theorem zhL:zkB.cps.toList = [32,10,40,41,34]:=by decide +kernel
theorem zhM:zkC.cps.toList = [32,10]:=by decide +kernel
theorem zhN:zkD.cps.toList = [48,49,50,51,52,53,54,55,56,57]:=by decide +kernel
theorem zkE:wBr.cps.toList = [40,41]:=by decide +kernel
theorem zcf (z:Str) (c:Nat):(!(Builtin.Str.occurrences z ⟨#[c]⟩ 0 z.length 1).isEmpty) = decide (c∈z.cps.toList):=StrLaws.found_one z c
def digs (m:Nat):List Nat:=(Nat.toDigits 10 m).map Char.toNat
theorem zfd:∀ d:Nat,d < 10->(Nat.digitChar d).toNat = 48 + d:=by decide
theorem zc8 {m:Nat} (h:m < 10):digs m = [48 + m]:=by
 unfold digs
 rw [Nat.toDigits_of_lt_base h]
 simp [zfd m h]
theorem zc9 {m:Nat} (h:¬ m < 10):digs m = digs (m / 10) ++ [48 + m % 10]:=by
 have hm:m % 10 < 10:=Nat.mod_lt m (by decide)
 have t:Nat.toDigits 10 (m / 10) ++ Nat.toDigits 10 (m % 10) = Nat.toDigits 10 (10 * (m / 10) + m % 10):=Nat.toDigits_append_toDigits (by decide) (by omega) hm
 rw [Nat.div_add_mod] at t
 unfold digs
 rw [← t,List.map_append,Nat.toDigits_of_lt_base hm]
 simp [zfd _ hm]
theorem zbC (m:Nat):∀ c∈digs m,48<=c/\c<=57:=by
 induction m using Nat.strongRecOn with
 | _ m ih=>
  by_cases h:m < 10
  ·rw [zc8 h]; intro c hc; simp at hc; omega
  ·rw [zc9 h]
   intro c hc
   rcases List.mem_append.mp hc with hc | hc
   ·exact ih (m / 10) (by omega) c hc
   ·simp at hc; omega
theorem zda (m:Nat):digs m≠[]:=by
 by_cases h:m < 10
 ·rw [zc8 h]; simp
 ·rw [zc9 h]; simp
theorem zi4 (m:Nat) (h0:0 < m):∀ c s,digs m = c :: s->c≠48:=by
 induction m using Nat.strongRecOn with
 | _ m ih=>
  intro c s e
  by_cases h:m < 10
  ·rw [zc8 h] at e; simp at e; omega
  ·rw [zc9 h] at e
   cases hd:digs (m / 10) with
   | nil=>exact absurd hd (zda _)
   | cons x y=>
    rw [hd] at e
    simp at e
    have:=ih (m / 10) (by omega) (by omega) x y hd
    omega
theorem zee (k:Nat):∀ m:Nat,0 < k->m < 10 ^ k->(digs m).length<=k:=by
 induction k with
 | zero=>intro m h; omega
 | succ k ih=>
  intro m _ h
  by_cases h1:m < 10
  ·rw [zc8 h1]; simp
  ·rw [zc9 h1]
   have hk:0 < k:=by
    cases k with
    | zero=>simp at h; omega
    | succ k=>omega
   have:=ih (m / 10) hk (by rw [Nat.pow_succ] at h; omega)
   simp; omega
def numC (i:Int):List Nat:=if 0<=i then digs i.toNat else 45 :: digs i.natAbs
def zab (c:Nat):Bool:=c == 32 || (c == 10 || (c == 40 || (c == 41 || c == 34)))
inductive Pc where
 | op | cl
 | txt (q:List Nat)
 | word (q:List Nat)
def Cut (r:List Nat):Prop:=∀ c s,r = c :: s->zab c = true
inductive Spell:List Nat->List Pc->Prop where
 | nil:Spell [] []
 | gap {c:Nat}{r:List Nat}{ps:List Pc}:c = 32\/c = 10->Spell r ps->Spell (c :: r) ps
 | op {r:List Nat}{ps:List Pc}:Spell r ps->Spell (40 :: r) (.op :: ps)
 | cl {r:List Nat}{ps:List Pc}:Spell r ps->Spell (41 :: r) (.cl :: ps)
 | txt {q r:List Nat}{ps:List Pc}:(∀ c∈q,c≠34)->Spell r ps->Spell (34 :: (q ++ 34 :: r)) (.txt q :: ps)
 | word {c:Nat}{q r:List Nat}{ps:List Pc}:zab c = false->(∀ d∈q,zab d = false)->Cut r->Spell r ps->Spell (c :: (q ++ r)) (.word (c :: q) :: ps)
theorem Spell.word' {q r:List Nat}{ps:List Pc} (hne:q≠[]) (hq:∀ d∈q,zab d = false) (hc:Cut r) (h:Spell r ps):Spell (q ++ r) (.word q :: ps):=by
 cases q with
 | nil=>exact absurd rfl hne
 | cons c q=>exact .word (hq c List.mem_cons_self) (fun d hd=>hq d (List.mem_cons_of_mem _ hd)) hc h
inductive Tr where
 | word (q:List Nat)
 | txt (q:List Nat)
 | lst (ts:List Tr)
mutual
def trW (N:Int->List Nat):W->Tr
 | .num i=>.word (N i)
 | .txt x=>.txt x.cps.toList
 | .lst ws=>.lst (trWs N ws)
def trWs (N:Int->List Nat):List W->List Tr
 | []=>[]
 | w :: r=>trW N w :: trWs N r
end
def run:List Pc->List (List Tr)->Option (List (List Tr))
 | [],st=>some st
 | .op :: ps,st=>if st.length < 100 then run ps ([] :: st) else none
 | .cl :: ps,st=>match st with
  | t :: u :: rest=>run ps ((u ++ [.lst t]) :: rest)
  | _=>none
 | .txt q :: ps,st=>match st with
  | t :: rest=>run ps ((t ++ [.txt q]) :: rest)
  | _=>none
 | .word q :: ps,st=>match st with
  | t :: rest=>run ps ((t ++ [.word q]) :: rest)
  | _=>none
mutual
def shW (N:Int->List Nat):W->List Nat
 | .num i=>N i
 | .txt x=>34 :: (x.cps.toList ++ [34])
 | .lst ws=>40 :: (shWs N ws ++ [41])
def shWs (N:Int->List Nat):List W->List Nat
 | []=>[]
 | [w]=>shW N w
 | w :: v :: r=>shW N w ++ 32 :: shWs N (v :: r)
end
theorem zfe {r:List Nat}:Cut (32 :: r):=fun c s e=>by cases e; rfl
theorem zgP {r:List Nat}:Cut (41 :: r):=fun c s e=>by cases e; rfl
theorem zf3:Cut []:=fun c s e=>by cases e
mutual
def shT:Tr->List Nat
 | .word q=>q
 | .txt q=>34 :: (q ++ [34])
 | .lst ts=>40 :: (shTs ts ++ [41])
def shTs:List Tr->List Nat
 | []=>[]
 | [t]=>shT t
 | t :: u :: r=>shT t ++ 32 :: shTs (u :: r)
end
mutual
def pcT:Tr->List Pc
 | .word q=>[.word q]
 | .txt q=>[.txt q]
 | .lst ts=>.op :: (pcTs ts ++ [.cl])
def pcTs:List Tr->List Pc
 | []=>[]
 | t :: r=>pcT t ++ pcTs r
end
mutual
def Tr.Ok:Tr->Prop
 | .word q=>q≠[]/\∀ c∈q,zab c = false
 | .txt q=>∀ c∈q,c≠34
 | .lst ts=>TrOks ts
def TrOks:List Tr->Prop
 | []=>True
 | t :: r=>t.Ok/\TrOks r
end
mutual
def Tr.deep:Tr->Nat
 | .word _=>0
 | .txt _=>0
 | .lst ts=>1 + deeps ts
def deeps:List Tr->Nat
 | []=>0
 | t :: r=>max t.deep (deeps r)
end
mutual
theorem zef:∀ (x:Tr) (ps:List Pc) (t:List Tr) (rest:List (List Tr)),rest.length + 1 + x.deep<=100->run (pcT x ++ ps) (t :: rest) = run ps ((t ++ [x]) :: rest)
 | .word q,ps,t,rest,_=>by rw [pcT]; rfl
 | .txt q,ps,t,rest,_=>by rw [pcT]; rfl
 | .lst ts,ps,t,rest,h=>by
  rw [Tr.deep] at h
  rw [pcT,List.cons_append,List.append_assoc]
  have:=run_pcTs ts (.cl :: ps) [] (t :: rest) (by rw [List.length_cons]; omega)
  rw [run,if_pos (by rw [List.length_cons]; omega)]
  rw [List.singleton_append,this,run,List.nil_append]
theorem run_pcTs:∀ (xs:List Tr) (ps:List Pc) (t:List Tr) (rest:List (List Tr)),rest.length + 1 + deeps xs<=100->run (pcTs xs ++ ps) (t :: rest) = run ps ((t ++ xs) :: rest)
 | [],ps,t,rest,_=>by rw [pcTs,List.nil_append,List.append_nil]
 | x :: r,ps,t,rest,h=>by
  rw [deeps] at h
  rw [pcTs,List.append_assoc,zef x _ t rest (by omega),run_pcTs r ps (t ++ [x]) rest (by omega),List.append_assoc]
  rfl
end
theorem zeg (x:Tr) (h:x.deep<=90):run (pcT x) [[]] = some [[x]]:=by
 have:=zef x [] [] [] (by show 0 + 1 + x.deep<=100; omega)
 rw [List.append_nil] at this
 rw [this]
 rfl
mutual
theorem zbg:∀ (x:Tr),x.Ok->∀ (r:List Nat) (ps:List Pc),Cut r->Spell r ps->Spell (shT x ++ r) (pcT x ++ ps)
 | .word q,ok,r,ps,hc,h=>by rw [Tr.Ok] at ok; rw [shT,pcT]; exact Spell.word' ok.1 ok.2 hc h
 | .txt q,ok,r,ps,hc,h=>by
  rw [Tr.Ok] at ok
  have:=Spell.txt ok h
  simpa [shT,pcT] using this
 | .lst ts,ok,r,ps,hc,h=>by
  rw [Tr.Ok] at ok
  have:=spell_shTs ts ok (41 :: r) (.cl :: ps) zgP (.cl h)
  have h2:=Spell.op this
  simpa [shT,pcT,List.append_assoc] using h2
theorem spell_shTs:∀ (xs:List Tr),TrOks xs->∀ (r:List Nat) (ps:List Pc),Cut r->Spell r ps->Spell (shTs xs ++ r) (pcTs xs ++ ps)
 | [],_,r,ps,_,h=>by rw [shTs,pcTs]; exact h
 | [x],ok,r,ps,hc,h=>by
  rw [TrOks] at ok
  have:=zbg x ok.1 r ps hc h
  simpa [shTs,pcTs] using this
 | x :: y :: s,ok,r,ps,hc,h=>by
  rw [TrOks] at ok
  have h1:=spell_shTs (y :: s) ok.2 r ps hc h
  have h2:Spell (32 :: (shTs (y :: s) ++ r)) (pcTs (y :: s) ++ ps):=.gap (.inl rfl) h1
  have h3:=zbg x ok.1 _ _ zfe h2
  rw [pcTs,shTs]
  simpa [List.append_assoc] using h3
end
theorem ZM {x:Tr} (ok:x.Ok):Spell (shT x) (pcT x):=by
 have:=zbg x ok [] [] zf3 .nil
 rw [List.append_nil,List.append_nil] at this
 exact this
mutual
theorem zff (N:Int->List Nat):∀ w:W,shT (trW N w) = shW N w
 | .num i=>by rw [trW,shT,shW]
 | .txt x=>by rw [trW,shT,shW]
 | .lst ws=>by rw [trW,shT,shW,shTs_W N ws]
theorem shTs_W (N:Int->List Nat):∀ ws:List W,shTs (trWs N ws) = shWs N ws
 | []=>by rw [trWs,shTs,shWs]
 | [w]=>by rw [trWs,trWs,shTs,shWs,zff N w]
 | w :: v :: r=>by
  have:=shTs_W N (v :: r)
  rw [trWs] at this
  rw [trWs,trWs,shTs,shWs,zff N w,this]
end
mutual
theorem zi5 (N:Int->List Nat):∀ w:W,(trW N w).deep = w.depth
 | .num i=>by rw [trW,Tr.deep,W.depth]
 | .txt x=>by rw [trW,Tr.deep,W.depth]
 | .lst ws=>by rw [trW,Tr.deep,W.depth,deeps_W N ws]
theorem deeps_W (N:Int->List Nat):∀ ws:List W,deeps (trWs N ws) = depths ws
 | []=>by rw [trWs,deeps,depths]
 | w :: r=>by rw [trWs,deeps,depths,zi5 N w,deeps_W N r]
end
def Vr (z:Str):Prop:=1<=z.length/\z.length<=8/\∀ c∈z.cps.toList,97<=c/\c<=122
def zlT:Sp:=fun vs H Q _=>∃ b:Addr,vs = [.ref b]/\Zr H b/\∀ (z:Str) (H':Hp),Vr z->Step b H H'->Q (.str z) H'
def abxy:Str:=Str.ofString "abxy"
def abc:Str:=Str.ofString "abcdefghijklmnopqrstuvwxyz"
theorem Step.ofSame' {b:Addr}{H H':Hp} (hb:Zr H b) (s:Same H H'):Step b H H':=⟨by obtain ⟨x,y,z,e⟩:=hb; exact ⟨x,y,z,s _ _ e⟩,fun c o _ e=>s c o e⟩
theorem zi6 {z:Str}{i:Int} (h0:0<=i) (h1:i < z.length):∃ c,atI z.cps.toList i = some c/\c∈z.cps.toList:=by
 have hl:i.toNat < z.cps.toList.length:=by rw [← zt] at h1; omega
 refine ⟨z.cps.toList[i.toNat],?_,List.getElem_mem hl⟩
 have:=zM (List.getElem?_eq_getElem hl)
 rw [show ((i.toNat:Nat):Int) = i by omega] at this
 exact this
theorem zhO:∀ c∈abxy.cps.toList,97<=c/\c<=122:=by decide +kernel
theorem zi7:∀ c∈abc.cps.toList,97<=c/\c<=122:=by decide +kernel
section
variable {P:Program}{w:World}{K:PySem.W.Frag}{mg:Str->Option Value}{base:Heap}{f:Addr}{fd:FuncData}{k n:Nat}{zN AForgeError ANoName ANoRow ANoRule ANoStep ANoThing ANoWorth:Addr}
theorem zcv:FnScope ["_law_box_here","_law_letters"] ["_law_box_here"] (zl zaW):=⟨rfl,rfl,rfl,by decide +kernel,rfl,by decide +kernel,by decide +kernel⟩
theorem zfg (F:Fun K "_law_variable" "_law_variable" zaW f fd) (G_ltake:Have P w K mg base "_law_take" k ["_law_box_here","_law_wide"] (za5)) (m_range:mg "range" = none):FnOk P w K mg base CX0 (k + 1) f fd ["_law_box_here"] (zlT):=by
 refine F.okQ zcv (fun vs H Q E h=>?_) (fun cdv A outer s H vs Q E hr h=>?_)
 ·obtain ⟨b,rfl,_⟩:=h
  rfl
 obtain ⟨b,rfl,hb,q⟩:=h
 refine ⟨_,(zb (zB (zj zS (zw G_ltake hr rfl (za (pv 0) (za zf zc))) zf (nomark _)) (zg (zo (zy zbY ze (zw G_ltake hr rfl (za (pv 0) (za zf zc))) (fun _ _=>rfl)))) zq)
  (zb (zn (i:=1) zcv.nd rfl (Or.inr rfl) ze)
  (zg (zo (zaE PySem.F.plainAttrs_str PySem.F.slot_str_join PySem.F.type_str_join zd3 ze (za (Zx [1,0] ["_law_letters","_law_box_here"] rfl rfl (by decide +kernel) rfl (by decide +kernel) rfl (by decide +kernel) ⟨rfl,rfl,trivial⟩ rfl ⟨⟨rfl,rfl,Or.inr (Or.inl rfl),(by show (some NameKind.cell:Option NameKind)≠some .local; decide),⟨_,rfl⟩⟩,⟨rfl,rfl,Or.inr (Or.inl rfl),(by show (some NameKind.cell:Option NameKind)≠some .local; decide),⟨_,rfl⟩⟩,trivial⟩ (Z8 rfl m_range (za (zi zU zf (zw G_ltake hr rfl (za (pv 0) (za zf zc)))) zc)) (fun C s H fp=>⟨Zj,(zy zbY (pv 1) (zw G_ltake hr rfl (za (pv 2) (za zf zc))) (fun _ _=>rfl))⟩)) zc)))))),?_⟩
 refine ⟨_,rfl,b,2,rfl,hb,by decide,by decide,fun r H1 r0 r1 st1=>⟨rfl,_,rfl,ite2 (fun _=>?_) (fun _=>?_)⟩⟩
 ·refine ⟨_,rfl,b,4,rfl,st1.box,by decide,by decide,fun n H2 n0 n1 st2=>?_⟩
  have h4:abxy.length = 4:=by decide +kernel
  obtain ⟨c,hc,hm⟩:=zi6 (z:=abxy) n0 (by omega)
  refine ⟨abxy,n,c,rfl,rfl,by decide +kernel,hc,q _ _ ⟨Nat.le_refl _,by show 1<=8; decide,fun d hd=>?_⟩ (st1.trans st2)⟩
  have:d = c:=by simpa using hd
  rw [this]
  exact zhO c hm
 ·refine ⟨rfl,_,rfl,b,8,rfl,st1.box,by decide,by decide,fun m H3 m0 m1 st3=>?_⟩
  refine ⟨_,_,rfl,rfl,1 + m,rfl,by omega,by omega,fun i j us H'=>i<=(1 + m).toNat/\j = (1 + m).toNat - i/\(∃ cs:List Nat,us = (cs.map fun c=>(⟨#[c]⟩:Str)).map V.str/\cs.length = i/\∀ c∈cs,97<=c/\c<=122)/\Step b H H',⟨_,Nat.zero_le _,rfl,⟨[],rfl,rfl,fun c h=>nomatch h⟩,st1.trans st3⟩,fun i j us H' hW=>?_⟩
  obtain ⟨hi,hj,⟨cs,rfl,hcl,hcs⟩,st4⟩:=hW
  refine ⟨small (by rw [List.length_map,List.length_map]; omega),?_⟩
  by_cases hlt:i < (1 + m).toNat
  ·refine .inr ⟨hlt,fun v' H5 hy=>?_⟩
   obtain ⟨rfl,rfl⟩:=hy
   refine iteT ⟨_,rfl,_,rfl,b,26,rfl,st4.box,by decide,by decide,fun n H6 n0 n1 st6=>?_⟩
   have h26:abc.length = 26:=by decide +kernel
   obtain ⟨c,hc,hm⟩:=zi6 (z:=abc) n0 (by omega)
   refine ⟨abc,n,c,rfl,rfl,by decide +kernel,hc,(1 + m).toNat - (i + 1),by omega,by omega,rfl,⟨cs ++ [c],by simp,by rw [List.length_append,hcl]; rfl,fun d hd=>?_⟩,st4.trans st6⟩
   rcases List.mem_append.mp hd with hd | hd
   ·exact hcs d hd
   ·rw [List.mem_singleton.mp hd]; exact zi7 c hm
  ·refine .inl ⟨(by show (1 + m).toNat<=i; omega),fun D hD=>?_⟩
   have s5:=Same.new (o:=.lst ((cs.map fun c=>(⟨#[c]⟩:Str)).map V.str)) hD
   refine ⟨Str.ofString "",D,cs.map fun c=>(⟨#[c]⟩:Str),rfl,rfl,SqL.of zd,?_,?_⟩
   ·have e0:(Str.ofString "").length = 0:=by decide +kernel
    have e1:((cs.map fun c=>(⟨#[c]⟩:Str)).map (·.length)).sum = cs.length:=by
     rw [List.map_map]
     clear hcs hcl s5 hD
     induction cs with
     | nil=>rfl
     | cons x r ih=>
      rw [List.map_cons,List.sum_cons,List.length_cons]
      have:((fun z:Str=>z.length) ∘ fun c=>(⟨#[c]⟩:Str)) x = 1:=rfl
      omega
    rw [e0,e1]
    omega
   ·rw [zhE]
    refine q _ _ ⟨?_,?_,fun c hc=>hcs c (by simpa using hc)⟩ (st4.trans (Step.ofSame' st4.box s5))
    ·show 1<=cs.toArray.size
     rw [List.size_toArray]
     omega
    ·show cs.toArray.size<=8
     rw [List.size_toArray]
     omega
def zlU:Sp:=fun vs H Q _=>∃ (b l:Addr) (names:List Str),vs = [.ref b,.ref l]/\Zr H b/\H l = some (.lst (names.map V.str))/\l≠b/\names≠[]/\names.length<=100/\(∀ z∈names,z.length<=400/\Signs z) /\
 ∀ (v:V) (x:W) (H':Hp),RW H' v (.lst [.txt "lit",x])->x.Ok->x.size<=1000->x.depth<=3->Step b H H'->Q v H'
theorem RW.pair {H:Hp}{a:Addr}{u1 u2:V}{w1 w2:W} (e:H a = some (.tup [u1,u2])) (r1:RW H u1 w1) (r2:RW H u2 w2):RW H (.ref a) (.lst [w1,w2]):=
 .lst e rfl fun i v w hv hw=>match i,hv,hw with
  | 0,hv,hw=>by
   have a1:u1 = v:=by simpa using hv
   have a2:w1 = w:=by simpa using hw
   rw [← a1,← a2]; exact r1
  | 1,hv,hw=>by
   have a1:u2 = v:=by simpa using hv
   have a2:w2 = w:=by simpa using hw
   rw [← a1,← a2]; exact r2
  | j + 2,hv,hw=>by simp at hv
theorem zJ {H H':Hp} (s:Same H H'):Tups H H':=fun a vs e=>s a _ e
theorem zlV:FnScope ["_law_box_here","_law_names"] ["_law_box_here","_law_names"] (zl zgC):=⟨rfl,rfl,rfl,by decide +kernel,rfl,by decide +kernel,by decide +kernel⟩
theorem zlW (F:Fun K "_law_lit" "_law_lit" zgC f fd) (G_lworth:Have P w K mg base "_law_worth" k ["_law_box_here","_law_room","_law_deep"] (zd0 13)) (G_ltake:Have P w K mg base "_law_take" k ["_law_box_here","_law_wide"] (za5)) (m_len:mg "len" = none):FnOk P w K mg base CX0 (k + 1) f fd ["_law_box_here","_law_names"] (zlU):=by
 refine F.okQ zlV (fun vs H Q E h=>?_) (fun cdv A outer s H vs Q E hr h=>?_)
 ·obtain ⟨b,l,names,rfl,_⟩:=h
  rfl
 obtain ⟨b,l,names,rfl,hb,hl,hlb,hne,hn,hz,q⟩:=h
 have hpos:0 < names.length:=List.length_pos_iff.mpr hne
 refine ⟨_,(zb (zB (PW.pt (zal (zj (zgL (Nat.lt_of_le_of_lt (Nat.le_add_right _ 64) hr.units)) (pv 1) (zx zc) (nomark _)) (ZH (zj zS (zw G_ltake hr rfl (za (pv 0) (za zf zc))) zf (nomark _))))) (zg (zo (zP (za ze (za (zy zQ (pv 1) (zw G_ltake hr rfl (za (pv 0) (za (zk zz rfl m_len PySem.boot_len (za (pv 1) zc)) zc))) (fun _ _=>rfl)) zc))))) zq)
  (zg (zo (zP (za ze (za (zw G_lworth hr rfl (za (pv 0) (za zf (za zf zc)))) zc)))))),?_⟩
 refine ⟨_,rfl,zl0,fun e0 he0=>?_⟩
 have s0:=Same.new (o:=.lst []) he0
 have st0:=Step.ofSame' hb s0
 refine ⟨l,e0,names.map V.str,rfl,rfl,SqL.of (s0 _ _ hl),SqL.of zd,_,rfl,?_⟩
 have e1:(!(names.map V.str).isEmpty) = true:=by
  cases names with
  | nil=>exact absurd rfl hne
  | cons x r=>rfl
 rw [e1]
 refine iteT ⟨_,rfl,b,3,rfl,st0.box,by decide,by decide,fun r H1 r0 r1 st1=>⟨rfl,_,rfl,ite2 (fun _=>?_) (fun _=>?_)⟩⟩
 ·have stA:=st0.trans st1
  have hl1:=stA.keep l _ hlb hl
  refine ⟨_,rfl,_,rfl,_,rfl,_,_,rfl,.inl ⟨_,SqL.of hl1,rfl⟩,b,_,rfl,stA.box,by rw [List.length_map]; omega,by rw [List.length_map]; omega,fun n H2 n0 n1 st2=>?_⟩
  rw [List.length_map] at n1
  have hi:n.toNat < names.length:=by omega
  have hat:atI (names.map V.str) n = some (.str names[n.toNat]):=by
   have:=zM (xs:=names.map V.str) (j:=n.toNat) (v:=.str names[n.toNat]) (by rw [List.getElem?_map,List.getElem?_eq_getElem hi]; rfl)
   rw [show ((n.toNat:Nat):Int) = n by omega] at this
   exact this
  have stB:=stA.trans st2
  refine ⟨l,_,n,_,rfl,rfl,SqL.of (stB.keep l _ hlb hl),hat,zl2,fun a ha=>?_⟩
  have s3:=Same.new (o:=.tup [.str "lit",.str names[n.toNat]]) ha
  exact q _ (.txt names[n.toNat]) _ (RW.pair zd (.txt _) (.txt _)) (hz _ (List.getElem_mem hi)) (by have:=(hz _ (List.getElem_mem hi)).1; simp only [W.size]; omega) (by simp [W.depth]) (stB.trans (Step.ofSame' stB.box s3))
 ·have stA:=st0.trans st1
  refine ⟨_,rfl,b,6,3,rfl,stA.box,by decide,by decide,by decide,by decide,fun v x H2 rx okx dx sx st2=>⟨zl2,fun a ha=>?_⟩⟩
  have stB:=stA.trans st2
  have s3:=Same.new (o:=.tup [.str "lit",v]) ha
  exact q _ x _ (RW.pair zd (.txt _) (rx.mono (zJ s3))) okx (by omega) (by omega) (stB.trans (Step.ofSame' stB.box s3))
inductive Wo where
 | lit | var | letw | ifw | add | sub | mul | div | same | less | join | list | item | count | figs | each | over | look | elsew | cry
 deriving DecidableEq
def woS:Wo->Str
 | .lit=>"lit"
 | .var=>"var"
 | .letw=>"let"
 | .ifw=>"if"
 | .add=>"+"
 | .sub=>"-"
 | .mul=>"*"
 | .div=>"/"
 | .same=>"same"
 | .less=>"less"
 | .join=>"join"
 | .list=>"list"
 | .item=>"item"
 | .count=>"count"
 | .figs=>"figures"
 | .each=>"each"
 | .over=>"over"
 | .look=>"look"
 | .elsew=>"else"
 | .cry=>"cry"
def zdb:List Wo:=[.lit,.var,.letw,.ifw,.add,.sub,.mul,.div,.same,.less,.join,.list,.item,.count,.figs,.each,.over,.look,.elsew,.cry]
def w3:Wo->Bool
 | .ifw=>true
 | .over=>true
 | _=>false
def w1:Wo->Bool
 | .count=>true
 | .figs=>true
 | .look=>true
 | .cry=>true
 | _=>false
def wVL:Wo->Bool
 | .var=>true
 | .list=>true
 | _=>false
def wEO:Wo->Bool
 | .each=>true
 | .over=>true
 | _=>false
def wLit:Wo->Bool
 | .lit=>true
 | _=>false
def wVar:Wo->Bool
 | .var=>true
 | _=>false
def Wo.needs (d:Wo):Int:=if wVL d then 0 else 2 + (if w3 d then 1 else 0) - (if w1 d then 1 else 0)
theorem in3 (d:Wo):inV (.str (woS d)) [.str "if",.str "over"] = w3 d:=by cases d <;> decide +kernel
theorem in1 (d:Wo):inV (.str (woS d)) [.str "count",.str "figures",.str "look",.str "cry"] = w1 d:=by cases d <;> decide +kernel
theorem inVL (d:Wo):inV (.str (woS d)) [.str "var",.str "list"] = wVL d:=by cases d <;> decide +kernel
theorem inEO (d:Wo):inV (.str (woS d)) [.str "each",.str "over"] = wEO d:=by cases d <;> decide +kernel
theorem zhP (d:Wo):decide (V.str (woS d) = V.str "lit") = wLit d:=by cases d <;> decide +kernel
theorem zi8 (d:Wo):decide (V.str (woS d) = V.str "var") = wVar d:=by cases d <;> decide +kernel
def zi9:Sp:=fun vs H Q _=>∃ (b sc:Addr) (us:List V) (spare floors rounds:Int),vs = [.ref b,.ref sc,.int spare,.int floors,.int rounds]/\Zr H b/\H sc = some (.lst us)/\sc≠b /\
 ∀ (d:Wo) (H':Hp),Step b H H'->(wLit d = false->d.needs < spare/\(floors = 0->wVL d = true)/\(wVar d = true->us≠[])/\(wEO d = true->rounds≠0))->Q (.str (woS d)) H'
theorem zbD:FnScope ["_law_box_here","_law_scope","_law_spare","_law_floors","_law_rounds","_law_words","_law_word_here","_law_needs"] ["_law_box_here","_law_scope","_law_spare","_law_floors","_law_rounds"] (zl zdY):=⟨rfl,rfl,rfl,by decide +kernel,rfl,by decide +kernel,by decide +kernel⟩
theorem zkF (F:Fun K "_law_word" "_law_word" zdY f fd) (G_ltake:Have P w K mg base "_law_take" k ["_law_box_here","_law_wide"] (za5)) (m_int:mg "int" = none):FnOk P w K mg base CX0 (k + 1) f fd ["_law_box_here","_law_scope","_law_spare","_law_floors","_law_rounds"] (zi9):=by
 refine F.okQ zbD (fun vs H Q E h=>?_) (fun cdv A outer s H vs Q E hr h=>?_)
 ·obtain ⟨b,sc,us,spare,floors,rounds,rfl,_⟩:=h
  rfl
 obtain ⟨b,sc,us,spare,floors,rounds,rfl,hb,hsc,hne,q⟩:=h
 refine ⟨_,(zb (zn (i:=5) zbD.nd rfl (Or.inl rfl) (zx (za ze (za ze (za ze (za ze (za ze (za ze (za ze (za ze (za ze (za ze (za ze (za ze zc))))))))))))))
  (zb (zn (i:=5) zbD.nd rfl (Or.inl rfl) (zi ZZ (pv 5) (zx (za ze (za ze (za ze (za ze (za ze (za ze (za ze (za ze zc)))))))))))
  (zb (zn (i:=6) zbD.nd rfl (Or.inl rfl) (zy zQ (pv 5) (zw G_ltake hr rfl (za (pv 0) (za zf zc))) (fun _ _=>rfl)))
  (zb (zn (i:=7) zbD.nd rfl (Or.inl rfl) (zi Zq (zi zU zf (zC zaD rfl m_int Z9 (za (zK ZQ (pv 6) (zP (za ze (za ze zc))) (by rfl)) zc))) (zC zaD rfl m_int Z9 (za (zK ZQ (pv 6) (zP (za ze (za ze (za ze (za ze zc))))) (by rfl)) zc))))
  (zb (zB (zj ZQ (pv 6) (zP (za ze (za ze zc))) (by rfl)) (zg (zn (i:=7) zbD.nd rfl (Or.inl rfl) zf)) zq)
  (zb (zB (PW.pt (zaK (zj zS (pv 6) ze (nomark _)) (zaK (PW.pt (zal (zj zS (pv 3) zf (nomark _)) (ZH (zj zbc (pv 6) (zP (za ze (za ze zc))) (by rfl))))) (zak (zj znu (pv 7) (pv 2) (nomark _)))))) (zg (zo ze)) zq)
  (zb (zB (PW.pt (zaK (PW.pt (zal (zj zS (pv 6) ze (nomark _)) (ZH (zj (zla (Nat.lt_of_le_of_lt (Nat.le_add_right _ 64) hr.units)) (pv 1) (zx zc) (nomark _))))) (zak (PW.pt (zal (zj ZQ (pv 6) (zP (za ze (za ze zc))) (by rfl)) (ZH (zj zS (pv 4) zf (nomark _)))))))) (zg (zo ze)) zq)
  (zg (zo (pv 6)))))))))),?_⟩
 refine ⟨zl12,fun p1 h1=>?_⟩
 have st1:=Step.new (o:=.lst ((zdb.take 12).map fun d=>V.str (woS d))) hb h1
 refine ⟨_,rfl,zl8,fun p2 h2=>?_⟩
 have s2:=Same.new (o:=.lst ((zdb.drop 12).map fun d=>V.str (woS d))) h2
 refine ⟨p1,p2,(zdb.take 12).map (fun d=>V.str (woS d)),(zdb.drop 12).map (fun d=>V.str (woS d)),rfl,rfl,s2 _ _ zd,zd,(by decide),fun p3 h3=>?_⟩
 have st2:=st1.trans (Step.ofSame' st1.box s2)
 have st3:=st2.trans (Step.new (o:=.lst (zdb.map fun d=>V.str (woS d))) st2.box h3)
 refine ⟨_,rfl,_,rfl,b,20,rfl,st3.box,by decide,by decide,fun r H1 r0 r1 st4=>?_⟩
 have hi:r.toNat < zdb.length:=by show r.toNat < 20; omega
 obtain ⟨d,hat⟩:∃ d:Wo,atI (zdb.map fun d=>V.str (woS d)) r = some (.str (woS d)):=⟨zdb[r.toNat],by
  have:=zM (xs:=zdb.map fun d=>V.str (woS d)) (j:=r.toNat) (v:=.str (woS zdb[r.toNat])) (by rw [List.getElem?_map,List.getElem?_eq_getElem hi]; rfl)
  rw [show ((r.toNat:Nat):Int) = r by omega] at this
  exact this⟩
 have stA:=st3.trans st4
 refine ⟨p3,_,r,_,rfl,rfl,SqL.of (st4.keep p3 _ (by obtain ⟨x,y,z,e⟩:=st2.box; exact (zr e h3).symm) zd),hat,?_⟩
 refine ⟨_,rfl,zl2,fun q1 hq1=>⟨q1,_,rfl,.inr (SqT.of zd),rfl,rfl,.inr ⟨_,rfl,_,_,rfl,rfl,_,rfl,zl4,fun q2 hq2=>⟨q2,_,rfl,.inr (SqT.of zd),rfl,rfl,.inr ⟨_,rfl,_,_,rfl,rfl,?_⟩⟩⟩⟩⟩
 have stB:=stA.trans (Step.new (o:=.tup [.str "if",.str "over"]) stA.box hq1)
 have stC:=stB.trans (Step.new (o:=.tup [.str "count",.str "figures",.str "look",.str "cry"]) stB.box hq2)
 dsimp only [ZI]
 refine seqI (fun σ' H'=>∃ o5,σ' = [some (.ref b),some (.ref sc),some (.int spare),some (.int floors),some (.int rounds),o5,some (.str (woS d)),some (.int d.needs)]/\Step b H H') (fun σ' H' h=>?_) (fun tl=>?_)
 ·obtain ⟨o5,rfl,stD⟩:=h
  refine seqI (fun σ' H'=>∃ o5,σ' = [some (.ref b),some (.ref sc),some (.int spare),some (.int floors),some (.int rounds),o5,some (.str (woS d)),some (.int d.needs)]/\Step b H H'/\wLit d = false/\d.needs < spare/\(floors = 0->wVL d = true)) (fun σ' H' h=>?_) (fun tl=>?_)
  ·obtain ⟨o5,rfl,stE,hlit,hneed,hfl⟩:=h
   refine ⟨_,rfl,rfl,_,rfl,?_⟩
   rw [show Str.ofString "var" = "var" from rfl,zi8]
   cases hv:wVar d with
   | true=>
    refine iteT ⟨_,rfl,zl0,fun e0 he0=>?_⟩
    have stF:=stE.trans (Step.new (o:=.lst []) stE.box he0)
    refine ⟨sc,e0,us,rfl,rfl,SqL.of (stF.keep sc _ hne hsc),SqL.of zd,_,rfl,?_⟩
    cases hus:us with
    | nil=>exact iteT (iteT (q .lit _ stF (fun h=>nomatch h)))
    | cons x r=>
     have hsv:wVar d = true->us≠[]:=fun _ z=>by rw [hus] at z; cases z
     refine iteF ?_
     refine ⟨_,rfl,zl2,fun q5 hq5=>⟨q5,_,rfl,.inr (SqT.of zd),rfl,rfl,_,rfl,?_⟩⟩
     have st9:=stF.trans (Step.new (o:=.tup [.str "each",.str "over"]) stF.box hq5)
     show if inV (.str (woS d)) [.str "each",.str "over"] = true then _ else _
     rw [inEO]
     cases heo:wEO d with
     | true=>
      refine iteT ⟨_,rfl,rfl,_,rfl,ite2 (fun c3=>q .lit _ st9 (fun h=>nomatch h)) (fun c3=>?_)⟩
      exact ⟨_,rfl,q d _ st9 fun _=>⟨hneed,hfl,hsv,fun _ z=>c3 (by rw [z]; rfl)⟩⟩
     | false=>exact iteF (iteF ⟨_,rfl,q d _ st9 fun _=>⟨hneed,hfl,hsv,fun z=>by rw [heo] at z; cases z⟩⟩)
   | false=>
    have hsv:wVar d = true->us≠[]:=fun z=>by rw [hv] at z; cases z
    refine iteF (iteF ?_)
    refine ⟨_,rfl,zl2,fun q5 hq5=>⟨q5,_,rfl,.inr (SqT.of zd),rfl,rfl,_,rfl,?_⟩⟩
    have st9:=stE.trans (Step.new (o:=.tup [.str "each",.str "over"]) stE.box hq5)
    show if inV (.str (woS d)) [.str "each",.str "over"] = true then _ else _
    rw [inEO]
    cases heo:wEO d with
    | true=>
     refine iteT ⟨_,rfl,rfl,_,rfl,ite2 (fun c3=>q .lit _ st9 (fun h=>nomatch h)) (fun c3=>?_)⟩
     exact ⟨_,rfl,q d _ st9 fun _=>⟨hneed,hfl,hsv,fun _ z=>c3 (by rw [z]; rfl)⟩⟩
    | false=>exact iteF (iteF ⟨_,rfl,q d _ st9 fun _=>⟨hneed,hfl,hsv,fun z=>by rw [heo] at z; cases z⟩⟩)
  ·refine ⟨_,rfl,rfl,_,rfl,?_⟩
   rw [show Str.ofString "lit" = "lit" from rfl,zhP]
   cases hlit:wLit d with
   | true=>exact iteT (iteT (q .lit _ stD (fun h=>nomatch h)))
   | false=>
    refine iteF ⟨_,rfl,rfl,_,rfl,ite2 (fun c=>?_) (fun c=>iteF ?_)⟩
    ·refine ⟨_,rfl,zl2,fun q4 hq4=>⟨q4,_,rfl,.inr (SqT.of zd),rfl,rfl,_,rfl,?_⟩⟩
     have stE:=stD.trans (Step.new (o:=.tup [.str "var",.str "list"]) stD.box hq4)
     show if (!inV (.str (woS d)) [.str "var",.str "list"]) = true then _ else _
     rw [inVL]
     cases hvl:wVL d with
     | false=>exact iteT (iteT (q .lit _ stE (fun h=>nomatch h)))
     | true=>
      refine iteF ?_
      refine ⟨_,rfl,_,rfl,_,_,rfl,rfl,_,rfl,ite2 (fun c2=>q .lit _ stE (fun h=>nomatch h)) (fun c2=>?_)⟩
      exact tl _ _ ⟨_,rfl,stE,hlit,(by
       have:¬ spare<=d.needs:=fun z=>c2 (decide_eq_true z)
       omega),fun _=>hvl⟩
    ·have hf0:floors≠0:=fun z=>c (by rw [z]; rfl)
     refine ⟨_,rfl,_,rfl,_,_,rfl,rfl,_,rfl,ite2 (fun c2=>q .lit _ stD (fun h=>nomatch h)) (fun c2=>?_)⟩
     exact tl _ _ ⟨_,rfl,stD,hlit,(by
      have:¬ spare<=d.needs:=fun z=>c2 (decide_eq_true z)
      omega),fun z=>absurd z hf0⟩
 ·refine ⟨_,rfl,zl2,fun q3 hq3=>⟨q3,_,rfl,.inr (SqT.of zd),rfl,rfl,_,rfl,?_⟩⟩
  have stD:=stC.trans (Step.new (o:=.tup [.str "var",.str "list"]) stC.box hq3)
  have e3:=in3 d
  have e1:=in1 d
  show if inV (.str (woS d)) [.str "var",.str "list"] = true then _ else _
  rw [inVL]
  cases hvl:wVL d with
  | true=>exact iteT (tl _ _ ⟨_,by show _ = [_,_,_,_,_,_,_,some (V.int d.needs)]; unfold Wo.needs; rw [hvl]; rfl,stD⟩)
  | false=>exact iteF (tl _ _ ⟨_,by show _ = [_,_,_,_,_,_,_,some (V.int d.needs)]; unfold Wo.needs; rw [hvl,← e3,← e1]; rfl,stD⟩)
inductive Rl where
 | lit (x:W)
 | var (s:Str)
 | op (d:Wo) (bs:List Str) (ps:List Rl)
mutual
def Rl.toW:Rl->W
 | .lit x=>.lst [.txt "lit",x]
 | .var s=>.lst [.txt "var",.txt s]
 | .op d bs ps=>.lst (.txt (woS d) :: (bs.map W.txt ++ rlWs ps))
def rlWs:List Rl->List W
 | []=>[]
 | p :: r=>p.toW :: rlWs r
end
mutual
def Rl.many:Rl->Nat
 | .lit _=>1
 | .var _=>1
 | .op _ _ ps=>1 + manys ps
def manys:List Rl->Nat
 | []=>0
 | p :: r=>p.many + manys r
end
mutual
def Rl.high:Rl->Nat
 | .lit _=>0
 | .var _=>0
 | .op _ _ ps=>highs ps
def highs:List Rl->Nat
 | []=>0
 | p :: r=>max (1 + p.high) (highs r)
end
def bcnt:Wo->Nat
 | .letw=>1
 | .each=>1
 | .over=>2
 | _=>0
def zaA:Wo->Bool
 | .list=>true
 | _=>false
def pcnt:Wo->Nat
 | .letw=>2
 | .ifw=>3
 | .over=>3
 | .count=>1
 | .figs=>1
 | .look=>1
 | .cry=>1
 | .lit=>0
 | .var=>0
 | .list=>0
 | _=>2
def Cnt (d:Wo) (n:Nat):Prop:=(zaA d = true->n<=8)/\(zaA d = false->n = pcnt d)
def Rl.Gd1:Rl->Prop
 | .lit x=>x.Ok/\x.size<=1000/\x.depth<=12
 | .var s=>Vr s
 | .op d bs ps=>wLit d = false/\wVar d = false/\bs.length = bcnt d/\(∀ z∈bs,Vr z)/\bs.Nodup/\Cnt d ps.length
mutual
def Rl.Gd:Rl->Prop
 | .lit x=>(Rl.lit x).Gd1
 | .var s=>(Rl.var s).Gd1
 | .op d bs ps=>(Rl.op d bs ps).Gd1/\Gds ps
def Gds:List Rl->Prop
 | []=>True
 | p :: r=>p.Gd/\Gds r
end
mutual
def Rl.rep:Rl->Nat
 | .lit _=>0
 | .var _=>0
 | .op d _ ps=>reps (wEO d) ps
def reps (b:Bool):List Rl->Nat
 | []=>0
 | [p]=>p.rep + (if b then 1 else 0)
 | p :: q :: r=>max p.rep (reps b (q :: r))
end
mutual
def Rl.Fit:Rl->List Str->Prop
 | .lit x,_=>(Rl.lit x).Gd1
 | .var s,sc=>Vr s/\s∈sc
 | .op d bs ps,sc=>(Rl.op d bs ps).Gd1/\Fits ps sc bs
def Fits:List Rl->List Str->List Str->Prop
 | [],_,_=>True
 | [p],sc,bs=>p.Fit (sc ++ bs)
 | p :: q :: r,sc,bs=>p.Fit sc/\Fits (q :: r) sc bs
end
mutual
theorem Rl.Fit.gd:∀ {r:Rl}{sc:List Str},r.Fit sc->r.Gd
 | .lit x,sc,h=>by rw [Rl.Fit] at h; rw [Rl.Gd]; exact h
 | .var s,sc,h=>by rw [Rl.Fit] at h; rw [Rl.Gd]; exact h.1
 | .op d bs ps,sc,h=>by rw [Rl.Fit] at h; rw [Rl.Gd]; exact ⟨h.1,Fits.gd h.2⟩
theorem Fits.gd:∀ {ps:List Rl}{sc bs:List Str},Fits ps sc bs->Gds ps
 | [],_,_,_=>by rw [Gds]; trivial
 | [p],sc,bs,h=>by rw [Fits] at h; rw [Gds,Gds]; exact ⟨h.gd,trivial⟩
 | p :: q :: r,sc,bs,h=>by rw [Fits] at h; rw [Gds]; exact ⟨h.1.gd,Fits.gd h.2⟩
end
theorem zja {b:Bool}{n:Int}:∀ {ps:List Rl},0<=n->(∀ p∈ps,(p.rep:Int)<=n)->(b = true->∀ p,ps.getLast? = some p->(p.rep:Int) + 1<=n)->(reps b ps:Int)<=n
 | [],h,_,_=>by rw [reps]; exact h
 | [p],h,h1,h2=>by
  rw [reps]
  cases b with
  | false=>have:=h1 p (by simp); simp; omega
  | true=>have:=h2 rfl p rfl; simp; omega
 | p :: q :: r,h,h1,h2=>by
  rw [reps]
  have a1:=h1 p (by simp)
  have a2:=zja (b:=b) (ps:=q :: r) h (fun x hx=>h1 x (List.mem_cons_of_mem _ hx)) (fun hb x hx=>h2 hb x (by rw [List.getLast?_cons_cons]; exact hx))
  omega
theorem zjb (l:List Rl) (r:Rl):rlWs (l ++ [r]) = rlWs l ++ [r.toW]:=by
 induction l with
 | nil=>simp [rlWs]
 | cons p l ih=>simp only [List.cons_append,rlWs,ih]
theorem zbE:∀ l:List Rl,(rlWs l).length = l.length
 | []=>by simp [rlWs]
 | _ :: l=>by simp only [rlWs,List.length_cons,zbE l]
theorem zdO (l:List Rl) (r:Rl):manys (l ++ [r]) = manys l + r.many:=by
 induction l with
 | nil=>simp [manys]
 | cons p l ih=>simp only [List.cons_append,manys,ih]; omega
def Names (H:Hp) (b l:Addr) (names:List Str):Prop:=H l = some (.lst (names.map V.str))/\l≠b/\names≠[]/\names.length<=100/\∀ z∈names,z.length<=400/\Signs z
theorem Names.step {H H':Hp}{b l:Addr}{names:List Str} (h:Names H b l names) (st:Step b H H'):Names H' b l names:=⟨st.keep l _ h.2.1 h.1,h.2⟩
def zhQ (n:Nat):Sp:=fun vs H Q _=>∃ (b sc l:Addr) (scope names:List Str) (spare floors rounds:Int),vs = [.ref b,.ref sc,.ref l,.int spare,.int floors,.int rounds]/\Zr H b/\Names H b l names/\H sc = some (.lst (scope.map V.str))/\sc≠b/\scope.length + 2 * n<=1000/\(∀ y∈scope,Vr y)/\1<=spare/\spare<=100/\0<=floors/\floors < n/\0<=rounds/\rounds<=100 /\
 ∀ (t:Addr) (v:V) (r:Rl) (H':Hp),H' t = some (.tup [v,.int r.many])->RW H' v r.toW->r.Fit scope->(r.many:Int)<=spare->(r.high:Int)<=floors->(r.rep:Int)<=rounds->Step b H H'->Q (.ref t) H'
def zdc (n:Nat):Sp:=fun vs H Q _=>∃ (b ss l rs:Addr) (as:List Addr) (scopes:List (List Str)) (names:List Str) (rounds:List Int) (spare floors:Int),vs = [.ref b,.ref ss,.ref l,.int spare,.int floors,.ref rs]/\Zr H b/\Names H b l names /\
 H ss = some (.lst (as.map V.ref))/\ss≠b/\H rs = some (.lst (rounds.map V.int))/\rs≠b/\as.length = scopes.length/\scopes.length<=rounds.length/\(∀ r∈rounds,0<=r/\r<=100)/\(∀ (i:Nat) (a:Addr) (sc:List Str),as[i]? = some a->scopes[i]? = some sc->H a = some (.lst (sc.map V.str))/\a≠b/\sc.length + 2 * n<=1000/\∀ y∈sc,Vr y) /\
 (scopes.length:Int)<=spare/\spare<=100/\floors < n/\(0<=floors\/scopes = []) /\
 ∀ (t t2:Addr) (us:List V) (ps:List Rl) (H':Hp),H' t = some (.tup [.ref t2,.int (manys ps)])->H' t2 = some (.tup us)->RWs H' us (rlWs ps)->ps.length = scopes.length->(∀ (i:Nat) (p:Rl) (sc:List Str),ps[i]? = some p->scopes[i]? = some sc->p.Fit sc/\(p.high:Int)<=floors/\∀ c,rounds[i]? = some c->(p.rep:Int)<=c)->(manys ps:Int)<=spare->Step b H H'->Q (.ref t) H'
theorem Zh:FnScope ["_law_box_here","_law_scopes","_law_names","_law_spare","_law_floors","_law_rounds","_law_found","_law_used","_law_k","_law_scope","_law_rest","_law_part","_law_more"] ["_law_box_here","_law_scopes","_law_names","_law_spare","_law_floors","_law_rounds"] (zl zaX):=⟨rfl,rfl,rfl,by decide +kernel,rfl,by decide +kernel,by decide +kernel⟩
theorem zcw (F:Fun K "_law_parts_by" "_law_parts_by" zaX f fd) (G_lany:Have P w K mg base "_law_any" k ["_law_box_here","_law_scope","_law_names","_law_spare","_law_floors","_law_rounds"] (zhQ n)) (m_enumerate:mg "enumerate" = none) (m_len:mg "len" = none) (m_tuple:mg "tuple" = none):FnOk P w K mg base CX0 (k + 1) f fd ["_law_box_here","_law_scopes","_law_names","_law_spare","_law_floors","_law_rounds"] (zdc n):=by
 refine F.okQ Zh (fun vs H Q E h=>?_) (fun cdv A outer s H vs Q E hr h=>?_)
 ·obtain ⟨b,ss,l,rs,as,scopes,names,rounds,spare,floors,rfl,_⟩:=h
  rfl
 obtain ⟨b,ss,l,rs,as,scopes,names,rounds,spare,floors,rfl,hb,hnm,hss,hsb,hrs,hrb,hal,hrl,hrr,hsc,hsp,hs100,hfn,hf0,q⟩:=h
 refine ⟨_,(zb (zn (i:=6) Zh.nd rfl (Or.inl rfl) (zx zc))
  (zb (zn (i:=7) Zh.nd rfl (Or.inl rfl) zf)
  (zb (zaC PassesOwn.never rfl (zc6 rfl m_enumerate (za (pv 1) zc)) (zbP rfl (Zn (zZ (i:=8) Zh.nd rfl (Or.inl rfl)) (Zn (zZ (i:=9) Zh.nd rfl (Or.inl rfl)) za8))) (zb (zn (i:=10) Zh.nd rfl (Or.inl rfl) (zi Zq (zi Zq (pv 3) (pv 7)) (zi Zq (zi Zq (zk zz rfl m_len PySem.boot_len (za (pv 1) zc)) (pv 8)) zf)))
  (zb (za9 (zw G_lany hr rfl (za (pv 0) (za (pv 9) (za (pv 2) (za (pv 10) (za (pv 4) (za (zy zQ (pv 5) (pv 8) (fun _ _=>rfl)) zc))))))) (zbP rfl (Zn (zZ (i:=11) Zh.nd rfl (Or.inl rfl)) (Zn (zZ (i:=12) Zh.nd rfl (Or.inl rfl)) za8))))
  (zb (ZB (zaE PySem.F.plainAttrs_list PySem.F.slot_list_append PySem.F.type_list_append ZR (pv 6) (za (pv 11) zc)))
  (zg (zn (i:=7) Zh.nd rfl (Or.inl rfl) (zi zU (pv 7) (pv 12))))))))
  (zg (zo (zP (za (zC Zw rfl m_tuple Za (za (pv 6) zc)) (za (pv 7) zc)))))))),?_⟩
 refine ⟨zl0,fun p hp=>?_⟩
 have st0:=Step.new (o:=.lst []) hb hp
 have hpb:p≠b:=fun z=>by
  obtain ⟨x,y,w',e⟩:=hb
  rw [← z,hp] at e
  cases e
 refine ⟨_,rfl,ss,as.map V.ref,rfl,SqL.of (st0.keep ss _ hsb hss),zd7 (xs:=as.map V.ref) (fun i σ' H'=>∃ (o8 o9 o10 o11 o12:Option V) (us:List V) (ps:List Rl),σ' = [some (.ref b),some (.ref ss),some (.ref l),some (.int spare),some (.int floors),some (.ref rs),some (.ref p),some (.int (manys ps)),o8,o9,o10,o11,o12]/\Step b H H'/\H' p = some (.lst us)/\RWs H' us (rlWs ps)/\ps.length = i/\(∀ (i:Nat) (p:Rl) (sc:List Str),ps[i]? = some p->scopes[i]? = some sc->p.Fit sc/\(p.high:Int)<=floors/\∀ c,rounds[i]? = some c->(p.rep:Int)<=c)/\(manys ps:Int) + (scopes.length - i)<=spare)
  ⟨none,none,none,none,none,[],[],rfl,st0,zd,⟨rfl,fun i v w e=>by simp at e⟩,rfl,fun i p sc e=>by simp at e,by simp [manys]; omega⟩ (fun i σ' H' _ h=>?_) (fun i x t σ' H' hx ht h=>?_) (fun σ' H' h=>?_)⟩
 ·obtain ⟨_,_,_,_,_,us,ps,_,st,_⟩:=h
  exact SqL.of (st.keep ss _ hsb hss)
 ·obtain ⟨o8,o9,o10,o11,o12,us,ps,rfl,st,ep,hw,hpl,hfit,hm⟩:=h
  rw [List.getElem?_map] at hx
  obtain ⟨a,ha,rfl⟩:=Option.map_eq_some_iff.mp hx
  have hi:i < as.length:=(List.getElem?_eq_some_iff.mp ha).1
  have hsi:scopes[i]? = some scopes[i]:=List.getElem?_eq_getElem (by omega)
  have hri:rounds[i]? = some rounds[i]:=List.getElem?_eq_getElem (by omega)
  obtain ⟨h1,h2,h3,h4⟩:=hsc i a _ ha hsi
  obtain ⟨r0,r1⟩:=hrr _ (List.mem_of_getElem? hri)
  have hat:atI (rounds.map V.int) (i:Int) = some (.int rounds[i]):=zM (by rw [List.getElem?_map,hri]; rfl)
  have sT:=Same.new (o:=.tup [.int i,.ref a]) ht
  have stT:=st.trans (Step.ofSame' st.box sT)
  have hf:0<=floors:=by
   rcases hf0 with h | h
   ·exact h
   ·have h0:as.length = 0:=by rw [hal,h]; rfl
    omega
  refine ⟨t,_,rfl,SqT.of zd,rfl,_,_,rfl,_,_,rfl,rfl,?_⟩
  refine ⟨_,rfl,_,rfl,_,_,rfl,rfl,_,rfl,_,_,rfl,.inl ⟨_,SqL.of (stT.keep ss _ hsb hss),rfl⟩,_,rfl,_,_,rfl,rfl,_,_,rfl,rfl,_,_,rfl,rfl,?_⟩
  refine ⟨_,rfl,_,rfl,_,rfl,_,rfl,_,rfl,_,rfl,_,rfl,rs,_,_,_,rfl,rfl,SqL.of (stT.keep rs _ hrb hrs),hat,?_⟩
  refine ⟨b,a,l,scopes[i],names,_,floors,rounds[i],rfl,stT.box,hnm.step stT,stT.keep a _ h2 h1,h2,h3,h4,?_,?_,hf,hfn,r0,r1,fun t3 v r H3 et rw3 fit hmany hhigh hrep st3=>?_⟩
  ·rw [List.length_map,hal]; omega
  ·rw [List.length_map,hal]; omega
  rw [List.length_map,hal] at hmany
  have st4:=stT.trans st3
  have ep3:=(Step.ofSame' st.box sT).trans st3 |>.keep p _ hpb ep
  have hul:=hw.len
  rw [zbE] at hul
  refine ⟨t3,_,rfl,SqT.of et,rfl,_,_,rfl,_,_,rfl,rfl,?_⟩
  refine ⟨_,rfl,.inl ⟨rfl,us,SqL.of ep3⟩,_,rfl,p,us,v,rfl,rfl,ep3,Nat.lt_of_le_of_lt (show us.length<=100 by omega) (by decide),?_⟩
  refine ⟨_,rfl,_,rfl,_,_,rfl,rfl,?_⟩
  have tq:Tups H3 (upd H3 p (.lst (us ++ [v]))):=fun c zs ec=>by
   rw [zu (fun z=>by rw [z,ep3] at ec; cases ec)]
   exact ec
  have stF:Step b H (upd H3 p (.lst (us ++ [v]))):=⟨by
   obtain ⟨x,y,z,e'⟩:=st4.box
   exact ⟨x,y,z,by rw [zu hpb.symm]; exact e'⟩,fun c o hc e'=>by
   rw [zu (zr e' hp)]
   exact st4.keep c o hc e'⟩
  have tS:Tups H' H3:=fun c zs ec=>st3.tups stT.box c zs (sT _ _ ec)
  refine ⟨some (.int i),some (.ref a),some (.int (spare - manys ps - (((as.map V.ref).length:Int) - i - 1))),some v,some (.int r.many),us ++ [v],ps ++ [r],?_,stF,zd,?_,by rw [List.length_append,hpl]; rfl,fun j p' sc hj hs=>?_,?_⟩
  ·rw [zdO,Int.natCast_add]
   rfl
  ·rw [zjb]
   exact ((hw.mono tS).mono tq).snoc (rw3.mono tq)
  ·by_cases hjl:j < ps.length
   ·rw [List.getElem?_append_left hjl] at hj
    exact hfit j p' sc hj hs
   ·rw [List.getElem?_append_right (by omega)] at hj
    have hj0:j - ps.length = 0:=by
     have:=(List.getElem?_eq_some_iff.mp hj).1
     simp at this
     omega
    rw [hj0] at hj
    cases hj
    have hji:j = i:=by omega
    rw [hji,hsi] at hs
    cases hs
    exact ⟨fit,hhigh,fun c hc=>by rw [hji,hri] at hc; cases hc; exact hrep⟩
  ·rw [zdO]
   omega
 ·obtain ⟨o8,o9,o10,o11,o12,us,ps,rfl,st,ep,hw,hpl,hfit,hm⟩:=h
  rw [List.length_map,hal] at hpl hm
  refine ⟨_,rfl,p,us,rfl,.inl ⟨SqL.of ep,fun t2 ht2=>⟨_,rfl,zl2,fun t ht=>?_⟩⟩⟩
  have s1:=Same.new (o:=.tup us) ht2
  have s2:=Same.new (o:=.tup [.ref t2,.int (manys ps)]) ht
  have s3:=s1.trans s2
  exact q t t2 us ps _ zd (s2 _ _ zd) (hw.mono (zJ s3)) hpl hfit (by omega) (st.trans (Step.ofSame' st.box s3))
theorem Zr.ne {H:Hp}{b p:Addr} (hb:Zr H b) (hp:H p = none):p≠b:=fun z=>by
 obtain ⟨x,y,w',e⟩:=hb
 rw [← z,hp] at e
 cases e
def wIf:Wo->Bool
 | .ifw=>true
 | _=>false
def wB:Wo->Bool
 | .letw=>true
 | .each=>true
 | .over=>true
 | _=>false
def zfh:Wo->Bool
 | .each=>true
 | _=>false
def za7:Wo->Bool
 | .over=>true
 | _=>false
theorem eqIf (d:Wo):decide (V.str (woS d) = V.str "if") = wIf d:=by cases d <;> decide +kernel
theorem zjc (d:Wo):decide (V.str (woS d) = V.str "list") = zaA d:=by cases d <;> decide +kernel
theorem zm8 (d:Wo):decide (V.str (woS d) = V.str "each") = zfh d:=by cases d <;> decide +kernel
theorem zm9 (d:Wo):decide (V.str (woS d) = V.str "over") = za7 d:=by cases d <;> decide +kernel
theorem inB (d:Wo):inV (.str (woS d)) [.str "let",.str "each",.str "over"] = wB d:=by cases d <;> decide +kernel
def Wo.cnt (d:Wo):Int:=2 + (if wIf d then 1 else 0) - (if w1 d then 1 else 0)
theorem zna (d:Wo):1<=d.cnt/\d.cnt<=3:=by cases d <;> decide
theorem zkG (d:Wo) (h:wLit d = false) (h2:wVar d = false) (h3:zaA d = false):d.cnt<=d.needs/\wVL d = false:=by cases d <;> first | (simp_all [wLit,wVar,zaA]; done) | decide
theorem zlc (d:Wo) (h:wB d = true):2<=d.needs/\wVL d = false:=by cases d <;> first | (simp [wB] at h; done) | decide
theorem znb (d:Wo) (h:za7 d = true):d.needs = 3/\wB d = true/\bcnt d = 2/\wEO d = true/\zfh d = false:=by cases d <;> first | (simp [za7] at h; done) | decide
theorem zny (d:Wo) (h:wB d = true) (h2:za7 d = false):bcnt d = 1:=by cases d <;> first | (simp [wB] at h; done) | (simp [za7] at h2; done) | decide
theorem znz (d:Wo) (h:wB d = false):bcnt d = 0/\zfh d = false/\za7 d = false:=by cases d <;> first | (simp [wB] at h; done) | decide
theorem znc (d:Wo) (h:zfh d = true):wB d = true/\wEO d = true/\za7 d = false:=by cases d <;> first | (simp [zfh] at h; done) | decide
theorem znA (d:Wo) (h:wB d = true) (h2:za7 d = false):Cnt d 2:=by cases d <;> first | (simp [wB] at h; done) | (simp [za7] at h2; done) | exact ⟨fun z=>(nomatch z),fun _=>rfl⟩
theorem znB (d:Wo) (h:za7 d = true):Cnt d 3:=by cases d <;> first | (simp [za7] at h; done) | exact ⟨fun z=>(nomatch z),fun _=>rfl⟩
theorem znC {d:Wo} (h:wEO d = true) (h2:za7 d = false) {n:Nat} (hc:Cnt d n):n = 2:=by cases d <;> first | (simp [wEO] at h; done) | (simp [za7] at h2; done) | exact hc.2 rfl
theorem zlX {d:Wo} (h:wEO d = true) (h2:za7 d = false):zfh d = true:=by cases d <;> first | (simp [wEO] at h; done) | (simp [za7] at h2; done) | rfl
theorem zlY (d:Wo) (h1:wLit d = false) (h2:wVar d = false) (h3:zaA d = false) (h4:wB d = false):Cnt d d.cnt.toNat:=by cases d <;> first | (simp [wLit] at h1; done) | (simp [wVar] at h2; done) | (simp [zaA] at h3; done) | (simp [wB] at h4; done) | exact ⟨fun z=>(nomatch z),fun _=>rfl⟩
theorem zkH (d:Wo) (h:zaA d = true) {n:Nat} (hn:n<=8):Cnt d n:=⟨fun _=>hn,fun z=>by rw [h] at z; cases z⟩
def Shp (scopes:List (List Str)) (scope bs:List Str):Prop:=(bs = []/\∀ s∈scopes,s = scope)\/∃ m,scopes = List.replicate m scope ++ [scope ++ bs]
theorem zgQ {scope:List Str}:∀ {ps:List Rl},(∀ p∈ps,p.Fit scope)->Fits ps scope []
 | [],_=>by rw [Fits]; trivial
 | [p],h=>by rw [Fits,List.append_nil]; exact h p (by simp)
 | p :: q :: r,h=>by rw [Fits]; exact ⟨h p (by simp),zgQ fun x hx=>h x (List.mem_cons_of_mem _ hx)⟩
theorem zfi {scope bs:List Str}:∀ (m:Nat) (ps:List Rl),ps.length = m + 1->(∀ (i:Nat) (p:Rl) (sc:List Str),ps[i]? = some p->(List.replicate m scope ++ [scope ++ bs])[i]? = some sc->p.Fit sc)->Fits ps scope bs
 | 0,[p],_,h=>by rw [Fits]; exact h 0 p _ rfl rfl
 | m + 1,p :: q :: r,hl,h=>by
  rw [Fits]
  refine ⟨h 0 p _ rfl (by rw [List.replicate_succ]; rfl),zfi m (q :: r) (by simpa using hl) fun i x sc hx hs=>h (i + 1) x sc (by simpa using hx) ?_⟩
  rw [List.replicate_succ,List.cons_append,List.getElem?_cons_succ]
  exact hs
 | m + 1,[p],hl,_=>by simp at hl
 | 0,p :: q :: r,hl,_=>by simp at hl
theorem Shp.fits {scopes:List (List Str)}{scope bs:List Str} (h:Shp scopes scope bs) {ps:List Rl} (hl:ps.length = scopes.length) (hp:∀ (i:Nat) (p:Rl) (sc:List Str),ps[i]? = some p->scopes[i]? = some sc->p.Fit sc):Fits ps scope bs:=by
 rcases h with ⟨rfl,h⟩ | ⟨m,rfl⟩
 ·refine zgQ fun p hm=>?_
  obtain ⟨i,hi,rfl⟩:=List.getElem_of_mem hm
  have e:scopes[i]? = some (scopes[i]'(by omega)):=List.getElem?_eq_getElem (by omega)
  have:=hp i _ _ (List.getElem?_eq_getElem hi) e
  rw [h _ (List.mem_of_getElem? e)] at this
  exact this
 ·exact zfi m ps (by simpa using hl) hp
theorem zgR {n:Int}:∀ {ps:List Rl},0<=n->(∀ p∈ps,(p.high:Int)<=n - 1)->(highs ps:Int)<=n
 | [],h,_=>by simp [highs]; exact h
 | p :: r,h,hp=>by
  have h1:=hp p (by simp)
  have h2:=zgR h fun q hq=>hp q (List.mem_cons_of_mem _ hq)
  simp only [highs]
  omega
theorem zcO {α:Type} (n:Nat) (x:α):(List.replicate n [x]).flatten = List.replicate n x:=by
 induction n with
 | zero=>rfl
 | succ n ih=>rw [List.replicate_succ,List.flatten_cons,ih,List.replicate_succ]; rfl
theorem znd (z:Str) (h:z = "z"\/z = "w"):Vr z:=by
 rcases h with rfl | rfl
 ·exact ⟨by decide +kernel,by decide +kernel,by decide +kernel⟩
 ·exact ⟨by decide +kernel,by decide +kernel,by decide +kernel⟩
def Rd (d:Wo) (b sc l:Addr) (scope:List Str) (spare floors rounds:Int) (H0:Hp) (fin ea:Bool) (σ:St) (H:Hp):Prop:=
 ∃ (bn ss rs:Addr) (bs:List Str) (as:List Addr) (scopes:List (List Str)) (rl:List Int) (o10:Option V),σ = [some (.ref b),some (.ref sc),some (.ref l),some (.int spare),some (.int floors),some (.int rounds),some (.str (woS d)),some (.ref bn),some (.ref ss),some (.ref rs),o10,none,none]/\Step b H0 H/\H bn = some (.tup (bs.map V.str)) /\
  H ss = some (.lst (as.map V.ref))/\ss≠b/\H rs = some (.lst (rl.map V.int))/\rs≠b/\as.length = scopes.length/\scopes.length<=rl.length/\(∀ r∈rl,0<=r/\r<=100/\r<=rounds) /\
  (∀ (i:Nat) (a:Addr) (s:List Str),as[i]? = some a->scopes[i]? = some s->H a = some (.lst (s.map V.str))/\a≠b/\s.length<=scope.length + 2/\∀ y∈s,Vr y)/\(∀ z∈bs,Vr z) /\
  (fin = true->(scopes.length:Int)<=spare - 1/\(0<=floors - 1\/scopes = [])/\bs.length = bcnt d/\Cnt d scopes.length/\bs.Nodup/\(ea = true->wEO d = true->∀ c,rl[scopes.length - 1]? = some c->c<=rounds - 1)/\Shp scopes scope bs)/\(fin = false->∃ z,bs = [z])/\(zfh d = true->scopes.length<=2)
theorem ZC:FnScope ["_law_box_here","_law_scope","_law_names","_law_spare","_law_floors","_law_rounds","_law_word_here","_law_bound","_law_scopes","_law_inner","_law_other","_law_parts","_law_used"] ["_law_box_here","_law_scope","_law_names","_law_spare","_law_floors","_law_rounds"] (zl zgD):=⟨rfl,rfl,rfl,by decide +kernel,rfl,by decide +kernel,by decide +kernel⟩
theorem zlZ (F:Fun K "_law_any" "_law_any" zgD f fd) (G_lparts_by:Have P w K mg base "_law_parts_by" k ["_law_box_here","_law_scopes","_law_names","_law_spare","_law_floors","_law_rounds"] (zdc n)) (G_lvariable:Have P w K mg base "_law_variable" k ["_law_box_here"] (zlT)) (G_ltake:Have P w K mg base "_law_take" k ["_law_box_here","_law_wide"] (za5)) (G_llit:Have P w K mg base "_law_lit" k ["_law_box_here","_law_names"] (zlU)) (G_lword:Have P w K mg base "_law_word" k ["_law_box_here","_law_scope","_law_spare","_law_floors","_law_rounds"] (zi9)) (m_int:mg "int" = none) (m_len:mg "len" = none) (m_list:mg "list" = none) (m_min:mg "min" = none):FnOk P w K mg base CX0 (k + 1) f fd ["_law_box_here","_law_scope","_law_names","_law_spare","_law_floors","_law_rounds"] (zhQ (n + 1)):=by
 refine F.okQ ZC (fun vs H Q E h=>?_) (fun cdv A outer s H vs Q E hr h=>?_)
 ·obtain ⟨b,sc,l,scope,names,spare,floors,rounds,rfl,_⟩:=h
  rfl
 obtain ⟨b,sc,l,scope,names,spare,floors,rounds,rfl,hb,hnm,hsc,hsb,hsl,hsv',hs1,hs100,hf0,hfn,hr0,hr100,q⟩:=h
 refine ⟨_,(zb (zn (i:=6) ZC.nd rfl (Or.inl rfl) (zw G_lword hr rfl (za (pv 0) (za (pv 1) (za (pv 3) (za (pv 4) (za (pv 5) zc)))))))
  (zb (zB (zj zS (pv 6) ze (nomark _)) (zg (zo (zP (za (zw G_llit hr rfl (za (pv 0) (za (pv 2) zc))) (za zf zc))))) zq)
  (zb (zB (zj zS (pv 6) ze (nomark _)) (zg (zo (zP (za (zP (za ze (za (zy zQ (pv 1) (zw G_ltake hr rfl (za (pv 0) (za (zk zz rfl m_len PySem.boot_len (za (pv 1) zc)) zc))) (fun _ _=>rfl)) zc))) (za zf zc))))) zq)
  (zb (zn (i:=7) ZC.nd rfl (Or.inl rfl) (zP zc))
  (zb (zn (i:=8) ZC.nd rfl (Or.inl rfl) (zi zeY (zx (za (pv 1) zc)) (zi Zq (zi zU zf (zC zaD rfl m_int Z9 (za (zK zS (pv 6) ze (nomark _)) zc))) (zC zaD rfl m_int Z9 (za (zK ZQ (pv 6) (zP (za ze (za ze (za ze (za ze zc))))) (by rfl)) zc)))))
  (zb (zn (i:=9) ZC.nd rfl (Or.inl rfl) (zi zeY (zx (za (pv 5) zc)) zf))
  (zb (zB (zj zS (pv 6) ze (nomark _)) (zg (zn (i:=8) ZC.nd rfl (Or.inl rfl) (zi zeY (zx (za (pv 1) zc)) (zk (zeQ rfl) rfl m_min PyProof.Rows.boot_min (za (zw G_ltake hr rfl (za (pv 0) (za (zy zQ (zx (za zf (za zf zc))) (zC zaD rfl m_int Z9 (za (zK zcy (pv 4) zf (nomark _)) zc)) (fun _ _=>rfl)) zc))) (za (zi Zq (pv 3) zf) zc)))))) zq)
  (zb (zB (zj ZQ (pv 6) (zP (za ze (za ze (za ze zc)))) (by rfl)) (zb (zn (i:=7) ZC.nd rfl (Or.inl rfl) (zP (za (zw G_lvariable hr rfl (za (pv 0) zc)) zc)))
  (zg (zn (i:=8) ZC.nd rfl (Or.inl rfl) (zx (za (pv 1) (za (zi ZZ (pv 1) (zC zaq rfl m_list zby (za (pv 7) zc))) zc)))))) zq)
  (zb (zB (zj zS (pv 6) ze (nomark _)) (zg (zn (i:=9) ZC.nd rfl (Or.inl rfl) (zx (za (pv 5) (za (zi Zq (pv 5) zf) zc))))) zq)
  (zb (zB (zj zS (pv 6) ze (nomark _)) (zb (zn (i:=10) ZC.nd rfl (Or.inl rfl) (zw G_lvariable hr rfl (za (pv 0) zc)))
  (zb (zB (zj zS (pv 10) (zy zF (pv 7) zf (fun _ _=>rfl)) (nomark _)) (zg (zn (i:=10) ZC.nd rfl (Or.inl rfl) (zy zQ (zx (za ze (za ze zc))) (zC zaD rfl m_int Z9 (za (zK zS (pv 10) ze (nomark _)) zc)) (fun _ _=>rfl)))) zq)
  (zb (zn (i:=7) ZC.nd rfl (Or.inl rfl) (zi zck (pv 7) (zP (za (pv 10) zc))))
  (zb (zn (i:=8) ZC.nd rfl (Or.inl rfl) (zx (za (pv 1) (za (pv 1) (za (zi ZZ (pv 1) (zC zaq rfl m_list zby (za (pv 7) zc))) zc)))))
  (zg (zn (i:=9) ZC.nd rfl (Or.inl rfl) (zx (za (pv 5) (za (pv 5) (za (zi Zq (pv 5) zf) zc)))))))))) zq)
  (zb (za9 (zw G_lparts_by hr rfl (za (pv 0) (za (pv 8) (za (pv 2) (za (zi Zq (pv 3) zf) (za (zi Zq (pv 4) zf) (za (pv 9) zc))))))) (zbP rfl (Zn (zZ (i:=11) ZC.nd rfl (Or.inl rfl)) (Zn (zZ (i:=12) ZC.nd rfl (Or.inl rfl)) za8))))
  (zg (zo (zP (za (zi zck (zi zck (zP (za (pv 6) zc)) (pv 7)) (pv 11)) (za (zi zU (pv 12) zf) zc)))))))))))))))),?_⟩
 refine ⟨_,rfl,_,rfl,_,rfl,_,rfl,_,rfl,b,sc,_,spare,floors,rounds,rfl,hb,hsc,hsb,fun d H1 st1 hd=>?_⟩
 refine ⟨_,rfl,rfl,_,rfl,?_⟩
 rw [show Str.ofString "lit" = "lit" from rfl,zhP]
 cases hlit:wLit d with
 | true=>
  refine iteT ⟨_,rfl,_,rfl,b,l,names,rfl,st1.box,(hnm.step st1).1,hnm.2.1,hnm.2.2.1,hnm.2.2.2.1,hnm.2.2.2.2,fun v x H2 rx okx sx dx st2=>⟨zl2,fun a ha=>?_⟩⟩
  have st3:=st1.trans st2
  have s3:=Same.new (o:=.tup [v,.int 1]) ha
  exact q a v (.lit x) _ zd (rx.mono (zJ s3)) (by rw [Rl.Fit]; exact ⟨okx,sx,by omega⟩) (by simp only [Rl.many]; omega) (by simp only [Rl.high]; omega) (by simp only [Rl.rep]; omega) (st3.trans (Step.ofSame' st3.box s3))
 | false=>
  obtain ⟨hneed,hfl,hsv,heo⟩:=hd hlit
  refine iteF ⟨_,rfl,rfl,_,rfl,?_⟩
  rw [show Str.ofString "var" = "var" from rfl,zi8]
  cases hvar:wVar d with
  | true=>
   have hpos:0 < scope.length:=List.length_pos_iff.mpr fun z=>hsv hvar (by rw [z]; rfl)
   have hsc1:=st1.keep sc _ hsb hsc
   refine iteT ⟨_,rfl,_,rfl,_,rfl,_,_,rfl,.inl ⟨_,SqL.of hsc1,rfl⟩,b,_,rfl,st1.box,by rw [List.length_map]; omega,by rw [List.length_map]; omega,fun m H2 m0 m1 st2=>?_⟩
   rw [List.length_map] at m1
   have hi:m.toNat < scope.length:=by omega
   have hat:atI (scope.map V.str) m = some (.str scope[m.toNat]):=by
    have:=zM (xs:=scope.map V.str) (j:=m.toNat) (v:=.str scope[m.toNat]) (by rw [List.getElem?_map,List.getElem?_eq_getElem hi]; rfl)
    rw [show ((m.toNat:Nat):Int) = m by omega] at this
    exact this
   have st3:=st1.trans st2
   refine ⟨sc,_,m,_,rfl,rfl,SqL.of (st3.keep sc _ hsb hsc),hat,zl2,fun a ha=>⟨zl2,fun a2 ha2=>?_⟩⟩
   have s4:=Same.new (o:=.tup [.str "var",.str scope[m.toNat]]) ha
   have s5:=Same.new (o:=.tup [.ref a,.int 1]) ha2
   have s45:=s4.trans s5
   exact q a2 (.ref a) (.var scope[m.toNat]) _ zd (by rw [Rl.toW]; exact RW.pair (s5 _ _ zd) (.txt _) (.txt _)) (by rw [Rl.Fit]; exact ⟨hsv' _ (List.getElem_mem hi),List.getElem_mem hi⟩) (by simp only [Rl.many]; omega) (by simp only [Rl.high]; omega) (by simp only [Rl.rep]; omega) (st3.trans (Step.ofSame' st3.box s45))
  | false=>
   refine iteF ?_
   have h1:=st1.box
   have hsc1:=st1.keep sc _ hsb hsc
   refine ⟨zl0,fun bn hbn=>?_⟩
   have st2:=st1.trans (Step.new (o:=.tup []) h1 hbn)
   have e1:=in1 d
   refine ⟨_,rfl,zl1,fun p1 hp1=>⟨_,rfl,rfl,.inr ⟨_,rfl,_,_,rfl,rfl,_,rfl,zl4,fun q2 hq2=>⟨q2,_,rfl,.inr (SqT.of zd),rfl,rfl,.inr ⟨_,rfl,_,_,rfl,rfl,?_⟩⟩⟩⟩⟩
   have st3:=st2.trans (Step.new (o:=.lst [.ref sc]) st2.box hp1)
   have st4:=st3.trans (Step.new (o:=.tup [.str "count",.str "figures",.str "look",.str "cry"]) st3.box hq2)
   obtain ⟨c0,c3⟩:=zna d
   have hcnt:(2 + (if wIf d then 1 else 0) - (if w1 d then 1 else 0):Int) = d.cnt:=rfl
   have hk1:upd (upd (upd H1 bn (.tup [])) p1 (.lst [.ref sc])) q2 (.tup [.str "count",.str "figures",.str "look",.str "cry"]) p1 = some (.lst [.ref sc]):=(Same.new hq2) _ _ zd
   refine ⟨p1,d.cnt,[.ref sc],rfl,?_,hk1,by omega,by omega,by show 1 * _<=sizeLine; exact Nat.le_trans (show 1 * d.cnt.toNat<=3 by omega) (by decide),fun s1 hs1=>?_⟩
   ·rw [← hcnt,← eqIf,← e1]
    rfl
   have hs1b:=Zr.ne st4.box hs1
   have st5:=st4.trans (Step.new (o:=.lst (List.replicate d.cnt.toNat [V.ref sc]).flatten) st4.box hs1)
   refine ⟨_,rfl,zl1,fun p2 hp2=>⟨p2,8,[.int rounds],rfl,rfl,zd,by decide,by decide,by show 1 * 8<=sizeLine; decide,fun r1 hr1=>?_⟩⟩
   have st6:=st5.trans (Step.new (o:=.lst [.int rounds]) st5.box hp2)
   have hr1b:=Zr.ne st6.box hr1
   have s67:=Same.new (o:=.lst (List.replicate 8 [V.int rounds]).flatten) hr1
   have st7:=st6.trans (Step.ofSame' st6.box s67)
   have ebn:upd (upd (upd (upd (upd (upd H1 bn (.tup [])) p1 (.lst [.ref sc])) q2 (.tup [.str "count",.str "figures",.str "look",.str "cry"])) s1 (.lst (List.replicate d.cnt.toNat [V.ref sc]).flatten)) p2 (.lst [.int rounds])) r1 (.lst (List.replicate 8 [V.int rounds]).flatten) bn = some (.tup []):=s67 _ _ ((Same.new hp2) _ _ ((Same.new hs1) _ _ ((Same.new hq2) _ _ ((Same.new hp1) _ _ zd))))
   have es1:upd (upd (upd (upd (upd (upd H1 bn (.tup [])) p1 (.lst [.ref sc])) q2 (.tup [.str "count",.str "figures",.str "look",.str "cry"])) s1 (.lst (List.replicate d.cnt.toNat [V.ref sc]).flatten)) p2 (.lst [.int rounds])) r1 (.lst (List.replicate 8 [V.int rounds]).flatten) s1 = some (.lst (List.replicate d.cnt.toNat [V.ref sc]).flatten):=s67 _ _ ((Same.new hp2) _ _ zd)
   replace es1:=es1.trans (by rw [zcO])
   dsimp only [ZI]
   refine seqI (fun σ' H'=>∃ (ss:Addr) (m:Nat),σ' = [some (.ref b),some (.ref sc),some (.ref l),some (.int spare),some (.int floors),some (.int rounds),some (.str (woS d)),some (.ref bn),some (.ref ss),some (.ref r1),none,none,none]/\Step b H H'/\H' bn = some (.tup [])/\H' ss = some (.lst (List.replicate m (V.ref sc)))/\ss≠b/\H' r1 = some (.lst (List.replicate 8 (V.int rounds)))/\m<=8/\(wB d = false->(m:Int)<=spare - 1/\(1<=floors\/m = 0)/\Cnt d m)) (fun σ' H' h=>?_) (fun tl=>?_)
   ·obtain ⟨ss,m,rfl,stA,ebA,esA,hsA,erA,hm,hmf⟩:=h
    refine seqI (fun σ' H'=>Rd d b sc l scope spare floors rounds H (!za7 d) false σ' H') (fun σ' H' h=>?_) (fun tl=>?_)
    ·refine seqI (fun σ' H'=>Rd d b sc l scope spare floors rounds H (!za7 d) true σ' H') (fun σ' H' h=>?_) (fun tl=>?_)
     ·refine seqI (fun σ' H'=>Rd d b sc l scope spare floors rounds H true true σ' H') (fun σ' H' h=>?_) (fun tl=>?_)
      ·
       obtain ⟨bn,ss,rs,bs,as,scopes,rl,o10,rfl,stF,ebn,ess,hssb,ers,hrsb,hal,hrl,hrr,hsc',hbs,hfin,_⟩:=h
       obtain ⟨hsp,hfl0,hbc,hcn,hnd,hlast,hshp⟩:=hfin rfl
       refine ⟨_,rfl,_,rfl,_,rfl,_,rfl,_,_,rfl,rfl,_,rfl,_,_,rfl,rfl,_,rfl,?_⟩
       refine ⟨b,ss,l,rs,as,scopes,names,rl,_,_,rfl,stF.box,hnm.step stF,ess,hssb,ers,hrsb,hal,hrl,fun r hr=>⟨(hrr r hr).1,(hrr r hr).2.1⟩,fun i a s0 ha hs0=>?_,by omega,by omega,by omega,hfl0,fun t t2 us ps H9 et et2 hus hpl hfit hmn st9=>?_⟩
       ·obtain ⟨x1,x2,x3,x4⟩:=hsc' i a s0 ha hs0
        exact ⟨x1,x2,by omega,x4⟩
       have stG:=stF.trans st9
       have ebn9:=st9.tups stF.box _ _ ebn
       refine ⟨t,_,rfl,SqT.of et,rfl,_,_,rfl,_,_,rfl,rfl,_,rfl,zl1,fun a1 ha1=>⟨_,rfl,?_⟩⟩
       have sa1:=Same.new (o:=.tup [.str (woS d)]) ha1
       have fin:∀ (a:Addr) (Hx:Hp),Same H9 Hx->Hx a = some (.tup (.str (woS d) :: (bs.map V.str ++ us)))->∀ a3,Hx a3 = none->Q (.ref a3) (upd Hx a3 (.tup [.ref a,.int (manys ps + 1)])):=fun a Hx sx ea a3 ha3=>by
        have s3:=Same.new (o:=.tup [.ref a,.int (manys ps + 1)]) ha3
        refine q a3 (.ref a) (.op d bs ps) _ ?_ ?_ ?_ ?_ ?_ ?_ (stG.trans (Step.ofSame' stG.box (sx.trans s3)))
        ·rw [zd]
         simp only [Rl.many]
         rw [show ((1 + manys ps:Nat):Int) = manys ps + 1 by omega]
        ·rw [Rl.toW]
         refine .lst (s3 _ _ ea) (by simp; exact hus.len) fun i v x hv hx=>?_
         match i with
         | 0=>cases hv; cases hx; exact .txt _
         | i + 1=>
          rw [List.getElem?_cons_succ] at hv hx
          by_cases hi:i < bs.length
          ·rw [List.getElem?_append_left (by simpa using hi),List.getElem?_map,List.getElem?_eq_getElem hi] at hv hx
           cases hv; cases hx; exact .txt _
          ·rw [List.getElem?_append_right (by simp; omega),List.length_map] at hv hx
           exact (hus.mono (zJ (sx.trans s3))).2 _ v x hv hx
        ·rw [Rl.Fit]
         exact ⟨⟨hlit,hvar,hbc,hbs,hnd,by rw [hpl]; exact hcn⟩,hshp.fits hpl fun i p s0 hp hs=>(hfit i p s0 hp hs).1⟩
        ·simp only [Rl.many]; omega
        ·simp only [Rl.high]
         refine zgR (by omega) fun p hp=>?_
         obtain ⟨i,hi,rfl⟩:=List.getElem_of_mem hp
         have:=(hfit i _ _ (List.getElem?_eq_getElem hi) (List.getElem?_eq_getElem (by omega))).2.1
         omega
        ·simp only [Rl.rep]
         refine zja hr0 (fun p hp=>?_) (fun he p hp=>?_)
         ·obtain ⟨i,hi,rfl⟩:=List.getElem_of_mem hp
          have h2:rl[i]? = some rl[i]:=List.getElem?_eq_getElem (by omega)
          have:=(hfit i _ _ (List.getElem?_eq_getElem hi) (List.getElem?_eq_getElem (by omega))).2.2 _ h2
          have:=(hrr _ (List.mem_of_getElem? h2)).2.2
          omega
         ·rw [List.getLast?_eq_getElem?] at hp
          have hi:=(List.getElem?_eq_some_iff.mp hp).1
          have h2:rl[ps.length - 1]? = some rl[ps.length - 1]:=List.getElem?_eq_getElem (by omega)
          have:=(hfit _ _ _ hp (List.getElem?_eq_getElem (by omega))).2.2 _ h2
          have:=hlast rfl he rl[ps.length - 1] (by rw [← hpl]; exact h2)
          omega
       have hbl:bs.length<=2:=by rw [hbc]; cases d <;> decide
       have hul:us.length<=100:=by
        have:=hus.len
        rw [zbE] at this
        omega
       refine ⟨a1,bn,_,_,rfl,rfl,SqT.of zd,SqT.of (sa1 _ _ ebn9),(fun z=>nomatch z),by simp; exact Nat.le_trans (show 1 + bs.length<=200 by omega) (by decide),fun z=>⟨_,rfl,?_⟩,fun _ p6 hp6=>⟨_,rfl,?_⟩⟩
       ·have ea1:upd H9 a1 (.tup [.str (woS d)]) a1 = some (.tup (.str (woS d) :: bs.map V.str)):=by rw [zd,z]
        refine ⟨a1,t2,_,us,rfl,rfl,SqT.of ea1,SqT.of ((sa1) _ _ et2),(fun z=>nomatch z),by simp; exact Nat.le_trans (show bs.length + 1 + us.length<=200 by omega) (by decide),fun z=>?_,fun _ p7 hp7=>?_⟩
        ·refine ⟨_,rfl,_,_,rfl,rfl,zl2,fin a1 _ (sa1) (by rw [ea1,z,List.append_nil])⟩
        ·exact ⟨_,rfl,_,_,rfl,rfl,zl2,fin p7 _ ((sa1).trans (Same.new hp7)) (by rw [zd]; rfl)⟩
       ·have ea6:upd (upd H9 a1 (.tup [.str (woS d)])) p6 (.tup ([.str (woS d)] ++ bs.map V.str)) p6 = some (.tup (.str (woS d) :: bs.map V.str)):=by rw [zd]; rfl
        have s6':=sa1.trans (Same.new (o:=.tup ([.str (woS d)] ++ bs.map V.str)) hp6)
        refine ⟨p6,t2,_,us,rfl,rfl,SqT.of ea6,SqT.of ((s6') _ _ et2),(fun z=>nomatch z),by simp; exact Nat.le_trans (show bs.length + 1 + us.length<=200 by omega) (by decide),fun z=>?_,fun _ p7 hp7=>?_⟩
        ·refine ⟨_,rfl,_,_,rfl,rfl,zl2,fin p6 _ (s6') (by rw [ea6,z,List.append_nil])⟩
        ·exact ⟨_,rfl,_,_,rfl,rfl,zl2,fin p7 _ ((s6').trans (Same.new hp7)) (by rw [zd]; rfl)⟩
      ·have h0:=h
       obtain ⟨bn,ss,rs,bs,as,scopes,rl,o10,rfl,stF,ebn,ess,hssb,ers,hrsb,hal,hrl,hrr,hsc',hbs,hfin,hz,hl2⟩:=h
       refine ⟨_,rfl,rfl,_,rfl,?_⟩
       rw [show Str.ofString "over" = "over" from rfl,zm9]
       cases hov:za7 d with
       | false=>
        rw [hov] at h0
        exact iteF (tl _ _ h0)
       | true=>
        obtain ⟨x1,x2,x3,x4,x5⟩:=znb d hov
        have hr':=heo x4
        obtain ⟨z,rfl⟩:=hz (by rw [hov]; rfl)
        have hf1:1<=floors:=by
         have:floors≠0:=fun z=>by have:=(zlc d x2).2; rw [hfl z] at this; cases this
         omega
        refine iteT ⟨_,rfl,b,rfl,stF.box,fun z2 H4 hz8 st4'=>?_⟩
        have stC:=stF.trans st4'
        have ebn4:=st4'.tups stF.box _ _ ebn
        dsimp only [ZI]
        refine seqI (fun σ' H'=>∃ z3:Str,σ' = [some (.ref b),some (.ref sc),some (.ref l),some (.int spare),some (.int floors),some (.int rounds),some (.str (woS d)),some (.ref bn),some (.ref ss),some (.ref rs),some (.str z3),none,none]/\Same H4 H'/\Vr z3/\z3≠z) (fun σ' H' h=>?_) (fun tl2=>?_)
        ·obtain ⟨z3,rfl,s4,hz3,hne⟩:=h
         refine ⟨_,rfl,_,rfl,zl1,fun q6 hq6=>?_⟩
         have s6:=s4.trans (Same.new (o:=.tup [.str z3]) hq6)
         refine ⟨bn,q6,_,_,rfl,rfl,SqT.of (s6 _ _ ebn4),SqT.of zd,(fun z=>nomatch z),(by show 1 + 1<=sizeLine; decide),(fun z=>nomatch z),fun _ bn2 hbn2=>?_⟩
         have s7:=Same.new (o:=.tup ([.str z] ++ [.str z3])) hbn2
         refine ⟨_,rfl,_,rfl,_,rfl,_,rfl,bn2,_,rfl,.inr (SqT.of zd),fun l3 hl3=>?_⟩
         have s8:=Same.new (o:=.lst ([.str z] ++ [.str z3])) hl3
         have s68:=s6.trans (s7.trans s8)
         refine ⟨sc,l3,_,_,rfl,rfl,s68 _ _ (stC.keep sc _ hsb hsc),zd,by rw [List.length_map]; exact Nat.le_trans (show scope.length + 2<=1000 by omega) (by decide),fun p5 hp5=>⟨zl3,fun s5 hs5=>?_⟩⟩
         have s9:=Same.new (o:=.lst (scope.map V.str ++ ([.str z] ++ [.str z3]))) hp5
         have s10:=Same.new (o:=.lst [.ref sc,.ref sc,.ref p5]) hs5
         refine ⟨_,rfl,_,rfl,_,rfl,_,_,rfl,rfl,zl3,fun r2 hr2=>tl _ _ ?_⟩
         have s11:=Same.new (o:=.lst [.int rounds,.int rounds,.int (rounds - 1)]) hr2
         have sAll:=s68.trans (s9.trans (s10.trans s11))
         have hboxC:=stC.box
         refine ⟨bn2,s5,r2,[z,z3],[sc,sc,p5],[scope,scope,scope ++ [z,z3]],[rounds,rounds,rounds - 1],_,rfl,stC.trans (Step.ofSame' hboxC sAll),(s8.trans (s9.trans (s10.trans s11))) _ _ zd,s11 _ _ zd,Zr.ne (Step.ofSame' hboxC (s68.trans s9)).box hs5,zd,Zr.ne (Step.ofSame' hboxC (s68.trans (s9.trans s10))).box hr2,rfl,Nat.le_refl _,fun r hr=>?_,fun i a s0 ha hs0=>?_,fun y hy=>?_,fun hf=>⟨?_,.inl (by omega),x3.symm,znB d hov,by simp; exact fun z=>hne z.symm,fun _ _ c hc=>by cases hc; exact Int.le_refl _,.inr ⟨2,rfl⟩⟩,fun z=>(nomatch z),fun z=>by rw [x5] at z; cases z⟩
         ·simp only [List.mem_cons,List.not_mem_nil,or_false] at hr
          omega
         ·match i with
          | 0=>cases ha; cases hs0; exact ⟨sAll _ _ (stC.keep sc _ hsb hsc),hsb,by omega,hsv'⟩
          | 1=>cases ha; cases hs0; exact ⟨sAll _ _ (stC.keep sc _ hsb hsc),hsb,by omega,hsv'⟩
          | 2=>
           cases ha; cases hs0
           exact ⟨((s10.trans s11) _ _ zd).trans (by rw [List.map_append]; rfl),Zr.ne (Step.ofSame' hboxC s68).box hp5,by rw [List.length_append]; exact Nat.le_refl _,fun y hy=>by
            rcases List.mem_append.mp hy with hy | hy
            ·exact hsv' y hy
            ·simp only [List.mem_cons,List.not_mem_nil,or_false] at hy
             rcases hy with rfl | rfl
             ·exact hbs _ (by simp)
             ·exact hz3⟩
          | i + 3=>cases ha
         ·simp only [List.mem_cons,List.not_mem_nil,or_false] at hy
          rcases hy with rfl | rfl
          ·exact hbs _ (by simp)
          ·exact hz3
         ·show (3:Int)<=spare - 1; omega
        ·refine ⟨_,rfl,_,rfl,bn,_,0,_,rfl,rfl,SqT.of ebn4,rfl,rfl,_,rfl,ite2 (fun ht=>?_) (fun hf=>tl2 _ _ ⟨z2,rfl,Same.refl _,hz8,fun e=>hf (decide_eq_true (congrArg V.str e))⟩)⟩
         refine ⟨zl2,fun q7 hq7=>⟨_,rfl,rfl,.inr ⟨_,rfl,?_⟩⟩⟩
         have s7:=Same.new (o:=.lst [.str "z",.str "w"]) hq7
         obtain ⟨z3,e3,g3⟩:∃ z3:Str,atI [V.str "z",V.str "w"] (if (decide (V.str z2 = V.str "z")) = true then 1 else 0) = some (.str z3)/\Vr z3/\z3≠z:=by
          have e2:z2 = z:=V.str.inj (of_decide_eq_true ht)
          by_cases hz:z2 = "z"
          ·rw [decide_eq_true (congrArg V.str hz)]
           exact ⟨"w",rfl,znd _ (.inr rfl),fun z0=>absurd (z0.trans (e2.symm.trans hz)) (by decide +kernel)⟩
          ·rw [decide_eq_false (fun h=>hz (V.str.inj h))]
           exact ⟨"z",rfl,znd _ (.inl rfl),fun z0=>hz (e2.trans z0.symm)⟩
         exact ⟨q7,_,_,_,rfl,rfl,SqL.of zd,e3,tl2 _ _ ⟨z3,rfl,s7,g3⟩⟩
     ·have h0:=h
      obtain ⟨bn,ss,rs,bs,as,scopes,rl,o10,rfl,stF,ebn,ess,hssb,ers,hrsb,hal,hrl,hrr,hsc',hbs,hfin,hz,hl2⟩:=h
      refine ⟨_,rfl,rfl,_,rfl,?_⟩
      rw [show Str.ofString "each" = "each" from rfl,zm8]
      cases hea:zfh d with
      | false=>
       refine iteF (tl _ _ ⟨bn,ss,rs,bs,as,scopes,rl,o10,rfl,stF,ebn,ess,hssb,ers,hrsb,hal,hrl,hrr,hsc',hbs,fun hf=>?_,hz,hl2⟩)
       obtain ⟨g1,g2,g3,g4,g5,_,g7⟩:=hfin hf
       exact ⟨g1,g2,g3,g4,g5,fun _ he c hc=>absurd (zlX he (by simpa using hf)) (by rw [hea]; decide),g7⟩
      | true=>
       obtain ⟨x1,x2,x3⟩:=znc d hea
       have hr':=heo x2
       refine iteT ⟨_,rfl,_,rfl,_,_,rfl,rfl,zl2,fun r2 hr2=>tl _ _ ?_⟩
       have sN:=Same.new (o:=.lst [.int rounds,.int (rounds - 1)]) hr2
       refine ⟨bn,ss,r2,bs,as,scopes,[rounds,rounds - 1],o10,rfl,stF.trans (Step.ofSame' stF.box sN),sN _ _ ebn,sN _ _ ess,hssb,zd,Zr.ne stF.box hr2,hal,hl2 hea,fun r hr=>?_,fun i a s0 ha hs0=>?_,hbs,fun hf=>?_,hz,hl2⟩
       ·simp only [List.mem_cons,List.not_mem_nil,or_false] at hr
        omega
       ·obtain ⟨y1,y2,y3⟩:=hsc' i a s0 ha hs0
        exact ⟨sN _ _ y1,y2,y3⟩
       ·obtain ⟨g1,g2,g3,g4,g5,_,g7⟩:=hfin hf
        refine ⟨g1,g2,g3,g4,g5,fun _ _ c hc=>?_,g7⟩
        rw [znC x2 x3 g4] at hc
        cases hc
        exact Int.le_refl _
    ·refine ⟨_,rfl,zl3,fun q3 hq3=>⟨q3,_,rfl,.inr (SqT.of zd),rfl,rfl,_,rfl,?_⟩⟩
     have sq:=Same.new (o:=.tup [.str "let",.str "each",.str "over"]) hq3
     have stB:=stA.trans (Step.ofSame' stA.box sq)
     have hscB:=stB.keep sc _ hsb hsc
     show if inV (.str (woS d)) [.str "let",.str "each",.str "over"] = true then _ else _
     rw [inB]
     cases hb0:wB d with
     | false=>
      obtain ⟨x1,x2,x3⟩:=znz d hb0
      obtain ⟨y1,y2,y3⟩:=hmf hb0
      refine iteF (tl _ _ ⟨bn,ss,r1,[],List.replicate m sc,List.replicate m scope,List.replicate 8 rounds,none,rfl,stB,sq _ _ ebA,(sq _ _ esA).trans (by rw [List.map_replicate]),hsA,(sq _ _ erA).trans (by rw [List.map_replicate]),hr1b,by simp,by simp; omega,fun r hr=>?_,fun i a s0 ha hs0=>?_,fun z hz=>(nomatch hz),fun _=>⟨by rw [List.length_replicate]; exact y1,?_,x1.symm,by rw [List.length_replicate]; exact y3,List.nodup_nil,fun z=>(nomatch z),.inl ⟨rfl,fun s hs=>List.eq_of_mem_replicate hs⟩⟩,fun z=>(by rw [x3] at z; cases z),fun z=>(by rw [x2] at z; cases z)⟩)
      ·rw [List.eq_of_mem_replicate hr]; exact ⟨hr0,hr100,Int.le_refl _⟩
      ·rw [List.eq_of_mem_replicate (List.mem_of_getElem? ha),List.eq_of_mem_replicate (List.mem_of_getElem? hs0)]
       exact ⟨hscB,hsb,by omega,hsv'⟩
      ·rcases y2 with y | y
       ·left; omega
       ·right; rw [y]; rfl
     | true=>
      obtain ⟨x1,x2⟩:=zlc d hb0
      have hf1:1<=floors:=by
       have:floors≠0:=fun z=>by rw [hfl z] at x2; cases x2
       omega
      refine iteT ⟨_,rfl,b,rfl,stB.box,fun z H4 hz8 st4'=>⟨zl1,fun bn2 hbn2=>?_⟩⟩
      have stC:=stB.trans st4'
      have sb2:=Same.new (o:=.tup [.str z]) hbn2
      refine ⟨_,rfl,_,rfl,_,rfl,bn2,[.str z],rfl,.inr (SqT.of zd),fun l3 hl3=>?_⟩
      have sb3:=Same.new (o:=.lst [.str z]) hl3
      have sb23:=sb2.trans sb3
      have hsc3:=sb23 _ _ (stC.keep sc _ hsb hsc)
      refine ⟨sc,l3,_,_,rfl,rfl,hsc3,zd,by rw [List.length_map]; exact Nat.le_trans (show scope.length + 1<=1000 by omega) (by decide),fun p5 hp5=>⟨zl2,fun s5 hs5=>?_⟩⟩
      have sb4:=Same.new (o:=.lst (scope.map V.str ++ [.str z])) hp5
      have sb5:=Same.new (o:=.lst [.ref sc,.ref p5]) hs5
      have sAll:=(sb23.trans sb4).trans sb5
      have hboxC:=stC.box
      have st34:=Step.ofSame' hboxC (sb23.trans sb4)
      refine tl _ _ ⟨bn2,s5,r1,[z],[sc,p5],[scope,scope ++ [z]],List.replicate 8 rounds,none,rfl,stC.trans (Step.ofSame' hboxC sAll),(sb3.trans (sb4.trans sb5)) _ _ zd,zd,Zr.ne st34.box hs5,(sAll _ _ (st4'.keep _ _ hr1b (sq _ _ erA))).trans (by rw [List.map_replicate]),hr1b,rfl,by simp,fun r hr=>?_,fun i a s0 ha hs0=>?_,fun y hy=>?_,fun hf=>⟨?_,.inl (by omega),?_,znA d hb0 (by simpa using hf),by simp,fun z=>(nomatch z),.inr ⟨1,rfl⟩⟩,fun _=>⟨z,rfl⟩,fun _=>Nat.le_refl _⟩
      ·rw [List.eq_of_mem_replicate hr]; exact ⟨hr0,hr100,Int.le_refl _⟩
      ·match i with
       | 0=>cases ha; cases hs0; exact ⟨sAll _ _ (stC.keep sc _ hsb hsc),hsb,by omega,hsv'⟩
       | 1=>
        cases ha; cases hs0
        exact ⟨(sb5 _ _ zd).trans (by rw [List.map_append]; rfl),Zr.ne (Step.ofSame' hboxC sb23).box hp5,by rw [List.length_append]; show _ + 1<=_; omega,fun y hy=>by
         rcases List.mem_append.mp hy with hy | hy
         ·exact hsv' y hy
         ·rw [List.mem_singleton.mp hy]; exact hz8⟩
       | i + 2=>cases ha
      ·rw [List.mem_singleton.mp hy]; exact hz8
      ·show (2:Int)<=spare - 1; omega
      ·show 1 = bcnt d
       rw [zny d hb0 (by simpa using hf)]
   ·refine ⟨_,rfl,rfl,_,rfl,?_⟩
    rw [show Str.ofString "list" = "list" from rfl,zjc]
    cases hls:zaA d with
    | false=>
     obtain ⟨hcn,hvl⟩:=zkG d hlit hvar hls
     have hf1:1<=floors:=by
      have:floors≠0:=fun z=>by rw [hfl z] at hvl; cases hvl
      omega
     exact iteF (tl _ _ ⟨s1,d.cnt.toNat,rfl,st7,ebn,es1,hs1b,zd.trans (by rw [zcO]; rfl),by omega,fun hwb=>⟨by omega,.inl hf1,zlY d hlit hvar hls hwb⟩⟩)
    | true=>
     have hwB:wB d = false:=by cases d <;> first | rfl | (simp [zaA] at hls; done)
     refine iteT ⟨_,rfl,zl1,fun p3 hp3=>⟨_,rfl,zl2,fun p4 hp4=>⟨_,rfl,_,_,rfl,rfl,.inr ⟨_,rfl,?_⟩⟩⟩⟩
     have s73:=Same.new (o:=.lst [.ref sc]) hp3
     have s74:=Same.new (o:=.lst [.int 1,.int 9]) hp4
     have s8:=s73.trans s74
     have st8:=st7.trans (Step.ofSame' st7.box s8)
     have hp3b:=Zr.ne st7.box hp3
     obtain ⟨wd,hwd,hw0,hw9,hwf⟩:∃ wd:Int,atI [V.int 1,V.int 9] (if (decide (0 < floors)) = true then 1 else 0) = some (.int wd)/\1<=wd/\wd<=9/\(floors = 0->wd = 1):=by
      by_cases hf:0 < floors
      ·exact ⟨9,by rw [decide_eq_true hf]; rfl,by decide,by decide,fun z=>by omega⟩
      ·exact ⟨1,by rw [decide_eq_false hf]; rfl,by decide,by decide,fun z=>rfl⟩
     refine ⟨p4,_,_,_,rfl,rfl,SqL.of zd,hwd,b,wd,rfl,st8.box,by omega,by omega,fun m H2 m0 m1 st9=>?_⟩
     refine ⟨_,rfl,_,_,rfl,rfl,_,_,rfl,?_⟩
     have ep3:H2 p3 = some (.lst [.ref sc]):=st9.keep _ _ hp3b (s74 _ _ zd)
     have hmn:(if spare - 1 < m then spare - 1 else m)<=spare - 1/\(if spare - 1 < m then spare - 1 else m)<=m/\0<=(if spare - 1 < m then spare - 1 else m):=by
      split <;> omega
     generalize hmm:(if spare - 1 < m then spare - 1 else m) = mm at hmn
     refine ⟨p3,mm,[.ref sc],rfl,by rw [← hmm],ep3,by omega,by omega,by show 1 * _<=sizeLine; exact Nat.le_trans (show 1 * mm.toNat<=9 by omega) (by decide),fun s2 hs2=>?_⟩
     have st10:=st8.trans st9
     have s11:=Same.new (o:=.lst (List.replicate mm.toNat [V.ref sc]).flatten) hs2
     have hbnb:bn≠b:=Zr.ne h1 hbn
     refine tl _ _ ⟨s2,mm.toNat,rfl,st10.trans (Step.ofSame' st10.box s11),s11 _ _ (st9.keep _ _ hbnb (s8 _ _ ebn)),zd.trans (by rw [zcO]),Zr.ne st10.box hs2,s11 _ _ (st9.keep _ _ hr1b (s8 _ _ (zd.trans (by rw [zcO]; rfl)))),by omega,fun _=>⟨by omega,?_,zkH d hls (by omega)⟩⟩
     by_cases hf:floors = 0
     ·right
      have:=hwf hf
      omega
     ·left; omega
abbrev Row:=List Int × Rl × List Str
def rlW:Rl->Wo
 | .lit _=>.lit
 | .var _=>.var
 | .op d _ _=>d
def za0 (n:List Int) (sc bs:List Str):List Rl->Int->List Row
 | [],_=>[]
 | [p],k=>[(n ++ [k],p,sc ++ bs)]
 | p :: q :: r,k=>(n ++ [k],p,sc) :: za0 n sc bs (q :: r) (k + 1)
mutual
def walk (n:List Int) (sc:List Str):Rl->List Row
 | .lit x=>[(n,.lit x,sc)]
 | .var s=>[(n,.var s,sc)]
 | .op d bs ps=>(n,.op d bs ps,sc) :: walks n sc bs ps (1 + (bcnt d:Int))
def walks (n:List Int) (sc bs:List Str):List Rl->Int->List Row
 | [],_=>[]
 | [p],k=>walk (n ++ [k]) (sc ++ bs) p
 | p :: q :: r,k=>walk (n ++ [k]) sc p ++ walks n sc bs (q :: r) (k + 1)
end
theorem zgS (n:List Int) (sc bs:List Str):∀ (ps:List Rl) (k:Int),(za0 n sc bs ps k).length = ps.length
 | [],_=>rfl
 | [p],_=>rfl
 | p :: q :: r,k=>by rw [za0,List.length_cons,zgS n sc bs (q :: r) (k + 1)]; rfl
theorem zgT (n:List Int) (sc bs:List Str):∀ (ps:List Rl) (k:Int) (i:Nat) (p:Rl),ps[i]? = some p->(za0 n sc bs ps k)[i]? = some (n ++ [k + i],p,if i + 1 = ps.length then sc ++ bs else sc)
 | [q],k,0,p,h=>by cases h; simp [za0]
 | q :: r :: l,k,0,p,h=>by cases h; rw [za0]; simp
 | q :: r :: l,k,i + 1,p,h=>by
  rw [List.getElem?_cons_succ] at h
  rw [za0,List.getElem?_cons_succ,zgT n sc bs (r :: l) (k + 1) i p h,show k + 1 + (i:Int) = k + ((i + 1:Nat):Int) by omega]
  congr 3
  simp
 | [q],k,i + 1,p,h=>by simp at h
mutual
theorem zgU (n:List Int) (sc:List Str):∀ r:Rl,(walk n sc r).length = r.many
 | .lit x=>by rw [walk,Rl.many]; rfl
 | .var s=>by rw [walk,Rl.many]; rfl
 | .op d bs ps=>by rw [walk,Rl.many,List.length_cons,walks_len n sc bs ps _]; omega
theorem walks_len (n:List Int) (sc bs:List Str):∀ (ps:List Rl) (k:Int),(walks n sc bs ps k).length = manys ps
 | [],_=>by rw [walks,manys]; rfl
 | [p],k=>by rw [walks,manys,manys,zgU (n ++ [k]) (sc ++ bs) p]; rfl
 | p :: q :: r,k=>by rw [walks,manys,List.length_append,zgU (n ++ [k]) sc p,walks_len n sc bs (q :: r) (k + 1)]
end
theorem Gds.mem:∀ {ps:List Rl},Gds ps->∀ p∈ps,p.Gd
 | q :: r,h,p,hp=>by
  rw [Gds] at h
  rcases List.mem_cons.mp hp with rfl | hp
  ·exact h.1
  ·exact Gds.mem h.2 p hp
theorem zcg:∀ {ps:List Rl}{p:Rl},p∈ps->1 + p.high<=highs ps
 | q :: r,p,h=>by
  rw [highs]
  rcases List.mem_cons.mp h with rfl | h
  ·omega
  ·have:=zcg h; omega
theorem zco (d:Wo):bcnt d<=2:=by cases d <;> decide
theorem RW.inv_lst {H:Hp}{v:V}{ws:List W} (h:RW H v (.lst ws)):∃ a vs,v = .ref a/\H a = some (.tup vs)/\RWs H vs ws:=by
 cases h with
 | lst e l r=>exact ⟨_,_,rfl,e,l,r⟩
theorem RW.inv_txt {H:Hp}{v:V}{x:Str} (h:RW H v (.txt x)):v = .str x:=by cases h; rfl
theorem RWs.inv_cons {H:Hp}{vs:List V}{w:W}{ws:List W} (h:RWs H vs (w :: ws)):∃ v r,vs = v :: r/\RW H v w/\RWs H r ws:=by
 obtain ⟨l,f⟩:=h
 cases vs with
 | nil=>simp at l
 | cons v r=>exact ⟨v,r,rfl,f 0 v w rfl rfl,by simpa using l,fun i x y hx hy=>f (i + 1) x y (by simpa using hx) (by simpa using hy)⟩
theorem RWs.inv_nil {H:Hp}{vs:List V} (h:RWs H vs []):vs = []:=List.length_eq_zero_iff.mp h.len
theorem RWs.inv_txts {H:Hp}:∀ {bs:List Str}{vs:List V}{ws:List W},RWs H vs (bs.map W.txt ++ ws)->∃ r,vs = bs.map V.str ++ r/\RWs H r ws
 | [],vs,ws,h=>⟨vs,rfl,h⟩
 | b :: bs,vs,ws,h=>by
  obtain ⟨v,r,rfl,h1,h2⟩:=RWs.inv_cons h
  obtain ⟨r',rfl,h3⟩:=RWs.inv_txts h2
  exact ⟨r',by rw [RW.inv_txt h1]; rfl,h3⟩
inductive Opn (H:Hp):Rl->List V->Prop where
 | lit {x:W}{v:V}:RW H v x->Opn H (.lit x) [.str "lit",v]
 | var {s:Str}:Opn H (.var s) [.str "var",.str s]
 | op {d:Wo}{bs:List Str}{ps:List Rl}{vs:List V}:RWs H vs (rlWs ps)->Opn H (.op d bs ps) (.str (woS d) :: (bs.map V.str ++ vs))
theorem opn {H:Hp}{v:V}{r:Rl} (h:RW H v r.toW):∃ a us,v = .ref a/\H a = some (.tup us)/\Opn H r us:=by
 cases r with
 | lit x=>
  rw [Rl.toW] at h
  obtain ⟨a,vs,rfl,e,h⟩:=RW.inv_lst h
  obtain ⟨v1,r1,rfl,h1,h⟩:=RWs.inv_cons h
  obtain ⟨v2,r2,rfl,h2,h⟩:=RWs.inv_cons h
  rw [RW.inv_txt h1,RWs.inv_nil h] at e
  exact ⟨a,_,rfl,e,.lit h2⟩
 | var s=>
  rw [Rl.toW] at h
  obtain ⟨a,vs,rfl,e,h⟩:=RW.inv_lst h
  obtain ⟨v1,r1,rfl,h1,h⟩:=RWs.inv_cons h
  obtain ⟨v2,r2,rfl,h2,h⟩:=RWs.inv_cons h
  rw [RW.inv_txt h1,RW.inv_txt h2,RWs.inv_nil h] at e
  exact ⟨a,_,rfl,e,.var⟩
 | op d bs ps=>
  rw [Rl.toW] at h
  obtain ⟨a,vs,rfl,e,h⟩:=RW.inv_lst h
  obtain ⟨v1,r1,rfl,h1,h⟩:=RWs.inv_cons h
  obtain ⟨r2,rfl,h2⟩:=RWs.inv_txts h
  rw [RW.inv_txt h1] at e
  exact ⟨a,_,rfl,e,.op h2⟩
theorem Opn.head {H:Hp}{r:Rl}{us:List V} (h:Opn H r us):us[0]? = some (.str (woS (rlW r))):=by cases h <;> rfl
theorem zl7 (x:V) (xs ys:List V) (k:Nat) (hk:k = xs.length):cutV (x :: (xs ++ ys)) (some 1) (some (1 + (k:Int))) = xs:=by
 show ((x :: (xs ++ ys)).drop (HT.sIx (x :: (xs ++ ys)).length 0 (some ((1:Nat):Int)))).take (HT.sIx (x :: (xs ++ ys)).length (x :: (xs ++ ys)).length (some (1 + (k:Int))) - HT.sIx (x :: (xs ++ ys)).length 0 (some ((1:Nat):Int))) = xs
 rw [show (1:Int) + (k:Int) = ((1 + k:Nat):Int) by omega,HT.sIx_nat,HT.sIx_nat,List.length_cons,List.length_append,hk,show min 1 (xs.length + ys.length + 1) = 1 by omega,show min (1 + xs.length) (xs.length + ys.length + 1) - 1 = xs.length by omega]
 simp
theorem zgV (x:V) (xs ys:List V) (k:Nat) (hk:k = xs.length):cutV (x :: (xs ++ ys)) (some (1 + (k:Int))) none = ys:=by
 show ((x :: (xs ++ ys)).drop (HT.sIx (x :: (xs ++ ys)).length 0 (some (1 + (k:Int))))).take ((x :: (xs ++ ys)).length - HT.sIx (x :: (xs ++ ys)).length 0 (some (1 + (k:Int)))) = ys
 rw [show (1:Int) + (k:Int) = ((1 + k:Nat):Int) by omega,HT.sIx_nat,List.length_cons,List.length_append,hk,show min (1 + xs.length) (xs.length + ys.length + 1) = xs.length + 1 by omega]
 rw [List.drop_succ_cons,List.drop_left,List.take_of_length_le (by omega)]
theorem zbh (x:V) (xs:List V) (k:Nat) (hi:Option Int):¬ (HT.sIx (x :: xs).length 0 (some (1 + (k:Int))) = 0/\HT.sIx (x :: xs).length (x :: xs).length hi = (x :: xs).length):=fun h=>by
 have h1:=h.1
 rw [show (1:Int) + (k:Int) = ((1 + k:Nat):Int) by omega,HT.sIx_nat,List.length_cons] at h1
 omega
theorem zeh:∀ {ps:List Rl}{i:Nat}{p:Rl},ps[i]? = some p->(rlWs ps)[i]? = some p.toW
 | q :: r,0,p,h=>by cases h; rw [rlWs]; rfl
 | q :: r,i + 1,p,h=>by rw [rlWs,List.getElem?_cons_succ]; exact zeh (by simpa using h)
theorem zjd:bootBuiltins (Str.ofString "set") = some (.type "set"):=by kernel_rfl
def kvsB:List (Key × V):=[(.inr "let",.int 1),(.inr "each",.int 1),(.inr "over",.int 2)]
def kvsP:List (Key × V):=[(.inr "let",.int 2),(.inr "if",.int 3),(.inr "+",.int 2),(.inr "-",.int 2),(.inr "*",.int 2),(.inr "/",.int 2),(.inr "same",.int 2),(.inr "less",.int 2),(.inr "join",.int 2),(.inr "item",.int 2),(.inr "count",.int 1),(.inr "figures",.int 1),(.inr "each",.int 2),(.inr "over",.int 3),(.inr "look",.int 1),(.inr "else",.int 2),(.inr "cry",.int 1)]
def woAt (z:Str):Option Wo:=zdb.find? fun d=>decide (woS d = z)
theorem zau (d:Wo):woAt (woS d) = some d:=by cases d <;> rfl
theorem zje:∀ kv∈kvsP,∃ d,kv.1 = Sum.inr (woS d):=by
 have:kvsP.map (·.1) = [Wo.letw,.ifw,.add,.sub,.mul,.div,.same,.less,.join,.item,.count,.figs,.each,.over,.look,.elsew,.cry].map fun d=>(Sum.inr (woS d):Key):=rfl
 intro kv hkv
 have h:=List.mem_map_of_mem (f:=(·.1)) hkv
 rw [this] at h
 obtain ⟨d,_,hd⟩:=List.mem_map.mp h
 exact ⟨d,hd.symm⟩
theorem zfj {z:Str} (h:∀ d,z≠woS d):valV kvsP (.inr z) = none:=by
 unfold valV
 rw [List.find?_eq_none.mpr fun kv hkv=>?_]
 ·rfl
 ·obtain ⟨d,hd⟩:=zje kv hkv
  rw [hd]
  simp only [decide_eq_true_eq]
  exact fun e=>h d (Sum.inr.inj e).symm
def hasB (z:Str):Bool:=match woAt z with
 | some d=>!(wLit d || wVar d)
 | none=>false
theorem zfk {z:Str}{d:Wo} (h:woAt z = some d):z = woS d:=by
 have:=List.find?_some h
 exact (of_decide_eq_true this).symm
theorem zfl {z:Str} (h:woAt z = none):∀ d,z≠woS d:=fun d e=>by
 subst e
 rw [zau] at h
 cases h
def zbF:Sp:=fun vs H Q _=>∃ z:Str,vs = [.str z]/\Q (.bl (hasB z)) H
theorem zgW (d:Wo):hasB (woS d) = !(wLit d || wVar d):=by unfold hasB; rw [zau]
def zbG:Sp:=fun vs H Q _=>∃ d:Wo,vs = [.str (woS d)]/\Q (.int (bcnt d)) H
def zch:Sp:=fun vs H Q _=>∃ (a:Addr) (d:Wo) (xs ys:List V),vs = [.ref a]/\H a = some (.tup (.str (woS d) :: (xs ++ ys)))/\xs.length = bcnt d/\∀ (p:Addr) (H':Hp),Same H H'->H' p = some (.tup xs)->Q (.ref p) H'
def zE:Rl->List Rl
 | .op _ _ ps=>ps
 | _=>[]
def zac:Sp:=fun vs H Q _=>∃ (a:Addr) (d:Wo) (xs ys:List V),vs = [.ref a]/\H a = some (.tup (.str (woS d) :: (xs ++ ys)))/\((wLit d || wVar d) = true\/((wLit d || wVar d) = false/\xs.length = bcnt d))/\∀ (l:Addr) (H':Hp),H l = none->Same H H'->H' l = some (.lst (if (wLit d || wVar d) = true then [] else ys))->Q (.ref l) H'
theorem zgX:∀ ps:List Rl,ps.length<=manys ps
 | []=>by simp [manys]
 | p :: r=>by
  have h1:=zgX r
  have h2:1<=p.many:=by cases p <;> simp [Rl.many]
  simp only [manys,List.length_cons]
  omega
theorem zfm:FnScope ["word"] ["word"] (zl zaO):=⟨rfl,rfl,rfl,by decide +kernel,rfl,by decide +kernel,by decide +kernel⟩
theorem zfn (F:Fun K "has_parts" "has_parts" zaO f fd) {g_PARTS:Addr} (m_PARTS:mg "PARTS" = some (.ref g_PARTS)) (d_PARTS:MD P w K g_PARTS kvsP):FnOk P w K mg base CX0 (k + 1) f fd ["word"] (zbF):=by
 refine F.okQ zfm (fun vs H Q E h=>?_) (fun cdv A outer s H vs Q E hr h=>?_)
 ·obtain ⟨z,rfl,_⟩:=h
  rfl
 obtain ⟨z,rfl,q⟩:=h
 refine ⟨_,(zg (zo (zfN (zK zS (pv 0) ze (nomark _)) (zao (zK zm2 (pv 0) (Zt (v:=.ref g_PARTS) rfl m_PARTS rfl) (by rfl)))))),?_⟩
 refine ⟨_,rfl,rfl,_,rfl,?_⟩
 unfold hasB at q
 cases hz:woAt z with
 | none=>
  rw [hz] at q
  have hn:=zfl hz
  rw [decide_eq_false (p:=V.str z = V.str (Str.ofString "list")) (fun e=>hn .list (V.str.inj e))]
  refine iteF ⟨_,rfl,g_PARTS,kvsP,.inr z,rfl,rfl,d_PARTS,?_⟩
  rw [zfj hn]
  exact q
 | some d=>
  rw [hz] at q
  dsimp only at q
  have e:=zfk hz
  subst e
  rw [show Str.ofString "list" = "list" from rfl,zjc]
  cases hl:zaA d with
  | true=>
   have:(!(wLit d || wVar d)) = true:=by cases d <;> first | rfl | (simp [zaA] at hl; done)
   rw [this] at q
   exact iteT q
  | false=>
   refine iteF ⟨_,rfl,g_PARTS,kvsP,.inr (woS d),rfl,rfl,d_PARTS,?_⟩
   have hs:(valV kvsP (.inr (woS d))).isSome = (!(wLit d || wVar d)):=by
    cases d
    case list=>simp [zaA] at hl
    all_goals rfl
   rw [hs]
   exact q
theorem zcB:FnScope ["word"] ["word"] (zl ZS):=⟨rfl,rfl,rfl,by decide +kernel,rfl,by decide +kernel,by decide +kernel⟩
theorem zcC (F:Fun K "binding_count" "binding_count" ZS f fd) {g_BINDING:Addr} (m_BINDING:mg "BINDING" = some (.ref g_BINDING)) (d_BINDING:MD P w K g_BINDING kvsB):FnOk P w K mg base CX0 (k + 1) f fd ["word"] (zbG):=by
 refine F.okQ zcB (fun vs H Q E h=>?_) (fun cdv A outer s H vs Q E hr h=>?_)
 ·obtain ⟨d,rfl,_⟩:=h
  rfl
 obtain ⟨d,rfl,q⟩:=h
 refine ⟨_,(zg (zo (zd6 (Zt (v:=.ref g_BINDING) rfl m_BINDING rfl) (pv 0) zf ⟨rfl,rfl,rfl,rfl⟩))),?_⟩
 refine ⟨g_BINDING,kvsB,rfl,d_BINDING,_,rfl,.inr (woS d),rfl,?_⟩
 have hs:(valV kvsB (.inr (woS d))).getD (.int 0) = .int (bcnt d):=by cases d <;> rfl
 rw [hs]
 exact q
theorem zdd:FnScope ["expression"] ["expression"] (zl Z3):=⟨rfl,rfl,rfl,by decide +kernel,rfl,by decide +kernel,by decide +kernel⟩
theorem zde (F:Fun K "variables_of" "variables_of" Z3 f fd) (G_binding_count:Have P w K mg base "binding_count" k ["word"] (zbG)):FnOk P w K mg base CX0 (k + 1) f fd ["expression"] (zch):=by
 refine F.okQ zdd (fun vs H Q E h=>?_) (fun cdv A outer s H vs Q E hr h=>?_)
 ·obtain ⟨a,d,xs,ys,rfl,_⟩:=h
  rfl
 obtain ⟨a,d,xs,ys,rfl,ha,hl,q⟩:=h
 refine ⟨_,(zg (zo (Zg zeW (pv 0) (Ze zf) (Ze (zi zU zf (zw G_binding_count hr rfl (za (zy zF (pv 0) zf (fun _ _=>rfl)) zc))))))),?_⟩
 refine ⟨_,rfl,_,rfl,_,rfl,a,_,0,_,rfl,rfl,SqT.of ha,zM (j:=0) rfl,d,rfl,_,_,rfl,rfl,_,rfl,a,_,rfl,SqT.of ha,zbh _ _ 0 _,fun p hp=>?_⟩
 refine q p _ (Same.new hp) (zd.trans ?_)
 exact congrArg (fun z=>some (HO.tup z)) (zl7 _ xs ys (bcnt d) hl.symm)
theorem zdf:FnScope ["expression","word"] ["expression"] (zl zbr):=⟨rfl,rfl,rfl,by decide +kernel,rfl,by decide +kernel,by decide +kernel⟩
theorem zf4 (F:Fun K "parts_of" "parts_of" zbr f fd) (G_binding_count:Have P w K mg base "binding_count" k ["word"] (zbG)) (G_has_parts:Have P w K mg base "has_parts" k ["word"] (zbF)) (m_list:mg "list" = none):FnOk P w K mg base CX0 (k + 1) f fd ["expression"] (zac):=by
 refine F.okQ zdf (fun vs H Q E h=>?_) (fun cdv A outer s H vs Q E hr h=>?_)
 ·obtain ⟨a,d,xs,ys,rfl,_⟩:=h
  rfl
 obtain ⟨a,d,xs,ys,rfl,ea,hc,q⟩:=h
 refine ⟨_,(zb (zn (i:=1) zdf.nd rfl (Or.inl rfl) (zy zF (pv 0) zf (fun _ _=>rfl)))
  (zb (zB (ZP (zW (zw G_has_parts hr rfl (za (pv 1) zc)))) (zg (zo (zx zc))) zq)
  (zg (zo (zC zaq rfl m_list zby (za (Zg zeW (pv 0) (Ze (zi zU zf (zw G_binding_count hr rfl (za (pv 1) zc)))) zae) zc)))))),?_⟩
 refine ⟨_,rfl,a,_,0,_,rfl,rfl,SqT.of ea,zM (j:=0) rfl,?_⟩
 refine ⟨_,rfl,woS d,rfl,_,rfl,?_⟩
 rw [zgW]
 rcases hc with hc | ⟨hc,hl⟩
 ·rw [hc] at q ⊢
  exact iteT ⟨zl0,fun l hl=>q l _ hl (Same.new hl) zd⟩
 ·rw [hc] at q ⊢
  refine iteF ⟨_,rfl,_,rfl,d,rfl,_,_,rfl,rfl,_,rfl,a,_,rfl,SqT.of ea,zbh _ _ (bcnt d) _,fun p hp=>?_⟩
  have s1:=Same.new (o:=.tup (cutV (.str (woS d) :: (xs ++ ys)) (some (1 + bcnt d)) none)) hp
  have e:=zgV (.str (woS d)) xs ys (bcnt d) hl.symm
  refine ⟨p,ys,rfl,.inr (SqT.of (by rw [zd]; exact congrArg _ (congrArg _ e))),fun l hl=>?_⟩
  have s2:=s1.trans (Same.new (o:=.lst ys) hl)
  exact q l _ (s1.free hl) s2 zd
theorem zl9 {H:Hp}{v:V}{r:Rl}{Q:VK}{E:XK} (hv:RW H v r.toW) (hg:r.Gd) (q:∀ (l:Addr) (us:List V) (H':Hp),H l = none->Same H H'->H' l = some (.lst us)->RWs H' us (rlWs (zE r))->Q (.ref l) H'):zac [v] H Q E:=by
 obtain ⟨a,us,rfl,ea,ho⟩:=opn hv
 cases ho with
 | lit _=>exact ⟨a,.lit,[],[_],rfl,ea,.inl rfl,fun l H' hl s e=>q l [] H' hl s e ⟨rfl,fun i v w e=>by simp at e⟩⟩
 | var=>exact ⟨a,.var,[],[_],rfl,ea,.inl rfl,fun l H' hl s e=>q l [] H' hl s e ⟨rfl,fun i v w e=>by simp at e⟩⟩
 | op hvs=>
  rename_i d bs ps vs
  rw [Rl.Gd] at hg
  obtain ⟨⟨h1,h2,h3,_⟩,_⟩:=hg
  have hb:(wLit d || wVar d) = false:=by rw [h1,h2]; rfl
  refine ⟨a,d,bs.map V.str,vs,rfl,ea,.inr ⟨hb,by rw [List.length_map,h3]⟩,fun l H' hl s e=>q l vs H' hl s ?_ (hvs.mono (zJ s))⟩
  rw [hb] at e
  exact e
theorem zei:∀ {ps:List Rl}{p:Rl},p∈ps->p.many<=manys ps
 | q :: r,p,h=>by
  simp only [manys]
  rcases List.mem_cons.mp h with rfl | h
  ·omega
  ·have:=zei h; omega
theorem zf5 (r:Rl):r.many = 1 + manys (zE r):=by cases r <;> simp [Rl.many,zE,manys]
theorem zf6 (r:Rl):r.high = highs (zE r):=by cases r <;> simp [Rl.high,zE,highs]
theorem za1 {r:Rl} (h:r.Gd):∀ p∈zE r,p.Gd:=by
 cases r with
 | op d bs ps=>rw [Rl.Gd] at h; exact h.2.mem
 | lit _=>intro p hp; cases hp
 | var _=>intro p hp; cases hp
mutual
def unb (b:List Str):Rl->List Str
 | .lit _=>[]
 | .var s=>if s∈b then [] else [s]
 | .op _ bs ps=>unbs b bs ps
def unbs (b bs:List Str):List Rl->List Str
 | []=>[]
 | [p]=>unb (b ++ bs) p
 | p :: q :: r=>unb b p ++ unbs b bs (q :: r)
end
def unbR (x:Row):List Str:=unb x.2.2 x.2.1
theorem zfo (b bs:List Str):∀ (ps:List Rl) (k:Int),unbs b bs ps = (za0 [] b bs ps k).flatMap unbR
 | [],_=>by rw [unbs,za0]; rfl
 | [p],_=>by rw [unbs,za0]; simp [unbR]
 | p :: q :: r,k=>by rw [unbs,za0,List.flatMap_cons,zfo b bs (q :: r) (k + 1)]; rfl
mutual
theorem zdg (b:List Str):∀ r:Rl,(unb b r).length<=r.many
 | .lit x=>by rw [unb,Rl.many]; exact Nat.zero_le _
 | .var s=>by rw [unb,Rl.many]; split <;> simp
 | .op d bs ps=>by rw [unb,Rl.many]; have:=unbs_len b bs ps; omega
theorem unbs_len (b bs:List Str):∀ ps:List Rl,(unbs b bs ps).length<=manys ps
 | []=>by rw [unbs,manys]; exact Nat.le_refl _
 | [p]=>by rw [unbs,manys,manys]; have:=zdg (b ++ bs) p; omega
 | p :: q :: r=>by rw [unbs,manys,List.length_append]; have:=zdg b p; have:=unbs_len b bs (q :: r); omega
end
def zcD:Rl->List Str
 | .op _ bs _=>bs
 | _=>[]
theorem zfp {α β:Type} (f:α->List β) (l:List α) (i:Nat):((l.take i).flatMap f).length<=(l.flatMap f).length:=by
 have:l.flatMap f = (l.take i).flatMap f ++ (l.drop i).flatMap f:=by rw [← List.flatMap_append,List.take_append_drop]
 rw [this,List.length_append]
 omega
theorem zkI (s:Str) (b:List Str):inV (.str s) (b.map V.str) = decide (s∈b):=by
 induction b with
 | nil=>rfl
 | cons x r ih=>
  unfold inV at ih ⊢
  rw [List.map_cons,List.any_cons,ih]
  rw [show eqV (V.str x) (V.str s) = (x == s) from rfl]
  by_cases e:s = x
  ·subst e; simp
  ·have e':¬ x = s:=fun z=>e z.symm
   simp [e,e']
def zkJ (n:Nat):Sp:=fun vs H Q _=>∃ (v:V) (r:Rl) (b:Addr) (bnd:List Str),vs = [v,.ref b]/\RW H v r.toW/\r.Gd/\r.many<=100/\r.high < n/\H b = some (.tup (bnd.map V.str))/\bnd.length + 2 * n<=1000 /\
 ∀ (l:Addr) (H':Hp),H l = none->Same H H'->H' l = some (.lst ((unb bnd r).map V.str))->Q (.ref l) H'
def zjf:Sp:=fun vs H Q _=>∃ (v:V) (r:Rl),vs = [v]/\RW H v r.toW/\r.Gd/\r.many < 64/\r.high < 20 /\
 ∀ (l:Addr) (ss:List Str) (H':Hp),H l = none->Same H H'->H' l = some (.lst (ss.map V.str))->L2.zlP ss->ss.Perm (L2.allS (unb [] r))->Q (.ref l) H'
theorem zaj:FnScope ["expression","bound","parts","names","place","part","is_last"] ["expression","bound"] (zl zb3):=⟨rfl,rfl,rfl,by decide +kernel,rfl,by decide +kernel,by decide +kernel⟩
theorem zhR {n:Nat} (F:Fun K "unbound" "unbound" zb3 f fd) (G_unbound:Have P w K mg base "unbound" k ["expression","bound"] (zkJ n)) (G_variables_of:Have P w K mg base "variables_of" k ["expression"] (zch)) (G_parts_of:Have P w K mg base "parts_of" k ["expression"] (zac)) (m_enumerate:mg "enumerate" = none) (m_len:mg "len" = none):FnOk P w K mg base CX0 (k + 1) f fd ["expression","bound"] (zkJ (n + 1)):=by
 refine F.okQ zaj (fun vs H Q E h=>?_) (fun cdv A outer s H vs Q E hr h=>?_)
 ·obtain ⟨v,r,b,bnd,rfl,_⟩:=h
  rfl
 obtain ⟨v,r,b,bnd,rfl,hv,hfit,hm,hh,hb,hbl,q⟩:=h
 refine ⟨_,(zb (zB (zj zS (zy zF (pv 0) zf (fun _ _=>rfl)) ze (nomark _)) (zg (zo (zap (zj ZQ (zy zF (pv 0) zf (fun _ _=>rfl)) (pv 1) (by rfl)) (zx zc) (zx (za (zy zF (pv 0) zf (fun _ _=>rfl)) zc))))) zq)
  (zb (zn (i:=2) zaj.nd rfl (Or.inl rfl) (zw G_parts_of hr rfl (za (pv 0) zc)))
  (zb (zn (i:=3) zaj.nd rfl (Or.inl rfl) (zx zc))
  (zb (zaC PassesOwn.never rfl (zc6 rfl m_enumerate (za (pv 2) zc)) (zbP rfl (Zn (zZ (i:=4) zaj.nd rfl (Or.inl rfl)) (Zn (zZ (i:=5) zaj.nd rfl (Or.inl rfl)) za8))) (zb (zn (i:=6) zaj.nd rfl (Or.inl rfl) (zK zS (pv 4) (zi Zq (zk zz rfl m_len PySem.boot_len (za (pv 2) zc)) zf) (nomark _)))
  (zg (ZB (zaE PySem.F.plainAttrs_list PySem.F.slot_list_extend PySem.F.type_list_extend zc0 (pv 3) (za (zw G_unbound hr rfl (za (pv 5) (za (zap (zW (pv 6)) (zi zlM (pv 1) (zw G_variables_of hr rfl (za (pv 0) zc))) (pv 1)) zc))) zc))))))
  (zg (zo (pv 3))))))),?_⟩
 obtain ⟨a,us0,rfl,ea,ho⟩:=opn hv
 refine ⟨_,rfl,a,_,0,_,rfl,rfl,SqT.of ea,zM (j:=0) ho.head,rfl,_,rfl,?_⟩
 rw [show Str.ofString "var" = "var" from rfl,zi8]
 cases hw:wVar (rlW r) with
 | true=>
  cases ho with
  | var=>
   rename_i s
   refine iteT ⟨_,rfl,a,_,1,_,rfl,rfl,SqT.of ea,rfl,_,rfl,b,_,rfl,.inr (SqT.of hb),rfl,?_,_,rfl,?_⟩
   ·rw [List.all_map]; simp [zdW]
   ·show if inV (.str s) (bnd.map V.str) = true then _ else _
    rw [zkI]
    by_cases hs:s∈bnd
    ·rw [decide_eq_true hs]
     exact iteT ⟨zl0,fun l hl=>q l _ hl (Same.new hl) (by rw [zd,unb,if_pos hs]; rfl)⟩
    ·rw [decide_eq_false hs]
     exact iteF ⟨_,rfl,a,_,1,_,rfl,rfl,SqT.of ea,rfl,zl1,fun l hl=>q l _ hl (Same.new hl) (by rw [zd,unb,if_neg hs]; rfl)⟩
  | lit _=>cases hw
  | op hvs=>
   have hf:=hfit
   rw [Rl.Gd] at hf
   rw [show wVar (rlW (Rl.op _ _ _)) = false from hf.1.2.1] at hw
   cases hw
 | false=>
  have hub:unb bnd r = (za0 [] bnd (zcD r) (zE r) 0).flatMap unbR:=by
   cases r with
   | lit _=>rw [unb]; rfl
   | var _=>cases hw
   | op d bs ps=>rw [unb,zfo bnd bs ps 0]; rfl
  refine iteF ⟨_,rfl,?_⟩
  dsimp only [tNil,List.cons_append,List.nil_append]
  refine zl9 hv hfit fun l us H1 hl s1 el hus=>⟨zl0,fun nm hnm=>?_⟩
  have hul:=hus.len
  rw [zbE] at hul
  have s2:=Same.new (o:=.lst []) hnm
  have hln:l≠nm:=zr el hnm
  have nmH:H nm = none:=s1.free hnm
  have ulen:=zdg bnd r
  refine ⟨_,rfl,l,us,rfl,SqL.of (s2 _ _ el),zd7 (xs:=us) (fun i σ' H'=>∃ (o4 o5 o6:Option V),σ' = [some (.ref a),some (.ref b),some (.ref l),some (.ref nm),o4,o5,o6]/\(∀ c o,c≠nm->upd H1 nm (.lst []) c = some o->H' c = some o)/\H' nm = some (.lst ((((za0 [] bnd (zcD r) (zE r) 0).take i).flatMap unbR).map V.str)))
   ⟨none,none,none,rfl,fun c o _ e=>e,by rw [zd]; rfl⟩ (fun i σ' H' _ h=>?_) (fun i x t σ' H' hx ht h=>?_) (fun σ' H' h=>?_)⟩
  ·obtain ⟨_,_,_,_,kp,_⟩:=h
   exact SqL.of (kp l _ hln (s2 _ _ el))
  ·obtain ⟨o4,o5,o6,rfl,kp,enm⟩:=h
   have hi:i < us.length:=(List.getElem?_eq_some_iff.mp hx).1
   have hki:(zE r)[i]? = some (zE r)[i]:=List.getElem?_eq_getElem (by omega)
   have hkid:=zgT [] bnd (zcD r) (zE r) 0 i _ hki
   have sT:=Same.new (o:=.tup [.int i,x]) ht
   have hpm:=List.getElem_mem (show i < (zE r).length by omega)
   have h1:=zei hpm
   have h2:=zcg hpm
   have hme:=zf5 r
   have hhe:=zf6 r
   have kpT:∀ c o,c≠nm->upd H1 nm (.lst []) c = some o->upd H' t (.tup [.int i,x]) c = some o:=fun c o hc e=>sT _ _ (kp c o hc e)
   have kH:∀ c o,H c = some o->upd H' t (.tup [.int i,x]) c = some o:=fun c o e=>kpT c o (zr e nmH) (s2 _ _ (s1 _ _ e))
   refine ⟨t,_,rfl,SqT.of zd,rfl,_,_,rfl,_,_,rfl,rfl,?_⟩
   refine ⟨_,rfl,_,rfl,_,_,rfl,.inl ⟨_,SqL.of (kpT l _ hln (s2 _ _ el)),rfl⟩,_,_,rfl,rfl,rfl,?_⟩
   refine ⟨_,rfl,.inl ⟨rfl,_,SqL.of (sT _ _ enm)⟩,_,rfl,_,rfl,_,rfl,?_⟩
   have rwx:RW (upd H' t (.tup [.int i,x])) x ((zE r)[i]).toW:=by
    refine (hus.at' i x _ hx (zeh hki)).mono (fun c zs ec=>?_)
    exact kpT c _ (zr ec hnm) (s2 _ _ ec)
   have F:∀ (l2:Addr) (H6:Hp) (bnd2:List Str),bnd2 = (if i + 1 = (zE r).length then bnd ++ zcD r else bnd)->Same (upd H' t (.tup [.int i,x])) H6->H6 l2 = some (.lst ((unb bnd2 (zE r)[i]).map V.str))->H6 nm = some (.lst ((((za0 [] bnd (zcD r) (zE r) 0).take i).flatMap unbR).map V.str)) /\
     ((((za0 [] bnd (zcD r) (zE r) 0).take i).flatMap unbR).map V.str).length + ((unb bnd2 (zE r)[i]).map V.str).length<=sizeLine /\
     (∀ c o,c≠nm->upd H1 nm (.lst []) c = some o->upd H6 nm (.lst ((((za0 [] bnd (zcD r) (zE r) 0).take i).flatMap unbR).map V.str ++ (unb bnd2 (zE r)[i]).map V.str)) c = some o) /\
     upd H6 nm (.lst ((((za0 [] bnd (zcD r) (zE r) 0).take i).flatMap unbR).map V.str ++ (unb bnd2 (zE r)[i]).map V.str)) nm = some (.lst ((((za0 [] bnd (zcD r) (zE r) 0).take (i + 1)).flatMap unbR).map V.str)):=fun l2 H6 bnd2 hb2 s6 el2=>by
    have t1:=zfp unbR (za0 [] bnd (zcD r) (zE r) 0) i
    rw [← hub] at t1
    have t2:=zdg bnd2 (zE r)[i]
    refine ⟨s6 _ _ (sT _ _ enm),?_,fun c o hc e=>?_,?_⟩
    ·rw [List.length_map,List.length_map]
     exact Nat.le_trans (show _<=300 by omega) (by decide)
    ·rw [zu hc]
     exact s6 _ _ (kpT c o hc e)
    ·rw [zd,List.take_succ,hkid,List.flatMap_append,List.map_append,← hb2]
     simp [unbR]
   refine ite2 (fun c=>?_) (fun c=>?_)
   ·have hlast:i + 1 = (zE r).length:=by
     have:=of_decide_eq_true c
     injection this with this
     omega
    cases ho with
    | lit _=>simp [zE] at hlast
    | var=>cases hw
    | op hvs=>
     rename_i d bs ps vs
     have hfit':=hfit
     have hf:=hfit
     rw [Rl.Gd] at hf
     have hb2l:=zco d
     have hbl3:=hf.1.2.2.1
     refine ⟨_,rfl,_,rfl,a,d,bs.map V.str,vs,rfl,kH _ _ ea,by rw [List.length_map]; exact hf.1.2.2.1,fun p H5 s5 ep=>?_⟩
     have hb2:bnd ++ bs = (if i + 1 = (zE (.op d bs ps)).length then bnd ++ zcD (.op d bs ps) else bnd):=by rw [if_pos hlast]; rfl
     have hbl2:(bnd ++ bs).length + 2 * n<=1000:=by rw [List.length_append]; omega
     have call:∀ (b2:Addr) (H6:Hp),Same H5 H6->H6 b2 = some (.tup ((bnd ++ bs).map V.str))->RW H6 x ((zE (.op d bs ps))[i]).toW:=fun b2 H6 s6 _=>rwx.mono (zJ (s5.trans s6))
     cases hbn:bnd with
     | nil=>
      subst hbn
      refine .inr (.inr ⟨b,p,_,rfl,rfl,SqT.of (s5 _ _ (kH _ _ hb)),SqT.of ep,?_⟩)
      exact ⟨x,_,p,[] ++ bs,rfl,rwx.mono (zJ s5),za1 hfit' _ hpm,by omega,by omega,ep,hbl2,fun l2 H6 hl2 s6 el2=>⟨nm,l2,_,_,rfl,rfl,(F l2 H6 _ hb2 (s5.trans s6) el2).1,el2,(F l2 H6 _ hb2 (s5.trans s6) el2).2.1,_,_,_,rfl,(F l2 H6 _ hb2 (s5.trans s6) el2).2.2.1,(F l2 H6 _ hb2 (s5.trans s6) el2).2.2.2⟩⟩
     | cons z zs=>
      rw [← hbn]
      refine .inr (.inl ⟨b,p,_,_,rfl,rfl,SqT.of (s5 _ _ (kH _ _ hb)),SqT.of ep,(by rw [hbn]; exact fun z=>nomatch z),by rw [List.length_map,List.length_map]; exact Nat.le_trans (show bnd.length + bs.length<=1100 by omega) (by decide),fun hz=>?_,fun _ p6 hp6=>?_⟩)
      ·have hbs:bs = []:=List.map_eq_nil_iff.mp hz
       have eb:H5 b = some (.tup ((bnd ++ bs).map V.str)):=by rw [hbs,List.append_nil]; exact s5 _ _ (kH _ _ hb)
       exact ⟨x,_,b,bnd ++ bs,rfl,rwx.mono (zJ s5),za1 hfit' _ hpm,by omega,by omega,eb,hbl2,fun l2 H6 hl2 s6 el2=>⟨nm,l2,_,_,rfl,rfl,(F l2 H6 _ hb2 (s5.trans s6) el2).1,el2,(F l2 H6 _ hb2 (s5.trans s6) el2).2.1,_,_,_,rfl,(F l2 H6 _ hb2 (s5.trans s6) el2).2.2.1,(F l2 H6 _ hb2 (s5.trans s6) el2).2.2.2⟩⟩
      ·have s56:=s5.trans (Same.new (o:=.tup (bnd.map V.str ++ bs.map V.str)) hp6)
       exact ⟨x,_,p6,bnd ++ bs,rfl,rwx.mono (zJ s56),za1 hfit' _ hpm,by omega,by omega,by rw [zd,List.map_append],hbl2,fun l2 H6 hl2 s6 el2=>⟨nm,l2,_,_,rfl,rfl,(F l2 H6 _ hb2 (s56.trans s6) el2).1,el2,(F l2 H6 _ hb2 (s56.trans s6) el2).2.1,_,_,_,rfl,(F l2 H6 _ hb2 (s56.trans s6) el2).2.2.1,(F l2 H6 _ hb2 (s56.trans s6) el2).2.2.2⟩⟩
   ·have hlast:¬ i + 1 = (zE r).length:=fun z=>c (decide_eq_true (congrArg V.int (show (i:Int) = (us.length:Int) - 1 by omega)))
    have hb2:bnd = (if i + 1 = (zE r).length then bnd ++ zcD r else bnd):=by rw [if_neg hlast]
    exact ⟨_,rfl,x,_,b,bnd,rfl,rwx,za1 hfit _ hpm,by omega,by omega,kH _ _ hb,by omega,fun l2 H6 hl2 s6 el2=>⟨nm,l2,_,_,rfl,rfl,(F l2 H6 _ hb2 s6 el2).1,el2,(F l2 H6 _ hb2 s6 el2).2.1,_,_,_,rfl,(F l2 H6 _ hb2 s6 el2).2.2.1,(F l2 H6 _ hb2 s6 el2).2.2.2⟩⟩
  ·obtain ⟨o4,o5,o6,rfl,kp,enm⟩:=h
   refine ⟨_,rfl,q nm H' nmH (fun c o e=>kp c o (zr e nmH) (s2 _ _ (s1 _ _ e))) ?_⟩
   rw [enm,hub,List.take_of_length_le (by rw [zgS]; omega)]
theorem zhS:FnScope ["expression"] ["expression"] (zl zb4):=⟨rfl,rfl,rfl,by decide +kernel,rfl,by decide +kernel,by decide +kernel⟩
theorem zhT (F:Fun K "free_in" "free_in" zb4 f fd) (G_unbound:Have P w K mg base "unbound" k ["expression","bound"] (zkJ 20)) (m_set:mg "set" = none) (m_sorted:mg "sorted" = none):FnOk P w K mg base CX0 (k + 1) f fd ["expression"] (zjf):=by
 refine F.okQ zhS (fun vs H Q E h=>?_) (fun cdv A outer s H vs Q E hr h=>?_)
 ·obtain ⟨v,r,rfl,_⟩:=h
  rfl
 obtain ⟨v,r,rfl,hv,hfit,hm,hh,q⟩:=h
 refine ⟨_,(zg (zo (zk (zc7 rfl) rfl m_sorted PyProof.Rows.boot_sorted (za (zC (zfZ rfl) rfl m_set zjd (za (zw G_unbound hr rfl (za (pv 0) (za (zP zc) zc))) zc)) zc)))),?_⟩
 refine ⟨_,rfl,zl0,fun p hp=>?_⟩
 have s1:=Same.new (o:=.tup []) hp
 have hul:=zdg [] r
 have hal:=L2.zgM (unb [] r)
 refine ⟨v,r,p,[],rfl,hv.mono (zJ s1),hfit,by omega,hh,zd,by decide,fun l H2 hl s2 el=>⟨l,unb [] r,rfl,SqL.of el,by omega,fun st hst=>⟨st,_,rfl,zd,by omega,fun o ss ho hp hs=>?_⟩⟩⟩
 have s3:=Same.new (o:=L2.SetH P w st (L2.allS (unb [] r))) hst
 have s4:=(s1.trans s2).trans s3
 exact q o ss _ (s4.free ho) (s4.trans (Same.new ho)) zd hs hp
def abcL:Str:=Str.ofString "abcdefghijklmnopqrstuvwxyz"
theorem zgY (c:Nat):c∈abcL.cps.toList ↔ 97<=c/\c<=122:=by
 have e:abcL.cps.toList = (List.range 26).map (· + 97):=by decide +kernel
 rw [e,List.mem_map]
 constructor
 ·rintro ⟨i,hi,rfl⟩
  have:=List.mem_range.mp hi
  omega
 ·exact fun h=>⟨c - 97,List.mem_range.mpr (by omega),by omega⟩
def letB (c:Nat):Bool:=decide (c∈abcL.cps.toList)
def zR:T->Bool
 | .txt z=>decide (1<=z.length) && (decide (z.length<=8) && z.cps.toList.all letB)
 | _=>false
theorem zO {z:Str}:zR (.txt z) = true ↔ Vr z:=by
 show (decide (1<=z.length) && (decide (z.length<=8) && z.cps.toList.all letB)) = true ↔ _
 rw [Bool.and_eq_true,Bool.and_eq_true,decide_eq_true_iff,decide_eq_true_iff,List.all_eq_true]
 refine ⟨fun h=>⟨h.1,h.2.1,fun c hc=>(zgY c).mp (of_decide_eq_true (h.2.2 c hc))⟩,fun h=>⟨h.1,h.2.1,fun c hc=>decide_eq_true ((zgY c).mpr (h.2.2 c hc))⟩⟩
theorem zbH {t:T} (h:zR t = true):∃ z,t = .txt z/\Vr z:=by
 cases t with
 | txt z=>exact ⟨z,rfl,zO.mp h⟩
 | _=>cases h
def zdh:List T->Bool
 | []=>true
 | [t]=>zR t
 | .txt x :: .txt y :: _=>zR (.txt x) && (zR (.txt y) && decide (x≠y))
 | _ :: _ :: _=>false
def RTs (H:Hp) (vs:List V) (ts:List T):Prop:=vs.length = ts.length/\∀ (i:Nat) (v:V) (t:T),vs[i]? = some v->ts[i]? = some t->RT H v t
theorem RTs.mono {H H':Hp} (s:Same H H') {vs:List V}{ts:List T} (h:RTs H vs ts):RTs H' vs ts:=⟨h.1,fun i v t a b=>(h.2 i v t a b).mono s⟩
def zcp:Sp:=fun vs H Q _=>∃ (v:V) (t:T),vs = [v]/\RT H v t/\t.Sm/\∀ H',Same H H'->Q (.bl (zR t)) H'
def zf7:Sp:=fun vs H Q _=>∃ (a:Addr) (us:List V) (ts:List T),vs = [.ref a]/\H a = some (.tup us)/\RTs H us ts/\Sms ts/\ts.length<=2/\∀ H',Same H H'->Q (.bl (zdh ts)) H'
theorem zdD:FnScope ["thing"] ["thing"] (zl zag):=⟨rfl,rfl,rfl,by decide +kernel,rfl,by decide +kernel,by decide +kernel⟩
theorem zdE (F:Fun K "is_variable" "is_variable" zag f fd) (m_all:mg "all" = none) (m_isi:mg "isinstance" = none) (m_len:mg "len" = none) (m_str:mg "str" = none) (m_MOST_LETTERS:∃ t,mg "MOST_LETTERS" = some (.int 8 t)) (m_LETTERS:∃ t,mg "LETTERS" = some (.str abcL t)):FnOk P w K mg base CX0 (k + 1) f fd ["thing"] (zcp):=by
 refine F.okQ zdD (fun vs H Q E h=>?_) (fun cdv A outer s H vs Q E hr h=>?_)
 ·obtain ⟨v,t,rfl,_⟩:=h
  rfl
 obtain ⟨v,t,rfl,rt,sm,q⟩:=h
 refine ⟨_,(zb (zB (PW.pt (zaK (ZP (zW (zk ZE rfl m_isi zT (za (pv 0) (za (zbe rfl m_str zaG) zc))))) (zak (ZP (zcJ zhr zhr zf (zk zz rfl m_len PySem.boot_len (za (pv 0) zc)) (Zo rfl m_MOST_LETTERS)))))) (zg (zo zaJ)) zq)
  (zg (zo (zk (Z2 rfl) rfl m_all zb1 (za (Zx [] [] rfl rfl (by decide +kernel) rfl (by decide +kernel) rfl (by decide +kernel) trivial rfl trivial (ze1 (pv 0)) (fun C s H fp=>⟨Zj,(zK zbb (pv 0) (zbA rfl m_LETTERS) (by rfl))⟩)) zc))))),?_⟩
 cases rt with
 | non=>exact ⟨_,rfl,_,_,_,_,rfl,.non,zgx,_,rfl,iteT (q _ (Same.refl _))⟩
 | bl b=>exact ⟨_,rfl,_,_,_,_,rfl,.bl b,zgw,_,rfl,iteT (q _ (Same.refl _))⟩
 | num i=>exact ⟨_,rfl,_,_,_,_,rfl,.int i,zgv,_,rfl,iteT (q _ (Same.refl _))⟩
 | tup e _ _=>exact ⟨_,rfl,_,_,_,_,rfl,.tup e,zgu,_,rfl,iteT (q _ (Same.refl _))⟩
 | lst e=>exact ⟨_,rfl,_,_,_,_,rfl,.lst e,zgy,_,rfl,iteT (q _ (Same.refl _))⟩
 | dic e=>exact ⟨_,rfl,_,_,_,_,rfl,.dK e,zgz,_,rfl,iteT (q _ (Same.refl _))⟩
 | txt z=>
 have hsm:z.length<=100000:=sm
 refine ⟨_,rfl,_,_,_,_,rfl,.str z,ze4,_,rfl,iteF ?_⟩
 refine ⟨_,rfl,_,_,rfl,⟨Nat.le_trans hsm (by decide),rfl⟩,_,_,rfl,rfl,_,rfl,?_⟩
 by_cases h1:1<=z.length
 rotate_left
 ·rw [decide_eq_false (show ¬ (1:Int)<=(z.length:Int) by omega)]
  have hq:zR (.txt z) = false:=by show (decide (1<=z.length) && _) = false; rw [decide_eq_false h1]; rfl
  rw [hq] at q
  exact iteF ⟨_,rfl,iteT (q _ (Same.refl _))⟩
 rw [decide_eq_true (show (1:Int)<=(z.length:Int) by omega)]
 refine iteT ⟨_,_,rfl,rfl,_,rfl,?_⟩
 by_cases h2:z.length<=8
 rotate_left
 ·rw [decide_eq_false (show ¬ (z.length:Int)<=8 by omega)]
  have hq:zR (.txt z) = false:=by show (_ && (decide (z.length<=8) && _)) = false; rw [decide_eq_false h2]; simp
  rw [hq] at q
  exact iteT (q _ (Same.refl _))
 rw [decide_eq_true (show (z.length:Int)<=8 by omega)]
 refine iteF ?_
 have hq:zR (.txt z) = z.cps.toList.all letB:=by show (decide (1<=z.length) && (decide (z.length<=8) && _)) = _; rw [decide_eq_true h1,decide_eq_true h2]; rfl
 rw [hq] at q
 have hsz:z.cps.size = z.length:=rfl
 dsimp only [zia,tRet,tOp,tC,tCB,zan,tNil]
 refine zfR (z.cps.toList.map fun c=>V.bl (letB c)) (by rfl) (by rw [List.length_map]; simp) (by rw [hsz]; exact small (by omega)) (fun i c y H1 R hc hy s1 hR=>?_) (fun H1 D s1 hD=>?_)
 ·have hc':z.cps.toList[i]? = some c:=by simpa using hc
  rw [List.getElem?_map,hc'] at hy
  cases hy
  refine ⟨_,rfl,_,_,rfl,rfl,?_⟩
  rw [show (!(Builtin.Str.occurrences abcL ⟨#[c]⟩ 0 abcL.length 1).isEmpty) = letB c from StrLaws.found_one abcL c]
  exact hR _ (Same.refl _)
 ·refine ⟨D,z.cps.toList.map letB,rfl,SqL.of ?_,?_⟩
  ·rw [zd,List.map_map]; rfl
  ·rw [show ((z.cps.toList.map letB).all id) = z.cps.toList.all letB by rw [List.all_map]; rfl]
   exact q _ (s1.trans (Same.new hD))
theorem zbi:FnScope ["names"] ["names"] (zl Zk):=⟨rfl,rfl,rfl,by decide +kernel,rfl,by decide +kernel,by decide +kernel⟩
theorem zbj (F:Fun K "are_good_variables" "are_good_variables" Zk f fd) (G_is_variable:Have P w K mg base "is_variable" k ["thing"] (zcp)) (m_all:mg "all" = none) (m_len:mg "len" = none):FnOk P w K mg base CX0 (k + 1) f fd ["names"] (zf7):=by
 refine F.okQ zbi (fun vs H Q E h=>?_) (fun cdv A outer s H vs Q E hr h=>?_)
 ·obtain ⟨a,us,ts,rfl,_⟩:=h
  rfl
 obtain ⟨a,us,ts,rfl,ha,hrt,hsm,hl,q⟩:=h
 refine ⟨_,(zb (zB (ZP (zW (zk (Z2 rfl) rfl m_all zb1 (za (Zx [] [] rfl rfl (by decide +kernel) rfl (by decide +kernel) rfl (by decide +kernel) trivial rfl trivial (zcu (pv 0)) (fun C s H fp=>⟨Zj,(zw G_is_variable hr rfl (za (pv 0) zc))⟩)) zc)))) (zg (zo zaJ)) zq)
  (zg (zo (zfN (zK zeN (zk zz rfl m_len PySem.boot_len (za (pv 0) zc)) zf (nomark _)) (zao (zK zdz (zy zF (pv 0) zf (fun _ _=>rfl)) (zy zF (pv 0) zf (fun _ _=>rfl)) (nomark _))))))),?_⟩
 have hul:=hrt.1
 dsimp only [zia,tRet,tOp,tC,tCB,zan,tNil,tB,tNot,tIfS,tSeq]
 refine ziy (K:=K) (ts.map fun t=>V.bl (zR t)) (by rfl) (SqT.of ha) (by rw [List.length_map]; exact hul.symm) (Nat.le_trans (show us.length<=2 by omega) (by decide)) (fun i v y H1 R hv' hy s1 hR=>?_) (fun H1 D s1 hD=>?_)
 ·rw [List.getElem?_map] at hy
  obtain ⟨t,ht,rfl⟩:=Option.map_eq_some_iff.mp hy
  exact ⟨_,rfl,v,t,rfl,(hrt.2 i v t hv' ht).mono s1,zfT hsm t (List.mem_of_getElem? ht),fun H2 s2=>hR H2 s2⟩
 ·have s2:=s1.trans (Same.new (o:=.lst (ts.map fun t=>V.bl (zR t))) hD)
  refine ⟨D,ts.map zR,rfl,SqL.of (by rw [zd,List.map_map]; rfl),_,rfl,?_⟩
  have ha2:=s2 _ _ ha
  cases hall:(ts.map zR).all id with
  | false=>
   have hq:zdh ts = false:=by
    match ts,hl with
    | [],_=>cases hall
    | [t],_=>simpa [zdh] using hall
    | [t,t2],_=>
     have hall':(zR t && (zR t2 && true)) = false:=hall
     rw [Bool.and_true] at hall'
     cases t with
     | txt x=>
      cases t2 with
      | txt y=>
       show (zR (.txt x) && (zR (.txt y) && _)) = false
       rw [← Bool.and_assoc,hall']; rfl
      | _=>rfl
     | _=>cases t2 <;> rfl
   rw [hq] at q
   exact iteT (q _ s2)
  | true=>
   refine iteF ⟨_,rfl,_,_,rfl,.inr ⟨_,SqT.of ha2,rfl⟩,_,_,rfl,rfl,_,rfl,?_⟩
   match ts,hl,hul,hrt,hall,q with
   | [],_,hul,_,_,q=>
    have:us.length = 0:=hul
    rw [this]
    exact iteT (q _ s2)
   | [t],_,hul,_,hall,q=>
    have:us.length = 1:=hul
    rw [this]
    have hv:zR t = true:=by simpa using hall
    rw [show zdh [t] = zR t by cases t <;> rfl,hv] at q
    exact iteT (q _ s2)
   | [t,t2],_,hul,hrt,hall,q=>
    have hlu:us.length = 2:=hul
    obtain ⟨v0,v1,rfl⟩:∃ a b,us = [a,b]:=match us,hlu with | [a,b],_=>⟨a,b,rfl⟩
    have hv:zR t = true/\zR t2 = true:=by simpa using hall
    obtain ⟨x,rfl,hx⟩:=zbH hv.1
    obtain ⟨y,rfl,hy⟩:=zbH hv.2
    have r0:=hrt.2 0 v0 _ rfl rfl
    have r1:=hrt.2 1 v1 _ rfl rfl
    cases r0
    cases r1
    rw [show zdh [.txt x,.txt y] = decide (x≠y) by show (zR (.txt x) && (zR (.txt y) && decide (x≠y))) = _; rw [hv.1,hv.2]; rfl] at q
    refine iteF ⟨_,rfl,a,_,0,_,rfl,rfl,SqT.of ha2,zM (j:=0) rfl,_,rfl,a,_,1,_,rfl,rfl,SqT.of ha2,zM (j:=1) rfl,rfl,?_⟩
    rw [show (!decide (V.str x = V.str y)) = decide (x≠y) by rw [Bool.eq_iff_iff]; simp]
    exact q _ s2
theorem zma {X:Cx} (hu:X.A.units + 64 < cLine):OpR X (compareOp .Eq) (fun x y H Q=>∃ (a b:Addr) (vs:List V),x = .ref a/\y = .ref b/\SqT X.K H a vs/\SqT X.K H b []/\Q (.bl vs.isEmpty) H):=by
 intro zp s σ H x y v u Q I rx ry h
 obtain ⟨a,b,vs,rfl,rfl,e,e2,q⟩:=h
 have hu0:X.A.units < cLine:=by omega
 cases rx
 cases ry
 obtain ⟨its,rv,p,_⟩:=I.tuple e
 obtain ⟨its2,rv2,p2,_⟩:=I.tuple e2
 have h2:its2 = []:=List.length_eq_zero_iff.mp rv2.length.symm
 subst h2
 have hb:((List.range (min its.toArray.size (#[]:Array Value).size)).all (fun _=>true) && its.toArray.size == (#[]:Array Value).size) = vs.isEmpty:=by
  have:=rv.length
  cases its with
  | nil=>rw [List.length_eq_zero_iff.mp (show vs.length = 0 from this)]; rfl
  | cons x r=>cases vs with
   | nil=>cases this
   | cons y l=>rfl
 have fin:EP X zp σ Q (.bool vs.isEmpty) s:=⟨.bl _,H,I,rfl,q⟩
 rw [← hb] at fin
 exact SeqAt.RcAt.tuples (e:=fun _=>true) p p2 hu0 (fun j h1 h2=>absurd h2 (Nat.not_lt_zero _)) _ _ _ _ fin
theorem ZD {d d':Wo} (h:woS d = woS d'):d = d':=by
 have:=congrArg woAt h
 rw [zau,zau] at this
 exact Option.some.inj this
theorem zgZ (d:Wo) (h1:wLit d = false) (h2:wVar d = false) (h3:zaA d = false):valV kvsP (.inr (woS d)) = some (.int (pcnt d)):=by
 cases d
 case lit=>simp [wLit] at h1
 case var=>simp [wVar] at h2
 case list=>simp [zaA] at h3
 all_goals rfl
inductive F1:T->List T->Prop where
 | lit {x:T}:Zp x = true->F1 (.tup [.txt "lit",x]) []
 | var {s:Str}:Vr s->F1 (.tup [.txt "var",.txt s]) []
 | op {d:Wo}{bs:List Str}{ts:List T}:wLit d = false->wVar d = false->bs.length = bcnt d->(∀ z∈bs,Vr z)->bs.Nodup->Cnt d ts.length->F1 (.tup (.txt (woS d) :: (bs.map T.txt ++ ts))) ts
theorem F1.tup {t:T}{ps:List T} (h:F1 t ps):∃ z ts,t = .tup (.txt z :: ts):=by cases h <;> exact ⟨_,_,rfl⟩
theorem F1.inv {z:Str}{ts ps:List T} (h:F1 (.tup (.txt z :: ts)) ps):∃ d,z = woS d/\((d = .lit/\ps = []/\∃ x,ts = [x]/\Zp x = true)\/(d = .var/\ps = []/\∃ s,ts = [.txt s]/\Vr s)\/(wLit d = false/\wVar d = false/\∃ bs:List Str,ts = bs.map T.txt ++ ps/\bs.length = bcnt d/\(∀ z∈bs,Vr z)/\bs.Nodup/\Cnt d ps.length)):=by
 generalize he:T.tup (.txt z :: ts) = t at h
 cases h with
 | lit hx=>
  injection he with he
  injection he with h1 h2
  injection h1 with h1
  exact ⟨.lit,h1,.inl ⟨rfl,rfl,_,h2,hx⟩⟩
 | var hs=>
  injection he with he
  injection he with h1 h2
  injection h1 with h1
  exact ⟨.var,h1,.inr (.inl ⟨rfl,rfl,_,h2,hs⟩)⟩
 | op a b c d e f=>
  injection he with he
  injection he with h1 h2
  injection h1 with h1
  exact ⟨_,h1,.inr (.inr ⟨a,b,_,h2,c,d,e,f⟩)⟩
def zdi:Sp:=fun vs H Q _=>∃ (v:V) (t:T),vs = [v]/\RT H v t/\t.Sm/\∀ (b:Bool) (H':Hp),Same H H'->(b = true->∃ ts,F1 t ts)->(b = false->∀ ts,¬ F1 t ts)->Q (.bl b) H'
def zld:T->Bool
 | .txt _=>true
 | _=>false
theorem RT.ty {K:PySem.W.Frag}{H:Hp}{v:V}{t:T} (h:RT H v t):∃ A,TyOf K H v (.type A)/\isi A "str" = some (zld t):=by
 cases h with
 | non=>exact ⟨_,.non,zgx⟩
 | bl b=>exact ⟨_,.bl b,zgw⟩
 | num i=>exact ⟨_,.int i,zgv⟩
 | txt z=>exact ⟨_,.str z,ze4⟩
 | tup e _ _=>exact ⟨_,.tup e,zgu⟩
 | lst e=>exact ⟨_,.lst e,zgy⟩
 | dic e=>exact ⟨_,.dK e,zgz⟩
theorem zdP {ts:List T} (hl:ts.length<=2):zdh ts = true ↔ ∃ bs:List Str,ts = bs.map T.txt/\(∀ z∈bs,Vr z)/\bs.Nodup:=by
 match ts,hl with
 | [],_=>exact ⟨fun _=>⟨[],rfl,(fun z h=>nomatch h),List.nodup_nil⟩,fun _=>rfl⟩
 | [t],_=>
  rw [show zdh [t] = zR t by cases t <;> rfl]
  constructor
  ·intro h
   obtain ⟨z,rfl,hz⟩:=zbH h
   exact ⟨[z],rfl,fun y hy=>by rw [List.mem_singleton.mp hy]; exact hz,by simp⟩
  ·rintro ⟨bs,e,hv,_⟩
   match bs,e with
   | [z],e=>cases e; exact zO.mpr (hv z (by simp))
 | [t,t2],_=>
  constructor
  ·intro h
   cases t with
   | txt x=>
    cases t2 with
    | txt y=>
     have h:(zR (.txt x) && (zR (.txt y) && decide (x≠y))) = true:=h
     rw [Bool.and_eq_true,Bool.and_eq_true,decide_eq_true_iff] at h
     refine ⟨[x,y],rfl,fun z hz=>?_,by simp [h.2.2]⟩
     simp only [List.mem_cons,List.not_mem_nil,or_false] at hz
     rcases hz with rfl | rfl
     ·exact zO.mp h.1
     ·exact zO.mp h.2.1
    | _=>cases h
   | _=>cases t2 <;> cases h
  ·rintro ⟨bs,e,hv,hn⟩
   match bs,e with
   | [x,y],e=>
    cases e
    show (zR (.txt x) && (zR (.txt y) && decide (x≠y))) = true
    rw [zO.mpr (hv x (by simp)),zO.mpr (hv y (by simp)),decide_eq_true (by simpa using hn)]
    rfl
theorem zdj:FnScope ["thing","word"] ["thing"] (zl zbs):=⟨rfl,rfl,rfl,by decide +kernel,rfl,by decide +kernel,by decide +kernel⟩
theorem zf8 (F:Fun K "has_form" "has_form" zbs f fd) (G_are_good_variables:Have P w K mg base "are_good_variables" k ["names"] (zf7)) (G_variables_of:Have P w K mg base "variables_of" k ["expression"] (zch)) (G_binding_count:Have P w K mg base "binding_count" k ["word"] (zbG)) (G_is_variable:Have P w K mg base "is_variable" k ["thing"] (zcp)) (G_is_worth:Have P w K mg base "is_worth" k ["thing"] (zc4)) (m_isi:mg "isinstance" = none) (m_len:mg "len" = none) (m_str:mg "str" = none) (m_tuple:mg "tuple" = none) (m_MOST_LISTED:∃ t,mg "MOST_LISTED" = some (.int 8 t)) {g_PARTS:Addr} (m_PARTS:mg "PARTS" = some (.ref g_PARTS)) (d_PARTS:MD P w K g_PARTS kvsP):FnOk P w K mg base CX0 (k + 1) f fd ["thing"] (zdi):=by
 refine F.okQ zdj (fun vs H Q E h=>?_) (fun cdv A outer s H vs Q E hr h=>?_)
 ·obtain ⟨v,t,rfl,_⟩:=h
  rfl
 obtain ⟨v,t,rfl,rt,sm,q⟩:=h
 refine ⟨_,(zb (zB (PW.pt (zaK (ZP (zW (zk ZE rfl m_isi zT (za (pv 0) (za (zbe rfl m_tuple Za) zc))))) (zaK (zj (zma hr.units) (pv 0) (zP zc) (nomark _)) (zak (ZP (zW (zk ZE rfl m_isi zT (za (zy zF (pv 0) zf (fun _ _=>rfl)) (za (zbe rfl m_str zaG) zc))))))))) (zg (zo zaJ)) zq)
  (zb (zn (i:=1) zdj.nd rfl (Or.inl rfl) (zy zF (pv 0) zf (fun _ _=>rfl)))
  (zb (zB (zj zS (pv 1) ze (nomark _)) (zg (zo (zaB (zK zS (zk zz rfl m_len PySem.boot_len (za (pv 0) zc)) zf (nomark _)) (zao (zw G_is_worth hr rfl (za (zy zF (pv 0) zf (fun _ _=>rfl)) zc)))))) zq)
  (zb (zB (zj zS (pv 1) ze (nomark _)) (zg (zo (zaB (zK zS (zk zz rfl m_len PySem.boot_len (za (pv 0) zc)) zf (nomark _)) (zao (zw G_is_variable hr rfl (za (zy zF (pv 0) zf (fun _ _=>rfl)) zc)))))) zq)
  (zb (zB (zj zS (pv 1) ze (nomark _)) (zg (zo (zK zhr (zk zz rfl m_len PySem.boot_len (za (pv 0) zc)) (zi zU zf (Zo rfl m_MOST_LISTED)) (nomark _)))) zq)
  (zb (zB (PW.pt (zaK (zj ziP (pv 1) (Zt (v:=.ref g_PARTS) rfl m_PARTS rfl) (by rfl)) (zak (zj zdz (zk zz rfl m_len PySem.boot_len (za (pv 0) zc)) (zi zU (zi zU zf (zw G_binding_count hr rfl (za (pv 1) zc))) (zy zm3 (Zt (v:=.ref g_PARTS) rfl m_PARTS rfl) (pv 1) (fun _ _=>rfl))) (nomark _))))) (zg (zo zaJ)) zq)
  (zg (zo (zw G_are_good_variables hr rfl (za (zw G_variables_of hr rfl (za (pv 0) zc)) zc)))))))))),?_⟩
 have no:(∀ ts,t≠.tup ts)->∀ H',Same H H'->Q (.bl false) H':=fun hn H' s=>q false H' s (fun z=>nomatch z) (fun _ ps hf=>by obtain ⟨z,ts,e⟩:=hf.tup; exact hn _ e)
 cases rt with
 | non=>exact ⟨_,rfl,_,_,_,_,rfl,.non,ziA,_,rfl,iteT (no (fun ts z=>nomatch z) _ (Same.refl _))⟩
 | bl b=>exact ⟨_,rfl,_,_,_,_,rfl,.bl b,ziz,_,rfl,iteT (no (fun ts z=>nomatch z) _ (Same.refl _))⟩
 | num i=>exact ⟨_,rfl,_,_,_,_,rfl,.int i,zgs,_,rfl,iteT (no (fun ts z=>nomatch z) _ (Same.refl _))⟩
 | txt i=>exact ⟨_,rfl,_,_,_,_,rfl,.str i,zgt,_,rfl,iteT (no (fun ts z=>nomatch z) _ (Same.refl _))⟩
 | lst e=>exact ⟨_,rfl,_,_,_,_,rfl,.lst e,ziB,_,rfl,iteT (no (fun ts z=>nomatch z) _ (Same.refl _))⟩
 | dic e=>exact ⟨_,rfl,_,_,_,_,rfl,.dK e,ziC,_,rfl,iteT (no (fun ts z=>nomatch z) _ (Same.refl _))⟩
 | @tup a us ts ea hul hat=>
 clear no
 refine ⟨_,rfl,_,_,_,_,rfl,.tup ea,ze3,_,rfl,iteF ?_⟩
 refine ⟨_,rfl,zl0,fun e he=>?_⟩
 have s1:=Same.new (o:=.tup []) he
 have ea1:=s1 _ _ ea
 have ee:upd H e (.tup []) e = some (.tup []):=zd
 generalize upd H e (.tup []) = H1 at s1 ea1 ee
 refine ⟨a,e,us,rfl,rfl,SqT.of ea1,SqT.of ee,_,rfl,?_⟩
 have sm:ts.length<=100000/\Sms ts:=sm
 cases ts with
 | nil=>
  have hu0:us = []:=List.length_eq_zero_iff.mp hul
  subst hu0
  exact iteT (q false _ s1 (fun z=>nomatch z) (fun _ ps hf=>by obtain ⟨z,ts,e⟩:=hf.tup; injection e with e; cases e))
 | cons t0 ts=>
 cases us with
 | nil=>cases hul
 | cons v0 us=>
 have hul':us.length = ts.length:=by simpa using hul
 have r0:RT H v0 t0:=hat 0 v0 t0 rfl rfl
 have hrt:RTs H us ts:=⟨hul',fun i v t h1 h2=>hat (i + 1) v t (by simpa using h1) (by simpa using h2)⟩
 clear hat
 refine iteF ?_
 obtain ⟨A0,ty0,is0⟩:=(r0.mono s1).ty (K:=K)
 refine ⟨_,rfl,a,_,0,_,rfl,rfl,SqT.of ea1,zM (j:=0) rfl,_,_,_,_,rfl,ty0,is0,_,rfl,?_⟩
 cases hx:zld t0 with
 | false=>
  exact iteT (q false _ s1 (fun z=>nomatch z) (fun _ ps hf=>by obtain ⟨z,ts,e⟩:=hf.tup; injection e with e; injection e with e _; rw [e] at hx; cases hx))
 | true=>
 obtain ⟨z,rfl⟩:∃ z,t0 = .txt z:=by
  cases t0 with
  | txt z=>exact ⟨z,rfl⟩
  | _=>cases hx
 cases r0
 refine iteF ?_
 refine ⟨_,rfl,a,_,0,_,rfl,rfl,SqT.of ea1,zM (j:=0) rfl,?_⟩
 dsimp only [ZI]
 have q':∀ (b:Bool) (H':Hp),Same H1 H'->(b = true->∃ ps,F1 (.tup (.txt z :: ts)) ps)->(b = false->∀ ps,¬ F1 (.tup (.txt z :: ts)) ps)->Q (.bl b) H':=fun b H' s h1 h2=>q b H' (s1.trans s) h1 h2
 have hrt1:=hrt.mono s1
 by_cases hz:∃ d,z = woS d
 rotate_left
 ·have hz':∀ d,z≠woS d:=fun d e=>hz ⟨d,e⟩
  refine ⟨_,rfl,rfl,_,rfl,?_⟩
  rw [show decide (V.str z = V.str (Str.ofString "lit")) = false from decide_eq_false fun e=>hz' .lit (V.str.inj e)]
  refine iteF ⟨_,rfl,rfl,_,rfl,?_⟩
  rw [show decide (V.str z = V.str (Str.ofString "var")) = false from decide_eq_false fun e=>hz' .var (V.str.inj e)]
  refine iteF ⟨_,rfl,rfl,_,rfl,?_⟩
  rw [show decide (V.str z = V.str (Str.ofString "list")) = false from decide_eq_false fun e=>hz' .list (V.str.inj e)]
  refine iteF ⟨_,rfl,g_PARTS,kvsP,.inr z,rfl,rfl,d_PARTS,_,rfl,?_⟩
  rw [zfj hz']
  exact iteT (q' false _ (Same.refl _) (fun z=>nomatch z) (fun _ ps hf=>by obtain ⟨d,e,_⟩:=hf.inv; exact hz' d e))
 obtain ⟨d,rfl⟩:=hz
 refine ⟨_,rfl,rfl,_,rfl,?_⟩
 rw [show Str.ofString "lit" = "lit" from rfl,zhP]
 have smts:Sms ts:=sm.2.2
 have len2:us.length≠1->decide (V.int (((V.str (woS d) :: us).length:Nat):Int) = V.int 2) = false:=fun h=>decide_eq_false fun e=>by
  injection e with e
  rw [List.length_cons] at e
  omega
 have no:(∀ ps,¬ F1 (.tup (.txt (woS d) :: ts)) ps)->∀ H',Same H1 H'->Q (.bl false) H':=fun h H' s=>q' false H' s (fun z=>nomatch z) (fun _=>h)
 cases hlit:wLit d with
 | true=>
  obtain rfl:d = .lit:=by cases d <;> first | rfl | cases hlit
  refine iteT ⟨_,rfl,_,_,rfl,.inr ⟨_,SqT.of ea1,rfl⟩,rfl,_,rfl,?_⟩
  have inv:∀ ps,F1 (.tup (.txt (woS .lit) :: ts)) ps->∃ x,ts = [x]/\Zp x = true:=fun ps hf=>by
   obtain ⟨d,e,h⟩:=hf.inv
   obtain rfl:=ZD e
   rcases h with ⟨_,_,h⟩ | ⟨h,_⟩ | ⟨h,_⟩
   ·exact h
   ·cases h
   ·cases h
  by_cases hl:us.length = 1
  ·obtain ⟨v1,rfl⟩:∃ a,us = [a]:=match us,hl with | [a],_=>⟨a,rfl⟩
   obtain ⟨t1,rfl⟩:∃ a,ts = [a]:=match ts,hul' with | [a],_=>⟨a,rfl⟩
   refine iteT ⟨_,rfl,a,_,1,_,rfl,rfl,SqT.of ea1,zM (j:=1) rfl,v1,t1,rfl,hrt1.2 0 _ _ rfl rfl,smts.1,fun H2 s2=>?_⟩
   refine q' _ H2 s2 (fun h=>⟨[],.lit h⟩) (fun h ps hf=>?_)
   obtain ⟨x,e,hx⟩:=inv ps hf
   cases e
   rw [h] at hx
   cases hx
  ·rw [len2 hl]
   refine iteF (no (fun ps hf=>?_) _ (Same.refl _))
   obtain ⟨x,rfl,_⟩:=inv ps hf
   exact hl hul'
 | false=>
 refine iteF ⟨_,rfl,rfl,_,rfl,?_⟩
 rw [show Str.ofString "var" = "var" from rfl,zi8]
 cases hvar:wVar d with
 | true=>
  obtain rfl:d = .var:=by cases d <;> first | rfl | cases hvar
  refine iteT ⟨_,rfl,_,_,rfl,.inr ⟨_,SqT.of ea1,rfl⟩,rfl,_,rfl,?_⟩
  have inv:∀ ps,F1 (.tup (.txt (woS .var) :: ts)) ps->∃ s,ts = [.txt s]/\Vr s:=fun ps hf=>by
   obtain ⟨d,e,h⟩:=hf.inv
   obtain rfl:=ZD e
   rcases h with ⟨h,_⟩ | ⟨_,_,h⟩ | ⟨_,h,_⟩
   ·cases h
   ·exact h
   ·cases h
  by_cases hl:us.length = 1
  ·obtain ⟨v1,rfl⟩:∃ a,us = [a]:=match us,hl with | [a],_=>⟨a,rfl⟩
   obtain ⟨t1,rfl⟩:∃ a,ts = [a]:=match ts,hul' with | [a],_=>⟨a,rfl⟩
   refine iteT ⟨_,rfl,a,_,1,_,rfl,rfl,SqT.of ea1,zM (j:=1) rfl,v1,t1,rfl,hrt1.2 0 _ _ rfl rfl,smts.1,fun H2 s2=>?_⟩
   refine q' _ H2 s2 (fun h=>?_) (fun h ps hf=>?_)
   ·obtain ⟨z,rfl,hz⟩:=zbH h
    exact ⟨[],.var hz⟩
   ·obtain ⟨z,e,hz⟩:=inv ps hf
    cases e
    rw [zO.mpr hz] at h
    cases h
  ·rw [len2 hl]
   refine iteF (no (fun ps hf=>?_) _ (Same.refl _))
   obtain ⟨x,rfl,_⟩:=inv ps hf
   exact hl hul'
 | false=>
 have inv:∀ ps,F1 (.tup (.txt (woS d) :: ts)) ps->∃ bs:List Str,ts = bs.map T.txt ++ ps/\bs.length = bcnt d/\(∀ z∈bs,Vr z)/\bs.Nodup/\Cnt d ps.length:=fun ps hf=>by
  obtain ⟨d',e,h⟩:=hf.inv
  obtain rfl:=ZD e
  rcases h with ⟨h,_⟩ | ⟨h,_⟩ | ⟨_,_,h⟩
  ·rw [h] at hlit; cases hlit
  ·rw [h] at hvar; cases hvar
  ·exact h
 refine iteF ⟨_,rfl,rfl,_,rfl,?_⟩
 rw [show Str.ofString "list" = "list" from rfl,zjc]
 cases hli:zaA d with
 | true=>
  have hb0:bcnt d = 0:=by cases d <;> first | rfl | (simp [zaA] at hli; done)
  refine iteT ⟨_,rfl,_,_,rfl,.inr ⟨_,SqT.of ea1,rfl⟩,_,_,rfl,rfl,_,_,rfl,rfl,?_⟩
  show Q (V.bl (decide ((((V.str (woS d) :: us).length:Nat):Int)<=1 + 8))) _
  refine q' _ _ (Same.refl _) (fun h=>⟨ts,?_⟩) (fun h ps hf=>?_)
  ·have h:=of_decide_eq_true h
   rw [List.length_cons] at h
   exact F1.op (bs:=[]) hlit hvar hb0.symm (fun z h=>nomatch h) List.nodup_nil ⟨fun _=>by omega,fun z=>by rw [hli] at z; cases z⟩
  ·obtain ⟨bs,rfl,h1,_,_,h5⟩:=inv ps hf
   have h:=of_decide_eq_false h
   rw [List.length_cons] at h
   have h8:=h5.1 hli
   rw [List.length_append,List.length_map] at hul'
   omega
 | false=>
 refine iteF ⟨_,rfl,g_PARTS,kvsP,.inr (woS d),rfl,rfl,d_PARTS,_,rfl,?_⟩
 rw [zgZ d hlit hvar hli]
 refine iteF ⟨_,rfl,_,_,rfl,.inr ⟨_,SqT.of ea1,rfl⟩,?_⟩
 refine ⟨_,rfl,d,rfl,_,_,rfl,rfl,_,rfl,g_PARTS,kvsP,.inr (woS d),_,rfl,rfl,d_PARTS,zgZ d hlit hvar hli,_,_,rfl,rfl,rfl,_,rfl,?_⟩
 show if (!decide (V.int (((V.str (woS d) :: us).length:Nat):Int) = V.int (1 + (bcnt d:Int) + (pcnt d:Int)))) = true then _ else _
 by_cases hl:us.length = bcnt d + pcnt d
 ·have en:(!decide (V.int (((V.str (woS d) :: us).length:Nat):Int) = V.int (1 + (bcnt d:Int) + (pcnt d:Int)))) = false:=by rw [decide_eq_true (congrArg V.int (by rw [List.length_cons,hl]; omega))]; rfl
  rw [en]
  have hb2:=zco d
  have esp:us = us.take (bcnt d) ++ us.drop (bcnt d):=(List.take_append_drop _ _).symm
  have ht2:(ts.take (bcnt d)).length<=2:=by rw [List.length_take]; omega
  have ea2:H1 a = some (.tup (V.str (woS d) :: (us.take (bcnt d) ++ us.drop (bcnt d)))):=by rw [← esp]; exact ea1
  refine iteF ⟨_,rfl,a,d,us.take (bcnt d),us.drop (bcnt d),rfl,ea2,by rw [List.length_take]; omega,fun p H2 s2 ep=>⟨p,us.take (bcnt d),ts.take (bcnt d),rfl,ep,⟨by rw [List.length_take,List.length_take]; omega,fun i v t h1 h2=>?_⟩,?_,ht2,fun H3 s3=>q' _ H3 (s2.trans s3) (fun h=>?_) (fun h ps hf=>?_)⟩⟩
  ·rw [List.getElem?_take] at h1 h2
   split at h1
   ·rename_i hi
    rw [if_pos hi] at h2
    exact (hrt1.2 i v t h1 h2).mono s2
   ·cases h1
  ·have:∀ (n:Nat) (l:List T),Sms l->Sms (l.take n):=fun n=>by
    induction n with
    | zero=>intro l _; rw [List.take_zero]; trivial
    | succ n ih=>
     intro l h
     cases l with
     | nil=>trivial
     | cons x r=>exact ⟨h.1,ih r h.2⟩
   exact this _ _ smts
  ·obtain ⟨bs,e,hv,hn⟩:=(zdP ht2).mp h
   have hbl:bs.length = bcnt d:=by
    have:=congrArg List.length e
    rw [List.length_take,List.length_map] at this
    omega
   refine ⟨ts.drop (bcnt d),?_⟩
   have:=F1.op (d:=d) (bs:=bs) (ts:=ts.drop (bcnt d)) hlit hvar hbl hv hn ⟨fun z=>(by rw [hli] at z; cases z),fun _=>(by rw [List.length_drop]; omega)⟩
   rw [← e,List.take_append_drop] at this
   exact this
  ·obtain ⟨bs,rfl,h1,h2,h3,_⟩:=inv ps hf
   rw [List.take_left' (by rw [List.length_map]; exact h1)] at h
   rw [(zdP (by rw [List.length_map]; omega)).mpr ⟨bs,rfl,h2,h3⟩] at h
   cases h
 ·have en:(!decide (V.int (((V.str (woS d) :: us).length:Nat):Int) = V.int (1 + (bcnt d:Int) + (pcnt d:Int)))) = true:=by
   rw [decide_eq_false fun e=>hl (by injection e with e; rw [List.length_cons] at e; omega)]; rfl
  rw [en]
  refine iteT (no (fun ps hf=>?_) _ (Same.refl _))
  obtain ⟨bs,rfl,h1,_,_,h5⟩:=inv ps hf
  have h6:=h5.2 hli
  rw [List.length_append,List.length_map] at hul'
  omega
theorem zej {x:Str} (h:zaY x = true):Signs x:=fun c hc=>by
 have:=List.all_eq_true.mp h c hc
 unfold zcn at this
 simp only [Bool.and_eq_true,decide_eq_true_eq] at this
 exact ⟨this.1,this.2.1,this.2.2.1,this.2.2.2⟩
mutual
theorem zle:∀ (t:T) (lv:Int),zca t lv = true->∃ x:W,t = x.toT/\x.Ok/\(x.depth:Int)<=max lv 0
 | .num i,lv,h=>⟨.num i,rfl,(of_decide_eq_true h:-(10 ^ 60) < i/\i < 10 ^ 60),by show ((0:Nat):Int)<=_; omega⟩
 | .txt z,lv,h=>by
  have h:(decide (z.length<=400) && zaY z) = true:=h
  rw [Bool.and_eq_true,decide_eq_true_iff] at h
  exact ⟨.txt z,rfl,⟨h.1,zej h.2⟩,by show ((0:Nat):Int)<=_; omega⟩
 | .tup ts,lv,h=>by
  have h:((decide (ts.length<=60) && decide (0 < lv)) && fitsA ts (lv - 1)) = true:=h
  rw [Bool.and_eq_true,Bool.and_eq_true,decide_eq_true_iff,decide_eq_true_iff] at h
  obtain ⟨ws,rfl,ok,dp⟩:=fits_ws ts (lv - 1) h.2
  have hl:=h.1.1
  rw [zbz] at hl
  refine ⟨.lst ws,by simp only [W.toT],⟨hl,ok⟩,?_⟩
  have:=h.1.2
  show ((1 + depths ws:Nat):Int)<=_
  omega
 | .non,lv,h=>nomatch h
 | .bl _,lv,h=>nomatch h
 | .lst,lv,h=>nomatch h
 | .dic,lv,h=>nomatch h
theorem fits_ws:∀ (ts:List T) (lv:Int),fitsA ts lv = true->∃ ws:List W,ts = toTs ws/\Oks ws/\(depths ws:Int)<=max lv 0
 | [],lv,h=>⟨[],by rw [toTs],trivial,by show ((0:Nat):Int)<=_; omega⟩
 | t :: r,lv,h=>by
  have h:(zca t lv && fitsA r lv) = true:=h
  rw [Bool.and_eq_true] at h
  obtain ⟨x,rfl,ok,dp⟩:=zle t lv h.1
  obtain ⟨ws,rfl,oks,dps⟩:=fits_ws r lv h.2
  refine ⟨x :: ws,by rw [toTs],⟨ok,oks⟩,?_⟩
  rw [depths]
  omega
end
theorem zjg {t:T} (h:Zp t = true):∃ x:W,t = x.toT/\x.Ok/\x.size<=1000/\x.depth<=12:=by
 have h:(zca t 12 && decide (t.size<=1000)) = true:=h
 rw [Bool.and_eq_true,decide_eq_true_iff] at h
 obtain ⟨x,rfl,ok,dp⟩:=zle t 12 h.1
 exact ⟨x,rfl,ok,by rw [← zd5]; exact h.2,by omega⟩
mutual
theorem zjh:∀ x:W,x.Ok->ze6 x = true
 | .num i,h=>decide_eq_true ⟨h.1,h.2⟩
 | .txt z,h=>decide_eq_true h.1
 | .lst ws,h=>by
  have h1:ws.length<=60:=h.1
  have h2:Oks ws:=h.2
  simp only [ze6,decide_eq_true h1,fitss_ok ws h2,Bool.and_self]
theorem fitss_ok:∀ ws:List W,Oks ws->fitsWs ws = true
 | [],_=>rfl
 | x :: r,h=>by simp only [fitsWs,zjh x h.1,fitss_ok r h.2,Bool.and_self]
end
theorem zji {x:W} (h:x.Ok) (hs:x.size<=1000) (hd:x.depth<=12):Zp x.toT = true:=by
 rw [zfW (zlK x h)]
 unfold zlL
 rw [zjh x h,decide_eq_true hs,decide_eq_true (show (x.depth:Int)<=12 by omega)]
 rfl
theorem RT.toRW {H:Hp}{v:V}{t:T} (h:RT H v t):∀ {x:W},t = x.toT->RW H v x:=by
 induction h with
 | non=>intro x e; cases x <;> simp only [W.toT] at e <;> cases e
 | bl b=>intro x e; cases x <;> simp only [W.toT] at e <;> cases e
 | lst _=>intro x e; cases x <;> simp only [W.toT] at e <;> cases e
 | dic _=>intro x e; cases x <;> simp only [W.toT] at e <;> cases e
 | num i=>
  intro x e
  cases x with
  | num j=>simp only [W.toT] at e; cases e; exact .num _
  | _=>simp only [W.toT] at e; cases e
 | txt i=>
  intro x e
  cases x with
  | txt j=>simp only [W.toT] at e; cases e; exact .txt _
  | _=>simp only [W.toT] at e; cases e
 | @tup a vs ts ea hl _ ih=>
  intro x e
  cases x with
  | lst ws=>
   simp only [W.toT] at e
   injection e with e
   subst e
   refine .lst ea (by rw [hl,zbz]) fun i v w hv hw=>?_
   exact ih i v w.toT hv (by rw [zcc,List.getElem?_map,hw]; rfl) rfl
  | num j=>simp only [W.toT] at e; cases e
  | txt j=>simp only [W.toT] at e; cases e
def Rl.toT (r:Rl):T:=r.toW.toT
theorem zek:∀ ps:List Rl,rlWs ps = ps.map Rl.toW
 | []=>by rw [rlWs]; rfl
 | p :: r=>by rw [rlWs,zek r]; rfl
theorem Zi (x:W):(Rl.lit x).toT = .tup [.txt "lit",x.toT]:=by unfold Rl.toT; rw [Rl.toW]; simp only [W.toT,toTs]
theorem ZX (s:Str):(Rl.var s).toT = .tup [.txt "var",.txt s]:=by unfold Rl.toT; rw [Rl.toW]; simp only [W.toT,toTs]
theorem zad (d:Wo) (bs:List Str) (ps:List Rl):(Rl.op d bs ps).toT = .tup (.txt (woS d) :: (bs.map T.txt ++ ps.map Rl.toT)):=by
 unfold Rl.toT
 rw [Rl.toW]
 simp only [W.toT,toTs,zcc,List.map_append,List.map_map,zek]
 congr 3
theorem zmb {r:Rl} (h:r.Gd):F1 r.toT ((zE r).map Rl.toT):=by
 cases r with
 | lit x=>rw [Rl.Gd] at h; rw [Zi]; exact .lit (zji h.1 h.2.1 h.2.2)
 | var s=>rw [Rl.Gd] at h; rw [ZX]; exact .var h
 | op d bs ps=>
  rw [Rl.Gd] at h
  obtain ⟨⟨a,b,c,e,f,g⟩,_⟩:=h
  rw [zad]
  exact .op a b c e f (by rw [List.length_map]; exact g)
theorem F1.fn {t:T}{ps qs:List T} (h:F1 t ps) (h2:F1 t qs):ps = qs:=by
 obtain ⟨z,ts,rfl⟩:=h.tup
 obtain ⟨d,e,h⟩:=h.inv
 obtain ⟨d',e',h2⟩:=h2.inv
 obtain rfl:=ZD (e.symm.trans e')
 rcases h with ⟨hd,rfl,_⟩ | ⟨hd,rfl,_⟩ | ⟨a1,a2,bs,rfl,a3,_⟩
 ·rcases h2 with ⟨_,rfl,_⟩ | ⟨_,rfl,_⟩ | ⟨b1,_⟩
  ·rfl
  ·rfl
  ·rw [hd] at b1; cases b1
 ·rcases h2 with ⟨_,rfl,_⟩ | ⟨_,rfl,_⟩ | ⟨_,b1,_⟩
  ·rfl
  ·rfl
  ·rw [hd] at b1; cases b1
 ·rcases h2 with ⟨hd,_⟩ | ⟨hd,_⟩ | ⟨_,_,bs',e2,b3,_⟩
  ·rw [hd] at a1; cases a1
  ·rw [hd] at a2; cases a2
  ·exact (List.append_inj e2 (by rw [List.length_map,List.length_map,a3,b3])).2
inductive FA:List (T × Int)->Nat->Prop where
 | nil:FA [] 0
 | cons {lv:Int}{ps:List (T × Int)}{n:Nat} (r:Rl):r.Gd->lv + r.high<=12->FA ps n->FA ((r.toT,lv) :: ps) (r.many + n)
theorem FA.app {a b:List (T × Int)}{n m:Nat} (h:FA a n) (g:FA b m):FA (a ++ b) (n + m):=by
 induction h with
 | nil=>rw [Nat.zero_add]; exact g
 | cons r h1 h2 _ ih=>rw [Nat.add_assoc]; exact .cons r h1 h2 ih
theorem FA.split:∀ {a b:List (T × Int)}{n:Nat},FA (a ++ b) n->∃ n1 n2,FA a n1/\FA b n2/\n = n1 + n2
 | [],b,n,h=>⟨0,n,.nil,h,by omega⟩
 | p :: a,b,n,h=>by
  cases h with
  | cons r h1 h2 h3=>
   obtain ⟨n1,n2,g1,g2,e⟩:=FA.split h3
   exact ⟨r.many + n1,n2,.cons r h1 h2 g1,g2,by omega⟩
theorem FA.map {lv:Int}:∀ {ps:List Rl},(∀ p∈ps,p.Gd/\lv + p.high<=12)->FA (ps.map fun p=>(p.toT,lv)) (manys ps)
 | [],_=>by rw [manys]; exact .nil
 | p :: r,h=>by
  rw [manys]
  exact .cons p (h p (by simp)).1 (h p (by simp)).2 (FA.map fun q hq=>h q (List.mem_cons_of_mem _ hq))
theorem FA.unmap {lv:Int}:∀ {ts:List T}{n:Nat},FA (ts.map fun t=>(t,lv)) n->∃ ps:List Rl,ts = ps.map Rl.toT/\Gds ps/\n = manys ps/\∀ p∈ps,lv + p.high<=12
 | [],n,h=>by cases h; exact ⟨[],rfl,by rw [Gds]; trivial,by rw [manys],fun p h=>nomatch h⟩
 | t :: r,n,h=>by
  rw [List.map_cons] at h
  generalize he:(t,lv) = q at h
  cases h with
  | cons p h1 h2 h3=>
   cases he
   obtain ⟨ps,rfl,g,rfl,hh⟩:=FA.unmap h3
   refine ⟨p :: ps,rfl,by rw [Gds]; exact ⟨h1,g⟩,by rw [manys],fun q hq=>?_⟩
   rcases List.mem_cons.mp hq with rfl | hq
   ·exact h2
   ·exact hh q hq
theorem zg0 {n:Nat}:∀ {ps:List Rl},(∀ p∈ps,1 + p.high<=n)->highs ps<=n
 | [],_=>by rw [highs]; omega
 | p :: r,h=>by
  rw [highs]
  have h1:=h p (by simp)
  have h2:=zg0 fun q hq=>h q (List.mem_cons_of_mem _ hq)
  omega
theorem FA.step {t:T}{ts:List T}{lv:Int}{n:Nat} (h0:0<=lv) (h:F1 t ts):FA [(t,lv)] n ↔ (lv<=12/\∃ m,FA (ts.map fun t=>(t,lv + 1)) m/\n = 1 + m):=by
 constructor
 ·intro g
  generalize he:(t,lv) = q at g
  cases g with
  | cons r g1 g2 g3=>
   cases he
   cases g3
   refine ⟨by omega,manys (zE r),?_,by rw [← zf5]; omega⟩
   rw [h.fn (zmb g1),List.map_map]
   refine FA.map fun p hp=>⟨za1 g1 p hp,?_⟩
   have:=zcg hp
   have:=zf6 r
   omega
 ·rintro ⟨hlv,m,g,rfl⟩
  have fin:∀ r:Rl,t = r.toT->r.Gd->lv + r.high<=12->r.many = 1 + m->FA [(t,lv)] (1 + m):=fun r e g1 g2 g3=>by
   rw [e,← g3]
   exact .cons r g1 g2 .nil
  cases h with
  | lit hx=>
   obtain ⟨x,rfl,ok,sz,dp⟩:=zjg hx
   cases g
   exact fin (.lit x) (Zi x).symm (by rw [Rl.Gd]; exact ⟨ok,sz,dp⟩) (by rw [Rl.high]; omega) (by rw [Rl.many])
  | var hs=>
   rename_i s
   cases g
   exact fin (.var s) (ZX s).symm (by rw [Rl.Gd]; exact hs) (by rw [Rl.high]; omega) (by rw [Rl.many])
  | op a b c d' e f=>
   rename_i d bs
   obtain ⟨ps,rfl,g1,rfl,hh⟩:=FA.unmap g
   rw [List.length_map] at f
   refine fin (.op d bs ps) (zad d bs ps).symm (by rw [Rl.Gd]; exact ⟨⟨a,b,c,d',e,f⟩,g1⟩) ?_ (by rw [Rl.many])
   rw [Rl.high]
   have:highs ps<=(12 - lv).toNat:=zg0 fun p hp=>by have:=hh p hp; omega
   omega
def Formed (t:T):Prop:=∃ r:Rl,t = r.toT/\r.Gd/\r.high<=12/\r.many<=60
def GA (ps:List (T × Int)) (whole:Int):Prop:=∃ n:Nat,FA ps n/\whole + n<=60
theorem zhU {t:T}:GA [(t,0)] 0 ↔ Formed t:=by
 constructor
 ·rintro ⟨n,h,hn⟩
  generalize he:(t,(0:Int)) = q at h
  cases h with
  | cons r g1 g2 g3=>
   cases he
   cases g3
   exact ⟨r,rfl,g1,by omega,by omega⟩
 ·rintro ⟨r,rfl,g1,g2,g3⟩
  exact ⟨r.many + 0,.cons r g1 (by omega) .nil,by omega⟩
theorem GA.pop {ps:List (T × Int)}{t:T}{lv whole:Int} (h:GA (ps ++ [(t,lv)]) whole):whole + 1<=60/\lv<=12/\∃ ts,F1 t ts:=by
 obtain ⟨n,g,hn⟩:=h
 obtain ⟨n1,n2,_,g2,e⟩:=g.split
 generalize he:(t,lv) = q at g2
 cases g2 with
 | cons r g1 g3 g4=>
  cases he
  have:=zf5 r
  exact ⟨by omega,by omega,_,zmb g1⟩
theorem GA.go {ps:List (T × Int)}{t:T}{ts:List T}{lv whole:Int} (h0:0<=lv) (hlv:lv<=12) (h:F1 t ts):GA (ps ++ [(t,lv)]) whole ↔ GA (ps ++ ts.map fun t=>(t,lv + 1)) (whole + 1):=by
 constructor
 ·rintro ⟨n,g,hn⟩
  obtain ⟨n1,n2,g1,g2,e⟩:=g.split
  obtain ⟨_,m,g3,e2⟩:=(FA.step h0 h).mp g2
  exact ⟨n1 + m,g1.app g3,by omega⟩
 ·rintro ⟨n,g,hn⟩
  obtain ⟨n1,n2,g1,g2,e⟩:=g.split
  exact ⟨n1 + (1 + n2),g1.app ((FA.step h0 h).mpr ⟨hlv,n2,g2,rfl⟩),by omega⟩
theorem F1.len {t:T}{ts:List T} (h:F1 t ts):ts.length<=8:=by
 cases h with
 | lit _=>exact Nat.zero_le _
 | var _=>exact Nat.zero_le _
 | op a b c h4 e f=>
  rename_i d bs
  cases hw:zaA d with
  | true=>exact f.1 hw
  | false=>
   rw [f.2 hw]
   cases d <;> decide
theorem zhV (a b:List T):tnodes (a ++ b) = tnodes a + tnodes b:=by
 induction a with
 | nil=>simp [tnodes]
 | cons x r ih=>simp only [List.cons_append,tnodes,ih]; omega
theorem F1.nodes {t:T}{ts:List T} (h:F1 t ts):tnodes ts < t.nodes:=by
 cases h with
 | lit _=>simp only [tnodes,T.nodes]; omega
 | var _=>simp only [tnodes,T.nodes]; omega
 | op a b c d e f=>simp only [T.nodes,tnodes,zhV]; omega
theorem Sms.app {a b:List T} (h:Sms (a ++ b)):Sms b:=by
 induction a with
 | nil=>exact h
 | cons x r ih=>exact ih h.2
theorem F1.sms {t:T}{ts:List T} (h:F1 t ts) (sm:t.Sm):Sms ts:=by
 cases h with
 | lit _=>trivial
 | var _=>trivial
 | op a b c d e f=>exact Sms.app sm.2.2
theorem RTs.app {H:Hp}{vs:List V}{as bs:List T} (h:RTs H vs (as ++ bs)):∃ us ws,vs = us ++ ws/\us.length = as.length/\RTs H ws bs:=by
 have hl:=h.1
 rw [List.length_append] at hl
 refine ⟨vs.take as.length,vs.drop as.length,(List.take_append_drop _ _).symm,by rw [List.length_take]; omega,by rw [List.length_drop]; omega,fun i v t hv ht=>h.2 (as.length + i) v t ?_ ?_⟩
 ·rw [List.getElem?_drop] at hv; exact hv
 ·rw [List.getElem?_append_right (by omega),Nat.add_sub_cancel_left]; exact ht
theorem znD {H0 H:Hp}{v:V}{t:T}{ts:List T}{Q:VK}{E:XK} (s0:Same H0 H) (hv:RT H0 v t) (hf:F1 t ts) (q:∀ (l:Addr) (us:List V) (H':Hp),H l = none->Same H H'->H' l = some (.lst us)->RTs H0 us ts->Q (.ref l) H'):zac [v] H Q E:=by
 cases hf with
 | lit _=>
  cases hv with
  | @tup a vs _ ea hl at'=>
   obtain ⟨v0,v1,rfl⟩:∃ a b,vs = [a,b]:=match vs,hl with | [a,b],_=>⟨a,b,rfl⟩
   have r0:=at' 0 v0 _ rfl rfl
   cases r0
   exact ⟨a,.lit,[],[v1],rfl,s0 _ _ ea,.inl rfl,fun l H' hl s e=>q l [] H' hl s e ⟨rfl,fun i v w e=>by simp at e⟩⟩
 | var _=>
  cases hv with
  | @tup a vs _ ea hl at'=>
   obtain ⟨v0,v1,rfl⟩:∃ a b,vs = [a,b]:=match vs,hl with | [a,b],_=>⟨a,b,rfl⟩
   have r0:=at' 0 v0 _ rfl rfl
   cases r0
   exact ⟨a,.var,[],[v1],rfl,s0 _ _ ea,.inl rfl,fun l H' hl s e=>q l [] H' hl s e ⟨rfl,fun i v w e=>by simp at e⟩⟩
 | op h1 h2 h3 h4 h5 h6=>
  rename_i d bs
  cases hv with
  | @tup a vs _ ea hl at'=>
   cases vs with
   | nil=>cases hl
   | cons v0 vs=>
   have r0:=at' 0 v0 _ rfl rfl
   cases r0
   have hr:RTs H0 vs (bs.map T.txt ++ ts):=⟨by simpa using hl,fun i v t a b=>at' (i + 1) v t (by simpa using a) (by simpa using b)⟩
   obtain ⟨us,ws,rfl,hul,hr⟩:=hr.app
   rw [List.length_map] at hul
   have hb:(wLit d || wVar d) = false:=by rw [h1,h2]; rfl
   refine ⟨a,d,us,ws,rfl,s0 _ _ ea,.inr ⟨hb,by omega⟩,fun l H' hl s e=>q l ws H' hl s ?_ hr⟩
   rw [hb] at e
   exact e
end
end D
namespace L2
open PySem
theorem zel {K:PySem.W.Frag}{fr:List Nat}{te:TE}{σ:St}{H:Hp}{F:Addr->Hp->List V->Prop}{a:Addr}{vs:List V} (Pv:Nat->List V->Hp->Prop) (hz:vs.length<=sizeLine) (h0:Pv 0 [] H) (hlen:∀ i us H1,Pv i us H1->us.length = i) (hS:∀ i us H1,Pv i us H1->SqL K H1 a vs)
  (step:∀ (i:Nat) (v:V) (us:List V) (H1:Hp) (R:VK),vs[i]? = some v->Pv i us H1->(∀ y H2,Pv (i + 1) (us ++ [y]) H2->R y H2)->te (some v :: frees fr σ) H1 R)
  (fin:∀ (us:List V) (H1:Hp) (D:Addr),Pv vs.length us H1->H1 D = none->F D H1 us):
  ∃ W:Nat->Nat->List V->Hp->Prop,(∃ m,W 0 m [] H)/\∀ i m vs H,W i m vs H->vs.length<=sizeLine /\
   (((Itl K a).stop i H/\∀ D,H D = none->F D H vs) \/
    ((Itl K a).go i H/\∀ v H',(Itl K a).yld i H v H'->if true = true then te (some v :: frees fr σ) H' fun y H3=>∃ m',m' < m/\W (i + 1) m' (vs ++ [y]) H3 else ∃ m',m' < m/\W (i + 1) m' vs H')):=by
 refine ⟨fun i m us H1=>i<=vs.length/\m = vs.length - i/\Pv i us H1,⟨_,Nat.zero_le _,rfl,h0⟩,fun i m us H1 hW=>?_⟩
 obtain ⟨hi,hm,hu⟩:=hW
 have sq:=hS _ _ _ hu
 refine ⟨by rw [hlen _ _ _ hu]; omega,?_⟩
 by_cases hlt:i < vs.length
 ·refine .inr ⟨⟨vs,vs[i],sq,List.getElem?_eq_getElem hlt⟩,fun v H' hy=>?_⟩
  obtain ⟨rfl,hv⟩:=hy
  have hv:=hv vs sq
  refine iteT ?_
  exact step i v us H' _ hv hu fun y H2 p2=>⟨vs.length - (i + 1),by omega,by omega,rfl,p2⟩
 ·have e:i = vs.length:=by omega
  subst e
  exact .inl ⟨⟨vs,sq,by omega⟩,fun D hD=>fin us H1 D hu hD⟩
end L2
namespace D
open PySem L2
def zem:Sp:=fun vs H Q _=>∃ (v:V) (t:T),vs = [v]/\RT H v t/\t.Sm/\∀ (b:Bool) (H':Hp),Same H H'->(b = true->Formed t)->(b = false->¬ Formed t)->Q (.bl b) H'
structure FmP (t:T) (v:V) (l:Addr) (H:Hp) (m:Nat) (σ':St) (H':Hp) (vs:List V) (ps:List (T × Int)) (whole:Int):Prop where
 el:H' l = some (.lst vs)
 st:StR H H' vs ps
 mn:m = nds ps
 w0:0<=whole
 w1:whole<=60
 len:(vs.length:Int)<=1 + 8 * whole
 sms:∀ p∈ps,p.1.Sm/\0<=p.2
 ga:GA ps whole ↔ Formed t
 sH:Same H H'
section
variable {P:Program}{w:World}{K:PySem.W.Frag}{mg:Str->Option Value}{base:Heap}{f:Addr}{fd:FuncData}{k n:Nat}{zN AForgeError ANoName ANoRow ANoRule ANoStep ANoThing ANoWorth:Addr}
theorem Zv:FnScope ["thing","waiting","whole","pair","expression","level"] ["thing"] (zl zaP):=⟨rfl,rfl,rfl,by decide +kernel,rfl,by decide +kernel,by decide +kernel⟩
theorem zfq (F:Fun K "is_formed" "is_formed" zaP f fd) (G_parts_of:Have P w K mg base "parts_of" k ["expression"] (zac)) (G_has_form:Have P w K mg base "has_form" k ["thing"] (zdi)) (m_len:mg "len" = none) (m_MOST_MANY:∃ t,mg "MOST_MANY" = some (.int 60 t)) (m_MOST_NESTING:∃ t,mg "MOST_NESTING" = some (.int 12 t)):FnOk P w K mg base CX0 (k + 1) f fd ["thing"] (zem):=by
 refine F.okQ Zv (fun vs H Q E h=>?_) (fun cdv A outer s H vs Q E hr h=>?_)
 ·obtain ⟨v,t,rfl,_⟩:=h
  rfl
 obtain ⟨v,t,rfl,rt,sm,q⟩:=h
 refine ⟨_,(zb (zn (i:=1) Zv.nd rfl (Or.inl rfl) (zx (za (zP (za (pv 0) (za zf zc))) zc)))
  (zb (zn (i:=2) Zv.nd rfl (Or.inl rfl) zf)
  (zb (zbp PassesOwn.never (zj zcy (zk zz rfl m_len PySem.boot_len (za (pv 1) zc)) zf (nomark _)) (zb (zn (i:=3) Zv.nd rfl (Or.inl rfl) (zcZ PySem.F.plainAttrs_list PySem.F.slot_list_pop PySem.F.type_list_pop zis (pv 1)))
  (zb (zn (i:=4) Zv.nd rfl (Or.inl rfl) (zy zF (pv 3) zf (fun _ _=>rfl)))
  (zb (zn (i:=5) Zv.nd rfl (Or.inr rfl) (zy zF (pv 3) zf (fun _ _=>rfl)))
  (zb (zct (i:=2) Zv.nd rfl (Or.inl rfl) zf (zix zcW))
  (zb (zB (PW.pt (zaK (zj zcy (pv 2) (Zo rfl m_MOST_MANY) (nomark _)) (zaK (zj zcy (pv 5) (Zo rfl m_MOST_NESTING) (nomark _)) (zak (ZP (zW (zw G_has_form hr rfl (za (pv 4) zc)))))))) (zg (zo zaJ)) zq)
  (zg (ZB (zaE PySem.F.plainAttrs_list PySem.F.slot_list_extend PySem.F.type_list_extend zc0 (pv 1) (za (Zx [5] ["level"] rfl rfl (by decide +kernel) rfl (by decide +kernel) rfl (by decide +kernel) ⟨rfl,trivial⟩ rfl ⟨⟨rfl,rfl,Or.inr (Or.inl rfl),(by show (some NameKind.cell:Option NameKind)≠some .local; decide),⟨_,rfl⟩⟩,trivial⟩ (zay (zw G_parts_of hr rfl (za (pv 4) zc))) (fun C s H fp=>⟨Zj,(zP (za (pv 0) (za (zi zU (pv 1) zf) zc)))⟩)) zc))))))))))
  (zg (zo zaJ))))),?_⟩
 refine ⟨_,rfl,zl2,fun a ha=>?_⟩
 refine ⟨zl1,fun l hl=>?_⟩
 have sa:=Same.new (o:=.tup [v,.int 0]) ha
 have sl:=Same.new (o:=.lst [.ref a]) hl
 have s1:=sa.trans sl
 have hlH:H l = none:=sa.free hl
 refine ⟨fun m σ' H'=>∃ (vs:List V) (ps:List (T × Int)) (whole:Int) (o3 o4 o5:Option V),σ' = [some v,some (.ref l),some (.int whole),o3,o4,o5]/\FmP t v l H m σ' H' vs ps whole,
  ⟨_,[.ref a],[(t,0)],0,none,none,none,rfl,zd,StR.one (p:=(t,0)) (sl _ _ zd) rt,rfl,Int.le_refl _,by decide,by simp,fun p hp=>by rw [List.mem_singleton.mp hp]; exact ⟨sm,Int.le_refl _⟩,zhU,s1⟩,fun m σ' H' hW=>?_⟩
 obtain ⟨vs,ps,whole,o3,o4,o5,rfl,⟨hlv,hst,hm,hw0,hw1,hvl,hsm,hga,sH⟩⟩:=hW
 refine ⟨_,rfl,_,_,rfl,.inl ⟨_,SqL.of hlv,rfl⟩,_,_,rfl,rfl,_,rfl,?_⟩
 refine ite2 (fun c=>?_) (fun c=>?_)
 rotate_left
 ·have hv0:vs = []:=by
   have:¬ (0:Int) < vs.length:=fun z=>c (decide_eq_true z)
   exact List.length_eq_zero_iff.mp (by omega)
  have hp0:ps = []:=List.length_eq_zero_iff.mp (by rw [← hst.len,hv0]; rfl)
  subst hp0
  exact q true _ sH (fun _=>hga.mp ⟨0,.nil,by omega⟩) (fun z=>nomatch z)
 have c1:(0:Int) < vs.length:=of_decide_eq_true c
 refine ⟨_,fun _ _ h=>h,?_⟩
 rcases List.eq_nil_or_concat vs with rfl | ⟨vs',vl,e⟩
 ·simp at c1
 rw [List.concat_eq_append] at e
 subst e
 rcases List.eq_nil_or_concat ps with rfl | ⟨ps',p,e⟩
 ·have:=hst.len; simp at this
 rw [List.concat_eq_append] at e
 subst e
 obtain ⟨hst',ap,u,rfl,hap,rtu⟩:=hst.front
 obtain ⟨t1,n1⟩:=p
 have ed:(vs' ++ [V.ref ap]).dropLast = vs':=List.dropLast_concat
 obtain ⟨smp,hn0⟩:=hsm (t1,n1) (by simp)
 have smp:t1.Sm:=smp
 have hn0:0<=n1:=hn0
 refine ⟨_,rfl,.inl ⟨rfl,_,SqL.of hlv⟩,l,_,.ref ap,rfl,rfl,hlv,by simp,?_⟩
 rw [ed]
 have t1':=Z6 (o:=.lst vs') hlv
 have sH1:Same H (upd H' l (.lst vs')):=zcb sH hlH
 have hap1:upd H' l (.lst vs') ap = some (.tup [u,.int n1]):=t1' _ _ hap
 have el1:upd H' l (.lst vs') l = some (.lst vs'):=zd
 generalize upd H' l (.lst vs') = H1 at t1' sH1 hap1 el1
 refine ⟨_,rfl,ap,_,0,u,rfl,rfl,SqT.of hap1,rfl,?_⟩
 refine ⟨_,rfl,ap,_,1,.int n1,rfl,rfl,SqT.of hap1,rfl,?_⟩
 refine ⟨_,rfl,_,_,rfl,rfl,?_⟩
 have no:∀ H',Same H1 H'->¬ GA (ps' ++ [(t1,n1)]) whole->Q (.bl false) H':=fun H' s h=>q false _ (sH1.trans s) (fun z=>nomatch z) (fun _ z=>h (hga.mpr z))
 refine ⟨_,rfl,_,_,rfl,rfl,_,rfl,?_⟩
 refine ite2 (fun c2=>?_) (fun c2=>?_)
 ·have:(60:Int) < whole + 1:=of_decide_eq_true c2
  exact no _ (Same.refl _) fun h=>by have:=h.pop.1; omega
 have hw60:¬ (60:Int) < whole + 1:=fun z=>c2 (decide_eq_true z)
 refine ⟨_,rfl,_,_,rfl,rfl,_,rfl,?_⟩
 refine ite2 (fun c3=>?_) (fun c3=>?_)
 ·have:(12:Int) < n1:=of_decide_eq_true c3
  exact no _ (Same.refl _) fun h=>by have:=h.pop.2.1; omega
 have hn12:¬ (12:Int) < n1:=fun z=>c3 (decide_eq_true z)
 refine ⟨_,rfl,u,t1,rfl,rtu.mono sH1,smp,fun b H2 s2 hT hF=>⟨_,rfl,?_⟩⟩
 cases b with
 | false=>exact iteT (no _ s2 fun h=>by obtain ⟨ts,hf⟩:=h.pop.2.2; exact hF rfl ts hf)
 | true=>
 obtain ⟨ts,hf⟩:=hT rfl
 refine iteF ?_
 have sH2:=sH1.trans s2
 have hl2:=s2 _ _ el1
 refine ⟨_,rfl,.inl ⟨rfl,_,SqL.of hl2⟩,?_⟩
 dsimp only [zan,tNil]
 refine ⟨_,rfl,?_⟩
 dsimp only [tNil,List.cons_append,List.nil_append]
 refine znD sH2 rtu hf fun lp us H3 hlp s3 elp hus=>⟨lp,rfl,⟨us,SqL.of elp⟩,?_⟩
 have hul:=hus.1
 have h8:=hf.len
 refine zel (K:=K) (vs:=us) (fun i xs H4=>Same H3 H4/\xs.length = i/\StR H H4 xs ((ts.take i).map fun t=>(t,n1 + 1))) (Nat.le_trans (show us.length<=60 by omega) (by decide)) ⟨Same.refl _,rfl,StR.nil⟩ (fun i us H4 h=>h.2.1) (fun i us H4 h=>SqL.of (h.1 _ _ elp)) (fun i x xs H4 R hx hP hR=>?_) (fun xs H4 D hP hD=>?_)
 ·obtain ⟨s4,hxl,hsk⟩:=hP
  have hi:i < us.length:=(List.getElem?_eq_some_iff.mp hx).1
  have hki:ts[i]? = some ts[i]:=List.getElem?_eq_getElem (by omega)
  refine ⟨_,rfl,_,rfl,_,_,rfl,rfl,zl2,fun a5 ha5=>?_⟩
  have s5:=Same.new (o:=.tup [x,.int (n1 + 1)]) ha5
  refine hR _ _ ⟨s4.trans s5,by rw [List.length_append,hxl]; rfl,?_⟩
  rw [zV hki,List.map_append]
  exact (hsk.mono (ZL s5)).app (StR.one (p:=(ts[i],n1 + 1)) zd (hus.2 i x _ hx hki))
 ·obtain ⟨s4,hxl,hsk⟩:=hP
  have s5:=Same.new (o:=.lst xs) hD
  have sA:=s3.trans (s4.trans s5)
  rw [List.take_of_length_le (by omega)] at hsk
  have hl4:upd H4 D (.lst xs) l = some (.lst vs'):=sA _ _ hl2
  have eD:upd H4 D (.lst xs) D = some (.lst xs):=zd
  have hskD:=hsk.mono (ZL s5)
  generalize upd H4 D (.lst xs) = H5 at s5 sA hl4 eD hskD
  have t6:=Z6 (o:=.lst (vs' ++ xs)) hl4
  have hvl':(vs'.length:Int) + 1<=1 + 8 * whole:=by rw [List.length_append] at hvl; exact hvl
  have hnn:nds (ps' ++ ts.map fun t=>(t,n1 + 1)) < nds (ps' ++ [(t1,n1)]):=by
   have:=hf.nodes
   rw [zd2,zd2,ziO]
   simp only [nds]
   omega
  refine ⟨l,D,vs',xs,rfl,rfl,hl4,eD,Nat.le_trans (show vs'.length + xs.length<=1000 by omega) (by decide),?_⟩
  refine ⟨nds (ps' ++ ts.map fun t=>(t,n1 + 1)),by rw [hm]; exact hnn,vs' ++ xs,ps' ++ ts.map (fun t=>(t,n1 + 1)),whole + 1,_,_,_,rfl,zd,?_,rfl,by omega,by omega,?_,?_,?_,?_⟩
  ·exact (((hst'.mono t1').mono (ZL (s2.trans sA))).mono t6).app (hskD.mono t6)
  ·rw [List.length_append]; omega
  ·intro p hp
   rcases List.mem_append.mp hp with hp | hp
   ·exact hsm p (List.mem_append_left _ hp)
   ·obtain ⟨p',hp',rfl⟩:=List.mem_map.mp hp
    exact ⟨zfT (hf.sms smp) p' hp',by show 0<=n1 + 1; omega⟩
  ·rw [← hga]
   exact (GA.go hn0 (by omega) hf).symm
  ·exact zcb (sH2.trans sA) hlH
theorem zg1 (b:Bool):∀ (ps:List Rl) (i:Nat) (p:Rl),ps[i]? = some p->p.rep<=reps b ps/\(b = true->i + 1 = ps.length->p.rep + 1<=reps b ps)
 | [q],0,p,h=>by
  cases h
  rw [reps]
  exact ⟨by omega,fun hb _=>by rw [hb]; exact Nat.le_refl _⟩
 | q :: r :: l,0,p,h=>by
  cases h
  rw [reps]
  exact ⟨by omega,fun _ h=>by simp at h⟩
 | q :: r :: l,i + 1,p,h=>by
  have:=zg1 b (r :: l) i p (by simpa using h)
  rw [reps]
  refine ⟨by omega,fun hb hl=>?_⟩
  have:=this.2 hb (by simpa using hl)
  omega
 | [q],i + 1,p,h=>by simp at h
theorem zg2 {b:Bool}{d:Nat}:∀ {ps:List Rl},(∀ (j:Nat) (p:Rl),ps[j]? = some p->p.rep + (if b = true/\j + 1 = ps.length then 1 else 0)<=d)->reps b ps<=d
 | [],_=>by rw [reps]; omega
 | [p],h=>by
  have:=h 0 p rfl
  rw [reps]
  cases b with
  | true=>rw [if_pos ⟨rfl,rfl⟩] at this; simp only [if_true]; exact this
  | false=>rw [if_neg (fun z=>by cases z.1)] at this; simp only [Bool.false_eq_true,if_false]; exact this
 | p :: q :: r,h=>by
  rw [reps]
  have h1:=h 0 p rfl
  have h2:=zg2 (b:=b) (d:=d) (ps:=q :: r) fun j p' hp=>by
   have:=h (j + 1) p' (by simpa using hp)
   by_cases hc:b = true/\j + 1 = (q :: r).length
   ·rw [if_pos hc]
    rw [if_pos ⟨hc.1,by rw [List.length_cons (a:=p)]; omega⟩] at this
    exact this
   ·rw [if_neg hc]
    omega
  omega
def zkK (n:Nat):Sp:=fun vs H Q _=>∃ (v:V) (r:Rl),vs = [v]/\RW H v r.toW/\r.Gd/\r.high < n/\∀ H':Hp,Same H H'->Q (.int r.rep) H'
mutual
theorem W.toT_inj:∀ {x y:W},x.toT = y.toT->x = y
 | .num i,y,h=>by cases y <;> simp only [W.toT] at h <;> cases h; rfl
 | .txt i,y,h=>by cases y <;> simp only [W.toT] at h <;> cases h; rfl
 | .lst ws,y,h=>by
  cases y with
  | lst zs=>simp only [W.toT] at h; injection h with h; rw [toTs_inj h]
  | num _=>simp only [W.toT] at h; cases h
  | txt _=>simp only [W.toT] at h; cases h
theorem toTs_inj:∀ {xs ys:List W},toTs xs = toTs ys->xs = ys
 | [],ys,h=>by cases ys with
  | nil=>rfl
  | cons y r=>simp only [toTs] at h; cases h
 | x :: xs,ys,h=>by
  cases ys with
  | nil=>simp only [toTs] at h; cases h
  | cons y r=>
   simp only [toTs] at h
   injection h with h1 h2
   rw [W.toT_inj h1,toTs_inj h2]
end
theorem zen:∀ {a b:List Str},a.map T.txt = b.map T.txt->a = b
 | [],b,h=>by cases b with
  | nil=>rfl
  | cons _ _=>cases h
 | x :: a,b,h=>by
  cases b with
  | nil=>cases h
  | cons y b=>
   rw [List.map_cons,List.map_cons] at h
   injection h with h1 h2
   injection h1 with h1
   rw [h1,zen h2]
mutual
theorem Rl.toT_inj:∀ {r q:Rl},r.Gd->q.Gd->r.toT = q.toT->r = q
 | .lit x,q,g,g2,h=>by
  cases q with
  | lit y=>
   rw [Zi,Zi] at h
   injection h with h
   injection h with _ h
   injection h with h _
   rw [W.toT_inj h]
  | var s=>rw [Zi,ZX] at h; injection h with h; injection h with h _; injection h with h; exact absurd (ZD (d:=.lit) (d':=.var) h) (fun z=>nomatch z)
  | op d bs ps=>
   rw [Zi,zad] at h
   injection h with h
   injection h with h _
   injection h with h
   rw [Rl.Gd] at g2
   have:=g2.1.1
   rw [← ZD (d:=.lit) (d':=d) h] at this
   cases this
 | .var s,q,g,g2,h=>by
  cases q with
  | var y=>
   rw [ZX,ZX] at h
   injection h with h
   injection h with _ h
   injection h with h _
   injection h with h
   rw [h]
  | lit x=>rw [Zi,ZX] at h; injection h with h; injection h with h _; injection h with h; exact absurd (ZD (d:=.var) (d':=.lit) h) (fun z=>nomatch z)
  | op d bs ps=>
   rw [ZX,zad] at h
   injection h with h
   injection h with h _
   injection h with h
   rw [Rl.Gd] at g2
   have:=g2.1.2.1
   rw [← ZD (d:=.var) (d':=d) h] at this
   cases this
 | .op d bs ps,q,g,g2,h=>by
  rw [Rl.Gd] at g
  cases q with
  | lit x=>
   rw [Zi,zad] at h
   injection h with h
   injection h with h _
   injection h with h
   have:=g.1.1
   rw [ZD (d:=d) (d':=.lit) h] at this
   cases this
  | var s=>
   rw [ZX,zad] at h
   injection h with h
   injection h with h _
   injection h with h
   have:=g.1.2.1
   rw [ZD (d:=d) (d':=.var) h] at this
   cases this
  | op d' bs' ps'=>
   rw [Rl.Gd] at g2
   rw [zad,zad] at h
   injection h with h
   injection h with h1 h2
   injection h1 with h1
   obtain rfl:=ZD h1
   obtain ⟨h3,h4⟩:=List.append_inj h2 (by rw [List.length_map,List.length_map,g.1.2.2.1,g2.1.2.2.1])
   rw [zen h3,rls_inj g.2 g2.2 h4]
theorem rls_inj:∀ {ps qs:List Rl},Gds ps->Gds qs->ps.map Rl.toT = qs.map Rl.toT->ps = qs
 | [],qs,_,_,h=>by cases qs with
  | nil=>rfl
  | cons _ _=>cases h
 | p :: ps,qs,g,g2,h=>by
  cases qs with
  | nil=>cases h
  | cons q qs=>
   rw [Gds] at g g2
   rw [List.map_cons,List.map_cons] at h
   injection h with h1 h2
   rw [Rl.toT_inj g.1 g2.1 h1,rls_inj g.2 g2.2 h2]
end
def zkL (t:T):Prop:=∃ r:Rl,t = r.toT/\r.Gd/\r.high<=12/\r.many<=60/\unb [] r = []/\r.rep<=2
def zeo:Sp:=fun vs H Q _=>∃ (v:V) (t:T),vs = [v]/\RT H v t/\t.Sm/\∀ (b:Bool) (H':Hp),Same H H'->(b = true->zkL t)->(b = false->¬ zkL t)->Q (.bl b) H'
theorem zkM {l:List Str} (h:L2.allS l = []):l = []:=by
 cases l with
 | nil=>rfl
 | cons x r=>
  exfalso
  have:x∈L2.allS (x :: r):=L2.zkr.mpr (by simp)
  rw [h] at this
  cases this
theorem ZJ:FnScope ["expression","parts","deepest","place","part","is_repeated"] ["expression"] (zl zbt):=⟨rfl,rfl,rfl,by decide +kernel,rfl,by decide +kernel,by decide +kernel⟩
theorem zf9 {n:Nat} (F:Fun K "repeated" "repeated" zbt f fd) (G_repeated:Have P w K mg base "repeated" k ["expression"] (zkK n)) (G_parts_of:Have P w K mg base "parts_of" k ["expression"] (zac)) (m_enumerate:mg "enumerate" = none) (m_len:mg "len" = none) (m_max:mg "max" = none) {g_REPEATING:Addr} (m_REPEATING:mg "REPEATING" = some (.ref g_REPEATING)) (t_REPEATING:∀ H:Hp,SqT K H g_REPEATING [.str "each",.str "over"]):FnOk P w K mg base CX0 (k + 1) f fd ["expression"] (zkK (n + 1)):=by
 refine F.okQ ZJ (fun vs H Q E h=>?_) (fun cdv A outer s H vs Q E hr h=>?_)
 ·obtain ⟨v,r,rfl,_⟩:=h
  rfl
 obtain ⟨v,r,rfl,hv,hfit,hh,q⟩:=h
 refine ⟨_,(zb (zn (i:=1) ZJ.nd rfl (Or.inl rfl) (zw G_parts_of hr rfl (za (pv 0) zc)))
  (zb (zn (i:=2) ZJ.nd rfl (Or.inl rfl) zf)
  (zb (zaC PassesOwn.never rfl (zc6 rfl m_enumerate (za (pv 1) zc)) (zbP rfl (Zn (zZ (i:=3) ZJ.nd rfl (Or.inl rfl)) (Zn (zZ (i:=4) ZJ.nd rfl (Or.inl rfl)) za8))) (zb (zn (i:=5) ZJ.nd rfl (Or.inl rfl) (zaB (zK ZQ (zy zF (pv 0) zf (fun _ _=>rfl)) (Zt (v:=.ref g_REPEATING) rfl m_REPEATING rfl) (by rfl)) (zao (zK zS (pv 3) (zi Zq (zk zz rfl m_len PySem.boot_len (za (pv 1) zc)) zf) (nomark _)))))
  (zg (zn (i:=2) ZJ.nd rfl (Or.inl rfl) (zk (zii rfl) rfl m_max PyProof.Rows.boot_max (za (pv 2) (za (zi zU (zw G_repeated hr rfl (za (pv 4) zc)) (zap (zW (pv 5)) zf zf)) zc)))))))
  (zg (zo (pv 2)))))),?_⟩
 obtain ⟨a,us0,rfl,ea,ho⟩:=opn hv
 have h0:us0[0]? = some (.str (woS (rlW r))):=ho.head
 obtain ⟨we,hwe⟩:∃ b,b = wEO (rlW r):=⟨_,rfl⟩
 have hrep:r.rep = reps we (zE r):=by
  rw [hwe]
  cases r with
  | lit _=>rw [Rl.rep]; rfl
  | var _=>rw [Rl.rep]; rfl
  | op d bs ps=>rw [Rl.rep]; rfl
 refine ⟨_,rfl,?_⟩
 dsimp only [tNil,List.cons_append,List.nil_append]
 refine zl9 hv hfit fun l us H1 hl s1 el hus=>?_
 have hul:=hus.len
 rw [zbE] at hul
 refine ⟨_,rfl,l,us,rfl,SqL.of el,zd7 (xs:=us) (fun i σ' H'=>∃ (o3 o4 o5:Option V) (d:Nat),σ' = [some (.ref a),some (.ref l),some (.int d),o3,o4,o5]/\Same H1 H'/\d<=r.rep/\∀ (j:Nat) (p:Rl),j < i->(zE r)[j]? = some p->p.rep + (if we = true/\j + 1 = (zE r).length then 1 else 0)<=d)
  ⟨none,none,none,0,rfl,Same.refl _,Nat.zero_le _,fun j p hj=>absurd hj (Nat.not_lt_zero _)⟩ (fun i σ' H' _ h=>?_) (fun i x t σ' H' hx ht h=>?_) (fun σ' H' h=>?_)⟩
 ·obtain ⟨_,_,_,_,_,s2,_⟩:=h
  exact SqL.of (s2 _ _ el)
 ·obtain ⟨o3,o4,o5,d,rfl,s2,hd,hall⟩:=h
  have hi:i < us.length:=(List.getElem?_eq_some_iff.mp hx).1
  have hki:(zE r)[i]? = some (zE r)[i]:=List.getElem?_eq_getElem (by omega)
  have hpm:=List.getElem_mem (show i < (zE r).length by omega)
  have sT:=s2.trans (Same.new (o:=.tup [.int i,x]) ht)
  have h2:=zcg hpm
  have hhe:=zf6 r
  have hrg:=zg1 we (zE r) i _ hki
  rw [← hrep] at hrg
  refine ⟨t,_,rfl,SqT.of zd,rfl,_,_,rfl,_,_,rfl,rfl,?_⟩
  have ea1:=sT _ _ (s1 _ _ ea)
  have rwx:RW (upd H' t (.tup [.int i,x])) x ((zE r)[i]).toW:=RW.mono (zJ sT) (hus.at' i x _ hx (zeh hki))
  have go:∀ (b:Bool),(b = true->we = true/\i + 1 = (zE r).length)->∀ y:Nat,y = ((zE r)[i]).rep->max d (y + if b then 1 else 0)<=r.rep:=fun b hb y hy=>by
   cases b with
   | false=>simp only [Bool.false_eq_true,if_false]; have:=hrg.1; omega
   | true=>have:=hrg.2 (hb rfl).1 (hb rfl).2; simp only [if_true]; omega
  refine ⟨_,rfl,a,us0,0,_,rfl,rfl,SqT.of ea1,zM (j:=0) h0,g_REPEATING,_,rfl,.inr (t_REPEATING _),rfl,rfl,_,rfl,?_⟩
  show if inV (.str (woS (rlW r))) [.str "each",.str "over"] = true then _ else _
  rw [inEO]
  have fin:∀ (b:Bool) (c:Int) (o:Option V),c = (if b = true then 1 else 0)->(b = true->we = true/\i + 1 = (zE r).length)->((we = true/\i + 1 = (zE r).length)->b = true)->∀ (y:Nat) (H6:Hp),y = ((zE r)[i]).rep->Same (upd H' t (.tup [.int i,x])) H6->∃ (o3 o4 o5:Option V) (d':Nat),[some (.ref a),some (.ref l),some (.int (if (y:Int) + c > (d:Int) then (y:Int) + c else (d:Int))),some (.int i),some x,o] = [some (.ref a),some (.ref l),some (.int d'),o3,o4,o5]/\Same H1 H6/\d'<=r.rep/\∀ (j:Nat) (p:Rl),j < i + 1->(zE r)[j]? = some p->p.rep + (if we = true/\j + 1 = (zE r).length then 1 else 0)<=d':=fun b c o hc hb hb2 y H6 hy s6=>by
   have hg:=go b hb y hy
   refine ⟨_,_,_,max d (y + if b then 1 else 0),congrArg (fun z=>[some (.ref a),some (.ref l),some (V.int z),some (.int i),some x,o]) ?_,sT.trans s6,hg,fun j p hj hp=>?_⟩
   rotate_left
   ·by_cases hji:j < i
    ·have:=hall j p hji hp
     omega
    ·obtain rfl:j = i:=by omega
     rw [hki] at hp
     cases hp
     rw [hy]
     cases b with
     | true=>rw [if_pos (hb rfl)]; simp only [if_true]; omega
     | false=>rw [if_neg (fun z=>by have:=hb2 z; cases this)]; simp only [Bool.false_eq_true,if_false]; omega
   subst hc
   cases b <;> simp only [Bool.false_eq_true,if_false,if_true] <;> split <;> omega
  cases he:wEO (rlW r) with
  | false=>
   refine iteF ⟨_,rfl,_,rfl,x,_,rfl,rwx,za1 hfit _ hpm,by omega,fun H6 s6=>?_⟩
   refine ⟨_,rfl,_,rfl,iteF ⟨_,_,rfl,rfl,_,_,rfl,?_⟩⟩
   exact fin false _ _ rfl (fun z=>nomatch z) (fun z=>by rw [hwe,he] at z; cases z.1) _ H6 rfl s6
  | true=>
   refine iteT ⟨_,rfl,_,rfl,_,_,rfl,.inl ⟨_,SqL.of (sT _ _ el),rfl⟩,_,_,rfl,rfl,rfl,?_⟩
   refine ⟨_,rfl,_,rfl,x,_,rfl,rwx,za1 hfit _ hpm,by omega,fun H6 s6=>?_⟩
   refine ⟨_,rfl,_,rfl,?_⟩
   refine ite2 (fun c=>?_) (fun c=>?_)
   ·have hc:i + 1 = (zE r).length:=by
     have:=of_decide_eq_true c
     injection this with this
     omega
    refine ⟨_,_,rfl,rfl,_,_,rfl,?_⟩
    exact fin true _ _ rfl (fun _=>⟨hwe.trans he,hc⟩) (fun _=>rfl) _ H6 rfl s6
   ·refine ⟨_,_,rfl,rfl,_,_,rfl,?_⟩
    exact fin false _ _ rfl (fun z=>nomatch z) (fun z=>absurd (decide_eq_true (congrArg V.int (show (i:Int) = (us.length:Int) - 1 by have:=z.2; omega))) c) _ H6 rfl s6
 ·obtain ⟨o3,o4,o5,d,rfl,s2,hd,hall⟩:=h
  have hge:r.rep<=d:=by
   rw [hrep]
   exact zg2 fun j p hp=>hall j p (by have:=(List.getElem?_eq_some_iff.mp hp).1; omega) hp
  obtain rfl:d = r.rep:=by omega
  exact ⟨_,rfl,q H' (s1.trans s2)⟩
theorem zhW:FnScope ["thing"] ["thing"] (zl zb5):=⟨rfl,rfl,rfl,by decide +kernel,rfl,by decide +kernel,by decide +kernel⟩
theorem zhX (F:Fun K "is_rule" "is_rule" zb5 f fd) (G_repeated:Have P w K mg base "repeated" k ["expression"] (zkK 20)) (G_free_in:Have P w K mg base "free_in" k ["expression"] (zjf)) (G_is_formed:Have P w K mg base "is_formed" k ["thing"] (zem)) (m_MOST_REPEATED:∃ t,mg "MOST_REPEATED" = some (.int 2 t)):FnOk P w K mg base CX0 (k + 1) f fd ["thing"] (zeo):=by
 refine F.okQ zhW (fun vs H Q E h=>?_) (fun cdv A outer s H vs Q E hr h=>?_)
 ·obtain ⟨v,t,rfl,_⟩:=h
  rfl
 obtain ⟨v,t,rfl,rt,sm,q⟩:=h
 refine ⟨_,(zg (zo (zaB (zw G_is_formed hr rfl (za (pv 0) zc)) (zaB (zK (zla (Nat.lt_of_le_of_lt (Nat.le_add_right _ 64) hr.units)) (zw G_free_in hr rfl (za (pv 0) zc)) (zx zc) (nomark _)) (zao (zK zhr (zw G_repeated hr rfl (za (pv 0) zc)) (Zo rfl m_MOST_REPEATED) (nomark _))))))),?_⟩
 refine ⟨_,rfl,v,t,rfl,rt,sm,fun b H1 s1 hT hF=>⟨_,rfl,?_⟩⟩
 cases b with
 | false=>exact iteF (q false _ s1 (fun z=>nomatch z) (fun _ ⟨r,a,b,c,d,_⟩=>hF rfl ⟨r,a,b,c,d⟩))
 | true=>
 obtain ⟨r,rfl,g,hh,hm⟩:=hT rfl
 have hv:RW H v r.toW:=rt.toRW rfl
 have no:∀ H',Same H H'->(unb [] r≠[]\/2 < r.rep)->Q (.bl false) H':=fun H' s h=>q false H' s (fun z=>nomatch z) fun _ ⟨r',a,b,_,_,c,d⟩=>by
  rw [← Rl.toT_inj g b a] at c d
  rcases h with h | h
  ·exact h c
  ·omega
 refine iteT ⟨_,rfl,v,r,rfl,RW.mono (zJ s1) hv,g,by omega,by omega,fun l ss H2 hl s2 el hs hp=>?_⟩
 refine ⟨zl0,fun e he=>?_⟩
 have s3:=Same.new (o:=.lst []) he
 have s123:=s1.trans (s2.trans s3)
 have el3:=s3 _ _ el
 refine ⟨l,e,ss.map V.str,rfl,rfl,SqL.of el3,SqL.of zd,_,rfl,?_⟩
 by_cases hss:ss = []
 ·subst hss
  have hu:unb [] r = []:=zkM (List.length_eq_zero_iff.mp (by rw [← hp.length_eq]; rfl))
  refine iteT ⟨_,rfl,v,r,rfl,RW.mono (zJ s123) hv,g,by omega,fun H4 s4=>⟨_,_,rfl,rfl,?_⟩⟩
  show Q (.bl (decide ((r.rep:Int)<=2))) H4
  by_cases hr2:r.rep<=2
  ·rw [decide_eq_true (by omega)]
   exact q true _ (s123.trans s4) (fun _=>⟨r,rfl,g,hh,hm,hu,hr2⟩) (fun z=>nomatch z)
  ·rw [decide_eq_false (by omega)]
   exact no _ (s123.trans s4) (.inr (by omega))
 ·have hem:(ss.map V.str).isEmpty = false:=by
   cases ss with
   | nil=>exact absurd rfl hss
   | cons _ _=>rfl
  rw [hem]
  refine iteF (no _ s123 (.inl fun z=>hss ?_))
  rw [z] at hp
  exact List.length_eq_zero_iff.mp (by rw [hp.length_eq]; rfl)
theorem RT.inv_tup {H:Hp}{v:V}{ts:List T} (h:RT H v (.tup ts)):∃ a vs,v = .ref a/\H a = some (.tup vs)/\RTs H vs ts:=by
 cases h with
 | tup e l r=>exact ⟨_,_,rfl,e,l,r⟩
theorem RTs.rt {H:Hp}{a:Addr}{vs:List V}{ts:List T} (h:RTs H vs ts) (e:H a = some (.tup vs)):RT H (.ref a) (.tup ts):=.tup e h.1 h.2
theorem zjj:∀ {l:List T},(∀ y∈l,y.Sm)->Sms l
 | [],_=>trivial
 | y :: r,h=>⟨h y (by simp),zjj fun z hz=>h z (List.mem_cons_of_mem _ hz)⟩
mutual
theorem znE:∀ {r:Rl},r.Gd->r.toT.Sm
 | .lit x,h=>by
  rw [Rl.Gd] at h
  rw [Zi]
  exact ⟨by show 2<=100000; decide,(by show (Str.ofString "lit").length<=100000; decide +kernel),zk8 x (zlK x h.1),trivial⟩
 | .var s,h=>by
  rw [Rl.Gd] at h
  have:=h.2.1
  rw [ZX]
  exact ⟨by show 2<=100000; decide,(by show (Str.ofString "var").length<=100000; decide +kernel),(by show s.length<=100000; omega),trivial⟩
 | .op d bs ps,h=>by
  rw [Rl.Gd] at h
  have hb:=zco d
  have hl:=h.1.2.2.1
  have hp:ps.length<=8:=by
   have:=(zmb (r:=.op d bs ps) (by rw [Rl.Gd]; exact h)).len
   rw [List.length_map] at this
   exact this
  rw [zad]
  refine ⟨?_,?_,zjj fun y hy=>?_⟩
  ·rw [List.length_cons,List.length_append,List.length_map,List.length_map]; omega
  ·show (woS d).length<=100000
   cases d <;> decide +kernel
  ·rcases List.mem_append.mp hy with hy | hy
   ·obtain ⟨z,hz,rfl⟩:=List.mem_map.mp hy
    have:=(h.1.2.2.2.1 z hz).2.1
    show z.length<=100000
    omega
   ·obtain ⟨p,hp,rfl⟩:=List.mem_map.mp hy
    exact gds_sm h.2 p hp
theorem gds_sm:∀ {ps:List Rl},Gds ps->∀ p∈ps,p.toT.Sm
 | [],_,p,hp=>nomatch hp
 | q :: r,h,p,hp=>by
  rw [Gds] at h
  rcases List.mem_cons.mp hp with e | hp
  ·rw [e]; exact znE h.1
  ·exact gds_sm h.2 p hp
end
def YT (te:TE) (σ:St) (H:Hp) (t:T):Prop:=∀ (H1:Hp) (Q:VK),Same H H1->(∀ v H2,Same H1 H2->RT H2 v t->Q v H2)->te σ H1 Q
def YA (ta:TA) (σ:St) (H:Hp) (ts:List T):Prop:=∀ (H1:Hp) (Q:List V->Hp->Prop),Same H H1->(∀ vs H2,Same H1 H2->RTs H2 vs ts->Q vs H2)->ta σ H1 Q
theorem RTs.nil {H:Hp}:RTs H [] []:=⟨rfl,fun i v t e=>by simp at e⟩
theorem RTs.cons {H:Hp}{v:V}{t:T}{vs:List V}{ts:List T} (h:RT H v t) (g:RTs H vs ts):RTs H (v :: vs) (t :: ts):=by
 refine ⟨by rw [List.length_cons,List.length_cons,g.1],fun i v' t' a b=>?_⟩
 cases i with
 | zero=>cases a; cases b; exact h
 | succ i=>exact g.2 i v' t' (by simpa using a) (by simpa using b)
theorem zlf {σ:St}{H:Hp}{i:Nat}{v:V}{t:T} (e:σ[i]? = some (some v)) (r:RT H v t):YT (tVar i) σ H t:=fun H1 Q s q=>⟨v,e,q v H1 (Same.refl _) (r.mono s)⟩
theorem zne {σ:St}{H:Hp}:YA tNil σ H []:=fun H1 Q s q=>q [] H1 (Same.refl _) .nil
theorem zmc {σ:St}{H:Hp}{te:TE}{ta:TA}{t:T}{ts:List T} (h:YT te σ H t) (g:YA ta σ H ts):YA (zan te ta) σ H (t :: ts):=fun H1 Q s q=>
 h H1 _ s fun v H2 s2 r2=>g H2 _ (s.trans s2) fun vs H3 s3 r3=>q (v :: vs) H3 (s2.trans s3) (.cons (r2.mono s3) r3)
theorem znf {σ:St}{H:Hp}{ta:TA}{ts:List T} (g:YA ta σ H ts) (hl:ts.length<=1000):YT (tTup ta) σ H (.tup ts):=fun H1 Q s q=>
 g H1 _ s fun vs H2 s2 r2=>⟨Nat.le_trans (show vs.length<=1000 by rw [r2.1]; exact hl) (by decide),fun p hp=>q _ _ (s2.trans (Same.new hp)) ((r2.mono (Same.new hp)).rt zd)⟩
theorem RTs.cat {H:Hp}{vs us:List V}{ts ps:List T} (h:RTs H vs ts) (g:RTs H us ps):RTs H (vs ++ us) (ts ++ ps):=by
 refine ⟨by rw [List.length_append,List.length_append,h.1,g.1],fun i v t a b=>?_⟩
 by_cases hi:i < vs.length
 ·rw [List.getElem?_append_left hi] at a
  rw [List.getElem?_append_left (by rw [← h.1]; exact hi)] at b
  exact h.2 i v t a b
 ·rw [List.getElem?_append_right (by omega)] at a
  rw [List.getElem?_append_right (by rw [← h.1]; omega),← h.1] at b
  exact g.2 _ v t a b
theorem zng {K:PySem.W.Frag}{σ:St}{H:Hp}{ta tb:TE}{as bs:List T} (h:YT ta σ H (.tup as)) (g:YT tb σ H (.tup bs)) (hn:as≠[]) (hl:as.length + bs.length<=300000):YT (tOp (zj6 K) ta tb) σ H (.tup (as ++ bs)):=fun H1 Q s q=>
 h H1 _ s fun v H2 s2 r2=>g H2 _ (s.trans s2) fun u H3 s3 r3=>by
  obtain ⟨a,xs,rfl,ea,hxs⟩:=r2.inv_tup
  obtain ⟨b,ys,rfl,eb,hys⟩:=r3.inv_tup
  have l1:=hxs.1
  have l2:=hys.1
  refine ⟨a,b,xs,ys,rfl,rfl,SqT.of (s3 _ _ ea),SqT.of eb,(fun z=>hn (List.length_eq_zero_iff.mp (by rw [← l1,z]; rfl))),Nat.le_trans (show xs.length + ys.length<=300000 by omega) (by decide),fun z=>?_,fun _ p hp=>?_⟩
  ·have hb:bs = []:=List.length_eq_zero_iff.mp (by rw [← l2,z]; rfl)
   subst hb
   rw [List.append_nil] at q
   exact q _ H3 (s2.trans s3) (r2.mono s3)
  ·have s4:=Same.new (o:=.tup (xs ++ ys)) hp
   exact q _ _ ((s2.trans s3).trans s4) (((hxs.mono (s3.trans s4)).cat (hys.mono s4)).rt zd)
def tk (i:Nat) (n:Int):TE:=zcX za5 [] E0 (zan (tVar i) (zan (tC (.int n)) tNil))
inductive SpellO:List Nat->Option (List Pc)->Prop where
 | nil:SpellO [] (some [])
 | gap {c:Nat}{r:List Nat}{o:Option (List Pc)}:c = 32\/c = 10->SpellO r o->SpellO (c :: r) o
 | op {r:List Nat}{o:Option (List Pc)}:SpellO r o->SpellO (40 :: r) (o.map (Pc.op :: ·))
 | cl {r:List Nat}{o:Option (List Pc)}:SpellO r o->SpellO (41 :: r) (o.map (Pc.cl :: ·))
 | txt {q r:List Nat}{o:Option (List Pc)}:(∀ c∈q,c≠34)->SpellO r o->SpellO (34 :: (q ++ 34 :: r)) (o.map (Pc.txt q :: ·))
 | bad {q:List Nat}:(∀ c∈q,c≠34)->SpellO (34 :: q) none
 | word {c:Nat}{q r:List Nat}{o:Option (List Pc)}:zab c = false->(∀ d∈q,zab d = false)->Cut r->SpellO r o->SpellO (c :: (q ++ r)) (o.map (Pc.word (c :: q) :: ·))
theorem zdk:∀ l:List Nat,(∀ c∈l,c≠34)\/∃ q r,l = q ++ 34 :: r/\∀ c∈q,c≠34
 | []=>.inl fun c hc=>by simp at hc
 | c :: l=>by
  by_cases h:c = 34
  ·exact .inr ⟨[],l,by rw [h]; rfl,fun c hc=>by simp at hc⟩
  ·rcases zdk l with hl | ⟨q,r,e,hq⟩
   ·exact .inl fun d hd=>by
     rcases List.mem_cons.mp hd with rfl | hd
     ·exact h
     ·exact hl d hd
   ·exact .inr ⟨c :: q,r,by rw [e]; rfl,fun d hd=>by
     rcases List.mem_cons.mp hd with rfl | hd
     ·exact h
     ·exact hq d hd⟩
theorem zdQ:∀ l:List Nat,∃ q r,l = q ++ r/\(∀ d∈q,zab d = false)/\Cut r
 | []=>⟨[],[],rfl,fun d hd=>by simp at hd,zf3⟩
 | c :: l=>by
  cases h:zab c with
  | true=>exact ⟨[],c :: l,rfl,fun d hd=>(by simp at hd),fun d s e=>by cases e; exact h⟩
  | false=>
   obtain ⟨q,r,e,hq,hr⟩:=zdQ l
   exact ⟨c :: q,r,by rw [e]; rfl,fun d hd=>(by
    rcases List.mem_cons.mp hd with rfl | hd
    ·exact h
    ·exact hq d hd),hr⟩
theorem zjk:∀ (n:Nat) (t:List Nat),t.length<=n->∃ o,SpellO t o:=by
 intro n
 induction n with
 | zero=>
  intro t h
  obtain rfl:t = []:=List.length_eq_zero_iff.mp (by omega)
  exact ⟨_,.nil⟩
 | succ n ih=>
  intro t h
  cases t with
  | nil=>exact ⟨_,.nil⟩
  | cons c r=>
   rw [List.length_cons] at h
   by_cases h1:c = 32\/c = 10
   ·obtain ⟨o,ho⟩:=ih r (by omega)
    exact ⟨o,.gap h1 ho⟩
   by_cases h2:c = 40
   ·obtain ⟨o,ho⟩:=ih r (by omega)
    subst h2
    exact ⟨_,.op ho⟩
   by_cases h3:c = 41
   ·obtain ⟨o,ho⟩:=ih r (by omega)
    subst h3
    exact ⟨_,.cl ho⟩
   by_cases h4:c = 34
   ·subst h4
    rcases zdk r with hq | ⟨q,r',rfl,hq⟩
    ·exact ⟨_,.bad hq⟩
    ·obtain ⟨o,ho⟩:=ih r' (by rw [List.length_append,List.length_cons] at h; omega)
     exact ⟨_,.txt hq ho⟩
   obtain ⟨q,r',rfl,hq,hc⟩:=zdQ r
   obtain ⟨o,ho⟩:=ih r' (by rw [List.length_append] at h; omega)
   refine ⟨_,.word ?_ hq hc ho⟩
   simp only [not_or] at h1
   simp [zab,h1,h2,h3,h4]
theorem Spell.o {t:List Nat}{ps:List Pc} (h:Spell t ps):SpellO t (some ps):=by
 induction h with
 | nil=>exact .nil
 | gap h _ ih=>exact .gap h ih
 | op _ ih=>exact .op ih
 | cl _ ih=>exact .cl ih
 | txt h _ ih=>exact .txt h ih
 | word h h2 h3 _ ih=>exact .word h h2 h3 ih
theorem SpellO.len {r:List Nat}{o:Option (List Pc)} (h:SpellO r o):∀ ps,o = some ps->ps.length<=r.length:=by
 induction h with
 | nil=>intro ps e; cases e; simp
 | gap _ _ ih=>intro ps e; have:=ih ps e; simp; omega
 | op _ ih=>intro ps e; obtain ⟨p,rfl,rfl⟩:=Option.map_eq_some_iff.mp e; have:=ih p rfl; simp; omega
 | cl _ ih=>intro ps e; obtain ⟨p,rfl,rfl⟩:=Option.map_eq_some_iff.mp e; have:=ih p rfl; simp; omega
 | txt _ _ ih=>intro ps e; obtain ⟨p,rfl,rfl⟩:=Option.map_eq_some_iff.mp e; have:=ih p rfl; simp; omega
 | bad _=>intro ps e; cases e
 | word _ _ _ _ ih=>intro ps e; obtain ⟨p,rfl,rfl⟩:=Option.map_eq_some_iff.mp e; have:=ih p rfl; simp; omega
def zdl:Sp:=fun vs H Q _=>∃ (t:Str) (pre q r:List Nat),vs = [.str t,.int (pre.length:Int)]/\t.cps.toList = pre ++ (q ++ r)/\(∀ c∈q,zab c = false)/\Cut r/\t.length<=100000/\Q (.int ((pre.length + q.length:Nat):Int)) H
def zdm (AN:Addr):Sp:=fun vs H Q E=>∃ (t:Str) (pre q:List Nat),vs = [.str t,.int (pre.length:Int)]/\(∀ c∈q,c≠34)/\t.length<=100000 /\
 ((∃ r,t.cps.toList = pre ++ 34 :: (q ++ 34 :: r)/\Q (.int ((pre.length + 1 + q.length:Nat):Int)) H)\/(t.cps.toList = pre ++ 34 :: q/\E (.ref AN) none H))
theorem zjl {z:Str}{pre q:List Nat} (hz:z.cps.toList = pre ++ 34 :: q) (hq:∀ c∈q,c≠34):Txt.find3 z ⟨#[34]⟩ (((pre.length:Nat):Int) + 1) = -1:=by
 have hl:z.length = pre.length + 1 + q.length:=by
  rw [← zt,hz]; simp; omega
 have hf:fromIndex z.length (((pre.length:Nat):Int) + 1) = pre.length + 1:=by
  unfold fromIndex
  rw [if_neg (by omega)]
  omega
 rcases StrLaws.find3_spec z 34 (((pre.length:Nat):Int) + 1) with ⟨h,_⟩ | ⟨k,hk,h1,h2,h3,h4⟩
 ·exact h
 ·rw [hf] at h1
  obtain ⟨u,rfl⟩:∃ u,k = pre.length + 1 + u:=⟨k - pre.length - 1,by omega⟩
  have hu:u < q.length:=by omega
  have e:z.cps.toList[pre.length + 1 + u]? = some q[u]:=by
   rw [hz,List.getElem?_append_right (by omega),show pre.length + 1 + u - pre.length = u + 1 by omega,List.getElem?_cons_succ]
   exact List.getElem?_eq_getElem hu
  rw [zed e] at h3
  exact absurd h3 (hq _ (List.getElem_mem hu))
theorem zmd (c:Nat):decide (c∈zkB.cps.toList) = zab c:=by
 rw [zhL,Bool.eq_iff_iff,decide_eq_true_iff]
 simp [zab]
theorem zme (c:Nat):decide (c∈zkC.cps.toList) = decide (c = 32\/c = 10):=by
 rw [zhM,Bool.eq_iff_iff,decide_eq_true_iff,decide_eq_true_iff]
 simp
theorem zjm (c:Nat):decide (c∈wBr.cps.toList) = decide (c = 40\/c = 41):=by
 rw [zkE,Bool.eq_iff_iff,decide_eq_true_iff,decide_eq_true_iff]
 simp
theorem zbI:Str.ofString "\"" = ⟨#[34]⟩:=by decide +kernel
theorem zbR:FnScope ["text","start","end"] ["text","start"] (zl zbu):=⟨rfl,rfl,rfl,by decide +kernel,rfl,by decide +kernel,by decide +kernel⟩
theorem zga (F:Fun K "word_end" "word_end" zbu f fd) (m_len:mg "len" = none) (m_WORD_ENDS:∃ t,mg "WORD_ENDS" = some (.str zkB t)):FnOk P w K mg base CX0 (k + 1) f fd ["text","start"] (zdl):=by
 refine F.okQ zbR (fun vs H Q E h=>?_) (fun cdv A outer s H vs Q E hr h=>?_)
 ·obtain ⟨t,pre,q,r,rfl,_⟩:=h
  rfl
 obtain ⟨t,pre,q,r,rfl,ht,hq,hc,hz,qq⟩:=h
 have hl:t.length = pre.length + (q.length + r.length):=by rw [← zt,ht]; simp
 refine ⟨_,(zb (zn (i:=2) zbR.nd rfl (Or.inl rfl) (pv 1))
  (zb (zbp PassesOwn.never (PW.pt (zal (zj zeN (pv 2) (zk zz rfl m_len PySem.boot_len (za (pv 0) zc)) (nomark _)) (ZH (zj zeO (zy zbY (pv 0) (pv 2) (fun _ _=>rfl)) (zbA rfl m_WORD_ENDS) (by rfl))))) (zg (zct (i:=2) zbR.nd rfl (Or.inl rfl) zf (zix zcW))))
  (zg (zo (pv 2))))),?_⟩
 refine ⟨_,rfl,?_⟩
 refine ⟨fun m σ' H'=>∃ j:Nat,j<=q.length/\σ' = [some (.str t),some (.int (pre.length:Int)),some (.int ((pre.length + j:Nat):Int))]/\H' = H/\m = q.length - j,
  ⟨_,0,Nat.zero_le _,rfl,rfl,rfl⟩,fun m σ' H' hW=>?_⟩
 obtain ⟨j,hj,rfl,rfl,rfl⟩:=hW
 refine ⟨_,rfl,_,rfl,_,_,rfl,⟨small (by omega),rfl⟩,_,_,rfl,rfl,_,rfl,?_⟩
 refine ite2 (fun e=>?_) (fun e=>?_)
 ·have e1:((pre.length + j:Nat):Int) < ((t.length:Nat):Int):=of_decide_eq_true e
  have hlt:pre.length + j < t.cps.toList.length:=by rw [zt]; omega
  have hat:atI t.cps.toList ((pre.length + j:Nat):Int) = some t.cps.toList[pre.length + j]:=zM (List.getElem?_eq_getElem hlt)
  refine ⟨_,rfl,_,rfl,t,_,_,rfl,rfl,small (by omega),hat,_,_,rfl,rfl,_,rfl,?_⟩
  rw [zcf,zmd]
  by_cases hjq:j < q.length
  ·have ec:t.cps.toList[pre.length + j] = q[j]:=by
    have:t.cps.toList[pre.length + j]? = some q[j]:=by
     rw [ht,List.getElem?_append_right (by omega),show pre.length + j - pre.length = j by omega,List.getElem?_append_left hjq]
     simp
    rw [List.getElem?_eq_getElem hlt] at this
    exact Option.some.inj this
   rw [ec,hq _ (List.getElem_mem hjq)]
   refine iteT ⟨_,fun _ _ h=>h,?_⟩
   refine ⟨_,rfl,_,_,rfl,rfl,q.length - (j + 1),by omega,j + 1,hjq,?_,rfl,rfl⟩
   simp only [List.set]
   rw [show ((pre.length + j:Nat):Int) + 1 = ((pre.length + (j + 1):Nat):Int) by omega]
  ·have hje:j = q.length:=by omega
   subst hje
   cases r with
   | nil=>simp at hl; omega
   | cons c r=>
    have ec:t.cps.toList[pre.length + q.length] = c:=by
     have:t.cps.toList[pre.length + q.length]? = some c:=by
      rw [ht,List.getElem?_append_right (by omega),show pre.length + q.length - pre.length = q.length by omega,List.getElem?_append_right (by omega)]
      simp
     rw [List.getElem?_eq_getElem hlt] at this
     exact Option.some.inj this
    rw [ec,hc c r rfl]
    exact iteF ⟨_,rfl,qq⟩
 ·have e1:¬ ((pre.length + j:Nat):Int) < ((t.length:Nat):Int):=fun z=>e (decide_eq_true z)
  have hje:j = q.length:=by omega
  subst hje
  exact iteF ⟨_,rfl,qq⟩
theorem zdn:FnScope ["text","start","end"] ["text","start"] (zl zbv):=⟨rfl,rfl,rfl,by decide +kernel,rfl,by decide +kernel,by decide +kernel⟩
theorem zgb (F:Fun K "text_end" "text_end" zbv f fd) (x_NoText:excIn K zN vErr "ValueError.__new__" = true) (c_NoText:mg "NoText" = some (.ref zN)):FnOk P w K mg base (CX1 P w) (k + 1) f fd ["text","start"] (zdm zN):=by
 refine F.okX zdn (fun vs H Q E h=>?_) (fun cdv A outer s H vs Q E hr h=>?_)
 ·obtain ⟨t,pre,q,rfl,_⟩:=h
  rfl
 obtain ⟨t,pre,q,rfl,hq,hz,hh⟩:=h
 refine ⟨_,(zb (zn (i:=2) zdn.nd rfl (Or.inl rfl) (zaE PySem.F.plainAttrs_str PySem.F.slot_str_find PySem.F.type_str_find zkz (pv 0) (za ze (za (zi zU (pv 1) zf) zc))))
  (zb (zB (zj zeN (pv 2) zf (nomark _)) (zg (Zz zaf rfl x_NoText c_NoText rfl (za ze zc))) zq)
  (zg (zo (pv 2))))),?_⟩
 refine ⟨_,rfl,rfl,_,rfl,_,_,rfl,rfl,t,_,_,rfl,rfl,?_⟩
 rcases hh with ⟨r,ht,qq⟩ | ⟨ht,qq⟩
 ·rw [zbI,zhK ht hq]
  refine ⟨_,rfl,_,_,rfl,rfl,_,rfl,?_⟩
  refine ite2 (fun e=>?_) (fun e=>⟨_,rfl,qq⟩)
  have e1:((pre.length + 1 + q.length:Nat):Int) < 0:=of_decide_eq_true e
  omega
 ·rw [zbI,zjl ht hq]
  refine ⟨_,rfl,_,_,rfl,rfl,_,rfl,?_⟩
  exact iteT ⟨zl1,qq⟩
def pcV:Pc->List V
 | .op=>[.str ⟨#[40]⟩,.str ⟨#[40]⟩]
 | .cl=>[.str ⟨#[41]⟩,.str ⟨#[41]⟩]
 | .txt q=>[.str "text",.str ⟨q.toArray⟩]
 | .word q=>[.str "word",.str ⟨q.toArray⟩]
def RPc (H:Hp) (v:V) (p:Pc):Prop:=∃ a,v = .ref a/\H a = some (.tup (pcV p))
structure RPs (H:Hp) (vs:List V) (ps:List Pc):Prop where
 len:vs.length = ps.length
 at':∀ (i:Nat) (v:V) (p:Pc),vs[i]? = some v->ps[i]? = some p->RPc H v p
theorem RPc.mono {H H':Hp} (t:Tups H H') {v:V}{p:Pc} (h:RPc H v p):RPc H' v p:=by
 obtain ⟨a,e,h⟩:=h
 exact ⟨a,e,t a _ h⟩
theorem RPs.mono {H H':Hp} (t:Tups H H') {vs:List V}{ps:List Pc} (h:RPs H vs ps):RPs H' vs ps:=⟨h.len,fun i v p a b=>(h.at' i v p a b).mono t⟩
theorem RPs.nil {H:Hp}:RPs H [] []:=⟨rfl,fun i v p a=>by simp at a⟩
theorem RPs.snoc {H:Hp}{vs:List V}{ps:List Pc}{v:V}{p:Pc} (h:RPs H vs ps) (x:RPc H v p):RPs H (vs ++ [v]) (ps ++ [p]):=by
 refine ⟨by simp [h.len],fun i u q a b=>?_⟩
 by_cases hi:i < vs.length
 ·rw [List.getElem?_append_left hi] at a
  rw [List.getElem?_append_left (by rw [← h.len]; exact hi)] at b
  exact h.at' i u q a b
 ·rw [List.getElem?_append_right (by omega)] at a
  rw [List.getElem?_append_right (by rw [← h.len]; omega)] at b
  rw [← h.len] at b
  cases hk:i - vs.length with
  | zero=>
   rw [hk] at a b
   have a1:v = u:=by simpa using a
   have b1:p = q:=by simpa using b
   rw [← a1,← b1]
   exact x
  | succ n=>rw [hk] at a; simp at a
def zep (AN:Addr):Sp:=fun vs H Q E=>∃ (t:Str) (O:Option (List Pc)),vs = [.str t]/\SpellO t.cps.toList O/\t.length<=100000/\(∀ ps,O = some ps->∀ (p:Addr) (us:List V) (H':Hp),H p = none->Same H H'->H' p = some (.lst us)->RPs H' us ps->Q (.ref p) H')/\(O = none->∀ H',Same H H'->E (.ref AN) none H')
theorem zg3 {pre q r:List Nat}{t:Str} (ht:t.cps.toList = pre ++ (q ++ r)):Txt.slice t (some ((pre.length:Nat):Int)) (some ((pre.length + q.length:Nat):Int)) = ⟨q.toArray⟩:=by
 have hl:t.length = pre.length + (q.length + r.length):=by rw [← zt,ht]; simp
 have e:=zgO (z:=t) (a:=pre.length) (b:=pre.length + q.length) (by omega) (by omega)
 rw [ht] at e
 have e2:(Txt.slice t (some ((pre.length:Nat):Int)) (some ((pre.length + q.length:Nat):Int))).cps.toList = q:=by
  rw [e]
  simp
 cases hz:Txt.slice t (some ((pre.length:Nat):Int)) (some ((pre.length + q.length:Nat):Int)) with
 | mk cps=>
  rw [hz] at e2
  have:cps = q.toArray:=by rw [← e2]
  rw [this]
def PInv (H:Hp) (t:Str) (O:Option (List Pc)) (p:Addr) (m:Nat) (σ:St) (H':Hp):Prop:=∃ (pre r:List Nat) (done:List Pc) (rest:Option (List Pc)) (us:List V) (o1 o2:Option V),
 σ = [some (.str t),some (.ref p),some (.int (pre.length:Int)),o1,o2]/\t.cps.toList = pre ++ r/\SpellO r rest/\(O = rest.map (done ++ ·)/\done.length<=pre.length)/\H' p = some (.lst us)/\RPs H' us done/\Same H H'/\m = r.length
theorem zci {H H':Hp}{p:Addr}{o:HO} (hp:H p = none) (s:Same H H'):Same H (upd H' p o):=fun b u e=>by
 rw [zu (zr e hp)]
 exact s b u e
theorem zY:FnScope ["text","pieces","place","sign","end"] ["text"] (zl zaQ):=⟨rfl,rfl,rfl,by decide +kernel,rfl,by decide +kernel,by decide +kernel⟩
theorem zfr (F:Fun K "pieces_of" "pieces_of" zaQ f fd) (G_text_end:Zy P w K mg base "text_end" k ["text","start"] (zdm zN)) (G_word_end:Have P w K mg base "word_end" k ["text","start"] (zdl)) (m_len:mg "len" = none) (m_BETWEEN:∃ t,mg "BETWEEN" = some (.str zkC t)):FnOk P w K mg base (CX1 P w) (k + 1) f fd ["text"] (zep zN):=by
 refine F.okX zY (fun vs H Q E h=>?_) (fun cdv A outer s H vs Q E hr h=>?_)
 ·obtain ⟨t,O,rfl,_⟩:=h
  rfl
 obtain ⟨t,O,rfl,hs,hz,qq,qe⟩:=h
 refine ⟨_,(zb (zn (i:=1) zY.nd rfl (Or.inl rfl) (zx zc))
  (zb (zn (i:=2) zY.nd rfl (Or.inl rfl) zf)
  (zb (zbp zm6 (zj zeN (pv 2) (zk zz rfl m_len PySem.boot_len (za (pv 0) zc)) (nomark _)) (zb (zn (i:=3) zY.nd rfl (Or.inl rfl) (zy zbY (pv 0) (pv 2) (fun _ _=>rfl)))
  (zg (zB (zj zbb (pv 3) (zbA rfl m_BETWEEN) (by rfl)) (zg (zct (i:=2) zY.nd rfl (Or.inl rfl) zf (zix zcW))) (zg (zB (zj zbb (pv 3) ze (by rfl)) (zb (ZB (zaE PySem.F.plainAttrs_list PySem.F.slot_list_append PySem.F.type_list_append ZR (pv 1) (za (zP (za (pv 3) (za (pv 3) zc))) zc)))
  (zg (zct (i:=2) zY.nd rfl (Or.inl rfl) zf (zix zcW)))) (zg (zB (zj zS (pv 3) ze (nomark _)) (zb (zn (i:=4) zY.nd rfl (Or.inl rfl) (ZW G_text_end hr zaf rfl (za (pv 0) (za (pv 2) zc))))
  (zb (ZB (zaE PySem.F.plainAttrs_list PySem.F.slot_list_append PySem.F.type_list_append ZR (pv 1) (za (zP (za ze (za (Zg zaz (pv 0) (Ze (zi zU (pv 2) zf)) (Ze (pv 4))) zc))) zc)))
  (zg (zn (i:=2) zY.nd rfl (Or.inl rfl) (zi zU (pv 4) zf))))) (zb (zn (i:=4) zY.nd rfl (Or.inl rfl) (zw G_word_end hr rfl (za (pv 0) (za (pv 2) zc))))
  (zb (ZB (zaE PySem.F.plainAttrs_list PySem.F.slot_list_append PySem.F.type_list_append ZR (pv 1) (za (zP (za ze (za (Zg zaz (pv 0) (Ze (pv 2)) (Ze (pv 4))) zc))) zc)))
  (zg (zn (i:=2) zY.nd rfl (Or.inl rfl) (pv 4)))))))))))))
  (zg (zo (pv 1)))))),?_⟩
 refine ⟨zl0,fun p hp=>?_⟩
 refine ⟨PInv H t O p,⟨_,[],_,[],O,[],none,none,rfl,rfl,hs,⟨by simp,Nat.le_refl _⟩,zd,RPs.nil,Same.new hp,rfl⟩,fun m σ' H' hW=>?_⟩
 obtain ⟨pre,r,done,rest,us,o1,o2,rfl,ht,sp,⟨hps,hdl⟩,hpu,hru,s1,rfl⟩:=hW
 have hl:t.length = pre.length + r.length:=by rw [← zt,ht]; simp
 refine ⟨_,rfl,_,rfl,_,_,rfl,⟨small (by omega),rfl⟩,_,_,rfl,rfl,_,rfl,?_⟩
 have hus:us.length < sizeLine:=by
  rw [hru.len]
  exact Nat.lt_of_le_of_lt (show done.length<=100000 by omega) (by decide)
 have more:∀ (a:Addr) (q:Pc) (H2:Hp),H2 = upd (upd H' a (.tup (pcV q))) p (.lst (us ++ [.ref a]))->H' a = none->RPs H2 (us ++ [.ref a]) (done ++ [q])/\Same H H2/\H2 p = some (.lst (us ++ [.ref a])):=fun a q H2 e ha=>by
  subst e
  have ap:p≠a:=zr hpu ha
  have t1:Tups H' (upd H' a (.tup (pcV q))):=zdZ ha
  have e1:upd H' a (.tup (pcV q)) p = some (.lst us):=by rw [zu ap]; exact hpu
  have t2:Tups (upd H' a (.tup (pcV q))) (upd (upd H' a (.tup (pcV q))) p (.lst (us ++ [.ref a]))):=Z6 e1
  refine ⟨((hru.mono t1).mono t2).snoc ⟨a,rfl,t2 a _ zd⟩,zci hp (s1.trans (Same.new ha)),zd⟩
 refine ite2 (fun e=>?_) (fun e=>?_)
 ·have e1:((pre.length:Nat):Int) < ((t.length:Nat):Int):=of_decide_eq_true e
  refine ⟨_,fun _ _ h=>h,?_⟩
  cases r with
  | nil=>simp at hl; omega
  | cons c r=>
  have hat:atI t.cps.toList ((pre.length:Nat):Int) = some c:=zM (by rw [ht,List.getElem?_append_right (by omega)]; simp)
  refine ⟨_,rfl,_,rfl,t,_,c,rfl,rfl,small (by omega),hat,?_⟩
  have go1:∀ (x:Nat),((pre.length:Nat):Int) + 1 = (((pre ++ [x]).length:Nat):Int):=fun x=>by simp
  refine ⟨_,rfl,_,_,rfl,rfl,_,rfl,?_⟩
  rw [zcf,zme]
  cases sp with
  | gap hg sp'=>
   rw [decide_eq_true hg]
   refine iteT ⟨_,rfl,_,_,rfl,rfl,r.length,by simp,pre ++ [c],r,done,rest,us,some (V.str ⟨#[c]⟩),o2,?_,by simp [ht],sp',⟨hps,by simp; omega⟩,hpu,hru,s1,rfl⟩
   simp only [List.set]
   rw [go1 c]
  | @op r' rest' sp'=>
   rw [decide_eq_false (by omega)]
   refine iteF ⟨_,rfl,_,_,rfl,rfl,_,rfl,?_⟩
   rw [show Str.ofString "()" = wBr from rfl,zcf,zjm,decide_eq_true (.inl rfl)]
   refine iteT ⟨_,rfl,.inl ⟨rfl,_,SqL.of hpu⟩,_,rfl,_,rfl,zl2,fun a ha=>?_⟩
   have ap:p≠a:=zr hpu ha
   refine ⟨p,us,.ref a,rfl,rfl,by rw [zu ap]; exact hpu,hus,?_⟩
   obtain ⟨m1,m2,m3⟩:=more a .op _ rfl ha
   refine ⟨_,rfl,_,_,rfl,rfl,r.length,by simp,pre ++ [40],r,done ++ [Pc.op],rest',us ++ [V.ref a],some (V.str ⟨#[40]⟩),o2,?_,by simp [ht],sp',⟨by rw [hps,Option.map_map]; congr 1; funext z; simp,by simp; omega⟩,m3,m1,m2,rfl⟩
   simp only [List.set]
   rw [go1 40]
  | @cl r' rest' sp'=>
   rw [decide_eq_false (by omega)]
   refine iteF ⟨_,rfl,_,_,rfl,rfl,_,rfl,?_⟩
   rw [show Str.ofString "()" = wBr from rfl,zcf,zjm,decide_eq_true (.inr rfl)]
   refine iteT ⟨_,rfl,.inl ⟨rfl,_,SqL.of hpu⟩,_,rfl,_,rfl,zl2,fun a ha=>?_⟩
   have ap:p≠a:=zr hpu ha
   refine ⟨p,us,.ref a,rfl,rfl,by rw [zu ap]; exact hpu,hus,?_⟩
   obtain ⟨m1,m2,m3⟩:=more a .cl _ rfl ha
   refine ⟨_,rfl,_,_,rfl,rfl,r.length,by simp,pre ++ [41],r,done ++ [Pc.cl],rest',us ++ [V.ref a],some (V.str ⟨#[41]⟩),o2,?_,by simp [ht],sp',⟨by rw [hps,Option.map_map]; congr 1; funext z; simp,by simp; omega⟩,m3,m1,m2,rfl⟩
   simp only [List.set]
   rw [go1 41]
  | @txt q r' rest' hq sp'=>
   rw [decide_eq_false (by omega)]
   refine iteF ⟨_,rfl,_,_,rfl,rfl,_,rfl,?_⟩
   rw [show Str.ofString "()" = wBr from rfl,zcf,zjm,decide_eq_false (by omega)]
   refine iteF ⟨_,rfl,rfl,_,rfl,?_⟩
   rw [zbI,decide_eq_true rfl]
   refine iteT ⟨_,rfl,_,rfl,t,pre,q,rfl,hq,hz,.inl ⟨r',ht,?_⟩⟩
   refine ⟨_,rfl,.inl ⟨rfl,_,SqL.of hpu⟩,_,rfl,_,rfl,_,_,rfl,rfl,_,rfl,_,rfl,_,rfl,t,rfl,by omega,zl2,fun a ha=>?_⟩
   have ec:Txt.slice t (some (((pre.length:Nat):Int) + 1)) (some ((pre.length + 1 + q.length:Nat):Int)) = ⟨q.toArray⟩:=by
    have:=zg3 (pre:=pre ++ [34]) (q:=q) (r:=34 :: r') (t:=t) (by rw [ht]; simp)
    rw [← go1 34] at this
    rw [show (pre ++ [(34:Nat)]).length + q.length = pre.length + 1 + q.length by simp] at this
    exact this
   have ap:p≠a:=zr hpu ha
   refine ⟨p,us,.ref a,rfl,rfl,by rw [zu ap]; exact hpu,hus,?_⟩
   rw [ec]
   obtain ⟨m1,m2,m3⟩:=more a (.txt q) _ rfl ha
   refine ⟨_,rfl,_,_,rfl,rfl,r'.length,by simp; omega,pre ++ (34 :: (q ++ [34])),r',done ++ [Pc.txt q],rest',us ++ [V.ref a],some (V.str ⟨#[34]⟩),some (V.int ((pre.length + 1 + q.length:Nat):Int)),?_,by simp [ht],sp',⟨by rw [hps,Option.map_map]; congr 1; funext z; simp,by simp; omega⟩,m3,m1,m2,rfl⟩
   simp only [List.set]
   rw [show ((pre.length + 1 + q.length:Nat):Int) + 1 = (((pre ++ (34 :: (q ++ [34]))).length:Nat):Int) by simp; omega]
  | @bad q hq=>
   rw [decide_eq_false (by omega)]
   refine iteF ⟨_,rfl,_,_,rfl,rfl,_,rfl,?_⟩
   rw [show Str.ofString "()" = wBr from rfl,zcf,zjm,decide_eq_false (by omega)]
   refine iteF ⟨_,rfl,rfl,_,rfl,?_⟩
   rw [zbI,decide_eq_true rfl]
   exact iteT ⟨_,rfl,_,rfl,t,pre,r,rfl,hq,hz,.inr ⟨ht,qe (by rw [hps]; rfl) _ s1⟩⟩
  | @word _ q r' rest' hc hq cut sp'=>
   have hne:∀ x,zab x = true->c≠x:=fun x hx z=>by rw [z,hx] at hc; cases hc
   rw [decide_eq_false (by intro z; rcases z with z | z <;> exact hne _ rfl z)]
   refine iteF ⟨_,rfl,_,_,rfl,rfl,_,rfl,?_⟩
   rw [show Str.ofString "()" = wBr from rfl,zcf,zjm,decide_eq_false (by intro z; rcases z with z | z <;> exact hne _ rfl z)]
   refine iteF ⟨_,rfl,rfl,_,rfl,?_⟩
   rw [zbI,decide_eq_false (fun z=>hne 34 rfl (by simpa using z))]
   refine iteF ⟨_,rfl,_,rfl,t,pre,c :: q,r',rfl,by rw [ht]; simp,?_,cut,hz,?_⟩
   ·intro d hd
    rcases List.mem_cons.mp hd with rfl | hd
    ·exact hc
    ·exact hq d hd
   refine ⟨_,rfl,.inl ⟨rfl,_,SqL.of hpu⟩,_,rfl,_,rfl,_,rfl,_,rfl,_,rfl,t,rfl,by omega,zl2,fun a ha=>?_⟩
   have ec:=zg3 (pre:=pre) (q:=c :: q) (r:=r') (t:=t) (by rw [ht]; simp)
   have ap:p≠a:=zr hpu ha
   refine ⟨p,us,.ref a,rfl,rfl,by rw [zu ap]; exact hpu,hus,?_⟩
   rw [ec]
   obtain ⟨m1,m2,m3⟩:=more a (.word (c :: q)) _ rfl ha
   refine ⟨_,rfl,r'.length,by simp; omega,pre ++ (c :: q),r',done ++ [Pc.word (c :: q)],rest',us ++ [V.ref a],some (V.str ⟨#[c]⟩),some (V.int ((pre.length + (c :: q).length:Nat):Int)),?_,by simp [ht],sp',⟨by rw [hps,Option.map_map]; congr 1; funext z; simp,by simp; omega⟩,m3,m1,m2,rfl⟩
   simp only [List.set]
   rw [List.length_append]
 ·have e1:¬ ((pre.length:Nat):Int) < ((t.length:Nat):Int):=fun z=>e (decide_eq_true z)
  have hr:r = []:=List.length_eq_zero_iff.mp (by omega)
  subst hr
  cases sp
  exact ⟨_,rfl,qq done (by rw [hps]; simp) p us H' hp s1 hpu hru⟩
inductive RTr (H:Hp):V->Tr->Prop where
 | word {a:Addr}{q:List Nat}:H a = some (.tup [.str "word",.str ⟨q.toArray⟩])->RTr H (.ref a) (.word q)
 | txt {a:Addr}{q:List Nat}:H a = some (.tup [.str "text",.str ⟨q.toArray⟩])->RTr H (.ref a) (.txt q)
 | lst {a b:Addr}{vs:List V}{ts:List Tr}:H a = some (.tup [.str "list",.ref b])->H b = some (.tup vs)->vs.length = ts.length->(∀ (i:Nat) (v:V) (t:Tr),vs[i]? = some v->ts[i]? = some t->RTr H v t)->RTr H (.ref a) (.lst ts)
theorem RTr.mono {H H':Hp} (t:Tups H H') {v:V}{x:Tr} (h:RTr H v x):RTr H' v x:=by
 induction h with
 | word e=>exact .word (t _ _ e)
 | txt e=>exact .txt (t _ _ e)
 | lst e e2 l _ ih=>exact .lst (t _ _ e) (t _ _ e2) l ih
structure RTrs (H:Hp) (vs:List V) (ts:List Tr):Prop where
 len:vs.length = ts.length
 at':∀ (i:Nat) (v:V) (t:Tr),vs[i]? = some v->ts[i]? = some t->RTr H v t
theorem RTrs.mono {H H':Hp} (t:Tups H H') {vs:List V}{ts:List Tr} (h:RTrs H vs ts):RTrs H' vs ts:=⟨h.len,fun i v p a b=>(h.at' i v p a b).mono t⟩
theorem RTrs.nil {H:Hp}:RTrs H [] []:=⟨rfl,fun i v p a=>by simp at a⟩
theorem RTrs.snoc {H:Hp}{vs:List V}{ts:List Tr}{v:V}{t:Tr} (h:RTrs H vs ts) (x:RTr H v t):RTrs H (vs ++ [v]) (ts ++ [t]):=by
 refine ⟨by simp [h.len],fun i u q a b=>?_⟩
 by_cases hi:i < vs.length
 ·rw [List.getElem?_append_left hi] at a
  rw [List.getElem?_append_left (by rw [← h.len]; exact hi)] at b
  exact h.at' i u q a b
 ·rw [List.getElem?_append_right (by omega)] at a
  rw [List.getElem?_append_right (by rw [← h.len]; omega)] at b
  rw [← h.len] at b
  cases hk:i - vs.length with
  | zero=>
   rw [hk] at a b
   have a1:v = u:=by simpa using a
   have b1:t = q:=by simpa using b
   rw [← a1,← b1]
   exact x
  | succ n=>rw [hk] at a; simp at a
inductive Lv (H0 H:Hp):List Addr->List (List Tr)->Prop where
 | nil:Lv H0 H [] []
 | cons {a:Addr}{as:List Addr}{vs:List V}{ts:List Tr}{st:List (List Tr)}:H0 a = none->H a = some (.lst vs)->RTrs H vs ts->a ∉ as->Lv H0 H as st->Lv H0 H (a :: as) (ts :: st)
theorem Lv.len {H0 H:Hp}{as:List Addr}{st:List (List Tr)} (h:Lv H0 H as st):as.length = st.length:=by
 induction h with
 | nil=>rfl
 | cons _ _ _ _ _ ih=>simp [ih]
theorem Lv.mono {H0 H H':Hp}{as:List Addr}{st:List (List Tr)} (h:Lv H0 H as st) (t:Tups H H') (k:∀ a∈as,H' a = H a):Lv H0 H' as st:=by
 induction h with
 | nil=>exact .nil
 | cons h0 e r n _ ih=>exact .cons h0 (by rw [k _ List.mem_cons_self]; exact e) (r.mono t) n (ih fun a ha=>k a (List.mem_cons_of_mem _ ha))
theorem Lv.some {H0 H:Hp}{as:List Addr}{st:List (List Tr)} (h:Lv H0 H as st):∀ a∈as,H0 a = none/\∃ vs,H a = some (.lst vs):=by
 induction h with
 | nil=>intro a ha; cases ha
 | cons h0 e _ _ _ ih=>
  intro a ha
  rcases List.mem_cons.mp ha with rfl | ha
  ·exact ⟨h0,_,e⟩
  ·exact ih a ha
def trsO (ps:List Pc):Option (List Tr):=match run ps [[]] with
 | some [ts]=>some ts
 | _=>none
def oneO (ts:List Tr):Option Tr:=match ts with
 | [x]=>some x
 | _=>none
def zgc (AN:Addr):Sp:=fun vs H Q E=>∃ (t:Str) (O:Option (List Pc)),vs = [.str t]/\SpellO t.cps.toList O/\t.length<=100000/\(∀ ts,O.bind trsO = some ts->∀ (p:Addr) (us:List V) (H':Hp),Same H H'->H' p = some (.lst us)->RTrs H' us ts->Q (.ref p) H')/\(O.bind trsO = none->∀ H',Same H H'->E (.ref AN) none H')
def zjn (AN:Addr):Sp:=fun vs H Q E=>∃ (t:Str) (O:Option (List Pc)),vs = [.str t]/\SpellO t.cps.toList O/\t.length<=100000/\(∀ x,(O.bind trsO).bind oneO = some x->∀ (v:V) (H':Hp),Same H H'->RTr H' v x->Q v H')/\((O.bind trsO).bind oneO = none->∀ H',Same H H'->E (.ref AN) none H')
def wide (st:List (List Tr)):Nat:=(st.map (·.length)).sum
def TInv (H:Hp) (ps:List Pc) (R:Option (List (List Tr))) (p L:Addr) (t:Str) (us:List V) (i:Nat) (σ:St) (H':Hp):Prop:=∃ (as:List Addr) (st:List (List Tr)) (o1 o2:Option V),
 σ = [some (.str t),some (.ref L),o1,o2]/\H L = none/\H' L = some (.lst (as.reverse.map V.ref))/\L ∉ as/\Lv H H' as st/\run (ps.drop i) st = R/\st≠[]/\st.length<=100/\wide st<=i/\H' p = some (.lst us)/\p ∉ as/\p≠L/\RPs H' us ps/\Same H H'
theorem zeq {α:Type}{l:List α}{i:Nat}{x:α} (h:l[i]? = some x):l.drop i = x :: l.drop (i + 1):=by
 obtain ⟨hi,e⟩:=List.getElem?_eq_some_iff.mp h
 rw [List.drop_eq_getElem_cons hi,e]
theorem zhY:Str.ofString "(" = ⟨#[40]⟩:=by decide +kernel
theorem zhZ:Str.ofString ")" = ⟨#[41]⟩:=by decide +kernel
theorem zer (as:List Addr) (a:Addr):atI ((a :: as).reverse.map V.ref) (-1) = some (.ref a):=by
 rw [List.reverse_cons,List.map_append]
 exact zj7 _ _
theorem zes {H0 H':Hp}{ps:List Pc}{R:Option (List (List Tr))}{p L a:Addr}{t:Str}{us vs:List V}{as:List Addr}{tr:List Tr}{st:List (List Tr)}{v:V}{x:Tr}{i:Nat}{o1 o2:Option V}
  (hL:H0 L = none) (eL:H' L = some (.lst ((a :: as).reverse.map V.ref))) (nL:L ∉ a :: as) (h0:H0 a = none) (ea:H' a = some (.lst vs)) (ra:RTrs H' vs tr) (na:a ∉ as) (lv:Lv H0 H' as st)
  (hrun:run (ps.drop (i + 1)) ((tr ++ [x]) :: st) = R) (hst:st.length + 1<=100) (hw:wide (tr :: st)<=i) (ep:H' p = some (.lst us)) (np:p ∉ a :: as) (pL:p≠L) (rp:RPs H' us ps) (s1:Same H0 H') (rx:RTr H' v x):
  TInv H0 ps R p L t us (i + 1) [some (.str t),some (.ref L),o1,o2] (upd H' a (.lst (vs ++ [v]))):=by
 have tp:Tups H' (upd H' a (.lst (vs ++ [v]))):=Z6 ea
 have ne:∀ {b:Addr},b ∉ a :: as->b≠a:=fun hb z=>hb (z ▸ List.mem_cons_self)
 refine ⟨a :: as,(tr ++ [x]) :: st,o1,o2,rfl,hL,by rw [zu (ne nL)]; exact eL,nL,.cons h0 zd ((ra.mono tp).snoc (rx.mono tp)) na (lv.mono tp fun b hb=>zu fun z=>na (z ▸ hb)),hrun,by simp,by simpa using hst,?_,by rw [zu (ne np)]; exact ep,np,pL,rp.mono tp,zci h0 s1⟩
 simp only [wide,List.map_cons,List.sum_cons,List.length_append,List.length_singleton] at hw ⊢
 omega
theorem za2:FnScope ["text","levels","piece","inner"] ["text"] (zl zbw):=⟨rfl,rfl,rfl,by decide +kernel,rfl,by decide +kernel,by decide +kernel⟩
theorem zgd (F:Fun K "trees_of" "trees_of" zbw f fd) (G_pieces_of:Zy P w K mg base "pieces_of" k ["text"] (zep zN)) (m_len:mg "len" = none) (m_tuple:mg "tuple" = none) (m_MOST_BRACKETS:∃ t,mg "MOST_BRACKETS" = some (.int 100 t)) (x_NoText:excIn K zN vErr "ValueError.__new__" = true) (c_NoText:mg "NoText" = some (.ref zN)):FnOk P w K mg base (CX1 P w) (k + 1) f fd ["text"] (zgc zN):=by
 refine F.okX za2 (fun vs H Q E h=>?_) (fun cdv A outer s H vs Q E hr h=>?_)
 ·obtain ⟨t,O,rfl,_⟩:=h
  rfl
 obtain ⟨t,O,rfl,hs,hz,qq,qe⟩:=h
 refine ⟨_,(zb (zn (i:=1) za2.nd rfl (Or.inl rfl) (zx (za (zx zc) zc)))
  (zb (zaC zm6 rfl (zay (ZW G_pieces_of hr zaf rfl (za (pv 0) zc))) (zZ (i:=2) za2.nd rfl (Or.inl rfl)) (zg (zB (zj zS (zy zF (pv 2) zf (fun _ _=>rfl)) ze (nomark _)) (zb (ZB (zaE PySem.F.plainAttrs_list PySem.F.slot_list_append PySem.F.type_list_append ZR (pv 1) (za (zx zc) zc)))
  (zg (zB (zj zcy (zk zz rfl m_len PySem.boot_len (za (pv 1) zc)) (Zo rfl m_MOST_BRACKETS) (nomark _)) (zg (Zz zaf rfl x_NoText c_NoText rfl (za ze zc))) zq))) (zg (zB (zj zS (zy zF (pv 2) zf (fun _ _=>rfl)) ze (nomark _)) (zb (zB (zj zS (zk zz rfl m_len PySem.boot_len (za (pv 1) zc)) zf (nomark _)) (zg (Zz zaf rfl x_NoText c_NoText rfl (za ze zc))) zq)
  (zb (zn (i:=3) za2.nd rfl (Or.inl rfl) (zcZ PySem.F.plainAttrs_list PySem.F.slot_list_pop PySem.F.type_list_pop zis (pv 1)))
  (zg (ZB (zaE PySem.F.plainAttrs_list PySem.F.slot_list_append PySem.F.type_list_append ZR (zy zQ (pv 1) (zhq zgp zf) (fun _ _=>rfl)) (za (zP (za ze (za (zC Zw rfl m_tuple Za (za (pv 3) zc)) zc))) zc)))))) (zg (ZB (zaE PySem.F.plainAttrs_list PySem.F.slot_list_append PySem.F.type_list_append ZR (zy zQ (pv 1) (zhq zgp zf) (fun _ _=>rfl)) (za (pv 2) zc)))))))))
  (zb (zB (zj zcy (zk zz rfl m_len PySem.boot_len (za (pv 1) zc)) zf (nomark _)) (zg (Zz zaf rfl x_NoText c_NoText rfl (za ze zc))) zq)
  (zg (zo (zy zQ (pv 1) zf (fun _ _=>rfl))))))),?_⟩
 refine ⟨zl0,fun a ha=>⟨zl1,fun L hL=>?_⟩⟩
 have sA:=Same.new (o:=.lst []) ha
 have sL:=Same.new (o:=.lst [.ref a]) hL
 refine ⟨_,rfl,t,O,rfl,hs,hz,fun ps hO p us H1 hp s1 ep rp=>?_,fun hO H1 s1=>qe (by rw [hO]; rfl) _ ((sA.trans sL).trans s1)⟩
 have trs:O.bind trsO = trsO ps:=by rw [hO]; rfl
 rw [trs] at qq qe
 have hLa:L≠a:=fun z=>by
  rw [z,zd] at hL
  cases hL
 have hHL:H L = none:=by
  rw [zu hLa] at hL
  exact hL
 have hpL:p≠L:=fun z=>by rw [z,zd] at hp; cases hp
 have hpa:p≠a:=fun z=>by rw [z,zu (Ne.symm hLa),zd] at hp; cases hp
 have eL1:H1 L = some (.lst [.ref a]):=s1 _ _ zd
 have ea1:H1 a = some (.lst []):=s1 _ _ (sL _ _ zd)
 have sH1:Same H H1:=(sA.trans sL).trans s1
 have hbig:ps.length<=100000:=by
  have:=hs.len ps hO
  rw [zt] at this
  omega
 refine ⟨p,rfl,⟨_,SqL.of ep⟩,zdV (xs:=us) (TInv H ps (run ps [[]]) p L t us)
  ⟨[a],[[]],none,none,rfl,hHL,eL1,by simp [hLa],.cons ha ea1 RTrs.nil (by simp) .nil,by simp,by simp,by simp,by simp [wide],ep,by simp [hpa],hpL,rp,sH1⟩
  (fun i σ' H' _ h=>by obtain ⟨as,st,o1,o2,_,_,_,_,_,_,_,_,_,e,_⟩:=h; exact SqL.of e) (fun i x σ' H' hx h=>?_) (fun σ' H' h=>?_)⟩
 ·obtain ⟨as,st,o1,o2,rfl,_,eL,nL,lv,hr2,hst,hst2,hw,ep2,np,_,rp2,s2⟩:=h
  have hi:i < us.length:=(List.getElem?_eq_some_iff.mp hx).1
  have hi2:i < ps.length:=by rw [← rp2.len]; exact hi
  have hq:ps[i]? = some ps[i]:=List.getElem?_eq_getElem hi2
  obtain ⟨b,rfl,eb⟩:=rp2.at' i x _ hx hq
  rw [zeq hq] at hr2
  dsimp only [ZI]
  have hwl:∀ {tr:List Tr}{rest:List (List Tr)}{vs:List V},wide (tr :: rest)<=i->vs.length = tr.length->vs.length < sizeLine:=fun {tr rest vs} h1 h2=>by
   simp only [wide,List.map_cons,List.sum_cons] at h1
   exact Nat.lt_of_le_of_lt (show vs.length<=100000 by omega) (by decide)
  cases hpc:ps[i] with
  | op=>
   rw [hpc] at eb hr2
   refine ⟨_,rfl,b,_,0,_,rfl,rfl,SqT.of eb,rfl,rfl,_,rfl,?_⟩
   rw [zhY,decide_eq_true rfl]
   refine iteT ⟨_,rfl,.inl ⟨rfl,_,SqL.of eL⟩,zl0,fun c hc=>?_⟩
   have cL:L≠c:=zr eL hc
   have nas:c ∉ as:=fun z=>by
    obtain ⟨_,vs,e⟩:=lv.some c z
    rw [hc] at e; cases e
   have hHc:H c = none:=by
    cases e:H c with
    | none=>rfl
    | some o=>rw [s2 _ _ e] at hc; cases hc
   have cp:p≠c:=zr ep2 hc
   have eL2:upd H' c (.lst []) L = some (.lst (as.reverse.map V.ref)):=by rw [zu cL]; exact eL
   refine ⟨L,_,.ref c,rfl,rfl,eL2,Nat.lt_of_le_of_lt (show (as.reverse.map V.ref).length<=100000 by simp; have:=lv.len; omega) (by decide),?_⟩
   have t1:Tups H' (upd H' c (.lst [])):=zdZ hc
   have t2:Tups (upd H' c (.lst [])) (upd (upd H' c (.lst [])) L (.lst (as.reverse.map V.ref ++ [.ref c]))):=Z6 eL2
   refine ⟨_,rfl,_,_,rfl,.inl ⟨_,SqL.of zd,rfl⟩,_,_,rfl,rfl,_,rfl,?_⟩
   have hlen:((as.reverse.map V.ref ++ [V.ref c]).length:Nat) = st.length + 1:=by simp [lv.len]
   rw [hlen]
   by_cases hlt:st.length < 100
   rotate_left
   ·simp only [run,if_neg hlt] at hr2
    rw [decide_eq_true (by omega)]
    exact iteT ⟨zl1,qe (by unfold trsO; rw [← hr2]) _ (zci hHL (s2.trans (Same.new hc)))⟩
   simp only [run,if_pos hlt] at hr2
   rw [decide_eq_false (by omega)]
   refine iteF ⟨c :: as,[] :: st,_,_,rfl,hHL,?_,?_,.cons hHc ?_ RTrs.nil nas (lv.mono (fun a vs e=>t2 a vs (t1 a vs e)) fun z hz=>?_),hr2,by simp,(by simp; omega),?_,?_,?_,hpL,(rp2.mono t1).mono t2,zci hHL (s2.trans (Same.new hc))⟩
   ·rw [zd]; simp
   ·intro z
    rcases List.mem_cons.mp z with z | z
    ·exact cL z
    ·exact nL z
   ·rw [zu (Ne.symm cL),zd]
   ·rw [zu (show z≠L from fun e=>nL (by rw [← e]; exact hz)),zu (show z≠c from fun e=>nas (by rw [← e]; exact hz))]
   ·simp only [wide,List.map_cons,List.sum_cons,List.length_nil] at hw ⊢
    omega
   ·rw [zu hpL,zu cp]; exact ep2
   ·intro z
    rcases List.mem_cons.mp z with z | z
    ·exact cp z
    ·exact np z
  | cl=>
   rw [hpc] at eb hr2
   refine ⟨_,rfl,b,_,0,_,rfl,rfl,SqT.of eb,rfl,rfl,_,rfl,?_⟩
   rw [zhY,decide_eq_false (by intro z; exact absurd (by simpa using z:(⟨#[41]⟩:Str) = ⟨#[40]⟩) (by decide))]
   refine iteF ⟨_,rfl,b,_,0,_,rfl,rfl,SqT.of eb,rfl,rfl,_,rfl,?_⟩
   rw [zhZ,decide_eq_true rfl]
   cases lv with
   | nil=>exact absurd rfl hst
   | @cons a1 as1 vs1 tr1 st1 h0 ea ra na lv1=>
   cases lv1 with
   | nil=>
    simp only [run] at hr2
    refine iteT ⟨_,rfl,_,_,rfl,.inl ⟨_,SqL.of eL,rfl⟩,rfl,_,rfl,?_⟩
    rw [show (((([a1]:List Addr).reverse.map V.ref).length:Nat):Int) = 1 by simp,decide_eq_true rfl]
    exact iteT ⟨zl1,qe (by unfold trsO; rw [← hr2]) _ s2⟩
   | @cons a2 as2 vs2 tr2 st2 h02 ea2 ra2 na2 lv2=>
   simp only [run] at hr2
   have hlen:(((a1 :: a2 :: as2).reverse.map V.ref).length:Nat) = as2.length + 2:=by simp
   refine iteT ⟨_,rfl,_,_,rfl,.inl ⟨_,SqL.of eL,rfl⟩,rfl,_,rfl,?_⟩
   rw [hlen,decide_eq_false (fun z=>by injection z with z; omega)]
   have e12:a1≠a2:=fun z=>na (z ▸ List.mem_cons_self)
   have nL1:L≠a1:=fun z=>nL (z ▸ List.mem_cons_self)
   have nL2:L≠a2:=fun z=>nL (z ▸ List.mem_cons_of_mem _ List.mem_cons_self)
   refine iteF ⟨_,rfl,.inl ⟨rfl,_,SqL.of eL⟩,L,_,.ref a1,rfl,rfl,eL,?_,?_⟩
   ·simp
   have hdl:((a1 :: a2 :: as2).reverse.map V.ref).dropLast = (a2 :: as2).reverse.map V.ref:=by
    rw [List.reverse_cons,List.map_append]
    simp
   rw [hdl]
   have t1:Tups H' (upd H' L (.lst ((a2 :: as2).reverse.map V.ref))):=Z6 eL
   have ea2':upd H' L (.lst ((a2 :: as2).reverse.map V.ref)) a2 = some (.lst vs2):=by rw [zu (Ne.symm nL2)]; exact ea2
   have ea1':upd H' L (.lst ((a2 :: as2).reverse.map V.ref)) a1 = some (.lst vs1):=by rw [zu (Ne.symm nL1)]; exact ea
   refine ⟨_,rfl,_,rfl,L,_,-1,_,rfl,rfl,SqL.of zd,zer as2 a2,.inl ⟨rfl,_,SqL.of ea2'⟩,_,rfl,a1,vs1,rfl,.inl ⟨SqL.of ea1',fun c hc=>?_⟩⟩
   refine ⟨zl2,fun d hd=>?_⟩
   have s3:=Same.new (o:=.tup vs1) hc
   have s4:=Same.new (o:=.tup [.str "list",.ref c]) hd
   have s34:=s3.trans s4
   have t34:Tups H' _:=fun x vs e=>s34 _ _ (t1 x vs e)
   have hvs2:vs2.length < sizeLine:=by
    rw [ra2.len]
    simp only [wide,List.map_cons,List.sum_cons] at hw
    exact Nat.lt_of_le_of_lt (show tr2.length<=100000 by omega) (by decide)
   refine ⟨a2,vs2,.ref d,rfl,rfl,s34 _ _ ea2',hvs2,?_⟩
   have hlv2:Lv H _ as2 st2:=lv2.mono t34 fun z hz=>by
    obtain ⟨_,vz,ez⟩:=lv2.some z hz
    have zL:z≠L:=fun e=>nL (e ▸ List.mem_cons_of_mem _ (List.mem_cons_of_mem _ hz))
    rw [s34 _ _ (show upd H' L (.lst ((a2 :: as2).reverse.map V.ref)) z = some (.lst vz) by rw [zu zL]; exact ez),ez]
   refine zes hHL (s34 _ _ zd) (fun z=>nL (List.mem_cons_of_mem _ z)) h02 (s34 _ _ ea2') (ra2.mono t34) na2 hlv2 hr2 ?_ ?_ (s34 _ _ (by rw [zu hpL]; exact ep2)) (fun z=>np (List.mem_cons_of_mem _ z)) hpL (rp2.mono t34) ((zci hHL s2).trans s34) (.lst (b:=c) (vs:=vs1) zd ?_ ?_ ?_)
   ·simp at hst2; omega
   ·simp only [wide,List.map_cons,List.sum_cons] at hw ⊢
    omega
   ·exact s4 _ _ zd
   ·exact ra.len
   ·exact fun j v x e1 e2=>(ra.at' j v x e1 e2).mono t34
  | txt q=>
   rw [hpc] at eb hr2
   refine ⟨_,rfl,b,_,0,_,rfl,rfl,SqT.of eb,rfl,rfl,_,rfl,?_⟩
   rw [zhY,decide_eq_false (by intro z; exact absurd (by simpa using z:(Str.ofString "text") = ⟨#[40]⟩) (by decide +kernel))]
   refine iteF ⟨_,rfl,b,_,0,_,rfl,rfl,SqT.of eb,rfl,rfl,_,rfl,?_⟩
   rw [zhZ,decide_eq_false (by intro z; exact absurd (by simpa using z:(Str.ofString "text") = ⟨#[41]⟩) (by decide +kernel))]
   cases lv with
   | nil=>exact absurd rfl hst
   | @cons a1 as1 vs1 tr1 st1 h0 ea ra na lv1=>
   simp only [run] at hr2
   refine iteF ⟨_,rfl,_,rfl,L,_,-1,_,rfl,rfl,SqL.of eL,zer as1 a1,.inl ⟨rfl,_,SqL.of ea⟩,_,rfl,a1,vs1,.ref b,rfl,rfl,ea,hwl hw ra.len,?_⟩
   exact zes hHL eL nL h0 ea ra na lv1 hr2 (by simpa using hst2) hw ep2 np hpL rp2 s2 (.txt eb)
  | word q=>
   rw [hpc] at eb hr2
   refine ⟨_,rfl,b,_,0,_,rfl,rfl,SqT.of eb,rfl,rfl,_,rfl,?_⟩
   rw [zhY,decide_eq_false (by intro z; exact absurd (by simpa using z:(Str.ofString "word") = ⟨#[40]⟩) (by decide +kernel))]
   refine iteF ⟨_,rfl,b,_,0,_,rfl,rfl,SqT.of eb,rfl,rfl,_,rfl,?_⟩
   rw [zhZ,decide_eq_false (by intro z; exact absurd (by simpa using z:(Str.ofString "word") = ⟨#[41]⟩) (by decide +kernel))]
   cases lv with
   | nil=>exact absurd rfl hst
   | @cons a1 as1 vs1 tr1 st1 h0 ea ra na lv1=>
   simp only [run] at hr2
   refine iteF ⟨_,rfl,_,rfl,L,_,-1,_,rfl,rfl,SqL.of eL,zer as1 a1,.inl ⟨rfl,_,SqL.of ea⟩,_,rfl,a1,vs1,.ref b,rfl,rfl,ea,hwl hw ra.len,?_⟩
   exact zes hHL eL nL h0 ea ra na lv1 hr2 (by simpa using hst2) hw ep2 np hpL rp2 s2 (.word eb)
 ·obtain ⟨as,st,o1,o2,rfl,_,eL,nL,lv,hr2,hst,hst2,hw,ep2,np,_,rp2,s2⟩:=h
  rw [rp2.len,List.drop_length] at hr2
  simp only [run] at hr2
  cases lv with
  | nil=>exact absurd rfl hst
  | @cons a1 as1 vs1 tr1 st1 h0 ea ra na lv1=>
  cases lv1 with
  | nil=>
   refine ⟨_,rfl,_,_,rfl,.inl ⟨_,SqL.of eL,rfl⟩,_,_,rfl,rfl,_,rfl,iteF ?_⟩
   exact ⟨_,rfl,L,_,0,_,rfl,rfl,SqL.of eL,rfl,qq tr1 (by unfold trsO; rw [← hr2]) a1 vs1 H' s2 ea ra⟩
  | @cons a2 as2 vs2 tr2 st2 h02 ea2 ra2 na2 lv2=>
   refine ⟨_,rfl,_,_,rfl,.inl ⟨_,SqL.of eL,rfl⟩,_,_,rfl,rfl,_,rfl,?_⟩
   rw [show (((a1 :: a2 :: as2).reverse.map V.ref).length:Nat) = as2.length + 2 by simp,decide_eq_true (by omega)]
   exact iteT ⟨zl1,qe (by unfold trsO; rw [← hr2]) _ s2⟩
theorem zcx:FnScope ["text","trees"] ["text"] (zl zaR):=⟨rfl,rfl,rfl,by decide +kernel,rfl,by decide +kernel,by decide +kernel⟩
theorem zfs (F:Fun K "only_tree" "only_tree" zaR f fd) (G_trees_of:Zy P w K mg base "trees_of" k ["text"] (zgc zN)) (m_len:mg "len" = none) (x_NoText:excIn K zN vErr "ValueError.__new__" = true) (c_NoText:mg "NoText" = some (.ref zN)):FnOk P w K mg base (CX1 P w) (k + 1) f fd ["text"] (zjn zN):=by
 refine F.okX zcx (fun vs H Q E h=>?_) (fun cdv A outer s H vs Q E hr h=>?_)
 ·obtain ⟨t,O,rfl,_⟩:=h
  rfl
 obtain ⟨t,O,rfl,hs,hz,qq,qe⟩:=h
 refine ⟨_,(zb (zn (i:=1) zcx.nd rfl (Or.inl rfl) (ZW G_trees_of hr zaf rfl (za (pv 0) zc)))
  (zb (zB (zj zdz (zk zz rfl m_len PySem.boot_len (za (pv 1) zc)) zf (nomark _)) (zg (Zz zaf rfl x_NoText c_NoText rfl (za ze zc))) zq)
  (zg (zo (zy zQ (pv 1) zf (fun _ _=>rfl)))))),?_⟩
 refine ⟨_,rfl,t,O,rfl,hs,hz,fun ts hts p us H1 s1 ep rp=>?_,fun hn H1 s1=>qe (by rw [hn]; rfl) _ s1⟩
 rw [hts] at qq qe
 refine ⟨_,rfl,_,_,rfl,.inl ⟨_,SqL.of ep,rfl⟩,rfl,_,rfl,?_⟩
 have hl:=rp.len
 match us,ts,hl,rp,qq,qe,ep with
 | [v],[x],_,rp,qq,_,ep=>exact iteF ⟨_,rfl,p,_,0,_,rfl,rfl,SqL.of ep,rfl,qq x rfl v H1 s1 (rp.at' 0 v x rfl rfl)⟩
 | [],[],_,_,_,qe,ep=>exact iteT ⟨zl1,qe rfl _ s1⟩
 | v :: v2 :: us,x :: x2 :: ts,_,_,_,qe,ep=>
  rw [show (!decide (V.int (((v :: v2 :: us).length:Nat):Int) = V.int 1)) = true by
   rw [Bool.not_eq_true',decide_eq_false_iff_not]
   intro z
   injection z with z
   simp at z
   omega]
  exact iteT ⟨zl1,qe rfl _ s1⟩
theorem zkN (i:Int):(Str.ofString (toString i)).cps.toList = numC i:=by
 unfold numC
 by_cases h:0<=i
 ·rw [if_pos h]
  obtain ⟨m,rfl⟩:=Int.eq_ofNat_of_zero_le h
  rw [PySem.W.KIN.signs_num]
  rfl
 ·rw [if_neg h]
  obtain ⟨m,rfl⟩:∃ m:Nat,i = Int.negSucc m:=by
   cases i with
   | ofNat m=>exact absurd (Int.natCast_nonneg m) h
   | negSucc m=>exact ⟨m,rfl⟩
  rw [PyProof.Rows.signs_ofString]
  show ("-" ++ Nat.repr (m + 1)).toList.map Char.toNat = 45 :: digs (m + 1)
  rw [String.toList_append,List.map_append,Nat.toList_repr]
  rfl
theorem zg4 (i:Int):∀ c∈numC i,c = 45\/(48<=c/\c<=57):=by
 unfold numC
 intro c hc
 split at hc
 ·exact .inr (zbC _ c hc)
 ·rcases List.mem_cons.mp hc with rfl | hc
  ·exact .inl rfl
  ·exact .inr (zbC _ c hc)
theorem zjo (i:Int):numC i≠[]:=by
 unfold numC
 split
 ·exact zda _
 ·simp
theorem zet {i:Int} (h1:-(10 ^ 60) < i) (h2:i < 10 ^ 60):(numC i).length<=61:=by
 unfold numC
 split
 ·have:=zee 60 i.toNat (by decide) (by omega)
  omega
 ·have:=zee 60 i.natAbs (by decide) (by omega)
  rw [List.length_cons]
  omega
theorem zkO (i:Int):∀ c∈numC i,zab c = false:=fun c hc=>by
 have:=zg4 i c hc
 simp only [zab,Bool.or_eq_false_iff,beq_eq_false_iff_ne]
 omega
theorem zg5 (m:Nat):NumText.digitsVal (digs m) = m:=PySem.W.KIN.val_back m
theorem zeu {x:Str}{i:Int} (hx:x.cps.toList = numC i) (h1:-(10 ^ 60) < i) (h2:i < 10 ^ 60):intText? x = some i:=by
 have hl:x.length<=4300:=by
  rw [← zt,hx]
  have:=zet h1 h2
  omega
 by_cases h:0<=i
 ·have e:numC i = digs i.toNat:=by unfold numC; rw [if_pos h]
  rw [e] at hx
  have:=intText_digits (x:=x) (by rw [hx]; exact zbC _) (by rw [hx]; exact zda _) hl
  rw [hx,zg5] at this
  rw [this]
  congr 1
  omega
 ·have e:numC i = 45 :: digs i.natAbs:=by unfold numC; rw [if_neg h]
  rw [e] at hx
  have:=intText_neg (x:=x) hx (zbC _) (zda _) hl
  rw [zg5] at this
  rw [this]
  congr 1
  omega
mutual
theorem zft:∀ w:W,w.Ok->((shW numC w).length:Int) + 1<=64 * w.size
 | .num i,h=>by
  have:=zet h.1 h.2
  show ((numC i).length:Int) + 1<=64 * 1
  omega
 | .txt x,h=>by
  show (((34 :: (x.cps.toList ++ [34])).length:Nat):Int) + 1<=64 * (1 + (x.length:Int))
  rw [List.length_cons,List.length_append,zt]
  simp
  omega
 | .lst ws,h=>by
  have:=shs_len ws h.2
  show (((40 :: (shWs numC ws ++ [41])).length:Nat):Int) + 1<=64 * (1 + sizes ws)
  rw [List.length_cons,List.length_append]
  simp
  omega
theorem shs_len:∀ ws:List W,Oks ws->((shWs numC ws).length:Int)<=64 * sizes ws
 | [],_=>by simp [shWs,sizes]
 | [w],h=>by
  have:=zft w h.1
  simp only [shWs,sizes]
  omega
 | w :: v :: r,h=>by
  have h1:=zft w h.1
  have h2:=shs_len (v :: r) h.2
  show (((shW numC w ++ 32 :: shWs numC (v :: r)).length:Nat):Int)<=64 * (w.size + sizes (v :: r))
  rw [List.length_append,List.length_cons]
  omega
end
def zg6 (n:Nat):Sp:=fun vs H Q _=>∃ (v:V) (w:W),vs = [v]/\RW H v w/\w.Ok/\w.size<=1000/\w.depth < n/\∀ (x:Str) (H':Hp),x.cps.toList = shW numC w->Same H H'->Q (.str x) H'
theorem zev:∀ ws:List W,trWs numC ws = ws.map (trW numC)
 | []=>rfl
 | w :: r=>by simp only [trWs,List.map_cons,zev r]
theorem zg7 (ys:List Str):∀ ts:List Tr,ys.map (fun y=>y.cps.toList) = ts.map shT->(Txt.join (Str.ofString " ") ys).cps.toList = shTs ts:=by
 have fold:∀ (r:List Str) (acc:Array Nat),(r.foldl (fun acc p=>acc ++ (Str.ofString " ").cps ++ p.cps) acc).toList = acc.toList ++ (r.map fun y=>32 :: y.cps.toList).flatten:=fun r=>by
  induction r with
  | nil=>intro acc; simp
  | cons c r ih=>
   intro acc
   rw [List.foldl_cons,ih]
   have e0:(Str.ofString " ").cps.toList = [32]:=by decide +kernel
   simp [e0]
 cases ys with
 | nil=>
  intro ts h
  cases ts with
  | nil=>rw [shTs]; rfl
  | cons w r=>simp at h
 | cons y r=>
  intro ts h
  show (r.foldl (fun acc p=>acc ++ (Str.ofString " ").cps ++ p.cps) y.cps).toList = _
  rw [fold]
  have gen:∀ (r:List Str) (w:Tr) (vs:List Tr),r.map (fun y=>y.cps.toList) = vs.map shT->shT w ++ (r.map fun y=>32 :: y.cps.toList).flatten = shTs (w :: vs):=fun r=>by
   induction r with
   | nil=>
    intro w vs e
    cases vs with
    | nil=>simp [shTs]
    | cons v vs=>simp at e
   | cons z r ih=>
    intro w vs e
    cases vs with
    | nil=>simp at e
    | cons v vs=>
     have e1:z.cps.toList = shT v/\r.map (fun y=>y.cps.toList) = vs.map shT:=by simpa using e
     have:=ih v vs e1.2
     rw [shTs,← this,← e1.1]
     simp
  cases ts with
  | nil=>simp at h
  | cons w vs=>
   have e1:y.cps.toList = shT w/\r.map (fun y=>y.cps.toList) = vs.map shT:=by simpa using h
   rw [e1.1]
   exact gen r w vs e1.2
theorem zh0 (ys:List Str) (ws:List W) (h:ys.map (fun y=>y.cps.toList) = ws.map (shW numC)):(Txt.join (Str.ofString " ") ys).cps.toList = shWs numC ws:=by
 rw [← shTs_W]
 refine zg7 ys _ ?_
 rw [h,zev,List.map_map]
 exact List.map_congr_left fun w _=>(zff numC w).symm
theorem zjp {ws:List W}:∀ w∈ws,w.size<=sizes ws:=by
 induction ws with
 | nil=>intro w hw; cases hw
 | cons x r ih=>
  intro w hw
  have h1:=zgF x
  have h2:=sizes_nn r
  simp only [sizes]
  rcases List.mem_cons.mp hw with rfl | hw
  ·omega
  ·have:=ih w hw
   omega
theorem zmf (ys:List Str):∀ ws:List W,Oks ws->ys.map (fun y=>y.cps.toList) = ws.map (shW numC)->(((ys.map (·.length)).sum + ys.length:Nat):Int)<=64 * sizes ws:=by
 induction ys with
 | nil=>
  intro ws _ h
  cases ws with
  | nil=>simp [sizes]
  | cons w r=>simp at h
 | cons y r ih=>
  intro ws ok h
  cases ws with
  | nil=>simp at h
  | cons w vs=>
   have e1:y.cps.toList = shW numC w/\r.map (fun y=>y.cps.toList) = vs.map (shW numC):=by simpa using h
   have:=ih vs ok.2 e1.2
   have h2:=zft w ok.1
   rw [← e1.1,zt] at h2
   simp only [List.map_cons,List.sum_cons,List.length_cons,sizes]
   omega
theorem strOf (x:Str):x = ⟨x.cps.toList.toArray⟩:=by cases x; simp
theorem zew:FnScope ["worth"] ["worth"] (zl zat):=⟨rfl,rfl,rfl,by decide +kernel,rfl,by decide +kernel,by decide +kernel⟩
theorem zex {n:Nat} (F:Fun K "show_worth" "show_worth" zat f fd) (G_show_worth:Have P w K mg base "show_worth" k ["worth"] (zg6 n)) (m_isi:mg "isinstance" = none) (m_str:mg "str" = none) (m_tuple:mg "tuple" = none):FnOk P w K mg base CX0 (k + 1) f fd ["worth"] (zg6 (n + 1)):=by
 refine F.okQ zew (fun vs H Q E h=>?_) (fun cdv A outer s H vs Q E hr h=>?_)
 ·obtain ⟨v,x,rfl,_⟩:=h
  rfl
 obtain ⟨v,x,rfl,rx,ok,hsz,hd,q⟩:=h
 refine ⟨_,(zb (zB (zW (zk ZE rfl m_isi zT (za (pv 0) (za (zbe rfl m_tuple Za) zc)))) (zg (zo (zi zh (zi zh ze (zaE PySem.F.plainAttrs_str PySem.F.slot_str_join PySem.F.type_str_join zd3 ze (za (Zx [] [] rfl rfl (by decide +kernel) rfl (by decide +kernel) rfl (by decide +kernel) trivial rfl trivial (zcu (pv 0)) (fun C s H fp=>⟨Zj,(zw G_show_worth hr rfl (za (pv 0) zc))⟩)) zc))) ze))) zq)
  (zb (zB (zW (zk ZE rfl m_isi zT (za (pv 0) (za (zbe rfl m_str zaG) zc)))) (zg (zo (zi zh (zi zh ze (pv 0)) ze))) zq)
  (zg (zo (zC zeR rfl m_str zaG (za (pv 0) zc)))))),?_⟩
 cases rx with
 | num i=>
  refine ⟨_,rfl,_,_,_,_,rfl,.int i,zgs,_,rfl,iteF ⟨_,rfl,_,_,_,_,rfl,.int i,zgv,_,rfl,iteF ?_⟩⟩
  have hlog:i.natAbs.log2 < 1920:=by
   by_cases h0:i.natAbs = 0
   ·rw [h0]; decide
   ·have h1:=ok.1
    have h2:=ok.2
    have:=(Nat.log2_lt h0).mpr (show i.natAbs < 2 ^ 200 by
     have:(10:Int) ^ 60 < 2 ^ 200:=by decide
     omega)
    omega
  exact ⟨_,rfl,i,rfl,hlog,q _ _ (zkN i) (Same.refl _)⟩
 | txt x=>
  refine ⟨_,rfl,_,_,_,_,rfl,.str x,zgt,_,rfl,iteF ⟨_,rfl,_,_,_,_,rfl,.str x,ze4,_,rfl,iteT ?_⟩⟩
  have hx:x.length<=400:=ok.1
  have l1:(Str.ofString "\"").length = 1:=by decide +kernel
  refine ⟨_,rfl,_,_,rfl,rfl,small (by rw [l1]; omega),_,_,rfl,rfl,small (by rw [zD,l1]; omega),q _ _ ?_ (Same.refl _)⟩
  rw [Zf,Zf,zbI]
  simp [shW]
 | @lst a vs ws e l at'=>
  refine ⟨_,rfl,_,_,_,_,rfl,.tup e,ze3,_,rfl,iteT ?_⟩
  have hl60:ws.length<=60:=ok.1
  have hsz2:1 + sizes ws<=1000:=hsz
  have hd2:1 + depths ws < n + 1:=hd
  dsimp only [tRet,tOp,tC,tBM,zan,tNil]
  refine ⟨rfl,?_⟩
  refine ziy (ws.map fun w=>V.str ⟨(shW numC w).toArray⟩) (by rfl) (SqT.of e) (by rw [List.length_map,l]) (small (by omega)) (fun i v y H1 R hv hy s1 hR=>?_) (fun H1 D s1 hD=>?_)
  ·rw [List.getElem?_map] at hy
   obtain ⟨wi,hwi,rfl⟩:=Option.map_eq_some_iff.mp hy
   have hm:=List.mem_of_getElem? hwi
   have hdm:=zcm wi hm
   have hsm:=zjp wi hm
   refine ⟨_,rfl,v,wi,rfl,(at' i v wi hv hwi).mono (Zu s1),zlD ok.2 wi hm,by omega,by omega,fun x H2 hx s2=>?_⟩
   rw [strOf x,hx]
   exact hR H2 s2
  ·have hmap:(ws.map fun w=>(⟨(shW numC w).toArray⟩:Str)).map (fun y=>y.cps.toList) = ws.map (shW numC):=by rw [List.map_map]; simp [Function.comp_def]
   have hb:=zmf _ ws ok.2 hmap
   have l1:(Str.ofString " ").length = 1:=by decide +kernel
   have hj:=zh0 _ ws hmap
   have hjl:((Txt.join (Str.ofString " ") (ws.map fun w=>(⟨(shW numC w).toArray⟩:Str))).length:Int)<=64000:=by
    rw [← zt,hj]
    have:=shs_len ws ok.2
    omega
   have la:(Str.ofString "(").length = 1:=by decide +kernel
   have lb:(Str.ofString ")").length = 1:=by decide +kernel
   refine ⟨Str.ofString " ",D,ws.map fun w=>(⟨(shW numC w).toArray⟩:Str),rfl,rfl,SqL.of ?_,?_,_,_,rfl,rfl,small (by rw [la]; omega),_,_,rfl,rfl,small (by rw [zD,la,lb]; omega),q _ _ ?_ (s1.trans (Same.new hD))⟩
   ·rw [zd,List.map_map]; rfl
   ·rw [l1,Nat.mul_one]; omega
   ·rw [Zf,Zf,hj,zhY,zhZ]
    simp [shW]
theorem zh1 (x:Str) (c:Nat):Txt.startswith x ⟨#[c]⟩ = decide (x.cps.toList[0]? = some c):=by
 unfold Txt.startswith
 rw [Bool.eq_iff_iff,Bool.and_eq_true,decide_eq_true_iff,decide_eq_true_iff]
 have e:=StrLaws.subAt_one x c 0
 constructor
 ·intro h
  have:=e.mp ⟨by simpa using h.1,h.2⟩
  simpa using this
 ·intro h
  have:=e.mpr (by simpa using h)
  exact ⟨by simpa using this.1,this.2⟩
theorem zkP:Str.ofString "-" = ⟨#[45]⟩:=by decide +kernel
theorem zfu:Str.ofString "0" = ⟨#[48]⟩:=by decide +kernel
theorem znh (c:Nat):decide (c∈zkD.cps.toList) = (decide (48<=c) && decide (c<=57)):=by
 rw [zhN,Bool.eq_iff_iff,decide_eq_true_iff,Bool.and_eq_true,decide_eq_true_iff,decide_eq_true_iff]
 simp
 omega
def zdF (c:Nat):Bool:=decide (48<=c) && decide (c<=57)
def figs (q:List Nat):List Nat:=if q[0]? = some 45 then q.drop 1 else q
def numB (q:List Nat):Bool:=decide (figs q≠[]) && (decide ((figs q).length<=60) && (!(decide ((figs q)[0]? = some 48) && decide (q≠[48])) && (figs q).all zdF))
def dval (l:List Nat):Nat:=l.foldl (fun a c=>10 * a + (c - 48)) 0
def valI (q:List Nat):Int:=if q[0]? = some 45 then -(dval (figs q):Int) else dval (figs q)
theorem zjq (l:List Nat) (c:Nat):dval (l ++ [c]) = 10 * dval l + (c - 48):=by unfold dval; rw [List.foldl_append]; rfl
theorem zh2 (l:List Nat):l = []\/∃ r c,l = r ++ [c]:=by
 rcases List.eq_nil_or_concat l with h | ⟨r,c,h⟩
 ·exact .inl h
 ·exact .inr ⟨r,c,by rw [h,List.concat_eq_append]⟩
theorem zmg:∀ (n:Nat) (l:List Nat),l.length = n->l≠[]->(∀ c∈l,48<=c/\c<=57)->l[0]?≠some 48->0 < dval l/\digs (dval l) = l/\dval l < 10 ^ n:=by
 intro n
 induction n with
 | zero=>intro l h h1; exact absurd (List.length_eq_zero_iff.mp h) h1
 | succ n ih=>
  intro l h h1 h2 h3
  rcases zh2 l with rfl | ⟨r,c,rfl⟩
  ·exact absurd rfl h1
  have hc:=h2 c (by simp)
  rw [List.length_append,List.length_singleton] at h
  rw [zjq]
  cases r with
  | nil=>
   have hc0:c≠48:=fun z=>h3 (by rw [z]; rfl)
   have e:dval [] = 0:=rfl
   rw [e]
   refine ⟨by omega,?_,?_⟩
   ·rw [zc8 (by omega)]
    simp
    omega
   ·rw [Nat.pow_succ]
    have:0 < 10 ^ n:=Nat.pow_pos (by decide)
    omega
  | cons d r=>
   obtain ⟨i1,i2,i3⟩:=ih (d :: r) (by omega) (by simp) (fun x hx=>h2 x (List.mem_append_left _ hx)) (by simpa using h3)
   refine ⟨by omega,?_,by rw [Nat.pow_succ]; omega⟩
   rw [zc9 (by omega),show (10 * dval (d :: r) + (c - 48)) / 10 = dval (d :: r) by omega,show 48 + (10 * dval (d :: r) + (c - 48)) % 10 = c by omega,i2]
theorem zg8 {q:List Nat} (h:numB q = true):q = numC (valI q)/\-(10 ^ 60) < valI q/\valI q < 10 ^ 60:=by
 unfold numB at h
 simp only [Bool.and_eq_true,decide_eq_true_eq,Bool.not_eq_true',List.all_eq_true,zdF] at h
 obtain ⟨h1,h2,h3,h4⟩:=h
 by_cases z:(figs q)[0]? = some 48
 ·have hq:q = [48]:=by
   rw [decide_eq_true z,Bool.true_and,decide_eq_false_iff_not,Decidable.not_not] at h3
   exact h3
  subst hq
  exact ⟨by decide +kernel,by decide,by decide⟩
 ·obtain ⟨d1,d2,d3⟩:=zmg _ (figs q) rfl h1 h4 z
  have d4:dval (figs q) < 10 ^ 60:=Nat.lt_of_lt_of_le d3 (Nat.pow_le_pow_right (by decide) h2)
  unfold valI numC
  by_cases e:q[0]? = some 45
  ·rw [if_pos e,if_neg (by omega),show (-(dval (figs q):Int)).natAbs = dval (figs q) by omega,d2]
   refine ⟨?_,by omega,by omega⟩
   unfold figs
   rw [if_pos e]
   cases q with
   | nil=>cases e
   | cons c r=>simp at e; rw [e]; rfl
  ·rw [if_neg e,if_pos (by omega),show ((dval (figs q):Int)).toNat = dval (figs q) by omega,d2]
   refine ⟨?_,by omega,by omega⟩
   unfold figs
   rw [if_neg e]
def zbS:Sp:=fun vs H Q _=>∃ x:Str,vs = [.str x]/\x.length<=100000/\∀ H',Same H H'->Q (.bl (numB x.cps.toList)) H'
def zey (AN:Addr):Sp:=fun vs H Q E=>∃ x:Str,vs = [.str x]/\x.length<=100000/\(numB x.cps.toList = true->∀ H',Same H H'->Q (.int (valI x.cps.toList)) H')/\(numB x.cps.toList = false->∀ H',Same H H'->E (.ref AN) none H')
theorem za6:FnScope ["word","figures"] ["word"] (zl ZT):=⟨rfl,rfl,rfl,by decide +kernel,rfl,by decide +kernel,by decide +kernel⟩
theorem zcE (F:Fun K "writes_number" "writes_number" ZT f fd) (m_all:mg "all" = none) (m_len:mg "len" = none) (m_MOST_FIGURES:∃ t,mg "MOST_FIGURES" = some (.int 60 t)) (m_FIGURES:∃ t,mg "FIGURES" = some (.str zkD t)):FnOk P w K mg base CX0 (k + 1) f fd ["word"] (zbS):=by
 refine F.okQ za6 (fun vs H Q E h=>?_) (fun cdv A outer s H vs Q E hr h=>?_)
 ·obtain ⟨x,rfl,_⟩:=h
  rfl
 obtain ⟨x,rfl,hxl,q⟩:=h
 refine ⟨_,(zb (zn (i:=1) za6.nd rfl (Or.inl rfl) (zap (zW (zaE PySem.F.plainAttrs_str PySem.F.slot_str_startswith PySem.F.type_str_startswith zi3 (pv 0) (za ze zc))) (Zg zaz (pv 0) (Ze zf) zae) (pv 0)))
  (zb (zB (PW.pt (zaK (zj zS (pv 1) ze (nomark _)) (zak (zj zcy (zk zz rfl m_len PySem.boot_len (za (pv 1) zc)) (Zo rfl m_MOST_FIGURES) (nomark _))))) (zg (zo zaJ)) zq)
  (zb (zB (PW.pt (zal (zj zS (zy zbY (pv 1) zf (fun _ _=>rfl)) ze (nomark _)) (ZH (zj zdz (pv 0) ze (nomark _))))) (zg (zo zaJ)) zq)
  (zg (zo (zk (Z2 rfl) rfl m_all zb1 (za (Zx [] [] rfl rfl (by decide +kernel) rfl (by decide +kernel) rfl (by decide +kernel) trivial rfl trivial (ze1 (pv 1)) (fun C s H fp=>⟨Zj,(zK zbb (pv 0) (zbA rfl m_FIGURES) (by rfl))⟩)) zc))))))),?_⟩
 refine seqI (fun σ' H'=>∃ y:Str,σ' = [some (.str x),some (.str y)]/\H' = H/\y.cps.toList = figs x.cps.toList) (fun σ' H' h=>?_) (fun tl=>?_)
 ·obtain ⟨y,rfl,rfl,hy⟩:=h
  have hyl:y.length<=100000:=by
   rw [← zt,hy]
   unfold figs
   split
   ·rw [List.length_drop,zt]; omega
   ·rw [zt]; omega
  unfold numB at q
  rw [← hy] at q
  refine ⟨_,rfl,rfl,_,rfl,?_⟩
  have no:∀ b:Bool,b = false->(∀ H2,Same H' H2->Q (.bl b) H2)->Q (.bl false) H':=fun b e h=>by rw [e] at h; exact h _ (Same.refl _)
  by_cases h1:y.cps.toList = []
  ·rw [decide_eq_true (by rw [strOf y,h1]; rfl)]
   exact iteT (iteT (no _ (by rw [h1]; rfl) q))
  rw [decide_eq_false (fun z=>h1 (by injection z with z; rw [z]; decide +kernel))]
  rw [decide_eq_true h1,Bool.true_and] at q
  refine iteF ⟨_,rfl,_,_,rfl,⟨small (by omega),rfl⟩,_,_,rfl,rfl,_,rfl,?_⟩
  rw [zt] at q
  by_cases h2:y.length<=60
  rotate_left
  ·rw [decide_eq_true (by omega)]
   exact iteT (no _ (by rw [decide_eq_false h2]; rfl) q)
  rw [decide_eq_false (by omega)]
  rw [decide_eq_true h2,Bool.true_and] at q
  refine iteF ?_
  obtain ⟨c,r,hcr⟩:∃ c r,y.cps.toList = c :: r:=by
   cases e:y.cps.toList with
   | nil=>exact absurd e h1
   | cons c r=>exact ⟨c,r,rfl⟩
  have hat:atI y.cps.toList 0 = some c:=by rw [hcr]; exact zM (j:=0) rfl
  have h0:y.cps.toList[0]? = some c:=by rw [hcr]; rfl
  rw [h0] at q
  dsimp only [zia]
  refine seqI (fun σ' H2=>σ' = [some (.str x),some (.str y)]/\H2 = H'/\∀ H3,Same H' H3->Q (.bl (y.cps.toList.all zdF)) H3) (fun σ' H2 h=>?_) (fun tl=>?_)
  ·obtain ⟨rfl,rfl,q⟩:=h
   dsimp only [tRet,tCB,zan,tNil]
   refine zfR (y.cps.toList.map fun c=>V.bl (zdF c)) (by rfl) (by rw [List.length_map]; simp) (small (by have:y.cps.size = y.length:=rfl; omega)) (fun i c y' H1 R hc' hy' s1 hR=>?_) (fun H1 D s1 hD=>?_)
   ·have hc2:y.cps.toList[i]? = some c:=by simpa using hc'
    rw [List.getElem?_map,hc2] at hy'
    cases hy'
    refine ⟨_,rfl,_,_,rfl,rfl,?_⟩
    rw [zcf,znh]
    exact hR _ (Same.refl _)
   ·refine ⟨D,y.cps.toList.map zdF,rfl,SqL.of ?_,?_⟩
    ·rw [zd,List.map_map]; rfl
    ·have e3:(y.cps.toList.map zdF).all id = y.cps.toList.all zdF:=by rw [List.all_map]; rfl
     rw [e3]
     exact q _ (s1.trans (Same.new hD))
  refine ⟨_,rfl,y,0,c,rfl,rfl,small (by omega),hat,rfl,_,rfl,?_⟩
  have e48:decide (V.str ⟨#[c]⟩ = V.str (Str.ofString "0")) = decide (c = 48):=by
   rw [Bool.eq_iff_iff,decide_eq_true_iff,decide_eq_true_iff,zfu]
   constructor
   ·intro h
    injection h with h
    injection h with h
    simpa using h
   ·rintro rfl
    rfl
  have ex48:decide (V.str x = V.str (Str.ofString "0")) = decide (x.cps.toList = [48]):=by
   rw [Bool.eq_iff_iff,decide_eq_true_iff,decide_eq_true_iff,zfu]
   constructor
   ·intro h
    injection h with h
    rw [h]
   ·intro h
    rw [strOf x,h]
  rw [e48]
  have ec:decide ((some c:Option Nat) = some 48) = decide (c = 48):=by simp
  rw [ec] at q
  by_cases hc:c = 48
  ·rw [decide_eq_true hc] at q ⊢
   refine iteT ⟨_,rfl,rfl,_,rfl,?_⟩
   rw [ex48]
   by_cases hx:x.cps.toList = [48]
   ·rw [decide_eq_true hx]
    rw [decide_eq_false (by rw [Decidable.not_not]; exact hx)] at q
    exact iteF (tl _ _ ⟨rfl,rfl,q⟩)
   ·rw [decide_eq_false hx]
    exact iteT (no _ (by rw [decide_eq_true hx]; rfl) q)
  ·rw [decide_eq_false hc] at q ⊢
   exact iteF (iteF (tl _ _ ⟨rfl,rfl,q⟩))
 ·refine ⟨_,rfl,rfl,x,_,rfl,rfl,_,rfl,?_⟩
  rw [zkP,zh1]
  by_cases h:x.cps.toList[0]? = some 45
  ·rw [decide_eq_true h]
   refine iteT ⟨_,rfl,_,rfl,x,rfl,by omega,tl _ _ ⟨_,rfl,rfl,?_⟩⟩
   have hl:1<=x.length:=by
    rw [← zt]
    exact (List.getElem?_eq_some_iff.mp h).1
   have:=zaZ (z:=x) (a:=1) hl
   unfold figs
   rw [if_pos h]
   simpa using this
  ·rw [decide_eq_false h]
   refine iteF ⟨_,rfl,tl _ _ ⟨x,rfl,rfl,?_⟩⟩
   unfold figs
   rw [if_neg h]
theorem zfv:FnScope ["word"] ["word"] (zl zaS):=⟨rfl,rfl,rfl,by decide +kernel,rfl,by decide +kernel,by decide +kernel⟩
theorem zfw (F:Fun K "number_of" "number_of" zaS f fd) (G_writes_number:Have P w K mg base "writes_number" k ["word"] (zbS)) (m_int:mg "int" = none) (x_NoText:excIn K zN vErr "ValueError.__new__" = true) (c_NoText:mg "NoText" = some (.ref zN)):FnOk P w K mg base (CX1 P w) (k + 1) f fd ["word"] (zey zN):=by
 refine F.okX zfv (fun vs H Q E h=>?_) (fun cdv A outer s H vs Q E hr h=>?_)
 ·obtain ⟨x,rfl,_⟩:=h
  rfl
 obtain ⟨x,rfl,hxl,q,qe⟩:=h
 refine ⟨_,(zb (zB (ZP (zW (zw G_writes_number hr rfl (za (pv 0) zc)))) (zg (Zz zaf rfl x_NoText c_NoText rfl (za ze zc))) zq)
  (zg (zo (zC zec rfl m_int Z9 (za (pv 0) zc))))),?_⟩
 refine ⟨_,rfl,x,rfl,hxl,fun H1 s1=>⟨_,rfl,?_⟩⟩
 cases hb:numB x.cps.toList with
 | false=>exact iteT ⟨zl1,qe hb _ s1⟩
 | true=>
  obtain ⟨h0,h1,h2⟩:=zg8 hb
  exact iteF ⟨_,rfl,x,valI x.cps.toList,rfl,zeu h0 h1 h2,(by rw [← zt,h0]; have:=zet h1 h2; omega),q hb H1 s1⟩
mutual
def worO:Tr->Option W
 | .word q=>if numB q = true then some (.num (valI q)) else none
 | .txt q=>some (.txt ⟨q.toArray⟩)
 | .lst ts=>(worOs ts).map .lst
def worOs:List Tr->Option (List W)
 | []=>some []
 | t :: r=>(worO t).bind fun w=>(worOs r).map (w :: ·)
end
theorem zbJ:∀ {ts:List Tr}{t:Tr},t∈ts->worO t = none->worOs ts = none
 | [],_,h,_=>by simp at h
 | x :: r,t,h,e=>by
  rw [worOs]
  rcases List.mem_cons.mp h with rfl | h
  ·rw [e]; rfl
  ·rw [zbJ h e]
   cases worO x <;> rfl
theorem zdR:∀ {ts:List Tr}{t:Tr}{ws:List W}{w:W},worOs ts = some ws->worO t = some w->worOs (ts ++ [t]) = some (ws ++ [w])
 | [],t,ws,w,h,e=>by
  rw [worOs] at h
  cases h
  rw [List.nil_append,worOs,e,worOs]
  rfl
 | x :: r,t,ws,w,h,e=>by
  rw [worOs] at h
  obtain ⟨y,hy,h⟩:=Option.bind_eq_some_iff.mp h
  obtain ⟨ys,hys,rfl⟩:=Option.map_eq_some_iff.mp h
  rw [List.cons_append,worOs,hy,zdR hys e]
  rfl
mutual
def Tr.Sz:Tr->Prop
 | .word q=>q.length<=100000
 | .txt q=>q.length<=100000
 | .lst ts=>ts.length<=100000/\TrSzs ts
def TrSzs:List Tr->Prop
 | []=>True
 | t :: r=>t.Sz/\TrSzs r
end
theorem zcj:∀ {ts:List Tr},TrSzs ts->∀ t∈ts,t.Sz
 | [],_,t,h=>by simp at h
 | x :: r,g,t,h=>by
  rw [TrSzs] at g
  rcases List.mem_cons.mp h with rfl | h
  ·exact g.1
  ·exact zcj g.2 t h
theorem zg9:∀ {ts:List Tr},(∀ t∈ts,t.Sz)->TrSzs ts
 | [],_=>by rw [TrSzs]; trivial
 | x :: r,h=>by rw [TrSzs]; exact ⟨h x (by simp),zg9 fun t ht=>h t (List.mem_cons_of_mem _ ht)⟩
theorem zdo:∀ {ts:List Tr}{ws:List W},worOs ts = some ws->ws.length = ts.length
 | [],ws,h=>by rw [worOs] at h; cases h; rfl
 | x :: r,ws,h=>by
  rw [worOs] at h
  obtain ⟨y,hy,h⟩:=Option.bind_eq_some_iff.mp h
  obtain ⟨ys,hys,rfl⟩:=Option.map_eq_some_iff.mp h
  rw [List.length_cons,List.length_cons,zdo hys]
mutual
theorem zlg:∀ (x:Tr) (w:W),x.Sz->worO x = some w->w.toT.Sm
 | .word q,w,h,e=>by
  rw [worO] at e
  split at e
  ·cases e; trivial
  ·cases e
 | .txt q,w,h,e=>by
  rw [worO] at e
  cases e
  rw [Tr.Sz] at h
  show (⟨q.toArray⟩:Str).length<=100000
  rw [← zt]
  exact h
 | .lst ts,w,h,e=>by
  rw [worO] at e
  obtain ⟨ws,hws,rfl⟩:=Option.map_eq_some_iff.mp e
  rw [Tr.Sz] at h
  exact ⟨by rw [zbz,zdo hws]; exact h.1,wors_sm ts ws h.2 hws⟩
theorem wors_sm:∀ (ts:List Tr) (ws:List W),TrSzs ts->worOs ts = some ws->Sms (toTs ws)
 | [],ws,_,e=>by rw [worOs] at e; cases e; trivial
 | x :: r,ws,h,e=>by
  rw [worOs] at e
  obtain ⟨y,hy,e⟩:=Option.bind_eq_some_iff.mp e
  obtain ⟨ys,hys,rfl⟩:=Option.map_eq_some_iff.mp e
  rw [TrSzs] at h
  exact ⟨zlg x y h.1 hy,wors_sm r ys h.2 hys⟩
end
def Pc.Sz:Pc->Prop
 | .txt q=>q.length<=100000
 | .word q=>q.length<=100000
 | _=>True
theorem SpellO.sz {r:List Nat}{o:Option (List Pc)} (h:SpellO r o):r.length<=100000->∀ ps,o = some ps->∀ p∈ps,p.Sz:=by
 induction h with
 | nil=>intro _ ps e p hp; cases e; simp at hp
 | gap _ _ ih=>intro hl; rw [List.length_cons] at hl; exact ih (by omega)
 | op _ ih=>
  intro hl ps e p hp; rw [List.length_cons] at hl
  obtain ⟨l,rfl,rfl⟩:=Option.map_eq_some_iff.mp e
  rcases List.mem_cons.mp hp with rfl | hp
  ·trivial
  ·exact ih (by omega) l rfl p hp
 | cl _ ih=>
  intro hl ps e p hp; rw [List.length_cons] at hl
  obtain ⟨l,rfl,rfl⟩:=Option.map_eq_some_iff.mp e
  rcases List.mem_cons.mp hp with rfl | hp
  ·trivial
  ·exact ih (by omega) l rfl p hp
 | txt _ _ ih=>
  intro hl ps e p hp; simp only [List.length_cons,List.length_append] at hl
  obtain ⟨l,rfl,rfl⟩:=Option.map_eq_some_iff.mp e
  rcases List.mem_cons.mp hp with rfl | hp
  ·show _<=_; omega
  ·exact ih (by omega) l rfl p hp
 | bad _=>intro _ ps e; cases e
 | word _ _ _ _ ih=>
  intro hl ps e p hp; simp only [List.length_cons,List.length_append] at hl
  obtain ⟨l,rfl,rfl⟩:=Option.map_eq_some_iff.mp e
  rcases List.mem_cons.mp hp with rfl | hp
  ·show _<=_; rw [List.length_cons]; omega
  ·exact ih (by omega) l rfl p hp
def StG:List (List Tr)->Prop
 | []=>True
 | t :: rest=>(∀ x∈t,x.Sz/\x.deep + (rest.length + 1)<=100)/\StG rest
theorem zcP:∀ {ts:List Tr}{m:Nat},(∀ x∈ts,x.deep<=m)->deeps ts<=m
 | [],m,_=>by rw [deeps]; omega
 | x :: r,m,h=>by
  have h1:=h x (by simp)
  have h2:=zcP (ts:=r) fun y hy=>h y (List.mem_cons_of_mem _ hy)
  rw [deeps]; omega
theorem zaI:∀ {ts:List Tr} (x:Tr),x∈ts->x.deep<=deeps ts
 | [],x,h=>by simp at h
 | y :: r,x,h=>by
  rw [deeps]
  rcases List.mem_cons.mp h with rfl | h
  ·omega
  ·have:=zaI x h; omega
theorem zjr:∀ (ps:List Pc) (st st':List (List Tr)),(∀ p∈ps,p.Sz)->StG st->st.length<=100->wide st + ps.length<=100000->run ps st = some st'->StG st'
 | [],st,st',_,g,_,_,h=>by rw [run] at h; cases h; exact g
 | .op :: ps,st,st',hp,g,hl,hw,h=>by
  rw [run] at h
  split at h
  ·rename_i hlt
   rw [List.length_cons] at hw
   exact zjr ps ([] :: st) st' (fun p hp'=>hp p (List.mem_cons_of_mem _ hp')) ⟨fun x hx=>by simp at hx,g⟩ (by rw [List.length_cons]; omega) (by simp only [wide,List.map_cons,List.sum_cons,List.length_nil] at hw ⊢; omega) h
  ·cases h
 | .cl :: ps,st,st',hp,g,hl,hw,h=>by
  match st with
  | []=>simp [run] at h
  | [t]=>simp [run] at h
  | t :: u :: rest=>
   rw [run] at h
   obtain ⟨g1,g2,g3⟩:=g
   simp only [List.length_cons] at hl hw g1
   simp only [wide,List.map_cons,List.sum_cons] at hw
   refine zjr ps ((u ++ [.lst t]) :: rest) st' (fun p hp'=>hp p (List.mem_cons_of_mem _ hp')) ⟨fun x hx=>?_,g3⟩ (by rw [List.length_cons]; omega) (by simp only [wide,List.map_cons,List.sum_cons,List.length_append,List.length_singleton] at hw ⊢; omega) h
   rcases List.mem_append.mp hx with hx | hx
   ·exact g2 x hx
   ·rw [List.mem_singleton.mp hx]
    refine ⟨?_,?_⟩
    ·rw [Tr.Sz]
     exact ⟨by omega,zg9 fun y hy=>(g1 y hy).1⟩
    ·rw [Tr.deep]
     have:deeps t<=100 - (rest.length + 1 + 1):=zcP fun y hy=>by have:=(g1 y hy).2; omega
     omega
 | .txt q :: ps,st,st',hp,g,hl,hw,h=>by
  match st with
  | []=>simp [run] at h
  | t :: rest=>
   rw [run] at h
   obtain ⟨g1,g3⟩:=g
   simp only [List.length_cons] at hl hw
   refine zjr ps ((t ++ [.txt q]) :: rest) st' (fun p hp'=>hp p (List.mem_cons_of_mem _ hp')) ⟨fun x hx=>?_,g3⟩ (by rw [List.length_cons]; omega) (by simp only [wide,List.map_cons,List.sum_cons,List.length_append,List.length_singleton] at hw ⊢; omega) h
   rcases List.mem_append.mp hx with hx | hx
   ·exact g1 x hx
   ·rw [List.mem_singleton.mp hx,Tr.Sz,Tr.deep]
    exact ⟨hp (.txt q) (by simp),by omega⟩
 | .word q :: ps,st,st',hp,g,hl,hw,h=>by
  match st with
  | []=>simp [run] at h
  | t :: rest=>
   rw [run] at h
   obtain ⟨g1,g3⟩:=g
   simp only [List.length_cons] at hl hw
   refine zjr ps ((t ++ [.word q]) :: rest) st' (fun p hp'=>hp p (List.mem_cons_of_mem _ hp')) ⟨fun x hx=>?_,g3⟩ (by rw [List.length_cons]; omega) (by simp only [wide,List.map_cons,List.sum_cons,List.length_append,List.length_singleton] at hw ⊢; omega) h
   rcases List.mem_append.mp hx with hx | hx
   ·exact g1 x hx
   ·rw [List.mem_singleton.mp hx,Tr.Sz,Tr.deep]
    exact ⟨hp (.word q) (by simp),by omega⟩
theorem zni {t:List Nat}{O:Option (List Pc)}{x:Tr} (h:SpellO t O) (hl:t.length<=100000) (e:(O.bind trsO).bind oneO = some x):x.Sz/\x.deep < 100:=by
 obtain ⟨ts,h1,h2⟩:=Option.bind_eq_some_iff.mp e
 obtain ⟨ps,rfl,h3⟩:=Option.bind_eq_some_iff.mp h1
 unfold trsO at h3
 split at h3
 ·rename_i ts' hr
  cases h3
  have hps:=h.len ps rfl
  have:=zjr ps [[]] [ts] (h.sz hl ps rfl) ⟨fun x hx=>(by simp at hx),trivial⟩ (by simp) (by simp [wide]; omega) hr
  unfold oneO at h2
  split at h2
  ·cases h2
   have:=this.1 x (by simp)
   exact ⟨this.1,by have:=this.2; simp at this; omega⟩
  ·cases h2
 ·cases h3
def zez (AN:Addr) (n:Nat):Sp:=fun vs H Q E=>∃ (v:V) (x:Tr),vs = [v]/\RTr H v x/\x.Sz/\x.deep < n/\(∀ w,worO x = some w->∀ (u:V) (H':Hp),Same H H'->RW H' u w->Q u H')/\(worO x = none->∀ H',Same H H'->E (.ref AN) none H')
theorem dWL:decide (V.str (Str.ofString "word") = V.str (Str.ofString "list")) = false:=by decide +kernel
theorem dTL:decide (V.str (Str.ofString "text") = V.str (Str.ofString "list")) = false:=by decide +kernel
theorem dWT:decide (V.str (Str.ofString "word") = V.str (Str.ofString "text")) = false:=by decide +kernel
theorem zcF:FnScope ["tree"] ["tree"] (zl ZU):=⟨rfl,rfl,rfl,by decide +kernel,rfl,by decide +kernel,by decide +kernel⟩
theorem zcG {n:Nat} (F:Fun K "worth_of_tree" "worth_of_tree" ZU f fd) (G_number_of:Zy P w K mg base "number_of" k ["word"] (zey zN)) (G_worth_of_tree:Zy P w K mg base "worth_of_tree" k ["tree"] (zez zN n)) (m_tuple:mg "tuple" = none):FnOk P w K mg base (CX1 P w) (k + 1) f fd ["tree"] (zez zN (n + 1)):=by
 refine F.okX zcF (fun vs H Q E h=>?_) (fun cdv A outer s H vs Q E hr h=>?_)
 ·obtain ⟨v,x,rfl,_⟩:=h
  rfl
 obtain ⟨v,x,rfl,rt,sz,hd,q,qe⟩:=h
 refine ⟨_,(zb (zB (zj zS (zy zF (pv 0) zf (fun _ _=>rfl)) ze (nomark _)) (zg (zo (zC Zw rfl m_tuple Za (za (zaF [] [] rfl rfl (by decide +kernel) rfl (by decide +kernel) rfl (by decide +kernel) trivial rfl trivial (zcu (zy zF (pv 0) zf (fun _ _=>rfl))) (fun C s H fp hI=>⟨Zj,(ZW G_worth_of_tree hr (zlQ zaf rfl ⟨_,rfl⟩ hI) rfl (za (pv 0) zc))⟩)) zc)))) zq)
  (zb (zB (zj zS (zy zF (pv 0) zf (fun _ _=>rfl)) ze (nomark _)) (zg (zo (zy zF (pv 0) zf (fun _ _=>rfl)))) zq)
  (zg (zo (ZW G_number_of hr zaf rfl (za (zy zF (pv 0) zf (fun _ _=>rfl)) zc)))))),?_⟩
 cases rt with
 | @word a z e=>
  rw [Tr.Sz] at sz
  refine ⟨_,rfl,a,_,0,_,rfl,rfl,SqT.of e,rfl,rfl,_,rfl,?_⟩
  rw [dWL]
  refine iteF ⟨_,rfl,a,_,0,_,rfl,rfl,SqT.of e,rfl,rfl,_,rfl,?_⟩
  rw [dWT]
  rw [worO] at q qe
  refine iteF ⟨_,rfl,a,_,1,_,rfl,rfl,SqT.of e,rfl,_,rfl,by rw [← zt]; exact sz,fun hb H1 s1=>q _ (by rw [if_pos hb]) _ _ s1 (.num _),fun hb H1 s1=>qe (by rw [if_neg (by rw [show numB z = false from hb]; decide)]) _ s1⟩
 | @txt a z e=>
  refine ⟨_,rfl,a,_,0,_,rfl,rfl,SqT.of e,rfl,rfl,_,rfl,?_⟩
  rw [dTL]
  refine iteF ⟨_,rfl,a,_,0,_,rfl,rfl,SqT.of e,rfl,rfl,_,rfl,?_⟩
  rw [decide_eq_true rfl]
  exact iteT ⟨_,rfl,a,_,1,_,rfl,rfl,SqT.of e,rfl,q _ (by rw [worO]) _ _ (Same.refl _) (.txt _)⟩
 | @lst a b vs ts e e2 l at'=>
  rw [Tr.Sz] at sz
  refine ⟨_,rfl,a,_,0,_,rfl,rfl,SqT.of e,rfl,rfl,_,rfl,?_⟩
  rw [decide_eq_true rfl]
  refine iteT ?_
  have hd2:1 + deeps ts < n + 1:=by rw [Tr.deep] at hd; omega
  rw [worO] at q qe
  dsimp only [tRet,tCB,zan,tNil]
  refine zkA (a:=b) (vs:=vs) (fun i us H1=>∃ ws,worOs (ts.take i) = some ws/\RWs H1 us ws/\i<=ts.length) (fun R h=>⟨_,rfl,a,_,1,_,rfl,rfl,SqT.of e,rfl,h⟩) (SqT.of e2) (small (by omega)) ⟨[],by rw [List.take_zero,worOs],⟨rfl,fun i v w e=>by simp at e⟩,Nat.zero_le _⟩ (fun i us H1 h=>by obtain ⟨ws,h1,h2,h3⟩:=h; rw [h2.len,zdo h1,List.length_take]; omega) (fun i v us H1 R hv h s1 hR=>?_) (fun us H1 D h s1 hD=>?_)
  ·obtain ⟨ws,h1,h2,h3⟩:=h
   have hi:i < ts.length:=by rw [← l]; exact (List.getElem?_eq_some_iff.mp hv).1
   have hw:ts[i]? = some ts[i]:=List.getElem?_eq_getElem hi
   have hm:=List.mem_of_getElem? hw
   have hdm:ts[i].deep<=deeps ts:=zaI ts[i] hm
   refine ⟨_,rfl,v,ts[i],rfl,(at' i v ts[i] hv hw).mono (Zu s1),zcj sz.2 _ hm,by omega,fun w hwo u H2 s2 ru=>hR u H2 s2 ⟨ws ++ [w],?_,(h2.mono (Zu s2)).snoc ru,hi⟩,fun hno H2 s2=>qe (by rw [zbJ hm hno]; rfl) _ (s1.trans s2)⟩
   rw [zV hw]
   exact zdR h1 hwo
  ·obtain ⟨ws,h1,h2,h3⟩:=h
   rw [l,List.take_length] at h1
   refine ⟨D,us,rfl,.inl ⟨SqL.of zd,fun t ht=>?_⟩⟩
   have s2:=(Same.new (o:=.lst us) hD).trans (Same.new (o:=.tup us) ht)
   exact q _ (by rw [h1]; rfl) _ _ (s1.trans s2) (.lst zd h2.len fun i v w x y=>(h2.at' i v w x y).mono (Zu s2))
def zjs:W->Bool
 | .lst _=>true
 | _=>false
def litW:List Nat:=(Str.ofString "lit").cps.toList
def nmT (z:Str):Tr:=.word z.cps.toList
mutual
def trR:Rl->Tr
 | .lit x=>if zjs x = true then .lst [.word litW,trW numC x] else trW numC x
 | .var s=>nmT s
 | .op d bs ps=>.lst (nmT (woS d) :: (bs.map nmT ++ trRs ps))
def trRs:List Rl->List Tr
 | []=>[]
 | p :: r=>trR p :: trRs r
end
theorem zdS {x:W} (h:zjs x = false):trR (.lit x) = trW numC x:=by rw [trR,h]; rfl
theorem zeA {x:W} (h:zjs x = true):trR (.lit x) = .lst [.word litW,trW numC x]:=by rw [trR,if_pos h]
theorem zeB:∀ ps:List Rl,trRs ps = ps.map trR
 | []=>by rw [trRs]; rfl
 | p :: r=>by rw [trRs,zeB r]; rfl
theorem zeC:∀ {ts:List Tr},(∀ t∈ts,t.Ok)->TrOks ts
 | [],_=>by rw [TrOks]; trivial
 | t :: r,h=>by rw [TrOks]; exact ⟨h t (by simp),zeC fun u hu=>h u (List.mem_cons_of_mem _ hu)⟩
mutual
theorem zjt:∀ w:W,w.Ok->(trW numC w).Ok
 | .num i,h=>by rw [trW,Tr.Ok]; exact ⟨zjo i,zkO i⟩
 | .txt x,h=>by rw [trW,Tr.Ok]; exact fun c hc=>(h.2 c hc).2.2.1
 | .lst ws,h=>by rw [trW,Tr.Ok]; exact trWs_ok ws h.2
theorem trWs_ok:∀ ws:List W,Oks ws->TrOks (trWs numC ws)
 | [],_=>by rw [trWs,TrOks]; trivial
 | w :: r,h=>by rw [trWs,TrOks]; exact ⟨zjt w h.1,trWs_ok r h.2⟩
end
theorem zmh {c:Nat} (h:97<=c/\c<=122):zab c = false:=by
 simp only [zab,Bool.or_eq_false_iff,beq_eq_false_iff_ne]
 omega
theorem Vr.tok {z:Str} (h:Vr z):(nmT z).Ok:=by
 unfold nmT
 rw [Tr.Ok]
 refine ⟨fun e=>?_,fun c hc=>zmh (h.2.2 c hc)⟩
 have h1:=h.1
 rw [← zt,e] at h1
 exact absurd h1 (by decide)
theorem zju (d:Wo):(nmT (woS d)).Ok:=by
 have h:∀ q:List Nat,q.isEmpty = false->(q.all fun c=>!zab c) = true->(Tr.word q).Ok:=fun q h1 h2=>by
  rw [Tr.Ok]
  refine ⟨fun e=>?_,fun c hc=>?_⟩
  ·rw [e] at h1
   cases h1
  ·have:=List.all_eq_true.mp h2 c hc
   simpa using this
 exact h _ (by cases d <;> decide +kernel) (by cases d <;> decide +kernel)
theorem zjv:(Tr.word litW).Ok:=zju .lit
mutual
theorem zha:∀ r:Rl,r.Gd->(trR r).Ok
 | .lit x,g=>by
  rw [Rl.Gd] at g
  rw [trR]
  split
  ·rw [Tr.Ok,TrOks,TrOks,TrOks]
   exact ⟨zjv,zjt x g.1,trivial⟩
  ·exact zjt x g.1
 | .var s,g=>by
  rw [Rl.Gd] at g
  rw [trR]
  exact Vr.tok g
 | .op d bs ps,g=>by
  rw [Rl.Gd] at g
  rw [trR,Tr.Ok,TrOks]
  refine ⟨zju d,zeC fun t ht=>?_⟩
  rcases List.mem_append.mp ht with ht | ht
  ·obtain ⟨z,hz,rfl⟩:=List.mem_map.mp ht
   exact Vr.tok (g.1.2.2.2.1 z hz)
  ·exact trRs_ok ps g.2 t ht
theorem trRs_ok:∀ ps:List Rl,Gds ps->∀ t∈trRs ps,t.Ok
 | [],_,t,ht=>by rw [trRs] at ht; cases ht
 | p :: r,g,t,ht=>by
  rw [Gds] at g
  rw [trRs] at ht
  rcases List.mem_cons.mp ht with rfl | ht
  ·exact zha p g.1
  ·exact trRs_ok r g.2 t ht
end
mutual
theorem zhb:∀ r:Rl,r.Gd->(trR r).deep<=r.high + 13
 | .lit x,g=>by
  rw [Rl.Gd] at g
  have h1:x.depth<=12:=g.2.2
  rw [trR]
  split
  ·rw [Tr.deep,deeps,deeps,deeps,Tr.deep,zi5]; omega
  ·rw [zi5]; omega
 | .var s,g=>by rw [trR,nmT,Tr.deep]; omega
 | .op d bs ps,g=>by
  rw [Rl.Gd] at g
  have h2:=trRs_deep ps g.2
  rw [trR,Tr.deep,deeps,Rl.high,nmT,Tr.deep]
  have:deeps (bs.map nmT ++ trRs ps)<=highs ps + 12:=zcP fun t ht=>by
   rcases List.mem_append.mp ht with ht | ht
   ·obtain ⟨z,hz,rfl⟩:=List.mem_map.mp ht
    rw [nmT,Tr.deep]; omega
   ·exact h2 t ht
  omega
theorem trRs_deep:∀ ps:List Rl,Gds ps->∀ t∈trRs ps,t.deep<=highs ps + 12
 | [],_,t,ht=>by rw [trRs] at ht; cases ht
 | p :: r,g,t,ht=>by
  rw [Gds] at g
  rw [trRs] at ht
  rw [highs]
  rcases List.mem_cons.mp ht with rfl | ht
  ·have:=zhb p g.1
   omega
  ·have:=trRs_deep r g.2 t ht
   omega
end
def wid (ts:List Tr):Nat:=(ts.map fun t=>(shT t).length + 1).sum
theorem za3 (t:Tr) (r:List Tr):wid (t :: r) = (shT t).length + 1 + wid r:=by unfold wid; rw [List.map_cons,List.sum_cons]
theorem zjw (a b:List Tr):wid (a ++ b) = wid a + wid b:=by unfold wid; rw [List.map_append,List.sum_append]
theorem zhc:∀ ts:List Tr,(shTs ts).length<=wid ts
 | []=>by rw [shTs]; exact Nat.zero_le _
 | [t]=>by rw [shTs,za3]; omega
 | t :: u :: r=>by
  have:=zhc (u :: r)
  rw [shTs,za3,List.length_append,List.length_cons]
  omega
theorem zge:∀ bs:List Str,(∀ z∈bs,Vr z)->wid (bs.map nmT)<=9 * bs.length
 | [],_=>by rw [List.map_nil]; exact Nat.zero_le _
 | z :: r,h=>by
  have h1:=zge r fun y hy=>h y (List.mem_cons_of_mem _ hy)
  have h2:=(h z (by simp)).2.1
  rw [List.map_cons,za3,nmT,shT,zt,List.length_cons]
  omega
theorem zjx (d:Wo):(shT (nmT (woS d))).length<=8:=by
 rw [nmT,shT,zt]
 cases d <;> decide +kernel
mutual
theorem zgf:∀ r:Rl,r.Gd->(shT (trR r)).length + 1<=65000 * r.many
 | .lit x,g=>by
  rw [Rl.Gd] at g
  have h1:=zft x g.1
  have h2:x.size<=1000:=g.2.1
  rw [trR,Rl.many]
  split
  ·rw [shT,shTs,shTs,zff,List.length_cons,List.length_append,List.length_append,List.length_cons,shT]
   have:litW.length = 3:=by decide +kernel
   rw [this]
   show 3 + (_ + 1) + 1 + 1 + 1<=_
   omega
  ·rw [zff]; omega
 | .var s,g=>by
  rw [Rl.Gd] at g
  have h2:=g.2.1
  rw [trR,Rl.many,nmT,shT,zt]
  omega
 | .op d bs ps,g=>by
  rw [Rl.Gd] at g
  have h1:=shRs_len ps g.2
  have h2:=zge bs g.1.2.2.2.1
  have h3:=zjx d
  have h4:=zco d
  have h5:=g.1.2.2.1
  have h6:=zhc (nmT (woS d) :: (bs.map nmT ++ trRs ps))
  rw [za3,zjw] at h6
  rw [trR,Rl.many,shT,List.length_cons,List.length_append]
  show _ + 1 + 1 + 1<=_
  omega
theorem shRs_len:∀ ps:List Rl,Gds ps->wid (trRs ps)<=65000 * manys ps
 | [],_=>by rw [trRs,manys]; exact Nat.le_refl _
 | p :: r,g=>by
  rw [Gds] at g
  have h1:=zgf p g.1
  have h2:=shRs_len r g.2
  rw [trRs,manys,za3]
  omega
end
theorem zjy:∀ (ys:List Str) (ts:List Tr),ys.map (fun y=>y.cps.toList) = ts.map shT->(ys.map (·.length)).sum + ys.length = wid ts
 | [],[],_=>rfl
 | [],_ :: _,h=>by simp at h
 | _ :: _,[],h=>by simp at h
 | y :: r,t :: ts,h=>by
  have e1:y.cps.toList = shT t/\r.map (fun y=>y.cps.toList) = ts.map shT:=by simpa using h
  have:=zjy r ts e1.2
  rw [za3,← e1.1,zt,List.map_cons,List.sum_cons,List.length_cons]
  omega
def zeD (n:Nat):Sp:=fun vs H Q _=>∃ (v:V) (r:Rl),vs = [v]/\RW H v r.toW/\r.Gd/\r.many<=100/\r.high < n/\∀ (x:Str) (H':Hp),x.cps.toList = shT (trR r)->Same H H'->Q (.str x) H'
theorem zav:FnScope ["rule","word","shown","inner"] ["rule"] (zl zaT):=⟨rfl,rfl,rfl,by decide +kernel,rfl,by decide +kernel,by decide +kernel⟩
theorem zfx {n:Nat} (F:Fun K "show_rule" "show_rule" zaT f fd) (G_variables_of:Have P w K mg base "variables_of" k ["expression"] (zch)) (G_parts_of:Have P w K mg base "parts_of" k ["expression"] (zac)) (G_show_rule:Have P w K mg base "show_rule" k ["rule"] (zeD n)) (G_show_worth:Have P w K mg base "show_worth" k ["worth"] (zg6 14)) (m_isi:mg "isinstance" = none) (m_list:mg "list" = none) (m_tuple:mg "tuple" = none):FnOk P w K mg base CX0 (k + 1) f fd ["rule"] (zeD (n + 1)):=by
 refine F.okQ zav (fun vs H Q E h=>?_) (fun cdv A outer s H vs Q E hr h=>?_)
 ·obtain ⟨v,r,rfl,_⟩:=h
  rfl
 obtain ⟨v,r,rfl,rv,g,hm,hh,q⟩:=h
 obtain ⟨a,us,rfl,ea,ho⟩:=opn rv
 refine ⟨_,(zb (zn (i:=1) zav.nd rfl (Or.inl rfl) (zy zF (pv 0) zf (fun _ _=>rfl)))
  (zb (zB (zj zS (pv 1) ze (nomark _)) (zg (zo (zy zF (pv 0) zf (fun _ _=>rfl)))) zq)
  (zb (zB (zj zS (pv 1) ze (nomark _)) (zb (zn (i:=2) zav.nd rfl (Or.inl rfl) (zw G_show_worth hr rfl (za (zy zF (pv 0) zf (fun _ _=>rfl)) zc)))
  (zg (zo (zap (zW (zk ZE rfl m_isi zT (za (zy zF (pv 0) zf (fun _ _=>rfl)) (za (zbe rfl m_tuple Za) zc)))) (zi zh (zi zh ze (pv 2)) ze) (pv 2))))) zq)
  (zb (zn (i:=3) zav.nd rfl (Or.inl rfl) (zi ZZ (zi ZZ (zx (za (pv 1) zc)) (zC zaq rfl m_list zby (za (zw G_variables_of hr rfl (za (pv 0) zc)) zc))) (Zx [] [] rfl rfl (by decide +kernel) rfl (by decide +kernel) rfl (by decide +kernel) trivial rfl trivial (zay (zw G_parts_of hr rfl (za (pv 0) zc))) (fun C s H fp=>⟨Zj,(zw G_show_rule hr rfl (za (pv 0) zc))⟩))))
  (zg (zo (zi zh (zi zh ze (zaE PySem.F.plainAttrs_str PySem.F.slot_str_join PySem.F.type_str_join zd3 ze (za (pv 3) zc))) ze))))))),?_⟩
 refine ⟨_,rfl,a,us,0,_,rfl,rfl,SqT.of ea,zM (j:=0) ho.head,?_⟩
 refine ⟨_,rfl,rfl,_,rfl,?_⟩
 rw [show Str.ofString "var" = "var" from rfl,zi8]
 cases ho with
 | var=>
  rename_i s
  exact iteT ⟨_,rfl,a,_,1,_,rfl,rfl,SqT.of ea,rfl,q s H (by rw [trR,nmT,shT]) (Same.refl _)⟩
 | lit hv=>
  rename_i x v
  rw [Rl.Gd] at g
  refine iteF ⟨_,rfl,rfl,_,rfl,?_⟩
  rw [show Str.ofString "lit" = "lit" from rfl,zhP]
  refine iteT ⟨_,rfl,a,_,1,_,rfl,rfl,SqT.of ea,rfl,v,x,rfl,hv,g.1,g.2.1,Nat.lt_succ_of_le (Nat.le_succ_of_le g.2.2),fun y H1 hy s1=>?_⟩
  have hyl:(y.length:Int) + 1<=64000:=by
   have h1:=zft x g.1
   have h2:x.size<=1000:=g.2.1
   rw [← hy,zt] at h1
   omega
  refine ⟨_,rfl,a,_,1,_,rfl,rfl,SqT.of (s1 _ _ ea),rfl,?_⟩
  cases hv with
  | num i=>exact ⟨_,_,_,_,rfl,.int i,zgs,_,rfl,iteF ⟨_,rfl,q y H1 (by rw [hy,zdS rfl,zff]) s1⟩⟩
  | txt z=>exact ⟨_,_,_,_,rfl,.str z,zgt,_,rfl,iteF ⟨_,rfl,q y H1 (by rw [hy,zdS rfl,zff]) s1⟩⟩
  | @lst b vs ws e l at'=>
   have la:(Str.ofString "(lit ").length = 5:=by decide +kernel
   have lb:(Str.ofString ")").length = 1:=by decide +kernel
   have ca:(Str.ofString "(lit ").cps.toList = 40 :: (litW ++ [32]):=by decide +kernel
   refine ⟨_,_,_,_,rfl,.tup (s1 _ _ e),ze3,_,rfl,iteT ⟨_,rfl,_,_,rfl,rfl,small (by rw [la]; omega),_,_,rfl,rfl,small (by rw [zD,la,lb]; omega),q _ _ ?_ s1⟩⟩
   rw [Zf,Zf,hy,ca,zhZ,zeA rfl,shT,shTs,shTs,shT,zff]
   simp
 | op hvs=>
  rename_i d bs ps vs
  have g0:=g
  rw [Rl.Gd] at g0
  have hlv:wLit d = false:=g0.1.1
  have hvv:wVar d = false:=g0.1.2.1
  have hb:=g0.1.2.2.1
  have hwv:wVar (rlW (.op d bs ps)) = false:=hvv
  have hwl:wLit (rlW (.op d bs ps)) = false:=hlv
  rw [hwv]
  refine iteF ⟨_,rfl,rfl,_,rfl,?_⟩
  rw [show Str.ofString "lit" = "lit" from rfl,zhP,hwl]
  have hps:ps.length<=100:=by
   have h1:=zgX ps
   rw [Rl.many] at hm
   omega
  have hbl:bs.length<=2:=by have:=zco d; omega
  refine iteF ⟨_,rfl,zl1,fun p1 hp1=>?_⟩
  have s1:=Same.new (o:=.lst [.str (woS d)]) hp1
  have e1:upd H p1 (.lst [.str (woS d)]) p1 = some (.lst [.str (woS d)]):=zd
  dsimp only [rlW]
  generalize upd H p1 (.lst [.str (woS d)]) = H1 at s1 e1
  refine ⟨_,rfl,a,d,bs.map V.str,vs,rfl,s1 _ _ ea,by rw [List.length_map]; exact hb,fun p2 H2 s2 e2=>?_⟩
  refine ⟨p2,bs.map V.str,rfl,.inr (SqT.of e2),fun p3 hp3=>?_⟩
  have s3:=Same.new (o:=.lst (bs.map V.str)) hp3
  have e3:upd H2 p3 (.lst (bs.map V.str)) p3 = some (.lst (bs.map V.str)):=zd
  generalize upd H2 p3 (.lst (bs.map V.str)) = H3 at s3 e3
  refine ⟨p1,p3,_,_,rfl,rfl,s3 _ _ (s2 _ _ e1),e3,small (by rw [List.length_map]; show 1 + _<=_; omega),fun p4 hp4=>?_⟩
  have s4:=Same.new (o:=.lst ([.str (woS d)] ++ bs.map V.str)) hp4
  have e4:upd H3 p4 (.lst ([.str (woS d)] ++ bs.map V.str)) p4 = some (.lst ([.str (woS d)] ++ bs.map V.str)):=zd
  generalize upd H3 p4 (.lst ([.str (woS d)] ++ bs.map V.str)) = H4 at s4 e4
  have s14:=((s1.trans s2).trans s3).trans s4
  refine ⟨_,rfl,?_⟩
  dsimp only [tNil,List.cons_append,List.nil_append]
  refine zl9 (rv.mono (zJ s14)) g fun l us H5 hl s5 el hus=>⟨l,rfl,⟨us,SqL.of el⟩,?_⟩
  have hul:us.length = ps.length:=by have:=hus.len; rw [this]; exact zbE ps
  refine zel (vs:=us) (fun i xs H6=>Same H5 H6/\i<=ps.length/\xs = (ps.take i).map fun p=>V.str ⟨(shT (trR p)).toArray⟩) (small (by omega)) ⟨Same.refl _,Nat.zero_le _,rfl⟩ (fun i xs H6 h=>by rw [h.2.2,List.length_map,List.length_take]; omega) (fun i xs H6 h=>SqL.of (h.1 _ _ el)) (fun i x xs H6 R hx hP hR=>?_) (fun xs H6 D hP hD=>?_)
  ·obtain ⟨s6,hi,rfl⟩:=hP
   have hi2:i < ps.length:=by rw [← hul]; exact (List.getElem?_eq_some_iff.mp hx).1
   have hpi:ps[i]? = some ps[i]:=List.getElem?_eq_getElem hi2
   have hmem:=List.getElem_mem hi2
   have hw:(rlWs ps)[i]? = some ps[i].toW:=by rw [zek,List.getElem?_map,hpi]; rfl
   have h1:=zei hmem
   have h2:=zcg hmem
   rw [Rl.many] at hm
   rw [Rl.high] at hh
   refine ⟨_,rfl,x,ps[i],rfl,(hus.at' i x _ hx hw).mono (zJ s6),g0.2.mem _ hmem,by omega,by omega,fun y H7 hy s7=>hR _ _ ⟨s6.trans s7,hi2,?_⟩⟩
   rw [zV hpi,List.map_append,List.map_singleton,← hy,← strOf y]
  ·obtain ⟨s6,_,rfl⟩:=hP
   rw [hul,List.take_length]
   have s7:=Same.new (o:=.lst (ps.map fun p=>V.str ⟨(shT (trR p)).toArray⟩)) hD
   have e7:upd H6 D (.lst (ps.map fun p=>V.str ⟨(shT (trR p)).toArray⟩)) D = some (.lst (ps.map fun p=>V.str ⟨(shT (trR p)).toArray⟩)):=zd
   generalize upd H6 D (.lst (ps.map fun p=>V.str ⟨(shT (trR p)).toArray⟩)) = H7 at s7 e7
   have s47:=(s5.trans s6).trans s7
   refine ⟨p4,D,_,_,rfl,rfl,s47 _ _ e4,e7,small (by rw [List.length_append,List.length_map,List.length_map]; show 1 + _ + _<=_; omega),fun p5 hp5=>?_⟩
   have s8:=Same.new (o:=.lst ([.str (woS d)] ++ bs.map V.str ++ ps.map fun p=>V.str ⟨(shT (trR p)).toArray⟩)) hp5
   have e8:upd H7 p5 (.lst ([.str (woS d)] ++ bs.map V.str ++ ps.map fun p=>V.str ⟨(shT (trR p)).toArray⟩)) p5 = some (.lst ([.str (woS d)] ++ bs.map V.str ++ ps.map fun p=>V.str ⟨(shT (trR p)).toArray⟩)):=zd
   generalize upd H7 p5 (.lst ([.str (woS d)] ++ bs.map V.str ++ ps.map fun p=>V.str ⟨(shT (trR p)).toArray⟩)) = H8 at s8 e8
   have hmap:(woS d :: (bs ++ ps.map fun p=>(⟨(shT (trR p)).toArray⟩:Str))).map (fun y=>y.cps.toList) = (nmT (woS d) :: (bs.map nmT ++ trRs ps)).map shT:=by
    rw [zeB,List.map_cons,List.map_cons,List.map_append,List.map_append,List.map_map,List.map_map,List.map_map,nmT,shT]
    congr 2
   have hj:=zg7 _ _ hmap
   have hw:=zjy _ _ hmap
   have hlen:=zgf _ g
   have hsl:(shT (trR (.op d bs ps))).length = (shTs (nmT (woS d) :: (bs.map nmT ++ trRs ps))).length + 2:=by
    rw [trR,shT,List.length_cons,List.length_append]; rfl
   have hwl2:wid (nmT (woS d) :: (bs.map nmT ++ trRs ps))<=65000 * (Rl.op d bs ps).many:=by
    have h1:=shRs_len ps g0.2
    have h2:=zge bs g0.1.2.2.2.1
    have h3:=zjx d
    rw [za3,zjw,Rl.many]
    omega
   have hjl:=congrArg List.length hj
   rw [zt] at hjl
   have l1:(Str.ofString " ").length = 1:=by decide +kernel
   have la:(Str.ofString "(").length = 1:=by decide +kernel
   have lb:(Str.ofString ")").length = 1:=by decide +kernel
   have hz:(10000000:Nat)<=sizeLine:=by decide
   refine ⟨rfl,_,rfl,Str.ofString " ",p5,woS d :: (bs ++ ps.map fun p=>(⟨(shT (trR p)).toArray⟩:Str)),rfl,rfl,SqL.of ?_,?_,_,_,rfl,rfl,?_,_,_,rfl,rfl,?_,q _ _ ?_ ((s14.trans s47).trans s8)⟩
   ·rw [e8]
    simp
   ·rw [l1,Nat.mul_one]; omega
   ·rw [la]; omega
   ·rw [zD,la,lb]; omega
   ·rw [Zf,Zf,hj,zhY,zhZ,trR,shT]
    rfl
end
end D
namespace L2
open PySem
theorem zhd {K:PySem.W.Frag}{fr:List Nat}{te:TE}{σ:St}{H:Hp}{F:Addr->Hp->List V->Prop}{a:Addr}{vs:List V} (Pv:Nat->List V->Hp->Prop) (hz:vs.length<=sizeLine) (h0:Pv 0 [] H) (hlen:∀ i us H1,Pv i us H1->us.length = i) (hS:∀ i us H1,Pv i us H1->SqT K H1 a vs)
  (step:∀ (i:Nat) (v:V) (us:List V) (H1:Hp) (R:VK),vs[i]? = some v->Pv i us H1->(∀ y H2,Pv (i + 1) (us ++ [y]) H2->R y H2)->te (some v :: frees fr σ) H1 R)
  (fin:∀ (us:List V) (H1:Hp) (D:Addr),Pv vs.length us H1->H1 D = none->F D H1 us):
  ∃ W:Nat->Nat->List V->Hp->Prop,(∃ m,W 0 m [] H)/\∀ i m vs H,W i m vs H->vs.length<=sizeLine /\
   (((Itt K a).stop i H/\∀ D,H D = none->F D H vs) \/
    ((Itt K a).go i H/\∀ v H',(Itt K a).yld i H v H'->if true = true then te (some v :: frees fr σ) H' fun y H3=>∃ m',m' < m/\W (i + 1) m' (vs ++ [y]) H3 else ∃ m',m' < m/\W (i + 1) m' vs H')):=by
 refine ⟨fun i m us H1=>i<=vs.length/\m = vs.length - i/\Pv i us H1,⟨_,Nat.zero_le _,rfl,h0⟩,fun i m us H1 hW=>?_⟩
 obtain ⟨hi,hm,hu⟩:=hW
 have sq:=hS _ _ _ hu
 refine ⟨by rw [hlen _ _ _ hu]; omega,?_⟩
 by_cases hlt:i < vs.length
 ·refine .inr ⟨⟨vs,vs[i],sq,List.getElem?_eq_getElem hlt⟩,fun v H' hy=>?_⟩
  obtain ⟨rfl,hv⟩:=hy
  have hv:=hv vs sq
  refine iteT ?_
  exact step i v us H' _ hv hu fun y H2 p2=>⟨vs.length - (i + 1),by omega,by omega,rfl,p2⟩
 ·have e:i = vs.length:=by omega
  subst e
  exact .inl ⟨⟨vs,sq,by omega⟩,fun D hD=>fin us H1 D hu hD⟩
end L2
namespace D
open PySem L2
def vrB (q:List Nat):Bool:=zR (.txt ⟨q.toArray⟩)
def varO:Tr->Option Str
 | .word q=>if vrB q = true then some ⟨q.toArray⟩ else none
 | _=>none
def zkQ:List Tr->Option (List Str)
 | []=>some []
 | t :: r=>(varO t).bind fun z=>(zkQ r).map (z :: ·)
def litO:List Tr->Option W
 | [.lst xs]=>worO (.lst xs)
 | _=>none
def zjz:List Tr->Option Wo
 | .word q :: _=>woAt ⟨q.toArray⟩
 | _=>none
mutual
def rdE:Tr->Option Rl
 | .word q=>if vrB q = true then some (.var ⟨q.toArray⟩) else if numB q = true then some (.lit (.num (valI q))) else none
 | .txt q=>some (.lit (.txt ⟨q.toArray⟩))
 | .lst ts=>(zjz ts).bind fun d=>if wLit d = true then (litO ts.tail).map .lit else if wVar d = true then none else
   (zkQ (ts.tail.take (bcnt d))).bind fun bs=>(rdEs (1 + bcnt d) ts).map (.op d bs)
def rdEs:Nat->List Tr->Option (List Rl)
 | _,[]=>some []
 | 0,t :: r=>(rdE t).bind fun e=>(rdEs 0 r).map (e :: ·)
 | n + 1,_ :: r=>rdEs n r
end
def zfy:List Tr->Option (List Rl)
 | []=>some []
 | t :: r=>(rdE t).bind fun e=>(zfy r).map (e :: ·)
theorem zfz:∀ ts:List Tr,rdEs 0 ts = zfy ts
 | []=>by rw [rdEs,zfy]
 | t :: r=>by rw [rdEs,zfy,zfz r]
theorem zfA:∀ (n:Nat) (ts:List Tr),rdEs n ts = zfy (ts.drop n)
 | 0,ts=>by rw [zfz,List.drop_zero]
 | n + 1,[]=>by rw [rdEs,List.drop_nil,zfy]
 | n + 1,t :: r=>by rw [rdEs,zfA n r,List.drop_succ_cons]
def goO {α β:Type} (f:α->Option β):List α->Option (List β)
 | []=>some []
 | t :: r=>(f t).bind fun e=>(goO f r).map (e :: ·)
theorem zhe:∀ ts:List Tr,zkQ ts = goO varO ts
 | []=>rfl
 | t :: r=>by rw [zkQ,goO,zhe r]
theorem zhf:∀ ts:List Tr,zfy ts = goO rdE ts
 | []=>rfl
 | t :: r=>by rw [zfy,goO,zhf r]
theorem zcQ {α β:Type}{f:α->Option β}:∀ {ts:List α}{t:α},t∈ts->f t = none->goO f ts = none
 | x :: r,t,h,e=>by
  rw [goO]
  rcases List.mem_cons.mp h with rfl | h
  ·rw [e]; rfl
  ·rw [zcQ h e]
   cases f x <;> rfl
theorem zeE {α β:Type}{f:α->Option β}:∀ {ts:List α}{t:α}{ws:List β}{w:β},goO f ts = some ws->f t = some w->goO f (ts ++ [t]) = some (ws ++ [w])
 | [],t,ws,w,h,e=>by
  rw [goO] at h
  cases h
  rw [List.nil_append,goO,e,goO]
  rfl
 | x :: r,t,ws,w,h,e=>by
  rw [goO] at h
  obtain ⟨y,hy,h⟩:=Option.bind_eq_some_iff.mp h
  obtain ⟨ys,hys,rfl⟩:=Option.map_eq_some_iff.mp h
  rw [List.cons_append,goO,hy,zeE hys e]
  rfl
theorem zbT {α β:Type}{f:α->Option β}:∀ {ts:List α}{ws:List β},goO f ts = some ws->ws.length = ts.length
 | [],ws,h=>by rw [goO] at h; cases h; rfl
 | x :: r,ws,h=>by
  rw [goO] at h
  obtain ⟨y,hy,h⟩:=Option.bind_eq_some_iff.mp h
  obtain ⟨ys,hys,rfl⟩:=Option.map_eq_some_iff.mp h
  rw [List.length_cons,List.length_cons,zbT hys]
theorem zbU (q:List Nat) (r:List Tr):rdE (.lst (.word q :: r)) = (woAt ⟨q.toArray⟩).bind fun d=>if wLit d = true then (litO r).map .lit else if wVar d = true then none else (goO varO (r.take (bcnt d))).bind fun bs=>(goO rdE (r.drop (bcnt d))).map (.op d bs):=by
 rw [rdE,zjz]
 refine congrArg _ (funext fun d=>?_)
 rw [zfA,zhf,zhe,Nat.add_comm 1,List.drop_succ_cons,List.tail_cons]
theorem zjA:rdE (.lst []) = none:=by simp [rdE,zjz]
theorem zjB (q:List Nat) (r:List Tr):rdE (.lst (.txt q :: r)) = none:=by simp [rdE,zjz]
theorem zhg (q r:List Tr):rdE (.lst (.lst q :: r)) = none:=by simp [rdE,zjz]
theorem zmi {K:PySem.W.Frag}{σ:St}{H:Hp}{ta tb:TE}{as bs:List T}{G:Prop}{Q:VK} (h:YT ta σ H (.tup as)) (g:∀ (H1:Hp) (Q:VK),Same H H1->(G->∀ v H2,Same H1 H2->RT H2 v (.tup bs)->Q v H2)->tb σ H1 Q) (hn:as≠[]) (hl:G->as.length + bs.length<=300000) (q:G->∀ v H2,Same H H2->RT H2 v (.tup (as ++ bs))->Q v H2):tOp (zj6 K) ta tb σ H Q:=
 h H _ (Same.refl _) fun v H2 s2 r2=>g H2 _ s2 fun hG u H3 s3 r3=>by
  have q:=q hG
  have hl:=hl hG
  obtain ⟨a,xs,rfl,ea,hxs⟩:=r2.inv_tup
  obtain ⟨b,ys,rfl,eb,hys⟩:=r3.inv_tup
  have l1:=hxs.1
  have l2:=hys.1
  refine ⟨a,b,xs,ys,rfl,rfl,SqT.of (s3 _ _ ea),SqT.of eb,(fun z=>hn (List.length_eq_zero_iff.mp (by rw [← l1,z]; rfl))),Nat.le_trans (show xs.length + ys.length<=300000 by omega) (by decide),fun z=>?_,fun _ p hp=>?_⟩
  ·have hb:bs = []:=List.length_eq_zero_iff.mp (by rw [← l2,z]; rfl)
   subst hb
   rw [List.append_nil] at q
   exact q _ H3 (s2.trans s3) (r2.mono s3)
  ·have s4:=Same.new (o:=.tup (xs ++ ys)) hp
   exact q _ _ ((s2.trans s3).trans s4) (((hxs.mono (s3.trans s4)).cat (hys.mono s4)).rt zd)
def zdp (AN:Addr):Sp:=fun vs H Q E=>∃ (v:V) (x:Tr),vs = [v]/\RTr H v x/\x.Sz/\(∀ z,varO x = some z->∀ H',Same H H'->Q (.str z) H')/\(varO x = none->∀ H',Same H H'->E (.ref AN) none H')
def zbK (AN:Addr) (n:Nat):Sp:=fun vs H Q E=>∃ (a:Addr) (us:List V) (ts:List Tr),vs = [.ref a]/\H a = some (.tup us)/\RTrs H us ts/\TrSzs ts/\deeps ts < n/\(∀ x,litO ts = some x->∀ (u:V) (H':Hp),Same H H'->RT H' u (Rl.lit x).toT->Q u H')/\(litO ts = none->∀ H',Same H H'->E (.ref AN) none H')
def zkR (AN:Addr) (n:Nat):Sp:=fun vs H Q E=>∃ (a:Addr) (us:List V) (ts:List Tr),vs = [.ref a]/\H a = some (.tup us)/\RTrs H us ts/\ts.length<=100000/\TrSzs ts/\deeps ts < n/\n<=102/\(∀ r,rdE (.lst ts) = some r->∀ (u:V) (H':Hp),Same H H'->RT H' u r.toT->Q u H')/\(rdE (.lst ts) = none->∀ H',Same H H'->E (.ref AN) none H')
def zdT (AN:Addr) (n:Nat):Sp:=fun vs H Q E=>∃ (v:V) (x:Tr),vs = [v]/\RTr H v x/\x.Sz/\x.deep < n/\n<=102/\(∀ r,rdE x = some r->∀ (u:V) (H':Hp),Same H H'->RT H' u r.toT->Q u H')/\(rdE x = none->∀ H',Same H H'->E (.ref AN) none H')
theorem zkS (x:V) (us:List V) (k:Nat):cutV (x :: us) (some 1) (some (1 + (k:Int))) = us.take k:=by
 show ((x :: us).drop (HT.sIx (x :: us).length 0 (some ((1:Nat):Int)))).take (HT.sIx (x :: us).length (x :: us).length (some (1 + (k:Int))) - HT.sIx (x :: us).length 0 (some ((1:Nat):Int))) = us.take k
 rw [show (1:Int) + (k:Int) = ((1 + k:Nat):Int) by omega,HT.sIx_nat,HT.sIx_nat,List.length_cons,show min 1 (us.length + 1) = 1 by omega,List.drop_succ_cons,List.drop_zero]
 by_cases h:k<=us.length
 ·rw [show min (1 + k) (us.length + 1) - 1 = k by omega]
 ·rw [show min (1 + k) (us.length + 1) - 1 = us.length by omega,List.take_length,List.take_of_length_le (by omega)]
theorem zkT (x:V) (us:List V) (k:Nat):cutV (x :: us) (some (1 + (k:Int))) none = us.drop k:=by
 show ((x :: us).drop (HT.sIx (x :: us).length 0 (some (1 + (k:Int))))).take ((x :: us).length - HT.sIx (x :: us).length 0 (some (1 + (k:Int)))) = us.drop k
 rw [show (1:Int) + (k:Int) = ((1 + k:Nat):Int) by omega,HT.sIx_nat,List.length_cons]
 by_cases h:k<=us.length
 ·rw [show min (1 + k) (us.length + 1) = k + 1 by omega,List.drop_succ_cons,List.take_of_length_le (by rw [List.length_drop]; omega)]
 ·rw [show min (1 + k) (us.length + 1) = us.length + 1 by omega,List.drop_succ_cons,List.drop_length,List.drop_of_length_le (by omega),List.take_nil]
theorem RTrs.cons_inv {H:Hp}{us:List V}{t:Tr}{ts:List Tr} (h:RTrs H us (t :: ts)):∃ v vs,us = v :: vs/\RTr H v t/\RTrs H vs ts:=by
 cases us with
 | nil=>have:=h.len; cases this
 | cons v vs=>exact ⟨v,vs,rfl,h.at' 0 v t rfl rfl,by have:=h.len; simpa using this,fun i u x a b=>h.at' (i + 1) u x (by simpa using a) (by simpa using b)⟩
theorem RTrs.nil_inv {H:Hp}{us:List V} (h:RTrs H us []):us = []:=List.length_eq_zero_iff.mp h.len
theorem RTrs.take {H:Hp}{us:List V}{ts:List Tr} (h:RTrs H us ts) (k:Nat):RTrs H (us.take k) (ts.take k):=⟨by rw [List.length_take,List.length_take,h.len],fun i v t a b=>by
 rw [List.getElem?_take] at a b
 split at a
 ·rename_i hi
  rw [if_pos hi] at b
  exact h.at' i v t a b
 ·cases a⟩
theorem RTrs.drop {H:Hp}{us:List V}{ts:List Tr} (h:RTrs H us ts) (k:Nat):RTrs H (us.drop k) (ts.drop k):=⟨by rw [List.length_drop,List.length_drop,h.len],fun i v t a b=>by
 rw [List.getElem?_drop] at a b
 exact h.at' _ v t a b⟩
theorem dTW:decide (V.str (Str.ofString "text") = V.str (Str.ofString "word")) = false:=by decide +kernel
theorem dLW:decide (V.str (Str.ofString "list") = V.str (Str.ofString "word")) = false:=by decide +kernel
section
variable {P:Program}{w:World}{K:PySem.W.Frag}{mg:Str->Option Value}{base:Heap}{f:Addr}{fd:FuncData}{k n:Nat}{zN AForgeError ANoName ANoRow ANoRule ANoStep ANoThing ANoWorth:Addr}
theorem zbV:FnScope ["tree"] ["tree"] (zl Zs):=⟨rfl,rfl,rfl,by decide +kernel,rfl,by decide +kernel,by decide +kernel⟩
theorem zbW (F:Fun K "variable_of_tree" "variable_of_tree" Zs f fd) (G_is_variable:Have P w K mg base "is_variable" k ["thing"] (zcp)) (x_NoText:excIn K zN vErr "ValueError.__new__" = true) (c_NoText:mg "NoText" = some (.ref zN)):FnOk P w K mg base (CX1 P w) (k + 1) f fd ["tree"] (zdp zN):=by
 refine F.okX zbV (fun vs H Q E h=>?_) (fun cdv A outer s H vs Q E hr h=>?_)
 ·obtain ⟨v,x,rfl,_⟩:=h
  rfl
 obtain ⟨v,x,rfl,rt,sz,q,qe⟩:=h
 refine ⟨_,(zb (zB (PW.pt (zaK (zj zdz (zy zF (pv 0) zf (fun _ _=>rfl)) ze (nomark _)) (zak (ZP (zW (zw G_is_variable hr rfl (za (zy zF (pv 0) zf (fun _ _=>rfl)) zc))))))) (zg (Zz zaf rfl x_NoText c_NoText rfl (za ze zc))) zq)
  (zg (zo (zy zF (pv 0) zf (fun _ _=>rfl))))),?_⟩
 cases rt with
 | @word a z e=>
  rw [Tr.Sz] at sz
  refine ⟨_,rfl,a,_,0,_,rfl,rfl,SqT.of e,rfl,rfl,_,rfl,?_⟩
  rw [decide_eq_true rfl]
  refine iteF ⟨_,rfl,a,_,1,_,rfl,rfl,SqT.of e,rfl,.str ⟨z.toArray⟩,.txt ⟨z.toArray⟩,rfl,.txt _,(by show (⟨z.toArray⟩:Str).length<=100000; rw [← zt]; exact sz),fun H1 s1=>?_⟩
  rw [varO] at q qe
  cases hv:zR (.txt ⟨z.toArray⟩) with
  | true=>exact ⟨_,rfl,iteF ⟨_,rfl,a,_,1,_,rfl,rfl,SqT.of (s1 _ _ e),rfl,q _ (by rw [if_pos (show vrB z = true from hv)]) H1 s1⟩⟩
  | false=>exact ⟨_,rfl,iteT ⟨zl1,qe (by rw [if_neg (by rw [show vrB z = false from hv]; decide)]) _ s1⟩⟩
 | @txt a z e=>
  refine ⟨_,rfl,a,_,0,_,rfl,rfl,SqT.of e,rfl,rfl,_,rfl,?_⟩
  rw [dTW]
  exact iteT ⟨zl1,qe rfl _ (Same.refl _)⟩
 | @lst a b vs ts e e2 l at'=>
  refine ⟨_,rfl,a,_,0,_,rfl,rfl,SqT.of e,rfl,rfl,_,rfl,?_⟩
  rw [dLW]
  exact iteT ⟨zl1,qe rfl _ (Same.refl _)⟩
theorem zdq:FnScope ["trees"] ["trees"] (zl Z4):=⟨rfl,rfl,rfl,by decide +kernel,rfl,by decide +kernel,by decide +kernel⟩
theorem zdr (F:Fun K "lit_of_trees" "lit_of_trees" Z4 f fd) (G_worth_of_tree:Zy P w K mg base "worth_of_tree" k ["tree"] (zez zN n)) (m_len:mg "len" = none) (x_NoText:excIn K zN vErr "ValueError.__new__" = true) (c_NoText:mg "NoText" = some (.ref zN)):FnOk P w K mg base (CX1 P w) (k + 1) f fd ["trees"] (zbK zN n):=by
 refine F.okX zdq (fun vs H Q E h=>?_) (fun cdv A outer s H vs Q E hr h=>?_)
 ·obtain ⟨a,us,ts,rfl,_⟩:=h
  rfl
 obtain ⟨a,us,ts,rfl,ea,rs,sz,hd,q,qe⟩:=h
 refine ⟨_,(zb (zB (PW.pt (zaK (zj zdz (zk zz rfl m_len PySem.boot_len (za (pv 0) zc)) zf (nomark _)) (zak (zj zdz (zy zF (zy zF (pv 0) zf (fun _ _=>rfl)) zf (fun _ _=>rfl)) ze (nomark _))))) (zg (Zz zaf rfl x_NoText c_NoText rfl (za ze zc))) zq)
  (zg (zo (zP (za ze (za (ZW G_worth_of_tree hr zaf rfl (za (zy zF (pv 0) zf (fun _ _=>rfl)) zc)) zc)))))),?_⟩
 refine ⟨_,rfl,_,_,rfl,.inr ⟨_,SqT.of ea,rfl⟩,rfl,_,rfl,?_⟩
 match ts,rs with
 | [],rs=>
  obtain rfl:=rs.nil_inv
  exact iteT ⟨zl1,qe rfl _ (Same.refl _)⟩
 | t :: t2 :: r,rs=>
  have hl:=rs.len
  rw [decide_eq_false (by intro z; have:=V.int.inj z; rw [List.length_cons,List.length_cons] at hl; omega)]
  exact iteT ⟨zl1,qe (by cases t <;> rfl) _ (Same.refl _)⟩
 | [t],rs=>
  obtain ⟨v,vs,rfl,rv,rs⟩:=rs.cons_inv
  obtain rfl:=rs.nil_inv
  rw [TrSzs] at sz
  rw [deeps] at hd
  refine iteF ?_
  have rv0:=rv
  cases rv with
  | @word b z e=>
   refine ⟨_,rfl,a,_,0,_,rfl,rfl,SqT.of ea,rfl,b,_,0,_,rfl,rfl,SqT.of e,rfl,rfl,_,rfl,?_⟩
   rw [dWL]
   exact iteT ⟨zl1,qe rfl _ (Same.refl _)⟩
  | @txt b z e=>
   refine ⟨_,rfl,a,_,0,_,rfl,rfl,SqT.of ea,rfl,b,_,0,_,rfl,rfl,SqT.of e,rfl,rfl,_,rfl,?_⟩
   rw [dTL]
   exact iteT ⟨zl1,qe rfl _ (Same.refl _)⟩
  | @lst b c vs ts e e2 l at'=>
   refine ⟨_,rfl,a,_,0,_,rfl,rfl,SqT.of ea,rfl,b,_,0,_,rfl,rfl,SqT.of e,rfl,rfl,_,rfl,?_⟩
   rw [decide_eq_true rfl]
   refine iteF ⟨_,rfl,a,_,0,_,rfl,rfl,SqT.of ea,rfl,_,.lst ts,rfl,rv0,sz.1,by omega,fun x hx u H1 s1 ru=>⟨zl2,fun p hp=>q x hx _ _ (s1.trans (Same.new hp)) ?_⟩,fun hx H1 s1=>qe hx _ s1⟩
   rw [Zi]
   exact (RTs.cons (.txt _) (.cons (ru.toRT.mono (Same.new hp)) .nil)).rt zd
theorem zaw:FnScope ["trees","word","first","variables"] ["trees"] (zl zaU):=⟨rfl,rfl,rfl,by decide +kernel,rfl,by decide +kernel,by decide +kernel⟩
theorem zfB (F:Fun K "bracketed" "bracketed" zaU f fd) (G_expression_of_tree:Zy P w K mg base "expression_of_tree" k ["tree"] (zdT zN n)) (G_variable_of_tree:Zy P w K mg base "variable_of_tree" k ["tree"] (zdp zN)) (G_binding_count:Have P w K mg base "binding_count" k ["word"] (zbG)) (G_has_parts:Have P w K mg base "has_parts" k ["word"] (zbF)) (G_lit_of_trees:Zy P w K mg base "lit_of_trees" k ["trees"] (zbK zN n)) (m_len:mg "len" = none) (m_tuple:mg "tuple" = none) (x_NoText:excIn K zN vErr "ValueError.__new__" = true) (c_NoText:mg "NoText" = some (.ref zN)):FnOk P w K mg base (CX1 P w) (k + 1) f fd ["trees"] (zkR zN n):=by
 refine F.okX zaw (fun vs H Q E h=>?_) (fun cdv A outer s H vs Q E hr h=>?_)
 ·obtain ⟨a,us,ts,rfl,_⟩:=h
  rfl
 obtain ⟨a,us,ts,rfl,ea,rs,hl,sz,hd,hn,q,qe⟩:=h
 refine ⟨_,(zb (zB (PW.pt (zaK (zj zS (zk zz rfl m_len PySem.boot_len (za (pv 0) zc)) zf (nomark _)) (zak (zj zdz (zy zF (zy zF (pv 0) zf (fun _ _=>rfl)) zf (fun _ _=>rfl)) ze (nomark _))))) (zg (Zz zaf rfl x_NoText c_NoText rfl (za ze zc))) zq)
  (zb (zn (i:=1) zaw.nd rfl (Or.inl rfl) (zy zF (zy zF (pv 0) zf (fun _ _=>rfl)) zf (fun _ _=>rfl)))
  (zb (zB (zj zS (pv 1) ze (nomark _)) (zg (zo (ZW G_lit_of_trees hr zaf rfl (za (Zg zeW (pv 0) (Ze zf) zae) zc)))) zq)
  (zb (zB (ZP (zW (zw G_has_parts hr rfl (za (pv 1) zc)))) (zg (Zz zaf rfl x_NoText c_NoText rfl (za ze zc))) zq)
  (zb (zn (i:=2) zaw.nd rfl (Or.inl rfl) (zi zU zf (zw G_binding_count hr rfl (za (pv 1) zc))))
  (zb (zn (i:=3) zaw.nd rfl (Or.inl rfl) (zC Zw rfl m_tuple Za (za (zaF [] [] rfl rfl (by decide +kernel) rfl (by decide +kernel) rfl (by decide +kernel) trivial rfl trivial (zcu (Zg zeW (pv 0) (Ze zf) (Ze (pv 2)))) (fun C s H fp hI=>⟨Zj,(ZW G_variable_of_tree hr (zlQ zaf rfl ⟨_,rfl⟩ hI) rfl (za (pv 0) zc))⟩)) zc)))
  (zg (zo (zi zck (zi zck (zP (za (pv 1) zc)) (pv 3)) (zC Zw rfl m_tuple Za (za (zaF [] [] rfl rfl (by decide +kernel) rfl (by decide +kernel) rfl (by decide +kernel) trivial rfl trivial (zcu (Zg zeW (pv 0) (Ze (pv 2)) zae)) (fun C s H fp hI=>⟨Zj,(ZW G_expression_of_tree hr (zlQ zaf rfl ⟨_,rfl⟩ hI) rfl (za (pv 0) zc))⟩)) zc))))))))))),?_⟩
 refine ⟨_,rfl,_,_,rfl,.inr ⟨_,SqT.of ea,rfl⟩,rfl,_,rfl,?_⟩
 match ts,rs with
 | [],rs=>
  obtain rfl:=rs.nil_inv
  exact iteT ⟨zl1,qe zjA _ (Same.refl _)⟩
 | t :: r,rs=>
  obtain ⟨v0,us',rfl,rv0,rs1⟩:=rs.cons_inv
  rw [decide_eq_false (by intro z; have:=V.int.inj z; rw [List.length_cons] at this; omega)]
  rw [TrSzs] at sz
  rw [deeps] at hd
  rw [List.length_cons] at hl
  cases rv0 with
  | @txt b0 z e0=>
   refine iteF ⟨_,rfl,a,_,0,_,rfl,rfl,SqT.of ea,zM (j:=0) rfl,b0,_,0,_,rfl,rfl,SqT.of e0,rfl,rfl,_,rfl,?_⟩
   rw [dTW]
   exact iteT ⟨zl1,qe (zjB _ _) _ (Same.refl _)⟩
  | @lst b0 c vs ts e0 e2 l at'=>
   refine iteF ⟨_,rfl,a,_,0,_,rfl,rfl,SqT.of ea,zM (j:=0) rfl,b0,_,0,_,rfl,rfl,SqT.of e0,rfl,rfl,_,rfl,?_⟩
   rw [dLW]
   exact iteT ⟨zl1,qe (zhg _ _) _ (Same.refl _)⟩
  | @word b0 z e0=>
   refine iteF ⟨_,rfl,a,_,0,_,rfl,rfl,SqT.of ea,zM (j:=0) rfl,b0,_,0,_,rfl,rfl,SqT.of e0,rfl,rfl,_,rfl,?_⟩
   rw [decide_eq_true rfl]
   refine iteF ⟨_,rfl,a,_,0,_,rfl,rfl,SqT.of ea,zM (j:=0) rfl,b0,_,1,_,rfl,rfl,SqT.of e0,rfl,?_⟩
   refine ⟨_,rfl,rfl,_,rfl,?_⟩
   rw [zbU] at q qe
   generalize (⟨z.toArray⟩:Str) = y at e0 q qe ⊢
   cases hw:woAt y with
   | none=>
    rw [hw] at qe
    have hno:=zfl hw
    rw [decide_eq_false (p:=V.str y = V.str (Str.ofString "lit")) (fun e=>hno .lit (V.str.inj e))]
    refine iteF ⟨_,rfl,y,rfl,_,rfl,?_⟩
    rw [show hasB y = false by unfold hasB; rw [hw]]
    exact iteT ⟨zl1,qe rfl _ (Same.refl _)⟩
   | some d=>
    rw [hw,Option.bind_some] at q qe
    obtain rfl:=zfk hw
    rw [show Str.ofString "lit" = "lit" from rfl,zhP]
    cases hlv:wLit d with
    | true=>
     rw [if_pos hlv] at q qe
     refine iteT ⟨_,rfl,_,rfl,a,_,rfl,SqT.of ea,zbh _ _ 0 _,fun p hp=>?_⟩
     have hcut:cutV (.ref b0 :: us') (some 1) none = us':=by
      have:=zgV (.ref b0) [] us' 0 rfl
      exact this
     rw [hcut]
     have s1:=Same.new (o:=.tup us') hp
     exact ⟨p,us',r,rfl,zd,rs1.mono (zJ s1),sz.2,by omega,fun x hx u H' s2 ru=>q _ (by rw [hx]; rfl) u H' (s1.trans s2) ru,fun hx H' s2=>qe (by rw [hx]; rfl) H' (s1.trans s2)⟩
    | false=>
     rw [if_neg (by rw [hlv]; decide)] at q qe
     refine iteF ⟨_,rfl,woS d,rfl,_,rfl,?_⟩
     rw [zgW,hlv]
     cases hvv:wVar d with
     | true=>
      rw [if_pos hvv] at q qe
      exact iteT ⟨zl1,qe rfl _ (Same.refl _)⟩
     | false=>
      rw [if_neg (by rw [hvv]; decide)] at q qe
      refine iteF ⟨_,rfl,d,rfl,_,_,rfl,rfl,?_⟩
      dsimp only [ZI]
      have rX:=rs1.take (bcnt d)
      have rY:=rs1.drop (bcnt d)
      have szX:∀ t∈r.take (bcnt d),t.Sz:=fun t ht=>zcj sz.2 t (List.mem_of_mem_take ht)
      have szY:∀ t∈r.drop (bcnt d),t.Sz:=fun t ht=>zcj sz.2 t (List.mem_of_mem_drop ht)
      have dpY:∀ t∈r.drop (bcnt d),t.deep < n:=fun t ht=>by have:=zaI t (List.mem_of_mem_drop ht); omega
      have hxl:(r.take (bcnt d)).length<=2:=by rw [List.length_take]; have:=zco d; omega
      have hyl:(r.drop (bcnt d)).length<=100000:=by rw [List.length_drop]; omega
      refine ⟨_,rfl,_,rfl,_,rfl,_,rfl,a,_,rfl,SqT.of ea,zbh _ _ 0 _,fun p hp=>?_⟩
      rw [zkS (.ref b0) us' (bcnt d)]
      have hcd:=zkT (.ref b0) us' (bcnt d)
      generalize us'.take (bcnt d) = xs at rX hp ⊢
      generalize us'.drop (bcnt d) = ys at rY hcd
      generalize r.take (bcnt d) = tx at rX szX hxl q qe
      generalize r.drop (bcnt d) = ty at rY szY dpY hyl q qe
      have s1:=Same.new (o:=.tup xs) hp
      have e1:upd H p (.tup xs) p = some (.tup xs):=zd
      generalize upd H p (.tup xs) = H1 at s1 e1 ⊢
      refine ⟨p,rfl,⟨_,SqT.of e1⟩,?_⟩
      refine zhd (vs:=xs) (fun i zs H2=>Same H1 H2/\∃ bs,goO varO (tx.take i) = some bs/\zs = bs.map V.str/\i<=tx.length) (small (by rw [rX.len]; omega)) ⟨Same.refl _,[],by rw [List.take_zero,goO],rfl,Nat.zero_le _⟩ (fun i zs H2 h=>by obtain ⟨_,bs,h1,rfl,h3⟩:=h; rw [List.length_map,zbT h1,List.length_take]; omega) (fun i zs H2 h=>SqT.of (h.1 _ _ e1)) (fun i x zs H2 R hx hP hR=>?_) (fun zs H2 D hP hD=>?_)
      ·obtain ⟨s2,bs,hbs,rfl,hi⟩:=hP
       have hi2:i < tx.length:=by rw [← rX.len]; exact (List.getElem?_eq_some_iff.mp hx).1
       have ht:tx[i]? = some tx[i]:=List.getElem?_eq_getElem hi2
       have hm:=List.mem_of_getElem? ht
       refine ⟨_,rfl,x,tx[i],rfl,(rX.at' i x _ hx ht).mono (zJ (s1.trans s2)),szX _ hm,fun z hz H3 s3=>hR _ _ ⟨s2.trans s3,bs ++ [z],?_,?_,hi2⟩,fun hz H3 s3=>qe (by rw [zcQ hm hz]; rfl) H3 ((s1.trans s2).trans s3)⟩
       ·rw [zV ht]
        exact zeE hbs hz
       ·rw [List.map_append]
        rfl
      ·obtain ⟨s2,bs,hbs,rfl,_⟩:=hP
       rw [rX.len,List.take_length] at hbs
       rw [hbs,Option.bind_some] at q qe
       have hbl:bs.length<=2:=by rw [zbT hbs]; exact hxl
       refine ⟨D,_,rfl,.inl ⟨SqL.of zd,fun t ht=>?_⟩⟩
       have s3:=(Same.new (o:=.lst (bs.map V.str)) hD).trans (Same.new (o:=.tup (bs.map V.str)) ht)
       have e3:upd (upd H2 D (.lst (bs.map V.str))) t (.tup (bs.map V.str)) t = some (.tup (bs.map V.str)):=zd
       generalize upd (upd H2 D (.lst (bs.map V.str))) t (.tup (bs.map V.str)) = H3 at s3 e3 ⊢
       have sH:=(s1.trans s2).trans s3
       have rvars:RT H3 (.ref t) (.tup (bs.map T.txt)):=by
        refine RTs.rt ⟨by rw [List.length_map,List.length_map],fun i v t a b=>?_⟩ e3
        rw [List.getElem?_map] at a b
        obtain ⟨z,hz,rfl⟩:=Option.map_eq_some_iff.mp a
        rw [hz] at b
        cases b
        exact .txt z
       dsimp only [ZI,tRet]
       refine zmi (G:=∃ ps,goO rdE ty = some ps) (bs:=((goO rdE ty).getD []).map Rl.toT) (zng (znf (zmc (zlf (i:=1) rfl (.txt (woS d))) zne) (by show 1<=1000; decide)) (zlf (i:=3) rfl rvars) (by simp) (by rw [List.length_map]; show 1 + _<=300000; omega)) ?_ (by simp) (fun hG=>?_) (fun hG v H4 s4 rv=>?_)
       ·intro G R sG hR
        refine ⟨_,rfl,_,rfl,_,rfl,a,_,rfl,SqT.of (sG _ _ (sH _ _ ea)),zbh _ _ (bcnt d) _,fun p5 hp5=>?_⟩
        rw [hcd]
        have s5:=Same.new (o:=.tup ys) hp5
        have e5:upd G p5 (.tup ys) p5 = some (.tup ys):=zd
        generalize upd G p5 (.tup ys) = H5 at s5 e5 ⊢
        refine ⟨p5,rfl,⟨_,SqT.of e5⟩,?_⟩
        refine zhd (vs:=ys) (fun i zs H6=>Same H5 H6/\∃ ps,goO rdE (ty.take i) = some ps/\RTs H6 zs (ps.map Rl.toT)/\i<=ty.length) (small (by rw [rY.len]; omega)) ⟨Same.refl _,[],by rw [List.take_zero,goO],RTs.nil,Nat.zero_le _⟩ (fun i zs H6 h=>by obtain ⟨_,ps,h1,h2,h3⟩:=h; rw [h2.1,List.length_map,zbT h1,List.length_take]; omega) (fun i zs H6 h=>SqT.of (h.1 _ _ e5)) (fun i x zs H6 R hx hP hR=>?_) (fun zs H6 D hP hD=>?_)
        ·obtain ⟨s6,ps,hps,rz,hi⟩:=hP
         have hi2:i < ty.length:=by rw [← rY.len]; exact (List.getElem?_eq_some_iff.mp hx).1
         have ht:ty[i]? = some ty[i]:=List.getElem?_eq_getElem hi2
         have hm:=List.mem_of_getElem? ht
         have sA:=((sH.trans sG).trans s5).trans s6
         refine ⟨_,rfl,x,ty[i],rfl,(rY.at' i x _ hx ht).mono (zJ sA),szY _ hm,dpY _ hm,hn,fun e he u H7 s7 ru=>hR _ _ ⟨s6.trans s7,ps ++ [e],?_,?_,hi2⟩,fun he H7 s7=>qe (by rw [zcQ hm he]; rfl) H7 (sA.trans s7)⟩
         ·rw [zV ht]
          exact zeE hps he
         ·rw [List.map_append]
          exact (rz.mono s7).cat (.cons ru .nil)
        ·obtain ⟨s6,ps,hps,rz,_⟩:=hP
         rw [rY.len,List.take_length] at hps
         rw [hps] at hR
         refine ⟨D,_,rfl,.inl ⟨SqL.of zd,fun t ht=>?_⟩⟩
         have s7:=(Same.new (o:=.lst zs) hD).trans (Same.new (o:=.tup zs) ht)
         exact hR ⟨ps,rfl⟩ _ _ ((s5.trans s6).trans s7) ((rz.mono s7).rt zd)
       ·obtain ⟨ps,hps⟩:=hG
        rw [hps,List.length_append,List.length_map,List.length_map]
        have:=zbT hps
        show 1 + _ + ps.length<=300000
        omega
       ·obtain ⟨ps,hps⟩:=hG
        rw [hps] at q rv
        refine q _ rfl v H4 (sH.trans s4) ?_
        rw [zad]
        exact rv
theorem zbk:FnScope ["tree"] ["tree"] (zl Zl):=⟨rfl,rfl,rfl,by decide +kernel,rfl,by decide +kernel,by decide +kernel⟩
theorem zbl (F:Fun K "expression_of_tree" "expression_of_tree" Zl f fd) (G_number_of:Zy P w K mg base "number_of" k ["word"] (zey zN)) (G_is_variable:Have P w K mg base "is_variable" k ["thing"] (zcp)) (G_bracketed:Zy P w K mg base "bracketed" k ["trees"] (zkR zN n)):FnOk P w K mg base (CX1 P w) (k + 1) f fd ["tree"] (zdT zN (n + 1)):=by
 refine F.okX zbk (fun vs H Q E h=>?_) (fun cdv A outer s H vs Q E hr h=>?_)
 ·obtain ⟨v,x,rfl,_⟩:=h
  rfl
 obtain ⟨v,x,rfl,rt,sz,hd,hn,q,qe⟩:=h
 refine ⟨_,(zb (zB (zj zS (zy zF (pv 0) zf (fun _ _=>rfl)) ze (nomark _)) (zg (zo (ZW G_bracketed hr zaf rfl (za (zy zF (pv 0) zf (fun _ _=>rfl)) zc)))) zq)
  (zb (zB (zj zS (zy zF (pv 0) zf (fun _ _=>rfl)) ze (nomark _)) (zg (zo (zP (za ze (za (zy zF (pv 0) zf (fun _ _=>rfl)) zc))))) zq)
  (zb (zB (zW (zw G_is_variable hr rfl (za (zy zF (pv 0) zf (fun _ _=>rfl)) zc))) (zg (zo (zP (za ze (za (zy zF (pv 0) zf (fun _ _=>rfl)) zc))))) zq)
  (zg (zo (zP (za ze (za (ZW G_number_of hr zaf rfl (za (zy zF (pv 0) zf (fun _ _=>rfl)) zc)) zc)))))))),?_⟩
 cases rt with
 | @word a z e=>
  rw [Tr.Sz] at sz
  have szl:(⟨z.toArray⟩:Str).length<=100000:=by rw [← zt]; exact sz
  refine ⟨_,rfl,a,_,0,_,rfl,rfl,SqT.of e,rfl,rfl,_,rfl,?_⟩
  rw [dWL]
  refine iteF ⟨_,rfl,a,_,0,_,rfl,rfl,SqT.of e,rfl,rfl,_,rfl,?_⟩
  rw [dWT]
  rw [rdE] at q qe
  refine iteF ⟨_,rfl,a,_,1,_,rfl,rfl,SqT.of e,rfl,_,.txt ⟨z.toArray⟩,rfl,.txt _,szl,fun H1 s1=>?_⟩
  cases hv:zR (.txt ⟨z.toArray⟩) with
  | true=>
   rw [if_pos (show vrB z = true from hv)] at q
   refine ⟨_,rfl,iteT ⟨_,rfl,a,_,1,_,rfl,rfl,SqT.of (s1 _ _ e),rfl,zl2,fun p hp=>q _ rfl _ _ (s1.trans (Same.new hp)) ?_⟩⟩
   rw [ZX]
   exact (RTs.cons (.txt _) (.cons (.txt _) .nil)).rt zd
  | false=>
   rw [if_neg (by rw [show vrB z = false from hv]; decide)] at q qe
   refine ⟨_,rfl,iteF ⟨_,rfl,a,_,1,_,rfl,rfl,SqT.of (s1 _ _ e),rfl,_,rfl,szl,fun hb H2 s2=>⟨zl2,fun p hp=>q _ (by rw [if_pos (show numB z = true from hb)]) _ _ ((s1.trans s2).trans (Same.new hp)) ?_⟩,fun hb H2 s2=>qe (by rw [if_neg (by rw [show numB z = false from hb]; decide)]) _ (s1.trans s2)⟩⟩
   rw [Zi]
   exact (RTs.cons (.txt _) (.cons (.num _) .nil)).rt zd
 | @txt a z e=>
  refine ⟨_,rfl,a,_,0,_,rfl,rfl,SqT.of e,rfl,rfl,_,rfl,?_⟩
  rw [dTL]
  refine iteF ⟨_,rfl,a,_,0,_,rfl,rfl,SqT.of e,rfl,rfl,_,rfl,?_⟩
  rw [decide_eq_true rfl]
  rw [rdE] at q
  refine iteT ⟨_,rfl,a,_,1,_,rfl,rfl,SqT.of e,rfl,zl2,fun p hp=>q _ rfl _ _ (Same.new hp) ?_⟩
  rw [Zi]
  exact (RTs.cons (.txt _) (.cons (.txt _) .nil)).rt zd
 | @lst a b vs ts e e2 l at'=>
  rw [Tr.Sz] at sz
  rw [Tr.deep] at hd
  refine ⟨_,rfl,a,_,0,_,rfl,rfl,SqT.of e,rfl,rfl,_,rfl,?_⟩
  rw [decide_eq_true rfl]
  exact iteT ⟨_,rfl,a,_,1,_,rfl,rfl,SqT.of e,rfl,b,vs,ts,rfl,e2,⟨l,at'⟩,sz.1,sz.2,by omega,by omega,q,qe⟩
def Rule (r:Rl):Prop:=r.Gd/\r.high<=12/\r.many<=60/\unb [] r = []/\r.rep<=2
theorem Rule.rt {r:Rl} (h:Rule r):zkL r.toT:=⟨r,rfl,h⟩
mutual
def RSh:Rl->Prop
 | .lit _=>True
 | .var s=>Vr s
 | .op d bs ps=>wLit d = false/\wVar d = false/\(bs.length = bcnt d\/(bs.length < bcnt d/\ps = []))/\RShs ps
def RShs:List Rl->Prop
 | []=>True
 | p :: r=>RSh p/\RShs r
end
theorem zjC:∀ {ps:List Rl},(∀ p∈ps,RSh p)->RShs ps
 | [],_=>by rw [RShs]; trivial
 | p :: r,h=>by rw [RShs]; exact ⟨h p (by simp),zjC fun q hq=>h q (List.mem_cons_of_mem _ hq)⟩
mutual
theorem zjD:∀ {r q:Rl},RSh r->q.Gd->r.toT = q.toT->r = q
 | .lit x,q,g,g2,h=>by
  cases q with
  | lit y=>
   rw [Zi,Zi] at h
   injection h with h
   injection h with _ h
   injection h with h _
   rw [W.toT_inj h]
  | var s=>rw [Zi,ZX] at h; injection h with h; injection h with h _; injection h with h; exact absurd (ZD (d:=.lit) (d':=.var) h) (fun z=>nomatch z)
  | op d bs ps=>
   rw [Zi,zad] at h
   injection h with h
   injection h with h _
   injection h with h
   rw [Rl.Gd] at g2
   have:=g2.1.1
   rw [← ZD (d:=.lit) (d':=d) h] at this
   cases this
 | .var s,q,g,g2,h=>by
  rw [RSh] at g
  exact Rl.toT_inj (r:=.var s) (by rw [Rl.Gd]; exact g) g2 h
 | .op d bs ps,q,g,g2,h=>by
  rw [RSh] at g
  cases q with
  | lit x=>
   rw [Zi,zad] at h
   injection h with h
   injection h with h _
   injection h with h
   have:=g.1
   rw [ZD (d:=d) (d':=.lit) h] at this
   cases this
  | var s=>
   rw [ZX,zad] at h
   injection h with h
   injection h with h _
   injection h with h
   have:=g.2.1
   rw [ZD (d:=d) (d':=.var) h] at this
   cases this
  | op d' bs' ps'=>
   rw [Rl.Gd] at g2
   rw [zad,zad] at h
   injection h with h
   injection h with h1 h2
   injection h1 with h1
   obtain rfl:=ZD h1
   have hb:bs.length = bs'.length:=by
    rcases g.2.2.1 with e | ⟨e,rfl⟩
    ·rw [e,g2.1.2.2.1]
    ·have:=congrArg List.length h2
     rw [List.length_append,List.length_append,List.length_map,List.length_map,List.length_map,List.length_map,g2.1.2.2.1,List.length_nil] at this
     omega
   obtain ⟨h3,h4⟩:=List.append_inj h2 (by rw [List.length_map,List.length_map,hb])
   rw [zen h3,shps_inj g.2.2.2 g2.2 h4]
theorem shps_inj:∀ {ps qs:List Rl},RShs ps->Gds qs->ps.map Rl.toT = qs.map Rl.toT->ps = qs
 | [],qs,_,_,h=>by cases qs with
  | nil=>rfl
  | cons _ _=>cases h
 | p :: ps,qs,g,g2,h=>by
  cases qs with
  | nil=>cases h
  | cons q qs=>
   rw [RShs] at g
   rw [Gds] at g2
   rw [List.map_cons,List.map_cons] at h
   injection h with h1 h2
   rw [zjD g.1 g2.1 h1,shps_inj g.2 g2.2 h2]
end
theorem zjE {r:Rl} (h:RSh r):zkL r.toT ↔ Rule r:=⟨fun ⟨q,e,g⟩=>by
 obtain rfl:=zjD h g.1 e
 exact g,Rule.rt⟩
theorem zgg {α β:Type}{f:α->Option β}:∀ {ts:List α}{ws:List β},goO f ts = some ws->∀ w∈ws,∃ t∈ts,f t = some w
 | [],ws,h,w,hw=>by rw [goO] at h; cases h; cases hw
 | x :: r,ws,h,w,hw=>by
  rw [goO] at h
  obtain ⟨y,hy,h⟩:=Option.bind_eq_some_iff.mp h
  obtain ⟨ys,hys,rfl⟩:=Option.map_eq_some_iff.mp h
  rcases List.mem_cons.mp hw with rfl | hw
  ·exact ⟨x,by simp,hy⟩
  ·obtain ⟨t,ht,e⟩:=zgg hys w hw
   exact ⟨t,List.mem_cons_of_mem _ ht,e⟩
theorem zmj {t:Tr}{z:Str} (h:varO t = some z):Vr z:=by
 cases t with
 | word q=>
  rw [varO] at h
  split at h
  ·rename_i hv
   cases h
   exact zO.mp hv
  ·cases h
 | txt q=>cases h
 | lst ts=>cases h
mutual
theorem zlh:∀ (x:Tr) (r:Rl),x.Sz->rdE x = some r->RSh r/\r.toT.Sm
 | .word q,r,sz,h=>by
  rw [rdE] at h
  rw [Tr.Sz] at sz
  split at h
  ·rename_i hv
   cases h
   have hv:=zO.mp hv
   refine ⟨by rw [RSh]; exact hv,?_⟩
   rw [ZX]
   have:=hv.2.1
   exact ⟨by show 2<=100000; decide,(by show (Str.ofString "var").length<=100000; decide +kernel),(by show (⟨q.toArray⟩:Str).length<=100000; omega),trivial⟩
  ·split at h
   ·cases h
    refine ⟨by rw [RSh]; trivial,?_⟩
    rw [Zi]
    exact ⟨by show 2<=100000; decide,(by show (Str.ofString "lit").length<=100000; decide +kernel),trivial,trivial⟩
   ·cases h
 | .txt q,r,sz,h=>by
  rw [rdE] at h
  cases h
  rw [Tr.Sz] at sz
  refine ⟨by rw [RSh]; trivial,?_⟩
  rw [Zi]
  exact ⟨by show 2<=100000; decide,(by show (Str.ofString "lit").length<=100000; decide +kernel),(by show (⟨q.toArray⟩:Str).length<=100000; rw [← zt]; exact sz),trivial⟩
 | .lst ts,r,sz,h=>by
  rw [Tr.Sz] at sz
  have ih:=rds_shp ts sz.2
  match ts,sz,ih,h with
  | [],_,_,h=>rw [zjA] at h; cases h
  | .txt q :: l,_,_,h=>rw [zjB] at h; cases h
  | .lst q :: l,_,_,h=>rw [zhg] at h; cases h
  | .word q :: l,sz,ih,h=>
   rw [zbU] at h
   obtain ⟨d,hd,h⟩:=Option.bind_eq_some_iff.mp h
   rw [TrSzs] at sz
   split at h
   ·obtain ⟨x,hx,rfl⟩:=Option.map_eq_some_iff.mp h
    refine ⟨by rw [RSh]; trivial,?_⟩
    rw [Zi]
    refine ⟨by show 2<=100000; decide,(by show (Str.ofString "lit").length<=100000; decide +kernel),?_,trivial⟩
    match l,hx,sz with
    | [.lst xs],hx,sz=>
     rw [litO] at hx
     have:=sz.2.2
     rw [TrSzs] at this
     exact zlg _ _ this.1 hx
   ·rename_i hlv
    split at h
    ·cases h
    ·rename_i hvv
     obtain ⟨bs,hbs,h⟩:=Option.bind_eq_some_iff.mp h
     obtain ⟨ps,hps,rfl⟩:=Option.map_eq_some_iff.mp h
     have l1:=zbT hbs
     have l2:=zbT hps
     rw [List.length_take] at l1
     rw [List.length_drop] at l2
     rw [List.length_cons] at sz
     have hmem:∀ p∈ps,RSh p/\p.toT.Sm:=fun p hp=>by
      obtain ⟨t,ht,e⟩:=zgg hps p hp
      exact ih t (List.mem_cons_of_mem _ (List.mem_of_mem_drop ht)) p e
     refine ⟨?_,?_⟩
     ·rw [RSh]
      refine ⟨by simpa using hlv,by simpa using hvv,?_,zjC fun p hp=>(hmem p hp).1⟩
      by_cases hb:bcnt d<=l.length
      ·exact .inl (by omega)
      ·exact .inr ⟨by omega,List.length_eq_zero_iff.mp (by omega)⟩
     ·rw [zad]
      refine ⟨?_,?_,zjj fun y hy=>?_⟩
      ·rw [List.length_cons,List.length_append,List.length_map,List.length_map]; omega
      ·show (woS d).length<=100000
       cases d <;> decide +kernel
      ·rcases List.mem_append.mp hy with hy | hy
       ·obtain ⟨z,hz,rfl⟩:=List.mem_map.mp hy
        obtain ⟨t,_,ht⟩:=zgg hbs z hz
        have:=(zmj ht).2.1
        show z.length<=100000
        omega
       ·obtain ⟨p,hp,rfl⟩:=List.mem_map.mp hy
        exact (hmem p hp).2
theorem rds_shp:∀ (ts:List Tr),TrSzs ts->∀ t∈ts,∀ r,rdE t = some r->RSh r/\r.toT.Sm
 | [],_,t,ht=>nomatch ht
 | x :: l,sz,t,ht=>by
  rw [TrSzs] at sz
  rcases List.mem_cons.mp ht with e | ht
  ·rw [e]; exact fun r h=>zlh x r sz.1 h
  ·exact rds_shp l sz.2 t ht
end
def exO (O:Option (List Pc)):Option Rl:=((O.bind trsO).bind oneO).bind rdE
def zcq (AN:Addr):Sp:=fun vs H Q E=>∃ (v:V) (x:Tr),vs = [v]/\RTr H v x/\x.Sz/\x.deep < 101/\(∀ r,rdE x = some r->Rule r->∀ (u:V) (H':Hp),Same H H'->RT H' u r.toT->Q u H')/\((∀ r,rdE x = some r->¬ Rule r)->∀ H',Same H H'->E (.ref AN) none H')
def zeF (AN:Addr):Sp:=fun vs H Q E=>∃ (t:Str) (O:Option (List Pc)),vs = [.str t]/\SpellO t.cps.toList O/\t.length<=100000/\(∀ r,exO O = some r->Rule r->∀ (u:V) (H':Hp),Same H H'->RT H' u r.toT->Q u H')/\((∀ r,exO O = some r->¬ Rule r)->∀ H',Same H H'->E (.ref AN) none H')
theorem zbm:FnScope ["tree","expression"] ["tree"] (zl Z5):=⟨rfl,rfl,rfl,by decide +kernel,rfl,by decide +kernel,by decide +kernel⟩
theorem zds (F:Fun K "rule_of_tree" "rule_of_tree" Z5 f fd) (G_is_rule:Have P w K mg base "is_rule" k ["thing"] (zeo)) (G_expression_of_tree:Zy P w K mg base "expression_of_tree" k ["tree"] (zdT zN 101)) (x_NoText:excIn K zN vErr "ValueError.__new__" = true) (c_NoText:mg "NoText" = some (.ref zN)):FnOk P w K mg base (CX1 P w) (k + 1) f fd ["tree"] (zcq zN):=by
 refine F.okX zbm (fun vs H Q E h=>?_) (fun cdv A outer s H vs Q E hr h=>?_)
 ·obtain ⟨v,x,rfl,_⟩:=h
  rfl
 obtain ⟨v,x,rfl,rt,sz,hd,q,qe⟩:=h
 refine ⟨_,(zb (zn (i:=1) zbm.nd rfl (Or.inl rfl) (ZW G_expression_of_tree hr zaf rfl (za (pv 0) zc)))
  (zb (zB (ZP (zW (zw G_is_rule hr rfl (za (pv 1) zc)))) (zg (Zz zaf rfl x_NoText c_NoText rfl (za ze zc))) zq)
  (zg (zo (pv 1))))),?_⟩
 refine ⟨_,rfl,v,x,rfl,rt,sz,hd,by omega,fun r hr u H1 s1 ru=>?_,fun hn H1 s1=>qe (fun r hr=>by rw [hn] at hr; cases hr) _ s1⟩
 have g:=zlh x r sz hr
 refine ⟨_,rfl,u,r.toT,rfl,ru,g.2,fun b H2 s2 h1 h2=>?_⟩
 cases b with
 | false=>exact ⟨_,rfl,iteT ⟨zl1,qe (fun r' hr' hru=>by rw [hr] at hr'; cases hr'; exact h2 rfl hru.rt) _ (s1.trans s2)⟩⟩
 | true=>exact ⟨_,rfl,iteF ⟨_,rfl,q r hr ((zjE g.1).mp (h1 rfl)) u H2 (s1.trans s2) (ru.mono s2)⟩⟩
theorem zfC:FnScope ["text"] ["text"] (zl zaV):=⟨rfl,rfl,rfl,by decide +kernel,rfl,by decide +kernel,by decide +kernel⟩
theorem zfD (F:Fun K "read_rule" "read_rule" zaV f fd) (G_rule_of_tree:Zy P w K mg base "rule_of_tree" k ["tree"] (zcq zN)) (G_only_tree:Zy P w K mg base "only_tree" k ["text"] (zjn zN)):FnOk P w K mg base (CX1 P w) (k + 1) f fd ["text"] (zeF zN):=by
 refine F.okX zfC (fun vs H Q E h=>?_) (fun cdv A outer s H vs Q E hr h=>?_)
 ·obtain ⟨t,O,rfl,_⟩:=h
  rfl
 obtain ⟨t,O,rfl,hs,hz,q,qe⟩:=h
 refine ⟨_,(zg (zo (ZW G_rule_of_tree hr zaf rfl (za (ZW G_only_tree hr zaf rfl (za (pv 0) zc)) zc)))),?_⟩
 refine ⟨_,rfl,t,O,rfl,hs,hz,fun x hx v H1 s1 rt=>?_,fun hn H1 s1=>qe (fun r hr=>by unfold exO at hr; rw [hn] at hr; cases hr) _ s1⟩
 have hg:=zni hs (by rw [zt]; exact hz) hx
 have hr:exO O = rdE x:=by unfold exO; rw [hx]; rfl
 rw [hr] at q qe
 exact ⟨v,x,rfl,rt,hg.1,by omega,fun r hr hru u H2 s2 ru=>q r hr hru u H2 (s1.trans s2) ru,fun hn H2 s2=>qe hn H2 (s1.trans s2)⟩
end
end D
namespace L2
open PySem PySem.Spec PyProof.Rows
theorem ZK {X:Cx}:OpR X (binaryOp .Mult) (fun x y H Q=>∃ (z:Str) (k:Int),x = .str z/\y = .int k/\z.length<=1000/\1<=k/\k < 1000/\Q (.str (PySem.Txt.mul z k)) H):=by
 intro zp s σ H x y v u Q I rx ry h
 obtain ⟨z,k,rfl,rfl,hz,hk1,hk2,q⟩:=h
 obtain ⟨t,rfl⟩:=rx
 obtain ⟨t',rfl⟩:=ry
 have hmul:z.length * k.toNat<=1000000:=Nat.le_trans (Nat.mul_le_mul hz (show k.toNat<=1000 by omega)) (by decide)
 have hok:MulOk z k:=by
  refine ⟨?_,fun _ _=>?_,fun _ _=>?_⟩
  ·have e1:decide (k < -(2 ^ 63:Int)) = false:=decide_eq_false (by omega)
   have e2:decide (k ≥ 2 ^ 63) = false:=decide_eq_false (by omega)
   rw [e1,e2]; rfl
  ·have:(1000000:Int)<=(2 ^ 63 - 1) / k:=by
    rw [Int.le_ediv_iff_mul_le (by omega)]
    omega
   omega
  ·have hs:(1000000:Nat)<=sizeLine:=by decide
   show decide (z.length * k.toNat > sizeLine) = false
   exact decide_eq_false (by omega)
 exact PySem.SB.mul hok fun t' tk=>⟨.str _,H,I.tok tk,⟨_,rfl⟩,q⟩
end L2
namespace D
open PySem L2
def qcut:List Nat->Option (List Nat × List Nat)
 | []=>none
 | c :: r=>if c = 34 then some ([],r) else (qcut r).map fun p=>(c :: p.1,p.2)
def wcut:List Nat->List Nat × List Nat
 | []=>([],[])
 | c :: r=>if zab c = true then ([],c :: r) else (c :: (wcut r).1,(wcut r).2)
def spF:Nat->List Nat->Option (List Pc)
 | 0,_=>some []
 | _ + 1,[]=>some []
 | n + 1,c :: r=>if c = 32\/c = 10 then spF n r else if c = 40 then (spF n r).map (Pc.op :: ·) else if c = 41 then (spF n r).map (Pc.cl :: ·)
   else if c = 34 then (match qcut r with
    | some p=>(spF n p.2).map (Pc.txt p.1 :: ·)
    | none=>none)
   else (spF n (wcut r).2).map (Pc.word (c :: (wcut r).1) :: ·)
theorem zfE:∀ {r:List Nat},qcut r = none->∀ c∈r,c≠34
 | [],_,c,hc=>nomatch hc
 | d :: r,h,c,hc=>by
  rw [qcut] at h
  split at h
  ·cases h
  ·rename_i hd
   rcases List.mem_cons.mp hc with rfl | hc
   ·exact hd
   ·exact zfE (Option.map_eq_none_iff.mp h) c hc
theorem zfF:∀ {r:List Nat}{p:List Nat × List Nat},qcut r = some p->r = p.1 ++ 34 :: p.2/\∀ c∈p.1,c≠34
 | [],p,h=>nomatch h
 | d :: r,p,h=>by
  rw [qcut] at h
  split at h
  ·rename_i hd
   cases h
   exact ⟨by rw [hd]; rfl,fun c hc=>nomatch hc⟩
  ·rename_i hd
   obtain ⟨p',hp',rfl⟩:=Option.map_eq_some_iff.mp h
   obtain ⟨e,hc⟩:=zfF hp'
   exact ⟨by rw [e]; rfl,fun c h=>by
    rcases List.mem_cons.mp h with rfl | h
    ·exact hd
    ·exact hc c h⟩
theorem zjF:∀ r:List Nat,r = (wcut r).1 ++ (wcut r).2/\(∀ d∈(wcut r).1,zab d = false)/\Cut (wcut r).2
 | []=>⟨rfl,(fun d hd=>nomatch hd),zf3⟩
 | c :: r=>by
  obtain ⟨h1,h2,h3⟩:=zjF r
  rw [wcut]
  cases hc:zab c with
  | true=>
   rw [if_pos rfl]
   exact ⟨rfl,(fun d hd=>nomatch hd),fun d s e=>by cases e; exact hc⟩
  | false=>
   rw [if_neg (by decide)]
   exact ⟨by rw [List.cons_append,← h1],fun d hd=>by
    rcases List.mem_cons.mp hd with rfl | hd
    ·exact hc
    ·exact h2 d hd,h3⟩
theorem zli:∀ (n:Nat) (t:List Nat),t.length<=n->SpellO t (spF n t):=by
 intro n
 induction n with
 | zero=>
  intro t h
  obtain rfl:t = []:=List.length_eq_zero_iff.mp (by omega)
  exact .nil
 | succ n ih=>
  intro t h
  cases t with
  | nil=>exact .nil
  | cons c r=>
   rw [List.length_cons] at h
   rw [spF]
   by_cases h1:c = 32\/c = 10
   ·rw [if_pos h1]
    exact .gap h1 (ih r (by omega))
   rw [if_neg h1]
   by_cases h2:c = 40
   ·rw [if_pos h2,h2]
    exact .op (ih r (by omega))
   rw [if_neg h2]
   by_cases h3:c = 41
   ·rw [if_pos h3,h3]
    exact .cl (ih r (by omega))
   rw [if_neg h3]
   by_cases h4:c = 34
   ·rw [if_pos h4,h4]
    cases hq:qcut r with
    | none=>exact .bad (zfE hq)
    | some p=>
     obtain ⟨e,hc⟩:=zfF hq
     have hl:=congrArg List.length e
     rw [List.length_append,List.length_cons] at hl
     have:=SpellO.txt hc (ih p.2 (by omega))
     rw [← e] at this
     exact this
   rw [if_neg h4]
   obtain ⟨e,hw,hcut⟩:=zjF r
   have hl:=congrArg List.length e
   rw [List.length_append] at hl
   have he:zab c = false:=by
    rw [not_or] at h1
    unfold zab
    simp [h1.1,h1.2,h2,h3,h4]
   have:=SpellO.word he hw hcut (ih (wcut r).2 (by omega))
   rw [← e] at this
   exact this
mutual
def gdB:Rl->Bool
 | .lit x=>Zp x.toT
 | .var s=>zR (.txt s)
 | .op d bs ps=>!wLit d && (!wVar d && (decide (bs.length = bcnt d) && (bs.all (fun z=>zR (.txt z)) && (decide bs.Nodup && ((if zaA d = true then decide (ps.length<=8) else decide (ps.length = pcnt d)) && gdBs ps)))))
def gdBs:List Rl->Bool
 | []=>true
 | p :: r=>gdB p && gdBs r
end
mutual
theorem zjG:∀ r:Rl,gdB r = true ↔ r.Gd
 | .lit x=>by
  rw [gdB,Rl.Gd]
  refine ⟨fun h=>?_,fun h=>zji h.1 h.2.1 h.2.2⟩
  obtain ⟨y,e,h1,h2,h3⟩:=zjg h
  rw [W.toT_inj e]
  exact ⟨h1,h2,h3⟩
 | .var s=>by rw [gdB,Rl.Gd]; exact zO
 | .op d bs ps=>by
  rw [gdB,Rl.Gd]
  simp only [Bool.and_eq_true,decide_eq_true_eq,List.all_eq_true,Bool.not_eq_true',gdBs_iff ps]
  have hc:(if zaA d = true then decide (ps.length<=8) else decide (ps.length = pcnt d)) = true ↔ Cnt d ps.length:=by
   cases hl:zaA d with
   | true=>rw [if_pos rfl,decide_eq_true_iff]; exact ⟨fun h=>⟨fun _=>h,fun z=>by rw [hl] at z; cases z⟩,fun h=>h.1 hl⟩
   | false=>rw [if_neg (by decide),decide_eq_true_iff]; exact ⟨fun h=>⟨fun z=>(by rw [hl] at z; cases z),fun _=>h⟩,fun h=>h.2 hl⟩
  rw [hc]
  exact ⟨fun ⟨a,b,c,e,f,g,i⟩=>⟨⟨a,b,c,fun z hz=>zO.mp (e z hz),f,g⟩,i⟩,fun ⟨⟨a,b,c,e,f,g⟩,i⟩=>⟨a,b,c,fun z hz=>zO.mpr (e z hz),f,g,i⟩⟩
theorem gdBs_iff:∀ ps:List Rl,gdBs ps = true ↔ Gds ps
 | []=>by rw [gdBs,Gds]; simp
 | p :: r=>by rw [gdBs,Gds,Bool.and_eq_true,zjG p,gdBs_iff r]
end
def zgh (r:Rl):Bool:=gdB r && (decide (r.high<=12) && (decide (r.many<=60) && (decide (unb [] r = []) && decide (r.rep<=2))))
theorem zfG (r:Rl):zgh r = true ↔ Rule r:=by
 unfold zgh Rule
 simp only [Bool.and_eq_true,decide_eq_true_eq,zjG]
def zmk (t:List Nat):Bool:=match exO (spF t.length t) with
 | some r=>zgh r
 | none=>false
def NoR (z:Str):Prop:=z.length<=100000/\∃ O,SpellO z.cps.toList O/\∀ r,exO O = some r->¬ Rule r
def IsR (z:Str) (d:Wo):Prop:=z.length<=100000/\∃ O r,SpellO z.cps.toList O/\exO O = some r/\Rule r/\∃ l,r.toT = .tup (.txt (woS d) :: l)
def zcH:Rl->Wo
 | .lit _=>.lit
 | .var _=>.var
 | .op d _ _=>d
def badB (z:Str):Bool:=decide (z.length<=100000) && !zmk z.cps.toList
theorem znF {z:Str} (h:badB z = true):NoR z:=by
 unfold badB zmk at h
 rw [Bool.and_eq_true,decide_eq_true_iff] at h
 refine ⟨h.1,_,zli _ _ (Nat.le_refl _),fun r hr hru=>?_⟩
 have h2:=h.2
 rw [hr] at h2
 have:=(zfG r).mpr hru
 dsimp only at h2
 rw [this] at h2
 cases h2
def zml (z:Str):Option Wo:=if z.length<=100000 then (match exO (spF z.cps.toList.length z.cps.toList) with
 | some r=>if zgh r = true then some (zcH r) else none
 | none=>none) else none
theorem znG {z:Str}{d:Wo} (h:zml z = some d):IsR z d:=by
 unfold zml at h
 split at h
 ·rename_i hl
  cases he:exO (spF z.cps.toList.length z.cps.toList) with
  | none=>rw [he] at h; cases h
  | some r=>
   rw [he] at h
   dsimp only at h
   split at h
   ·rename_i hr
    cases h
    refine ⟨hl,_,r,zli _ _ (Nat.le_refl _),he,(zfG r).mp hr,?_⟩
    cases r with
    | lit x=>exact ⟨_,Zi x⟩
    | var s=>exact ⟨_,ZX s⟩
    | op d bs ps=>exact ⟨_,zad d bs ps⟩
   ·cases h
 ·cases h
theorem zhh (x:Str) (n:Int):(Txt.mul x n).cps.toList = (List.replicate n.toNat x.cps.toList).flatten:=by
 have fold:∀ (k:Nat) (acc:Array Nat),((List.replicate k x.cps).foldl (· ++ ·) acc).toList = acc.toList ++ (List.replicate k x.cps.toList).flatten:=fun k=>by
  induction k with
  | zero=>intro acc; simp
  | succ k ih=>
   intro acc
   rw [List.replicate_succ,List.foldl_cons,ih]
   simp [List.replicate_succ]
 unfold Txt.mul
 by_cases h1:n < 1
 ·rw [if_pos h1]
  have e:n.toNat = 0:=by omega
  rw [e]; rfl
 ·rw [if_neg h1]
  split
  ·rename_i h2
   rw [Bool.or_eq_true] at h2
   rcases h2 with h2 | h2
   ·have:n = 1:=by simpa using h2
    subst this
    simp
   ·have:x.cps.toList = []:=List.length_eq_zero_iff.mp (by rw [zt]; simpa using h2)
    rw [this]
    simp
  ·show ((List.replicate n.toNat x.cps).foldl (· ++ ·) #[]).toList = _
   rw [fold]
   simp
theorem zjH (ws:List Str):(Txt.join (Str.ofString "(") (Str.ofString "" :: ws)).cps.toList = (ws.map fun y=>40 :: y.cps.toList).flatten:=by
 have fold:∀ (r:List Str) (acc:Array Nat),(r.foldl (fun acc p=>acc ++ (Str.ofString "(").cps ++ p.cps) acc).toList = acc.toList ++ (r.map fun y=>40 :: y.cps.toList).flatten:=fun r=>by
  induction r with
  | nil=>intro acc; simp
  | cons c r ih=>
   intro acc
   rw [List.foldl_cons,ih]
   have e0:(Str.ofString "(").cps.toList = [40]:=by decide +kernel
   simp [e0]
 show (ws.foldl (fun acc p=>acc ++ (Str.ofString "(").cps ++ p.cps) (Str.ofString "").cps).toList = _
 rw [fold]
 have e0:(Str.ofString "").cps.toList = []:=by decide +kernel
 rw [e0]
 rfl
def YL (te:TE) (σ:St) (H:Hp) (l:List Nat):Prop:=∀ (H1:Hp) (Q:VK),Same H H1->(∀ (z:Str) (H2:Hp),z.cps.toList = l->Same H1 H2->Q (.str z) H2)->te σ H1 Q
theorem yl_c {σ:St}{H:Hp}{z:Str}{l:List Nat} (e:z.cps.toList = l):YL (tC (.str z)) σ H l:=fun H1 Q s q=>q z H1 e (Same.refl _)
theorem zjI {σ:St}{H:Hp}{i:Nat}{z:Str}{l:List Nat} (e:σ[i]? = some (some (.str z))) (h:z.cps.toList = l):YL (tVar i) σ H l:=fun H1 Q s q=>⟨_,e,q z H1 h (Same.refl _)⟩
theorem Zc {σ:St}{H:Hp}{x y:TE}{l m:List Nat} (h:YL x σ H l) (g:YL y σ H m) (hn:l.length + m.length<=1000000):YL (tOp (fun x y H Q=>∃ i j,x = .str i/\y = .str j/\i.length + j.length<=sizeLine/\Q (.str (i ++ j)) H) x y) σ H (l ++ m):=fun H1 Q s q=>
 h H1 _ s fun z H2 hz s2=>g H2 _ (s.trans s2) fun w H3 hw s3=>⟨z,w,rfl,rfl,small (by rw [← zt,← zt,hz,hw]; exact hn),q _ H3 (by rw [Zf,hz,hw]) (s2.trans s3)⟩
theorem zax {σ:St}{H:Hp}{x:TE}{l:List Nat}{k:Int} (h:YL x σ H l) (hl:l.length<=1000) (h2:1<=k) (h3:k < 1000):YL (tOp (fun x y H Q=>∃ (z:Str) (k:Int),x = .str z/\y = .int k/\z.length<=1000/\1<=k/\k < 1000/\Q (.str (PySem.Txt.mul z k)) H) x (tC (.int k))) σ H (List.replicate k.toNat l).flatten:=fun H1 Q s q=>
 h H1 _ s fun z H2 hz s2=>⟨z,k,rfl,rfl,by rw [← zt,hz]; exact hl,h2,h3,q _ H2 (by rw [zhh,hz]) s2⟩
theorem YL.run {te:TE}{σ:St}{H:Hp}{Q:VK}{l:List Nat} (h:YL te σ H l) (q:∀ (z:Str) (H2:Hp),z.cps.toList = l->Same H H2->Q (.str z) H2):te σ H Q:=h H Q (Same.refl _) q
def YP (te:TE) (σ:St) (H:Hp) (P:Str->Prop):Prop:=∀ (H1:Hp) (Q:VK),Same H H1->(∀ (z:Str) (H2:Hp),P z->Same H1 H2->Q (.str z) H2)->te σ H1 Q
def YPs (ta:TA) (σ:St) (H:Hp) (k:Nat) (P:Str->Prop):Prop:=∀ (H1:Hp) (Q:List V->Hp->Prop),Same H H1->(∀ (zs:List Str) (H2:Hp),zs.length = k->(∀ z∈zs,P z)->Same H1 H2->Q (zs.map V.str) H2)->ta σ H1 Q
theorem YL.yp {te:TE}{σ:St}{H:Hp}{l:List Nat}{P:Str->Prop} (h:YL te σ H l) (g:∀ z:Str,z.cps.toList = l->P z):YP te σ H P:=fun H1 Q s q=>h H1 Q s fun z H2 e s2=>q z H2 (g z e) s2
theorem ZY {σ:St}{H:Hp}{P:Str->Prop}:YPs tNil σ H 0 P:=fun H1 Q s q=>q [] H1 rfl (fun z hz=>nomatch hz) (Same.refl _)
theorem zm {σ:St}{H:Hp}{P:Str->Prop}{k:Nat}{te:TE}{ta:TA} (h:YP te σ H P) (g:YPs ta σ H k P):YPs (zan te ta) σ H (k + 1) P:=fun H1 Q s q=>
 h H1 _ s fun z H2 hz s2=>g H2 _ (s.trans s2) fun zs H3 hl hzs s3=>q (z :: zs) H3 (by rw [List.length_cons,hl]) (fun y hy=>by
  rcases List.mem_cons.mp hy with rfl | hy
  ·exact hz
  ·exact hzs y hy) (s2.trans s3)
theorem zfH {σ:St}{H:Hp}{P:Str->Prop}{k:Nat}{ta:TA}{Q:VK} (h:YPs ta σ H k P) (hk:k<=1000) (q:∀ (p:Addr) (zs:List Str) (H2:Hp),H p = none->Same H H2->H2 p = some (.lst (zs.map V.str))->zs.length = k->(∀ z∈zs,P z)->Q (.ref p) H2):tLst ta σ H Q:=
 h H _ (Same.refl _) fun zs H2 hl hz s=>⟨by rw [List.length_map,hl]; exact small (by omega),fun p hp=>q p zs _ (s.free hp) (s.trans (Same.new hp)) zd hl hz⟩
def badL (l:List Nat):Bool:=decide (l.length<=100000) && !zmk l
theorem zjJ {l:List Nat} (h:badL l = true) {z:Str} (e:z.cps.toList = l):NoR z:=znF (by unfold badB; rw [← zt,e]; exact h)
def zmm (l:List Nat):Bool:=decide (l.length<=100000) && (match exO (spF l.length l) with
 | some r=>zgh r && (decide (zcH r = .list) || (decide (zcH r = .count) || (decide (zcH r = .over) || (decide (zcH r = .figs) || decide (zcH r = .lit)))))
 | none=>false)
def Is5 (z:Str):Prop:=∃ d,IsR z d/\(d = .list\/d = .count\/d = .over\/d = .figs\/d = .lit)
theorem zkU {l:List Nat} (h:zmm l = true) {z:Str} (e:z.cps.toList = l):Is5 z:=by
 unfold zmm at h
 rw [Bool.and_eq_true,decide_eq_true_iff] at h
 cases he:exO (spF l.length l) with
 | none=>rw [he] at h; exact absurd h.2 (by decide)
 | some r=>
  rw [he] at h
  have h2:(zgh r && (decide (zcH r = .list) || (decide (zcH r = .count) || (decide (zcH r = .over) || (decide (zcH r = .figs) || decide (zcH r = .lit)))))) = true:=h.2
  rw [Bool.and_eq_true] at h2
  refine ⟨zcH r,znG ?_,?_⟩
  ·unfold zml
   rw [← zt,e,if_pos h.1,he]
   show (if zgh r = true then _ else _) = _
   rw [if_pos h2.1]
  ·simpa using h2.2
def zhi (ws:List (List Nat)) (l:List Nat):List Nat:=(ws.map fun y=>40 :: (y ++ [32])).flatten ++ l ++ List.replicate ws.length 41
def zcr:Sp:=fun vs H Q _=>∃ (a:Addr) (ws:List Str) (z:Str),vs = [.ref a,.str z]/\H a = some (.lst (ws.map V.str))/\1<=ws.length/\ws.length<=100/\(∀ y∈ws,y.length<=100)/\z.length<=100/\∀ (x:Str) (H':Hp),x.cps.toList = zhi (ws.map fun y=>y.cps.toList) z.cps.toList->Same H H'->Q (.str x) H'
def zeG:Sp:=fun vs H Q _=>vs = []/\∀ (p:Addr) (zs:List Str) (H':Hp),H p = none->Same H H'->H' p = some (.lst (zs.map V.str))->zs.length = 3->(∀ z∈zs,NoR z)->Q (.ref p) H'
def zeH:Sp:=fun vs H Q _=>vs = []/\∀ (p:Addr) (zs:List Str) (H':Hp),H p = none->Same H H'->H' p = some (.lst (zs.map V.str))->zs.length = 6->(∀ z∈zs,Is5 z)->Q (.ref p) H'
def zjK:Sp:=fun vs H Q _=>vs = []/\∀ (p:Addr) (zs:List Str) (H':Hp),H p = none->Same H H'->H' p = some (.lst (zs.map V.str))->zs.length<=100->(∀ z∈zs,NoR z)->Q (.ref p) H'
theorem zmn {σ:St}{H:Hp}{x y:Str}{Q:VK} (q:∀ (p:Addr) (H':Hp),Same H H'->H' p = some (.lst ([x,y].map V.str))->Q (.ref p) H'):tLst (zan (tC (.str x)) (zan (tC (.str y)) tNil)) σ H Q:=⟨zl2,fun p hp=>q p _ (Same.new hp) zd⟩
theorem ypc {σ:St}{H:Hp}{z:Str} (h:badL z.cps.toList = true):YP (tC (.str z)) σ H NoR:=(yl_c rfl).yp fun y e=>zjJ h e
theorem ypl {te:TE}{σ:St}{H:Hp}{l:List Nat} (g:YL te σ H l) (h:badL l = true):YP te σ H NoR:=g.yp fun y e=>zjJ h e
theorem ypg {te:TE}{σ:St}{H:Hp}{l:List Nat} (g:YL te σ H l) (h:zmm l = true):YP te σ H Is5:=g.yp fun y e=>zkU h e
theorem zfI {σ:St}{H:Hp}{x y:Str}{k:Int} (h1:1<=k) (h2:k<=100) (hx:x.length<=100) (hy:y.length<=100):YL (zcX zcr [] E0 (zan (tOp rRep (tLst (zan (tC (.str x)) tNil)) (tC (.int k))) (zan (tC (.str y)) tNil))) σ H (zhi (List.replicate k.toNat x.cps.toList) y.cps.toList):=fun H1 Q s q=>by
 refine ⟨zl1,fun p hp=>⟨p,k,[.str x],rfl,rfl,zd,by omega,by omega,(by show 1 * k.toNat<=sizeLine; exact small (by omega)),fun p2 hp2=>?_⟩⟩
 have e:(List.replicate k.toNat [V.str x]).flatten = (List.replicate k.toNat x).map V.str:=by rw [List.flatten_replicate_singleton,List.map_replicate]
 refine ⟨p2,List.replicate k.toNat x,y,rfl,by rw [zd,e],by rw [List.length_replicate]; omega,by rw [List.length_replicate]; omega,fun z hz=>by rw [List.eq_of_mem_replicate hz]; exact hx,hy,fun z H' hz s'=>q z H' (by rw [hz,List.map_replicate]) (((Same.new hp).trans (Same.new hp2)).trans s')⟩
theorem zfJ {σ:St}{H:Hp}{y:Str}{i:Nat}{a:Addr}{ws:List Str} (e:σ[i]? = some (some (.ref a))) (ea:H a = some (.lst (ws.map V.str))) (h1:1<=ws.length) (h2:ws.length<=100) (hx:∀ x∈ws,x.length<=100) (hy:y.length<=100):YL (zcX zcr [] E0 (zan (tVar i) (zan (tC (.str y)) tNil))) σ H (zhi (ws.map fun y=>y.cps.toList) y.cps.toList):=fun H1 Q s q=>
 ⟨_,e,a,ws,y,rfl,s _ _ ea,h1,h2,hx,hy,fun z H' hz s'=>q z H' hz s'⟩
theorem Z7 {σ:St}{H:Hp}{P:Str->Prop}{p:Addr}{zs:List Str}{k:Nat}{ta:TA}{Q:VK} (e:σ[0]? = some (some (.ref p))) (ep:H p = some (.lst (zs.map V.str))) (hz:∀ z∈zs,P z) (hl:zs.length<=200) (h:YPs ta σ H k P) (hk:k<=100) (q:∀ (p':Addr) (zs':List Str) (H':Hp),H p' = none->Same H H'->H' p' = some (.lst (zs'.map V.str))->zs'.length = zs.length + k->(∀ z∈zs',P z)->Q (.ref p') H'):tOp rCat (tVar 0) (tLst ta) σ H Q:=
 ⟨_,e,zfH h (by omega) fun p2 zs2 H2 hn s2 e2 l2 h2=>⟨p,p2,_,_,rfl,rfl,s2 _ _ ep,e2,small (by rw [List.length_map,List.length_map,l2]; omega),fun p3 hp3=>q p3 (zs ++ zs2) _ (s2.free hp3) (s2.trans (Same.new hp3)) (by rw [zd,List.map_append]) (by rw [List.length_append,l2]) fun z hz'=>by
  rcases List.mem_append.mp hz' with h | h
  ·exact hz z h
  ·exact h2 z h⟩⟩
section
variable {P:Program}{w:World}{K:PySem.W.Frag}{mg:Str->Option Value}{base:Heap}{f:Addr}{fd:FuncData}{k n:Nat}{zN AForgeError ANoName ANoRow ANoRule ANoStep ANoThing ANoWorth:Addr}
theorem zjL:FnScope ["_law_words","_law_inner"] ["_law_words","_law_inner"] (zl zcM):=⟨rfl,rfl,rfl,by decide +kernel,rfl,by decide +kernel,by decide +kernel⟩
theorem zjM (F:Fun K "_law_chain" "_law_chain" zcM f fd) (m_len:mg "len" = none):FnOk P w K mg base CX0 (k + 1) f fd ["_law_words","_law_inner"] (zcr):=by
 refine F.okQ zjL (fun vs H Q E h=>?_) (fun cdv A outer s H vs Q E hr h=>?_)
 ·obtain ⟨a,ws,z,rfl,_⟩:=h
  rfl
 obtain ⟨a,ws,z,rfl,ea,hw1,hw2,hw3,hz,q⟩:=h
 refine ⟨_,(zg (zo (zi zh (zi zh (zaE PySem.F.plainAttrs_str PySem.F.slot_str_join PySem.F.type_str_join zd3 ze (za (zi ZZ (zx (za ze zc)) (Zx [] [] rfl rfl (by decide +kernel) rfl (by decide +kernel) rfl (by decide +kernel) trivial rfl trivial (zay (pv 0)) (fun C s H fp=>⟨Zj,(zi zh (pv 0) ze)⟩))) zc)) (pv 1)) (zi ZK ze (zk zz rfl m_len PySem.boot_len (za (pv 0) zc)))))),?_⟩
 dsimp only [tRet,tOp,tC,tBM,zan,tNil,tLst]
 refine ⟨(by first | exact ⟨_,rfl⟩ | exact rfl | trivial),zl1,fun p hp=>?_⟩
 have s1:=Same.new (o:=.lst [V.str (Str.ofString "")]) hp
 have e1:upd H p (.lst [V.str (Str.ofString "")]) p = some (.lst [V.str (Str.ofString "")]):=zd
 generalize upd H p (.lst [V.str (Str.ofString "")]) = H1 at s1 e1 ⊢
 refine ⟨_,rfl,a,rfl,⟨_,SqL.of (s1 _ _ ea)⟩,?_⟩
 refine zel (vs:=ws.map V.str) (fun i us H2=>i<=ws.length/\us = ((ws.take i).map fun y=>V.str (y ++ Str.ofString " "))/\H2 = H1) (small (by rw [List.length_map]; omega)) ⟨Nat.zero_le _,rfl,rfl⟩ (fun i us H2 h=>by rw [h.2.1,List.length_map,List.length_take]; omega) (fun i us H2 h=>by rw [h.2.2]; exact SqL.of (s1 _ _ ea)) (fun i x us H2 R hx hP hR=>?_) (fun us H2 D hP hD=>?_)
 ·obtain ⟨hi,rfl,rfl⟩:=hP
  rw [List.getElem?_map] at hx
  obtain ⟨y,hy,rfl⟩:=Option.map_eq_some_iff.mp hx
  have hy3:=hw3 y (List.mem_of_getElem? hy)
  have l1:(Str.ofString " ").length = 1:=by decide +kernel
  exact ⟨_,rfl,_,_,rfl,rfl,small (by omega),hR _ _ ⟨(List.getElem?_eq_some_iff.mp hy).1,by rw [zV hy,List.map_append]; rfl,rfl⟩⟩
 ·obtain ⟨_,rfl,rfl⟩:=hP
  rw [List.length_map,List.take_length]
  have sD:=Same.new (o:=.lst (ws.map fun y=>V.str (y ++ Str.ofString " "))) hD
  have eD:upd H2 D (.lst (ws.map fun y=>V.str (y ++ Str.ofString " "))) D = some (.lst (ws.map fun y=>V.str (y ++ Str.ofString " "))):=zd
  generalize upd H2 D (.lst (ws.map fun y=>V.str (y ++ Str.ofString " "))) = H3 at sD eD ⊢
  refine ⟨p,D,_,_,rfl,rfl,sD _ _ e1,eD,small (by rw [List.length_map]; show 1 + _<=_; omega),fun p4 hp4=>?_⟩
  have s4:=Same.new (o:=.lst ([V.str (Str.ofString "")] ++ ws.map fun y=>V.str (y ++ Str.ofString " "))) hp4
  have e4:upd H3 p4 (.lst ([V.str (Str.ofString "")] ++ ws.map fun y=>V.str (y ++ Str.ofString " "))) p4 = some (.lst ((Str.ofString "" :: ws.map (· ++ Str.ofString " ")).map V.str)):=by rw [zd,List.map_cons,List.map_map]; rfl
  generalize upd H3 p4 (.lst ([V.str (Str.ofString "")] ++ ws.map fun y=>V.str (y ++ Str.ofString " "))) = H4 at s4 e4 ⊢
  have sA:=(s1.trans sD).trans s4
  have l1:(Str.ofString " ").length = 1:=by decide +kernel
  have l2:(Str.ofString "(").length = 1:=by decide +kernel
  have l3:(Str.ofString "").length = 0:=by decide +kernel
  have l4:(Str.ofString ")").length = 1:=by decide +kernel
  have hsum:∀ l:List Str,(∀ y∈l,y.length<=100)->((l.map (· ++ Str.ofString " ")).map (·.length)).sum<=101 * l.length:=fun l=>by
   induction l with
   | nil=>intro _; simp
   | cons y r ih=>
    intro h
    have h1:=ih fun z hz=>h z (List.mem_cons_of_mem _ hz)
    have h2:=h y (by simp)
    rw [List.map_cons,List.map_cons,List.sum_cons,zD,List.length_cons]
    omega
  have hs:=hsum ws hw3
  have hj:=zjH (ws.map (· ++ Str.ofString " "))
  have hjl:(Txt.join (Str.ofString "(") (Str.ofString "" :: ws.map (· ++ Str.ofString " "))).length<=10300:=by
   rw [← zt,hj,List.length_flatten,List.map_map,List.map_map]
   have:∀ l:List Str,(∀ y∈l,y.length<=100)->(l.map (List.length ∘ ((fun y:Str=>40 :: y.cps.toList) ∘ (· ++ Str.ofString " ")))).sum<=102 * l.length:=fun l=>by
    induction l with
    | nil=>intro _; simp
    | cons y r ih=>
     intro h
     have h1:=ih fun z hz=>h z (List.mem_cons_of_mem _ hz)
     have h2:=h y (by simp)
     rw [List.map_cons,List.sum_cons,List.length_cons]
     have h3:(List.length ∘ ((fun y:Str=>40 :: y.cps.toList) ∘ (· ++ Str.ofString " "))) y = y.length + 2:=by
      show (40 :: (y ++ Str.ofString " ").cps.toList).length = _
      rw [List.length_cons,zt,zD]
      omega
     omega
   exact Nat.le_trans (this ws hw3) (by omega)
  have hml:(Txt.mul (Str.ofString ")") ((ws.map V.str).length:Nat)).cps.toList = List.replicate ws.length 41:=by
   rw [zhh,show (Str.ofString ")").cps.toList = [41] by decide +kernel,List.flatten_replicate_singleton,List.length_map]
   rfl
  refine ⟨_,p4,_,rfl,rfl,SqL.of e4,?_,?_⟩
  ·rw [List.map_cons,List.sum_cons,List.length_cons,List.length_map,l2,l3]
   omega
  refine ⟨_,rfl,_,_,rfl,rfl,small (by omega),?_⟩
  refine ⟨_,rfl,_,_,rfl,.inl ⟨_,SqL.of (sA _ _ ea),rfl⟩,_,_,rfl,rfl,by omega,by rw [List.length_map]; omega,by rw [List.length_map]; omega,?_⟩
  refine ⟨_,_,rfl,rfl,?_,q _ H4 ?_ sA⟩
  ·refine small ?_
   rw [zD,← zt (Txt.mul _ _),hml,List.length_replicate]
   omega
  ·rw [Zf,Zf,hj,hml]
   unfold zhi
   rw [List.length_map,List.map_map,List.map_map]
   refine congrArg (fun l=>List.flatten l ++ z.cps.toList ++ List.replicate ws.length 41) (List.map_congr_left fun y _=>?_)
   show 40 :: (y ++ Str.ofString " ").cps.toList = 40 :: (y.cps.toList ++ [32])
   rw [Zf,show (Str.ofString " ").cps.toList = [32] by decide +kernel]
theorem zbL:FnScope ["_law_seven","_law_sixty","_law_rounds"] [] (zl zb6):=⟨rfl,rfl,rfl,by decide +kernel,rfl,by decide +kernel,by decide +kernel⟩
theorem zh3 (F:Fun K "_law_beyond" "_law_beyond" zb6 f fd) (G_lchain:Have P w K mg base "_law_chain" k ["_law_words","_law_inner"] (zcr)) (m_range:mg "range" = none):FnOk P w K mg base CX0 (k + 1) f fd [] (zeG):=by
 refine F.okQ zbL (fun vs H Q E h=>?_) (fun cdv A outer s H vs Q E hr h=>?_)
 ·obtain ⟨rfl,_⟩:=h
  rfl
 obtain ⟨rfl,q⟩:=h
 refine ⟨_,(zb (zn (i:=0) zbL.nd rfl (Or.inl rfl) (zi zh (zi zh ze (zi ZK ze zf)) ze))
  (zb (zn (i:=1) zbL.nd rfl (Or.inl rfl) (zi zh (zi zh ze (zi ZK (zi zh ze (pv 0)) zf)) ze))
  (zb (zc5 (i:=2) [] [] rfl rfl (by decide +kernel) rfl (by decide +kernel) rfl (by decide +kernel) trivial rfl trivial (Z8 rfl m_range (za zf zc)) (fun C s H fp=>⟨Zj,(zy (show IxR _ (rIxL K) from zQ) (zx (za ze (za ze zc))) (zi zba (pv 0) zf) (fun _ _=>rfl))⟩) zbL.nd rfl (Or.inl rfl))
  (zg (zo (zx (za (zi zh (pv 1) ze) (za (zw G_lchain hr rfl (za (zi zeY (zx (za ze zc)) zf) (za ze zc))) (za (zw G_lchain hr rfl (za (pv 2) (za ze zc))) zc))))))))),?_⟩
 dsimp only [tSeq,tAsg,ZI]
 refine (Zc (Zc (yl_c rfl) (zax (yl_c rfl) (by decide +kernel) (by decide) (by decide)) (by decide +kernel)) (yl_c rfl) (by decide +kernel)).run fun z7 H1 e7 s1=>?_
 refine (Zc (Zc (yl_c rfl) (zax (Zc (yl_c rfl) (zjI (i:=0) rfl e7) (by decide +kernel)) (by decide +kernel) (by decide) (by decide)) (by decide +kernel)) (yl_c rfl) (by decide +kernel)).run fun z60 H2 e60 s2=>?_
 refine zlJ [.str "each x (lit ())",.str "over x y (lit ()) 1",.str "each x (lit ())"] (fun R hR=>hR) (by decide) (fun i y H3 R hy s3 hR=>?_) (fun H3 D s3 hD=>?_)
 ·refine ⟨zl2,fun p hp=>?_⟩
  have hi:i < 3:=(List.getElem?_eq_some_iff.mp hy).1
  refine ⟨_,rfl,_,_,rfl,rfl,(by show (0:Int) < 2; decide),p,_,_,y,rfl,rfl,SqL.of zd,?_,hR _ (Same.new hp)⟩
  match i,hi,hy with
  | 0,_,hy=>cases hy; rfl
  | 1,_,hy=>cases hy; rfl
  | 2,_,hy=>cases hy; rfl
 have sD:=Same.new (o:=.lst [.str "each x (lit ())",.str "over x y (lit ()) 1",.str "each x (lit ())"]) hD
 have eD:upd H3 D (.lst [.str "each x (lit ())",.str "over x y (lit ()) 1",.str "each x (lit ())"]) D = some (.lst ((["each x (lit ())","over x y (lit ()) 1","each x (lit ())"]:List Str).map V.str)):=zd
 generalize upd H3 D (.lst [.str "each x (lit ())",.str "over x y (lit ()) 1",.str "each x (lit ())"]) = H4 at sD eD ⊢
 have sA:=((s1.trans s2).trans s3).trans sD
 dsimp only [tRet]
 refine zfH (k:=3) (zm (ypl (Zc (zjI (i:=1) rfl e60) (yl_c rfl) (by decide +kernel)) (by decide +kernel)) (zm (ypl (zfI (by decide) (by decide) (by decide +kernel) (by decide +kernel)) (by decide +kernel)) (zm (ypl (zfJ (i:=2) rfl eD (by decide) (by decide) (by decide +kernel) (by decide +kernel)) (by decide +kernel)) ZY))) (by decide) fun p zs H5 hn s5 e5 l5 h5=>q p zs H5 (sA.free hn) (sA.trans s5) e5 l5 h5
theorem ZA:FnScope ["_law_seven","_law_rounds","_law_some"] [] (zl ZF):=⟨rfl,rfl,rfl,by decide +kernel,rfl,by decide +kernel,by decide +kernel⟩
theorem zcs (F:Fun K "_law_at_the_bounds" "_law_at_the_bounds" ZF f fd) (G_lchain:Have P w K mg base "_law_chain" k ["_law_words","_law_inner"] (zcr)):FnOk P w K mg base CX0 (k + 1) f fd [] (zeH):=by
 refine F.okQ ZA (fun vs H Q E h=>?_) (fun cdv A outer s H vs Q E hr h=>?_)
 ·obtain ⟨rfl,_⟩:=h
  rfl
 obtain ⟨rfl,q⟩:=h
 refine ⟨_,(zb (zn (i:=0) ZA.nd rfl (Or.inl rfl) (zi zh (zi zh ze (zi ZK ze zf)) ze))
  (zb (zn (i:=1) ZA.nd rfl (Or.inl rfl) (zx (za ze (za ze zc))))
  (zb (zn (i:=2) ZA.nd rfl (Or.inl rfl) (zx (za (zi zh (zi zh ze (zi ZK (zi zh ze (pv 0)) zf)) ze) (za (zw G_lchain hr rfl (za (zi zeY (zx (za ze zc)) zf) (za ze zc))) (za (zw G_lchain hr rfl (za (pv 1) (za ze zc))) zc)))))
  (zg (zo (zi ZZ (pv 2) (zx (za (zi zh (zi zh ze (zi ZK ze zf)) ze) (za (zi zh (zi zh ze (zi ZK ze zf)) ze) (za (zi zh (zi zh ze (zi ZK ze zf)) ze) zc)))))))))),?_⟩
 dsimp only [tSeq,tAsg,ZI]
 refine (Zc (Zc (yl_c rfl) (zax (yl_c rfl) (by decide +kernel) (by decide) (by decide)) (by decide +kernel)) (yl_c rfl) (by decide +kernel)).run fun z7 H1 e7 s1=>?_
 refine zmn fun D H2 sD eD=>?_
 have sA:=s1.trans sD
 refine zfH (k:=3) (zm (ypg (Zc (Zc (yl_c rfl) (zax (Zc (yl_c rfl) (zjI (i:=0) rfl e7) (by decide +kernel)) (by decide +kernel) (by decide) (by decide)) (by decide +kernel)) (yl_c rfl) (by decide +kernel)) (by decide +kernel)) (zm (ypg (zfI (by decide) (by decide) (by decide +kernel) (by decide +kernel)) (by decide +kernel)) (zm (ypg (zfJ (i:=1) rfl eD (by decide) (by decide) (by decide +kernel) (by decide +kernel)) (by decide +kernel)) ZY))) (by decide) fun p3 zs3 H3 n3 s3 e3 l3 h3=>?_
 dsimp only [tRet]
 refine ⟨_,rfl,zfH (k:=3) (zm (ypg (Zc (Zc (yl_c rfl) (zax (yl_c rfl) (by decide +kernel) (by decide) (by decide)) (by decide +kernel)) (yl_c rfl) (by decide +kernel)) (by decide +kernel)) (zm (ypg (Zc (Zc (yl_c rfl) (zax (yl_c rfl) (by decide +kernel) (by decide) (by decide)) (by decide +kernel)) (yl_c rfl) (by decide +kernel)) (by decide +kernel)) (zm (ypg (Zc (Zc (yl_c rfl) (zax (yl_c rfl) (by decide +kernel) (by decide) (by decide)) (by decide +kernel)) (yl_c rfl) (by decide +kernel)) (by decide +kernel)) ZY))) (by decide) fun p4 zs4 H4 n4 s4 e4 l4 h4=>?_⟩
 refine ⟨p3,p4,_,_,rfl,rfl,s4 _ _ e3,e4,small (by rw [List.length_map,List.length_map]; omega),fun pF hF=>q pF (zs3 ++ zs4) _ (((sA.trans s3).trans s4).free hF) (((sA.trans s3).trans s4).trans (Same.new hF)) (by rw [zd,List.map_append]) (by rw [List.length_append]; omega) fun z hz=>?_⟩
 rcases List.mem_append.mp hz with h | h
 ·exact h3 z h
 ·exact h4 z h
theorem zG:FnScope ["_law_some"] [] (zl zah):=⟨rfl,rfl,rfl,by decide +kernel,rfl,by decide +kernel,by decide +kernel⟩
theorem zdG (F:Fun K "_law_bare_texts" "_law_bare_texts" zah f fd) (G_lbeyond:Have P w K mg base "_law_beyond" k [] (zeG)):FnOk P w K mg base CX0 (k + 1) f fd [] (zjK):=by
 refine F.okQ zG (fun vs H Q E h=>?_) (fun cdv A outer s H vs Q E hr h=>?_)
 ·obtain ⟨rfl,_⟩:=h
  rfl
 obtain ⟨rfl,q⟩:=h
 refine ⟨_,(zb (zn (i:=0) zG.nd rfl (Or.inl rfl) (zx (za ze (za ze (za ze (za ze (za ze (za ze (za ze (za ze (za ze (za ze (za ze (za ze zc))))))))))))))
  (zb (zn (i:=0) zG.nd rfl (Or.inl rfl) (zi ZZ (pv 0) (zx (za ze (za ze (za ze (za ze (za ze (za ze (za ze (za ze (za ze zc))))))))))))
  (zb (zn (i:=0) zG.nd rfl (Or.inl rfl) (zi ZZ (pv 0) (zx (za ze (za ze (za ze (za ze (za ze (za ze zc)))))))))
  (zb (zn (i:=0) zG.nd rfl (Or.inl rfl) (zi ZZ (pv 0) (zx (za ze (za ze (za ze (za ze (za ze zc))))))))
  (zb (zn (i:=0) zG.nd rfl (Or.inl rfl) (zi ZZ (pv 0) (zx (za ze (za ze (za ze (za ze zc)))))))
  (zb (zn (i:=0) zG.nd rfl (Or.inl rfl) (zi ZZ (pv 0) (zx (za ze (za ze (za ze (za ze zc)))))))
  (zb (zn (i:=0) zG.nd rfl (Or.inl rfl) (zi ZZ (pv 0) (zx (za (zi zh (zi zh ze (zi ZK ze zf)) ze) (za ze (za (zi zh (zi zh ze (zi ZK ze zf)) ze) zc))))))
  (zb (zn (i:=0) zG.nd rfl (Or.inl rfl) (zi ZZ (pv 0) (zx (za (zi zh (zi zh ze (zi ZK ze zf)) ze) zc))))
  (zb (zn (i:=0) zG.nd rfl (Or.inl rfl) (zi ZZ (pv 0) (zx (za (zi zh (zi zh (zi zh ze (zi ZK ze zf)) (zi ZK ze zf)) ze) (za (zi zh (zi zh ze (zi ZK (zi zh (zi zh ze (zi ZK ze zf)) ze) zf)) ze) zc)))))
  (zb (zn (i:=0) zG.nd rfl (Or.inl rfl) (zi ZZ (pv 0) (zx (za ze (za ze (za ze (za ze (za ze (za ze zc)))))))))
  (zb (zn (i:=0) zG.nd rfl (Or.inl rfl) (zi ZZ (pv 0) (zx (za ze (za ze (za ze (za ze (za ze (za ze zc)))))))))
  (zg (zo (zi ZZ (pv 0) (zdK G_lbeyond hr rfl))))))))))))))),?_⟩
 dsimp only [tSeq,tAsg,ZI]
 refine zfH (k:=12) (zm (ypc (by decide +kernel)) (zm (ypc (by decide +kernel)) (zm (ypc (by decide +kernel)) (zm (ypc (by decide +kernel)) (zm (ypc (by decide +kernel)) (zm (ypc (by decide +kernel)) (zm (ypc (by decide +kernel)) (zm (ypc (by decide +kernel)) (zm (ypc (by decide +kernel)) (zm (ypc (by decide +kernel)) (zm (ypc (by decide +kernel)) (zm (ypc (by decide +kernel)) ZY)))))))))))) (by decide) fun p1 zs1 H1 n1 s1 e1 l1 h1=>?_
 refine Z7 (k:=9) rfl e1 h1 (by omega) (zm (ypc (by decide +kernel)) (zm (ypc (by decide +kernel)) (zm (ypc (by decide +kernel)) (zm (ypc (by decide +kernel)) (zm (ypc (by decide +kernel)) (zm (ypc (by decide +kernel)) (zm (ypc (by decide +kernel)) (zm (ypc (by decide +kernel)) (zm (ypc (by decide +kernel)) ZY))))))))) (by decide) fun p2 zs2 H2 n2 s2 e2 l2 h2=>?_
 have n2:=s1.free n2
 have s2:=s1.trans s2
 refine Z7 (k:=6) rfl e2 h2 (by omega) (zm (ypc (by decide +kernel)) (zm (ypc (by decide +kernel)) (zm (ypc (by decide +kernel)) (zm (ypc (by decide +kernel)) (zm (ypc (by decide +kernel)) (zm (ypc (by decide +kernel)) ZY)))))) (by decide) fun p3 zs3 H3 n3 s3 e3 l3 h3=>?_
 have n3:=s2.free n3
 have s3:=s2.trans s3
 refine Z7 (k:=5) rfl e3 h3 (by omega) (zm (ypc (by decide +kernel)) (zm (ypc (by decide +kernel)) (zm (ypc (by decide +kernel)) (zm (ypc (by decide +kernel)) (zm (ypc (by decide +kernel)) ZY))))) (by decide) fun p4 zs4 H4 n4 s4 e4 l4 h4=>?_
 have n4:=s3.free n4
 have s4:=s3.trans s4
 refine Z7 (k:=4) rfl e4 h4 (by omega) (zm (ypc (by decide +kernel)) (zm (ypc (by decide +kernel)) (zm (ypc (by decide +kernel)) (zm (ypc (by decide +kernel)) ZY)))) (by decide) fun p5 zs5 H5 n5 s5 e5 l5 h5=>?_
 have n5:=s4.free n5
 have s5:=s4.trans s5
 refine Z7 (k:=4) rfl e5 h5 (by omega) (zm (ypc (by decide +kernel)) (zm (ypc (by decide +kernel)) (zm (ypc (by decide +kernel)) (zm (ypc (by decide +kernel)) ZY)))) (by decide) fun p6 zs6 H6 n6 s6 e6 l6 h6=>?_
 have n6:=s5.free n6
 have s6:=s5.trans s6
 refine Z7 (k:=3) rfl e6 h6 (by omega) (zm (ypl (Zc (Zc (yl_c rfl) (zax (yl_c rfl) (by decide +kernel) (by decide) (by decide)) (by decide +kernel)) (yl_c rfl) (by decide +kernel)) (by decide +kernel)) (zm (ypc (by decide +kernel)) (zm (ypl (Zc (Zc (yl_c rfl) (zax (yl_c rfl) (by decide +kernel) (by decide) (by decide)) (by decide +kernel)) (yl_c rfl) (by decide +kernel)) (by decide +kernel)) ZY))) (by decide) fun p7 zs7 H7 n7 s7 e7 l7 h7=>?_
 have n7:=s6.free n7
 have s7:=s6.trans s7
 refine Z7 (k:=1) rfl e7 h7 (by omega) (zm (ypl (Zc (Zc (yl_c rfl) (zax (yl_c rfl) (by decide +kernel) (by decide) (by decide)) (by decide +kernel)) (yl_c rfl) (by decide +kernel)) (by decide +kernel)) ZY) (by decide) fun p8 zs8 H8 n8 s8 e8 l8 h8=>?_
 have n8:=s7.free n8
 have s8:=s7.trans s8
 refine Z7 (k:=2) rfl e8 h8 (by omega) (zm (ypl (Zc (Zc (Zc (yl_c rfl) (zax (yl_c rfl) (by decide +kernel) (by decide) (by decide)) (by decide +kernel)) (zax (yl_c rfl) (by decide +kernel) (by decide) (by decide)) (by decide +kernel)) (yl_c rfl) (by decide +kernel)) (by decide +kernel)) (zm (ypl (Zc (Zc (yl_c rfl) (zax (Zc (Zc (yl_c rfl) (zax (yl_c rfl) (by decide +kernel) (by decide) (by decide)) (by decide +kernel)) (yl_c rfl) (by decide +kernel)) (by decide +kernel) (by decide) (by decide)) (by decide +kernel)) (yl_c rfl) (by decide +kernel)) (by decide +kernel)) ZY)) (by decide) fun p9 zs9 H9 n9 s9 e9 l9 h9=>?_
 have n9:=s8.free n9
 have s9:=s8.trans s9
 refine Z7 (k:=6) rfl e9 h9 (by omega) (zm (ypc (by decide +kernel)) (zm (ypc (by decide +kernel)) (zm (ypc (by decide +kernel)) (zm (ypc (by decide +kernel)) (zm (ypc (by decide +kernel)) (zm (ypc (by decide +kernel)) ZY)))))) (by decide) fun p10 zs10 H10 n10 s10 e10 l10 h10=>?_
 have n10:=s9.free n10
 have s10:=s9.trans s10
 refine Z7 (k:=6) rfl e10 h10 (by omega) (zm (ypc (by decide +kernel)) (zm (ypc (by decide +kernel)) (zm (ypc (by decide +kernel)) (zm (ypc (by decide +kernel)) (zm (ypc (by decide +kernel)) (zm (ypc (by decide +kernel)) ZY)))))) (by decide) fun p11 zs11 H11 n11 s11 e11 l11 h11=>?_
 have n11:=s10.free n11
 have s11:=s10.trans s11
 dsimp only [tRet]
 refine ⟨_,rfl,rfl,fun pB zsB HB nB sB eB lB hB=>⟨p11,pB,_,_,rfl,rfl,sB _ _ e11,eB,small (by rw [List.length_map,List.length_map]; omega),fun pF hF=>q pF (zs11 ++ zsB) _ ((s11.trans sB).free hF) ((s11.trans sB).trans (Same.new hF)) (by rw [zd,List.map_append]) (by rw [List.length_append]; omega) fun z hz=>?_⟩⟩
 rcases List.mem_append.mp hz with h | h
 ·exact h11 z h
 ·exact hB z h
end
end D
namespace L2
open PySem PySem.Spec PyProof.Rows
theorem znj {X:Cx}:Lets X E0:=fun _ _ _ _ _ _ _ _ _ _ _ _ h=>h.elim
end L2
namespace D
open PySem L2
def zdt:Sp:=fun vs H Q _=>∃ t:Str,vs = [.str t]/\NoR t/\∀ H',Same H H'->Q (.bl true) H'
section
variable {P:Program}{w:World}{K:PySem.W.Frag}{mg:Str->Option Value}{base:Heap}{f:Addr}{fd:FuncData}{k n:Nat}{zN AForgeError ANoName ANoRow ANoRule ANoStep ANoThing ANoWorth:Addr}
theorem zbX:FnScope ["_law_text_here","_law_fault","e"] ["_law_text_here"] (zl zbx):=⟨rfl,rfl,rfl,by decide +kernel,rfl,by decide +kernel,by decide +kernel⟩
theorem zgi (F:Fun K "_law_refused" "_law_refused" zbx f fd) (G_read_rule:Zy P w K mg base "read_rule" k ["text"] (zeF zN)) (m_ValueError:mg "ValueError" = none) (m_isi:mg "isinstance" = none) (c_ForgeError:mg "ForgeError" = some (.ref AForgeError)) (c_NoName:mg "NoName" = some (.ref ANoName)) (c_NoRow:mg "NoRow" = some (.ref ANoRow)) (c_NoRule:mg "NoRule" = some (.ref ANoRule)) (c_NoStep:mg "NoStep" = some (.ref ANoStep)) (c_NoThing:mg "NoThing" = some (.ref ANoThing)) (c_NoWorth:mg "NoWorth" = some (.ref ANoWorth)) (c_NoText:mg "NoText" = some (.ref zN)) (z_NoText:IsX K zN) (xm:exmOne K (.ref zN) (.ref AForgeError) = some true) (k_NoText:kitOne K (.ref zN) (.ref zN) = some true) (k_ValueError:kitOne K (.ref zN) (.type "ValueError") = some true) (k_NoName:kitOne K (.ref zN) (.ref ANoName) = some false) (k_NoRow:kitOne K (.ref zN) (.ref ANoRow) = some false) (k_NoRule:kitOne K (.ref zN) (.ref ANoRule) = some false) (k_NoStep:kitOne K (.ref zN) (.ref ANoStep) = some false) (k_NoThing:kitOne K (.ref zN) (.ref ANoThing) = some false) (k_NoWorth:kitOne K (.ref zN) (.ref ANoWorth) = some false):FnOk P w K mg base CX0 (k + 1) f fd ["_law_text_here"] (zdt):=by
 refine F.okQ zbX (fun vs H Q E h=>?_) (fun cdv A outer s H vs Q E hr h=>?_)
 ·obtain ⟨t,rfl,_⟩:=h
  rfl
 obtain ⟨t,rfl,⟨hz,O,hs,hno⟩,q⟩:=h
 refine ⟨_,(zb (zn (i:=1) zbX.nd rfl (Or.inl rfl) zh9)
  (zb (zi2 (i:=1) (j:=2) rfl ⟨_,rfl⟩ c_ForgeError rfl zbX.nd rfl (Or.inl rfl) rfl rfl (by decide +kernel) (fun Ex pl E1 hL=>(zg (ZB (ZW G_read_rule hr hL rfl (za (pv 0) zc))))))
  (zb (zB (PW.pt (zaK (ZP (zW (zk (zaa (c:=.ref zN) z_NoText (fun _ r=>r) k_NoText) rfl m_isi zT (za (pv 1) (za (Zt (v:=.ref zN) rfl c_NoText rfl) zc))))) (zak (ZP (zW (zk (zaa (c:=.ty "ValueError") z_NoText (fun _ r=>r) k_ValueError) rfl m_isi zT (za (pv 1) (za (zbe rfl m_ValueError zcA) zc)))))))) (zg (zo zaJ)) zq)
  (zb (zB (PW.pt (zaK (zW (zk (zaa (c:=.ref ANoName) z_NoText (fun _ r=>r) k_NoName) rfl m_isi zT (za (pv 1) (za (Zt (v:=.ref ANoName) rfl c_NoName rfl) zc)))) (zaK (zW (zk (zaa (c:=.ref ANoRow) z_NoText (fun _ r=>r) k_NoRow) rfl m_isi zT (za (pv 1) (za (Zt (v:=.ref ANoRow) rfl c_NoRow rfl) zc)))) (zak (zW (zk (zaa (c:=.ref ANoRule) z_NoText (fun _ r=>r) k_NoRule) rfl m_isi zT (za (pv 1) (za (Zt (v:=.ref ANoRule) rfl c_NoRule rfl) zc)))))))) (zg (zo zaJ)) zq)
  (zg (zo (zeM (zfN (zk (zaa (c:=.ref ANoStep) z_NoText (fun _ r=>r) k_NoStep) rfl m_isi zT (za (pv 1) (za (Zt (v:=.ref ANoStep) rfl c_NoStep rfl) zc))) (zfN (zk (zaa (c:=.ref ANoThing) z_NoText (fun _ r=>r) k_NoThing) rfl m_isi zT (za (pv 1) (za (Zt (v:=.ref ANoThing) rfl c_NoThing rfl) zc))) (zao (zk (zaa (c:=.ref ANoWorth) z_NoText (fun _ r=>r) k_NoWorth) rfl m_isi zT (za (pv 1) (za (Zt (v:=.ref ANoWorth) rfl c_NoWorth rfl) zc))))))))))))),?_⟩
 refine seqI (fun σ' H'=>σ' = [some (.str t),some .non,none]/\H' = H) (fun σ' H' h=>?_) (fun tl=>tl _ _ ⟨rfl,rfl⟩)
 obtain ⟨rfl,rfl⟩:=h
 refine ⟨_,rfl,t,O,rfl,hs,hz,fun r hr hru=>absurd hru (hno r hr),fun hn H1 s1=>⟨zN,rfl,xm,fun ea hea=>?_⟩⟩
 have sE:=Same.new (o:=excO ea zN) hea
 have ee:upd H1 ea (excO ea zN) ea = some (excO ea zN):=zd
 have sA:=s1.trans sE
 generalize upd H1 ea (excO ea zN) = G0 at sE ee sA
 show tSeq _ _ _ [none,some (.ref ea),none] G0
 refine ⟨_,rfl,ea,rfl,ee,_,rfl,iteF ⟨_,rfl,ea,rfl,ee,_,rfl,iteF ?_⟩⟩
 refine ⟨_,rfl,ea,rfl,ee,_,rfl,iteF ⟨_,rfl,ea,rfl,ee,_,rfl,iteF ⟨_,rfl,ea,rfl,ee,_,rfl,iteF ?_⟩⟩⟩
 refine ⟨_,rfl,ea,rfl,ee,_,rfl,iteF ⟨_,rfl,ea,rfl,ee,_,rfl,iteF ⟨_,rfl,ea,rfl,ee,?_⟩⟩⟩
 exact ⟨_,rfl,q _ sA⟩
end
end D
namespace L2
open PySem PySem.Spec PyProof.Rows
def Itn (z:Str):It:=
 ⟨fun i _=>i < z.cps.size,fun i H x H'=>∃ t c,H t = none/\x = .ref t/\z.cps[i]? = some c/\H' = upd H t (.tup [.int i,.str ⟨#[c]⟩]),fun i _=>i = z.cps.size⟩
theorem zh4 {P:Program}{w:World}{K:PySem.W.Frag}{elts:List Expr}{k:Nat}{pos:Pos}{z:Str}{T:String}{tz:Tok} (e it:Addr) (hei:e≠it)
  (D:∀ A:Around,A.handled = none->Draws P w A it [it] z.cps.size (fun i v=>∃ c u,z.cps[i]? = some c/\v = .str ⟨#[c]⟩ u) (fun i h=>h.IsStrIter it T z tz i)):
  Turn P w K (.Tuple elts k pos) (Itn z) [e,it] e (fun i h=>(∃ old,IsEnum h e it i old)/\h.IsStrIter it T z tz i) where
 mem:=by simp
 obj:=fun i h st b hb=>by
  obtain ⟨⟨old,he⟩,hit⟩:=st
  have hc:b = e\/b = it:=by simpa using hb
  rcases hc with rfl | rfl
  ·exact ⟨_,he,fun v z=>by
    have z':Data.fields _ = Data.cell v:=z
    cases z'⟩
  ·obtain ⟨o,eo,c,d⟩:=hit
   exact ⟨o,eo,fun v z=>by rw [d] at z; cases z⟩
 keep:=fun i h h' st kk=>by
  obtain ⟨⟨old,he⟩,hit⟩:=st
  obtain ⟨o,eo,c⟩:=hit
  exact ⟨⟨old,kk e (by simp) _ he⟩,o,kk it (by simp) o eo,c⟩
 item:=by
  intro X hP hw hK hc i zp s σ H E I hf st hg
  subst hP hw hK
  obtain ⟨⟨old,he⟩,hit⟩:=st
  have hg:i < z.cps.size:=hg
  have hfr:H s.heap.objs.size = none:=I.hok.fresh (Nat.le_refl _)
  have helt:e < s.heap.objs.size:=Heap.lt_size he
  have hilt:it < s.heap.objs.size:=by obtain ⟨_,z,_⟩:=hit; exact Heap.lt_size z
  refine wpAny_pyNext_enum_itemD (D X.A.in1 (I.ok.hd hc)) he hit hg hei (by simp [hei]) fun x h' tk hPx ho hit' hT hsz hk=>⟨_,rfl,wpAny_letOwnedTupleGo_enum ho fun h2 he2 hs2=>?_⟩
  obtain ⟨c,u,hcu,rfl⟩:=hPx
  have I1:Inv X zp σ (upd H s.heap.objs.size (.tup [.int i,.str ⟨#[c]⟩])) { s with heap:=s.heap.push { cls:=.type "tuple",data:=.seq #[.int i tk,.str ⟨#[c]⟩ u] },toks:=tk }:=
   I.laid (t':=tk) (fun b u e=>Heap.get?_push_of_some _ e) (Nat.le_refl _) ⟨zl2,[.int i tk,.str ⟨#[c]⟩ u],.cons ⟨_,rfl⟩ (.cons ⟨_,rfl⟩ .nil),⟨_,Heap.get?_push_size _ rfl,rfl,_,rfl⟩⟩
  have nn:∀ b∈[e,it],upd H s.heap.objs.size (.tup [.int i,.str ⟨#[c]⟩]) b = none:=fun b hb=>by
   rw [zu (fun z=>by
    have hc:b = e\/b = it:=by simpa using hb
    rcases hc with r | r
    ·rw [← r,z] at helt; exact Nat.lt_irrefl _ helt
    ·rw [← r,z] at hilt; exact Nat.lt_irrefl _ hilt)]
   exact (hf b hb).1
  have I2:Inv X zp σ (upd H s.heap.objs.size (.tup [.int i,.str ⟨#[c]⟩])) { s with heap:=h2,toks:=tk + 1 }:=by
   refine Inv.turnedL (s:={ s with heap:=s.heap.push { cls:=.type "tuple",data:=.seq #[.int i tk,.str ⟨#[c]⟩ u] },toks:=tk }) (h':=h2) (t':=tk + 1) (fp:=[e,it]) I1 (fun b o hb eb=>?_) (fun b hb=>?_)
   ·have hbe:b≠e:=fun z=>hb (by simp [z])
    have hbi:b≠it:=fun z=>hb (by simp [z])
    refine (hs2.2 b hbe).trans ?_
    by_cases hbs:b = s.heap.objs.size
    ·subst hbs
     have e1:(s.heap.push { cls:=.type "tuple",data:=.seq #[.int i tk,.str ⟨#[c]⟩ u] }).get? s.heap.objs.size = some { cls:=.type "tuple",data:=.seq #[.int i tk,.str ⟨#[c]⟩ u] }:=Heap.get?_push_size _ rfl
     have eb:(s.heap.push { cls:=.type "tuple",data:=.seq #[.int i tk,.str ⟨#[c]⟩ u] }).get? s.heap.objs.size = some o:=eb
     rw [e1] at eb
     cases eb
     exact hT
    ·refine hk b o hbe hbi ?_
     have eb:(s.heap.push { cls:=.type "tuple",data:=.seq #[.int i tk,.str ⟨#[c]⟩ u] }).get? b = some o:=eb
     have hlt:=Heap.lt_size eb
     rw [Heap.size_push] at hlt
     exact zgK eb (Nat.lt_of_le_of_ne (Nat.le_of_lt_succ hlt) hbs)
   ·obtain ⟨f0,f1,f2,f3,f4,f5⟩:=hf b hb
    exact ⟨nn b hb,f1,f2,f3,f4,f5⟩
  refine ⟨.ref s.heap.objs.size,_,I2,rfl,⟨s.heap.objs.size,c,hfr,rfl,hcu,rfl⟩,⟨⟨_,by simpa using he2⟩,?_⟩,nn⟩
  obtain ⟨o,eo,co⟩:=hit'
  exact ⟨o,(hs2.2 it hei.symm).trans eo,co⟩
 done:=by
  intro X hP hw hK hc i zp s σ H E I hf st hg
  subst hP hw hK
  obtain ⟨⟨old,he⟩,hit⟩:=st
  have hg:i = z.cps.size:=hg
  subst hg
  refine wpAny_pyNext_enum_endD (D X.A.in1 (I.ok.hd hc)) he hit fun h' eb=>⟨rfl,?_⟩
  exact I.turnedL (t':=s.toks) (fp:=[e,it]) (fun b o hb e'=>eb b o (fun z=>hb (by simp [z])) e') hf
 self:=fun _ _ _ _ _ st h=>by
  obtain ⟨⟨old,he⟩,_⟩:=st
  exact wpAny_pyIter_enum he h
def zlj (ta:TA):TI:=fun σ H R=>ta σ H fun vs H1=>∃ z:Str,vs = [.str z]/\R (Itn z) H1
theorem zeI {X:Cx}{elts:List Expr}{k:Nat}{ps:Pos}{a:Expr}{ta:TA}{p pos:Pos} (hg:Gl X "enumerate") (hm:X.mg "enumerate" = none) (ha:PA X [a] ta) (hs:starEach [a] X.env = [(false,eval a X.env)]:=by rfl):
  PI X (.Tuple elts k ps) (.Call (.Name "enumerate" p) [a] [] pos) (zlj ta):=by
 intro zp s σ H R I h
 refine Call_ (zdH I hg hm ze7 (PyProof.Rows.callWith_type1 (thn (ha pos zp s σ H _ I h) fun us s1 ⟨vs,H1,I1,r1,q1⟩=>?_) hs rfl))
 obtain ⟨z,e,q⟩:=q1
 subst e
 obtain ⟨u,rfl,rx⟩:=zbN r1
 obtain ⟨t,rfl⟩:=rx
 refine call_enumerate_str fun h' he hi hsz hk=>?_
 have hne:s1.heap.objs.size + 1≠s1.heap.objs.size:=Nat.succ_ne_self _
 refine wpAny_pyIter_enum he ?_
 have I2:Inv X zp σ H1 { s1 with heap:=h',toks:=s1.toks }:=I1.kept (t':=s1.toks) hk
 have D:∀ A:Around,A.handled = none->Draws X.prog X.w A s1.heap.objs.size [s1.heap.objs.size] z.cps.size (fun i v=>∃ c u,z.cps[i]? = some c/\v = .str ⟨#[c]⟩ u) (fun i h=>h.IsStrIter s1.heap.objs.size (strIterType z) z t i):=fun A hA=>by
  unfold strIterType
  cases ha:z.cps.all (· < 128)
  ·exact Draws.strWide hA _ z t
  ·exact Draws.strAscii hA _ z t
 refine ⟨s1.heap.objs.size + 1,[s1.heap.objs.size + 1,s1.heap.objs.size],_,_,H1,rfl,I2,zh4 _ _ hne D,⟨⟨_,he⟩,hi⟩,fun c hc=>?_,q⟩
 have hcs:c = s1.heap.objs.size + 1\/c = s1.heap.objs.size:=by simpa using hc
 have hle:s1.heap.objs.size<=c:=by
  rcases hcs with r | r
  ·rw [r]; exact Nat.le_succ _
  ·rw [r]; exact Nat.le_refl _
 exact I1.fpOk hle (I1.hok.fresh hle)
theorem zjN {z:Str}{g:TG}{tb:TS}{D:Ends}{σ:St}{H:Hp} (Pv:Nat->St->Hp->Prop) (h0:Pv 0 σ H)
  (hs:∀ i c t σ H,z.cps[i]? = some c->H t = none->Pv i σ H->g (.ref t) σ (upd H t (.tup [.int i,.str ⟨#[c]⟩])) fun σ2 H2=>tb { D with nx:=Pv (i + 1),ct:=Pv (i + 1),bk:=D.nx } σ2 H2) (hd:∀ σ H,Pv z.cps.size σ H->D.nx σ H):
  ∃ W:Nat->Nat->St->Hp->Prop,(∃ m,W 0 m σ H)/\∀ i m σ H,W i m σ H->
   ((Itn z).stop i H/\D.nx σ H)\/((Itn z).go i H/\∃ N:St->Hp->Prop,(∀ σ' H',N σ' H'->∃ m',m' < m/\W (i + 1) m' σ' H')/\∀ x H',(Itn z).yld i H x H'->g x σ H' fun σ2 H2=>tb { D with nx:=N,ct:=N,bk:=D.nx } σ2 H2):=by
 refine ⟨fun i m σ H=>m = z.cps.size - i/\i<=z.cps.size/\Pv i σ H,⟨z.cps.size,by simp,Nat.zero_le _,h0⟩,?_⟩
 rintro i m σ H ⟨rfl,hi,p⟩
 by_cases hlt:i < z.cps.size
 ·refine .inr ⟨hlt,Pv (i + 1),fun σ' H' p'=>⟨z.cps.size - (i + 1),by omega,rfl,hlt,p'⟩,fun x H' y=>?_⟩
  obtain ⟨t,c,ht,rfl,hc,rfl⟩:=y
  exact hs i c t σ H hc ht p
 ·have e:i = z.cps.size:=by omega
  subst e
  exact .inl ⟨rfl,hd σ H p⟩
end L2
namespace D
open PySem L2
theorem zeI {X:Cx}{elts:List Expr}{k:Nat}{ps:Pos}{a:Expr}{ta:TA}{p pos:Pos} (hg:Gl X "enumerate") (hm:X.mg "enumerate" = none) (ha:QA X [a] ta) (hs:starEach [a] X.env = [(false,eval a X.env)]:=by rfl):
  QI X (.Tuple elts k ps) (.Call (.Name "enumerate" p) [a] [] pos) (zlj ta):=⟨L2.zeI hg hm ha.un hs⟩
end D
namespace L2
open PySem
theorem zhj {K:PySem.W.Frag}{fr:List Nat}{tl:TE}{tt:TT}{σ:St}{H:Hp}{Q:VK}{a:Addr}{vs:List V} (pr:V->Bool) (hσ:∀ R:VK,R (.ref a) H->tl σ H R) (hS:SqL K H a vs) (hz:vs.length<=sizeLine)
  (step:∀ (v:V) (H1:Hp) (R:Bool->Hp->Prop),v∈vs->Same H H1->(∀ H2,Same H1 H2->R (pr v) H2)->tt (some v :: frees fr σ) H1 R)
  (fin:∀ (H1:Hp) (D:Addr),Same H H1->H1 D = none->Q (.ref D) (upd H1 D (.lst (vs.filter pr)))):zbd fr (zlt K tl) tt (tVar 0) σ H Q:=by
 refine hσ _ ⟨a,rfl,⟨vs,hS⟩,fun i m us H1=>i<=vs.length/\m = vs.length - i/\us = (vs.take i).filter pr/\Same H H1,⟨_,Nat.zero_le _,rfl,rfl,Same.refl _⟩,fun i m us H1 hW=>?_⟩
 obtain ⟨hi,hm,rfl,sm⟩:=hW
 refine ⟨Nat.le_trans (List.length_filter_le _ _) (by rw [List.length_take]; omega),?_⟩
 by_cases hlt:i < vs.length
 ·refine .inr ⟨⟨vs,vs[i],sm.seq hS,List.getElem?_eq_getElem hlt⟩,fun v H' hy=>?_⟩
  obtain ⟨rfl,hv⟩:=hy
  have hv:=hv vs (sm.seq hS)
  refine step v H' _ (List.mem_of_getElem? hv) sm fun H2 s2=>?_
  cases hp:pr v with
  | true=>
   refine iteT ⟨v,rfl,vs.length - (i + 1),by omega,by omega,rfl,?_,sm.trans s2⟩
   rw [zV hv,List.filter_append,List.filter_cons,if_pos hp]
   rfl
  | false=>
   refine iteF ⟨vs.length - (i + 1),by omega,by omega,rfl,?_,sm.trans s2⟩
   rw [zV hv,List.filter_append,List.filter_cons,if_neg (by rw [hp]; decide),List.filter_nil,List.append_nil]
 ·have e:i = vs.length:=by omega
  subst e
  exact .inl ⟨⟨vs,sm.seq hS,Nat.le_refl _⟩,fun D hD=>by rw [List.take_length]; exact fin H1 D sm hD⟩
theorem seqA {te:TE}{g:TG}{b:TS}{D:Ends}{σ:St}{H:Hp} (h:te σ H fun v H1=>g v σ H1 fun σ2 H2=>b D σ2 H2):tSeq (tAsg te g) b D σ H:=h
end L2
namespace D
open PySem L2
def tog (q:Bool) (c:Nat):Bool:=if c = 34 then !q else q
def par (q:Bool):List Nat->Bool
 | []=>q
 | c :: r=>par (tog q c) r
theorem zcR:∀ (l:List Nat) (q:Bool) (c:Nat),par q (l ++ [c]) = tog (par q l) c
 | [],q,c=>rfl
 | d :: r,q,c=>by rw [List.cons_append,par,zcR r,par]
def outs (l:List Nat) (k:Nat):List Nat:=(List.range k).filter fun i=>!par false (l.take (i + 1))
theorem zjO (l:List Nat) (k:Nat):outs l (k + 1) = outs l k ++ (if par false (l.take (k + 1)) = true then [] else [k]):=by
 unfold outs
 rw [List.range_succ,List.filter_append]
 cases h:par false (l.take (k + 1)) <;> simp [h]
theorem zhk (l:List Nat) (k:Nat):(outs l k).length<=k:=by
 have:=List.length_filter_le (fun i=>!par false (l.take (i + 1))) (List.range k)
 rw [List.length_range] at this
 exact this
theorem zkV {l:List Nat}{k i:Nat}:i∈outs l k ↔ i < k/\par false (l.take (i + 1)) = false:=by
 unfold outs
 rw [List.mem_filter,List.mem_range,Bool.not_eq_true']
def zmo:Sp:=fun vs H Q _=>∃ z:Str,vs = [.str z]/\z.length<=100000/\∀ (p:Addr) (H':Hp),H p = none->Same H H'->H' p = some (.lst ((outs z.cps.toList z.length).map fun i=>V.int (i:Nat)))->Q (.ref p) H'
inductive Spo:List Nat->List Nat->Prop where
 | del {u v:List Nat}{c:Nat}:(c = 40\/c = 41)->par false u = false->Spo (u ++ c :: v) (u ++ v)
 | ins {u v:List Nat}{c:Nat}:(c = 40\/c = 41)->par false u = false->Spo (u ++ v) (u ++ c :: v)
 | app {z:List Nat}{s:Str}:s∈[(" x":Str)," 1","\"\""," ()"," (lit ())","\t"]->Spo z (z ++ s.cps.toList)
 | pre {z:List Nat}{s:Str}:s∈[("x ":Str),"1 ","\"\"","() ","(lit ()) ","\t"]->Spo z (s.cps.toList ++ z)
 | qin {u v:List Nat}{d:Nat}:par false u = false->d≠40->d≠41->d≠34->Spo (u ++ 40 :: d :: v) (u ++ 40 :: 113 :: d :: v)
 | quo {z:List Nat}:Spo z (z ++ [32,34])
def isBr (z:Str):V->Bool
 | .int i=>decide (z.cps.toList[i.toNat]? = some 40\/z.cps.toList[i.toNat]? = some 41)
 | _=>false
def isHd (z:Str):V->Bool
 | .int i=>decide (z.cps.toList[i.toNat]? = some 40) && (match z.cps.toList[i.toNat + 1]? with
  | some d=>decide (d≠40/\d≠41/\d≠34)
  | none=>false)
 | _=>false
def zeJ:Sp:=fun vs H Q _=>∃ (b:Addr) (z:Str),vs = [.ref b,.str z]/\Zr H b/\z.length<=10000/\(∀ i,z.cps.toList[i]? = some 40->i + 1 < z.length)/\∀ (x:Str) (H':Hp),Spo z.cps.toList x.cps.toList->x.length<=20000->Step b H H'->Q (.str x) H'
theorem zbM {z:Str}{a:Nat} (h1:a<=z.length):(Txt.slice z none (some (a:Int))).cps.toList = z.cps.toList.take a:=by
 have e:=PyProof.Rows.slice_closes_toL (x:=z) (j:=(a:Int)) (by omega) (by omega)
 rw [eq_of_beq e]
 simp
theorem zdu {bs:List V}{m:Int} (h0:0<=m) (h1:m < bs.length):∃ v∈bs,atI bs m = some v:=by
 have hm:m.toNat < bs.length:=by omega
 refine ⟨bs[m.toNat],List.getElem_mem hm,?_⟩
 have:=zM (xs:=bs) (j:=m.toNat) (List.getElem?_eq_getElem hm)
 rw [show ((m.toNat:Nat):Int) = m by omega] at this
 exact this
theorem zlk {l:List Nat}{i c:Nat} (h:l[i]? = some c):l = l.take i ++ c :: l.drop (i + 1):=by
 rw [← zeq h,List.take_append_drop]
theorem zmp {l:List Nat}{i:Nat} (h:l[i]? = some 40\/l[i]? = some 41) (hp:par false (l.take (i + 1)) = false):Spo l (l.take i ++ l.drop (i + 1)):=by
 have key:∀ c,l[i]? = some c->(c = 40\/c = 41)->Spo l (l.take i ++ l.drop (i + 1)):=fun c hc h2=>by
  have hp2:par false (l.take i) = false:=by
   rw [zV hc,zcR,tog,if_neg (by omega)] at hp
   exact hp
  have:=Spo.del (v:=l.drop (i + 1)) h2 hp2
  rw [← zlk hc] at this
  exact this
 rcases h with h | h
 ·exact key 40 h (.inl rfl)
 ·exact key 41 h (.inr rfl)
theorem zmq {l:List Nat}{i c:Nat} (h:c = 40\/c = 41) (hp:par false (l.take (i + 1)) = false):Spo l (l.take (i + 1) ++ c :: l.drop (i + 1)):=by
 have:=Spo.ins (v:=l.drop (i + 1)) h hp
 rw [List.take_append_drop] at this
 exact this
theorem zmr {l:List Nat}{i d:Nat} (h:l[i]? = some 40) (h2:l[i + 1]? = some d) (hd:d≠40/\d≠41/\d≠34) (hp:par false (l.take (i + 1)) = false):Spo l (l.take (i + 1) ++ 113 :: l.drop (i + 1)):=by
 have hp2:par false (l.take i) = false:=by
  rw [zV h,zcR,tog,if_neg (by decide)] at hp
  exact hp
 have e1:l.drop (i + 1) = d :: l.drop (i + 2):=zeq h2
 have:=Spo.qin (v:=l.drop (i + 2)) hp2 hd.1 hd.2.1 hd.2.2
 rw [← e1,← zlk h] at this
 rw [zV h,e1,List.append_assoc]
 rw [e1] at this
 exact this
theorem zjP (d:Nat) (y:Str) (c:Nat) (h:y.cps.toList = [c]):decide (V.str ⟨#[d]⟩ = V.str y) = decide (d = c):=by
 refine decide_eq_decide.mpr ⟨fun e=>?_,fun e=>?_⟩
 ·have:=congrArg (fun y:Str=>y.cps.toList) (V.str.inj e)
  rw [h] at this
  simpa using this
 ·rw [strOf y,h,e]
theorem zkW (d:Nat):(!inV (.str ⟨#[d]⟩) [.str (Str.ofString ""),.str (Str.ofString "("),.str (Str.ofString ")"),.str (Str.ofString "\"")]) = decide (d≠40/\d≠41/\d≠34):=by
 have h0:decide (V.str ⟨#[d]⟩ = V.str (Str.ofString "")) = false:=decide_eq_false fun e=>by
  have:=congrArg (fun y:Str=>y.cps.toList) (V.str.inj e)
  rw [show (Str.ofString "").cps.toList = [] by decide +kernel] at this
  simp at this
 have h1:=zjP d (Str.ofString "(") 40 (by decide +kernel)
 have h2:=zjP d (Str.ofString ")") 41 (by decide +kernel)
 have h3:=zjP d (Str.ofString "\"") 34 (by decide +kernel)
 have e:∀ y:Str,eqV (.str y) (.str ⟨#[d]⟩) = decide (V.str ⟨#[d]⟩ = V.str y):=fun y=>by
  show (y == ⟨#[d]⟩) = _
  rw [Bool.eq_iff_iff,beq_iff_eq,decide_eq_true_iff]
  exact ⟨fun h=>by rw [h],fun h=>(V.str.inj h).symm⟩
 unfold inV
 simp only [List.any_cons,List.any_nil,e,h0,h1,h2,h3]
 by_cases a:d = 40
 ·simp [a]
 ·by_cases b:d = 41
  ·simp [b]
  ·by_cases c:d = 34 <;> simp [a,b,c]
section
variable {P:Program}{w:World}{K:PySem.W.Frag}{mg:Str->Option Value}{base:Heap}{f:Addr}{fd:FuncData}{k n:Nat}{zN AForgeError ANoName ANoRow ANoRule ANoStep ANoThing ANoWorth:Addr}
theorem zI:FnScope ["_law_text_here","_law_found","_law_quoted","_law_k","_law_sign"] ["_law_text_here"] (zl Zb):=⟨rfl,rfl,rfl,by decide +kernel,rfl,by decide +kernel,by decide +kernel⟩
theorem za4 (F:Fun K "_law_signs_out_of_quotes" "_law_signs_out_of_quotes" Zb f fd) (m_enumerate:mg "enumerate" = none):FnOk P w K mg base CX0 (k + 1) f fd ["_law_text_here"] (zmo):=by
 refine F.okQ zI (fun vs H Q E h=>?_) (fun cdv A outer s H vs Q E hr h=>?_)
 ·obtain ⟨z,rfl,_⟩:=h
  rfl
 obtain ⟨z,rfl,hz,q⟩:=h
 refine ⟨_,(zb (zn (i:=1) zI.nd rfl (Or.inl rfl) (zx zc))
  (zb (zn (i:=2) zI.nd rfl (Or.inl rfl) zaJ)
  (zb (zaC PassesOwn.never rfl (zeI rfl m_enumerate (za (pv 0) zc)) (zbP rfl (Zn (zZ (i:=3) zI.nd rfl (Or.inl rfl)) (Zn (zZ (i:=4) zI.nd rfl (Or.inl rfl)) za8))) (zb (zB (zj zS (pv 4) ze (nomark _)) (zg (zn (i:=2) zI.nd rfl (Or.inl rfl) (zeM (pv 2)))) zq)
  (zg (zB (ZP (zW (pv 2))) (zg (ZB (zaE PySem.F.plainAttrs_list PySem.F.slot_list_append PySem.F.type_list_append ZR (pv 1) (za (pv 3) zc)))) zq))))
  (zg (zo (pv 1)))))),?_⟩
 refine ⟨zl0,fun p hp=>?_⟩
 dsimp only [ZI]
 refine ⟨_,rfl,z,rfl,?_⟩
 have hsz:z.cps.size = z.length:=rfl
 refine zjN (fun i σ' H'=>∃ o3 o4,σ' = [some (.str z),some (.ref p),some (.bl (par false (z.cps.toList.take i))),o3,o4]/\H' p = some (.lst ((outs z.cps.toList i).map fun j=>V.int (j:Nat)))/\Same H H') ⟨_,_,rfl,zd,Same.new hp⟩ (fun i c t σ' H' hc ht hP=>?_) (fun σ' H' hP=>?_)
 ·obtain ⟨o3,o4,rfl,hl,s1⟩:=hP
  have hget:z.cps.toList[i]? = some c:=by rw [Array.getElem?_toList]; exact hc
  have hpar:par false (z.cps.toList.take (i + 1)) = tog (par false (z.cps.toList.take i)) c:=by rw [zV hget,zcR]
  have hi:i < z.length:=by have:=(List.getElem?_eq_some_iff.mp hget).1; rw [zt] at this; exact this
  have hol:=zhk z.cps.toList i
  have sT:=Same.new (o:=.tup [.int i,.str ⟨#[c]⟩]) ht
  have lT:=sT _ _ hl
  have s2:=s1.trans sT
  have so:=zjO z.cps.toList i
  refine ⟨t,_,rfl,SqT.of zd,rfl,_,_,rfl,_,_,rfl,rfl,?_⟩
  generalize upd H' t (.tup [.int i,.str ⟨#[c]⟩]) = H2 at lT s2 ⊢
  refine seqI (fun σ2 H3=>σ2 = [some (.str z),some (.ref p),some (.bl (par false (z.cps.toList.take (i + 1)))),some (.int i),some (.str ⟨#[c]⟩)]/\H3 = H2) (fun σ2 H3 h=>?_) (fun tl=>?_)
  ·obtain ⟨rfl,rfl⟩:=h
   refine ⟨_,rfl,_,rfl,?_⟩
   cases hq:par false (z.cps.toList.take (i + 1)) with
   | true=>
    rw [hq] at so
    refine iteF ⟨_,_,rfl,?_,s2⟩
    rw [so]
    simpa using lT
   | false=>
    rw [hq] at so
    refine iteT ⟨_,rfl,.inl ⟨rfl,_,SqL.of lT⟩,_,rfl,p,_,_,rfl,rfl,lT,?_,?_⟩
    ·show (List.map _ _).length < sizeLine
     rw [List.length_map]
     exact Nat.lt_of_le_of_lt (show _<=100000 by omega) (by decide)
    ·refine ⟨_,_,rfl,?_,fun a o e=>?_⟩
     ·rw [zd,so,List.map_append]
      rfl
     ·rw [zu (zr e hp)]
      exact s2 a o e
  ·refine ⟨_,rfl,rfl,_,rfl,?_⟩
   by_cases h34:c = 34
   ·subst h34
    rw [decide_eq_true (by decide +kernel)]
    refine iteT ⟨_,rfl,_,rfl,tl _ _ ⟨?_,rfl⟩⟩
    rw [hpar]
    rfl
   ·rw [decide_eq_false (fun e=>h34 (by have:=congrArg (fun y:Str=>y.cps.toList) (V.str.inj e); rw [show (Str.ofString "\"").cps.toList = [34] by decide +kernel] at this; simpa using this))]
    refine iteF (tl _ _ ⟨?_,rfl⟩)
    rw [hpar]
    unfold tog
    rw [if_neg h34]
    rfl
 ·obtain ⟨o3,o4,rfl,hl,s1⟩:=hP
  exact ⟨_,rfl,q p H' hp s1 hl⟩
theorem ZN:FnScope ["_law_box_here","_law_text_here","_law_spots","_law_brackets","_law_turn","_law_spot","_law_heads"] ["_law_box_here","_law_text_here"] (zl zb7):=⟨rfl,rfl,rfl,by decide +kernel,rfl,by decide +kernel,by decide +kernel⟩
theorem zh5 (F:Fun K "_law_spoilt" "_law_spoilt" zb7 f fd) (G_ltake:Have P w K mg base "_law_take" k ["_law_box_here","_law_wide"] (za5)) (G_lsigns_out_of_quotes:Have P w K mg base "_law_signs_out_of_quotes" k ["_law_text_here"] (zmo)) (m_len:mg "len" = none):FnOk P w K mg base CX0 (k + 1) f fd ["_law_box_here","_law_text_here"] (zeJ):=by
 refine F.okQ ZN (fun vs H Q E h=>?_) (fun cdv A outer s H vs Q E hr h=>?_)
 ·obtain ⟨b,z,rfl,_⟩:=h
  rfl
 obtain ⟨b,z,rfl,hb,hz,hlast,q⟩:=h
 refine ⟨_,(zb (zn (i:=2) ZN.nd rfl (Or.inl rfl) (zw G_lsigns_out_of_quotes hr rfl (za (pv 1) zc)))
  (zb (zc5 (i:=3) [1] ["_law_text_here"] rfl rfl (by decide +kernel) rfl (by decide +kernel) rfl (by decide +kernel) ⟨rfl,trivial⟩ rfl ⟨⟨rfl,rfl,Or.inr (Or.inl rfl),(by show (some NameKind.cell:Option NameKind)≠some .local; decide),⟨_,rfl⟩⟩,trivial⟩ (zay (pv 2)) (fun C s H fp=>⟨(zcL (zj zbb (zy zbY (pv 1) (pv 0) (fun _ _=>rfl)) ze (by rfl))),(pv 0)⟩) ZN.nd rfl (Or.inl rfl))
  (zb (zn (i:=4) ZN.nd rfl (Or.inl rfl) (zw G_ltake hr rfl (za (pv 0) (za zf zc))))
  (zb (zB (PW.pt (zal (zj zS (pv 4) zf (nomark _)) (ZH (zj (zgL (Nat.lt_of_le_of_lt (Nat.le_add_right _ 64) hr.units)) (pv 3) (zx zc) (nomark _))))) (zb (zn (i:=5) ZN.nd rfl (Or.inl rfl) (zy zQ (pv 3) (zw G_ltake hr rfl (za (pv 0) (za (zk zz rfl m_len PySem.boot_len (za (pv 3) zc)) zc))) (fun _ _=>rfl)))
  (zg (zo (zi zh (Zg zaz (pv 1) zae (Ze (pv 5))) (Zg zaz (pv 1) (Ze (zi zU (pv 5) zf)) zae))))) zq)
  (zb (zB (PW.pt (zal (zj zS (pv 4) zf (nomark _)) (ZH (zj (zgL (Nat.lt_of_le_of_lt (Nat.le_add_right _ 64) hr.units)) (pv 2) (zx zc) (nomark _))))) (zb (zn (i:=5) ZN.nd rfl (Or.inl rfl) (zi zU (zy zQ (pv 2) (zw G_ltake hr rfl (za (pv 0) (za (zk zz rfl m_len PySem.boot_len (za (pv 2) zc)) zc))) (fun _ _=>rfl)) zf))
  (zg (zo (zi zh (zi zh (Zg zaz (pv 1) zae (Ze (pv 5))) (zy zbY ze (zw G_ltake hr rfl (za (pv 0) (za zf zc))) (fun _ _=>rfl))) (Zg zaz (pv 1) (Ze (pv 5)) zae))))) zq)
  (zb (zB (zj zS (pv 4) zf (nomark _)) (zg (zo (zi zh (pv 1) (zy zQ (zx (za ze (za ze (za ze (za ze (za ze (za ze zc))))))) (zw G_ltake hr rfl (za (pv 0) (za zf zc))) (fun _ _=>rfl))))) zq)
  (zb (zB (zj zS (pv 4) zf (nomark _)) (zg (zo (zi zh (zy zQ (zx (za ze (za ze (za ze (za ze (za ze (za ze zc))))))) (zw G_ltake hr rfl (za (pv 0) (za zf zc))) (fun _ _=>rfl)) (pv 1)))) zq)
  (zb (zc5 (i:=6) [1] ["_law_text_here"] rfl rfl (by decide +kernel) rfl (by decide +kernel) rfl (by decide +kernel) ⟨rfl,trivial⟩ rfl ⟨⟨rfl,rfl,Or.inr (Or.inl rfl),(by show (some NameKind.cell:Option NameKind)≠some .local; decide),⟨_,rfl⟩⟩,trivial⟩ (zay (pv 3)) (fun C s H fp=>⟨(zcL (PW.pt (zal (zj zS (zy zbY (pv 1) (pv 0) (fun _ _=>rfl)) ze (nomark _)) (ZH (zj (show OpR _ (compareOp .NotIn) (rIn K true) from zbc) (Zg zaz (pv 1) (Ze (zi zU (pv 0) zf)) (Ze (zi zU (pv 0) zf))) (zx (za ze (za ze (za ze (za ze zc))))) (by rfl)))))),(pv 0)⟩) ZN.nd rfl (Or.inl rfl))
  (zb (zB (PW.pt (zal (zj zS (pv 4) zf (nomark _)) (ZH (zj (zgL (Nat.lt_of_le_of_lt (Nat.le_add_right _ 64) hr.units)) (pv 6) (zx zc) (nomark _))))) (zb (zn (i:=5) ZN.nd rfl (Or.inl rfl) (zi zU (zy zQ (pv 6) (zw G_ltake hr rfl (za (pv 0) (za (zk zz rfl m_len PySem.boot_len (za (pv 6) zc)) zc))) (fun _ _=>rfl)) zf))
  (zg (zo (zi zh (zi zh (Zg zaz (pv 1) zae (Ze (pv 5))) ze) (Zg zaz (pv 1) (Ze (pv 5)) zae))))) zq)
  (zg (zo (zi zh (pv 1) ze)))))))))))),?_⟩
 refine ⟨_,rfl,z,rfl,by omega,fun p H1 hp s1 el=>?_⟩
 have hol:((outs z.cps.toList z.length).map (fun i=>V.int (i:Nat))).length<=10000:=by have:=zhk z.cps.toList z.length; rw [List.length_map]; omega
 have hbr:∀ (v:V),v∈(outs z.cps.toList z.length).map (fun i=>V.int (i:Nat))->∃ i:Nat,v = .int i/\i < z.length/\par false (z.cps.toList.take (i + 1)) = false:=fun v hv=>by
  obtain ⟨i,hi,rfl⟩:=List.mem_map.mp hv
  exact ⟨i,rfl,zkV.mp hi⟩
 generalize (outs z.cps.toList z.length).map (fun i=>V.int (i:Nat)) = os at el hbr hol
 dsimp only [ZI]
 refine seqA ?_
 refine zhj (a:=p) (vs:=os) (isBr z) (fun R hR=>⟨_,rfl,hR⟩) (SqL.of el) (small (by omega)) (fun v H2 R hv s2 hR=>?_) (fun H2 D s2 hD=>?_)
 ·obtain ⟨i,rfl,hi,hq⟩:=hbr v hv
  obtain ⟨c,hc⟩:∃ c,z.cps.toList[i]? = some c:=⟨_,List.getElem?_eq_getElem (by rw [zt]; exact hi)⟩
  refine ⟨_,rfl,_,rfl,z,i,c,rfl,rfl,small (by omega),zM hc,_,_,rfl,rfl,_,rfl,?_⟩
  rw [zcf,show (Str.ofString "()").cps.toList = [40,41] by decide +kernel]
  have:decide (c∈[40,41]) = isBr z (.int i):=by
   show _ = decide (z.cps.toList[(i:Int).toNat]? = some 40\/z.cps.toList[(i:Int).toNat]? = some 41)
   rw [Int.toNat_natCast,hc]
   simp
  rw [this]
  exact hR _ (Same.refl _)
 have sD:=Same.new (o:=.lst (os.filter (isBr z))) hD
 have eD:upd H2 D (.lst (os.filter (isBr z))) D = some (.lst (os.filter (isBr z))):=zd
 have hDb:H D = none:=(s1.trans s2).free hD
 have sA:=(s1.trans s2).trans sD
 have elA:=sD _ _ (s2 _ _ el)
 generalize upd H2 D (.lst (os.filter (isBr z))) = H3 at sD eD sA elA ⊢
 have hbl:(os.filter (isBr z)).length<=10000:=Nat.le_trans (List.length_filter_le _ _) hol
 have hbB:∀ v∈os.filter (isBr z),∃ i:Nat,v = .int i/\i < z.length/\par false (z.cps.toList.take (i + 1)) = false/\(z.cps.toList[i]? = some 40\/z.cps.toList[i]? = some 41):=fun v hv=>by
  obtain ⟨h1,h2⟩:=List.mem_filter.mp hv
  obtain ⟨i,rfl,hi,hq⟩:=hbr v h1
  exact ⟨i,rfl,hi,hq,by simpa [isBr] using h2⟩
 generalize os.filter (isBr z) = bs at eD hbl hbB
 have hpb:p≠b:=Zr.ne hb hp
 have hDn:D≠b:=Zr.ne hb hDb
 have st0:=Step.ofSame' hb sA
 dsimp only [ZI]
 refine seqA ?_
 refine ⟨_,rfl,b,6,rfl,st0.box,by decide,by decide,fun m H4 m0 m1 st1=>?_⟩
 dsimp only [ZI]
 have st4:=st0.trans st1
 have el4:=st1.keep _ _ hpb elA
 have eD4:=st1.keep _ _ hDn eD
 refine seqI (fun σ' H'=>∃ o5,σ' = [some (.ref b),some (.str z),some (.ref p),some (.ref D),some (.int m),o5,none]/\Same H4 H') (fun σ' H5 h=>?_) (fun tl=>?_)
 ·obtain ⟨o5,rfl,s5⟩:=h
  have st5:=st4.trans (Step.ofSame' st4.box s5)
  have el5:=s5 _ _ el4
  have eD5:=s5 _ _ eD4
  clear elA eD el4 eD4 st1 st4 s5
  refine seqI (fun σ' H'=>∃ o5,σ' = [some (.ref b),some (.str z),some (.ref p),some (.ref D),some (.int m),o5,none]/\Same H5 H') (fun σ' H6 h=>?_) (fun tl=>?_)
  ·obtain ⟨o5,rfl,s6⟩:=h
   have st6:=st5.trans (Step.ofSame' st5.box s6)
   have eD6:=s6 _ _ eD5
   clear el5 eD5 st5 s6
   refine seqI (fun σ' H'=>σ' = [some (.ref b),some (.str z),some (.ref p),some (.ref D),some (.int m),o5,none]/\H' = H6) (fun σ' H' h=>?_) (fun tl=>?_)
   rotate_left
   ·refine ⟨_,rfl,rfl,_,rfl,ite2 (fun e=>?_) (fun e=>tl _ _ ⟨rfl,rfl⟩)⟩
    refine ⟨_,rfl,zl6,fun q1 hq1=>⟨_,rfl,b,6,rfl,(st6.trans (Step.ofSame' st6.box (Same.new hq1))).box,by decide,by decide,fun j H8 j0 j1 st9=>?_⟩⟩
    have st7:=st6.trans (Step.ofSame' st6.box (Same.new (o:=.lst (([" x"," 1","\"\""," ()"," (lit ())","\t"]:List Str).map V.str)) hq1))
    have hqb:q1≠b:=Zr.ne st6.box hq1
    obtain ⟨v,hv,hat⟩:=zdu (bs:=([" x"," 1","\"\""," ()"," (lit ())","\t"]:List Str).map V.str) j0 j1
    obtain ⟨y,hy,rfl⟩:=List.mem_map.mp hv
    have hyl:y.length<=9:=by
     have:∀ y∈([" x"," 1","\"\""," ()"," (lit ())","\t"]:List Str),y.length<=9:=by decide +kernel
     exact this y hy
    refine ⟨q1,_,j,.str y,rfl,rfl,SqL.of (st9.keep _ _ hqb zd),hat,_,_,rfl,rfl,small (by omega),q _ _ ?_ (by rw [zD]; omega) (st7.trans st9)⟩
    rw [Zf]
    exact .app hy
   obtain ⟨rfl,rfl⟩:=h
   refine seqI (fun σ' H2=>σ' = [some (.ref b),some (.str z),some (.ref p),some (.ref D),some (.int m),o5,none]/\H2 = H') (fun σ' H2 h=>?_) (fun tl=>?_)
   rotate_left
   ·refine ⟨_,rfl,rfl,_,rfl,ite2 (fun e=>?_) (fun e=>tl _ _ ⟨rfl,rfl⟩)⟩
    refine ⟨zl6,fun q1 hq1=>⟨_,rfl,b,6,rfl,(st6.trans (Step.ofSame' st6.box (Same.new hq1))).box,by decide,by decide,fun j H8 j0 j1 st9=>?_⟩⟩
    have st7:=st6.trans (Step.ofSame' st6.box (Same.new (o:=.lst ((["x ","1 ","\"\"","() ","(lit ()) ","\t"]:List Str).map V.str)) hq1))
    have hqb:q1≠b:=Zr.ne st6.box hq1
    obtain ⟨v,hv,hat⟩:=zdu (bs:=(["x ","1 ","\"\"","() ","(lit ()) ","\t"]:List Str).map V.str) j0 j1
    obtain ⟨y,hy,rfl⟩:=List.mem_map.mp hv
    have hyl:y.length<=9:=by
     have:∀ y∈(["x ","1 ","\"\"","() ","(lit ()) ","\t"]:List Str),y.length<=9:=by decide +kernel
     exact this y hy
    refine ⟨q1,_,j,.str y,rfl,rfl,SqL.of (st9.keep _ _ hqb zd),hat,_,rfl,_,_,rfl,rfl,small (by omega),q _ _ ?_ (by rw [zD]; omega) (st7.trans st9)⟩
    rw [Zf]
    exact .pre hy
   obtain ⟨rfl,rfl⟩:=h
   refine seqA ?_
   refine zhj (a:=D) (vs:=bs) (isHd z) (fun R hR=>⟨_,rfl,hR⟩) (SqL.of eD6) (small (by omega)) (fun v H7 R hv s7 hR=>?_) (fun H7 C s7 hC=>?_)
   ·obtain ⟨i,rfl,hi,hq,hc⟩:=hbB v hv
    have hh:isHd z (.int i) = (decide (z.cps.toList[i]? = some 40) && (match z.cps.toList[i + 1]? with
     | some d=>decide (d≠40/\d≠41/\d≠34)
     | none=>false)):=rfl
    rw [hh] at hR
    rcases hc with hc | hc
    ·have hi1:=hlast i hc
     obtain ⟨d,hd⟩:∃ d,z.cps.toList[i + 1]? = some d:=⟨_,List.getElem?_eq_getElem (by rw [zt]; exact hi1)⟩
     rw [hc,hd,decide_eq_true rfl,Bool.true_and] at hR
     refine ⟨_,rfl,_,rfl,z,i,40,rfl,rfl,small (by omega),zM hc,rfl,_,rfl,?_⟩
     rw [decide_eq_true (by decide +kernel)]
     refine iteT ⟨_,rfl,_,rfl,_,_,rfl,rfl,_,rfl,_,rfl,_,_,rfl,rfl,_,rfl,z,rfl,by omega,zl4,fun q2 hq2=>?_⟩
     refine ⟨q2,_,rfl,.inl (SqL.of zd),rfl,rfl,_,rfl,?_⟩
     have es:Txt.slice z (some ((i:Int) + 1)) (some ((i:Int) + 2)) = ⟨#[d]⟩:=by
      have e:=zgO (z:=z) (a:=i + 1) (b:=i + 2) (by omega) (by omega)
      rw [zeq hd,show i + 2 - (i + 1) = 1 by omega,List.take_succ_cons,List.take_zero] at e
      rw [show ((i:Int) + 1) = ((i + 1:Nat):Int) by omega,show ((i:Int) + 2) = ((i + 2:Nat):Int) by omega,strOf (Txt.slice z _ _),e]
     rw [es]
     have ev:(!inV (.str ⟨#[d]⟩) [.str (Str.ofString ""),.str (Str.ofString "("),.str (Str.ofString ")"),.str (Str.ofString "\"")]) = decide (d≠40/\d≠41/\d≠34):=zkW d
     refine Eq.mpr (congrArg (fun y=>R y _) ev) (hR _ (Same.new hq2))
    ·rw [hc,decide_eq_false (by decide),Bool.false_and] at hR
     refine ⟨_,rfl,_,rfl,z,i,41,rfl,rfl,small (by omega),zM hc,rfl,_,rfl,?_⟩
     rw [decide_eq_false (by decide +kernel)]
     exact iteF (hR _ (Same.refl _))
   have sC:=Same.new (o:=.lst (bs.filter (isHd z))) hC
   have eC:upd H7 C (.lst (bs.filter (isHd z))) C = some (.lst (bs.filter (isHd z))):=zd
   have st7:=st6.trans (Step.ofSame' st6.box (s7.trans sC))
   have hCb:C≠b:=Zr.ne st6.box (s7.free hC)
   generalize upd H7 C (.lst (bs.filter (isHd z))) = H8 at sC eC st7 ⊢
   have hhB:∀ v∈bs.filter (isHd z),∃ (i d:Nat),v = .int i/\i + 1 < z.length/\par false (z.cps.toList.take (i + 1)) = false/\z.cps.toList[i]? = some 40/\z.cps.toList[i + 1]? = some d/\d≠40/\d≠41/\d≠34:=fun v hv=>by
    obtain ⟨h1,h2⟩:=List.mem_filter.mp hv
    obtain ⟨i,rfl,hi,hq,_⟩:=hbB v h1
    have h2:(decide (z.cps.toList[i]? = some 40) && (match z.cps.toList[i + 1]? with
     | some d=>decide (d≠40/\d≠41/\d≠34)
     | none=>false)) = true:=h2
    rw [Bool.and_eq_true,decide_eq_true_iff] at h2
    have hi1:=hlast i h2.1
    obtain ⟨d,hd⟩:∃ d,z.cps.toList[i + 1]? = some d:=⟨_,List.getElem?_eq_getElem (by rw [zt]; exact hi1)⟩
    have h3:=h2.2
    rw [hd] at h3
    exact ⟨i,d,rfl,hi1,hq,h2.1,hd,of_decide_eq_true h3⟩
   have hhl:(bs.filter (isHd z)).length<=10000:=Nat.le_trans (List.length_filter_le _ _) hbl
   generalize bs.filter (isHd z) = hs at eC hhB hhl
   dsimp only [ZI]
   have l4:(Str.ofString " \"").length = 2:=by decide +kernel
   refine seqI (fun σ' H2=>∃ o5,σ' = [some (.ref b),some (.str z),some (.ref p),some (.ref D),some (.int m),o5,some (.ref C)]/\Same H8 H2) (fun σ' H9 h=>?_) (fun tl=>?_)
   ·obtain ⟨o5,rfl,s9⟩:=h
    refine ⟨_,rfl,_,_,rfl,rfl,small (by omega),q _ _ ?_ (by rw [zD]; omega) (st7.trans (Step.ofSame' st7.box s9))⟩
    rw [Zf,show (Str.ofString " \"").cps.toList = [32,34] by decide +kernel]
    exact .quo
   ·refine ⟨_,rfl,rfl,_,rfl,ite2 (fun e=>?_) (fun e=>tl _ _ ⟨_,rfl,Same.refl _⟩)⟩
    refine ⟨_,rfl,zl0,fun q1 hq1=>⟨C,q1,hs,rfl,rfl,SqL.of (Same.new hq1 _ _ eC),SqL.of zd,_,rfl,?_⟩⟩
    have s9:=Same.new (o:=.lst []) hq1
    have st9:=st7.trans (Step.ofSame' st7.box s9)
    have eC9:=s9 _ _ eC
    generalize upd H8 q1 (.lst []) = H9 at s9 st9 eC9 ⊢
    cases hbe:hs.isEmpty with
    | true=>exact iteF (tl _ _ ⟨_,rfl,s9⟩)
    | false=>
     have hpos:0 < hs.length:=List.length_pos_iff.mpr (by simpa using hbe)
     refine iteT (seqA ⟨_,rfl,_,rfl,_,rfl,_,_,rfl,.inl ⟨_,SqL.of eC9,rfl⟩,b,_,rfl,st9.box,by omega,by omega,fun m5 HA m50 m51 stA=>?_⟩)
     obtain ⟨v,hv,hat⟩:=zdu m50 m51
     refine ⟨C,hs,m5,v,rfl,rfl,SqL.of (stA.keep _ _ hCb eC9),hat,?_⟩
     obtain ⟨i,d,rfl,hi,hq,hc,hd,hdn⟩:=hhB v hv
     refine ⟨_,_,rfl,rfl,?_⟩
     dsimp only [ZI,tRet]
     have l1:=congrArg List.length (zbM (z:=z) (a:=i + 1) (by omega))
     have l2:=congrArg List.length (zaZ (z:=z) (a:=i + 1) (by omega))
     rw [zt,List.length_take,zt] at l1
     rw [zt,List.length_drop,zt] at l2
     rw [show ((i:Int) + 1) = ((i + 1:Nat):Int) by omega]
     have l3:(Str.ofString "q").length = 1:=by decide +kernel
     refine ⟨_,rfl,_,rfl,_,rfl,z,rfl,by omega,_,_,rfl,rfl,small (by omega),?_⟩
     refine ⟨_,rfl,_,rfl,_,rfl,z,rfl,by omega,_,_,rfl,rfl,small (by rw [zD]; omega),q _ _ ?_ (by rw [zD,zD]; omega) (st9.trans stA)⟩
     rw [Zf,Zf,zbM (by omega),zaZ (by omega),List.append_assoc,show (Str.ofString "q").cps.toList = [113] by decide +kernel]
     exact zmr hc hd hdn hq
  ·refine ⟨_,rfl,rfl,_,rfl,?_⟩
   by_cases hm0:m = 1
   ·rw [decide_eq_true (by rw [hm0])]
    refine iteT ⟨_,rfl,zl0,fun q1 hq1=>⟨p,q1,os,rfl,rfl,SqL.of (Same.new hq1 _ _ el5),SqL.of zd,_,rfl,?_⟩⟩
    have s6:=Same.new (o:=.lst []) hq1
    have st6:=st5.trans (Step.ofSame' st5.box s6)
    have el6:=s6 _ _ el5
    generalize upd H5 q1 (.lst []) = H6 at s6 st6 el6 ⊢
    cases hbe:os.isEmpty with
    | true=>exact iteF (tl _ _ ⟨_,rfl,s6⟩)
    | false=>
     have hpos:0 < os.length:=List.length_pos_iff.mpr (by simpa using hbe)
     refine iteT (seqA ⟨_,rfl,_,rfl,_,rfl,_,_,rfl,.inl ⟨_,SqL.of el6,rfl⟩,b,_,rfl,st6.box,by omega,by omega,fun m5 H7 m50 m51 st7=>?_⟩)
     obtain ⟨v,hv,hat⟩:=zdu m50 m51
     refine ⟨p,os,m5,v,rfl,rfl,SqL.of (st7.keep _ _ hpb el6),hat,?_⟩
     obtain ⟨i,rfl,hi,hq⟩:=hbr v hv
     refine ⟨_,_,rfl,rfl,?_⟩
     dsimp only [ZI,tRet]
     have l1:=congrArg List.length (zbM (z:=z) (a:=i + 1) (by omega))
     have l2:=congrArg List.length (zaZ (z:=z) (a:=i + 1) (by omega))
     rw [zt,List.length_take,zt] at l1
     rw [zt,List.length_drop,zt] at l2
     rw [show ((i:Int) + 1) = ((i + 1:Nat):Int) by omega]
     have st8:=st6.trans st7
     refine ⟨_,rfl,_,rfl,_,rfl,z,rfl,by omega,_,rfl,b,2,rfl,st8.box,by decide,by decide,fun j H8 j0 j1 st9=>?_⟩
     obtain ⟨c,hc,hc2⟩:∃ c,atI (Str.ofString "()").cps.toList j = some c/\(c = 40\/c = 41):=by
      rw [show (Str.ofString "()").cps.toList = [40,41] by decide +kernel]
      rcases (show j = 0\/j = 1 by omega) with rfl | rfl
      ·exact ⟨40,rfl,.inl rfl⟩
      ·exact ⟨41,rfl,.inr rfl⟩
     have l3:(⟨#[c]⟩:Str).length = 1:=rfl
     refine ⟨_,j,c,rfl,rfl,small (by decide +kernel),hc,_,_,rfl,rfl,small (by rw [l3]; omega),?_⟩
     refine ⟨_,rfl,_,rfl,_,rfl,z,rfl,by omega,_,_,rfl,rfl,small (by rw [zD,l3]; omega),q _ _ ?_ (by rw [zD,zD,l3]; omega) (st8.trans st9)⟩
     rw [Zf,Zf,zbM (by omega),zaZ (by omega),List.append_assoc]
     exact zmq hc2 hq
   ·rw [decide_eq_false (fun e=>hm0 (V.int.inj e))]
    exact iteF (tl _ _ ⟨_,rfl,Same.refl _⟩)
 ·refine ⟨_,rfl,rfl,_,rfl,?_⟩
  by_cases hm0:m = 0
  ·rw [decide_eq_true (by rw [hm0])]
   refine iteT ⟨_,rfl,zl0,fun q1 hq1=>⟨D,q1,bs,rfl,rfl,SqL.of (Same.new hq1 _ _ eD4),SqL.of zd,_,rfl,?_⟩⟩
   have s5:=Same.new (o:=.lst []) hq1
   have st5:=st4.trans (Step.ofSame' st4.box s5)
   have eD5:=s5 _ _ eD4
   generalize upd H4 q1 (.lst []) = H5 at s5 st5 eD5 ⊢
   cases hbe:bs.isEmpty with
   | true=>exact iteF (tl _ _ ⟨_,rfl,s5⟩)
   | false=>
    have hpos:0 < bs.length:=List.length_pos_iff.mpr (by simpa using hbe)
    refine iteT (seqA ⟨_,rfl,_,rfl,_,rfl,_,_,rfl,.inl ⟨_,SqL.of eD5,rfl⟩,b,_,rfl,st5.box,by omega,by omega,fun m5 H6 m50 m51 st6=>?_⟩)
    obtain ⟨v,hv,hat⟩:=zdu m50 m51
    refine ⟨D,bs,m5,v,rfl,rfl,SqL.of (st6.keep _ _ hDn eD5),hat,?_⟩
    obtain ⟨i,rfl,hi,hq,hc⟩:=hbB v hv
    dsimp only [ZI,tRet]
    have l1:=congrArg List.length (zbM (z:=z) (a:=i) (by omega))
    have l2:=congrArg List.length (zaZ (z:=z) (a:=i + 1) (by omega))
    rw [zt,List.length_take,zt] at l1
    rw [zt,List.length_drop,zt] at l2
    have e2:((i:Int) + 1) = ((i + 1:Nat):Int):=by omega
    refine ⟨_,rfl,_,rfl,_,rfl,z,rfl,by omega,_,rfl,_,rfl,_,_,rfl,rfl,_,rfl,z,rfl,by omega,_,_,rfl,rfl,?_,?_⟩
    ·rw [e2]; exact small (by omega)
    ·rw [e2]
     refine q _ _ ?_ (by rw [zD]; omega) (st5.trans st6)
     rw [Zf,zbM (by omega),zaZ (by omega)]
     exact zmp hc hq
  ·rw [decide_eq_false (fun e=>hm0 (V.int.inj e))]
   exact iteF (tl _ _ ⟨_,rfl,Same.refl _⟩)
def wt (q:Bool) (c:Nat):Int:=if q = true then 0 else if c = 40 then 1 else if c = 41 then -1 else 0
def sg (q:Bool):List Nat->Int
 | []=>0
 | c :: r=>wt q c + sg (tog q c) r
def pb:List Pc->Int
 | []=>0
 | .op :: r=>1 + pb r
 | .cl :: r=>-1 + pb r
 | .txt _ :: r=>pb r
 | .word _ :: r=>pb r
theorem zdv:∀ (a b:List Nat) (q:Bool),par q (a ++ b) = par (par q a) b
 | [],b,q=>rfl
 | c :: r,b,q=>by rw [List.cons_append,par,par,zdv r]
theorem zdw:∀ (a b:List Nat) (q:Bool),sg q (a ++ b) = sg q a + sg (par q a) b
 | [],b,q=>by rw [List.nil_append,sg,par]; omega
 | c :: r,b,q=>by rw [List.cons_append,sg,sg,par,zdw r]; omega
theorem zjQ:∀ q:List Nat,(∀ d∈q,zab d = false)->sg false q = 0/\par false q = false
 | [],_=>⟨rfl,rfl⟩
 | c :: r,h=>by
  have hc:=h c (by simp)
  have h1:c≠40:=fun z=>by rw [z] at hc; revert hc; decide
  have h2:c≠41:=fun z=>by rw [z] at hc; revert hc; decide
  have h3:c≠34:=fun z=>by rw [z] at hc; revert hc; decide
  have ih:=zjQ r fun d hd=>h d (List.mem_cons_of_mem _ hd)
  rw [sg,par,tog,if_neg h3,wt,if_neg (by decide),if_neg h1,if_neg h2]
  exact ⟨by rw [ih.1]; rfl,ih.2⟩
theorem zgj:∀ q:List Nat,(∀ c∈q,c≠34)->sg true q = 0/\par true q = true
 | [],_=>⟨rfl,rfl⟩
 | c :: r,h=>by
  have hc:=h c (by simp)
  have ih:=zgj r fun d hd=>h d (List.mem_cons_of_mem _ hd)
  rw [sg,par,tog,if_neg hc,wt,if_pos rfl]
  exact ⟨by rw [ih.1]; rfl,ih.2⟩
theorem SpellO.sg {t:List Nat}{o:Option (List Pc)} (h:SpellO t o):∀ ps,o = some ps->D.sg false t = pb ps/\par false t = false:=by
 induction h with
 | nil=>intro ps e; cases e; exact ⟨rfl,rfl⟩
 | @gap c r o hc _ ih=>
  intro ps e
  have:=ih ps e
  rcases hc with rfl | rfl
  ·exact ⟨by rw [D.sg]; show 0 + D.sg false r = _; rw [this.1]; omega,this.2⟩
  ·exact ⟨by rw [D.sg]; show 0 + D.sg false r = _; rw [this.1]; omega,this.2⟩
 | @op r o _ ih=>
  intro ps e
  obtain ⟨l,rfl,rfl⟩:=Option.map_eq_some_iff.mp e
  have:=ih l rfl
  exact ⟨by rw [D.sg,pb,← this.1]; rfl,this.2⟩
 | @cl r o _ ih=>
  intro ps e
  obtain ⟨l,rfl,rfl⟩:=Option.map_eq_some_iff.mp e
  have:=ih l rfl
  exact ⟨by rw [D.sg,pb,← this.1]; rfl,this.2⟩
 | @txt q r o hq _ ih=>
  intro ps e
  obtain ⟨l,rfl,rfl⟩:=Option.map_eq_some_iff.mp e
  have:=ih l rfl
  have hq:=zgj q hq
  have e1:D.sg false (34 :: (q ++ 34 :: r)) = D.sg true (q ++ 34 :: r):=by rw [D.sg]; show 0 + D.sg true _ = _; omega
  have e2:par false (34 :: (q ++ 34 :: r)) = par true (q ++ 34 :: r):=rfl
  have e3:D.sg true (34 :: r) = D.sg false r:=by rw [D.sg]; show 0 + D.sg false r = _; omega
  rw [e1,e2,zdw,zdv,hq.1,hq.2,e3,pb]
  exact ⟨by rw [this.1]; omega,this.2⟩
 | bad _=>intro ps e; cases e
 | @word c q r o hc hq _ _ ih=>
  intro ps e
  obtain ⟨l,rfl,rfl⟩:=Option.map_eq_some_iff.mp e
  have:=ih l rfl
  have hw:=zjQ (c :: q) (fun d hd=>by
   rcases List.mem_cons.mp hd with rfl | hd
   ·exact hc
   ·exact hq d hd)
  rw [← List.cons_append,zdw,zdv,hw.1,hw.2,pb]
  exact ⟨by rw [this.1]; omega,this.2⟩
theorem zdU:∀ (ps:List Pc) (st st':List (List Tr)),run ps st = some st'->(st'.length:Int) = st.length + pb ps
 | [],st,st',h=>by rw [run] at h; cases h; rw [pb]; omega
 | .op :: ps,st,st',h=>by
  rw [run] at h
  split at h
  ·have:=zdU ps _ st' h
   rw [List.length_cons] at this
   rw [pb]; omega
  ·cases h
 | .cl :: ps,st,st',h=>by
  match st with
  | []=>simp [run] at h
  | [t]=>simp [run] at h
  | t :: u :: rest=>
   rw [run] at h
   have:=zdU ps _ st' h
   rw [List.length_cons] at this
   rw [pb,List.length_cons,List.length_cons]; omega
 | .txt q :: ps,st,st',h=>by
  match st with
  | []=>simp [run] at h
  | t :: rest=>
   rw [run] at h
   have:=zdU ps _ st' h
   rw [List.length_cons] at this
   rw [pb,List.length_cons]; omega
 | .word q :: ps,st,st',h=>by
  match st with
  | []=>simp [run] at h
  | t :: rest=>
   rw [run] at h
   have:=zdU ps _ st' h
   rw [List.length_cons] at this
   rw [pb,List.length_cons]; omega
theorem zgk {x:Str} (hl:x.length<=100000) (h:sg false x.cps.toList≠0\/par false x.cps.toList = true):NoR x:=by
 obtain ⟨O,hO⟩:=zjk _ x.cps.toList (Nat.le_refl _)
 refine ⟨hl,O,hO,fun r hr _=>?_⟩
 unfold exO at hr
 obtain ⟨t,h1,_⟩:=Option.bind_eq_some_iff.mp hr
 obtain ⟨ts,h2,_⟩:=Option.bind_eq_some_iff.mp h1
 obtain ⟨ps,rfl,h3⟩:=Option.bind_eq_some_iff.mp h2
 have g:=hO.sg ps rfl
 unfold trsO at h3
 split at h3
 ·rename_i ts' hrun
  have:=zdU ps _ _ hrun
  rw [List.length_cons,List.length_nil,List.length_cons,List.length_nil] at this
  rcases h with h | h
  ·exact h (by rw [g.1]; omega)
  ·rw [g.2] at h; cases h
 ·cases h3
theorem zll {x:Str} (hl:x.length<=100000) {ps:List Pc} (h:Spell x.cps.toList ps) {a b:Tr}{ts:List Tr} (hr:run ps [[]] = some [a :: b :: ts]):NoR x:=by
 refine ⟨hl,_,h.o,fun r hr' _=>?_⟩
 unfold exO trsO at hr'
 rw [Option.bind_some,hr] at hr'
 cases hr'
theorem zlm {x:Str} (hl:x.length<=100000) {T:Tr} (h:Spell x.cps.toList (pcT T)) (hd:T.deep<=90) (hn:rdE T = none):NoR x:=by
 refine ⟨hl,_,h.o,fun r hr' _=>?_⟩
 unfold exO trsO at hr'
 rw [Option.bind_some,zeg T hd] at hr'
 have:rdE T = some r:=hr'
 rw [hn] at this
 cases this
theorem zln {l:List Nat}{c:Nat} (h:c∈l) (h1:c≠45) (h2:zdF c = false):numB l = false:=by
 cases hb:numB l with
 | false=>rfl
 | true=>
  unfold numB at hb
  simp only [Bool.and_eq_true] at hb
  have ha:=List.all_eq_true.mp hb.2.2.2
  have:c∈figs l:=by
   unfold figs
   split
   ·rename_i h0
    cases l with
    | nil=>cases h
    | cons d r=>
     have:d = 45:=by simpa using h0
     rcases List.mem_cons.mp h with rfl | h
     ·exact absurd this h1
     ·exact h
   ·exact h
  rw [ha c this] at h2
  cases h2
theorem znk {l:List Nat}{c:Nat} (h:c∈l) (h1:¬ (97<=c/\c<=122)):vrB l = false:=by
 cases hb:vrB l with
 | false=>rfl
 | true=>exact absurd ((zO.mp hb).2.2 c h) h1
theorem znl {l:List Nat} (h:9∈l):rdE (.word l) = none:=by
 rw [rdE,znk h (by decide),zln h (by decide) (by decide)]
 rfl
theorem znH (l:List Nat):numB (113 :: l) = false:=zln (c:=113) (by simp) (by decide) (by decide)
theorem znm (d:Wo):woAt ⟨(113 :: (woS d).cps.toList).toArray⟩ = none:=by cases d <;> decide +kernel
inductive Qd:Tr->Tr->Prop where
 | head {w:List Nat}{r:List Tr}:Qd (.lst (.word w :: r)) (.lst (.word (113 :: w) :: r))
 | into {a b:List Tr}{t t':Tr}:Qd t t'->Qd (.lst (a ++ t :: b)) (.lst (a ++ t' :: b))
theorem Qd.lst {t t':Tr} (h:Qd t t'):(∃ l,t = .lst l)/\∃ l,t' = .lst l:=by cases h <;> exact ⟨⟨_,rfl⟩,_,rfl⟩
theorem znn {T T':Tr} (h:Qd T T'):∀ w:W,T = trW numC w->worO T' = none:=by
 induction h with
 | @head x r=>
  intro w e
  rw [worO,zbJ (t:=.word (113 :: x)) (by simp) (by rw [worO,znH]; rfl)]
  rfl
 | @into a b t t' hq ih=>
  intro w e
  cases w with
  | num i=>rw [trW] at e; cases e
  | txt x=>rw [trW] at e; cases e
  | lst ws=>
   rw [trW,zev] at e
   injection e with e
   have ht:t∈ws.map (trW numC):=by rw [← e]; simp
   obtain ⟨w',_,hw'⟩:=List.mem_map.mp ht
   rw [worO,zbJ (t:=t') (by simp) (ih w' hw'.symm)]
   rfl
theorem strL (z:Str):(⟨z.cps.toList.toArray⟩:Str) = z:=(strOf z).symm
theorem zno {α:Type}{a b x y:List α}{t:α} (e:a ++ t :: b = x ++ y) (h:x.length<=a.length):∃ a',a = x ++ a'/\y = a' ++ t :: b:=by
 obtain ⟨c,hc,hc2⟩ | ⟨c,hc,hc2⟩:=List.append_eq_append_iff.mp e
 ·have:c = []:=by
   have:=congrArg List.length hc
   rw [List.length_append] at this
   exact List.length_eq_zero_iff.mp (by omega)
  subst this
  exact ⟨[],by rw [hc]; simp,by rw [hc2]; rfl⟩
 ·exact ⟨c,hc,hc2⟩
theorem znI {T T':Tr} (h:Qd T T'):∀ r:Rl,r.Gd->T = trR r->rdE T' = none:=by
 induction h with
 | @head x rest=>
  intro r g e
  have hx:∃ d,x = (woS d).cps.toList:=by
   cases r with
   | lit w=>
    cases hl:zjs w with
    | true=>rw [zeA hl] at e; cases e; exact ⟨.lit,rfl⟩
    | false=>rw [zdS hl] at e; cases w with
     | num i=>rw [trW] at e; cases e
     | txt z=>rw [trW] at e; cases e
     | lst ws=>cases hl
   | var z=>rw [trR,nmT] at e; cases e
   | op d bs ps=>rw [trR] at e; cases e; exact ⟨d,rfl⟩
  obtain ⟨d,rfl⟩:=hx
  rw [zbU,znm]
  rfl
 | @into a b t t' hq ih=>
  intro r g e
  obtain ⟨⟨l,rfl⟩,l',rfl⟩:=hq.lst
  cases r with
  | lit w=>
   cases hl:zjs w with
   | true=>
    rw [zeA hl] at e
    injection e with e
    cases a with
    | nil=>cases e
    | cons y a=>
     injection e with e1 e2
     cases a with
     | nil=>
      injection e2 with e2 e3
      subst e1 e3
      have hw:=znn hq w e2
      show rdE (.lst (.word litW :: [.lst l'])) = none
      rw [zbU,show (⟨litW.toArray⟩:Str) = woS .lit from strL _,zau,Option.bind_some,if_pos (show wLit .lit = true from rfl),litO,hw]
      rfl
     | cons y2 a=>
      injection e2 with _ e3
      have e3:a ++ Tr.lst l :: b = []:=e3
      simp at e3
   | false=>rw [zdS hl] at e; cases w with
    | num i=>rw [trW] at e; cases e
    | txt z=>rw [trW] at e; cases e
    | lst ws=>cases hl
  | var z=>rw [trR,nmT] at e; cases e
  | op d bs ps=>
   rw [Rl.Gd] at g
   rw [trR] at e
   injection e with e
   have e:a ++ .lst l :: b = (nmT (woS d) :: bs.map nmT) ++ trRs ps:=e
   have hla:(nmT (woS d) :: bs.map nmT).length<=a.length:=by
    rcases Nat.lt_or_ge a.length (nmT (woS d) :: bs.map nmT).length with hlt | hge
    ·have h1:(a ++ .lst l :: b)[a.length]? = some (.lst l):=by simp
     rw [e,List.getElem?_append_left hlt] at h1
     have hm:=List.mem_of_getElem? h1
     rcases List.mem_cons.mp hm with h | h
     ·rw [nmT] at h; cases h
     ·obtain ⟨z,_,hz⟩:=List.mem_map.mp h
      rw [nmT] at hz; cases hz
    ·exact hge
   obtain ⟨a',rfl,hy⟩:=zno e hla
   have ht:Tr.lst l∈ps.map trR:=by rw [← zeB,hy]; simp
   obtain ⟨p,hp,hpe⟩:=List.mem_map.mp ht
   have hn:=ih p (g.2.mem p hp) hpe.symm
   show rdE (.lst (.word (woS d).cps.toList :: (bs.map nmT ++ a' ++ .lst l' :: b))) = none
   have hdr:(bs.map nmT ++ a' ++ .lst l' :: b).drop (bcnt d) = a' ++ .lst l' :: b:=by
    have hb:bcnt d = (bs.map nmT).length:=by rw [List.length_map]; exact g.1.2.2.1.symm
    rw [List.append_assoc,hb,List.drop_left]
   rw [zbU,strL,zau,Option.bind_some,hdr,zcQ (f:=rdE) (ts:=a' ++ .lst l' :: b) (t:=.lst l') (by simp) hn,if_neg (by rw [g.1.1]; decide),if_neg (by rw [g.1.2.1]; decide)]
   cases goO varO ((bs.map nmT ++ a' ++ .lst l' :: b).take (bcnt d)) <;> rfl
theorem Tr.even {x:Tr} (ok:x.Ok):par false (shT x) = false:=((ZM ok).o.sg _ rfl).2
theorem znp {α:Type}{l u v:List α}{e:List α}{c:α} (h:l ++ e = u ++ c :: v) (hu:u.length < l.length):l[u.length]? = some c:=by
 have h1:(l ++ e)[u.length]? = some c:=by rw [h]; simp
 rw [List.getElem?_append_left hu] at h1
 exact h1
mutual
theorem qT:∀ (T:Tr),T.Ok->∀ (e u v:List Nat) (d:Nat),shT T ++ e = u ++ 40 :: d :: v->par false u = false->u.length < (shT T).length->d≠40->d≠41->d≠34->∃ T',Qd T T'/\shT T' ++ e = u ++ 40 :: 113 :: d :: v
 | .word q,ok,e,u,v,d,h,hp,hu,d1,d2,d3=>by
  rw [Tr.Ok] at ok
  rw [shT] at h hu
  have:=ok.2 40 (List.mem_of_getElem? (znp h hu))
  exact absurd this (by decide)
 | .txt q,ok,e,u,v,d,h,hp,hu,d1,d2,d3=>by
  rw [Tr.Ok] at ok
  rw [shT] at h hu
  have ha:=znp h hu
  cases u with
  | nil=>simp at ha
  | cons c u=>
   rw [List.cons_append,List.cons_append] at h
   injection h with hc h
   subst hc
   rw [List.length_cons,List.getElem?_cons_succ] at ha
   have hul:u.length < q.length:=by
    rcases Nat.lt_or_ge u.length q.length with hlt | hge
    ·exact hlt
    ·rw [List.getElem?_append_right hge] at ha
     have:u.length - q.length = 0:=by rw [List.length_cons,List.length_cons,List.length_append,List.length_singleton] at hu; omega
     rw [this] at ha
     simp at ha
   rw [List.append_assoc] at h
   obtain ⟨q2,rfl⟩:∃ q2,q = u ++ q2:=by
    have:=congrArg (List.take u.length) h
    rw [List.take_left,List.take_append_of_le_length (Nat.le_of_lt hul)] at this
    exact ⟨q.drop u.length,(List.take_append_drop u.length q).symm.trans (by rw [this])⟩
   have:=(zgj u fun c hc=>ok c (List.mem_append_left _ hc)).2
   have hp:par true u = false:=hp
   rw [this] at hp
   cases hp
 | .lst ts,ok,e,u,v,d,h,hp,hu,d1,d2,d3=>by
  rw [Tr.Ok] at ok
  rw [shT] at h hu
  cases u with
  | nil=>
   rw [List.cons_append,List.nil_append] at h
   injection h with _ h
   match ts,ok,h with
   | [],_,h=>rw [shTs] at h; injection h with h _; exact absurd h.symm d2
   | .txt q :: r,_,h=>
    cases r <;> (rw [shTs,shT] at h; injection h with h _; exact absurd h.symm d3)
   | .lst q :: r,_,h=>
    cases r <;> (rw [shTs,shT] at h; injection h with h _; exact absurd h.symm d1)
   | .word w :: r,ok,h=>
    refine ⟨_,.head,?_⟩
    rw [shT,List.nil_append,List.cons_append]
    refine congrArg (40 :: ·) ?_
    cases r with
    | nil=>
     rw [shTs,shT] at h ⊢
     rw [List.cons_append,List.cons_append,← h]
    | cons y s=>
     rw [shTs,shT] at h ⊢
     rw [List.cons_append,List.cons_append,List.cons_append,← h]
  | cons c u=>
   rw [List.cons_append,List.cons_append,List.append_assoc] at h
   injection h with hc h
   subst hc
   have hp:par false u = false:=hp
   rw [List.length_cons,List.length_cons,List.length_append,List.length_singleton] at hu
   have hul:u.length < (shTs ts).length:=by
    rcases Nat.lt_or_ge u.length (shTs ts).length with hlt | hge
    ·exact hlt
    ·have h1:(shTs ts ++ ([41] ++ e))[u.length]? = some 40:=by rw [h]; simp
     rw [List.getElem?_append_right hge,show u.length - (shTs ts).length = 0 by omega] at h1
     simp at h1
   obtain ⟨a,t,t',b,rfl,hq,hs⟩:=qTs ts ok ([41] ++ e) u v d h hp hul d1 d2 d3
   refine ⟨_,.into hq,?_⟩
   rw [shT,List.cons_append,List.append_assoc,hs]
   rfl
theorem qTs:∀ (ts:List Tr),TrOks ts->∀ (e u v:List Nat) (d:Nat),shTs ts ++ e = u ++ 40 :: d :: v->par false u = false->u.length < (shTs ts).length->d≠40->d≠41->d≠34->∃ a t t' b,ts = a ++ t :: b/\Qd t t'/\shTs (a ++ t' :: b) ++ e = u ++ 40 :: 113 :: d :: v
 | [],_,e,u,v,d,h,hp,hu,_,_,_=>by rw [shTs] at hu; cases hu
 | [x],ok,e,u,v,d,h,hp,hu,d1,d2,d3=>by
  rw [TrOks] at ok
  rw [shTs] at h hu
  obtain ⟨x',hq,hs⟩:=qT x ok.1 e u v d h hp hu d1 d2 d3
  exact ⟨[],x,x',[],rfl,hq,by rw [List.nil_append,shTs]; exact hs⟩
 | x :: y :: s,ok,e,u,v,d,h,hp,hu,d1,d2,d3=>by
  rw [TrOks] at ok
  rw [shTs,List.append_assoc] at h
  rw [shTs,List.length_append,List.length_cons] at hu
  rcases Nat.lt_or_ge u.length (shT x).length with hlt | hge
  ·obtain ⟨x',hq,hs⟩:=qT x ok.1 _ u v d h hp hlt d1 d2 d3
   exact ⟨[],x,x',y :: s,rfl,hq,by rw [List.nil_append,shTs,List.append_assoc]; exact hs⟩
  ·obtain ⟨u1,rfl⟩:∃ u1,u = shT x ++ u1:=by
    have:=congrArg (List.take (shT x).length) h
    rw [List.take_left,List.take_append_of_le_length hge] at this
    exact ⟨u.drop (shT x).length,(List.take_append_drop (shT x).length u).symm.trans (by rw [← this])⟩
   rw [List.append_assoc] at h
   have h3:32 :: shTs (y :: s) ++ e = u1 ++ 40 :: d :: v:=List.append_cancel_left h
   clear h
   cases u1 with
   | nil=>cases h3
   | cons c u2=>
    rw [List.cons_append,List.cons_append] at h3
    injection h3 with hc h
    subst hc
    rw [zdv,Tr.even ok.1] at hp
    have hp:par false u2 = false:=hp
    rw [List.length_append,List.length_cons] at hu
    obtain ⟨a,t,t',b,he,hq,hs⟩:=qTs (y :: s) ok.2 e u2 v d h hp (by omega) d1 d2 d3
    refine ⟨x :: a,t,t',b,by rw [he]; rfl,hq,?_⟩
    rw [List.cons_append]
    have:∃ z l,a ++ t' :: b = z :: l:=by cases a <;> exact ⟨_,_,rfl⟩
    obtain ⟨z,l,hz⟩:=this
    rw [hz] at hs ⊢
    rw [shTs,List.append_assoc,List.cons_append,hs]
    simp
end
theorem zfK:∀ {ts:List Tr},TrOks ts->∀ t∈ts,t.Ok
 | [],_,t,h=>nomatch h
 | x :: r,g,t,h=>by
  rw [TrOks] at g
  rcases List.mem_cons.mp h with e | h
  ·rw [e]; exact g.1
  ·exact zfK g.2 t h
theorem znJ {T T':Tr} (h:Qd T T'):T.Ok->T'.Ok:=by
 induction h with
 | @head w r=>
  intro ok
  rw [Tr.Ok,TrOks,Tr.Ok] at ok ⊢
  refine ⟨⟨by simp,fun c hc=>?_⟩,ok.2⟩
  rcases List.mem_cons.mp hc with e | hc
  ·rw [e]; decide
  ·exact ok.1.2 c hc
 | @into a b t t' hq ih=>
  intro ok
  rw [Tr.Ok] at ok ⊢
  have hm:=zfK ok
  refine zeC fun x hx=>?_
  rcases List.mem_append.mp hx with hx | hx
  ·exact hm x (List.mem_append_left _ hx)
  ·rcases List.mem_cons.mp hx with e | hx
   ·rw [e]; exact ih (hm t (by simp))
   ·exact hm x (List.mem_append_right _ (List.mem_cons_of_mem _ hx))
theorem zms {T T':Tr} (h:Qd T T'):T'.deep<=T.deep:=by
 induction h with
 | @head w r=>rw [Tr.deep,Tr.deep,deeps,deeps,Tr.deep,Tr.deep]; exact Nat.le_refl _
 | @into a b t t' hq ih=>
  rw [Tr.deep,Tr.deep]
  have:deeps (a ++ t' :: b)<=deeps (a ++ t :: b):=zcP fun x hx=>by
   rcases List.mem_append.mp hx with hx | hx
   ·exact zaI x (List.mem_append_left _ hx)
   ·rcases List.mem_cons.mp hx with e | hx
    ·rw [e]; exact Nat.le_trans ih (zaI t (by simp))
    ·exact zaI x (List.mem_append_right _ (List.mem_cons_of_mem _ hx))
  omega
theorem zjR {T T0:Tr} (h:T.deep<=90) (h0:T0.deep<=90):run (pcT T ++ pcT T0) [[]] = some [[T,T0]]:=by
 rw [zef T (pcT T0) [] [] (by show 0 + 1 + T.deep<=100; omega)]
 have:=zef T0 [] ([] ++ [T]) [] (by show 0 + 1 + T0.deep<=100; omega)
 rw [List.append_nil] at this
 rw [this]
 rfl
theorem zkX {T:Tr} (nw:∀ q,T≠.word q) (ok:T.Ok) {r:List Nat}{ps:List Pc} (h:Spell r ps):Spell (shT T ++ r) (pcT T ++ ps):=by
 cases T with
 | word q=>exact absurd rfl (nw q)
 | txt q=>
  rw [Tr.Ok] at ok
  have:=Spell.txt ok h
  simpa [shT,pcT] using this
 | lst ts=>
  rw [Tr.Ok] at ok
  have:=spell_shTs ts ok (41 :: r) (.cl :: ps) zgP (.cl h)
  have h2:=Spell.op this
  simpa [shT,pcT,List.append_assoc] using h2
theorem zlo {T:Tr} (nw:∀ q,T≠.word q):Cut (shT T):=by
 cases T with
 | word q=>exact absurd rfl (nw q)
 | txt q=>rw [shT]; exact fun c s e=>by cases e; rfl
 | lst ts=>rw [shT]; exact fun c s e=>by cases e; rfl
theorem zbn {T T0:Tr} (ok:T.Ok) (ok0:T0.Ok) (h:T.deep<=90) (h0:T0.deep<=90) {x:Str} (hl:x.length<=20000) (hx:x.cps.toList = shT T ++ 32 :: shT T0):NoR x:=by
 refine zll (by omega) (ps:=pcT T ++ pcT T0) ?_ (zjR h h0)
 rw [hx]
 exact zbg T ok _ _ zfe (.gap (.inl rfl) (ZM ok0))
theorem zeK {T T0:Tr} (ok:T.Ok) (ok0:T0.Ok) (h:T.deep<=90) (h0:T0.deep<=90) (hc:Cut (shT T0)\/∀ q,T≠.word q) {x:Str} (hl:x.length<=20000) (hx:x.cps.toList = shT T ++ shT T0):NoR x:=by
 refine zll (by omega) (ps:=pcT T ++ pcT T0) ?_ (zjR h h0)
 rw [hx]
 rcases hc with hc | hc
 ·exact zbg T ok _ _ hc (ZM ok0)
 ·exact zkX hc ok (ZM ok0)
theorem ok_x:(Tr.word [120]).Ok:=by rw [Tr.Ok]; exact ⟨by simp,by decide⟩
theorem ok_1:(Tr.word [49]).Ok:=by rw [Tr.Ok]; exact ⟨by simp,by decide⟩
theorem ok_t:(Tr.word [9]).Ok:=by rw [Tr.Ok]; exact ⟨by simp,by decide⟩
theorem ok_q:(Tr.txt []).Ok:=by rw [Tr.Ok]; exact fun c hc=>nomatch hc
theorem ok_e:(Tr.lst []).Ok:=by rw [Tr.Ok,TrOks]; trivial
theorem ok_l:(Tr.lst [.word litW,.lst []]).Ok:=by rw [Tr.Ok,TrOks,TrOks,TrOks]; exact ⟨zjv,ok_e,trivial⟩
theorem zjS {T:Tr} (ok:T.Ok) (h:T.deep<=90) {x:Str} (hl:x.length<=20000) (hx:x.cps.toList = shT T ++ [9]\/x.cps.toList = 9 :: shT T):NoR x:=by
 by_cases nw:∃ q,T = .word q
 ·obtain ⟨q,rfl⟩:=nw
  rw [Tr.Ok] at ok
  rw [shT] at hx
  have key:∀ l:List Nat,x.cps.toList = l->9∈l->(∀ c∈l,zab c = false)->NoR x:=fun l e h9 he=>by
   have okl:(Tr.word l).Ok:=by rw [Tr.Ok]; exact ⟨fun z=>(by rw [z] at h9; cases h9),he⟩
   refine zlm (T:=.word l) (by omega) ?_ (by rw [Tr.deep]; omega) (znl h9)
   rw [e]
   exact ZM okl
  rcases hx with hx | hx
  ·refine key _ hx (by simp) fun c hc=>?_
   rcases List.mem_append.mp hc with hc | hc
   ·exact ok.2 c hc
   ·rw [List.mem_singleton.mp hc]; decide
  ·refine key _ hx (by simp) fun c hc=>?_
   rcases List.mem_cons.mp hc with e | hc
   ·rw [e]; decide
   ·exact ok.2 c hc
 ·have nw:∀ q,T≠.word q:=fun q e=>nw ⟨q,e⟩
  rcases hx with hx | hx
  ·exact zeK (T0:=.word [9]) ok ok_t h (by rw [Tr.deep]; omega) (.inr nw) hl (by rw [hx,shT])
  ·exact zeK (T:=.word [9]) (T0:=T) ok_t ok (by rw [Tr.deep]; omega) h (.inl (zlo nw)) hl (by rw [hx,shT]; rfl)
theorem znq {r:Rl} (g:r.Gd) (hd:(trR r).deep<=60) {x:Str} (hl:x.length<=20000) (h:Spo (shT (trR r)) x.cps.toList):NoR x:=by
 have ok:=zha r g
 have g0:=(ZM ok).o.sg _ rfl
 have hr:=zdU _ _ _ (zeg (trR r) (by omega))
 rw [List.length_cons,List.length_nil,List.length_cons,List.length_nil] at hr
 have hsg:sg false (shT (trR r)) = 0:=by rw [g0.1]; omega
 have hpar:=g0.2
 have hrd:=fun T' (hq:Qd (trR r) T')=>znI hq r g rfl
 generalize trR r = T at h ok hd hsg hpar hrd
 generalize hz:shT T = z at h
 generalize hx:x.cps.toList = y at h
 have dx:(Tr.word [120]).deep<=90:=by rw [Tr.deep]; omega
 have d1:(Tr.word [49]).deep<=90:=by rw [Tr.deep]; omega
 have dq:(Tr.txt []).deep<=90:=by rw [Tr.deep]; omega
 have de:(Tr.lst []).deep<=90:=by rw [Tr.deep,deeps]; omega
 have dl:(Tr.lst [.word litW,.lst []]).deep<=90:=by rw [Tr.deep,deeps,deeps,deeps,Tr.deep,Tr.deep,deeps]; decide
 cases h with
 | @del u v c hc hp=>
  have ht:tog false c = false:=by rw [tog,if_neg (by omega)]
  have e1:=zdw u (c :: v) false
  have e2:=zdw u v false
  rw [hp,sg,ht,← hz,hsg] at e1
  rw [hp] at e2
  refine zgk (by omega) (.inl ?_)
  rw [hx,e2]
  rcases hc with rfl | rfl
  ·have:wt false 40 = 1:=rfl
   omega
  ·have:wt false 41 = -1:=rfl
   omega
 | @ins u v c hc hp=>
  have ht:tog false c = false:=by rw [tog,if_neg (by omega)]
  have e1:=zdw u (c :: v) false
  have e2:=zdw u v false
  rw [hp,sg,ht] at e1
  rw [hp,← hz,hsg] at e2
  refine zgk (by omega) (.inl ?_)
  rw [hx,e1]
  rcases hc with rfl | rfl
  ·have:wt false 40 = 1:=rfl
   omega
  ·have:wt false 41 = -1:=rfl
   omega
 | @app _ s hs=>
  subst hz
  simp only [List.mem_cons,List.not_mem_nil,or_false] at hs
  rcases hs with rfl | rfl | rfl | rfl | rfl | rfl
  ·exact zbn ok ok_x (by omega) dx hl (by rw [hx,show (Str.ofString " x").cps.toList = 32 :: shT (.word [120]) by rw [shT]; decide +kernel])
  ·exact zbn ok ok_1 (by omega) d1 hl (by rw [hx,show (Str.ofString " 1").cps.toList = 32 :: shT (.word [49]) by rw [shT]; decide +kernel])
  ·exact zeK ok ok_q (by omega) dq (.inl (zlo fun q e=>nomatch e)) hl (by rw [hx,show (Str.ofString "\"\"").cps.toList = shT (.txt []) by rw [shT]; decide +kernel])
  ·exact zbn ok ok_e (by omega) de hl (by rw [hx,show (Str.ofString " ()").cps.toList = 32 :: shT (.lst []) by rw [shT,shTs]; decide +kernel])
  ·exact zbn ok ok_l (by omega) dl hl (by rw [hx,show (Str.ofString " (lit ())").cps.toList = 32 :: shT (.lst [.word litW,.lst []]) by rw [shT,shTs,shTs,shT,shT,shTs]; decide +kernel])
  ·exact zjS ok (by omega) hl (.inl (by rw [hx,show (Str.ofString "\t").cps.toList = [9] by decide +kernel]))
 | @pre _ s hs=>
  subst hz
  simp only [List.mem_cons,List.not_mem_nil,or_false] at hs
  rcases hs with rfl | rfl | rfl | rfl | rfl | rfl
  ·exact zbn ok_x ok dx (by omega) hl (by rw [hx,show (Str.ofString "x ").cps.toList = shT (.word [120]) ++ [32] by rw [shT]; decide +kernel,List.append_assoc]; rfl)
  ·exact zbn ok_1 ok d1 (by omega) hl (by rw [hx,show (Str.ofString "1 ").cps.toList = shT (.word [49]) ++ [32] by rw [shT]; decide +kernel,List.append_assoc]; rfl)
  ·exact zeK ok_q ok dq (by omega) (.inr fun q e=>nomatch e) hl (by rw [hx,show (Str.ofString "\"\"").cps.toList = shT (.txt []) by rw [shT]; decide +kernel])
  ·exact zbn ok_e ok de (by omega) hl (by rw [hx,show (Str.ofString "() ").cps.toList = shT (.lst []) ++ [32] by rw [shT,shTs]; decide +kernel,List.append_assoc]; rfl)
  ·exact zbn ok_l ok dl (by omega) hl (by rw [hx,show (Str.ofString "(lit ()) ").cps.toList = shT (.lst [.word litW,.lst []]) ++ [32] by rw [shT,shTs,shTs,shT,shT,shTs]; decide +kernel,List.append_assoc]; rfl)
  ·exact zjS ok (by omega) hl (.inr (by rw [hx,show (Str.ofString "\t").cps.toList = [9] by decide +kernel]; rfl))
 | @qin u v d hp d1 d2 d3=>
  obtain ⟨T',hq,hs⟩:=qT T ok [] u v d (by rw [List.append_nil]; exact hz) hp (by rw [hz,List.length_append,List.length_cons]; omega) d1 d2 d3
  rw [List.append_nil] at hs
  have hdp:=zms hq
  refine zlm (T:=T') (by omega) ?_ (by omega) (hrd T' hq)
  rw [hx,← hs]
  exact ZM (znJ hq ok)
 | quo=>
  subst hz
  refine zgk (by omega) (.inr ?_)
  rw [hx,zdv,hpar]
  rfl
theorem zlp {i:Int} (h1:-(10 ^ 60) < i) (h2:i < 10 ^ 60):numB (numC i) = true/\valI (numC i) = i:=by
 have key:numB (numC i) = true:=by
  unfold numB
  have e:figs (numC i) = digs i.natAbs:=by
   unfold figs numC
   by_cases h:0<=i
   ·rw [if_pos h,if_neg,show i.toNat = i.natAbs by omega]
    intro z
    have:=zbC _ 45 (List.mem_of_getElem? z)
    omega
   ·rw [if_neg h,if_pos (show (45 :: digs i.natAbs)[0]? = some 45 from rfl)]
    rfl
  rw [e]
  have d1:=zda i.natAbs
  have d2:=zee 60 i.natAbs (by decide) (by omega)
  have d3:(digs i.natAbs).all zdF = true:=by
   rw [List.all_eq_true]
   intro c hc
   have:=zbC _ c hc
   simp [zdF,this]
  rw [decide_eq_true d1,decide_eq_true d2,d3,Bool.and_true,Bool.true_and,Bool.true_and]
  by_cases h0:i = 0
  ·subst h0
   decide +kernel
  ·have:decide ((digs i.natAbs)[0]? = some 48) = false:=by
    rw [decide_eq_false_iff_not]
    intro z
    cases hd:digs i.natAbs with
    | nil=>exact d1 hd
    | cons c s=>
     rw [hd] at z
     have:=zi4 i.natAbs (by omega) c s hd
     simp at z
     exact this z
   rw [this]
   rfl
 refine ⟨key,?_⟩
 obtain ⟨n0,n1,n2⟩:=zg8 key
 have e1:=zeu (x:=⟨(numC i).toArray⟩) (i:=i) rfl h1 h2
 have e2:=zeu (x:=⟨(numC i).toArray⟩) (i:=valI (numC i)) n0 n1 n2
 rw [e1] at e2
 exact (Option.some.inj e2).symm
mutual
theorem znr:∀ w:W,w.Ok->worO (trW numC w) = some w
 | .num i,h=>by
  obtain ⟨h1,h2⟩:=zlp h.1 h.2
  rw [trW,worO,if_pos h1,h2]
 | .txt x,h=>by rw [trW,worO,← strOf x]
 | .lst ws,h=>by rw [trW,worO,wors_W ws h.2]; rfl
theorem wors_W:∀ ws:List W,Oks ws->worOs (trWs numC ws) = some ws
 | [],_=>by rw [trWs,worOs]
 | w :: r,h=>by rw [trWs,worOs,znr w h.1,wors_W r h.2]; rfl
end
theorem zjT (i:Int):zR (.txt ⟨(numC i).toArray⟩) = false:=by
 cases h:zR (.txt ⟨(numC i).toArray⟩) with
 | false=>rfl
 | true=>
  have hv:=(zO.mp h).2.2
  cases e:numC i with
  | nil=>exact absurd e (zjo i)
  | cons c r=>
   have h1:=hv c (by rw [e]; simp)
   have h2:=zg4 i c (by rw [e]; simp)
   omega
mutual
theorem zgl:∀ (r:Rl) (sc:List Str),r.Fit sc->unb sc r = []
 | .lit x,sc,_=>by rw [unb]
 | .var s,sc,h=>by rw [Rl.Fit] at h; rw [unb,if_pos h.2]
 | .op d bs ps,sc,h=>by rw [Rl.Fit] at h; rw [unb]; exact fits_unb ps sc bs h.2
theorem fits_unb:∀ (ps:List Rl) (sc bs:List Str),Fits ps sc bs->unbs sc bs ps = []
 | [],sc,bs,_=>by rw [unbs]
 | [p],sc,bs,h=>by rw [Fits] at h; rw [unbs]; exact zgl p _ h
 | p :: q :: r,sc,bs,h=>by rw [Fits] at h; rw [unbs,zgl p sc h.1,fits_unb (q :: r) sc bs h.2]; rfl
end
theorem zgm:∀ z∈[Str.ofString "a.b",Str.ofString "ab.c1"],z.length<=400/\Signs z:=by
 intro z hz
 simp only [List.mem_cons,List.not_mem_nil,or_false] at hz
 rcases hz with rfl | rfl
 ·exact ⟨by decide +kernel,zej (by decide +kernel)⟩
 ·exact ⟨by decide +kernel,zej (by decide +kernel)⟩
theorem zmt {z:Str} (h:Vr z):varO (nmT z) = some z:=by
 rw [nmT,varO,if_pos (show vrB z.cps.toList = true by unfold vrB; rw [strL]; exact zO.mpr h),strL]
theorem zhl:∀ {bs:List Str},(∀ z∈bs,Vr z)->goO varO (bs.map nmT) = some bs
 | [],_=>rfl
 | z :: r,h=>by rw [List.map_cons,goO,zmt (h z (by simp)),zhl fun y hy=>h y (List.mem_cons_of_mem _ hy)]; rfl
mutual
theorem rd_R:∀ r:Rl,r.Gd->rdE (trR r) = some r
 | .lit x,g=>by
  rw [Rl.Gd] at g
  cases x with
  | lst ws=>
   rw [zeA rfl,zbU,show (⟨litW.toArray⟩:Str) = woS .lit from strL _,zau,Option.bind_some,if_pos (show wLit .lit = true from rfl)]
   have:=znr (.lst ws) g.1
   rw [trW] at this ⊢
   rw [litO,this]
   rfl
  | txt z=>rw [zdS rfl,trW,rdE,strL]
  | num i=>
   have h:=zlp g.1.1 g.1.2
   rw [zdS rfl,trW,rdE,if_neg (by rw [show vrB (numC i) = false from zjT i]; decide),if_pos h.1,h.2]
 | .var z,g=>by
  rw [Rl.Gd] at g
  rw [trR,nmT,rdE,if_pos (show vrB z.cps.toList = true by unfold vrB; rw [strL]; exact zO.mpr g),strL]
 | .op d bs ps,g=>by
  rw [Rl.Gd] at g
  have hb:bcnt d = (bs.map nmT).length:=by rw [List.length_map]; exact g.1.2.2.1.symm
  rw [trR]
  show rdE (.lst (.word (woS d).cps.toList :: (bs.map nmT ++ trRs ps))) = _
  rw [zbU,strL,zau,Option.bind_some,if_neg (by rw [g.1.1]; decide),if_neg (by rw [g.1.2.1]; decide),hb,List.take_left,List.drop_left,zhl g.1.2.2.2.1,Option.bind_some,rds_R ps g.2]
  rfl
theorem rds_R:∀ ps:List Rl,Gds ps->goO rdE (trRs ps) = some ps
 | [],_=>by rw [trRs]; rfl
 | p :: r,g=>by
  rw [Gds] at g
  rw [trRs,goO,rd_R p g.1,rds_R r g.2]
  rfl
end
theorem ex_R {r:Rl} (g:r.Gd) (hd:(trR r).deep<=60):exO (some (pcT (trR r))) = some r:=by
 unfold exO trsO
 rw [Option.bind_some,zeg _ (by omega)]
 exact rd_R r g
theorem zmu {T:Tr} (ok:T.Ok) (i:Nat) (h:(shT T)[i]? = some 40):i + 1 < (shT T).length:=by
 have hi:=(List.getElem?_eq_some_iff.mp h).1
 cases T with
 | word q=>
  rw [Tr.Ok] at ok
  rw [shT] at h
  exact absurd (ok.2 40 (List.mem_of_getElem? h)) (by decide)
 | txt q=>
  rw [shT] at h hi ⊢
  rcases Nat.lt_or_ge (i + 1) (34 :: (q ++ [34])).length with hlt | hge
  ·exact hlt
  ·rw [← List.cons_append,List.getElem?_append_right (by simp at hge ⊢; omega)] at h
   rw [show i - (34 :: q).length = 0 by simp at hi hge ⊢; omega] at h
   simp at h
 | lst ts=>
  rw [shT] at h hi ⊢
  rcases Nat.lt_or_ge (i + 1) (40 :: (shTs ts ++ [41])).length with hlt | hge
  ·exact hlt
  ·rw [← List.cons_append,List.getElem?_append_right (by simp at hge ⊢; omega)] at h
   rw [show i - (40 :: shTs ts).length = 0 by simp at hi hge ⊢; omega] at h
   simp at h
theorem zdx {ws:List W}{n:Nat} (h:∀ w∈ws,w.depth<=n):depths ws<=n:=by
 induction ws with
 | nil=>rw [depths]; omega
 | cons w r ih=>
  rw [depths]
  have:=h w (by simp)
  have:=ih fun u hu=>h u (List.mem_cons_of_mem _ hu)
  omega
mutual
theorem zhm:∀ r:Rl,r.Gd->∃ ws,r.toW = .lst ws/\depths ws<=r.high + 12
 | .lit x,g=>by
  rw [Rl.Gd] at g
  have h1:x.depth<=12:=g.2.2
  exact ⟨_,by rw [Rl.toW],zdx fun w hw=>by
   rcases List.mem_cons.mp hw with rfl | hw
   ·show 0<=_; omega
   ·rw [List.mem_singleton.mp hw]; omega⟩
 | .var s,g=>⟨_,by rw [Rl.toW],zdx fun w hw=>by
   rcases List.mem_cons.mp hw with rfl | hw
   ·show 0<=_; omega
   ·rw [List.mem_singleton.mp hw]; show 0<=_; omega⟩
 | .op d bs ps,g=>by
  rw [Rl.Gd] at g
  have h2:=toWs_deep ps g.2
  refine ⟨_,by rw [Rl.toW],zdx fun w hw=>?_⟩
  rw [Rl.high]
  rcases List.mem_cons.mp hw with rfl | hw
  ·show 0<=_; omega
  ·rcases List.mem_append.mp hw with hw | hw
   ·obtain ⟨z,_,rfl⟩:=List.mem_map.mp hw
    show 0<=_; omega
   ·exact h2 w hw
theorem toWs_deep:∀ ps:List Rl,Gds ps->∀ w∈rlWs ps,w.depth<=highs ps + 12
 | [],_,w,hw=>by rw [rlWs] at hw; cases hw
 | p :: r,g,w,hw=>by
  rw [Gds] at g
  rw [rlWs] at hw
  rw [highs]
  rcases List.mem_cons.mp hw with rfl | hw
  ·obtain ⟨ws,e,h⟩:=zhm p g.1
   rw [e]
   show 1 + depths ws<=_
   omega
  ·have:=toWs_deep r g.2 w hw
   omega
end
def zkY (K:PySem.W.Frag):Sp:=fun vs H Q _=>∃ (a:Addr) (ns:List Int),vs = [.ref a]/\SqL K H a (ns.map V.int)/\ns.length<=63/\∀ H',Q (.bl true) H'
theorem zdy:FnScope ["_law_script","_law_box_here","_law_rule","_law_text_here","_law_k","_law_bare","_law_good"] ["_law_script"] (zl sLaw):=⟨rfl,rfl,rfl,by decide +kernel,rfl,by decide +kernel,by decide +kernel⟩
theorem zns (F:Fun K "law" "law" sLaw f fd) (G_read_rule:Zy P w K mg base "read_rule" k ["text"] (zeF zN)) (G_lat_the_bounds:Have P w K mg base "_law_at_the_bounds" k [] (zeH)) (G_lbare_texts:Have P w K mg base "_law_bare_texts" k [] (zjK)) (G_lrefused:Have P w K mg base "_law_refused" k ["_law_text_here"] (zdt)) (G_lspoilt:Have P w K mg base "_law_spoilt" k ["_law_box_here","_law_text_here"] (zeJ)) (G_show_rule:Have P w K mg base "show_rule" k ["rule"] (zeD 14)) (G_lany:Have P w K mg base "_law_any" k ["_law_box_here","_law_scope","_law_names","_law_spare","_law_floors","_law_rounds"] (zhQ 13)) (G_ltake:Have P w K mg base "_law_take" k ["_law_box_here","_law_wide"] (za5)) (G_lbox:Have P w K mg base "_law_box" k ["_law_script","_law_k"] (zlA K)) (m_len:mg "len" = none) (m_range:mg "range" = none):FnOk P w K mg base CX0 (k + 1) f fd ["_law_script"] (zkY K):=by
 refine F.okQ zdy (fun vs H Q E h=>?_) (fun cdv A outer s H vs Q E hr h=>?_)
 ·obtain ⟨a,ns,rfl,_⟩:=h
  rfl
 obtain ⟨a,ns,rfl,hq,hns,q⟩:=h
 refine ⟨_,(zb (zn (i:=1) zdy.nd rfl (Or.inl rfl) (zw G_lbox hr rfl (za (pv 0) (za zf zc))))
  (zb (zn (i:=2) zdy.nd rfl (Or.inl rfl) (zy zF (zw G_lany hr rfl (za (zw G_lbox hr rfl (za (pv 0) (za zf zc))) (za (zx zc) (za (zx (za ze (za ze zc))) (za (zi zU zf (zw G_ltake hr rfl (za (pv 1) (za zf zc)))) (za zf (za zf zc))))))) zf (fun _ _=>rfl)))
  (zb (zn (i:=3) zdy.nd rfl (Or.inl rfl) (zw G_show_rule hr rfl (za (pv 2) zc)))
  (zb (zaC PassesOwn.never rfl (Z8 rfl m_range (za zf zc)) (zZ (i:=4) zdy.nd rfl (Or.inl rfl)) (zg (zB (PW.pt (zal (zj zeN (zk zz rfl m_len PySem.boot_len (za (pv 3) zc)) zf (nomark _)) (ZH (ZP (zW (zw G_lrefused hr rfl (za (zw G_lspoilt hr rfl (za (pv 1) (za (pv 3) zc))) zc))))))) (zg (zo zaJ)) zq)))
  (zb (zaC PassesOwn.never rfl (zay (zdK G_lbare_texts hr rfl)) (zZ (i:=5) zdy.nd rfl (Or.inl rfl)) (zg (zB (ZP (zW (zw G_lrefused hr rfl (za (pv 5) zc)))) (zg (zo zaJ)) zq)))
  (zb (zaC PassesOwn.never rfl (zay (zdK G_lat_the_bounds hr rfl)) (zZ (i:=6) zdy.nd rfl (Or.inl rfl)) (zg (zB (zj zbc (zy zF (ZW G_read_rule hr znj rfl (za (pv 6) zc)) zf (fun _ _=>rfl)) (zP (za ze (za ze (za ze (za ze (za ze zc)))))) (by rfl)) (zg (zo zaJ)) zq)))
  (zg (zo (zfN (zK zcy (zk zz rfl m_len PySem.boot_len (za (pv 3) zc)) zf (nomark _)) (zao (zK (zmZ hr.units) (ZW G_read_rule hr znj rfl (za (pv 3) zc)) (pv 2) (nomark _)))))))))))),?_⟩
 refine ⟨_,rfl,a,ns,1,rfl,hq,by decide,fun x1 f1 m1 b1 hb1=>?_⟩
 have sb1:=Same.new (o:=.lst [.int x1,.int f1,.int m1]) hb1
 have eb1:upd H b1 (.lst [.int x1,.int f1,.int m1]) b1 = some (.lst [.int x1,.int f1,.int m1]):=zd
 generalize upd H b1 (.lst [.int x1,.int f1,.int m1]) = H1 at sb1 eb1
 dsimp only [ZI]
 refine ⟨_,rfl,a,ns,2,rfl,sb1.seq hq,by decide,fun x2 f2 m2 b2 hb2=>⟨zl0,fun sc hsc=>⟨zl2,fun nl hnl=>?_⟩⟩⟩
 have sb2:=Same.new (o:=.lst [.int x2,.int f2,.int m2]) hb2
 have s3:=Same.new (o:=.lst []) hsc
 have s4:=Same.new (o:=.lst [.str (Str.ofString "a.b"),.str (Str.ofString "ab.c1")]) hnl
 have e1:=((sb2.trans s3).trans s4) b1 _ eb1
 have e2:=s4 b2 _ (s3 b2 _ zd)
 have n12:b2≠b1:=(zr eb1 hb2).symm
 have n1s:sc≠b1:=(zr (sb2 b1 _ eb1) hsc).symm
 have n2s:sc≠b2:=(zr zd hsc).symm
 have n1l:nl≠b1:=(zr ((sb2.trans s3) b1 _ eb1) hnl).symm
 have n2l:nl≠b2:=(zr (s3 b2 _ zd) hnl).symm
 refine ⟨_,rfl,b1,20,rfl,⟨_,_,_,e1⟩,by decide,by decide,fun sp H5 sp0 sp1 st5=>⟨_,_,rfl,rfl,?_⟩⟩
 refine ⟨b2,sc,nl,[],[Str.ofString "a.b",Str.ofString "ab.c1"],1 + sp,12,2,rfl,⟨_,_,_,st5.keep _ _ n12 e2⟩,⟨st5.keep _ _ n1l zd,n2l,(fun z=>nomatch z),by decide,zgm⟩,st5.keep _ _ n1s (s4 _ _ zd),n2s,by decide,(fun y hy=>nomatch hy),by omega,by omega,by decide,by decide,by decide,by decide,fun t v r0 H6 et rv hfit hmany hhigh hrep st6=>?_⟩
 have hb16:Zr H6 b1:=by
  obtain ⟨x,y,z,e⟩:=st5.box
  exact ⟨x,y,z,st6.keep _ _ n12.symm e⟩
 refine ⟨t,_,0,_,rfl,rfl,SqT.of et,rfl,?_⟩
 have g0:=hfit.gd
 have u0:=zgl r0 [] hfit
 clear et hfit st5 st6 e1 e2 sb2 s3 s4 n12 n1s n2s n1l n2l hsc hnl hb2
 dsimp only [ZI]
 refine ⟨_,rfl,v,r0,rfl,rv,g0,by omega,by omega,fun x H7 hx s7=>?_⟩
 have hb7:Zr H7 b1:=by obtain ⟨i,j,l,e⟩:=hb16; exact ⟨i,j,l,s7 _ _ e⟩
 have rv7:=rv.mono (Zu s7)
 have hxl:x.length<=1365000:=by
  have:=zgf r0 g0
  rw [← hx,zt] at this
  omega
 have hdp:(trR r0).deep<=60:=by have:=zhb r0 g0; omega
 have hlast:∀ i,x.cps.toList[i]? = some 40->i + 1 < x.length:=fun i hi=>by
  have:=zmu (zha r0 g0) i (by rw [← hx]; exact hi)
  rw [← hx,zt] at this
  exact this
 dsimp only [ZI]
 refine seqI (fun σ' H'=>∃ o4,σ' = [some (.ref a),some (.ref b1),some v,some (.str x),o4,none,none]/\RW H' v r0.toW) (fun σ' H8 h=>?_) (fun tl=>?_)
 ·obtain ⟨o4,rfl,rv8⟩:=h
  refine seqI (fun σ' H'=>∃ o5,σ' = [some (.ref a),some (.ref b1),some v,some (.str x),o4,o5,none]/\RW H' v r0.toW) (fun σ' H9 h=>?_) (fun tl=>?_)
  ·obtain ⟨o5,rfl,rv9⟩:=h
   refine seqI (fun σ' H'=>∃ o6,σ' = [some (.ref a),some (.ref b1),some v,some (.str x),o4,o5,o6]/\RW H' v r0.toW) (fun σ' HA h=>?_) (fun tl=>?_)
   ·obtain ⟨o6,rfl,rvA⟩:=h
    refine ⟨_,rfl,_,_,rfl,⟨Nat.le_trans hxl (by decide),rfl⟩,_,_,rfl,rfl,?_⟩
    refine ⟨_,rfl,ite2 (fun e=>q _) (fun e=>?_)⟩
    ·have hgt:¬ (6000:Int) < (x.length:Int):=fun z=>e (decide_eq_true z)
     have hspl:SpellO x.cps.toList (some (pcT (trR r0))):=by rw [hx]; exact (ZM (zha r0 g0)).o
     have hru:Rule r0:=⟨g0,by omega,by omega,u0,by omega⟩
     have hex:=ex_R g0 hdp
     refine ⟨_,rfl,x,_,rfl,hspl,by omega,fun r' hr' _ u HD sD ru=>?_,fun hno=>absurd hru (hno r0 hex)⟩
     rw [hex] at hr'
     cases hr'
     refine ⟨_,rfl,r0.toW,r0.toW,ru.toRW rfl,rvA.mono (Zu sD),?_,?_⟩
     ·obtain ⟨ws,hw,hd2⟩:=zhm r0 g0
      rw [hw]
      show 1 + depths ws < 50
      omega
     ·rw [zd4]
      exact q _
   ·refine ⟨rfl,fun p zs HB hn sB eB lB hB=>⟨p,rfl,⟨_,SqL.of eB⟩,zdV (xs:=zs.map V.str) (fun i σ' H'=>∃ o6,σ' = [some (.ref a),some (.ref b1),some v,some (.str x),o4,o5,o6]/\RW H' v r0.toW/\Same HB H') ⟨_,rfl,rv9.mono (Zu sB),Same.refl _⟩ (fun i σ' H' _ h=>?_) (fun i y σ' H' hy h=>?_) (fun σ' H' h=>?_)⟩⟩
    ·obtain ⟨_,_,_,s⟩:=h
     exact SqL.of (s _ _ eB)
    ·obtain ⟨o6,rfl,rvC,sC⟩:=h
     rw [List.getElem?_map] at hy
     obtain ⟨z,hz,rfl⟩:=Option.map_eq_some_iff.mp hy
     obtain ⟨d,⟨hzl,O,r,hs,he,hru,l,hl⟩,hd⟩:=hB z (List.mem_of_getElem? hz)
     dsimp only [ZI]
     refine ⟨_,rfl,z,O,rfl,hs,hzl,fun r' hr' _ u HD sD ru=>?_,fun hno=>absurd hru (hno r he)⟩
     rw [he] at hr'
     cases hr'
     rw [hl] at ru
     obtain ⟨ad,us,rfl,ea,hus⟩:=ru.inv_tup
     obtain ⟨us',rfl⟩:∃ us',us = .str (woS d) :: us':=by
      cases us with
      | nil=>cases hus.1
      | cons y us'=>
       have:=hus.2 0 y _ rfl rfl
       cases this
       exact ⟨us',rfl⟩
     refine ⟨ad,_,0,_,rfl,rfl,SqT.of ea,zM (j:=0) rfl,zl5,fun p2 hp2=>⟨p2,_,rfl,.inr (SqT.of zd),rfl,rfl,_,rfl,?_⟩⟩
     have hin:(!inV (.str (woS d)) [.str (Str.ofString "list"),.str (Str.ofString "count"),.str (Str.ofString "over"),.str (Str.ofString "figures"),.str (Str.ofString "lit")]) = false:=by
      rcases hd with rfl | rfl | rfl | rfl | rfl <;> decide +kernel
     have sE:=(sC.trans sD).trans (Same.new (o:=.tup [.str (Str.ofString "list"),.str (Str.ofString "count"),.str (Str.ofString "over"),.str (Str.ofString "figures"),.str (Str.ofString "lit")]) hp2)
     refine ite2 (fun e=>?_) (fun e=>⟨_,rfl,rvC.mono (Zu (sD.trans (Same.new hp2))),sE⟩)
     have e:(!inV (.str (woS d)) [.str (Str.ofString "list"),.str (Str.ofString "count"),.str (Str.ofString "over"),.str (Str.ofString "figures"),.str (Str.ofString "lit")]) = true:=e
     rw [hin] at e
     cases e
    ·obtain ⟨o6,rfl,rvC,sC⟩:=h
     exact tl _ _ ⟨_,rfl,rvC⟩
  ·refine ⟨rfl,fun p zs HB hn sB eB lB hB=>⟨p,rfl,⟨_,SqL.of eB⟩,zdV (xs:=zs.map V.str) (fun i σ' H'=>∃ o5,σ' = [some (.ref a),some (.ref b1),some v,some (.str x),o4,o5,none]/\RW H' v r0.toW/\Same HB H') ⟨_,rfl,rv8.mono (Zu sB),Same.refl _⟩ (fun i σ' H' _ h=>?_) (fun i y σ' H' hy h=>?_) (fun σ' H' h=>?_)⟩⟩
   ·obtain ⟨_,_,_,s⟩:=h
    exact SqL.of (s _ _ eB)
   ·obtain ⟨o5,rfl,rvC,sC⟩:=h
    rw [List.getElem?_map] at hy
    obtain ⟨z,hz,rfl⟩:=Option.map_eq_some_iff.mp hy
    dsimp only [ZI]
    exact ⟨_,rfl,z,rfl,hB z (List.mem_of_getElem? hz),fun HD sD=>⟨_,rfl,iteF ⟨_,rfl,rvC.mono (Zu sD),sC.trans sD⟩⟩⟩
   ·obtain ⟨o5,rfl,rvC,sC⟩:=h
    exact tl _ _ ⟨_,rfl,rvC⟩
 ·refine ⟨4,rfl,by decide,by decide,?_⟩
  refine zcT (n:=4) (fun i σ' H'=>∃ o4,σ' = [some (.ref a),some (.ref b1),some v,some (.str x),o4,none,none]/\Zr H' b1/\RW H' v r0.toW) ⟨_,rfl,hb7,rv7⟩ (fun i σ' H8 hi h=>?_) (fun σ' H8 h=>?_)
  ·obtain ⟨o4,rfl,hb8,rv8⟩:=h
   refine ⟨_,rfl,_,_,rfl,⟨Nat.le_trans hxl (by decide),rfl⟩,_,_,rfl,rfl,_,rfl,?_⟩
   by_cases hlt:(x.length:Int) < 5990
   ·rw [decide_eq_true hlt]
    refine iteT ⟨_,rfl,_,rfl,b1,x,rfl,hb8,by omega,hlast,fun y H9 hsp hyl st9=>⟨y,rfl,znq g0 hdp hyl (by rw [← hx]; exact hsp),fun HA sA=>?_⟩⟩
    refine ⟨_,rfl,iteF ⟨_,rfl,(by obtain ⟨i,j,l,e⟩:=st9.box; exact ⟨i,j,l,sA _ _ e⟩),RW.mono (Zu sA) (rv8.mono (st9.tups hb8))⟩⟩
   ·rw [decide_eq_false hlt]
    exact iteF ⟨_,rfl,hb8,rv8⟩
  ·obtain ⟨o4,rfl,hb8,rv8⟩:=h
   exact tl _ _ ⟨_,rfl,rv8⟩
end
end D
namespace PySem.W.Fast
def tw13975965115042266278:=0
def tw13956451466370722898:=0
def tw2502089125681069355:=0
def tw3167041166444739522:=0
def tw6548799009051750817:=0
def tw12731780428998397633:=0
def tw13150570129944227634:=0
def tw15065249161753456838:=0
def tw16030285229745228725:=0
def tw8575669525637526581:=0
def tw15351849096259631687:=0
def tw15456962535202411505:=0
def tw750820387228182030:=0
def tw5977476777562360550:=0
def tw7812647636636600765:=0
def tw7933785860382182487:=0
def tw904263149117311956:=0
def tw10482627025820645541:=0
def tw1578199471838523064:=0
def tw9744621373580280754:=0
def tw16873172485481086775:=0
def tw7701265089490081695:=0
def tw8009579388534794504:=0
def tw18331288837788830899:=0
def tw15399865718106366084:=0
def tw12848192419679996088:=0
def tw11496234388620713816:=0
def tw13574187734875118656:=0
def tw17373910275186078856:=0
def tw9272301276939314382:=0
def tw9622234136973071501:=0
def tw7603245340009704253:=0
def tw9626538953718755866:=0
def tw9526740029573346573:=0
def tw14693768016262367617:=0
def tw5713079533667034094:=0
def tw10495497030973359509:=0
def tw8341957120578636403:=0
def tw15905370455522285439:=0
def tw8963686048958630678:=0
def tw7429457259490334554:=0
def tw6773610038007400818:=0
def tw9222477620813883107:=0
def tw3694576744361378183:=0
def tw10457655902003468494:=0
def tw18083543295467257705:=0
def tw6914101350412647483:=0
def tw11528834441769422966:=0
def tw14823893884267375326:=0
def tw2194552791018276040:=0
def tw15186127177966032618:=0
def tw3151044354960641696:=0
def tw1858056357342946011:=0
def tw9640367338504493744:=0
def tw12625703650275491092:=0
def tw16656711674942784673:=0
def tw3601224064187850308:=0
def tw13063927760574423656:=0
def tw4816768899537561496:=0
def tw5095627801061396795:=0
def tw10657933241493033961:=0
def tw7841967194842463271:=0
def tw10723865349265156746:=0
def tw5787693245488222906:=0
def tw14464239400350028730:=0
def tw13799400203537545114:=0
def tw15319312308560336793:=0
def tw6112807620951462445:=0
def tw12946580745002702411:=0
def tw8996966541684507695:=0
def tw16857257344860558605:=0
def tw5131460289573818480:=0
def tw4133050847755130083:=0
def tw3634461423395703335:=0
def tw15799185538909926249:=0
def tw5009373651923031926:=0
def tw2520998314866777433:=0
def tw10880886462556262708:=0
def tw6799297683593441334:=0
def tw11594693054904543195:=0
def tw16081086847952874505:=0
def tw12362717448541762740:=0
def tw16067662636552990563:=0
def tw11029313414214672716:=0
def tw5022019869663373863:=0
def tw11363869488427585827:=0
def tw7854546366323706287:=0
def tw8256191357056460259:=0
def tw505134299395160726:=0
def tw3087223587666807622:=0
def tw12700127727539810914:=0
def tw4629494174206769483:=0
def tw3842261773917973177:=0
def tw11574801040811650165:=0
def tw13551555815826614819:=0
def tw11310248054839460647:=0
def tw7823114269549932357:=0
def tw14173962320270341437:=0
def tw8442548353760945644:=0
def tw5866008121901607335:=0
def tw4027279102718830611:=0
def tw15223288010681012080:=0
def tw12552477583716392328:=0
def tw6390780103352602638:=0
def tw7426669626250177869:=0
def tw10820566642799106484:=0
def tw10805771863349333819:=0
def tw14779822234724975264:=0
def tw1881070598142111684:=0
def tw17917306122655890893:=0
def tw4069056003268561085:=0
def tw9551692119711794095:=0
def tw4325828023054733114:=0
def tw7202826646010848644:=0
def tw17931916020236870327:=0
def tw14455128545034130978:=0
def tw7839780459867236248:=0
def tw10419156370483842473:=0
def tw9495312076814750806:=0
def tw17216728772563693924:=0
def tw10280372551418000141:=0
def tw423712132647263793:=0
def tw2857558040839760913:=0
def tw10170828636556929589:=0
def tw13785165045072916523:=0
def tw18127916280972734697:=0
def tw1806303387421369360:=0
def tw12969020389995283857:=0
def tw11167809189508510290:=0
def tw8430252769248716377:=0
def tw9387268927403765273:=0
def tw8922333877476854381:=0
def tw15539383138178556292:=0
def tw5026933704883127878:=0
def tw6929366279606853449:=0
def tw12015903452109630929:=0
def tw7048979444894547301:=0
def tw9592331040524469753:=0
def tw14730702519261010272:=0
def tw2346327175669241653:=0
def tw2211814188899583460:=0
def tw18269337867594124308:=0
def tw3929755701542337512:=0
def tw11916775686759820833:=0
def tw14524062815443717497:=0
def tw11774027389105146719:=0
def tw3951416304281376595:=0
def tw7393854017912479442:=0
def tw9213051325730645480:=0
def tw2919107124722449110:=0
def tw12934990166612772368:=0
def tw8289637645748251033:=0
def tw5064063892374088003:=0
def tw7279517312788578370:=0
def tw1407708260848949182:=0
def tw13917808844750096908:=0
def tw6951695486393415147:=0
def tw9125684846318623778:=0
def tw7285157916887225756:=0
def tw11856723988290921394:=0
def tw1569328954352157627:=0
def tw6237479978122474794:=0
def tw7247722608754398060:=0
def tw7099641240231194730:=0
def tw15939301277612699277:=0
def tw6386347025893879190:=0
def tw16729041070811110477:=0
def tw5118940196897743899:=0
def tw16567905981851884931:=0
def tw4807788771479455585:=0
def tw1885084182565052237:=0
def tw5124738704956194120:=0
def tw10943444888168058047:=0
def tw1820335607348916431:=0
def tw16759979450964566253:=0
def tw9828793956664067355:=0
def tw9903290644700540811:=0
def tw12080233197958622326:=0
def tw2183913621650363447:=0
def tw17146691312153231659:=0
def tw5413015414619013851:=0
def tw3346262863789374717:=0
def tw4830919945241306730:=0
def tw5505281660081091819:=0
def tw7942241055520887751:=0
def tw15521703940276917438:=0
def tw12257452640357223858:=0
def tw16443194483734255847:=0
def tw5524613497958112538:=0
def tw2194542473179270599:=0
def tw132084818568486124:=0
def tw13938069397186506362:=0
def tw17412775961169226864:=0
def tw2164066927566244514:=0
def tw16638365971164561452:=0
def tw15713074724071788577:=0
def tw10855699301389400817:=0
def tw17715801993965145616:=0
def tw7679640484011264039:=0
def tw13278236759447139403:=0
end PySem.W.Fast
namespace D
open PySem L2
theorem zbo {P:Program}{w:World}{K:PySem.W.Frag}{mg:Str->Option Value}{base:Heap}{f:Addr}{fd:FuncData}{ps:List Str}{sp:Sp}{CX:CXT} (no:∀ vs H Q E,¬ sp vs H Q E) (k:Nat):FnOk P w K mg base CX k f fd ps sp:=
 ⟨fun vs H Q E h=>absurd h (no vs H Q E),fun A outer s H args us vs Q E _ _ _ _ h=>absurd h (no vs H Q E)⟩
def lvP (L:Nat):Nat->Nat
 | 0=>L
 | n + 1=>lvP L n + 2
theorem zfL (L:Nat):∀ n:Nat,L<=lvP L n
 | 0=>Nat.le_refl _
 | n + 1=>Nat.le_trans (zfL L n) (Nat.le_add_right _ 2)
theorem us_0 {us:List Value} (h:us.length = 0):us = []:=by
 match us,h with
 | [],_=>exact rfl
theorem us_1 {us:List Value} (h:us.length = 1):∃ x0,us = [x0]:=by
 match us,h with
 | [x0],_=>exact ⟨x0,rfl⟩
theorem us_2 {us:List Value} (h:us.length = 2):∃ x0 x1,us = [x0,x1]:=by
 match us,h with
 | [x0,x1],_=>exact ⟨x0,x1,rfl⟩
theorem us_3 {us:List Value} (h:us.length = 3):∃ x0 x1 x2,us = [x0,x1,x2]:=by
 match us,h with
 | [x0,x1,x2],_=>exact ⟨x0,x1,x2,rfl⟩
theorem us_5 {us:List Value} (h:us.length = 5):∃ x0 x1 x2 x3 x4,us = [x0,x1,x2,x3,x4]:=by
 match us,h with
 | [x0,x1,x2,x3,x4],_=>exact ⟨x0,x1,x2,x3,x4,rfl⟩
theorem us_6 {us:List Value} (h:us.length = 6):∃ x0 x1 x2 x3 x4 x5,us = [x0,x1,x2,x3,x4,x5]:=by
 match us,h with
 | [x0,x1,x2,x3,x4,x5],_=>exact ⟨x0,x1,x2,x3,x4,x5,rfl⟩
abbrev nI (K:PySem.W.Frag) (s:Str) (f:Addr):Prop:=nsIn K mainGlobals s = some (some (.ref f))
abbrev lI (K:PySem.W.Frag) (f:Addr) (s:Str) (t:Stmt) (oc:Value) (od:Option Addr) (kV dc pm:Value) (an:Option Addr) (cd ct:Value) (sl:Array (Option Value)):Prop:=K.lookup f = some ⟨oc,od,.func (fnOf s s (zcl t) (zaM t) (zl t) .none kV dc pm an cd ct),sl⟩
abbrev cI (K:PySem.W.Frag) (c:Value) (s:Str):Prop:=codeIn K c s = true
abbrev kI (K:PySem.W.Frag) (f:Addr):Prop:=keepIn K (.ref f) = true
theorem znt {l:PySem.W.OpenLaw}{w:World}{K:PySem.W.Frag}{h:Heap}{mg:Str->Option Value}{fa f0 f1 f2 f3 f4 f5 f6 f7 f8 f9 f10 f11 f12 f13 f14 f15 f16 f17 f18 f19 f20 f21 f22 f23 f24 f25 f26 f27 f28 f29 f30 f31 f32 f33 f34 f35 f36 f37 f38 f39 f40 f41 f42 f43 f44 f45 f46 f47 f48 f49 f50 f51:Addr} (X:K.In h) (G:h.Ns mainGlobals mg) (hfa:mg "law" = some (.ref fa))
  {od0 an0 od1 an1 od2 an2 od3 an3 od4 an4 od5 an5 od6 an6 od7 an7 od8 an8 od9 an9 od10 an10 od11 an11 od12 an12 od13 an13 od14 an14 od15 an15 od16 an16 od17 an17 od18 an18 od19 an19 od20 an20 od21 an21 od22 an22 od23 an23 od24 an24 od25 an25 od26 an26 od27 an27 od28 an28 od29 an29 od30 an30 od31 an31 od32 an32 od33 an33 od34 an34 od35 an35 od36 an36 od37 an37 od38 an38 od39 an39 od40 an40 od41 an41 od42 an42 od43 an43 od44 an44 od45 an45 od46 an46 od47 an47 od48 an48 od49 an49 od50 an50 od51 an51:Option Addr}{sl0 sl1 sl2 sl3 sl4 sl5 sl6 sl7 sl8 sl9 sl10 sl11 sl12 sl13 sl14 sl15 sl16 sl17 sl18 sl19 sl20 sl21 sl22 sl23 sl24 sl25 sl26 sl27 sl28 sl29 sl30 sl31 sl32 sl33 sl34 sl35 sl36 sl37 sl38 sl39 sl40 sl41 sl42 sl43 sl44 sl45 sl46 sl47 sl48 sl49 sl50 sl51:Array (Option Value)}{oc0 kV0 dc0 pm0 cd0 ct0 oc1 kV1 dc1 pm1 cd1 ct1 oc2 kV2 dc2 pm2 cd2 ct2 oc3 kV3 dc3 pm3 cd3 ct3 oc4 kV4 dc4 pm4 cd4 ct4 oc5 kV5 dc5 pm5 cd5 ct5 oc6 kV6 dc6 pm6 cd6 ct6 oc7 kV7 dc7 pm7 cd7 ct7 oc8 kV8 dc8 pm8 cd8 ct8 oc9 kV9 dc9 pm9 cd9 ct9 oc10 kV10 dc10 pm10 cd10 ct10 oc11 kV11 dc11 pm11 cd11 ct11 oc12 kV12 dc12 pm12 cd12 ct12 oc13 kV13 dc13 pm13 cd13 ct13 oc14 kV14 dc14 pm14 cd14 ct14 oc15 kV15 dc15 pm15 cd15 ct15 oc16 kV16 dc16 pm16 cd16 ct16 oc17 kV17 dc17 pm17 cd17 ct17 oc18 kV18 dc18 pm18 cd18 ct18 oc19 kV19 dc19 pm19 cd19 ct19 oc20 kV20 dc20 pm20 cd20 ct20 oc21 kV21 dc21 pm21 cd21 ct21 oc22 kV22 dc22 pm22 cd22 ct22 oc23 kV23 dc23 pm23 cd23 ct23 oc24 kV24 dc24 pm24 cd24 ct24 oc25 kV25 dc25 pm25 cd25 ct25 oc26 kV26 dc26 pm26 cd26 ct26 oc27 kV27 dc27 pm27 cd27 ct27 oc28 kV28 dc28 pm28 cd28 ct28 oc29 kV29 dc29 pm29 cd29 ct29 oc30 kV30 dc30 pm30 cd30 ct30 oc31 kV31 dc31 pm31 cd31 ct31 oc32 kV32 dc32 pm32 cd32 ct32 oc33 kV33 dc33 pm33 cd33 ct33 oc34 kV34 dc34 pm34 cd34 ct34 oc35 kV35 dc35 pm35 cd35 ct35 oc36 kV36 dc36 pm36 cd36 ct36 oc37 kV37 dc37 pm37 cd37 ct37 oc38 kV38 dc38 pm38 cd38 ct38 oc39 kV39 dc39 pm39 cd39 ct39 oc40 kV40 dc40 pm40 cd40 ct40 oc41 kV41 dc41 pm41 cd41 ct41 oc42 kV42 dc42 pm42 cd42 ct42 oc43 kV43 dc43 pm43 cd43 ct43 oc44 kV44 dc44 pm44 cd44 ct44 oc45 kV45 dc45 pm45 cd45 ct45 oc46 kV46 dc46 pm46 cd46 ct46 oc47 kV47 dc47 pm47 cd47 ct47 oc48 kV48 dc48 pm48 cd48 ct48 oc49 kV49 dc49 pm49 cd49 ct49 oc50 kV50 dc50 pm50 cd50 ct50 oc51 kV51 dc51 pm51 cd51 ct51:Value}
  {zN:Addr}
  (aX_NoText:nsIn K mainGlobals "NoText" = some (some (.ref zN)))
  (eX_NoText:excIn K zN vErr "ValueError.__new__" = true)
  {AForgeError:Addr}
  (aX_ForgeError:nsIn K mainGlobals "ForgeError" = some (some (.ref AForgeError)))
  {ANoName:Addr}
  (aX_NoName:nsIn K mainGlobals "NoName" = some (some (.ref ANoName)))
  {ANoRow:Addr}
  (aX_NoRow:nsIn K mainGlobals "NoRow" = some (some (.ref ANoRow)))
  {ANoRule:Addr}
  (aX_NoRule:nsIn K mainGlobals "NoRule" = some (some (.ref ANoRule)))
  {ANoStep:Addr}
  (aX_NoStep:nsIn K mainGlobals "NoStep" = some (some (.ref ANoStep)))
  {ANoThing:Addr}
  (aX_NoThing:nsIn K mainGlobals "NoThing" = some (some (.ref ANoThing)))
  {ANoWorth:Addr}
  (aX_NoWorth:nsIn K mainGlobals "NoWorth" = some (some (.ref ANoWorth)))
  (ix1:findIn K (.ref zN) "__getattribute__" = some (some (.builtin "BaseException.__getattribute__")))
  (ix2:findIn K (.ref zN) "__getattr__" = some none)
  (ix3:findIn K (.ref zN) "__class__" = some (some (.builtin "object.__class__")))
  (ix4:specialIn K (.builtin "object.__class__") "__get__" = some (some (.builtin "getset_descriptor.__get__")))
  (ix5:takesIn K (.builtin "object.__class__") = some true)
  (ix6:mroIn K zN (.type "object") = some true)
  (ix7:mroIn K zN (.type "BaseException") = some true)
  (xm:exmOne K (.ref zN) (.ref AForgeError) = some true)
  (kT_NoText:kitOne K (.ref zN) (.ref zN) = some true)
  (kT_ValueError:kitOne K (.ref zN) (.type "ValueError") = some true)
  (kT_NoName:kitOne K (.ref zN) (.ref ANoName) = some false)
  (kT_NoRow:kitOne K (.ref zN) (.ref ANoRow) = some false)
  (kT_NoRule:kitOne K (.ref zN) (.ref ANoRule) = some false)
  (kT_NoStep:kitOne K (.ref zN) (.ref ANoStep) = some false)
  (kT_NoThing:kitOne K (.ref zN) (.ref ANoThing) = some false)
  (kT_NoWorth:kitOne K (.ref zN) (.ref ANoWorth) = some false)
  (a0:nI K "is_number" f0) (l0:lI K f0 "is_number" zaN oc0 od0 kV0 dc0 pm0 an0 cd0 ct0 sl0) (c0:cI K cd0 "is_number") (k0:kI K f0)
  (a1:nI K "is_sign" f1) (l1:lI K f1 "is_sign" zb2 oc1 od1 kV1 dc1 pm1 an1 cd1 ct1 sl1) (c1:cI K cd1 "is_sign") (k1:kI K f1)
  (a2:nI K "fits_alone" f2) (l2:lI K f2 "fits_alone" zas oc2 od2 kV2 dc2 pm2 an2 cd2 ct2 sl2) (c2:cI K cd2 "fits_alone") (k2:kI K f2)
  (a3:nI K "size_alone" f3) (l3:lI K f3 "size_alone" zgA oc3 od3 kV3 dc3 pm3 an3 cd3 ct3 sl3) (c3:cI K cd3 "size_alone") (k3:kI K f3)
  (a4:nI K "is_worth" f4) (l4:lI K f4 "is_worth" zbq oc4 od4 kV4 dc4 pm4 an4 cd4 ct4 sl4) (c4:cI K cd4 "is_worth") (k4:kI K f4)
  (a5:nI K "is_variable" f5) (l5:lI K f5 "is_variable" zag oc5 od5 kV5 dc5 pm5 an5 cd5 ct5 sl5) (c5:cI K cd5 "is_variable") (k5:kI K f5)
  (a6:nI K "has_parts" f6) (l6:lI K f6 "has_parts" zaO oc6 od6 kV6 dc6 pm6 an6 cd6 ct6 sl6) (c6:cI K cd6 "has_parts") (k6:kI K f6)
  (a7:nI K "binding_count" f7) (l7:lI K f7 "binding_count" ZS oc7 od7 kV7 dc7 pm7 an7 cd7 ct7 sl7) (c7:cI K cd7 "binding_count") (k7:kI K f7)
  (a8:nI K "variables_of" f8) (l8:lI K f8 "variables_of" Z3 oc8 od8 kV8 dc8 pm8 an8 cd8 ct8 sl8) (c8:cI K cd8 "variables_of") (k8:kI K f8)
  (a9:nI K "parts_of" f9) (l9:lI K f9 "parts_of" zbr oc9 od9 kV9 dc9 pm9 an9 cd9 ct9 sl9) (c9:cI K cd9 "parts_of") (k9:kI K f9)
  (a10:nI K "are_good_variables" f10) (l10:lI K f10 "are_good_variables" Zk oc10 od10 kV10 dc10 pm10 an10 cd10 ct10 sl10) (c10:cI K cd10 "are_good_variables") (k10:kI K f10)
  (a11:nI K "has_form" f11) (l11:lI K f11 "has_form" zbs oc11 od11 kV11 dc11 pm11 an11 cd11 ct11 sl11) (c11:cI K cd11 "has_form") (k11:kI K f11)
  (a12:nI K "is_formed" f12) (l12:lI K f12 "is_formed" zaP oc12 od12 kV12 dc12 pm12 an12 cd12 ct12 sl12) (c12:cI K cd12 "is_formed") (k12:kI K f12)
  (a13:nI K "unbound" f13) (l13:lI K f13 "unbound" zb3 oc13 od13 kV13 dc13 pm13 an13 cd13 ct13 sl13) (c13:cI K cd13 "unbound") (k13:kI K f13)
  (a14:nI K "free_in" f14) (l14:lI K f14 "free_in" zb4 oc14 od14 kV14 dc14 pm14 an14 cd14 ct14 sl14) (c14:cI K cd14 "free_in") (k14:kI K f14)
  (a15:nI K "repeated" f15) (l15:lI K f15 "repeated" zbt oc15 od15 kV15 dc15 pm15 an15 cd15 ct15 sl15) (c15:cI K cd15 "repeated") (k15:kI K f15)
  (a16:nI K "is_rule" f16) (l16:lI K f16 "is_rule" zb5 oc16 od16 kV16 dc16 pm16 an16 cd16 ct16 sl16) (c16:cI K cd16 "is_rule") (k16:kI K f16)
  (a17:nI K "word_end" f17) (l17:lI K f17 "word_end" zbu oc17 od17 kV17 dc17 pm17 an17 cd17 ct17 sl17) (c17:cI K cd17 "word_end") (k17:kI K f17)
  (a18:nI K "text_end" f18) (l18:lI K f18 "text_end" zbv oc18 od18 kV18 dc18 pm18 an18 cd18 ct18 sl18) (c18:cI K cd18 "text_end") (k18:kI K f18)
  (a19:nI K "pieces_of" f19) (l19:lI K f19 "pieces_of" zaQ oc19 od19 kV19 dc19 pm19 an19 cd19 ct19 sl19) (c19:cI K cd19 "pieces_of") (k19:kI K f19)
  (a20:nI K "trees_of" f20) (l20:lI K f20 "trees_of" zbw oc20 od20 kV20 dc20 pm20 an20 cd20 ct20 sl20) (c20:cI K cd20 "trees_of") (k20:kI K f20)
  (a21:nI K "only_tree" f21) (l21:lI K f21 "only_tree" zaR oc21 od21 kV21 dc21 pm21 an21 cd21 ct21 sl21) (c21:cI K cd21 "only_tree") (k21:kI K f21)
  (a22:nI K "show_worth" f22) (l22:lI K f22 "show_worth" zat oc22 od22 kV22 dc22 pm22 an22 cd22 ct22 sl22) (c22:cI K cd22 "show_worth") (k22:kI K f22)
  (a23:nI K "writes_number" f23) (l23:lI K f23 "writes_number" ZT oc23 od23 kV23 dc23 pm23 an23 cd23 ct23 sl23) (c23:cI K cd23 "writes_number") (k23:kI K f23)
  (a24:nI K "number_of" f24) (l24:lI K f24 "number_of" zaS oc24 od24 kV24 dc24 pm24 an24 cd24 ct24 sl24) (c24:cI K cd24 "number_of") (k24:kI K f24)
  (a25:nI K "worth_of_tree" f25) (l25:lI K f25 "worth_of_tree" ZU oc25 od25 kV25 dc25 pm25 an25 cd25 ct25 sl25) (c25:cI K cd25 "worth_of_tree") (k25:kI K f25)
  (a26:nI K "show_rule" f26) (l26:lI K f26 "show_rule" zaT oc26 od26 kV26 dc26 pm26 an26 cd26 ct26 sl26) (c26:cI K cd26 "show_rule") (k26:kI K f26)
  (a27:nI K "variable_of_tree" f27) (l27:lI K f27 "variable_of_tree" Zs oc27 od27 kV27 dc27 pm27 an27 cd27 ct27 sl27) (c27:cI K cd27 "variable_of_tree") (k27:kI K f27)
  (a28:nI K "lit_of_trees" f28) (l28:lI K f28 "lit_of_trees" Z4 oc28 od28 kV28 dc28 pm28 an28 cd28 ct28 sl28) (c28:cI K cd28 "lit_of_trees") (k28:kI K f28)
  (a29:nI K "bracketed" f29) (l29:lI K f29 "bracketed" zaU oc29 od29 kV29 dc29 pm29 an29 cd29 ct29 sl29) (c29:cI K cd29 "bracketed") (k29:kI K f29)
  (a30:nI K "expression_of_tree" f30) (l30:lI K f30 "expression_of_tree" Zl oc30 od30 kV30 dc30 pm30 an30 cd30 ct30 sl30) (c30:cI K cd30 "expression_of_tree") (k30:kI K f30)
  (a31:nI K "rule_of_tree" f31) (l31:lI K f31 "rule_of_tree" Z5 oc31 od31 kV31 dc31 pm31 an31 cd31 ct31 sl31) (c31:cI K cd31 "rule_of_tree") (k31:kI K f31)
  (a32:nI K "read_rule" f32) (l32:lI K f32 "read_rule" zaV oc32 od32 kV32 dc32 pm32 an32 cd32 ct32 sl32) (c32:cI K cd32 "read_rule") (k32:kI K f32)
  (a33:nI K "_law_cell" f33) (l33:lI K f33 "_law_cell" zkc oc33 od33 kV33 dc33 pm33 an33 cd33 ct33 sl33) (c33:cI K cd33 "_law_cell") (k33:kI K f33)
  (a34:nI K "_law_box" f34) (l34:lI K f34 "_law_box" sBox oc34 od34 kV34 dc34 pm34 an34 cd34 ct34 sl34) (c34:cI K cd34 "_law_box") (k34:kI K f34)
  (a35:nI K "_law_take" f35) (l35:lI K f35 "_law_take" zkd oc35 od35 kV35 dc35 pm35 an35 cd35 ct35 sl35) (c35:cI K cd35 "_law_take") (k35:kI K f35)
  (a36:nI K "_law_text" f36) (l36:lI K f36 "_law_text" zke oc36 od36 kV36 dc36 pm36 an36 cd36 ct36 sl36) (c36:cI K cd36 "_law_text") (k36:kI K f36)
  (a37:nI K "_law_number" f37) (l37:lI K f37 "_law_number" zdX oc37 od37 kV37 dc37 pm37 an37 cd37 ct37 sl37) (c37:cI K cd37 "_law_number") (k37:kI K f37)
  (a38:nI K "_law_worth" f38) (l38:lI K f38 "_law_worth" zgB oc38 od38 kV38 dc38 pm38 an38 cd38 ct38 sl38) (c38:cI K cd38 "_law_worth") (k38:kI K f38)
  (a39:nI K "_law_variable" f39) (l39:lI K f39 "_law_variable" zaW oc39 od39 kV39 dc39 pm39 an39 cd39 ct39 sl39) (c39:cI K cd39 "_law_variable") (k39:kI K f39)
  (a40:nI K "_law_lit" f40) (l40:lI K f40 "_law_lit" zgC oc40 od40 kV40 dc40 pm40 an40 cd40 ct40 sl40) (c40:cI K cd40 "_law_lit") (k40:kI K f40)
  (a41:nI K "_law_word" f41) (l41:lI K f41 "_law_word" zdY oc41 od41 kV41 dc41 pm41 an41 cd41 ct41 sl41) (c41:cI K cd41 "_law_word") (k41:kI K f41)
  (a42:nI K "_law_parts_by" f42) (l42:lI K f42 "_law_parts_by" zaX oc42 od42 kV42 dc42 pm42 an42 cd42 ct42 sl42) (c42:cI K cd42 "_law_parts_by") (k42:kI K f42)
  (a43:nI K "_law_any" f43) (l43:lI K f43 "_law_any" zgD oc43 od43 kV43 dc43 pm43 an43 cd43 ct43 sl43) (c43:cI K cd43 "_law_any") (k43:kI K f43)
  (a44:nI K "_law_chain" f44) (l44:lI K f44 "_law_chain" zcM oc44 od44 kV44 dc44 pm44 an44 cd44 ct44 sl44) (c44:cI K cd44 "_law_chain") (k44:kI K f44)
  (a45:nI K "_law_beyond" f45) (l45:lI K f45 "_law_beyond" zb6 oc45 od45 kV45 dc45 pm45 an45 cd45 ct45 sl45) (c45:cI K cd45 "_law_beyond") (k45:kI K f45)
  (a46:nI K "_law_at_the_bounds" f46) (l46:lI K f46 "_law_at_the_bounds" ZF oc46 od46 kV46 dc46 pm46 an46 cd46 ct46 sl46) (c46:cI K cd46 "_law_at_the_bounds") (k46:kI K f46)
  (a47:nI K "_law_refused" f47) (l47:lI K f47 "_law_refused" zbx oc47 od47 kV47 dc47 pm47 an47 cd47 ct47 sl47) (c47:cI K cd47 "_law_refused") (k47:kI K f47)
  (a48:nI K "_law_bare_texts" f48) (l48:lI K f48 "_law_bare_texts" zah oc48 od48 kV48 dc48 pm48 an48 cd48 ct48 sl48) (c48:cI K cd48 "_law_bare_texts") (k48:kI K f48)
  (a49:nI K "_law_signs_out_of_quotes" f49) (l49:lI K f49 "_law_signs_out_of_quotes" Zb oc49 od49 kV49 dc49 pm49 an49 cd49 ct49 sl49) (c49:cI K cd49 "_law_signs_out_of_quotes") (k49:kI K f49)
  (a50:nI K "_law_spoilt" f50) (l50:lI K f50 "_law_spoilt" zb7 oc50 od50 kV50 dc50 pm50 an50 cd50 ct50 sl50) (c50:cI K cd50 "_law_spoilt") (k50:kI K f50)
  (a51:nI K "law" f51) (l51:lI K f51 "law" sLaw oc51 od51 kV51 dc51 pm51 an51 cd51 ct51 sl51) (c51:cI K cd51 "law") (k51:kI K f51)
  (z0:nsIn K mainGlobals "isinstance" = some none)
  (z1:nsIn K mainGlobals "int" = some none)
  (z2:nsIn K mainGlobals "bool" = some none)
  (z3:nsIn K mainGlobals "ord" = some none)
  (z4:nsIn K mainGlobals "str" = some none)
  (z5:nsIn K mainGlobals "tuple" = some none)
  (z6:nsIn K mainGlobals "len" = some none)
  (z7:nsIn K mainGlobals "all" = some none)
  (z8:nsIn K mainGlobals "abs" = some none)
  (z9:nsIn K mainGlobals "list" = some none)
  (z10:nsIn K mainGlobals "enumerate" = some none)
  (z11:nsIn K mainGlobals "set" = some none)
  (z12:nsIn K mainGlobals "sorted" = some none)
  (z13:nsIn K mainGlobals "max" = some none)
  (z14:nsIn K mainGlobals "range" = some none)
  (z15:nsIn K mainGlobals "min" = some none)
  (z16:nsIn K mainGlobals "ValueError" = some none)
  {t0:Tok} (i0:nsIn K mainGlobals "PERCENT" = some (some (.int 37 t0)))
  {t1:Tok} (i1:nsIn K mainGlobals "MOST_SIGNS" = some (some (.int 400 t1)))
  {t2:Tok} (i2:nsIn K mainGlobals "MOST_ITEMS" = some (some (.int 60 t2)))
  {t3:Tok} (i3:nsIn K mainGlobals "MOST_DEPTH" = some (some (.int 12 t3)))
  {t4:Tok} (i4:nsIn K mainGlobals "MOST_SIZE" = some (some (.int 1000 t4)))
  {t5:Tok} (i5:nsIn K mainGlobals "MOST_LETTERS" = some (some (.int 8 t5)))
  {t6:Tok} (i6:nsIn K mainGlobals "MOST_LISTED" = some (some (.int 8 t6)))
  {t7:Tok} (i7:nsIn K mainGlobals "MOST_MANY" = some (some (.int 60 t7)))
  {t8:Tok} (i8:nsIn K mainGlobals "MOST_NESTING" = some (some (.int 12 t8)))
  {t9:Tok} (i9:nsIn K mainGlobals "MOST_REPEATED" = some (some (.int 2 t9)))
  {t10:Tok} (i10:nsIn K mainGlobals "MOST_BRACKETS" = some (some (.int 100 t10)))
  {t11:Tok} (i11:nsIn K mainGlobals "MOST_FIGURES" = some (some (.int 60 t11)))
  {v0:Tok} (s0:nsIn K mainGlobals "LETTERS" = some (some (.str "abcdefghijklmnopqrstuvwxyz" v0)))
  {v1:Tok} (s1:nsIn K mainGlobals "WORD_ENDS" = some (some (.str " \n()\"" v1)))
  {v2:Tok} (s2:nsIn K mainGlobals "BETWEEN" = some (some (.str " \n" v2)))
  {v3:Tok} (s3:nsIn K mainGlobals "FIGURES" = some (some (.str "0123456789" v3)))
  {g0:Addr}{gd0:Option Addr}{gn0:Nat}{gs0:Array (Option Value)}{u0_0 u0_1:Tok} (y0:nsIn K mainGlobals "REPEATING" = some (some (.ref g0))) (x0:K.lookup g0 = some ⟨.type "tuple",gd0,.seq #[.str "each" u0_0,.str "over" u0_1] gn0,gs0⟩)
  {dg0:Addr}{dn0:Nat}{du0_0 dv0_0 du0_1 dv0_1 du0_2 dv0_2:Tok} (dy0:nsIn K mainGlobals "BINDING" = some (some (.ref dg0))) (dx0:K.lookup dg0 = some ⟨.type "dict",none,.dict #[⟨hashStr w "let",.str "let" du0_0,.int 1 dv0_0⟩,⟨hashStr w "each",.str "each" du0_1,.int 1 dv0_1⟩,⟨hashStr w "over",.str "over" du0_2,.int 2 dv0_2⟩] dn0,#[]⟩) (dz0:(dg0 == sysModules) = false)
  {dg1:Addr}{dn1:Nat}{du1_0 dv1_0 du1_1 dv1_1 du1_2 dv1_2 du1_3 dv1_3 du1_4 dv1_4 du1_5 dv1_5 du1_6 dv1_6 du1_7 dv1_7 du1_8 dv1_8 du1_9 dv1_9 du1_10 dv1_10 du1_11 dv1_11 du1_12 dv1_12 du1_13 dv1_13 du1_14 dv1_14 du1_15 dv1_15 du1_16 dv1_16:Tok} (dy1:nsIn K mainGlobals "PARTS" = some (some (.ref dg1))) (dx1:K.lookup dg1 = some ⟨.type "dict",none,.dict #[⟨hashStr w "let",.str "let" du1_0,.int 2 dv1_0⟩,⟨hashStr w "if",.str "if" du1_1,.int 3 dv1_1⟩,⟨hashStr w "+",.str "+" du1_2,.int 2 dv1_2⟩,⟨hashStr w "-",.str "-" du1_3,.int 2 dv1_3⟩,⟨hashStr w "*",.str "*" du1_4,.int 2 dv1_4⟩,⟨hashStr w "/",.str "/" du1_5,.int 2 dv1_5⟩,⟨hashStr w "same",.str "same" du1_6,.int 2 dv1_6⟩,⟨hashStr w "less",.str "less" du1_7,.int 2 dv1_7⟩,⟨hashStr w "join",.str "join" du1_8,.int 2 dv1_8⟩,⟨hashStr w "item",.str "item" du1_9,.int 2 dv1_9⟩,⟨hashStr w "count",.str "count" du1_10,.int 1 dv1_10⟩,⟨hashStr w "figures",.str "figures" du1_11,.int 1 dv1_11⟩,⟨hashStr w "each",.str "each" du1_12,.int 2 dv1_12⟩,⟨hashStr w "over",.str "over" du1_13,.int 3 dv1_13⟩,⟨hashStr w "look",.str "look" du1_14,.int 1 dv1_14⟩,⟨hashStr w "else",.str "else" du1_15,.int 2 dv1_15⟩,⟨hashStr w "cry",.str "cry" du1_16,.int 1 dv1_16⟩] dn1,#[]⟩) (dz1:(dg1 == sysModules) = false)
  : ∃ fd:FuncData,(∀ (s:Shared) (v:Value),BindsTo s fd ⟨[v],[]⟩ [("_law_script",v)])/\∀ base:Heap,K.In base->base.Ns mainGlobals mg->FnOk l.prog w K mg base CX0 230 fa fd ["_law_script"] (zkY K):=by
 have e:=hfa.symm.trans (mg_of X G a51)
 cases e
 have F0:=zA (st:=zaN) l0 c0 k0
 have b0:=F0.binds (ps:=["thing"]) fun _ _ _ _ _ _ us hl=>by obtain ⟨_,rfl⟩:=us_1 hl; rfl
 have n0:=mg_of X G a0
 have F1:=zA (st:=zb2) l1 c1 k1
 have b1:=F1.binds (ps:=["sign"]) fun _ _ _ _ _ _ us hl=>by obtain ⟨_,rfl⟩:=us_1 hl; rfl
 have n1:=mg_of X G a1
 have F2:=zA (st:=zas) l2 c2 k2
 have b2:=F2.binds (ps:=["thing","levels"]) fun _ _ _ _ _ _ us hl=>by obtain ⟨_,_,rfl⟩:=us_2 hl; rfl
 have n2:=mg_of X G a2
 have F3:=zA (st:=zgA) l3 c3 k3
 have b3:=F3.binds (ps:=["worth"]) fun _ _ _ _ _ _ us hl=>by obtain ⟨_,rfl⟩:=us_1 hl; rfl
 have n3:=mg_of X G a3
 have F4:=zA (st:=zbq) l4 c4 k4
 have b4:=F4.binds (ps:=["thing"]) fun _ _ _ _ _ _ us hl=>by obtain ⟨_,rfl⟩:=us_1 hl; rfl
 have n4:=mg_of X G a4
 have F5:=zA (st:=zag) l5 c5 k5
 have b5:=F5.binds (ps:=["thing"]) fun _ _ _ _ _ _ us hl=>by obtain ⟨_,rfl⟩:=us_1 hl; rfl
 have n5:=mg_of X G a5
 have F6:=zA (st:=zaO) l6 c6 k6
 have b6:=F6.binds (ps:=["word"]) fun _ _ _ _ _ _ us hl=>by obtain ⟨_,rfl⟩:=us_1 hl; rfl
 have n6:=mg_of X G a6
 have F7:=zA (st:=ZS) l7 c7 k7
 have b7:=F7.binds (ps:=["word"]) fun _ _ _ _ _ _ us hl=>by obtain ⟨_,rfl⟩:=us_1 hl; rfl
 have n7:=mg_of X G a7
 have F8:=zA (st:=Z3) l8 c8 k8
 have b8:=F8.binds (ps:=["expression"]) fun _ _ _ _ _ _ us hl=>by obtain ⟨_,rfl⟩:=us_1 hl; rfl
 have n8:=mg_of X G a8
 have F9:=zA (st:=zbr) l9 c9 k9
 have b9:=F9.binds (ps:=["expression"]) fun _ _ _ _ _ _ us hl=>by obtain ⟨_,rfl⟩:=us_1 hl; rfl
 have n9:=mg_of X G a9
 have F10:=zA (st:=Zk) l10 c10 k10
 have b10:=F10.binds (ps:=["names"]) fun _ _ _ _ _ _ us hl=>by obtain ⟨_,rfl⟩:=us_1 hl; rfl
 have n10:=mg_of X G a10
 have F11:=zA (st:=zbs) l11 c11 k11
 have b11:=F11.binds (ps:=["thing"]) fun _ _ _ _ _ _ us hl=>by obtain ⟨_,rfl⟩:=us_1 hl; rfl
 have n11:=mg_of X G a11
 have F12:=zA (st:=zaP) l12 c12 k12
 have b12:=F12.binds (ps:=["thing"]) fun _ _ _ _ _ _ us hl=>by obtain ⟨_,rfl⟩:=us_1 hl; rfl
 have n12:=mg_of X G a12
 have F13:=zA (st:=zb3) l13 c13 k13
 have b13:=F13.binds (ps:=["expression","bound"]) fun _ _ _ _ _ _ us hl=>by obtain ⟨_,_,rfl⟩:=us_2 hl; rfl
 have n13:=mg_of X G a13
 have F14:=zA (st:=zb4) l14 c14 k14
 have b14:=F14.binds (ps:=["expression"]) fun _ _ _ _ _ _ us hl=>by obtain ⟨_,rfl⟩:=us_1 hl; rfl
 have n14:=mg_of X G a14
 have F15:=zA (st:=zbt) l15 c15 k15
 have b15:=F15.binds (ps:=["expression"]) fun _ _ _ _ _ _ us hl=>by obtain ⟨_,rfl⟩:=us_1 hl; rfl
 have n15:=mg_of X G a15
 have F16:=zA (st:=zb5) l16 c16 k16
 have b16:=F16.binds (ps:=["thing"]) fun _ _ _ _ _ _ us hl=>by obtain ⟨_,rfl⟩:=us_1 hl; rfl
 have n16:=mg_of X G a16
 have F17:=zA (st:=zbu) l17 c17 k17
 have b17:=F17.binds (ps:=["text","start"]) fun _ _ _ _ _ _ us hl=>by obtain ⟨_,_,rfl⟩:=us_2 hl; rfl
 have n17:=mg_of X G a17
 have F18:=zA (st:=zbv) l18 c18 k18
 have b18:=F18.binds (ps:=["text","start"]) fun _ _ _ _ _ _ us hl=>by obtain ⟨_,_,rfl⟩:=us_2 hl; rfl
 have n18:=mg_of X G a18
 have F19:=zA (st:=zaQ) l19 c19 k19
 have b19:=F19.binds (ps:=["text"]) fun _ _ _ _ _ _ us hl=>by obtain ⟨_,rfl⟩:=us_1 hl; rfl
 have n19:=mg_of X G a19
 have F20:=zA (st:=zbw) l20 c20 k20
 have b20:=F20.binds (ps:=["text"]) fun _ _ _ _ _ _ us hl=>by obtain ⟨_,rfl⟩:=us_1 hl; rfl
 have n20:=mg_of X G a20
 have F21:=zA (st:=zaR) l21 c21 k21
 have b21:=F21.binds (ps:=["text"]) fun _ _ _ _ _ _ us hl=>by obtain ⟨_,rfl⟩:=us_1 hl; rfl
 have n21:=mg_of X G a21
 have F22:=zA (st:=zat) l22 c22 k22
 have b22:=F22.binds (ps:=["worth"]) fun _ _ _ _ _ _ us hl=>by obtain ⟨_,rfl⟩:=us_1 hl; rfl
 have n22:=mg_of X G a22
 have F23:=zA (st:=ZT) l23 c23 k23
 have b23:=F23.binds (ps:=["word"]) fun _ _ _ _ _ _ us hl=>by obtain ⟨_,rfl⟩:=us_1 hl; rfl
 have n23:=mg_of X G a23
 have F24:=zA (st:=zaS) l24 c24 k24
 have b24:=F24.binds (ps:=["word"]) fun _ _ _ _ _ _ us hl=>by obtain ⟨_,rfl⟩:=us_1 hl; rfl
 have n24:=mg_of X G a24
 have F25:=zA (st:=ZU) l25 c25 k25
 have b25:=F25.binds (ps:=["tree"]) fun _ _ _ _ _ _ us hl=>by obtain ⟨_,rfl⟩:=us_1 hl; rfl
 have n25:=mg_of X G a25
 have F26:=zA (st:=zaT) l26 c26 k26
 have b26:=F26.binds (ps:=["rule"]) fun _ _ _ _ _ _ us hl=>by obtain ⟨_,rfl⟩:=us_1 hl; rfl
 have n26:=mg_of X G a26
 have F27:=zA (st:=Zs) l27 c27 k27
 have b27:=F27.binds (ps:=["tree"]) fun _ _ _ _ _ _ us hl=>by obtain ⟨_,rfl⟩:=us_1 hl; rfl
 have n27:=mg_of X G a27
 have F28:=zA (st:=Z4) l28 c28 k28
 have b28:=F28.binds (ps:=["trees"]) fun _ _ _ _ _ _ us hl=>by obtain ⟨_,rfl⟩:=us_1 hl; rfl
 have n28:=mg_of X G a28
 have F29:=zA (st:=zaU) l29 c29 k29
 have b29:=F29.binds (ps:=["trees"]) fun _ _ _ _ _ _ us hl=>by obtain ⟨_,rfl⟩:=us_1 hl; rfl
 have n29:=mg_of X G a29
 have F30:=zA (st:=Zl) l30 c30 k30
 have b30:=F30.binds (ps:=["tree"]) fun _ _ _ _ _ _ us hl=>by obtain ⟨_,rfl⟩:=us_1 hl; rfl
 have n30:=mg_of X G a30
 have F31:=zA (st:=Z5) l31 c31 k31
 have b31:=F31.binds (ps:=["tree"]) fun _ _ _ _ _ _ us hl=>by obtain ⟨_,rfl⟩:=us_1 hl; rfl
 have n31:=mg_of X G a31
 have F32:=zA (st:=zaV) l32 c32 k32
 have b32:=F32.binds (ps:=["text"]) fun _ _ _ _ _ _ us hl=>by obtain ⟨_,rfl⟩:=us_1 hl; rfl
 have n32:=mg_of X G a32
 have F33:=zA (st:=zkc) l33 c33 k33
 have b33:=F33.binds (ps:=["_law_script","_law_k"]) fun _ _ _ _ _ _ us hl=>by obtain ⟨_,_,rfl⟩:=us_2 hl; rfl
 have n33:=mg_of X G a33
 have F34:=zA (st:=sBox) l34 c34 k34
 have b34:=F34.binds (ps:=["_law_script","_law_k"]) fun _ _ _ _ _ _ us hl=>by obtain ⟨_,_,rfl⟩:=us_2 hl; rfl
 have n34:=mg_of X G a34
 have F35:=zA (st:=zkd) l35 c35 k35
 have b35:=F35.binds (ps:=["_law_box_here","_law_wide"]) fun _ _ _ _ _ _ us hl=>by obtain ⟨_,_,rfl⟩:=us_2 hl; rfl
 have n35:=mg_of X G a35
 have F36:=zA (st:=zke) l36 c36 k36
 have b36:=F36.binds (ps:=["_law_box_here","_law_most"]) fun _ _ _ _ _ _ us hl=>by obtain ⟨_,_,rfl⟩:=us_2 hl; rfl
 have n36:=mg_of X G a36
 have F37:=zA (st:=zdX) l37 c37 k37
 have b37:=F37.binds (ps:=["_law_box_here"]) fun _ _ _ _ _ _ us hl=>by obtain ⟨_,rfl⟩:=us_1 hl; rfl
 have n37:=mg_of X G a37
 have F38:=zA (st:=zgB) l38 c38 k38
 have b38:=F38.binds (ps:=["_law_box_here","_law_room","_law_deep"]) fun _ _ _ _ _ _ us hl=>by obtain ⟨_,_,_,rfl⟩:=us_3 hl; rfl
 have n38:=mg_of X G a38
 have F39:=zA (st:=zaW) l39 c39 k39
 have b39:=F39.binds (ps:=["_law_box_here"]) fun _ _ _ _ _ _ us hl=>by obtain ⟨_,rfl⟩:=us_1 hl; rfl
 have n39:=mg_of X G a39
 have F40:=zA (st:=zgC) l40 c40 k40
 have b40:=F40.binds (ps:=["_law_box_here","_law_names"]) fun _ _ _ _ _ _ us hl=>by obtain ⟨_,_,rfl⟩:=us_2 hl; rfl
 have n40:=mg_of X G a40
 have F41:=zA (st:=zdY) l41 c41 k41
 have b41:=F41.binds (ps:=["_law_box_here","_law_scope","_law_spare","_law_floors","_law_rounds"]) fun _ _ _ _ _ _ us hl=>by obtain ⟨_,_,_,_,_,rfl⟩:=us_5 hl; rfl
 have n41:=mg_of X G a41
 have F42:=zA (st:=zaX) l42 c42 k42
 have b42:=F42.binds (ps:=["_law_box_here","_law_scopes","_law_names","_law_spare","_law_floors","_law_rounds"]) fun _ _ _ _ _ _ us hl=>by obtain ⟨_,_,_,_,_,_,rfl⟩:=us_6 hl; rfl
 have n42:=mg_of X G a42
 have F43:=zA (st:=zgD) l43 c43 k43
 have b43:=F43.binds (ps:=["_law_box_here","_law_scope","_law_names","_law_spare","_law_floors","_law_rounds"]) fun _ _ _ _ _ _ us hl=>by obtain ⟨_,_,_,_,_,_,rfl⟩:=us_6 hl; rfl
 have n43:=mg_of X G a43
 have F44:=zA (st:=zcM) l44 c44 k44
 have b44:=F44.binds (ps:=["_law_words","_law_inner"]) fun _ _ _ _ _ _ us hl=>by obtain ⟨_,_,rfl⟩:=us_2 hl; rfl
 have n44:=mg_of X G a44
 have F45:=zA (st:=zb6) l45 c45 k45
 have b45:=F45.binds (ps:=[]) fun _ _ _ _ _ _ us hl=>by obtain ⟨rfl⟩:=us_0 hl; rfl
 have n45:=mg_of X G a45
 have F46:=zA (st:=ZF) l46 c46 k46
 have b46:=F46.binds (ps:=[]) fun _ _ _ _ _ _ us hl=>by obtain ⟨rfl⟩:=us_0 hl; rfl
 have n46:=mg_of X G a46
 have F47:=zA (st:=zbx) l47 c47 k47
 have b47:=F47.binds (ps:=["_law_text_here"]) fun _ _ _ _ _ _ us hl=>by obtain ⟨_,rfl⟩:=us_1 hl; rfl
 have n47:=mg_of X G a47
 have F48:=zA (st:=zah) l48 c48 k48
 have b48:=F48.binds (ps:=[]) fun _ _ _ _ _ _ us hl=>by obtain ⟨rfl⟩:=us_0 hl; rfl
 have n48:=mg_of X G a48
 have F49:=zA (st:=Zb) l49 c49 k49
 have b49:=F49.binds (ps:=["_law_text_here"]) fun _ _ _ _ _ _ us hl=>by obtain ⟨_,rfl⟩:=us_1 hl; rfl
 have n49:=mg_of X G a49
 have F50:=zA (st:=zb7) l50 c50 k50
 have b50:=F50.binds (ps:=["_law_box_here","_law_text_here"]) fun _ _ _ _ _ _ us hl=>by obtain ⟨_,_,rfl⟩:=us_2 hl; rfl
 have n50:=mg_of X G a50
 have F51:=zA (st:=sLaw) l51 c51 k51
 have m_isinstance:=mg_none_of X G z0
 have m_int:=mg_none_of X G z1
 have m_bool:=mg_none_of X G z2
 have m_ord:=mg_none_of X G z3
 have m_str:=mg_none_of X G z4
 have m_tuple:=mg_none_of X G z5
 have m_len:=mg_none_of X G z6
 have m_all:=mg_none_of X G z7
 have m_abs:=mg_none_of X G z8
 have m_list:=mg_none_of X G z9
 have m_enumerate:=mg_none_of X G z10
 have m_set:=mg_none_of X G z11
 have m_sorted:=mg_none_of X G z12
 have m_max:=mg_none_of X G z13
 have m_range:=mg_none_of X G z14
 have m_min:=mg_none_of X G z15
 have m_ValueError:=mg_none_of X G z16
 have m_PERCENT:∃ t,mg "PERCENT" = some (.int 37 t):=⟨t0,mg_of X G i0⟩
 have m_MOST_SIGNS:∃ t,mg "MOST_SIGNS" = some (.int 400 t):=⟨t1,mg_of X G i1⟩
 have m_MOST_ITEMS:∃ t,mg "MOST_ITEMS" = some (.int 60 t):=⟨t2,mg_of X G i2⟩
 have m_MOST_DEPTH:∃ t,mg "MOST_DEPTH" = some (.int 12 t):=⟨t3,mg_of X G i3⟩
 have m_MOST_SIZE:∃ t,mg "MOST_SIZE" = some (.int 1000 t):=⟨t4,mg_of X G i4⟩
 have m_MOST_LETTERS:∃ t,mg "MOST_LETTERS" = some (.int 8 t):=⟨t5,mg_of X G i5⟩
 have m_MOST_LISTED:∃ t,mg "MOST_LISTED" = some (.int 8 t):=⟨t6,mg_of X G i6⟩
 have m_MOST_MANY:∃ t,mg "MOST_MANY" = some (.int 60 t):=⟨t7,mg_of X G i7⟩
 have m_MOST_NESTING:∃ t,mg "MOST_NESTING" = some (.int 12 t):=⟨t8,mg_of X G i8⟩
 have m_MOST_REPEATED:∃ t,mg "MOST_REPEATED" = some (.int 2 t):=⟨t9,mg_of X G i9⟩
 have m_MOST_BRACKETS:∃ t,mg "MOST_BRACKETS" = some (.int 100 t):=⟨t10,mg_of X G i10⟩
 have m_MOST_FIGURES:∃ t,mg "MOST_FIGURES" = some (.int 60 t):=⟨t11,mg_of X G i11⟩
 have m_LETTERS:∃ t,mg "LETTERS" = some (.str abcL t):=⟨v0,mg_of X G s0⟩
 have m_WORD_ENDS:∃ t,mg "WORD_ENDS" = some (.str zkB t):=⟨v1,mg_of X G s1⟩
 have m_BETWEEN:∃ t,mg "BETWEEN" = some (.str zkC t):=⟨v2,mg_of X G s2⟩
 have m_FIGURES:∃ t,mg "FIGURES" = some (.str zkD t):=⟨v3,mg_of X G s3⟩
 have m_REPEATING:=mg_of X G y0
 have t_REPEATING:∀ H:Hp,SqT K H g0 [.str "each",.str "over"]:=fun H=>.inr ⟨_,_,_,x0,rfl,rfl,zl2,(.cons ⟨_,rfl⟩ (.cons ⟨_,rfl⟩ .nil))⟩
 have m_BINDING:=mg_of X G dy0
 have d_BINDING:MD l.prog w K dg0 (kvsB ):=zm1 [("let",du0_0,.int 1,.int 1 dv0_0),("each",du0_1,.int 1,.int 1 dv0_1),("over",du0_2,.int 2,.int 2 dv0_2)] dx0 dz0 (fun p hp=>by simp only [List.mem_cons,List.not_mem_nil,or_false] at hp; rcases hp with rfl | rfl | rfl <;> first | exact rfl | exact ⟨_,rfl⟩) (by show (["let","each","over"]:List Str).Nodup; decide +kernel)
 have m_PARTS:=mg_of X G dy1
 have d_PARTS:MD l.prog w K dg1 (kvsP ):=zm1 [("let",du1_0,.int 2,.int 2 dv1_0),("if",du1_1,.int 3,.int 3 dv1_1),("+",du1_2,.int 2,.int 2 dv1_2),("-",du1_3,.int 2,.int 2 dv1_3),("*",du1_4,.int 2,.int 2 dv1_4),("/",du1_5,.int 2,.int 2 dv1_5),("same",du1_6,.int 2,.int 2 dv1_6),("less",du1_7,.int 2,.int 2 dv1_7),("join",du1_8,.int 2,.int 2 dv1_8),("item",du1_9,.int 2,.int 2 dv1_9),("count",du1_10,.int 1,.int 1 dv1_10),("figures",du1_11,.int 1,.int 1 dv1_11),("each",du1_12,.int 2,.int 2 dv1_12),("over",du1_13,.int 3,.int 3 dv1_13),("look",du1_14,.int 1,.int 1 dv1_14),("else",du1_15,.int 2,.int 2 dv1_15),("cry",du1_16,.int 1,.int 1 dv1_16)] dx1 dz1 (fun p hp=>by simp only [List.mem_cons,List.not_mem_nil,or_false] at hp; rcases hp with rfl | rfl | rfl | rfl | rfl | rfl | rfl | rfl | rfl | rfl | rfl | rfl | rfl | rfl | rfl | rfl | rfl <;> first | exact rfl | exact ⟨_,rfl⟩) (by show (["let","if","+","-","*","/","same","less","join","item","count","figures","each","over","look","else","cry"]:List Str).Nodup; decide +kernel)
 refine ⟨fnOf "law" "law" (zcl sLaw) (zaM sLaw) (zl sLaw) .none kV51 dc51 pm51 an51 cd51 ct51,fun s v=>.of_eq rfl,fun base _ _=>?_⟩
 have h_is_number:Have l.prog w K mg base "is_number" 1 ["thing"] (zfU):=⟨_,_,(zkj F0 m_isinstance m_int m_bool:FnOk l.prog w K mg base CX0 (0 + 1) _ _ _ _),b0,k0,n0⟩
 have h_is_sign:Have l.prog w K mg base "is_sign" 1 ["sign"] (zd1):=⟨_,_,(ziL F1 m_ord m_PERCENT:FnOk l.prog w K mg base CX0 (0 + 1) _ _ _ _),b1,k1,n1⟩
 have h_fits_alone:Have l.prog w K mg base "fits_alone" 2 ["thing","levels"] (ziJ):=⟨_,_,(zlG F2 (h_is_number.mono (by omega)) (h_is_sign.mono (by omega)) m_isinstance m_str m_tuple m_len m_all m_abs m_MOST_SIGNS m_MOST_ITEMS:FnOk l.prog w K mg base CX0 (1 + 1) _ _ _ _),b2,k2,n2⟩
 have h_size_alone:Have l.prog w K mg base "size_alone" 1 ["worth"] (zfV):=⟨_,_,(zkl F3 m_isinstance m_str m_len:FnOk l.prog w K mg base CX0 (0 + 1) _ _ _ _),b3,k3,n3⟩
 have h_is_worth:Have l.prog w K mg base "is_worth" 3 ["thing"] (zc4):=⟨_,_,(zhC F4 (h_fits_alone.mono (by omega)) (h_size_alone.mono (by omega)) m_isinstance m_tuple m_len m_MOST_DEPTH m_MOST_SIZE:FnOk l.prog w K mg base CX0 (2 + 1) _ _ _ _),b4,k4,n4⟩
 have h_is_variable:Have l.prog w K mg base "is_variable" 1 ["thing"] (zcp):=⟨_,_,(zdE F5 m_all m_isinstance m_len m_str m_MOST_LETTERS m_LETTERS:FnOk l.prog w K mg base CX0 (0 + 1) _ _ _ _),b5,k5,n5⟩
 have h_has_parts:Have l.prog w K mg base "has_parts" 1 ["word"] (zbF):=⟨_,_,(zfn F6 m_PARTS d_PARTS:FnOk l.prog w K mg base CX0 (0 + 1) _ _ _ _),b6,k6,n6⟩
 have h_binding_count:Have l.prog w K mg base "binding_count" 1 ["word"] (zbG):=⟨_,_,(zcC F7 m_BINDING d_BINDING:FnOk l.prog w K mg base CX0 (0 + 1) _ _ _ _),b7,k7,n7⟩
 have h_variables_of:Have l.prog w K mg base "variables_of" 2 ["expression"] (zch):=⟨_,_,(zde F8 (h_binding_count.mono (by omega)):FnOk l.prog w K mg base CX0 (1 + 1) _ _ _ _),b8,k8,n8⟩
 have h_parts_of:Have l.prog w K mg base "parts_of" 2 ["expression"] (zac):=⟨_,_,(zf4 F9 (h_binding_count.mono (by omega)) (h_has_parts.mono (by omega)) m_list:FnOk l.prog w K mg base CX0 (1 + 1) _ _ _ _),b9,k9,n9⟩
 have h_are_good_variables:Have l.prog w K mg base "are_good_variables" 2 ["names"] (zf7):=⟨_,_,(zbj F10 (h_is_variable.mono (by omega)) m_all m_len:FnOk l.prog w K mg base CX0 (1 + 1) _ _ _ _),b10,k10,n10⟩
 have h_has_form:Have l.prog w K mg base "has_form" 4 ["thing"] (zdi):=⟨_,_,(zf8 F11 (h_are_good_variables.mono (by omega)) (h_variables_of.mono (by omega)) (h_binding_count.mono (by omega)) (h_is_variable.mono (by omega)) (h_is_worth.mono (by omega)) m_isinstance m_len m_str m_tuple m_MOST_LISTED m_PARTS d_PARTS:FnOk l.prog w K mg base CX0 (3 + 1) _ _ _ _),b11,k11,n11⟩
 have h_is_formed:Have l.prog w K mg base "is_formed" 5 ["thing"] (zem):=⟨_,_,(zfq F12 (h_parts_of.mono (by omega)) (h_has_form.mono (by omega)) m_len m_MOST_MANY m_MOST_NESTING:FnOk l.prog w K mg base CX0 (4 + 1) _ _ _ _),b12,k12,n12⟩
 have h_unbound:∀ n:Nat,Have l.prog w K mg base "unbound" (n + 3) ["expression","bound"] (zkJ n):=fun n=>by
  induction n with
  | zero=>exact ⟨_,_,zbo (fun vs H Q E h=>by obtain ⟨_,_,_,_,_,_,_,_,h0,_⟩:=h; omega) _,b13,k13,n13⟩
  | succ n ih=>exact ⟨_,_,zhR F13 ih (h_variables_of.mono (by omega)) (h_parts_of.mono (by omega)) m_enumerate m_len,b13,k13,n13⟩
 have h_free_in:Have l.prog w K mg base "free_in" 24 ["expression"] (zjf):=⟨_,_,(zhT F14 ((h_unbound 20).mono (by omega)) m_set m_sorted:FnOk l.prog w K mg base CX0 (23 + 1) _ _ _ _),b14,k14,n14⟩
 have h_repeated:∀ n:Nat,Have l.prog w K mg base "repeated" (n + 3) ["expression"] (zkK n):=fun n=>by
  induction n with
  | zero=>exact ⟨_,_,zbo (fun vs H Q E h=>by obtain ⟨_,_,_,_,_,h0,_⟩:=h; omega) _,b15,k15,n15⟩
  | succ n ih=>exact ⟨_,_,zf9 F15 ih (h_parts_of.mono (by omega)) m_enumerate m_len m_max m_REPEATING t_REPEATING,b15,k15,n15⟩
 have h_is_rule:Have l.prog w K mg base "is_rule" 25 ["thing"] (zeo):=⟨_,_,(zhX F16 ((h_repeated 20).mono (by omega)) (h_free_in.mono (by omega)) (h_is_formed.mono (by omega)) m_MOST_REPEATED:FnOk l.prog w K mg base CX0 (24 + 1) _ _ _ _),b16,k16,n16⟩
 have h_word_end:Have l.prog w K mg base "word_end" 1 ["text","start"] (zdl):=⟨_,_,(zga F17 m_len m_WORD_ENDS:FnOk l.prog w K mg base CX0 (0 + 1) _ _ _ _),b17,k17,n17⟩
 have h_text_end:Zy l.prog w K mg base "text_end" 1 ["text","start"] (zdm zN):=⟨_,_,(zgb F18 eX_NoText (mg_of X G aX_NoText):FnOk l.prog w K mg base (CX1 l.prog w) (0 + 1) _ _ _ _),b18,k18,n18⟩
 have h_pieces_of:Zy l.prog w K mg base "pieces_of" 2 ["text"] (zep zN):=⟨_,_,(zfr F19 (h_text_end.mono (by omega)) (h_word_end.mono (by omega)) m_len m_BETWEEN:FnOk l.prog w K mg base (CX1 l.prog w) (1 + 1) _ _ _ _),b19,k19,n19⟩
 have h_trees_of:Zy l.prog w K mg base "trees_of" 3 ["text"] (zgc zN):=⟨_,_,(zgd F20 (h_pieces_of.mono (by omega)) m_len m_tuple m_MOST_BRACKETS eX_NoText (mg_of X G aX_NoText):FnOk l.prog w K mg base (CX1 l.prog w) (2 + 1) _ _ _ _),b20,k20,n20⟩
 have h_only_tree:Zy l.prog w K mg base "only_tree" 4 ["text"] (zjn zN):=⟨_,_,(zfs F21 (h_trees_of.mono (by omega)) m_len eX_NoText (mg_of X G aX_NoText):FnOk l.prog w K mg base (CX1 l.prog w) (3 + 1) _ _ _ _),b21,k21,n21⟩
 have h_show_worth:∀ n:Nat,Have l.prog w K mg base "show_worth" (n + 1) ["worth"] (zg6 n):=fun n=>by
  induction n with
  | zero=>exact ⟨_,_,zbo (fun vs H Q E h=>by obtain ⟨v,w,_,_,_,_,h0,_⟩:=h; omega) _,b22,k22,n22⟩
  | succ n ih=>exact ⟨_,_,zex F22 ih m_isinstance m_str m_tuple,b22,k22,n22⟩
 have h_writes_number:Have l.prog w K mg base "writes_number" 1 ["word"] (zbS):=⟨_,_,(zcE F23 m_all m_len m_MOST_FIGURES m_FIGURES:FnOk l.prog w K mg base CX0 (0 + 1) _ _ _ _),b23,k23,n23⟩
 have h_number_of:Zy l.prog w K mg base "number_of" 2 ["word"] (zey zN):=⟨_,_,(zfw F24 (h_writes_number.mono (by omega)) m_int eX_NoText (mg_of X G aX_NoText):FnOk l.prog w K mg base (CX1 l.prog w) (1 + 1) _ _ _ _),b24,k24,n24⟩
 have h_worth_of_tree:∀ n:Nat,Zy l.prog w K mg base "worth_of_tree" (n + 3) ["tree"] (zez zN n):=fun n=>by
  induction n with
  | zero=>exact ⟨_,_,zbo (fun vs H Q E h=>by obtain ⟨v,w,_,_,_,h0,_⟩:=h; omega) _,b25,k25,n25⟩
  | succ n ih=>exact ⟨_,_,zcG F25 (h_number_of.mono (by omega)) ih m_tuple,b25,k25,n25⟩
 have h_show_rule:∀ n:Nat,Have l.prog w K mg base "show_rule" (n + 16) ["rule"] (zeD n):=fun n=>by
  induction n with
  | zero=>exact ⟨_,_,zbo (fun vs H Q E h=>by obtain ⟨v,w,_,_,_,_,h0,_⟩:=h; omega) _,b26,k26,n26⟩
  | succ n ih=>exact ⟨_,_,zfx F26 (h_variables_of.mono (by omega)) (h_parts_of.mono (by omega)) ih ((h_show_worth 14).mono (by omega)) m_isinstance m_list m_tuple,b26,k26,n26⟩
 have h_variable_of_tree:Zy l.prog w K mg base "variable_of_tree" 2 ["tree"] (zdp zN):=⟨_,_,(zbW F27 (h_is_variable.mono (by omega)) eX_NoText (mg_of X G aX_NoText):FnOk l.prog w K mg base (CX1 l.prog w) (1 + 1) _ _ _ _),b27,k27,n27⟩
 have h_lit_of_trees:∀ n:Nat,Zy l.prog w K mg base "lit_of_trees" (n + 4) ["trees"] (zbK zN n):=fun n=>⟨_,_,(zdr F28 ((h_worth_of_tree n).mono (by omega)) m_len eX_NoText (mg_of X G aX_NoText):FnOk l.prog w K mg base (CX1 l.prog w) (n + 3 + 1) _ _ _ (zbK zN n)),b28,k28,n28⟩
 have h_expression_of_tree:∀ n:Nat,Zy l.prog w K mg base "expression_of_tree" (2 * n + 5) ["tree"] ((zdT zN n:Sp)):=fun n=>by
  induction n with
  | zero=>exact ⟨_,_,zbo (fun vs H Q E h=>by obtain ⟨_,_,_,_,_,h0,_⟩:=h; omega) _,b30,k30,n30⟩
  | succ n ih=>
   have h_bracketed:Zy l.prog w K mg base "bracketed" (2 * n + 5 + 0 + 1) ["trees"] (zkR zN n):=⟨_,_,(zfB F29 (ih.mono (by omega)) (h_variable_of_tree.mono (by omega)) (h_binding_count.mono (by omega)) (h_has_parts.mono (by omega)) ((h_lit_of_trees n).mono (by omega)) m_len m_tuple eX_NoText (mg_of X G aX_NoText):FnOk l.prog w K mg base (CX1 l.prog w) (2 * n + 5 + 0 + 1) _ _ _ (zkR zN n)),b29,k29,n29⟩
   have hm:Zy l.prog w K mg base "expression_of_tree" (2 * n + 5 + 1 + 1) ["tree"] ((zdT zN (n + 1):Sp)):=⟨_,_,(zbl F30 (h_number_of.mono (by omega)) (h_is_variable.mono (by omega)) (h_bracketed.mono (by omega)):FnOk l.prog w K mg base (CX1 l.prog w) (2 * n + 5 + 1 + 1) _ _ _ ((zdT zN (n + 1):Sp))),b30,k30,n30⟩
   exact hm.mono (by omega)
 have h_rule_of_tree:Zy l.prog w K mg base "rule_of_tree" 208 ["tree"] (zcq zN):=⟨_,_,(zds F31 (h_is_rule.mono (by omega)) ((h_expression_of_tree 101).mono (by omega)) eX_NoText (mg_of X G aX_NoText):FnOk l.prog w K mg base (CX1 l.prog w) (207 + 1) _ _ _ _),b31,k31,n31⟩
 have h_read_rule:Zy l.prog w K mg base "read_rule" 209 ["text"] (zeF zN):=⟨_,_,(zfD F32 (h_rule_of_tree.mono (by omega)) (h_only_tree.mono (by omega)):FnOk l.prog w K mg base (CX1 l.prog w) (208 + 1) _ _ _ _),b32,k32,n32⟩
 have h_lcell:Have l.prog w K mg base "_law_cell" 1 ["_law_script","_law_k"] (ziF K):=⟨_,_,(zlB F33 m_len:FnOk l.prog w K mg base CX0 (0 + 1) _ _ _ _),b33,k33,n33⟩
 have h_lbox:Have l.prog w K mg base "_law_box" 2 ["_law_script","_law_k"] (zlA K):=⟨_,_,(zmU F34 (h_lcell.mono (by omega)):FnOk l.prog w K mg base CX0 (1 + 1) _ _ _ _),b34,k34,n34⟩
 have h_ltake:Have l.prog w K mg base "_law_take" 1 ["_law_box_here","_law_wide"] (za5):=⟨_,_,(zlC F35:FnOk l.prog w K mg base CX0 (0 + 1) _ _ _ _),b35,k35,n35⟩
 have h_ltext:Have l.prog w K mg base "_law_text" 2 ["_law_box_here","_law_most"] (ziG):=⟨_,_,(zlE F36 (h_ltake.mono (by omega)) m_len m_range:FnOk l.prog w K mg base CX0 (1 + 1) _ _ _ _),b36,k36,n36⟩
 have h_lnumber:Have l.prog w K mg base "_law_number" 2 ["_law_box_here"] (zcN):=⟨_,_,(ziI F37 (h_ltake.mono (by omega)):FnOk l.prog w K mg base CX0 (1 + 1) _ _ _ _),b37,k37,n37⟩
 have h_lworth:∀ n:Nat,Have l.prog w K mg base "_law_worth" (n + 3) ["_law_box_here","_law_room","_law_deep"] (zd0 n):=fun n=>by
  induction n with
  | zero=>exact ⟨_,_,zbo (fun vs H Q E h=>by obtain ⟨b,room,deep,_,_,_,_,h0,h1,_⟩:=h; omega) _,b38,k38,n38⟩
  | succ n ih=>exact ⟨_,_,zkh F38 (h_ltake.mono (by omega)) (h_ltext.mono (by omega)) (h_lnumber.mono (by omega)) ih m_min m_range m_tuple,b38,k38,n38⟩
 have h_lvariable:Have l.prog w K mg base "_law_variable" 2 ["_law_box_here"] (zlT):=⟨_,_,(zfg F39 (h_ltake.mono (by omega)) m_range:FnOk l.prog w K mg base CX0 (1 + 1) _ _ _ _),b39,k39,n39⟩
 have h_llit:Have l.prog w K mg base "_law_lit" 17 ["_law_box_here","_law_names"] (zlU):=⟨_,_,(zlW F40 ((h_lworth 13).mono (by omega)) (h_ltake.mono (by omega)) m_len:FnOk l.prog w K mg base CX0 (16 + 1) _ _ _ _),b40,k40,n40⟩
 have h_lword:Have l.prog w K mg base "_law_word" 2 ["_law_box_here","_law_scope","_law_spare","_law_floors","_law_rounds"] (zi9):=⟨_,_,(zkF F41 (h_ltake.mono (by omega)) m_int:FnOk l.prog w K mg base CX0 (1 + 1) _ _ _ _),b41,k41,n41⟩
 have h_pair:∀ n:Nat,Have l.prog w K mg base "_law_any" (lvP 18 n) ["_law_box_here","_law_scope","_law_names","_law_spare","_law_floors","_law_rounds"] (zhQ n)/\Have l.prog w K mg base "_law_parts_by" (lvP 18 n + 1) ["_law_box_here","_law_scopes","_law_names","_law_spare","_law_floors","_law_rounds"] (zdc n):=fun n=>by
  induction n with
  | zero=>
   have A0:Have l.prog w K mg base "_law_any" (lvP 18 0) ["_law_box_here","_law_scope","_law_names","_law_spare","_law_floors","_law_rounds"] (zhQ 0):=⟨_,_,zbo (fun vs H Q E h=>by obtain ⟨_,_,_,_,_,_,_,_,_,_,_,_,_,_,_,_,_,h0,h1,_⟩:=h; omega) _,b43,k43,n43⟩
   exact ⟨A0,_,_,zcw F42 A0 m_enumerate m_len m_tuple,b42,k42,n42⟩
  | succ n ih=>
   have A1:Have l.prog w K mg base "_law_any" (lvP 18 (n + 1)) ["_law_box_here","_law_scope","_law_names","_law_spare","_law_floors","_law_rounds"] (zhQ (n + 1)):=⟨_,_,zlZ F43 ih.2 (h_lvariable.mono (Nat.le_trans (by decide) (Nat.le_succ_of_le (zfL 18 n)))) (h_ltake.mono (Nat.le_trans (by decide) (Nat.le_succ_of_le (zfL 18 n)))) (h_llit.mono (Nat.le_trans (by decide) (Nat.le_succ_of_le (zfL 18 n)))) (h_lword.mono (Nat.le_trans (by decide) (Nat.le_succ_of_le (zfL 18 n)))) m_int m_len m_list m_min,b43,k43,n43⟩
   exact ⟨A1,_,_,zcw F42 A1 m_enumerate m_len m_tuple,b42,k42,n42⟩
 have h_lchain:Have l.prog w K mg base "_law_chain" 1 ["_law_words","_law_inner"] (zcr):=⟨_,_,(zjM F44 m_len:FnOk l.prog w K mg base CX0 (0 + 1) _ _ _ _),b44,k44,n44⟩
 have h_lbeyond:Have l.prog w K mg base "_law_beyond" 2 [] (zeG):=⟨_,_,(zh3 F45 (h_lchain.mono (by omega)) m_range:FnOk l.prog w K mg base CX0 (1 + 1) _ _ _ _),b45,k45,n45⟩
 have h_lat_the_bounds:Have l.prog w K mg base "_law_at_the_bounds" 2 [] (zeH):=⟨_,_,(zcs F46 (h_lchain.mono (by omega)):FnOk l.prog w K mg base CX0 (1 + 1) _ _ _ _),b46,k46,n46⟩
 have h_lrefused:Have l.prog w K mg base "_law_refused" 210 ["_law_text_here"] (zdt):=⟨_,_,(zgi F47 (h_read_rule.mono (by omega)) m_ValueError m_isinstance (mg_of X G aX_ForgeError) (mg_of X G aX_NoName) (mg_of X G aX_NoRow) (mg_of X G aX_NoRule) (mg_of X G aX_NoStep) (mg_of X G aX_NoThing) (mg_of X G aX_NoWorth) (mg_of X G aX_NoText) ⟨ix1,ix2,ix3,ix4,ix5,ix6,ix7⟩ xm kT_NoText kT_ValueError kT_NoName kT_NoRow kT_NoRule kT_NoStep kT_NoThing kT_NoWorth:FnOk l.prog w K mg base CX0 (209 + 1) _ _ _ _),b47,k47,n47⟩
 have h_lbare_texts:Have l.prog w K mg base "_law_bare_texts" 3 [] (zjK):=⟨_,_,(zdG F48 (h_lbeyond.mono (by omega)):FnOk l.prog w K mg base CX0 (2 + 1) _ _ _ _),b48,k48,n48⟩
 have h_lsigns_out_of_quotes:Have l.prog w K mg base "_law_signs_out_of_quotes" 1 ["_law_text_here"] (zmo):=⟨_,_,(za4 F49 m_enumerate:FnOk l.prog w K mg base CX0 (0 + 1) _ _ _ _),b49,k49,n49⟩
 have h_lspoilt:Have l.prog w K mg base "_law_spoilt" 2 ["_law_box_here","_law_text_here"] (zeJ):=⟨_,_,(zh5 F50 (h_ltake.mono (by omega)) (h_lsigns_out_of_quotes.mono (by omega)) m_len:FnOk l.prog w K mg base CX0 (1 + 1) _ _ _ _),b50,k50,n50⟩
 exact (zns F51 (h_read_rule.mono (by omega)) (h_lat_the_bounds.mono (by omega)) (h_lbare_texts.mono (by omega)) (h_lrefused.mono (by omega)) (h_lspoilt.mono (by omega)) ((h_show_rule 14).mono (by omega)) ((h_pair 13).1.mono (by decide)) (h_ltake.mono (by omega)) (h_lbox.mono (by omega)) m_len m_range:FnOk l.prog w K mg base CX0 (229 + 1) _ _ _ _)
theorem zkZ {l:PySem.W.OpenLaw}{q:Program}{loose:List Str}{XP:(Str->Option Value)->Heap->Prop}{YP:World->Heap->Prop}{d:DefRec}{K:Params->PySem.W.Frag} (hn:l.most = some 63) (hdf:d.params.defaults = [])
  (hY:∀ (w:World) (h:Heap),YP w h->(K w.params).In h)
  (F:∀ (w:World) (mg:Str->Option Value) (fa:Addr) (h:Heap),(K w.params).In h->h.Ns mainGlobals mg->mg d.name = some (.ref fa)->
   ∃ fd:FuncData,(∀ (s:Shared) (u:Value),BindsTo s fd ⟨[u],[]⟩ [("_law_script",u)])/\∀ base:Heap,(K w.params).In base->base.Ns mainGlobals mg->FnOk l.prog w (K w.params) mg base CX0 230 fa fd ["_law_script"] (zkY (K w.params))):
  PySem.W.WalkO q loose XP YP l.row.toRowW d [] (fun f vs=>PySem.call f vs):=
 L2.zlz (n:=63) (k:=230) (x:="_law_script") (CX:=fun _=>CX0) (sp:=fun w=>zkY (K w.params)) hn (by decide) hdf ⟨rfl,by decide,by decide⟩ hY F (fun _ _ a ns hl _ hS=>⟨a,ns,rfl,hS,hl,fun _=>rfl⟩) fun _ _ _ _ _ z=>z
end D
open PySem PySem.W PyProof.Rows
set_option maxRecDepth 100000 in
set_option maxHeartbeats 0 in
theorem PySem.Challenge.cw_leastforge_k09_texts_that_write_no_rule_holds : PySem.Challenge.rw_leastforge_k09_texts_that_write_no_rule.Holds := by
 w_on; o_law; k_head; (case hw=>w_witness2)
 k_fill
 refine D.zkZ (l:=PySem.Challenge.rw_leastforge_k09_texts_that_write_no_rule) rfl rfl (fun w h Y=>PySem.W.kIn_of Y) ?F
 case F=>
  intro w mg fa h KX G hmg
  refine' D.znt KX G hmg ?_ ?_ ?_ ?_ ?_ ?_ ?_ ?_ ?_ ?_ ?_ ?_ ?_ ?_ ?_ ?_ ?_ ?_ ?_ ?_ ?_ ?_ ?_ ?_ ?_ ?_ ?_ ?_ ?_ ?_ ?_ ?_ ?_ ?_ ?_ ?_ ?_ ?_ ?_ ?_ ?_ ?_ ?_ ?_ ?_ ?_ ?_ ?_ ?_ ?_ ?_ ?_ ?_ ?_ ?_ ?_ ?_ ?_ ?_ ?_ ?_ ?_ ?_ ?_ ?_ ?_ ?_ ?_ ?_ ?_ ?_ ?_ ?_ ?_ ?_ ?_ ?_ ?_ ?_ ?_ ?_ ?_ ?_ ?_ ?_ ?_ ?_ ?_ ?_ ?_ ?_ ?_ ?_ ?_ ?_ ?_ ?_ ?_ ?_ ?_ ?_ ?_ ?_ ?_ ?_ ?_ ?_ ?_ ?_ ?_ ?_ ?_ ?_ ?_ ?_ ?_ ?_ ?_ ?_ ?_ ?_ ?_ ?_ ?_ ?_ ?_ ?_ ?_ ?_ ?_ ?_ ?_ ?_ ?_ ?_ ?_ ?_ ?_ ?_ ?_ ?_ ?_ ?_ ?_ ?_ ?_ ?_ ?_ ?_ ?_ ?_ ?_ ?_ ?_ ?_ ?_ ?_ ?_ ?_ ?_ ?_ ?_ ?_ ?_ ?_ ?_ ?_ ?_ ?_ ?_ ?_ ?_ ?_ ?_ ?_ ?_ ?_ ?_ ?_ ?_ ?_ ?_ ?_ ?_ ?_ ?_ ?_ ?_ ?_ ?_ ?_ ?_ ?_ ?_ ?_ ?_ ?_ ?_ ?_ ?_ ?_ ?_ ?_ ?_ ?_ ?_ ?_ ?_ ?_ ?_ ?_ ?_ ?_ ?_ ?_ ?_ ?_ ?_ ?_ ?_ ?_ ?_ ?_ ?_ ?_ ?_ ?_ ?_ ?_ ?_ ?_ ?_ ?_ ?_ ?_ ?_ ?_ ?_ ?_ ?_ ?_ ?_ ?_ ?_ ?_ ?_ ?_ ?_ ?_ ?_ ?_ ?_ ?_ ?_ ?_ ?_ ?_ ?_ ?_ ?_ ?_ ?_ ?_ ?_ ?_ ?_ ?_ ?_ ?_ ?_ ?_ ?_ ?_ ?_
  all_goals try ((try unfold D.nI); (try unfold D.lI); (try unfold D.cI); (try unfold D.kI); first | k_is | k_exc | rfl)
