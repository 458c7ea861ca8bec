import PyProof.Rows.All
import Wide.All
import OpenK.AllK
import Wide.FinOn
import Lean
import PyProof.EqAt
import PyProof.EqKinds
import PyProof.TupleCall
import PyProof.EnumMake
import PyProof.WalksEnum
import PyProof.NeKinds
import KE.KTryMore
import PyProof.StationsW
import PyProof.NsDelKeeps
import PyProof.RulesAs
import PyProof.StrOps
import PyProof.StrCalls6
import PyProof.StrLawsReplace
import PySem.Challenge.RW_leastforge_k24_hands_refused
open PySem.W (instObj methodObj lookIn InstAt plainGet hasDictIn findIn plainGet_of isFn plainOver takerIn makesIn emptyDict looks_findIn keepIn specialIn takesIn mroIn kitOne kia_one callWith_K fnOf codeIn excIn clsIn exmOne nsIn mg_of mg_none_of)
set_option Elab.async false
set_option linter.all false
set_option maxRecDepth 100000
set_option maxHeartbeats 4000000
theorem L2.zl0:0<=PySem.sizeLine:=by decide
theorem L2.zl1:1<=PySem.sizeLine:=by decide
theorem L2.zl2:2<=PySem.sizeLine:=by decide
theorem L2.zl3:3<=PySem.sizeLine:=by decide
theorem L2.zl4:4<=PySem.sizeLine:=by decide
theorem L2.zl6:6<=PySem.sizeLine:=by decide
theorem L2.zl7:7<=PySem.sizeLine:=by decide
namespace L2
open PySem PySem.Spec PyProof.Rows
abbrev Key:=Sum Int Str
def zgx:Key->Value->Bool
 | .inl k,v=>Value.isInt k v
 | .inr x,v=>Value.isStrOf x v
def keyH (w:World):Key->Int
 | .inl k=>hashInt k
 | .inr x=>hashStr w x
theorem Zf:∀ {k:Key}{v:Value},zgx k v = true->(∃ i t,k = Sum.inl i/\v = Value.int i t)\/(∃ x t,k = Sum.inr x/\v = Value.str x t)
 | .inl i,v,h=>by
  obtain ⟨t,e⟩:=Value.isInt_shape (k:=i) (v:=v) h
  exact .inl ⟨i,t,rfl,e⟩
 | .inr x,v,h=>by
  obtain ⟨t,e⟩:=Value.isStrOf_shape (x:=x) (v:=v) h
  exact .inr ⟨x,t,rfl,e⟩
theorem zg9 (i:Int) (t:Tok):zgx (.inl i) (.int i t) = true:=by simp [zgx,Value.isInt]
theorem zha (x:Str) (t:Tok):zgx (.inr x) (.str x t) = true:=by simp [zgx,Value.isStrOf]
theorem zlt (a b:Int):decide ((Sum.inl a:Key) = Sum.inl b) = (a == b):=by
 by_cases e:a = b
 ·subst e; simp
 ·have h:¬ (Sum.inl a:Key) = Sum.inl b:=fun q=>e (Sum.inl.inj q)
  rw [decide_eq_false h]
  exact (beq_eq_false_iff_ne.mpr e).symm
theorem zlu (a b:Str):decide ((Sum.inr a:Key) = Sum.inr b) = decide (a = b):=by
 by_cases e:a = b
 ·subst e; simp
 ·have h:¬ (Sum.inr a:Key) = Sum.inr b:=fun q=>e (Sum.inr.inj q)
  rw [decide_eq_false h,decide_eq_false e]
theorem zlv (a:Int) (b:Str):decide ((Sum.inl a:Key) = Sum.inr b) = false:=decide_eq_false (fun q=>nomatch q)
theorem zlw (a:Str) (b:Int):decide ((Sum.inr a:Key) = Sum.inl b) = false:=decide_eq_false (fun q=>nomatch q)
def zF (prog:Program) (w:World):PySem.KeyKind prog w Key where
 is:=zgx
 hash:=keyH w
 inj:=fun v a b ha hb=>by
  rcases Zf ha with ⟨i,t,rfl,rfl⟩ | ⟨x,t,rfl,rfl⟩
  ·rcases Zf hb with ⟨j,u,rfl,e⟩ | ⟨y,u,rfl,e⟩
   ·injection e with e1 _; rw [e1]
   ·exact nomatch e
  ·rcases Zf hb with ⟨j,u,rfl,e⟩ | ⟨y,u,rfl,e⟩
   ·exact nomatch e
   ·injection e with e1 _; rw [e1]
 byValue:=fun k v h=>by
  rcases Zf h with ⟨i,t,rfl,rfl⟩ | ⟨x,t,rfl,rfl⟩ <;> rfl
 pyHash:=fun hv h=>by
  rcases Zf hv with ⟨i,t,rfl,rfl⟩ | ⟨x,t,rfl,rfl⟩
  ·exact wpAny_pyHash_int h
  ·exact wpAny_pyHash_str h
 eqBool:=fun hu hv h=>by
  rcases Zf hu with ⟨i,t,rfl,rfl⟩ | ⟨x,t,rfl,rfl⟩
  ·rcases Zf hv with ⟨j,u,rfl,rfl⟩ | ⟨y,u,rfl,rfl⟩
   ·rw [zlt] at h; exact wpAny_eqBool_int h
   ·rw [zlv] at h; exact SeqAt.EqAt.int_str i t y u _ _ _ _ h
  ·rcases Zf hv with ⟨j,u,rfl,rfl⟩ | ⟨y,u,rfl,rfl⟩
   ·rw [zlw] at h; exact SeqAt.EqAt.str_int x t j u _ _ _ _ h
   ·rw [zlu] at h; exact wpAny_eqBool_str h
 «strs»:=fun k x t v h=>by
  rcases Zf h with ⟨i,u,rfl,e⟩ | ⟨y,u,rfl,e⟩
  ·exact nomatch e
  ·injection e with e1 _
   subst e1
   cases v <;> rfl
theorem ze9 (prog:Program) (w:World) (i:Int) (t:Tok):(zF prog w).is (.inl i) (.int i t) = true:=zg9 i t
theorem Zz (prog:Program) (w:World) (x:Str) (t:Tok):(zF prog w).is (.inr x) (.str x t) = true:=zha x t
inductive V where
 | non | bl (b:Bool) | int (i:Int) | str (x:Str) | byt (b:Array UInt8) | flt (b:UInt64) | ref (a:Addr) | ty (n:String)
 deriving DecidableEq
def RelV:V->Value->Prop
 | .non,u=>u = Value.none
 | .bl b,u=>u = Value.bool b
 | .int i,u=>∃ t,u = Value.int i t
 | .str x,u=>∃ t,u = Value.str x t
 | .byt b,u=>∃ t,u = Value.bytes b t
 | .flt b,u=>∃ t,u = Value.float b t
 | .ref a,u=>u = Value.ref a
 | .ty n,u=>u = Value.type n
abbrev Vals:List V->List Value->Prop:=Paired RelV
theorem Vals.length {xs:List V}{us:List Value} (r:Vals xs us):xs.length = us.length:=Paired.length r
theorem Vals.get:∀ {xs:List V}{us:List Value}{i:Nat}{x:V},Vals xs us->xs[i]? = some x->∃ u,us[i]? = some u/\RelV x u
 | _,_,_,_,.nil,e=>by simp at e
 | _,_,0,_,.cons r _,e=>by simp at e; subst e; exact ⟨_,rfl,r⟩
 | _,_,i + 1,x,.cons _ t,e=>by
  obtain ⟨u,h1,h2⟩:=Vals.get (i:=i) (x:=x) t (by simpa using e)
  exact ⟨u,by simpa using h1,h2⟩
theorem Vals.set {x:V}{u:Value} (r:RelV x u):∀ {xs:List V}{us:List Value} (i:Nat),Vals xs us->Vals (xs.set i x) (us.set i u)
 | _,_,_,.nil=>.nil
 | _,_,0,.cons _ t=>.cons r t
 | _,_,i + 1,.cons q t=>.cons q (Vals.set r i t)
theorem Vals.append:∀ {xs ys:List V}{us ws:List Value},Vals xs us->Vals ys ws->Vals (xs ++ ys) (us ++ ws)
 | _,_,_,_,.nil,s=>s
 | _,_,_,_,.cons r t,s=>.cons r (Vals.append t s)
theorem Vals.take:∀ {xs:List V}{us:List Value} (n:Nat),Vals xs us->Vals (xs.take n) (us.take n)
 | _,_,0,_=>.nil
 | _,_,_ + 1,.nil=>.nil
 | _,_,n + 1,.cons r t=>.cons r (Vals.take n t)
theorem Vals.drop:∀ {xs:List V}{us:List Value} (n:Nat),Vals xs us->Vals (xs.drop n) (us.drop n)
 | _,_,0,r=>r
 | _,_,_ + 1,.nil=>.nil
 | _,_,n + 1,.cons _ t=>Vals.drop n t
def RelO:Option V->Option Value->Prop
 | some v,some u=>RelV v u
 | none,none=>True
 | _,_=>False
def KV {κ:Type}:List (κ × V)->List (κ × Value)->Prop:=Paired fun (p:κ × V) (q:κ × Value)=>p.1 = q.1/\RelV p.2 q.2
def kV:Key->V
 | .inl i=>.int i
 | .inr x=>.str x
inductive HO where
 | lst (xs:List V)
 | tup (xs:List V)
 | dK (kvs:List (Key × V)) | dT (kvs:List (List Key × V))
 | set (S:Int->Bool) (n:Nat)
 | ins (C dx:Addr) (fs:List (Str × V))
 | own (x:Addr)
 | xd (fs:List (Str × V))
 | met (f x:Addr)
 | rng (lo hi:Int)
 | frz (o:Obj) (u:HO)
 | tbl (ps:Array Value)
 | ext (φ:Heap->Prop)
abbrev Hp:=Addr->Option HO
def upd (H:Hp) (a:Addr) (o:HO):Hp:=fun b=>if b = a then some o else H b
theorem zc {H:Hp}{a:Addr}{o:HO}:upd H a o a = some o:=by unfold upd; rw [if_pos rfl]
theorem zg {H:Hp}{a b:Addr}{o:HO} (h:b≠a):upd H a o b = H b:=by unfold upd; rw [if_neg h]
theorem zks {H:Hp}{a b:Addr}{o u:HO} (h:H a = some o) (h':H b = some u) (d:o≠u):a≠b:=by
 intro e; subst e; rw [h] at h'; exact d (Option.some.inj h')
theorem zk {H:Hp}{a b:Addr}{o:HO} (h:H a = some o) (h':H b = none):a≠b:=by
 intro e; subst e; rw [h] at h'; cases h'
section
variable (P:Program) (w:World)
def Zh (H:Hp) (h:Heap) (a:Addr):HO->Prop
 | .lst xs=>xs.length<=sizeLine/\∃ (its:List Value) (n:Nat),Vals xs its/\h.get? a = some { cls:=.type "list",data:=.seq its.toArray n }
 | .tup xs=>xs.length<=sizeLine/\∃ its:List Value,Vals xs its/\IsTup h a its.toArray
 | .dK kvs=>kvs.length<=sizeLine/\(a == sysModules) = false/\∃ vs,KV kvs vs/\h.DictOf (zF P w) a vs
 | .dT kvs=>kvs.length<=sizeLine/\(a == sysModules) = false/\∃ xs:List (List Key × Addr × Value),
   Paired (fun (p:List Key × V) (q:List Key × Addr × Value)=>p.1 = q.1/\H q.2.1 = some (.tup (p.1.map kV))/\RelV p.2 q.2.2) kvs xs /\
   ∃ o es ep,h.get? a = some o/\o.ExactDict/\o.data = .dict es ep/\es.toList = xs.map (entryOfKey (tupleKind (zF P w)))/\(xs.map (·.1)).Nodup
 | .set S n=>h.SetOf (intKind P w) a S n
 | .ins C dx fs=>H dx = some (.own a)/\fs.length<=1000/\dx≠a/\h.get? a = some (instObj C dx) /\
   ∃ mA,h.Ns1 dx mA/\(∀ f,RelO (fs.lookup f) (mA f))/\PySem.Within mA (fs.map (·.1))
 | .own _=>∃ o,h.get? a = some o
 | .xd fs=>∃ mA,h.Ns1 a mA/\∀ f,RelO (fs.lookup f) (mA f)
 | .rng lo hi=>∃ t u v,h.get? a = some { cls:=.type "range",data:=.fields #[.int lo t,.int hi u,.int 1 v] }
 | .frz o u=>h.get? a = some o/\Zh H h a u
 | .tbl ps=>h.get? a = some { cls:=.none,data:=.fields ps }
 | .met f x=>h.get? a = some (methodObj (.ref f) (.ref x))
 | .ext φ=>φ h/\(∃ o,h.get? a = some o)/\∀ h1 h2:Heap,φ h1->(∀ o,h1.get? a = some o->h2.get? a = some o)->φ h2
def HOk (H:Hp) (h:Heap):Prop:=∀ a o,H a = some o->Zh P w H h a o
end
section
variable {P:Program}{w:World}{H H':Hp}{h h':Heap}{a:Addr}{o:HO}
theorem Zh.lt (x:Zh P w H h a o):a < h.objs.size:=by
 cases o with
 | lst xs=>obtain ⟨_,_,_,_,e⟩:=x; exact Heap.lt_size e
 | tup xs=>obtain ⟨_,_,_,p⟩:=x; exact p.lt
 | dK kvs=>obtain ⟨_,_,_,_,o,_,_,e,_⟩:=x; exact Heap.lt_size e
 | dT kvs=>obtain ⟨_,_,_,_,o,_,_,e,_⟩:=x; exact Heap.lt_size e
 | set S n=>obtain ⟨o,_,_,_,e,_⟩:=x; exact Heap.lt_size e
 | ins C dx fs=>obtain ⟨_,_,_,e,_⟩:=x; exact Heap.lt_size e
 | own y=>obtain ⟨_,e⟩:=x; exact Heap.lt_size e
 | xd fs=>obtain ⟨_,⟨_,_,_,e,_⟩,_⟩:=x; exact Heap.lt_size e
 | rng lo hi=>obtain ⟨_,_,_,e⟩:=x; exact Heap.lt_size e
 | frz ob u=>obtain ⟨e,_⟩:=x; exact Heap.lt_size e
 | tbl ps=>exact Heap.lt_size (show h.get? a = some _ from x)
 | met f y=>exact Heap.lt_size (show h.get? a = some _ from x)
 | ext φ=>obtain ⟨_,⟨_,e⟩,_⟩:=x; exact Heap.lt_size e
theorem Paired.mapP {α β:Type}{F G:α->β->Prop}:∀ {l₁:List α}{l₂:List β},Paired F l₁ l₂->(∀ a b,F a b->G a b)->Paired G l₁ l₂
 | _,_,.nil,_=>.nil
 | _,_,.cons r t,f=>.cons (f _ _ r) (Paired.mapP t f)
theorem Zh.stay (x:Zh P w H h a o) (k:∀ b u,(b = a\/H b = some (.own a))->h.get? b = some u->h'.get? b = some u)
  (ho:∀ b,H b = some (.own a)->H' b = some (.own a)) (ht:∀ b xs,H b = some (.tup xs)->H' b = some (.tup xs)):Zh P w H' h' a o:=by
 induction o with
 | lst xs=>obtain ⟨z,its,n,r,e⟩:=x; exact ⟨z,its,n,r,k _ _ (.inl rfl) e⟩
 | tup xs=>obtain ⟨z,its,r,ob,e,c⟩:=x; exact ⟨z,its,r,ob,k _ _ (.inl rfl) e,c⟩
 | dK kvs=>obtain ⟨z,y,vs,r,ob,es,ep,e,c⟩:=x; exact ⟨z,y,vs,r,ob,es,ep,k _ _ (.inl rfl) e,c⟩
 | dT kvs=>
  obtain ⟨z,y,xs,r,ob,es,ep,e,c⟩:=x
  exact ⟨z,y,xs,Paired.mapP r fun p q z=>⟨z.1,ht _ _ z.2.1,z.2.2⟩,ob,es,ep,k _ _ (.inl rfl) e,c⟩
 | set S n=>obtain ⟨ob,es,ep,t,e,c⟩:=x; exact ⟨ob,es,ep,t,k _ _ (.inl rfl) e,c⟩
 | ins C dx fs=>
  obtain ⟨d,z,ne,e,mA,⟨od,es,ep,e2,c⟩,r⟩:=x
  exact ⟨ho _ d,z,ne,k _ _ (.inl rfl) e,mA,⟨od,es,ep,k _ _ (.inr d) e2,c⟩,r⟩
 | own y=>obtain ⟨ob,e⟩:=x; exact ⟨ob,k _ _ (.inl rfl) e⟩
 | xd fs=>obtain ⟨mA,⟨od,es,ep,e,c⟩,r⟩:=x; exact ⟨mA,⟨od,es,ep,k _ _ (.inl rfl) e,c⟩,r⟩
 | rng lo hi=>obtain ⟨t,u,v,e⟩:=x; exact ⟨t,u,v,k _ _ (.inl rfl) e⟩
 | frz ob u ih=>obtain ⟨e,q⟩:=x; exact ⟨k _ _ (.inl rfl) e,ih q⟩
 | tbl ps=>
  have e:h.get? a = some { cls:=.none,data:=.fields ps }:=x
  show h'.get? a = some { cls:=.none,data:=.fields ps }
  exact k a _ (.inl rfl) e
 | met f y=>
  have e:h.get? a = some (methodObj (.ref f) (.ref y)):=x
  show h'.get? a = some (methodObj (.ref f) (.ref y))
  exact k a _ (.inl rfl) e
 | ext φ=>obtain ⟨p,⟨o,e⟩,st⟩:=x; exact ⟨st _ _ p fun o q=>k _ _ (.inl rfl) q,⟨o,k _ _ (.inl rfl) e⟩,st⟩
theorem HOk.lt (x:HOk P w H h) (e:H a = some o):a < h.objs.size:=(x a o e).lt
theorem HOk.fresh (x:HOk P w H h) (e:h.objs.size<=a):H a = none:=by
 cases q:H a with
 | none=>rfl
 | some u=>exact absurd (Nat.lt_of_lt_of_le (x.lt q) e) (Nat.lt_irrefl _)
theorem HOk.kept (x:HOk P w H h) (k:∀ b u,h.get? b = some u->h'.get? b = some u):HOk P w H h':=fun a o e=>
 (x a o e).stay (fun b u _ q=>k b u q) (fun _ q=>q) fun _ _ q=>q
theorem HOk.laid (x:HOk P w H h) (k:∀ b u,h.get? b = some u->h'.get? b = some u) (hp:h.objs.size<=a) (new:Zh P w (upd H a o) h' a o):HOk P w (upd H a o) h':=fun b u e=>by
 have hn:=x.fresh hp
 by_cases hb:b = a
 ·subst hb; rw [zc] at e; cases e; exact new
 ·rw [zg hb] at e
  exact (x b u e).stay (fun c v _ q=>k c v q) (fun c q=>by rw [zg (zk q hn)]; exact q) fun c xs q=>by rw [zg (zk q hn)]; exact q
end
def Rd (H:Hp) (a:Addr) (u:HO):Prop:=H a = some u\/∃ o,H a = some (.frz o u)
theorem Rd.of {H:Hp}{a:Addr}{u:HO} (h:H a = some u):Rd H a u:=.inl h
theorem Rd.ok {P:Program}{w:World}{H:Hp}{h:Heap}{a:Addr}{u:HO} (r:Rd H a u) (x:HOk P w H h):Zh P w H h a u:=by
 rcases r with r | ⟨o,r⟩
 ·exact x a u r
 ·obtain ⟨_,q⟩:=x a _ r
  exact q
def Mut:Option HO->Prop
 | some (.lst _)=>True
 | some (.dK _)=>True
 | some (.dT _)=>True
 | some (.set _ _)=>True
 | some (.ins _ _ _)=>True
 | some (.ext _)=>True
 | _=>False
section
variable {P:Program}{w:World}{H:Hp}{h h':Heap}{x e:Addr}{o':HO}
theorem HOk.write (ok:HOk P w H h) (mu:Mut (H x)) (he:e = x\/H e = some (.own x)) (k:∀ b u,b≠e->h.get? b = some u->h'.get? b = some u) (heo:∃ u,h'.get? e = some u)
  (new:Zh P w (upd H x o') h' x o'):HOk P w (upd H x o') h':=fun b u q=>by
 have nown:∀ c y,H c = some (.own y)->c≠x:=fun c y r z=>by subst z; rw [r] at mu; exact mu
 have ntup:∀ c xs,H c = some (.tup xs)->c≠x:=fun c xs r z=>by subst z; rw [r] at mu; exact mu
 by_cases hb:b = x
 ·subst hb; rw [zc] at q; cases q; exact new
 ·rw [zg hb] at q
  by_cases hbe:b = e
  ·have q':H b = some (.own x):=by
    rcases he with z | z
    ·exact absurd (hbe.trans z) hb
    ·rw [hbe]; exact z
   rw [q] at q'; cases q'
   obtain ⟨v,hv⟩:=heo
   exact ⟨v,by rw [hbe]; exact hv⟩
  ·refine (ok b u q).stay (fun c v hc r=>k c v ?_ r) (fun c r=>by rw [zg (nown c b r)]; exact r) fun c xs r=>by rw [zg (ntup c xs r)]; exact r
   rcases hc with rfl | hc
   ·exact hbe
   ·rintro rfl
    rcases he with z | z
    ·exact nown c b hc z
    ·rw [hc] at z; cases z; exact hb rfl
end
structure Un (fs ex:List Addr) (H H':Hp) (h h':Heap):Prop where
 keep:∀ b o,h.get? b = some o->H b = none->b ∉ fs->b ∉ ex->h'.get? b = some o
 slot:∀ b o,h.get? b = some o->H b = none->b∈fs->b ∉ ex->∃ sl,h'.get? b = some { o with slots:=sl }
 free:∀ b o,h.get? b = some o->H b = none->b ∉ ex->H' b = none
 there:∀ b o,h.get? b = some o->b ∉ ex->∃ o',h'.get? b = some o'
 tups:∀ b xs,H b = some (.tup xs)->H' b = some (.tup xs)
 frzs:∀ b o u,H b = some (.frz o u)->H' b = some (.frz o u)
 tbls:∀ b ps,H b = some (.tbl ps)->∃ more,H' b = some (.tbl (ps ++ more))
section
variable {fs fs' ex ex':List Addr}{H H1 H2:Hp}{h h1 h2 h':Heap}{a x e:Addr}{o:HO}
theorem Un.any (u:Un fs ex H H1 h h1) {b:Addr}{ob:Obj} (q:h.get? b = some ob) (n:H b = none) (hx:b ∉ ex):∃ sl,h1.get? b = some { ob with slots:=sl }:=by
 by_cases hb:b∈fs
 ·exact u.slot b ob q n hb hx
 ·exact ⟨ob.slots,u.keep b ob q n hb hx⟩
theorem Un.kept (k:∀ b u,h.get? b = some u->h'.get? b = some u):Un fs ex H H h h':=
 ⟨fun b ob q _ _ _=>k b ob q,fun b ob q _ _ _=>⟨ob.slots,k b ob q⟩,fun _ _ _ n _=>n,fun b ob q _=>⟨ob,k b ob q⟩,fun _ _ q=>q,fun _ _ _ q=>q,fun _ ps q=>⟨#[],by rw [q]; simp⟩⟩
theorem Un.refl:Un fs ex H H h h:=Un.kept fun _ _ q=>q
theorem Un.laid (k:∀ b u,h.get? b = some u->h'.get? b = some u) (hp:h.objs.size<=a) (hn:H a = none):Un fs ex H (upd H a o) h h' where
 keep:=fun b u q _ _ _=>k b u q
 slot:=fun b u q _ _ _=>⟨u.slots,k b u q⟩
 free:=fun b u q n _=>by rw [zg (Nat.ne_of_lt (Nat.lt_of_lt_of_le (Heap.lt_size q) hp))]; exact n
 there:=fun b u q _=>⟨u,k b u q⟩
 tups:=fun b xs q=>by rw [zg (zk q hn)]; exact q
 frzs:=fun b u xs q=>by rw [zg (zk q hn)]; exact q
 tbls:=fun b ps q=>⟨#[],by rw [zg (zk q hn),q]; simp⟩
theorem Un.write (mu:Mut (H x)) (he:e = x\/H e = some (.own x)) (k:∀ b u,b≠e->h.get? b = some u->h'.get? b = some u) (heo:∃ u,h'.get? e = some u):Un fs ex H (upd H x o) h h':=by
 have hx:∀ b,H b = none->b≠x:=fun b n z=>by subst z; rw [n] at mu; exact mu
 have hb:∀ b,H b = none->b≠e:=fun b n z=>by
  subst z
  rcases he with r | r
  ·exact hx b n r
  ·rw [n] at r; cases r
 have hm:∀ b u,H b = some u->¬ Mut (some u)->b≠x:=fun b u q nm z=>by subst z; rw [q] at mu; exact nm mu
 refine ⟨fun b u q n _ _=>k b u (hb b n) q,fun b u q n _ _=>⟨u.slots,k b u (hb b n) q⟩,fun b u q n _=>by rw [zg (hx b n)]; exact n,fun b u q _=>?_,
  fun b xs q=>by rw [zg (hm b _ q fun z=>z)]; exact q,fun b u xs q=>by rw [zg (hm b _ q fun z=>z)]; exact q,fun b ps q=>⟨#[],by rw [zg (hm b _ q fun z=>z),q]; simp⟩⟩
 by_cases hbe:b = e
 ·subst hbe; exact heo
 ·exact ⟨u,k b u hbe q⟩
end
def trk (h:Heap) (H:Hp):List Addr:=(List.range h.objs.size).filter fun a=>(H a).isSome
def hidT (h:Heap) (H:Hp):Heap:=PySem.W.hideAll h (trk h H)
theorem zhb (h:Heap) (H:Hp):(hidT h H).objs.size = h.objs.size:=PySem.W.hideAll_size _ _
theorem ziL {h:Heap}{H:Hp}{b:Addr}{o:Obj} (e:h.get? b = some o) (n:H b = none):(hidT h H).get? b = some o:=
 PySem.W.hideAll_get _ e fun hm=>by
  have q:(H b).isSome = true:=(List.mem_filter.mp hm).2
  rw [n] at q; simp at q
theorem zkt {h:Heap}{H:Hp}{b:Addr}{o:Obj} (e:(hidT h H).get? b = some o):h.get? b = some o/\H b = none:=by
 have e':h.get? b = some o:=PySem.W.of_hideAll (trk h H) e
 refine ⟨e',?_⟩
 cases q:H b with
 | none=>rfl
 | some x=>
  have hm:b∈trk h H:=List.mem_filter.mpr ⟨List.mem_range.mpr (Heap.lt_size e'),by simp [q]⟩
  have z:(hidT h H).get? b = none:=PySem.W.hideAll_none (trk h H) hm
  rw [z] at e; cases e
def zku (g h:Heap) (L:Addr):List (Addr × Obj):=(List.range h.objs.size).filterMap fun a=>if a = L\/(g.get? a).isSome = true then none else (h.get? a).map fun o=>(a,o)
def rest (g h:Heap) (L d:Addr):List (Addr × Obj):=(zku g h L).filter fun p=>decide (p.1≠d)
structure Mod (K:PySem.W.Frag) (mg:Str->Option Value) (base:Heap):Prop where
 kin:K.In base
 glob:base.Ns mainGlobals mg
 blt:∃ mb,base.Ns builtinsNs mb/\∀ x:Str,x≠"__name__"->mb x = bootBuiltins x
 nolimit:base.NoLimit
structure Cx where
 prog:Program
 w:World
 K:PySem.W.Frag
 mg:Str->Option Value
 base:Heap
 A:Around
 N:List Str
 s₀:Shared
 H₀:Hp
 env:Env
 outer:List Env
 stack:List Env
 ex:List Addr
 fn:Str->Bool
 calm:Bool
 pn:List (Addr × Obj)
 xe:Value->Shared->Prop
def frs (l:List Env):List Addr:=l.filterMap (·.frame)
abbrev Cx.fs (X:Cx):List Addr:=frs X.outer
def Vis (sc:Scope) (x:Str):Prop:=sc.names.lookup x = some .local\/sc.names.lookup x = some .cell\/sc.names.lookup x = some .free
def Loc (sc:Scope) (x:Str):Prop:=sc.names.lookup x = some .local\/sc.names.lookup x = some .cell
def Look (env:Env) (h:Heap) (m:Str->Option Value) (x:Str) (u:Value):Prop:=
 (env.kindOf x = some .local/\m x = some u)\/((env.kindOf x = some .cell\/env.kindOf x = some .free)/\∃ c,env.cells.lookup x = some c/\h.IsCell c (some u))
structure Cx.Ok (X:Cx):Prop where
 mod:Mod X.K X.mg X.base
 kind:X.env.scope.kind = .function
 glob:X.env.globals = mainGlobals
 blt:X.env.builtins = builtinsNs
 above:X.s₀.heap.objs.size<=X.env.locals
 inj:∀ x y c,X.env.cells.lookup x = some c->X.env.cells.lookup y = some c->x = y
 has:∀ x,(X.env.kindOf x = some .cell\/X.env.kindOf x = some .free)->∃ c,X.env.cells.lookup x = some c
 cab:∀ x c,X.fn x = true->X.env.cells.lookup x = some c->X.s₀.heap.objs.size<=c
 hd:X.calm = true->X.A.handled = none
 frames:X.A.frames = some X.stack
 stk:X.stack = X.outer\/(X.stack = X.env :: X.outer/\X.env.frame = some X.env.locals)
 exf:∀ b∈X.ex,b≠X.env.locals/\∀ x c,X.env.cells.lookup x = some c->c≠b
 bs:∀ b o,X.base.get? b = some o->X.s₀.heap.get? b = some o/\X.H₀ b = none
 bsz:X.base.objs.size<=X.s₀.heap.objs.size
 noex:∀ b o,X.base.get? b = some o->b ∉ X.ex
 exfs:∀ b∈X.ex,b ∉ X.fs
 funs:X.s₀.heap.FunFrames X.base X.outer
 frf:∀ b∈X.fs,X.H₀ b = none
structure Inv (X:Cx) (zp:List (Addr × Obj)) (σ:List (Option V)) (H:Hp) (s:Shared):Prop where
 ok:X.Ok
 os:s.os = X.s₀.os
 bare:AllBare s.gens
 base:Un X.fs X.ex X.H₀ H X.s₀.heap s.heap
 loc:∃ m,s.heap.Ns X.env.locals m/\∀ (i:Nat) (x:Str) (v:V),X.N[i]? = some x->σ[i]? = some (some v)->Vis X.env.scope x->∃ u,RelV v u/\Look X.env s.heap m x u
 cell:∀ x c,X.env.cells.lookup x = some c->∃ v,s.heap.IsCell c v
 free:H X.env.locals = none
 freeC:∀ x c,X.env.cells.lookup x = some c->H c = none
 pin:∀ p∈X.pn ++ zp,s.heap.get? p.1 = some p.2/\H p.1 = none/\p.1≠X.env.locals/\p.1 ∉ X.fs/\∀ v,p.2.data≠.cell v
 hok:HOk X.prog X.w H s.heap
 len:σ.length = X.N.length
section
variable {X:Cx}{zp:List (Addr × Obj)}{σ:List (Option V)}{H H':Hp}{s:Shared}{h':Heap}
theorem Cx.Ok.nofr (ok:X.Ok) {b:Addr}{o:Obj} (e:X.base.get? b = some o):b ∉ X.fs:=fun hb=>by
 have:=(ok.funs.mem hb).1
 rw [e] at this; cases this
theorem Inv.bs (I:Inv X zp σ H s):∀ b o,X.base.get? b = some o->s.heap.get? b = some o/\H b = none:=fun b o e=>
 ⟨I.base.keep b o (I.ok.bs b o e).1 (I.ok.bs b o e).2 (I.ok.nofr e) (I.ok.noex b o e),I.base.free b o (I.ok.bs b o e).1 (I.ok.bs b o e).2 (I.ok.noex b o e)⟩
theorem Inv.bk (I:Inv X zp σ H s):∀ b o,X.base.get? b = some o->s.heap.get? b = some o:=fun b o e=>(I.bs b o e).1
theorem Inv.mod (I:Inv X zp σ H s):Mod X.K X.mg X.base:=I.ok.mod
theorem Inv.kIn (I:Inv X zp σ H s):X.K.In s.heap:=I.ok.mod.kin.keeps I.bk
theorem Inv.lt (I:Inv X zp σ H s):X.env.locals < s.heap.objs.size:=let ⟨_,hn,_⟩:=I.loc; hn.lt
theorem Inv.sz (I:Inv X zp σ H s):X.s₀.heap.objs.size<=s.heap.objs.size:=Nat.le_trans I.ok.above (Nat.le_of_lt I.lt)
theorem Inv.nofs (I:Inv X zp σ H s) {a:Addr} (h:s.heap.objs.size<=a):a ∉ X.fs:=fun hb=>by
 obtain ⟨_,o,ho,_⟩:=I.ok.funs.mem hb
 exact absurd (Nat.lt_of_lt_of_le (Heap.lt_size ho) (Nat.le_trans I.sz h)) (Nat.lt_irrefl _)
theorem Inv.cne (I:Inv X zp σ H s):∀ x c,X.env.cells.lookup x = some c->c≠X.env.locals:=fun x c e z=>by
 obtain ⟨v,o,ho,hd⟩:=I.cell x c e
 obtain ⟨m,⟨o',es,ep,ho',hd',_⟩,_⟩:=I.loc
 rw [z,ho'] at ho; cases ho; rw [hd'] at hd; cases hd
theorem Inv.funs (I:Inv X zp σ H s):s.heap.FunFrames X.base X.outer:=by
 have all:∀ (l:List Env),(∀ b∈frs l,b∈X.fs)->X.s₀.heap.FunFrames X.base l->s.heap.FunFrames X.base l:=by
  intro l
  induction l with
  | nil=>intro _ _; trivial
  | cons env r ih=>
   intro hs hl
   obtain ⟨hk,⟨L,o,hf,hn,ho,hd⟩,hr⟩:=hl
   have hL:L∈X.fs:=hs L (by unfold frs; rw [List.filterMap_cons,hf]; exact List.mem_cons_self)
   obtain ⟨sl,e⟩:=I.base.slot L o ho (I.ok.frf L hL) hL fun z=>I.ok.exfs L z hL
   exact ⟨hk,⟨L,_,hf,hn,e,hd⟩,ih (fun b hb=>hs b (by unfold frs; rw [List.filterMap_cons,hf]; exact List.mem_cons_of_mem _ hb)) hr⟩
 exact all X.outer (fun _ hb=>hb) I.ok.funs
theorem Inv.stack (I:Inv X zp σ H s):s.heap.FunFrames X.base X.stack:=by
 rcases I.ok.stk with e | ⟨e,hf⟩
 ·rw [e]; exact I.funs
 ·rw [e]
  obtain ⟨m,hn,_⟩:=I.loc
  refine .cons (by rw [I.ok.kind]; decide) hf hn ?_ I.funs
  exact Heap.get?_none_of_le (Nat.le_trans I.ok.bsz I.ok.above)
theorem Inv.stkSub (I:Inv X zp σ H s):∀ b∈frs X.stack,b∈X.env.locals :: X.fs:=fun b hb=>by
 rcases I.ok.stk with e | ⟨e,hf⟩
 ·rw [e] at hb; exact List.mem_cons_of_mem _ hb
 ·rw [e] at hb
  unfold frs at hb
  rw [List.filterMap_cons,hf] at hb
  exact hb
theorem Inv.stkFree (I:Inv X zp σ H s):∀ b∈frs X.stack,H b = none:=fun b hb=>by
 rcases List.mem_cons.mp (I.stkSub b hb) with e | hb
 ·rw [e]; exact I.free
 ·obtain ⟨_,o,ho,_⟩:=I.ok.funs.mem hb
  exact I.base.free b o ho (I.ok.frf b hb) fun z=>I.ok.exfs b z hb
theorem Inv.step {g':Array GenState}{t':Nat}{d':Drawn}{ch:List Addr} (I:Inv X zp σ H s)
  (hch:∀ b∈ch,(b∈X.ex\/X.s₀.heap.objs.size<=b)/\b≠X.env.locals/\(∀ x c,X.env.cells.lookup x = some c->c≠b)/\∀ p∈X.pn ++ zp,p.1≠b)
  (keep:∀ b o,b≠X.env.locals->b ∉ X.fs->b ∉ ch->s.heap.get? b = some o->H b = none->h'.get? b = some o)
  (slot:∀ b o,b≠X.env.locals->b∈X.fs->b ∉ ch->s.heap.get? b = some o->H b = none->∃ sl,h'.get? b = some { o with slots:=sl }) (free:∀ b o,b ∉ ch->s.heap.get? b = some o->H b = none->H' b = none)
  (there:∀ b o,b ∉ ch->s.heap.get? b = some o->∃ o',h'.get? b = some o')
  (tups:∀ b xs,H b = some (.tup xs)->H' b = some (.tup xs)) (frzs:∀ b o u,H b = some (.frz o u)->H' b = some (.frz o u)) (tbls:∀ b ps,H b = some (.tbl ps)->∃ more,H' b = some (.tbl (ps ++ more)))
  (ns:∀ m,s.heap.Ns X.env.locals m->h'.Ns X.env.locals m) (hok:HOk X.prog X.w H' h') (hg:AllBare g'):
  Inv X zp σ H' { s with heap:=h',gens:=g',drawn:=d',toks:=t' }:=by
 have neL:∀ b o,X.s₀.heap.get? b = some o->b≠X.env.locals:=fun b o e=>Nat.ne_of_lt (Nat.lt_of_lt_of_le (Heap.lt_size e) I.ok.above)
 have neC:∀ b o,X.s₀.heap.get? b = some o->b ∉ X.ex->b ∉ ch:=fun b o e hx hb=>by
  rcases (hch b hb).1 with z | z
  ·exact hx z
  ·exact absurd (Nat.lt_of_lt_of_le (Heap.lt_size e) z) (Nat.lt_irrefl _)
 have cellK:∀ x c,X.env.cells.lookup x = some c->∀ v,s.heap.IsCell c v->h'.IsCell c v:=fun x c e v ⟨o,ho,hd⟩=>by
  have nch:c ∉ ch:=fun z=>(hch c z).2.2.1 x c e rfl
  by_cases hc:c∈X.fs
  ·obtain ⟨sl,q⟩:=slot c o (I.cne x c e) hc nch ho (I.freeC x c e)
   exact ⟨_,q,hd⟩
  ·exact ⟨o,keep c o (I.cne x c e) hc nch ho (I.freeC x c e),hd⟩
 refine ⟨I.ok,I.os,hg,⟨fun b o e n hb hx=>?_,fun b o e n hb hx=>?_,fun b o e n hx=>?_,fun b o e hx=>?_,fun b xs e=>tups b xs (I.base.tups b xs e),fun b o xs e=>frzs b o xs (I.base.frzs b o xs e),fun b ps e=>?_⟩,?_,fun x c e=>?_,?_,fun x c e=>?_,fun p hp=>?_,hok,I.len⟩
 ·exact keep b o (neL b o e) hb (neC b o e hx) (I.base.keep b o e n hb hx) (I.base.free b o e n hx)
 ·obtain ⟨sl,e1⟩:=I.base.slot b o e n hb hx
  obtain ⟨sl',e2⟩:=slot b _ (neL b o e) hb (neC b o e hx) e1 (I.base.free b o e n hx)
  exact ⟨sl',e2⟩
 ·obtain ⟨o',e1⟩:=I.base.there b o e hx
  exact free b o' (neC b o e hx) e1 (I.base.free b o e n hx)
 ·obtain ⟨o',e1⟩:=I.base.there b o e hx
  exact there b o' (neC b o e hx) e1
 ·obtain ⟨m1,e1⟩:=I.base.tbls b ps e
  obtain ⟨m2,e2⟩:=tbls b _ e1
  exact ⟨m1 ++ m2,by rw [e2,Array.append_assoc]⟩
 ·obtain ⟨m,hn,hl⟩:=I.loc
  refine ⟨m,ns m hn,fun i x v e1 e2 e3=>?_⟩
  obtain ⟨u,r,l⟩:=hl i x v e1 e2 e3
  refine ⟨u,r,?_⟩
  rcases l with l | ⟨k,c,e,z⟩
  ·exact .inl l
  ·exact .inr ⟨k,c,e,cellK x c e _ z⟩
 ·obtain ⟨v,z⟩:=I.cell x c e
  exact ⟨v,cellK x c e v z⟩
 ·obtain ⟨m,⟨o,_,_,ho,_⟩,_⟩:=I.loc
  exact free _ o (fun z=>(hch _ z).2.1 rfl) ho I.free
 ·obtain ⟨v,o,ho,hd⟩:=I.cell x c e
  exact free c o (fun z=>(hch c z).2.2.1 x c e rfl) ho (I.freeC x c e)
 ·obtain ⟨e,n,ne,nf,d⟩:=I.pin p hp
  have nch:p.1 ∉ ch:=fun z=>(hch p.1 z).2.2.2 p hp rfl
  exact ⟨keep p.1 p.2 ne nf nch e n,free p.1 p.2 nch e n,ne,nf,d⟩
theorem Inv.un {t':Nat} (I:Inv X zp σ H s) (u:Un X.fs [] H H' s.heap h') (hok:HOk X.prog X.w H' h'):Inv X zp σ H' { s with heap:=h',toks:=t' }:=by
 obtain ⟨m,⟨o,es,ep,ho,r⟩,_⟩:=id I.loc
 obtain ⟨sl,hL⟩:=u.any ho I.free (by simp)
 exact I.step (g':=s.gens) (d':=s.drawn) (ch:=[]) (fun _ z=>nomatch z) (fun b o _ hb _ e n=>u.keep b o e n hb (by simp)) (fun b o _ hb _ e n=>u.slot b o e n hb (by simp)) (fun b o _ e n=>u.free b o e n (by simp)) (fun b o _ e=>u.there b o e (by simp)) u.tups u.frzs u.tbls (fun m' hm=>by
  obtain ⟨o',es',ep',ho',r'⟩:=hm
  rw [ho] at ho'; cases ho'
  exact ⟨_,es',ep',hL,r'⟩) hok I.bare
theorem Inv.call {g':Array GenState}{t':Nat}{d':Drawn}{ch:List Addr} (I:Inv X zp σ H s) (u:Un (frs X.stack) ch H H' s.heap h') (hok:HOk X.prog X.w H' h') (hg:AllBare g')
  (hch:∀ b∈ch,(b∈X.ex\/X.s₀.heap.objs.size<=b)/\b≠X.env.locals/\(∀ x c,X.env.cells.lookup x = some c->c≠b)/\∀ p∈X.pn ++ zp,p.1≠b):
  Inv X zp σ H' { s with heap:=h',gens:=g',drawn:=d',toks:=t' }:=by
 obtain ⟨m,⟨o,es,ep,ho,r⟩,_⟩:=id I.loc
 obtain ⟨sl,hL⟩:=u.any ho I.free fun z=>(hch _ z).2.1 rfl
 exact I.step (ch:=ch) hch (fun b o hL hb hc e n=>u.keep b o e n (fun z=>(List.mem_cons.mp (I.stkSub b z)).elim hL hb) hc) (fun b o _ _ hc e n=>u.any e n hc) (fun b o hc e n=>u.free b o e n hc) (fun b o hc e=>u.there b o e hc) u.tups u.frzs u.tbls (fun m' hm=>by
  obtain ⟨o',es',ep',ho',r'⟩:=hm
  rw [ho] at ho'; cases ho'
  exact ⟨_,es',ep',hL,r'⟩) hok hg
theorem Inv.turned {t':Nat}{it:Addr} (I:Inv X zp σ H s) (k:∀ b o,b≠it->s.heap.get? b = some o->h'.get? b = some o) (hn:H it = none) (hL:it≠X.env.locals)
  (h1:it∈X.ex\/X.s₀.heap.objs.size<=it) (h2:∀ x c,X.env.cells.lookup x = some c->c≠it) (h3:∀ p∈X.pn ++ zp,p.1≠it):Inv X zp σ H { s with heap:=h',toks:=t' }:=by
 have nit:∀ b u,H b = some u->b≠it:=fun b u e z=>by rw [z,hn] at e; cases e
 refine I.step (g':=s.gens) (d':=s.drawn) (ch:=[it]) (fun b hb=>?_) (fun b o _ _ hc e _=>k b o (fun z=>hc (by simp [z])) e) (fun b o _ _ hc e _=>⟨o.slots,k b o (fun z=>hc (by simp [z])) e⟩) (fun _ _ _ _ n=>n)
  (fun b o hc e=>⟨o,k b o (fun z=>hc (by simp [z])) e⟩) (fun _ _ e=>e) (fun _ _ _ e=>e) (fun b ps e=>⟨#[],by rw [e]; simp⟩) (fun m hm=>?_) (fun b u e=>?_) I.bare
 ·have e:b = it:=by simpa using hb
  subst e
  exact ⟨h1,hL,h2,h3⟩
 ·obtain ⟨o,es,ep,ho,r⟩:=hm
  exact ⟨o,es,ep,k _ o (Ne.symm hL) ho,r⟩
 ·refine (I.hok b u e).stay (fun c v hc q=>k c v ?_ q) (fun _ q=>q) fun _ _ q=>q
  rcases hc with z | z
  ·rw [z]; exact nit b u e
  ·exact nit c _ z
theorem Inv.tok (I:Inv X zp σ H s) (t:Nat):Inv X zp σ H { s with toks:=t }:=I.un (h':=s.heap) (t':=t) Un.refl I.hok
theorem Inv.kept {t':Nat} (I:Inv X zp σ H s) (k:∀ b u,s.heap.get? b = some u->h'.get? b = some u):Inv X zp σ H { s with heap:=h',toks:=t' }:=I.un (Un.kept k) (I.hok.kept k)
theorem Inv.laid {a:Addr}{o:HO}{t':Nat} (I:Inv X zp σ H s) (k:∀ b u,s.heap.get? b = some u->h'.get? b = some u) (hp:s.heap.objs.size<=a) (new:Zh X.prog X.w (upd H a o) h' a o):
  Inv X zp σ (upd H a o) { s with heap:=h',toks:=t' }:=I.un (Un.laid k hp (I.hok.fresh hp)) (I.hok.laid k hp new)
theorem Inv.write {x e:Addr}{o:HO}{t':Nat} (I:Inv X zp σ H s) (mu:Mut (H x)) (he:e = x\/H e = some (.own x)) (k:∀ b u,b≠e->s.heap.get? b = some u->h'.get? b = some u) (heo:∃ u,h'.get? e = some u)
  (new:Zh X.prog X.w (upd H x o) h' x o):Inv X zp σ (upd H x o) { s with heap:=h',toks:=t' }:=I.un (Un.write mu he k heo) (I.hok.write mu he k heo new)
theorem Inv.weak {σ':List (Option V)} (I:Inv X zp σ H s) (hl:σ'.length = σ.length) (w:∀ (i:Nat) v,σ'[i]? = some (some v)->σ[i]? = some (some v)):Inv X zp σ' H s:=
 ⟨I.ok,I.os,I.bare,I.base,let ⟨m,hn,hl'⟩:=I.loc; ⟨m,hn,fun i x v e1 e2 e3=>hl' i x v e1 (w i v e2) e3⟩,I.cell,I.free,I.freeC,I.pin,I.hok,hl.trans I.len⟩
theorem Inv.pins_of {pins':List (Addr × Obj)} (I:Inv X zp σ H s) (h:∀ p∈pins',s.heap.get? p.1 = some p.2/\H p.1 = none/\p.1≠X.env.locals/\p.1 ∉ X.fs/\∀ v,p.2.data≠.cell v):Inv X pins' σ H s:=
 ⟨I.ok,I.os,I.bare,I.base,I.loc,I.cell,I.free,I.freeC,fun p hp=>(List.mem_append.mp hp).elim (fun z=>I.pin p (List.mem_append_left _ z)) (h p),I.hok,I.len⟩
theorem zfR {N:List Str} (hN:N.Nodup) {i j:Nat}{x:Str} (a:N[i]? = some x) (b:N[j]? = some x):i = j:=by
 obtain ⟨h1,e1⟩:=List.getElem?_eq_some_iff.mp a
 obtain ⟨h2,e2⟩:=List.getElem?_eq_some_iff.mp b
 exact (List.getElem_inj hN).mp (e1.trans e2.symm)
theorem zd6 {M:Model}{A:Around}{E:Value->Shared->Prop}{i:Nat}{x:Str}{v:V}{u:Value}{Q:Unit->Shared->Prop} (I:Inv X zp σ H s) (hN:X.N.Nodup) (hi:X.N[i]? = some x) (hx:Loc X.env.scope x) (r:RelV v u)
  (h:∀ s',Inv X zp (σ.set i (some v)) H s'->(∃ a,Heap.SameBut a s.heap s'.heap/\(a = X.env.locals\/X.env.cells.lookup x = some a))->Q () s') (hf:X.fn x = true\/X.env.scope.names.lookup x = some .local:=by first | exact .inl rfl | exact .inr rfl | assumption):wpAny M A (storeName X.env x u) Q E s:=by
 obtain ⟨m,hn,hl⟩:=id I.loc
 have hcls:(X.env.scope.kind == .class || (X.env.scope.kind == .module && X.env.locals != X.env.globals)) = false:=by rw [I.ok.kind]; rfl
 have hiσ:i < σ.length:=by rw [I.len]; exact (List.getElem?_eq_some_iff.mp hi).1
 have cne:=I.cne
 have tracked:∀ {a:Addr}{h':Heap},(∃ o,s.heap.get? a = some o/\H a = none)->Heap.SameBut a s.heap h'->HOk X.prog X.w H h':=fun {a h'} ha hs b ob e=>by
  obtain ⟨_,_,hfree⟩:=ha
  refine (I.hok b ob e).stay (fun c w' hc q=>(hs.2 c ?_).trans q) (fun _ q=>q) fun _ _ q=>q
  rintro rfl
  rcases hc with rfl | hc
  ·rw [hfree] at e; cases e
  ·rw [hfree] at hc; cases hc
 rcases hx with hk | hk
 ·refine wpAny_storeName_local hk hn (fun h' hn' hs=>?_) hcls
  obtain ⟨oL,_,_,hoL,_⟩:=id hn
  refine h _ ⟨I.ok,I.os,I.bare,⟨fun b o e n hb hx=>?_,fun b o e n hb hx=>?_,I.base.free,fun b o e hx=>?_,I.base.tups,I.base.frzs,I.base.tbls⟩,⟨_,hn',fun j y v' e1 e2 e3=>?_⟩,fun y c e=>?_,I.free,I.freeC,fun p hp=>?_,tracked ⟨oL,hoL,I.free⟩ hs,by simpa using I.len⟩ ⟨_,hs,.inl rfl⟩
  ·exact (hs.2 b (Nat.ne_of_lt (Nat.lt_of_lt_of_le (Heap.lt_size e) I.ok.above))).trans (I.base.keep b o e n hb hx)
  ·obtain ⟨sl,e1⟩:=I.base.slot b o e n hb hx
   exact ⟨sl,(hs.2 b (Nat.ne_of_lt (Nat.lt_of_lt_of_le (Heap.lt_size e) I.ok.above))).trans e1⟩
  ·obtain ⟨o',e1⟩:=I.base.there b o e hx
   exact ⟨o',(hs.2 b (Nat.ne_of_lt (Nat.lt_of_lt_of_le (Heap.lt_size e) I.ok.above))).trans e1⟩
  ·by_cases hj:j = i
   ·subst hj
    rw [hi] at e1; cases e1
    rw [List.getElem?_set_self hiσ] at e2
    cases e2
    exact ⟨u,r,.inl ⟨hk,by simp⟩⟩
   ·rw [List.getElem?_set_ne (Ne.symm hj)] at e2
    obtain ⟨u',r',q⟩:=hl j y v' e1 e2 e3
    refine ⟨u',r',?_⟩
    rcases q with ⟨k,e⟩ | ⟨k,c,e,z⟩
    ·refine .inl ⟨k,?_⟩
     have:y≠x:=fun e=>hj (zfR hN e1 (e ▸ hi))
     simp [this,e]
    ·exact .inr ⟨k,c,e,z.sameBut hs (cne y c e)⟩
  ·obtain ⟨w',z⟩:=I.cell y c e
   exact ⟨w',z.sameBut hs (cne y c e)⟩
  ·obtain ⟨e,n,ne,nf,d⟩:=I.pin p hp
   exact ⟨(hs.2 p.1 ne).trans e,n,ne,nf,d⟩
 ·have hfn:X.fn x = true:=by
   rcases hf with z | z
   ·exact z
   ·rw [z] at hk; cases hk
  obtain ⟨c,hc⟩:=I.ok.has x (.inl hk)
  obtain ⟨w',z⟩:=I.cell x c hc
  refine wpAny_storeName_cell I.ok.kind hk hc z (fun h' hc' hs=>?_)
  obtain ⟨oc,hoc,hocd⟩:=id z
  refine h { s with heap:=h' } ⟨I.ok,I.os,I.bare,⟨fun b o e n hb hx=>?_,fun b o e n hb hx=>?_,I.base.free,fun b o e hx=>?_,I.base.tups,I.base.frzs,I.base.tbls⟩,⟨m,hn.sameBut hs (Ne.symm (cne x c hc)),fun j y v' e1 e2 e3=>?_⟩,fun y c' e=>?_,I.free,I.freeC,fun p hp=>?_,tracked ⟨oc,hoc,I.freeC x c hc⟩ hs,by simpa using I.len⟩ ⟨c,hs,.inr hc⟩
  ·exact (hs.2 b (Nat.ne_of_lt (Nat.lt_of_lt_of_le (Heap.lt_size e) (I.ok.cab x c hfn hc)))).trans (I.base.keep b o e n hb hx)
  ·obtain ⟨sl,e1⟩:=I.base.slot b o e n hb hx
   exact ⟨sl,(hs.2 b (Nat.ne_of_lt (Nat.lt_of_lt_of_le (Heap.lt_size e) (I.ok.cab x c hfn hc)))).trans e1⟩
  ·obtain ⟨o',e1⟩:=I.base.there b o e hx
   exact ⟨o',(hs.2 b (Nat.ne_of_lt (Nat.lt_of_lt_of_le (Heap.lt_size e) (I.ok.cab x c hfn hc)))).trans e1⟩
  ·by_cases hj:j = i
   ·subst hj
    rw [hi] at e1; cases e1
    rw [List.getElem?_set_self hiσ] at e2
    cases e2
    exact ⟨u,r,.inr ⟨.inl hk,c,hc,hc'⟩⟩
   ·rw [List.getElem?_set_ne (Ne.symm hj)] at e2
    obtain ⟨u',r',q⟩:=hl j y v' e1 e2 e3
    refine ⟨u',r',?_⟩
    rcases q with q | ⟨k,c',e,z'⟩
    ·exact .inl q
    ·refine .inr ⟨k,c',e,z'.sameBut hs ?_⟩
     rintro rfl
     exact hj (zfR hN e1 (I.ok.inj _ _ _ e hc ▸ hi))
  ·by_cases hcc:c' = c
   ·subst hcc; exact ⟨_,hc'⟩
   ·obtain ⟨w2,z2⟩:=I.cell y c' e
    exact ⟨w2,z2.sameBut hs hcc⟩
  ·obtain ⟨e,n,ne,nf,d⟩:=I.pin p hp
   refine ⟨(hs.2 p.1 ?_).trans e,n,ne,nf,d⟩
   intro q
   rw [q,hoc] at e
   have q':oc = p.2:=Option.some.inj e
   exact d w' (by rw [← q']; exact hocd)
theorem zce {M:Model}{A:Around}{E:Value->Shared->Prop}{i:Nat}{x:Str}{v:V}{u:Value}{Q:Unit->Shared->Prop} (I:Inv X zp σ H s) (hN:X.N.Nodup) (hi:X.N[i]? = some x) (hx:Loc X.env.scope x) (r:RelV v u)
  (h:∀ s',Inv X zp (σ.set i (some v)) H s'->Q () s') (hf:X.fn x = true\/X.env.scope.names.lookup x = some .local:=by first | exact .inl rfl | exact .inr rfl | assumption):wpAny M A (storeName X.env x u) Q E s:=
 zd6 I hN hi hx r (fun s' I' _=>h s' I') hf
theorem Inv.call' {s':Shared}{ch:List Addr} (I:Inv X zp σ H s) (ho:s'.os = s.os) (u:Un (frs X.stack) ch H H' s.heap s'.heap) (hok:HOk X.prog X.w H' s'.heap) (hg:AllBare s'.gens)
  (hch:∀ b∈ch,(b∈X.ex\/X.s₀.heap.objs.size<=b)/\b≠X.env.locals/\(∀ x c,X.env.cells.lookup x = some c->c≠b)/\∀ p∈X.pn ++ zp,p.1≠b):Inv X zp σ H' s':=by
 obtain ⟨h',g',d',t',o'⟩:=s'
 have e:o' = s.os:=ho
 subst e
 exact I.call (g':=g') (t':=t') (d':=d') u hok hg hch
end
abbrev XK:=Value->Option Addr->Hp->Prop
abbrev St:=List (Option V)
abbrev VK:=V->Hp->Prop
abbrev TE:=St->Hp->VK->Prop
abbrev TT:=St->Hp->(Bool->Hp->Prop)->Prop
abbrev TA:=St->Hp->(List V->Hp->Prop)->Prop
structure Ends where
 nx:St->Hp->Prop
 rt:VK
 bk:St->Hp->Prop:=fun _ _=>False
 ct:St->Hp->Prop:=fun _ _=>False
abbrev TS:=Ends->St->Hp->Prop
def EP (X:Cx) (zp:List (Addr × Obj)) (σ:St) (Q:VK) (u:Value) (s':Shared):Prop:=∃ v H',Inv X zp σ H' s'/\RelV v u/\Q v H'
def TP (X:Cx) (zp:List (Addr × Obj)) (σ:St) (Q:Bool->Hp->Prop) (b:Bool) (s':Shared):Prop:=∃ H',Inv X zp σ H' s'/\Q b H'
def AP (X:Cx) (zp:List (Addr × Obj)) (σ:St) (Q:List V->Hp->Prop) (us:List Value) (s':Shared):Prop:=∃ vs H',Inv X zp σ H' s'/\Vals vs us/\Q vs H'
def SP (X:Cx) (zp:List (Addr × Obj)) (D:Ends) (f:Flow) (s':Shared):Prop:=
 match f with
 | .next=>∃ σ' H',Inv X zp σ' H' s'/\D.nx σ' H'
 | .brk=>∃ σ' H',Inv X zp σ' H' s'/\D.bk σ' H'
 | .cont=>∃ σ' H',Inv X zp σ' H' s'/\D.ct σ' H'
 | .ret u=>∃ v σ' H',Inv X zp σ' H' s'/\RelV v u/\D.rt v H'
def PE (X:Cx) (e:Expr) (t:TE):Prop:=
 ∀ (zp:List (Addr × Obj)) (s:Shared) (σ:St) (H:Hp) (Q:VK),Inv X zp σ H s->t σ H Q->wpAny (model X.prog X.w) X.A (eval e X.env) (EP X zp σ Q) X.xe s
def PT (X:Cx) (e:Expr) (t:TT):Prop:=
 ∀ (zp:List (Addr × Obj)) (s:Shared) (σ:St) (H:Hp) (Q:Bool->Hp->Prop),Inv X zp σ H s->t σ H Q->wpAny (model X.prog X.w) X.A (isTrue e X.env (eval e X.env)) (TP X zp σ Q) X.xe s
def PW (X:Cx) (e:Expr) (t:TT):Prop:=
 ∀ (whole:Sem Value) (zp:List (Addr × Obj)) (s:Shared) (σ:St) (H:Hp) (Q:Bool->Hp->Prop),Inv X zp σ H s->t σ H Q->wpAny (model X.prog X.w) X.A (isTrue e X.env whole) (TP X zp σ Q) X.xe s
theorem PW.pt {X:Cx}{e:Expr}{t:TT} (h:PW X e t):PT X e t:=h _
def PA (X:Cx) (es:List Expr) (t:TA):Prop:=
 ∀ (pos:Pos) (zp:List (Addr × Obj)) (s:Shared) (σ:St) (H:Hp) (Q:List V->Hp->Prop),Inv X zp σ H s->t σ H Q->wpAny (model X.prog X.w) X.A (spliced (backTo pos (starEach es X.env))) (AP X zp σ Q) X.xe s
def PS (X:Cx) (st:Stmt) (t:TS):Prop:=
 ∀ (zp:List (Addr × Obj)) (s:Shared) (σ:St) (H:Hp) (D:Ends),Inv X zp σ H s->t D σ H->wpAny (model X.prog X.w) X.A (exec st X.env) (SP X zp D) X.xe s
def PSs (X:Cx) (st:List Stmt) (t:TS):Prop:=
 ∀ (zp:List (Addr × Obj)) (s:Shared) (σ:St) (H:Hp) (D:Ends),Inv X zp σ H s->t D σ H->wpAny (model X.prog X.w) X.A (execs st X.env) (SP X zp D) X.xe s
theorem thn {α:Type}{t:Sem α}{Q Q':α->Shared->Prop}{M:Model}{A:Around}{E:Value->Shared->Prop}{s:Shared} (h:wpAny M A t Q E s) (hQ:∀ a s,Q a s->Q' a s):wpAny M A t Q' E s:=wpAny_mono h hQ fun _ _ x=>x
section
variable {X:Cx}
def tVar (i:Nat):TE:=fun σ H Q=>∃ v,σ[i]? = some (some v)/\Q v H
def tC (v:V):TE:=fun _ H Q=>Q v H
theorem zhc {i:Nat}{x:Str}{pos:Pos} (hN:X.N[i]? = some x) (hv:Vis X.env.scope x) (hd:(x == ("__debug__":Str)) = false:=by decide) (hcd:(x == ("__classdict__":Str)) = false:=by decide):PE X (.Name x pos) (tVar i):=by
 intro zp s σ H Q I h
 obtain ⟨v,e,h⟩:=h
 obtain ⟨m,hn,hl⟩:=I.loc
 obtain ⟨u,r,l⟩:=hl i x v hN e hv
 have fin:EP X zp σ Q u s:=⟨v,H,I,r,h⟩
 rcases l with ⟨hk,hm⟩ | ⟨hk,c,hc,hcell⟩
 ·exact wpAny_Name (wpAny_loadName_local I.ok.kind hk hn hm fin) hd
 ·rcases hk with hk | hk
  ·exact wpAny_Name (wpAny_loadName_cell I.ok.kind hk hc hcell fin) hd
  ·exact wpAny_Name (wpAny_loadName_free I.ok.kind hk hc hcell fin hcd) hd
theorem ze {i j pos}:PE X (.Constant (.int i) j pos) (tC (.int i)):=fun _ _ _ H _ I h=>wpAny_Constant_int ⟨.int i,H,I.tok _,⟨_,rfl⟩,h⟩
theorem zan {b j pos}:PE X (.Constant (.bool b) j pos) (tC (.bl b)):=fun _ _ _ H _ I h=>Constant_bool ⟨.bl b,H,I,rfl,h⟩
theorem zas {j pos}:PE X (.Constant .none j pos) (tC .non):=fun _ _ _ H _ I h=>Constant_none ⟨.non,H,I,rfl,h⟩
theorem zi {x j pos}:PE X (.Constant (.str x) j pos) (tC (.str x)):=fun _ _ _ H _ I h=>Calls.Constant_str ⟨.str x,H,I.tok _,⟨_,rfl⟩,h⟩
def Gl (X:Cx) (x:Str):Prop:=X.env.kindOf x = some .globalImplicit
theorem zbT {E:Value->Shared->Prop}{zp:List (Addr × Obj)}{s:Shared}{σ:St}{H:Hp}{x:Str}{u:Value}{pos:Pos}{Q:Value->Shared->Prop} (I:Inv X zp σ H s) (hg:Gl X x) (hm:X.mg x = some u) (h:Q u s)
  (hd:(x == ("__debug__":Str)) = false:=by decide):wpAny (model X.prog X.w) X.A (eval (.Name x pos) X.env) Q E s:=
 Calls.Name_function_global I.ok.kind hg (Calls.loadGlobal_global (by rw [I.ok.glob]; exact I.mod.glob.keeps I.bk) hm h) hd
theorem zda {E:Value->Shared->Prop}{zp:List (Addr × Obj)}{s:Shared}{σ:St}{H:Hp}{x:Str}{u:Value}{pos:Pos}{Q:Value->Shared->Prop} (I:Inv X zp σ H s) (hg:Gl X x) (hm:X.mg x = none) (hv:bootBuiltins x = some u) (h:Q u s)
  (hn:x≠"__name__":=by decide) (hd:(x == ("__debug__":Str)) = false:=by decide):wpAny (model X.prog X.w) X.A (eval (.Name x pos) X.env) Q E s:=by
 obtain ⟨mb,h1,h2⟩:=I.mod.blt
 exact Calls.Name_function_global I.ok.kind hg (Calls.loadGlobal_builtin (by rw [I.ok.glob]; exact I.mod.glob.keeps I.bk) hm (by rw [I.ok.blt]; exact h1.keeps I.bk) ((h2 x hn).trans hv) h) hd
theorem Zr {x:Str}{v:V}{u:Value}{pos:Pos} (hg:Gl X x) (hm:X.mg x = some u) (r:RelV v u) (hd:(x == ("__debug__":Str)) = false:=by decide):PE X (.Name x pos) (tC v):=
 fun _ _ _ H _ I h=>zbT I hg hm ⟨v,H,I,r,h⟩ hd
theorem zkv {x:Str}{v:V}{u:Value}{pos:Pos} (hg:Gl X x) (hm:X.mg x = none) (hv:bootBuiltins x = some u) (r:RelV v u) (hn:x≠"__name__":=by decide) (hd:(x == ("__debug__":Str)) = false:=by decide):PE X (.Name x pos) (tC v):=
 fun _ _ _ H _ I h=>zda I hg hm hv ⟨v,H,I,r,h⟩ hn hd
variable {a b:Expr}{ta tb:TE}{pos:Pos}
def PC (X:Cx) (op:CmpOp) (a b:Expr) (t:TE):Prop:=
 ∀ (zp:List (Addr × Obj)) (s:Shared) (σ:St) (H:Hp) (Q:VK),Inv X zp σ H s->t σ H Q->
  wpAny (model X.prog X.w) X.A (eval a X.env) (fun v s₁=>wpAny (model X.prog X.w) X.A (eval b X.env) (fun u s₂=>wpAny (model X.prog X.w) X.A (compareOp op v u) (EP X zp σ Q) X.xe s₂) X.xe s₁) X.xe s
theorem nobehind (b:Expr) {op:CmpOp} (h:op≠.In) (h2:op≠.NotIn):behindInMarks op b = false:=by
 have e1:(op == CmpOp.In) = false:=by cases op <;> first | rfl | exact absurd rfl h
 have e2:(op == CmpOp.NotIn) = false:=by cases op <;> first | rfl | exact absurd rfl h2
 cases b <;> simp [behindInMarks,e1,e2]
def tIsN (ta:TE):TE:=fun σ H Q=>ta σ H fun x H1=>Q (.bl (decide (x = .non))) H1
theorem RelV.none_iff {x:V}{v:Value} (r:RelV x v):(v == Value.none) = decide (x = .non):=by
 cases x with
 | non=>cases r; rfl
 | bl _=>cases r; rfl
 | int _=>obtain ⟨t,rfl⟩:=r; rfl
 | str _=>obtain ⟨t,rfl⟩:=r; rfl
 | byt _=>obtain ⟨t,rfl⟩:=r; rfl
 | flt _=>obtain ⟨t,rfl⟩:=r; rfl
 | ref _=>cases r; rfl
 | ty _=>cases r; rfl
theorem zhd {j pos'} (ha:PE X a ta):PC X .Is a (.Constant .none j pos') (tIsN ta):=by
 intro zp s σ H Q I h
 refine thn (ha zp s σ H _ I h) fun v s1 ⟨x,H1,I1,r1,q1⟩=>?_
 exact Constant_none (is_none_gen ⟨.bl _,H1,I1,by rw [r1.none_iff]; rfl,q1⟩)
def tB (t:TE):TT:=fun σ H Q=>t σ H fun x H1=>∃ c,x = .bl c/\Q c H1
theorem zd7 {op:CmpOp}{t:TE} (h:PC X op a b t) (h1:behindInMarks op b = false:=by first | exact nobehind _ (by decide) (by decide) | rfl):PE X (.Compare a [op] [b] pos) t:=fun zp s σ H Q I hw=>wpAny_Compare1 (h zp s σ H Q I hw) h1
theorem zdb {op:CmpOp}{t:TE} (h:PC X op a b t) (h1:behindInMarks op b = false:=by first | exact nobehind _ (by decide) (by decide) | rfl):PT X (.Compare a [op] [b] pos) (tB t):=by
 intro zp s σ H Q I hw
 refine wpAny_isTrue_Compare1 (thn (h zp s σ H _ I hw) fun v s1 h1=>thn h1 fun u s2 h2=>thn h2 fun c s3 ⟨x,H1,I1,r1,q1⟩=>?_) h1
 obtain ⟨d,rfl,q⟩:=q1
 cases r1
 exact wpAny_truthy_bool ⟨H1,I1,q⟩
theorem Zm {e:Expr}{t:TE} (h:PE X e t) (he:∀ whole,isTrue e X.env whole = (do let v ← whole; standAt e.pos; holding [v] (truthy v)):=by intro _; rfl):PT X e (tB t):=by
 intro zp s σ H Q I hw
 refine isTrue_plain (thn (h zp s σ H _ I hw) fun v s1 ⟨x,H1,I1,r1,q1⟩=>?_) (he _)
 obtain ⟨d,rfl,q⟩:=q1
 cases r1
 exact wpAny_truthy_bool ⟨H1,I1,q⟩
variable {tA tB':TT}{rest:List Expr}
def tAnd (t u:TT):TT:=fun σ H Q=>t σ H fun c H1=>if c = true then u σ H1 Q else Q false H1
def tOr (t u:TT):TT:=fun σ H Q=>t σ H fun c H1=>if c = true then Q true H1 else u σ H1 Q
def tNot (t:TT):TT:=fun σ H Q=>t σ H fun c H1=>Q (!c) H1
theorem zbd (ha:PT X a tA):PW X (.BoolOp .And [a] pos) tA:=by
 intro wh zp s σ H Q I h
 refine isTrue_and (thn (ha zp s σ H Q I h) fun c s1 e=>?_)
 cases c with
 | true=>exact isTrue_and_nil e
 | false=>exact e
theorem zaN (ha:PT X a tA):PW X (.BoolOp .Or [a] pos) tA:=by
 intro wh zp s σ H Q I h
 refine isTrue_or (thn (ha zp s σ H Q I h) fun c s1 e=>?_)
 cases c with
 | false=>exact isTrue_or_nil e
 | true=>exact e
theorem zct (ha:PT X a tA) (hb:PW X (.BoolOp .And (b :: rest) pos) tB'):PW X (.BoolOp .And (a :: b :: rest) pos) (tAnd tA tB'):=by
 intro wh zp s σ H Q I h
 refine isTrue_and (thn (ha zp s σ H _ I h) fun c s1 ⟨H1,I1,q1⟩=>?_)
 cases c with
 | true=>exact hb wh zp s1 σ H1 Q I1 q1
 | false=>exact ⟨H1,I1,q1⟩
theorem zbe (ha:PT X a tA) (hb:PW X (.BoolOp .Or (b :: rest) pos) tB'):PW X (.BoolOp .Or (a :: b :: rest) pos) (tOr tA tB'):=by
 intro wh zp s σ H Q I h
 refine isTrue_or (thn (ha zp s σ H _ I h) fun c s1 ⟨H1,I1,q1⟩=>?_)
 cases c with
 | true=>exact ⟨H1,I1,q1⟩
 | false=>exact hb wh zp s1 σ H1 Q I1 q1
theorem ZH (ha:PT X a tA):PT X (.UnaryOp .Not a pos) (tNot tA):=by
 intro zp s σ H Q I h
 exact isTrue_not (ha zp s σ H (fun c H1=>Q (!c) H1) I h)
def zlx (ta tb:TE):TE:=fun σ H Q=>ta σ H fun x H1=>∃ c,x = .bl c/\if c = true then tb σ H1 Q else Q (.bl false) H1
def tOrV (ta tb:TE):TE:=fun σ H Q=>ta σ H fun x H1=>∃ c,x = .bl c/\if c = true then Q (.bl true) H1 else tb σ H1 Q
def zmB (ta:TE):TE:=fun σ H Q=>ta σ H fun x H1=>∃ c,x = .bl c/\Q (.bl (!c)) H1
theorem Z0 {op}{t:TE} (h:PE X a t):PE X (.BoolOp op [a] pos) t:=fun zp s σ H Q I hw=>BoolOp_one (h zp s σ H Q I hw)
theorem ZV (ha:PE X a ta) (hb:PE X (.BoolOp .And (b :: rest) pos) tb):PE X (.BoolOp .And (a :: b :: rest) pos) (zlx ta tb):=by
 intro zp s σ H Q I h
 refine BoolOp_and (thn (ha zp s σ H _ I h) fun v s1 ⟨x,H1,I1,r1,q1⟩=>?_)
 obtain ⟨c,rfl,q1⟩:=q1
 cases r1
 refine wpAny_truthy_bool ?_
 cases c with
 | true=>exact hb zp s1 σ H1 Q I1 q1
 | false=>exact ⟨.bl false,H1,I1,rfl,q1⟩
theorem zhe (ha:PE X a ta) (hb:PE X (.BoolOp .Or (b :: rest) pos) tb):PE X (.BoolOp .Or (a :: b :: rest) pos) (tOrV ta tb):=by
 intro zp s σ H Q I h
 refine BoolOp_or (thn (ha zp s σ H _ I h) fun v s1 ⟨x,H1,I1,r1,q1⟩=>?_)
 obtain ⟨c,rfl,q1⟩:=q1
 cases r1
 refine wpAny_truthy_bool ?_
 cases c with
 | false=>exact hb zp s1 σ H1 Q I1 q1
 | true=>exact ⟨.bl true,H1,I1,rfl,q1⟩
theorem zly (ha:PE X a ta):PE X (.UnaryOp .Not a pos) (zmB ta):=by
 intro zp s σ H Q I h
 refine UnaryOp_ (thn (ha zp s σ H _ I h) fun v s1 ⟨x,H1,I1,r1,q1⟩=>?_)
 obtain ⟨c,rfl,q1⟩:=q1
 cases r1
 exact not_of (wpAny_truthy_bool ⟨.bl (!c),H1,I1,rfl,q1⟩)
def tIf (t:TT) (ta tb:TE):TE:=fun σ H Q=>t σ H fun c H1=>if c = true then ta σ H1 Q else tb σ H1 Q
theorem za0 {c:Expr} (hc:PT X c tA) (ha:PE X a ta) (hb:PE X b tb):PE X (.IfExp c a b pos) (tIf tA ta tb):=by
 intro zp s σ H Q I h
 refine wpAny_IfExp (thn (hc zp s σ H _ I h) fun d s1 ⟨H1,I1,q1⟩=>?_)
 cases d with
 | true=>exact ha zp s1 σ H1 Q I1 q1
 | false=>exact hb zp s1 σ H1 Q I1 q1
end
def SqL (K:PySem.W.Frag) (H:Hp) (a:Addr) (xs:List V):Prop:=
 Rd H a (.lst xs) \/
  ∃ (o:Obj) (its:Array Value) (n:Nat),K.lookup a = some o/\o.cls = .type "list"/\o.dict = none/\o.data = .seq its n/\its.size<=sizeLine/\Vals xs its.toList
def SqT (K:PySem.W.Frag) (H:Hp) (a:Addr) (xs:List V):Prop:=
 Rd H a (.tup xs) \/
  ∃ (o:Obj) (its:Array Value) (n:Nat),K.lookup a = some o/\o.cls = .type "tuple"/\o.data = .seq its n/\its.size<=sizeLine/\Vals xs its.toList
def absV:Value->Option V
 | .none=>some .non
 | .bool b=>some (.bl b)
 | .int i _=>some (.int i)
 | .str x _=>some (.str x)
 | .bytes b _=>some (.byt b)
 | .float b _=>some (.flt b)
 | .ref a=>some (.ref a)
 | .type n=>some (.ty n)
 | _=>none
theorem RelV.abs {x:V}{u:Value} (r:RelV x u):absV u = some x:=by
 cases x with
 | non=>cases r; rfl
 | bl _=>cases r; rfl
 | int _=>obtain ⟨t,rfl⟩:=r; rfl
 | str _=>obtain ⟨t,rfl⟩:=r; rfl
 | byt _=>obtain ⟨t,rfl⟩:=r; rfl
 | flt _=>obtain ⟨t,rfl⟩:=r; rfl
 | ref _=>cases r; rfl
 | ty _=>cases r; rfl
theorem RelV.inj {x y:V}{u:Value} (r:RelV x u) (q:RelV y u):x = y:=Option.some.inj (r.abs.symm.trans q.abs)
theorem Vals.inj:∀ {xs ys:List V}{us:List Value},Vals xs us->Vals ys us->xs = ys
 | _,_,_,.nil,.nil=>rfl
 | _,_,_,.cons r t,.cons r' t'=>by rw [r.inj r',Vals.inj t t']
section
variable {X:Cx}{zp:List (Addr × Obj)}{σ:St}{H:Hp}{s:Shared}{a:Addr}{xs ys:List V}
theorem SqL.of {K:PySem.W.Frag} (h:H a = some (.lst xs)):SqL K H a xs:=.inl (.inl h)
theorem SqT.of {K:PySem.W.Frag} (h:H a = some (.tup xs)):SqT K H a xs:=.inl (.inl h)
theorem Inv.list (I:Inv X zp σ H s) (h:SqL X.K H a xs):∃ its:List Value,Vals xs its/\PlainL s.heap a its.toArray/\xs.length<=sizeLine:=by
 rcases h with h | ⟨o,its,n,hk,hc,hd,hs,hz,r⟩
 ·obtain ⟨z,its,n,r,e⟩:=h.ok I.hok
  exact ⟨its,r,⟨_,n,e,rfl,rfl,rfl⟩,z⟩
 ·refine ⟨its.toList,r,⟨o,n,I.kIn a o hk,hc,hd,by simpa using hs⟩,?_⟩
  have e:=r.length
  simp only [Array.length_toList] at e
  omega
theorem Inv.tuple (I:Inv X zp σ H s) (h:SqT X.K H a xs):∃ its:List Value,Vals xs its/\IsTup s.heap a its.toArray/\xs.length<=sizeLine:=by
 rcases h with h | ⟨o,its,n,hk,hc,hs,hz,r⟩
 ·obtain ⟨z,its,r,p⟩:=h.ok I.hok
  exact ⟨its,r,p,z⟩
 ·refine ⟨its.toList,r,⟨o,I.kIn a o hk,hc,n,by simpa using hs⟩,?_⟩
  have e:=r.length
  simp only [Array.length_toList] at e
  omega
theorem Inv.list_inj (I:Inv X zp σ H s) (h:SqL X.K H a xs) (h':SqL X.K H a ys):xs = ys:=by
 obtain ⟨its,r,⟨o,n,e,_,_,d⟩,_⟩:=I.list h
 obtain ⟨its',r',⟨o',n',e',_,_,d'⟩,_⟩:=I.list h'
 rw [e] at e'; cases e'
 rw [d] at d'
 injection d' with d1 _
 have:its = its':=by simpa using congrArg Array.toList d1
 subst this
 exact r.inj r'
theorem Inv.tuple_inj (I:Inv X zp σ H s) (h:SqT X.K H a xs) (h':SqT X.K H a ys):xs = ys:=by
 obtain ⟨its,r,⟨o,e,_,n,d⟩,_⟩:=I.tuple h
 obtain ⟨its',r',⟨o',e',_,n',d'⟩,_⟩:=I.tuple h'
 rw [e] at e'; cases e'
 rw [d] at d'
 injection d' with d1 _
 have:its = its':=by simpa using congrArg Array.toList d1
 subst this
 exact r.inj r'
end
abbrev Cx.wish (X:Cx) (E:Value->Shared->Prop):Cx:={ X with xe:=E }
abbrev Cx.nox (X:Cx):Cx:=X.wish fun _ _=>False
theorem Cx.Ok.wish {X:Cx} (ok:X.Ok) (E:Value->Shared->Prop):(X.wish E).Ok:=
 ⟨ok.mod,ok.kind,ok.glob,ok.blt,ok.above,ok.inj,ok.has,ok.cab,ok.hd,ok.frames,ok.stk,ok.exf,ok.bs,ok.bsz,ok.noex,ok.exfs,ok.funs,ok.frf⟩
theorem Cx.Ok.unwish {X:Cx}{E:Value->Shared->Prop} (ok:(X.wish E).Ok):X.Ok:=
 ⟨ok.mod,ok.kind,ok.glob,ok.blt,ok.above,ok.inj,ok.has,ok.cab,ok.hd,ok.frames,ok.stk,ok.exf,ok.bs,ok.bsz,ok.noex,ok.exfs,ok.funs,ok.frf⟩
section
variable {X:Cx}{zp:List (Addr × Obj)}{σ:St}{H:Hp}{s:Shared}{E:Value->Shared->Prop}
theorem Inv.wish (I:Inv X zp σ H s) (E:Value->Shared->Prop):Inv (X.wish E) zp σ H s:=⟨I.ok.wish E,I.os,I.bare,I.base,I.loc,I.cell,I.free,I.freeC,I.pin,I.hok,I.len⟩
theorem Inv.unwish (I:Inv (X.wish E) zp σ H s):Inv X zp σ H s:=⟨I.ok.unwish,I.os,I.bare,I.base,I.loc,I.cell,I.free,I.freeC,I.pin,I.hok,I.len⟩
theorem SP.unwish {D:Ends}{f:Flow}{s':Shared} (h:SP (X.wish E) zp D f s'):SP X zp D f s':=by
 cases f with
 | next=>obtain ⟨σ',H',I,q⟩:=h; exact ⟨σ',H',I.unwish,q⟩
 | brk=>obtain ⟨σ',H',I,q⟩:=h; exact ⟨σ',H',I.unwish,q⟩
 | cont=>obtain ⟨σ',H',I,q⟩:=h; exact ⟨σ',H',I.unwish,q⟩
 | ret u=>obtain ⟨v,σ',H',I,r,q⟩:=h; exact ⟨v,σ',H',I.unwish,r,q⟩
theorem PSs.nox {st:List Stmt}{t:TS} (h:PSs X.nox st t):PSs X st t:=fun zp s σ H D I hw=>
 wpAny_mono (h zp s σ H D (I.wish _) hw) (fun _ _ q=>q.unwish) fun _ _ z=>False.elim z
end
section
variable {X:Cx}{st:Stmt}{rest:List Stmt}{t u:TS}{e:Expr}{te:TE}{pos:Pos}
def zc2:TS:=fun D σ H=>D.nx σ H
def tSeq (t u:TS):TS:=fun D σ H=>t { D with nx:=u D } σ H
theorem zo:PSs X [] zc2:=fun _ _ σ H _ I h=>wpAny_execs_nil ⟨σ,H,I,h⟩
theorem zd (h1:PS X st t) (h2:PSs X rest u):PSs X (st :: rest) (tSeq t u):=by
 intro zp s σ H D I h
 refine wpAny_execs_cons (thn (h1 zp s σ H { D with nx:=u D } I h) fun f s1 q=>?_)
 cases f with
 | next=>
  obtain ⟨σ',H',I',q⟩:=q
  exact h2 zp s1 σ' H' D I' q
 | ret v=>exact q
 | brk=>exact q
 | cont=>exact q
theorem zf (h1:PS X st t):PSs X [st] t:=by
 intro zp s σ H D I h
 refine wpAny_execs_cons (thn (h1 zp s σ H D I h) fun f s1 q=>?_)
 cases f with
 | next=>exact wpAny_execs_nil q
 | ret v=>exact q
 | brk=>exact q
 | cont=>exact q
theorem Inv.quiet {zp:List (Addr × Obj)}{σ:St}{H:Hp}{s:Shared} (I:Inv X zp σ H s):interactive X.env = false:=by simp [interactive,I.ok.kind]
def zdm (te:TE):TS:=fun D σ H=>te σ H fun _ H1=>D.nx σ H1
theorem zq (he:PE X e te) (hs:swapsWith e none pos.line X.env = pure false:=by rfl):PS X (.Expr e pos) (zdm te):=by
 intro zp s σ H D I h
 exact wpAny_Expr_any (thn (he zp s σ H _ I h) fun v s1 ⟨x,H1,I1,r1,q1⟩=>⟨σ,H1,I1,q1⟩) I.quiet hs
def tRet (te:TE):TS:=fun D σ H=>te σ H D.rt
theorem zr (he:PE X e te):PS X (.Return (some e) pos) (tRet te):=by
 intro zp s σ H D I h
 exact wpAny_Return_some (thn (he zp s σ H _ I h) fun v s1 ⟨x,H1,I1,r1,q1⟩=>⟨x,σ,H1,I1,r1,q1⟩)
def tIfS (c:TT) (t u:TS):TS:=fun D σ H=>c σ H fun b H1=>if b = true then t D σ H1 else u D σ H1
theorem zG {c:Expr}{a b:List Stmt}{tc:TT} (hc:PT X c tc) (ha:PSs X a t) (hb:PSs X b u):PS X (.If c a b pos) (tIfS tc t u):=by
 intro zp s σ H D I h
 refine wpAny_If (thn (hc zp s σ H _ I h) fun d s1 ⟨H1,I1,q1⟩=>?_)
 cases d with
 | true=>exact ha zp s1 σ H1 D I1 q1
 | false=>exact hb zp s1 σ H1 D I1 q1
end
abbrev TG:=V->St->Hp->(St->Hp->Prop)->Prop
abbrev TGs:=List V->St->Hp->(St->Hp->Prop)->Prop
def PG (X:Cx) (target:Expr) (t:TG):Prop:=
 ∀ (zp:List (Addr × Obj)) (s:Shared) (σ:St) (H:Hp) (v:V) (u:Value) (Q:St->Hp->Prop),Inv X zp σ H s->RelV v u->t v σ H Q->
  wpAny (model X.prog X.w) X.A (assign target X.env u) (fun _ s'=>∃ σ' H',Inv X zp σ' H' s'/\Q σ' H') X.xe s
def PGs (X:Cx) (ts:List Expr) (t:TGs):Prop:=
 ∀ (zp:List (Addr × Obj)) (s:Shared) (σ:St) (H:Hp) (vs:List V) (us:List Value) (Q:St->Hp->Prop),Inv X zp σ H s->Vals vs us->t vs σ H Q->
  wpAny (model X.prog X.w) X.A (assignInOrder ((assignEach ts X.env).map (·.2)) us) (fun _ s'=>∃ σ' H',Inv X zp σ' H' s'/\Q σ' H') X.xe s
abbrev TSet:=V->V->V->Hp->(Hp->Prop)->Prop
def PSet (X:Cx) (t:TSet):Prop:=
 ∀ (zp:List (Addr × Obj)) (s:Shared) (σ:St) (H:Hp) (o i v:V) (ov iv u:Value) (Q:Hp->Prop),Inv X zp σ H s->RelV o ov->RelV i iv->RelV v u->t o i v H Q->
  wpAny (model X.prog X.w) X.A (setItem ov iv u) (fun _ s'=>∃ H',Inv X zp σ H' s'/\Q H') X.xe s
abbrev TIp:=V->V->Hp->VK->Prop
def PIp (X:Cx) (op:Operator) (t:TIp):Prop:=
 ∀ (zp:List (Addr × Obj)) (s:Shared) (σ:St) (H:Hp) (x y:V) (v u:Value) (Q:VK),Inv X zp σ H s->RelV x v->RelV y u->t x y H Q->
  wpAny (model X.prog X.w) X.A (inplaceOp op v u) (EP X zp σ Q) X.xe s
section
variable {X:Cx}{pos:Pos}
def Z7 (i:Nat):TG:=fun v σ H Q=>Q (σ.set i (some v)) H
theorem zV {i:Nat}{x:Str} (hN:X.N.Nodup) (hi:X.N[i]? = some x) (hx:Loc X.env.scope x) (hf:X.fn x = true\/X.env.scope.names.lookup x = some .local:=by first | exact .inl rfl | exact .inr rfl | assumption):PG X (.Name x pos) (Z7 i):=by
 intro zp s σ H v u Q I r h
 exact wpAny_assign_Name (zce I hN hi hx r (fun s' I'=>⟨_,H,I',h⟩) hf)
def gNil:TGs:=fun vs σ H Q=>vs = []/\Q σ H
def zlz (t:TG) (u:TGs):TGs:=fun vs σ H Q=>∃ v r,vs = v :: r/\t v σ H fun σ' H'=>u r σ' H' Q
theorem zcu:PGs X [] gNil:=by
 intro zp s σ H vs us Q I r h
 obtain ⟨e,h⟩:=h
 subst e
 cases r
 exact assignInOrder_nil ⟨σ,H,I,h⟩
theorem ZQ {e:Expr}{es:List Expr}{t:TG}{u:TGs} (h1:PG X e t) (h2:PGs X es u)
  (hs:(assignEach (e :: es) X.env).map (·.2) = assign e X.env :: (assignEach es X.env).map (·.2):=by rfl):PGs X (e :: es) (zlz t u):=by
 intro zp s σ H vs us Q I r h
 obtain ⟨v,vr,e1,h⟩:=h
 subst e1
 cases r with
 | cons r rr=>
  rw [hs]
  refine assignInOrder_cons (thn (h1 zp s σ H _ _ _ I r h) fun _ s1 ⟨σ1,H1,I1,q1⟩=>?_)
  exact h2 zp s1 σ1 H1 _ _ Q I1 rr q1
def gTup (K:PySem.W.Frag) (n:Nat) (t:TGs):TG:=fun v σ H Q=>∃ a xs,v = .ref a/\SqT K H a xs/\xs.length = n/\t xs σ H Q
theorem zcv {es:List Expr}{k:Nat}{t:TGs}{n:Nat} (hc:X.calm = true) (h:PGs X es t)
  (hn:(assignEach es X.env).length = n:=by rfl) (hst:(assignEach es X.env).findIdx? (·.1) = none:=by rfl):PG X (.Tuple es k pos) (gTup X.K n t):=by
 intro zp s σ H v u Q I r hw
 obtain ⟨a,xs,e1,hq,hl,hw⟩:=hw
 subst e1
 cases r
 obtain ⟨its,rv,ht,hz⟩:=I.tuple hq
 refine assign_Tuple_tuple (I.ok.hd hc) ht (by simp [hn,← hl,rv.length]) hst fun h' hx=>?_
 have I1:Inv X zp σ H { s with heap:=h' }:=I.kept (t':=s.toks) fun b o e=>hx b o (Nat.ne_of_lt (Heap.lt_size e)) e
 exact h zp _ σ H xs _ Q I1 (by simpa using rv) hw
def gSub (to ti:TE) (t:TSet):TG:=fun v σ H Q=>to σ H fun o H1=>ti σ H1 fun i H2=>t o i v H2 fun H3=>Q σ H3
theorem zcw {o i:Expr}{to ti:TE}{t:TSet} (ho:PE X o to) (hi:PE X i ti) (hs:PSet X t)
  (ha:∀ v,assign (.Subscript o i pos) X.env v = (do
   let ov ← holding [v] (eval o X.env)
   let iv ← holding [v,ov] (eval i X.env)
   standAt pos
   holding [v,ov,iv] (setItem ov iv v)
   release [v,ov,iv] []):=by intro _; rfl):PG X (.Subscript o i pos) (gSub to ti t):=by
 intro zp s σ H v u Q I r h
 rw [ha]
 refine wpAny_bind (wpAny_holding (thn (ho zp s σ H _ I h) fun ov s1 ⟨x,H1,I1,r1,q1⟩=>?_))
 refine wpAny_bind (wpAny_holding (thn (hi zp s1 σ H1 _ I1 q1) fun iv s2 ⟨y,H2,I2,r2,q2⟩=>?_))
 refine wpAny_bind (wpAny_standAt (wpAny_bind (wpAny_holding (thn (hs zp s2 σ H2 x y v ov iv u _ I2 r1 r2 r q2) fun _ s3 ⟨H3,I3,q3⟩=>?_))))
 exact wpAny_release ⟨σ,H3,I3,q3⟩
def tAsg (te:TE) (g:TG):TS:=fun D σ H=>te σ H fun x H1=>g x σ H1 D.nx
theorem zbc {tg e:Expr}{te:TE}{g:TG} (he:PE X e te) (hg:PG X tg g) (hs:swapsWithSole [tg] e pos.line X.env = pure false:=by rfl) (hw:swappedStores [tg] e X.env = pure none:=by rfl)
  (h1:(assignEach [tg] X.env).map (·.2) = [assign tg X.env]:=by rfl):PS X (.Assign [tg] e pos) (tAsg te g):=by
 intro zp s σ H D I h
 refine wpAny_Assign_stores (thn (he zp s σ H _ I h) fun v s1 ⟨x,H1,I1,r1,q1⟩=>?_) hs hw
 rw [h1]
 exact thn (hg zp s1 σ H1 x v _ I1 r1 q1) fun _ s2 q=>q
theorem zn {i:Nat}{x:Str}{e:Expr}{te:TE}{pos':Pos} (hN:X.N.Nodup) (hi:X.N[i]? = some x) (hx:Loc X.env.scope x) (he:PE X e te) (hs:swapsWith e (some (.Name x pos')) pos.line X.env = pure false:=by rfl) (hf:X.fn x = true\/X.env.scope.names.lookup x = some .local:=by first | exact .inl rfl | exact .inr rfl | assumption):
  PS X (.Assign [.Name x pos'] e pos) (tAsg te (Z7 i)):=by
 intro zp s σ H D I h
 refine wpAny_Assign_Name (thn (he zp s σ H _ I h) fun v s1 ⟨y,H1,I1,r1,q1⟩=>?_) hs
 exact zce I1 hN hi hx r1 (fun s2 I2=>⟨_,H1,I2,q1⟩) hf
def tAug (i:Nat) (te:TE) (ti:TIp):TS:=fun D σ H=>∃ x,σ[i]? = some (some x)/\te σ H fun y H1=>ti x y H1 fun z H2=>D.nx (σ.set i (some z)) H2
theorem zd8 {i:Nat}{x:Str}{e:Expr}{te:TE}{op:Operator}{ti:TIp}{pos':Pos} (hN:X.N.Nodup) (hi:X.N[i]? = some x) (hx:Loc X.env.scope x) (he:PE X e te) (ho:PIp X op ti) (hf:X.fn x = true\/X.env.scope.names.lookup x = some .local:=by first | exact .inl rfl | exact .inr rfl | assumption):
  PS X (.AugAssign (.Name x pos') op e pos) (tAug i te ti):=by
 intro zp s σ H D I h
 obtain ⟨v,e1,h⟩:=h
 obtain ⟨m,hn,hl⟩:=I.loc
 have vis:Vis X.env.scope x:=by rcases hx with k | k; exact .inl k; exact .inr (.inl k)
 obtain ⟨u,r,l⟩:=hl i x v hi e1 vis
 refine wpAny_AugAssign_Name ?_
 have go:wpAny (model X.prog X.w) X.A (eval e X.env) (fun w s₂=>wpAny (model X.prog X.w) X.A (inplaceOp op u w) (fun r s₃=>wpAny (model X.prog X.w) X.A (storeName X.env x r) (fun _=>SP X zp D .next) X.xe s₃) X.xe s₂) X.xe s:=by
  refine thn (he zp s σ H _ I h) fun w s1 ⟨y,H1,I1,r1,q1⟩=>?_
  refine thn (ho zp s1 σ H1 v y u w _ I1 r r1 q1) fun z s2 ⟨zv,H2,I2,r2,q2⟩=>?_
  exact zce I2 hN hi hx r2 (fun s3 I3=>⟨_,H2,I3,q2⟩) hf
 rcases l with ⟨hk,hm⟩ | ⟨hk,c,hc,hcell⟩
 ·exact wpAny_loadName_local I.ok.kind hk hn hm go
 ·rcases hk with hk | hk
  ·exact wpAny_loadName_cell I.ok.kind hk hc hcell go
  ·rcases hx with k | k
   ·have:X.env.scope.names.lookup x = some .free:=hk
    rw [k] at this; cases this
   ·have:X.env.scope.names.lookup x = some .free:=hk
    rw [k] at this; cases this
end
section
variable {X:Cx}{pos:Pos}
def zjZ (c:TT) (tb:TS):TS:=fun D σ H=>∃ W:Nat->St->Hp->Prop,(∃ m,W m σ H)/\∀ m σ H,W m σ H->
 c σ H fun b H1=>if b = true then ∃ N:St->Hp->Prop,(∀ σ' H',N σ' H'->∃ m',m' < m/\W m' σ' H')/\tb { D with nx:=N,ct:=N,bk:=D.nx } σ H1 else D.nx σ H1
theorem zbl {c:Expr}{body:List Stmt}{tc:TT}{tb:TS} (hp:PassesOwn (model X.prog X.w) X.A X.env X.xe) (hc:PT X c tc) (hb:PSs X body tb):PS X (.While c body [] pos) (zjZ tc tb):=by
 intro zp s σ H D I h
 obtain ⟨W,⟨m0,w0⟩,turn⟩:=h
 refine wpAny_While (codeAny_whileLoop (fun n s'=>∃ σ' H',Inv X zp σ' H' s'/\W n σ' H') ?_ m0 ⟨σ,H,I,w0⟩)
 rintro n s1 ⟨σ1,H1,I1,w1⟩
 refine wpAny_passesOwn hp (thn (hc zp s1 σ1 H1 _ I1 (turn n σ1 H1 w1)) fun b s2 ⟨H2,I2,q2⟩=>?_)
 cases b with
 | true=>
  obtain ⟨N,hN,q2⟩:=q2
  rw [if_pos rfl]
  refine wpAny_passesOwn hp (thn (hb zp s2 σ1 H2 _ I2 q2) fun f s3 q3=>?_)
  cases f with
  | next=>
   obtain ⟨σ3,H3,I3,n3⟩:=q3
   obtain ⟨m',hm,w3⟩:=hN σ3 H3 n3
   exact ⟨m',hm,σ3,H3,I3,w3⟩
  | cont=>
   obtain ⟨σ3,H3,I3,n3⟩:=q3
   obtain ⟨m',hm,w3⟩:=hN σ3 H3 n3
   exact ⟨m',hm,σ3,H3,I3,w3⟩
  | brk=>exact q3
  | ret v=>exact q3
 | false=>
  rw [if_neg Bool.false_ne_true]
  exact wpAny_execs_nil ⟨σ1,H2,I2,q2⟩
end
structure It where
 go:Nat->Hp->Prop
 yld:Nat->Hp->V->Hp->Prop
 stop:Nat->Hp->Prop
def FpOk (X:Cx) (zp:List (Addr × Obj)) (H:Hp) (b:Addr):Prop:=
 H b = none/\b≠X.env.locals/\b ∉ X.fs/\(b∈X.ex\/X.s₀.heap.objs.size<=b)/\(∀ x c,X.env.cells.lookup x = some c->c≠b)/\∀ p∈X.pn ++ zp,p.1≠b
theorem Inv.fpOk {X:Cx}{zp:List (Addr × Obj)}{σ:St}{H H':Hp}{s:Shared}{b:Addr} (I:Inv X zp σ H s) (hb:s.heap.objs.size<=b) (hn:H' b = none):FpOk X zp H' b:=by
 refine ⟨hn,Nat.ne_of_gt (Nat.lt_of_lt_of_le I.lt hb),I.nofs hb,.inr (Nat.le_trans I.sz hb),fun x c e z=>?_,fun p hp z=>?_⟩
 ·obtain ⟨v,q⟩:=I.cell x c e
  exact absurd (Nat.lt_of_lt_of_le q.lt (by rw [z]; exact hb)) (Nat.lt_irrefl _)
 ·exact absurd (Nat.lt_of_lt_of_le (Heap.lt_size (I.pin p hp).1) (by rw [z]; exact hb)) (Nat.lt_irrefl _)
structure Turn (P:Program) (w:World) (K:PySem.W.Frag) (tg:Expr) (J:It) (fp:List Addr) (it:Addr) (tn:Nat->Heap->Prop):Prop where
 mem:it∈fp
 obj:∀ i h,tn i h->∀ b∈fp,∃ o,h.get? b = some o/\∀ v,o.data≠.cell v
 keep:∀ i h h',tn i h->(∀ b∈fp,∀ o,h.get? b = some o->h'.get? b = some o)->tn i h'
 item:∀ (X:Cx),X.prog = P->X.w = w->X.K = K->X.calm = true->∀ (i:Nat) (zp:List (Addr × Obj)) (s:Shared) (σ:St) (H:Hp) (E:Value->Shared->Prop),Inv X zp σ H s->(∀ b∈fp,FpOk X zp H b)->tn i s.heap->J.go i H->
  wpAny (model P w) X.A (pyNext (.ref it)) (fun r s1=>∃ u,r = some u /\
   wpAny (model P w) X.A (letOwnedTupleGo tg (.ref it) u) (fun _ s2=>∃ x H',Inv X zp σ H' s2/\RelV x u/\J.yld i H x H'/\tn (i + 1) s2.heap/\∀ b∈fp,H' b = none) E s1) E s
 done:∀ (X:Cx),X.prog = P->X.w = w->X.K = K->X.calm = true->∀ (i:Nat) (zp:List (Addr × Obj)) (s:Shared) (σ:St) (H:Hp) (E:Value->Shared->Prop),Inv X zp σ H s->(∀ b∈fp,FpOk X zp H b)->tn i s.heap->J.stop i H->
  wpAny (model P w) X.A (pyNext (.ref it)) (fun r s1=>r = none/\Inv X zp σ H s1) E s
 self:∀ (A:Around) (i:Nat) (s:Shared) (Q:Value->Shared->Prop) (E:Value->Shared->Prop),tn i s.heap->Q (.ref it) s->wpAny (model P w) A (pyIter (.ref it)) Q E s
abbrev TI:=St->Hp->(It->Hp->Prop)->Prop
def PIE (X:Cx) (zp:List (Addr × Obj)) (σ:St) (tg:Expr) (R:It->Hp->Prop) (itv:Value) (s2:Shared):Prop:=
 ∃ (it:Addr) (fp:List Addr) (tn:Nat->Heap->Prop) (J:It) (H':Hp),itv = .ref it/\Inv X zp σ H' s2/\Turn X.prog X.w X.K tg J fp it tn/\tn 0 s2.heap/\(∀ b∈fp,FpOk X zp H' b)/\R J H'
def PI (X:Cx) (tg iter:Expr) (wi:TI):Prop:=
 ∀ (zp:List (Addr × Obj)) (s:Shared) (σ:St) (H:Hp) (R:It->Hp->Prop),Inv X zp σ H s->wi σ H R->
  wpAny (model X.prog X.w) X.A (eval iter X.env) (fun v s1=>wpAny (model X.prog X.w) X.A (pyIter v) (PIE X zp σ tg R) X.xe s1) X.xe s
theorem ziM {M:Model}{A:Around}{E:Value->Shared->Prop}{s:Shared}{tg:Expr}{it:Addr}{u:Value}{o:Obj}{n:String}{vs:Array Value}{Q:Unit->Shared->Prop} (ho:s.heap.get? it = some o) (hc:o.cls = .type n) (hd:o.data = .fields vs)
  (hn:["enumerate","zip","dict_itemiterator","dict_reverseitemiterator","odict_iterator","itertools.zip_longest","itertools.pairwise"].contains n = false) (hQ:Q () s):wpAny M A (letOwnedTupleGo tg (.ref it) u) Q E s:=by
 unfold letOwnedTupleGo
 cases tg <;> first
  | exact wpAny_pure hQ
  | (
    cases u <;> first
    | exact wpAny_pure hQ
    | (
      refine wpAny_bind (wpAny_load ho ?_)
      rw [hc,hd]
      show wpAny M A (if (["enumerate","zip","dict_itemiterator","dict_reverseitemiterator","odict_iterator","itertools.zip_longest","itertools.pairwise"].contains n && vs[0]? == some (rawInt _)) = true then _ else _) Q E s
      rw [if_neg (by intro h; rw [hn,Bool.false_and] at h; cases h)]
      exact wpAny_pure hQ))
def Itl (K:PySem.W.Frag) (a:Addr):It:=
 ⟨fun i H=>∃ xs x,SqL K H a xs/\xs[i]? = some x,fun i H x H'=>H' = H/\∀ xs,SqL K H a xs->xs[i]? = some x,fun i H=>∃ xs,SqL K H a xs/\xs.length<=i⟩
def Itt (K:PySem.W.Frag) (a:Addr):It:=
 ⟨fun i H=>∃ xs x,SqT K H a xs/\xs[i]? = some x,fun i H x H'=>H' = H/\∀ xs,SqT K H a xs->xs[i]? = some x,fun i H=>∃ xs,SqT K H a xs/\xs.length<=i⟩
def Itr (lo:Int) (n:Nat):It:=⟨fun i _=>i < n,fun i H x H'=>H' = H/\x = .int (lo + i),fun i _=>n<=i⟩
theorem zhf {P:Program}{w:World}{K:PySem.W.Frag}{tg:Expr} (a it:Addr):Turn P w K tg (Itl K a) [it] it (fun i h=>h.IsListIter it a i) where
 mem:=by simp
 obj:=fun i h st b hb=>by
  have e:b = it:=by simpa using hb
  subst e
  obtain ⟨o,e,c,d⟩:=st
  exact ⟨o,e,fun v z=>by rw [d] at z; cases z⟩
 keep:=fun i h h' st k=>st.at fun o e=>k it (by simp) o e
 item:=by
  intro X hP hw hK hc i zp s σ H E I hf st hg
  subst hP hw hK
  obtain ⟨xs,x,hq,hx⟩:=hg
  obtain ⟨its,rv,p,hz⟩:=I.list hq
  obtain ⟨u,hu,ru⟩:=rv.get hx
  obtain ⟨f0,f1,f2,f3,f4,f5⟩:=hf it (by simp)
  refine wpAny_pyNext_list_item st p.isList (x:=u) (by simpa using hu) fun h' st' sb=>?_
  have I1:Inv X zp σ H { s with heap:=h' }:=I.turned (t':=s.toks) (fun b o hb e=>(sb.2 b hb).trans e) f0 f1 f3 f4 f5
  obtain ⟨o,e,c,d⟩:=id st'
  exact ⟨u,rfl,ziM (s:={ s with heap:=h' }) e c d (by decide) ⟨x,H,I1,ru,⟨rfl,fun ys hy=>by rw [I.list_inj hy hq]; exact hx⟩,st',fun b hb=>(hf b hb).1⟩⟩
 done:=by
  intro X hP hw hK hc i zp s σ H E I hf st hg
  subst hP hw hK
  obtain ⟨xs,hq,hx⟩:=hg
  obtain ⟨its,rv,p,hz⟩:=I.list hq
  obtain ⟨f0,f1,f2,f3,f4,f5⟩:=hf it (by simp)
  have hl:=rv.length
  exact wpAny_pyNext_list_end (I.ok.hd hc) st p.isList (by simp; omega) fun h' eb=>⟨rfl,I.turned (t':=s.toks) (fun b o hb e=>eb b o hb e) f0 f1 f3 f4 f5⟩
 self:=fun _ _ _ _ _ st h=>wpAny_pyIter_listiter st h
theorem zgy {P:Program}{w:World}{K:PySem.W.Frag}{tg:Expr} (a it:Addr):Turn P w K tg (Itt K a) [it] it (fun i h=>h.IsTupleIter it a i) where
 mem:=by simp
 obj:=fun i h st b hb=>by
  have e:b = it:=by simpa using hb
  subst e
  obtain ⟨o,e,c,d⟩:=st
  exact ⟨o,e,fun v z=>by rw [d] at z; cases z⟩
 keep:=fun i h h' st k=>st.at fun o e=>k it (by simp) o e
 item:=by
  intro X hP hw hK hc i zp s σ H E I hf st hg
  subst hP hw hK
  obtain ⟨xs,x,hq,hx⟩:=hg
  obtain ⟨its,rv,p,hz⟩:=I.tuple hq
  obtain ⟨u,hu,ru⟩:=rv.get hx
  obtain ⟨f0,f1,f2,f3,f4,f5⟩:=hf it (by simp)
  refine wpAny_pyNext_tuple_item st (show s.heap.IsTuple a its.toArray from p) (x:=u) (by simpa using hu) fun h' st' sb=>?_
  have I1:Inv X zp σ H { s with heap:=h' }:=I.turned (t':=s.toks) (fun b o hb e=>(sb.2 b hb).trans e) f0 f1 f3 f4 f5
  obtain ⟨o,e,c,d⟩:=id st'
  exact ⟨u,rfl,ziM (s:={ s with heap:=h' }) e c d (by decide) ⟨x,H,I1,ru,⟨rfl,fun ys hy=>by rw [I.tuple_inj hy hq]; exact hx⟩,st',fun b hb=>(hf b hb).1⟩⟩
 done:=by
  intro X hP hw hK hc i zp s σ H E I hf st hg
  subst hP hw hK
  obtain ⟨xs,hq,hx⟩:=hg
  obtain ⟨its,rv,p,hz⟩:=I.tuple hq
  obtain ⟨f0,f1,f2,f3,f4,f5⟩:=hf it (by simp)
  have hl:=rv.length
  exact wpAny_pyNext_tuple_end (I.ok.hd hc) st (show s.heap.IsTuple a its.toArray from p) (by simp; omega) fun h' eb=>⟨rfl,I.turned (t':=s.toks) (fun b o hb e=>eb b o hb e) f0 f1 f3 f4 f5⟩
 self:=fun _ _ _ _ _ st h=>wpAny_pyIter_tupleiter st h
theorem zgz {P:Program}{w:World}{K:PySem.W.Frag}{tg:Expr} (it:Addr) (lo:Int) (n:Nat):Turn P w K tg (Itr lo n) [it] it (fun i h=>IsRangeIter h it (lo + (i:Nat) * 1) ((n:Int) - (i:Nat)) 1) where
 mem:=by simp
 obj:=fun i h st b hb=>by
  have e:b = it:=by simpa using hb
  subst e
  exact ⟨_,st,fun v z=>by
   have z':Data.fields _ = Data.cell v:=z
   cases z'⟩
 keep:=fun i h h' st k=>k it (by simp) _ st
 item:=by
  intro X hP hw hK hc i zp s σ H E I hf st hg
  subst hP hw hK
  obtain ⟨f0,f1,f2,f3,f4,f5⟩:=hf it (by simp)
  have W:=Walks.range (prog:=X.prog) (w:=X.w) (I.ok.hd hc) it lo 1 n
  refine W.item i s _ _ hg st fun v h' tk hv st' kk=>?_
  obtain ⟨t,rfl⟩:=hv
  have I1:Inv X zp σ H { s with heap:=h',toks:=tk }:=I.turned (fun b o hb e=>kk b o (by simpa using hb) e) f0 f1 f3 f4 f5
  refine ⟨_,rfl,ziM (s:={ s with heap:=h',toks:=tk }) (n:="range_iterator") st' rfl rfl (by decide) ⟨.int (lo + i),H,I1,⟨t,?_⟩,⟨rfl,rfl⟩,st',fun b hb=>(hf b hb).1⟩⟩
  rw [Int.mul_one]
 done:=by
  intro X hP hw hK hc i zp s σ H E I hf st hg
  subst hP hw hK
  obtain ⟨f0,f1,f2,f3,f4,f5⟩:=hf it (by simp)
  exact wpAny_pyNext_range_end (I.ok.hd hc) st (by have:n<=i:=hg; omega) fun h' eb=>⟨rfl,I.turned (t':=s.toks) (fun b o hb e=>eb b o hb e) f0 f1 f3 f4 f5⟩
 self:=fun _ _ _ _ _ st h=>wpAny_pyIter_rangeiter st h
section
variable {X:Cx}{tg:Expr}
def zlA (K:PySem.W.Frag) (tl:TE):TI:=fun σ H R=>tl σ H fun x H1=>∃ a,x = .ref a/\(∃ xs,SqL K H1 a xs)/\R (Itl K a) H1
def iTup (K:PySem.W.Frag) (tl:TE):TI:=fun σ H R=>tl σ H fun x H1=>∃ a,x = .ref a/\(∃ xs,SqT K H1 a xs)/\R (Itt K a) H1
theorem zaz {l:Expr}{tl:TE} (hl:PE X l tl):PI X tg l (zlA X.K tl):=by
 intro zp s σ H R I h
 refine thn (hl zp s σ H _ I h) fun v s1 ⟨x,H1,I1,r1,q1⟩=>?_
 obtain ⟨a,e,⟨xs,hq⟩,q⟩:=q1
 subst e
 cases r1
 obtain ⟨its,rv,p,hz⟩:=I1.list hq
 refine wpAny_pyIter_list p.isList ?_
 refine ⟨s1.heap.objs.size,[s1.heap.objs.size],_,_,H1,rfl,I1.kept (t':=s1.toks) fun b o e=>Heap.get?_push_of_some _ e,zhf a _,⟨_,Heap.get?_push_size _ rfl,rfl,rfl⟩,fun b hb=>?_,q⟩
 have e:b = s1.heap.objs.size:=by simpa using hb
 subst e
 exact I1.fpOk (Nat.le_refl _) (I1.hok.fresh (Nat.le_refl _))
theorem zfS {l:Expr}{tl:TE} (hl:PE X l tl):PI X tg l (iTup X.K tl):=by
 intro zp s σ H R I h
 refine thn (hl zp s σ H _ I h) fun v s1 ⟨x,H1,I1,r1,q1⟩=>?_
 obtain ⟨a,e,⟨xs,hq⟩,q⟩:=q1
 subst e
 cases r1
 obtain ⟨its,rv,p,hz⟩:=I1.tuple hq
 refine wpAny_pyIter_tuple (show s1.heap.IsTuple a its.toArray from p) ?_
 refine ⟨s1.heap.objs.size,[s1.heap.objs.size],_,_,H1,rfl,I1.kept (t':=s1.toks) fun b o e=>Heap.get?_push_of_some _ e,zgy a _,⟨_,Heap.get?_push_size _ rfl,rfl,rfl⟩,fun b hb=>?_,q⟩
 have e:b = s1.heap.objs.size:=by simpa using hb
 subst e
 exact I1.fpOk (Nat.le_refl _) (I1.hok.fresh (Nat.le_refl _))
theorem zfT {zp:List (Addr × Obj)}{σ:St}{H:Hp}{s:Shared}{R:It->Hp->Prop}{E:Value->Shared->Prop}{lo hi:Int}{t u v:Tok}{tk:Nat} (I:Inv X zp σ H s) (h1:-(2 ^ 62)<=lo) (h2:lo < 2 ^ 62) (h3:-(2 ^ 62)<=hi) (h4:hi < 2 ^ 62)
  (q:R (Itr lo (hi - lo).toNat) H):wpAny (model X.prog X.w) X.A (pyIter (.ref s.heap.objs.size)) (PIE X zp σ tg R) E { s with heap:=s.heap.push { cls:=.type "range",data:=.fields #[.int lo t,.int hi u,.int 1 v] },toks:=tk }:=by
 refine wpAny_pyIter_range (IsRange.new ..) (small_one h1 h2 h3 h4) ?_
 have I1:Inv X zp σ H { s with heap:=s.heap.push { cls:=.type "range",data:=.fields #[.int lo t,.int hi u,.int 1 v] },toks:=tk }:=I.kept fun b o e=>Heap.get?_push_of_some _ e
 refine ⟨(s.heap.push { cls:=.type "range",data:=.fields #[.int lo t,.int hi u,.int 1 v] }).objs.size,[(s.heap.push { cls:=.type "range",data:=.fields #[.int lo t,.int hi u,.int 1 v] }).objs.size],_,_,H,rfl,
  I1.kept (t':=tk) fun b o e=>Heap.get?_push_of_some _ e,zgz _ lo (hi - lo).toNat,?_,fun b hb=>?_,q⟩
 ·have e1:lo + ((0:Nat):Int) * 1 = lo:=by simp
  have e2:(((hi - lo).toNat:Nat):Int) - ((0:Nat):Int) = Builtin.Range.rangeSize lo hi 1:=by rw [rangeSize_one]; split <;> omega
  show IsRangeIter _ _ (lo + ((0:Nat):Int) * 1) ((((hi - lo).toNat:Nat):Int) - ((0:Nat):Int)) 1
  rw [e1,e2]
  exact Heap.get?_push_size _ rfl
 ·have e:b = (s.heap.push { cls:=.type "range",data:=.fields #[.int lo t,.int hi u,.int 1 v] }).objs.size:=by simpa using hb
  subst e
  exact I1.fpOk (Nat.le_refl _) (I1.hok.fresh (Nat.le_refl _))
def zkw (ta:TA):TI:=fun σ H R=>ta σ H fun vs H1=>∃ j:Int,vs = [.int j]/\-(2 ^ 62)<=j/\j < 2 ^ 62/\R (Itr 0 j.toNat) H1
def zlB (ta:TA):TI:=fun σ H R=>ta σ H fun vs H1=>∃ i j:Int,vs = [.int i,.int j]/\(-(2 ^ 62)<=i/\i < 2 ^ 62/\-(2 ^ 62)<=j/\j < 2 ^ 62)/\R (Itr i (j - i).toNat) H1
theorem Zs {a:Expr}{ta:TA}{p pos:Pos} (hg:Gl X "range") (hm:X.mg "range" = none) (ha:PA X [a] ta) (hs:starEach [a] X.env = [(false,eval a X.env)]:=by rfl):PI X tg (.Call (.Name "range" p) [a] [] pos) (zkw ta):=by
 intro zp s σ H R I h
 refine Call_ (zda I hg hm boot_range (PyProof.Rows.callWith_type1 (thn (ha pos zp s σ H _ I h) fun us s1 ⟨vs,H1,I1,r1,q1⟩=>?_) hs rfl))
 obtain ⟨j,e,q1,q2,q⟩:=q1
 subst e
 cases r1 with
 | cons r rr=>
  cases rr
  obtain ⟨t,rfl⟩:=r
  exact call_range_1 (zfT I1 (by omega) (by omega) q1 q2 (by simpa using q))
theorem zaO {a b:Expr}{ta:TA}{p pos:Pos} (hg:Gl X "range") (hm:X.mg "range" = none) (ha:PA X [a,b] ta) (hs:starEach [a,b] X.env = [(false,eval a X.env),(false,eval b X.env)]:=by rfl) (hs2:starEach [b] X.env = [(false,eval b X.env)]:=by rfl):
  PI X tg (.Call (.Name "range" p) [a,b] [] pos) (zlB ta):=by
 intro zp s σ H R I h
 refine Call_ (zda I hg hm boot_range (PyProof.Rows.callWith_type1 (thn (ha pos zp s σ H _ I h) fun us s1 ⟨vs,H1,I1,r1,q1⟩=>?_) (by rw [hs,hs2]) (by rw [hs2]; rfl)))
 obtain ⟨i,j,e,⟨q1,q2,q3,q4⟩,q⟩:=q1
 subst e
 cases r1 with
 | cons r rr=>
  cases rr with
  | cons r' rr=>
   cases rr
   obtain ⟨t,rfl⟩:=r
   obtain ⟨t',rfl⟩:=r'
   exact call_range_2 (zfT I1 q1 q2 q3 q4 q)
def tFor (wi:TI) (g:TG) (tb:TS):TS:=fun D σ H=>wi σ H fun J H1=>∃ W:Nat->Nat->St->Hp->Prop,(∃ m,W 0 m σ H1)/\∀ i m σ H,W i m σ H->
 (J.stop i H/\D.nx σ H)\/(J.go i H/\∃ N:St->Hp->Prop,(∀ σ' H',N σ' H'->∃ m',m' < m/\W (i + 1) m' σ' H')/\∀ x H',J.yld i H x H'->g x σ H' fun σ2 H2=>tb { D with nx:=N,ct:=N,bk:=D.nx } σ2 H2)
def zdc (fp:List Addr) (h:Heap):List (Addr × Obj):=fp.filterMap fun b=>(h.get? b).map fun o=>(b,o)
theorem Z5 {fp:List Addr}{h:Heap}{b:Addr}{o:Obj} (hb:b∈fp) (e:h.get? b = some o):(b,o)∈zdc fp h:=List.mem_filterMap.mpr ⟨b,hb,by rw [e]; rfl⟩
theorem zhg {fp:List Addr}{h:Heap}{p:Addr × Obj} (hp:p∈zdc fp h):p.1∈fp/\h.get? p.1 = some p.2:=by
 obtain ⟨b,hb,e⟩:=List.mem_filterMap.mp hp
 cases q:h.get? b with
 | none=>rw [q] at e; cases e
 | some o=>
  rw [q] at e
  have e':(b,o) = p:=Option.some.inj e
  subst e'
  exact ⟨hb,q⟩
theorem Inv.pinned {zp:List (Addr × Obj)}{σ:St}{H:Hp}{s:Shared}{fp:List Addr} (I:Inv X zp σ H s) (hf:∀ b∈fp,FpOk X zp H b) (ho:∀ b∈fp,∃ o,s.heap.get? b = some o/\∀ v,o.data≠.cell v):Inv X (zp ++ zdc fp s.heap) σ H s:=
 I.pins_of fun p hp=>(List.mem_append.mp hp).elim (fun z=>I.pin p (List.mem_append_right _ z)) fun z=>by
  obtain ⟨hb,e⟩:=zhg z
  obtain ⟨f0,f1,f2,_⟩:=hf p.1 hb
  obtain ⟨o,e',d⟩:=ho p.1 hb
  rw [e] at e'; cases e'
  exact ⟨e,f0,f1,f2,d⟩
theorem Inv.unpinned {zp pl:List (Addr × Obj)}{σ:St}{H:Hp}{s:Shared} (I:Inv X (zp ++ pl) σ H s):Inv X zp σ H s:=I.pins_of fun p hp=>I.pin p (List.mem_append_right _ (List.mem_append_left _ hp))
theorem Z1 {iter:Expr}{body:List Stmt}{wi:TI}{g:TG}{tb:TS}{pos:Pos} (hp:PassesOwn (model X.prog X.w) X.A X.env X.xe) (hc:X.calm = true) (hi:PI X tg iter wi) (hg:PG X tg g) (hb:PSs X body tb)
  (hs:∀ x,foldedSetIterable iter X.env x = pure x:=by intro _; rfl):PS X (.For tg iter body [] pos) (tFor wi g tb):=by
 intro zp s σ H D I h
 refine wpAny_For (thn (hi zp s σ H _ I h) fun v s1 h1=>thn h1 fun itv s2 h2=>?_) hs
 obtain ⟨it,fp,tn,J,H2,e,I2,T,st2,f2,W,⟨m0,w0⟩,turn⟩:=h2
 subst e
 have stat:∀ {H':Hp},(∀ b∈fp,H' b = none)->∀ b∈fp,FpOk X zp H' b:=fun hn b hb=>⟨hn b hb,(f2 b hb).2⟩
 refine codeAny_forLoop_any (fun n s'=>∃ i σ' H',Inv X zp σ' H' s'/\tn i s'.heap/\(∀ b∈fp,H' b = none)/\W i n σ' H') ?_ m0 ⟨0,σ,H2,I2,st2,fun b hb=>(f2 b hb).1,w0⟩
 rintro n s3 ⟨i,σ3,H3,I3,st3,fr3,w3⟩
 rcases turn i n σ3 H3 w3 with ⟨stop,qn⟩ | ⟨go,N,hN,step⟩
 ·refine wpAny_passesOwn hp (thn (T.done X rfl rfl rfl hc i zp s3 σ3 H3 X.xe I3 (stat fr3) st3 stop) fun r s4 ⟨hr,I4⟩=>?_)
  subst hr
  exact wpAny_execs_nil ⟨σ3,H3,I4,qn⟩
 ·refine wpAny_passesOwn hp (thn (T.item X rfl rfl rfl hc i zp s3 σ3 H3 X.xe I3 (stat fr3) st3 go) fun r s4 ⟨u,hr,h4⟩=>?_)
  subst hr
  refine wpAny_passesOwn hp (thn h4 fun _ s5 ⟨x,H5,I5,r5,y5,st5,fr5⟩=>?_)
  have I5':=I5.pinned (stat fr5) (T.obj _ _ st5)
  refine wpAny_passesOwn hp (thn (hg _ s5 σ3 H5 x u _ I5' r5 (step x H5 y5)) fun _ s6 ⟨σ6,H6,I6,q6⟩=>?_)
  refine wpAny_passesOwn hp (thn (hb _ s6 σ6 H6 _ I6 q6) fun f s7 q7=>?_)
  have again:∀ {σ7:St}{H7:Hp},Inv X (zp ++ zdc fp s5.heap) σ7 H7 s7->N σ7 H7->∃ m,m < n/\∃ i σ' H',Inv X zp σ' H' s7/\tn i s7.heap/\(∀ b∈fp,H' b = none)/\W i m σ' H':=fun {σ7 H7} I7 n7=>by
   obtain ⟨m',hm,w7⟩:=hN σ7 H7 n7
   refine ⟨m',hm,i + 1,σ7,H7,I7.unpinned,T.keep _ _ _ st5 fun b hb o e=>(I7.pin (b,o) (List.mem_append_right _ (List.mem_append_right _ (Z5 hb e)))).1,fun b hb=>?_,w7⟩
   obtain ⟨o,e,d⟩:=T.obj _ _ st5 b hb
   exact (I7.pin (b,o) (List.mem_append_right _ (List.mem_append_right _ (Z5 hb e)))).2.1
  cases f with
  | next=>obtain ⟨σ7,H7,I7,n7⟩:=q7; exact again I7 n7
  | cont=>obtain ⟨σ7,H7,I7,n7⟩:=q7; exact again I7 n7
  | brk=>obtain ⟨σ7,H7,I7,q7⟩:=q7; exact ⟨σ7,H7,I7.unpinned,q7⟩
  | ret v=>obtain ⟨x7,σ7,H7,I7,r7,q7⟩:=q7; exact ⟨x7,σ7,H7,I7.unpinned,r7,q7⟩
end
theorem zbm {K:PySem.W.Frag}{a:Addr}{xs:List V}{g:TG}{tb:TS}{D:Ends}{σ:St}{H:Hp} (Pv:Nat->St->Hp->Prop) (h0:Pv 0 σ H) (hl:∀ i σ H,i<=xs.length->Pv i σ H->SqL K H a xs)
  (hs:∀ i x σ H,xs[i]? = some x->Pv i σ H->g x σ H fun σ2 H2=>tb { D with nx:=Pv (i + 1),ct:=Pv (i + 1),bk:=D.nx } σ2 H2) (hd:∀ σ H,Pv xs.length σ H->D.nx σ H):
  ∃ W:Nat->Nat->St->Hp->Prop,(∃ m,W 0 m σ H)/\∀ i m σ H,W i m σ H->
   ((Itl K a).stop i H/\D.nx σ H)\/((Itl K a).go i H/\∃ N:St->Hp->Prop,(∀ σ' H',N σ' H'->∃ m',m' < m/\W (i + 1) m' σ' H')/\∀ x H',(Itl K a).yld i H x H'->g x σ H' fun σ2 H2=>tb { D with nx:=N,ct:=N,bk:=D.nx } σ2 H2):=by
 refine ⟨fun i m σ H=>m = xs.length - i/\i<=xs.length/\Pv i σ H,⟨xs.length,by simp,Nat.zero_le _,h0⟩,?_⟩
 rintro i m σ H ⟨rfl,hi,p⟩
 have q:=hl i σ H hi p
 by_cases hlt:i < xs.length
 ·refine .inr ⟨⟨xs,xs[i],q,by simp [hlt]⟩,Pv (i + 1),fun σ' H' p'=>⟨xs.length - (i + 1),by omega,rfl,hlt,p'⟩,fun x H' y=>?_⟩
  obtain ⟨e,y⟩:=y
  subst e
  exact hs i x σ _ (y xs q) p
 ·have e:i = xs.length:=by omega
  subst e
  exact .inl ⟨⟨xs,q,Nat.le_refl _⟩,hd σ H p⟩
theorem zat {lo:Int}{n:Nat}{g:TG}{tb:TS}{D:Ends}{σ:St}{H:Hp} (Pv:Nat->St->Hp->Prop) (h0:Pv 0 σ H)
  (hs:∀ i σ H,i < n->Pv i σ H->g (.int (lo + i)) σ H fun σ2 H2=>tb { D with nx:=Pv (i + 1),ct:=Pv (i + 1),bk:=D.nx } σ2 H2) (hd:∀ σ H,Pv n σ H->D.nx σ H):
  ∃ W:Nat->Nat->St->Hp->Prop,(∃ m,W 0 m σ H)/\∀ i m σ H,W i m σ H->
   ((Itr lo n).stop i H/\D.nx σ H)\/((Itr lo n).go i H/\∃ N:St->Hp->Prop,(∀ σ' H',N σ' H'->∃ m',m' < m/\W (i + 1) m' σ' H')/\∀ x H',(Itr lo n).yld i H x H'->g x σ H' fun σ2 H2=>tb { D with nx:=N,ct:=N,bk:=D.nx } σ2 H2):=by
 refine ⟨fun i m σ H=>m = n - i/\i<=n/\Pv i σ H,⟨n,by simp,Nat.zero_le _,h0⟩,?_⟩
 rintro i m σ H ⟨rfl,hi,p⟩
 by_cases hlt:i < n
 ·refine .inr ⟨hlt,Pv (i + 1),fun σ' H' p'=>⟨n - (i + 1),by omega,rfl,hlt,p'⟩,fun x H' y=>?_⟩
  obtain ⟨e,y⟩:=y
  subst e y
  exact hs i σ _ hlt p
 ·have e:i = n:=by omega
  subst e
  exact .inl ⟨Nat.le_refl _,hd σ H p⟩
abbrev R2:=V->V->Hp->VK->Prop
def OpR (X:Cx) (f:Value->Value->Sem Value) (r:R2):Prop:=
 ∀ (zp:List (Addr × Obj)) (s:Shared) (σ:St) (H:Hp) (x y:V) (v u:Value) (Q:VK),Inv X zp σ H s->RelV x v->RelV y u->r x y H Q->
  wpAny (model X.prog X.w) X.A (f v u) (EP X zp σ Q) X.xe s
def UnR (X:Cx) (f:Value->Sem Value) (r:V->Hp->VK->Prop):Prop:=
 ∀ (zp:List (Addr × Obj)) (s:Shared) (σ:St) (H:Hp) (x:V) (v:Value) (Q:VK),Inv X zp σ H s->RelV x v->r x H Q->
  wpAny (model X.prog X.w) X.A (f v) (EP X zp σ Q) X.xe s
def zau (X:Cx) (f:Value) (r:List V->Hp->VK->Prop):Prop:=
 ∀ (zp:List (Addr × Obj)) (s:Shared) (σ:St) (H:Hp) (xs:List V) (us:List Value) (Q:VK),Inv X zp σ H s->Vals xs us->r xs H Q->
  wpAny (model X.prog X.w) X.A (call f us) (EP X zp σ Q) X.xe s
def tOp (r:R2) (ta tb:TE):TE:=fun σ H Q=>ta σ H fun x H1=>tb σ H1 fun y H2=>r x y H2 Q
def tUn (r:V->Hp->VK->Prop) (ta:TE):TE:=fun σ H Q=>ta σ H fun x H1=>r x H1 Q
def rI (C:Int->Int->Prop) (g:Int->Int->V):R2:=fun x y H Q=>∃ i j,x = .int i/\y = .int j/\C i j/\Q (g i j) H
def rI0 (g:Int->Int->V):R2:=fun x y H Q=>∃ i j,x = .int i/\y = .int j/\Q (g i j) H
def rU (g:Int->V):V->Hp->VK->Prop:=fun x H Q=>∃ i,x = .int i/\Q (g i) H
section
variable {X:Cx}{a b c:Expr}{ta tb tc:TE}{pos:Pos}
theorem binT (ha:PE X a ta) (hb:PE X b tb) {zp:List (Addr × Obj)}{s:Shared}{σ:St}{H:Hp}{R:V->V->Hp->Prop} (I:Inv X zp σ H s)
  (h:ta σ H fun x H1=>tb σ H1 fun y H2=>R x y H2) {Q:Value->Shared->Prop}{f:Value->Value->Sem Value}
  (hf:∀ v u s2 x y H2,Inv X zp σ H2 s2->RelV x v->RelV y u->R x y H2->wpAny (model X.prog X.w) X.A (f v u) Q X.xe s2):
  wpAny (model X.prog X.w) X.A (eval a X.env) (fun v s₁=>wpAny (model X.prog X.w) X.A (eval b X.env) (fun u s₂=>wpAny (model X.prog X.w) X.A (f v u) Q X.xe s₂) X.xe s₁) X.xe s:=by
 refine thn (ha zp s σ H _ I h) fun v s1 ⟨x,H1,I1,r1,q1⟩=>?_
 refine thn (hb zp s1 σ H1 _ I1 q1) fun u s2 ⟨y,H2,I2,r2,q2⟩=>?_
 exact hf v u s2 x y H2 I2 r1 r2 q2
theorem zw {op:Operator}{r:R2} (ho:OpR X (binaryOp op) r) (ha:PE X a ta) (hb:PE X b tb):PE X (.BinOp a op b pos) (tOp r ta tb):=by
 intro zp s σ H Q I h
 exact wpAny_BinOp (binT ha hb I h fun v u s2 x y H2 I2 rx ry q=>ho zp s2 σ H2 x y v u Q I2 rx ry q)
theorem zhh {op:UnaryOp}{r:V->Hp->VK->Prop} (ho:UnR X (unaryOp op) r) (ha:PE X a ta):PE X (.UnaryOp op a pos) (tUn r ta):=by
 intro zp s σ H Q I h
 exact UnaryOp_ (thn (ha zp s σ H _ I h) fun v s1 ⟨x,H1,I1,r1,q1⟩=>ho zp s1 σ H1 x v Q I1 r1 q1)
theorem opI {f:Value->Value->Sem Value}{C:Int->Int->Prop}{g:Int->Int->Int}
  (rule:∀ (i j:Int) (t u:Tok) (s:Shared) (Q:Value->Shared->Prop) (E:Value->Shared->Prop),C i j->Q (.int (g i j) s.toks) { s with toks:=s.toks + 1 }->wpAny (model X.prog X.w) X.A (f (.int i t) (.int j u)) Q E s):
  OpR X f (rI C fun i j=>.int (g i j)):=by
 intro zp s σ H x y v u Q I rx ry h
 obtain ⟨i,j,rfl,rfl,hc,q⟩:=h
 obtain ⟨t,rfl⟩:=rx
 obtain ⟨t',rfl⟩:=ry
 exact rule i j t t' s _ _ hc ⟨.int (g i j),H,I.tok _,⟨_,rfl⟩,q⟩
theorem opI0 {f:Value->Value->Sem Value}{g:Int->Int->Int}
  (rule:∀ (i j:Int) (t u:Tok) (s:Shared) (Q:Value->Shared->Prop) (E:Value->Shared->Prop),Q (.int (g i j) s.toks) { s with toks:=s.toks + 1 }->wpAny (model X.prog X.w) X.A (f (.int i t) (.int j u)) Q E s):
  OpR X f (rI0 fun i j=>.int (g i j)):=by
 intro zp s σ H x y v u Q I rx ry h
 obtain ⟨i,j,rfl,rfl,q⟩:=h
 obtain ⟨t,rfl⟩:=rx
 obtain ⟨t',rfl⟩:=ry
 exact rule i j t t' s _ _ ⟨.int (g i j),H,I.tok _,⟨_,rfl⟩,q⟩
theorem opB0 {f:Value->Value->Sem Value}{g:Int->Int->Bool}
  (rule:∀ (i j:Int) (t u:Tok) (s:Shared) (Q:Value->Shared->Prop) (E:Value->Shared->Prop),Q (.bool (g i j)) s->wpAny (model X.prog X.w) X.A (f (.int i t) (.int j u)) Q E s):
  OpR X f (rI0 fun i j=>.bl (g i j)):=by
 intro zp s σ H x y v u Q I rx ry h
 obtain ⟨i,j,rfl,rfl,q⟩:=h
 obtain ⟨t,rfl⟩:=rx
 obtain ⟨t',rfl⟩:=ry
 exact rule i j t t' s _ _ ⟨.bl (g i j),H,I,rfl,q⟩
def CPow (i j:Int):Prop:=0<=j/\j<=1000000/\i.natAbs < 2 ^ 64
def CMul (i j:Int):Prop:=(-(2 ^ 64) < i/\i < 2 ^ 64)\/(-(2 ^ 64) < j/\j < 2 ^ 64)
theorem CMul.ok {i j:Int} (h:CMul i j):IntMulOk i j:=by
 rcases h with ⟨h1,h2⟩ | ⟨h1,h2⟩
 ·exact .of_left (intBits_le_64 h1 h2)
 ·exact .of_right (intBits_le_64 h1 h2)
theorem Zi:OpR X (binaryOp .Add) (rI0 fun i j=>.int (i + j)):=opI0 fun _ _ _ _ _ _ _ q=>add_int q
theorem Z2:OpR X (binaryOp .Sub) (rI0 fun i j=>.int (i - j)):=opI0 fun _ _ _ _ _ _ _ q=>sub_int q
theorem zbn:OpR X (binaryOp .Mult) (rI CMul fun i j=>.int (i * j)):=opI fun _ _ _ _ _ _ _ hc q=>mul_int q hc.ok
theorem zaK:OpR X (binaryOp .Mod) (rI (fun _ j=>0 < j) fun i j=>.int (i % j)):=opI fun i j _ _ _ _ _ hc q=>by
 have h1:(0:Int) < j:=hc
 exact mod_int' (by omega) (by rw [Int.fmod_eq_emod_of_nonneg i (by omega)]; exact q)
theorem zbo:OpR X (binaryOp .Pow) (rI CPow fun i j=>.int (i ^ j.toNat)):=opI fun _ _ _ _ _ _ _ hc q=>pow_int_small hc.1 hc.2.1 hc.2.2 q
theorem zhi:OpR X (inplaceOp .Add) (rI0 fun i j=>.int (i + j)):=opI0 fun _ _ _ _ _ _ _ q=>iadd_int q
theorem unI {f:Value->Sem Value}{g:Int->Int}
  (rule:∀ (i:Int) (t:Tok) (s:Shared) (Q:Value->Shared->Prop) (E:Value->Shared->Prop),Q (.int (g i) s.toks) { s with toks:=s.toks + 1 }->wpAny (model X.prog X.w) X.A (f (.int i t)) Q E s):
  UnR X f (rU fun i=>.int (g i)):=by
 intro zp s σ H x v Q I rx h
 obtain ⟨i,rfl,q⟩:=h
 obtain ⟨t,rfl⟩:=rx
 exact rule i t s _ _ ⟨.int (g i),H,I.tok _,⟨_,rfl⟩,q⟩
theorem zhj:UnR X (unaryOp .USub) (rU fun i=>.int (-i)):=unI fun _ _ _ _ _ q=>neg_int q
end
def scal:V->V->Bool
 | .non,.non=>true | .non,.int _=>true | .int _,.non=>true | .non,.bl _=>true | .bl _,.non=>true | .non,.str _=>true | .str _,.non=>true
 | .int _,.int _=>true | .bl _,.bl _=>true | .str _,.str _=>true | .byt _,.byt _=>true
 | .int _,.str _=>true | .str _,.int _=>true | .bl _,.str _=>true | .str _,.bl _=>true
 | _,_=>false
def rEq:R2:=fun x y H Q=>scal x y = true/\Q (.bl (decide (x = y))) H
def rNe:R2:=fun x y H Q=>scal x y = true/\Q (.bl (!decide (x = y))) H
theorem zhk {i j:Int}:decide (V.int i = V.int j) = (i == j):=by
 rw [Bool.eq_iff_iff]
 simp
theorem zj0 {i j:Bool}:decide (V.bl i = V.bl j) = (i == j):=by
 rw [Bool.eq_iff_iff]
 simp
theorem zhl {i j:Str}:decide (V.str i = V.str j) = (i == j):=by
 rw [Bool.eq_iff_iff]
 simp
theorem zhm {i j:Array UInt8}:decide (V.byt i = V.byt j) = (i.toList == j.toList):=by
 rw [Bool.eq_iff_iff]
 cases i
 cases j
 simp
section
variable {X:Cx}{a b c:Expr}{ta tb tc:TE}{pos:Pos}
theorem zT {zp:List (Addr × Obj)}{σ:St}{H:Hp}{s:Shared}{Q:VK}{k k':Bool} (I:Inv X zp σ H s) (q:Q (.bl k) H) (e:k = k'):EP X zp σ Q (.bool k') s:=by
 subst e
 exact ⟨.bl k,H,I,rfl,q⟩
theorem Za:OpR X (compareOp .Eq) rEq:=by
 intro zp s σ H x y v u Q I rx ry h
 obtain ⟨hs,q⟩:=h
 cases x with
 | non=>
  cases rx
  cases y with
  | non=>cases ry; exact PySem.EqNone.eq_none_none (zT I q (by simp))
  | bl j=>cases ry; exact PySem.EqNone.eq_none_bool (zT I q (by simp))
  | int j=>obtain ⟨t',rfl⟩:=ry; exact PySem.EqNone.eq_none_int (zT I q (by simp))
  | str j=>obtain ⟨t',rfl⟩:=ry; exact PySem.EqNone.eq_none_str (zT I q (by simp))
  | _=>exact absurd (show false = true from hs) Bool.false_ne_true
 | bl i=>
  cases rx
  cases y with
  | non=>cases ry; exact PySem.EqNone.eq_bool_none (zT I q (by simp))
  | bl j=>cases ry; exact eq_bool (zT I q zj0)
  | str j=>obtain ⟨t',rfl⟩:=ry; exact PySem.EqMixed.eq_bool_str (zT I q (by simp))
  | _=>exact absurd (show false = true from hs) Bool.false_ne_true
 | int i=>
  obtain ⟨t,rfl⟩:=rx
  cases y with
  | non=>cases ry; exact PySem.EqNone.eq_int_none (zT I q (by simp))
  | int j=>obtain ⟨t',rfl⟩:=ry; exact eq_int (zT I q zhk)
  | str j=>obtain ⟨t',rfl⟩:=ry; exact PySem.EqMixed.eq_int_str (zT I q (by simp))
  | _=>exact absurd (show false = true from hs) Bool.false_ne_true
 | str i=>
  obtain ⟨t,rfl⟩:=rx
  cases y with
  | non=>cases ry; exact PySem.EqNone.eq_str_none (zT I q (by simp))
  | bl j=>cases ry; exact PySem.EqMixed.eq_str_bool (zT I q (by simp))
  | int j=>obtain ⟨t',rfl⟩:=ry; exact PySem.EqMixed.eq_str_int (zT I q (by simp))
  | str j=>obtain ⟨t',rfl⟩:=ry; exact eq_str (zT I q zhl)
  | _=>exact absurd (show false = true from hs) Bool.false_ne_true
 | byt i=>
  obtain ⟨t,rfl⟩:=rx
  cases y with
  | byt j=>obtain ⟨t',rfl⟩:=ry; exact PySem.W.eq_bytes (zT I q zhm)
  | _=>exact absurd (show false = true from hs) Bool.false_ne_true
 | _=>cases y <;> exact absurd (show false = true from hs) Bool.false_ne_true
theorem ziN:OpR X (compareOp .NotEq) rNe:=by
 intro zp s σ H x y v u Q I rx ry h
 obtain ⟨hs,q⟩:=h
 cases x with
 | non=>
  cases rx
  cases y with
  | non=>cases ry; exact PySem.EqNone.ne_none_none (zT I q (by simp))
  | bl j=>cases ry; exact PySem.EqNone.ne_none_bool (zT I q (by simp))
  | int j=>obtain ⟨t',rfl⟩:=ry; exact PySem.EqNone.ne_none_int (zT I q (by simp))
  | str j=>obtain ⟨t',rfl⟩:=ry; exact PySem.EqNone.ne_none_str (zT I q (by simp))
  | _=>exact absurd (show false = true from hs) Bool.false_ne_true
 | bl i=>
  cases rx
  cases y with
  | non=>cases ry; exact PySem.EqNone.ne_bool_none (zT I q (by simp))
  | bl j=>cases ry; exact ne_bool (zT I q (congrArg not zj0))
  | str j=>obtain ⟨t',rfl⟩:=ry; exact PySem.EqMixed.ne_bool_str (zT I q (by simp))
  | _=>exact absurd (show false = true from hs) Bool.false_ne_true
 | int i=>
  obtain ⟨t,rfl⟩:=rx
  cases y with
  | non=>cases ry; exact PySem.EqNone.ne_int_none (zT I q (by simp))
  | int j=>obtain ⟨t',rfl⟩:=ry; exact ne_int (zT I q (congrArg not zhk))
  | str j=>obtain ⟨t',rfl⟩:=ry; exact PySem.EqMixed.ne_int_str (zT I q (by simp))
  | _=>exact absurd (show false = true from hs) Bool.false_ne_true
 | str i=>
  obtain ⟨t,rfl⟩:=rx
  cases y with
  | non=>cases ry; exact PySem.EqNone.ne_str_none (zT I q (by simp))
  | bl j=>cases ry; exact PySem.EqMixed.ne_str_bool (zT I q (by simp))
  | int j=>obtain ⟨t',rfl⟩:=ry; exact PySem.EqMixed.ne_str_int (zT I q (by simp))
  | str j=>obtain ⟨t',rfl⟩:=ry; exact ne_str (zT I q (congrArg not zhl))
  | _=>exact absurd (show false = true from hs) Bool.false_ne_true
 | byt i=>
  obtain ⟨t,rfl⟩:=rx
  cases y with
  | byt j=>obtain ⟨t',rfl⟩:=ry; exact PySem.W.ne_bytes (zT I q (congrArg not zhm))
  | _=>exact absurd (show false = true from hs) Bool.false_ne_true
 | _=>cases y <;> exact absurd (show false = true from hs) Bool.false_ne_true
theorem zgA:OpR X (compareOp .Lt) (rI0 fun i j=>.bl (decide (i < j))):=opB0 fun _ _ _ _ _ _ _ q=>lt_int q
theorem zd9:OpR X (compareOp .LtE) (rI0 fun i j=>.bl (decide (i<=j))):=opB0 fun _ _ _ _ _ _ _ q=>le_int q
theorem zea:OpR X (compareOp .Gt) (rI0 fun i j=>.bl (decide (j < i))):=opB0 fun _ _ _ _ _ _ _ q=>gt_int q
theorem zeb:OpR X (compareOp .In) (fun x y H Q=>∃ i j,x = .str i/\y = .str j/\Q (.bl (!(Builtin.Str.occurrences j i 0 j.length 1).isEmpty)) H):=by
 intro zp s σ H x y v u Q I rx ry h
 obtain ⟨i,j,rfl,rfl,q⟩:=h
 obtain ⟨t,rfl⟩:=rx
 obtain ⟨t',rfl⟩:=ry
 exact in_str (zT I q rfl)
theorem OpR.or {f:Value->Value->Sem Value}{r r':R2} (h:OpR X f r) (h':OpR X f r'):OpR X f (fun x y H Q=>r x y H Q\/r' x y H Q):=by
 intro zp s σ H x y v u Q I rx ry q
 rcases q with q | q
 ·exact h zp s σ H x y v u Q I rx ry q
 ·exact h' zp s σ H x y v u Q I rx ry q
theorem nomark (b:Expr) {op:CmpOp} (h:op≠.In:=by decide) (h2:op≠.NotIn:=by decide):behindInMarks op b = false:=by
 have e1:(op == CmpOp.In) = false:=by cases op <;> first | rfl | exact absurd rfl h
 have e2:(op == CmpOp.NotIn) = false:=by cases op <;> first | rfl | exact absurd rfl h2
 cases b <;> simp [behindInMarks,e1,e2]
theorem zP {op:CmpOp}{r:R2} (ho:OpR X (compareOp op) r) (ha:PE X a ta) (hb:PE X b tb) (hm:behindInMarks op b = false):PE X (.Compare a [op] [b] pos) (tOp r ta tb):=by
 intro zp s σ H Q I h
 exact wpAny_Compare1 (binT ha hb I h fun v u s2 x y H2 I2 rx ry q=>ho zp s2 σ H2 x y v u Q I2 rx ry q) hm
def zdn (t:TE):TT:=fun σ H Q=>t σ H fun x H'=>∃ k,x = .bl k/\Q k H'
theorem zm {op:CmpOp}{r:R2} (ho:OpR X (compareOp op) r) (ha:PE X a ta) (hb:PE X b tb) (hm:behindInMarks op b = false):PT X (.Compare a [op] [b] pos) (zdn (tOp r ta tb)):=by
 intro zp s σ H Q I h
 refine wpAny_isTrue_Compare1 (thn (ha zp s σ H _ I h) fun v s1 ⟨x,H1,I1,r1,q1⟩=>thn (hb zp s1 σ H1 _ I1 q1) fun u s2 ⟨y,H2,I2,r2,q2⟩=>
  thn (ho zp s2 σ H2 x y v u _ I2 r1 r2 q2) fun c s3 ⟨z,H3,I3,r3,k,e,q3⟩=>?_) hm
 subst e
 cases r3
 exact wpAny_truthy_bool ⟨H3,I3,q3⟩
def zfU (r r':R2) (ta tb tc:TE):TE:=fun σ H Q=>ta σ H fun x H1=>tb σ H1 fun y H2=>r x y H2 fun z H3=>∃ k,z = .bl k /\
 (if k = true then tc σ H3 fun w' H4=>r' y w' H4 Q else Q (.bl false) H3)
theorem zbp {op op':CmpOp}{r r':R2} (ho:OpR X (compareOp op) r) (ho':OpR X (compareOp op') r') (ha:PE X a ta) (hb:PE X b tb) (hc:PE X c tc)
  (hm:lastMarks [op,op'] [b,c] = false:=by with_unfolding_all rfl):PE X (.Compare a [op,op'] [b,c] pos) (zfU r r' ta tb tc):=by
 intro zp s σ H Q I h
 refine Compare_chain (thn (ha zp s σ H _ I h) fun v s1 ⟨x,H1,I1,r1,q1⟩=>chain_link (thn (hb zp s1 σ H1 _ I1 q1) fun u s2 ⟨y,H2,I2,r2,q2⟩=>
  thn (ho zp s2 σ H2 x y v u _ I2 r1 r2 q2) fun d s3 ⟨z,H3,I3,r3,k,e,q3⟩=>?_)) hm
 subst e
 cases r3
 refine wpAny_truthy_bool ?_
 cases k with
 | false=>exact ite_ff ⟨.bl false,H3,I3,rfl,q3⟩
 | true=>exact ite_tt (chain_last (thn (hc zp s3 σ H3 _ I3 q3) fun w' s4 ⟨z',H4,I4,r4,q4⟩=>ho' zp s4 σ H4 y z' u w' Q I4 r2 r4 q4))
theorem zcf {op op':CmpOp}{r r':R2} (ho:OpR X (compareOp op) r) (ho':OpR X (compareOp op') r') (ha:PE X a ta) (hb:PE X b tb) (hc:PE X c tc)
  (hm:lastMarks [op,op'] [b,c] = false:=by with_unfolding_all rfl):PT X (.Compare a [op,op'] [b,c] pos) (zdn (zfU r r' ta tb tc)):=by
 intro zp s σ H Q I h
 refine isTrue_chain (thn (ha zp s σ H _ I h) fun v s1 ⟨x,H1,I1,r1,q1⟩=>test_link (thn (hb zp s1 σ H1 _ I1 q1) fun u s2 ⟨y,H2,I2,r2,q2⟩=>
  thn (ho zp s2 σ H2 x y v u _ I2 r1 r2 q2) fun d s3 ⟨z,H3,I3,r3,k,e,q3⟩=>?_)) hm
 subst e
 cases r3
 refine wpAny_truthy_bool ?_
 cases k with
 | false=>
  obtain ⟨k',e',q'⟩:=q3
  cases e'
  exact ite_ff ⟨H3,I3,q'⟩
 | true=>
  refine ite_tt (test_last (thn (hc zp s3 σ H3 _ I3 q3) fun w' s4 ⟨z',H4,I4,r4,q4⟩=>thn (ho' zp s4 σ H4 y z' u w' _ I4 r2 r4 q4) fun d' s5 ⟨z2,H5,I5,r5,k2,e2,q5⟩=>?_))
  subst e2
  cases r5
  exact wpAny_truthy_bool ⟨H5,I5,q5⟩
theorem zec:(sizeLine:Nat) < 2 ^ 63:=by rw [sizeLine_eq]; decide
theorem Zj:OpR X (binaryOp .Add) (fun x y H Q=>∃ i j,x = .str i/\y = .str j/\i.length + j.length<=sizeLine/\Q (.str (i ++ j)) H):=by
 intro zp s σ H x y v u Q I rx ry h
 obtain ⟨i,j,rfl,rfl,hz,q⟩:=h
 obtain ⟨t,rfl⟩:=rx
 obtain ⟨t',rfl⟩:=ry
 exact add_str (fun t' tk=>⟨.str (i ++ j),H,I.tok _,⟨_,rfl⟩,q⟩) hz
theorem zbf {x:V}{us:List Value} (r:Vals [x] us):∃ u,us = [u]/\RelV x u:=by
 cases r with
 | cons r1 r2=>cases r2; exact ⟨_,rfl,r1⟩
theorem ziO {x y:V}{us:List Value} (r:Vals [x,y] us):∃ u w',us = [u,w']/\RelV x u/\RelV y w':=by
 cases r with
 | cons r1 r2=>
  cases r2 with
  | cons r3 r4=>cases r4; exact ⟨_,_,rfl,r1,r3⟩
theorem ziP:zau X (.builtin "abs") (fun xs H Q=>∃ i,xs = [.int i]/\Q (.int (if i < 0 then -i else i)) H):=by
 intro zp s σ H xs us Q I r h
 obtain ⟨i,rfl,q⟩:=h
 obtain ⟨u,rfl,t,rfl⟩:=zbf r
 exact call_abs_int fun u tk=>⟨.int (if i < 0 then -i else i),H,I.tok _,⟨_,rfl⟩,q⟩
theorem zhn (hc:X.calm = true):zau X (.builtin "max") (fun xs H Q=>∃ i j,xs = [.int i,.int j]/\Q (.int (if j > i then j else i)) H):=by
 intro zp s σ H xs us Q I r h
 obtain ⟨i,j,rfl,q⟩:=h
 obtain ⟨u,w',rfl,⟨t,rfl⟩,⟨t',rfl⟩⟩:=ziO r
 refine max_two_ints (I.ok.hd hc) fun h' tk k=>⟨_,H,I.kept k,?_,q⟩
 by_cases hj:j > i
 ·rw [if_pos hj,if_pos hj]; exact ⟨_,rfl⟩
 ·rw [if_neg hj,if_neg hj]; exact ⟨_,rfl⟩
theorem zed (hc:X.calm = true):zau X (.builtin "min") (fun xs H Q=>∃ i j,xs = [.int i,.int j]/\Q (.int (if j < i then j else i)) H):=by
 intro zp s σ H xs us Q I r h
 obtain ⟨i,j,rfl,q⟩:=h
 obtain ⟨u,w',rfl,⟨t,rfl⟩,⟨t',rfl⟩⟩:=ziO r
 refine min_two_ints (I.ok.hd hc) fun h' tk k=>⟨_,H,I.kept k,?_,q⟩
 by_cases hj:j < i
 ·rw [if_pos hj,if_pos hj]; exact ⟨_,rfl⟩
 ·rw [if_neg hj,if_neg hj]; exact ⟨_,rfl⟩
theorem zho:zau X (.type "int") (fun xs H Q=>(∃ i,xs = [.int i]/\Q (.int i) H)\/∃ k,xs = [.bl k]/\Q (.int (if k then 1 else 0)) H):=by
 intro zp s σ H xs us Q I r h
 rcases h with ⟨i,rfl,q⟩ | ⟨k,rfl,q⟩
 ·obtain ⟨u,rfl,t,rfl⟩:=zbf r
  exact call_int_int ⟨.int i,H,I,⟨_,rfl⟩,q⟩
 ·obtain ⟨u,rfl,r1⟩:=zbf r
  cases r1
  exact call_int_bool ⟨.int (if k then 1 else 0),H,I.tok _,⟨_,rfl⟩,q⟩
theorem ziQ:zau X (.builtin "ord") (fun xs H Q=>∃ x,xs = [.str x]/\x.length = 1/\Q (.int (x.cps.getD 0 0:Nat)) H):=by
 intro zp s σ H xs us Q I r h
 obtain ⟨x,rfl,hz,q⟩:=h
 obtain ⟨u,rfl,t,rfl⟩:=zbf r
 exact ord_of_one hz ⟨.int _,H,I.tok _,⟨_,rfl⟩,q⟩
def LenV (K:PySem.W.Frag) (x:V) (H:Hp) (n:Nat):Prop:=
 match x with
 | .str y=>y.length<=sizeLine/\n = y.length
 | .byt y=>y.size<=sizeLine/\n = y.size
 | .ref p=>(∃ xs,SqL K H p xs/\n = xs.length)\/∃ xs,SqT K H p xs/\n = xs.length
 | _=>False
theorem zD:zau X (.builtin "len") (fun xs H Q=>∃ x n,xs = [x]/\LenV X.K x H n/\Q (.int n) H):=by
 intro zp s σ H xs us Q I r h
 obtain ⟨x,n,rfl,e,q⟩:=h
 obtain ⟨u,rfl,rx⟩:=zbf r
 have hl:=zec
 have hs:sizeLine = 16777216:=sizeLine_eq
 cases x with
 | str y=>
  obtain ⟨t,rfl⟩:=rx
  obtain ⟨hy,e'⟩:y.length<=sizeLine/\n = y.length:=e
  subst e'
  exact len_str (by omega) ⟨.int _,H,I.tok _,⟨_,rfl⟩,q⟩
 | byt y=>
  obtain ⟨t,rfl⟩:=rx
  obtain ⟨hy,e'⟩:y.size<=sizeLine/\n = y.size:=e
  subst e'
  exact PySem.W.len_bytes (by omega) ⟨.int _,H,I.tok _,⟨_,rfl⟩,q⟩
 | ref p=>
  cases rx
  have e':(∃ xs,SqL X.K H p xs/\n = xs.length)\/∃ xs,SqT X.K H p xs/\n = xs.length:=e
  rcases e' with ⟨xs,hx,e'⟩ | ⟨xs,hx,e'⟩
  ·subst e'
   obtain ⟨its,r',pl,hz⟩:=I.list hx
   have hlen:=r'.length
   exact Calls.call_len_list pl.isList (by simp only [List.size_toArray]; omega) ⟨.int xs.length,H,I.tok _,⟨_,by simp only [List.size_toArray]; rw [hlen]⟩,q⟩
  ·subst e'
   obtain ⟨its,r',pl,hz⟩:=I.tuple hx
   have hlen:=r'.length
   exact len_tuple pl (by simp only [List.size_toArray]; omega) ⟨.int xs.length,H,I.tok _,⟨_,by simp only [List.size_toArray]; rw [hlen]⟩,q⟩
 | _=>exact (show False from e).elim
end
structure ObjM (h:Heap) (x dx C:Addr) (mA:Str->Option Value):Prop where
 obj:h.get? x = some (instObj C dx)
 ns:h.Ns1 dx mA
 ne:dx≠x
theorem zhp {h:Heap}{dx:Addr}{mA:Str->Option Value} (n:h.Ns1 dx mA):∃ od,h.get? dx = some od/\∀ name,lookIn name od = some (mA name):=by
 obtain ⟨o,es,ep,ho,hd,hk,_,hm⟩:=n
 refine ⟨o,ho,fun name=>?_⟩
 have e:=hm name
 unfold nsFind findBy at e
 rw [← Array.find?_toList] at e
 unfold lookIn
 rw [hd]
 dsimp only
 split
 ·rename_i y q
  rw [q] at e
  exact congrArg some e
 ·rename_i q
  rw [q] at e
  have a:es.toList.any (·.refKey) = false:=by
   rw [List.any_eq_false]
   intro y hy
   obtain ⟨z,t,hkey⟩:=hk y (Array.mem_toList_iff.mp hy)
   simp [DictEntry.refKey,hkey]
  have a':¬ es.toList.any (·.refKey) = true:=by rw [a]; exact Bool.false_ne_true
  rw [if_neg a']
  exact congrArg some e
theorem ObjM.look {h:Heap}{x dx C:Addr}{mA:Str->Option Value} (I:ObjM h x dx C mA):∃ od,InstAt h x (instObj C dx) C (some od)/\∀ name,lookIn name od = some (mA name):=
 let ⟨od,ho,hl⟩:=zhp I.ns
 ⟨od,⟨I.obj,rfl,rfl,ho⟩,hl⟩
section
variable {prog:Program}{w:World}{A:Around}{E:Value->Shared->Prop}{s:Shared}{K:PySem.W.Frag}{x dx C f:Addr}{mA:Str->Option Value}{name:Str}{v:Value}
theorem zkx {expr:Bool}{Q:Value->Shared->Prop} (X:K.In s.heap) (I:ObjM s.heap x dx C mA) (hg:plainGet K C name = true) (hh:hasDictIn K C = true)
  (ha:findIn K (.ref C) name = some none) (hv:mA name = some v) (hv':PySem.W.handedIn v = true) (h:Q v { s with toks:=s.toks + 1 }):
  wpAny (model prog w) A (getAttr (.ref x) name expr) Q E s:=by
 obtain ⟨od,J,hl⟩:=I.look
 exact PySem.W.get_value X J (plainGet_of hg).1 (PySem.W.findObj_own hh ha rfl (by rw [hl,hv])) hv' h
theorem ziR {pl:Sem Bool}{Q:Value × List Value->Shared->Prop} (X:K.In s.heap) (I:ObjM s.heap x dx C mA) (hg:plainGet K C name = true)
  (hf:findIn K (.ref C) name = some (some (.ref f))) (ht:isFn K (.ref f) = true) (hv:mA name = none) (h:Q (.ref f,[.ref x]) s):
  wpAny (model prog w) A (getMethod (.ref x) name pl) Q E s:=by
 obtain ⟨od,J,hl⟩:=I.look
 exact PySem.W.method_fn X J (plainGet_of hg).1 (plainGet_of hg).2 hf (beq_iff_eq.mp ht) (by show (lookIn name od).map (·.isSome) = some false; rw [hl,hv]; rfl) h
theorem zky {ns:List Str}{Q:Unit->Shared->Prop} (X:K.In s.heap) (I:ObjM s.heap x dx C mA)
  (hs:findIn K (.ref C) "__setattr__" = some (some (.builtin "object.__setattr__"))) (hp:plainOver K C = true) (ht:takerIn K C name = some none) (hh:hasDictIn K C = true)
  (hw:PySem.Within mA ns) (hsz:ns.length<=sizeLine)
  (h:∀ h',ObjM h' x dx C (fun y=>if y = name then some v else mA y)->Heap.SameBut dx s.heap h'->Q () { s with heap:=h',toks:=s.toks + 2 }):
  wpAny (model prog w) A (setAttr (.ref x) name v) Q E s:=by
 obtain ⟨od,J,hl⟩:=I.look
 refine PySem.W.set_plain X J hs (PySem.W.osa_open (s:={ s with toks:=s.toks + 1 }) (r:=none) X J hp ht fun b=>?_)
 obtain ⟨cd,hc,hd'⟩:=PySem.W.any_some hh
 have hx:s.heap.get? x = some ⟨.ref C,some dx,.plain,#[]⟩:=I.obj
 refine wpAny_bind (wpAny_pure (wpAny_bind (wpAny_bind (wpAny_loadPart hx (wpAny_bind (PySem.W.Looks.here (s:={ s with toks:=s.toks + 1 }) (PySem.W.looks_clsIn X hc) ?_))))))
 rw [hd']
 refine wpAny_pure (a:=some dx) (wpAny_bind (wpAny_pure (wpAny_bind ?_)))
 refine wpAny_nsSet1 (s:={ s with toks:=s.toks + 1 }) I.ns fun h' hn2 hs2=>?_
 obtain ⟨oD,esD,epD,hoD,hdD,hcD⟩:=hn2.count (PySem.Within.cons name v hw)
 refine wpAny_bind (wpAny_lookBehind hoD (by rw [hdD]; exact pastItsLine_dict (Nat.le_trans hcD (by rw [List.length_cons]; omega))) ?_)
 exact wpAny_pure (h _ ⟨(hs2.2 _ (Ne.symm I.ne)).trans I.obj,hn2,I.ne⟩ hs2)
theorem ziS {R:Result->Shared->Prop}{vs:List Value}{kw:List (Str × Value)} (X:K.In s.heap) (hm:makesIn K C = true)
  (hi:findIn K (.ref C) "__init__" = some (some (.ref f))) (hf:PySem.W.typeIn K (.ref f) = some (.type "function"))
  (h:codeAny (model prog w) (A.under (.builtin "type.__call__" ⟨.ref C :: vs,kw⟩)) (.call (.ref f) ⟨.ref (s.heap.objs.size + 1) :: vs,kw⟩) (PySem.W.InitBack (s.heap.objs.size + 1) R)
   { s with heap:=(s.heap.push emptyDict).push (instObj C s.heap.objs.size) }):
  codeAny (model prog w) A (.call (.ref C) ⟨vs,kw⟩) R s:=by
 obtain ⟨hh,g,d,t,os⟩:=s
 exact PySem.W.make_core (PySem.W.makes_of X hm) (looks_findIn X hi) (fun self=>PySem.W.bind_fn X self hf) (.inl rfl) h
end
def putF (f:Str) (v:V):List (Str × V)->List (Str × V)
 | []=>[(f,v)]
 | (g,x) :: r=>if g = f then (g,v) :: r else (g,x) :: putF f v r
theorem zcx (f g:Str) (v:V):∀ fs:List (Str × V),(putF f v fs).lookup g = if g = f then some v else fs.lookup g
 | []=>by
  show List.lookup g [(f,v)] = _
  by_cases h:g = f
  ·have hb:(g == f) = true:=beq_iff_eq.mpr h
   simp only [List.lookup,hb,if_pos h]
  ·have hb:(g == f) = false:=beq_eq_false_iff_ne.mpr h
   simp only [List.lookup,hb,if_neg h]
 | (k,x) :: r=>by
  have ih:=zcx f g v r
  rw [show putF f v ((k,x) :: r) = (if k = f then (k,v) :: r else (k,x) :: putF f v r) from rfl]
  by_cases hk:k = f
  ·rw [if_pos hk]
   by_cases h:g = k
   ·have hb:(g == k) = true:=beq_iff_eq.mpr h
    simp only [List.lookup,hb,if_pos (h.trans hk)]
   ·have hb:(g == k) = false:=beq_eq_false_iff_ne.mpr h
    simp only [List.lookup,hb,if_neg (fun e:g = f=>h (e.trans hk.symm))]
  ·rw [if_neg hk]
   by_cases h:g = k
   ·have hb:(g == k) = true:=beq_iff_eq.mpr h
    simp only [List.lookup,hb,if_neg (fun e:g = f=>hk (h.symm.trans e))]
   ·have hb:(g == k) = false:=beq_eq_false_iff_ne.mpr h
    simp only [List.lookup,hb]
    exact ih
theorem zcy (f:Str) (v:V):∀ fs:List (Str × V),f∈(putF f v fs).map (·.1)/\∀ g,g∈fs.map (·.1)->g∈(putF f v fs).map (·.1)
 | []=>⟨by simp [putF],fun g h=>by simp at h⟩
 | (k,x) :: r=>by
  obtain ⟨i1,i2⟩:=zcy f v r
  rw [show putF f v ((k,x) :: r) = (if k = f then (k,v) :: r else (k,x) :: putF f v r) from rfl]
  by_cases hk:k = f
  ·rw [if_pos hk]
   subst hk
   exact ⟨by simp,fun g h=>by simpa using h⟩
  ·rw [if_neg hk]
   refine ⟨?_,fun g h=>?_⟩
   ·rw [List.map_cons]
    exact List.mem_cons_of_mem _ i1
   ·rw [List.map_cons] at h ⊢
    rcases List.mem_cons.mp h with e | e
    ·exact List.mem_cons.mpr (.inl e)
    ·exact List.mem_cons_of_mem _ (i2 g e)
theorem zcz (f:Str) (v:V):∀ fs:List (Str × V),(putF f v fs).length<=fs.length + 1
 | []=>by simp [putF]
 | (k,x) :: r=>by
  have ih:=zcz f v r
  rw [show putF f v ((k,x) :: r) = (if k = f then (k,v) :: r else (k,x) :: putF f v r) from rfl]
  by_cases hk:k = f
  ·rw [if_pos hk,List.length_cons,List.length_cons]; omega
  ·rw [if_neg hk,List.length_cons,List.length_cons]; omega
theorem RelO.some_of {v:V}{o:Option Value} (r:RelO (some v) o):∃ u,o = some u/\RelV v u:=by
 cases o with
 | none=>exact (show False from r).elim
 | some u=>exact ⟨u,rfl,r⟩
theorem RelO.none_of {o:Option Value} (r:RelO none o):o = none:=by
 cases o with
 | none=>rfl
 | some u=>exact (show False from r).elim
theorem zhq {v:V}{u:Value} (r:RelV v u):PySem.W.handedIn u = true:=by
 cases v with
 | non=>cases (show u = Value.none from r); rfl
 | bl b=>cases (show u = Value.bool b from r); rfl
 | int i=>obtain ⟨t,e⟩:=(show ∃ t,u = Value.int i t from r); cases e; rfl
 | str x=>obtain ⟨t,e⟩:=(show ∃ t,u = Value.str x t from r); cases e; rfl
 | byt b=>obtain ⟨t,e⟩:=(show ∃ t,u = Value.bytes b t from r); cases e; rfl
 | flt b=>obtain ⟨t,e⟩:=(show ∃ t,u = Value.float b t from r); cases e; rfl
 | ref a=>cases (show u = Value.ref a from r); rfl
 | ty n=>cases (show u = Value.type n from r); rfl
section
variable {P:Program}{w:World}{H H':Hp}{h h':Heap}{a C dx:Addr}{fs fs':List (Str × V)}
theorem zdo (hok:HOk P w H h) (e:H a = some (.ins C dx fs)):∃ mA,ObjM h a dx C mA/\(∀ f,RelO (fs.lookup f) (mA f))/\PySem.Within mA (fs.map (·.1))/\fs.length<=1000/\H dx = some (.own a):=by
 obtain ⟨d,z,ne,ob,mA,n,r,q⟩:=(show Zh P w H h a (.ins C dx fs) from hok a _ e)
 exact ⟨mA,⟨ob,n,ne⟩,r,q,z,d⟩
end
structure Cls (K:PySem.W.Frag) (C:Addr):Prop where
 pg:plainGet K C Str.empty = true
 hd:hasDictIn K C = true
 po:plainOver K C = true
 sa:findIn K (.ref C) "__setattr__" = some (some (.builtin "object.__setattr__"))
theorem Cls.get {K:PySem.W.Frag}{C:Addr} (c:Cls K C) (f:Str):plainGet K C f = true:=c.pg
def zY (K:PySem.W.Frag) (C:Addr) (f:Str):Prop:=findIn K (.ref C) f = some none
theorem zY.taker {K:PySem.W.Frag}{C:Addr}{f:Str} (n:zY K C f):takerIn K C f = some none:=by
 unfold takerIn
 rw [show findIn K (.ref C) f = some none from n]
 rfl
structure Meth (K:PySem.W.Frag) (C:Addr) (m:Str) (f:Addr):Prop where
 at_:findIn K (.ref C) m = some (some (.ref f))
 fn:isFn K (.ref f) = true
 kp:keepIn K (.ref f) = true
section
variable {X:Cx}{zp:List (Addr × Obj)}{σ:St}{H:Hp}{s:Shared}{a C dx:Addr}{fs:List (Str × V)}{f:Str}{v:V}{A:Around}{E:Value->Shared->Prop}
theorem zgB {b:Bool}{Q:Value->Shared->Prop} (I:Inv X zp σ H s) (e:H a = some (.ins C dx fs)) (c:Cls X.K C) (n:zY X.K C f) (l:fs.lookup f = some v)
  (h:∀ u s',Inv X zp σ H s'->RelV v u->Q u s'):wpAny (model X.prog X.w) A (getAttr (.ref a) f b) Q E s:=by
 obtain ⟨mA,O,r,_,_,_⟩:=zdo I.hok e
 obtain ⟨u,hu,ru⟩:=RelO.some_of (v:=v) (o:=mA f) (by rw [← l]; exact r f)
 exact zkx I.kIn O (c.get f) c.hd n hu (zhq ru) (h u _ (I.tok _) ru)
theorem zgC {m:Str}{g:Addr}{pl:Sem Bool}{Q:Value × List Value->Shared->Prop} (I:Inv X zp σ H s) (e:H a = some (.ins C dx fs)) (c:Cls X.K C) (k:Meth X.K C m g) (l:fs.lookup m = none)
  (h:Q (.ref g,[.ref a]) s):wpAny (model X.prog X.w) A (getMethod (.ref a) m pl) Q E s:=by
 obtain ⟨mA,O,r,_,_,_⟩:=zdo I.hok e
 have hn:mA m = none:=RelO.none_of (by rw [← l]; exact r m)
 exact ziR I.kIn O (c.get m) k.at_ k.fn hn h
theorem zgD {y:V}{u:Value}{Q:Unit->Shared->Prop} (I:Inv X zp σ H s) (e:H a = some (.ins C dx fs)) (c:Cls X.K C) (n:zY X.K C f) (hl:fs.length < 1000) (ry:RelV y u)
  (h:∀ s',Inv X zp σ (upd H a (.ins C dx (putF f y fs))) s'->Q () s'):wpAny (model X.prog X.w) A (setAttr (.ref a) f u) Q E s:=by
 obtain ⟨mA,O,r,wi,_,ho⟩:=zdo I.hok e
 have hz:(fs.map (·.1)).length<=sizeLine:=by rw [List.length_map,sizeLine_eq]; omega
 refine zky I.kIn O c.sa c.po n.taker c.hd wi hz fun h' O' sb=>h _ ?_
 have hd:∃ o,h'.get? dx = some o:=let ⟨o,_,_,e',_⟩:=O'.ns; ⟨o,e'⟩
 refine I.write (x:=a) (e:=dx) (by rw [e]; exact True.intro) (.inr ho) (fun b q hb z=>(sb.2 b hb).trans z) hd ?_
 refine ⟨by rw [zg O.ne]; exact ho,?_,O.ne,O'.obj,_,O'.ns,fun g=>?_,fun g hg=>?_⟩
 ·have:=zcz f y fs; omega
 ·show RelO ((putF f y fs).lookup g) (if g = f then some u else mA g)
  rw [zcx]
  by_cases q:g = f
  ·rw [if_pos q,if_pos q]; exact ry
  ·rw [if_neg q,if_neg q]; exact r g
 ·by_cases q:g = f
  ·rw [q]; exact (zcy f y fs).1
  ·refine (zcy f y fs).2 g (wi g fun z=>hg ?_)
   show (if g = f then some u else mA g) = none
   rw [if_neg q]; exact z
theorem Inv.made (I:Inv X zp σ H s):Inv X zp σ (upd (upd H s.heap.objs.size (.own (s.heap.objs.size + 1))) (s.heap.objs.size + 1) (.ins C s.heap.objs.size []))
  { s with heap:=(s.heap.push emptyDict).push (instObj C s.heap.objs.size) }:=by
 have e1:(s.heap.push emptyDict).get? s.heap.objs.size = some emptyDict:=Heap.get?_push_size s.heap rfl
 have e2:((s.heap.push emptyDict).push (instObj C s.heap.objs.size)).get? (s.heap.objs.size + 1) = some (instObj C s.heap.objs.size):=by
  have:=Heap.get?_push_size (s.heap.push emptyDict) (o:=instObj C s.heap.objs.size) rfl
  rwa [Heap.size_push] at this
 have e3:(s.heap.push emptyDict).Ns s.heap.objs.size (fun _=>none):=⟨emptyDict,#[],_,e1,rfl,(fun e he=>absurd he (by simp)),fun _=>rfl⟩
 have I1:=I.laid (a:=s.heap.objs.size) (o:=.own (s.heap.objs.size + 1)) (h':=s.heap.push emptyDict) (t':=s.toks) (fun b u q=>Heap.get?_push_of_some _ q) (Nat.le_refl _) ⟨_,e1⟩
 refine I1.laid (a:=s.heap.objs.size + 1) (o:=.ins C s.heap.objs.size []) (t':=s.toks) (fun b u q=>Heap.get?_push_of_some _ q) (Nat.le_of_eq (Heap.size_push _ _)) ?_
 have ne:s.heap.objs.size≠s.heap.objs.size + 1:=Nat.ne_of_lt (Nat.lt_succ_self _)
 refine ⟨by rw [zg ne,zc],Nat.zero_le _,ne,e2,fun _=>none,(Heap.Ns1.of_empty e3).at fun o q=>Heap.get?_push_of_some _ q,fun _=>True.intro,fun y hy=>absurd rfl hy⟩
theorem zkz {prog:Program}{w:World}{env:Env}{e:Expr}{f:Str}{pos:Pos}{s:Shared}{Q:Value->Shared->Prop} (hb:attributeBase e f env (eval e env) = eval e env)
  (h:wpAny (model prog w) A (eval e env) (fun o s₁=>wpAny (model prog w) A (getAttr o f true) Q E s₁) E s):wpAny (model prog w) A (eval (.Attribute e f pos) env) Q E s:=
 Attribute_any_ h (by rw [arm_eval_Attribute,hb])
end
def tFld (K:PySem.W.Frag) (ta:TE) (f:Str):TE:=fun σ H Q=>ta σ H fun x H1=>∃ a C dx fs v,x = .ref a/\H1 a = some (.ins C dx fs)/\Cls K C/\zY K C f/\fs.lookup f = some v/\Q v H1
def sFld (K:PySem.W.Frag) (ta tv:TE) (f:Str):TS:=fun D σ H=>tv σ H fun y H1=>ta σ H1 fun x H2=>∃ a C dx fs,x = .ref a/\H2 a = some (.ins C dx fs)/\Cls K C/\zY K C f/\fs.length < 1000 /\
 D.nx σ (upd H2 a (.ins C dx (putF f y fs)))
section
variable {X:Cx}{o e value:Expr}{f:Str}{pos pos' tpos:Pos}{ta tv:TE}
theorem Zn (he:PE X e ta) (hb:attributeBase e f X.env (eval e X.env) = eval e X.env):PE X (.Attribute e f pos) (tFld X.K ta f):=by
 intro zp s σ H Q I h
 refine zkz hb (thn (he zp s σ H _ I h) fun u s1 ⟨x,H1,I1,rx,a,C,dx,fs,v,ex,ea,c,n,l,q⟩=>?_)
 subst ex
 obtain rfl:u = Value.ref a:=rx
 exact zgB I1 ea c n l fun u' s2 I2 ru=>⟨v,H1,I2,ru,q⟩
theorem zdd (ha:PE X o ta) (hv:PE X value tv) (hs:swapsWith value (some (.Attribute o f pos')) pos.line X.env = pure false):PS X (.Assign [.Attribute o f pos'] value pos) (sFld X.K ta tv f):=by
 intro zp s σ H D I h
 refine plainObj_wpAny_Assign_Attribute (thn (hv zp s σ H _ I h) fun u s1 ⟨y,H1,I1,ry,q⟩=>thn (ha zp s1 σ H1 _ I1 q) fun ov s2 ⟨x,H2,I2,rx,a,C,dx,fs,ex,ea,c,n,l,q2⟩=>?_) hs
 subst ex
 obtain rfl:ov = Value.ref a:=rx
 exact zgD I2 ea c n l ry fun s3 I3=>⟨σ,_,I3,q2⟩
end
section
variable {X:Cx}{zp:List (Addr × Obj)}{σ:St}{H:Hp}{s:Shared}{A:Around}{E:Value->Shared->Prop}{Q:Value->Shared->Prop}{c:Value}{b:Bool}
inductive TyOf (K:PySem.W.Frag) (H:Hp):V->Value->Prop where
 | non:TyOf K H .non (.type "NoneType")
 | bl (x:Bool):TyOf K H (.bl x) (.type "bool")
 | int (i:Int):TyOf K H (.int i) (.type "int")
 | str (x:Str):TyOf K H (.str x) (.type "str")
 | flt (x:UInt64):TyOf K H (.flt x) (.type "float")
 | lst {a:Addr}{xs:List V} (e:H a = some (.lst xs)):TyOf K H (.ref a) (.type "list")
 | frz {a:Addr}{o:Obj}{xs:List V} (e:H a = some (.frz o (.lst xs))):TyOf K H (.ref a) (.type "list")
 | tup {a:Addr}{xs:List V} (e:H a = some (.tup xs)):TyOf K H (.ref a) (.type "tuple")
 | dK {a:Addr}{kvs:List (Key × V)} (e:H a = some (.dK kvs)):TyOf K H (.ref a) (.type "dict")
 | dT {a:Addr}{kvs:List (List Key × V)} (e:H a = some (.dT kvs)):TyOf K H (.ref a) (.type "dict")
 | ins {a C dx:Addr}{fs:List (Str × V)} (e:H a = some (.ins C dx fs)) (cl:Cls K C) (ha:findIn K (.ref C) "__class__" = some (some (.builtin "object.__class__")))
   (hn:specialIn K (.builtin "object.__class__") "__get__" = some (some (.builtin "getset_descriptor.__get__"))) (htk:takesIn K (.builtin "object.__class__") = some true)
   (hm:mroIn K C (.type "object") = some true):TyOf K H (.ref a) (.ref C)
theorem zhr {x:V}{u t:Value} (I:Inv X zp σ H s) (rx:RelV x u) (ty:TyOf X.K H x t) (e:kitOne X.K t c = some b) (h:∀ tk,Q (.bool b) { s with toks:=tk }):
  wpAny (model X.prog X.w) A (call (.builtin "isinstance") [u,c]) Q E s:=by
 cases ty with
 | non=>cases (show u = Value.none from rx); exact kia_one PySem.W.kitx_none I.kIn True.intro e (fun z=>nomatch z) h
 | bl y=>cases (show u = Value.bool y from rx); exact kia_one PySem.W.kitx_bool I.kIn True.intro e (fun z=>nomatch z) h
 | int i=>obtain ⟨t,q⟩:=(show ∃ t,u = Value.int i t from rx); cases q; exact kia_one PySem.W.kitx_int I.kIn True.intro e (fun z=>nomatch z) h
 | str y=>obtain ⟨t,q⟩:=(show ∃ t,u = Value.str y t from rx); cases q; exact kia_one PySem.W.kitx_str I.kIn True.intro e (fun z=>nomatch z) h
 | flt y=>obtain ⟨t,q⟩:=(show ∃ t,u = Value.float y t from rx); cases q; exact kia_one PySem.W.kitx_float I.kIn True.intro e (fun z=>nomatch z) h
 | @lst a xs ea=>
  cases (show u = Value.ref a from rx)
  obtain ⟨_,_,n,_,h1⟩:=(show Zh X.prog X.w H s.heap a (.lst xs) from I.hok a _ ea)
  exact kia_one PySem.W.kitx_list I.kIn ⟨_,h1,rfl⟩ e (fun z=>nomatch z) h
 | @frz a ob xs ea=>
  cases (show u = Value.ref a from rx)
  obtain ⟨_,_,_,n,_,h1⟩:=(show Zh X.prog X.w H s.heap a (.frz ob (.lst xs)) from I.hok a _ ea)
  exact kia_one PySem.W.kitx_list I.kIn ⟨_,h1,rfl⟩ e (fun z=>nomatch z) h
 | @tup a xs ea=>
  cases (show u = Value.ref a from rx)
  obtain ⟨_,_,_,p⟩:=(show Zh X.prog X.w H s.heap a (.tup xs) from I.hok a _ ea)
  obtain ⟨o,h1,h2,_⟩:=p
  exact kia_one PySem.W.kitx_tuple I.kIn ⟨o,h1,h2⟩ e (fun z=>nomatch z) h
 | @dK a kvs ea=>
  cases (show u = Value.ref a from rx)
  obtain ⟨_,_,vs,_,p⟩:=(show Zh X.prog X.w H s.heap a (.dK kvs) from I.hok a _ ea)
  obtain ⟨o,es,ep,h1,h2,_⟩:=p
  exact kia_one PySem.W.kitx_dict I.kIn ⟨o,h1,h2.1⟩ e (fun z=>nomatch z) h
 | @dT a kvs ea=>
  cases (show u = Value.ref a from rx)
  obtain ⟨_,_,xs,_,o,es,ep,h1,h2,_⟩:=(show Zh X.prog X.w H s.heap a (.dT kvs) from I.hok a _ ea)
  exact kia_one PySem.W.kitx_dict I.kIn ⟨o,h1,h2.1⟩ e (fun z=>nomatch z) h
 | @ins a C dx fs ea cl ha hn htk hm=>
  cases (show u = Value.ref a from rx)
  obtain ⟨mA,O,_⟩:=zdo I.hok ea
  obtain ⟨od,J,_⟩:=O.look
  exact kia_one (PySem.W.kitx_own (cl.get _) cl.hd ha hn htk hm) I.kIn J e (fun z=>nomatch z) h
end
structure Room (k:Nat) (A:Around):Prop where
 hd:A.handled = none
 dp:A.depth + 3 * k + 5 < recursionLimit
 un:A.units + 16 * k + 200 < cLine
theorem Room.mono {j k:Nat}{A:Around} (r:Room k A) (h:j<=k):Room j A:=⟨r.hd,by have:=r.dp; omega,by have:=r.un; omega⟩
theorem Room.deeper {k:Nat}{A:Around} (r:Room (k + 1) A) (env:Env):Room k (A.deeper env):=
 ⟨r.hd,by have:=r.dp; show A.depth + 1 + 3 * k + 5 < _; omega,by have:=r.un; show A.units + 3 + 16 * k + 200 < _; omega⟩
theorem zgE {A:Around}{C:Addr}{us:List Value}{kw:List (Str × Value)}:(A.under (.builtin "type.__call__" ⟨.ref C :: us,kw⟩)).depth = A.depth + 1:=by
 first | rfl | simp [Around.under,Code.weight,Code.isCreation,Code.isGuard,Code.isCaller,Code.frames,Code.isFrame,guardIds]
theorem zgF {A:Around}{C:Addr}{us:List Value}{kw:List (Str × Value)}:(A.under (.builtin "type.__call__" ⟨.ref C :: us,kw⟩)).units = A.units + 1:=by
 first | rfl | simp [Around.under,Code.cUnits,Code.frames,Code.isFrame]
theorem Room.make {k:Nat}{A:Around} (r:Room (k + 1) A) (C:Addr) (us:List Value) (kw:List (Str × Value)):Room k (A.under (.builtin "type.__call__" ⟨.ref C :: us,kw⟩)):=
 ⟨r.hd,by have:=r.dp; rw [zgE]; omega,by have:=r.un; rw [zgF]; omega⟩
theorem Room.depth {k:Nat}{A:Around} (r:Room k A):A.depth < recursionLimit:=by have:=r.dp; omega
theorem Room.units {k:Nat}{A:Around} (r:Room k A):A.units + 64 < cLine:=by have:=r.un; omega
def tNil:TA:=fun _ H Q=>Q [] H
def Zq (ta:TE) (tr:TA):TA:=fun σ H Q=>ta σ H fun x H1=>tr σ H1 fun xs H2=>Q (x :: xs) H2
section
variable {X:Cx}{e:Expr}{es:List Expr}{te:TE}{t:TA}{pos:Pos}
theorem zb:PA X [] tNil:=fun _ _ _ _ H Q I h=>Calls.spliced_nil ⟨[],H,I,.nil,h⟩
theorem za (ha:PE X e te) (hr:PA X es t) (hs:starEach (e :: es) X.env = (false,eval e X.env) :: starEach es X.env:=by rfl):PA X (e :: es) (Zq te t):=by
 intro pos zp s σ H Q I h
 rw [hs]
 show wpAny _ _ (spliced ((false,eval e X.env) :: backTo pos (starEach es X.env))) _ _ s
 refine Calls.spliced_cons (thn (ha zp s σ H _ I h) fun u s1 ⟨x,H1,I1,r1,q1⟩=>?_)
 exact thn (hr pos zp s1 σ H1 _ I1 q1) fun us s2 ⟨xs,H2,I2,r2,q2⟩=>⟨x :: xs,H2,I2,.cons r1 r2,q2⟩
def tTup (t:TA):TE:=fun σ H Q=>t σ H fun xs H1=>xs.length<=sizeLine/\∀ p,H1 p = none->Q (.ref p) (upd H1 p (.tup xs))
def tLst (t:TA):TE:=fun σ H Q=>t σ H fun xs H1=>xs.length<=sizeLine/\∀ p,H1 p = none->Q (.ref p) (upd H1 p (.lst xs))
theorem zt {x1} (h:PA X es t):PE X (.Tuple es x1 pos) (tTup t):=by
 intro zp s σ H Q I hq
 refine wpAny_Tuple_spliced (thn (h pos zp s σ H _ I hq) fun us s1 ⟨xs,H1,I1,r,z,q⟩=>⟨by rw [← r.length]; exact z,?_⟩)
 have hf:H1 s1.heap.objs.size = none:=I1.hok.fresh (Nat.le_refl _)
 refine ⟨.ref s1.heap.objs.size,upd H1 s1.heap.objs.size (.tup xs),I1.laid (t':=s1.toks) (fun b u e=>Heap.get?_push_of_some _ e) (Nat.le_refl _) ?_,rfl,q _ hf⟩
 exact ⟨z,us,r,⟨_,Heap.get?_push_size _ rfl,rfl,_,rfl⟩⟩
theorem zL (h:PA X es t):PE X (.List es pos) (tLst t):=by
 intro zp s σ H Q I hq
 refine wpAny_List_spliced (thn (h pos zp s σ H _ I hq) fun us s1 ⟨xs,H1,I1,r,z,q⟩=>⟨by rw [← r.length]; exact z,?_⟩)
 have hf:H1 s1.heap.objs.size = none:=I1.hok.fresh (Nat.le_refl _)
 refine ⟨.ref s1.heap.objs.size,upd H1 s1.heap.objs.size (.lst xs),I1.laid (t':=s1.toks) (fun b u e=>Heap.get?_push_of_some _ e) (Nat.le_refl _) ?_,rfl,q _ hf⟩
 exact ⟨z,us,0,r,Heap.get?_push_size _ rfl⟩
end
abbrev Sp:=List V->Hp->VK->XK->Prop
abbrev CXT:=List Env->Hp->Shared->XK->Value->Shared->Prop
structure Env0 (P:Program) (w:World) (K:PySem.W.Frag) (mg:Str->Option Value) (base:Heap) (A:Around) (outer:List Env) (s:Shared) (H:Hp):Prop where
 frames:A.frames = some outer
 mod:Mod K mg base
 bs:∀ b o,base.get? b = some o->s.heap.get? b = some o/\H b = none
 bsz:base.objs.size<=s.heap.objs.size
 funs:s.heap.FunFrames base outer
 frf:∀ b∈frs outer,H b = none
 hok:HOk P w H s.heap
 bare:AllBare s.gens
def CE (outer:List Env) (P:Program) (w:World) (H:Hp) (s:Shared) (Q:VK) (u:Value) (s':Shared):Prop:=
 ∃ v H',s'.os = s.os/\AllBare s'.gens/\Un (frs outer) [] H H' s.heap s'.heap/\HOk P w H' s'.heap/\RelV v u/\Q v H'
def CR (CX:CXT) (outer:List Env) (P:Program) (w:World) (H:Hp) (s:Shared) (Q:VK) (E:XK) (r:Result) (s':Shared):Prop:=
 match r with
 | .ok (.ret u)=>CE outer P w H s Q u s'
 | .ok _=>False
 | .error e=>CX outer H s E e s'
structure FnOk (P:Program) (w:World) (K:PySem.W.Frag) (mg:Str->Option Value) (base:Heap) (CX:CXT) (k:Nat) (f:Addr) (fd:FuncData) (ps:List Str) (sp:Sp):Prop where
 len:∀ vs H Q E,sp vs H Q E->vs.length = ps.length
 run:∀ (A:Around) (outer:List Env) (s:Shared) (H:Hp) (args:Args) (us:List Value) (vs:List V) (Q:VK) (E:XK),Room k A->Env0 P w K mg base A outer s H->BindsTo s fd args (ps.zip us)->Vals vs us->sp vs H Q E->
  codeAny (model P w) A (.call (.ref f) args) (CR CX outer P w H s Q E) s
theorem FnOk.mono {P:Program}{w:World}{K:PySem.W.Frag}{mg:Str->Option Value}{base:Heap}{CX:CXT}{j k:Nat}{f:Addr}{fd:FuncData}{ps:List Str}{sp:Sp} (F:FnOk P w K mg base CX j f fd ps sp) (h:j<=k):
  FnOk P w K mg base CX k f fd ps sp:=⟨F.len,fun A outer s H args us vs Q E hr=>F.run A outer s H args us vs Q E (hr.mono h)⟩
theorem Env0.make {P:Program}{w:World}{K:PySem.W.Frag}{mg:Str->Option Value}{base:Heap}{A:Around}{outer:List Env}{s:Shared}{H:Hp} (e:Env0 P w K mg base A outer s H) (C:Addr) (us:List Value) (kw:List (Str × Value)):
  Env0 P w K mg base (A.under (.builtin "type.__call__" ⟨.ref C :: us,kw⟩)) outer s H:=⟨by first | exact e.frames | (simpa [Around.under,Code.envs,Code.isFrame,pushEnvs] using e.frames),e.mod,e.bs,e.bsz,e.funs,e.frf,e.hok,e.bare⟩
section
variable {X:Cx}{zp:List (Addr × Obj)}{σ:St}{H:Hp}{s s':Shared}
theorem Inv.env0 (I:Inv X zp σ H s):Env0 X.prog X.w X.K X.mg X.base X.A X.stack s H:=
 ⟨I.ok.frames,I.ok.mod,I.bs,Nat.le_trans I.ok.bsz I.sz,I.stack,I.stkFree,I.hok,I.bare⟩
theorem Inv.after {Q:VK}{u:Value} (I:Inv X zp σ H s) (h:CE X.stack X.prog X.w H s Q u s'):EP X zp σ Q u s':=by
 obtain ⟨v,H',os,bare,un,hok,r,q⟩:=h
 obtain ⟨hh,g,d,t,os'⟩:=s'
 obtain rfl:os' = s.os:=os
 exact ⟨v,H',I.call (h':=hh) (g':=g) (d':=d) (t':=t) (ch:=[]) un hok bare (fun b z=>absurd z (by simp)),r,q⟩
end
def zb6 (sp:Sp) (dvs:List V) (E:XK) (t:TA):TE:=fun σ H Q=>t σ H fun vs H1=>sp (vs ++ dvs) H1 Q E
def zhs (C:Addr) (m:Str) (sp:Sp) (dvs:List V) (E:XK) (ta:TE) (t:TA):TE:=fun σ H Q=>ta σ H fun x H1=>∃ a dx fs,x = .ref a/\H1 a = some (.ins C dx fs)/\fs.lookup m = none /\
 t σ H1 fun vs H2=>sp (x :: (vs ++ dvs)) H2 Q E
def ziT (C:Addr) (sp:Sp) (dvs:List V) (E:XK) (t:TA):TE:=fun σ H Q=>t σ H fun vs H1=>∀ x dx,H1 x = none->H1 dx = none->dx≠x->
 sp (.ref x :: (vs ++ dvs)) (upd (upd H1 dx (.own x)) x (.ins C dx [])) (fun v H2=>v = .non/\Q (.ref x) H2) E
def Binds (K:PySem.W.Frag) (fd:FuncData) (ps:List Str) (ds:List Value):Prop:=
 ∀ (s:Shared) (us:List Value),K.In s.heap->(us ++ ds).length = ps.length->BindsTo s fd ⟨us,[]⟩ (ps.zip (us ++ ds))
theorem Binds.all {K:PySem.W.Frag}{fd:FuncData}{ps:List Str} (h:∀ us:List Value,us.length = ps.length->bindArgs fd ⟨us,[]⟩ = pure (ps.zip us)):Binds K fd ps []:=fun s us _ hl=>by
 rw [List.append_nil] at hl ⊢
 exact .of_eq (h us hl)
def Passes (CX:CXT) (X:Cx) (E:XK):Prop:=∀ (zp:List (Addr × Obj)) (σ:St) (H:Hp) (s:Shared) (e:Value) (s':Shared),Inv X zp σ H s->CX X.stack H s E e s'->X.xe e s'
section
variable {X:Cx}{CX:CXT}{k:Nat}{f C:Addr}{fd:FuncData}{ps:List Str}{sp:Sp}{dvs:List V}{ds:List Value}{E:XK}{x m:Str}{p pos apos:Pos}{e o:Expr}{es:List Expr}{ta:TE}{t:TA}
theorem zj1 {zp:List (Addr × Obj)}{σ:St}{H:Hp}{s:Shared}{Q:VK}{us:List Value}{vs:List V} (F:FnOk X.prog X.w X.K X.mg X.base CX k f fd ps sp) (hr:Room k X.A) (hb:Binds X.K fd ps ds) (hd:Vals dvs ds) (hx:Passes CX X E)
  (I:Inv X zp σ H s) (r:Vals vs us) (h:sp (vs ++ dvs) H Q E):wpAny (model X.prog X.w) X.A (call (.ref f) us) (EP X zp σ Q) X.xe s:=by
 have r2:Vals (vs ++ dvs) (us ++ ds):=r.append hd
 have hl:(us ++ ds).length = ps.length:=by rw [← r2.length]; exact F.len _ _ _ _ h
 refine wpAny_call (codeAny_mono (F.run X.A X.stack s H ⟨us,[]⟩ (us ++ ds) (vs ++ dvs) Q E hr I.env0 (hb s us I.kIn hl) r2 h) fun r s' hq=>?_)
 cases r with
 | error e=>exact hx zp σ H s e s' I hq
 | ok fl=>
  cases fl with
  | ret u=>exact I.after hq
  | next=>exact False.elim hq
  | brk=>exact False.elim hq
  | cont=>exact False.elim hq
theorem zht (F:FnOk X.prog X.w X.K X.mg X.base CX k f fd ps sp) (hr:Room k X.A) (hg:Gl X x) (hm:X.mg x = some (.ref f)) (hk:keepIn X.K (.ref f) = true) (hb:Binds X.K fd ps ds) (hd:Vals dvs ds) (hx:Passes CX X E)
  (ha:PA X (e :: es) t) (hdb:(x == ("__debug__":Str)) = false:=by decide) (he:starEach (e :: es) X.env = (false,eval e X.env) :: starEach es X.env:=by rfl) (hpl:(backTo pos (starEach es X.env)).any (·.1) = false:=by rfl):
  PE X (.Call (.Name x p) (e :: es) [] pos) (zb6 sp dvs E t):=by
 intro zp s σ H Q I h
 refine wpAny_Call_Name_kw (zbT I hg hm ?_ hdb)
 refine callWith_K (h₀:=X.base) I.ok.mod.kin hk (thn (ha pos zp s σ H _ I h) fun us s1 ⟨vs,H1,I1,r,q⟩=>⟨I1.kIn,?_⟩) he hpl
 exact zj1 F hr hb hd hx I1 r q
theorem zhu {pl:Sem Bool} (he:PE X o ta) (c:Cls X.K C) (hm:Meth X.K C m f) (F:FnOk X.prog X.w X.K X.mg X.base CX k f fd ps sp) (hr:Room k X.A) (hb:Binds X.K fd ps ds) (hd:Vals dvs ds) (hx:Passes CX X E) (ha:PA X (e :: es) t)
  (hst:starEach (e :: es) X.env = (false,eval e X.env) :: starEach es X.env:=by rfl) (hpl:(backTo pos (starEach es X.env)).any (·.1) = false:=by rfl)
  (ht:eval (.Call (.Attribute o m apos) (e :: es) [] pos) X.env = (do
   let ov ← eval o X.env
   standAt apos.atName
   let (f,first) ← holding [ov] (getMethod ov m pl)
   callWith pos f first (backTo pos (starEach (e :: es) X.env)) (backToKw pos (keywordEach [] X.env))):=by rfl):
  PE X (.Call (.Attribute o m apos) (e :: es) [] pos) (zhs C m sp dvs E ta t):=by
 intro zp s σ H Q I h
 refine PySem.W.methodCall_KW (pl:=pl) (thn (he zp s σ H _ I h) fun u s1 ⟨x,H1,I1,rx,a,dx,fs,ex,ea,l,q⟩=>?_) ht
 subst ex
 obtain rfl:u = Value.ref a:=rx
 refine zgC I1 ea c hm l ?_
 refine callWith_K (first:=[.ref a]) (h₀:=X.base) I.ok.mod.kin hm.kp (thn (ha pos zp s1 σ H1 _ I1 q) fun us s2 ⟨vs,H2,I2,r,q2⟩=>⟨I2.kIn,?_⟩) hst hpl
 exact zj1 (us:=.ref a :: us) (vs:=.ref a :: vs) F hr hb hd hx I2 (.cons rfl r) q2
structure Mk (K:PySem.W.Frag) (C f:Addr):Prop where
 makes:makesIn K C = true
 init:findIn K (.ref C) "__init__" = some (some (.ref f))
 fn:isFn K (.ref f) = true
 kp:keepIn K (.ref C) = true
theorem ziU {zp:List (Addr × Obj)}{σ:St}{H:Hp}{s:Shared}{Q:VK}{us:List Value}{vs:List V} (M:Mk X.K C f) (F:FnOk X.prog X.w X.K X.mg X.base CX k f fd ps sp) (hr:Room (k + 1) X.A) (hb:Binds X.K fd ps ds) (hd:Vals dvs ds)
  (hx:Passes CX X E) (I:Inv X zp σ H s) (r:Vals vs us)
  (h:∀ x dx,H x = none->H dx = none->dx≠x->sp (.ref x :: (vs ++ dvs)) (upd (upd H dx (.own x)) x (.ins C dx [])) (fun v H2=>v = .non/\Q (.ref x) H2) E):
  wpAny (model X.prog X.w) X.A (call (.ref C) us) (EP X zp σ Q) X.xe s:=by
 have hq:=h (s.heap.objs.size + 1) s.heap.objs.size (I.hok.fresh (Nat.le_succ _)) (I.hok.fresh (Nat.le_refl _)) (Nat.ne_of_lt (Nat.lt_succ_self _))
 have I2:=Inv.made (C:=C) I
 have r2:Vals (V.ref (s.heap.objs.size + 1) :: (vs ++ dvs)) (Value.ref (s.heap.objs.size + 1) :: (us ++ ds)):=.cons rfl (r.append hd)
 have hl:(Value.ref (s.heap.objs.size + 1) :: us ++ ds).length = ps.length:=by
  have e:=r2.length
  rw [F.len _ _ _ _ hq] at e
  exact e.symm
 refine wpAny_call (ziS (f:=f) I.kIn M.makes M.init (beq_iff_eq.mp M.fn) (codeAny_mono (F.run _ X.stack _ _ ⟨Value.ref (s.heap.objs.size + 1) :: us,[]⟩ (Value.ref (s.heap.objs.size + 1) :: (us ++ ds)) _ _ E (hr.make C us [])
  (I2.env0.make C us []) (hb _ (Value.ref (s.heap.objs.size + 1) :: us) I2.kIn hl) r2 hq) fun r s' hq'=>?_))
 cases r with
 | error e=>exact hx zp σ _ _ e s' I2 hq'
 | ok fl=>
  cases fl with
  | ret u=>
   obtain ⟨v,H',I3,rv,ev,q3⟩:=I2.after hq'
   subst ev
   exact ⟨rv,⟨V.ref (s.heap.objs.size + 1),H',I3,rfl,q3⟩⟩
  | next=>exact False.elim hq'
  | brk=>exact False.elim hq'
  | cont=>exact False.elim hq'
theorem ziV (M:Mk X.K C f) (F:FnOk X.prog X.w X.K X.mg X.base CX k f fd ps sp) (hr:Room (k + 1) X.A) (hg:Gl X x) (hm:X.mg x = some (.ref C)) (hb:Binds X.K fd ps ds) (hd:Vals dvs ds) (hx:Passes CX X E)
  (hdb:(x == ("__debug__":Str)) = false:=by decide):PE X (.Call (.Name x p) [] [] pos) (ziT C sp dvs E tNil):=by
 intro zp s σ H Q I h
 refine wpAny_Call_Name_kw (zbT I hg hm ?_ hdb)
 exact PySem.W.callWith_K0 I.kIn M.kp (ziU (us:=[]) M F hr hb hd hx I .nil h)
end
section
variable {X:Cx}{CX:CXT}{k:Nat}{f C:Addr}{fd:FuncData}{ps ks:List Str}{sp:Sp}{E:XK}{x m:Str}{p pos apos kpos:Pos}{e o:Expr}{es:List Expr}{kws:List Keyword}{te ta:TE}{t tk:TA}{nm:Option Str}
variable {g:List Value->List Value->List Value}{gV:List V->List V->List V}
end
structure FnScope (N P:List Str) (sc:Scope):Prop where
 kind:sc.kind = .function
 co:sc.isCoroutine = false
 gen:sc.isGenerator = false
 nd:N.Nodup
 pre:N.take P.length = P
 par:∀ x∈P,sc.names.lookup x = some .local\/sc.names.lookup x = some .cell
 nofree:∀ y∈sc.names,y.2≠.free
theorem zee {kindOf:Str->Option NameKind}{x:Str}:∀ {binds:List (Str × Value)}{m:Str->Option Value},(∀ v,(x,v) ∉ binds)->bindL kindOf binds m x = m x
 | [],_,_=>rfl
 | (n,v) :: r,m,h=>by
  unfold bindL
  rw [zee fun w hw=>h w (List.mem_cons_of_mem _ hw)]
  split
  ·have:x≠n:=by rintro rfl; exact h v List.mem_cons_self
   simp [this]
  ·rfl
theorem zef {kindOf:Str->Option NameKind}{x:Str}:∀ {binds:List (Str × Value)}{m:Str->Option Value},(∀ v,(x,v) ∉ binds)->bindC kindOf binds m x = m x
 | [],_,_=>rfl
 | (n,v) :: r,m,h=>by
  unfold bindC
  rw [zef fun w hw=>h w (List.mem_cons_of_mem _ hw)]
  split
  ·rfl
  ·have:x≠n:=by rintro rfl; exact h v List.mem_cons_self
   simp [this]
theorem zeg {kindOf:Str->Option NameKind}{x:Str}{v:Value}:∀ {P:List Str}{vs:List Value}{i:Nat}{m:Str->Option Value},P.Nodup->P[i]? = some x->vs[i]? = some v->kindOf x = some .local->
  bindL kindOf (P.zip vs) m x = some v
 | [],_,_,_,_,h,_,_=>by simp at h
 | _ :: _,[],_,_,_,_,h,_=>by simp at h
 | p :: P,w :: vs,0,m,nd,h1,h2,hk=>by
  simp at h1 h2; subst h1; subst h2
  show bindL kindOf ((p,w) :: P.zip vs) m p = _
  unfold bindL
  rw [zee fun v hv=>(List.nodup_cons.mp nd).1 (List.of_mem_zip hv).1,if_pos hk]
  simp
 | p :: P,w :: vs,i + 1,m,nd,h1,h2,hk=>by
  show bindL kindOf ((p,w) :: P.zip vs) m x = _
  unfold bindL
  exact zeg (i:=i) (List.nodup_cons.mp nd).2 (by simpa using h1) (by simpa using h2) hk
theorem zeh {kindOf:Str->Option NameKind}{x:Str}{v:Value}:∀ {P:List Str}{vs:List Value}{i:Nat}{m:Str->Option Value},P.Nodup->P[i]? = some x->vs[i]? = some v->kindOf x≠some .local->
  bindC kindOf (P.zip vs) m x = some v
 | [],_,_,_,_,h,_,_=>by simp at h
 | _ :: _,[],_,_,_,_,h,_=>by simp at h
 | p :: P,w :: vs,0,m,nd,h1,h2,hk=>by
  simp at h1 h2; subst h1; subst h2
  show bindC kindOf ((p,w) :: P.zip vs) m p = _
  unfold bindC
  rw [zef fun v hv=>(List.nodup_cons.mp nd).1 (List.of_mem_zip hv).1,if_neg hk]
  simp
 | p :: P,w :: vs,i + 1,m,nd,h1,h2,hk=>by
  show bindC kindOf ((p,w) :: P.zip vs) m x = _
  unfold bindC
  exact zeh (i:=i) (List.nodup_cons.mp nd).2 (by simpa using h1) (by simpa using h2) hk
def start (N:List Str) (vs:List V):St:=vs.map some ++ List.replicate (N.length - vs.length) none
def cxOf (CX:CXT) (P:Program) (w:World) (K:PySem.W.Frag) (mg:Str->Option Value) (base:Heap) (N:List Str) (qual:Str) (scope:Scope) (f:Addr) (cd:Value) (A:Around) (outer:List Env) (s:Shared) (H:Hp) (E:XK):Cx where
 prog:=P
 w:=w
 K:=K
 mg:=mg
 base:=base
 A:=A.deeper (envOfC qual scope s.heap.objs.size f cd)
 N:=N
 s₀:=s
 H₀:=H
 env:=envOfC qual scope s.heap.objs.size f cd
 outer:=outer
 stack:=envOfC qual scope s.heap.objs.size f cd :: outer
 ex:=[]
 calm:=true
 fn:=fun _=>true
 pn:=[]
 xe:=fun e s'=>wpAny (model P w) (A.deeper (envOfC qual scope s.heap.objs.size f cd)) (leaving (envOfC qual scope s.heap.objs.size f cd) e) (fun _ s''=>CX outer H s E e s'') (fun e' s''=>CX outer H s E e' s'') s'
theorem zfV {sc:Scope}{n:Nat}{x:Str} (h:sc.names.lookup x = some .cell):∃ c,(cellsFrom n sc.names []).lookup x = some c:=by
 have q:=PySem.W.cellsFrom_some sc.names n [] (.inl h)
 exact Option.isSome_iff_exists.mp q
theorem zhv {CX:CXT}{P:Program}{w:World}{K:PySem.W.Frag}{mg:Str->Option Value}{base:Heap}{N ps:List Str}{qual:Str}{scope:Scope}{f:Addr}{cd:Value}{A:Around}{outer:List Env}{s s1:Shared}{H:Hp}{E:XK}{us:List Value}{vs:List V}
  (S:FnScope N ps scope) (hd:A.handled = none) (e0:Env0 P w K mg base A outer s H) (hl:vs.length = ps.length) (r:Vals vs us)
  (x:InCallC s s.heap.objs.size (bindL (envOfC qual scope s.heap.objs.size f cd).kindOf (ps.zip us) fun _=>none) (cellsFrom (s.heap.objs.size + 1) scope.names []) (bindC (envOfC qual scope s.heap.objs.size f cd).kindOf (ps.zip us) fun _=>none) s1):
  Inv (cxOf CX P w K mg base N qual scope f cd A outer s H E) [] (start N vs) H s1:=by
 have hpl:ps.length<=N.length:=by have:=congrArg List.length S.pre; rw [List.length_take] at this; omega
 obtain ⟨h1,tk,rfl,hk⟩:=x.done
 have noA:∀ b:Addr,b ∉ (cxOf CX P w K mg base N qual scope f cd A outer s H E).ex:=fun b z=>absurd (show b∈([]:List Addr) from z) (by simp)
 refine ⟨⟨e0.mod,S.kind,rfl,rfl,Nat.le_refl _,fun y z c h1 h2=>?_,fun y hy=>?_,fun y c _ h=>?_,fun _=>hd,Around.frames_deeper e0.frames,.inr ⟨rfl,rfl⟩,fun b z=>absurd z (noA b),e0.bs,e0.bsz,fun b _ _=>noA b,fun b z=>absurd z (noA b),e0.funs,e0.frf⟩,
  rfl,e0.bare,Un.kept hk,⟨_,x.toInCall.ns,fun i y v h1 h2 h3=>?_⟩,fun y c h=>⟨_,x.cell y c h⟩,e0.hok.fresh (Nat.le_refl _),fun y c h=>?_,fun p hp=>absurd (show p∈([]:List (Addr × Obj)) from hp) (by simp),e0.hok.kept hk,?_⟩
 ·exact name_of_addr x.apart (PySem.mem_of_lookup h1) (PySem.mem_of_lookup h2)
 ·have hy:scope.names.lookup y = some .cell\/scope.names.lookup y = some .free:=hy
  rcases hy with hy | hy
  ·exact zfV hy
  ·exact absurd rfl (S.nofree _ (PySem.mem_of_lookup hy))
 ·exact Nat.le_of_lt (x.above y c (PySem.mem_of_lookup h))
 ·have hi:i < vs.length:=by
   unfold start at h2
   by_cases hi:i < vs.length
   ·exact hi
   ·rw [List.getElem?_append_right (by simpa using hi)] at h2
    rw [List.getElem?_replicate] at h2
    split at h2 <;> cases h2
  have ha:vs[i]? = some v:=by
   unfold start at h2
   rw [List.getElem?_append_left (by simpa using hi),List.getElem?_map] at h2
   cases e:vs[i]? with
   | none=>rw [e] at h2; cases h2
   | some a=>rw [e] at h2; cases h2; rfl
  obtain ⟨u,hu,rv⟩:=r.get ha
  have hp:ps[i]? = some y:=by
   rw [← S.pre,List.getElem?_take_of_lt (by omega)]; exact h1
  have ndP:ps.Nodup:=by rw [← S.pre]; exact S.nd.sublist (List.take_sublist _ _)
  refine ⟨u,rv,?_⟩
  rcases S.par y (List.mem_of_getElem? hp) with k | k
  ·exact .inl ⟨k,zeg ndP hp hu k⟩
  ·obtain ⟨c,e⟩:=zfV (n:=s.heap.objs.size + 1) k
   refine .inr ⟨.inl k,c,e,?_⟩
   have q:=x.cell y c e
   rw [zeh ndP hp hu (by show scope.names.lookup y≠_; rw [k]; decide)] at q
   exact q
 ·exact e0.hok.fresh (Nat.le_of_lt (x.above y c (PySem.mem_of_lookup h)))
 ·unfold start
  show _ = N.length
  rw [List.length_append,List.length_map,List.length_replicate]
  omega
theorem zlC {CX:CXT}{P:Program}{w:World}{K:PySem.W.Frag}{mg:Str->Option Value}{base:Heap}{k:Nat}{f:Addr}{name qual:Str}{params:Arguments}{body:List Stmt}{scope:Scope}{dV kV doc pm cdv ct oc:Value}{an od:Option Addr}
  {osl:Array (Option Value)}{N ps:List Str}{sp:Sp} (lk:K.lookup f = some ⟨oc,od,.func (fnOf name qual params body scope dV kV doc pm an cdv ct),osl⟩) (hcd:codeIn K cdv qual = true) (S:FnScope N ps scope)
  (len:∀ vs H Q E,sp vs H Q E->vs.length = ps.length)
  (hbody:∀ (A:Around) (outer:List Env) (s:Shared) (H:Hp) (vs:List V) (Q:VK) (E:XK),Room k (A.deeper (envOfC qual scope s.heap.objs.size f cdv))->sp vs H Q E->
   ∃ t,PSs (cxOf CX P w K mg base N qual scope f cdv A outer s H E) body t/\t { nx:=fun _ H'=>Q .non H',rt:=Q } (start N vs) H):
  FnOk P w K mg base CX (k + 1) f (fnOf name qual params body scope dV kV doc pm an cdv ct) ps sp:=by
 refine ⟨len,fun A outer s H args us vs Q E hr e0 hb r hsp=>?_⟩
 have hl:=len _ _ _ _ hsp
 have KX:K.In s.heap:=e0.mod.kin.keeps fun b o e=>(e0.bs b o e).1
 have lim:s.heap.NoLimit:=e0.mod.nolimit.keeps fun b o e=>(e0.bs b o e).1
 have hkind:∀ y∈ps.zip us,scope.names.lookup y.1 = some .local\/(scope.names.lookup y.1 = some .cell/\((cellsFrom (s.heap.objs.size + 1) scope.names []).lookup y.1).isSome = true):=fun ⟨n,v⟩ hy=>by
  rcases S.par n (List.of_mem_zip hy).1 with q | q
  ·exact .inl q
  ·exact .inr ⟨q,PySem.W.cellsFrom_some _ _ _ (.inl q)⟩
 refine codeAny_call_function hr.depth (KX _ _ lk) rfl S.co S.gen rfl (PySem.W.codeRec_of KX hcd) (hb _ _ _ _ ?_)
 refine wpAny_newFunctionEnv_cells S.kind hkind fun env he s1 x=>?_
 subst he
 refine ⟨lim.keeps x.toInCall.keep,codeAny_func ?_⟩
 obtain ⟨t,ht,hq⟩:=hbody A outer s H vs Q E (hr.deeper _) hsp
 have I:Inv (cxOf CX P w K mg base N qual scope f cdv A outer s H E) [] (start N vs) H s1:=zhv S hr.hd e0 hl r x
 refine wpAny_mono (ht [] s1 (start N vs) H _ I hq) (fun fl s' hs=>?_) fun e s' hs=>hs
 have fin:∀ {σ':St}{H':Hp}{v:V}{u:Value},Inv (cxOf CX P w K mg base N qual scope f cdv A outer s H E) [] σ' H' s'->RelV v u->Q v H'->CE outer P w H s Q u s':=
  fun {σ' H' v u} J rv q=>⟨v,H',J.os,J.bare,J.base,J.hok,rv,q⟩
 cases fl with
 | ret u=>
  obtain ⟨v,σ',H',J,rv,q⟩:=hs
  exact fin J rv q
 | next=>
  obtain ⟨σ',H',J,q⟩:=hs
  exact fin (v:=V.non) (u:=Value.none) J rfl q
 | brk=>
  obtain ⟨_,_,_,q⟩:=hs
  exact False.elim q
 | cont=>
  obtain ⟨_,_,_,q⟩:=hs
  exact False.elim q
section
variable {X:Cx}{x:Str}{p pos:Pos}{e:Expr}{es:List Expr}{t:TA}{id T:String}{r:List V->Hp->VK->Prop}
def tCB (r:List V->Hp->VK->Prop) (t:TA):TE:=fun σ H Q=>t σ H fun vs H1=>r vs H1 Q
theorem zl (hc:zau X (.builtin id) r) (hg:Gl X x) (hm:X.mg x = none) (hv:bootBuiltins x = some (.builtin id)) (ha:PA X (e :: es) t) (hn:x≠"__name__":=by decide) (hdb:(x == ("__debug__":Str)) = false:=by decide)
  (he:starEach (e :: es) X.env = (false,eval e X.env) :: starEach es X.env:=by rfl) (hpl:(backTo pos (starEach es X.env)).any (·.1) = false:=by rfl):PE X (.Call (.Name x p) (e :: es) [] pos) (tCB r t):=by
 intro zp s σ H Q I h
 refine wpAny_Call_Name_kw (zda I hg hm hv ?_ hn hdb)
 exact PyProof.Rows.callWith_builtin1 (thn (ha pos zp s σ H _ I h) fun us s1 ⟨vs,H1,I1,r1,q1⟩=>hc zp s1 σ H1 vs us Q I1 r1 q1) he hpl
theorem Zu (hc:zau X (.type T) r) (hg:Gl X x) (hm:X.mg x = none) (hv:bootBuiltins x = some (.type T)) (ha:PA X (e :: es) t) (hn:x≠"__name__":=by decide) (hdb:(x == ("__debug__":Str)) = false:=by decide)
  (he:starEach (e :: es) X.env = (false,eval e X.env) :: starEach es X.env:=by rfl) (hpl:(backTo pos (starEach es X.env)).any (·.1) = false:=by rfl):PE X (.Call (.Name x p) (e :: es) [] pos) (tCB r t):=by
 intro zp s σ H Q I h
 refine wpAny_Call_Name_kw (zda I hg hm hv ?_ hn hdb)
 exact PyProof.Rows.callWith_type1 (thn (ha pos zp s σ H _ I h) fun us s1 ⟨vs,H1,I1,r1,q1⟩=>hc zp s1 σ H1 vs us Q I1 r1 q1) he hpl
end
section
variable {κ:Type} [DecidableEq κ]
def valV (kvs:List (κ × V)) (k:κ):Option V:=(kvs.find? fun kv=>decide (kv.1 = k)).map (·.2)
def putK (kvs:List (κ × V)) (k:κ) (v:V):List (κ × V):=
 if (kvs.any fun kv=>decide (kv.1 = k)) = true then kvs.map (fun kv=>if kv.1 = k then (kv.1,v) else kv) else kvs ++ [(k,v)]
def zI (kvs:List (κ × V)) (k:κ):List (κ × V):=kvs.filter fun kv=>decide (kv.1≠k)
theorem Zo {p:κ × V}{r:List (κ × V)}{k:κ} (e:p.1 = k):valV (p :: r) k = some p.2:=by simp [valV,List.find?_cons,e]
theorem Zg {p:κ × V}{r:List (κ × V)}{k:κ} (e:¬ p.1 = k):valV (p :: r) k = valV r k:=by simp [valV,List.find?_cons,e]
theorem Z3 (k:κ):∀ kvs:List (κ × V),(kvs.any fun kv=>decide (kv.1 = k)) = (valV kvs k).isSome
 | []=>rfl
 | p :: r=>by
  rw [List.any_cons]
  by_cases e:p.1 = k
  ·simp only [Zo e,decide_eq_true e,Bool.true_or,Option.isSome_some]
  ·rw [Zg e,decide_eq_false e,Bool.false_or]; exact Z3 k r
theorem zfW (k j:κ) (y:V):∀ kvs:List (κ × V),valV (kvs.map fun kv=>if kv.1 = k then (kv.1,y) else kv) j = (valV kvs j).map fun x=>if j = k then y else x
 | []=>rfl
 | p :: r=>by
  have ih:=zfW k j y r
  rw [List.map_cons]
  by_cases h:p.1 = k
  ·rw [if_pos h]
   by_cases e:p.1 = j
   ·rw [Zo (p:=(p.1,y)) e,Zo e,Option.map_some,if_pos (e.symm.trans h)]
   ·rw [Zg (p:=(p.1,y)) e,Zg e,ih]
  ·rw [if_neg h]
   by_cases e:p.1 = j
   ·rw [Zo (p:=p) e,Zo e,Option.map_some,if_neg (fun z=>h (e.trans z))]
   ·rw [Zg (p:=p) e,Zg e,ih]
theorem zei (k j:κ) (y:V):∀ kvs:List (κ × V),valV kvs k = none->valV (kvs ++ [(k,y)]) j = if j = k then some y else valV kvs j
 | [],_=>by
  by_cases e:k = j
  ·rw [if_pos e.symm]; exact Zo (p:=(k,y)) e
  ·rw [if_neg (fun z=>e z.symm)]; exact Zg (p:=(k,y)) e
 | p :: r,hn=>by
  rw [List.cons_append]
  have hk:¬ p.1 = k:=fun z=>by rw [Zo z] at hn; cases hn
  rw [Zg hk] at hn
  have ih:=zei k j y r hn
  by_cases e:p.1 = j
  ·rw [Zo e,Zo e,if_neg (fun z=>hk (e.trans z))]
  ·rw [Zg e,Zg e,ih]
theorem zcg (kvs:List (κ × V)) (k j:κ) (y:V):valV (putK kvs k y) j = if j = k then some y else valV kvs j:=by
 unfold putK
 by_cases a:(kvs.any fun kv=>decide (kv.1 = k)) = true
 ·rw [if_pos a,zfW]
  rw [Z3] at a
  by_cases e:j = k
  ·obtain ⟨x,hx⟩:=Option.isSome_iff_exists.mp a
   rw [if_pos e,e,hx,Option.map_some,if_pos rfl]
  ·rw [if_neg e]
   cases valV kvs j with
   | none=>rfl
   | some x=>rw [Option.map_some,if_neg e]
 ·rw [if_neg a]
  refine zei k j y kvs ?_
  rw [Z3] at a
  cases q:valV kvs k with
  | none=>rfl
  | some x=>rw [q] at a; exact (a rfl).elim
theorem zcA (kvs:List (κ × V)) (k:κ) (v:V):(putK kvs k v).length<=kvs.length + 1:=by
 unfold putK
 split
 ·rw [List.length_map]; omega
 ·rw [List.length_append,List.length_cons,List.length_nil]; omega
theorem ziW {kvs:List (κ × V)}{k:κ} (v:V) (h:valV kvs k = none):putK kvs k v = kvs ++ [(k,v)]:=by
 unfold putK
 rw [Z3,h]
 exact if_neg (by decide)
theorem RelO.isSome_eq {o:Option V}{u:Option Value} (r:RelO o u):o.isSome = u.isSome:=by
 cases o with
 | none=>cases u with
  | none=>rfl
  | some _=>exact (show False from r).elim
 | some _=>cases u with
  | none=>exact (show False from r).elim
  | some _=>rfl
theorem RelO.getD {o:Option V}{u:Option Value}{d:V}{d':Value} (r:RelO o u) (rd:RelV d d'):RelV (o.getD d) (u.getD d'):=by
 cases o with
 | none=>cases u with
  | none=>exact rd
  | some _=>exact (show False from r).elim
 | some _=>cases u with
  | none=>exact (show False from r).elim
  | some _=>exact r
theorem KV.val {kvs:List (κ × V)}{vs:List (κ × Value)} (r:KV kvs vs) (k:κ):RelO (valV kvs k) (valueAt vs k):=by
 unfold KV at r
 induction r with
 | nil=>exact True.intro
 | @cons p q ps qs h t ih=>
  obtain ⟨h1,h2⟩:=h
  by_cases e:p.1 = k
  ·have e':q.1 = k:=h1.symm.trans e
   have b:valueAt (q :: qs) k = some q.2:=by simp [valueAt,List.find?_cons,e']
   rw [Zo e,b]; exact h2
  ·have e':¬ q.1 = k:=fun z=>e (h1.trans z)
   have b:valueAt (q :: qs) k = valueAt qs k:=by simp [valueAt,List.find?_cons,e']
   rw [Zg e,b]; exact ih
theorem KV.any {kvs:List (κ × V)}{vs:List (κ × Value)} (r:KV kvs vs) (k:κ):(kvs.any fun kv=>decide (kv.1 = k)) = vs.any fun kv=>decide (kv.1 = k):=by
 unfold KV at r
 induction r with
 | nil=>rfl
 | cons h t ih=>rw [List.any_cons,List.any_cons,ih,h.1]
theorem KV.repl {kvs:List (κ × V)}{vs:List (κ × Value)} (r:KV kvs vs) (k:κ) {y:V}{u:Value} (ry:RelV y u):
  KV (kvs.map fun kv=>if kv.1 = k then (kv.1,y) else kv) (vs.map fun kv=>if kv.1 = k then (kv.1,u) else kv):=by
 unfold KV at r ⊢
 induction r with
 | nil=>exact .nil
 | @cons p q ps qs h t ih=>
  rw [List.map_cons,List.map_cons]
  refine .cons ?_ ih
  obtain ⟨h1,h2⟩:=h
  by_cases e:p.1 = k
  ·rw [if_pos e,if_pos (h1.symm.trans e)]; exact ⟨h1,ry⟩
  ·rw [if_neg e,if_neg (fun z=>e (h1.trans z))]; exact ⟨h1,h2⟩
theorem KV.put {kvs:List (κ × V)}{vs:List (κ × Value)} (r:KV kvs vs) (k:κ) {y:V}{u:Value} (ry:RelV y u):KV (putK kvs k y) (stored vs k u):=by
 unfold putK stored
 rw [r.any k]
 by_cases e:(vs.any fun kv=>decide (kv.1 = k)) = true
 ·rw [if_pos e,if_pos e]; exact r.repl k ry
 ·rw [if_neg e,if_neg e]; exact Paired.snoc r ⟨rfl,ry⟩
theorem KV.drop {kvs:List (κ × V)}{vs:List (κ × Value)} (r:KV kvs vs) (k:κ):KV (zI kvs k) (without vs k):=by
 unfold KV at r ⊢
 unfold zI without
 induction r with
 | nil=>exact .nil
 | @cons p q ps qs h t ih=>
  obtain ⟨h1,h2⟩:=h
  rw [List.filter_cons,List.filter_cons]
  by_cases e:p.1 = k
  ·have a:¬ decide (p.1≠k) = true:=by simp [e]
   have b:¬ decide (q.1≠k) = true:=by simp [h1.symm.trans e]
   rw [if_neg a,if_neg b]; exact ih
  ·have e':¬ q.1 = k:=fun z=>e (h1.trans z)
   have a:decide (p.1≠k) = true:=by simp [e]
   have b:decide (q.1≠k) = true:=by simp [e']
   rw [if_pos a,if_pos b]; exact .cons ⟨h1,h2⟩ ih
theorem KV.length {kvs:List (κ × V)}{vs:List (κ × Value)} (r:KV kvs vs):kvs.length = vs.length:=Paired.length r
theorem ziX (kvs:List (κ × V)) (k:κ):(zI kvs k).length<=kvs.length:=List.length_filter_le _ _
end
theorem zdp {P:Program}{w:World}{k:Key}{u:Value} (r:RelV (kV k) u):(zF P w).is k u = true:=by
 cases k with
 | inl i=>obtain ⟨t,e⟩:=(show ∃ t,u = Value.int i t from r); subst e; exact ze9 P w i t
 | inr x=>obtain ⟨t,e⟩:=(show ∃ t,u = Value.str x t from r); subst e; exact Zz P w x t
theorem zej {P:Program}{w:World}:∀ {ks:List Key}{us:List Value},Vals (ks.map kV) us->ItemsAre (zF P w) ks us
 | [],_,r=>by rw [List.map_nil] at r; cases r; exact .nil
 | k :: ks,_,r=>by
  rw [List.map_cons] at r
  cases r with
  | cons h t=>exact .cons (zdp h) (zej t)
abbrev KT (H:Hp):List (List Key × V)->List (List Key × Addr × Value)->Prop:=Paired fun p q=>p.1 = q.1/\H q.2.1 = some (.tup (p.1.map kV))/\RelV p.2 q.2.2
theorem KT.val {H:Hp}{kvs:List (List Key × V)}{xs:List (List Key × Addr × Value)} (r:KT H kvs xs) (k:List Key):RelO (valV kvs k) ((atKey xs k).map (·.2)):=by
 induction r with
 | nil=>exact True.intro
 | @cons p q ps qs h t ih=>
  obtain ⟨h1,_,h2⟩:=h
  by_cases e:p.1 = k
  ·have e':q.1 = k:=h1.symm.trans e
   have b:atKey (q :: qs) k = some q.2:=by simp [atKey,List.find?_cons,e']
   rw [Zo e,b]; exact h2
  ·have e':¬ q.1 = k:=fun z=>e (h1.trans z)
   have b:atKey (q :: qs) k = atKey qs k:=by simp [atKey,List.find?_cons,e']
   rw [Zg e,b]; exact ih
theorem KT.repl {H:Hp}{kvs:List (List Key × V)}{xs:List (List Key × Addr × Value)} (r:KT H kvs xs) (k:List Key) {y:V}{u:Value} (ry:RelV y u):
  KT H (kvs.map fun kv=>if kv.1 = k then (kv.1,y) else kv) (xs.map (putAt k u)):=by
 induction r with
 | nil=>exact .nil
 | @cons p q ps qs h t ih=>
  rw [List.map_cons,List.map_cons]
  refine .cons ?_ ih
  obtain ⟨h1,h2,h3⟩:=h
  unfold putAt
  by_cases e:p.1 = k
  ·rw [if_pos e,if_pos (h1.symm.trans e)]; exact ⟨h1,h2,ry⟩
  ·rw [if_neg e,if_neg (fun z=>e (h1.trans z))]; exact ⟨h1,h2,h3⟩
theorem KT.put {H:Hp}{kvs:List (List Key × V)}{xs:List (List Key × Addr × Value)} (r:KT H kvs xs) (k:List Key) {b:Addr}{y:V}{u:Value} (hb:H b = some (.tup (k.map kV))) (ry:RelV y u):
  KT H (putK kvs k y) (storedH xs k b u):=by
 have e:(kvs.any fun kv=>decide (kv.1 = k)) = (atKey xs k).isSome:=by
  rw [Z3,(r.val k).isSome_eq,Option.isSome_map]
 unfold putK storedH
 rw [e]
 by_cases q:(atKey xs k).isSome = true
 ·rw [if_pos q,if_pos q]; exact r.repl k ry
 ·rw [if_neg q,if_neg q]; exact Paired.snoc r ⟨rfl,hb,ry⟩
theorem KT.keeps {H H':Hp}{kvs:List (List Key × V)}{xs:List (List Key × Addr × Value)} (r:KT H kvs xs) (ht:∀ b ys,H b = some (.tup ys)->H' b = some (.tup ys)):KT H' kvs xs:=
 Paired.mapP r fun _ _ z=>⟨z.1,ht _ _ z.2.1,z.2.2⟩
section
variable {P:Program}{w:World}{H:Hp}{h:Heap}{a:Addr}
theorem zlD {u:HO} (ok:HOk P w H h) (e:Rd H a u):Zh P w H h a u:=e.ok ok
theorem zkA {kvs:List (Key × V)} (ok:HOk P w H h) (e:Rd H a (.dK kvs)):kvs.length<=sizeLine/\(a == sysModules) = false/\∃ vs,KV kvs vs/\h.DictOf (zF P w) a vs:=
 show Zh P w H h a (.dK kvs) from zlD ok e
theorem zhw {kvs:List (Key × V)} (ok:HOk P w H h) (e:H a = some (.dK kvs)):kvs.length<=sizeLine/\(a == sysModules) = false/\∃ vs,KV kvs vs/\h.DictOf (zF P w) a vs:=zkA ok (.inl e)
theorem zhx {ks:List Key} (ok:HOk P w H h) (e:H a = some (.tup (ks.map kV))):(tupleKind (zF P w)).is h ks a:=by
 obtain ⟨_,its,r,o,h1,h2,n,h3⟩:=(show Zh P w H h a (.tup (ks.map kV)) from ok a _ e)
 exact ⟨o,its.toArray,n,h1,h2,h3,by simpa using zej r⟩
theorem zkB {kvs:List (List Key × V)} (ok:HOk P w H h) (e:Rd H a (.dT kvs)):kvs.length<=sizeLine/\(a == sysModules) = false /\
  ∃ xs,KT H kvs xs/\h.DictOfH (tupleKind (zF P w)) a xs:=by
 obtain ⟨z,y,xs,r,o,es,ep,h1,h2,h3,h4,h5⟩:=(show Zh P w H h a (.dT kvs) from zlD ok e)
 refine ⟨z,y,xs,r,o,es,ep,h1,h2,h3,h4,fun x hx=>?_,h5⟩
 have all:∀ {l:List (List Key × V)}{m:List (List Key × Addr × Value)},KT H l m->∀ x∈m,(tupleKind (zF P w)).is h x.1 x.2.1:=by
  intro l m q
  induction q with
  | nil=>intro x hx; exact nomatch hx
  | @cons p q ps qs hq t ih=>
   intro x hx
   rcases List.mem_cons.mp hx with e | hx
   ·subst e
    exact zhx ok (by rw [← hq.1]; exact hq.2.1)
   ·exact ih x hx
 exact all r x hx
theorem zmC {kvs:List (List Key × V)} (ok:HOk P w H h) (e:H a = some (.dT kvs)):kvs.length<=sizeLine/\(a == sysModules) = false /\
  ∃ xs,KT H kvs xs/\h.DictOfH (tupleKind (zF P w)) a xs:=zkB ok (.inl e)
end
def DGet (H:Hp) (a:Addr) (y:V) (r:Option V):Prop:=
 (∃ kvs k,Rd H a (.dK kvs)/\y = kV k/\r = valV kvs k)\/∃ kvs k b,Rd H a (.dT kvs)/\y = .ref b/\H b = some (.tup (k.map kV))/\r = valV kvs k
def DPut (H:Hp) (a:Addr) (y v:V) (H':Hp):Prop:=
 (∃ kvs k,H a = some (.dK kvs)/\y = kV k/\kvs.length < sizeLine/\H' = upd H a (.dK (putK kvs k v))) \/
 ∃ kvs k b,H a = some (.dT kvs)/\y = .ref b/\H b = some (.tup (k.map kV))/\kvs.length < sizeLine/\H' = upd H a (.dT (putK kvs k v))
theorem DGet.k {H:Hp}{a:Addr}{kvs:List (Key × V)}{k:Key} (e:H a = some (.dK kvs)):DGet H a (kV k) (valV kvs k):=.inl ⟨kvs,k,.inl e,rfl,rfl⟩
section
variable {X:Cx}{zp:List (Addr × Obj)}{σ:St}{H:Hp}{s:Shared}{a:Addr}{y v:V}{u r:Value}{o:Option V}{A:Around}{E:Value->Shared->Prop}
theorem Inv.big (I:Inv X zp σ H s):sysModules < s.heap.objs.size:=by
 have h:mainGlobals < s.heap.objs.size:=(I.mod.glob.keeps I.bk).lt
 exact Nat.lt_trans (by decide) h
theorem d_in {Q:Value->Shared->Prop} (hu:A.units + 1 < cLine) (I:Inv X zp σ H s) (g:DGet H a y o) (ry:RelV y u) (h:∀ s',Inv X zp σ H s'->Q (.bool o.isSome) s'):
  wpAny (model X.prog X.w) A (compareOp .In u (.ref a)) Q E s:=by
 rcases g with ⟨kvs,k,e,ey,l⟩ | ⟨kvs,k,b,e,ey,eb,l⟩
 ·subst ey
  obtain ⟨z,hd,vs,rel,dd⟩:=zkA I.hok e
  refine wpAny_in_of (zdp ry) hd dd.mapOf ?_
  rw [← (rel.val k).isSome_eq,← l]
  exact h _ (I.tok _)
 ·subst ey
  cases (show u = Value.ref b from ry)
  obtain ⟨z,hd,xs,rel,dd⟩:=zkB I.hok e
  refine wpAny_in_heap (tupleKind_room_in1 hu) (zhx I.hok eb) hd dd ?_
  have q:=(rel.val k).isSome_eq
  rw [Option.isSome_map] at q
  rw [← q,← l]
  exact h _ (I.tok _)
theorem zfa {h':Heap}{t':Nat}{ob:HO} (I:Inv X zp σ H s) (mu:Mut (H a)) (hs:Heap.SameBut a s.heap h') (he:∃ q,h'.get? a = some q) (new:Zh X.prog X.w (upd H a ob) h' a ob):
  Inv X zp σ (upd H a ob) { s with heap:=h',toks:=t' }:=
 I.write (x:=a) (e:=a) mu (.inl rfl) (fun b q hb z=>(hs.2 b hb).trans z) he new
theorem zj2 {P:Program}{w:World}{H':Hp}{h':Heap}{kvs:List (Key × V)}{vs:List (Key × Value)} (z:kvs.length<=sizeLine) (hd:(a == sysModules) = false) (rel:KV kvs vs) (dd:h'.DictOf (zF P w) a vs):
  Zh P w H' h' a (.dK kvs):=⟨z,hd,vs,rel,dd⟩
theorem zhy {H':Hp}{Q:Unit->Shared->Prop} (hu:A.units + 1 < cLine) (I:Inv X zp σ H s) (g:DPut H a y v H') (ry:RelV y u) (rv:RelV v r) (h:∀ s',Inv X zp σ H' s'->Q () s'):
  wpAny (model X.prog X.w) A (setItem (.ref a) u r) Q E s:=by
 rcases g with ⟨kvs,k,e,ey,l,eH⟩ | ⟨kvs,k,b,e,ey,eb,l,eH⟩
 ·subst ey eH
  obtain ⟨z,hd,vs,rel,dd⟩:=zhw I.hok e
  have hz:vs.length<=sizeLine:=by rw [← rel.length]; exact z
  have hl:(putK kvs k v).length<=sizeLine:=by have:=zcA kvs k v; omega
  refine wpAny_setItem_pairs (hsz:=hz) (zdp ry) dd fun h' dd' hs=>h _ ?_
  have he:∃ q,h'.get? a = some q:=let ⟨q,_,_,hq,_⟩:=dd'; ⟨q,hq⟩
  exact zfa I (by rw [e]; exact True.intro) hs he (zj2 hl hd (rel.put k rv) dd')
 ·subst ey eH
  cases (show u = Value.ref b from ry)
  obtain ⟨z,hd,xs,rel,dd⟩:=zmC I.hok e
  have hz:xs.length<=sizeLine:=by rw [← Paired.length rel]; exact z
  have hl:(putK kvs k v).length<=sizeLine:=by have:=zcA kvs k v; omega
  refine wpAny_setItem_heap (hsz:=hz) (tupleKind_room_in1 hu) (zhx I.hok eb) dd fun h' dd' hs=>h _ ?_
  obtain ⟨q,es,ep,hq,h2,h3,h4,_,h5⟩:=dd'
  refine zfa I (by rw [e]; exact True.intro) hs ⟨q,hq⟩ ⟨hl,hd,_,(rel.put k eb rv).keeps fun c ys ec=>?_,q,es,ep,hq,h2,h3,h4,h5⟩
  rw [zg (zks ec e (fun z=>nomatch z))]
  exact ec
end
section
variable {X:Cx}{zp:List (Addr × Obj)}{σ:St}{H:Hp}{s:Shared}{a:Addr}{kvs:List (Key × V)}{k:Key}{u:Value}{A:Around}{E:Value->Shared->Prop}
theorem zmD {v:V}{more:List Value}{Q:Value->Shared->Prop} (I:Inv X zp σ H s) (e:H a = some (.dK kvs)) (ry:RelV (kV k) u) (l:valV kvs k = some v) (hm:more = []\/∃ x,more = [x])
  (h:∀ w' s',Inv X zp σ (upd H a (.dK (zI kvs k))) s'->RelV v w'->Q w' s'):wpAny (model X.prog X.w) A (call (.builtin "dict.pop") (.ref a :: u :: more)) Q E s:=by
 obtain ⟨z,hd,vs,rel,dd⟩:=zhw I.hok e
 obtain ⟨w',hw,rw'⟩:=RelO.some_of (v:=v) (o:=valueAt vs k) (by rw [← l]; exact rel.val k)
 have hp:(keyPart u).isSome = true:=by
  cases k with
  | inl i=>obtain ⟨t,q⟩:=(show ∃ t,u = Value.int i t from ry); subst q; rfl
  | inr x=>obtain ⟨t,q⟩:=(show ∃ t,u = Value.str x t from ry); subst q; rfl
 have ha:argsOk "dict.pop" ⟨.ref a :: u :: more,[]⟩:=by
  rcases hm with q | ⟨x,q⟩
  ·subst q; exact PySem.F.args_dict_pop_2 _ _
  ·subst q; exact PySem.F.args_dict_pop_3 _ _ _
 refine call_meetsIn PySem.F.slot_dict_pop dd.typeIs PySem.F.entry_dict_pop ha (meets_dict_pop_there (zF X.prog X.w) a (zdp ry) more hm hp)
  ⟨vs,w',dd,by rw [← rel.length]; exact z,hw,fun h' dd' hs=>h w' _ ?_ rw'⟩
 have he:∃ q,h'.get? a = some q:=let ⟨q,_,_,hq,_⟩:=dd'; ⟨q,hq⟩
 exact zfa I (by rw [e]; exact True.intro) hs he (zj2 (Nat.le_trans (ziX kvs k) z) hd (rel.drop k) dd')
theorem zlE {r:Value}{Q:Value->Shared->Prop} (I:Inv X zp σ H s) (e:H a = some (.dK kvs)) (ry:RelV (kV k) u) (l:valV kvs k = none) (h:∀ s',Inv X zp σ H s'->Q r s'):
  wpAny (model X.prog X.w) A (call (.builtin "dict.pop") [.ref a,u,r]) Q E s:=by
 obtain ⟨z,hd,vs,rel,dd⟩:=zhw I.hok e
 have hn:valueAt vs k = none:=RelO.none_of (by rw [← l]; exact rel.val k)
 have hp:(keyPart u).isSome = true:=by
  cases k with
  | inl i=>obtain ⟨t,q⟩:=(show ∃ t,u = Value.int i t from ry); subst q; rfl
  | inr x=>obtain ⟨t,q⟩:=(show ∃ t,u = Value.str x t from ry); subst q; rfl
 exact call_meetsIn PySem.F.slot_dict_pop dd.typeIs PySem.F.entry_dict_pop (PySem.F.args_dict_pop_3 _ _ _) (meets_dict_pop_default (zF X.prog X.w) a (zdp ry) hd hp r) ⟨vs,dd,hn,h _ (I.tok _)⟩
end
def tDIn (ty td:TE):TE:=fun σ H Q=>ty σ H fun y H1=>td σ H1 fun x H2=>∃ a o,x = .ref a/\DGet H2 a y o/\Q (.bl o.isSome) H2
def zlF (td ty tv:TE):TS:=fun D σ H=>tv σ H fun v H1=>td σ H1 fun x H2=>ty σ H2 fun y H3=>∃ a H4,x = .ref a/\DPut H3 a y v H4/\D.nx σ H4
section
variable {X:Cx}{o i e value:Expr}{pos pos' tpos:Pos}{td ty tv:TE}
theorem zde (hu:X.A.units + 1 < cLine) (hi:PE X i ty) (ho:PE X o td):PC X .In i o (tDIn ty td):=by
 intro zp s σ H Q I h
 refine thn (hi zp s σ H _ I h) fun iv s1 ⟨y,H1,I1,ry,q1⟩=>thn (ho zp s1 σ H1 _ I1 q1) fun u s2 ⟨x,H2,I2,rx,a,ov,ex,g,q2⟩=>?_
 subst ex
 obtain rfl:u = Value.ref a:=rx
 exact d_in hu I2 g ry fun s3 I3=>⟨.bl ov.isSome,H2,I3,rfl,q2⟩
theorem zcB (hu:X.A.units + 1 < cLine) (ho:PE X o td) (hi:PE X i ty) (hv:PE X value tv) (hs:swapsWith value (some (.Subscript o i pos')) pos.line X.env = pure false):
  PS X (.Assign [.Subscript o i pos'] value pos) (zlF td ty tv):=by
 intro zp s σ H D I h
 refine wpAny_Assign_Subscript (thn (hv zp s σ H _ I h) fun r s1 ⟨v,H1,I1,rv,q1⟩=>thn (ho zp s1 σ H1 _ I1 q1) fun u s2 ⟨x,H2,I2,rx,q2⟩=>thn (hi zp s2 σ H2 _ I2 q2) fun iv s3 ⟨y,H3,I3,ry,a,H4,ex,g,q3⟩=>?_) hs
 subst ex
 obtain rfl:u = Value.ref a:=rx
 exact zhy hu I3 g ry rv fun s4 I4=>⟨σ,H4,I4,q3⟩
end
theorem ziY {P:Program}{w:World}{H:Hp} (h:Heap) (hb:sysModules < h.objs.size):Zh P w H (h.push { cls:=.type "dict",data:=.dict #[] }) h.objs.size (.dK []):=
 ⟨Nat.zero_le _,beq_eq_false_iff_ne.mpr (Ne.symm (Nat.ne_of_lt hb)),[],.nil,Heap.DictOf.new h⟩
def zek:TE:=fun _ H Q=>∀ p,H p = none->Q (.ref p) (upd H p (.dK []))
section
variable {X:Cx}{pos:Pos}
theorem zaA:PE X (.Dict [] [] pos) zek:=fun zp s σ H Q I h=>
 wpAny_Dict_empty ⟨.ref s.heap.objs.size,_,I.laid (a:=s.heap.objs.size) (o:=.dK []) (t':=s.toks) (fun _ _ q=>Heap.get?_push_of_some _ q) (Nat.le_refl _) (ziY s.heap I.big),rfl,h _ (I.hok.fresh (Nat.le_refl _))⟩
end
structure M2 (X:Cx) (o:Expr) (m:Str) (apos:Pos) (e f:Expr) (cpos:Pos):Prop where
 base:attributeBase o m X.env (eval o X.env) = eval o X.env
 few:((backTo cpos (starEach [e,f] X.env)).all (fun x=>!x.1) && (backToKw cpos (keywordEach [] X.env)).all (fun x=>x.1.isSome)
  && decide (([e,f]:List Expr).length + ([]:List Keyword).length + (if ([]:List Keyword).isEmpty then 0 else 1) < 30)) = true
 line:(apos.endLine == cpos.line) = true
 trees:backTo cpos (starEach [e,f] X.env) = [(false,eval e X.env),(false,eval f X.env)]
def IsD (H:Hp) (a:Addr):Prop:=(∃ kvs,Rd H a (.dK kvs))\/∃ kvs,Rd H a (.dT kvs)
theorem zlG {X:Cx}{zp:List (Addr × Obj)}{σ:St}{H:Hp}{s:Shared}{a:Addr} (I:Inv X zp σ H s) (d:IsD H a):
  s.TypeIs (.ref a) "dict"/\(∀ b,Value.ref a = .ref b->∃ ob,s.heap.get? b = some ob/\ob.dict = none)/\(a == sysModules) = false:=by
 rcases d with ⟨kvs,e⟩ | ⟨kvs,e⟩
 ·obtain ⟨_,hd,vs,_,dd⟩:=zkA I.hok e
  refine ⟨dd.typeIs,fun b q=>?_,hd⟩
  cases q
  obtain ⟨ob,_,_,h1,h2,_⟩:=dd
  exact ⟨ob,h1,h2.2.1⟩
 ·obtain ⟨_,hd,xs,_,dd⟩:=zkB I.hok e
  refine ⟨dd.typeIs,fun b q=>?_,hd⟩
  cases q
  obtain ⟨ob,_,_,h1,h2,_⟩:=dd
  exact ⟨ob,h1,h2.2.1⟩
section
variable {X:Cx}{zp:List (Addr × Obj)}{σ:St}{H:Hp}{s:Shared}{a:Addr}{y d:V}{u r:Value}{o:Option V}{A:Around}{E:Value->Shared->Prop}
end
def zj3 (td ty tx:TE):TE:=fun σ H Q=>td σ H fun x H1=>∃ a,x = .ref a/\IsD H1 a/\ty σ H1 fun y H2=>tx σ H2 fun z H3=>∃ kvs k,H3 a = some (.dK kvs)/\y = kV k /\
 (∀ v,valV kvs k = some v->Q v (upd H3 a (.dK (zI kvs k))))/\(valV kvs k = none->Q z H3)
section
variable {X:Cx}{o e f:Expr}{apos cpos:Pos}{td ty tx:TE}
theorem zag (ho:PE X o td) (he:PE X e ty) (hf:PE X f tx) (m:M2 X o "pop" apos e f cpos):PE X (.Call (.Attribute o "pop" apos) [e,f] [] cpos) (zj3 td ty tx):=by
 intro zp s σ H Q I h
 refine wpAny_Call_method m.base m.few m.line PySem.F.plainAttrs_dict PySem.F.slot_dict_pop PySem.F.type_dict_pop (thn (ho zp s σ H _ I h) fun u s1 ⟨x,H1,I1,rx,a,ex,d,q1⟩=>?_)
 subst ex
 obtain rfl:u = Value.ref a:=rx
 obtain ⟨t1,t2,_⟩:=zlG I1 d
 refine ⟨t1,t2,?_⟩
 rw [m.trees]
 refine Calls.callWith_builtin rfl (Calls.evalArgs_plain (Calls.spliced_cons (thn (he zp s1 σ H1 _ I1 q1) fun iv s2 ⟨y,H2,I2,ry,q2⟩=>
  Calls.spliced_cons (thn (hf zp s2 σ H2 _ I2 q2) fun fv s3 ⟨z,H3,I3,rz,kvs,k,ea,ey,q3,q4⟩=>Calls.spliced_nil ?_))))
 subst ey
 cases l:valV kvs k with
 | some v=>exact zmD I3 ea ry l (.inr ⟨fv,rfl⟩) fun w' s4 I4 rw'=>⟨v,_,I4,rw',q3 v l⟩
 | none=>exact zlE I3 ea ry l fun s4 I4=>⟨z,H3,I4,rz,q4 l⟩
end
section
variable {X:Cx}{zp:List (Addr × Obj)}{σ:St}{H:Hp}{s:Shared}{a:Addr}{kvs:List (Key × V)}{A:Around}{E:Value->Shared->Prop}
end
section
variable {X:Cx}{zp:List (Addr × Obj)}{σ:St}{H:Hp}{s:Shared}{a:Addr}{y:V}{u:Value}{A:Around}{E:Value->Shared->Prop}
end
end L2
namespace HT
open PySem PyProof.Rows
section
open PySem.SeqAt
open PySem.AutoSeq1 (wpAny_loadPart')
open PySem.MeetsSeq PySem.MeetsSeq2 PySem.MeetsSeq3
end
section
variable {prog:Program}{w:World}{A:Around}{E:Value->Shared->Prop}{s:Shared}
theorem cat_tup {t b:Addr}{vs ws:List Value}{Q:Value->Shared->Prop} (ht:IsTup s.heap t vs.toArray) (hb:IsTup s.heap b ws.toArray) (hv:vs≠[])
  (h1:ws = []->Q (.ref t) s) (h2:ws≠[]->Q (.ref s.heap.objs.size) { s with heap:=s.heap.push { cls:=.type "tuple",data:=.seq (vs ++ ws).toArray } })
  (hsz:vs.length + ws.length<=sizeLine):wpAny (model prog w) A (binaryOp .Add (.ref t) (.ref b)) Q E s:=by
 obtain ⟨⟨cls,dd,data,sl⟩,ho,hc,n,hd⟩:=id ht
 obtain ⟨⟨cls2,dd2,data2,sl2⟩,ho2,hc2,n2,hd2⟩:=id hb
 simp only at hc hd hc2 hd2
 subst hc hd hc2 hd2
 have e:vs.toArray ++ ws.toArray = (vs ++ ws).toArray:=by simp
 by_cases hw:ws = []
 ·exact concat_meets ⟨_,ho,rfl⟩ ⟨_,ho2,rfl⟩ noFill_tuple_add seq_tuple_add PySem.F.slot_tuple_add PySem.F.entry_tuple_add (PySem.F.args_tuple_add_2 _ _)
   (tuple_addW1 t b vs.toArray ws.toArray n n2 dd dd2 sl sl2 (by simpa using hv) (by simp [hw])) ⟨ho,ho2,h1 hw⟩
 ·refine concat_meets ⟨_,ho,rfl⟩ ⟨_,ho2,rfl⟩ noFill_tuple_add seq_tuple_add PySem.F.slot_tuple_add PySem.F.entry_tuple_add (PySem.F.args_tuple_add_2 _ _)
   (tuple_addW2 t b vs.toArray ws.toArray n n2 dd dd2 sl sl2 (by simpa using hv) (by simpa using hw) (by rw [List.size_toArray,List.size_toArray]; exact hsz)) ⟨ho,ho2,?_⟩
  rw [e]
  exact h2 hw
def sIx (n d:Nat):Option Int->Nat
 | none=>d
 | some v=>if v < 0 then (v + (n:Int)).toNat else min v.toNat n
theorem sIx_nat (n d k:Nat):sIx n d (some (k:Int)) = min k n:=by
 show (if (k:Int) < 0 then ((k:Int) + (n:Int)).toNat else min (k:Int).toNat n) = min k n
 rw [if_neg (by omega),Int.toNat_natCast]
theorem zlH (n d:Nat) (hd:d<=n) (o:Option Int):sIx n d o<=n:=by
 cases o with
 | none=>exact hd
 | some v=>
  show (if v < 0 then (v + (n:Int)).toNat else min v.toNat n)<=n
  by_cases hv:v < 0
  ·rw [if_pos hv]; omega
  ·rw [if_neg hv]; exact Nat.min_le_right _ _
theorem zhz (v:Int) (n d:Nat):(if v < 0 then max (v + (n:Int)) 0 else min v (n:Int)) = ((sIx n d (some v):Nat):Int):=by
 show (if v < 0 then max (v + (n:Int)) 0 else min v (n:Int)) = (((if v < 0 then (v + (n:Int)).toNat else min v.toNat n):Nat):Int)
 by_cases hv:v < 0
 ·simp only [if_pos hv]; omega
 ·simp only [if_neg hv]; omega
theorem zgG (lo hi:Option Int) (n:Nat):Builtin.Slice.sliceAdjust lo hi 1 (n:Int) = (((sIx n 0 lo:Nat):Int),((sIx n n hi:Nat):Int)):=by
 have h1:¬ ((1:Int) < 0):=by omega
 unfold Builtin.Slice.sliceAdjust
 simp only [h1,if_false]
 refine Prod.ext ?_ ?_
 ·cases lo with
  | none=>rfl
  | some v=>exact zhz v n 0
 ·cases hi with
  | none=>rfl
  | some v=>exact zhz v n n
theorem zgH (i j:Nat):Builtin.Slice.slicePlaces (i:Int) (j:Int) 1 = j - i:=by
 unfold Builtin.Slice.slicePlaces
 have h1:(1:Int) > 0:=by omega
 simp only [h1,if_true,Int.ediv_one]
 split <;> omega
theorem zdf {v:Value}{o:Option Int}{Q:Option Int->Shared->Prop} (p:IsPart v o) (h:Q o s):wpAny (model prog w) A (Builtin.Slice.slicePartIndex v) Q E s:=by
 cases p with
 | none=>exact slicePart_none h
 | int i t=>exact slicePart_int h
theorem zb7 {sl:Addr}{vl vu:Value}{lo hi:Option Int}{n:Nat}{Q:Int × Int × Nat->Shared->Prop} (hs:s.heap.IsSliceOf sl vl vu .none) (pl:IsPart vl lo) (pu:IsPart vu hi)
  (h:Q (((sIx n 0 lo:Nat):Int),1,sIx n n hi - sIx n 0 lo) s):wpAny (model prog w) A (Builtin.Slice.sliceApplied (.ref sl) (pure (n:Int))) Q E s:=by
 obtain ⟨os,hos,hcs,hds⟩:=id hs
 unfold Builtin.Slice.sliceApplied Builtin.Slice.sliceFields
 refine wpAny_bind (wpAny_bind (wpAny_field hos hds (x:=vl) rfl (wpAny_bind (wpAny_field hos hds (x:=vu) rfl (wpAny_bind (wpAny_field hos hds (x:=.none) rfl (wpAny_pure ?_)))))))
 refine wpAny_bind (slicePart_none ?_)
 show wpAny _ _ (if ((1:Int) == 0) = true then _ else _) _ _ s
 rw [if_neg (by decide)]
 refine wpAny_bind (zdf pl (wpAny_bind (zdf pu (wpAny_bind (wpAny_pure ?_)))))
 show wpAny _ _ (match Builtin.Slice.sliceAdjust lo hi 1 (n:Int) with | (lo,hi)=>pure (lo,(1:Int),Builtin.Slice.slicePlaces lo hi 1)) _ _ s
 rw [zgG lo hi n]
 show wpAny _ _ (pure (((sIx n 0 lo:Nat):Int),(1:Int),Builtin.Slice.slicePlaces ((sIx n 0 lo:Nat):Int) ((sIx n n hi:Nat):Int) 1)) _ _ s
 rw [zgH]
 exact wpAny_pure h
theorem ziZ (xs:Array Value) (i k:Nat):((List.range k).filterMap fun (m:Nat)=>xs[((i:Int) + (m:Int) * 1).toNat]?).toArray = ((xs.toList.drop i).take k).toArray:=by
 have e:(fun (m:Nat)=>xs[((i:Int) + (m:Int) * 1).toNat]?) = fun m=>xs[i + m]?:=by
  funext m
  have:((i:Int) + (m:Int) * 1).toNat = i + m:=by omega
  rw [this]
 rw [e]
 have:=pick_run xs i k
 rw [List.filterMap_map] at this
 have e2:((fun x=>xs[x]?) ∘ fun x=>i + x) = fun m=>xs[i + m]?:=rfl
 rw [e2] at this
 rw [this]
theorem getItem_tuple_cut {t sl:Addr}{items:Array Value}{vl vu:Value}{lo hi:Option Int}{Q:Value->Shared->Prop} (ht:IsTup s.heap t items) (hs:s.heap.IsSliceOf sl vl vu .none) (pl:IsPart vl lo) (pu:IsPart vu hi)
  (hw:¬ (sIx items.size 0 lo = 0/\sIx items.size items.size hi = items.size))
  (h:Q (.ref s.heap.objs.size) { s with heap:=s.heap.push { cls:=.type "tuple",data:=.seq ((items.toList.drop (sIx items.size 0 lo)).take (sIx items.size items.size hi - sIx items.size 0 lo)).toArray } })
  (hsz:items.size<=sizeLine):wpAny (model prog w) A (getItem (.ref t) (.ref sl)) Q E s:=by
 have htake:sizeOk (.seq ((items.toList.drop (sIx items.size 0 lo)).take (sIx items.size items.size hi - sIx items.size 0 lo)).toArray):=by
  show ((items.toList.drop (sIx items.size 0 lo)).take (sIx items.size items.size hi - sIx items.size 0 lo)).toArray.size<=sizeLine
  rw [List.size_toArray,List.length_take,List.length_drop,Array.length_toList]
  omega
 have hj:sIx items.size items.size hi<=items.size:=zlH _ _ (Nat.le_refl _) hi
 obtain ⟨os,hos,hcs,hds⟩:=id hs
 have hTs:s.TypeIs (.ref sl) "slice":=⟨os,hos,hcs⟩
 unfold getItem
 try with_reducible refine wpAny_holding ?_
 first | refine wpAny_bind (wpAny_pure ?_) | skip
 refine wpAny_bind (wpAny_sequenceKey ht.typeIs (by decide) ?_)
 refine wpAny_bind (wpAny_callSpecial?_slot (name:=Str.ofString "__getitem__") ht.typeIs PyProof.Rows.slot_tuple_getitem
  (wpAny_call_entry PyProof.Rows.slot_tuple_getitem ht.typeIs entry_tuple_getitem ?_ (args_tuple_getitem _ _)))
 show wpAny _ _ (Builtin.Tuple.tupleItemsOf (.ref t) >>= _) _ _ s
 refine wpAny_bind (tupleItemsOf_ ht ?_)
 refine wpAny_bind (wpAny_typeOf hTs ?_)
 rw [if_pos (by decide)]
 refine wpAny_bind (zb7 hs pl pu ?_)
 have hno:¬ ((((sIx items.size 0 lo:Nat):Int) == 0 && (1:Int) == 1 && (sIx items.size items.size hi - sIx items.size 0 lo) == items.size) = true):=by
  intro q
  rw [Bool.and_eq_true,Bool.and_eq_true] at q
  have q1:((sIx items.size 0 lo:Nat):Int) = 0:=eq_of_beq q.1.1
  have q2:sIx items.size items.size hi - sIx items.size 0 lo = items.size:=eq_of_beq q.2
  exact hw ⟨by omega,by omega⟩
 show wpAny _ _ (if (((sIx items.size 0 lo:Nat):Int) == 0 && (1:Int) == 1 && (sIx items.size items.size hi - sIx items.size 0 lo) == items.size) = true then _ else _) _ _ s
 rw [if_neg hno,ziZ]
 first
  | exact wpAny_bind (m:=Builtin.Tuple.tupleExact _) (wpAny_newObj_type (wpAny_pure ⟨_,rfl,wpAny_pure h⟩) htake)
  | exact wpAny_bind (m:=Builtin.Tuple.tupleExact _) (wpAny_newObj_type (wpAny_bind (wpAny_pure (wpAny_pure ⟨_,rfl,wpAny_pure h⟩))) htake)
  | exact wpAny_bind (wpAny_bind (m:=Builtin.Tuple.tupleExact _) (wpAny_newObj_type (wpAny_pure (wpAny_pure ⟨_,rfl,wpAny_pure h⟩)) htake))
  | exact wpAny_bind (wpAny_bind (m:=Builtin.Tuple.tupleExact _) (wpAny_newObj_type (wpAny_pure ⟨_,rfl,wpAny_pure h⟩) htake))
end
end HT
namespace L2
open PySem PySem.Spec PyProof.Rows
abbrev TO:=St->Hp->(Option Int->Hp->Prop)->Prop
def PO (X:Cx) (e:Option Expr) (t:TO):Prop:=
 ∀ (zp:List (Addr × Obj)) (s:Shared) (σ:St) (H:Hp) (Q:Option Int->Hp->Prop),Inv X zp σ H s->t σ H Q->
  wpAny (model X.prog X.w) X.A (evalPart e X.env) (fun u s'=>∃ o H',Inv X zp σ H' s'/\IsPart u o/\Q o H') X.xe s
def zhA:TO:=fun _ H Q=>Q none H
def zlI (t:TE):TO:=fun σ H Q=>t σ H fun x H1=>∃ i,x = .int i/\Q (some i) H1
section
variable {X:Cx}{e:Expr}{te:TE}{lo hi:Option Expr}{tl th:TO}{pos p2:Pos}
theorem zdq:PO X none zhA:=by
 intro zp s σ H Q I h
 rw [evalPart_none]
 exact wpAny_pure ⟨none,H,I,.none,h⟩
theorem zbU (h:PE X e te):PO X (some e) (zlI te):=by
 intro zp s σ H Q I hw
 rw [evalPart_some]
 refine thn (h zp s σ H _ I hw) fun u s1 ⟨x,H1,I1,r1,q1⟩=>?_
 obtain ⟨i,rfl,q⟩:=q1
 obtain ⟨t,rfl⟩:=r1
 exact ⟨some i,H1,I1,.int i t,q⟩
def SlR (X:Cx) (r:V->Option Int->Option Int->Hp->VK->Prop):Prop:=
 ∀ (zp:List (Addr × Obj)) (s:Shared) (σ:St) (H:Hp) (x:V) (v vl vu:Value) (lo hi:Option Int) (sl:Addr) (Q:VK),Inv X zp σ H s->RelV x v->s.heap.IsSliceOf sl vl vu .none->IsPart vl lo->IsPart vu hi->r x lo hi H Q->
  ∃ T id,typeLookup (.type T) "__getitem__" = pure (some (.builtin id))/\s.TypeIs v T/\wpAny (model X.prog X.w) X.A (getItem v (.ref sl)) (EP X zp σ Q) X.xe s
def tSl (r:V->Option Int->Option Int->Hp->VK->Prop) (te:TE) (tl th:TO):TE:=fun σ H Q=>te σ H fun x H1=>tl σ H1 fun l H2=>th σ H2 fun u H3=>r x l u H3 Q
theorem zbq {r:V->Option Int->Option Int->Hp->VK->Prop} (hr:SlR X r) (he:PE X e te) (hl:PO X lo tl) (hu:PO X hi th):PE X (.Subscript e (.Slice lo hi none p2) pos) (tSl r te tl th):=by
 intro zp s σ H Q I h
 refine Subscript_ (thn (he zp s σ H _ I h) fun v s1 ⟨x,H1,I1,r1,q1⟩=>?_)
 refine wpAny_Slice (thn (hl zp s1 σ H1 _ I1 q1) fun vl s2 ⟨l,H2,I2,pl,q2⟩=>thn (hu zp s2 σ H2 _ I2 q2) fun vu s3 ⟨u,H3,I3,pu,q3⟩=>?_)
 rw [evalPart_none]
 refine wpAny_pure ?_
 have I4:Inv X zp σ H3 { s3 with heap:=s3.heap.push { cls:=.type "slice",data:=.fields #[vl,vu,.none] } }:=I3.kept (t':=s3.toks) fun b ob q=>Heap.get?_push_of_some _ q
 obtain ⟨T,id,hT,ht,hg⟩:=hr zp { s3 with heap:=s3.heap.push { cls:=.type "slice",data:=.fields #[vl,vu,.none] } } σ H3 x v vl vu l u s3.heap.objs.size Q I4 r1 (Heap.IsSliceOf.new ..) pl pu q3
 show wpAny (model X.prog X.w) X.A (subscriptTail e (.Slice lo hi none p2) v (.ref s3.heap.objs.size)) (EP X zp σ Q) X.xe { s3 with heap:=s3.heap.push { cls:=.type "slice",data:=.fields #[vl,vu,.none] } }
 exact tail_any (ops:=[.ref s3.heap.objs.size,v]) ht hT hg (by with_unfolding_all rfl)
def cutV (xs:List V) (lo hi:Option Int):List V:=(xs.drop (HT.sIx xs.length 0 lo)).take (HT.sIx xs.length xs.length hi - HT.sIx xs.length 0 lo)
theorem zcC (xs:List V) (lo hi:Option Int):(cutV xs lo hi).length<=xs.length:=by
 unfold cutV
 rw [List.length_take,List.length_drop]
 omega
def rSlT (K:PySem.W.Frag):V->Option Int->Option Int->Hp->VK->Prop:=fun x lo hi H Q=>∃ a xs,x = .ref a/\SqT K H a xs /\
 ¬ (HT.sIx xs.length 0 lo = 0/\HT.sIx xs.length xs.length hi = xs.length)/\∀ p,H p = none->Q (.ref p) (upd H p (.tup (cutV xs lo hi)))
theorem zj4:SlR X (rSlT X.K):=by
 intro zp s σ H x v vl vu lo hi sl Q I rx hs pl pu h
 obtain ⟨a,xs,rfl,hx,hw,q⟩:=h
 cases rx
 obtain ⟨its,r,ht,hz⟩:=I.tuple hx
 have hlen:its.toArray.size = xs.length:=by rw [List.size_toArray]; exact r.length.symm
 refine ⟨"tuple",_,PyProof.Rows.slot_tuple_getitem.lookup,ht.typeIs,?_⟩
 refine HT.getItem_tuple_cut ht hs pl pu (by rw [hlen]; exact hw) ?_ (by rw [hlen]; exact hz)
 rw [hlen]
 refine ⟨.ref s.heap.objs.size,_,I.laid (t':=s.toks) (o:=.tup (cutV xs lo hi)) (fun b ob q=>Heap.get?_push_of_some _ q) (Nat.le_refl _) ?_,rfl,q _ (I.hok.fresh (Nat.le_refl _))⟩
 exact ⟨Nat.le_trans (zcC xs lo hi) hz,_,(r.drop (HT.sIx xs.length 0 lo)).take (HT.sIx xs.length xs.length hi - HT.sIx xs.length 0 lo),IsTup.new _ _⟩
def zkC (K:PySem.W.Frag):R2:=fun x y H Q=>∃ a b xs ys,x = .ref a/\y = .ref b/\SqT K H a xs/\SqT K H b ys/\xs≠[]/\xs.length + ys.length<=sizeLine /\
 (ys = []->Q (.ref a) H)/\(ys≠[]->∀ p,H p = none->Q (.ref p) (upd H p (.tup (xs ++ ys))))
theorem Vals.nil_iff {xs:List V}{us:List Value} (r:Vals xs us):us = [] ↔ xs = []:=by
 cases r with
 | nil=>simp
 | cons _ _=>simp
theorem zhB:OpR X (binaryOp .Add) (zkC X.K):=by
 intro zp s σ H x y v u Q I rx ry h
 obtain ⟨a,b,xs,ys,rfl,rfl,ha,hb,hx,hz,q1,q2⟩:=h
 cases rx
 cases ry
 obtain ⟨its,r1,p1,_⟩:=I.tuple ha
 obtain ⟨its2,r2,p2,_⟩:=I.tuple hb
 refine HT.cat_tup p1 p2 (fun z=>hx (r1.nil_iff.mp z)) (fun z=>⟨.ref a,H,I,rfl,q1 (r2.nil_iff.mp z)⟩) (fun z=>?_) (by rw [← r1.length,← r2.length]; exact hz)
 refine ⟨.ref s.heap.objs.size,_,I.laid (t':=s.toks) (o:=.tup (xs ++ ys)) (fun b ob q=>Heap.get?_push_of_some _ q) (Nat.le_refl _) ?_,rfl,q2 (fun w=>z (r2.nil_iff.mpr w)) _ (I.hok.fresh (Nat.le_refl _))⟩
 exact ⟨by rw [List.length_append]; exact hz,_,r1.append r2,IsTup.new _ _⟩
end
def ixN (n:Nat) (i:Int):Option Nat:=if 0<=i then (if i < n then some i.toNat else none) else if -(n:Int)<=i then some (i + n).toNat else none
def atI {α:Type} (xs:List α) (i:Int):Option α:=(ixN xs.length i).bind fun j=>xs[j]?
theorem zhC {n:Nat}{i:Int}{j:Nat} (h:ixN n i = some j):seqIndex? i n = some j/\j < n/\-(n:Int)<=i/\i < n:=by
 unfold ixN at h
 by_cases h0:0<=i
 ·rw [if_pos h0] at h
  by_cases h1:i < n
  ·rw [if_pos h1] at h
   have e:i.toNat = j:=Option.some.inj h
   exact ⟨by rw [seqIndex_of h0 h1,e],by omega,by omega,h1⟩
  ·rw [if_neg h1] at h; cases h
 ·rw [if_neg h0] at h
  by_cases h1:-(n:Int)<=i
  ·rw [if_pos h1] at h
   have e:(i + n).toNat = j:=Option.some.inj h
   exact ⟨by rw [seqIndex_neg (by omega) h1,e],by omega,h1,by omega⟩
  ·rw [if_neg h1] at h; cases h
theorem zfb {α:Type}{xs:List α}{i:Int}{v:α} (h:atI xs i = some v):∃ j,seqIndex? i xs.length = some j/\xs[j]? = some v/\j < xs.length/\-(xs.length:Int)<=i/\i < xs.length:=by
 unfold atI at h
 cases e:ixN xs.length i with
 | none=>rw [e] at h; cases h
 | some j=>
  rw [e] at h
  obtain ⟨h1,h2,h3,h4⟩:=zhC e
  exact ⟨j,h1,h,h2,h3,h4⟩
theorem zH {α:Type}{xs:List α}{j:Nat}{v:α} (h:xs[j]? = some v):atI xs (j:Int) = some v:=by
 have hj:j < xs.length:=(List.getElem?_eq_some_iff.mp h).1
 have e:ixN xs.length (j:Int) = some j:=by
  unfold ixN
  rw [if_pos (by omega),if_pos (by omega)]; simp
 unfold atI; rw [e]; exact h
def zhD (b:Expr):Prop:=∀ o i,subscripted b false o i = operate [o,i] (getItem o i)
def IxR (X:Cx) (r:R2):Prop:=
 ∀ (value slice:Expr) (zp:List (Addr × Obj)) (s:Shared) (σ:St) (H:Hp) (x y:V) (v u:Value) (Q:VK),Inv X zp σ H s->RelV x v->RelV y u->r x y H Q->
  subscripted slice false v u = operate [v,u] (getItem v u)->wpAny (model X.prog X.w) X.A (subscriptTail value slice v u) (EP X zp σ Q) X.xe s
def MtR (X:Cx) (id:String) (r:V->List V->Hp->VK->Prop):Prop:=
 ∀ (zp:List (Addr × Obj)) (s:Shared) (σ:St) (H:Hp) (x:V) (xs:List V) (v:Value) (us:List Value) (Q:VK),Inv X zp σ H s->RelV x v->Vals xs us->r x xs H Q->
  wpAny (model X.prog X.w) X.A (call (.builtin id) (v :: us)) (EP X zp σ Q) X.xe s
section
variable {X:Cx}{a b:Expr}{ta tb:TE}{pos:Pos}
theorem zx {r:R2} (hr:IxR X r) (ha:PE X a ta) (hb:PE X b tb) (hs:zhD b):PE X (.Subscript a b pos) (tOp r ta tb):=by
 intro zp s σ H Q I h
 exact Subscript_ (binT ha hb I h fun v u s2 x y H2 I2 rx ry q=>hr a b zp s2 σ H2 x y v u Q I2 rx ry q (hs _ _))
def rIxL (K:PySem.W.Frag):R2:=fun x y H Q=>∃ p xs i v,x = .ref p/\y = .int i/\SqL K H p xs/\atI xs i = some v/\Q v H
def rIxT (K:PySem.W.Frag):R2:=fun x y H Q=>∃ p xs i v,x = .ref p/\y = .int i/\SqT K H p xs/\atI xs i = some v/\Q v H
def rIxS:R2:=fun x y H Q=>∃ z i c,x = .str z/\y = .int i/\z.length<=sizeLine/\atI z.cps.toList i = some c/\Q (.str ⟨#[c]⟩) H
theorem zE:IxR X (rIxL X.K):=by
 intro value slice zp s σ H x y v u Q I rx ry h hs
 obtain ⟨p,xs,i,z,rfl,rfl,hq,he,q⟩:=h
 cases rx
 obtain ⟨t,rfl⟩:=ry
 obtain ⟨its,r,pl,hz⟩:=I.list hq
 obtain ⟨j,h1,h2,h3,h4,h5⟩:=zfb he
 obtain ⟨w,ew,rw'⟩:=r.get h2
 have hl:=r.length
 have hn:=zec
 have fin:EP X zp σ Q w s:=⟨z,H,I,rw',q⟩
 by_cases h0:0<=i
 ·have hj:i.toNat = j:=by
   rw [seqIndex_of h0 h5] at h1
   exact Option.some.inj h1
  exact item_listR pl.isList h0 (by omega) (by rw [hj]; simpa using ew) fin hs
 ·have hj:(i + (its.toArray.size:Int)).toNat = j:=by
   rw [seqIndex_neg (by omega) h4] at h1
   rw [List.size_toArray,← hl]
   exact Option.some.inj h1
  exact subscriptTail_builtinR (x:=w) pl.isList.typeIs slot_list_getitem.lookup
   (wpAny_getItem_list_neg (Q:=fun r s'=>r = w/\EP X zp σ Q r s') pl.isList (by omega) (by rw [List.size_toArray] <;> omega) (by omega) (by rw [hj]; simpa using ew) ⟨rfl,fin⟩) hs
theorem zy:IxR X (rIxT X.K):=by
 intro value slice zp s σ H x y v u Q I rx ry h hs
 obtain ⟨p,xs,i,z,rfl,rfl,hq,he,q⟩:=h
 cases rx
 obtain ⟨t,rfl⟩:=ry
 obtain ⟨its,r,pl,hz⟩:=I.tuple hq
 obtain ⟨j,h1,h2,h3,h4,h5⟩:=zfb he
 obtain ⟨w,ew,rw'⟩:=r.get h2
 have hl:=r.length
 have hn:=zec
 have fin:EP X zp σ Q w s:=⟨z,H,I,rw',q⟩
 exact subscriptTail_builtinR (x:=w) pl.typeIs slot_tuple_getitem.lookup
  (getItem_tuple (j:=j) (Q:=fun r s'=>r = w/\EP X zp σ Q r s') pl (by omega) (by omega) (by rw [List.size_toArray,← hl]; exact h1) (by simpa using ew) ⟨rfl,fin⟩) hs
theorem zhE:IxR X rIxS:=by
 intro value slice zp s σ H x y v u Q I rx ry h hs
 obtain ⟨z,i,c,rfl,rfl,hz,he,q⟩:=h
 obtain ⟨t,rfl⟩:=rx
 obtain ⟨t',rfl⟩:=ry
 obtain ⟨j,h1,h2,h3,h4,h5⟩:=zfb he
 have hl:z.cps.toList.length = z.length:=by simp [Str.length]
 rw [hl] at h1 h4 h5
 have hn:=zec
 exact tail_any (typeIs_str s z t) slot_str_getitem.lookup (getItem_str (c:=c) (by
  have e1:decide (i < -(2 ^ 63:Int)) = false:=decide_eq_false (by omega)
  have e2:decide (i ≥ 2 ^ 63) = false:=decide_eq_false (by omega)
  rw [e1,e2,Bool.or_false]) (by rw [h1]; simpa using h2) ⟨.str ⟨#[c]⟩,H,I.tok _,⟨_,rfl⟩,q⟩) hs
theorem zgI (its:List Value) (n j:Nat) (u:Value):Obj.mapSeq (·.setIfInBounds j u) { cls:=.type "list",data:=.seq its.toArray n } = { cls:=.type "list",data:=.seq (its.set j u).toArray n }:=by
 simp [Obj.mapSeq]
theorem Inv.lst {zp:List (Addr × Obj)}{σ:St}{H:Hp}{s:Shared}{p:Addr}{xs:List V} (I:Inv X zp σ H s) (h:H p = some (.lst xs)):
  ∃ (its:List Value) (n:Nat),Vals xs its/\s.heap.get? p = some { cls:=.type "list",data:=.seq its.toArray n }/\xs.length<=sizeLine:=by
 obtain ⟨z,its,n,r,e⟩:=I.hok p _ h
 exact ⟨its,n,r,e,z⟩
theorem Inv.lstUpd {zp:List (Addr × Obj)}{σ:St}{H:Hp}{s:Shared}{p:Addr}{xs ys:List V}{its its':List Value}{n n':Nat}{f:Obj->Obj} (I:Inv X zp σ H s) (h:H p = some (.lst xs))
  (ho:s.heap.get? p = some { cls:=.type "list",data:=.seq its.toArray n }) (hf:f { cls:=.type "list",data:=.seq its.toArray n } = { cls:=.type "list",data:=.seq its'.toArray n' }) (r:Vals ys its') (hz:ys.length<=sizeLine) (t:Nat):
  Inv X zp σ (upd H p (.lst ys)) { s with heap:=s.heap.update p f,toks:=t }:=by
 have e:(s.heap.update p f).get? p = some { cls:=.type "list",data:=.seq its'.toArray n' }:=by
  rw [Heap.get?_update_self f ho (by rw [hf] <;> rfl),hf]
 refine I.write (x:=p) (e:=p) (by rw [h]; trivial) (.inl rfl) (fun b u hb q=>(Heap.get?_update_other _ _ (Ne.symm hb)).trans q) ⟨_,e⟩ ?_
 exact ⟨hz,its',n',r,e⟩
def zmE:V->V->V->Hp->(Hp->Prop)->Prop:=fun o i v H Q=>∃ p xs k j,o = .ref p/\i = .int k/\H p = some (.lst xs)/\ixN xs.length k = some j/\Q (upd H p (.lst (xs.set j v)))
theorem zbr:PSet X zmE:=by
 intro zp s σ H o i v ov iv u Q I ro ri rv h
 obtain ⟨p,xs,k,j,rfl,rfl,hp,hj,q⟩:=h
 cases ro
 obtain ⟨t,rfl⟩:=ri
 obtain ⟨its,n,r,ho,hz⟩:=I.lst hp
 obtain ⟨h1,h2,h3,h4⟩:=zhC hj
 have hl:=r.length
 have hn:=zec
 have I':Inv X zp σ (upd H p (.lst (xs.set j v))) { s with heap:=s.heap.update p (Obj.mapSeq (·.setIfInBounds j u)) }:=
  I.lstUpd hp ho (zgI its n j u) (r.set rv j) (by rw [List.length_set]; exact hz) s.toks
 by_cases h0:0<=k
 ·have hk:k.toNat = j:=by
   rw [seqIndex_of h0 h4] at h1
   exact Option.some.inj h1
  exact PySem.W.ki_setAt ho h0 (by omega) (by rw [List.size_toArray,← hl]; exact h4) (by rw [hk]; exact ⟨_,I',q⟩)
 ·have hk:(k + (its.toArray.size:Int)).toNat = j:=by
   rw [seqIndex_neg (by omega) h3] at h1
   rw [List.size_toArray,← hl]
   exact Option.some.inj h1
  exact PySem.W.ki_setBack ho (by omega) (by rw [List.size_toArray,← hl]; exact h3) (by omega) (by rw [hk]; exact ⟨_,I',q⟩)
theorem zel (lo hi:Option Int) (n:Nat):(sliceBounds lo hi none n).1 = ((HT.sIx n 0 lo:Nat):Int)/\(sliceBounds lo hi none n).2.1 = ((HT.sIx n n hi:Nat):Int)/\(sliceBounds lo hi none n).2.2 = 1:=by
 refine ⟨?_,?_,rfl⟩
 ·cases lo with
  | none=>simp [sliceBounds,HT.sIx]
  | some i=>
   simp only [sliceBounds,HT.sIx,Option.getD_none,show (1:Int) > 0 by decide,if_true]
   by_cases h:i < 0
   ·simp only [h,if_true] <;> omega
   ·simp only [h,if_false] <;> omega
 ·cases hi with
  | none=>simp [sliceBounds,HT.sIx]
  | some i=>
   simp only [sliceBounds,HT.sIx,Option.getD_none,show (1:Int) > 0 by decide,if_true]
   by_cases h:i < 0
   ·simp only [h,if_true] <;> omega
   ·simp only [h,if_false] <;> omega
theorem zdr (its:List Value) (lo hi:Option Int):slicePick its.toArray lo hi none = ((its.drop (HT.sIx its.length 0 lo)).take (HT.sIx its.length its.length hi - HT.sIx its.length 0 lo)).toArray:=by
 obtain ⟨h1,h2,h3⟩:=zel lo hi its.toArray.size
 unfold slicePick
 rw [h1,h2,h3]
 simp only [sliceRange_one,pick_run,List.size_toArray] <;> rfl
def rSlL (K:PySem.W.Frag):V->Option Int->Option Int->Hp->VK->Prop:=fun x lo hi H Q=>∃ a xs,x = .ref a/\SqL K H a xs/\∀ p,H p = none->Q (.ref p) (upd H p (.lst (cutV xs lo hi)))
theorem zkD:SlR X (rSlL X.K):=by
 intro zp s σ H x v vl vu lo hi sl Q I rx hs pl pu h
 obtain ⟨a,xs,rfl,hx,q⟩:=h
 cases rx
 obtain ⟨its,r,ht,hz⟩:=I.list hx
 have hlen:=r.length
 refine ⟨"list",_,slot_list_getitem.lookup,ht.isList.typeIs,?_⟩
 refine wpAny_getItem_list_slice ht.isList hs pl pu .none (by simp) ?_ (by rw [List.size_toArray] <;> omega)
 rw [zdr,← hlen]
 refine ⟨.ref s.heap.objs.size,_,I.laid (t':=s.toks) (o:=.lst (cutV xs lo hi)) (fun b ob q=>Heap.get?_push_of_some _ q) (Nat.le_refl _) ?_,rfl,q _ (I.hok.fresh (Nat.le_refl _))⟩
 exact ⟨Nat.le_trans (zcC xs lo hi) hz,_,0,(r.drop (HT.sIx xs.length 0 lo)).take (HT.sIx xs.length xs.length hi - HT.sIx xs.length 0 lo),Heap.get?_push_size _ rfl⟩
def zcD:V->Bool
 | .non=>true
 | .bl _=>true
 | .int _=>true
 | .str _=>true
 | _=>false
def eqV:V->V->Bool
 | .non,.non=>true
 | .bl a,.bl b=>a == b
 | .bl a,.int b=>(if a then 1 else 0) == b
 | .int a,.bl b=>a == (if b then 1 else 0)
 | .int a,.int b=>a == b
 | .str a,.str b=>a == b
 | _,_=>false
theorem zlJ {A:Around}{s:Shared}{y x:V}{u v:Value} (ry:RelV y u) (rx:RelV x v) (fy:zcD y = true) (fx:zcD x = true):SeqAt.EqAt A s u v (eqV y x):=by
 cases y with
 | non=>
  cases ry
  cases x with
  | non=>cases rx; exact SeqAt.EqAt.same _
  | bl b=>cases rx; exact SeqAt.EqAt.none_bool b
  | int b=>obtain ⟨t,rfl⟩:=rx; exact SeqAt.EqAt.none_int b t
  | str b=>obtain ⟨t,rfl⟩:=rx; exact SeqAt.EqAt.none_str b t
  | _=>exact absurd (show false = true from fx) Bool.false_ne_true
 | bl a=>
  cases ry
  cases x with
  | non=>cases rx; exact SeqAt.EqAt.bool_none a
  | bl b=>cases rx; exact SeqAt.EqAt.bool_bool a b
  | int b=>obtain ⟨t,rfl⟩:=rx; exact SeqAt.EqAt.bool_int a b t
  | str b=>obtain ⟨t,rfl⟩:=rx; exact SeqAt.EqAt.bool_str a b t
  | _=>exact absurd (show false = true from fx) Bool.false_ne_true
 | int a=>
  obtain ⟨t',rfl⟩:=ry
  cases x with
  | non=>cases rx; exact SeqAt.EqAt.int_none a t'
  | bl b=>cases rx; exact SeqAt.EqAt.int_bool a t' b
  | int b=>obtain ⟨t,rfl⟩:=rx; exact SeqAt.EqAt.int_int a t' b t
  | str b=>obtain ⟨t,rfl⟩:=rx; exact SeqAt.EqAt.int_str a t' b t
  | _=>exact absurd (show false = true from fx) Bool.false_ne_true
 | str a=>
  obtain ⟨t',rfl⟩:=ry
  cases x with
  | non=>cases rx; exact SeqAt.EqAt.str_none a t'
  | bl b=>cases rx; exact SeqAt.EqAt.str_bool a t' b
  | int b=>obtain ⟨t,rfl⟩:=rx; exact SeqAt.EqAt.str_int a t' b t
  | str b=>obtain ⟨t,rfl⟩:=rx; exact SeqAt.EqAt.str_str a t' b t
  | _=>exact absurd (show false = true from fx) Bool.false_ne_true
 | _=>exact absurd (show false = true from fy) Bool.false_ne_true
def eqU (x:V) (u:Value):Bool:=match u with
 | .none=>eqV .non x
 | .bool b=>eqV (.bl b) x
 | .int i _=>eqV (.int i) x
 | .str z _=>eqV (.str z) x
 | _=>false
theorem zj5 {x y:V}{u:Value} (r:RelV y u) (f:zcD y = true):eqU x u = eqV y x:=by
 cases y with
 | non=>cases r; rfl
 | bl b=>cases r; rfl
 | int i=>obtain ⟨t,rfl⟩:=r; rfl
 | str z=>obtain ⟨t,rfl⟩:=r; rfl
 | _=>exact absurd (show false = true from f) Bool.false_ne_true
theorem zcE {x:V}:∀ {xs:List V}{us:List Value},Vals xs us->xs.all zcD = true->us.any (eqU x) = xs.any fun y=>eqV y x
 | _,_,.nil,_=>rfl
 | y :: xs,u :: us,.cons r t,f=>by
  rw [List.all_cons,Bool.and_eq_true] at f
  rw [List.any_cons,List.any_cons,zj5 r f.1,zcE t f.2]
theorem zbs {A:Around}{s:Shared}{x:V}{v:Value} (rx:RelV x v) (fx:zcD x = true):∀ {xs:List V}{us:List Value},Vals xs us->xs.all zcD = true->∀ u∈us,SeqAt.EqAt A s u v (eqU x u)
 | _,_,.nil,_=>fun u hu=>by cases hu
 | y :: xs,u :: us,.cons r t,f=>fun u' hu=>by
  rw [List.all_cons,Bool.and_eq_true] at f
  rcases List.mem_cons.mp hu with rfl | hu
  ·rw [zj5 r f.1]; exact zlJ r rx f.1 fx
  ·exact zbs rx fx t f.2 u' hu
def inV (x:V) (xs:List V):Bool:=xs.any fun y=>eqV y x
def rIn (K:PySem.W.Frag) (neg:Bool):R2:=fun x y H Q=>∃ p xs,y = .ref p/\(SqL K H p xs\/SqT K H p xs)/\zcD x = true/\xs.all zcD = true/\Q (.bl (if neg then !inV x xs else inV x xs)) H
theorem ZW:OpR X (compareOp .In) (rIn X.K false):=by
 intro zp s σ H x y v u Q I rx ry h
 obtain ⟨p,xs,rfl,hq,fx,fs,q⟩:=h
 cases ry
 rcases hq with hq | hq
 ·obtain ⟨its,r,pl,hz⟩:=I.list hq
  refine SeqAt.in_listAt (eqU x) pl.isList (fun w hw=>zbs rx fx r fs w (by simpa using hw)) ⟨.bl _,H,I,rfl,?_⟩
  rw [show its.toArray.any (eqU x) = its.any (eqU x) by simp,zcE r fs]
  exact q
 ·obtain ⟨its,r,pl,hz⟩:=I.tuple hq
  refine SeqAt.in_tupleAt (eqU x) pl (fun w hw=>zbs rx fx r fs w (by simpa using hw)) ⟨.bl _,H,I,rfl,?_⟩
  rw [show its.toArray.any (eqU x) = its.any (eqU x) by simp,zcE r fs]
  exact q
theorem zaP:OpR X (compareOp .NotIn) (rIn X.K true):=by
 intro zp s σ H x y v u Q I rx ry h
 obtain ⟨p,xs,rfl,hq,fx,fs,q⟩:=h
 cases ry
 rcases hq with hq | hq
 ·obtain ⟨its,r,pl,hz⟩:=I.list hq
  refine SeqAt.notIn_listAt (eqU x) pl.isList (fun w hw=>zbs rx fx r fs w (by simpa using hw)) ⟨.bl _,H,I,rfl,?_⟩
  rw [show its.toArray.any (eqU x) = its.any (eqU x) by simp,zcE r fs]
  exact q
 ·obtain ⟨its,r,pl,hz⟩:=I.tuple hq
  refine SeqAt.notIn_tupleAt (eqU x) pl (fun w hw=>zbs rx fx r fs w (by simpa using hw)) ⟨.bl _,H,I,rfl,?_⟩
  rw [show its.toArray.any (eqU x) = its.any (eqU x) by simp,zcE r fs]
  exact q
theorem zem:zau X (.type "list") (fun xs H Q=>∃ p ys,xs = [.ref p]/\(SqL X.K H p ys\/SqT X.K H p ys)/\∀ l,H l = none->Q (.ref l) (upd H l (.lst ys))):=by
 intro zp s σ H xs us Q I r h
 obtain ⟨p,ys,rfl,hq,q⟩:=h
 obtain ⟨u,rfl,rx⟩:=zbf r
 cases rx
 have fin:∀ (its:List Value),Vals ys its->ys.length<=sizeLine->∀ (h':Heap) (c':Nat),(∀ b o',s.heap.get? b = some o'->h'.get? b = some o')->
   h'.get? s.heap.objs.size = some { cls:=.type "list",dict:=none,data:=.seq its.toArray c',slots:=#[] }->EP X zp σ Q (.ref s.heap.objs.size) { s with heap:=h' }:=fun its r' hz h' c' kp e=>
  ⟨.ref s.heap.objs.size,_,I.laid (t':=s.toks) kp (Nat.le_refl _) (show Zh X.prog X.w _ h' _ (.lst ys) from ⟨hz,its,c',r',e⟩),rfl,q _ (I.hok.fresh (Nat.le_refl _))⟩
 rcases hq with hq | hq
 ·obtain ⟨its,r',pl,hz⟩:=I.list hq
  have hlen:=r'.length
  obtain ⟨o,ho,hc,n,hd⟩:=pl.isList
  exact call_list_seq p (.inl rfl) ho hc hd (fun h' c' kp e=>fin its r' hz h' c' kp e) (by simp only [List.size_toArray] <;> omega)
 ·obtain ⟨its,r',pl,hz⟩:=I.tuple hq
  have hlen:=r'.length
  obtain ⟨o,ho,hc,n,hd⟩:=pl
  exact call_list_seq p (.inr rfl) ho hc hd (fun h' c' kp e=>fin its r' hz h' c' kp e) (by simp only [List.size_toArray] <;> omega)
theorem zds:zau X (.type "tuple") (fun xs H Q=>∃ p ys,xs = [.ref p]/\((SqL X.K H p ys/\∀ l,H l = none->Q (.ref l) (upd H l (.tup ys)))\/(SqT X.K H p ys/\Q (.ref p) H))):=by
 intro zp s σ H xs us Q I r h
 obtain ⟨p,ys,rfl,h⟩:=h
 obtain ⟨u,rfl,rx⟩:=zbf r
 cases rx
 rcases h with ⟨hq,q⟩ | ⟨hq,q⟩
 ·obtain ⟨its,r',pl,hz⟩:=I.list hq
  have hlen:=r'.length
  refine call_tuple_list pl.isList (fun h' kp=>?_) (by simp only [List.size_toArray] <;> omega)
  have I1:Inv X zp σ H { s with heap:=h' }:=I.kept (t':=s.toks) kp
  have I2:Inv X zp σ (upd H h'.objs.size (.tup ys)) { s with heap:=h'.push { cls:=.type "tuple",data:=.seq its.toArray } }:=
   I1.laid (t':=s.toks) (fun b o e=>Heap.get?_push_of_some _ e) (Nat.le_refl _) (show Zh X.prog X.w _ _ _ (.tup ys) from ⟨hz,its,r',IsTup.new _ _⟩)
  exact ⟨.ref h'.objs.size,_,I2,rfl,q _ (I1.hok.fresh (Nat.le_refl _))⟩
 ·obtain ⟨its,r',pl,hz⟩:=I.tuple hq
  exact call_tuple_same pl ⟨.ref p,H,I,rfl,q⟩
def tyV (K:PySem.W.Frag) (T:String) (x:V) (H:Hp):Prop:=match x with
 | .str _=>T = "str"
 | .int _=>T = "int"
 | .ref p=>(T = "list"/\∃ xs,SqL K H p xs)\/(T = "tuple"/\∃ o,K.lookup p = some o/\o.cls = .type "tuple"/\o.dict = none) \/
   (T = "dict"/\((∃ kvs,H p = some (.dK kvs))\/∃ kvs,H p = some (.dT kvs)))\/(T = "set"/\∃ S n,H p = some (.set S n))
 | _=>False
theorem zj6 {zp:List (Addr × Obj)}{σ:St}{H:Hp}{s:Shared}{T:String}{x:V}{v:Value} (I:Inv X zp σ H s) (r:RelV x v) (ty:tyV X.K T x H):
  s.TypeIs v T/\∀ a,v = .ref a->∃ ob,s.heap.get? a = some ob/\ob.dict = none:=by
 cases x with
 | str z=>
  obtain ⟨t,rfl⟩:=r
  cases (show T = "str" from ty)
  exact ⟨typeIs_str s z t,fun _ e=>nomatch e⟩
 | int i=>
  obtain ⟨t,rfl⟩:=r
  cases (show T = "int" from ty)
  exact ⟨typeIs_int s i t,fun _ e=>nomatch e⟩
 | ref p=>
  cases r
  rcases ty with ⟨rfl,xs,hq⟩ | ⟨rfl,o,hk,hc,hd⟩ | ⟨rfl,hk⟩ | ⟨rfl,S,n,hk⟩
  ·obtain ⟨its,_,pl,_⟩:=I.list hq
   refine ⟨pl.isList.typeIs,fun a e=>?_⟩
   cases e
   obtain ⟨o,n,e,c,hd,_⟩:=pl
   exact ⟨o,e,hd⟩
  ·refine ⟨⟨o,I.kIn p o hk,hc⟩,fun a e=>?_⟩
   cases e
   exact ⟨o,I.kIn _ o hk,hd⟩
  ·have z:∃ o,s.heap.get? p = some o/\o.ExactDict:=by
    rcases hk with ⟨kvs,hk⟩ | ⟨kvs,hk⟩
    ·obtain ⟨_,_,_,_,o,_,_,e,ex,_⟩:=I.hok p _ hk
     exact ⟨o,e,ex⟩
    ·obtain ⟨_,_,_,_,o,_,_,e,ex,_⟩:=I.hok p _ hk
     exact ⟨o,e,ex⟩
   obtain ⟨o,e,ex⟩:=z
   refine ⟨⟨o,e,ex.1⟩,fun a e2=>?_⟩
   cases e2
   exact ⟨o,e,ex.2.1⟩
  ·obtain ⟨o,_,_,_,e,ex,_⟩:=I.hok p _ hk
   refine ⟨⟨o,e,ex.1⟩,fun a e2=>?_⟩
   cases e2
   exact ⟨o,e,ex.2.1⟩
 | _=>exact False.elim ty
def tBM0 (K:PySem.W.Frag) (T:String) (r:V->List V->Hp->VK->Prop) (to:TE):TE:=fun σ H Q=>to σ H fun x H1=>tyV K T x H1/\r x [] H1 Q
def tBM (K:PySem.W.Frag) (T:String) (r:V->List V->Hp->VK->Prop) (to:TE) (t:TA):TE:=fun σ H Q=>to σ H fun x H1=>tyV K T x H1/\t σ H1 fun xs H2=>r x xs H2 Q
variable {o e:Expr}{es:List Expr}{to:TE}{t:TA}{name:Str}{apos cpos:Pos}{T id:String}{r:V->List V->Hp->VK->Prop}
theorem zdg (pa:PlainAttrs T) (slot:Slot T name id) (hty:typeOf (.builtin id) = pure (.type "method_descriptor")) (hm:MtR X id r) (ho:PE X o to)
  (hbase:attributeBase o name X.env (eval o X.env) = eval o X.env:=by rfl) (hline:(apos.endLine == cpos.line) = true:=by rfl):PE X (.Call (.Attribute o name apos) [] [] cpos) (tBM0 X.K T r to):=by
 intro zp s σ H Q I h
 refine wpAny_Call_method0_late hbase hline (thn (ho zp s σ H _ I h) fun v s1 ⟨x,H1,I1,r1,ty,q1⟩=>?_)
 obtain ⟨h1,h2⟩:=zj6 I1 r1 ty
 exact ⟨T,id,pa,slot,hty,h1,h2,Calls.callWith_builtin rfl (PySem.evalArgs_none (hm zp s1 σ H1 x [] v [] Q I1 r1 .nil q1))⟩
theorem zav (pa:PlainAttrs T) (slot:Slot T name id) (hty:typeOf (.builtin id) = pure (.type "method_descriptor")) (hm:MtR X id r) (ho:PE X o to) (ha:PA X (e :: es) t)
  (hbase:attributeBase o name X.env (eval o X.env) = eval o X.env:=by rfl)
  (hfew:((backTo cpos (starEach (e :: es) X.env)).all (fun x=>!x.1) && (backToKw cpos (keywordEach [] X.env)).all (fun x=>x.1.isSome)
   && decide ((e :: es).length + ([]:List Keyword).length + (if ([]:List Keyword).isEmpty then 0 else 1) < 30)) = true:=by rfl)
  (hline:(apos.endLine == cpos.line) = true:=by rfl) (hs:starEach (e :: es) X.env = (false,eval e X.env) :: starEach es X.env:=by rfl) (hplain:(backTo cpos (starEach es X.env)).any (·.1) = false:=by rfl):
  PE X (.Call (.Attribute o name apos) (e :: es) [] cpos) (tBM X.K T r to t):=by
 intro zp s σ H Q I h
 refine wpAny_Call_method_late hbase hfew hline rfl (thn (ho zp s σ H _ I h) fun v s1 ⟨x,H1,I1,r1,ty,q1⟩=>?_)
 obtain ⟨h1,h2⟩:=zj6 I1 r1 ty
 refine ⟨T,id,pa,slot,hty,h1,h2,?_⟩
 have hA:=ha cpos zp s1 σ H1 _ I1 q1
 rw [hs] at hA ⊢
 refine Calls.callWith_builtin (by show (false || (backTo cpos (starEach es X.env)).any (·.1)) = false; rw [hplain] <;> rfl) (Calls.evalArgs_plain ?_)
 exact thn hA fun us s2 ⟨vs,H2,I2,r2,q2⟩=>hm zp s2 σ H2 x vs v us Q I2 r1 r2 q2
end
def MtM (X:Cx) (id:String) (r:V->List V->Hp->VK->Prop):Prop:=
 ∀ (zp:List (Addr × Obj)) (s:Shared) (σ:St) (H:Hp) (x:V) (xs:List V) (v:Value) (us:List Value) (Q:VK),Inv X zp σ H s->RelV x v->Vals xs us->r x xs H Q->
  wpAny (model X.prog X.w) X.A (call (.builtin id) (v :: us)) (EP X zp σ Q) X.xe s
theorem Vals.one:∀ {x:V}{us:List Value},Vals [x] us->∃ u,us = [u]/\RelV x u
 | _,_,.cons r .nil=>⟨_,rfl,r⟩
theorem Vals.zero:∀ {us:List Value},Vals [] us->us = []
 | _,.nil=>rfl
theorem Vals.dropLast {xs:List V}{us:List Value} (h:Vals xs us):Vals xs.dropLast us.dropLast:=by
 induction h with
 | nil=>exact .nil
 | cons r t ih=>
  cases t with
  | nil=>exact .nil
  | cons q t'=>exact .cons r ih
theorem Vals.eraseIdx:∀ {xs:List V}{us:List Value} (i:Nat),Vals xs us->Vals (xs.eraseIdx i) (us.eraseIdx i)
 | _,_,_,.nil=>.nil
 | _,_,0,.cons _ t=>t
 | _,_,i + 1,.cons r t=>.cons r (Vals.eraseIdx i t)
theorem zgJ {α:Type} (l:List α):l.eraseIdx (l.length - 1) = l.dropLast:=by
 induction l with
 | nil=>rfl
 | cons a r ih=>
  cases r with
  | nil=>rfl
  | cons b r=>
   have e:(a :: b :: r).length - 1 = ((b :: r).length - 1) + 1:=by
    have h1:(a :: b :: r).length = r.length + 2:=rfl
    have h2:(b :: r).length = r.length + 1:=rfl
    omega
   rw [e,List.eraseIdx_cons_succ,ih]
   all_goals rfl
theorem zen {α:Type}:∀ (l:List α) (i:Nat),(l.eraseIdx i).length<=l.length
 | [],_=>Nat.le_refl _
 | _ :: _,0=>Nat.le_succ _
 | _ :: r,i + 1=>Nat.succ_le_succ (zen r i)
theorem zeo (its:List Value):∀ (k:Nat) (acc:List Value),
  List.foldl (fun x1 x2=>x1 ++ x2) acc.toArray (List.replicate k its.toArray) = (acc ++ (List.replicate k its).flatten).toArray
 | 0,acc=>by simp
 | k + 1,acc=>by
  have e:acc.toArray ++ its.toArray = (acc ++ its).toArray:=by simp
  have e2:(acc ++ its) ++ (List.replicate k its).flatten = acc ++ (List.replicate (k + 1) its).flatten:=by
   rw [List.replicate_succ,List.flatten_cons,List.append_assoc]
  rw [← e2,← zeo its k (acc ++ its),← e,List.replicate_succ,List.foldl_cons]
section
variable {X:Cx}{zp:List (Addr × Obj)}{σ:St}{H:Hp}{s:Shared}{l b:Addr}{xs ys zs:List V}
theorem Inv.lset {its its':List Value}{n:Nat}{f:Array Value->Array Value}{t':Nat} (I:Inv X zp σ H s) (hH:H l = some (.lst xs))
  (e:s.heap.get? l = some { cls:=.type "list",data:=.seq its.toArray n }) (hf:f its.toArray = its'.toArray) (hv:Vals ys its') (hz:ys.length<=sizeLine):
  Inv X zp σ (upd H l (.lst ys)) { s with heap:=s.heap.update l (Obj.mapSeq f),toks:=t' }:=by
 have q:=PySem.IsL.update e f
 rw [hf] at q
 refine I.write (x:=l) (e:=l) (by rw [hH]; exact trivial) (.inl rfl) (fun b' u hb hu=>(Heap.get?_update_other s.heap (Obj.mapSeq f) (Ne.symm hb)).trans hu) ⟨_,q⟩ ?_
 exact ⟨hz,its',_,hv,q⟩
theorem Inv.lnew {its:List Value}{t':Nat} (I:Inv X zp σ H s) (hv:Vals ys its) (hz:ys.length<=sizeLine):
  Inv X zp σ (upd H s.heap.objs.size (.lst ys)) { s with heap:=s.heap.push { cls:=.type "list",data:=.seq its.toArray },toks:=t' }:=
 I.laid (fun _ _ q=>Heap.get?_push_of_some _ q) (Nat.le_refl _) ⟨hz,its,0,hv,Heap.get?_push_size _ rfl⟩
theorem Inv.fresh (I:Inv X zp σ H s):H s.heap.objs.size = none:=I.hok.fresh (Nat.le_refl _)
theorem Inv.lstM (I:Inv X zp σ H s) (hH:H l = some (.lst xs)):xs.length<=sizeLine/\∃ (its:List Value) (n:Nat),Vals xs its/\xs.length = its.length/\s.heap.get? l = some { cls:=.type "list",data:=.seq its.toArray n }:=by
 obtain ⟨z,its,n,r,e⟩:=I.hok l _ hH
 exact ⟨z,its,n,r,r.length,e⟩
theorem zi0 {n:Nat} (h:n<=sizeLine):Builtin.List.listTooLong n = false:=by
 unfold Builtin.List.listTooLong
 exact decide_eq_false (by omega)
end
section
variable {X:Cx}
def zhF:V->List V->Hp->VK->Prop:=fun x vs H Q=>∃ l xs y,x = .ref l/\vs = [y]/\H l = some (.lst xs)/\xs.length < sizeLine/\Q .non (upd H l (.lst (xs ++ [y])))
theorem Zv:MtM X "list.append" zhF:=by
 intro zp s σ H x vs v us Q I rx rv h
 obtain ⟨l,xs,y,rfl,rfl,hH,hz,q⟩:=h
 cases rx
 obtain ⟨u,rfl,ru⟩:=rv.one
 obtain ⟨z,its,n,r,hl,e⟩:=I.lstM hH
 refine call_meets F.slot_list_append ⟨_,e,rfl⟩ F.entry_list_append (F.args_list_append_2 _ _) (PySem.list_append l its.toArray n u (by rw [List.size_toArray]; omega)) ⟨e,?_⟩
 refine ⟨.non,_,I.lset (its':=its ++ [u]) hH e (by simp) (r.append (.cons ru .nil)) ?_,rfl,q⟩
 rw [List.length_append,List.length_singleton]
 omega
def zkE:V->List V->Hp->VK->Prop:=fun x vs H Q=>∃ l b xs zs,x = .ref l/\vs = [.ref b]/\H l = some (.lst xs)/\H b = some (.lst zs)/\xs.length + zs.length<=sizeLine/\Q .non (upd H l (.lst (xs ++ zs)))
theorem zcF:MtM X "list.extend" zkE:=by
 intro zp s σ H x vs v us Q I rx rv h
 obtain ⟨l,b,xs,zs,rfl,rfl,hH,hB,hz,q⟩:=h
 cases rx
 obtain ⟨u,rfl,ru⟩:=rv.one
 cases ru
 obtain ⟨z,its,n,r,hl,e⟩:=I.lstM hH
 obtain ⟨z2,its2,n2,r2,hl2,e2⟩:=I.lstM hB
 have hsz:its.toArray.size + its2.toArray.size<=sizeLine:=by rw [List.size_toArray,List.size_toArray]; omega
 have hlong:¬ (!its.toArray.isEmpty && Builtin.List.listTooLong (its.toArray.size + its2.toArray.size)) = true:=by
  rw [zi0 hsz,Bool.and_false]
  exact Bool.false_ne_true
 refine call_meets F.slot_list_extend ⟨_,e,rfl⟩ F.entry_list_extend (F.args_list_extend_2 _ _)
  (AutoSeq1.list_extend_list_list_0 l its.toArray n b its2.toArray n2 hlong (by rw [List.size_toArray]; omega) (by omega)) ⟨e,e2,?_⟩
 refine ⟨.non,_,I.lset (its':=its ++ its2) hH e (by simp) (r.append r2) ?_,rfl,q⟩
 rw [List.length_append]
 omega
def rPop:V->List V->Hp->VK->Prop:=fun x vs H Q=>∃ l xs y,x = .ref l/\vs = []/\H l = some (.lst xs)/\xs[xs.length - 1]? = some y/\Q y (upd H l (.lst xs.dropLast))
theorem zj7:MtM X "list.pop" rPop:=by
 intro zp s σ H x vs v us Q I rx rv h
 obtain ⟨l,xs,y,rfl,rfl,hH,hy,q⟩:=h
 cases rx
 have hus:=rv.zero
 subst hus
 obtain ⟨z,its,n,r,hl,e⟩:=I.lstM hH
 obtain ⟨u,hu,ru⟩:=r.get hy
 have hy':its.toArray[its.toArray.size - 1]? = some u:=by
  show its.toArray[its.length - 1]? = some u
  rw [← Array.getElem?_toList,← hl]
  exact hu
 refine call_meets F.slot_list_pop ⟨_,e,rfl⟩ F.entry_list_pop (F.args_list_pop_1 _) (MeetsSeq.list_pop_last l its.toArray n u hy' (by rw [List.size_toArray]; omega)) ⟨e,?_⟩
 refine ⟨y,_,I.lset (its':=its.dropLast) hH e ?_ r.dropLast ?_,ru,q⟩
 ·show its.toArray.eraseIdxIfInBounds (its.toArray.size - 1) = its.dropLast.toArray
  rw [List.size_toArray,List.eraseIdxIfInBounds_toArray,zgJ]
 ·rw [List.length_dropLast]
  omega
def rCat:R2:=fun x y H Q=>∃ l b xs zs,x = .ref l/\y = .ref b/\H l = some (.lst xs)/\H b = some (.lst zs)/\xs.length + zs.length<=sizeLine/\∀ p,H p = none->Q (.ref p) (upd H p (.lst (xs ++ zs)))
theorem zcG:OpR X (binaryOp .Add) rCat:=by
 intro zp s σ H x y v u Q I rx ry h
 obtain ⟨l,b,xs,zs,rfl,rfl,hH,hB,hz,q⟩:=h
 cases rx
 cases ry
 obtain ⟨z,its,n,r,hl,e⟩:=I.lstM hH
 obtain ⟨z2,its2,n2,r2,hl2,e2⟩:=I.lstM hB
 refine PySem.P.add_list e e2 ?_ (by rw [List.size_toArray,List.size_toArray]; omega)
 have ea:its.toArray ++ its2.toArray = (its ++ its2).toArray:=by simp
 rw [ea]
 exact ⟨.ref _,_,I.lnew (t':=s.toks) (r.append r2) (by rw [List.length_append]; omega),rfl,q _ I.fresh⟩
theorem zkF {α:Type} (xs:List α) (k:Nat):(List.replicate k xs).flatten.length = k * xs.length:=by
 induction k with
 | zero=>simp
 | succ k ih=>rw [List.replicate_succ,List.flatten_cons,List.length_append,ih,Nat.succ_mul,Nat.add_comm]
end
section
variable {prog:Program}{w:World}{A:Around}{E:Value->Shared->Prop}{s:Shared}
set_option maxRecDepth 100000 in
end
section
variable {X:Cx}
end
end L2
namespace Att
open PySem PySem.W PySem.Calls PyProof.Rows
theorem zcH {P:Params}{h:Heap}:∀ (ns:List Int) (vs:List Value),WellAll P h vs (ns.map WData.int)->IntsAre vs ns:=by
 intro ns
 induction ns with
 | nil=>
  intro vs w
  rw [List.map_nil] at w
  cases w
  exact .nil
 | cons n ns ih=>
  intro vs w
  rw [List.map_cons] at w
  cases w with
  | cons a b=>
   cases a
   exact .cons _ _ (ih _ b)
theorem zhG {l:OpenLaw}{n:Nat} (hn:l.most = some n) {P:Params}{h:Heap}{args:List WData}{vals:List Value}
  (hpre:l.row.toRowW.claim.pre args = true) (hwl:WellAll P h vals args):
  ∃ a vs ns,vals = [Value.ref a]/\args = [WData.list (ns.map WData.int)]/\h.get? a = some { cls:=.type "list",data:=.seq vs.toArray }/\IntsAre vs ns/\ns.length<=n:=by
 have hsh:WShape.hasAll [] args [.list .int] = true:=(pre_splitW hpre).1
 have hc:l.pre.holds [] { args:=args } = true:=(pre_splitW hpre).2
 obtain ⟨d,r,rfl,h1,h2⟩:=hasAllW_cons hsh
 obtain rfl:=hasAllW_nil h2
 obtain ⟨xs,rfl,h3⟩:=hasW_list h1
 obtain ⟨ns,rfl⟩:=items_int h3
 have hlen:ns.length<=n:=by
  unfold OpenLaw.pre at hc
  have h4:(WTm.not (.lt (.lit (.int (n:Int))) (.len (.arg 0)))).holds [] { args:=[.list (ns.map .int)] } = true:=by
   have h4:=(holds_andW hc).1
   rw [hn] at h4
   exact h4
  have h5:=condW_of h4 (w_not (w_lt w_lit (w_len_list (w_arg rfl))))
  rw [List.length_map] at h5
  refine Nat.le_of_not_lt fun q=>?_
  have q':(n:Int) < ((ns.length:Nat):Int):=by omega
  first
   | (rw [decide_eq_true q'] at h5; exact absurd h5 (by decide))
   | (simp at h5; omega)
 cases hwl with
 | cons w1 w2=>
  cases w2
  cases w1 with
  | list ho hall=>exact ⟨_,_,ns,rfl,rfl,ho,zcH ns _ hall,hlen⟩
theorem zhH (l:OpenLaw) (args:List WData):l.row.toRowW.claim.post args (.bool true) args = true:=
 postW_of (r:=l.row.toRowW) (X:=(true == true))
  (show WShape.has [] (.bool true) .bool = true by first | rfl | decide | simp [WShape.has,WShape.arms,WShape.armsAll])
  (show (WTm.eq .res (.lit (.bool true))).value [] { args:=args,res:=some (.bool true),after:=args } = some (.bool (true == true)) from w_eq_bool (w_res rfl) w_lit) rfl
theorem attach_call {l:OpenLaw}{n:Nat}{q:Program}{loose:List Str}{XP:(Str->Option Value)->Heap->Prop}{YP:World->Heap->Prop}{d:DefRec}
  (hn:l.most = some n) (hdf:d.params.defaults = [])
  (call:∀ (w:World) (s₀ s₁:Shared) (mg mb:Str->Option Value) (fa:Addr) (o:Obj) (pm cd doc:Value) (a:Addr) (vs:List Value) (ns:List Int),
   Ground q loose [] XP w s₀ mg mb s₁.heap->YP w s₁.heap->
   s₁.heap.get? fa = some o->o.data = .func (docDef d.name d.params d.body d.scope pm cd doc)->s₁.heap.CodeRec cd d.name->mg d.name = some (.ref fa)->
   s₁.heap.get? a = some { cls:=.type "list",data:=.seq vs.toArray }->IntsAre vs ns->ns.length<=n->s₁.gens = #[]->
   codeAny (model l.prog w) callerA (.call (.ref fa) ⟨[.ref a],[]⟩) (fun r s'=>r = .ok (.ret (.bool true))/\OldK s₁.heap s'.heap/\s'.os = s₁.os/\AllBare s'.gens) s₁):
  WalkO q loose XP YP l.row.toRowW d [] (fun f vs=>PySem.call f vs):=by
 intro w s₀ s₁ mg mb G Y fa o pm cd doc dV kV ho hd hcd hD hmg hg args vals as hpre hlay hrd hwl hlo
 obtain rfl:dV = .none:=Dflts.none hD hdf
 obtain rfl:kV = .none:=Dflts.noKw hD
 obtain ⟨a,vs,ns,rfl,rfl,hobj,hints,hlen⟩:=zhG hn hpre hwl
 refine enter_call (codeAny_mono (call w s₀ s₁ mg mb fa o pm cd doc a vs ns G Y ho (fd_plain hd) hcd hmg hobj hints hlen hg) fun r s' hq=>?_)
 obtain ⟨rfl,h2,h3,h4⟩:=hq
 exact ⟨.inl ⟨.bool true,.bool true,[],rfl,fun _=>rfl,.bool true,zhH l _,fun _=>⟨List.Pairwise.nil,fun _ hm=>(nomatch hm)⟩⟩,h2,h3,h4⟩
section
variable {prog:Program}{w:World}{A:Around}{E:Value->Shared->Prop}{s:Shared}{K:Frag}
def ledger (h:Heap) (L d:Addr):List (Addr × Obj):=(List.range h.objs.size).filterMap fun a=>if a = L\/a = d then none else (h.get? a).map fun o=>(a,o)
end
end Att
namespace L2
open PySem PySem.Spec PyProof.Rows
theorem zep:∀ {vs:List Value}{ns:List Int},IntsAre vs ns->Vals (ns.map V.int) vs
 | _,_,.nil=>.nil
 | _,_,.cons n t h=>.cons ⟨t,rfl⟩ (zep h)
def Only (H:Hp):Prop:=∀ b,H b = none\/∃ o xs,H b = some (.frz o (.lst xs))
theorem zi1 {P:Program}{w:World}{K:PySem.W.Frag}{mg mb:Str->Option Value}{CX:CXT}{k:Nat}{fa a:Addr}{fd:FuncData}{x:Str}{sp:Sp}{s₁:Shared}{vs:List Value}{ns:List Int}
  (KX:K.In s₁.heap) (hns:s₁.heap.Ns mainGlobals mg) (hb:s₁.heap.Ns builtinsNs mb) (hbb:∀ x:Str,x≠"__name__"->mb x = bootBuiltins x) (hlim:s₁.heap.NoLimit) (hg:s₁.gens = #[])
  (ha:s₁.heap.get? a = some { cls:=.type "list",data:=.seq vs.toArray }) (hi:IntsAre vs ns) (hl:ns.length<=sizeLine) (hr:Room k callerA)
  (F:∀ base:Heap,K.In base->base.Ns mainGlobals mg->FnOk P w K mg base CX k fa fd [x] sp) (hbind:∀ (s:Shared) (u:Value),BindsTo s fd ⟨[u],[]⟩ [(x,u)])
  (hsp:∀ H:Hp,Only H->SqL K H a (ns.map V.int)->sp [.ref a] H (fun v _=>v = .bl true) fun _ _ _=>False)
  (hCX:∀ H e s',CX [] H s₁ (fun _ _ _=>False) e s'->False):
  codeAny (model P w) callerA (.call (.ref fa) ⟨[.ref a],[]⟩) (fun r s'=>r = .ok (.ret (.bool true))/\OldK s₁.heap s'.heap/\s'.os = s₁.os/\AllBare s'.gens) s₁:=by
 have rv:=zep hi
 have lenV:=hi.length
 have core:∀ H:Hp,Only H->SqL K H a (ns.map V.int)->HOk P w H s₁.heap->(∀ b,H b≠none->b = a)->(H a≠none->K.lookup a = none)->
   codeAny (model P w) callerA (.call (.ref fa) ⟨[.ref a],[]⟩) (fun r s'=>r = .ok (.ret (.bool true))/\OldK s₁.heap s'.heap/\s'.os = s₁.os/\AllBare s'.gens) s₁:=by
  intro H hO hS hok hA hK
  have base_of:∀ {b:Addr}{o:Obj},s₁.heap.get? b = some o->H b = none->(hidT s₁.heap H).get? b = some o:=fun e n=>ziL e n
  have noA:∀ {b:Addr}{o:Obj}{es:Array DictEntry}{ep:Nat},s₁.heap.get? b = some o->o.data = .dict es ep->H b = none:=fun {b o es ep} e d=>by
   cases q:H b with
   | none=>rfl
   | some u=>
    have e':b = a:=hA b (by rw [q]; simp)
    subst e'
    rw [ha] at e; cases e
    have d':Data.seq vs.toArray _ = Data.dict es ep:=d
    cases d'
  have nsK:∀ {b:Addr}{m:Str->Option Value},s₁.heap.Ns b m->(hidT s₁.heap H).Ns b m:=fun {b m} ⟨o,es,ep,e,d,r⟩=>⟨o,es,ep,base_of e (noA e d),d,r⟩
  have hKb:K.In (hidT s₁.heap H):=fun b o e=>base_of (KX b o e) (by
   cases q:H b with
   | none=>rfl
   | some u=>
    have e':b = a:=hA b (by rw [q]; simp)
    subst e'
    rw [hK (by rw [q]; simp)] at e; cases e)
  have hM:Mod K mg (hidT s₁.heap H):=⟨hKb,nsK hns,⟨mb,nsK hb,hbb⟩,let ⟨mc,h1,h2⟩:=hlim; ⟨mc,nsK h1,h2⟩⟩
  have e0:Env0 P w K mg (hidT s₁.heap H) callerA [] s₁ H:=⟨rfl,hM,fun b o e=>zkt e,Nat.le_of_eq (zhb _ _),trivial,fun b hb=>absurd (show b∈([]:List Addr) from hb) (by simp),hok,.of_eq hg⟩
  refine codeAny_mono ((F _ hKb (nsK hns)).run callerA [] s₁ H ⟨[.ref a],[]⟩ [.ref a] [.ref a] _ _ hr e0 (hbind s₁ (.ref a)) (.cons rfl .nil) (hsp H hO hS)) fun r s' h=>?_
  cases r with
  | error e=>exact (hCX H e s' h).elim
  | ok fl=>
   cases fl with
   | next=>exact False.elim h
   | brk=>exact False.elim h
   | cont=>exact False.elim h
   | ret u=>
    obtain ⟨v,H',os,bare,un,hok',r',q⟩:=h
    have q':v = .bl true:=q
    subst q'
    obtain rfl:u = Value.bool true:=r'
    refine ⟨rfl,OldK.of_keep fun b o e=>?_,os,bare⟩
    cases q:H b with
    | none=>exact un.keep b o e q (by intro z; exact absurd (show b∈([]:List Addr) from z) (by simp)) (by simp)
    | some u=>
     rcases hO b with z | ⟨ob,xs,z⟩
     ·rw [q] at z; cases z
     ·have z2:=un.frzs b ob _ z
      obtain ⟨e1,_⟩:=hok b _ z
      obtain ⟨e2,_⟩:=hok' b _ z2
      rw [e] at e1; cases e1
      exact e2
 cases hk:K.lookup a with
 | some o=>
  have e:=KX a o hk
  rw [ha] at e
  cases e
  refine core (fun _=>none) (fun _=>.inl rfl) (.inr ⟨_,vs.toArray,_,hk,rfl,rfl,rfl,by rw [List.size_toArray,lenV]; exact hl,by simpa using rv⟩) (fun b u z=>by have z':(none:Option HO) = some u:=z; cases z') (fun b z=>absurd rfl z) fun z=>absurd rfl z
 | none=>
  refine core (fun b=>if b = a then some (.frz { cls:=.type "list",data:=.seq vs.toArray } (.lst (ns.map V.int))) else none) (fun b=>?_) (.inl (.inr ⟨{ cls:=.type "list",data:=.seq vs.toArray },if_pos rfl⟩)) (fun b u z=>?_) (fun b z=>?_) fun _=>hk
  ·by_cases hb:b = a
   ·exact .inr ⟨_,_,if_pos hb⟩
   ·exact .inl (if_neg hb)
  ·by_cases hb:b = a
   ·have z':=(if_pos hb).symm.trans z
    cases z'
    subst hb
    exact ⟨ha,by rw [List.length_map]; exact hl,vs,_,rv,ha⟩
   ·have z':=(if_neg hb).symm.trans z
    cases z'
  ·by_cases hb:b = a
   ·exact hb
   ·exact absurd (if_neg hb) z
abbrev KOf {K:PySem.W.Frag}{h:Heap} (_:K.In h):PySem.W.Frag:=K
theorem zkG {l:PySem.W.OpenLaw}{n k:Nat}{q:Program}{loose:List Str}{XP:(Str->Option Value)->Heap->Prop}{YP:World->Heap->Prop}{d:DefRec}{K:Params->PySem.W.Frag}{CX:World->CXT}{sp:World->Sp}{x:Str}
  (hn:l.most = some n) (hn2:n<=sizeLine) (hdf:d.params.defaults = []) (hr:Room k callerA)
  (hY:∀ (w:World) (h:Heap),YP w h->(K w.params).In h)
  (F:∀ (w:World) (mg:Str->Option Value) (fa:Addr) (h:Heap),(K w.params).In h->h.Ns mainGlobals mg->mg d.name = some (.ref fa)->
   ∃ fd:FuncData,(∀ (s:Shared) (u:Value),BindsTo s fd ⟨[u],[]⟩ [(x,u)]) /\
    ∀ base:Heap,(K w.params).In base->base.Ns mainGlobals mg->FnOk l.prog w (K w.params) mg base (CX w) k fa fd [x] (sp w))
  (hsp:∀ (w:World) (H:Hp) (a:Addr) (ns:List Int),ns.length<=n->Only H->SqL (K w.params) H a (ns.map V.int)->sp w [.ref a] H (fun v _=>v = .bl true) fun _ _ _=>False)
  (hCX:∀ (w:World) (H:Hp) (s:Shared) (e:Value) (s':Shared),CX w [] H s (fun _ _ _=>False) e s'->False):
  PySem.W.WalkO q loose XP YP l.row.toRowW d [] (fun f vs=>PySem.call f vs):=by
 refine Att.attach_call hn hdf fun w s₀ s₁ mg mb fa o pm cd doc a vs ns G Y ho hd hcd hmg hobj hints hlen hg=>?_
 have KX:=hY w _ Y
 obtain ⟨fd,hb,hF⟩:=F w mg fa _ KX G.T.g hmg
 exact zi1 KX G.T.g G.T.b G.T.builtins G.T.nolimit hg hobj hints (Nat.le_trans hlen hn2) hr hF hb (fun H hO hS=>hsp w H a ns hlen hO hS) fun H e s'=>hCX w H s₁ e s'
end L2
namespace L2
open PySem PySem.Spec PyProof.Rows
def zaB (s:Stmt) (j:Nat):Stmt:=match s with
 | .ClassDef _ _ _ body _ _ _ _ _ _ _=>body.getD j (.Pass ⟨0,0,0,0⟩)
 | _=>.Pass ⟨0,0,0,0⟩
def ZA (s:Stmt):Arguments:=match s with
 | .FunctionDef _ a _ _ _ _ _ _ _ _=>a
 | _=>{ posonlyargs:=[],args:=[],vararg:=none,kwonlyargs:=[],kw_defaults:=[],kwarg:=none,defaults:=[] }
def Zl (s:Stmt):List Stmt:=match s with
 | .FunctionDef _ _ b _ _ _ _ _ _ _=>b
 | _=>[]
def zh (s:Stmt):Scope:=match s with
 | .FunctionDef _ _ _ _ _ _ sc _ _ _=>sc
 | _=>{ kind:=.function,names:=[],isGenerator:=false,isCoroutine:=false }
abbrev CX0:CXT:=fun _ _ _ _ _ _=>False
abbrev E0:XK:=fun _ _ _=>False
theorem zkH {X:Cx}:Passes CX0 X E0:=fun _ _ _ _ _ _ _ h=>h.elim
structure Fun (K:PySem.W.Frag) (x qual:Str) (st:Stmt) (f:Addr) (fd:FuncData):Prop where
 ex:∃ (oc:Value) (od:Option Addr) (kV doc pm:Value) (an:Option Addr) (cdv ct:Value) (osl:Array (Option Value)),
  fd = fnOf x qual (ZA st) (Zl st) (zh st) .none kV doc pm an cdv ct/\K.lookup f = some ⟨oc,od,.func fd,osl⟩/\codeIn K cdv qual = true
 kp:keepIn K (.ref f) = true
section
variable {P:Program}{w:World}{K:PySem.W.Frag}{mg:Str->Option Value}{base:Heap}
theorem Fun.ok {x qual:Str}{st:Stmt}{f:Addr}{fd:FuncData}{N ps:List Str}{k:Nat}{sp:Sp} (F:Fun K x qual st f fd) (S:FnScope N ps (zh st)) (len:∀ vs H Q E,sp vs H Q E->vs.length = ps.length)
  (hbody:∀ (cdv:Value) (A:Around) (outer:List Env) (s:Shared) (H:Hp) (vs:List V) (Q:VK) (E:XK),Room k (A.deeper (envOfC qual (zh st) s.heap.objs.size f cdv))->sp vs H Q E->
   ∃ t,PSs (cxOf CX0 P w K mg base N qual (zh st) f cdv A outer s H E).nox (Zl st) t/\t { nx:=fun _ H'=>Q .non H',rt:=Q } (start N vs) H):FnOk P w K mg base CX0 (k + 1) f fd ps sp:=by
 obtain ⟨oc,od,kV,doc,pm,an,cdv,ct,osl,rfl,lk,hcd⟩:=F.ex
 refine zlC lk hcd S len fun A outer s H vs Q E hr hsp=>?_
 obtain ⟨t,h,q⟩:=hbody cdv A outer s H vs Q E hr hsp
 exact ⟨t,h.nox,q⟩
theorem Fun.binds {x qual:Str}{st:Stmt}{f:Addr}{fd:FuncData}{ps:List Str} (F:Fun K x qual st f fd)
  (h:∀ (kV doc pm:Value) (an:Option Addr) (cdv ct:Value) (us:List Value),us.length = ps.length->bindArgs (fnOf x qual (ZA st) (Zl st) (zh st) .none kV doc pm an cdv ct) ⟨us,[]⟩ = pure (ps.zip us)):Binds K fd ps []:=by
 obtain ⟨oc,od,kV,doc,pm,an,cdv,ct,osl,rfl,lk,hcd⟩:=F.ex
 exact .all (h kV doc pm an cdv ct)
theorem zA {x qual:Str}{st:Stmt}{f:Addr}{oc:Value}{od an:Option Addr}{osl:Array (Option Value)}{kV doc pm cdv ct:Value} (l:K.lookup f = some ⟨oc,od,.func (fnOf x qual (ZA st) (Zl st) (zh st) .none kV doc pm an cdv ct),osl⟩)
  (c:codeIn K cdv qual = true) (k:keepIn K (.ref f) = true):Fun K x qual st f (fnOf x qual (ZA st) (Zl st) (zh st) .none kV doc pm an cdv ct):=⟨⟨oc,od,kV,doc,pm,an,cdv,ct,osl,rfl,l,c⟩,k⟩
end
theorem zfc {A:Around}{k:Nat} (hr:Room k A):A.units + 1 < cLine:=Nat.lt_of_le_of_lt (Nat.add_le_add_left (by decide:1<=64) _) hr.units
section
variable {X:Cx}
theorem pv (i:Nat) {x:Str}{pos:Pos} (hN:X.N[i]? = some x:=by rfl) (hv:Vis X.env.scope x:=by first | exact Or.inl rfl | exact Or.inr (Or.inl rfl) | exact Or.inr (Or.inr rfl)) (hd:(x == ("__debug__":Str)) = false:=by decide)
  (hcd:(x == ("__classdict__":Str)) = false:=by decide):PE X (.Name x pos) (tVar i):=zhc hN hv hd hcd
end
theorem iteF {A B:Prop} (h:B):if false = true then A else B:=by
 rw [if_neg Bool.false_ne_true]
 exact h
theorem iteT {A B:Prop} (h:A):if true = true then A else B:=by
 rw [if_pos rfl]
 exact h
theorem ite2 {c A B:Prop} [Decidable c] (h1:c->A) (h2:¬ c->B):if c then A else B:=by
 by_cases h:c
 ·rw [if_pos h]
  exact h1 h
 ·rw [if_neg h]
  exact h2 h
def Same (H H':Hp):Prop:=∀ b o,H b = some o->H' b = some o
theorem Same.refl (H:Hp):Same H H:=fun _ _ h=>h
theorem Same.trans {H H1 H2:Hp} (a:Same H H1) (b:Same H1 H2):Same H H2:=fun c o h=>b c o (a c o h)
theorem Same.free {H H':Hp} (e:Same H H') {l:Addr} (h:H' l = Option.none):H l = Option.none:=by
 cases q:H l with
 | none=>rfl
 | some o=>
  rw [e l o q] at h
  cases h
theorem Same.seq {K:PySem.W.Frag}{H H':Hp}{a:Addr}{xs:List V} (e:Same H H') (h:SqL K H a xs):SqL K H' a xs:=by
 rcases h with (h | ⟨o,h⟩) | h
 ·exact .inl (.inl (e _ _ h))
 ·exact .inl (.inr ⟨o,e _ _ h⟩)
 ·exact .inr h
section
variable {κ:Type} [DecidableEq κ]
theorem zfX {kvs:List (κ × V)}{k:κ} (h:valV kvs k = none):¬ k∈kvs.map (·.1):=by
 intro m
 obtain ⟨p,hp,e⟩:=List.mem_map.mp m
 have q:(kvs.any fun kv=>decide (kv.1 = k)) = true:=List.any_eq_true.mpr ⟨p,hp,decide_eq_true e⟩
 rw [Z3,h] at q
 exact absurd q (by simp)
theorem zkI {kvs:List (κ × V)}{k:κ}{v:V} (h:valV kvs k = some v):k∈kvs.map (·.1):=by
 have q:(kvs.any fun kv=>decide (kv.1 = k)) = true:=by
  rw [Z3,h]
  all_goals rfl
 obtain ⟨p,hp,e⟩:=List.any_eq_true.mp q
 exact List.mem_map.mpr ⟨p,hp,of_decide_eq_true e⟩
theorem zfd:∀ {l:List κ}{k:κ},l.Nodup->¬ k∈l->(l ++ [k]).Nodup
 | [],k,_,_=>by simp
 | a :: r,k,h,hk=>by
  obtain ⟨h1,h2⟩:=List.nodup_cons.mp h
  show (a :: (r ++ [k])).Nodup
  refine List.nodup_cons.mpr ⟨fun m=>?_,zfd h2 fun m=>hk (List.mem_cons.mpr (Or.inr m))⟩
  rcases List.mem_append.mp m with q | q
  ·exact h1 q
  ·exact hk (List.mem_cons.mpr (Or.inl (List.mem_singleton.mp q).symm))
theorem zkJ {kvs:List (κ × V)}{k:κ} (v:V) (hn:(kvs.map (·.1)).Nodup) (h:valV kvs k = none):((putK kvs k v).map (·.1)).Nodup:=by
 rw [ziW v h,List.map_append]
 exact zfd hn (zfX h)
theorem zeq {p:κ × V}{r:List (κ × V)}{k:κ} (e:p.1 = k):zI (p :: r) k = zI r k:=by
 unfold zI
 rw [List.filter_cons,if_neg (by simp [e])]
theorem zer {p:κ × V}{r:List (κ × V)}{k:κ} (e:¬ p.1 = k):zI (p :: r) k = p :: zI r k:=by
 unfold zI
 rw [List.filter_cons,if_pos (by simp [e])]
theorem zes {kvs:List (κ × V)}{k:κ}{p:κ × V} (h:p∈zI kvs k):p∈kvs:=(List.mem_filter.mp h).1
theorem zbt:∀ {kvs:List (κ × V)}{k:κ},(kvs.map (·.1)).Nodup->((zI kvs k).map (·.1)).Nodup
 | [],_,_=>List.nodup_nil
 | p :: r,k,h=>by
  have h:(p.1 :: r.map (·.1)).Nodup:=h
  obtain ⟨h1,h2⟩:=List.nodup_cons.mp h
  by_cases e:p.1 = k
  ·rw [zeq e]
   exact zbt h2
  ·rw [zer e]
   show (p.1 :: (zI r k).map (·.1)).Nodup
   refine List.nodup_cons.mpr ⟨fun m=>h1 ?_,zbt h2⟩
   obtain ⟨q,hq,eq⟩:=List.mem_map.mp m
   exact List.mem_map.mpr ⟨q,zes hq,eq⟩
end
theorem HOk.track {P:Program}{w:World}{H:Hp}{h:Heap}{a:Addr}{o:HO} (x:HOk P w H h) (hn:H a = none) (new:Zh P w (upd H a o) h a o):HOk P w (upd H a o) h:=fun b u e=>by
 by_cases hb:b = a
 ·subst hb; rw [zc] at e; cases e; exact new
 ·rw [zg hb] at e
  exact (x b u e).stay (fun c v _ q=>q) (fun c q=>by rw [zg (zk q hn)]; exact q) fun c xs q=>by rw [zg (zk q hn)]; exact q
theorem HOk.other {P:Program}{w:World}{H:Hp}{h h':Heap}{a:Addr} (x:HOk P w H h) (hn:H a = none) (hs:Heap.SameBut a h h'):HOk P w H h':=fun b u e=>
 (x b u e).stay (fun c v hc q=>(hs.2 c (by
  rintro rfl
  rcases hc with rfl | hc
  ·rw [hn] at e; cases e
  ·rw [hn] at hc; cases hc)).trans q) (fun _ q=>q) fun _ _ q=>q
section
variable {prog:Program}{w:World}{A:Around}{R:Result->Shared->Prop}{s:Shared}
theorem zet {elt target iter:Expr}{ifs:List Expr}{scope:Scope}{pos:Pos}{it acc:Value}{env:Env} (I:Nat->Shared->Prop)
  (turn:∀ n s,I n s->wpAny (model prog w) A (pyNext it) (fun r s₁=>match r with
   | none=>R (.ok .next) s₁
   | some v=>wpAny (model prog w) A (letOwnedTupleGo target it v) (fun _ s₀=>wpAny (model prog w) A (assign target env v) (fun _ s₂=>
     wpAny (model prog w) A (forIn ifs true fun c r=>if r = true then do let ok ← isTrue c env (eval c env); pure (ForInStep.yield ok) else pure (ForInStep.yield r)) (fun ok s₃=>
      if ok = true then wpAny (model prog w) A (eval elt env) (fun x s₄=>
       wpAny (model prog w) A (call (.builtin "list.append") [acc,x]) (fun _ s₅=>∃ m,m < n/\I m s₅) (notedBy (model prog w) A env fun e s'=>R (.error e) s') s₄) (notedBy (model prog w) A env fun e s'=>R (.error e) s') s₃
      else ∃ m,m < n/\I m s₃) (notedBy (model prog w) A env fun e s'=>R (.error e) s') s₂) (notedBy (model prog w) A env fun e s'=>R (.error e) s') s₀) (notedBy (model prog w) A env fun e s'=>R (.error e) s') s₁) (notedBy (model prog w) A env fun e s'=>R (.error e) s') s)
  (n:Nat) (h:I n s):codeAny (model prog w) A (.compLoop (.ListComp elt [⟨target,iter,ifs,0⟩] scope pos) 0 it acc env) R s:=by
 refine codeAny_loop rfl I (fun n s hI=>?_) n h
 show wpAny _ A ((compTurn (.ListComp elt [⟨target,iter,ifs,0⟩] scope pos) 0 it acc env).onRaise (fun x=>do noteFrame x env; theTreesLotGoes x)) _ _ s
 refine wpAny_noted ?_
 rw [compTurn_list]
 refine wpAny_bind (wpAny_standAt (wpAny_bind (wpAny_mono (turn n s hI) (fun r s₁ h₁=>?_) fun _ _ h'=>h')))
 cases r with
 | none=>exact wpAny_pure h₁
 | some v=>
  refine wpAny_bind (wpAny_mono h₁ (fun _ s₀ h₀=>?_) fun _ _ h'=>h')
  refine wpAny_bind (wpAny_mono h₀ (fun _ s₂ h₂=>wpAny_bind (wpAny_mono h₂ (fun ok s₃ h₃=>?_) fun _ _ h'=>h')) fun _ _ h'=>h')
  cases ok with
  | false=>exact wpAny_pure ⟨rfl,h₃⟩
  | true=>
   exact wpAny_bind (wpAny_bind (wpAny_mono h₃ (fun x s₄ h₄=>wpAny_bind (wpAny_mono h₄ (fun _ s₅ h₅=>wpAny_pure (wpAny_pure ⟨rfl,h₅⟩)) fun _ _ h'=>h')) fun _ _ h'=>h'))
end
def zK (X:Cx) (scope:Scope) (cl:List (Str × Addr)) (NY:List Str) (C:Addr) (s:Shared) (H:Hp) (fp:List Addr):Cx where
 prog:=X.prog
 w:=X.w
 K:=X.K
 mg:=X.mg
 base:=X.base
 A:=X.A
 N:=NY
 s₀:=s
 H₀:=H
 env:=compEnvC scope cl C X.env
 outer:=X.stack
 stack:=X.stack
 ex:=fp
 fn:=fun _=>false
 calm:=true
 pn:=[]
 xe:=notedBy (model X.prog X.w) X.A (compEnvC scope cl C X.env) fun e s'=>compPost (model X.prog X.w) X.A X.xe none (fun _ _=>False) .none C (.error e) s'
def ClOk:List (Str × Addr)->List (Str × Addr)->Prop
 | [],_=>True
 | p :: r,cells=>cells.lookup p.1 = some p.2/\ClOk r cells
theorem ClOk.mem:∀ {cl cells:List (Str × Addr)},ClOk cl cells->∀ {x:Str}{c:Addr},cl.lookup x = some c->cells.lookup x = some c
 | [],_,_,_,_,e=>by simp at e
 | (y,d) :: r,cells,h,x,c,e=>by
  rw [List.lookup_cons] at e
  split at e
  ·rename_i q
   have q':x = y:=by simpa using q
   subst q'
   cases e
   exact h.1
  ·exact ClOk.mem h.2 e
def FrOk (X:Cx) (scope:Scope) (cl:List (Str × Addr)):List Nat->List Str->Prop
 | [],[]=>True
 | i :: r,y :: ys=>(X.N[i]? = some y/\scope.names.lookup y = some .free/\Vis X.env.scope y/\X.env.kindOf y≠some .local/\∃ c,cl.lookup y = some c)/\FrOk X scope cl r ys
 | _,_=>False
def PIfs (X:Cx) (ifs:List Expr) (t:TT):Prop:=
 ∀ (zp:List (Addr × Obj)) (s:Shared) (σ:St) (H:Hp) (Q:Bool->Hp->Prop),Inv X zp σ H s->t σ H Q->
  wpAny (model X.prog X.w) X.A (forIn ifs true fun c r=>if r = true then do let ok ← isTrue c X.env (eval c X.env); pure (ForInStep.yield ok) else pure (ForInStep.yield r)) (TP X zp σ Q) X.xe s
theorem Zx {X:Cx}:PIfs X [] (fun _ H Q=>Q true H):=fun _ _ _ H _ I h=>wpAny_tests_nil ⟨H,I,h⟩
def frees (fr:List Nat) (σ:St):St:=fr.map fun k=>(σ[k]?).join
def zcI (fr:List Nat) (wi:TI) (tt:TT) (te:TE):TE:=fun σ H Q=>wi σ H fun J H1=>∃ W:Nat->Nat->List V->Hp->Prop,(∃ m,W 0 m [] H1)/\∀ i m vs H,W i m vs H->vs.length<=sizeLine /\
 ((J.stop i H/\∀ D,H D = none->Q (.ref D) (upd H D (.lst vs))) \/
  (J.go i H/\∀ v H',J.yld i H v H'->tt (some v :: frees fr σ) H' fun b H2=>if b = true then te (some v :: frees fr σ) H2 fun y H3=>∃ m',m' < m/\W (i + 1) m' (vs ++ [y]) H3 else ∃ m',m' < m/\W (i + 1) m' vs H2))
def relF (env:Env) (p:Str × NameKind):Str × NameKind:=if (p.2 == NameKind.free && env.scope.kind == .function && env.kindOf p.1 == some .cell) = true then (p.1,NameKind.cell) else (p.1,p.2)
theorem zi2 (env:Env) (p:Str × NameKind):(relF env p).1 = p.1:=by unfold relF; split <;> rfl
theorem zbg {env:Env}:∀ {names:List (Str × NameKind)}{x:Str},(names.map (relF env)).lookup x = (names.lookup x).map fun k=>(relF env (x,k)).2
 | [],_=>rfl
 | (n,k) :: r,x=>by
  have ih:=@zbg env r x
  rw [List.map_cons]
  have e:relF env (n,k) = (n,(relF env (n,k)).2):=Prod.ext (zi2 env (n,k)) rfl
  rw [e]
  cases hx:x == n with
  | true=>
   have q':x = n:=by simpa using hx
   subst q'
   simp only [List.lookup_cons,hx,Option.map_some]
  | false=>simp only [List.lookup_cons,hx]; exact ih
theorem Z8 {env:Env}{names:List (Str × NameKind)}{x:Str} (h:names.lookup x = some .free):
  (names.map (relF env)).lookup x = some .cell\/(names.map (relF env)).lookup x = some .free:=by
 rw [zbg,h,Option.map_some]
 unfold relF
 split
 ·exact .inl rfl
 ·exact .inr rfl
theorem zah {env:Env}{names:List (Str × NameKind)}{x:Str} (hn:∀ y∈names,y.2≠.cell) (h:(names.map (relF env)).lookup x = some .cell\/(names.map (relF env)).lookup x = some .free):(x,NameKind.free)∈names:=by
 rw [zbg] at h
 cases q:names.lookup x with
 | none=>rw [q] at h; simp at h
 | some k=>
  rw [q] at h
  have hm:=PySem.mem_of_lookup q
  have hk:k = .free:=by
   unfold relF at h
   simp only [Option.map_some,Option.some.injEq] at h
   split at h
   ·rename_i c
    simp only [Bool.and_eq_true] at c
    simpa using c.1.1
   ·rcases h with h | h
    ·exact absurd h (hn _ hm)
    ·exact h
  rw [← hk]
  exact hm
theorem zcJ {X:Cx}{scope:Scope}{cl:List (Str × Addr)}{σ:St}:∀ {fr:List Nat}{ys:List Str},FrOk X scope cl fr ys->∀ (j:Nat) (y:Str) (v:V),ys[j]? = some y->(frees fr σ)[j]? = some (some v)->
  ∃ i:Nat,X.N[i]? = some y/\σ[i]? = some (some v)/\scope.names.lookup y = some .free/\Vis X.env.scope y/\X.env.kindOf y≠some .local/\∃ c,cl.lookup y = some c
 | [],[],_,j,y,v,e,_=>by simp at e
 | [],_ :: _,h,_,_,_,_,_=>h.elim
 | _ :: _,[],h,_,_,_,_,_=>h.elim
 | i :: r,z :: ys,h,0,y,v,e1,e2=>by
  have e1':z = y:=by simpa using e1
  subst e1'
  have e2':(σ[i]?).join = some v:=by simpa [frees] using e2
  have:σ[i]? = some (some v):=by
   cases q:σ[i]? with
   | none=>rw [q] at e2'; cases e2'
   | some o=>rw [q] at e2'; cases o with
    | none=>cases e2'
    | some u=>cases e2'; rfl
  exact ⟨i,h.1.1,this,h.1.2.1,h.1.2.2.1,h.1.2.2.2.1,h.1.2.2.2.2⟩
 | i :: r,z :: ys,h,j + 1,y,v,e1,e2=>zcJ (fr:=r) (ys:=ys) h.2 j y v (by simpa using e1) (by simpa [frees] using e2)
theorem zcK {X:Cx}{scope:Scope}{cl:List (Str × Addr)}{σ:St}:∀ {fr:List Nat}{ys:List Str},FrOk X scope cl fr ys->(frees fr σ).length = ys.length
 | [],[],_=>rfl
 | [],_ :: _,h=>h.elim
 | _ :: _,[],h=>h.elim
 | i :: r,z :: ys,h=>by
  have:=zcK (σ:=σ) (fr:=r) (ys:=ys) h.2
  simp only [frees,List.map_cons,List.length_cons,List.length_map] at *
  omega
theorem Zy {X:Cx}{elt iter:Expr}{x:Str}{px pos:Pos}{ifs:List Expr}{scope:Scope}{cl:List (Str × Addr)} (fr:List Nat) (ys:List Str) {wi:TI}{tt:TT}{te:TE}
  (hc:X.calm = true) (hclos:closureFor scope X.env = pure cl) (hcell:∀ y∈scope.names,y.2≠.cell) (hkind:scope.kind = .function) (hnames:∀ y∈scope.names,y.2 = .local->scope.names.lookup y.1 = some .local)
  (hx:scope.names.lookup x = some .local) (hnd:(x :: ys).Nodup) (hcl:ClOk cl X.env.cells) (hall:(scope.names.all fun y=>y.2 != .free || (cl.lookup y.1).isSome) = true) (hfr:FrOk X scope cl fr ys)
  (hi:PI X (.Name x px) iter wi)
  (hY:∀ C s H fp,PIfs (zK X scope cl (x :: ys) C s H fp) ifs tt/\PE (zK X scope cl (x :: ys) C s H fp) elt te)
  (hs:∀ v,foldedSetIterable iter X.env v = pure v:=by intro _; rfl):
  PE X (.ListComp elt [⟨.Name x px,iter,ifs,0⟩] scope pos) (zcI fr wi tt te):=by
 intro zp s σ H Q I h
 rw [eval_ListComp]
 refine wpAny_comprehension_free (use:=none) rfl hs hclos hkind hnames (wpAny_mono (hi zp s σ H _ I h) (fun v s1 h1=>wpAny_mono h1 (fun itv s2 h2=>?_) fun _ _ e=>e) fun _ _ e=>e)
 obtain ⟨it,fp,tn,J,H2,rfl,I2,T,st2,f2,W,⟨m0,w0⟩,turn⟩:=h2
 refine wpAny_newObj_type (wpAny_newFunctionEnv hcell (by intro y hy; simp at hy) (fun h₁ hns₁ hsb₁=>?_) hkind)
 dsimp only at hns₁ hsb₁ ⊢
 generalize hP2:s2.heap.push { cls:=.type "list",dict:=none,data:=.seq ([]:List Value).toArray } = P2 at hns₁ hsb₁ ⊢
 have hC:P2.objs.size = s2.heap.objs.size + 1:=by rw [← hP2,Heap.size_push]
 have hDC:s2.heap.objs.size≠P2.objs.size:=by rw [hC]; exact Nat.ne_of_lt (Nat.lt_succ_self _)
 have hCle:s2.heap.objs.size<=P2.objs.size:=by rw [hC]; exact Nat.le_succ _
 have below:∀ b,b < s2.heap.objs.size->b≠P2.objs.size/\b≠s2.heap.objs.size:=fun b hb=>⟨by rw [hC]; exact Nat.ne_of_lt (Nat.lt_succ_of_lt hb),Nat.ne_of_lt hb⟩
 have old:∀ b o,s2.heap.get? b = some o->h₁.get? b = some o:=fun b o e=>hsb₁.extBut b o (below b (Heap.lt_size e)).1 (Heap.get?_push_of_some _ (hP2 ▸ Heap.get?_push_of_some _ e))
 have hacc:h₁.get? s2.heap.objs.size = some { cls:=.type "list",data:=.seq ([]:List Value).toArray }:=hsb₁.extBut _ _ hDC (Heap.get?_push_of_some _ (hP2 ▸ Heap.get?_push_size _ rfl))
 have fpl:∀ b∈fp,b < s2.heap.objs.size:=fun b hb=>by
  obtain ⟨o,e,_⟩:=T.obj _ _ st2 b hb
  exact Heap.lt_size e
 have tlt:∀ b o,H2 b = some o->b < s2.heap.objs.size:=fun b o e=>I2.hok.lt e
 generalize hCg:P2.objs.size = C at hns₁ hsb₁ hDC hCle below ⊢
 generalize hDg:s2.heap.objs.size = D at hDC below hacc fpl tlt ⊢
 have hDle:D<=C:=by rw [← hDg]; exact hCle
 have cls:∀ y c,cl.lookup y = some c->X.env.cells.lookup y = some c:=fun y c e=>hcl.mem e
 have clt:∀ y c,cl.lookup y = some c->c < D:=fun y c e=>by
  obtain ⟨v,q⟩:=I2.cell y c (cls y c e)
  rw [← hDg]; exact q.lt
 have sub:∀ b∈frs X.stack,b < D:=fun b hb=>by
  rcases List.mem_cons.mp (I2.stkSub b hb) with e | hb
  ·rw [e,← hDg]; exact I2.lt
  ·obtain ⟨_,o,ho,_⟩:=I2.ok.funs.mem hb
   rw [← hDg]; exact Nat.lt_of_lt_of_le (Heap.lt_size ho) I2.sz
 obtain ⟨YI,YE⟩:=hY C s2 H2 fp
 have Yok:(zK X scope cl (x :: ys) C s2 H2 fp).Ok:=by
  refine ⟨I2.ok.mod,hkind,I2.ok.glob,I2.ok.blt,hCle,?_,?_,?_,fun _=>I2.ok.hd hc,I2.ok.frames,.inl rfl,?_,I2.bs,Nat.le_trans I2.ok.bsz I2.sz,?_,?_,I2.stack,I2.stkFree⟩
  ·exact fun y z c e1 e2=>I2.ok.inj y z c (cls y c e1) (cls z c e2)
  ·intro y hy
   have hm:=zah (env:=X.env) (names:=scope.names) (x:=y) hcell hy
   have q:=List.all_eq_true.mp hall _ hm
   show ∃ c,cl.lookup y = some c
   exact Option.isSome_iff_exists.mp (by simpa using q)
  ·intro y c hf _
   exact absurd hf (by show ¬ false = true; decide)
  ·intro b hb
   refine ⟨(below b (fpl b hb)).1,fun y c e z=>?_⟩
   exact (f2 b hb).2.2.2.2.1 y c (cls y c e) z
  ·intro b o e hb
   have hb:b∈fp:=hb
   rcases (f2 b hb).2.2.2.1 with z | z
   ·exact I2.ok.noex b o e z
   ·exact absurd (Nat.lt_of_lt_of_le (Heap.lt_size e) (Nat.le_trans I2.ok.bsz z)) (Nat.lt_irrefl _)
  ·intro b hb hf
   have hb:b∈fp:=hb
   rcases List.mem_cons.mp (I2.stkSub b hf) with e | hf
   ·exact (f2 b hb).2.1 e
   ·exact (f2 b hb).2.2.1 hf
 have hvis:Loc (zK X scope cl (x :: ys) C s2 H2 fp).env.scope x:=.inl (lookup_relabel_local hx)
 have start:∀ tk,Inv (zK X scope cl (x :: ys) C s2 H2 fp) [] (none :: frees fr σ) H2 { s2 with heap:=h₁,toks:=tk }:=fun tk=>by
  refine ⟨Yok,rfl,I2.bare,Un.kept old,⟨_,hns₁,fun i y v e1 e2 e3=>?_⟩,fun y c e=>?_,?_,fun y c e=>?_,fun p hp=>absurd (show p∈([]:List (Addr × Obj)) from hp) (by simp),I2.hok.kept old,?_⟩
  ·cases i with
   | zero=>simp at e2
   | succ j=>
    obtain ⟨i',n1,n2,n3,n4,n5,c,n6⟩:=zcJ hfr j y v (by simpa [zK] using e1) (by simpa using e2)
    obtain ⟨m,hn,hl⟩:=I2.loc
    obtain ⟨u,r,l⟩:=hl i' y v n1 n2 n4
    refine ⟨u,r,.inr ⟨Z8 n3,c,n6,?_⟩⟩
    rcases l with ⟨k,_⟩ | ⟨k,c',e,z⟩
    ·exact absurd k n5
    ·rw [cls y c n6] at e
     cases e
     obtain ⟨o,ho,hd⟩:=z
     exact ⟨o,old _ _ ho,hd⟩
  ·obtain ⟨v,o,ho,hd⟩:=I2.cell y c (cls y c e)
   exact ⟨v,o,old _ _ ho,hd⟩
  ·show H2 C = none
   cases q:H2 C with
   | none=>rfl
   | some o=>exact absurd (tlt C o q) (Nat.not_lt.mpr hDle)
  ·exact I2.freeC y c (cls y c e)
  ·show (none :: frees fr σ).length = (x :: ys).length
   rw [List.length_cons,List.length_cons,zcK hfr]
 have fpY:∀ {pl:List (Addr × Obj)}{H':Hp},(∀ b∈fp,H' b = none)->(∀ p∈pl,p.1 = D)->∀ b∈fp,FpOk (zK X scope cl (x :: ys) C s2 H2 fp) pl H' b:=fun {pl H'} hn hpl b hb=>by
  refine ⟨hn b hb,(below b (fpl b hb)).1,Yok.exfs b hb,.inl hb,fun y c e z=>(f2 b hb).2.2.2.2.1 y c (cls y c e) z,fun p hp=>?_⟩
  have hp:p∈[] ++ pl:=hp
  rw [List.nil_append] at hp
  rw [hpl p hp]
  exact (below b (fpl b hb)).2.symm
 have loop:∀ s₃:Shared,(∃ tk,s₃ = { s2 with heap:=h₁,toks:=tk })->
   codeAny (model X.prog X.w) X.A (.compLoop (.ListComp elt [⟨.Name x px,iter,ifs,0⟩] scope pos) 0 (.ref it) (.ref D) (compEnvC scope cl C X.env))
    (compPost (model X.prog X.w) X.A X.xe none (EP X zp σ Q) (.ref D) C) s₃:=by
  rintro s₃ ⟨tk,rfl⟩
  refine zet
   (fun k s'=>∃ i vs ws nn H',Inv (zK X scope cl (x :: ys) C s2 H2 fp) [] (none :: frees fr σ) H' s'/\tn i s'.heap/\(∀ b∈fp,H' b = none)/\H' D = none /\
    s'.heap.get? D = some { cls:=.type "list",data:=.seq (ws:List Value).toArray nn }/\Vals vs ws/\W i k vs H') ?_ m0
   ⟨0,[],[],0,H2,start tk,T.keep _ _ _ st2 fun b _ o e=>old b o e,fun b hb=>(f2 b hb).1,?_,hacc,.nil,w0⟩
  ·rintro n s3 ⟨i,vs,ws,nn,H3,I3,st3,fr3,hD3,ho3,rv3,w3⟩
   have I3':Inv (zK X scope cl (x :: ys) C s2 H2 fp) [(D,{ cls:=.type "list",data:=.seq ws.toArray nn })] (none :: frees fr σ) H3 s3:=I3.pins_of fun p hp=>by
    have e:p = (D,{ cls:=.type "list",data:=.seq ws.toArray nn }):=by simpa using hp
    subst e
    refine ⟨ho3,hD3,hDC,fun z=>absurd (sub D z) (Nat.lt_irrefl _),fun v z=>?_⟩
    have z':Data.seq ws.toArray nn = Data.cell v:=z
    cases z'
   have fp3:=fpY (pl:=[(D,{ cls:=.type "list",data:=.seq ws.toArray nn })]) fr3 (fun p hp=>by rw [List.mem_singleton.mp hp])
   obtain ⟨hsz,alt⟩:=turn i n vs H3 w3
   rcases alt with ⟨stop,fin⟩ | ⟨go,step⟩
   ·refine thn (T.done (zK X scope cl (x :: ys) C s2 H2 fp) rfl rfl rfl rfl i _ s3 _ H3 _ I3' fp3 st3 stop) fun r s4 ⟨hr,I4⟩=>?_
    subst hr
    have pD:=I4.pin (D,{ cls:=.type "list",data:=.seq ws.toArray nn }) (by show _∈[] ++ _; simp)
    obtain ⟨m4,hn4,_⟩:=I4.loc
    refine ⟨m4,hn4,fun h' hs'=>?_⟩
    have hC4:H3 C = none:=I4.free
    have hok':HOk X.prog X.w (upd H3 D (.lst vs)) h':=by
     refine HOk.track (I4.hok.other hC4 hs') hD3 ⟨hsz,ws,nn,rv3,(hs'.2 D hDC).trans pD.1⟩
    have b4:=I4.base
    have un:Un (frs X.stack) fp H2 (upd H3 D (.lst vs)) s2.heap h':=by
     have lt:∀ b o,s2.heap.get? b = some o->b < D:=fun b o e=>by rw [← hDg]; exact Heap.lt_size e
     refine ⟨fun b o e n hb hx=>(hs'.2 b (below b (lt b o e)).1).trans (b4.keep b o e n hb hx),fun b o e n hb hx=>?_,fun b o e n hx=>?_,fun b o e hx=>?_,fun b zs e=>?_,fun b o u e=>?_,fun b ps e=>?_⟩
     ·obtain ⟨sl,q⟩:=b4.slot b o e n hb hx
      exact ⟨sl,(hs'.2 b (below b (lt b o e)).1).trans q⟩
     ·rw [zg (below b (lt b o e)).2]; exact b4.free b o e n hx
     ·obtain ⟨o',q⟩:=b4.there b o e hx
      exact ⟨o',(hs'.2 b (below b (lt b o e)).1).trans q⟩
     ·rw [zg (below b (tlt b _ e)).2]; exact b4.tups b zs e
     ·rw [zg (below b (tlt b _ e)).2]; exact b4.frzs b o u e
     ·rw [zg (below b (tlt b _ e)).2]; exact b4.tbls b ps e
    refine ⟨.ref D,upd H3 D (.lst vs),?_,rfl,fin D hD3⟩
    exact I2.call' (s':={ s4 with heap:=h' }) (ch:=fp) I4.os un hok' I4.bare fun b hb=>⟨(f2 b hb).2.2.2.1,(f2 b hb).2.1,(f2 b hb).2.2.2.2.1,(f2 b hb).2.2.2.2.2⟩
   ·refine thn (T.item (zK X scope cl (x :: ys) C s2 H2 fp) rfl rfl rfl rfl i _ s3 _ H3 _ I3' fp3 st3 go) fun r s4 ⟨u,hr,h4⟩=>?_
    subst hr
    refine thn h4 fun _ s5 ⟨v,H5,I5,r5,y5,st5,fr5⟩=>?_
    have fp5:=fpY (pl:=[(D,{ cls:=.type "list",data:=.seq ws.toArray nn })]) fr5 (fun p hp=>by rw [List.mem_singleton.mp hp])
    have I5':=I5.pinned fp5 (T.obj _ _ st5)
    refine thn (zV (X:=zK X scope cl (x :: ys) C s2 H2 fp) (i:=0) (pos:=px) hnd rfl hvis (.inr (lookup_relabel_local hx)) _ s5 _ H5 v u (fun σ' H'=>σ' = some v :: frees fr σ/\H' = H5) I5' r5 ⟨rfl,rfl⟩) fun _ s6 ⟨σ6,H6,I6,e6,e6'⟩=>?_
    subst e6 e6'
    refine thn (YI _ s6 _ _ _ I6 (step v H6 y5)) fun b s7 ⟨H7,I7,q7⟩=>?_
    have back:∀ {H8:Hp}{s8:Shared},Inv (zK X scope cl (x :: ys) C s2 H2 fp) ([(D,{ cls:=.type "list",data:=.seq ws.toArray nn })] ++ zdc fp s5.heap) (some v :: frees fr σ) H8 s8->
      s8.heap.get? D = some { cls:=.type "list",data:=.seq ws.toArray nn }/\H8 D = none/\(∀ b∈fp,H8 b = none)/\(∀ b∈fp,∀ o,s5.heap.get? b = some o->s8.heap.get? b = some o):=fun {H8 s8} I8=>by
     have pD:=I8.pin (D,{ cls:=.type "list",data:=.seq ws.toArray nn }) (by show _∈[] ++ _; simp)
     refine ⟨pD.1,pD.2.1,fun b hb=>?_,fun b hb o e=>?_⟩
     ·obtain ⟨o,e,d⟩:=T.obj _ _ st5 b hb
      exact (I8.pin (b,o) (List.mem_append_right _ (List.mem_append_right _ (Z5 hb e)))).2.1
     ·exact (I8.pin (b,o) (List.mem_append_right _ (List.mem_append_right _ (Z5 hb e)))).1
    have weak:∀ {H8:Hp}{s8:Shared},Inv (zK X scope cl (x :: ys) C s2 H2 fp) [] (some v :: frees fr σ) H8 s8->Inv (zK X scope cl (x :: ys) C s2 H2 fp) [] (none :: frees fr σ) H8 s8:=fun {H8 s8} I8=>
     I8.weak rfl fun i v' e=>by
      cases i with
      | zero=>simp at e
      | succ j=>simpa using e
    have nopin:∀ {H8:Hp}{s8:Shared}{pl:List (Addr × Obj)},Inv (zK X scope cl (x :: ys) C s2 H2 fp) pl (some v :: frees fr σ) H8 s8->Inv (zK X scope cl (x :: ys) C s2 H2 fp) [] (some v :: frees fr σ) H8 s8:=fun {H8 s8 pl} I8=>
     I8.pins_of fun p hp=>absurd hp (by simp)
    cases b with
    | false=>
     rw [if_neg Bool.false_ne_true] at q7 ⊢
     obtain ⟨m',hm,w7⟩:=q7
     obtain ⟨k1,k2,k3,k4⟩:=back I7
     exact ⟨m',hm,i + 1,vs,ws,nn,H7,weak (nopin I7),T.keep _ _ _ st5 k4,k3,k2,k1,rv3,w7⟩
    | true=>
     rw [if_pos rfl] at q7 ⊢
     refine thn (YE _ s7 _ _ _ I7 q7) fun u8 s8 ⟨y8,H8,I8,r8,m',hm,w8⟩=>?_
     obtain ⟨k1,k2,k3,k4⟩:=back I8
     refine append_at (hsz:=by rw [List.size_toArray,← rv3.length]; exact hsz) k1 fun h9 hs9 ho9=>?_
     have I9:Inv (zK X scope cl (x :: ys) C s2 H2 fp) [] (some v :: frees fr σ) H8 { s8 with heap:=h9 }:=
      (nopin I8).turned (t':=s8.toks) (it:=D) (fun b o hb e=>(hs9.2 b hb).trans e) k2 hDC (.inr (by rw [← hDg]; exact Nat.le_refl _)) (fun y c e=>Nat.ne_of_lt (clt y c e)) fun p hp=>absurd (show p∈([]:List (Addr × Obj)) from hp) (by simp)
     refine ⟨m',hm,i + 1,vs ++ [y8],ws ++ [u8],nn + 1,H8,weak I9,?_,k3,k2,?_,rv3.append (.cons r8 .nil),w8⟩
     ·refine T.keep _ _ _ st5 fun b hb o e=>?_
      exact (hs9.2 b (below b (fpl b hb)).2).trans (k4 b hb o e)
     ·rw [ho9,List.push_toArray]
  ·cases q:H2 D with
   | none=>rfl
   | some o=>exact absurd (tlt D o q) (Nat.lt_irrefl _)
 exact codeAny_compStart_list (loop _ ⟨_,rfl⟩) (T.self _ 0 _ _ _ (T.keep _ _ _ st2 fun b _ o e=>old b o e) (loop _ ⟨_,rfl⟩))
def Have (P:Program) (w:World) (K:PySem.W.Frag) (mg:Str->Option Value) (base:Heap) (x:Str) (k:Nat) (ps:List Str) (sp:Sp):Prop:=
 ∃ (f:Addr) (fd:FuncData),FnOk P w K mg base CX0 k f fd ps sp/\Binds K fd ps []/\keepIn K (.ref f) = true/\mg x = some (.ref f)
theorem Have.mono {P:Program}{w:World}{K:PySem.W.Frag}{mg:Str->Option Value}{base:Heap}{x:Str}{j k:Nat}{ps:List Str}{sp:Sp} (h:Have P w K mg base x j ps sp) (e:j<=k):Have P w K mg base x k ps sp:=
 let ⟨f,fd,F,r⟩:=h; ⟨f,fd,F.mono e,r⟩
section
variable {X:Cx}{x:Str}{k:Nat}{ps:List Str}{sp:Sp}{e:Expr}{es:List Expr}{t:TA}{p pos:Pos}
theorem zu (G:Have X.prog X.w X.K X.mg X.base x k ps sp) (hr:Room k X.A) (hg:Gl X x) (ha:PA X (e :: es) t) (hdb:(x == ("__debug__":Str)) = false:=by decide)
  (he:starEach (e :: es) X.env = (false,eval e X.env) :: starEach es X.env:=by rfl) (hpl:(backTo pos (starEach es X.env)).any (·.1) = false:=by rfl):
  PE X (.Call (.Name x p) (e :: es) [] pos) (zb6 sp [] E0 t):=by
 obtain ⟨f,fd,F,b,kp,m⟩:=G
 exact zht F hr hg m kp b .nil zkH ha hdb he hpl
end
section
variable {X:Cx}
def zmF (i j:Int):Prop:=0 < j/\j.natAbs.log2 < 9000
theorem zi3:OpR X (binaryOp .FloorDiv) (rI zmF fun i j=>.int (i / j)):=opI fun i j _ _ _ _ _ hc q=>by
 have h1:(0:Int) < j:=hc.1
 exact floordiv_int (by omega) (by rw [Int.fdiv_eq_ediv_of_nonneg i (by omega)]; exact q) (.inl (PyProof.noPylong_of_log2 hc.2))
def zbu:List String:=["NoneType","bool","int","str","list","tuple","dict"]
def isi (A T:String):Option Bool:=if zbu.contains A && zbu.contains T then some (A == T || (A == "bool" && T == "int")) else none
theorem zhI {A:String} (h:zbu.contains A = true):A = "NoneType"\/A = "bool"\/A = "int"\/A = "str"\/A = "list"\/A = "tuple"\/A = "dict":=by
 have:A∈zbu:=by simpa using h
 simpa [zbu] using this
theorem zlK {K:PySem.W.Frag}{A T:String}{b:Bool} (h:isi A T = some b):kitOne K (.type A) (.type T) = some b:=by
 unfold isi at h
 split at h
 ·rename_i c
  rw [Bool.and_eq_true] at c
  cases h
  rcases zhI c.1 with rfl | rfl | rfl | rfl | rfl | rfl | rfl <;> rcases zhI c.2 with rfl | rfl | rfl | rfl | rfl | rfl | rfl <;> kernel_rfl
 ·cases h
theorem ZR:zau X (.builtin "isinstance") (fun xs H Q=>∃ v T A b,xs = [v,.ty T]/\TyOf X.K H v (.type A)/\isi A T = some b/\Q (.bl b) H):=by
 intro zp s σ H xs us Q I r h
 obtain ⟨v,T,A,b,rfl,ty,e,q⟩:=h
 obtain ⟨u,c,rfl,ru,rc⟩:=ziO r
 cases (show c = Value.type T from rc)
 exact zhr I ru ty (zlK e) fun tk=>⟨.bl b,H,I.tok tk,rfl,q⟩
theorem zfe {A:Around}{P:Program}{w:World}{xs:List Bool}{its:List Value} (r:Vals (xs.map V.bl) its):TruthOf P w A (fun i v=>its.toArray[i]? = some v) (fun i=>xs.getD i true):=by
 intro i v s Q E hv h
 have hv':its[i]? = some v:=by simpa using hv
 have hl:=r.length
 rw [List.length_map] at hl
 have hi:i < xs.length:=by rw [hl]; exact (List.getElem?_eq_some_iff.mp hv').1
 obtain ⟨u,hu,ru⟩:=r.get (i:=i) (x:=V.bl xs[i]) (by rw [List.getElem?_map,List.getElem?_eq_getElem hi]; rfl)
 rw [hv'] at hu
 cases hu
 cases ru
 refine wpAny_truthy_bool ?_
 have e:xs.getD i true = xs[i]:=by rw [List.getD_eq_getElem?_getD,List.getElem?_eq_getElem hi]; rfl
 have h:Q (xs.getD i true) s:=h
 rw [e] at h
 exact h
theorem zhJ (xs:List Bool):(List.range xs.length).all (fun i=>xs.getD i true) = xs.all id:=by
 rw [Bool.eq_iff_iff,List.all_eq_true,List.all_eq_true]
 constructor
 ·intro h x hx
  obtain ⟨i,hi,rfl⟩:=List.mem_iff_getElem.mp hx
  have:=h i (List.mem_range.mpr hi)
  rw [List.getD_eq_getElem?_getD,List.getElem?_eq_getElem hi] at this
  exact this
 ·intro h i hi
  have hi:=List.mem_range.mp hi
  rw [List.getD_eq_getElem?_getD,List.getElem?_eq_getElem hi]
  exact h _ (List.getElem_mem hi)
theorem ZS (hc:X.calm = true):zau X (.builtin "all") (fun xs H Q=>∃ (p:Addr) (bs:List Bool),xs = [.ref p]/\SqL X.K H p (bs.map V.bl)/\Q (.bl (bs.all id)) H):=by
 intro zp s σ H xs us Q I r h
 obtain ⟨p,bs,rfl,hq,q⟩:=h
 obtain ⟨u,rfl,rx⟩:=zbf r
 cases rx
 obtain ⟨its,r',pl,hz⟩:=I.list hq
 have hl:=pl.isList
 obtain ⟨o,ho,_⟩:=id hl
 have hlt:=Heap.lt_size ho
 refine call_all_walk (wpAny_pyIter_list hl ?_)
 refine ⟨_,_,_,_,_,_,fun i=>bs.getD i true,rfl,Walks.list (A:=X.A.in1) (I.ok.hd hc) s.heap.objs.size p (Nat.ne_of_lt hlt) its.toArray,⟨⟨_,Heap.get?_push_size _ rfl,rfl,rfl⟩,hl.push _⟩,zfe r',fun h' tk hk=>?_⟩
 have e:(List.range its.toArray.size).all (fun i=>bs.getD i true) = bs.all id:=by
  have hl2:=r'.length
  rw [List.length_map] at hl2
  rw [List.size_toArray,← hl2]
  exact zhJ bs
 rw [e]
 refine ⟨.bl (bs.all id),H,I.kept (h':=h') (t':=tk) fun b o e=>?_,rfl,q⟩
 exact hk b o (fun hm=>absurd (Heap.lt_size e) (by rw [List.mem_singleton.mp hm]; exact Nat.lt_irrefl _)) (Heap.get?_push_of_some _ e)
end
section
variable {prog:Program}{w:World}{A:Around}{R:Result->Shared->Prop}{I l:Addr}{vs:List Value}{ns:List Int}{d:Value}
end
def Its (z:Str):It:=⟨fun i _=>i < z.cps.size,fun i H x H'=>H' = H/\∃ c,z.cps[i]? = some c/\x = .str ⟨#[c]⟩,fun i _=>i = z.cps.size⟩
theorem zi4 {P:Program}{w:World}{K:PySem.W.Frag}{tg:Expr}{it:Addr}{T:String}{z:Str}{t:Tok}
  (W:∀ A:Around,A.handled = none->Walks P w A it [it] [it] z.cps.size (SignAt z) (fun i h=>h.IsStrIter it T z t i))
  (hT:["enumerate","zip","dict_itemiterator","dict_reverseitemiterator","odict_iterator","itertools.zip_longest","itertools.pairwise"].contains T = false)
  (self:∀ (A:Around) (i:Nat) (s:Shared) (Q:Value->Shared->Prop) (E:Value->Shared->Prop),s.heap.IsStrIter it T z t i->Q (.ref it) s->wpAny (model P w) A (pyIter (.ref it)) Q E s):
  Turn P w K tg (Its z) [it] it (fun i h=>h.IsStrIter it T z t i) where
 mem:=by simp
 obj:=fun i h st b hb=>by
  have e:b = it:=by simpa using hb
  subst e
  obtain ⟨o,e,c,d⟩:=st
  exact ⟨o,e,fun v z=>by rw [d] at z; cases z⟩
 keep:=fun i h h' st k=>by
  obtain ⟨o,e,c⟩:=st
  exact ⟨o,k it (by simp) o e,c⟩
 item:=by
  intro X hP hw hK hc i zp s σ H E I hf st hg
  subst hP hw hK
  obtain ⟨f0,f1,f2,f3,f4,f5⟩:=hf it (by simp)
  refine (W X.A (I.ok.hd hc)).item i s _ _ hg st fun v h' tk hP st' kk=>?_
  obtain ⟨c,u,hcu,rfl⟩:=hP
  have I1:Inv X zp σ H { s with heap:=h',toks:=tk }:=I.turned (fun b o hb e=>kk b o (by simpa using hb) e) f0 f1 f3 f4 f5
  obtain ⟨o,e,cc,d⟩:=id st'
  exact ⟨_,rfl,ziM (s:={ s with heap:=h',toks:=tk }) e cc d hT ⟨.str ⟨#[c]⟩,H,I1,⟨u,rfl⟩,⟨rfl,c,hcu,rfl⟩,st',fun b hb=>(hf b hb).1⟩⟩
 done:=by
  intro X hP hw hK hc i zp s σ H E I hf st hg
  subst hP hw hK
  obtain ⟨f0,f1,f2,f3,f4,f5⟩:=hf it (by simp)
  have hg:i = z.cps.size:=hg
  subst hg
  exact (W X.A (I.ok.hd hc)).done s _ _ st fun h' tk kk=>⟨rfl,I.turned (fun b o hb e=>kk b o (by simpa using hb) e) f0 f1 f3 f4 f5⟩
 self:=fun A i s Q E st h=>self A i s Q E st h
def iStr (te:TE):TI:=fun σ H R=>te σ H fun x H1=>∃ z,x = .str z/\R (Its z) H1
theorem zeu {X:Cx}{tg e:Expr}{te:TE} (he:PE X e te):PI X tg e (iStr te):=by
 intro zp s σ H R I h
 refine thn (he zp s σ H _ I h) fun v s1 ⟨x,H1,I1,r1,q1⟩=>?_
 obtain ⟨z,rfl,q⟩:=q1
 obtain ⟨t,rfl⟩:=r1
 have fin:∀ (T:String),(∀ A:Around,A.handled = none->Walks X.prog X.w A s1.heap.objs.size [s1.heap.objs.size] [s1.heap.objs.size] z.cps.size (SignAt z) (fun i h=>h.IsStrIter s1.heap.objs.size T z t i))->
   ["enumerate","zip","dict_itemiterator","dict_reverseitemiterator","odict_iterator","itertools.zip_longest","itertools.pairwise"].contains T = false->
   (∀ (A:Around) (i:Nat) (s:Shared) (Q:Value->Shared->Prop) (E:Value->Shared->Prop),s.heap.IsStrIter s1.heap.objs.size T z t i->Q (.ref s1.heap.objs.size) s->wpAny (model X.prog X.w) A (pyIter (.ref s1.heap.objs.size)) Q E s)->
   PIE X zp σ tg R (.ref s1.heap.objs.size) { s1 with heap:=s1.heap.push { cls:=.type T,data:=.fields #[.str z t,.int 0 0] } }:=fun T W hT self=>by
  refine ⟨s1.heap.objs.size,[s1.heap.objs.size],_,_,H1,rfl,I1.kept (t':=s1.toks) fun b o e=>Heap.get?_push_of_some _ e,zi4 W hT self,⟨_,Heap.get?_push_size _ rfl,rfl,rfl⟩,fun b hb=>?_,q⟩
  have e:b = s1.heap.objs.size:=by simpa using hb
  subst e
  exact I1.fpOk (Nat.le_refl _) (I1.hok.fresh (Nat.le_refl _))
 cases ha:z.cps.all (· < 128)
 ·exact wpAny_pyIter_wide ha (fin "str_iterator" (fun A hA=>Walks.strWide hA _ z t) (by decide) fun A i s Q E st h=>wpAny_pyIter_striter_wide st h)
 ·exact wpAny_pyIter_ascii ha (fin "str_ascii_iterator" (fun A hA=>Walks.strAscii hA _ z t) (by decide) fun A i s Q E st h=>wpAny_pyIter_striter_ascii st h)
theorem zev {X:Cx}:OpR X (compareOp .LtE) (fun x y H Q=>∃ i j:Str,x = .str i/\y = .str j/\Q (.bl (!decide (j.cps.toList < i.cps.toList))) H):=by
 intro zp s σ H x y v u Q I rx ry h
 obtain ⟨i,j,rfl,rfl,q⟩:=h
 obtain ⟨t,rfl⟩:=rx
 obtain ⟨t',rfl⟩:=ry
 exact PySem.P.le_str ⟨.bl _,H,I,rfl,q⟩
theorem Zp {X:Cx}{x:Str}{i:Int}{pos:Pos} (hg:Gl X x) (hm:∃ t,X.mg x = some (.int i t)) (hd:(x == ("__debug__":Str)) = false:=by decide):PE X (.Name x pos) (tC (.int i)):=by
 obtain ⟨t,hm⟩:=hm
 exact Zr hg hm ⟨t,rfl⟩ hd
theorem zlL {X:Cx}{op:Operator}{r:R2} (h:OpR X (inplaceOp op) r):PIp X op r:=fun zp s σ H x y v u Q I rx ry q=>h zp s σ H x y v u Q I rx ry q
theorem zbh {X:Cx}{x:Str}{T:String}{pos:Pos} (hg:Gl X x) (hm:X.mg x = none) (hv:bootBuiltins x = some (.type T)) (hn:x≠"__name__":=by decide) (hd:(x == ("__debug__":Str)) = false:=by decide):PE X (.Name x pos) (tC (.ty T)):=zkv hg hm hv rfl hn hd
theorem Same.new {H:Hp}{p:Addr}{o:HO} (h:H p = none):Same H (upd H p o):=fun b u q=>by rw [zg (zk q h)]; exact q
theorem Same.seqT {K:PySem.W.Frag}{H H':Hp}{a:Addr}{xs:List V} (e:Same H H') (h:SqT K H a xs):SqT K H' a xs:=by
 rcases h with (h | ⟨o,h⟩) | h
 ·exact .inl (.inl (e _ _ h))
 ·exact .inl (.inr ⟨o,e _ _ h⟩)
 ·exact .inr h
theorem zaw {α:Type}{xs:List α}{i:Nat}{x:α} (h:xs[i]? = some x):xs.take (i + 1) = xs.take i ++ [x]:=by
 rw [List.take_add_one,h]; rfl
theorem zff {fr:List Nat}{j:Nat}{te:TE}{σ:St}{H:Hp}{Q:VK}{z:Str} (outs:List V) (hσ:σ[j]? = some (some (.str z))) (hl:outs.length = z.cps.size) (hz:z.cps.size<=sizeLine)
  (step:∀ (i c:Nat) (y:V) (H1:Hp) (R:VK),z.cps[i]? = some c->outs[i]? = some y->Same H H1->(∀ H2,Same H1 H2->R y H2)->te (some (.str ⟨#[c]⟩) :: frees fr σ) H1 R)
  (fin:∀ (H1:Hp) (D:Addr),Same H H1->H1 D = none->Q (.ref D) (upd H1 D (.lst outs))):zcI fr (iStr (tVar j)) (fun _ H Q=>Q true H) te σ H Q:=by
 refine ⟨_,hσ,z,rfl,fun i m us H1=>i<=z.cps.size/\m = z.cps.size - i/\us = outs.take i/\Same H H1,⟨_,Nat.zero_le _,rfl,by simp,Same.refl _⟩,fun i m us H1 hW=>?_⟩
 obtain ⟨hi,hm,hu,sm⟩:=hW
 refine ⟨by rw [hu,List.length_take]; omega,?_⟩
 by_cases hlt:i < z.cps.size
 ·refine .inr ⟨hlt,fun v H' hy=>?_⟩
  obtain ⟨rfl,c,hc,rfl⟩:=hy
  have hy:outs[i]? = some outs[i]:=List.getElem?_eq_getElem (by omega)
  refine iteT ?_
  refine step i c outs[i] H' _ hc hy sm fun H2 s2=>⟨z.cps.size - (i + 1),by omega,by omega,rfl,?_,sm.trans s2⟩
  rw [hu,zaw hy]
 ·have e:i = z.cps.size:=by omega
  refine .inl ⟨e,fun D hD=>?_⟩
  have e2:us = outs:=by rw [hu,List.take_of_length_le (by omega)]
  rw [e2]
  exact fin H1 D sm hD
theorem zkK {K:PySem.W.Frag}{fr:List Nat}{j:Nat}{te:TE}{σ:St}{H:Hp}{Q:VK}{a:Addr}{vs:List V} (outs:List V) (hσ:σ[j]? = some (some (.ref a))) (hS:SqT K H a vs) (hl:outs.length = vs.length) (hz:vs.length<=sizeLine)
  (step:∀ (i:Nat) (v y:V) (H1:Hp) (R:VK),vs[i]? = some v->outs[i]? = some y->Same H H1->(∀ H2,Same H1 H2->R y H2)->te (some v :: frees fr σ) H1 R)
  (fin:∀ (H1:Hp) (D:Addr),Same H H1->H1 D = none->Q (.ref D) (upd H1 D (.lst outs))):zcI fr (iTup K (tVar j)) (fun _ H Q=>Q true H) te σ H Q:=by
 refine ⟨_,hσ,a,rfl,⟨vs,hS⟩,fun i m us H1=>i<=vs.length/\m = vs.length - i/\us = outs.take i/\Same H H1,⟨_,Nat.zero_le _,rfl,by simp,Same.refl _⟩,fun i m us H1 hW=>?_⟩
 obtain ⟨hi,hm,hu,sm⟩:=hW
 refine ⟨by rw [hu,List.length_take]; omega,?_⟩
 by_cases hlt:i < vs.length
 ·refine .inr ⟨⟨vs,vs[i],sm.seqT hS,List.getElem?_eq_getElem hlt⟩,fun v H' hy=>?_⟩
  obtain ⟨rfl,hv⟩:=hy
  have hv:=hv vs (sm.seqT hS)
  have hy:outs[i]? = some outs[i]:=List.getElem?_eq_getElem (by omega)
  refine iteT ?_
  refine step i v outs[i] H' _ hv hy sm fun H2 s2=>⟨vs.length - (i + 1),by omega,by omega,rfl,?_,sm.trans s2⟩
  rw [hu,zaw hy]
 ·have e:i = vs.length:=by omega
  refine .inl ⟨⟨vs,sm.seqT hS,by omega⟩,fun D hD=>?_⟩
  have e2:us = outs:=by rw [hu,List.take_of_length_le (by omega)]
  rw [e2]
  exact fin H1 D sm hD
theorem zhK:isi "tuple" "tuple" = some true:=by decide +kernel
theorem zj8:isi "int" "tuple" = some false:=by decide +kernel
theorem zj9:isi "str" "tuple" = some false:=by decide +kernel
theorem zhL:isi "bool" "tuple" = some false:=by decide +kernel
theorem zhM:isi "NoneType" "tuple" = some false:=by decide +kernel
theorem zhN:isi "list" "tuple" = some false:=by decide +kernel
theorem zhO:isi "dict" "tuple" = some false:=by decide +kernel
theorem zew:isi "tuple" "str" = some false:=by decide +kernel
theorem zfY:isi "int" "str" = some false:=by decide +kernel
theorem zex:isi "str" "str" = some true:=by decide +kernel
theorem zey:isi "bool" "str" = some false:=by decide +kernel
theorem zez:isi "NoneType" "str" = some false:=by decide +kernel
theorem zeA:isi "list" "str" = some false:=by decide +kernel
theorem zeB:isi "dict" "str" = some false:=by decide +kernel
theorem zlM:isi "tuple" "int" = some false:=by decide +kernel
theorem zlN:isi "int" "int" = some true:=by decide +kernel
theorem zlO:isi "str" "int" = some false:=by decide +kernel
theorem zlP:isi "bool" "int" = some true:=by decide +kernel
theorem zlQ:isi "NoneType" "int" = some false:=by decide +kernel
theorem zlR:isi "list" "int" = some false:=by decide +kernel
theorem zlS:isi "dict" "int" = some false:=by decide +kernel
theorem zlT:isi "int" "bool" = some false:=by decide +kernel
theorem zlU:isi "bool" "bool" = some true:=by decide +kernel
theorem zaC:bootBuiltins (Str.ofString "tuple") = some (.type "tuple"):=by kernel_rfl
theorem zaQ:bootBuiltins (Str.ofString "str") = some (.type "str"):=by kernel_rfl
theorem zeC:bootBuiltins (Str.ofString "int") = some (.type "int"):=by kernel_rfl
theorem zgK:bootBuiltins (Str.ofString "bool") = some (.type "bool"):=by kernel_rfl
theorem zU:bootBuiltins (Str.ofString "isinstance") = some (.builtin "isinstance"):=by kernel_rfl
theorem zhP:bootBuiltins (Str.ofString "ord") = some (.builtin "ord"):=by kernel_rfl
theorem zhQ:bootBuiltins (Str.ofString "abs") = some (.builtin "abs"):=by kernel_rfl
theorem zbv:bootBuiltins (Str.ofString "all") = some (.builtin "all"):=by kernel_rfl
end L2
namespace D
open PySem L2
def top (i:Nat):Stmt:=PySem.Challenge.pw_leastforge_k24_hands_refused.main.body.getD i (.Pass ⟨0,0,0,0⟩)
abbrev zaD:Stmt:=top 16
abbrev zbw:Stmt:=top 17
abbrev zai:Stmt:=top 18
abbrev zfZ:Stmt:=top 19
abbrev za1:Stmt:=top 20
abbrev Z4:Stmt:=top 31
abbrev zaE:Stmt:=top 32
abbrev ZI:Stmt:=top 33
abbrev ZT:Stmt:=top 34
abbrev za2:Stmt:=top 35
abbrev Zb:Stmt:=top 36
abbrev za3:Stmt:=top 37
abbrev zaF:Stmt:=top 38
abbrev zbx:Stmt:=top 39
abbrev zby:Stmt:=top 40
abbrev za4:Stmt:=top 41
abbrev zbz:Stmt:=top 42
abbrev zbA:Stmt:=top 46
abbrev zbB:Stmt:=top 47
abbrev ZU:Stmt:=top 49
abbrev zW:Stmt:=zaB (top 50) 0
abbrev zS:Stmt:=zaB (top 50) 1
abbrev ZM:Stmt:=zaB (top 50) 2
abbrev zX:Stmt:=zaB (top 50) 3
abbrev ZC:Stmt:=zaB (top 50) 4
abbrev Zc:Stmt:=zaB (top 50) 5
abbrev ZD:Stmt:=zaB (top 50) 6
abbrev ZE:Stmt:=zaB (top 50) 7
abbrev Zk:Stmt:=zaB (top 50) 8
abbrev zi5:Stmt:=top 52
abbrev sBox:Stmt:=top 53
abbrev zi6:Stmt:=top 54
abbrev zi7:Stmt:=top 55
abbrev zdt:Stmt:=top 56
abbrev zf0:Stmt:=top 57
abbrev zdu:Stmt:=top 58
abbrev zch:Stmt:=top 59
abbrev zci:Stmt:=top 60
abbrev zcj:Stmt:=top 61
abbrev zdv:Stmt:=top 62
abbrev zi8:Stmt:=top 63
abbrev zdw:Stmt:=top 64
abbrev za5:Stmt:=top 65
abbrev zaG:Stmt:=top 66
abbrev za6:Stmt:=top 67
abbrev zaj:Stmt:=top 68
abbrev zck:Stmt:=top 69
abbrev za7:Stmt:=top 70
abbrev sLaw:Stmt:=top 71
end D
namespace L2
open PySem PySem.Spec PyProof.Rows
theorem seqI {t u:TS}{D:Ends}{σ:St}{H:Hp} (Pv:St->Hp->Prop) (h2:∀ σ' H',Pv σ' H'->u D σ' H') (h1:(∀ σ' H',Pv σ' H'->u D σ' H')->t { D with nx:=u D } σ H):tSeq t u D σ H:=h1 h2
theorem pos (n:Nat):(0:Int) < (((n + 1:Nat):Int)):=by omega
end L2
namespace D
open PySem L2
def Zd (H:Hp) (b:Addr):Prop:=∃ a f m:Int,H b = some (.lst [.int a,.int f,.int m])
structure Step (b:Addr) (H H':Hp):Prop where
 box:Zd H' b
 keep:∀ c o,c≠b->H c = some o->H' c = some o
theorem Step.refl {b:Addr}{H:Hp} (h:Zd H b):Step b H H:=⟨h,fun _ _ _ e=>e⟩
theorem Step.trans {b:Addr}{H H1 H2:Hp} (x:Step b H H1) (y:Step b H1 H2):Step b H H2:=⟨y.box,fun c o hc e=>y.keep c o hc (x.keep c o hc e)⟩
theorem Step.new {b p:Addr}{H:Hp}{o:HO} (h:Zd H b) (hp:H p = none):Step b H (upd H p o):=by
 obtain ⟨a,f,m,e⟩:=h
 exact ⟨⟨a,f,m,by rw [zg (zk e hp)]; exact e⟩,fun c u _ e=>by rw [zg (zk e hp)]; exact e⟩
theorem Step.put {b:Addr}{H:Hp} (a f m:Int):Step b H (upd H b (.lst [.int a,.int f,.int m])):=⟨⟨a,f,m,zc⟩,fun c o hc e=>by rw [zg hc]; exact e⟩
theorem Step.keepN {b:Addr}{H H':Hp} (x:Step b H H') {c:Addr}{o:HO} (hb:Zd H b) (e:H c = some o) (ho:∀ a f m:Int,o≠.lst [.int a,.int f,.int m]):H' c = some o:=by
 obtain ⟨a,f,m,e'⟩:=hb
 exact x.keep c o (zks e e' (ho a f m)) e
def zhR (K:PySem.W.Frag):Sp:=fun vs H Q _=>∃ (a:Addr) (ns:List Int) (k:Int),vs = [.ref a,.int k]/\SqL K H a (ns.map V.int)/\0<=k/\∀ i:Int,Q (.int i) H
def zkL (K:PySem.W.Frag):Sp:=fun vs H Q _=>∃ (a:Addr) (ns:List Int) (k:Int),vs = [.ref a,.int k]/\SqL K H a (ns.map V.int)/\0<=k/\∀ (x f m:Int) (p:Addr),H p = none->Q (.ref p) (upd H p (.lst [.int x,.int f,.int m]))
def Z9:Sp:=fun vs H Q _=>∃ (b:Addr) (n:Int),vs = [.ref b,.int n]/\Zd H b/\0 < n/\n < 10 ^ 61/\∀ (r:Int) (H':Hp),0<=r->r < n->Step b H H'->Q (.int r) H'
def Signs (x:Str):Prop:=∀ c∈x.cps.toList,32<=c/\c<=126/\c≠34/\c≠37
def zhS:Sp:=fun vs H Q _=>∃ (b:Addr) (n:Int),vs = [.ref b,.int n]/\Zd H b/\0<=n/\n < 10000/\∀ (x:Str) (H':Hp),(x.length:Int)<=n->Signs x->Step b H H'->Q (.str x) H'
def za8:Sp:=fun vs H Q _=>∃ b:Addr,vs = [.ref b]/\Zd H b/\∀ (i:Int) (H':Hp),-(10 ^ 60) < i->i < 10 ^ 60->Step b H H'->Q (.int i) H'
section
variable {P:Program}{w:World}{K:PySem.W.Frag}{mg:Str->Option Value}{base:Heap}{f:Addr}{fd:FuncData}{k n:Nat}{ANoName AHouse ANoWorth ANoRule ANoThing zN ANoStep ANoRow AForgeError:Addr}
theorem zlV:FnScope ["_law_script","_law_k"] ["_law_script","_law_k"] (zh zi5):=⟨rfl,rfl,rfl,by decide +kernel,rfl,by decide +kernel,by decide +kernel⟩
theorem zkM (F:Fun K "_law_cell" "_law_cell" zi5 f fd) (m_len:mg "len" = none):FnOk P w K mg base CX0 (k + 1) f fd ["_law_script","_law_k"] (zhR K):=by
 refine F.ok zlV (fun vs H Q E h=>?_) (fun cdv A outer s H vs Q E hr h=>?_)
 ·obtain ⟨a,ns,k,rfl,_⟩:=h
  rfl
 obtain ⟨a,ns,j,rfl,hS,h0,q⟩:=h
 refine ⟨_,(zd (zG (zm zgA (pv 1) (zl zD rfl m_len PySem.boot_len (za (pv 0) zb)) (nomark _)) (zf (zr (zx zE (pv 0) (pv 1) (fun _ _=>rfl)))) zo)
  (zf (zr (zw Zi (zw zbn ze (pv 1)) ze)))),?_⟩
 refine ⟨_,rfl,_,rfl,_,_,rfl,.inl ⟨_,hS,rfl⟩,_,_,rfl,rfl,_,rfl,?_⟩
 refine ite2 (fun c=>?_) (fun c=>?_)
 ·have c':j < (((ns.map V.int).length:Nat):Int):=of_decide_eq_true c
  rw [List.length_map] at c'
  have hj:j.toNat < ns.length:=by omega
  have ej:j = ((j.toNat:Nat):Int):=by omega
  have at1:atI (ns.map V.int) ((j.toNat:Nat):Int) = some (.int ns[j.toNat]):=zH (by rw [List.getElem?_map,List.getElem?_eq_getElem hj]; rfl)
  rw [← ej] at at1
  exact ⟨_,rfl,_,rfl,a,_,j,.int ns[j.toNat],rfl,rfl,hS,at1,q _⟩
 ·exact ⟨_,rfl,_,_,rfl,rfl,.inl ⟨by decide,by decide⟩,_,_,rfl,rfl,q _⟩
theorem zi9:FnScope ["_law_script","_law_k","_law_cell_here","_law_number_here","_law_mixed"] ["_law_script","_law_k"] (zh sBox):=⟨rfl,rfl,rfl,by decide +kernel,rfl,by decide +kernel,by decide +kernel⟩
theorem zlW (F:Fun K "_law_box" "_law_box" sBox f fd) (G_lcell:Have P w K mg base "_law_cell" k ["_law_script","_law_k"] (zhR K)):FnOk P w K mg base CX0 (k + 1) f fd ["_law_script","_law_k"] (zkL K):=by
 refine F.ok zi9 (fun vs H Q E h=>?_) (fun cdv A outer s H vs Q E hr h=>?_)
 ·obtain ⟨a,ns,k,rfl,_⟩:=h
  rfl
 obtain ⟨a,ns,j,rfl,hS,h0,q⟩:=h
 refine ⟨_,(zd (zn (i:=2) zi9.nd rfl (Or.inl rfl) (zu G_lcell hr rfl (za (pv 0) (za (pv 1) zb))))
  (zd (zn (i:=3) zi9.nd rfl (Or.inl rfl) (zw zaK (zw zbn (zw Zi (zw zaK (pv 2) ze) ze) ze) ze))
  (zd (zn (i:=4) zi9.nd rfl (Or.inl rfl) (zw zaK (zw Zi (zw zbn (pv 3) (zw Zi (zw zaK (pv 3) ze) ze)) (zw zbn ze (pv 1))) ze))
  (zd (zG (zm Za (zw zaK (zu G_lcell hr rfl (za (pv 0) (za ze zb))) ze) ze (nomark _)) (zf (zr (zL (za (pv 2) (za ze (za (pv 4) zb)))))) zo)
  (zf (zr (zL (za (pv 4) (za ze (za ze zb)))))))))),?_⟩
 refine ⟨_,rfl,_,rfl,a,ns,j,rfl,hS,h0,fun c=>?_⟩
 refine ⟨_,rfl,_,_,rfl,rfl,pos _,_,_,rfl,rfl,_,_,rfl,rfl,.inr ⟨by decide,by decide⟩,_,_,rfl,rfl,pos _,?_⟩
 have b1:0<=(c % 2147483629 + 11) * 69621 % 2147483629:=Int.emod_nonneg _ (by decide)
 have b2:(c % 2147483629 + 11) * 69621 % 2147483629 < 2147483629:=Int.emod_lt_of_pos _ (by decide)
 refine ⟨_,rfl,_,rfl,_,_,rfl,rfl,pos _,_,_,rfl,rfl,_,_,rfl,rfl,.inl ⟨by omega,by omega⟩,_,rfl,_,_,rfl,rfl,.inl ⟨by decide,by decide⟩,_,_,rfl,rfl,_,_,rfl,rfl,pos _,?_⟩
 refine ⟨_,rfl,a,ns,0,rfl,hS,Int.le_refl 0,fun c0=>?_⟩
 refine ⟨_,_,rfl,rfl,pos _,rfl,_,rfl,?_⟩
 refine ite2 (fun e=>?_) (fun e=>?_)
 ·exact ⟨_,rfl,_,rfl,zl3,fun p hp=>q _ _ _ p hp⟩
 ·exact ⟨_,rfl,zl3,fun p hp=>q _ _ _ p hp⟩
theorem zf1:FnScope ["_law_box_here","_law_wide","_law_found"] ["_law_box_here","_law_wide"] (zh zi6):=⟨rfl,rfl,rfl,by decide +kernel,rfl,by decide +kernel,by decide +kernel⟩
theorem zlX {n:Int} (h0:0 < n) (h:n < 10 ^ 61):n.natAbs.log2 < 9000:=by
 have h1:n.natAbs < 2 ^ 210:=by
  have:(10:Int) ^ 61<=2 ^ 210:=by decide
  omega
 have:=(Nat.log2_lt (by omega)).mpr h1
 omega
theorem zkN (F:Fun K "_law_take" "_law_take" zi6 f fd):FnOk P w K mg base CX0 (k + 1) f fd ["_law_box_here","_law_wide"] Z9:=by
 refine F.ok zf1 (fun vs H Q E h=>?_) (fun cdv A outer s H vs Q E hr h=>?_)
 ·obtain ⟨b,n,rfl,_⟩:=h
  rfl
 obtain ⟨b,n,rfl,⟨a0,f0,m,hb⟩,hn,hn2,q⟩:=h
 refine ⟨_,(zd (zG (zct (zm Za (zx zE (pv 0) ze (fun _ _=>rfl)) ze (nomark _)) (zbd (zm ZW (zx zE (pv 0) ze (fun _ _=>rfl)) (zt (za ze (za (zhh zhj ze) zb))) (by rfl)))).pt (zd (zbc (zx zE (pv 0) ze (fun _ _=>rfl)) (zcw (pv 0) ze zbr))
  (zf (zbc ze (zcw (pv 0) ze zbr)))) zo)
  (zd (zG (zm Za (zx zE (pv 0) ze (fun _ _=>rfl)) ze (nomark _)) (zd (zn (i:=2) zf1.nd rfl (Or.inl rfl) (zw zaK (zx zE (pv 0) ze (fun _ _=>rfl)) (pv 1)))
  (zd (zbc (zw zi3 (zx zE (pv 0) ze (fun _ _=>rfl)) (pv 1)) (zcw (pv 0) ze zbr))
  (zf (zr (pv 2))))) zo)
  (zd (zbc (zw zaK (zw Zi (zw zbn (zx zE (pv 0) ze (fun _ _=>rfl)) ze) ze) ze) (zcw (pv 0) ze zbr))
  (zd (zn (i:=2) zf1.nd rfl (Or.inl rfl) (zw zaK (zw zbn (zx zE (pv 0) ze (fun _ _=>rfl)) (zw Zi (zw zaK (zx zE (pv 0) ze (fun _ _=>rfl)) ze) ze)) ze))
  (zd (zG (zm zea (pv 1) (zw zbo ze ze) (nomark _)) (zf (zn (i:=2) zf1.nd rfl (Or.inl rfl) (zw Zi (zw zbo (pv 2) ze) (pv 2)))) zo)
  (zf (zr (zw zaK (pv 2) (pv 1))))))))),?_⟩
 refine seqI (fun σ' H'=>σ' = [some (.ref b),some (.int n),none]/\Step b H H') (fun σ' H1 h1=>?_) (fun rest=>?_)
 ·obtain ⟨rfl,st1⟩:=h1
  obtain ⟨a,f,m,hb1⟩:=st1.box
  refine ⟨_,rfl,b,_,1,.int f,rfl,rfl,SqL.of hb1,rfl,rfl,_,rfl,?_⟩
  refine ite2 (fun e=>?_) (fun e=>?_)
  ·refine ⟨_,rfl,b,_,0,.int a,rfl,rfl,SqL.of hb1,rfl,_,rfl,_,_,rfl,rfl,hn,?_⟩
   refine ⟨_,rfl,b,_,0,.int a,rfl,rfl,SqL.of hb1,rfl,_,rfl,_,_,rfl,rfl,⟨hn,zlX hn hn2⟩,_,rfl,b,_,0,0,rfl,rfl,hb1,rfl,?_⟩
   exact ⟨_,rfl,q _ _ (Int.emod_nonneg _ (by omega)) (Int.emod_lt_of_pos _ hn) (st1.trans (Step.put _ _ _))⟩
  ·refine ⟨_,rfl,b,_,0,.int a,rfl,rfl,SqL.of hb1,rfl,_,_,rfl,rfl,.inr ⟨by decide,by decide⟩,_,_,rfl,rfl,_,_,rfl,rfl,pos _,_,rfl,b,_,0,0,rfl,rfl,hb1,rfl,?_⟩
   refine ⟨_,rfl,b,_,0,_,rfl,rfl,SqL.of zc,rfl,_,rfl,b,_,0,_,rfl,rfl,SqL.of zc,rfl,_,_,rfl,rfl,pos _,_,_,rfl,rfl,_,_,rfl,rfl,.inr ⟨?_,?_⟩,_,_,rfl,rfl,pos _,?_⟩
   ·have:=Int.emod_nonneg ((a * 69621 + 104729) % 2147483587) (show (16807:Int)≠0 by decide)
    omega
   ·have:=Int.emod_lt_of_pos ((a * 69621 + 104729) % 2147483587) (show (0:Int) < 16807 by decide)
    omega
   dsimp only [Z7]
   refine seqI (t:=tIfS _ _ _) (fun σ' H'=>∃ x:Int,σ' = [some (.ref b),some (.int n),some (.int x)]/\Step b H H') (fun σ' H1 h1=>?_) (fun rest=>?_)
   ·obtain ⟨x,rfl,st2⟩:=h1
    exact ⟨_,rfl,_,rfl,_,_,rfl,rfl,hn,q _ _ (Int.emod_nonneg _ (by omega)) (Int.emod_lt_of_pos _ hn) st2⟩
   ·refine ⟨_,rfl,_,_,rfl,rfl,⟨by decide,by decide,by decide⟩,_,_,rfl,rfl,_,rfl,?_⟩
    refine ite2 (fun e=>?_) (fun e=>?_)
    ·refine ⟨_,rfl,_,_,rfl,rfl,⟨by decide,by decide,?_⟩,_,rfl,_,_,rfl,rfl,rest _ _ ⟨_,rfl,st1.trans (Step.put _ _ _)⟩⟩
     have l1:=Int.emod_nonneg ((a * 69621 + 104729) % 2147483587 * ((a * 69621 + 104729) % 2147483587 % 16807 + 1)) (show (2147483579:Int)≠0 by decide)
     have l2:=Int.emod_lt_of_pos ((a * 69621 + 104729) % 2147483587 * ((a * 69621 + 104729) % 2147483587 % 16807 + 1)) (show (0:Int) < 2147483579 by decide)
     omega
    ·exact rest _ _ ⟨_,rfl,st1.trans (Step.put _ _ _)⟩
 ·refine ⟨_,rfl,b,_,1,.int f0,rfl,rfl,SqL.of hb,rfl,rfl,_,rfl,?_⟩
  refine ite2 (fun e=>?_) (fun e=>?_)
  ·refine ⟨_,rfl,b,_,0,.int a0,rfl,rfl,SqL.of hb,rfl,_,rfl,zl2,fun t ht=>?_⟩
   have hb2:upd H t (.tup [.int 0,.int (-1)]) b = some (.lst [.int a0,.int f0,.int m]):=by rw [zg (zk hb ht)]; exact hb
   refine ⟨t,_,rfl,.inr (SqT.of zc),rfl,rfl,_,rfl,?_⟩
   refine ite2 (fun e=>?_) (fun e=>?_)
   ·refine ⟨_,rfl,b,_,2,.int m,rfl,rfl,SqL.of hb2,rfl,_,rfl,b,_,0,0,rfl,rfl,hb2,rfl,?_⟩
    refine ⟨_,rfl,b,_,1,1,rfl,rfl,zc,rfl,?_⟩
    exact rest _ _ ⟨rfl,((Step.new ⟨_,_,_,hb⟩ ht).trans (Step.put _ _ _)).trans (Step.put _ _ _)⟩
   ·exact rest _ _ ⟨rfl,Step.new ⟨_,_,_,hb⟩ ht⟩
  ·refine iteF ?_
   exact rest _ _ ⟨rfl,Step.refl ⟨_,_,_,hb⟩⟩
inductive W where
 | num (i:Int)
 | txt (x:Str)
 | lst (ws:List W)
mutual
def W.size:W->Int
 | .num _=>1
 | .txt x=>1 + (x.length:Int)
 | .lst ws=>1 + sizes ws
def sizes:List W->Int
 | []=>0
 | w :: r=>w.size + sizes r
end
mutual
def W.depth:W->Nat
 | .num _=>0
 | .txt _=>0
 | .lst ws=>1 + depths ws
def depths:List W->Nat
 | []=>0
 | w :: r=>max w.depth (depths r)
end
mutual
def W.Ok:W->Prop
 | .num i=>-(10 ^ 60) < i/\i < 10 ^ 60
 | .txt x=>x.length<=400/\Signs x
 | .lst ws=>ws.length<=60/\Oks ws
def Oks:List W->Prop
 | []=>True
 | w :: r=>w.Ok/\Oks r
end
theorem zgL (ws:List W) (w:W):sizes (ws ++ [w]) = sizes ws + w.size:=by
 induction ws with
 | nil=>simp [sizes]
 | cons x r ih=>simp only [List.cons_append,sizes,ih]; omega
theorem zfg (ws:List W) (w:W):depths (ws ++ [w]) = max (depths ws) w.depth:=by
 induction ws with
 | nil=>simp [depths]
 | cons x r ih=>simp only [List.cons_append,depths,ih]; omega
theorem zja (ws:List W) (w:W):Oks (ws ++ [w]) ↔ Oks ws/\w.Ok:=by
 induction ws with
 | nil=>simp [Oks]
 | cons x r ih=>simp only [List.cons_append,Oks,ih,and_assoc]
inductive RW (H:Hp):V->W->Prop where
 | num (i:Int):RW H (.int i) (.num i)
 | txt (x:Str):RW H (.str x) (.txt x)
 | lst {a:Addr}{vs:List V}{ws:List W}:H a = some (.tup vs)->vs.length = ws.length->(∀ (i:Nat) (v:V) (w:W),vs[i]? = some v->ws[i]? = some w->RW H v w)->RW H (.ref a) (.lst ws)
structure RWs (H:Hp) (vs:List V) (ws:List W):Prop where
 len:vs.length = ws.length
 at':∀ (i:Nat) (v:V) (w:W),vs[i]? = some v->ws[i]? = some w->RW H v w
def Tups (H H':Hp):Prop:=∀ a vs,H a = some (.tup vs)->H' a = some (.tup vs)
theorem RW.mono {H H':Hp} (t:Tups H H') {v:V}{w:W} (h:RW H v w):RW H' v w:=by
 induction h with
 | num i=>exact .num i
 | txt x=>exact .txt x
 | lst e l _ ih=>exact .lst (t _ _ e) l ih
theorem RWs.mono {H H':Hp} (t:Tups H H') {vs:List V}{ws:List W} (h:RWs H vs ws):RWs H' vs ws:=⟨h.len,fun i v w a b=>(h.at' i v w a b).mono t⟩
theorem RWs.snoc {H:Hp}{vs:List V}{ws:List W}{v:V}{w:W} (h:RWs H vs ws) (x:RW H v w):RWs H (vs ++ [v]) (ws ++ [w]):=by
 refine ⟨by rw [List.length_append,List.length_append,h.len]; rfl,fun i v' w' a b=>?_⟩
 by_cases hi:i < vs.length
 ·rw [List.getElem?_append_left hi] at a
  rw [List.getElem?_append_left (h.len ▸ hi)] at b
  exact h.at' i v' w' a b
 ·rw [List.getElem?_append_right (by omega)] at a
  rw [List.getElem?_append_right (by have:=h.len; omega)] at b
  have hi0:i - vs.length = 0:=by
   have:=(List.getElem?_eq_some_iff.mp a).1
   simp at this
   omega
  have hi1:i - ws.length = 0:=by have:=h.len; omega
  rw [hi0] at a
  rw [hi1] at b
  have e1:v = v':=by simpa using a
  have e2:w = w':=by simpa using b
  rw [← e1,← e2]
  exact x
theorem Step.tups {b:Addr}{H H':Hp} (x:Step b H H') (hb:Zd H b):Tups H H':=fun a vs e=>x.keepN hb e (fun _ _ _ z=>nomatch z)
theorem zjb {H:Hp}{p:Addr}{o:HO} (h:H p = none):Tups H (upd H p o):=fun a vs e=>by rw [zg (zk e h)]; exact e
theorem zak {H:Hp}{p:Addr}{xs:List V}{o:HO} (h:H p = some (.lst xs)):Tups H (upd H p o):=fun a vs e=>by rw [zg (zks e h (fun z=>nomatch z))]; exact e
def zbC:Str:=Str.ofString " !#$&'()*+,-./0123456789:;<=>?@ABCDEFGHIJKLMNOPQRSTUVWXYZ"
def zbD:Str:=Str.ofString "[\\]^_`abcdefghijklmnopqrstuvwxyz{|}~"
theorem zax:(zbC ++ zbD).length = 93:=by decide +kernel
theorem zhT:∀ c∈(zbC ++ zbD).cps.toList,32<=c/\c<=126/\c≠34/\c≠37:=by decide +kernel
theorem zM (x:Str):x.cps.toList.length = x.length:=by simp [Str.length]
theorem zO (x y:Str):(x ++ y).cps.toList = x.cps.toList ++ y.cps.toList:=by
 show (x.cps ++ y.cps).toList = _
 simp
theorem zfh (x y:Str):(x ++ y).length = x.length + y.length:=by
 rw [← zM,zO,List.length_append,zM,zM]
mutual
theorem zjc:∀ w:W,1<=w.size
 | .num _=>by simp [W.size]
 | .txt x=>by simp only [W.size]; omega
 | .lst ws=>by have:=sizes_nn ws; simp only [W.size]; omega
theorem sizes_nn:∀ ws:List W,0<=sizes ws
 | []=>by simp [sizes]
 | w :: r=>by have h1:=zjc w; have h2:=sizes_nn r; simp only [sizes]; omega
end
theorem zdh:FnScope ["_law_box_here","_law_most","_law_signs","_law_found","_law_k"] ["_law_box_here","_law_most"] (zh zi7):=⟨rfl,rfl,rfl,by decide +kernel,rfl,by decide +kernel,by decide +kernel⟩
theorem small {n:Nat} (h:n<=1000000):n<=sizeLine:=Nat.le_trans h (by decide)
theorem zkO (F:Fun K "_law_text" "_law_text" zi7 f fd) (G_ltake:Have P w K mg base "_law_take" k ["_law_box_here","_law_wide"] Z9) (m_len:mg "len" = none) (m_range:mg "range" = none):
  FnOk P w K mg base CX0 (k + 1) f fd ["_law_box_here","_law_most"] zhS:=by
 refine F.ok zdh (fun vs H Q E h=>?_) (fun cdv A outer s H vs Q E hr h=>?_)
 ·obtain ⟨b,n,rfl,_⟩:=h
  rfl
 obtain ⟨b,n,rfl,hb,hn,hn2,q⟩:=h
 refine ⟨_,(zd (zn (i:=2) zdh.nd rfl (Or.inl rfl) zi)
  (zd (zn (i:=2) zdh.nd rfl (Or.inl rfl) (zw Zj (pv 2) zi))
  (zd (zn (i:=3) zdh.nd rfl (Or.inl rfl) zi)
  (zd (Z1 PassesOwn.never rfl (Zs rfl m_range (za (zu G_ltake hr rfl (za (pv 0) (za (zw Zi (pv 1) ze) zb))) zb)) (zV (i:=4) zdh.nd rfl (Or.inl rfl)) (zf (zn (i:=3) zdh.nd rfl (Or.inl rfl) (zw Zj (pv 3) (zx zhE (pv 2) (zu G_ltake hr rfl (za (pv 0) (za (zl zD rfl m_len PySem.boot_len (za (pv 2) zb)) zb))) (fun _ _=>rfl))))))
  (zf (zr (pv 3))))))),?_⟩
 refine ⟨_,rfl,zbC,zbD,rfl,rfl,small (by decide +kernel),?_⟩
 refine ⟨_,rfl,_,rfl,_,_,rfl,rfl,b,n + 1,rfl,hb,by omega,by omega,fun r H1 h0 h1 st=>?_⟩
 refine ⟨r,rfl,by omega,by omega,zat (n:=r.toNat) (fun i σ' H'=>∃ (x:Str) (o:Option V),σ' = [some (.ref b),some (.int n),some (.str (zbC ++ zbD)),some (.str x),o]/\x.length = i/\Signs x/\Step b H H')
  ⟨Str.ofString "",none,rfl,rfl,?_,st⟩ (fun i σ' H' hi h=>?_) (fun σ' H' h=>?_)⟩
 ·intro c hc
  have e0:(Str.ofString "").cps.toList = []:=by decide +kernel
  rw [e0] at hc
  cases hc
 ·obtain ⟨x,o,rfl,hx,sx,st1⟩:=h
  refine ⟨_,rfl,_,rfl,_,rfl,_,rfl,_,_,rfl,⟨small (by rw [zax]; decide),rfl⟩,b,_,rfl,st1.box,by rw [zax]; decide,by rw [zax]; decide,fun r2 H2 r0 r1 st2=>?_⟩
  rw [zax] at r1
  have hr2:r2.toNat < (zbC ++ zbD).cps.toList.length:=by rw [zM,zax]; omega
  have er2:r2 = ((r2.toNat:Nat):Int):=by omega
  have a1:atI (zbC ++ zbD).cps.toList ((r2.toNat:Nat):Int) = some (zbC ++ zbD).cps.toList[r2.toNat]:=zH (List.getElem?_eq_getElem hr2)
  rw [← er2] at a1
  refine ⟨_,r2,_,rfl,rfl,small (by rw [zax]; decide),a1,x,_,rfl,rfl,small ?_,?_⟩
  ·have:(Str.mk #[(zbC ++ zbD).cps.toList[r2.toNat]]).length = 1:=rfl
   rw [this]
   omega
  ·refine ⟨_,_,rfl,?_,?_,st1.trans st2⟩
   ·rw [zfh,hx]
    rfl
   ·intro c hc
    rw [zO] at hc
    rcases List.mem_append.mp hc with hc | hc
    ·exact sx c hc
    ·have:c = (zbC ++ zbD).cps.toList[r2.toNat]:=by simpa using hc
     rw [this]
     exact zhT _ (List.getElem_mem _)
 ·obtain ⟨x,o,rfl,hx,sx,st1⟩:=h
  exact ⟨_,rfl,q x H' (by omega) sx st1⟩
theorem zf2:FnScope ["_law_box_here","_law_kind"] ["_law_box_here"] (zh zdt):=⟨rfl,rfl,rfl,by decide +kernel,rfl,by decide +kernel,by decide +kernel⟩
theorem zhU (F:Fun K "_law_number" "_law_number" zdt f fd) (G_ltake:Have P w K mg base "_law_take" k ["_law_box_here","_law_wide"] Z9):
  FnOk P w K mg base CX0 (k + 1) f fd ["_law_box_here"] za8:=by
 refine F.ok zf2 (fun vs H Q E h=>?_) (fun cdv A outer s H vs Q E hr h=>?_)
 ·obtain ⟨b,rfl,_⟩:=h
  rfl
 obtain ⟨b,rfl,hb,q⟩:=h
 refine ⟨_,(zd (zn (i:=1) zf2.nd rfl (Or.inl rfl) (zu G_ltake hr rfl (za (pv 0) (za ze zb))))
  (zd (zG (zm Za (pv 1) ze (nomark _)) (zf (zr (zw Zi (zw Z2 (zu G_ltake hr rfl (za (pv 0) (za (zw Z2 (zw zbn ze (zw zbo ze ze)) ze) zb))) (zw zbo ze ze)) ze))) zo)
  (zd (zG (zm Za (pv 1) ze (nomark _)) (zf (zr (zx zE (zL (za (zw Z2 (zw zbo ze ze) ze) (za (zw Z2 ze (zw zbo ze ze)) (za ze (za (zhh zhj ze) zb))))) (zu G_ltake hr rfl (za (pv 0) (za ze zb))) (fun _ _=>rfl)))) zo)
  (zf (zr (zw Z2 (zu G_ltake hr rfl (za (pv 0) (za ze zb))) ze)))))),?_⟩
 refine ⟨_,rfl,b,4,rfl,hb,by decide,by decide,fun r H1 h0 h1 st=>?_⟩
 refine ⟨_,rfl,rfl,_,rfl,?_⟩
 refine ite2 (fun e=>?_) (fun e=>?_)
 ·refine ⟨_,rfl,_,_,rfl,rfl,⟨by decide,by decide,by decide⟩,_,_,rfl,rfl,.inl ⟨by decide,by decide⟩,_,_,rfl,rfl,b,_,rfl,st.box,by decide,by decide,fun r2 H2 r0 r1 st2=>?_⟩
  refine ⟨_,_,rfl,rfl,⟨by decide,by decide,by decide⟩,_,_,rfl,rfl,_,_,rfl,rfl,q _ _ ?_ ?_ (st.trans st2)⟩
  ·have:(10:Int) ^ (60:Int).toNat = 10 ^ 60:=rfl
   omega
  ·have:(10:Int) ^ (60:Int).toNat = 10 ^ 60:=rfl
   have r1:r2 < 2 * 10 ^ 60 - 1:=r1
   omega
 ·refine ⟨_,rfl,rfl,_,rfl,?_⟩
  refine ite2 (fun e=>?_) (fun e=>?_)
  ·refine ⟨_,_,rfl,rfl,⟨by decide,by decide,by decide⟩,_,_,rfl,rfl,_,_,rfl,rfl,⟨by decide,by decide,by decide⟩,_,_,rfl,rfl,_,rfl,zl4,fun p hp=>?_⟩
   have st1:=st.trans (Step.new (o:=.lst [.int (10 ^ 60 - 1),.int (1 - 10 ^ 60),.int 0,.int (-1)]) st.box hp)
   refine ⟨_,rfl,b,4,rfl,st1.box,by decide,by decide,fun r2 H2 r0 r1 st2=>?_⟩
   have hp2:H2 p = some (.lst [.int (10 ^ 60 - 1),.int (1 - 10 ^ 60),.int 0,.int (-1)]):=by
    obtain ⟨a',f',m',e'⟩:=st.box
    exact st2.keep p _ (zk e' hp).symm zc
   have hcases:r2 = 0\/r2 = 1\/r2 = 2\/r2 = 3:=by omega
   rcases hcases with rfl | rfl | rfl | rfl
   ·exact ⟨p,_,0,_,rfl,rfl,SqL.of hp2,rfl,q _ _ (by decide) (by decide) (st1.trans st2)⟩
   ·exact ⟨p,_,1,_,rfl,rfl,SqL.of hp2,rfl,q _ _ (by decide) (by decide) (st1.trans st2)⟩
   ·exact ⟨p,_,2,_,rfl,rfl,SqL.of hp2,rfl,q _ _ (by decide) (by decide) (st1.trans st2)⟩
   ·exact ⟨p,_,3,_,rfl,rfl,SqL.of hp2,rfl,q _ _ (by decide) (by decide) (st1.trans st2)⟩
  ·refine ⟨_,rfl,b,12,rfl,st.box,by decide,by decide,fun r2 H2 r0 r1 st2=>?_⟩
   exact ⟨_,_,rfl,rfl,q _ _ (by have:(3:Int) < 10 ^ 60:=(by decide); omega) (by have:(12:Int) < 10 ^ 60:=(by decide); omega) (st.trans st2)⟩
def zbV (n:Nat):Sp:=fun vs H Q _=>∃ (b:Addr) (room deep:Int),vs = [.ref b,.int room,.int deep]/\Zd H b/\1<=room/\room < 1000/\0<=deep/\deep < n /\
 ∀ (v:V) (x:W) (H':Hp),RW H' v x->x.Ok->(x.depth:Int)<=deep->x.size<=16 * room->Step b H H'->Q v H'
theorem zaR:FnScope ["_law_box_here","_law_room","_law_deep","_law_kind","_law_wide","_law_left","_law_found","_law_k","_law_share"] ["_law_box_here","_law_room","_law_deep"] (zh zf0):=⟨rfl,rfl,rfl,by decide +kernel,rfl,by decide +kernel,by decide +kernel⟩
theorem zjd {n:Nat} (F:Fun K "_law_worth" "_law_worth" zf0 f fd) (G_ltake:Have P w K mg base "_law_take" k ["_law_box_here","_law_wide"] Z9) (G_ltext:Have P w K mg base "_law_text" k ["_law_box_here","_law_most"] zhS)
  (G_lnumber:Have P w K mg base "_law_number" k ["_law_box_here"] za8) (G_lworth:Have P w K mg base "_law_worth" k ["_law_box_here","_law_room","_law_deep"] (zbV n))
  (m_min:mg "min" = none) (m_range:mg "range" = none) (m_tuple:mg "tuple" = none):FnOk P w K mg base CX0 (k + 1) f fd ["_law_box_here","_law_room","_law_deep"] (zbV (n + 1)):=by
 refine F.ok zaR (fun vs H Q E h=>?_) (fun cdv A outer s H vs Q E hr h=>?_)
 ·obtain ⟨b,room,deep,rfl,_⟩:=h
  rfl
 obtain ⟨b,room,deep,rfl,hb,hr1,hr2,hd0,hd1,q⟩:=h
 refine ⟨_,(zd (zn (i:=3) zaR.nd rfl (Or.inl rfl) (zu G_ltake hr rfl (za (pv 0) (za ze zb))))
  (zd (zG (zbe (zm Za (pv 3) ze (nomark _)) (zaN (zct (zm Za (pv 3) ze (nomark _)) (zbd (zm zgA (pv 2) ze (nomark _)))).pt)).pt (zf (zr (zu G_lnumber hr rfl (za (pv 0) zb)))) zo)
  (zd (zG (zm Za (pv 3) ze (nomark _)) (zf (zr (zu G_ltext hr rfl (za (pv 0) (za ze zb))))) zo)
  (zd (zn (i:=4) zaR.nd rfl (Or.inl rfl) (zu G_ltake hr rfl (za (pv 0) (za (zl (zed rfl) rfl m_min PyProof.Rows.boot_min (za (pv 1) (za ze zb))) zb))))
  (zd (zn (i:=5) zaR.nd rfl (Or.inl rfl) (zw Z2 (pv 1) ze))
  (zd (zn (i:=6) zaR.nd rfl (Or.inl rfl) (zL zb))
  (zd (Z1 PassesOwn.never rfl (Zs rfl m_range (za (pv 4) zb)) (zV (i:=7) zaR.nd rfl (Or.inl rfl)) (zd (zn (i:=8) zaR.nd rfl (Or.inl rfl) (zw Zi ze (zu G_ltake hr rfl (za (pv 0) (za (zw Z2 (pv 5) (zw Z2 (zw Z2 (pv 4) ze) (pv 7))) zb)))))
  (zd (zq (zav PySem.F.plainAttrs_list PySem.F.slot_list_append PySem.F.type_list_append Zv (pv 6) (za (zu G_lworth hr rfl (za (pv 0) (za (pv 8) (za (zw Z2 (pv 2) ze) zb)))) zb)))
  (zf (zn (i:=5) zaR.nd rfl (Or.inl rfl) (zw Z2 (pv 5) (pv 8)))))))
  (zf (zr (Zu zds rfl m_tuple zaC (za (pv 6) zb))))))))))),?_⟩
 refine ⟨_,rfl,b,3,rfl,hb,by decide,by decide,fun kd H1 k0 k1 st=>?_⟩
 dsimp only [Z7]
 refine seqI (t:=tIfS _ _ _) (fun σ' H'=>σ' = [some (.ref b),some (.int room),some (.int deep),some (.int kd),none,none,none,none,none]/\Step b H H'/\(kd = 1\/(kd = 2/\1<=deep))) (fun σ' H2 h2=>?_) (fun rest=>?_)
 ·obtain ⟨rfl,st2,hk⟩:=h2
  refine ⟨_,rfl,rfl,_,rfl,?_⟩
  refine ite2 (fun e=>?_) (fun e=>?_)
  ·refine ⟨_,rfl,b,15,rfl,st2.box,by decide,by decide,fun x H3 hx sx st3=>?_⟩
   refine q _ _ _ (.txt x) ⟨by omega,sx⟩ (by show ((0:Nat):Int)<=deep; omega) ?_ (st2.trans st3)
   show 1 + (x.length:Int)<=16 * room
   omega
  ·have e':¬ V.int kd = V.int 1:=of_decide_eq_false (Bool.eq_false_iff.mpr e)
   have hk2:kd = 2/\1<=deep:=by
    rcases hk with hk | hk
    ·exact absurd (by rw [hk]) e'
    ·exact hk
   refine ⟨_,rfl,_,rfl,room,61,rfl,b,_,rfl,st2.box,?_,?_,fun wide H3 w0 w1 st3=>?_⟩
   ·split <;> omega
   ·split <;> omega
   have w2:wide < room/\wide < 61:=by
    revert w1
    split <;> intro w1 <;> omega
   refine ⟨_,rfl,_,_,rfl,rfl,zl0,fun l hl=>?_⟩
   have st4:=(st2.trans st3).trans (Step.new (o:=.lst []) st3.box hl)
   have lb:l≠b:=by
    obtain ⟨a',f',m',e'⟩:=st3.box
    exact (zk e' hl).symm
   have hlH:H l = none:=by
    cases e:H l with
    | none=>rfl
    | some o=>
     have:=(st2.trans st3).keep l o lb e
     rw [hl] at this
     cases this
   refine ⟨_,rfl,wide,rfl,by omega,by omega,zat (n:=wide.toNat) (fun i σ' H'=>∃ (left:Int) (vs:List V) (ws:List W) (o1 o2:Option V),
     σ' = [some (.ref b),some (.int room),some (.int deep),some (.int kd),some (.int wide),some (.int left),some (.ref l),o1,o2]/\H' l = some (.lst vs)/\RWs H' vs ws/\ws.length = i/\Oks ws/\(depths ws:Int)<=deep - 1 /\
     sizes ws<=16 * (room - 1 - left)/\wide - i<=left/\Step b H H')
    ⟨room - 1,[],[],none,none,rfl,zc,⟨rfl,fun i v w e=>by simp at e⟩,rfl,trivial,by show ((0:Nat):Int)<=deep - 1; omega,by simp [sizes],by omega,st4⟩ (fun i σ' H' hi h=>?_) (fun σ' H' h=>?_)⟩
   ·obtain ⟨left,vs,ws,o1,o2,rfl,hl',hrw,hlen,hok,hdp,hsz,hleft,st5⟩:=h
    have nn:=sizes_nn ws
    refine ⟨_,rfl,_,rfl,_,rfl,_,_,rfl,rfl,_,rfl,_,_,rfl,rfl,_,_,rfl,rfl,b,_,rfl,st5.box,?_,?_,fun r H5 r0 r1 st6=>?_⟩
    ·omega
    ·have:(2000:Int) < 10 ^ 61:=by decide
     omega
    have hl5:H5 l = some (.lst vs):=st6.keep l _ lb hl'
    refine ⟨_,_,rfl,rfl,_,rfl,.inl ⟨rfl,_,SqL.of hl5⟩,_,rfl,_,rfl,_,rfl,_,_,rfl,rfl,b,_,_,rfl,st6.box,?_,?_,?_,?_,fun v x H6 rx okx dx sx st7=>?_⟩
    ·omega
    ·omega
    ·omega
    ·omega
    have hl6:H6 l = some (.lst vs):=st7.keep l _ lb hl5
    have hlv:vs.length<=61:=by have:=hrw.len; omega
    refine ⟨l,vs,v,rfl,rfl,hl6,Nat.lt_of_le_of_lt hlv (by decide),?_⟩
    refine ⟨_,rfl,_,rfl,_,_,rfl,rfl,?_⟩
    have t6:Tups H' H6:=fun a us e=>(st7.tups st6.box) a us ((st6.tups st5.box) a us e)
    have t7:=zak (o:=.lst (vs ++ [v])) hl6
    refine ⟨_,vs ++ [v],ws ++ [x],_,_,rfl,zc,((hrw.mono t6).mono t7).snoc (rx.mono t7),?_,(zja _ _).mpr ⟨hok,okx⟩,?_,?_,?_,?_⟩
    ·rw [List.length_append,hlen]; rfl
    ·rw [zfg]; omega
    ·rw [zgL]; omega
    ·omega
    ·refine ⟨?_,fun c o hc e=>?_⟩
     ·obtain ⟨a',f',m',e'⟩:=st7.box
      exact ⟨a',f',m',by rw [zg lb.symm]; exact e'⟩
     ·rw [zg (zk e hlH)]
      exact (st5.trans (st6.trans st7)).keep c o hc e
   ·obtain ⟨left,vs,ws,o1,o2,rfl,hl',hrw,hlen,hok,hdp,hsz,hleft,st5⟩:=h
    refine ⟨_,rfl,l,vs,rfl,.inl ⟨SqL.of hl',fun t ht=>?_⟩⟩
    have t6:=zjb (o:=.tup vs) ht
    refine q _ (.lst ws) _ (.lst zc hrw.len fun i v x a b=>(hrw.at' i v x a b).mono t6) ⟨by omega,hok⟩ ?_ ?_ (st5.trans (Step.new st5.box ht))
    ·show ((1 + depths ws:Nat):Int)<=deep
     omega
    ·show 1 + sizes ws<=16 * room
     omega
 ·refine ⟨_,rfl,rfl,_,rfl,?_⟩
  have fin:∀ H2,Step b H H2->za8 [.ref b] H2 Q E0:=fun H2 st2=>⟨b,rfl,st2.box,fun i H3 i0 i1 st3=>q _ (.num i) _ (.num i) ⟨i0,i1⟩ (by show ((0:Nat):Int)<=deep; omega) (by show (1:Int)<=16 * room; omega) (st2.trans st3)⟩
  refine ite2 (fun e=>?_) (fun e=>?_)
  ·refine iteT ?_
   exact ⟨_,rfl,fin H1 st⟩
  ·have e':¬ V.int kd = V.int 0:=of_decide_eq_false (Bool.eq_false_iff.mpr e)
   have kne:kd≠0:=fun z=>e' (by rw [z])
   refine ⟨_,rfl,rfl,_,rfl,?_⟩
   refine ite2 (fun e2=>?_) (fun e2=>?_)
   ·have e2':V.int kd = V.int 2:=of_decide_eq_true e2
    have kd2:kd = 2:=by injection e2'
    refine ⟨_,rfl,_,_,rfl,rfl,_,rfl,?_⟩
    refine ite2 (fun e3=>?_) (fun e3=>?_)
    ·exact ⟨_,rfl,fin H1 st⟩
    ·have e3':¬ deep < 1:=of_decide_eq_false (Bool.eq_false_iff.mpr e3)
     exact rest _ _ ⟨rfl,st,.inr ⟨kd2,by omega⟩⟩
   ·have e2':¬ V.int kd = V.int 2:=of_decide_eq_false (Bool.eq_false_iff.mpr e2)
    have kne2:kd≠2:=fun z=>e2' (by rw [z])
    refine iteF ?_
    exact rest _ _ ⟨rfl,st,.inl (by omega)⟩
inductive T where
 | non
 | bl (b:Bool)
 | num (i:Int)
 | txt (x:Str)
 | tup (ts:List T)
 | lst
 | dic
mutual
def T.size:T->Int
 | .txt x=>1 + (x.length:Int)
 | .tup ts=>1 + tsizes ts
 | _=>1
def tsizes:List T->Int
 | []=>0
 | t :: r=>t.size + tsizes r
end
mutual
def T.nodes:T->Nat
 | .tup ts=>1 + tnodes ts
 | _=>1
def tnodes:List T->Nat
 | []=>0
 | t :: r=>t.nodes + tnodes r
end
def zbW (c:Nat):Bool:=decide (32<=c) && (decide (c<=126) && (decide (c≠34) && decide (c≠37)))
def zao (x:Str):Bool:=x.cps.toList.all zbW
def zdi (lv:Int):T->Bool
 | .num i=>decide (-(10 ^ 60) < i/\i < 10 ^ 60)
 | .txt x=>decide (x.length<=400) && zao x
 | .tup ts=>decide (ts.length<=60) && decide (0 < lv)
 | _=>false
mutual
def zaS:T->Int->Bool
 | .tup ts,lv=>decide (ts.length<=60) && decide (0 < lv) && fitsA ts (lv - 1)
 | .num i,_=>decide (-(10 ^ 60) < i/\i < 10 ^ 60)
 | .txt x,_=>decide (x.length<=400) && zao x
 | .non,_=>false
 | .bl _,_=>false
 | .lst,_=>false
 | .dic,_=>false
def fitsA:List T->Int->Bool
 | [],_=>true
 | t :: r,lv=>zaS t lv && fitsA r lv
end
def zQ (t:T):Bool:=zaS t 12 && decide (t.size<=1000)
mutual
def T.Sm:T->Prop
 | .txt x=>x.length<=100000
 | .tup ts=>ts.length<=100000/\Sms ts
 | _=>True
def Sms:List T->Prop
 | []=>True
 | t :: r=>t.Sm/\Sms r
end
mutual
theorem zeD:∀ t:T,1<=t.size
 | .non=>by simp [T.size]
 | .bl _=>by simp [T.size]
 | .num _=>by simp [T.size]
 | .lst=>by simp [T.size]
 | .dic=>by simp [T.size]
 | .txt x=>by simp only [T.size]; omega
 | .tup ts=>by have:=tsizes_nn ts; simp only [T.size]; omega
theorem tsizes_nn:∀ ts:List T,0<=tsizes ts
 | []=>by simp [tsizes]
 | t :: r=>by have h1:=zeD t; have h2:=tsizes_nn r; simp only [tsizes]; omega
end
theorem zfi {ts:List T} (h:Sms ts):∀ t∈ts,t.Sm:=by
 induction ts with
 | nil=>intro t ht; cases ht
 | cons x r ih=>
  intro t ht
  rcases List.mem_cons.mp ht with rfl | ht
  ·exact h.1
  ·exact ih h.2 t ht
inductive RT (H:Hp):V->T->Prop where
 | non:RT H .non .non
 | bl (b:Bool):RT H (.bl b) (.bl b)
 | num (i:Int):RT H (.int i) (.num i)
 | txt (x:Str):RT H (.str x) (.txt x)
 | tup {a:Addr}{vs:List V}{ts:List T}:H a = some (.tup vs)->vs.length = ts.length->(∀ (i:Nat) (v:V) (t:T),vs[i]? = some v->ts[i]? = some t->RT H v t)->RT H (.ref a) (.tup ts)
 | lst {a:Addr}{vs:List V}:H a = some (.lst vs)->RT H (.ref a) .lst
 | dic {a:Addr}{kvs:List (Key × V)}:H a = some (.dK kvs)->RT H (.ref a) .dic
theorem RT.mono {H H':Hp} (s:Same H H') {v:V}{t:T} (h:RT H v t):RT H' v t:=by
 induction h with
 | non=>exact .non
 | bl b=>exact .bl b
 | num i=>exact .num i
 | txt x=>exact .txt x
 | tup e l _ ih=>exact .tup (s _ _ e) l ih
 | lst e=>exact .lst (s _ _ e)
 | dic e=>exact .dic (s _ _ e)
def zlY:T->Bool
 | .num _=>true
 | _=>false
def zfj:Sp:=fun vs H Q _=>∃ (v:V) (t:T),vs = [v]/\RT H v t/\Q (.bl (zlY t)) H
def zdx:Sp:=fun vs H Q _=>∃ c:Nat,vs = [.str ⟨#[c]⟩]/\Q (.bl (zbW c)) H
def zhV:Sp:=fun vs H Q _=>∃ (v:V) (t:T) (lv:Int),vs = [v,.int lv]/\RT H v t/\t.Sm/\∀ H',Same H H'->Q (.bl (zdi lv t)) H'
def ZN:T->Int
 | .txt x=>1 + (x.length:Int)
 | _=>1
def zfk:Sp:=fun vs H Q _=>∃ (v:V) (t:T),vs = [v]/\RT H v t/\t.Sm/\Q (.int (ZN t)) H
def zbE:Sp:=fun vs H Q _=>∃ (v:V) (t:T),vs = [v]/\RT H v t/\t.Sm/\∀ H',Same H H'->Q (.bl (zQ t)) H'
theorem zka (a b:Nat):decide (([a]:List Nat) < [b]) = decide (a < b):=by
 rw [Bool.eq_iff_iff,decide_eq_true_iff,decide_eq_true_iff]
 constructor
 ·intro h
  rcases List.cons_lt_cons_iff.mp h with h | ⟨_,h⟩
  ·exact h
  ·exact absurd h (List.not_lt_nil _)
 ·exact fun h=>List.cons_lt_cons_iff.mpr (.inl h)
theorem zje:FnScope ["thing"] ["thing"] (zh zaD):=⟨rfl,rfl,rfl,by decide +kernel,rfl,by decide +kernel,by decide +kernel⟩
theorem zjf (F:Fun K "is_number" "is_number" zaD f fd) (m_isi:mg "isinstance" = none) (m_int:mg "int" = none) (m_bool:mg "bool" = none):FnOk P w K mg base CX0 (k + 1) f fd ["thing"] zfj:=by
 refine F.ok zje (fun vs H Q E h=>?_) (fun cdv A outer s H vs Q E hr h=>?_)
 ·obtain ⟨v,t,rfl,_⟩:=h
  rfl
 obtain ⟨v,t,rfl,rt,q⟩:=h
 refine ⟨_,(zf (zr (ZV (zl ZR rfl m_isi zU (za (pv 0) (za (zbh rfl m_int zeC) zb))) (Z0 (zly (zl ZR rfl m_isi zU (za (pv 0) (za (zbh rfl m_bool zgK) zb)))))))),?_⟩
 cases rt with
 | non=>exact ⟨_,rfl,_,_,_,_,rfl,.non,zlQ,_,rfl,iteF q⟩
 | bl b=>exact ⟨_,rfl,_,_,_,_,rfl,.bl b,zlP,_,rfl,iteT ⟨_,rfl,_,_,_,_,rfl,.bl b,zlU,_,rfl,q⟩⟩
 | num i=>exact ⟨_,rfl,_,_,_,_,rfl,.int i,zlN,_,rfl,iteT ⟨_,rfl,_,_,_,_,rfl,.int i,zlT,_,rfl,q⟩⟩
 | txt x=>exact ⟨_,rfl,_,_,_,_,rfl,.str x,zlO,_,rfl,iteF q⟩
 | tup e _ _=>exact ⟨_,rfl,_,_,_,_,rfl,.tup e,zlM,_,rfl,iteF q⟩
 | lst e=>exact ⟨_,rfl,_,_,_,_,rfl,.lst e,zlR,_,rfl,iteF q⟩
 | dic e=>exact ⟨_,rfl,_,_,_,_,rfl,.dK e,zlS,_,rfl,iteF q⟩
theorem zhW:FnScope ["sign"] ["sign"] (zh zbw):=⟨rfl,rfl,rfl,by decide +kernel,rfl,by decide +kernel,by decide +kernel⟩
theorem zgM (c d:Nat):(!decide (V.str ⟨#[c]⟩ = V.str ⟨#[d]⟩)) = decide (c≠d):=by
 rw [Bool.eq_iff_iff]
 simp
theorem zhX (F:Fun K "is_sign" "is_sign" zbw f fd) (m_ord:mg "ord" = none) (m_PERCENT:∃ t,mg "PERCENT" = some (.int 37 t)):FnOk P w K mg base CX0 (k + 1) f fd ["sign"] zdx:=by
 refine F.ok zhW (fun vs H Q E h=>?_) (fun cdv A outer s H vs Q E hr h=>?_)
 ·obtain ⟨c,rfl,_⟩:=h
  rfl
 obtain ⟨c,rfl,q⟩:=h
 refine ⟨_,(zf (zr (ZV (zbp zev zev zi (pv 0) zi) (ZV (zP ziN (pv 0) zi (nomark _)) (Z0 (zP ziN (zl (ziQ) rfl m_ord zhP (za (pv 0) zb)) (Zp rfl m_PERCENT) (nomark _))))))),?_⟩
 have e32:(Str.ofString " ").cps.toList = [32]:=by decide +kernel
 have e126:(Str.ofString "~").cps.toList = [126]:=by decide +kernel
 have e34:Str.ofString "\"" = ⟨#[34]⟩:=by decide +kernel
 have l1:(!decide ((Str.mk #[c]).cps.toList < (Str.ofString " ").cps.toList)) = decide (32<=c):=by rw [e32]; show (!decide (([c]:List Nat) < [32])) = _; rw [zka,Bool.eq_iff_iff]; simp
 have l2:(!decide ((Str.ofString "~").cps.toList < (Str.mk #[c]).cps.toList)) = decide (c<=126):=by rw [e126]; show (!decide (([126]:List Nat) < [c])) = _; rw [zka,Bool.eq_iff_iff]; simp
 have l3:(!decide (V.str ⟨#[c]⟩ = V.str (Str.ofString "\""))) = decide (c≠34):=by rw [e34]; exact zgM c 34
 have l4:(!decide (V.int ((((Str.mk #[c]).cps.getD 0 0:Nat)):Int) = V.int 37)) = decide (c≠37):=by
  show (!decide (V.int (c:Int) = V.int 37)) = decide (c≠37)
  rw [Bool.eq_iff_iff]
  simp
  omega
 refine ⟨_,rfl,_,_,rfl,rfl,_,rfl,?_⟩
 have fin:∀ b:Bool,zbW c = b->Q (.bl b) H:=fun b e=>by rw [← e]; exact q
 refine ite2 (fun e=>?_) (fun e=>?_)
 ·have e1:decide (32<=c) = true:=by rw [← l1]; exact e
  refine ⟨_,_,rfl,rfl,_,rfl,?_⟩
  refine ite2 (fun e=>?_) (fun e=>?_)
  ·have e2:decide (c<=126) = true:=by rw [← l2]; exact e
   refine ⟨_,rfl,rfl,_,rfl,?_⟩
   refine ite2 (fun e=>?_) (fun e=>?_)
   ·have e3:decide (c≠34) = true:=by rw [← l3]; exact e
    refine ⟨_,rfl,_,rfl,rfl,rfl,fin _ ?_⟩
    rw [l4]
    unfold zbW
    rw [e1,e2,e3]
    rfl
   ·have e3:decide (c≠34) = false:=by rw [← l3]; exact Bool.eq_false_iff.mpr e
    refine fin _ ?_
    unfold zbW
    rw [e1,e2,e3]
    rfl
  ·have e2:decide (c<=126) = false:=by rw [← l2]; exact Bool.eq_false_iff.mpr e
   refine fin _ ?_
   unfold zbW
   rw [e1,e2]
   rfl
 ·have e1:decide (32<=c) = false:=by rw [← l1]; exact Bool.eq_false_iff.mpr e
  refine ⟨_,rfl,iteF (fin _ ?_)⟩
  unfold zbW
  rw [e1]
  rfl
theorem zkP:FnScope ["thing","levels"] ["thing","levels"] (zh zai):=⟨rfl,rfl,rfl,by decide +kernel,rfl,by decide +kernel,by decide +kernel⟩
theorem all_map {α:Type} (p:α->Bool) (l:List α):(l.map p).all id = l.all p:=by rw [List.all_map]; rfl
theorem zkQ (F:Fun K "fits_alone" "fits_alone" zai f fd) (G_is_number:Have P w K mg base "is_number" k ["thing"] zfj) (G_is_sign:Have P w K mg base "is_sign" k ["sign"] zdx)
  (m_isi:mg "isinstance" = none) (m_str:mg "str" = none) (m_tuple:mg "tuple" = none) (m_len:mg "len" = none) (m_all:mg "all" = none) (m_abs:mg "abs" = none) (m_MOST_SIGNS:∃ t,mg "MOST_SIGNS_worths" = some (.int 400 t)) (m_MOST_ITEMS:∃ t,mg "MOST_ITEMS" = some (.int 60 t)):
  FnOk P w K mg base CX0 (k + 1) f fd ["thing","levels"] zhV:=by
 refine F.ok zkP (fun vs H Q E h=>?_) (fun cdv A outer s H vs Q E hr h=>?_)
 ·obtain ⟨v,t,lv,rfl,_⟩:=h
  rfl
 obtain ⟨v,t,lv,rfl,rt,sm,q⟩:=h
 refine ⟨_,(zd (zG (Zm (zu G_is_number hr rfl (za (pv 0) zb))) (zf (zr (zP zgA (zl (ziP) rfl m_abs zhQ (za (pv 0) zb)) (zw zbo ze ze) (nomark _)))) zo)
  (zd (zG (Zm (zl ZR rfl m_isi zU (za (pv 0) (za (zbh rfl m_str zaQ) zb)))) (zf (zr (ZV (zP zd9 (zl zD rfl m_len PySem.boot_len (za (pv 0) zb)) (Zp rfl m_MOST_SIGNS) (nomark _)) (Z0 (zl (ZS rfl) rfl m_all zbv (za (Zy [] [] rfl rfl (by decide +kernel) rfl (by decide +kernel) rfl (by decide +kernel) trivial rfl trivial (zeu (pv 0)) (fun C s H fp=>⟨Zx,(zu G_is_sign hr rfl (za (pv 0) zb))⟩)) zb)))))) zo)
  (zf (zr (ZV (zl ZR rfl m_isi zU (za (pv 0) (za (zbh rfl m_tuple zaC) zb))) (ZV (zP zd9 (zl zD rfl m_len PySem.boot_len (za (pv 0) zb)) (Zp rfl m_MOST_ITEMS) (nomark _)) (Z0 (zP zea (pv 1) ze (nomark _))))))))),?_⟩
 have q0:∀ b:Bool,zdi lv t = b->Q (.bl b) H:=fun b e=>by rw [← e]; exact q H (Same.refl H)
 refine ⟨_,rfl,v,t,rfl,rt,_,rfl,?_⟩
 cases rt with
 | non=>exact iteF ⟨_,rfl,_,_,_,_,rfl,.non,zez,_,rfl,iteF ⟨_,rfl,_,_,_,_,rfl,.non,zhM,_,rfl,iteF (q0 _ rfl)⟩⟩
 | bl b=>exact iteF ⟨_,rfl,_,_,_,_,rfl,.bl b,zey,_,rfl,iteF ⟨_,rfl,_,_,_,_,rfl,.bl b,zhL,_,rfl,iteF (q0 _ rfl)⟩⟩
 | lst e=>exact iteF ⟨_,rfl,_,_,_,_,rfl,.lst e,zeA,_,rfl,iteF ⟨_,rfl,_,_,_,_,rfl,.lst e,zhN,_,rfl,iteF (q0 _ rfl)⟩⟩
 | dic e=>exact iteF ⟨_,rfl,_,_,_,_,rfl,.dK e,zeB,_,rfl,iteF ⟨_,rfl,_,_,_,_,rfl,.dK e,zhO,_,rfl,iteF (q0 _ rfl)⟩⟩
 | num i=>
  refine iteT ⟨_,rfl,i,rfl,_,_,rfl,rfl,⟨by decide,by decide,by decide⟩,_,_,rfl,rfl,q0 _ ?_⟩
  show decide (-(10 ^ 60) < i/\i < 10 ^ 60) = decide ((if i < 0 then -i else i) < 10 ^ (60:Int).toNat)
  have e:(10:Int) ^ (60:Int).toNat = 10 ^ 60:=rfl
  rw [e,Bool.eq_iff_iff,decide_eq_true_iff,decide_eq_true_iff]
  constructor
  ·intro h
   split <;> omega
  ·split <;> intro h <;> omega
 | txt x=>
  refine iteF ⟨_,rfl,_,_,_,_,rfl,.str x,zex,_,rfl,iteT ?_⟩
  have hx:x.length<=100000:=sm
  refine ⟨_,rfl,_,_,rfl,⟨small (by omega),rfl⟩,_,_,rfl,rfl,_,rfl,?_⟩
  refine ite2 (fun e=>?_) (fun e=>?_)
  ·have e1:(x.length:Int)<=400:=of_decide_eq_true e
   dsimp only [tRet,tOp,tC,tCB,Zq,tNil]
   have hsz:x.cps.size = x.length:=rfl
   refine zff (x.cps.toList.map fun c=>V.bl (zbW c)) (by rfl) (by rw [List.length_map]; simp) (by rw [hsz]; exact small (by omega)) (fun i c y H1 R hc hy s1 hR=>?_) (fun H1 D s1 hD=>?_)
   ·have hc':x.cps.toList[i]? = some c:=by simpa using hc
    rw [List.getElem?_map,hc'] at hy
    cases hy
    exact ⟨_,rfl,c,rfl,hR _ (Same.refl _)⟩
   ·refine ⟨D,x.cps.toList.map zbW,rfl,SqL.of ?_,?_⟩
    ·rw [zc,List.map_map]; rfl
    ·have:=q _ (s1.trans (Same.new (o:=.lst (x.cps.toList.map fun c=>V.bl (zbW c))) hD))
     rw [all_map]
     have e3:zdi lv (.txt x) = x.cps.toList.all zbW:=by
      show (decide (x.length<=400) && zao x) = _
      rw [decide_eq_true (by omega)]
      rfl
     rw [← e3]
     exact this
  ·have e1:¬ (x.length:Int)<=400:=of_decide_eq_false (Bool.eq_false_iff.mpr e)
   refine q0 _ ?_
   show (decide (x.length<=400) && zao x) = _
   rw [decide_eq_false (by omega)]
   rfl
 | @tup a vs ts e l _=>
  refine iteF ⟨_,rfl,_,_,_,_,rfl,.tup e,zew,_,rfl,iteF ?_⟩
  refine ⟨_,rfl,_,_,_,_,rfl,.tup e,zhK,_,rfl,iteT ?_⟩
  refine ⟨_,rfl,_,_,rfl,.inr ⟨_,SqT.of e,rfl⟩,_,_,rfl,rfl,_,rfl,?_⟩
  refine ite2 (fun c=>?_) (fun c=>?_)
  ·have c1:(vs.length:Int)<=60:=of_decide_eq_true c
   refine ⟨_,rfl,_,_,rfl,rfl,q0 _ ?_⟩
   show (decide (ts.length<=60) && decide (0 < lv)) = _
   rw [decide_eq_true (by omega),Bool.true_and]
  ·have c1:¬ (vs.length:Int)<=60:=of_decide_eq_false (Bool.eq_false_iff.mpr c)
   refine q0 _ ?_
   show (decide (ts.length<=60) && decide (0 < lv)) = _
   rw [decide_eq_false (by omega),Bool.false_and]
theorem zjg:FnScope ["worth"] ["worth"] (zh zfZ):=⟨rfl,rfl,rfl,by decide +kernel,rfl,by decide +kernel,by decide +kernel⟩
theorem zjh (F:Fun K "size_alone" "size_alone" zfZ f fd) (m_isi:mg "isinstance" = none) (m_str:mg "str" = none) (m_len:mg "len" = none):FnOk P w K mg base CX0 (k + 1) f fd ["worth"] zfk:=by
 refine F.ok zjg (fun vs H Q E h=>?_) (fun cdv A outer s H vs Q E hr h=>?_)
 ·obtain ⟨v,x,rfl,_⟩:=h
  rfl
 obtain ⟨v,t,rfl,rt,sm,q⟩:=h
 refine ⟨_,zf (zr (za0 (Zm (zl ZR rfl m_isi zU (za (pv 0) (za (zbh rfl m_str zaQ) zb)))) (zw Zi ze (zl zD rfl m_len PySem.boot_len (za (pv 0) zb))) ze)),?_⟩
 cases rt with
 | non=>exact ⟨_,rfl,_,_,_,_,rfl,.non,zez,_,rfl,iteF q⟩
 | bl b=>exact ⟨_,rfl,_,_,_,_,rfl,.bl b,zey,_,rfl,iteF q⟩
 | num i=>exact ⟨_,rfl,_,_,_,_,rfl,.int i,zfY,_,rfl,iteF q⟩
 | lst e=>exact ⟨_,rfl,_,_,_,_,rfl,.lst e,zeA,_,rfl,iteF q⟩
 | dic e=>exact ⟨_,rfl,_,_,_,_,rfl,.dK e,zeB,_,rfl,iteF q⟩
 | tup e _ _=>exact ⟨_,rfl,_,_,_,_,rfl,.tup e,zew,_,rfl,iteF q⟩
 | txt x=>
  have hx:x.length<=100000:=sm
  refine ⟨_,rfl,_,_,_,_,rfl,.str x,zex,_,rfl,iteT ?_⟩
  exact ⟨_,rfl,_,_,rfl,⟨small (by omega),rfl⟩,_,_,rfl,rfl,q⟩
structure StR (H0 H:Hp) (vs:List V) (ps:List (T × Int)):Prop where
 len:vs.length = ps.length
 at':∀ (i:Nat) (v:V) (p:T × Int),vs[i]? = some v->ps[i]? = some p->∃ (a:Addr) (u:V),v = .ref a/\H a = some (.tup [u,.int p.2])/\RT H0 u p.1
theorem StR.mono {H0 H H':Hp} (s:Tups H H') {vs:List V}{ps:List (T × Int)} (h:StR H0 H vs ps):StR H0 H' vs ps:=
 ⟨h.len,fun i v p e1 e2=>let ⟨a,u,x,y,z⟩:=h.at' i v p e1 e2; ⟨a,u,x,s _ _ y,z⟩⟩
theorem StR.nil {H0 H:Hp}:StR H0 H [] []:=⟨rfl,fun i v p e=>by simp at e⟩
theorem StR.app {H0 H:Hp}{vs us:List V}{ps qs:List (T × Int)} (h:StR H0 H vs ps) (g:StR H0 H us qs):StR H0 H (vs ++ us) (ps ++ qs):=by
 refine ⟨by rw [List.length_append,List.length_append,h.len,g.len],fun i v p e1 e2=>?_⟩
 by_cases hi:i < vs.length
 ·rw [List.getElem?_append_left hi] at e1
  rw [List.getElem?_append_left (h.len ▸ hi)] at e2
  exact h.at' i v p e1 e2
 ·rw [List.getElem?_append_right (by omega)] at e1
  rw [List.getElem?_append_right (by have:=h.len; omega)] at e2
  rw [h.len] at e1
  exact g.at' _ v p e1 e2
theorem StR.one {H0 H:Hp}{a:Addr}{u:V}{p:T × Int} (e:H a = some (.tup [u,.int p.2])) (r:RT H0 u p.1):StR H0 H [.ref a] [p]:=by
 refine ⟨rfl,fun i v' p' e1 e2=>?_⟩
 cases i with
 | zero=>
  have q1:V.ref a = v':=by simpa using e1
  have q2:p = p':=by simpa using e2
  subst q1 q2
  exact ⟨a,u,rfl,e,r⟩
 | succ j=>simp at e1
theorem StR.front {H0 H:Hp}{vs:List V}{ps:List (T × Int)}{v:V}{p:T × Int} (h:StR H0 H (vs ++ [v]) (ps ++ [p])):StR H0 H vs ps/\∃ (a:Addr) (u:V),v = .ref a/\H a = some (.tup [u,.int p.2])/\RT H0 u p.1:=by
 have l:=h.len
 rw [List.length_append,List.length_append] at l
 have l':vs.length = ps.length:=by simpa using l
 refine ⟨⟨l',fun i v' p' e1 e2=>?_⟩,?_⟩
 ·have h1:=(List.getElem?_eq_some_iff.mp e1).1
  exact h.at' i v' p' (by rw [List.getElem?_append_left h1]; exact e1) (by rw [List.getElem?_append_left (l' ▸ h1)]; exact e2)
 ·exact h.at' vs.length v p (by rw [List.getElem?_append_right (Nat.le_refl _)]; simp) (by rw [l',List.getElem?_append_right (Nat.le_refl _)]; simp)
theorem ZF {H H':Hp} (s:Same H H'):Tups H H':=fun a vs e=>s a _ e
theorem zbF {H H1:Hp}{l:Addr}{o:HO} (s:Same H H1) (hl:H l = none):Same H (upd H1 l o):=fun c u e=>by rw [zg (zk e hl)]; exact s c u e
def szs:List (T × Int)->Int
 | []=>0
 | p :: r=>p.1.size + szs r
def nds:List (T × Int)->Nat
 | []=>0
 | p :: r=>p.1.nodes + nds r
def fts:List (T × Int)->Bool
 | []=>true
 | p :: r=>zaS p.1 p.2 && fts r
theorem zhY (a b:List (T × Int)):szs (a ++ b) = szs a + szs b:=by
 induction a with
 | nil=>simp [szs]
 | cons p r ih=>simp only [List.cons_append,szs,ih]; omega
theorem zdy (a b:List (T × Int)):nds (a ++ b) = nds a + nds b:=by
 induction a with
 | nil=>simp [nds]
 | cons p r ih=>simp only [List.cons_append,nds,ih]; omega
theorem zhZ (a b:List (T × Int)):fts (a ++ b) = (fts a && fts b):=by
 induction a with
 | nil=>simp [fts]
 | cons p r ih=>simp only [List.cons_append,fts,ih,Bool.and_assoc]
theorem zkb:∀ ps:List (T × Int),0<=szs ps
 | []=>by simp [szs]
 | p :: r=>by have h1:=zeD p.1; have h2:=zkb r; simp only [szs]; omega
theorem zkR (ts:List T) (lv:Int):szs (ts.map fun t=>(t,lv)) = tsizes ts:=by
 induction ts with
 | nil=>rfl
 | cons t r ih=>simp only [List.map_cons,szs,tsizes,ih]
theorem zh0 (ts:List T) (lv:Int):nds (ts.map fun t=>(t,lv)) = tnodes ts:=by
 induction ts with
 | nil=>rfl
 | cons t r ih=>simp only [List.map_cons,nds,tnodes,ih]
theorem zkS (ts:List T) (lv:Int):fts (ts.map fun t=>(t,lv)) = fitsA ts lv:=by
 induction ts with
 | nil=>rfl
 | cons t r ih=>simp only [List.map_cons,fts,fitsA,ih]
def valB (ps:List (T × Int)) (whole:Int):Bool:=fts ps && decide (whole + szs ps<=1000)
theorem zgN {t:T}{lv:Int} (h:zdi lv t = false):zaS t lv = false:=by
 cases t with
 | tup ts=>
  have h:(decide (ts.length<=60) && decide (0 < lv)) = false:=h
  simp only [zaS,h,Bool.false_and]
 | num i=>exact h
 | txt x=>exact h
 | non=>rfl
 | bl b=>rfl
 | lst=>rfl
 | dic=>rfl
theorem zgO {t:T}{lv:Int} (h:zdi lv t = true) (hn:∀ ts,t≠.tup ts):zaS t lv = true/\t.size = ZN t:=by
 cases t with
 | tup ts=>exact absurd rfl (hn ts)
 | num i=>exact ⟨h,rfl⟩
 | txt x=>exact ⟨h,rfl⟩
 | non=>cases h
 | bl b=>cases h
 | lst=>cases h
 | dic=>cases h
theorem zgP (t:T):ZN t<=t.size/\1<=ZN t:=by
 cases t with
 | tup ts=>have:=tsizes_nn ts; simp only [ZN,T.size]; omega
 | txt x=>simp only [ZN,T.size]; omega
 | _=>simp [ZN,T.size]
theorem ZO:FnScope ["thing","waiting","whole","pair","item","levels"] ["thing"] (zh za1):=⟨rfl,rfl,rfl,by decide +kernel,rfl,by decide +kernel,by decide +kernel⟩
theorem zgQ (F:Fun K "is_worth" "is_worth" za1 f fd) (G_fits_alone:Have P w K mg base "fits_alone" k ["thing","levels"] zhV) (G_size_alone:Have P w K mg base "size_alone" k ["worth"] zfk)
  (m_isi:mg "isinstance" = none) (m_tuple:mg "tuple" = none) (m_len:mg "len" = none) (m_MOST_DEPTH:∃ t,mg "MOST_DEPTH" = some (.int 12 t)) (m_MOST_SIZE:∃ t,mg "MOST_SIZE" = some (.int 1000 t)):
  FnOk P w K mg base CX0 (k + 1) f fd ["thing"] zbE:=by
 refine F.ok ZO (fun vs H Q E h=>?_) (fun cdv A outer s H vs Q E hr h=>?_)
 ·obtain ⟨v,t,rfl,_⟩:=h
  rfl
 obtain ⟨v,t,rfl,rt,sm,q⟩:=h
 refine ⟨_,(zd (zn (i:=1) ZO.nd rfl (Or.inl rfl) (zL (za (zt (za (pv 0) (za (Zp rfl m_MOST_DEPTH) zb))) zb)))
  (zd (zn (i:=2) ZO.nd rfl (Or.inl rfl) ze)
  (zd (zbl PassesOwn.never (zm zea (zl zD rfl m_len PySem.boot_len (za (pv 1) zb)) ze (nomark _)) (zd (zn (i:=3) ZO.nd rfl (Or.inl rfl) (zdg PySem.F.plainAttrs_list PySem.F.slot_list_pop PySem.F.type_list_pop zj7 (pv 1)))
  (zd (zn (i:=4) ZO.nd rfl (Or.inl rfl) (zx zy (pv 3) ze (fun _ _=>rfl)))
  (zd (zn (i:=5) ZO.nd rfl (Or.inr rfl) (zx zy (pv 3) ze (fun _ _=>rfl)))
  (zd (zG (ZH (Zm (zu G_fits_alone hr rfl (za (pv 4) (za (pv 5) zb))))) (zf (zr zan)) zo)
  (zd (zd8 (i:=2) ZO.nd rfl (Or.inl rfl) (zu G_size_alone hr rfl (za (pv 4) zb)) (zlL zhi))
  (zd (zG (zm zea (pv 2) (Zp rfl m_MOST_SIZE) (nomark _)) (zf (zr zan)) zo)
  (zf (zG (Zm (zl ZR rfl m_isi zU (za (pv 4) (za (zbh rfl m_tuple zaC) zb)))) (zf (zq (zav PySem.F.plainAttrs_list PySem.F.slot_list_extend PySem.F.type_list_extend zcF (pv 1) (za (Zy [5] ["levels"] rfl rfl (by decide +kernel) rfl (by decide +kernel) rfl (by decide +kernel) ⟨rfl,trivial⟩ rfl ⟨⟨rfl,rfl,Or.inr (Or.inl rfl),(by show (some NameKind.cell:Option NameKind)≠some .local; decide),⟨_,rfl⟩⟩,trivial⟩ (zfS (pv 4)) (fun C s H fp=>⟨Zx,(zt (za (pv 0) (za (zw Z2 (pv 1) ze) zb)))⟩)) zb)))) zo)))))))))
  (zf (zr zan))))),?_⟩
 refine ⟨_,rfl,zl2,fun a ha=>?_⟩
 refine ⟨zl1,fun l hl=>?_⟩
 have s1:Same H (upd (upd H a (.tup [v,.int 12])) l (.lst [.ref a])):=(Same.new ha).trans (Same.new hl)
 have hlH:H l = none:=by
  cases e:H l with
  | none=>rfl
  | some o=>have:=Same.new (o:=.tup [v,.int 12]) ha l o e; rw [hl] at this; cases this
 have ea:upd (upd H a (.tup [v,.int 12])) l (.lst [.ref a]) a = some (.tup [v,.int 12]):=by rw [zg (zk zc hl)]; exact zc
 have st0:StR H (upd (upd H a (.tup [v,.int 12])) l (.lst [.ref a])) [.ref a] [(t,12)]:=StR.one (p:=(t,12)) ea rt
 refine ⟨fun m σ' H'=>∃ (vs:List V) (ps:List (T × Int)) (whole:Int) (o3 o4 o5:Option V),σ' = [some v,some (.ref l),some (.int whole),o3,o4,o5]/\H' l = some (.lst vs)/\StR H H' vs ps/\m = nds ps/\0<=whole/\whole<=1000 /\
   (vs.length:Int)<=60 * whole + 1/\(∀ p∈ps,p.1.Sm)/\valB ps whole = zQ t/\Same H H',
  ⟨_,[.ref a],[(t,12)],0,none,none,none,rfl,zc,st0,rfl,Int.le_refl _,by decide,by simp,fun p hp=>by rw [List.mem_singleton.mp hp]; exact sm,?_,s1⟩,fun m σ' H' hW=>?_⟩
 ·unfold valB zQ
  simp only [fts,szs,Bool.and_true]
  congr 2
  rw [eq_iff_iff]
  constructor <;> intro h <;> omega
 obtain ⟨vs,ps,whole,o3,o4,o5,rfl,hlv,hst,hm,hw0,hw1,hvl,hsm,hval,sH⟩:=hW
 refine ⟨_,rfl,_,_,rfl,.inl ⟨_,SqL.of hlv,rfl⟩,_,_,rfl,rfl,_,rfl,?_⟩
 refine ite2 (fun c=>?_) (fun c=>?_)
 ·have c1:(0:Int) < vs.length:=of_decide_eq_true c
  refine ⟨_,fun _ _ h=>h,?_⟩
  rcases List.eq_nil_or_concat vs with rfl | ⟨vs',vl,e⟩
  ·simp at c1
  rw [List.concat_eq_append] at e
  subst e
  rcases List.eq_nil_or_concat ps with rfl | ⟨ps',p,e⟩
  ·have:=hst.len; simp at this
  rw [List.concat_eq_append] at e
  subst e
  obtain ⟨hst',ap,u,rfl,hap,rtu⟩:=hst.front
  have ed:(vs' ++ [V.ref ap]).dropLast = vs':=List.dropLast_concat
  have smp:p.1.Sm:=hsm p (by simp)
  refine ⟨_,rfl,.inl ⟨rfl,_,SqL.of hlv⟩,l,_,.ref ap,rfl,rfl,hlv,by simp,?_⟩
  rw [ed]
  have sH1:Same H (upd H' l (.lst vs')):=zbF sH hlH
  have hap1:upd H' l (.lst vs') ap = some (.tup [u,.int p.2]):=zak hlv _ _ hap
  refine ⟨_,rfl,ap,_,0,u,rfl,rfl,SqT.of hap1,rfl,?_⟩
  refine ⟨_,rfl,ap,_,1,.int p.2,rfl,rfl,SqT.of hap1,rfl,?_⟩
  refine ⟨_,rfl,_,rfl,u,p.1,p.2,rfl,rtu.mono sH1,smp,fun H2 s2=>⟨_,rfl,?_⟩⟩
  have vb:valB (ps' ++ [p]) whole = ((fts ps' && zaS p.1 p.2) && decide (whole + (szs ps' + p.1.size)<=1000)):=by
   unfold valB
   rw [zhZ,zhY]
   simp only [fts,szs,Bool.and_true]
   congr 2
   rw [eq_iff_iff]
   constructor <;> intro h <;> omega
  have hsn:=zkb ps'
  have hal:=zgP p.1
  have sH2:=sH1.trans s2
  cases hal1:zdi p.2 p.1 with
  | false=>
   refine iteT ?_
   have:zQ t = false:=by
    rw [← hval,vb,zgN hal1]
    simp
   have fin:=q _ sH2
   rw [this] at fin
   exact fin
  | true=>
   refine iteF ?_
   refine ⟨_,rfl,_,rfl,u,p.1,rfl,rtu.mono sH2,smp,_,_,rfl,rfl,?_⟩
   refine ⟨_,rfl,_,_,rfl,rfl,_,rfl,?_⟩
   refine ite2 (fun c2=>?_) (fun c2=>?_)
   ·have c3:(1000:Int) < whole + ZN p.1:=of_decide_eq_true c2
    have:zQ t = false:=by
     rw [← hval,vb,decide_eq_false (by omega)]
     simp
    have fin:=q _ sH2
    rw [this] at fin
    exact fin
   ·have c3:¬ (1000:Int) < whole + ZN p.1:=of_decide_eq_false (Bool.eq_false_iff.mpr c2)
    have hl2:H2 l = some (.lst vs'):=s2 _ _ zc
    have hst2:StR H H2 vs' ps':=(hst'.mono (zak hlv)).mono (ZF s2)
    have hvl':((vs'.length:Nat):Int) + 1<=60 * whole + 1:=by
     rw [List.length_append] at hvl
     have:([V.ref ap]:List V).length = 1:=rfl
     omega
    have hnd:nds (ps' ++ [p]) = nds ps' + p.1.nodes:=by rw [zdy]; simp [nds]
    have hsm':∀ p'∈ps',p'.1.Sm:=fun p' hp'=>hsm p' (List.mem_append_left _ hp')
    have leaf:∀ (t':T),p.1 = t'->(∀ ts,t'≠.tup ts)->p.1.nodes = 1->∃ m',m' < m/\∃ (vs:List V) (ps:List (T × Int)) (whole':Int) (o3 o4 o5:Option V),[some v,some (.ref l),some (.int (whole + ZN p.1)),some (.ref ap),some u,some (.int p.2)] = [some v,some (.ref l),some (.int whole'),o3,o4,o5]/\H2 l = some (.lst vs)/\StR H H2 vs ps/\m' = nds ps/\0<=whole'/\whole'<=1000 /\
      (vs.length:Int)<=60 * whole' + 1/\(∀ p∈ps,p.1.Sm)/\valB ps whole' = zQ t/\Same H H2:=fun t' e hn hnode=>by
     obtain ⟨hf,hz⟩:=zgO hal1 (by rw [e]; exact hn)
     refine ⟨nds ps',by omega,vs',ps',whole + ZN p.1,_,_,_,rfl,hl2,hst2,rfl,by omega,by omega,by omega,hsm',?_,sH2⟩
     rw [← hval,vb,hf,hz]
     unfold valB
     rw [Bool.and_true]
     congr 2
     rw [eq_iff_iff]
     constructor <;> intro h <;> omega
    obtain ⟨tt,lv⟩:=p
    have rt2:RT H2 u tt:=rtu.mono sH2
    cases rt2 with
    | non=>exact ⟨_,rfl,_,_,_,_,rfl,.non,zhM,_,rfl,iteF (leaf _ rfl (fun _ z=>nomatch z) rfl)⟩
    | bl b=>exact ⟨_,rfl,_,_,_,_,rfl,.bl b,zhL,_,rfl,iteF (leaf _ rfl (fun _ z=>nomatch z) rfl)⟩
    | num i=>exact ⟨_,rfl,_,_,_,_,rfl,.int i,zj8,_,rfl,iteF (leaf _ rfl (fun _ z=>nomatch z) rfl)⟩
    | txt x=>exact ⟨_,rfl,_,_,_,_,rfl,.str x,zj9,_,rfl,iteF (leaf _ rfl (fun _ z=>nomatch z) rfl)⟩
    | lst e=>exact ⟨_,rfl,_,_,_,_,rfl,.lst e,zhN,_,rfl,iteF (leaf _ rfl (fun _ z=>nomatch z) rfl)⟩
    | dic e=>exact ⟨_,rfl,_,_,_,_,rfl,.dK e,zhO,_,rfl,iteF (leaf _ rfl (fun _ z=>nomatch z) rfl)⟩
    | @tup a2 us ts e2 l2 at2=>
     refine ⟨_,rfl,_,_,_,_,rfl,.tup e2,zhK,_,rfl,iteT ?_⟩
     have ha60:ts.length<=60:=by
      have h:(decide (ts.length<=60) && decide (0 < lv)) = true:=hal1
      rw [Bool.and_eq_true] at h
      exact of_decide_eq_true h.1
     have hlv0:0 < lv:=by
      have h:(decide (ts.length<=60) && decide (0 < lv)) = true:=hal1
      rw [Bool.and_eq_true] at h
      exact of_decide_eq_true h.2
     refine ⟨_,rfl,.inl ⟨rfl,_,SqL.of hl2⟩,?_⟩
     have at0:∀ (i:Nat) (x:V) (t':T),us[i]? = some x->ts[i]? = some t'->RT H x t':=by
      cases rtu with
      | @tup a3 us3 ts3 e3 l3 at3=>
       have:us3 = us:=by
        have h1:=sH2 _ _ e3
        rw [e2] at h1
        cases h1
        rfl
       subst this
       exact at3
     dsimp only [Zq,tNil]
     refine ⟨_,rfl,a2,rfl,⟨us,SqT.of e2⟩,fun i m2 xs H3=>i<=us.length/\m2 = us.length - i/\StR H H3 xs ((ts.take i).map fun t'=>(t',lv - 1))/\Same H2 H3,⟨_,Nat.zero_le _,rfl,by simpa using StR.nil,Same.refl _⟩,fun i m2 xs H3 hW=>?_⟩
     obtain ⟨hi,hm2,hxs,s3⟩:=hW
     have hxl:xs.length<=60:=by
      have:=hxs.len
      rw [List.length_map,List.length_take] at this
      omega
     refine ⟨small (by omega),?_⟩
     have e3:=s3 _ _ e2
     by_cases hlt:i < us.length
     ·refine .inr ⟨⟨us,us[i],SqT.of e3,List.getElem?_eq_getElem hlt⟩,fun y H4 hy=>?_⟩
      obtain ⟨rfl,hy⟩:=hy
      have hy:=hy us (SqT.of e3)
      have hti:ts[i]? = some ts[i]:=List.getElem?_eq_getElem (by omega)
      refine iteT ?_
      refine ⟨_,rfl,_,rfl,_,_,rfl,rfl,zl2,fun a5 ha5=>?_⟩
      have s5:=Same.new (o:=.tup [y,.int (lv - 1)]) ha5
      refine ⟨us.length - (i + 1),by omega,by omega,rfl,?_,s3.trans s5⟩
      rw [zaw hti,List.map_append]
      exact (hxs.mono (ZF s5)).app (StR.one (p:=(ts[i],lv - 1)) zc (at0 i y ts[i] hy hti))
     ·have ei:i = us.length:=by omega
      refine .inl ⟨⟨us,SqT.of e3,by omega⟩,fun D hD=>?_⟩
      have et:ts.take i = ts:=List.take_of_length_le (by omega)
      rw [et] at hxs
      have hl3:=s3 _ _ hl2
      have hl4:upd H3 D (.lst xs) l = some (.lst vs'):=by rw [zg (zk hl3 hD)]; exact hl3
      refine ⟨l,D,vs',xs,rfl,rfl,hl4,zc,?_,?_⟩
      ·have h60:vs'.length<=60001:=by omega
       exact small (by omega)
      ·have s4:=Same.new (o:=.lst xs) hD
       have t5:=zak (o:=.lst (vs' ++ xs)) hl4
       refine ⟨nds ps' + tnodes ts,?_,vs' ++ xs,ps' ++ ts.map (fun t'=>(t',lv - 1)),whole + 1,_,_,_,rfl,zc,?_,?_,by omega,?_,?_,?_,?_,?_⟩
       ·have:(T.tup ts).nodes = 1 + tnodes ts:=rfl
        have h9:nds (ps' ++ [(T.tup ts,lv)]) = nds ps' + (T.tup ts).nodes:=hnd
        omega
       ·exact ((((hst2.mono (ZF s3)).mono (ZF s4)).mono t5)).app ((hxs.mono (ZF s4)).mono t5)
       ·rw [zdy,zh0]
       ·have:ZN (T.tup ts) = 1:=rfl
        have c4:¬ (1000:Int) < whole + ZN (T.tup ts):=c3
        omega
       ·rw [List.length_append]
        omega
       ·intro p' hp'
        rcases List.mem_append.mp hp' with hp' | hp'
        ·exact hsm' p' hp'
        ·obtain ⟨t',ht',rfl⟩:=List.mem_map.mp hp'
         exact zfi (show Sms ts from (show ts.length<=100000/\Sms ts from smp).2) t' ht'
       ·rw [← hval,vb]
        unfold valB
        rw [zhZ,zkS,zhY,zkR]
        have f1:zaS (T.tup ts) lv = fitsA ts (lv - 1):=by
         show (decide (ts.length<=60) && decide (0 < lv) && fitsA ts (lv - 1)) = _
         rw [decide_eq_true ha60,decide_eq_true hlv0]
         rfl
        have f2:(T.tup ts).size = 1 + tsizes ts:=rfl
        show _ = ((fts ps' && zaS (T.tup ts) lv) && decide (whole + (szs ps' + (T.tup ts).size)<=1000))
        rw [f1,f2]
        congr 2
        rw [eq_iff_iff]
        constructor <;> intro h <;> omega
       ·exact zbF ((sH2.trans s3).trans s4) hlH
 ·have c1:¬ (0:Int) < vs.length:=of_decide_eq_false (Bool.eq_false_iff.mpr c)
  have hv0:vs = []:=List.length_eq_zero_iff.mp (by omega)
  have hp0:ps = []:=List.length_eq_zero_iff.mp (by rw [← hst.len,hv0]; rfl)
  have:zQ t = true:=by
   rw [← hval,hp0]
   unfold valB
   simp only [fts,szs,Bool.true_and]
   exact decide_eq_true (by omega)
  have fin:=q _ sH
  rw [this] at fin
  exact fin
end
end D
namespace L2
open PySem PySem.Spec PyProof.Rows PySem.Builtin
theorem zbX:fillsNumberSlot (.type "tuple") "mul" = pure false:=
 PySem.fillsNumberSlot_seq (id:="tuple.__mul__") (r:=some (.builtin "tuple.__rmul__")) PySem.F.slot_tuple_mul.lookup (by decide +kernel) PySem.F.slot_tuple_rmul.lookup (by decide +kernel)
theorem zdz:seqRepeat? (.type "tuple") = pure (some (.builtin "tuple.__mul__")):=by
 unfold seqRepeat?
 rw [PySem.seqSlot_of (T:="tuple") (name:="__mul__") (id:="tuple.__mul__") PySem.F.slot_tuple_mul.lookup (by decide +kernel),PySem.seqSlot_of (T:="tuple") (name:="__rmul__") (id:="tuple.__rmul__") PySem.F.slot_tuple_rmul.lookup (by decide +kernel)]
 rfl
theorem zc3 (a:Int) (t:Tok) (l:Addr) (dd:Option Addr) (sl:Array (Option Value)) (items:Array Value) (n:Nat):
  Meets (Builtin.«int.__rmul__» ⟨[.int a t,.ref l],[]⟩) (fun _ R s=>s.heap.get? l = some { cls:=.type "tuple",dict:=dd,data:=.seq items n,slots:=sl }/\R (.ok (.ret Value.notImplemented)) s):=
 .of_wp fun prog w A R s h=>by obtain ⟨hp,g,d,tk,os⟩:=s; obtain ⟨hl,h⟩:=h; wp_walk; exact ⟨_,rfl,h⟩
section
variable {prog:Program}{w:World}{A:Around}{E:Value->Shared->Prop}{s:Shared}
theorem zkT {t:Addr}{items:Array Value}{k:Int}{u:Tok}{Q:Value->Shared->Prop} (ht:IsTup s.heap t items) (h1:¬ (decide (k < -(2 ^ 63:Int)) || decide (k ≥ 2 ^ 63)) = true) (h2:¬ (items.isEmpty || k == 1) = true) (h3:¬ (decide (k<=0) || items.isEmpty) = true)
  (h4:¬ (items.size:Int) * k > (2 ^ 63 - 1) / 8) (h5:¬ Builtin.Tuple.tupleTooMany ((items.size:Int) * k) = true) (h6:sizeOk (.seq ((List.replicate k.toNat items).foldl (· ++ ·) #[])))
  (h:Q (.ref s.heap.objs.size) { s with heap:=s.heap.push { cls:=.type "tuple",data:=.seq ((List.replicate k.toNat items).foldl (· ++ ·) #[]) } }):wpAny (model prog w) A (binaryOp .Mult (.ref t) (.int k u)) Q E s:=by
 obtain ⟨⟨cls,dd,data,sl⟩,ho,hc,n,hd⟩:=id ht
 simp only at hc hd
 subst hc hd
 refine wpAny_binaryOp_repeat_ref (T:="tuple") (U:="int") (by decide) ht.typeIs (fun s'=>typeIs_int s' k u) zbX PySem.F.fills_int_mul PySem.F.slot_int_rmul zdz PySem.F.slot_int_index.lookup
  (call_meets PySem.F.slot_int_rmul (typeIs_int s k u) PySem.F.entry_int_rmul (PySem.F.args_int_rmul_2 _ _) (zc3 k u t dd sl items n) ⟨ho,rfl,ht.typeIs,?_⟩)
 refine wpAny_call_entry PySem.F.slot_tuple_mul ht.typeIs PySem.F.entry_tuple_mul ?_ (PySem.F.args_tuple_mul_2 _ _)
 show wpAny (model prog w) A.in1 (asIndex (.int k u) >>= _) _ _ s
 refine wpAny_bind (wpAny_pure ?_)
 show wpAny (model prog w) A.in1 (if (decide (k < -(2 ^ 63:Int)) || decide (k ≥ 2 ^ 63)) = true then _ else _) _ _ s
 rw [if_neg h1]
 refine wpAny_bind (tupleItemsOf_ ht ?_)
 show wpAny (model prog w) A.in1 (if (items.isEmpty || k == 1) = true then _ else _) _ _ s
 rw [if_neg h2]
 show wpAny (model prog w) A.in1 (if (decide (k<=0) || items.isEmpty) = true then _ else _) _ _ s
 rw [if_neg h3]
 show wpAny (model prog w) A.in1 (if (items.size:Int) * k > (2 ^ 63 - 1) / 8 then _ else _) _ _ s
 rw [if_neg h4]
 show wpAny (model prog w) A.in1 (if Builtin.Tuple.tupleTooMany ((items.size:Int) * k) = true then _ else _) _ _ s
 rw [if_neg h5]
 exact wpAny_bind (m:=Builtin.Tuple.tupleExact _) (wpAny_newObj_type (wpAny_pure ⟨_,rfl,h⟩) h6)
end
def zlZ (K:PySem.W.Frag):R2:=fun x y H Q=>∃ (a:Addr) (k:Int) (xs:List V),x = .ref a/\y = .int k/\SqT K H a xs/\xs≠[]/\1 < k/\k < 1000000/\xs.length * k.toNat<=1000000/\∀ p,H p = none->Q (.ref p) (upd H p (.tup (List.replicate k.toNat xs).flatten))
theorem Vals.repT {xs:List V}{us:List Value} (r:Vals xs us):∀ k:Nat,Vals (List.replicate k xs).flatten (List.replicate k us).flatten
 | 0=>.nil
 | k + 1=>by
  rw [List.replicate_succ,List.replicate_succ,List.flatten_cons,List.flatten_cons]
  exact r.append (Vals.repT r k)
theorem zh1 {X:Cx}:OpR X (binaryOp .Mult) (zlZ X.K):=by
 intro zp s σ H x y v u Q I rx ry h
 obtain ⟨a,k,xs,rfl,rfl,hx,hne,hk1,hk2,hz,q⟩:=h
 cases rx
 obtain ⟨t,rfl⟩:=ry
 obtain ⟨its,r,ht,_⟩:=I.tuple hx
 have hl:=r.length
 have hn:its≠[]:=fun z=>hne (List.length_eq_zero_iff.mp (by rw [hl,z]; rfl))
 have hem:its.toArray.isEmpty = false:=by simpa using hn
 have hnew:List.foldl (fun x1 x2=>x1 ++ x2) #[] (List.replicate k.toNat its.toArray) = (List.replicate k.toNat its).flatten.toArray:=by
  have:=zeo its k.toNat []
  rw [List.nil_append] at this
  exact this
 have hk3:((k.toNat:Nat):Int) = k:=by omega
 have hprod:(its.length:Int) * k<=1000000:=by
  rw [← hl,← hk3,← Int.natCast_mul]
  exact Int.ofNat_le.mpr hz
 have hszl:(List.replicate k.toNat xs).flatten.length<=sizeLine:=by
  rw [zkF,Nat.mul_comm]
  exact Nat.le_trans hz (by decide)
 refine zkT ht ?_ ?_ ?_ ?_ ?_ ?_ ?_
 ·have e1:decide (k < -(2 ^ 63:Int)) = false:=decide_eq_false (by omega)
  have e2:decide (k ≥ 2 ^ 63) = false:=decide_eq_false (by omega)
  rw [e1,e2]; decide
 ·rw [hem,Bool.false_or]
  intro z
  have:=eq_of_beq z
  omega
 ·rw [hem,Bool.or_false]
  intro z
  have:=of_decide_eq_true z
  omega
 ·rw [List.size_toArray]
  have:((2:Int) ^ 63 - 1) / 8 = 1152921504606846975:=by decide
  omega
 ·rw [List.size_toArray]
  intro z
  have z':(its.length:Int) * k > (sizeLine:Int):=of_decide_eq_true z
  have:(1000000:Int)<=(sizeLine:Int):=by decide
  omega
 ·rw [hnew]
  show (List.replicate k.toNat its).flatten.toArray.size<=sizeLine
  rw [List.size_toArray,← (Vals.repT r k.toNat).length]
  exact hszl
 ·rw [hnew]
  refine ⟨.ref s.heap.objs.size,_,I.laid (t':=s.toks) (o:=.tup (List.replicate k.toNat xs).flatten) (fun b ob q=>Heap.get?_push_of_some _ q) (Nat.le_refl _) ?_,rfl,q _ (I.hok.fresh (Nat.le_refl _))⟩
  exact ⟨hszl,_,Vals.repT r k.toNat,IsTup.new _ _⟩
theorem zji {X:Cx}:OpR X (binaryOp .Add) (fun x y H Q=>∃ (a b:Addr) (ys:List V),x = .ref a/\y = .ref b/\SqT X.K H a []/\SqT X.K H b ys/\Q (.ref b) H):=by
 intro zp s σ H x y v u Q I rx ry h
 obtain ⟨a,b,ys,rfl,rfl,ha,hb,q⟩:=h
 cases rx
 cases ry
 obtain ⟨its,r1,p1,_⟩:=I.tuple ha
 obtain ⟨its2,r2,p2,_⟩:=I.tuple hb
 have e0:its = []:=by cases r1; rfl
 subst e0
 obtain ⟨⟨cls,dd,data,sl⟩,ho,hc,n,hd⟩:=id p1
 obtain ⟨⟨cls2,dd2,data2,sl2⟩,ho2,hc2,n2,hd2⟩:=id p2
 simp only at hc hd hc2 hd2
 subst hc hd hc2 hd2
 exact concat_meets ⟨_,ho,rfl⟩ ⟨_,ho2,rfl⟩ noFill_tuple_add seq_tuple_add PySem.F.slot_tuple_add PySem.F.entry_tuple_add (PySem.F.args_tuple_add_2 _ _)
  (tuple_addW0 a b #[] its2.toArray n n2 dd dd2 sl sl2 rfl) ⟨ho,ho2,⟨.ref b,H,I,rfl,q⟩⟩
theorem zh2 {X:Cx}:OpR X (binaryOp .Mult) (fun x y H Q=>∃ (z:Str) (k:Int),x = .str z/\y = .int k/\z.length = 1/\1<=k/\k < 1000000/\∀ r:Str,r.cps.toList = List.replicate k.toNat (z.cps.getD 0 0)->Q (.str r) H):=by
 intro zp s σ H x y v u Q I rx ry h
 obtain ⟨z,k,rfl,rfl,hz,hk1,hk2,q⟩:=h
 obtain ⟨t,rfl⟩:=rx
 obtain ⟨t',rfl⟩:=ry
 have hok:MulOk z k:=by
  refine ⟨?_,fun _ _=>?_,fun _ _=>?_⟩
  ·have e1:decide (k < -(2 ^ 63:Int)) = false:=decide_eq_false (by omega)
   have e2:decide (k ≥ 2 ^ 63) = false:=decide_eq_false (by omega)
   rw [e1,e2]; rfl
  ·rw [hz]
   have:(1000000:Int)<=(2 ^ 63 - 1) / k:=by
    rw [Int.le_ediv_iff_mul_le (by omega)]
    omega
   omega
  ·rw [hz]
   have hs:(1000000:Nat)<=sizeLine:=by decide
   show decide (1 * k.toNat > sizeLine) = false
   exact decide_eq_false (by omega)
 refine PySem.SB.mul hok fun t' tk=>⟨.str _,H,I.tok tk,⟨_,rfl⟩,q _ ?_⟩
 have hz1:z.cps.toList = [z.cps.getD 0 0]:=by
  have hl:z.cps.toList.length = 1:=by simpa [Str.length] using hz
  obtain ⟨c,e⟩:=List.length_eq_one_iff.mp hl
  rw [e]
  have e2:z.cps = #[c]:=by
   have:=congrArg List.toArray e
   simpa using this
  rw [e2]
  rfl
 unfold PySem.Txt.mul
 rw [if_neg (by omega)]
 by_cases hk:k = 1
 ·subst hk
  rw [if_pos (by simp)]
  simpa using hz1
 ·rw [if_neg (by rw [hz]; simp [hk])]
  have fold:∀ (m:Nat) (acc:Array Nat),((List.replicate m z.cps).foldl (· ++ ·) acc).toList = acc.toList ++ List.replicate m (z.cps.getD 0 0):=fun m=>by
   induction m with
   | zero=>intro acc; simp
   | succ m ih=>
    intro acc
    rw [List.replicate_succ,List.foldl_cons,ih,List.replicate_succ,Array.toList_append,hz1,List.append_assoc]
    rfl
  have:=fold k.toNat #[]
  simpa using this
end L2
namespace L2
open PySem PySem.Spec PyProof.Rows
theorem zgR {ys:List Str}:∀ {us:List Value},Vals (ys.map V.str) us->StrsAre us ys:=by
 induction ys with
 | nil=>intro us r; rw [List.map_nil] at r; cases r; exact .nil
 | cons n ns ih=>
  intro us r
  rw [List.map_cons] at r
  cases r with
  | cons r1 r2=>
   obtain ⟨t,e⟩:=r1
   subst e
   exact .cons n t (ih r2)
theorem zkU {X:Cx}:MtR X "str.join" (fun x xs H Q=>∃ (sep:Str) (p:Addr) (ys:List Str),x = .str sep/\xs = [.ref p]/\SqL X.K H p (ys.map V.str)/\(ys.map (·.length)).sum + ys.length * sep.length<=16777216/\Q (.str (Txt.join sep ys)) H):=by
 intro zp s σ H x xs v us Q I rx rv h
 obtain ⟨sep,p,ys,rfl,rfl,hq,hz,q⟩:=h
 obtain ⟨t,rfl⟩:=rx
 obtain ⟨u,rfl,ru⟩:=zbf rv
 cases ru
 obtain ⟨its,r,pl,_⟩:=I.list hq
 exact PyProof.Rows.join_list pl.isList (by simpa using zgR r) hz fun t' k=>⟨.str _,H,I.tok k,⟨t',rfl⟩,q⟩
theorem zgS (cs:List Nat):Txt.join (Str.ofString "") (cs.map fun c=>(⟨#[c]⟩:Str)) = ⟨cs.toArray⟩:=by
 have e0:(Str.ofString "").cps = #[]:=by decide +kernel
 have fold:∀ (r:List Nat) (acc:Array Nat),((r.map fun c=>(⟨#[c]⟩:Str)).foldl (fun acc p=>acc ++ (Str.ofString "").cps ++ p.cps) acc) = acc ++ r.toArray:=fun r=>by
  induction r with
  | nil=>intro acc; simp
  | cons c r ih=>
   intro acc
   rw [List.map_cons,List.foldl_cons,ih,e0]
   simp
 cases cs with
 | nil=>rfl
 | cons c r=>
  show (⟨(r.map fun c=>(⟨#[c]⟩:Str)).foldl (fun acc p=>acc ++ (Str.ofString "").cps ++ p.cps) #[c]⟩:Str) = _
  rw [fold]
  simp
theorem zkV {fr:List Nat}{ta:TA}{te:TE}{σ:St}{H:Hp}{Q:VK} (outs:List V) (hσ:∀ R:List V->Hp->Prop,R [.int outs.length] H->ta σ H R) (hz:outs.length<=1000000)
  (step:∀ (i:Nat) (y:V) (H1:Hp) (R:VK),outs[i]? = some y->Same H H1->(∀ H2,Same H1 H2->R y H2)->te (some (.int (0 + (i:Int))) :: frees fr σ) H1 R)
  (fin:∀ (H1:Hp) (D:Addr),Same H H1->H1 D = none->Q (.ref D) (upd H1 D (.lst outs))):zcI fr (zkw ta) (fun _ H Q=>Q true H) te σ H Q:=by
 have hz2:outs.length<=sizeLine:=Nat.le_trans hz (by decide)
 refine hσ _ ⟨outs.length,rfl,by omega,by omega,fun i m us H1=>i<=outs.length/\m = outs.length - i/\us = outs.take i/\Same H H1,⟨_,Nat.zero_le _,rfl,by simp,Same.refl _⟩,fun i m us H1 hW=>?_⟩
 obtain ⟨hi,hm,hu,sm⟩:=hW
 refine ⟨by rw [hu,List.length_take]; omega,?_⟩
 by_cases hlt:i < outs.length
 ·refine .inr ⟨(by show i < (outs.length:Int).toNat; omega),fun v H' hy=>?_⟩
  obtain ⟨rfl,rfl⟩:=hy
  have hy:outs[i]? = some outs[i]:=List.getElem?_eq_getElem hlt
  refine iteT ?_
  refine step i outs[i] H' _ hy sm fun H2 s2=>⟨outs.length - (i + 1),by omega,by omega,rfl,?_,sm.trans s2⟩
  rw [hu,zaw hy]
 ·refine .inl ⟨(by show (outs.length:Int).toNat<=i; omega),fun D hD=>?_⟩
  have e2:us = outs:=by rw [hu,List.take_of_length_le (by omega)]
  rw [e2]
  exact fin H1 D sm hD
end L2
namespace D
open PySem L2
mutual
def eqW:W->W->Bool
 | .num i,.num j=>i == j
 | .txt x,.txt y=>x == y
 | .lst ws,.lst zs=>eqWs ws zs
 | .num _,.txt _=>false
 | .num _,.lst _=>false
 | .txt _,.num _=>false
 | .txt _,.lst _=>false
 | .lst _,.num _=>false
 | .lst _,.txt _=>false
def eqWs:List W->List W->Bool
 | [],[]=>true
 | w :: r,z :: s=>eqW w z && eqWs r s
 | [],_ :: _=>false
 | _ :: _,[]=>false
end
mutual
theorem zjj:∀ w:W,eqW w w = true
 | .num i=>by simp [eqW]
 | .txt x=>by simp [eqW]
 | .lst ws=>eqWs_refl ws
theorem eqWs_refl:∀ ws:List W,eqWs ws ws = true
 | []=>rfl
 | w :: r=>by simp only [eqWs,zjj w,eqWs_refl r,Bool.and_self]
end
mutual
theorem zjk:∀ w z:W,eqW w z = eqW z w
 | .num i,.num j=>by simp only [eqW]; exact BEq.comm
 | .txt x,.txt y=>by simp only [eqW]; exact BEq.comm
 | .lst ws,.lst zs=>by simp only [eqW]; exact eqWs_symm ws zs
 | .num _,.txt _=>rfl
 | .num _,.lst _=>rfl
 | .txt _,.num _=>rfl
 | .txt _,.lst _=>rfl
 | .lst _,.num _=>rfl
 | .lst _,.txt _=>rfl
theorem eqWs_symm:∀ ws zs:List W,eqWs ws zs = eqWs zs ws
 | [],[]=>rfl
 | w :: r,z :: s=>by simp only [eqWs,zjk w z,eqWs_symm r s]
 | [],_ :: _=>rfl
 | _ :: _,[]=>rfl
end
end D
namespace L2
open PySem PySem.Spec PyProof.Rows
theorem zgT:bootBuiltins (Str.ofString "list") = some (.type "list"):=by kernel_rfl
end L2
namespace D
open PySem L2
mutual
def W.Th:W->Prop
 | .num _=>True
 | .txt x=>x.length<=100000/\Signs x
 | .lst ws=>ws.length<=1000/\Ths ws
def Ths:List W->Prop
 | []=>True
 | w :: r=>w.Th/\Ths r
end
mutual
theorem zjl:∀ w:W,w.Ok->w.Th
 | .num _,_=>trivial
 | .txt _,h=>⟨Nat.le_trans h.1 (by decide),h.2⟩
 | .lst ws,h=>⟨Nat.le_trans h.1 (by decide),ths_of ws h.2⟩
theorem ths_of:∀ ws:List W,Oks ws->Ths ws
 | [],_=>trivial
 | w :: r,h=>⟨zjl w h.1,ths_of r h.2⟩
end
mutual
def zeE:W->Bool
 | .num i=>decide (-(10 ^ 60) < i/\i < 10 ^ 60)
 | .txt x=>decide (x.length<=400)
 | .lst ws=>decide (ws.length<=60) && fitsWs ws
def fitsWs:List W->Bool
 | []=>true
 | w :: r=>zeE w && fitsWs r
end
mutual
def W.toT:W->T
 | .num i=>.num i
 | .txt x=>.txt x
 | .lst ws=>.tup (toTs ws)
def toTs:List W->List T
 | []=>[]
 | w :: r=>w.toT :: toTs r
end
theorem zbG:∀ ws:List W,toTs ws = ws.map W.toT
 | []=>rfl
 | w :: r=>by simp only [toTs,List.map_cons,zbG r]
theorem zbH (ws:List W):(toTs ws).length = ws.length:=by rw [zbG,List.length_map]
mutual
theorem zdA:∀ w:W,w.toT.size = w.size
 | .num _=>rfl
 | .txt _=>rfl
 | .lst ws=>by simp only [W.toT,T.size,W.size,sizes_toT ws]
theorem sizes_toT:∀ ws:List W,tsizes (toTs ws) = sizes ws
 | []=>rfl
 | w :: r=>by simp only [toTs,tsizes,sizes,zdA w,sizes_toT r]
end
mutual
theorem zh3:∀ w:W,w.Th->w.toT.Sm
 | .num _,_=>trivial
 | .txt _,h=>h.1
 | .lst ws,h=>⟨by rw [zbH]; exact Nat.le_trans h.1 (by decide),sms_toT ws h.2⟩
theorem sms_toT:∀ ws:List W,Ths ws->Sms (toTs ws)
 | [],_=>trivial
 | w :: r,h=>⟨zh3 w h.1,sms_toT r h.2⟩
end
theorem zgU {x:Str} (h:Signs x):zao x = true:=by
 unfold zao
 rw [List.all_eq_true]
 intro c hc
 have:=h c hc
 simp [zbW,this]
mutual
theorem zf3:∀ (w:W) (lv:Nat),w.Th->zaS w.toT (lv:Int) = (zeE w && decide (w.depth<=lv))
 | .num i,lv,_=>by
  show decide (-(10 ^ 60) < i/\i < 10 ^ 60) = (decide (-(10 ^ 60) < i/\i < 10 ^ 60) && decide (0<=lv))
  rw [decide_eq_true (Nat.zero_le lv),Bool.and_true]
 | .txt x,lv,h=>by
  show (decide (x.length<=400) && zao x) = (decide (x.length<=400) && decide (0<=lv))
  rw [zgU h.2,decide_eq_true (Nat.zero_le lv)]
 | .lst ws,lv,h=>by
  show (decide ((toTs ws).length<=60) && decide (0 < (lv:Int)) && fitsA (toTs ws) ((lv:Int) - 1)) = ((decide (ws.length<=60) && fitsWs ws) && decide (1 + depths ws<=lv))
  rw [zbH]
  cases lv with
  | zero=>
   rw [decide_eq_false (show ¬ (0:Int) < ((0:Nat):Int) by omega),decide_eq_false (show ¬ 1 + depths ws<=0 by omega)]
   simp
  | succ n=>
   have e:((n + 1:Nat):Int) - 1 = (n:Int):=by omega
   rw [decide_eq_true (show (0:Int) < ((n + 1:Nat):Int) by omega),e,fits_toTs ws n h.2,Bool.and_true,← Bool.and_assoc]
   congr 2
   rw [eq_iff_iff]
   constructor <;> intro h <;> omega
theorem fits_toTs:∀ (ws:List W) (lv:Nat),Ths ws->fitsA (toTs ws) (lv:Int) = (fitsWs ws && decide (depths ws<=lv))
 | [],lv,_=>by
  show true = (true && decide (0<=lv))
  rw [decide_eq_true (Nat.zero_le lv)]
  rfl
 | w :: r,lv,h=>by
  show (zaS w.toT lv && fitsA (toTs r) lv) = ((zeE w && fitsWs r) && decide (max w.depth (depths r)<=lv))
  rw [zf3 w lv h.1,fits_toTs r lv h.2]
  have e:decide (max w.depth (depths r)<=lv) = (decide (w.depth<=lv) && decide (depths r<=lv)):=by
   rw [Bool.eq_iff_iff,Bool.and_eq_true,decide_eq_true_iff,decide_eq_true_iff,decide_eq_true_iff]
   omega
  rw [e]
  cases zeE w <;> cases fitsWs r <;> cases decide (w.depth<=lv) <;> cases decide (depths r<=lv) <;> rfl
end
def zkW (x:W):Bool:=zeE x && (decide (x.size<=1000) && decide ((x.depth:Int)<=12))
theorem zfl {x:W} (h:x.Th):zQ x.toT = zkW x:=by
 unfold zQ zkW
 have:=zf3 x 12 h
 rw [show (12:Int) = ((12:Nat):Int) from rfl,this,zdA]
 have e:decide ((x.depth:Int)<=((12:Nat):Int)) = decide (x.depth<=12):=by
  rw [Bool.eq_iff_iff,decide_eq_true_iff,decide_eq_true_iff]
  omega
 rw [e]
 cases zeE x <;> cases decide (x.depth<=12) <;> cases decide (x.size<=1000) <;> rfl
theorem RW.toRT {H:Hp}{v:V}{x:W} (h:RW H v x):RT H v x.toT:=by
 induction h with
 | num i=>exact .num i
 | txt x=>exact .txt x
 | @lst a vs ws e l _ ih=>
  refine .tup e (by rw [zbH]; exact l) fun i v t hv ht=>?_
  rw [zbG,List.getElem?_map] at ht
  obtain ⟨w,hw,rfl⟩:=Option.map_eq_some_iff.mp ht
  exact ih i v w hv hw
section
variable {P:Program}{w:World}{K:PySem.W.Frag}{mg:Str->Option Value}{base:Heap}{f:Addr}{fd:FuncData}{k n:Nat}{ANoName AHouse ANoWorth ANoRule ANoThing zN ANoStep ANoRow AForgeError:Addr}
end
end D
namespace L2
open PySem PySem.Spec PyProof.Rows
section
variable {prog:Program}{w:World}{A:Around}{E:Value->Shared->Prop}{s:Shared}
open HT in
end
end L2
namespace D
open PySem L2
end D
namespace L2
open PySem PySem.Spec PyProof.Rows
structure QSs (X:Cx) (st:List Stmt) (t:TS):Prop where
 un:PSs X st t
structure QIfs (X:Cx) (ifs:List Expr) (t:TT):Prop where
 un:PIfs X ifs t
structure QGs (X:Cx) (ts:List Expr) (t:TGs):Prop where
 un:PGs X ts t
structure QE (X:Cx) (e:Expr) (t:TE):Prop where
 un:PE X e t
structure QT (X:Cx) (e:Expr) (t:TT):Prop where
 un:PT X e t
structure QW (X:Cx) (e:Expr) (t:TT):Prop where
 un:PW X e t
structure QA (X:Cx) (es:List Expr) (t:TA):Prop where
 un:PA X es t
structure QS (X:Cx) (st:Stmt) (t:TS):Prop where
 un:PS X st t
structure QI (X:Cx) (tg iter:Expr) (wi:TI):Prop where
 un:PI X tg iter wi
structure QG (X:Cx) (tg:Expr) (t:TG):Prop where
 un:PG X tg t
structure QO (X:Cx) (e:Option Expr) (t:TO):Prop where
 un:PO X e t
structure QC (X:Cx) (op:CmpOp) (a b:Expr) (t:TE):Prop where
 un:PC X op a b t
theorem Fun.okQ {P:Program}{w:World}{K:PySem.W.Frag}{mg:Str->Option Value}{base:Heap}{x qual:Str}{st:Stmt}{f:Addr}{fd:FuncData}{N ps:List Str}{k:Nat}{sp:Sp} (F:Fun K x qual st f fd) (sc:FnScope N ps (zh st)) (h1:∀ (vs:List V) (H:Hp) (Q:VK) (E:XK),sp vs H Q E->vs.length = ps.length)
  (h2:∀ (cdv:Value) (A:Around) (outer:List Env) (s:Shared) (H:Hp) (vs:List V) (Q:VK) (E:XK),Room k (A.deeper (PyProof.Rows.envOfC qual (zh st) s.heap.objs.size f cdv))->sp vs H Q E->
   ∃ t:TS,QSs (cxOf CX0 P w K mg base N qual (zh st) f cdv A outer s H E).nox (Zl st) t/\t { nx:=fun _ H'=>Q V.non H',rt:=Q } (L2.start N vs) H):FnOk P w K mg base CX0 (k + 1) f fd ps sp:=
 F.ok sc h1 fun cdv A outer s H vs Q E hr h=>let ⟨t,a,b⟩:=h2 cdv A outer s H vs Q E hr h; ⟨t,a.un,b⟩
theorem zcl {X:Cx}{x:Str}{z:Str}{pos:Pos} (hg:Gl X x) (hm:∃ t,X.mg x = some (.str z t)) (hd:(x == ("__debug__":Str)) = false:=by decide):PE X (.Name x pos) (tC (.str z)):=by
 obtain ⟨t,hm⟩:=hm
 exact Zr hg hm ⟨t,rfl⟩ hd
end L2
namespace D
open PySem L2
theorem zo {X:Cx}:QSs X [] zc2:=⟨L2.zo ⟩
theorem zd {X:Cx}{st:Stmt}{rest:List Stmt}{t u:TS} (h0:QS X st t) (h1:QSs X rest u):QSs X (st :: rest) (tSeq t u):=⟨L2.zd h0.un h1.un⟩
theorem zf {X:Cx}{st:Stmt}{t:TS} (h0:QS X st t):QSs X [st] t:=⟨L2.zf h0.un⟩
theorem zr {X:Cx}{e:Expr}{te:TE}{pos:Pos} (h0:QE X e te):QS X (Stmt.Return (some e) pos) (tRet te):=⟨L2.zr h0.un⟩
theorem zG {X:Cx}{t u:TS}{pos:Pos}{c:Expr}{a b:List Stmt}{tc:TT} (h0:QT X c tc) (h1:QSs X a t) (h2:QSs X b u):QS X (Stmt.If c a b pos) (tIfS tc t u):=⟨L2.zG h0.un h1.un h2.un⟩
theorem zn {X:Cx}{pos:Pos}{i:Nat}{x:Str}{e:Expr}{te:TE}{pos':Pos} (h0:X.N.Nodup) (h1:X.N[i]? = some x) (h2:L2.Loc X.env.scope x) (h3:QE X e te) (h4:autoParam (swapsWith e (some (Expr.Name x pos')) pos.line X.env = pure false) L2.zn._auto_1) (h5:autoParam (X.fn x = true\/List.lookup x X.env.scope.names = some NameKind.local) L2.zn._auto_2):QS X (Stmt.Assign [Expr.Name x pos'] e pos) (tAsg te (Z7 i)):=⟨L2.zn h0 h1 h2 h3.un h4 h5⟩
theorem zbc {X:Cx}{pos:Pos}{tg e:Expr}{te:TE}{g:TG} (h0:QE X e te) (h1:QG X tg g) (h2:autoParam (swapsWithSole [tg] e pos.line X.env = pure false) L2.zbc._auto_1) (h3:autoParam (swappedStores [tg] e X.env = pure none) L2.zbc._auto_2) (h4:autoParam (List.map (fun (x:Bool × (Value->Sem Unit))=>x.snd) (assignEach [tg] X.env) = [assign tg X.env]) L2.zbc._auto_3):QS X (Stmt.Assign [tg] e pos) (tAsg te g):=⟨L2.zbc h0.un h1.un h2 h3 h4⟩
theorem zq {X:Cx}{e:Expr}{te:TE}{pos:Pos} (h0:QE X e te) (h1:autoParam (swapsWith e none pos.line X.env = pure false) L2.zq._auto_1):QS X (Stmt.Expr e pos) (zdm te):=⟨L2.zq h0.un h1⟩
theorem Z1 {X:Cx}{tg iter:Expr}{body:List Stmt}{wi:TI}{g:TG}{tb:TS}{pos:Pos} (h0:PassesOwn (model X.prog X.w) X.A X.env X.xe) (h1:X.calm = true) (h2:QI X tg iter wi) (h3:QG X tg g) (h4:QSs X body tb) (h5:autoParam (∀ (x:Value),foldedSetIterable iter X.env x = pure x) L2.Z1._auto_1):QS X (Stmt.For tg iter body [] pos) (tFor wi g tb):=⟨L2.Z1 h0 h1 h2.un h3.un h4.un h5⟩
theorem zbl {X:Cx}{pos:Pos}{c:Expr}{body:List Stmt}{tc:TT}{tb:TS} (h0:PassesOwn (model X.prog X.w) X.A X.env X.xe) (h1:QT X c tc) (h2:QSs X body tb):QS X (Stmt.While c body [] pos) (zjZ tc tb):=⟨L2.zbl h0 h1.un h2.un⟩
theorem zd8 {X:Cx}{pos:Pos}{i:Nat}{x:Str}{e:Expr}{te:TE}{op:Operator}{ti:TIp}{pos':Pos} (h0:X.N.Nodup) (h1:X.N[i]? = some x) (h2:L2.Loc X.env.scope x) (h3:QE X e te) (h4:PIp X op ti) (h5:autoParam (X.fn x = true\/List.lookup x X.env.scope.names = some NameKind.local) L2.zd8._auto_1):QS X (Stmt.AugAssign (Expr.Name x pos') op e pos) (tAug i te ti):=⟨L2.zd8 h0 h1 h2 h3.un h4 h5⟩
theorem ze {X:Cx}{i:Int}{j:Nat}{pos:Pos}:QE X (Expr.Constant (Const.int i) j pos) (tC (V.int i)):=⟨L2.ze ⟩
theorem zi {X:Cx}{x:Str}{j:Nat}{pos:Pos}:QE X (Expr.Constant (Const.str x) j pos) (tC (V.str x)):=⟨L2.zi ⟩
theorem zan {X:Cx}{b:Bool}{j:Nat}{pos:Pos}:QE X (Expr.Constant (Const.bool b) j pos) (tC (V.bl b)):=⟨L2.zan ⟩
theorem zas {X:Cx}{j:Nat}{pos:Pos}:QE X (Expr.Constant Const.none j pos) (tC V.non):=⟨L2.zas ⟩
theorem pv {X:Cx} (i:Nat) {x:Str}{pos:Pos} (h0:autoParam (X.N[i]? = some x) L2.pv._auto_1) (h1:autoParam (Vis X.env.scope x) L2.pv._auto_2) (h2:autoParam ((x == Str.ofString "__debug__") = false) L2.pv._auto_3) (h3:autoParam ((x == Str.ofString "__classdict__") = false) L2.pv._auto_4):QE X (Expr.Name x pos) (tVar i):=⟨L2.pv i h0 h1 h2 h3⟩
theorem Zr {X:Cx}{x:Str}{v:V}{u:Value}{pos:Pos} (h0:Gl X x) (h1:X.mg x = some u) (h2:RelV v u) (h3:autoParam ((x == Str.ofString "__debug__") = false) L2.Zr._auto_1):QE X (Expr.Name x pos) (tC v):=⟨L2.Zr h0 h1 h2 h3⟩
theorem Zp {X:Cx}{x:Str}{i:Int}{pos:Pos} (h0:Gl X x) (h1:(∃ (t:Tok),X.mg x = some (Value.int i t))) (h2:autoParam ((x == Str.ofString "__debug__") = false) L2.Zp._auto_1):QE X (Expr.Name x pos) (tC (V.int i)):=⟨L2.Zp h0 h1 h2⟩
theorem zbh {X:Cx}{x:Str}{T:String}{pos:Pos} (h0:Gl X x) (h1:X.mg x = none) (h2:bootBuiltins x = some (Value.type T)) (h3:autoParam (x≠Str.ofString "__name__") L2.zbh._auto_1) (h4:autoParam ((x == Str.ofString "__debug__") = false) L2.zbh._auto_2):QE X (Expr.Name x pos) (tC (V.ty T)):=⟨L2.zbh h0 h1 h2 h3 h4⟩
theorem zw {X:Cx}{a b:Expr}{ta tb:TE}{pos:Pos}{op:Operator}{r:R2} (h0:OpR X (binaryOp op) r) (h1:QE X a ta) (h2:QE X b tb):QE X (a.BinOp op b pos) (tOp r ta tb):=⟨L2.zw h0 h1.un h2.un⟩
theorem zhh {X:Cx}{a:Expr}{ta:TE}{pos:Pos}{op:UnaryOp}{r:V->Hp->VK->Prop} (h0:UnR X (unaryOp op) r) (h1:QE X a ta):QE X (Expr.UnaryOp op a pos) (tUn r ta):=⟨L2.zhh h0 h1.un⟩
theorem zP {X:Cx}{a b:Expr}{ta tb:TE}{pos:Pos}{op:CmpOp}{r:R2} (h0:OpR X (compareOp op) r) (h1:QE X a ta) (h2:QE X b tb) (h3:behindInMarks op b = false):QE X (a.Compare [op] [b] pos) (tOp r ta tb):=⟨L2.zP h0 h1.un h2.un h3⟩
theorem zm {X:Cx}{a b:Expr}{ta tb:TE}{pos:Pos}{op:CmpOp}{r:R2} (h0:OpR X (compareOp op) r) (h1:QE X a ta) (h2:QE X b tb) (h3:behindInMarks op b = false):QT X (a.Compare [op] [b] pos) (zdn (tOp r ta tb)):=⟨L2.zm h0 h1.un h2.un h3⟩
theorem zd7 {X:Cx}{a b:Expr}{pos:Pos}{op:CmpOp}{t:TE} (h0:QC X op a b t) (h1:autoParam (behindInMarks op b = false) L2.zd7._auto_1):QE X (a.Compare [op] [b] pos) t:=⟨L2.zd7 h0.un h1⟩
theorem zdb {X:Cx}{a b:Expr}{pos:Pos}{op:CmpOp}{t:TE} (h0:QC X op a b t) (h1:autoParam (behindInMarks op b = false) L2.zdb._auto_1):QT X (a.Compare [op] [b] pos) (tB t):=⟨L2.zdb h0.un h1⟩
theorem zbp {X:Cx}{a b c:Expr}{ta tb tc:TE}{pos:Pos}{op op':CmpOp}{r r':R2} (h0:OpR X (compareOp op) r) (h1:OpR X (compareOp op') r') (h2:QE X a ta) (h3:QE X b tb) (h4:QE X c tc) (h5:autoParam (lastMarks [op,op'] [b,c] = false) L2.zbp._auto_1):QE X (a.Compare [op,op'] [b,c] pos) (zfU r r' ta tb tc):=⟨L2.zbp h0 h1 h2.un h3.un h4.un h5⟩
theorem zcf {X:Cx}{a b c:Expr}{ta tb tc:TE}{pos:Pos}{op op':CmpOp}{r r':R2} (h0:OpR X (compareOp op) r) (h1:OpR X (compareOp op') r') (h2:QE X a ta) (h3:QE X b tb) (h4:QE X c tc) (h5:autoParam (lastMarks [op,op'] [b,c] = false) L2.zcf._auto_1):QT X (a.Compare [op,op'] [b,c] pos) (zdn (zfU r r' ta tb tc)):=⟨L2.zcf h0 h1 h2.un h3.un h4.un h5⟩
theorem ZV {X:Cx}{a b:Expr}{ta tb:TE}{pos:Pos}{rest:List Expr} (h0:QE X a ta) (h1:QE X (Expr.BoolOp BoolOp.And (b :: rest) pos) tb):QE X (Expr.BoolOp BoolOp.And (a :: b :: rest) pos) (zlx ta tb):=⟨L2.ZV h0.un h1.un⟩
theorem zhe {X:Cx}{a b:Expr}{ta tb:TE}{pos:Pos}{rest:List Expr} (h0:QE X a ta) (h1:QE X (Expr.BoolOp BoolOp.Or (b :: rest) pos) tb):QE X (Expr.BoolOp BoolOp.Or (a :: b :: rest) pos) (tOrV ta tb):=⟨L2.zhe h0.un h1.un⟩
theorem Z0 {X:Cx}{a:Expr}{pos:Pos}{op:BoolOp}{t:TE} (h0:QE X a t):QE X (Expr.BoolOp op [a] pos) t:=⟨L2.Z0 h0.un⟩
theorem za0 {X:Cx}{a b:Expr}{ta tb:TE}{pos:Pos}{tA:TT}{c:Expr} (h0:QT X c tA) (h1:QE X a ta) (h2:QE X b tb):QE X (c.IfExp a b pos) (tIf tA ta tb):=⟨L2.za0 h0.un h1.un h2.un⟩
theorem Zm {X:Cx}{e:Expr}{t:TE} (h:QE X e t) (he:∀ whole,isTrue e X.env whole = (do let v ← whole; standAt e.pos; holding [v] (truthy v)):=by intro _; rfl):QT X e (tB t):=⟨L2.Zm h.un he⟩
theorem ZH {X:Cx}{a:Expr}{pos:Pos}{tA:TT} (h0:QT X a tA):QT X (Expr.UnaryOp UnaryOp.Not a pos) (tNot tA):=⟨L2.ZH h0.un⟩
theorem zct {X:Cx}{a b:Expr}{pos:Pos}{tA tB':TT}{rest:List Expr} (h0:QT X a tA) (h1:QW X (Expr.BoolOp BoolOp.And (b :: rest) pos) tB'):QW X (Expr.BoolOp BoolOp.And (a :: b :: rest) pos) (tAnd tA tB'):=⟨L2.zct h0.un h1.un⟩
theorem zbd {X:Cx}{a:Expr}{pos:Pos}{tA:TT} (h0:QT X a tA):QW X (Expr.BoolOp BoolOp.And [a] pos) tA:=⟨L2.zbd h0.un⟩
theorem zbe {X:Cx}{a b:Expr}{pos:Pos}{tA tB':TT}{rest:List Expr} (h0:QT X a tA) (h1:QW X (Expr.BoolOp BoolOp.Or (b :: rest) pos) tB'):QW X (Expr.BoolOp BoolOp.Or (a :: b :: rest) pos) (tOr tA tB'):=⟨L2.zbe h0.un h1.un⟩
theorem zaN {X:Cx}{a:Expr}{pos:Pos}{tA:TT} (h0:QT X a tA):QW X (Expr.BoolOp BoolOp.Or [a] pos) tA:=⟨L2.zaN h0.un⟩
theorem PW.pt {X:Cx}{e:Expr}{t:TT} (h0:QW X e t):QT X e t:=⟨L2.PW.pt h0.un⟩
theorem zu {X:Cx}{x:Str}{k:Nat}{ps:List Str}{sp:Sp}{e:Expr}{es:List Expr}{t:TA}{p pos:Pos} (h0:Have X.prog X.w X.K X.mg X.base x k ps sp) (h1:Room k X.A) (h2:Gl X x) (h3:QA X (e :: es) t) (h4:autoParam ((x == Str.ofString "__debug__") = false) L2.zu._auto_1) (h5:autoParam (starEach (e :: es) X.env = (false,eval e X.env) :: starEach es X.env) L2.zu._auto_2) (h6:autoParam (((backTo pos (starEach es X.env)).any fun (x:Bool × Sem Value)=>x.fst) = false) L2.zu._auto_3):QE X ((Expr.Name x p).Call (e :: es) [] pos) (zb6 sp [] E0 t):=⟨L2.zu h0 h1 h2 h3.un h4 h5 h6⟩
theorem zl {X:Cx}{x:Str}{p pos:Pos}{e:Expr}{es:List Expr}{t:TA}{id:String}{r:List V->Hp->VK->Prop} (h0:zau X (Value.builtin id) r) (h1:Gl X x) (h2:X.mg x = none) (h3:bootBuiltins x = some (Value.builtin id)) (h4:QA X (e :: es) t) (h5:autoParam (x≠Str.ofString "__name__") L2.zl._auto_1) (h6:autoParam ((x == Str.ofString "__debug__") = false) L2.zl._auto_2) (h7:autoParam (starEach (e :: es) X.env = (false,eval e X.env) :: starEach es X.env) L2.zl._auto_3) (h8:autoParam (((backTo pos (starEach es X.env)).any fun (x:Bool × Sem Value)=>x.fst) = false) L2.zl._auto_4):QE X ((Expr.Name x p).Call (e :: es) [] pos) (tCB r t):=⟨L2.zl h0 h1 h2 h3 h4.un h5 h6 h7 h8⟩
theorem Zu {X:Cx}{x:Str}{p pos:Pos}{e:Expr}{es:List Expr}{t:TA}{T:String}{r:List V->Hp->VK->Prop} (h0:zau X (Value.type T) r) (h1:Gl X x) (h2:X.mg x = none) (h3:bootBuiltins x = some (Value.type T)) (h4:QA X (e :: es) t) (h5:autoParam (x≠Str.ofString "__name__") L2.Zu._auto_1) (h6:autoParam ((x == Str.ofString "__debug__") = false) L2.Zu._auto_2) (h7:autoParam (starEach (e :: es) X.env = (false,eval e X.env) :: starEach es X.env) L2.Zu._auto_3) (h8:autoParam (((backTo pos (starEach es X.env)).any fun (x:Bool × Sem Value)=>x.fst) = false) L2.Zu._auto_4):QE X ((Expr.Name x p).Call (e :: es) [] pos) (tCB r t):=⟨L2.Zu h0 h1 h2 h3 h4.un h5 h6 h7 h8⟩
theorem zav {X:Cx}{o e:Expr}{es:List Expr}{to:TE}{t:TA}{name:Str}{apos cpos:Pos}{T id:String}{r:V->List V->Hp->VK->Prop} (pa:PlainAttrs T) (slot:Slot T name id) (hty:typeOf (.builtin id) = pure (.type "method_descriptor")) (hm:MtR X id r) (ho:QE X o to) (ha:QA X (e :: es) t)
  (hbase:attributeBase o name X.env (eval o X.env) = eval o X.env:=by rfl)
  (hfew:((backTo cpos (starEach (e :: es) X.env)).all (fun x=>!x.1) && (backToKw cpos (keywordEach [] X.env)).all (fun x=>x.1.isSome)
   && decide ((e :: es).length + ([]:List Keyword).length + (if ([]:List Keyword).isEmpty then 0 else 1) < 30)) = true:=by rfl)
  (hline:(apos.endLine == cpos.line) = true:=by rfl) (hs:starEach (e :: es) X.env = (false,eval e X.env) :: starEach es X.env:=by rfl) (hplain:(backTo cpos (starEach es X.env)).any (·.1) = false:=by rfl):
  QE X (.Call (.Attribute o name apos) (e :: es) [] cpos) (tBM X.K T r to t):=⟨L2.zav pa slot hty hm ho.un ha.un hbase hfew hline hs hplain⟩
theorem zdg {X:Cx}{o:Expr}{to:TE}{name:Str}{apos cpos:Pos}{T id:String}{r:V->List V->Hp->VK->Prop} (h0:PlainAttrs T) (h1:Slot T name id) (h2:typeOf (Value.builtin id) = pure (Value.type "method_descriptor")) (h3:MtR X id r) (h4:QE X o to) (h5:autoParam (attributeBase o name X.env (eval o X.env) = eval o X.env) L2.zdg._auto_1) (h6:autoParam ((apos.endLine == cpos.line) = true) L2.zdg._auto_2):QE X ((o.Attribute name apos).Call [] [] cpos) (tBM0 X.K T r to):=⟨L2.zdg h0 h1 h2 h3 h4.un h5 h6⟩
theorem zx {X:Cx}{a b:Expr}{ta tb:TE}{pos:Pos}{r:R2} (h0:IxR X r) (h1:QE X a ta) (h2:QE X b tb) (h3:zhD b):QE X (a.Subscript b pos) (tOp r ta tb):=⟨L2.zx h0 h1.un h2.un h3⟩
theorem zbq {X:Cx}{e:Expr}{te:TE}{lo hi:Option Expr}{tl th:TO}{pos p2:Pos}{r:V->Option Int->Option Int->Hp->VK->Prop} (h0:SlR X r) (h1:QE X e te) (h2:QO X lo tl) (h3:QO X hi th):QE X (e.Subscript (Expr.Slice lo hi none p2) pos) (tSl r te tl th):=⟨L2.zbq h0 h1.un h2.un h3.un⟩
theorem zdq {X:Cx}:QO X none zhA:=⟨L2.zdq ⟩
theorem zbU {X:Cx}{e:Expr}{te:TE} (h0:QE X e te):QO X (some e) (zlI te):=⟨L2.zbU h0.un⟩
theorem zL {X:Cx}{es:List Expr}{t:TA}{pos:Pos} (h0:QA X es t):QE X (Expr.List es pos) (tLst t):=⟨L2.zL h0.un⟩
theorem zt {X:Cx}{es:List Expr}{t:TA}{pos:Pos}{x1:Nat} (h0:QA X es t):QE X (Expr.Tuple es x1 pos) (tTup t):=⟨L2.zt h0.un⟩
theorem zb {X:Cx}:QA X [] tNil:=⟨L2.zb ⟩
theorem za {X:Cx}{e:Expr}{es:List Expr}{te:TE}{t:TA} (h0:QE X e te) (h1:QA X es t) (h2:autoParam (starEach (e :: es) X.env = (false,eval e X.env) :: starEach es X.env) L2.za._auto_1):QA X (e :: es) (Zq te t):=⟨L2.za h0.un h1.un h2⟩
theorem zaA {X:Cx}{pos:Pos}:QE X (Expr.Dict [] [] pos) zek:=⟨L2.zaA ⟩
theorem zde {X:Cx}{o i:Expr}{td ty:TE} (h0:X.A.units + 1 < cLine) (h1:QE X i ty) (h2:QE X o td):QC X CmpOp.In i o (tDIn ty td):=⟨L2.zde h0 h1.un h2.un⟩
theorem zhd {X:Cx}{a:Expr}{ta:TE}{j:Nat}{pos':Pos} (h0:QE X a ta):QC X CmpOp.Is a (Expr.Constant Const.none j pos') (tIsN ta):=⟨L2.zhd h0.un⟩
theorem zcB {X:Cx}{o i value:Expr}{pos pos':Pos}{td ty tv:TE} (h0:X.A.units + 1 < cLine) (h1:QE X o td) (h2:QE X i ty) (h3:QE X value tv) (h4:swapsWith value (some (o.Subscript i pos')) pos.line X.env = pure false):QS X (Stmt.Assign [o.Subscript i pos'] value pos) (zlF td ty tv):=⟨L2.zcB h0 h1.un h2.un h3.un h4⟩
theorem zag {X:Cx}{o e f:Expr}{apos cpos:Pos}{td ty tx:TE} (h0:QE X o td) (h1:QE X e ty) (h2:QE X f tx) (h3:M2 X o (Str.ofString "pop") apos e f cpos):QE X ((o.Attribute (Str.ofString "pop") apos).Call [e,f] [] cpos) (zj3 td ty tx):=⟨L2.zag h0.un h1.un h2.un h3⟩
theorem Zy {X:Cx}{elt iter:Expr}{x:Str}{px pos:Pos}{ifs:List Expr}{scope:Scope}{cl:List (Str × Addr)} (fr:List Nat) (ys:List Str) {wi:TI}{tt:TT}{te:TE} (h0:X.calm = true) (h1:closureFor scope X.env = pure cl) (h2:(∀ (y:Str × NameKind),y∈scope.names->y.snd≠NameKind.cell)) (h3:scope.kind = ScopeKind.function) (h4:(∀ (y:Str × NameKind),y∈scope.names->y.snd = NameKind.local->List.lookup y.fst scope.names = some NameKind.local)) (h5:List.lookup x scope.names = some NameKind.local) (h6:(x :: ys).Nodup) (h7:ClOk cl X.env.cells) (h8:(scope.names.all fun (y:Str × NameKind)=>y.snd != NameKind.free || (List.lookup y.fst cl).isSome) = true) (h9:FrOk X scope cl fr ys) (h10:QI X (Expr.Name x px) iter wi) (h11:(∀ (C:Addr) (s:Shared) (H:Hp) (fp:List Addr),QIfs (zK X scope cl (x :: ys) C s H fp) ifs tt/\QE (zK X scope cl (x :: ys) C s H fp) elt te)) (h12:autoParam (∀ (v:Value),foldedSetIterable iter X.env v = pure v) L2.Zy._auto_1):QE X (elt.ListComp [{ target:=Expr.Name x px,iter:=iter,ifs:=ifs,is_async:=0 }] scope pos) (zcI fr wi tt te):=⟨L2.Zy fr ys h0 h1 h2 h3 h4 h5 h6 h7 h8 h9 h10.un (fun C s H fp=>⟨(h11 C s H fp).1.un,(h11 C s H fp).2.un⟩) h12⟩
theorem Zx {X:Cx}:QIfs X [] fun (x:St) (H:Hp) (Q:Bool->Hp->Prop)=>Q true H:=⟨L2.Zx ⟩
theorem zaz {X:Cx}{tg l:Expr}{tl:TE} (h0:QE X l tl):QI X tg l (zlA X.K tl):=⟨L2.zaz h0.un⟩
theorem zfS {X:Cx}{tg l:Expr}{tl:TE} (h0:QE X l tl):QI X tg l (iTup X.K tl):=⟨L2.zfS h0.un⟩
theorem zeu {X:Cx}{tg e:Expr}{te:TE} (h0:QE X e te):QI X tg e (iStr te):=⟨L2.zeu h0.un⟩
theorem Zs {X:Cx}{tg a:Expr}{ta:TA}{p pos:Pos} (h0:Gl X (Str.ofString "range")) (h1:X.mg (Str.ofString "range") = none) (h2:QA X [a] ta) (h3:autoParam (starEach [a] X.env = [(false,eval a X.env)]) L2.Zs._auto_1):QI X tg ((Expr.Name (Str.ofString "range") p).Call [a] [] pos) (zkw ta):=⟨L2.Zs h0 h1 h2.un h3⟩
theorem zaO {X:Cx}{tg a b:Expr}{ta:TA}{p pos:Pos} (h0:Gl X (Str.ofString "range")) (h1:X.mg (Str.ofString "range") = none) (h2:QA X [a,b] ta) (h3:autoParam (starEach [a,b] X.env = [(false,eval a X.env),(false,eval b X.env)]) L2.zaO._auto_1) (h4:autoParam (starEach [b] X.env = [(false,eval b X.env)]) L2.zaO._auto_2):QI X tg ((Expr.Name (Str.ofString "range") p).Call [a,b] [] pos) (zlB ta):=⟨L2.zaO h0 h1 h2.un h3 h4⟩
theorem zV {X:Cx}{pos:Pos}{i:Nat}{x:Str} (h0:X.N.Nodup) (h1:X.N[i]? = some x) (h2:L2.Loc X.env.scope x) (h3:autoParam (X.fn x = true\/List.lookup x X.env.scope.names = some NameKind.local) L2.zV._auto_1):QG X (Expr.Name x pos) (Z7 i):=⟨L2.zV h0 h1 h2 h3⟩
theorem zcv {X:Cx}{pos:Pos}{es:List Expr}{k:Nat}{t:TGs}{n:Nat} (h0:X.calm = true) (h1:QGs X es t) (h2:autoParam ((assignEach es X.env).length = n) L2.zcv._auto_1) (h3:autoParam (List.findIdx? (fun (x:Bool × (Value->Sem Unit))=>x.fst) (assignEach es X.env) = none) L2.zcv._auto_2):QG X (Expr.Tuple es k pos) (gTup X.K n t):=⟨L2.zcv h0 h1.un h2 h3⟩
theorem zcu {X:Cx}:QGs X [] gNil:=⟨L2.zcu ⟩
theorem ZQ {X:Cx}{e:Expr}{es:List Expr}{t:TG}{u:TGs} (h0:QG X e t) (h1:QGs X es u) (h2:autoParam (List.map (fun (x:Bool × (Value->Sem Unit))=>x.snd) (assignEach (e :: es) X.env) = assign e X.env :: List.map (fun (x:Bool × (Value->Sem Unit))=>x.snd) (assignEach es X.env)) L2.ZQ._auto_1):QGs X (e :: es) (zlz t u):=⟨L2.ZQ h0.un h1.un h2⟩
theorem zcw {X:Cx}{pos:Pos}{o i:Expr}{to ti:TE}{t:TSet} (ho:QE X o to) (hi:QE X i ti) (hs:PSet X t)
  (ha:∀ v,assign (.Subscript o i pos) X.env v = (do
   let ov ← holding [v] (eval o X.env)
   let iv ← holding [v,ov] (eval i X.env)
   standAt pos
   holding [v,ov,iv] (setItem ov iv v)
   release [v,ov,iv] []):=by intro _; rfl):QG X (.Subscript o i pos) (gSub to ti t):=⟨L2.zcw ho.un hi.un hs ha⟩
theorem Zn {X:Cx}{e:Expr}{f:Str}{pos:Pos}{ta:TE} (h0:QE X e ta) (h1:attributeBase e f X.env (eval e X.env) = eval e X.env):QE X (e.Attribute f pos) (tFld X.K ta f):=⟨L2.Zn h0.un h1⟩
theorem zdd {X:Cx}{o value:Expr}{f:Str}{pos pos':Pos}{ta tv:TE} (h0:QE X o ta) (h1:QE X value tv) (h2:swapsWith value (some (o.Attribute f pos')) pos.line X.env = pure false):QS X (Stmt.Assign [o.Attribute f pos'] value pos) (sFld X.K ta tv f):=⟨L2.zdd h0.un h1.un h2⟩
theorem zcl {X:Cx}{x:Str}{z:Str}{pos:Pos} (hg:Gl X x) (hm:∃ t,X.mg x = some (.str z t)) (hd:(x == ("__debug__":Str)) = false:=by decide):QE X (.Name x pos) (tC (.str z)):=⟨L2.zcl hg hm hd⟩
end D
namespace L2
open PySem PySem.Spec PyProof.Rows
def MD (P:Program) (w:World) (K:PySem.W.Frag) (g:Addr) (kvs:List (Key × V)):Prop:=
 ∃ (o:Obj) (vs:List (Key × Value)),K.lookup g = some o/\PySem.Obj.IsDictOf (zF P w) o vs/\KV kvs vs/\(g == sysModules) = false
theorem MD.dict {P:Program}{w:World}{K:PySem.W.Frag}{g:Addr}{kvs:List (Key × V)}{h:Heap} (m:MD P w K g kvs) (x:K.In h):∃ vs,KV kvs vs/\h.DictOf (zF P w) g vs/\(g == sysModules) = false:=by
 obtain ⟨o,vs,e,d,r,n⟩:=m
 exact ⟨vs,r,Heap.dictOf_iff.mpr ⟨o,x _ _ e,d⟩,n⟩
theorem zf4 {P:Program}{w:World}:∀ l:List (Str × Tok × V × Value),Pairs (zF P w) (l.map fun p=>(⟨hashStr w p.1,.str p.1 p.2.1,p.2.2.2⟩:DictEntry)) (l.map fun p=>((Sum.inr p.1:Key),p.2.2.2))
 | []=>.nil
 | p :: r=>.cons (Zz P w p.1 p.2.1) rfl (zf4 r)
theorem zl5:∀ l:List (Str × Tok × V × Value),(∀ p∈l,RelV p.2.2.1 p.2.2.2)->KV (l.map fun p=>((Sum.inr p.1:Key),p.2.2.1)) (l.map fun p=>((Sum.inr p.1:Key),p.2.2.2))
 | [],_=>.nil
 | p :: r,h=>.cons ⟨rfl,h p List.mem_cons_self⟩ (zl5 r fun q hq=>h q (List.mem_cons_of_mem _ hq))
theorem zl8 {P:Program}{w:World}{K:PySem.W.Frag}{g:Addr} (l:List (Str × Tok × V × Value)) {ep:Nat} (e:K.lookup g = some ⟨.type "dict",none,.dict (l.map fun p=>(⟨hashStr w p.1,.str p.1 p.2.1,p.2.2.2⟩:DictEntry)).toArray ep,#[]⟩)
  (n:(g == sysModules) = false) (hr:∀ p∈l,RelV p.2.2.1 p.2.2.2) (nd:(l.map (·.1)).Nodup):MD P w K g (l.map fun p=>((Sum.inr p.1:Key),p.2.2.1)):=by
 refine ⟨_,l.map fun p=>((Sum.inr p.1:Key),p.2.2.2),e,⟨_,_,⟨rfl,rfl,rfl⟩,rfl,?_,?_,?_⟩,zl5 l hr,n⟩
 ·intro x hx
  have hx':x∈l.map fun p=>(⟨hashStr w p.1,.str p.1 p.2.1,p.2.2.2⟩:DictEntry):=by simpa using hx
  obtain ⟨p,_,rfl⟩:=List.mem_map.mp hx'
  exact ⟨Sum.inr p.1,Zz P w p.1 p.2.1,rfl⟩
 ·rw [List.toList_toArray]
  exact zf4 l
 ·rw [List.map_map]
  have:(l.map ((fun x:Key × Value=>x.1) ∘ fun p=>((Sum.inr p.1:Key),p.2.2.2))) = (l.map (·.1)).map (Sum.inr:Str->Key):=by rw [List.map_map]; rfl
  rw [this]
  exact List.pairwise_map.mpr (List.Pairwise.imp (fun {a b} (h:a≠b) (e:(Sum.inr a:Key) = Sum.inr b)=>h (by simpa using e)) nd)
theorem zl9 {X:Cx}:OpR X (compareOp .In) (fun x y H Q=>∃ (g:Addr) (kvs:List (Key × V)) (k:Key),x = kV k/\y = .ref g/\MD X.prog X.w X.K g kvs/\Q (.bl (valV kvs k).isSome) H):=by
 intro zp s σ H x y v u Q I rx ry h
 obtain ⟨g,kvs,k,rfl,rfl,m,q⟩:=h
 cases ry
 obtain ⟨vs,rel,dd,hd⟩:=m.dict I.kIn
 refine wpAny_in_of (zdp rx) hd dd.mapOf ?_
 rw [← (rel.val k).isSome_eq]
 exact ⟨.bl _,H,I.tok _,rfl,q⟩
theorem zh4 {X:Cx}:OpR X (compareOp .NotIn) (fun x y H Q=>∃ (g:Addr) (kvs:List (Key × V)) (k:Key),x = kV k/\y = .ref g/\MD X.prog X.w X.K g kvs/\Q (.bl (!(valV kvs k).isSome)) H):=by
 intro zp s σ H x y v u Q I rx ry h
 obtain ⟨g,kvs,k,rfl,rfl,m,q⟩:=h
 cases ry
 obtain ⟨vs,rel,dd,hd⟩:=m.dict I.kIn
 refine wpAny_notIn_of (zdp rx) hd dd.mapOf ?_
 rw [← (rel.val k).isSome_eq]
 exact ⟨.bl _,H,I.tok _,rfl,q⟩
theorem zma {X:Cx}:IxR X (fun x y H Q=>∃ (g:Addr) (kvs:List (Key × V)) (k:Key) (v:V),x = .ref g/\y = kV k/\MD X.prog X.w X.K g kvs/\valV kvs k = some v/\Q v H):=by
 intro value slice zp s σ H x y v u Q I rx ry h hs
 obtain ⟨g,kvs,k,z,rfl,rfl,m,hv,q⟩:=h
 cases rx
 obtain ⟨vs,rel,dd,hd⟩:=m.dict I.kIn
 obtain ⟨w',hw,rw'⟩:=RelO.some_of (v:=z) (o:=valueAt vs k) (by rw [← hv]; exact rel.val k)
 exact tail_any dd.typeIs PySem.F.slot_dict_getitem.lookup (wpAny_getItem_of (zdp ry) dd.mapOf hw ⟨z,H,I.tok _,rw',q⟩) hs
end L2
namespace D
open PySem L2
end D
namespace L2
open PySem PySem.Spec PyProof.Rows PySem.Builtin PySem.Builtin.Str
def zmG (K:PySem.W.Frag):R2:=fun x y H Q=>(∃ i j,x = .str i/\y = .str j/\i.length + j.length<=sizeLine/\Q (.str (i ++ j)) H)\/zkC K x y H Q \/
 ∃ (a b:Addr) (ys:List V),x = .ref a/\y = .ref b/\SqT K H a []/\SqT K H b ys/\Q (.ref b) H
theorem zkX {X:Cx}:OpR X (binaryOp .Add) (zmG X.K):=OpR.or Zj (OpR.or zhB zji)
theorem zeF:∀ (xs:List Str) (k:Nat),Vals (xs.map V.str) (strsFrom k xs)
 | [],_=>.nil
 | x :: r,k=>.cons ⟨_,rfl⟩ (zeF r (k + 1))
theorem zh5 (x:Str) (cuts:List Nat) (w:Nat):(partsBetween x cuts w).length = cuts.length + 1:=by
 rw [StrLaws.partsBetween_eq]
 have:∀ (l:List Nat) (a:Nat),(StrLaws.partsFrom x w a l).length = l.length + 1:=fun l=>by
  induction l with
  | nil=>intro a; rfl
  | cons c r ih=>intro a; show (StrLaws.partsFrom x w (c + w) r).length + 1 = _; rw [ih]; rfl
 exact this cuts 0
theorem zjm {X:Cx}:MtR X "str.split" (fun x xs H Q=>∃ z d:Str,x = .str z/\xs = [.str d]/\d.length = 1/\z.length<=100000/\∀ l,H l = none->Q (.ref l) (upd H l (.lst ((Txt.split z d).map V.str)))):=by
 intro zp s σ H x xs v us Q I rx rv h
 obtain ⟨z,d,rfl,rfl,hd1,hz,q⟩:=h
 obtain ⟨t,rfl⟩:=rx
 obtain ⟨u,rfl,tu,rfl⟩:=zbf rv
 have hz1:z.length<=sizeLine:=Nat.le_trans hz (by decide)
 have hy:(d.length == 0) = false:=by rw [hd1]; rfl
 have fin:∀ (its:List Value) (tk:Nat),Vals ((Txt.split z d).map V.str) its->(Txt.split z d).length<=sizeLine->EP X zp σ Q (.ref s.heap.objs.size) { s with toks:=tk,heap:=s.heap.push { cls:=.type "list",data:=.seq its.toArray } }:=fun its tk r' hl=>
  ⟨.ref s.heap.objs.size,_,I.laid (t':=tk) (fun b o e=>Heap.get?_push_of_some _ e) (Nat.le_refl _) (show Zh X.prog X.w _ _ _ (.lst ((Txt.split z d).map V.str)) from ⟨by rw [List.length_map]; exact hl,its,0,r',Heap.get?_push_size _ rfl⟩),rfl,q _ (I.hok.fresh (Nat.le_refl _))⟩
 cases h1:(decide (z.length < d.length) || decide (strKind z < strKind d))
 ·cases hf:(occurrences z d 0 z.length (z.length + 1)).isEmpty
  ·have e:Txt.split z d = partsBetween z (occurrences z d 0 z.length (z.length + 1)) d.length:=(if_neg (ne_true_of_eq_false h1)).trans (if_neg (ne_true_of_eq_false hf))
   have hl:(partsBetween z (occurrences z d 0 z.length (z.length + 1)) d.length).length<=sizeLine:=by
    rw [zh5]
    have:=StrLaws.occ_length_le z d 0 z.length (z.length + 1)
    exact Nat.le_trans (show _<=200000 by omega) (by decide)
   refine call_meets F.slot_str_split (typeIs_str _ _ _) F.entry_str_split (F.args_str_split_2 _ _) (meets_str_split_sep z d t tu h1 hy hf hz1 hl) ?_
   exact fin _ _ (by rw [e]; exact zeF _ _) (by rw [e]; exact hl)
  ·have e:Txt.split z d = [z]:=(if_neg (ne_true_of_eq_false h1)).trans (if_pos hf)
   exact call_meets F.slot_str_split (typeIs_str _ _ _) F.entry_str_split (F.args_str_split_2 _ _) (meets_str_split_not_found z d t tu h1 hy hf) (fin [.str z t] s.toks (by rw [e]; exact .cons ⟨t,rfl⟩ .nil) (by rw [e]; show 1<=sizeLine; decide))
 ·have e:Txt.split z d = [z]:=if_pos h1
  exact call_meets F.slot_str_split (typeIs_str _ _ _) F.entry_str_split (F.args_str_split_2 _ _) (meets_str_split_cannot_occur z d t tu h1) (fin [.str z t] s.toks (by rw [e]; exact .cons ⟨t,rfl⟩ .nil) (by rw [e]; show 1<=sizeLine; decide))
end L2
namespace L2
open PySem PySem.Spec PyProof.Rows
theorem zfm {X:Cx}{i:Nat}{y:Str}{py spos:Pos}{elt iter:Expr}{x:Str}{px pos:Pos}{ifs:List Expr}{scope:Scope}{cl:List (Str × Addr)} (fr:List Nat) (ys:List Str) {wi:TI}{tt:TT}{te:TE}
  (hc:X.calm = true) (hclos:closureFor scope X.env = pure cl) (hcell:∀ y∈scope.names,y.2≠.cell) (hkind:scope.kind = .function) (hnames:∀ y∈scope.names,y.2 = .local->scope.names.lookup y.1 = some .local)
  (hx:scope.names.lookup x = some .local) (hnd:(x :: ys).Nodup) (hcl:ClOk cl X.env.cells) (hall:(scope.names.all fun y=>y.2 != .free || (cl.lookup y.1).isSome) = true) (hfr:FrOk X scope cl fr ys)
  (hi:PI X (.Name x px) iter wi)
  (hY:∀ C s H fp,PIfs (zK X scope cl (x :: ys) C s H fp) ifs tt/\PE (zK X scope cl (x :: ys) C s H fp) elt te)
  (hN:X.N.Nodup) (hiy:X.N[i]? = some y) (hy:Loc X.env.scope y) (hsw:swapsWith (.ListComp elt [⟨.Name x px,iter,ifs,0⟩] scope pos) (some (.Name y py)) spos.line X.env = pure true:=by rfl)
  (hf:X.fn y = true\/X.env.scope.names.lookup y = some .local:=by first | exact .inl rfl | exact .inr rfl | assumption)
  (hs:∀ v,foldedSetIterable iter X.env v = pure v:=by intro _; rfl):
  PS X (.Assign [.Name y py] (.ListComp elt [⟨.Name x px,iter,ifs,0⟩] scope pos) spos) (tAsg (zcI fr wi tt te) (Z7 i)):=by
 intro zp s σ H Dn I h
 rw [exec_Assign_Name_used _ _ _ _ hsw]
 refine wpAny_bind (wpAny_standAt (wpAny_bind ?_))
 refine (show wpAny _ X.A (do let _ ← comprehension (.ListComp elt [⟨.Name x px,iter,ifs,0⟩] scope pos) scope X.env _ (newList []) false (eval iter X.env) (some (assign (.Name y py) X.env))) _ _ s from ?_)
 refine wpAny_bind (wpAny_mono (wpAny_comprehension_free (use:=some (assign (.Name y py) X.env)) (Q:=fun _ s'=>SP X zp Dn .next s') rfl hs hclos hkind hnames (wpAny_mono (hi zp s σ H _ I h) (fun v s1 h1=>wpAny_mono h1 (fun itv s2 h2=>?_) fun _ _ e=>e) fun _ _ e=>e)) (fun _ s' hq=>wpAny_pure (wpAny_pure hq)) fun _ _ e=>e)
 obtain ⟨it,fp,tn,J,H2,rfl,I2,T,st2,f2,W,⟨m0,w0⟩,turn⟩:=h2
 refine wpAny_newObj_type (wpAny_newFunctionEnv hcell (by intro y hy; simp at hy) (fun h₁ hns₁ hsb₁=>?_) hkind)
 dsimp only at hns₁ hsb₁ ⊢
 generalize hP2:s2.heap.push { cls:=.type "list",dict:=none,data:=.seq ([]:List Value).toArray } = P2 at hns₁ hsb₁ ⊢
 have hC:P2.objs.size = s2.heap.objs.size + 1:=by rw [← hP2,Heap.size_push]
 have hDC:s2.heap.objs.size≠P2.objs.size:=by rw [hC]; exact Nat.ne_of_lt (Nat.lt_succ_self _)
 have hCle:s2.heap.objs.size<=P2.objs.size:=by rw [hC]; exact Nat.le_succ _
 have below:∀ b,b < s2.heap.objs.size->b≠P2.objs.size/\b≠s2.heap.objs.size:=fun b hb=>⟨by rw [hC]; exact Nat.ne_of_lt (Nat.lt_succ_of_lt hb),Nat.ne_of_lt hb⟩
 have old:∀ b o,s2.heap.get? b = some o->h₁.get? b = some o:=fun b o e=>hsb₁.extBut b o (below b (Heap.lt_size e)).1 (Heap.get?_push_of_some _ (hP2 ▸ Heap.get?_push_of_some _ e))
 have hacc:h₁.get? s2.heap.objs.size = some { cls:=.type "list",data:=.seq ([]:List Value).toArray }:=hsb₁.extBut _ _ hDC (Heap.get?_push_of_some _ (hP2 ▸ Heap.get?_push_size _ rfl))
 have fpl:∀ b∈fp,b < s2.heap.objs.size:=fun b hb=>by
  obtain ⟨o,e,_⟩:=T.obj _ _ st2 b hb
  exact Heap.lt_size e
 have tlt:∀ b o,H2 b = some o->b < s2.heap.objs.size:=fun b o e=>I2.hok.lt e
 generalize hCg:P2.objs.size = C at hns₁ hsb₁ hDC hCle below ⊢
 generalize hDg:s2.heap.objs.size = D at hDC below hacc fpl tlt ⊢
 have hDle:D<=C:=by rw [← hDg]; exact hCle
 have cls:∀ y c,cl.lookup y = some c->X.env.cells.lookup y = some c:=fun y c e=>hcl.mem e
 have clt:∀ y c,cl.lookup y = some c->c < D:=fun y c e=>by
  obtain ⟨v,q⟩:=I2.cell y c (cls y c e)
  rw [← hDg]; exact q.lt
 have sub:∀ b∈frs X.stack,b < D:=fun b hb=>by
  rcases List.mem_cons.mp (I2.stkSub b hb) with e | hb
  ·rw [e,← hDg]; exact I2.lt
  ·obtain ⟨_,o,ho,_⟩:=I2.ok.funs.mem hb
   rw [← hDg]; exact Nat.lt_of_lt_of_le (Heap.lt_size ho) I2.sz
 obtain ⟨YI,YE⟩:=hY C s2 H2 fp
 have Yok:(zK X scope cl (x :: ys) C s2 H2 fp).Ok:=by
  refine ⟨I2.ok.mod,hkind,I2.ok.glob,I2.ok.blt,hCle,?_,?_,?_,fun _=>I2.ok.hd hc,I2.ok.frames,.inl rfl,?_,I2.bs,Nat.le_trans I2.ok.bsz I2.sz,?_,?_,I2.stack,I2.stkFree⟩
  ·exact fun y z c e1 e2=>I2.ok.inj y z c (cls y c e1) (cls z c e2)
  ·intro y hy
   have hm:=zah (env:=X.env) (names:=scope.names) (x:=y) hcell hy
   have q:=List.all_eq_true.mp hall _ hm
   show ∃ c,cl.lookup y = some c
   exact Option.isSome_iff_exists.mp (by simpa using q)
  ·intro y c hf _
   exact absurd hf (by show ¬ false = true; decide)
  ·intro b hb
   refine ⟨(below b (fpl b hb)).1,fun y c e z=>?_⟩
   exact (f2 b hb).2.2.2.2.1 y c (cls y c e) z
  ·intro b o e hb
   have hb:b∈fp:=hb
   rcases (f2 b hb).2.2.2.1 with z | z
   ·exact I2.ok.noex b o e z
   ·exact absurd (Nat.lt_of_lt_of_le (Heap.lt_size e) (Nat.le_trans I2.ok.bsz z)) (Nat.lt_irrefl _)
  ·intro b hb hf
   have hb:b∈fp:=hb
   rcases List.mem_cons.mp (I2.stkSub b hf) with e | hf
   ·exact (f2 b hb).2.1 e
   ·exact (f2 b hb).2.2.1 hf
 have hvis:Loc (zK X scope cl (x :: ys) C s2 H2 fp).env.scope x:=.inl (lookup_relabel_local hx)
 have start:∀ tk,Inv (zK X scope cl (x :: ys) C s2 H2 fp) [] (none :: frees fr σ) H2 { s2 with heap:=h₁,toks:=tk }:=fun tk=>by
  refine ⟨Yok,rfl,I2.bare,Un.kept old,⟨_,hns₁,fun i y v e1 e2 e3=>?_⟩,fun y c e=>?_,?_,fun y c e=>?_,fun p hp=>absurd (show p∈([]:List (Addr × Obj)) from hp) (by simp),I2.hok.kept old,?_⟩
  ·cases i with
   | zero=>simp at e2
   | succ j=>
    obtain ⟨i',n1,n2,n3,n4,n5,c,n6⟩:=zcJ hfr j y v (by simpa [zK] using e1) (by simpa using e2)
    obtain ⟨m,hn,hl⟩:=I2.loc
    obtain ⟨u,r,l⟩:=hl i' y v n1 n2 n4
    refine ⟨u,r,.inr ⟨Z8 n3,c,n6,?_⟩⟩
    rcases l with ⟨k,_⟩ | ⟨k,c',e,z⟩
    ·exact absurd k n5
    ·rw [cls y c n6] at e
     cases e
     obtain ⟨o,ho,hd⟩:=z
     exact ⟨o,old _ _ ho,hd⟩
  ·obtain ⟨v,o,ho,hd⟩:=I2.cell y c (cls y c e)
   exact ⟨v,o,old _ _ ho,hd⟩
  ·show H2 C = none
   cases q:H2 C with
   | none=>rfl
   | some o=>exact absurd (tlt C o q) (Nat.not_lt.mpr hDle)
  ·exact I2.freeC y c (cls y c e)
  ·show (none :: frees fr σ).length = (x :: ys).length
   rw [List.length_cons,List.length_cons,zcK hfr]
 have fpY:∀ {pl:List (Addr × Obj)}{H':Hp},(∀ b∈fp,H' b = none)->(∀ p∈pl,p.1 = D)->∀ b∈fp,FpOk (zK X scope cl (x :: ys) C s2 H2 fp) pl H' b:=fun {pl H'} hn hpl b hb=>by
  refine ⟨hn b hb,(below b (fpl b hb)).1,Yok.exfs b hb,.inl hb,fun y c e z=>(f2 b hb).2.2.2.2.1 y c (cls y c e) z,fun p hp=>?_⟩
  have hp:p∈[] ++ pl:=hp
  rw [List.nil_append] at hp
  rw [hpl p hp]
  exact (below b (fpl b hb)).2.symm
 have loop:∀ s₃:Shared,(∃ tk,s₃ = { s2 with heap:=h₁,toks:=tk })->
   codeAny (model X.prog X.w) X.A (.compLoop (.ListComp elt [⟨.Name x px,iter,ifs,0⟩] scope pos) 0 (.ref it) (.ref D) (compEnvC scope cl C X.env))
    (compPost (model X.prog X.w) X.A X.xe (some (assign (.Name y py) X.env)) (fun _ s'=>SP X zp Dn .next s') (.ref D) C) s₃:=by
  rintro s₃ ⟨tk,rfl⟩
  refine zet
   (fun k s'=>∃ i vs ws nn H',Inv (zK X scope cl (x :: ys) C s2 H2 fp) [] (none :: frees fr σ) H' s'/\tn i s'.heap/\(∀ b∈fp,H' b = none)/\H' D = none /\
    s'.heap.get? D = some { cls:=.type "list",data:=.seq (ws:List Value).toArray nn }/\Vals vs ws/\W i k vs H') ?_ m0
   ⟨0,[],[],0,H2,start tk,T.keep _ _ _ st2 fun b _ o e=>old b o e,fun b hb=>(f2 b hb).1,?_,hacc,.nil,w0⟩
  ·rintro n s3 ⟨i,vs,ws,nn,H3,I3,st3,fr3,hD3,ho3,rv3,w3⟩
   have I3':Inv (zK X scope cl (x :: ys) C s2 H2 fp) [(D,{ cls:=.type "list",data:=.seq ws.toArray nn })] (none :: frees fr σ) H3 s3:=I3.pins_of fun p hp=>by
    have e:p = (D,{ cls:=.type "list",data:=.seq ws.toArray nn }):=by simpa using hp
    subst e
    refine ⟨ho3,hD3,hDC,fun z=>absurd (sub D z) (Nat.lt_irrefl _),fun v z=>?_⟩
    have z':Data.seq ws.toArray nn = Data.cell v:=z
    cases z'
   have fp3:=fpY (pl:=[(D,{ cls:=.type "list",data:=.seq ws.toArray nn })]) fr3 (fun p hp=>by rw [List.mem_singleton.mp hp])
   obtain ⟨hsz,alt⟩:=turn i n vs H3 w3
   rcases alt with ⟨stop,fin⟩ | ⟨go,step⟩
   ·refine thn (T.done (zK X scope cl (x :: ys) C s2 H2 fp) rfl rfl rfl rfl i _ s3 _ H3 _ I3' fp3 st3 stop) fun r s4 ⟨hr,I4⟩=>?_
    subst hr
    have pD:=I4.pin (D,{ cls:=.type "list",data:=.seq ws.toArray nn }) (by show _∈[] ++ _; simp)
    obtain ⟨m4,hn4,_⟩:=I4.loc
    have hC4:H3 C = none:=I4.free
    have hok4:HOk X.prog X.w (upd H3 D (.lst vs)) s4.heap:=HOk.track I4.hok hD3 ⟨hsz,ws,nn,rv3,pD.1⟩
    have b4:=I4.base
    have un4:Un (frs X.stack) fp H2 (upd H3 D (.lst vs)) s2.heap s4.heap:=by
     have lt:∀ b o,s2.heap.get? b = some o->b < D:=fun b o e=>by rw [← hDg]; exact Heap.lt_size e
     refine ⟨b4.keep,b4.slot,fun b o e n hx=>?_,b4.there,fun b zs e=>?_,fun b o u e=>?_,fun b ps e=>?_⟩
     ·rw [zg (below b (lt b o e)).2]; exact b4.free b o e n hx
     ·rw [zg (below b (tlt b _ e)).2]; exact b4.tups b zs e
     ·rw [zg (below b (tlt b _ e)).2]; exact b4.frzs b o u e
     ·rw [zg (below b (tlt b _ e)).2]; exact b4.tbls b ps e
    have I5:Inv X zp σ (upd H3 D (.lst vs)) s4:=I2.call' (ch:=fp) I4.os un4 hok4 I4.bare fun b hb=>⟨(f2 b hb).2.2.2.1,(f2 b hb).2.1,(f2 b hb).2.2.2.2.1,(f2 b hb).2.2.2.2.2⟩
    have fC:FpOk X zp (upd H3 D (.lst vs)) C:=I2.fpOk (by rw [hDg]; exact hDle) (by rw [zg hDC.symm]; exact hC4)
    refine (show wpAny _ X.A (assign (.Name y py) X.env (.ref D)) _ _ s4 from wpAny_assign_Name (zd6 I5 hN hiy hy (v:=.ref D) rfl (fun s5 I6 ⟨a,hsa,ha⟩=>?_) hf))
    have aC:C≠a:=by
     rcases ha with ha | ha
     ·rw [ha]; exact fC.2.1
     ·exact (fC.2.2.2.2.1 _ _ ha).symm
    refine ⟨m4,hn4.sameBut hsa aC,fun h' hs'=>⟨_,upd H3 D (.lst vs),I6.turned (t':=s5.toks) (it:=C) (fun b o hb e=>(hs'.2 b hb).trans e) fC.1 fC.2.1 fC.2.2.2.1 fC.2.2.2.2.1 fC.2.2.2.2.2,fin D hD3⟩⟩
   ·refine thn (T.item (zK X scope cl (x :: ys) C s2 H2 fp) rfl rfl rfl rfl i _ s3 _ H3 _ I3' fp3 st3 go) fun r s4 ⟨u,hr,h4⟩=>?_
    subst hr
    refine thn h4 fun _ s5 ⟨v,H5,I5,r5,y5,st5,fr5⟩=>?_
    have fp5:=fpY (pl:=[(D,{ cls:=.type "list",data:=.seq ws.toArray nn })]) fr5 (fun p hp=>by rw [List.mem_singleton.mp hp])
    have I5':=I5.pinned fp5 (T.obj _ _ st5)
    refine thn (zV (X:=zK X scope cl (x :: ys) C s2 H2 fp) (i:=0) (pos:=px) hnd rfl hvis (.inr (lookup_relabel_local hx)) _ s5 _ H5 v u (fun σ' H'=>σ' = some v :: frees fr σ/\H' = H5) I5' r5 ⟨rfl,rfl⟩) fun _ s6 ⟨σ6,H6,I6,e6,e6'⟩=>?_
    subst e6 e6'
    refine thn (YI _ s6 _ _ _ I6 (step v H6 y5)) fun b s7 ⟨H7,I7,q7⟩=>?_
    have back:∀ {H8:Hp}{s8:Shared},Inv (zK X scope cl (x :: ys) C s2 H2 fp) ([(D,{ cls:=.type "list",data:=.seq ws.toArray nn })] ++ zdc fp s5.heap) (some v :: frees fr σ) H8 s8->
      s8.heap.get? D = some { cls:=.type "list",data:=.seq ws.toArray nn }/\H8 D = none/\(∀ b∈fp,H8 b = none)/\(∀ b∈fp,∀ o,s5.heap.get? b = some o->s8.heap.get? b = some o):=fun {H8 s8} I8=>by
     have pD:=I8.pin (D,{ cls:=.type "list",data:=.seq ws.toArray nn }) (by show _∈[] ++ _; simp)
     refine ⟨pD.1,pD.2.1,fun b hb=>?_,fun b hb o e=>?_⟩
     ·obtain ⟨o,e,d⟩:=T.obj _ _ st5 b hb
      exact (I8.pin (b,o) (List.mem_append_right _ (List.mem_append_right _ (Z5 hb e)))).2.1
     ·exact (I8.pin (b,o) (List.mem_append_right _ (List.mem_append_right _ (Z5 hb e)))).1
    have weak:∀ {H8:Hp}{s8:Shared},Inv (zK X scope cl (x :: ys) C s2 H2 fp) [] (some v :: frees fr σ) H8 s8->Inv (zK X scope cl (x :: ys) C s2 H2 fp) [] (none :: frees fr σ) H8 s8:=fun {H8 s8} I8=>
     I8.weak rfl fun i v' e=>by
      cases i with
      | zero=>simp at e
      | succ j=>simpa using e
    have nopin:∀ {H8:Hp}{s8:Shared}{pl:List (Addr × Obj)},Inv (zK X scope cl (x :: ys) C s2 H2 fp) pl (some v :: frees fr σ) H8 s8->Inv (zK X scope cl (x :: ys) C s2 H2 fp) [] (some v :: frees fr σ) H8 s8:=fun {H8 s8 pl} I8=>
     I8.pins_of fun p hp=>absurd hp (by simp)
    cases b with
    | false=>
     rw [if_neg Bool.false_ne_true] at q7 ⊢
     obtain ⟨m',hm,w7⟩:=q7
     obtain ⟨k1,k2,k3,k4⟩:=back I7
     exact ⟨m',hm,i + 1,vs,ws,nn,H7,weak (nopin I7),T.keep _ _ _ st5 k4,k3,k2,k1,rv3,w7⟩
    | true=>
     rw [if_pos rfl] at q7 ⊢
     refine thn (YE _ s7 _ _ _ I7 q7) fun u8 s8 ⟨y8,H8,I8,r8,m',hm,w8⟩=>?_
     obtain ⟨k1,k2,k3,k4⟩:=back I8
     refine append_at (hsz:=by rw [List.size_toArray,← rv3.length]; exact hsz) k1 fun h9 hs9 ho9=>?_
     have I9:Inv (zK X scope cl (x :: ys) C s2 H2 fp) [] (some v :: frees fr σ) H8 { s8 with heap:=h9 }:=
      (nopin I8).turned (t':=s8.toks) (it:=D) (fun b o hb e=>(hs9.2 b hb).trans e) k2 hDC (.inr (by rw [← hDg]; exact Nat.le_refl _)) (fun y c e=>Nat.ne_of_lt (clt y c e)) fun p hp=>absurd (show p∈([]:List (Addr × Obj)) from hp) (by simp)
     refine ⟨m',hm,i + 1,vs ++ [y8],ws ++ [u8],nn + 1,H8,weak I9,?_,k3,k2,?_,rv3.append (.cons r8 .nil),w8⟩
     ·refine T.keep _ _ _ st5 fun b hb o e=>?_
      exact (hs9.2 b (below b (fpl b hb)).2).trans (k4 b hb o e)
     ·rw [ho9,List.push_toArray]
  ·cases q:H2 D with
   | none=>rfl
   | some o=>exact absurd (tlt D o q) (Nat.lt_irrefl _)
 exact codeAny_compStart_list (loop _ ⟨_,rfl⟩) (T.self _ 0 _ _ _ (T.keep _ _ _ st2 fun b _ o e=>old b o e) (loop _ ⟨_,rfl⟩))
end L2
namespace D
open PySem L2
theorem zfm {X:Cx}{i:Nat}{y:Str}{py spos:Pos}{elt iter:Expr}{x:Str}{px pos:Pos}{ifs:List Expr}{scope:Scope}{cl:List (Str × Addr)} (fr:List Nat) (ys:List Str) {wi:TI}{tt:TT}{te:TE}
  (hc:X.calm = true) (hclos:closureFor scope X.env = pure cl) (hcell:∀ y∈scope.names,y.2≠.cell) (hkind:scope.kind = .function) (hnames:∀ y∈scope.names,y.2 = .local->scope.names.lookup y.1 = some .local)
  (hx:scope.names.lookup x = some .local) (hnd:(x :: ys).Nodup) (hcl:ClOk cl X.env.cells) (hall:(scope.names.all fun y=>y.2 != .free || (cl.lookup y.1).isSome) = true) (hfr:FrOk X scope cl fr ys)
  (hi:QI X (.Name x px) iter wi)
  (hY:∀ C s H fp,QIfs (zK X scope cl (x :: ys) C s H fp) ifs tt/\QE (zK X scope cl (x :: ys) C s H fp) elt te)
  (hN:X.N.Nodup) (hiy:X.N[i]? = some y) (hy:L2.Loc X.env.scope y) (hsw:swapsWith (.ListComp elt [⟨.Name x px,iter,ifs,0⟩] scope pos) (some (.Name y py)) spos.line X.env = pure true:=by rfl)
  (hf:X.fn y = true\/X.env.scope.names.lookup y = some .local:=by first | exact .inl rfl | exact .inr rfl | assumption)
  (hs:∀ v,foldedSetIterable iter X.env v = pure v:=by intro _; rfl):
  QS X (.Assign [.Name y py] (.ListComp elt [⟨.Name x px,iter,ifs,0⟩] scope pos) spos) (tAsg (zcI fr wi tt te) (Z7 i)):=
 ⟨L2.zfm fr ys hc hclos hcell hkind hnames hx hnd hcl hall hfr hi.un (fun C s H fp=>⟨(hY C s H fp).1.un,(hY C s H fp).2.un⟩) hN hiy hy hsw hf hs⟩
end D
namespace L2
open PySem PySem.Spec PyProof.Rows
def zkc (P:Program) (w:World) (K:PySem.W.Frag) (td ty tx:TE):TE:=fun σ H Q=>td σ H fun x H1=>∃ (g:Addr) (kvs:List (Key × V)),x = .ref g/\MD P w K g kvs/\ty σ H1 fun y H2=>tx σ H2 fun z H3=>∃ k:Key,y = kV k/\Q ((valV kvs k).getD z) H3
theorem zdB {X:Cx}{o e f:Expr}{apos cpos:Pos}{td ty tx:TE} (ho:PE X o td) (he:PE X e ty) (hf:PE X f tx) (m:M2 X o "get" apos e f cpos):PE X (.Call (.Attribute o "get" apos) [e,f] [] cpos) (zkc X.prog X.w X.K td ty tx):=by
 intro zp s σ H Q I h
 refine wpAny_Call_method m.base m.few m.line PySem.F.plainAttrs_dict PySem.F.slot_dict_get PySem.F.type_dict_get (thn (ho zp s σ H _ I h) fun u s1 ⟨x,H1,I1,rx,a,kvs,ex,d,q1⟩=>?_)
 subst ex
 obtain rfl:u = Value.ref a:=rx
 obtain ⟨vs1,rel1,dd1,hd1⟩:=d.dict I1.kIn
 refine ⟨dd1.typeIs,fun b q=>?_,?_⟩
 ·cases q
  obtain ⟨ob,_,_,h1,h2,_⟩:=dd1
  exact ⟨ob,h1,h2.2.1⟩
 rw [m.trees]
 refine Calls.callWith_builtin rfl (Calls.evalArgs_plain (Calls.spliced_cons (thn (he zp s1 σ H1 _ I1 q1) fun iv s2 ⟨y,H2,I2,ry,q2⟩=>
  Calls.spliced_cons (thn (hf zp s2 σ H2 _ I2 q2) fun fv s3 ⟨z,H3,I3,rz,k,ey,q3⟩=>Calls.spliced_nil ?_))))
 subst ey
 obtain ⟨vs,rel,dd,hd⟩:=d.dict I3.kIn
 refine call_meetsIn PySem.F.slot_dict_get dd.typeIs PySem.F.entry_dict_get (PySem.F.args_dict_get_3 _ _ _) (meets_dict_get_default (zF X.prog X.w) a (zdp ry) hd fv) ⟨_,dd.mapOf,?_⟩
 exact ⟨_,H3,I3.tok _,(rel.val k).getD rz,q3⟩
end L2
namespace D
open PySem L2
theorem zdB {X:Cx}{o e f:Expr}{apos cpos:Pos}{td ty tx:TE} (ho:QE X o td) (he:QE X e ty) (hf:QE X f tx) (m:M2 X o "get" apos e f cpos):QE X (.Call (.Attribute o "get" apos) [e,f] [] cpos) (zkc X.prog X.w X.K td ty tx):=⟨L2.zdB ho.un he.un hf.un m⟩
end D
namespace L2
open PySem PySem.Spec PyProof.Rows
def zfn (P:Program) (w:World) (K:PySem.W.Frag) (mg:Str->Option Value) (base:Heap) (C:Addr) (m:Str) (k:Nat) (ps:List Str) (sp:Sp):Prop:=
 ∃ (f:Addr) (fd:FuncData),FnOk P w K mg base CX0 k f fd ps sp/\Binds K fd ps []/\Meth K C m f/\Cls K C
def zfo (P:Program) (w:World) (K:PySem.W.Frag) (mg:Str->Option Value) (base:Heap) (C:Addr) (x:Str) (k:Nat) (ps:List Str) (sp:Sp):Prop:=
 ∃ (f:Addr) (fd:FuncData) (j:Nat),k = j + 1/\FnOk P w K mg base CX0 j f fd ps sp/\Binds K fd ps []/\Mk K C f/\mg x = some (.ref C)
theorem zfn.mono {P:Program}{w:World}{K:PySem.W.Frag}{mg:Str->Option Value}{base:Heap}{C:Addr}{m:Str}{j k:Nat}{ps:List Str}{sp:Sp} (h:zfn P w K mg base C m j ps sp) (e:j<=k):zfn P w K mg base C m k ps sp:=
 let ⟨f,fd,F,r⟩:=h; ⟨f,fd,F.mono e,r⟩
theorem zfo.mono {P:Program}{w:World}{K:PySem.W.Frag}{mg:Str->Option Value}{base:Heap}{C:Addr}{m:Str}{j k:Nat}{ps:List Str}{sp:Sp} (h:zfo P w K mg base C m j ps sp) (e:j<=k):zfo P w K mg base C m k ps sp:=by
 obtain ⟨f,fd,i,rfl,F,r⟩:=h
 exact ⟨f,fd,k - 1,by omega,F.mono (by omega),r⟩
section
variable {X:Cx}{C:Addr}{x m:Str}{k:Nat}{ps:List Str}{sp:Sp}{e o:Expr}{es:List Expr}{ta:TE}{t:TA}{p pos apos:Pos}
theorem pe_m (G:zfn X.prog X.w X.K X.mg X.base C m k ps sp) (hr:Room k X.A) (ho:PE X o ta) (ha:PA X (e :: es) t) {pl:Sem Bool}
  (hst:starEach (e :: es) X.env = (false,eval e X.env) :: starEach es X.env:=by rfl) (hpl:(backTo pos (starEach es X.env)).any (·.1) = false:=by rfl)
  (ht:eval (.Call (.Attribute o m apos) (e :: es) [] pos) X.env = (do
   let ov ← eval o X.env
   standAt apos.atName
   let (f,first) ← holding [ov] (getMethod ov m pl)
   callWith pos f first (backTo pos (starEach (e :: es) X.env)) (backToKw pos (keywordEach [] X.env))):=by rfl):
  PE X (.Call (.Attribute o m apos) (e :: es) [] pos) (zhs C m sp [] E0 ta t):=by
 obtain ⟨f,fd,F,b,mm,c⟩:=G
 exact zhu ho c mm F hr b .nil zkH ha hst hpl ht
theorem zfp (G:zfo X.prog X.w X.K X.mg X.base C x k ps sp) (hr:Room k X.A) (hg:Gl X x) (hdb:(x == ("__debug__":Str)) = false:=by decide):
  PE X (.Call (.Name x p) [] [] pos) (ziT C sp [] E0 tNil):=by
 obtain ⟨f,fd,j,rfl,F,b,mk,mg⟩:=G
 exact ziV mk F hr hg mg b .nil zkH hdb
end
end L2
namespace D
open PySem L2
section
variable {X:Cx}{C:Addr}{x m:Str}{k:Nat}{ps:List Str}{sp:Sp}{e o:Expr}{es:List Expr}{ta:TE}{t:TA}{p pos apos:Pos}
theorem pe_m (G:zfn X.prog X.w X.K X.mg X.base C m k ps sp) (hr:Room k X.A) (ho:QE X o ta) (ha:QA X (e :: es) t) {pl:Sem Bool}
  (hst:starEach (e :: es) X.env = (false,eval e X.env) :: starEach es X.env:=by rfl) (hpl:(backTo pos (starEach es X.env)).any (·.1) = false:=by rfl)
  (ht:eval (.Call (.Attribute o m apos) (e :: es) [] pos) X.env = (do
   let ov ← eval o X.env
   standAt apos.atName
   let (f,first) ← holding [ov] (getMethod ov m pl)
   callWith pos f first (backTo pos (starEach (e :: es) X.env)) (backToKw pos (keywordEach [] X.env))):=by rfl):
  QE X (.Call (.Attribute o m apos) (e :: es) [] pos) (zhs C m sp [] E0 ta t):=⟨L2.pe_m G hr ho.un ha.un hst hpl ht⟩
theorem zfp (G:zfo X.prog X.w X.K X.mg X.base C x k ps sp) (hr:Room k X.A) (hg:Gl X x) (hdb:(x == ("__debug__":Str)) = false:=by decide):
  QE X (.Call (.Name x p) [] [] pos) (ziT C sp [] E0 tNil):=⟨L2.zfp G hr hg hdb⟩
end
end D
namespace L2
open PySem PySem.Spec PyProof.Rows
theorem Inv.turnedL {X:Cx}{zp:List (Addr × Obj)}{σ:St}{H:Hp}{s:Shared}{h':Heap}{t':Nat}{fp:List Addr} (I:Inv X zp σ H s) (k:∀ b o,b ∉ fp->s.heap.get? b = some o->h'.get? b = some o) (hf:∀ b∈fp,FpOk X zp H b):
  Inv X zp σ H { s with heap:=h',toks:=t' }:=by
 have nit:∀ b u,H b = some u->b ∉ fp:=fun b u e z=>by
  have:=(hf b z).1
  rw [e] at this
  cases this
 refine I.step (g':=s.gens) (d':=s.drawn) (ch:=fp) (fun b hb=>?_) (fun b o _ _ hc e _=>k b o hc e) (fun b o _ _ hc e _=>⟨o.slots,k b o hc e⟩) (fun _ _ _ _ n=>n)
  (fun b o hc e=>⟨o,k b o hc e⟩) (fun _ _ e=>e) (fun _ _ _ e=>e) (fun b ps e=>⟨#[],by rw [e]; simp⟩) (fun m hm=>?_) (fun b u e=>?_) I.bare
 ·obtain ⟨f0,f1,f2,f3,f4,f5⟩:=hf b hb
  exact ⟨f3,f1,f4,f5⟩
 ·obtain ⟨o,es,ep,ho,r⟩:=hm
  exact ⟨o,es,ep,k _ o (fun z=>(hf _ z).2.1 rfl) ho,r⟩
 ·refine (I.hok b u e).stay (fun c v hc q=>k c v ?_ q) (fun _ q=>q) fun _ _ q=>q
  rcases hc with z | z
  ·rw [z]; exact nit b u e
  ·exact nit c _ z
theorem zjn {h:Heap}{o u:Obj}{b:Addr} (e:(h.push o).get? b = some u) (hb:b < h.objs.size):h.get? b = some u:=by
 rcases Heap.get?_push_cases e with ⟨r,_⟩ | r
 ·rw [r] at hb
  exact absurd hb (Nat.lt_irrefl _)
 ·exact r
def Ite (K:PySem.W.Frag) (a:Addr):It:=
 ⟨fun i H=>∃ xs x,SqL K H a xs/\xs[i]? = some x,fun i H x H'=>∃ t y,H t = none/\x = .ref t/\(∀ xs,SqL K H a xs->xs[i]? = some y)/\H' = upd H t (.tup [.int i,y]),fun i H=>∃ xs,SqL K H a xs/\xs.length<=i⟩
theorem zh6 {P:Program}{w:World}{K:PySem.W.Frag}{elts:List Expr}{k:Nat}{pos:Pos} (a e it:Addr) (hei:e≠it):Turn P w K (.Tuple elts k pos) (Ite K a) [e,it] e (fun i h=>(∃ old,IsEnum h e it i old)/\h.IsListIter it a i) where
 mem:=by simp
 obj:=fun i h st b hb=>by
  obtain ⟨⟨old,he⟩,hit⟩:=st
  have hc:b = e\/b = it:=by simpa using hb
  rcases hc with rfl | rfl
  ·exact ⟨_,he,fun v z=>by
    have z':Data.fields _ = Data.cell v:=z
    cases z'⟩
  ·obtain ⟨o,eo,c,d⟩:=hit
   exact ⟨o,eo,fun v z=>by rw [d] at z; cases z⟩
 keep:=fun i h h' st kk=>by
  obtain ⟨⟨old,he⟩,hit⟩:=st
  exact ⟨⟨old,kk e (by simp) _ he⟩,hit.at fun o x=>kk it (by simp) o x⟩
 item:=by
  intro X hP hw hK hc i zp s σ H E I hf st hg
  subst hP hw hK
  obtain ⟨⟨old,he⟩,hit⟩:=st
  obtain ⟨xs,x,hq,hx⟩:=hg
  obtain ⟨its,rv,p,hz⟩:=I.list hq
  obtain ⟨u,hu,ru⟩:=rv.get hx
  have hfr:H s.heap.objs.size = none:=I.hok.fresh (Nat.le_refl _)
  have helt:e < s.heap.objs.size:=Heap.lt_size he
  have hilt:it < s.heap.objs.size:=by obtain ⟨_,z,_⟩:=hit; exact Heap.lt_size z
  refine wpAny_pyNext_enum_item he hit p.isList (x:=u) (by simpa using hu) hei fun h' ho hit' hT hsz hk=>⟨_,rfl,wpAny_letOwnedTupleGo_enum ho fun h2 he2 hs2=>?_⟩
  have I1:Inv X zp σ (upd H s.heap.objs.size (.tup [.int i,x])) { s with heap:=s.heap.push { cls:=.type "tuple",data:=.seq #[.int i s.toks,u] },toks:=s.toks }:=
   I.laid (t':=s.toks) (fun b u e=>Heap.get?_push_of_some _ e) (Nat.le_refl _) ⟨zl2,[.int i s.toks,u],.cons ⟨_,rfl⟩ (.cons ru .nil),⟨_,Heap.get?_push_size _ rfl,rfl,_,rfl⟩⟩
  have nn:∀ b∈[e,it],upd H s.heap.objs.size (.tup [.int i,x]) b = none:=fun b hb=>by
   rw [zg (fun z=>by
    have hc:b = e\/b = it:=by simpa using hb
    rcases hc with r | r
    ·rw [← r,z] at helt; exact Nat.lt_irrefl _ helt
    ·rw [← r,z] at hilt; exact Nat.lt_irrefl _ hilt)]
   exact (hf b hb).1
  have I2:Inv X zp σ (upd H s.heap.objs.size (.tup [.int i,x])) { s with heap:=h2,toks:=s.toks + 1 }:=by
   refine Inv.turnedL (s:={ s with heap:=s.heap.push { cls:=.type "tuple",data:=.seq #[.int i s.toks,u] },toks:=s.toks }) (h':=h2) (t':=s.toks + 1) (fp:=[e,it]) I1 (fun b o hb eb=>?_) (fun b hb=>?_)
   ·have hbe:b≠e:=fun z=>hb (by simp [z])
    have hbi:b≠it:=fun z=>hb (by simp [z])
    refine (hs2.2 b hbe).trans ?_
    by_cases hbs:b = s.heap.objs.size
    ·subst hbs
     have e1:(s.heap.push { cls:=.type "tuple",data:=.seq #[.int i s.toks,u] }).get? s.heap.objs.size = some { cls:=.type "tuple",data:=.seq #[.int i s.toks,u] }:=Heap.get?_push_size _ rfl
     have eb:(s.heap.push { cls:=.type "tuple",data:=.seq #[.int i s.toks,u] }).get? s.heap.objs.size = some o:=eb
     rw [e1] at eb
     cases eb
     exact hT
    ·refine hk b o hbe hbi ?_
     have eb:(s.heap.push { cls:=.type "tuple",data:=.seq #[.int i s.toks,u] }).get? b = some o:=eb
     have hlt:=Heap.lt_size eb
     rw [Heap.size_push] at hlt
     exact zjn eb (Nat.lt_of_le_of_ne (Nat.le_of_lt_succ hlt) hbs)
   ·obtain ⟨f0,f1,f2,f3,f4,f5⟩:=hf b hb
    exact ⟨nn b hb,f1,f2,f3,f4,f5⟩
  refine ⟨.ref s.heap.objs.size,_,I2,rfl,⟨s.heap.objs.size,x,hfr,rfl,fun ys hy=>by rw [I.list_inj hy hq]; exact hx,rfl⟩,⟨⟨_,by simpa using he2⟩,hit'.at fun o y=>(hs2.2 it hei.symm).trans y⟩,nn⟩
 done:=by
  intro X hP hw hK hc i zp s σ H E I hf st hg
  subst hP hw hK
  obtain ⟨⟨old,he⟩,hit⟩:=st
  obtain ⟨xs,hq,hx⟩:=hg
  obtain ⟨its,rv,p,hz⟩:=I.list hq
  have hl:=rv.length
  refine wpAny_pyNext_enum_end (I.ok.hd hc) he hit p.isList (by simp; omega) fun h' eb=>⟨rfl,?_⟩
  exact I.turnedL (t':=s.toks) (fp:=[e,it]) (fun b o hb e'=>eb b o (fun z=>hb (by simp [z])) e') hf
 self:=fun _ _ _ _ _ st h=>by
  obtain ⟨⟨old,he⟩,_⟩:=st
  exact wpAny_pyIter_enum he h
theorem zh7:bootBuiltins (Str.ofString "enumerate") = some (.type "enumerate"):=by kernel_rfl
def zmb (K:PySem.W.Frag) (ta:TA):TI:=fun σ H R=>ta σ H fun vs H1=>∃ (a:Addr) (xs:List V),vs = [.ref a]/\SqL K H1 a xs/\R (Ite K a) H1
theorem zdC {X:Cx}{elts:List Expr}{k:Nat}{ps:Pos}{a:Expr}{ta:TA}{p pos:Pos} (hg:Gl X "enumerate") (hm:X.mg "enumerate" = none) (ha:PA X [a] ta) (hs:starEach [a] X.env = [(false,eval a X.env)]:=by rfl):
  PI X (.Tuple elts k ps) (.Call (.Name "enumerate" p) [a] [] pos) (zmb X.K ta):=by
 intro zp s σ H R I h
 refine Call_ (zda I hg hm zh7 (PyProof.Rows.callWith_type1 (thn (ha pos zp s σ H _ I h) fun us s1 ⟨vs,H1,I1,r1,q1⟩=>?_) hs rfl))
 obtain ⟨b,xs,e,hq,q⟩:=q1
 subst e
 obtain ⟨u,rfl,rx⟩:=zbf r1
 cases rx
 obtain ⟨its,rv,pl,hz⟩:=I1.list hq
 refine call_enumerate_list pl.isList fun h' he hi hsz hk=>?_
 have hne:s1.heap.objs.size + 1≠s1.heap.objs.size:=Nat.succ_ne_self _
 refine wpAny_pyIter_enum he ?_
 have I2:Inv X zp σ H1 { s1 with heap:=h',toks:=s1.toks }:=I1.kept (t':=s1.toks) hk
 refine ⟨s1.heap.objs.size + 1,[s1.heap.objs.size + 1,s1.heap.objs.size],_,_,H1,rfl,I2,zh6 b _ _ hne,⟨⟨_,he⟩,hi⟩,fun c hc=>?_,q⟩
 have hcs:c = s1.heap.objs.size + 1\/c = s1.heap.objs.size:=by simpa using hc
 have hle:s1.heap.objs.size<=c:=by
  rcases hcs with r | r
  ·rw [r]; exact Nat.le_succ _
  ·rw [r]; exact Nat.le_refl _
 exact I1.fpOk hle (I1.hok.fresh hle)
theorem zf5 {K:PySem.W.Frag}{a:Addr}{xs:List V}{g:TG}{tb:TS}{D:Ends}{σ:St}{H:Hp} (Pv:Nat->St->Hp->Prop) (h0:Pv 0 σ H) (hl:∀ i σ H,i<=xs.length->Pv i σ H->SqL K H a xs)
  (hs:∀ i x t σ H,xs[i]? = some x->H t = none->Pv i σ H->g (.ref t) σ (upd H t (.tup [.int i,x])) fun σ2 H2=>tb { D with nx:=Pv (i + 1),ct:=Pv (i + 1),bk:=D.nx } σ2 H2) (hd:∀ σ H,Pv xs.length σ H->D.nx σ H):
  ∃ W:Nat->Nat->St->Hp->Prop,(∃ m,W 0 m σ H)/\∀ i m σ H,W i m σ H->
   ((Ite K a).stop i H/\D.nx σ H)\/((Ite K a).go i H/\∃ N:St->Hp->Prop,(∀ σ' H',N σ' H'->∃ m',m' < m/\W (i + 1) m' σ' H')/\∀ x H',(Ite K a).yld i H x H'->g x σ H' fun σ2 H2=>tb { D with nx:=N,ct:=N,bk:=D.nx } σ2 H2):=by
 refine ⟨fun i m σ H=>m = xs.length - i/\i<=xs.length/\Pv i σ H,⟨xs.length,by simp,Nat.zero_le _,h0⟩,?_⟩
 rintro i m σ H ⟨rfl,hi,p⟩
 have q:=hl i σ H hi p
 by_cases hlt:i < xs.length
 ·refine .inr ⟨⟨xs,xs[i],q,by simp [hlt]⟩,Pv (i + 1),fun σ' H' p'=>⟨xs.length - (i + 1),by omega,rfl,hlt,p'⟩,fun x H' y=>?_⟩
  obtain ⟨t,y,ht,rfl,hy,rfl⟩:=y
  exact hs i y t σ H (hy xs q) ht p
 ·have e:i = xs.length:=by omega
  subst e
  exact .inl ⟨⟨xs,q,Nat.le_refl _⟩,hd σ H p⟩
end L2
namespace D
open PySem L2
theorem zdC {X:Cx}{elts:List Expr}{k:Nat}{ps:Pos}{a:Expr}{ta:TA}{p pos:Pos} (hg:Gl X "enumerate") (hm:X.mg "enumerate" = none) (ha:QA X [a] ta) (hs:starEach [a] X.env = [(false,eval a X.env)]:=by rfl):
  QI X (.Tuple elts k ps) (.Call (.Name "enumerate" p) [a] [] pos) (zmb X.K ta):=⟨L2.zdC hg hm ha.un hs⟩
end D
namespace D
open PySem L2 PySem.Spec PyProof.Rows
theorem zmc {X:Cx} (hu:X.A.units < cLine):OpR X (compareOp .Eq) (fun x y H Q=>∃ (a b:Addr) (us:List V),x = .ref a/\y = .ref b/\SqL X.K H a us/\SqL X.K H b []/\Q (.bl us.isEmpty) H):=by
 intro zp s σ H x y v u Q I rx ry h
 obtain ⟨a,b,us,rfl,rfl,ha,hb,q⟩:=h
 cases rx
 cases ry
 obtain ⟨its,v1,p1,_⟩:=I.list ha
 obtain ⟨its2,v2,p2,_⟩:=I.list hb
 have l1:=v1.length
 have l2:=v2.length
 cases us with
 | nil=>
  refine SeqAt.eq_listAt (e:=fun _=>true) p1.isList p2.isList (by rw [List.size_toArray,List.size_toArray]; omega) hu (fun j h1 h2=>?_) ?_
  ·have h3:j < its.length:=by simpa using h1
   exact absurd h3 (by rw [← l1]; exact Nat.not_lt_zero _)
  ·have e:((List.range its.toArray.size).all fun _=>true) = true:=by simp
   rw [e]
   exact ⟨.bl true,H,I,rfl,q⟩
 | cons x r=>
  have hsz:(its.toArray.size != its2.toArray.size) = true:=by
   rw [List.size_toArray,List.size_toArray,← l1,← l2]
   simp
  exact SeqAt.eq_list_lengthsAt p1.isList p2.isList hsz hu ⟨.bl false,H,I,rfl,q⟩
end D
namespace L2
open PySem PySem.Spec PyProof.Rows
def txOf:Value->Str
 | .str z _=>z
 | _=>Str.ofString ""
def byTx (w:World):Bool:=w.params.followText "set-order"
def Tabled (w:World) (t:SetTable) (n:Nat):Prop:=t.led = !byTx w/\(n = 0\/t.plain = false)
def zbb (P:Program) (w:World) (a:Addr) (ds:List Str) (h:Heap):Prop:=
 ∃ (o:Obj) (es:Array (Int × Value)) (ep:Nat) (t:SetTable),h.get? a = some o/\o.ExactSet/\o.data = .set es ep t/\ElemsOf (zF P w) es.toList/\(∀ e∈es.toList,∃ z tk,e.2 = .str z tk) /\
  (es.toList.map fun e=>txOf e.2).Perm ds/\es.size < scanBound/\t.fits es.size = true/\Tabled w t es.size
def addS (ds:List Str) (z:Str):List Str:=if z∈ds then ds else ds ++ [z]
theorem zjo (t:SetTable) (n:Nat):(t.orStandIn n).led = t.led/\(t.plain = false->(t.orStandIn n).plain = false):=by
 unfold SetTable.orStandIn
 split
 ·exact ⟨rfl,id⟩
 ·exact ⟨rfl,fun _=>rfl⟩
theorem zh8 (t:SetTable) (es:Array (Int × Value)) (h:Int) (x:Value):(layNew t es h x).2.1.led = t.led/\(t.plain = false->(layNew t es h x).2.1.plain = false):=by
 unfold layNew
 split
 ·rename_i slot dm _
  obtain ⟨a,b⟩:=zjo (t.put slot).1 (SetTable.insertAt es (t.put slot).2 (h,x)).size
  exact ⟨a,fun z=>b z⟩
 ·exact ⟨rfl,fun _=>rfl⟩
theorem zeG {t t':SetTable}{hs:Array Int}{n:Nat}{order:Array Nat} (e:t.relaid hs n = some (t',order)):t'.led = t.led/\t'.plain = t.plain:=by
 unfold SetTable.relaid SetTable.laid at e
 cases hc:SetTable.layClean (SetTable.sizeAbove n - 1) hs with
 | none=>rw [hc] at e; cases e
 | some ow=>
  rw [hc] at e
  cases e
  exact ⟨rfl,rfl⟩
theorem zfq (t:SetTable) (es:Array (Int × Value)) (n:Nat):(relayAll t es n).2.1.led = t.led/\(t.plain = false->(relayAll t es n).2.1.plain = false):=by
 unfold relayAll
 split
 ·rename_i t' order e
  obtain ⟨a,b⟩:=zeG e
  dsimp only
  split
  ·exact ⟨a,fun z=>b.trans z⟩
  ·exact ⟨rfl,fun _=>rfl⟩
 ·exact ⟨rfl,fun _=>rfl⟩
theorem zbb.store {P:Program}{w:World}{h:Heap}{a:Addr}{o:Obj}{es es':Array (Int × Value)}{ep:Nat}{t t':SetTable}{ds:List Str} (ho:h.get? a = some o) (hex:o.ExactSet) (hd:o.data = .set es ep t)
  (hel:ElemsOf (zF P w) es'.toList) (htx:∀ e∈es'.toList,∃ z tk,e.2 = .str z tk) (hp:(es'.toList.map fun e=>txOf e.2).Perm ds) (hb:es'.size < scanBound) (hf:t'.fits es'.size = true) (hm:Tabled w t' es'.size):
  (h.update a (Obj.putSet es' t')).get? a = some { o with data:=.set es' (ep + 1) t' }/\zbb P w a ds (h.update a (Obj.putSet es' t')):=by
 have g:(h.update a (Obj.putSet es' t')).get? a = some { o with data:=.set es' (ep + 1) t' }:=by
  rw [← putSet_of es' t' hd]
  exact Heap.get?_update_self _ ho (by rw [putSet_of es' t' hd]; rfl)
 exact ⟨g,_,es',ep + 1,t',g,hex,rfl,hel,htx,hp,hb,hf,hm⟩
section
variable {P:Program}{w:World}{A:Around}{E:Value->Shared->Prop}
theorem zgV {s:Shared}{a:Addr}{ds:List Str}{z:Str}{tk:Tok}{Q:Bool->Shared->Prop} (hS:zbb P w a ds s.heap) (room:ds.length + 1 < scanBound)
  (h:∀ (b:Bool) (h':Heap),Heap.SameBut a s.heap h'->zbb P w a (addS ds z) h'->Q b { s with heap:=h' }):
  wpAny (model P w) A (setAddHashed a (.str z tk) ((zF P w).hash (.inr z))) Q E s:=by
 have hS0:=hS
 obtain ⟨o,es,ep,t,ho,hex,hd,hel,htx,hpm,hb,hf,hmk⟩:=hS
 have hsz:es.size = ds.length:=by
  have:=hpm.length_eq
  rw [List.length_map,Array.length_toList] at this
  exact this
 have is:=Zz P w z tk
 unfold setAddHashed setAddHashedIn
 refine wpAny_holding (wpAny_bind (wpAny_setState_of ho hd hf ?_))
 dsimp only
 rw [byScan_of (knd:=zF P w) (x:=.str z tk) rfl hb hel]
 simp only [↓reduceIte]
 unfold setAddByScan
 refine wpAny_bind (wpAny_bind (wpAny_rule (wpAny_bind (wpAny_setScan_of is ho hd hf hel ?_))))
 cases hr:es.toList.findIdx? (fun e=>(zF P w).is (.inr z) e.2) with
 | some j=>
  obtain ⟨hj,hpj,_⟩:=List.findIdx?_eq_some_iff_getElem.mp hr
  have hin:z∈ds:=by
   obtain ⟨y,u,e⟩:=htx _ (List.getElem_mem hj)
   have hzy:z = y:=by
    rw [e] at hpj
    have:=(zF P w).inj (.str y u) (.inr z) (.inr y) hpj (Zz P w y u)
    exact Sum.inr.inj this
   refine hpm.mem_iff.mp (List.mem_map.mpr ⟨_,List.getElem_mem hj,?_⟩)
   rw [e,hzy]
   rfl
  have key:=h false s.heap (Heap.SameBut.refl a s.heap) (by unfold addS; rw [if_pos hin]; exact hS0)
  exact wpAny_pure (wpAny_pure key)
 | none=>
  have hout:z ∉ ds:=fun hz=>by
   obtain ⟨e,he,hze⟩:=List.mem_map.mp (hpm.mem_iff.mpr hz)
   obtain ⟨y,u,ey⟩:=htx e he
   have h1:=List.findIdx?_eq_none_iff.mp hr e he
   rw [ey] at h1 hze
   have:y = z:=hze
   subst this
   rw [Zz] at h1
   cases h1
  have ead:addS ds z = ds ++ [z]:=by unfold addS; rw [if_neg hout]
  dsimp only
  have hperm:=layNew_perm t es ((zF P w).hash (.inr z)) (.str z tk)
  have hfits:=layNew_fits t es ((zF P w).hash (.inr z)) (.str z tk)
  have hmark:=zh8 t es ((zF P w).hash (.inr z)) (.str z tk)
  generalize layNew t es ((zF P w).hash (.inr z)) (.str z tk) = L at hperm hfits hmark ⊢
  obtain ⟨es1,t1,dm,gave⟩:=L
  dsimp only at hperm hfits hmark ⊢
  rw [Array.toList_push] at hperm
  have hel1:ElemsOf (zF P w) es1.toList:=(hel.push is rfl).perm hperm
  have htx1:∀ e∈es1.toList,∃ z tk,e.2 = .str z tk:=fun e he=>by
   rcases List.mem_append.mp (hperm.mem_iff.mp he) with h1 | h1
   ·exact htx e h1
   ·rw [List.mem_singleton.mp h1]; exact ⟨_,_,rfl⟩
  have hpm1:(es1.toList.map fun e=>txOf e.2).Perm (ds ++ [z]):=by
   refine (hperm.map _).trans ?_
   rw [List.map_append]
   exact hpm.append (List.Perm.refl _)
  have hsz1:es1.size = ds.length + 1:=by
   have:=hpm1.length_eq
   rw [List.length_map,Array.length_toList,List.length_append] at this
   exact this
  have hb1:es1.size < scanBound:=by omega
  have gw:∀ (b:Bool) (s1:Shared) (Q':Unit->Shared->Prop),Q' () s1->wpAny (model P w) A (match b with | true=>rule "set.scan.the-table-gave-way" | false=>pure ()) Q' E s1:=fun b s1 Q' hq=>by
   cases b
   ·exact wpAny_pure hq
   ·exact wpAny_rule hq
  refine wpAny_bind (gw _ _ _ ?_)
  have tail:∀ t2:SetTable,t2.fits es1.size = true->Tabled w t2 es1.size->wpAny (model P w) A (storeSet a es1 t2 >>= fun _=>if (!dm && t2.tooFull) = true then (match (relayAll t2 es1 (SetTable.grown es1.size)).2.2 with | true=>rule "set.scan.the-table-gave-way" | false=>pure ()) >>= fun _=>storeSet a (relayAll t2 es1 (SetTable.grown es1.size)).1 (relayAll t2 es1 (SetTable.grown es1.size)).2.1 >>= fun _=>pure (some true) else pure (some true))
    (fun r s'=>wpAny (model P w) A (match r with | some added=>pure added | none=>setAddHashedIn a (.str z tk) ((zF P w).hash (.inr z)) 99999) Q E s') E s:=fun t2 hf2 hm2=>by
   obtain ⟨g1,S1⟩:=zbb.store (es':=es1) (t':=t2) (ds:=ds ++ [z]) ho hex hd hel1 htx1 hpm1 hb1 hf2 hm2
   refine wpAny_bind (wpAny_storeSet_of ho hd ?_ (fits_of_scanBound hb1))
   have sb1:=Heap.SameBut.update s.heap a (Obj.putSet es1 t2)
   split
   ·have hp:=relayAll_perm t2 es1 (SetTable.grown es1.size)
    have hfr:=relayAll_fits t2 es1 (SetTable.grown es1.size)
    have hmr:=zfq t2 es1 (SetTable.grown es1.size)
    generalize relayAll t2 es1 (SetTable.grown es1.size) = Rl at hp hfr hmr ⊢
    obtain ⟨es2,t3,gv⟩:=Rl
    dsimp only at hp hfr hmr ⊢
    have hz2:es2.size = es1.size:=by rw [← Array.length_toList,hp.length_eq,Array.length_toList]
    have hb2:es2.size < scanBound:=by rw [hz2]; exact hb1
    refine wpAny_bind (gw _ _ _ (wpAny_bind (wpAny_storeSet_of g1 rfl ?_ (fits_of_scanBound hb2))))
    obtain ⟨_,S2⟩:=zbb.store (es':=es2) (t':=t3) (ds:=ds ++ [z]) g1 hex rfl (hel1.perm hp) (fun e he=>htx1 e (hp.mem_iff.mp he)) ((hp.map _).trans hpm1) hb2 hfr ⟨hmr.1.trans hm2.1,.inr (hmr.2 (hm2.2.resolve_left (by omega)))⟩
    exact wpAny_pure (wpAny_pure (h true _ (sb1.trans (Heap.SameBut.update _ a _)) (by rw [ead]; exact S2)))
   ·exact wpAny_pure (wpAny_pure (h true _ sb1 (by rw [ead]; exact S1)))
  split
  ·refine wpAny_bind ?_
   rw [hashByValue_scannable 8 rfl]
   exact wpAny_pure (tail { t1 with plain:=false } (SetTable.fits_plain_off hfits) ⟨hmark.1.trans hmk.1,.inr rfl⟩)
  ·rename_i hpl
   exact wpAny_bind (wpAny_pure (tail t1 hfits ⟨hmark.1.trans hmk.1,.inr (by simpa using hpl)⟩))
def allS (ys:List Str):List Str:=ys.foldl addS []
theorem zh9 (ys:List Str) (z:Str):allS (ys ++ [z]) = addS (allS ys) z:=by unfold allS; rw [List.foldl_append]; rfl
theorem zjp {ds:List Str}{z y:Str}:y∈addS ds z ↔ y∈ds\/y = z:=by
 unfold addS
 split
 ·exact ⟨.inl,fun h=>h.elim id fun e=>by rw [e]; assumption⟩
 ·rw [List.mem_append,List.mem_singleton]
theorem zjq {ds:List Str}{z:Str}:(addS ds z).length<=ds.length + 1:=by
 unfold addS
 split
 ·omega
 ·rw [List.length_append]; exact Nat.le_refl _
theorem zeH {y:Str}:∀ (ys ds:List Str),y∈ys.foldl addS ds ↔ y∈ds\/y∈ys
 | [],ds=>by simp
 | z :: ys,ds=>by rw [List.foldl_cons,zeH ys,zjp,List.mem_cons]; exact or_assoc
theorem zeI:∀ (ys ds:List Str),(ys.foldl addS ds).length<=ds.length + ys.length
 | [],ds=>by simp
 | z :: ys,ds=>by
  have h1:=zeI ys (addS ds z)
  have h2:=zjq (ds:=ds) (z:=z)
  rw [List.foldl_cons,List.length_cons]
  omega
theorem zjr {ys:List Str}{y:Str}:y∈allS ys ↔ y∈ys:=by unfold allS; rw [zeH]; simp
theorem zf6 (ys:List Str):(allS ys).length<=ys.length:=by have:=zeI ys []; simpa [allS] using this
theorem zfr {R:Result->Shared->Prop}{I:Addr}{fp wr:List Addr}{G:Array GenState->Array GenState->Prop}{Pi:Nat->Value->Prop}{St:Nat->Shared->Prop} (ys:List Str)
  (Wk:WalksS P w A.in1 I fp wr G ys.length Pi St) (S:Addr) (hSf:S ∉ fp) (hk:∀ i v,Pi i v->∃ z tk,ys[i]? = some z/\v = .str z tk) (hb:ys.length + 1 < scanBound):
  ∀ (m i:Nat) (s:Shared),m + i = ys.length->St i s->zbb P w S (allS (ys.take i)) s.heap->
   (∀ s',Moved (S :: wr) G s s'->zbb P w S (allS ys) s'.heap->R (.ok (.ret .none)) s')->codeAny (model P w) A (.builtin "set.update.loop" ⟨[.ref S,.ref I],[]⟩) R s:=by
 have out:S ∉ wr:=fun z=>hSf (Wk.sub _ z)
 have wid:∀ b∈wr,b∈S :: wr:=fun b z=>.tail _ z
 have held:∀ (s s':Shared) (ds:List Str),zbb P w S ds s.heap->(∀ o,s.heap.get? S = some o->s'.heap.get? S = some o)->zbb P w S ds s'.heap:=fun s s' ds ⟨o,es,ep,t,ho,rest⟩ k=>⟨o,es,ep,t,k o ho,rest⟩
 intro m
 induction m with
 | zero=>
  intro i s hi st hs fin
  obtain rfl:i = ys.length:=by omega
  rw [List.take_length] at hs
  refine codeAny_builtin PyProof.Rows.F.entry_set_update_loop ?_
  rw [Around.under_plainId PyProof.Rows.F.plain_set_update_loop _]
  refine (show wpAny _ A.in1 (pyNext (.ref I) >>= _) _ _ s from wpAny_bind (Wk.done s _ _ st fun s' mv=>?_))
  exact (show wpAny _ A.in1 (ret Value.none) _ _ s' from wpAny_pure (fin s' (mv.mono wid) (held s s' _ hs fun o e=>mv.heap S o out e)))
 | succ m ih=>
  intro i s hi st hs fin
  have lt:i < ys.length:=by omega
  refine codeAny_builtin PyProof.Rows.F.entry_set_update_loop ?_
  rw [Around.under_plainId PyProof.Rows.F.plain_set_update_loop _]
  refine (show wpAny _ A.in1 (pyNext (.ref I) >>= _) _ _ s from wpAny_bind (Wk.item i s _ _ lt st fun v s' hv st' mv=>?_))
  obtain ⟨z,tk,hz,rfl⟩:=hk i v hv
  have hs':=held s s' _ hs fun o e=>mv.heap S o out e
  refine (show wpAny _ A.in1 (holding [.str z tk] (setAdd S (.str z tk)) >>= _) _ _ s' from wpAny_bind (wpAny_holding ?_))
  unfold setAdd
  refine wpAny_holding (wpAny_bind ((zF P w).pyHash (k:=.inr z) (Zz P w z tk) ?_))
  have hl:=zf6 (ys.take i)
  rw [List.length_take] at hl
  refine zgV (s:={ s' with toks:=s'.toks + 1 }) hs' (by omega) fun b h' sb S2=>?_
  rw [← zh9,show ys.take i ++ [z] = ys.take (i + 1) by rw [List.take_succ,hz]; rfl] at S2
  refine wpAny_pure ⟨plainId_quiet PyProof.Rows.F.plain_set_update_loop _,ih (i + 1) _ (by omega) (Wk.frame _ s' _ _ st' (Nat.le_succ _) fun b hb' o e=>?_) S2 fun s'' mv'' z'=>?_⟩
  ·rw [sb.2 b (fun z:b = S=>hSf (by rw [← z]; exact hb'))]; exact e
  ·refine fin s'' (Moved.trans Wk.gtrans ((mv.mono wid).then_heap (Nat.le_succ _) fun b o hb' e=>?_) mv'') z'
   rw [sb.2 b (fun y:b = S=>hb' (by rw [y]; exact List.mem_cons_self))]; exact e
end
section
variable {P:Program}{w:World}{A:Around}{E:Value->Shared->Prop}
abbrev setO (led:Bool):Obj:={ cls:=.type "set",dict:=none,data:=.set #[] 0 (.fresh 0 0 led) }
theorem zgW {s:Shared} (a:Value) {Q₁:Value->Shared->Prop} (h:Q₁ (.ref s.heap.objs.size) { s with heap:=s.heap.push (setO (!byTx w)) }):
  codeAny (model P w) A (.call (.builtin "set.__new__") ⟨[.type "set",a],[]⟩) (wants Q₁ E) s:=by
 refine codeAny_of_tree (show wpAny _ A.in1 (checkBuiltinCall "set.__new__" ⟨[.type "set",a],[]⟩ >>= fun _=>again (.builtin "set.__new__" ⟨[.type "set",a],[]⟩)) _ _ s from ?_)
 refine wpAny_bind (wpAny_of_eq (PySem.F.newCall_set_1 a) (wpAny_pure ⟨plainId_quiet PySem.F.plain_set_new _,codeAny_builtin PySem.F.entry_set_new ?_⟩))
 rw [Around.under_plainId PySem.F.plain_set_new _]
 unfold Builtin.«set.__new__» Builtin.Frozenset.newClass
 have hsub:=PySem.sub_set_self
 obtain ⟨hp,g,d,tk,os⟩:=s
 dsimp only
 wp_walk
 refine wpAny_askSetting (wpAny_pure ?_)
 simp only [newObj]
 exact wpAny_bind (wpAny_alloc (wpAny_pure (wpAny_pure h)))
set_option maxHeartbeats 8000000 in
theorem zia {s:Shared}{l:Addr}{items:Array Value}{ys:List Str}{Q:Value->Shared->Prop} (hh:A.handled = none) (hl:s.heap.IsList l items) (hz:items.size = ys.length)
  (hk:∀ (i:Nat) (v:Value),items[i]? = some v->∃ z tk,ys[i]? = some z/\v = .str z tk) (hb:ys.length + 1 < scanBound)
  (h:∀ (h':Heap) (tk:Nat),zbb P w s.heap.objs.size (allS ys) h'->(∀ b o,b < s.heap.objs.size->s.heap.get? b = some o->h'.get? b = some o)->Q (.ref s.heap.objs.size) { s with heap:=h',toks:=tk }):
  wpAny (model P w) A (call (.type "set") [.ref l]) Q E s:=by
 obtain ⟨_,_,hmro⟩:=PySem.F.called_set.mro
 have hmade:=PySem.F.called_set.made
 have hsub:=PySem.F.called_set.sub
 refine wpAny_call (codeAny_of_tree (show wpAny _ _ (callAny (.type "set") _) _ _ _ from wpAny_pure ⟨Code.quiet_builtin _ (by decide +kernel),codeAny_builtin PySem.F.entry_type_call ?_⟩))
 rw [Around.under_plain (weight_type_call_type "set" [.ref l] []) rfl]
 have h1:=PySem.F.called_set.notType
 have h2:=PySem.F.called_set.canCreate
 have hct:=PySem.F.typeCall_set_1 (.ref l)
 repeat any_goals (first | assumption | wp_step)
 refine codeAny_mono (zgW (.ref l) (E:=E) (Q₁:=fun obj s₁=>obj = .ref s.heap.objs.size/\s₁ = { s with heap:=s.heap.push (setO (!byTx w)) }) ⟨rfl,rfl⟩) fun r s₁ hr=>?_
 cases r with
 | error e=>exact hr
 | ok fl=>
  cases fl with
  | ret obj=>
   obtain ⟨rfl,rfl⟩:=hr
   have gS:(s.heap.push (setO (!byTx w))).get? s.heap.objs.size = some (setO (!byTx w)):=Heap.get?_push_size _ rfl
   have tS:Shared.TypeIs { s with heap:=s.heap.push (setO (!byTx w)) } (.ref s.heap.objs.size) "set":=⟨_,gS,rfl⟩
   have hli:=PySem.F.called_set.init.lookup
   have hbi:=PySem.F.called_set.init.bind (.ref s.heap.objs.size)
   repeat any_goals (first | assumption | wp_step)
   refine codeAny_mono (codeAny_call_builtin (R:=wants (fun r s₂=>r = .none/\∃ h' tk,s₂ = { s with heap:=h',toks:=tk }/\zbb P w s.heap.objs.size (allS ys) h'/\∀ b o,b < s.heap.objs.size->s.heap.get? b = some o->h'.get? b = some o) E)
    PySem.F.called_set.init.plain PySem.F.entry_set_init (check_set_init_1 tS ?_)) fun r₂ s₂ hr₂=>?_
   ·obtain ⟨ol,hol,hcl,nl,hdl⟩:=hl
    obtain ⟨ocls,odict,odata,oslots⟩:=ol
    simp only at hcl hdl
    subst hcl hdl
    have hol':(s.heap.push (setO (!byTx w))).get? l = some { cls:=.type "list",dict:=odict,data:=.seq items nl,slots:=oslots }:=Heap.get?_push_of_some _ hol
    have hsls:=PySem.F.sub_list_set
    have hslf:=PySem.F.sub_list_frozenset
    have hne:(Value.type "list" == Value.type "dict") = false:=by decide
    have hl1:(s.heap.push (setO (!byTx w))).IsList l items:=⟨_,hol',rfl,nl,rfl⟩
    unfold Builtin.«set.__init__» noKeywords Builtin.Frozenset.updateFrom
    generalize hPI:pyIter = PI
    wp_walk
    subst hPI
    refine wpAny_pyIter_list hl1 (wpAny_bind (wpAny_runValue ?_))
    have hlS:l < s.heap.objs.size:=Heap.lt_size hol
    have hh3:A.in1.in1.in1.handled = none:=by simp [hh]
    have sz:(s.heap.push (setO (!byTx w))).objs.size = s.heap.objs.size + 1:=Heap.size_push ..
    have n1:l≠(s.heap.push (setO (!byTx w))).objs.size:=by rw [sz]; exact Nat.ne_of_lt (Nat.lt_succ_of_lt hlS)
    have n2:s.heap.objs.size ∉ [(s.heap.push (setO (!byTx w))).objs.size,l]:=by
     intro z
     rcases List.mem_cons.mp z with z | z
     ·rw [sz] at z
      exact absurd z (Nat.ne_of_lt (Nat.lt_succ_self _))
     ·exact absurd (List.mem_singleton.mp z) (Nat.ne_of_gt hlS)
    have Wl:=(Walks.list (prog:=P) (w:=w) hh3 _ l n1 items).toS
    rw [hz] at Wl
    refine zfr ys Wl s.heap.objs.size n2 (fun i v hv=>hk i v hv) hb ys.length 0 _ (by omega)
     ⟨⟨_,Heap.get?_push_size _ rfl,rfl,rfl⟩,(hl1.push _)⟩ ?c0 ?cR
    case c0=>
     have hget:=Heap.get?_push_of_some { cls:=.type "list_iterator",data:=.fields #[.ref l,.int 0 0] } gS
     exact ⟨_,#[],0,_,hget,⟨rfl,rfl,rfl⟩,rfl,(fun e he=>by simp at he),(fun e he=>by simp at he),(by simp [allS]),by decide,by rfl,rfl,.inl rfl⟩
    case cR=>
     intro s' hm hS'
     obtain ⟨h',g',d',tk',os'⟩:=s'
     have eg:g' = s.gens:=hm.gens
     have ed:d' = s.drawn:=hm.drawn
     have eo:os' = s.os:=hm.os
     subst eg ed eo
     refine wpAny_pure (show wpAny _ _ (ret Value.none) _ _ _ from wpAny_pure ⟨rfl,h',tk',rfl,hS',fun b o hb e=>?_⟩)
     refine hm.heap b o ?_ (Heap.get?_push_of_some _ (Heap.get?_push_of_some _ e))
     intro z
     rcases List.mem_cons.mp z with z | z
     ·exact absurd z (Nat.ne_of_lt hb)
     ·have z:=List.mem_singleton.mp z
      rw [sz] at z
      exact absurd z (Nat.ne_of_lt (Nat.lt_succ_of_lt hb))
   ·cases r₂ with
    | error e=>exact hr₂
    | ok fl₂=>
     cases fl₂ with
     | ret r=>
      obtain ⟨rfl,h',tk,rfl,hS',hk'⟩:=hr₂
      repeat any_goals (first | assumption | wp_step)
      exact h _ _ hS' hk'
     | _=>exact hr₂.elim
  | _=>exact hr.elim
end
def SetH (P:Program) (w:World) (a:Addr) (ds:List Str):HO:=.ext (zbb P w a ds)
theorem zfs {X:Cx} (hc:X.calm = true):zau X (.type "set") (fun xs H Q=>∃ (p:Addr) (ys:List Str),xs = [.ref p]/\SqL X.K H p (ys.map V.str)/\ys.length<=1000/\∀ l,H l = none->Q (.ref l) (upd H l (SetH X.prog X.w l (allS ys)))):=by
 intro zp s σ H xs us Q I r h
 obtain ⟨p,ys,rfl,hq,hz,q⟩:=h
 obtain ⟨u,rfl,rx⟩:=zbf r
 cases rx
 obtain ⟨its,rv,pl,_⟩:=I.list hq
 have l1:=rv.length
 rw [List.length_map] at l1
 have lz:its.toArray.size = ys.length:=by rw [List.size_toArray,l1]
 refine zia (I.ok.hd hc) pl.isList lz (fun i v hv=>?_) (by unfold scanBound; omega) (fun h' tk hS kp=>?_)
 ·have hv':its[i]? = some v:=by simpa using hv
  have hi:i < ys.length:=by rw [l1]; exact (List.getElem?_eq_some_iff.mp hv').1
  obtain ⟨u1,hu1,t1,rfl⟩:=rv.get (i:=i) (x:=V.str ys[i]) (by rw [List.getElem?_map,List.getElem?_eq_getElem hi]; rfl)
  rw [hu1] at hv'
  cases hv'
  exact ⟨_,_,List.getElem?_eq_getElem hi,rfl⟩
 ·have kp':∀ b o,s.heap.get? b = some o->h'.get? b = some o:=fun b o e=>kp b o (Heap.lt_size e) e
  refine ⟨.ref s.heap.objs.size,_,I.laid (t':=tk) kp' (Nat.le_refl _) (show Zh X.prog X.w _ h' _ (SetH X.prog X.w s.heap.objs.size (allS ys)) from ⟨hS,?_,fun h1 h2 ⟨o,es,ep,t,ho,rest⟩ hk=>⟨o,es,ep,t,hk o ho,rest⟩⟩),rfl,q _ (I.hok.fresh (Nat.le_refl _))⟩
  obtain ⟨o,es,ep,t,ho,rest⟩:=hS
  exact ⟨o,ho⟩
theorem ZJ:Slot "set_iterator" "__next__" "set_iterator.__next__":=
 .of (owner:="set_iterator") (n:="__next__") (by rw [typeLookup_type,builtinLookup_eq_fast]; kernel_rfl)
  (by decide +kernel) (by decide +kernel) (by decide +kernel) (.inl (by decide +kernel)) (by rw [isSubtype_type]; kernel_rfl)
theorem zbI:Slot "set_iterator" "__iter__" "set_iterator.__iter__":=
 .of (owner:="set_iterator") (n:="__iter__") (by rw [typeLookup_type,builtinLookup_eq_fast]; kernel_rfl)
  (by decide +kernel) (by decide +kernel) (by decide +kernel) (.inl (by decide +kernel)) (by rw [isSubtype_type]; kernel_rfl)
theorem zc4:entryFor table "set_iterator.__next__" = some Builtin.«set_iterator.__next__»:=entryFor_of_tree (by kernel_rfl)
theorem zc5:entryFor table "set_iterator.__iter__" = some Builtin.«dict_keyiterator.__iter__»:=
 entryFor_alias (id':="dict_keyiterator.__iter__") (by kernel_rfl) (by decide +kernel) (by decide +kernel) (by kernel_rfl)
theorem zc6:entryFor table "set.__iter__" = some Builtin.«frozenset.__iter__»:=
 entryFor_alias (id':="frozenset.__iter__") (by kernel_rfl) (by decide +kernel) (by decide +kernel) (by kernel_rfl)
theorem zeJ:Manifest.owners.lookup (String.ofList "rotareti_tes".toList.reverse) = some Manifest.sig_set_iterator:=by kernel_rfl
theorem zdD (a:Value):argsOk "set_iterator.__next__" ⟨[a],[]⟩:=by
 unfold argsOk
 rw [signature?_of (id:="set_iterator.__next__") (n:="__txen__".toList) (o:="rotareti_tes".toList) (by kernel_rfl) zeJ]
 kernel_rfl
theorem zdE (a:Value):argsOk "set_iterator.__iter__" ⟨[a],[]⟩:=by
 unfold argsOk
 rw [signature?_of (id:="set_iterator.__iter__") (n:="__reti__".toList) (o:="rotareti_tes".toList) (by kernel_rfl) zeJ]
 kernel_rfl
theorem zdj {α:Type}{l:List α}{i:Nat} (h:i < l.length):(l[i] :: l.eraseIdx i).Perm l:=by
 rw [List.eraseIdx_eq_take_drop_succ]
 refine List.perm_middle.symm.trans ?_
 rw [List.getElem_cons_drop h,List.take_append_drop]
theorem zib {α:Type} (nx:Nat->Nat):∀ (fuel k:Nat) (left:List α) (out:Array α),fuel = left.length->(pickOrder.go nx fuel k left out).toList.Perm (out.toList ++ left)
 | 0,k,left,out,h=>by
  have:left = []:=List.length_eq_zero_iff.mp h.symm
  subst this
  unfold pickOrder.go
  simp
 | fuel + 1,k,left,out,h=>by
  have hpos:0 < left.length:=by omega
  have hi:nx k % left.length < left.length:=Nat.mod_lt _ hpos
  unfold pickOrder.go
  rw [List.getElem?_eq_getElem hi]
  refine (zib nx fuel (k + 1) _ _ (by rw [List.length_eraseIdx,if_pos hi]; omega)).trans ?_
  rw [Array.toList_push,List.append_assoc]
  exact List.Perm.append_left _ (zdj hi)
theorem zic {α:Type} (nx:Nat->Nat) (xs:Array α):(pickOrder nx xs).toList.Perm xs.toList:=by
 have:=zib nx xs.size 0 xs.toList #[] (by rw [Array.length_toList])
 simpa [pickOrder] using this
section
variable {P:Program}{w:World}{A:Around}{E:Value->Shared->Prop}
theorem zjs {α:Type} (n:Nat):∀ (xs:List α) (s:Shared) (Q:List α->Shared->Prop),xs.length = n->(∀ (ys:List α) d',ys.Perm xs->Q ys { s with drawn:=d' })->wpAny (model P w) A (drawOrder n xs) Q E s:=by
 induction n with
 | zero=>
  intro xs s Q h q
  have:xs = []:=List.length_eq_zero_iff.mp h
  subst this
  unfold drawOrder
  exact wpAny_pure (q [] s.drawn .nil)
 | succ n ih=>
  intro xs s Q h q
  cases xs with
  | nil=>cases h
  | cons x xs=>
  unfold drawOrder
  refine wpAny_bind (fun Γ p hΓ=>?_)
  show Sem.wp _ _ (Sem.choose .order (x :: xs).length Sem.pure) _ _ _ _
  rw [Sem.wp_choose]
  refine ⟨by simp,?_⟩
  rw [Sem.wp_pure]
  have hi:(model P w).w.draws .order (s.drawn.get .order) % (x :: xs).length < (x :: xs).length:=Nat.mod_lt _ (by simp)
  generalize (model P w).w.draws .order (s.drawn.get .order) % (x :: xs).length = i at hi ⊢
  show wpAny (model P w) A (match (x :: xs)[i]? with | some y=>drawOrder n ((x :: xs).eraseIdx i) >>= fun l=>pure (y :: l) | none=>unsupported "internal:drawOrder") Q E _
  rw [List.getElem?_eq_getElem hi]
  refine wpAny_bind (ih _ _ _ (by rw [List.length_eraseIdx,if_pos hi]; omega) fun ys d' hp=>wpAny_pure (q _ d' ?_))
  exact (List.Perm.cons _ hp).trans (zdj hi)
end
def ItAt (w:World) (I a pl:Addr) (es:Array (Int × Value)) (ep:Nat) (t:SetTable) (ord:List Value) (i:Nat) (h:Heap):Prop:=
 (∃ o,h.get? a = some o/\o.data = .set es ep t)/\∃ (oI:Obj) (first:Value),h.get? I = some oI/\oI.cls = .type "set_iterator"/\oI.data = .fields #[first,rawInt i,.ref a,rawInt es.size,rawInt ep] /\
  ((byTx w = true/\first = rawInt 0/\ord = (pickOrder (w.params.setOrder a ep) es).toList.map (·.2)) \/
   (byTx w = false/\∃ (ps:List Nat) (op:Obj) (c:Nat),first = .ref pl/\h.get? pl = some op/\op.data = .seq (ps.map fun (p:Nat)=>rawInt p).toArray c/\ord.length = ps.length/\∀ (j p:Nat),ps[j]? = some p->∃ e,es[p]? = some e/\ord[j]? = some e.2) \/
   (byTx w = false/\es.size<=1/\t.led = true/\ord = es.toList.map (·.2)/\∃ sl:Nat,first = rawInt sl/\(i = 0->sl = 0)/\(0 < i->∀ j,t.place[0]? = some j->sl = j + 1)))
section
variable {P:Program}{w:World}{A:Around}{E:Value->Shared->Prop}
theorem zkY {s:Shared}{Q:PySem.Fin->Shared->Prop}{E':Value->Shared->Prop} (hh:A.handled = none)
  (h:∀ (x:Addr) (h':Heap),(∀ b o,s.heap.get? b = some o->h'.get? b = some o)->(∃ o,h'.get? x = some o/\o.cls = .type "StopIteration")->E' (.ref x) { s with heap:=h' }):
  wpAny (model P w) A (newExc (.type "StopIteration") [] >>= fun e=>raiseNew e) Q E' s:=by
 refine wpAny_bind ?_
 simp only [newExc,newTuple]
 refine wpAny_bind (wpAny_newObj_type ?_ (by size_fits))
 refine wpAny_bind (m:=firstArgMember _ _) (wpAny_of_eq (a:=Value.none) (by first | rfl | (simp only [firstArgMember]; rfl)) ?_)
 refine wpAny_newObj_type ?_ (by size_fits)
 simp only [raiseNew]
 refine wpAny_bind (wpAny_handled ?_)
 rw [hh]
 refine wpAny_bind (wpAny_pure (wpAny_throw (h _ _ (fun b o e=>Heap.get?_push_of_some _ (Heap.get?_push_of_some _ e)) ⟨_,Heap.get?_push_size _ rfl,rfl⟩)))
theorem zbJ {s:Shared}{Q:Bool->Shared->Prop} (h:Q (byTx w) s):wpAny (model P w) A setsByText Q E s:=by
 unfold setsByText
 exact wpAny_bind (wpAny_askSetting (wpAny_pure h))
theorem zjt {s:Shared}{a:Addr}{oa:Obj}{es:Array (Int × Value)}{ep sl g:Nat}{t:SetTable}{Q:Option (Value × Nat)->Shared->Prop} (hb:byTx w = true) (hoa:s.heap.get? a = some oa) (hda:oa.data = .set es ep t) (hf:t.fits es.size = true)
  (h:Q (((pickOrder (w.params.setOrder a ep) es)[g]?).map fun e=>(e.2,sl)) s):wpAny (model P w) A (setNext a sl g ep) Q E s:=by
 unfold setNext
 refine wpAny_bind (wpAny_setState_of hoa hda hf (wpAny_bind (zbJ ?_)))
 rw [hb]
 simp only [↓reduceIte,bne_self_eq_false,Bool.false_eq_true]
 unfold setWalk
 refine wpAny_bind (wpAny_bind (wpAny_setState_of hoa hda hf (wpAny_bind (zbJ ?_))))
 rw [hb]
 simp only [↓reduceIte]
 exact wpAny_bind (wpAny_askSetting (wpAny_pure (wpAny_pure h)))
theorem zju {s:Shared}{a:Addr}{oa:Obj}{es:Array (Int × Value)}{ep sl g:Nat}{t:SetTable}{Q:Option (Value × Nat)->Shared->Prop} (hb:byTx w = false) (hled:t.led = true) (h1:es.size<=1) (hoa:s.heap.get? a = some oa) (hda:oa.data = .set es ep t) (hf:t.fits es.size = true)
  (h:Q (match es[SetTable.below t.place sl]?,t.place[SetTable.below t.place sl]? with | some (_,x),some j=>some (x,j + 1) | _,_=>none) s):wpAny (model P w) A (setNext a sl g ep) Q E s:=by
 unfold setNext
 refine wpAny_bind (wpAny_setState_of hoa hda hf (wpAny_bind (zbJ ?_)))
 rw [hb]
 simp only [↓reduceIte,Bool.false_eq_true]
 split
 ·rename_i hd
  have hd':(!t.plain && decide (es.size > 1)) = true:=hd
  rw [Bool.and_eq_true,decide_eq_true_eq] at hd'
  omega
 ·refine wpAny_bind (show wpAny _ _ (if (!t.led && !es.isEmpty) = true then unsupported "set:maker-not-led" else pure ()) _ _ s from ?_)
  rw [hled,Bool.not_true,Bool.false_and,if_neg Bool.false_ne_true]
  exact wpAny_pure (wpAny_pure h)
theorem zid {s:Shared}{a:Addr}{oa:Obj}{es:Array (Int × Value)}{ep p:Nat}{t:SetTable}{e:Int × Value}{Q:Value->Shared->Prop} (hoa:s.heap.get? a = some oa) (hda:oa.data = .set es ep t) (hf:t.fits es.size = true) (he:es[p]? = some e) (h:Q e.2 s):
  wpAny (model P w) A (setNextDrawn a p ep) Q E s:=by
 unfold setNextDrawn
 refine wpAny_bind (wpAny_setState_of hoa hda hf ?_)
 simp only [bne_self_eq_false,Bool.false_eq_true,↓reduceIte]
 rw [he]
 exact wpAny_pure h
theorem zmd {xs:Array Nat} (h:xs.size = 1):∃ j,xs = #[j]:=by
 obtain ⟨l⟩:=xs
 match l,h with
 | [j],_=>exact ⟨j,rfl⟩
theorem zie {t:SetTable}{j:Nat} (h:t.place = #[j]):SetTable.below t.place 0 = 0/\SetTable.below t.place (j + 1) = 1:=by
 rw [h]
 unfold SetTable.below
 constructor
 ·simp [SetTable.below.go]
 ·simp [SetTable.below.go]
theorem zif {t:SetTable}{j:Nat} (h:t.place = #[]):SetTable.below t.place j = 0:=by
 rw [h]
 rfl
theorem fld {h:Heap}{I:Addr}{o:Obj}{vs:Array Value} (ho:h.get? I = some o) (hd:o.data = .fields vs) (k:Nat) (x:Value):
  (∃ o',(h.update I (Obj.mapFields (·.setIfInBounds k x))).get? I = some o'/\o'.cls = o.cls/\o'.data = .fields (vs.setIfInBounds k x))/\∀ b q,b≠I->h.get? b = some q->(h.update I (Obj.mapFields (·.setIfInBounds k x))).get? b = some q:=
 ⟨⟨_,Heap.get?_update_self _ ho (Obj.isFreed_of_fields (Obj.data_mapFields hd _)),Obj.cls_mapFields ..,Obj.data_mapFields hd _⟩,fun b q hb e=>(Heap.get?_update_other _ _ (Ne.symm hb)).trans e⟩
theorem zf7 {s:Shared}{I a pl:Addr}{es:Array (Int × Value)}{ep:Nat}{t:SetTable}{ord:List Value}{i:Nat}{Q:Option Value->Shared->Prop} (hh:A.handled = none) (hf:t.fits es.size = true) (hz:ord.length = es.size) (hne:a≠I) (hnp:pl≠I)
  (h:ItAt w I a pl es ep t ord i s.heap)
  (item:∀ (v:Value) (h':Heap),ord[i]? = some v->ItAt w I a pl es ep t ord (i + 1) h'->(∀ b o,b≠I->s.heap.get? b = some o->h'.get? b = some o)->Q (some v) { s with heap:=h' })
  (done:ord[i]? = none->∀ h':Heap,(∀ b o,b≠I->s.heap.get? b = some o->h'.get? b = some o)->Q none { s with heap:=h' }):
  wpAny (model P w) A (pyNext (.ref I)) Q E s:=by
 obtain ⟨⟨oa,hoa,hda⟩,oI,first,hI,hc,hd,mode⟩:=h
 have hT:s.TypeIs (.ref I) "set_iterator":=⟨oI,hI,hc⟩
 unfold pyNext
 refine wpAny_bind (wpAny_attempt (wpAny_callSpecial?_slot (name:=Str.ofString "__next__") hT ZJ (wpAny_call_entry ZJ hT zc4 ?_ (zdD _))))
 unfold Builtin.«set_iterator.__next__»
 refine wpAny_bind (wpAny_pure (wpAny_bind (wpAny_fieldsOf hI hd ?_)))
 have stop:∀ (h2:Heap),ord[i]? = none->(∀ b o,b≠I->s.heap.get? b = some o->h2.get? b = some o)->wpAny (model P w) A.in1 (newExc (.type "StopIteration") [] >>= fun e=>(raiseNew e:Sem PySem.Fin)) (fun fin s'=>∃ v,fin = .done (.ret v)/\wpAny (model P w) A (match (Except.ok (some v):Except Value (Option Value)) with | Except.ok (some v)=>pure (some v) | Except.ok none=>unsupported "iter:the-iterator's-class-has-lost-its-__next__-amid-the-walk" | Except.error e=>do
   let b ← isInstance e (Value.type "StopIteration")
   if b = true then pure none else throw e) Q E s') (fun e s'=>wpAny (model P w) A (match (Except.error e:Except Value (Option Value)) with | Except.ok (some v)=>pure (some v) | Except.ok none=>unsupported "iter:the-iterator's-class-has-lost-its-__next__-amid-the-walk" | Except.error e=>do
   let b ← isInstance e (Value.type "StopIteration")
   if b = true then pure none else throw e) Q E s') { s with heap:=h2 }:=fun h2 hn hk=>by
  refine zkY (A:=A.in1) (by simpa using hh) fun x h' hk' hx=>?_
  obtain ⟨ox,hox,hcx⟩:=hx
  refine wpAny_bind (wpAny_isInstance (T:="StopIteration") (b:=true) ⟨ox,hox,hcx⟩ isSubtype_stop ?_)
  exact wpAny_pure (done hn h' fun b o hb e=>hk' b o (hk b o hb e))
 refine wpAny_bind (wpAny_setEntries_of hoa hda hf ?_)
 rw [if_neg (by simp)]
 have hlt:∀ {v},ord[i]? = some v->i < es.size:=fun {v} e=>by rw [← hz]; exact (List.getElem?_eq_some_iff.mp e).1
 rcases mode with ⟨hb,rfl,hord⟩ | ⟨hb,ps,op,c,rfl,hop,hdp,hlen,hps⟩ | ⟨hb,h1,hled,hord,sl,rfl,hs0,hs1⟩
 ·refine wpAny_bind (zjt hb hoa hda hf ?_)
  have hoi:ord[i]? = ((pickOrder (w.params.setOrder a ep) es)[i]?).map (·.2):=by rw [hord,List.getElem?_map,Array.getElem?_toList]
  show wpAny _ _ (match (((pickOrder (w.params.setOrder a ep) es)[i]?).map fun e=>(e.2,(0:Nat))) with | some (x,next)=>_ | none=>_) _ _ s
  cases hp:(pickOrder (w.params.setOrder a ep) es)[i]? with
  | none=>
   rw [hp] at hoi
   obtain ⟨⟨o1,g1,c1,d1⟩,k1⟩:=fld hI hd 2 .none
   exact wpAny_bind (wpAny_setField hI hd (by simp) (stop _ hoi k1))
  | some e=>
   rw [hp] at hoi
   obtain ⟨⟨o1,g1,c1,d1⟩,k1⟩:=fld hI hd 0 (rawInt (0:Nat))
   obtain ⟨⟨o2,g2,c2,d2⟩,k2⟩:=fld g1 d1 1 (rawInt ((i:Int) + 1))
   refine wpAny_bind (wpAny_setField hI hd (by simp) (wpAny_bind (wpAny_setField g1 d1 (by simp) ?_)))
   have kk:∀ b q,b≠I->s.heap.get? b = some q->_:=fun b q hb e'=>k2 b q hb (k1 b q hb e')
   exact wpAny_pure ⟨_,rfl,wpAny_pure (item _ _ hoi ⟨⟨oa,kk a _ hne hoa,hda⟩,o2,rawInt 0,g2,c2.trans (c1.trans hc),by rw [d2]; simp [rawInt],.inl ⟨hb,rfl,hord⟩⟩ kk)⟩
 ·refine wpAny_bind (wpAny_seqItems hop hdp ?_)
  show wpAny _ _ (match ((ps.map fun (p:Nat)=>rawInt p).toArray)[i]? with | some (Value.int place tok)=>_ | some _=>_ | none=>_) _ _ s
  rw [List.getElem?_toArray,List.getElem?_map]
  cases hp:ps[i]? with
  | none=>
   have hoi:ord[i]? = none:=List.getElem?_eq_none (by rw [hlen]; exact List.getElem?_eq_none_iff.mp hp)
   obtain ⟨⟨o1,g1,c1,d1⟩,k1⟩:=fld hI hd 0 (rawInt 0)
   obtain ⟨⟨o2,g2,c2,d2⟩,k2⟩:=fld g1 d1 2 .none
   exact wpAny_bind (wpAny_setField hI hd (by simp) (wpAny_bind (wpAny_setField g1 d1 (by simp) (stop _ hoi fun b q hb e'=>k2 b q hb (k1 b q hb e')))))
  | some p=>
   obtain ⟨e,he,hoi⟩:=hps i p hp
   obtain ⟨⟨o1,g1,c1,d1⟩,k1⟩:=fld hI hd 1 (rawInt ((i:Int) + 1))
   refine wpAny_bind (show wpAny _ _ (setNextDrawn a p ep) _ _ s from zid hoa hda hf he (wpAny_bind (wpAny_setField hI hd (by simp) ?_)))
   exact wpAny_pure ⟨_,rfl,wpAny_pure (item _ _ hoi ⟨⟨oa,k1 a _ hne hoa,hda⟩,o1,_,g1,c1.trans hc,by rw [d1]; simp [rawInt],.inr (.inl ⟨hb,ps,op,c,rfl,k1 pl _ hnp hop,hdp,hlen,hps⟩)⟩ k1)⟩
 ·refine wpAny_bind (zju hb hled h1 hoa hda hf ?_)
  have hpz:t.place.size = es.size:=by
   have:=hf
   unfold SetTable.fits at this
   rw [Bool.and_eq_true,beq_iff_eq] at this
   exact this.1
  show wpAny _ _ (match (match es[SetTable.below t.place sl]?,t.place[SetTable.below t.place sl]? with | some (_,x),some j=>some (x,j + 1) | _,_=>none) with | some (x,next)=>_ | none=>_) _ _ s
  have fin:ord[i]? = none->wpAny (model P w) A.in1 (setField (.ref I) 2 .none >>= fun _=>newExc (.type "StopIteration") [] >>= fun e=>(raiseNew e:Sem PySem.Fin)) _ _ s:=fun hoi=>by
   obtain ⟨⟨o1,g1,c1,d1⟩,k1⟩:=fld hI hd 2 .none
   exact wpAny_bind (wpAny_setField hI hd (by simp) (stop _ hoi k1))
  by_cases h0:es.size = 0
  ·have hp0:t.place = #[]:=Array.eq_empty_of_size_eq_zero (by omega)
   rw [zif hp0,Array.getElem?_eq_none (by omega)]
   exact fin (List.getElem?_eq_none (by omega))
  ·have he1:es.size = 1:=by omega
   obtain ⟨j,hj⟩:∃ j,t.place = #[j]:=by
    have:t.place.size = 1:=by omega
    exact zmd this
   obtain ⟨b0,b1⟩:=zie hj
   by_cases hi0:i = 0
   ·subst hi0
    rw [hs0 rfl,b0,hj,Array.getElem?_eq_getElem (show 0 < es.size by omega)]
    obtain ⟨⟨o1,g1,c1,d1⟩,k1⟩:=fld hI hd 0 (rawInt ((j + 1:Nat):Int))
    obtain ⟨⟨o2,g2,c2,d2⟩,k2⟩:=fld g1 d1 1 (rawInt (((0:Nat):Int) + 1))
    have hoi:ord[0]? = some es[0].2:=by rw [hord,List.getElem?_map,Array.getElem?_toList,Array.getElem?_eq_getElem (show 0 < es.size by omega)]; rfl
    have kk:∀ b q,b≠I->s.heap.get? b = some q->_:=fun b q hb e'=>k2 b q hb (k1 b q hb e')
    refine wpAny_bind (wpAny_setField hI hd (by simp) (wpAny_bind (wpAny_setField g1 d1 (by simp) ?_)))
    exact wpAny_pure ⟨_,rfl,wpAny_pure (item _ _ hoi ⟨⟨oa,kk a _ hne hoa,hda⟩,o2,rawInt ((j + 1:Nat):Int),g2,c2.trans (c1.trans hc),by rw [d2]; simp [rawInt],.inr (.inr ⟨hb,h1,hled,hord,j + 1,rfl,(fun z=>by omega),fun _ j' hj'=>by rw [hj] at hj'; simpa using hj'⟩)⟩ kk)⟩
   ·rw [hs1 (by omega) j (by rw [hj]; rfl),b1,Array.getElem?_eq_none (by omega)]
    exact fin (List.getElem?_eq_none (by omega))
theorem zjv (hh:A.handled = none) (I a pl:Addr) {es:Array (Int × Value)}{ep:Nat}{t:SetTable}{ord:List Value} (hf:t.fits es.size = true) (hz:ord.length = es.size) (hne:a≠I) (hnp:pl≠I):
  Walks P w A I [I,a,pl] [I] ord.length (fun i v=>ord[i]? = some v) (fun i h=>ItAt w I a pl es ep t ord i h) where
 sub:=fun b hb=>by rw [List.mem_singleton.mp hb]; exact List.mem_cons_self
 frame:=fun i h h' st hk=>by
  obtain ⟨⟨oa,hoa,hda⟩,oI,first,hI,hc,hd,mode⟩:=st
  refine ⟨⟨oa,hk a (by simp) _ hoa,hda⟩,oI,first,hk I (by simp) _ hI,hc,hd,?_⟩
  rcases mode with m | ⟨hb,ps,op,c,e1,hop,rest⟩ | m
  ·exact .inl m
  ·exact .inr (.inl ⟨hb,ps,op,c,e1,hk pl (by simp) _ hop,rest⟩)
  ·exact .inr (.inr m)
 item:=fun i s Q E hi st hQ=>by
  refine zf7 hh hf hz hne hnp st (fun v h' hv st' kp=>hQ v h' s.toks hv st' fun b o hb e=>kp b o (fun z=>hb (by simp [z])) e) (fun hn=>?_)
  rw [List.getElem?_eq_getElem hi] at hn
  cases hn
 done:=fun s Q E st hQ=>by
  refine zf7 hh hf hz hne hnp st (fun v h' hv=>?_) (fun hn h' kp=>hQ h' s.toks fun b o hb e=>kp b o (fun z=>hb (by simp [z])) e)
  rw [List.getElem?_eq_none (Nat.le_refl _)] at hv
  cases hv
 self:=fun i s Q E st hQ=>by
  obtain ⟨_,oI,first,hI,hc,_⟩:=st
  have hT:s.TypeIs (.ref I) "set_iterator":=⟨oI,hI,hc⟩
  refine wpAny_pyIter_slot hT zbI (wpAny_call_entry zbI hT zc5 ?_ (zdE _))
  exact (show wpAny _ _ (ret (Value.ref I)) _ _ s from wpAny_pure ⟨_,rfl,"set_iterator",_,hT,ZJ.lookup,hQ⟩)
theorem zjw {s:Shared}{a:Addr}{ds:List Str}{Q:Value->Shared->Prop} (hS:zbb P w a ds s.heap)
  (h:∀ (I pl:Addr) (h':Heap) (d':Drawn) (es:Array (Int × Value)) (ep:Nat) (t:SetTable) (ord:List Value),(∀ b o,s.heap.get? b = some o->h'.get? b = some o)->s.heap.objs.size<=I->pl≠I->(pl = a\/s.heap.objs.size<=pl)->t.fits es.size = true->ord.length = es.size->ord.Perm (es.toList.map (·.2))->(∀ v∈ord,∃ z tk,v = .str z tk)->(ord.map txOf).Perm ds->ItAt w I a pl es ep t ord 0 h'->Q (.ref I) { s with heap:=h',drawn:=d' }):
  wpAny (model P w) A (pyIter (.ref a)) Q E s:=by
 obtain ⟨o,es,ep,t,ho,hex,hd,hel,htx,hpm,hb,hf,hmk⟩:=hS
 have hT:s.TypeIs (.ref a) "set":=⟨o,ho,hex.1⟩
 have haI:a < s.heap.objs.size:=Heap.lt_size ho
 refine wpAny_pyIter_slot hT PySem.F.slot_set_iter (wpAny_call_entry PySem.F.slot_set_iter hT zc6 ?_ (PySem.F.args_set_iter_1 _))
 unfold Builtin.«frozenset.__iter__»
 have hvals:∀ ord:List Value,ord.Perm (es.toList.map (·.2))->ord.length = es.size/\(∀ v∈ord,∃ z tk,v = .str z tk)/\(ord.map txOf).Perm ds:=fun ord hp=>by
  refine ⟨by rw [hp.length_eq,List.length_map,Array.length_toList],fun v hv=>?_,?_⟩
  ·obtain ⟨e,he,rfl⟩:=List.mem_map.mp (hp.mem_iff.mp hv)
   exact htx e he
  ·have:=hp.map txOf
   rw [List.map_map] at this
   exact this.trans hpm
 refine wpAny_bind (m:=Builtin.Frozenset.slot0 "__iter__" _) (wpAny_pure ?_)
 refine wpAny_bind (show wpAny _ _ (setEntries a >>= fun x=>pure x.size) _ _ s from wpAny_bind (wpAny_setEntries_of ho hd hf (wpAny_pure ?_)))
 refine wpAny_bind ?_
 unfold setDrawn
 refine wpAny_bind (wpAny_setState_of ho hd hf (wpAny_bind (zbJ (wpAny_pure ?_))))
 show wpAny _ _ (if (!byTx w && (!t.plain && decide (es.size > 1))) = true then _ else _) _ _ s
 split
 ·rename_i hdr
  rw [Bool.and_eq_true,Bool.and_eq_true,decide_eq_true_eq] at hdr
  have hb0:byTx w = false:=by simpa using hdr.1
  refine wpAny_bind (zjs es.size (List.range es.size) s _ (by simp) fun ps d' hps=>?_)
  have hpl:ps.length = es.size:=by rw [hps.length_eq,List.length_range]
  refine wpAny_bind (wpAny_newObj_type ?_ (by show (List.map _ ps).toArray.size<=sizeLine; rw [List.size_toArray,List.length_map,hpl]; exact fits_of_scanBound hb))
  have kp1:∀ b q,s.heap.get? b = some q->(s.heap.push { cls:=.type "tuple",data:=.seq (ps.map fun (p:Nat)=>rawInt p).toArray }).get? b = some q:=fun b q e=>Heap.get?_push_of_some _ e
  refine wpAny_bind (wpAny_setEpoch_of (kp1 a _ ho) hd hf (wpAny_bind (wpAny_newObj_type ?_)))
  refine wpAny_pure ⟨_,rfl,"set_iterator",_,⟨_,Heap.get?_push_size _ rfl,rfl⟩,ZJ.lookup,?_⟩
  have kp2:∀ b q,s.heap.get? b = some q->((s.heap.push { cls:=.type "tuple",data:=.seq (ps.map fun (p:Nat)=>rawInt p).toArray }).push { cls:=.type "set_iterator",data:=.fields #[.ref s.heap.objs.size,rawInt 0,.ref a,rawInt es.size,rawInt ep] }).get? b = some q:=fun b q e=>Heap.get?_push_of_some _ (kp1 b q e)
  have hin:∀ p∈ps,p < es.size:=fun p hp=>List.mem_range.mp (hps.mem_iff.mp hp)
  have ho':(ps.map fun p=>(es.toList.map (·.2)).getD p .none).Perm (es.toList.map (·.2)):=by
   refine (hps.map _).trans (List.Perm.of_eq ?_)
   apply List.ext_getElem (by simp)
   intro k h1 h2
   simp at h2
   simp [h2]
  obtain ⟨h1,h2,h3⟩:=hvals _ ho'
  have sz:(s.heap.push { cls:=.type "tuple",data:=.seq (ps.map fun (p:Nat)=>rawInt p).toArray }).objs.size = s.heap.objs.size + 1:=Heap.size_push ..
  refine h _ s.heap.objs.size _ d' es ep t _ kp2 (by rw [sz]; exact Nat.le_succ _) (Nat.ne_of_lt (by rw [sz]; exact Nat.lt_succ_self _)) (.inr (Nat.le_refl _)) hf h1 ho' h2 h3 ⟨⟨o,kp2 a _ ho,hd⟩,_,.ref s.heap.objs.size,Heap.get?_push_size _ rfl,rfl,rfl,.inr (.inl ⟨hb0,ps,_,_,rfl,Heap.get?_push_of_some _ (Heap.get?_push_size _ rfl),rfl,by rw [List.length_map],fun j p hj=>?_⟩)⟩
  have hp:=hin p (List.mem_of_getElem? hj)
  refine ⟨es[p],Array.getElem?_eq_getElem hp,?_⟩
  rw [List.getElem?_map,hj]
  simp [hp]
 ·rename_i hdr
  refine wpAny_bind (wpAny_pure (wpAny_bind (wpAny_setEpoch_of ho hd hf (wpAny_bind (wpAny_newObj_type ?_)))))
  refine wpAny_pure ⟨_,rfl,"set_iterator",_,⟨_,Heap.get?_push_size _ rfl,rfl⟩,ZJ.lookup,?_⟩
  have kp:∀ b o,s.heap.get? b = some o->(s.heap.push { cls:=.type "set_iterator",data:=.fields #[rawInt 0,rawInt 0,.ref a,rawInt es.size,rawInt ep] }).get? b = some o:=fun b o e=>Heap.get?_push_of_some _ e
  cases hbt:byTx w with
  | true=>
   have hp:((pickOrder (w.params.setOrder a ep) es).toList.map (·.2)).Perm (es.toList.map (·.2)):=(zic _ es).map _
   obtain ⟨h1,h2,h3⟩:=hvals _ hp
   exact h s.heap.objs.size a _ s.drawn es ep t _ kp (Nat.le_refl _) (Nat.ne_of_lt haI) (.inl rfl) hf h1 hp h2 h3 ⟨⟨o,kp a _ ho,hd⟩,_,rawInt 0,Heap.get?_push_size _ rfl,rfl,rfl,.inl ⟨hbt,rfl,rfl⟩⟩
  | false=>
   have hsz:es.size<=1:=by
    rw [hbt] at hdr
    rcases hmk.2 with h0 | h0
    ·omega
    ·rw [h0] at hdr
     simp at hdr
     omega
   obtain ⟨h1,h2,h3⟩:=hvals _ (.refl _)
   exact h s.heap.objs.size a _ s.drawn es ep t _ kp (Nat.le_refl _) (Nat.ne_of_lt haI) (.inl rfl) hf h1 (.refl _) h2 h3 ⟨⟨o,kp a _ ho,hd⟩,_,rawInt 0,Heap.get?_push_size _ rfl,rfl,rfl,.inr (.inr ⟨hbt,hsz,by rw [hmk.1,hbt]; rfl,rfl,0,rfl,fun _=>rfl,fun z=>absurd z (Nat.lt_irrefl _)⟩)⟩
end
theorem zgX (v:Value) (h:∃ z tk,v = .str z tk):txOf v = strOf v:=by
 obtain ⟨z,tk,rfl⟩:=h
 rfl
section
variable {P:Program}{w:World}{A:Around}{E:Value->Shared->Prop}
theorem zjx {s:Shared}{r:Addr}{Q:Bool->Shared->Prop} (hT:s.TypeIs (.ref r) "set") (h:Q false s):wpAny (model P w) A (Builtin.List.listLengthHint (.ref r)) Q E s:=by
 unfold Builtin.List.listLengthHint
 refine wpAny_bind (wpAny_specialOf hT PySem.F.slot_set_len.lookup ?_)
 generalize hid:("set.__len__":String) = id0
 wp_delta
 rw [show splitId id0 = some ("set","__len__") from by subst hid; decide +kernel]
 subst hid
 refine wpAny_bind (wpAny_isInstance (T:="set") (b:=true) hT PySem.sub_set_self ?_)
 refine wpAny_ite_split (fun hab=>absurd hab (by decide)) (fun _=>?_)
 refine wpAny_ite_split (fun _=>?_) (fun hab=>absurd (by decide +kernel) hab)
 exact wpAny_bind (wpAny_typeOf hT (wpAny_pure h))
abbrev lO (xs:Array Value) (c:Nat):Obj:={ cls:=.type "list",dict:=none,data:=.seq xs c,slots:=#[] }
theorem zft {s:Shared}{a:Addr}{T:String}{oa:Obj}{n:Nat}{Gd:(Nat->Value->Prop)->Prop}{R:List Value->Shared->Prop} (hoa:s.heap.get? a = some oa) (hca:oa.cls = .type T) (hT2:(Value.type T == .type "list" || Value.type T == .type "tuple") = false) (hn1:n<=sizeLine)
  (hnt:∀ (s1:Shared) (Q:Bool->Shared->Prop) (E:Value->Shared->Prop),s1.TypeIs (.ref a) T->Q false s1->wpAny (model P w) A.in1 (Builtin.List.listLengthHint (.ref a)) Q E s1)
  (it:∀ (Q:Value->Shared->Prop) (E:Value->Shared->Prop),(∀ (I:Addr) (fp:List Addr) (h1:Heap) (d1:Drawn) (St:Nat->Heap->Prop) (Pi:Nat->Value->Prop),Gd Pi->(∀ b o,(s.heap.push (lO #[] 0)).get? b = some o->h1.get? b = some o)->s.heap.objs.size < I->s.heap.objs.size ∉ fp->Walks P w A.in1 I fp [I] n Pi St->St 0 h1->Q (.ref I) { s with heap:=h1,drawn:=d1 })->wpAny (model P w) A.in1 (pyIter (.ref a)) Q E { s with heap:=s.heap.push (lO #[] 0) })
  (h:∀ (h':Heap) (tk:Nat) (d':Drawn) (acc:Array Value) (Pi:Nat->Value->Prop),Gd Pi->(∀ b o,s.heap.get? b = some o->h'.get? b = some o)->s.heap.objs.size<=h'.objs.size->ItemsOf Pi acc n->R acc.toList { s with heap:=h',toks:=tk,drawn:=d' }):
  wpAny (model P w) A (collect (.ref a)) R E s:=by
 have haS:a≠s.heap.objs.size:=Nat.ne_of_lt (Heap.lt_size hoa)
 unfold collect
 refine wpAny_bind (wpAny_runValue (codeAny_builtin entry_proto_collect' ?_))
 rw [Around.under_plainId PySem.F.plain_proto_collect _]
 refine (show wpAny _ A.in1 (newList [] >>= fun l=>again (.builtin "list.__iadd__" ⟨[l,.ref a],[]⟩)) _ _ s from wpAny_bind (wpAny_newObj_type (wpAny_pure ⟨plainId_quiet PySem.F.plain_list_iadd _,codeAny_builtin entry_list_iadd' ?_⟩)))
 rw [Around.under_plainId PySem.F.plain_list_iadd _]
 have kp0:∀ b o,s.heap.get? b = some o->(s.heap.push (lO #[] 0)).get? b = some o:=fun b o e=>Heap.get?_push_of_some _ e
 have gS:(s.heap.push (lO #[] 0)).get? s.heap.objs.size = some (lO #[] 0):=Heap.get?_push_size _ rfl
 have hT1:Shared.TypeIs { s with heap:=s.heap.push (lO #[] 0) } (.ref a) T:=⟨oa,kp0 a _ hoa,hca⟩
 refine (show wpAny _ A.in1 (Builtin.List.listExtendWith (.ref s.heap.objs.size) (.ref a) (.ref s.heap.objs.size)) _ _ { s with heap:=s.heap.push (lO #[] 0) } from ?_)
 unfold Builtin.List.listExtendWith
 refine wpAny_bind (wpAny_typeOf hT1 ?_)
 have h1:Builtin.List.listSameRef (.ref s.heap.objs.size) (.ref a) = false:=by simp [Builtin.List.listSameRef,haS.symm]
 rw [if_neg (by rw [h1,Bool.false_or,hT2]; exact Bool.false_ne_true)]
 refine wpAny_bind (it _ _ fun I fp h1 d1 St Pi hgd kp hI hSf Wk0 st=>?_)
 have kp1:∀ b o,s.heap.get? b = some o->h1.get? b = some o:=fun b o e=>kp b o (kp0 b o e)
 have hI':s.heap.objs.size<=I:=Nat.le_of_lt hI
 refine wpAny_bind (wpAny_holding (hnt _ _ _ ⟨oa,kp1 a _ hoa,hca⟩ ?_))
 have gS1:=kp _ _ gS
 have loop:∀ (h2:Heap) (c:Nat),St 0 h2->(∀ b o,b≠s.heap.objs.size->h1.get? b = some o->h2.get? b = some o)->h2.get? s.heap.objs.size = some (lO #[] c)->
   codeAny (model P w) A (.builtin "list.extend.loop" ⟨[.ref s.heap.objs.size,.ref I,.ref s.heap.objs.size],[]⟩) (fun q s'=>∃ (h':Heap) (tk:Nat) (acc:Array Value) (c':Nat),q = .ok (.ret (.ref s.heap.objs.size))/\s' = { s with heap:=h',toks:=tk,drawn:=d1 }/\(∀ b o,s.heap.get? b = some o->h'.get? b = some o)/\h'.get? s.heap.objs.size = some (lO acc c')/\ItemsOf Pi acc n) { s with heap:=h2,drawn:=d1 }:=fun h2 c st2 k2 g2=>by
  refine codeAny_extend_loopS Wk0.toS hn1 s.heap.objs.size hSf (.ref s.heap.objs.size) n 0 { s with heap:=h2,drawn:=d1 } #[] c rfl (Nat.zero_le _) st2 g2 (ItemsOf.nil _) fun s' acc' c' hm gS' hacc=>?_
  obtain ⟨h',g',d',tk',os'⟩:=s'
  have eg:g' = s.gens:=hm.gens
  have ed:d' = d1:=hm.drawn
  have eo:os' = s.os:=hm.os
  subst eg ed eo
  refine ⟨h',tk',acc',c',rfl,rfl,fun b o e=>?_,gS',hacc⟩
  have hb:b < s.heap.objs.size:=Heap.lt_size e
  refine hm.heap b o (fun z=>?_) (k2 b o (Nat.ne_of_lt hb) (kp1 b o e))
  rcases List.mem_cons.mp z with z | z
  ·exact absurd z (Nat.ne_of_lt hb)
  ·exact absurd (List.mem_singleton.mp z) (Nat.ne_of_lt (Nat.lt_of_lt_of_le hb hI'))
 refine wpAny_ite_split (fun _=>?_) (fun _=>?_)
 ·refine wpAny_bind (wpAny_rule (wpAny_bind ?_))
  refine (show wpAny _ _ (updateSeq s.heap.objs.size (·.push .none) >>= fun _=>updateSeq s.heap.objs.size (·.pop)) _ _ _ from wpAny_bind (wpAny_updateSeq gS1 rfl ?_))
  have gS2:=Heap.get?_update_self (Obj.mapSeq (·.push Value.none)) gS1 rfl
  refine wpAny_updateSeq (hz:=by seq_fits) gS2 rfl ?_
  have gS3:=Heap.get?_update_self (Obj.mapSeq (·.pop)) gS2 rfl
  have oth:∀ b o,b≠s.heap.objs.size->h1.get? b = some o->((h1.update s.heap.objs.size (Obj.mapSeq (·.push Value.none))).update s.heap.objs.size (Obj.mapSeq (·.pop))).get? b = some o:=fun b o hb e=>(Heap.get?_update_other _ _ (Ne.symm hb)).trans ((Heap.get?_update_other _ _ (Ne.symm hb)).trans e)
  have st3:=Wk0.frame 0 h1 _ st fun b hb o e=>oth b o (fun z=>hSf (z ▸ hb)) e
  refine wpAny_pure ⟨plainId_quiet PySem.F.plain_extend_loop _,codeAny_mono (loop _ _ st3 oth gS3) fun q s2 y=>?_⟩
  obtain ⟨h',tk,acc,c',rfl,rfl,hk,hS',hacc⟩:=y
  exact (show wpAny _ A (load s.heap.objs.size >>= _) _ _ _ from wpAny_bind (wpAny_load hS' (wpAny_pure (h h' tk d1 acc Pi hgd hk (Nat.le_of_lt (Heap.lt_size hS')) hacc))))
 ·refine wpAny_pure ⟨plainId_quiet PySem.F.plain_extend_loop _,codeAny_mono (loop _ _ st (fun _ _ _ e=>e) gS1) fun q s2 y=>?_⟩
  obtain ⟨h',tk,acc,c',rfl,rfl,hk,hS',hacc⟩:=y
  exact (show wpAny _ A (load s.heap.objs.size >>= _) _ _ _ from wpAny_bind (wpAny_load hS' (wpAny_pure (h h' tk d1 acc Pi hgd hk (Nat.le_of_lt (Heap.lt_size hS')) hacc))))
theorem zfu {s:Shared}{a:Addr}{ds:List Str}{R:List Value->Shared->Prop} (hh:A.handled = none) (hS:zbb P w a ds s.heap) (hn:ds.length<=1000)
  (h:∀ (h':Heap) (tk:Nat) (d':Drawn) (vs:List Value),(∀ b o,s.heap.get? b = some o->h'.get? b = some o)->s.heap.objs.size<=h'.objs.size->(∀ v∈vs,∃ z tk,v = .str z tk)->(vs.map txOf).Perm ds->R vs { s with heap:=h',toks:=tk,drawn:=d' }):
  wpAny (model P w) A (collect (.ref a)) R E s:=by
 obtain ⟨oa,hoa,hexa⟩:∃ o,s.heap.get? a = some o/\o.ExactSet:=by
  obtain ⟨o,es,ep,t,ho,hex,_⟩:=hS
  exact ⟨o,ho,hex⟩
 have haS:a < s.heap.objs.size:=Heap.lt_size hoa
 have hS1:zbb P w a ds (s.heap.push (lO #[] 0)):=by
  obtain ⟨o,es,ep,t,ho,rest⟩:=hS
  exact ⟨o,es,ep,t,Heap.get?_push_of_some _ ho,rest⟩
 have sz:(s.heap.push (lO #[] 0)).objs.size = s.heap.objs.size + 1:=Heap.size_push ..
 have hh2:A.in1.handled = none:=by simpa using hh
 refine zft (n:=ds.length) (Gd:=fun Pi=>∃ ord:List Value,(Pi = fun i v=>ord[i]? = some v)/\(∀ v∈ord,∃ z tk,v = .str z tk)/\(ord.map txOf).Perm ds) hoa hexa.1 (by decide) (Nat.le_trans hn (by decide)) (fun s1 Q E hT q=>zjx hT q) (fun Q E q=>?_) fun h' tk d' acc Pi hgd kp hle hacc=>?_
 ·refine zjw (A:=A.in1) hS1 fun I pl h1 d1 es ep t ord kp hI hplI hpla hf hz hpo hst hpm st=>?_
  rw [show ({ s with heap:=s.heap.push (lO #[] 0) }:Shared).heap.objs.size = s.heap.objs.size + 1 from sz] at hI hpla
  have haI:a≠I:=Nat.ne_of_lt (Nat.lt_of_lt_of_le haS (Nat.le_of_succ_le hI))
  have hl:ord.length = ds.length:=by rw [← hpm.length_eq,List.length_map]
  have Wk:=zjv (P:=P) (w:=w) (A:=A.in1) hh2 I a pl (ep:=ep) hf hz haI hplI
  rw [hl] at Wk
  refine q I [I,a,pl] h1 d1 _ _ ⟨ord,rfl,hst,hpm⟩ kp hI (fun z=>?_) Wk st
  rcases List.mem_cons.mp z with z | z
  ·exact absurd z (Nat.ne_of_lt hI)
  ·rcases List.mem_cons.mp z with z | z
   ·exact absurd z.symm (Nat.ne_of_lt haS)
   ·have e:=List.mem_singleton.mp z
    rcases hpla with e' | e'
    ·rw [e'] at e
     exact absurd e.symm (Nat.ne_of_lt haS)
    ·exact absurd e (Nat.ne_of_lt e')
 ·obtain ⟨ord,rfl,hst,hpm⟩:=hgd
  have hl:ord.length = ds.length:=by rw [← hpm.length_eq,List.length_map]
  have eord:acc.toList = ord:=by
   apply List.ext_getElem?
   intro k
   by_cases hk:k < acc.size
   ·have:=hacc.2 k acc[k] (Array.getElem?_eq_getElem hk)
    rw [Array.getElem?_toList,Array.getElem?_eq_getElem hk,this]
   ·rw [List.getElem?_eq_none (by rw [Array.length_toList]; omega),List.getElem?_eq_none (by rw [hl,← hacc.1]; omega)]
  rw [eord]
  exact h h' tk d' ord kp hle hst hpm
theorem zkZ {s:Shared}{D:Addr}{vs:List Value}{n:Nat}{Q:Value->Shared->Prop} (ho:s.heap.get? D = some (seqObj "list" vs.toArray n)) (hv:∀ v∈vs,∃ z tk,v = .str z tk) (h64:vs.length < 64)
  (h:∀ (h':Heap) (out:List Value) (ss:List Str) (e:Nat),(∀ b o,b≠D->s.heap.get? b = some o->h'.get? b = some o)->h'.get? D = some (seqObj "list" out.toArray e)->StrsAre out ss->ss.Perm (vs.map txOf)->sortedS ss = true->Q .none { s with heap:=h' }):
  wpAny (model P w) A (call (.builtin "list.sort") [.ref D]) Q E s:=by
 have hS:=strsAre_map vs fun v hm=>hv v hm
 have hm:vs.map strOf = vs.map txOf:=List.map_congr_left fun v hm=>(zgX v (hv v hm)).symm
 refine wpAny_call_entry slot_list_sort ⟨_,ho,rfl⟩ entry_list_sort (list_sort_treeK strKind_oneLt ho hS.keysOf (fun v₁ v₂ rest e=>keyKind_strs (by rw [← e]; exact hS)) h64 fun st' hp hs=>⟨_,rfl,?_⟩) (args_list_sort _)
 obtain ⟨ss',h1,h2,h3⟩:=sorted_out_str hS hp hs
 obtain ⟨e,he⟩:=sortedHeap_at (out:=(arrOf st').map (·.2)) ho
 exact h _ ((arrOf st').map (·.2)).toList ss' e (fun b o hb eo=>(sortedHeap_old hb (Heap.lt_size eo)).trans eo) he h1 (by rw [← hm]; exact h2) h3
end
section
variable {P:Program}{w:World}{A:Around}{E:Value->Shared->Prop}
theorem zdk {s:Shared}{a:Addr}{ds:List Str}{Q:Value->Shared->Prop}
  (hcol:∀ (R:List Value->Shared->Prop),(∀ (h':Heap) (tk:Nat) (d':Drawn) (vs:List Value),(∀ b o,s.heap.get? b = some o->h'.get? b = some o)->s.heap.objs.size<=h'.objs.size->(∀ v∈vs,∃ z tk,v = .str z tk)->(vs.map txOf).Perm ds->R vs { s with heap:=h',toks:=tk,drawn:=d' })->wpAny (model P w) A.in1 (collect (.ref a)) R E s) (h64:ds.length < 64)
  (h:∀ (D:Addr) (h':Heap) (tk:Nat) (d':Drawn) (out:List Value) (ss:List Str) (e:Nat),(∀ b o,s.heap.get? b = some o->h'.get? b = some o)->s.heap.objs.size<=D->h'.get? D = some (seqObj "list" out.toArray e)->StrsAre out ss->ss.Perm ds->sortedS ss = true->Q (.ref D) { s with heap:=h',toks:=tk,drawn:=d' }):
  wpAny (model P w) A (call (.builtin "sorted") [.ref a]) Q E s:=by
 refine Calls.call_function_entry kind_sorted plain_sorted entry_sorted (args_sorted1 _) ?_
 unfold Builtin.«sorted»
 refine wpAny_bind (m:=checkCount "sorted" 1 1 _) (wpAny_pure (wpAny_bind (hcol _ fun h1 tk d1 vs kp hle hst hpm=>?_)))
 have hl:vs.length = ds.length:=by rw [← hpm.length_eq,List.length_map]
 refine wpAny_bind (wpAny_newList ?_ (by rw [hl]; exact Nat.le_trans (Nat.le_of_lt h64) (by decide)))
 have gD:(h1.push (seqObj "list" vs.toArray 0)).get? h1.objs.size = some (seqObj "list" vs.toArray 0):=Heap.get?_push_size _ rfl
 refine wpAny_bind (wpAny_holding (zkZ gD hst (by omega) fun h2 out ss e k2 g2 hs hp hS=>?_))
 refine wpAny_pure ⟨_,rfl,h h1.objs.size h2 tk d1 out ss e (fun b o eb=>?_) ?_ g2 hs (hp.trans hpm) hS⟩
 ·have hb:=kp b o eb
  exact k2 b o (Nat.ne_of_lt (Heap.lt_size hb)) (Heap.get?_push_of_some _ hb)
 ·exact hle
end
def zk0 (l:List Str):Prop:=sortedS l = true
theorem zeK:∀ (p:Str) (l:List Str),risingS p l = true->(p :: l).Pairwise fun a b=>a.cps.toList<=b.cps.toList
 | p,[],_=>by simp
 | p,x :: r,h=>by
  unfold risingS at h
  rw [Bool.and_eq_true] at h
  have ih:=zeK x r h.2
  have hpx:p.cps.toList<=x.cps.toList:=fun z=>by
   have:=h.1
   rw [ltCps_eq,decide_eq_true z] at this
   cases this
  rw [List.pairwise_cons]
  refine ⟨fun b hb=>?_,ih⟩
  rcases List.mem_cons.mp hb with rfl | hb
  ·exact hpx
  ·exact List.le_trans hpx (List.rel_of_pairwise_cons ih hb)
theorem zeL {l:List Str} (h:sortedS l = true):l.Pairwise fun a b=>a.cps.toList<=b.cps.toList:=by
 cases l with
 | nil=>exact .nil
 | cons x r=>exact zeK x r h
theorem zig {a b:Str} (h:a.cps.toList = b.cps.toList):a = b:=by
 obtain ⟨⟨x⟩⟩:=a
 obtain ⟨⟨y⟩⟩:=b
 have:x = y:=h
 subst this
 rfl
theorem zgY {l₁ l₂:List Str} (h1:sortedS l₁ = true) (h2:sortedS l₂ = true) (p:l₁.Perm l₂):l₁ = l₂:=
 List.Perm.eq_of_pairwise (fun a b _ _ h h'=>zig (List.le_antisymm h h')) (zeL h1) (zeL h2) p
theorem Inv.drawn {X:Cx}{zp:List (Addr × Obj)}{σ:List (Option V)}{H:Hp}{s:Shared} (I:Inv X zp σ H s) (d':Drawn):Inv X zp σ H { s with drawn:=d' }:=⟨I.ok,I.os,I.bare,I.base,I.loc,I.cell,I.free,I.freeC,I.pin,I.hok,I.len⟩
theorem zfv:∀ {us:List Value}{ss:List Str},StrsAre us ss->Vals (ss.map V.str) us
 | _,_,.nil=>.nil
 | _,_,.cons y t h=>.cons ⟨t,rfl⟩ (zfv h)
theorem zcL {X:Cx} (hc:X.calm = true):zau X (.builtin "sorted") (fun xs H Q=>∃ (a:Addr) (ds:List Str),xs = [.ref a]/\H a = some (SetH X.prog X.w a ds)/\ds.length < 64/\∀ (l:Addr) (ss:List Str),H l = none->ss.Perm ds->sortedS ss = true->Q (.ref l) (upd H l (.lst (ss.map V.str)))):=by
 intro zp s σ H xs us Q I r h
 obtain ⟨a,ds,rfl,ea,hn,q⟩:=h
 obtain ⟨u,rfl,rx⟩:=zbf r
 cases rx
 obtain ⟨hS,_⟩:=(show Zh X.prog X.w H s.heap a (SetH X.prog X.w a ds) from I.hok a _ ea)
 refine zdk (ds:=ds) (fun R hR=>zfu (A:=X.A.in1) (by simpa using I.ok.hd hc) hS (by omega) hR) hn fun D h' tk d' out ss e kp hD g hs hp hS'=>?_
 have hl:ss.length < 64:=by rw [hp.length_eq]; exact hn
 exact ⟨.ref D,_,(I.drawn d').laid (t':=tk) kp hD (show Zh X.prog X.w _ h' _ (.lst (ss.map V.str)) from ⟨by rw [List.length_map]; exact Nat.le_trans (Nat.le_of_lt hl) (by decide),out,e,zfv hs,g⟩),rfl,q D ss (I.hok.fresh hD) hp hS'⟩
theorem zjy {K:PySem.W.Frag}{fr:List Nat}{te:TE}{σ:St}{H:Hp}{F:Addr->Hp->List V->Prop}{a:Addr}{vs:List V} (outs:List V) (hS:SqL K H a vs) (hl:outs.length = vs.length) (hz:vs.length<=sizeLine)
  (step:∀ (i:Nat) (v y:V) (H1:Hp) (R:VK),vs[i]? = some v->outs[i]? = some y->Same H H1->(∀ H2,Same H1 H2->R y H2)->te (some v :: frees fr σ) H1 R)
  (fin:∀ (H1:Hp) (D:Addr),Same H H1->H1 D = none->F D H1 outs):
  ∃ W:Nat->Nat->List V->Hp->Prop,(∃ m,W 0 m [] H)/\∀ i m vs H,W i m vs H->vs.length<=sizeLine /\
   (((Itl K a).stop i H/\∀ D,H D = none->F D H vs) \/
    ((Itl K a).go i H/\∀ v H',(Itl K a).yld i H v H'->if true = true then te (some v :: frees fr σ) H' fun y H3=>∃ m',m' < m/\W (i + 1) m' (vs ++ [y]) H3 else ∃ m',m' < m/\W (i + 1) m' vs H')):=by
 refine ⟨fun i m us H1=>i<=vs.length/\m = vs.length - i/\us = outs.take i/\Same H H1,⟨_,Nat.zero_le _,rfl,by simp,Same.refl _⟩,fun i m us H1 hW=>?_⟩
 obtain ⟨hi,hm,hu,sm⟩:=hW
 refine ⟨by rw [hu,List.length_take]; omega,?_⟩
 by_cases hlt:i < vs.length
 ·refine .inr ⟨⟨vs,vs[i],sm.seq hS,List.getElem?_eq_getElem hlt⟩,fun v H' hy=>?_⟩
  obtain ⟨rfl,hv⟩:=hy
  have hv:=hv vs (sm.seq hS)
  have hy:outs[i]? = some outs[i]:=List.getElem?_eq_getElem (by omega)
  refine iteT ?_
  refine step i v outs[i] H' _ hv hy sm fun H2 s2=>⟨vs.length - (i + 1),by omega,by omega,rfl,?_,sm.trans s2⟩
  rw [hu,zaw hy]
 ·have e:i = vs.length:=by omega
  refine .inl ⟨⟨vs,sm.seq hS,by omega⟩,fun D hD=>?_⟩
  have e2:us = outs:=by rw [hu,List.take_of_length_le (by omega)]
  rw [e2]
  exact fin H1 D sm hD
end L2
namespace D
open PySem L2
end D
namespace L2
open PySem PySem.Spec PyProof.Rows
def Flies (tr:Bool) (h0:Heap) (H:Hp) (h:Heap) (e:Addr) (cls:Value):Prop:=
 h0.get? e = none/\H e = none/\∃ oe vs,h.get? e = some oe/\(oe.cls = cls/\oe.dict = none)/\oe.data = .fields vs/\1 < vs.size /\
  ((tr = false/\vs[1]? = some .none)\/∃ T oT ts fl,vs[1]? = some (.ref T)/\h0.get? T = none/\H T = none/\T≠e/\h.get? T = some oT/\oT.data = .fields ts/\ts[3]? = some fl)
theorem Flies.earlier {tr:Bool}{h0 h1:Heap}{H:Hp}{h:Heap}{e:Addr}{cls:Value} (x:Flies tr h0 H h e cls) (k:∀ b o,h1.get? b = some o->∃ o',h0.get? b = some o'):Flies tr h1 H h e cls:=by
 have no:∀ b,h0.get? b = none->h1.get? b = none:=fun b hb=>by
  cases q:h1.get? b with
  | none=>rfl
  | some o=>obtain ⟨o',e⟩:=k b o q; rw [hb] at e; cases e
 obtain ⟨a,b,oe,vs,c,d,f,g,r⟩:=x
 refine ⟨no _ a,b,oe,vs,c,d,f,g,?_⟩
 rcases r with r | ⟨T,oT,ts,fl,r1,r2,r3⟩
 ·exact .inl r
 ·exact .inr ⟨T,oT,ts,fl,r1,no _ r2,r3⟩
structure Old (X:Cx) (zp:List (Addr × Obj)) (h0:Heap):Prop where
 ent:∀ b o,X.s₀.heap.get? b = some o->b ∉ X.ex->∃ o',h0.get? b = some o'
 loc:∃ o,h0.get? X.env.locals = some o
 cel:∀ x c,X.env.cells.lookup x = some c->∃ o,h0.get? c = some o
 pin:∀ p∈X.pn ++ zp,∃ o,h0.get? p.1 = some o
theorem Inv.old {X:Cx}{zp:List (Addr × Obj)}{σ:St}{H:Hp}{s:Shared} (I:Inv X zp σ H s):Old X zp s.heap:=
 ⟨fun b o e hx=>I.base.there b o e hx,(let ⟨_,⟨o,_,_,e,_⟩,_⟩:=I.loc; ⟨o,e⟩),fun x c e=>(let ⟨_,o,e,_⟩:=I.cell x c e; ⟨o,e⟩),fun p hp=>⟨_,(I.pin p hp).1⟩⟩
section
variable {X:Cx}{zp:List (Addr × Obj)}{σ:St}{H:Hp}{h0:Heap}{s1:Shared}
theorem Old.flown (O:Old X zp h0) (J:Inv X zp σ H s1) {S:List Addr}{h':Heap} (hS:∀ b∈S,h0.get? b = none/\H b = none)
  (k:∀ b o,b ∉ S->b ∉ frs X.stack->s1.heap.get? b = some o->h'.get? b = some o)
  (f:∀ b o,b ∉ S->s1.heap.get? b = some o->∃ sl,h'.get? b = some { o with slots:=sl }):Inv X zp σ H { s1 with heap:=h' }:=by
 have old:∀ {b:Addr}{o:Obj},h0.get? b = some o->b ∉ S:=fun {b o} e hb=>by rw [(hS b hb).1] at e; cases e
 have cellk:∀ {c:Addr}{v:Option Value},c ∉ S->s1.heap.IsCell c v->h'.IsCell c v:=fun {c v} hc z=>by
  obtain ⟨o,ho,hd⟩:=z
  obtain ⟨sl,q⟩:=f c o hc ho
  exact ⟨_,q,hd⟩
 have cold:∀ x c,X.env.cells.lookup x = some c->c ∉ S:=fun x c e=>by
  obtain ⟨o,ho⟩:=O.cel x c e
  exact old ho
 refine ⟨J.ok,J.os,J.bare,?_,?_,fun x c e=>?_,J.free,J.freeC,fun p hp=>?_,?_,J.len⟩
 ·refine ⟨fun b o e n hb hx=>?_,fun b o e n hb hx=>?_,J.base.free,fun b o e hx=>?_,J.base.tups,J.base.frzs,J.base.tbls⟩
  ·obtain ⟨o',q⟩:=O.ent b o e hx
   refine k b o (old q) (fun z=>?_) (J.base.keep b o e n hb hx)
   rcases List.mem_cons.mp (J.stkSub b z) with z | z
   ·exact absurd (Nat.lt_of_lt_of_le (Heap.lt_size e) J.ok.above) (by rw [z]; exact Nat.lt_irrefl _)
   ·exact hb z
  ·obtain ⟨o',q⟩:=O.ent b o e hx
   obtain ⟨sl,q2⟩:=J.base.slot b o e n hb hx
   obtain ⟨sl2,q3⟩:=f b _ (old q) q2
   exact ⟨sl2,q3⟩
  ·obtain ⟨o',q⟩:=O.ent b o e hx
   obtain ⟨o2,q2⟩:=J.base.there b o e hx
   obtain ⟨sl2,q3⟩:=f b _ (old q) q2
   exact ⟨_,q3⟩
 ·obtain ⟨m,⟨o,es,ep,ho,r⟩,hl⟩:=J.loc
  obtain ⟨o0,ho0⟩:=O.loc
  obtain ⟨sl,q⟩:=f _ o (old ho0) ho
  refine ⟨m,⟨_,es,ep,q,r⟩,fun i x v h1 h2 h3=>?_⟩
  obtain ⟨u,ru,lk⟩:=hl i x v h1 h2 h3
  refine ⟨u,ru,?_⟩
  rcases lk with lk | ⟨lk,c,hc,z⟩
  ·exact .inl lk
  ·exact .inr ⟨lk,c,hc,cellk (cold x c hc) z⟩
 ·obtain ⟨v,z⟩:=J.cell x c e
  exact ⟨v,cellk (cold x c e) z⟩
 ·obtain ⟨h1,h2,h3,h4,h5⟩:=J.pin p hp
  obtain ⟨o0,ho0⟩:=O.pin p hp
  refine ⟨k p.1 p.2 (old ho0) (fun z=>?_) h1,h2,h3,h4,h5⟩
  rcases List.mem_cons.mp (J.stkSub _ z) with z | z
  ·exact h3 z
  ·exact h4 z
 ·intro a o e
  have ne:∀ b u,H b = some u->b ∉ S/\b ∉ frs X.stack:=fun b u q=>⟨fun z=>(by rw [(hS b z).2] at q; cases q),fun z=>(by rw [J.stkFree b z] at q; cases q)⟩
  refine (J.hok a o e).stay (fun b u hb q=>?_) (fun _ q=>q) fun _ _ q=>q
  rcases hb with rfl | hb
  ·exact k _ u (ne _ _ e).1 (ne _ _ e).2 q
  ·exact k _ u (ne _ _ hb).1 (ne _ _ hb).2 q
theorem Zh.there {P:Program}{w:World}{H:Hp}{h:Heap}{a:Addr}{o:HO} (x:Zh P w H h a o):∃ ob,h.get? a = some ob:=by
 cases o with
 | lst xs=>obtain ⟨_,_,_,_,e⟩:=x; exact ⟨_,e⟩
 | tup xs=>obtain ⟨_,_,_,ob,e,_⟩:=x; exact ⟨_,e⟩
 | dK kvs=>obtain ⟨_,_,_,_,o,_,_,e,_⟩:=x; exact ⟨_,e⟩
 | dT kvs=>obtain ⟨_,_,_,_,o,_,_,e,_⟩:=x; exact ⟨_,e⟩
 | set S n=>obtain ⟨o,_,_,_,e,_⟩:=x; exact ⟨_,e⟩
 | ins C dx fs=>obtain ⟨_,_,_,e,_⟩:=x; exact ⟨_,e⟩
 | own y=>exact x
 | xd fs=>obtain ⟨_,⟨_,_,_,e,_⟩,_⟩:=x; exact ⟨_,e⟩
 | rng lo hi=>obtain ⟨_,_,_,e⟩:=x; exact ⟨_,e⟩
 | frz ob u=>exact ⟨_,x.1⟩
 | tbl ps=>exact ⟨_,x⟩
 | met f y=>exact ⟨_,x⟩
 | ext φ=>exact x.2.1
theorem HOk.noneAt {P:Program}{w:World}{H:Hp}{h:Heap}{a:Addr} (x:HOk P w H h) (e:h.get? a = none):H a = none:=by
 cases q:H a with
 | none=>rfl
 | some o=>obtain ⟨ob,z⟩:=(x a o q).there; rw [e] at z; cases z
theorem zeM {M:Model}{E:Value->Shared->Prop}{env:Env}{outer:List Env}{L e:Addr}{oe:Obj}{vs:Array Value}{head:Value}{hn:Bool}{Q:Unit->Shared->Prop}
  (O:Old X zp h0) (J:Inv X zp σ H s1) (k01:∀ b o,h0.get? b = some o->∃ o',s1.heap.get? b = some o') (hst:X.stack = env :: outer) (hf:env.frame = some L)
  (he:s1.heap.get? e = some oe) (hd:oe.data = .fields vs) (hdn:oe.dict = none) (hsz:1 < vs.size) (e0:h0.get? e = none) (eH:H e = none)
  (q:∀ h',Inv X zp σ H { s1 with heap:=h' }->Flies true h0 H h' e oe.cls->(∀ b o,s1.heap.get? b = some o->∃ o',h'.get? b = some o')->Q () { s1 with heap:=h' }):
  wpAny M X.A (do let a ← frameOf env; let pl ← entryPlaceOf L hn; let b ← EntryCells.newEntry head a .none (rawInt L) .none pl; setField (.ref e) 1 b) Q E s1:=by
 have fr:=J.ok.frames
 have fs:=J.stack
 rw [hst] at fr fs
 have ene:e ∉ frs X.stack:=fun hm=>by
  rw [hst] at hm
  obtain ⟨_,o,ho,hnf⟩:=fs.mem hm
  rw [he] at ho
  cases ho
  exact hnf vs hd
 refine wpAny_bind (wpAny_frameOf_fun fr fs hf fun g1 hg1=>wpAny_bind (wpAny_entryPlaceOf fun pl hp=>?_))
 unfold EntryCells.newEntry; unfold newFields
 refine wpAny_bind (wpAny_newObj_type ?_ (hp.sizeOk5 _ _ _ _ _))
 have he1:g1.get? e = some oe:=(hg1.2.1 e (by rw [hst] at ene; exact ene)).trans he
 have nTe:g1.objs.size≠e:=Nat.ne_of_gt (Heap.lt_size he1)
 refine wpAny_setField (Heap.get?_push_of_some _ he1) hd hsz ?_
 dsimp only
 generalize hob:({ cls:=.type "traceback",dict:=none,data:=.fields ([head,.ref L,.none,rawInt L,.none] ++ (if pl.isEmpty then List.replicate 6 Value.none else pl)).toArray }:Obj) = ob
 have hobd:ob.data = .fields ([head,.ref L,.none,rawInt L,.none] ++ (if pl.isEmpty then List.replicate 6 Value.none else pl)).toArray:=by rw [← hob]
 have hobf:ob.isFreed = false:=Obj.isFreed_of_fields hobd
 have pk:∀ b o,b≠e->g1.get? b = some o->((g1.push ob).update e (Obj.mapFields (·.setIfInBounds 1 (Value.ref g1.objs.size)))).get? b = some o:=fun b o hb h=>
  (Heap.get?_update_other _ _ (Ne.symm hb)).trans (Heap.get?_push_of_some _ h)
 have pT:((g1.push ob).update e (Obj.mapFields (·.setIfInBounds 1 (Value.ref g1.objs.size)))).get? g1.objs.size = some ob:=(Heap.get?_update_other _ _ (Ne.symm nTe)).trans (Heap.get?_push_size _ hobf)
 have hdm:=Obj.data_mapFields hd (·.setIfInBounds 1 (Value.ref g1.objs.size))
 have pe:((g1.push ob).update e (Obj.mapFields (·.setIfInBounds 1 (Value.ref g1.objs.size)))).get? e = some (oe.mapFields (·.setIfInBounds 1 (Value.ref g1.objs.size))):=Heap.get?_update_self _ (Heap.get?_push_of_some _ he1) (Obj.isFreed_of_fields hdm)
 generalize ((g1.push ob).update e (Obj.mapFields (·.setIfInBounds 1 (Value.ref g1.objs.size)))) = h' at pk pT pe
 have nst:∀ b,b ∉ frs X.stack->b ∉ (env :: outer).filterMap (·.frame):=fun b hb=>by rw [hst] at hb; exact hb
 have kk:∀ b o,b ∉ [e]->b ∉ frs X.stack->s1.heap.get? b = some o->h'.get? b = some o:=fun b o hb hb2 h=>pk b o (fun z=>hb (by simp [z])) ((hg1.2.1 b (nst b hb2)).trans h)
 have ff:∀ b o,b ∉ [e]->s1.heap.get? b = some o->∃ sl,h'.get? b = some { o with slots:=sl }:=fun b o hb h=>by
  obtain ⟨sl,z⟩:=hg1.2.2 b o h
  exact ⟨sl,pk b _ (fun z=>hb (by simp [z])) z⟩
 have sT:s1.heap.get? g1.objs.size = none:=by
  cases z:s1.heap.get? g1.objs.size with
  | none=>rfl
  | some o=>have:=Heap.lt_size z; rw [hg1.1] at this; exact absurd this (Nat.lt_irrefl _)
 have hcm:(oe.mapFields (·.setIfInBounds 1 (Value.ref g1.objs.size))).cls = oe.cls:=Obj.cls_mapFields _ _
 have hdd:(oe.mapFields (·.setIfInBounds 1 (Value.ref g1.objs.size))).dict = none:=by
  rw [← hdn]; unfold Obj.mapFields; split <;> rfl
 have h3:∃ fl,(([head,.ref L,.none,rawInt L,.none] ++ (if pl.isEmpty then List.replicate 6 Value.none else pl)).toArray)[3]? = some fl:=⟨_,rfl⟩
 obtain ⟨fl,h3⟩:=h3
 refine q h' (O.flown J (S:=[e]) (fun b hb=>?_) kk ff) ⟨e0,eH,_,_,pe,⟨hcm,hdd⟩,hdm,by rw [Array.size_setIfInBounds]; exact hsz,.inr ⟨_,ob,_,fl,Array.getElem?_setIfInBounds_self_of_lt hsz,?_,J.hok.noneAt sT,nTe,pT,hobd,h3⟩⟩ fun b o h=>?_
 ·rw [List.mem_singleton.mp hb]; exact ⟨e0,eH⟩
 ·cases z:h0.get? g1.objs.size with
  | none=>rfl
  | some o=>obtain ⟨o',z2⟩:=k01 _ o z; rw [sT] at z2; cases z2
 ·by_cases hb:b∈[e]
  ·rw [List.mem_singleton.mp hb]; exact ⟨_,pe⟩
  ·obtain ⟨sl,z⟩:=ff b o hb h; exact ⟨_,z⟩
theorem zf8 {M:Model}{E:Value->Shared->Prop}{env:Env}{outer:List Env}{L e:Addr}{cls:Value}{tr:Bool}{Q:Unit->Shared->Prop}
  (O:Old X zp h0) (J:Inv X zp σ H s1) (k01:∀ b o,h0.get? b = some o->∃ o',s1.heap.get? b = some o') (hst:X.stack = env :: outer) (hf:env.frame = some L)
  (fl:Flies tr h0 H s1.heap e cls) (q:∀ h',Inv X zp σ H { s1 with heap:=h' }->Flies true h0 H h' e cls->(∀ b o,s1.heap.get? b = some o->∃ o',h'.get? b = some o')->Q () { s1 with heap:=h' }):
  wpAny M X.A (noteFrame (.ref e) env) Q E s1:=by
 obtain ⟨e0,eH,oe,vs,he,hc,hd,hsz,r⟩:=fl
 unfold noteFrame
 simp only [hf]
 rcases r with ⟨_,h1⟩ | ⟨T,oT,ts,f,h1,T0,TH,Te,hT,hdT,h3⟩
 ·refine wpAny_bind (wpAny_field he hd h1 ?_)
  rw [if_neg (by decide)]
  exact zeM O J k01 hst hf he hd hc.2 hsz e0 eH (by rw [hc.1]; exact q)
 ·refine wpAny_bind (wpAny_field he hd h1 ?_)
  rw [if_pos (by simp)]
  refine wpAny_bind (wpAny_field hT hdT h3 (?_))
  by_cases hfl:(f == rawInt L) = true
  ·rw [if_pos hfl]
   exact wpAny_pure (q s1.heap J ⟨e0,eH,oe,vs,he,hc,hd,hsz,.inr ⟨T,oT,ts,f,h1,T0,TH,Te,hT,hdT,h3⟩⟩ fun b o z=>⟨o,z⟩)
  ·rw [if_neg hfl]
   have hs3:=(Array.getElem?_eq_some_iff.mp h3).1
   refine wpAny_bind (wpAny_setField hT hdT hs3 ?_)
   have he':(s1.heap.update T (Obj.mapFields (·.setIfInBounds 3 Value.none))).get? e = some oe:=(Heap.get?_update_other _ _ Te).trans he
   have kk:∀ b o,b ∉ [T]->s1.heap.get? b = some o->(s1.heap.update T (Obj.mapFields (·.setIfInBounds 3 Value.none))).get? b = some o:=fun b o hb h=>(Heap.get?_update_other _ _ (fun z=>hb (by simp [z]))).trans h
   have th:∀ b o,s1.heap.get? b = some o->∃ o',(s1.heap.update T (Obj.mapFields (·.setIfInBounds 3 Value.none))).get? b = some o':=fun b o h=>by
    by_cases hb:b∈[T]
    ·rw [List.mem_singleton.mp hb]; exact ⟨_,Heap.get?_update_self _ hT (Obj.isFreed_of_fields (Obj.data_mapFields hdT _))⟩
    ·exact ⟨o,kk b o hb h⟩
   have J':=O.flown J (S:=[T]) (fun b hb=>by rw [List.mem_singleton.mp hb]; exact ⟨T0,TH⟩) (fun b o hb _ h=>kk b o hb h) fun b o hb h=>⟨o.slots,kk b o hb h⟩
   refine zeM (s1:={ s1 with heap:=s1.heap.update T (Obj.mapFields (·.setIfInBounds 3 Value.none)) }) O J' (fun b o h=>?_) hst hf he' hd hc.2 hsz e0 eH (by rw [hc.1]; exact fun h' a b c=>q h' a b fun b o z=>(let ⟨o',z'⟩:=th b o z; c b o' z'))
   obtain ⟨o',h'⟩:=k01 b o h
   exact ⟨o',kk b o' (fun z=>by rw [List.mem_singleton.mp z,T0] at h; cases h) h'⟩
theorem zbY {M:Model}{A:Around}{E:Value->Shared->Prop}{x:Option Addr}{e:Addr}{cls:Value}{Q:Unit->Shared->Prop}
  (O:Old X zp h0) (J:Inv X zp σ H s1) (fl:Flies true h0 H s1.heap e cls)
  (q:∀ h',Inv X zp σ H { s1 with heap:=h' }->Flies true h0 H h' e cls->(∀ b o,s1.heap.get? b = some o->∃ o',h'.get? b = some o')->Q () { s1 with heap:=h' }):wpAny M A (setFlight (.ref e) x) Q E s1:=by
 obtain ⟨e0,eH,oe,vs,he,hc,hd,hsz,r⟩:=fl
 rcases r with ⟨z,_⟩ | ⟨T,oT,ts,f,h1,T0,TH,Te,hT,hdT,h3⟩
 ·cases z
 unfold setFlight; refine wpAny_bind (wpAny_field he hd h1 (?_))
 rw [if_pos (by simp)]
 have hs3:=(Array.getElem?_eq_some_iff.mp h3).1
 refine wpAny_setField hT hdT hs3 (q _ ?_ ⟨e0,eH,oe,vs,(Heap.get?_update_other _ _ Te).trans he,hc,hd,hsz,.inr ⟨T,_,_,_,h1,T0,TH,Te,Heap.get?_update_self _ hT (Obj.isFreed_of_fields (Obj.data_mapFields hdT _)),Obj.data_mapFields hdT _,Array.getElem?_setIfInBounds_self_of_lt hs3⟩⟩ fun b o h=>?_)
 rotate_left
 ·by_cases hb:b∈[T]
  ·rw [List.mem_singleton.mp hb]; exact ⟨_,Heap.get?_update_self _ hT (Obj.isFreed_of_fields (Obj.data_mapFields hdT _))⟩
  ·exact ⟨o,(Heap.get?_update_other _ _ (fun z=>hb (by simp [z]))).trans h⟩
 exact O.flown J (S:=[T]) (fun b hb=>by rw [List.mem_singleton.mp hb]; exact ⟨T0,TH⟩) (fun b o hb _ h=>(Heap.get?_update_other _ _ (fun z=>hb (by simp [z]))).trans h) fun b o hb h=>⟨o.slots,(Heap.get?_update_other _ _ (fun z=>hb (by simp [z]))).trans h⟩
theorem zih {M:Model}{E:Value->Shared->Prop}{env:Env}{outer:List Env}{L e:Addr}{cls:Value}{tr:Bool}{Q:Unit->Shared->Prop}
  (O:Old X zp h0) (J:Inv X zp σ H s1) (k01:∀ b o,h0.get? b = some o->∃ o',s1.heap.get? b = some o') (hst:X.stack = env :: outer) (hf:env.frame = some L)
  (fl:Flies tr h0 H s1.heap e cls) (q:∀ h',Inv X zp σ H { s1 with heap:=h' }->Flies true h0 H h' e cls->(∀ b o,s1.heap.get? b = some o->∃ o',h'.get? b = some o')->Q () { s1 with heap:=h' }):
  wpAny M X.A (leaving env (.ref e)) Q E s1:=by
 unfold leaving
 exact wpAny_bind (zf8 O J k01 hst hf fl fun h' J' fl' t1=>zbY (s1:={ s1 with heap:=h' }) O J' fl' fun h2 J2 f2 t2=>q h2 J2 f2 fun b o z=>(let ⟨o',z'⟩:=t1 b o z; t2 b o' z'))
end
def CX1 (P:Program) (w:World):CXT:=fun outer H s E e s'=>∃ (ea C:Addr) (H':Hp),e = .ref ea/\s'.os = s.os/\AllBare s'.gens/\Un (frs outer) [] H H' s.heap s'.heap/\HOk P w H' s'.heap/\Flies true s.heap H' s'.heap ea (.ref C)/\E (.ref C) none H'
def Lets (X:Cx) (E:XK):Prop:=∀ (zp:List (Addr × Obj)) (h0:Heap) (σ:St) (H:Hp) (s1:Shared) (tr:Bool) (ea C:Addr),Old X zp h0->Inv X zp σ H s1->(∀ b o,h0.get? b = some o->∃ o',s1.heap.get? b = some o')->
 Flies tr h0 H s1.heap ea (.ref C)->E (.ref C) none H->X.xe (.ref ea) s1
theorem Lets.passes {X:Cx}{E:XK} (h:Lets X E):Passes (CX1 X.prog X.w) X E:=by
 intro zp σ H s e s' I ⟨ea,C,H',he,ho,hb,un,hok,fl,hE⟩
 subst he
 exact h zp s.heap σ H' s' true ea C I.old (I.call' ho un hok hb (by simp)) (fun b o q=>un.there b o q (by simp)) fl hE
section
variable {P:Program}{w:World}{K:PySem.W.Frag}{mg:Str->Option Value}{base:Heap}{N:List Str}{qual:Str}{scope:Scope}{f:Addr}{cd:Value}{A:Around}{outer:List Env}{s:Shared}{H:Hp}{E:XK}
theorem zaM:Lets (cxOf (CX1 P w) P w K mg base N qual scope f cd A outer s H E) E:=by
 intro zp h0 σ H1 s1 tr ea C O J k01 fl hE
 refine zih O J k01 rfl rfl fl fun h' J' fl' _=>?_
 exact ⟨ea,C,H1,rfl,J'.os,J'.bare,J'.base,J'.hok,fl'.earlier fun b o q=>O.ent b o q (by show b ∉ ([]:List Addr); simp),hE⟩
end
def zaT (P:Program) (w:World) (K:PySem.W.Frag) (mg:Str->Option Value) (base:Heap) (x:Str) (k:Nat) (ps:List Str) (sp:Sp):Prop:=
 ∃ (f:Addr) (fd:FuncData),FnOk P w K mg base (CX1 P w) k f fd ps sp/\Binds K fd ps []/\keepIn K (.ref f) = true/\mg x = some (.ref f)
theorem zaT.mono {P:Program}{w:World}{K:PySem.W.Frag}{mg:Str->Option Value}{base:Heap}{x:Str}{j k:Nat}{ps:List Str}{sp:Sp} (h:zaT P w K mg base x j ps sp) (e:j<=k):zaT P w K mg base x k ps sp:=
 let ⟨f,fd,F,r⟩:=h; ⟨f,fd,F.mono e,r⟩
section
variable {X:Cx}{E:XK}{x:Str}{k:Nat}{ps:List Str}{sp:Sp}{e:Expr}{es:List Expr}{t:TA}{p pos:Pos}
theorem zbK (G:zaT X.prog X.w X.K X.mg X.base x k ps sp) (hr:Room k X.A) (hl:Lets X E) (hg:Gl X x) (ha:PA X (e :: es) t) (hdb:(x == ("__debug__":Str)) = false:=by decide)
  (he:starEach (e :: es) X.env = (false,eval e X.env) :: starEach es X.env:=by rfl) (hpl:(backTo pos (starEach es X.env)).any (·.1) = false:=by rfl):
  PE X (.Call (.Name x p) (e :: es) [] pos) (zb6 sp [] E t):=by
 obtain ⟨f,fd,F,b,kp,m⟩:=G
 exact zht F hr hg m kp b .nil hl.passes ha hdb he hpl
end
theorem Fun.okX {P:Program}{w:World}{K:PySem.W.Frag}{mg:Str->Option Value}{base:Heap}{x qual:Str}{st:Stmt}{f:Addr}{fd:FuncData}{N ps:List Str}{k:Nat}{sp:Sp} (F:Fun K x qual st f fd) (sc:FnScope N ps (zh st)) (h1:∀ (vs:List V) (H:Hp) (Q:VK) (E:XK),sp vs H Q E->vs.length = ps.length)
  (h2:∀ (cdv:Value) (A:Around) (outer:List Env) (s:Shared) (H:Hp) (vs:List V) (Q:VK) (E:XK),Room k (A.deeper (PyProof.Rows.envOfC qual (zh st) s.heap.objs.size f cdv))->sp vs H Q E->
   ∃ t:TS,QSs (cxOf (CX1 P w) P w K mg base N qual (zh st) f cdv A outer s H E) (Zl st) t/\t { nx:=fun _ H'=>Q V.non H',rt:=Q } (L2.start N vs) H):FnOk P w K mg base (CX1 P w) (k + 1) f fd ps sp:=by
 obtain ⟨oc,od,kV,doc,pm,an,cdv,ct,osl,rfl,lk,hcd⟩:=F.ex
 refine zlC lk hcd sc h1 fun A outer s H vs Q E hr hsp=>?_
 obtain ⟨t,h,q⟩:=h2 cdv A outer s H vs Q E hr hsp
 exact ⟨t,h.un,q⟩
def vErr:List Value:=[.type "ValueError",.type "Exception",.type "BaseException",.type "object"]
theorem zme {K:PySem.W.Frag}{h:Heap}{C:Addr}{bmB:List Value}{newId:String} (X:K.In h) (q:excIn K C bmB newId = true):
  ∃ bm N nm q bs hdct sn sub ab col dd k0 k1 k2 k3 k5 mN,h.get? C = some (excClassObj nm q C N bs bm hdct sn sub ab col dd k0 k1 k2 k3 k5 newId)/\h.Ns N mN/\mN "__init__" = none/\OwnTail h bmB bm:=by
 unfold excIn at q
 split at q
 case h_2=>cases q
 rename_i dd cd sl ho
 split at q
 case h_2=>cases q
 rename_i C' bm k0 k1 k2 k3 n k5 hm hs
 simp only [Bool.and_eq_true,Bool.not_eq_true',beq_iff_eq] at q
 obtain ⟨⟨⟨⟨⟨rfl,rfl⟩,hdel⟩,ht⟩,hk⟩,hi⟩:=q
 obtain ⟨nm,bs,mr,ns,qn,hd,sn,sub,ab,col,dl⟩:=cd
 dsimp only at hm hdel hk hi
 subst hm hdel
 obtain ⟨l⟩:=sl
 simp only at hs
 subst hs
 exact ⟨bm,ns,nm,qn,bs,hd,sn,sub,ab,col,dd,k0,k1,k2,k3,k5,_,X _ _ ho,.of_isNs (PySem.W.isNs_of_in X hk),PySem.W.nsMap_none_of_in X hk hi,PySem.W.tail_of_in X ht⟩
def zkd (E:XK) (C:Addr) (t:TA):TS:=fun _ σ H=>t σ H fun vs H1=>vs.length<=sizeLine/\E (.ref C) none H1
theorem za9 {X:Cx}{E:XK}{C:Addr}{x:Str}{e:Expr}{es:List Expr}{t:TA}{np cpos pos:Pos} (hl:Lets X E) (hc:X.calm = true) (hk:excIn X.K C vErr "ValueError.__new__" = true) (hm:X.mg x = some (.ref C)) (hg:Gl X x)
  (ha:PA X (e :: es) t) (hd:(x == ("__debug__":Str)) = false:=by decide) (he:starEach (e :: es) X.env = (false,eval e X.env) :: starEach es X.env:=by rfl) (hpl:(backTo cpos (starEach es X.env)).any (·.1) = false:=by rfl):
  PS X (.Raise (some (.Call (.Name x np) (e :: es) [] cpos)) none pos) (zkd E C t):=by
 intro zp s σ H D I h
 obtain ⟨bm,N,nm,qn,bs,hdct,sn,sub,ab,col,dd,k0,k1,k2,k3,k5,mN,hC,hN,hni,T⟩:=zme I.mod.kin hk
 refine wpAny_Raise_call_subT (C:=C) (nm:=nm) (q:=qn) (N:=N) (bs:=bs) (bm:=bm) (hdct:=hdct) (sn:=sn) (sub:=sub) (ab:=ab) (col:=col) (dd:=dd) (k0:=k0) (k1:=k1) (k2:=k2) (k3:=k3) (k5:=k5) (mN:=mN) PySem.F.excBase_ValueError (T.hasType (by decide +kernel)) (I.ok.hd hc) ?_ hni (zbT I hg hm ⟨rfl,?_⟩ hd)
 ·rw [he]
  show (false || (backTo cpos (starEach es X.env)).any (·.1)) = false
  rw [hpl]; rfl
 have hA:=ha cpos zp s σ H _ I h
 rw [he] at hA ⊢
 refine Calls.evalArgs_plain (wpAny_mono hA (fun us s2 h2=>?_) fun _ _ y=>y)
 obtain ⟨vs,H2,I2,r2,hz,hE⟩:=h2
 have k2:=I2.bk
 refine ⟨rfl,by show us.length<=_; rw [← r2.length]; exact hz,k2 _ _ hC,hN.keeps k2,T.keeps k2,fun h' ea hm=>?_⟩
 obtain ⟨tp,h1,h2,h3⟩:=hm.there
 have J:Inv X zp σ H2 { s2 with heap:=h' }:=I2.kept (t':=s2.toks) hm.keeps
 exact hl zp s2.heap σ H2 { s2 with heap:=h' } false ea C I2.old J (fun b o q=>⟨o,hm.keeps b o q⟩) ⟨hm.new,I2.hok.noneAt hm.new,_,_,h1,⟨rfl,rfl⟩,rfl,(by show 1 < 6; decide),.inl ⟨rfl,rfl⟩⟩ hE
def excO (a C:Addr):HO:=.ext fun h=>∃ o vs,h.get? a = some o/\o.cls = .ref C/\o.dict = none/\o.data = .fields vs
theorem zk1 {P:Program}{w:World}{H:Hp}{h:Heap}{a C:Addr}{o:Obj}{vs:Array Value} (e:h.get? a = some o) (c:o.cls = .ref C) (d:o.dict = none) (f:o.data = .fields vs):Zh P w H h a (excO a C):=
 ⟨⟨o,vs,e,c,d,f⟩,⟨o,e⟩,fun h1 h2 ⟨o,vs,e,r⟩ k=>⟨o,vs,k o e,r⟩⟩
section
variable {X:Cx}{zp:List (Addr × Obj)}{σ:St}{H:Hp}{h0:Heap}{s:Shared}
theorem Inv.tracked {a:Addr}{o:HO} (J:Inv X zp σ H s) (O:Old X zp h0) (a0:h0.get? a = none) (aH:H a = none) (new:Zh X.prog X.w (upd H a o) s.heap a o):Inv X zp σ (upd H a o) s:=by
 have ne:∀ b u,h0.get? b = some u->b≠a:=fun b u e z=>by rw [z,a0] at e; cases e
 have nH:∀ b u,H b = some u->b≠a:=fun b u e z=>by rw [z,aH] at e; cases e
 have b4:=J.base
 refine ⟨J.ok,J.os,J.bare,⟨b4.keep,b4.slot,fun b u e n hx=>?_,b4.there,fun b xs e=>?_,fun b u v e=>?_,fun b ps e=>?_⟩,J.loc,J.cell,?_,fun x c e=>?_,fun p hp=>?_,J.hok.track aH new,J.len⟩
 ·obtain ⟨o',q⟩:=O.ent b u e hx
  rw [zg (ne b o' q)]
  exact b4.free b u e n hx
 ·have:=b4.tups b xs e
  rw [zg (nH _ _ this)]
  exact this
 ·have:=b4.frzs b u v e
  rw [zg (nH _ _ this)]
  exact this
 ·obtain ⟨more,this⟩:=b4.tbls b ps e
  exact ⟨more,by rw [zg (nH _ _ this)]; exact this⟩
 ·obtain ⟨o',q⟩:=O.loc
  rw [zg (ne _ o' q)]
  exact J.free
 ·obtain ⟨o',q⟩:=O.cel x c e
  rw [zg (ne _ o' q)]
  exact J.freeC x c e
 ·obtain ⟨h1,h2,h3⟩:=J.pin p hp
  obtain ⟨o',q⟩:=O.pin p hp
  exact ⟨h1,by rw [zg (ne _ o' q)]; exact h2,h3⟩
theorem Inv.renamed {σ':St}{h':Heap}{m':Str->Option Value}{t':Nat} (J:Inv X zp σ H s) (hs:Heap.SameBut X.env.locals s.heap h') (hn:h'.Ns X.env.locals m') (hl:σ'.length = σ.length)
  (hw:∀ (i:Nat) (x:Str) (v:V),X.N[i]? = some x->σ'[i]? = some (some v)->Vis X.env.scope x->∃ u,RelV v u/\Look X.env s.heap m' x u):Inv X zp σ' H { s with heap:=h',toks:=t' }:=by
 have b4:=J.base
 have ne:∀ b u,X.s₀.heap.get? b = some u->b≠X.env.locals:=fun b u e z=>absurd (Nat.lt_of_lt_of_le (Heap.lt_size e) J.ok.above) (by rw [z]; exact Nat.lt_irrefl _)
 have ck:∀ {c:Addr}{v:Option Value}{x:Str},X.env.cells.lookup x = some c->s.heap.IsCell c v->h'.IsCell c v:=fun {c v x} e z=>by
  obtain ⟨o,ho,hd⟩:=z
  exact ⟨o,(hs.2 c (J.cne x c e)).trans ho,hd⟩
 refine ⟨J.ok,J.os,J.bare,⟨fun b u e n hb hx=>(hs.2 b (ne b u e)).trans (b4.keep b u e n hb hx),fun b u e n hb hx=>?_,b4.free,fun b u e hx=>?_,b4.tups,b4.frzs,b4.tbls⟩,⟨m',hn,fun i x v h1 h2 h3=>?_⟩,fun x c e=>?_,J.free,J.freeC,fun p hp=>?_,J.hok.other J.free hs,hl.trans J.len⟩
 ·obtain ⟨sl,q⟩:=b4.slot b u e n hb hx
  exact ⟨sl,(hs.2 b (ne b u e)).trans q⟩
 ·obtain ⟨o',q⟩:=b4.there b u e hx
  exact ⟨o',(hs.2 b (ne b u e)).trans q⟩
 ·obtain ⟨u,r,lk⟩:=hw i x v h1 h2 h3
  refine ⟨u,r,?_⟩
  rcases lk with lk | ⟨lk,c,hc,z⟩
  ·exact .inl lk
  ·exact .inr ⟨lk,c,hc,ck hc z⟩
 ·obtain ⟨v,z⟩:=J.cell x c e
  exact ⟨v,ck e z⟩
 ·obtain ⟨h1,h2,h3,h4⟩:=J.pin p hp
  exact ⟨(hs.2 _ h3).trans h1,h2,h3,h4⟩
end
abbrev Cx.by (X:Cx) (E:Value->Shared->Prop) (pn:List (Addr × Obj)):Cx:={ X with xe:=E,pn:=pn }
section
variable {X:Cx}{zp pins':List (Addr × Obj)}{σ:St}{H:Hp}{s:Shared}{E:Value->Shared->Prop}
theorem Cx.Ok.by (ok:X.Ok) (E:Value->Shared->Prop) (pn:List (Addr × Obj)):(X.by E pn).Ok:=
 ⟨ok.mod,ok.kind,ok.glob,ok.blt,ok.above,ok.inj,ok.has,ok.cab,ok.hd,ok.frames,ok.stk,ok.exf,ok.bs,ok.bsz,ok.noex,ok.exfs,ok.funs,ok.frf⟩
theorem Cx.Ok.unby {pn:List (Addr × Obj)} (ok:(X.by E pn).Ok):X.Ok:=
 ⟨ok.mod,ok.kind,ok.glob,ok.blt,ok.above,ok.inj,ok.has,ok.cab,ok.hd,ok.frames,ok.stk,ok.exf,ok.bs,ok.bsz,ok.noex,ok.exfs,ok.funs,ok.frf⟩
theorem Inv.by (I:Inv X zp σ H s) (E:Value->Shared->Prop):Inv (X.by E (X.pn ++ zp)) [] σ H s:=
 ⟨I.ok.by E _,I.os,I.bare,I.base,I.loc,I.cell,I.free,I.freeC,fun p hp=>I.pin p (by simpa using hp),I.hok,I.len⟩
theorem Inv.unby (I:Inv (X.by E (X.pn ++ zp)) pins' σ H s):Inv X zp σ H s:=
 ⟨I.ok.unby,I.os,I.bare,I.base,I.loc,I.cell,I.free,I.freeC,fun p hp=>I.pin p (List.mem_append_left _ hp),I.hok,I.len⟩
theorem SP.unby {D:Ends}{f:Flow}{s':Shared} (h:SP (X.by E (X.pn ++ zp)) [] D f s'):SP X zp D f s':=by
 cases f with
 | next=>obtain ⟨σ',H',I,q⟩:=h; exact ⟨σ',H',I.unby,q⟩
 | brk=>obtain ⟨σ',H',I,q⟩:=h; exact ⟨σ',H',I.unby,q⟩
 | cont=>obtain ⟨σ',H',I,q⟩:=h; exact ⟨σ',H',I.unby,q⟩
 | ret u=>obtain ⟨v,σ',H',I,r,q⟩:=h; exact ⟨v,σ',H',I.unby,r,q⟩
abbrev Cx.suite (X:Cx) (e:Value):Cx:={ X with A:=X.A.mark (some e),calm:=false,xe:=fun _ _=>False }
theorem Inv.suite (I:Inv X zp σ H s) (e:Value):Inv (X.suite e) zp σ H s:=
 ⟨⟨I.ok.mod,I.ok.kind,I.ok.glob,I.ok.blt,I.ok.above,I.ok.inj,I.ok.has,I.ok.cab,(fun z=>nomatch z),I.ok.frames,I.ok.stk,I.ok.exf,I.ok.bs,I.ok.bsz,I.ok.noex,I.ok.exfs,I.ok.funs,I.ok.frf⟩,I.os,I.bare,I.base,I.loc,I.cell,I.free,I.freeC,I.pin,I.hok,I.len⟩
theorem Inv.unsuite {e:Value} (I:Inv (X.suite e) zp σ H s) (ok:X.Ok):Inv X zp σ H s:=⟨ok,I.os,I.bare,I.base,I.loc,I.cell,I.free,I.freeC,I.pin,I.hok,I.len⟩
end
structure IsX (K:PySem.W.Frag) (C:Addr):Prop where
 ga:findIn K (.ref C) "__getattribute__" = some (some (.builtin "BaseException.__getattribute__"))
 gh:findIn K (.ref C) "__getattr__" = some none
 ha:findIn K (.ref C) "__class__" = some (some (.builtin "object.__class__"))
 hn:specialIn K (.builtin "object.__class__") "__get__" = some (some (.builtin "getset_descriptor.__get__"))
 htk:takesIn K (.builtin "object.__class__") = some true
 hm:mroIn K C (.type "object") = some true
 hb:mroIn K C (.type "BaseException") = some true
section
variable {prog:Program}{w:World}{A:Around}{E:Value->Shared->Prop}{K:PySem.W.Frag}{s:Shared}{a C:Addr}{o:Obj}
theorem zk2 {Q:Option Value->Shared->Prop} (Z:IsX K C) (X:K.In s.heap) (I:InstAt s.heap a o C none) (h:Q (some (.ref C)) { s with toks:=s.toks + 1 }):
  wpAny (model prog w) A (getAttr? (.ref a) "__class__") Q E s:=by
 obtain ⟨hh,g,d,t,os⟩:=s
 have T0:=I.type (M:=model prog w)
 have L1:=looks_findIn (M:=model prog w) X Z.ga
 have L2:=looks_findIn (M:=model prog w) X Z.gh
 have L3:=PySem.W.looks_mroIn (M:=model prog w) X Z.hb
 have hc:(clsIn K C).isSome = true:=by
  obtain ⟨cd,e,_⟩:=Option.bind_eq_some_iff.mp Z.hm
  rw [e]; rfl
 have hf:PySem.W.findObj K C none "__class__" = some (.bind (.builtin "getset_descriptor.__get__") (.builtin "object.__class__")):=by
  obtain ⟨cd,hcd⟩:=Option.isSome_iff_exists.mp hc
  unfold PySem.W.findObj
  rw [hcd,Option.bind_some,Z.ha,Option.bind_some]
  simp [Z.hn,Z.htk]
 have L4:=PySem.W.looks_find (M:=model prog w) X I hf
 unfold getAttr?; unfold getAttrBy?; unfold getAttrBy
 refine wpAny_bind (wpAny_mkText (wpAny_bind (wpAny_attempt (wpAny_holding ?_))))
 refine wpAny_bind (T0.at (wpAny_bind (L1.at ?_)))
 show wpAny _ _ (getAttrByItsOwn _ _ _ _ _ _) _ _ _
 unfold getAttrByItsOwn
 refine wpAny_bind (L2.at (wpAny_bind (wpAny_attempt (wpAny_holding ?_))))
 show wpAny _ _ (boundAndCalled _ _ _) _ _ _
 unfold boundAndCalled
 refine wpAny_bind (wpAny_of_eq (PySem.F.excAttr_ValueError.ga.bind (.ref a)) ?_)
 refine wpAny_call (codeAny_call_builtin PySem.F.excAttr_ValueError.ga.plain PySem.F.entry_bexc_ga ?_)
 have hbk:builtinKind "BaseException.__getattribute__" = some .slot:=by decide +kernel
 have hsp:splitId "BaseException.__getattribute__" = some ("BaseException","__getattribute__"):=by decide +kernel
 have hao:=PySem.F.args_bexc_ga (.ref a) (.str "__class__" t)
 have fin:∀ (Q':Fin->Shared->Prop) (E':Value->Shared->Prop),Q' (.done (.ret (.ref C))) ⟨hh,g,d,t + 1,os⟩->wpAny (model prog w) (A.in1) (Builtin.«object.__getattribute__» ⟨[.ref a,.str "__class__" t],[]⟩) Q' E' ⟨hh,g,d,t + 1,os⟩:=fun Q' E' hq=>by
  unfold Builtin.«object.__getattribute__»; refine wpAny_bind (wpAny_pure (?_))
  refine wpAny_bind (wpAny_pure (wpAny_bind (T0.at (wpAny_bind (L4.at ?_)))))
  show wpAny _ _ (holding [_] (call _ [_,_,_]) >>= ret) _ _ _
  refine wpAny_bind (wpAny_holding (wpAny_call (PySem.W.class_get (s:=⟨hh,g,d,t + 1,os⟩) (ox:=o) (od:=none) X I Z.hm ?_)))
  exact wpAny_pure hq
 simp only [checkBuiltinCall,hbk,hsp]
 show wpAny _ _ (isInstance (.ref a) (Value.type "BaseException") >>= _) _ _ _
 refine wpAny_bind ?_
 unfold isInstance
 refine wpAny_bind (T0.at (L3.at ?_))
 rw [if_neg (by decide)]
 refine wpAny_of_eq hao (fin _ _ ?_)
 show wpAny (model prog w) A (handedOut (.ref C)) _ _ _
 refine wpAny_of_eq (PySem.W.handedOut_of rfl) ?_
 exact wpAny_pure h
theorem zjz (Z:IsX K C):PySem.W.KitX K (.ref a) (.ref C) (fun h=>∃ o,InstAt h a o C none) where
 ty:=fun _ _ _ ⟨_,I⟩=>I.type
 it:=fun _ _ X _=>by
  obtain ⟨cd,e,_⟩:=Option.bind_eq_some_iff.mp Z.hm
  unfold clsIn at e
  split at e
  ·rename_i c' d' cd' sl' ho
   intro A' Q' E' s' k q
   unfold isType loadHead
   have:=k _ _ (X _ _ ho)
   exact wpAny_bind (wpAny_loadPart this (wpAny_pure q))
  ·cases e
 ne:=fun h tp dd its n sl X ht=>by
  obtain ⟨cd,e,_⟩:=Option.bind_eq_some_iff.mp Z.hm
  refine Bool.eq_false_iff.mpr (fun q=>?_)
  have e2:C = tp:=Value.ref.inj (beq_iff_eq.mp q)
  subst e2
  unfold clsIn at e
  split at e
  ·rename_i c' d' cd' sl' ho
   cases (X _ _ ho).symm.trans ht
  ·cases e
 ca:=fun X ⟨_,I⟩ k=>zk2 Z X I k
end
theorem zii {X:Cx}{C:Addr}{c:V}{u:Value}{b:Bool} (Z:IsX X.K C) (rc:∀ v,RelV c v->v = u) (e:kitOne X.K (.ref C) u = some b):zau X (.builtin "isinstance") (fun xs H Q=>∃ a,xs = [.ref a,c]/\H a = some (excO a C)/\Q (.bl b) H):=by
 intro zp s σ H xs us Q I r h
 obtain ⟨a,rfl,ea,q⟩:=h
 obtain ⟨u1,u2,rfl,r1,r2⟩:=ziO r
 cases (show u1 = Value.ref a from r1)
 rw [rc _ r2]
 obtain ⟨⟨o,vs,h1,h2,h3,h4⟩,_⟩:=(show Zh X.prog X.w H s.heap a (excO a C) from I.hok a _ ea)
 refine kia_one (zjz Z) I.kIn ⟨o,h1,h2,(by unfold PySem.W.notCls; rw [h4]),(by rw [h3]; trivial)⟩ e (fun z=>nomatch z) fun tk=>⟨.bl b,H,I.tok tk,rfl,q⟩
theorem zb8:bootBuiltins (Str.ofString "ValueError") = some (.type "ValueError"):=by kernel_rfl
end L2
namespace D
open PySem L2
section
variable {X:Cx}{E:XK}{x:Str}{k:Nat}{ps:List Str}{sp:Sp}{e:Expr}{es:List Expr}{t:TA}{p pos:Pos}
theorem zbK (G:zaT X.prog X.w X.K X.mg X.base x k ps sp) (hr:Room k X.A) (hl:Lets X E) (hg:Gl X x) (ha:QA X (e :: es) t) (hdb:(x == ("__debug__":Str)) = false:=by decide)
  (he:starEach (e :: es) X.env = (false,eval e X.env) :: starEach es X.env:=by rfl) (hpl:(backTo pos (starEach es X.env)).any (·.1) = false:=by rfl):
  QE X (.Call (.Name x p) (e :: es) [] pos) (zb6 sp [] E t):=⟨L2.zbK G hr hl hg ha.un hdb he hpl⟩
theorem za9 {C:Addr}{np cpos:Pos} (hl:Lets X E) (hc:X.calm = true) (hk:excIn X.K C vErr "ValueError.__new__" = true) (hm:X.mg x = some (.ref C)) (hg:Gl X x)
  (ha:QA X (e :: es) t) (hd:(x == ("__debug__":Str)) = false:=by decide) (he:starEach (e :: es) X.env = (false,eval e X.env) :: starEach es X.env:=by rfl) (hpl:(backTo cpos (starEach es X.env)).any (·.1) = false:=by rfl):
  QS X (.Raise (some (.Call (.Name x np) (e :: es) [] cpos)) none pos) (zkd E C t):=⟨L2.za9 hl hc hk hm hg ha.un hd he hpl⟩
end
end D
namespace L2
open PySem PySem.Spec PyProof.Rows
theorem zeN {X:Cx}:Lets X E0:=fun _ _ _ _ _ _ _ _ _ _ _ _ h=>h.elim
def Ze (P:Program) (w:World) (K:PySem.W.Frag) (mg:Str->Option Value) (base:Heap) (C:Addr) (m:Str) (k:Nat) (ps:List Str) (sp:Sp):Prop:=
 ∃ (f:Addr) (fd:FuncData),FnOk P w K mg base (CX1 P w) k f fd ps sp/\Binds K fd ps []/\Meth K C m f/\Cls K C
theorem Ze.mono {P:Program}{w:World}{K:PySem.W.Frag}{mg:Str->Option Value}{base:Heap}{C:Addr}{m:Str}{j k:Nat}{ps:List Str}{sp:Sp} (h:Ze P w K mg base C m j ps sp) (e:j<=k):Ze P w K mg base C m k ps sp:=
 let ⟨f,fd,F,r⟩:=h; ⟨f,fd,F.mono e,r⟩
section
variable {X:Cx}{E:XK}{C:Addr}{x m:Str}{k:Nat}{ps:List Str}{sp:Sp}{e o:Expr}{es:List Expr}{ta:TE}{t:TA}{p pos apos:Pos}
theorem zaU (G:Ze X.prog X.w X.K X.mg X.base C m k ps sp) (hr:Room k X.A) (hl:Lets X E) (ho:PE X o ta) (ha:PA X (e :: es) t) {pl:Sem Bool}
  (hst:starEach (e :: es) X.env = (false,eval e X.env) :: starEach es X.env:=by rfl) (hpl:(backTo pos (starEach es X.env)).any (·.1) = false:=by rfl)
  (ht:eval (.Call (.Attribute o m apos) (e :: es) [] pos) X.env = (do
   let ov ← eval o X.env
   standAt apos.atName
   let (f,first) ← holding [ov] (getMethod ov m pl)
   callWith pos f first (backTo pos (starEach (e :: es) X.env)) (backToKw pos (keywordEach [] X.env))):=by rfl):
  PE X (.Call (.Attribute o m apos) (e :: es) [] pos) (zhs C m sp [] E ta t):=by
 obtain ⟨f,fd,F,b,mm,c⟩:=G
 exact zhu ho c mm F hr b .nil hl.passes ha hst hpl ht
end
def zdF (K:PySem.W.Frag) (CF:Addr) (σ:St) (i j:Nat) (D:Ends):XK:=fun c _ H1=>∃ C,c = .ref C/\exmOne K (.ref C) (.ref CF) = some true/\∀ ea,H1 ea = none->D.nx ((σ.set j none).set i (some (.ref ea))) (upd H1 ea (excO ea C))
def zmf (K:PySem.W.Frag) (CF:Addr) (i j:Nat) (sp:Sp) (t:TA):TS:=fun D σ H=>zdm (zb6 sp [] (zdF K CF σ i j D) t) D σ H
theorem zfw {X:Cx}{i j k:Nat}{y n F x:Str}{CF:Addr}{ps:List Str}{sp:Sp}{e:Expr}{es:List Expr}{t:TA}{p cpos epos np py pn pa hpos pos:Pos} (G:zaT X.prog X.w X.K X.mg X.base x k ps sp) (hr:Room k X.A) (hgx:Gl X x) (hst:X.stack = X.env :: X.outer) (hf:∃ L,X.env.frame = some L) (hm:X.mg F = some (.ref CF)) (hg:Gl X F)
  (hN:X.N.Nodup) (hi:X.N[i]? = some y) (hy:Loc X.env.scope y) (hj:X.N[j]? = some n) (hn:X.env.kindOf n = some .local) (yn:y≠n)
  (ha:∀ Ex pl,PA (X.by Ex pl) (e :: es) t) (hdx:(x == ("__debug__":Str)) = false:=by decide) (hd:(F == ("__debug__":Str)) = false:=by decide) (hdn:(n == ("__debug__":Str)) = false:=by decide) (hcn:(n == ("__classdict__":Str)) = false:=by decide)
  (he:starEach (e :: es) X.env = (false,eval e X.env) :: starEach es X.env:=by rfl) (hpl:(backTo cpos (starEach es X.env)).any (·.1) = false:=by rfl) (hse:swapsWith (.Call (.Name x p) (e :: es) [] cpos) none epos.line X.env = pure false:=by rfl)
  (hs:swapsWith (.Name n pn) (some (.Name y py)) pa.line X.env = pure false:=by rfl) (hfy:X.fn y = true\/X.env.scope.names.lookup y = some .local:=by first | exact .inl rfl | exact .inr rfl | assumption) (hfn:X.fn n = true\/X.env.scope.names.lookup n = some .local:=by first | exact .inl rfl | exact .inr rfl | assumption):
  PS X (.Try [.Expr (.Call (.Name x p) (e :: es) [] cpos) epos] [.ExceptHandler (some (.Name F np)) (some n) [.Assign [.Name y py] (.Name n pn) pa] hpos] [] [] pos) (zmf X.K CF i j sp t):=by
 intro zp s σ H D I h
 obtain ⟨L,hL⟩:=hf
 generalize hEx:(fun e s₁=>wpAny (model X.prog X.w) X.A (noteFrame e X.env) (fun _ s₂=>wpAny (model X.prog X.w) X.A (setFlight e none) (fun _ s₃=>wpAny (model X.prog X.w) X.A (handleBy e X.env [.ExceptHandler (some (.Name F np)) (some n) [.Assign [.Name y py] (.Name n pn) pa] hpos]) (SP X zp D) X.xe s₃) X.xe s₂) X.xe s₁:Value->Shared->Prop) = Ex
 have fly:∀ (px:List (Addr × Obj)) (h0:Heap) (H1:Hp) (s1:Shared) (tr:Bool) (ea C:Addr),Old (X.by Ex (X.pn ++ zp)) px h0->Inv (X.by Ex (X.pn ++ zp)) px σ H1 s1->(∀ b o,h0.get? b = some o->∃ o',s1.heap.get? b = some o')->Flies tr h0 H1 s1.heap ea (.ref C)->zdF X.K CF σ i j D (.ref C) none H1->Ex (.ref ea) s1:=by
  intro px h0 H1 s1 tr ea C O J k01 fl hE
  subst hEx
  have JX:Inv X zp σ H1 s1:=J.unby
  have OX:Old X zp h0:=⟨O.ent,O.loc,O.cel,fun p hp=>O.pin p (List.mem_append_left _ hp)⟩
  clear O J
  refine zf8 OX JX k01 hst hL fl fun h2 J2 fl2 _=>?_
  refine zbY (s1:={ s1 with heap:=h2 }) OX J2 fl2 fun h3 J3 fl3 _=>?_
  obtain ⟨C',hC,hex,hD⟩:=hE
  cases hC
  refine wpAny_handleBy_cons (codeAny_handlers_test ?_) (by intro z; cases z)
  refine zbT (X:=X.suite (.ref ea)) (J3.suite _) hg hm ?_ hd
  obtain ⟨e0,eH,oe,vs,he,hc,hdd,hsz,r⟩:=id fl3
  have LT:PySem.W.Looks (model X.prog X.w) h3 (typeOf (.ref ea)) (.ref C):=hc.1 ▸ (PySem.W.Looks.ld he).andThen .now
  refine PySem.W.Looks.here (PySem.W.exm_one (J3.kIn) LT hex) ?_
  show codeAny _ _ _ _ _
  refine codeAny_handlers_suite_as (?_)
  refine zbY (s1:={ s1 with heap:=h3 }) OX J3 fl3 fun h4 J4 fl4 _=>?_
  obtain ⟨e0,eH,oe,vs,he,hc,hdd,hsz,r⟩:=fl4
  have old:∀ b u,h0.get? b = some u->b≠ea:=fun b u e z=>by rw [z,e0] at e; cases e
  have P4:Inv X ((ea,oe) :: zp) σ H1 { s1 with heap:=h4 }:=J4.pins_of fun p hp=>by
   rcases List.mem_cons.mp hp with rfl | hp
   ·refine ⟨he,eH,fun z=>?_,fun z=>?_,fun v z=>?_⟩
    ·obtain ⟨o',q⟩:=OX.loc
     exact old _ o' q z.symm
    ·obtain ⟨_,o',q,_⟩:=J4.ok.funs.mem z
     obtain ⟨o2,q2⟩:=OX.ent _ o' q fun z2=>J4.ok.exfs _ z2 z
     exact old _ o2 q2 rfl
    ·rw [hdd] at z; cases z
   ·exact J4.pin p (List.mem_append_right _ hp)
  have hlen:σ.length = X.N.length:=P4.len
  have hjl:j < σ.length:=by rw [hlen]; exact (List.getElem?_eq_some_iff.mp hj).1
  have hil:i < σ.length:=by rw [hlen]; exact (List.getElem?_eq_some_iff.mp hi).1
  have P5:Inv X ((ea,oe) :: zp) (σ.set j none) H1 { s1 with heap:=h4 }:=P4.weak (by rw [List.length_set]) fun k v e=>by
   by_cases hkj:k = j
   ·subst hkj
    rw [List.getElem?_set_self hjl] at e
    cases e
   ·rw [List.getElem?_set_ne (Ne.symm hkj)] at e
    exact e
  have hvn:Vis X.env.scope n:=.inl hn
  refine zce (X:=X.suite (.ref ea)) (v:=.ref ea) (P5.suite _) hN hj (.inl hn) rfl (fun s5 I5=>?_) hfn
  have run:=zf (zn (X:=X.suite (.ref ea)) hN hi hy (zhc (X:=X.suite (.ref ea)) (pos:=pn) hj hvn hdn hcn) hs hfy) ((ea,oe) :: zp) s5 _ H1
   { nx:=fun σ' H'=>σ' = ((σ.set j none).set j (some (.ref ea))).set i (some (.ref ea))/\H' = H1,rt:=fun _ _=>False } I5 ⟨.ref ea,by rw [List.getElem?_set_self (by rw [List.length_set]; exact hjl)],rfl,rfl⟩
  refine wpAny_mono run (fun f s6 q6=>?_) (fun _ _ z=>z.elim)
  cases f with
  | brk=>obtain ⟨_,_,_,z⟩:=q6; exact z.elim
  | cont=>obtain ⟨_,_,_,z⟩:=q6; exact z.elim
  | ret u=>obtain ⟨_,_,_,_,_,z⟩:=q6; exact z.elim
  | next=>
   obtain ⟨σ6,H6,I6,rfl,rfl⟩:=q6
   have J6:Inv X ((ea,oe) :: zp) _ H6 s6:=I6.unsuite J4.ok
   obtain ⟨m,hnm,hlk⟩:=J6.loc
   refine wpAny_nameGoes_keeps hn hnm (by rw [J4.ok.kind]; rfl) fun h7 v hn7 hs7=>?_
   have J7:Inv X ((ea,oe) :: zp) ((σ.set j none).set i (some (.ref ea))) H6 { s6 with heap:=h7,toks:=s6.toks + 1 }:=by
    refine J6.renamed hs7 hn7 (by simp) fun k x v' h1 h2 h3=>?_
    have key:∀ u,RelV v' u->Look X.env s6.heap m x u->x≠n->∃ u,RelV v' u/\Look X.env s6.heap (fun z=>if z = n then v else m z) x u:=fun u r lk hx=>by
     refine ⟨u,r,?_⟩
     rcases lk with ⟨l1,l2⟩ | lk
     ·exact .inl ⟨l1,by show (if x = n then v else m x) = some u; rw [if_neg hx]; exact l2⟩
     ·exact .inr lk
    by_cases hki:k = i
    ·subst hki
     rw [hi] at h1
     cases h1
     rw [List.getElem?_set_self (by rw [List.length_set]; exact hil)] at h2
     cases h2
     obtain ⟨u,r,lk⟩:=hlk k y (.ref ea) hi (by rw [List.getElem?_set_self (by rw [List.length_set,List.length_set]; exact hil)]) h3
     exact key u r lk yn
    ·rw [List.getElem?_set_ne (Ne.symm hki)] at h2
     have hkj:k≠j:=fun z=>by
      subst z
      rw [List.getElem?_set_self hjl] at h2
      cases h2
     rw [List.getElem?_set_ne (Ne.symm hkj)] at h2
     obtain ⟨u,r,lk⟩:=hlk k x v' h1 (by rw [List.getElem?_set_ne (Ne.symm hki),List.getElem?_set_ne (Ne.symm hkj),List.getElem?_set_ne (Ne.symm hkj)]; exact h2) h3
     refine key u r lk fun z=>?_
     subst z
     have a1:=(List.getElem?_eq_some_iff.mp h1)
     have a2:=(List.getElem?_eq_some_iff.mp hj)
     obtain ⟨b1,c1⟩:=a1
     obtain ⟨b2,c2⟩:=a2
     exact hkj ((List.getElem_inj hN).mp (c1.trans c2.symm))
   have pe:=(J7.pin (ea,oe) (by simp)).1
   have J8:Inv X zp ((σ.set j none).set i (some (.ref ea))) H6 { s6 with heap:=h7,toks:=s6.toks + 1 }:=J7.pins_of fun p hp=>J7.pin p (List.mem_append_right _ (List.mem_cons_of_mem _ hp))
   exact ⟨_,_,J8.tracked OX e0 eH (zk1 pe hc.1 hc.2 hdd),hD ea eH⟩
 have hPE:PE (X.by Ex (X.pn ++ zp)) (.Call (.Name x p) (e :: es) [] cpos) (fun σ' H' Q=>σ' = σ/\zb6 sp [] (zdF X.K CF σ i j D) t σ' H' Q):=by
  intro px s1 σ1 H1 Q I1 h1
  obtain ⟨rfl,h1⟩:=h1
  obtain ⟨f,fd,FF,b,kp,m⟩:=G
  refine wpAny_Call_Name_kw (zbT I1 hgx m ?_ hdx)
  refine callWith_K (h₀:=X.base) I1.ok.mod.kin kp (thn (ha Ex (X.pn ++ zp) cpos px s1 σ1 H1 _ I1 h1) fun us s2 ⟨vs,H2,I2,r,q⟩=>⟨I2.kIn,?_⟩) he hpl
  have r2:Vals (vs ++ []) (us ++ []):=r.append .nil
  have hl:(us ++ []).length = ps.length:=by rw [← r2.length]; exact FF.len _ _ _ _ q
  refine wpAny_call (codeAny_mono (FF.run X.A X.stack s2 H2 ⟨us,[]⟩ (us ++ []) (vs ++ []) Q (zdF X.K CF σ1 i j D) hr I2.env0 (b s2 us I2.kIn hl) r2 q) fun r s' hq=>?_)
  cases r with
  | error ev=>
   obtain ⟨ea,C,H',hea,ho,hb,un,hok,fl,hE⟩:=hq
   subst hea
   exact fly px s2.heap H' s' true ea C I2.old (I2.call' ho un hok hb (by simp)) (fun b o q=>un.there b o q (by simp)) fl hE
  | ok fl=>
   cases fl with
   | ret u=>exact I2.after hq
   | next=>exact False.elim hq
   | brk=>exact False.elim hq
   | cont=>exact False.elim hq
 have run:=zf (zq (X:=X.by Ex (X.pn ++ zp)) (pos:=epos) hPE hse) [] s σ H D (I.by _) ⟨rfl,h⟩
 subst hEx
 refine wpAny_Try_except (wpAny_mono run (fun f s1 q=>?_) (fun e s1 q=>q))
 have q':=SP.unby q
 cases f with
 | next=>exact wpAny_execs_nil q'
 | brk=>exact q'
 | cont=>exact q'
 | ret u=>exact q'
def rIsE (K:PySem.W.Frag) (c:V) (u:Value):List V->Hp->VK->Prop:=fun xs H Q=>∃ (a C:Addr) (b:Bool),xs = [.ref a,c]/\H a = some (excO a C)/\IsX K C/\kitOne K (.ref C) u = some b/\Q (.bl b) H
theorem ZX {X:Cx}{c:V}{u:Value} (rc:∀ v,RelV c v->v = u):zau X (.builtin "isinstance") (rIsE X.K c u):=by
 intro zp s σ H xs us Q I r h
 obtain ⟨a,C,b,rfl,ea,Z,e,q⟩:=h
 exact zii Z rc e zp s σ H _ us Q I r ⟨a,rfl,ea,q⟩
def Pw:V->Prop
 | .int _=>True
 | .str _=>True
 | .bl _=>True
 | _=>False
theorem zmH {A:Around}{s:Shared}{v:V}{x y:Value} (h:Pw v) (r1:RelV v x) (r2:RelV v y):SeqAt.EqAt A s x y true:=by
 cases v with
 | int i=>
  obtain ⟨t,rfl⟩:=r1
  obtain ⟨t',rfl⟩:=r2
  have:=SeqAt.EqAt.int_int (A:=A) (s:=s) i t i t'
  rw [beq_self_eq_true] at this
  exact this
 | str z=>
  obtain ⟨t,rfl⟩:=r1
  obtain ⟨t',rfl⟩:=r2
  have:=SeqAt.EqAt.str_str (A:=A) (s:=s) z t z t'
  rw [beq_self_eq_true] at this
  exact this
 | bl b=>cases r1; cases r2; exact .same _
 | _=>exact h.elim
theorem zke {X:Cx} (hu64:X.A.units + 64 < cLine):OpR X (compareOp .NotEq) (fun x y H Q=>∃ (a b:Addr) (ys:List V),x = .ref a/\y = .ref b/\SqL X.K H a ys/\SqL X.K H b ys/\(∀ z∈ys,Pw z)/\Q (.bl false) H):=by
 intro zp s σ H x y v u Q I rx ry h
 obtain ⟨a,b,ys,rfl,rfl,ha,hb,hp,q⟩:=h
 cases rx
 have hu:X.A.units < cLine:=Nat.lt_of_le_of_lt (Nat.le_add_right _ 64) hu64
 cases ry
 obtain ⟨its,r1,p1,_⟩:=I.list ha
 obtain ⟨its2,r2,p2,_⟩:=I.list hb
 have l1:=r1.length
 have l2:=r2.length
 have key:SeqAt.RcNeAt X.A s (.ref a) (.ref b) (!(List.range its.toArray.size).all fun _=>true):=by
  refine SeqAt.RcNeAt.lists p1.isList p2.isList (by rw [List.size_toArray,List.size_toArray,← l1,← l2]) hu (fun j h1 h2=>?_)
  have j1:j < ys.length:=by rw [l1]; simpa using h1
  obtain ⟨u1,hu1,t1⟩:=r1.get (i:=j) (x:=ys[j]) (List.getElem?_eq_getElem j1)
  obtain ⟨u2,hu2,t2⟩:=r2.get (i:=j) (x:=ys[j]) (List.getElem?_eq_getElem j1)
  have e1:its.toArray[j] = u1:=by
   have:=(List.getElem?_eq_some_iff.mp hu1).2
   simpa using this
  have e2:its2.toArray[j] = u2:=by
   have:=(List.getElem?_eq_some_iff.mp hu2).2
   simpa using this
  rw [e1,e2]
  exact zmH (hp _ (List.getElem_mem j1)) t1 t2
 have e:(!(List.range its.toArray.size).all fun _=>true) = false:=by simp
 rw [e] at key
 exact key X.prog X.w _ _ ⟨.bl false,H,I,rfl,q⟩
end L2
namespace D
open PySem L2
section
variable {X:Cx}{E:XK}{C:Addr}{x m:Str}{k:Nat}{ps:List Str}{sp:Sp}{e o:Expr}{es:List Expr}{ta:TE}{t:TA}{p pos apos:Pos}
theorem zaU (G:Ze X.prog X.w X.K X.mg X.base C m k ps sp) (hr:Room k X.A) (hl:Lets X E) (ho:QE X o ta) (ha:QA X (e :: es) t) {pl:Sem Bool}
  (hst:starEach (e :: es) X.env = (false,eval e X.env) :: starEach es X.env:=by rfl) (hpl:(backTo pos (starEach es X.env)).any (·.1) = false:=by rfl)
  (ht:eval (.Call (.Attribute o m apos) (e :: es) [] pos) X.env = (do
   let ov ← eval o X.env
   standAt apos.atName
   let (f,first) ← holding [ov] (getMethod ov m pl)
   callWith pos f first (backTo pos (starEach (e :: es) X.env)) (backToKw pos (keywordEach [] X.env))):=by rfl):
  QE X (.Call (.Attribute o m apos) (e :: es) [] pos) (zhs C m sp [] E ta t):=⟨L2.zaU G hr hl ho.un ha.un hst hpl ht⟩
theorem zfw {i j:Nat}{y n F:Str}{CF:Addr}{cpos epos np py pn pa hpos:Pos} (G:zaT X.prog X.w X.K X.mg X.base x k ps sp) (hr:Room k X.A) (hgx:Gl X x) (hst:X.stack = X.env :: X.outer) (hf:∃ L,X.env.frame = some L) (hm:X.mg F = some (.ref CF)) (hg:Gl X F)
  (hN:X.N.Nodup) (hi:X.N[i]? = some y) (hy:Loc X.env.scope y) (hj:X.N[j]? = some n) (hn:X.env.kindOf n = some .local) (yn:y≠n)
  (ha:∀ Ex pl,QA (X.by Ex pl) (e :: es) t) (hdx:(x == ("__debug__":Str)) = false:=by decide) (hd:(F == ("__debug__":Str)) = false:=by decide) (hdn:(n == ("__debug__":Str)) = false:=by decide) (hcn:(n == ("__classdict__":Str)) = false:=by decide)
  (he:starEach (e :: es) X.env = (false,eval e X.env) :: starEach es X.env:=by rfl) (hpl:(backTo cpos (starEach es X.env)).any (·.1) = false:=by rfl) (hse:swapsWith (.Call (.Name x p) (e :: es) [] cpos) none epos.line X.env = pure false:=by rfl)
  (hs:swapsWith (.Name n pn) (some (.Name y py)) pa.line X.env = pure false:=by rfl) (hfy:X.fn y = true\/X.env.scope.names.lookup y = some .local:=by first | exact .inl rfl | exact .inr rfl | assumption) (hfn:X.fn n = true\/X.env.scope.names.lookup n = some .local:=by first | exact .inl rfl | exact .inr rfl | assumption):
  QS X (.Try [.Expr (.Call (.Name x p) (e :: es) [] cpos) epos] [.ExceptHandler (some (.Name F np)) (some n) [.Assign [.Name y py] (.Name n pn) pa] hpos] [] [] pos) (zmf X.K CF i j sp t):=⟨L2.zfw G hr hgx hst hf hm hg hN hi hy hj hn yn (fun Ex pl=>(ha Ex pl).un) hdx hd hdn hcn he hpl hse hs hfy hfn⟩
end
end D
namespace L2
open PySem PySem.Spec PyProof.Rows
def PEg (X:Cx) (e:Expr) (t:TE):Prop:=
 ∀ (zp:List (Addr × Obj)) (s:Shared) (σ:St) (H:Hp) (Q:VK),Inv X zp σ H s->t σ H Q->wpAny (model X.prog X.w) X.A (eval e X.env) (fun u s'=>EP X zp σ Q u s'/\0 < s'.toks) X.xe s
def PEk (X:Cx) (e:Expr) (t:TE):Prop:=
 ∀ (zp:List (Addr × Obj)) (s:Shared) (σ:St) (H:Hp) (Q:VK),Inv X zp σ H s->0 < s.toks->t σ H Q->wpAny (model X.prog X.w) X.A (eval e X.env) (fun u s'=>EP X zp σ Q u s'/\0 < s'.toks) X.xe s
def PAk (X:Cx) (es:List Expr) (t:TA):Prop:=
 ∀ (pos:Pos) (zp:List (Addr × Obj)) (s:Shared) (σ:St) (H:Hp) (Q:List V->Hp->Prop),Inv X zp σ H s->0 < s.toks->t σ H Q->wpAny (model X.prog X.w) X.A (spliced (backTo pos (starEach es X.env))) (AP X zp σ Q) X.xe s
section
variable {X:Cx}{a e:Expr}{es:List Expr}{ta te:TE}{t:TA}{pos:Pos}
theorem PA.k (h:PA X es t):PAk X es t:=fun pos zp s σ H Q I _ q=>h pos zp s σ H Q I q
theorem zcm (ha:PEk X e te) (hr:PAk X es t) (hs:starEach (e :: es) X.env = (false,eval e X.env) :: starEach es X.env:=by rfl):PAk X (e :: es) (Zq te t):=by
 intro pos zp s σ H Q I h0 h
 rw [hs]
 show wpAny _ _ (spliced ((false,eval e X.env) :: backTo pos (starEach es X.env))) _ _ s
 refine Calls.spliced_cons (thn (ha zp s σ H _ I h0 h) fun u s1 ⟨⟨x,H1,I1,r1,q1⟩,h1⟩=>?_)
 exact thn (hr pos zp s1 σ H1 _ I1 h1 q1) fun us s2 ⟨xs,H2,I2,r2,q2⟩=>⟨x :: xs,H2,I2,.cons r1 r2,q2⟩
theorem zdG (ha:PEg X e te) (hr:PAk X es t) (hs:starEach (e :: es) X.env = (false,eval e X.env) :: starEach es X.env:=by rfl):PA X (e :: es) (Zq te t):=by
 intro pos zp s σ H Q I h
 rw [hs]
 show wpAny _ _ (spliced ((false,eval e X.env) :: backTo pos (starEach es X.env))) _ _ s
 refine Calls.spliced_cons (thn (ha zp s σ H _ I h) fun u s1 ⟨⟨x,H1,I1,r1,q1⟩,h1⟩=>?_)
 exact thn (hr pos zp s1 σ H1 _ I1 h1 q1) fun us s2 ⟨xs,H2,I2,r2,q2⟩=>⟨x :: xs,H2,I2,.cons r1 r2,q2⟩
def zk3:R2:=fun x y H Q=>∃ i j,x = .str i/\y = .str j/\i.length + j.length<=sizeLine/\Q (.str (i ++ j)) H
theorem zfx {c:Str}{j:Nat}{p:Pos} (ha:PE X a ta) (hc:0 < c.length):PEg X (.BinOp a .Add (.Constant (.str c) j p) pos) (tOp zk3 ta (tC (.str c))):=by
 intro zp s σ H Q I h
 refine wpAny_BinOp (thn (ha zp s σ H _ I h) fun v s1 ⟨x,H1,I1,r1,q1⟩=>?_)
 refine Calls.Constant_str ?_
 obtain ⟨i,j,rfl,hj,hz,q⟩:=q1
 cases hj
 obtain ⟨t,rfl⟩:=r1
 have IA:=fun k=>I1.tok k
 refine PySem.P.add_str ?_
 by_cases h0:(i.length == 0) = true
 ·rw [if_pos h0]
  refine ⟨⟨.str (i ++ c),H1,I1.tok _,?_,q⟩,Nat.succ_pos _⟩
  have:i = ⟨#[]⟩:=Str.ext' (Array.size_eq_zero_iff.mp (eq_of_beq h0))
  subst this
  exact ⟨_,by rw [show (⟨#[]⟩:Str) ++ c = c from Str.ext' (Array.empty_append)]⟩
 ·rw [if_neg h0,if_neg (by rw [beq_iff_eq]; omega)]
  exact ⟨by rw [show (i ++ c).length = i.length + c.length from Array.size_append]; exact hz,⟨.str (i ++ c),H1,I1.tok _,⟨_,rfl⟩,q⟩,Nat.succ_pos _⟩
def zk4 (y z:Str) (ta:TE):TE:=fun σ H Q=>ta σ H fun x H1=>∃ i,x = .str i/\i.length<=1000/\Q (.str (Txt.replace i y z)) H1
theorem zcn {o:Expr}{to:TE}{y z:Str}{j1 j2:Nat}{p1 p2 apos cpos:Pos} (ho:PEk X o to) (hyz:(y == z) = false) (hz:z.length<=14)
  (hbase:attributeBase o "replace" X.env (eval o X.env) = eval o X.env:=by rfl)
  (hfew:((backTo cpos (starEach [.Constant (.str y) j1 p1,.Constant (.str z) j2 p2] X.env)).all (fun x=>!x.1) && (backToKw cpos (keywordEach [] X.env)).all (fun x=>x.1.isSome)
   && decide (([.Constant (.str y) j1 p1,.Constant (.str z) j2 p2]:List Expr).length + ([]:List Keyword).length + (if ([]:List Keyword).isEmpty then 0 else 1) < 30)) = true:=by rfl)
  (hline:(apos.endLine == cpos.line) = true:=by rfl) (hs:starEach [.Constant (.str y) j1 p1,.Constant (.str z) j2 p2] X.env = (false,eval (.Constant (.str y) j1 p1) X.env) :: (false,eval (.Constant (.str z) j2 p2) X.env) :: []:=by rfl):
  PEk X (.Call (.Attribute o "replace" apos) [.Constant (.str y) j1 p1,.Constant (.str z) j2 p2] [] cpos) (zk4 y z to):=by
 intro zp s σ H Q I h0 h
 refine wpAny_Call_method_late hbase hfew hline rfl (thn (ho zp s σ H _ I h0 h) fun v s1 ⟨⟨x,H1,I1,r1,i,hi,hl,q⟩,h1⟩=>?_)
 subst hi
 obtain ⟨t,rfl⟩:=r1
 refine ⟨"str","str.replace",PySem.F.plainAttrs_str,PySem.F.slot_str_replace,PySem.F.type_str_replace,typeIs_str _ _ _,(fun a e=>nomatch e),?_⟩
 rw [hs]
 refine Calls.callWith_builtin (by rfl) (Calls.evalArgs_plain ?_)
 show wpAny _ _ (spliced ((false,eval (.Constant (.str y) j1 p1) X.env) :: (false,eval (.Constant (.str z) j2 p2) X.env) :: [])) _ _ s1
 refine Calls.spliced_cons (Calls.Constant_str (Calls.spliced_cons (Calls.Constant_str ?_)))
 rw [spliced]
 refine wpAny_pure ?_
 have e24:(2:Nat) ^ 24 = 16777216:=by decide
 have hb:i.length + (i.length + 1) * z.length<=16777216:=by
  have h1:(i.length + 1) * z.length<=(i.length + 1) * 14:=Nat.mul_le_mul_left _ hz
  omega
 have hlg:Builtin.Str.tooLong (i.length + (Builtin.Str.occurrences i y 0 i.length (i.length + 1)).length * z.length) = false:=by
  have h1:=StrLaws.occ_length_le i y 0 i.length (i.length + 1)
  have h2:(Builtin.Str.occurrences i y 0 i.length (i.length + 1)).length * z.length<=(i.length + 1) * z.length:=Nat.mul_le_mul_right _ h1
  unfold Builtin.Str.tooLong sizeLine
  exact decide_eq_false (by omega)
 refine call_gives F.slot_str_replace (typeIs_str _ _ _) F.entry_str_replace (F.args_str_replace_3 _ _ _)
  (gives_str_replace i y z t s1.toks (s1.toks + 1) fun _=>⟨by rw [Bool.or_eq_false_iff]; exact ⟨beq_eq_false_iff_ne.mpr (Nat.pos_iff_ne_zero.mp h1),beq_eq_false_iff_ne.mpr (Nat.succ_ne_zero _)⟩,beq_eq_false_iff_ne.mpr (Nat.ne_of_lt (Nat.lt_succ_self _)),hyz,hlg⟩) ?_
 unfold Txt.replace at q
 cases hc:((Builtin.Str.occurrences i y 0 i.length (i.length + 1)).isEmpty || (y.length == 0 && z.length == 0))
 ·rw [hc] at q
  simp only [Bool.false_eq_true,if_false] at q ⊢
  exact ⟨fits_replaced y hb,⟨.str _,H1,I1.tok _,⟨_,rfl⟩,q⟩,Nat.succ_pos _⟩
 ·rw [hc] at q
  simp only [if_true] at q ⊢
  exact ⟨⟨.str _,H1,I1.tok _,⟨_,rfl⟩,q⟩,Nat.succ_pos _⟩
theorem zk5 {i:Nat}{x:Str}{pos:Pos} (hN:X.N[i]? = some x) (hv:Vis X.env.scope x) (hd:(x == ("__debug__":Str)) = false:=by decide) (hcd:(x == ("__classdict__":Str)) = false:=by decide):PEk X (.Name x pos) (tVar i):=by
 intro zp s σ H Q I h0 h
 have key:=zhc (pos:=pos) hN hv hd hcd zp s σ H
 obtain ⟨v,e,h⟩:=h
 obtain ⟨m,hn,hl⟩:=I.loc
 obtain ⟨u,r,l⟩:=hl i x v hN e hv
 have fin:EP X zp σ Q u s/\0 < s.toks:=⟨⟨v,H,I,r,h⟩,h0⟩
 rcases l with ⟨hk,hm⟩ | ⟨hk,c,hc,hcell⟩
 ·exact wpAny_Name (wpAny_loadName_local I.ok.kind hk hn hm fin) hd
 ·rcases hk with hk | hk
  ·exact wpAny_Name (wpAny_loadName_cell I.ok.kind hk hc hcell fin) hd
  ·exact wpAny_Name (wpAny_loadName_free I.ok.kind hk hc hcell fin hcd) hd
end
end L2
namespace D
open PySem L2
section
variable {X:Cx}{a e:Expr}{es:List Expr}{ta te:TE}{t:TA}{pos:Pos}
structure QEg (X:Cx) (e:Expr) (t:TE):Prop where un:L2.PEg X e t
structure QEk (X:Cx) (e:Expr) (t:TE):Prop where un:L2.PEk X e t
structure QAk (X:Cx) (es:List Expr) (t:TA):Prop where un:L2.PAk X es t
theorem QA.k (h:QA X es t):QAk X es t:=⟨PA.k h.un⟩
theorem zcm (ha:QEk X e te) (hr:QAk X es t) (hs:starEach (e :: es) X.env = (false,eval e X.env) :: starEach es X.env:=by rfl):QAk X (e :: es) (Zq te t):=⟨L2.zcm ha.un hr.un hs⟩
theorem zdG (ha:QEg X e te) (hr:QAk X es t) (hs:starEach (e :: es) X.env = (false,eval e X.env) :: starEach es X.env:=by rfl):QA X (e :: es) (Zq te t):=⟨L2.zdG ha.un hr.un hs⟩
theorem zfx {c:Str}{j:Nat}{p:Pos} (ha:QE X a ta) (hc:0 < c.length):QEg X (.BinOp a .Add (.Constant (.str c) j p) pos) (tOp zk3 ta (tC (.str c))):=⟨L2.zfx ha.un hc⟩
theorem zcn {o:Expr}{to:TE}{y z:Str}{j1 j2:Nat}{p1 p2 apos cpos:Pos} (ho:QEk X o to) (hyz:(y == z) = false) (hz:z.length<=14)
  (hbase:attributeBase o "replace" X.env (eval o X.env) = eval o X.env:=by rfl)
  (hfew:((backTo cpos (starEach [.Constant (.str y) j1 p1,.Constant (.str z) j2 p2] X.env)).all (fun x=>!x.1) && (backToKw cpos (keywordEach [] X.env)).all (fun x=>x.1.isSome)
   && decide (([.Constant (.str y) j1 p1,.Constant (.str z) j2 p2]:List Expr).length + ([]:List Keyword).length + (if ([]:List Keyword).isEmpty then 0 else 1) < 30)) = true:=by rfl)
  (hline:(apos.endLine == cpos.line) = true:=by rfl) (hs:starEach [.Constant (.str y) j1 p1,.Constant (.str z) j2 p2] X.env = (false,eval (.Constant (.str y) j1 p1) X.env) :: (false,eval (.Constant (.str z) j2 p2) X.env) :: []:=by rfl):
  QEk X (.Call (.Attribute o "replace" apos) [.Constant (.str y) j1 p1,.Constant (.str z) j2 p2] [] cpos) (zk4 y z to):=⟨L2.zcn ho.un hyz hz hbase hfew hline hs⟩
end
theorem pkv {X:Cx} (i:Nat) {x:Str}{pos:Pos} (h0:X.N[i]? = some x:=by rfl) (h1:Vis X.env.scope x:=by first | exact .inl rfl | exact .inr (.inl rfl) | exact .inr (.inr rfl)) (h2:(x == ("__debug__":Str)) = false:=by decide) (h3:(x == ("__classdict__":Str)) = false:=by decide):QEk X (.Name x pos) (tVar i):=⟨L2.zk5 h0 h1 h2 h3⟩
def Vr (z:Str):Prop:=1<=z.length/\z.length<=8/\∀ c∈z.cps.toList,97<=c/\c<=122
theorem Step.ofSame' {b:Addr}{H H':Hp} (hb:Zd H b) (s:Same H H'):Step b H H':=⟨by obtain ⟨x,y,z,e⟩:=hb; exact ⟨x,y,z,s _ _ e⟩,fun c o _ e=>s c o e⟩
theorem zk6 {z:Str}{i:Int} (h0:0<=i) (h1:i < z.length):∃ c,atI z.cps.toList i = some c/\c∈z.cps.toList:=by
 have hl:i.toNat < z.cps.toList.length:=by rw [← zM] at h1; omega
 refine ⟨z.cps.toList[i.toNat],?_,List.getElem_mem hl⟩
 have:=zH (List.getElem?_eq_getElem hl)
 rw [show ((i.toNat:Nat):Int) = i by omega] at this
 exact this
theorem RW.pair {H:Hp}{a:Addr}{u1 u2:V}{w1 w2:W} (e:H a = some (.tup [u1,u2])) (r1:RW H u1 w1) (r2:RW H u2 w2):RW H (.ref a) (.lst [w1,w2]):=
 .lst e rfl fun i v w hv hw=>match i,hv,hw with
  | 0,hv,hw=>by
   have a1:u1 = v:=by simpa using hv
   have a2:w1 = w:=by simpa using hw
   rw [← a1,← a2]; exact r1
  | 1,hv,hw=>by
   have a1:u2 = v:=by simpa using hv
   have a2:w2 = w:=by simpa using hw
   rw [← a1,← a2]; exact r2
  | j + 2,hv,hw=>by simp at hv
theorem zC {H H':Hp} (s:Same H H'):Tups H H':=fun a vs e=>s a _ e
inductive Wo where
 | lit | var | letw | ifw | add | sub | mul | div | same | less | join | list | item | count | figs | each | over | look | elsew | cry
def woS:Wo->Str
 | .lit=>"lit"
 | .var=>"var"
 | .letw=>"let"
 | .ifw=>"if"
 | .add=>"+"
 | .sub=>"-"
 | .mul=>"*"
 | .div=>"/"
 | .same=>"same"
 | .less=>"less"
 | .join=>"join"
 | .list=>"list"
 | .item=>"item"
 | .count=>"count"
 | .figs=>"figures"
 | .each=>"each"
 | .over=>"over"
 | .look=>"look"
 | .elsew=>"else"
 | .cry=>"cry"
def zmg:List Wo:=[.lit,.var,.letw,.ifw,.add,.sub,.mul,.div,.same,.less,.join,.list,.item,.count,.figs,.each,.over,.look,.elsew,.cry]
def w3:Wo->Bool
 | .ifw=>true
 | .over=>true
 | _=>false
def w1:Wo->Bool
 | .count=>true
 | .figs=>true
 | .look=>true
 | .cry=>true
 | _=>false
def wEO:Wo->Bool
 | .each=>true
 | .over=>true
 | _=>false
def wLit:Wo->Bool
 | .lit=>true
 | _=>false
def wVar:Wo->Bool
 | .var=>true
 | _=>false
theorem inEO (d:Wo):inV (.str (woS d)) [.str "each",.str "over"] = wEO d:=by cases d <;> decide +kernel
theorem zmI (d:Wo):decide (V.str (woS d) = V.str "lit") = wLit d:=by cases d <;> decide +kernel
theorem zmh (d:Wo):decide (V.str (woS d) = V.str "var") = wVar d:=by cases d <;> decide +kernel
inductive Rl where
 | lit (x:W)
 | var (s:Str)
 | op (d:Wo) (bs:List Str) (ps:List Rl)
mutual
def Rl.toW:Rl->W
 | .lit x=>.lst [.txt "lit",x]
 | .var s=>.lst [.txt "var",.txt s]
 | .op d bs ps=>.lst (.txt (woS d) :: (bs.map W.txt ++ rlWs ps))
def rlWs:List Rl->List W
 | []=>[]
 | p :: r=>p.toW :: rlWs r
end
mutual
def Rl.many:Rl->Nat
 | .lit _=>1
 | .var _=>1
 | .op _ _ ps=>1 + manys ps
def manys:List Rl->Nat
 | []=>0
 | p :: r=>p.many + manys r
end
mutual
def Rl.high:Rl->Nat
 | .lit _=>0
 | .var _=>0
 | .op _ _ ps=>highs ps
def highs:List Rl->Nat
 | []=>0
 | p :: r=>max (1 + p.high) (highs r)
end
def bcnt:Wo->Nat
 | .letw=>1
 | .each=>1
 | .over=>2
 | _=>0
def zbL:Wo->Bool
 | .list=>true
 | _=>false
def pcnt:Wo->Nat
 | .letw=>2
 | .ifw=>3
 | .over=>3
 | .count=>1
 | .figs=>1
 | .look=>1
 | .cry=>1
 | .lit=>0
 | .var=>0
 | .list=>0
 | _=>2
def Cnt (d:Wo) (n:Nat):Prop:=(zbL d = true->n<=8)/\(zbL d = false->n = pcnt d)
def Rl.Gd1:Rl->Prop
 | .lit x=>x.Ok/\x.size<=1000/\x.depth<=12
 | .var s=>Vr s
 | .op d bs ps=>wLit d = false/\wVar d = false/\bs.length = bcnt d/\(∀ z∈bs,Vr z)/\bs.Nodup/\Cnt d ps.length
mutual
def Rl.Gd:Rl->Prop
 | .lit x=>(Rl.lit x).Gd1
 | .var s=>(Rl.var s).Gd1
 | .op d bs ps=>(Rl.op d bs ps).Gd1/\Gds ps
def Gds:List Rl->Prop
 | []=>True
 | p :: r=>p.Gd/\Gds r
end
mutual
def Rl.rep:Rl->Nat
 | .lit _=>0
 | .var _=>0
 | .op d _ ps=>reps (wEO d) ps
def reps (b:Bool):List Rl->Nat
 | []=>0
 | [p]=>p.rep + (if b then 1 else 0)
 | p :: q :: r=>max p.rep (reps b (q :: r))
end
mutual
def Rl.Fit:Rl->List Str->Prop
 | .lit x,_=>(Rl.lit x).Gd1
 | .var s,sc=>Vr s/\s∈sc
 | .op d bs ps,sc=>(Rl.op d bs ps).Gd1/\Fits ps sc bs
def Fits:List Rl->List Str->List Str->Prop
 | [],_,_=>True
 | [p],sc,bs=>p.Fit (sc ++ bs)
 | p :: q :: r,sc,bs=>p.Fit sc/\Fits (q :: r) sc bs
end
mutual
theorem Rl.Fit.gd:∀ {r:Rl}{sc:List Str},r.Fit sc->r.Gd
 | .lit x,sc,h=>by rw [Rl.Fit] at h; rw [Rl.Gd]; exact h
 | .var s,sc,h=>by rw [Rl.Fit] at h; rw [Rl.Gd]; exact h.1
 | .op d bs ps,sc,h=>by rw [Rl.Fit] at h; rw [Rl.Gd]; exact ⟨h.1,Fits.gd h.2⟩
theorem Fits.gd:∀ {ps:List Rl}{sc bs:List Str},Fits ps sc bs->Gds ps
 | [],_,_,_=>by rw [Gds]; trivial
 | [p],sc,bs,h=>by rw [Fits] at h; rw [Gds,Gds]; exact ⟨h.gd,trivial⟩
 | p :: q :: r,sc,bs,h=>by rw [Fits] at h; rw [Gds]; exact ⟨h.1.gd,Fits.gd h.2⟩
end
theorem zdH:∀ l:List Rl,(rlWs l).length = l.length
 | []=>by simp [rlWs]
 | _ :: l=>by simp only [rlWs,List.length_cons,zdH l]
theorem Zd.ne {H:Hp}{b p:Addr} (hb:Zd H b) (hp:H p = none):p≠b:=fun z=>by
 obtain ⟨x,y,w',e⟩:=hb
 rw [← z,hp] at e
 cases e
def zmJ:Wo->Bool
 | .each=>true
 | _=>false
theorem zkf (d:Wo):decide (V.str (woS d) = V.str "list") = zbL d:=by cases d <;> decide +kernel
def Shp (scopes:List (List Str)) (scope bs:List Str):Prop:=(bs = []/\∀ s∈scopes,s = scope)\/∃ m,scopes = List.replicate m scope ++ [scope ++ bs]
theorem zf9 {α:Type} (n:Nat) (x:α):(List.replicate n [x]).flatten = List.replicate n x:=by
 induction n with
 | zero=>rfl
 | succ n ih=>rw [List.replicate_succ,List.flatten_cons,ih,List.replicate_succ]; rfl
def Rd (d:Wo) (b sc l:Addr) (scope:List Str) (spare floors rounds:Int) (H0:Hp) (fin ea:Bool) (σ:St) (H:Hp):Prop:=
 ∃ (bn ss rs:Addr) (bs:List Str) (as:List Addr) (scopes:List (List Str)) (rl:List Int) (o10:Option V),σ = [some (.ref b),some (.ref sc),some (.ref l),some (.int spare),some (.int floors),some (.int rounds),some (.str (woS d)),some (.ref bn),some (.ref ss),some (.ref rs),o10,none,none]/\Step b H0 H/\H bn = some (.tup (bs.map V.str)) /\
  H ss = some (.lst (as.map V.ref))/\ss≠b/\H rs = some (.lst (rl.map V.int))/\rs≠b/\as.length = scopes.length/\scopes.length<=rl.length/\(∀ r∈rl,0<=r/\r<=100/\r<=rounds) /\
  (∀ (i:Nat) (a:Addr) (s:List Str),as[i]? = some a->scopes[i]? = some s->H a = some (.lst (s.map V.str))/\a≠b/\s.length<=scope.length + 2/\∀ y∈s,Vr y)/\(∀ z∈bs,Vr z) /\
  (fin = true->(scopes.length:Int)<=spare - 1/\(0<=floors - 1\/scopes = [])/\bs.length = bcnt d/\Cnt d scopes.length/\bs.Nodup/\(ea = true->wEO d = true->∀ c,rl[scopes.length - 1]? = some c->c<=rounds - 1)/\Shp scopes scope bs)/\(fin = false->∃ z,bs = [z])/\(zmJ d = true->scopes.length<=2)
abbrev Row:=List Int × Rl × List Str
def rlW:Rl->Wo
 | .lit _=>.lit
 | .var _=>.var
 | .op d _ _=>d
def zaH (n:List Int) (sc bs:List Str):List Rl->Int->List Row
 | [],_=>[]
 | [p],k=>[(n ++ [k],p,sc ++ bs)]
 | p :: q :: r,k=>(n ++ [k],p,sc) :: zaH n sc bs (q :: r) (k + 1)
mutual
def walk (n:List Int) (sc:List Str):Rl->List Row
 | .lit x=>[(n,.lit x,sc)]
 | .var s=>[(n,.var s,sc)]
 | .op d bs ps=>(n,.op d bs ps,sc) :: walks n sc bs ps (1 + (bcnt d:Int))
def walks (n:List Int) (sc bs:List Str):List Rl->Int->List Row
 | [],_=>[]
 | [p],k=>walk (n ++ [k]) (sc ++ bs) p
 | p :: q :: r,k=>walk (n ++ [k]) sc p ++ walks n sc bs (q :: r) (k + 1)
end
theorem zga (n:List Int) (sc bs:List Str):∀ (ps:List Rl) (k:Int),(zaH n sc bs ps k).length = ps.length
 | [],_=>rfl
 | [p],_=>rfl
 | p :: q :: r,k=>by rw [zaH,List.length_cons,zga n sc bs (q :: r) (k + 1)]; rfl
theorem zgb (n:List Int) (sc bs:List Str):∀ (ps:List Rl) (k:Int) (i:Nat) (p:Rl),ps[i]? = some p->(zaH n sc bs ps k)[i]? = some (n ++ [k + i],p,if i + 1 = ps.length then sc ++ bs else sc)
 | [q],k,0,p,h=>by cases h; simp [zaH]
 | q :: r :: l,k,0,p,h=>by cases h; rw [zaH]; simp
 | q :: r :: l,k,i + 1,p,h=>by
  rw [List.getElem?_cons_succ] at h
  rw [zaH,List.getElem?_cons_succ,zgb n sc bs (r :: l) (k + 1) i p h,show k + 1 + (i:Int) = k + ((i + 1:Nat):Int) by omega]
  congr 3
  simp
 | [q],k,i + 1,p,h=>by simp at h
mutual
theorem zgc (n:List Int) (sc:List Str):∀ r:Rl,(walk n sc r).length = r.many
 | .lit x=>by rw [walk,Rl.many]; rfl
 | .var s=>by rw [walk,Rl.many]; rfl
 | .op d bs ps=>by rw [walk,Rl.many,List.length_cons,walks_len n sc bs ps _]; omega
theorem walks_len (n:List Int) (sc bs:List Str):∀ (ps:List Rl) (k:Int),(walks n sc bs ps k).length = manys ps
 | [],_=>by rw [walks,manys]; rfl
 | [p],k=>by rw [walks,manys,manys,zgc (n ++ [k]) (sc ++ bs) p]; rfl
 | p :: q :: r,k=>by rw [walks,manys,List.length_append,zgc (n ++ [k]) sc p,walks_len n sc bs (q :: r) (k + 1)]
end
theorem Gds.mem:∀ {ps:List Rl},Gds ps->∀ p∈ps,p.Gd
 | q :: r,h,p,hp=>by
  rw [Gds] at h
  rcases List.mem_cons.mp hp with rfl | hp
  ·exact h.1
  ·exact Gds.mem h.2 p hp
theorem zco:∀ {ps:List Rl}{p:Rl},p∈ps->1 + p.high<=highs ps
 | q :: r,p,h=>by
  rw [highs]
  rcases List.mem_cons.mp h with rfl | h
  ·omega
  ·have:=zco h; omega
theorem zdI (d:Wo):bcnt d<=2:=by cases d <;> decide
theorem RW.inv_lst {H:Hp}{v:V}{ws:List W} (h:RW H v (.lst ws)):∃ a vs,v = .ref a/\H a = some (.tup vs)/\RWs H vs ws:=by
 cases h with
 | lst e l r=>exact ⟨_,_,rfl,e,l,r⟩
theorem RW.inv_txt {H:Hp}{v:V}{x:Str} (h:RW H v (.txt x)):v = .str x:=by cases h; rfl
theorem RWs.inv_cons {H:Hp}{vs:List V}{w:W}{ws:List W} (h:RWs H vs (w :: ws)):∃ v r,vs = v :: r/\RW H v w/\RWs H r ws:=by
 obtain ⟨l,f⟩:=h
 cases vs with
 | nil=>simp at l
 | cons v r=>exact ⟨v,r,rfl,f 0 v w rfl rfl,by simpa using l,fun i x y hx hy=>f (i + 1) x y (by simpa using hx) (by simpa using hy)⟩
theorem RWs.inv_nil {H:Hp}{vs:List V} (h:RWs H vs []):vs = []:=List.length_eq_zero_iff.mp h.len
theorem RWs.inv_txts {H:Hp}:∀ {bs:List Str}{vs:List V}{ws:List W},RWs H vs (bs.map W.txt ++ ws)->∃ r,vs = bs.map V.str ++ r/\RWs H r ws
 | [],vs,ws,h=>⟨vs,rfl,h⟩
 | b :: bs,vs,ws,h=>by
  obtain ⟨v,r,rfl,h1,h2⟩:=RWs.inv_cons h
  obtain ⟨r',rfl,h3⟩:=RWs.inv_txts h2
  exact ⟨r',by rw [RW.inv_txt h1]; rfl,h3⟩
inductive Opn (H:Hp):Rl->List V->Prop where
 | lit {x:W}{v:V}:RW H v x->Opn H (.lit x) [.str "lit",v]
 | var {s:Str}:Opn H (.var s) [.str "var",.str s]
 | op {d:Wo}{bs:List Str}{ps:List Rl}{vs:List V}:RWs H vs (rlWs ps)->Opn H (.op d bs ps) (.str (woS d) :: (bs.map V.str ++ vs))
theorem opn {H:Hp}{v:V}{r:Rl} (h:RW H v r.toW):∃ a us,v = .ref a/\H a = some (.tup us)/\Opn H r us:=by
 cases r with
 | lit x=>
  rw [Rl.toW] at h
  obtain ⟨a,vs,rfl,e,h⟩:=RW.inv_lst h
  obtain ⟨v1,r1,rfl,h1,h⟩:=RWs.inv_cons h
  obtain ⟨v2,r2,rfl,h2,h⟩:=RWs.inv_cons h
  rw [RW.inv_txt h1,RWs.inv_nil h] at e
  exact ⟨a,_,rfl,e,.lit h2⟩
 | var s=>
  rw [Rl.toW] at h
  obtain ⟨a,vs,rfl,e,h⟩:=RW.inv_lst h
  obtain ⟨v1,r1,rfl,h1,h⟩:=RWs.inv_cons h
  obtain ⟨v2,r2,rfl,h2,h⟩:=RWs.inv_cons h
  rw [RW.inv_txt h1,RW.inv_txt h2,RWs.inv_nil h] at e
  exact ⟨a,_,rfl,e,.var⟩
 | op d bs ps=>
  rw [Rl.toW] at h
  obtain ⟨a,vs,rfl,e,h⟩:=RW.inv_lst h
  obtain ⟨v1,r1,rfl,h1,h⟩:=RWs.inv_cons h
  obtain ⟨r2,rfl,h2⟩:=RWs.inv_txts h
  rw [RW.inv_txt h1] at e
  exact ⟨a,_,rfl,e,.op h2⟩
theorem Opn.head {H:Hp}{r:Rl}{us:List V} (h:Opn H r us):us[0]? = some (.str (woS (rlW r))):=by cases h <;> rfl
theorem zk7 (x:V) (xs ys:List V) (k:Nat) (hk:k = xs.length):cutV (x :: (xs ++ ys)) (some 1) (some (1 + (k:Int))) = xs:=by
 show ((x :: (xs ++ ys)).drop (HT.sIx (x :: (xs ++ ys)).length 0 (some ((1:Nat):Int)))).take (HT.sIx (x :: (xs ++ ys)).length (x :: (xs ++ ys)).length (some (1 + (k:Int))) - HT.sIx (x :: (xs ++ ys)).length 0 (some ((1:Nat):Int))) = xs
 rw [show (1:Int) + (k:Int) = ((1 + k:Nat):Int) by omega,HT.sIx_nat,HT.sIx_nat,List.length_cons,List.length_append,hk,show min 1 (xs.length + ys.length + 1) = 1 by omega,show min (1 + xs.length) (xs.length + ys.length + 1) - 1 = xs.length by omega]
 simp
theorem zjA (x:V) (xs ys:List V) (k:Nat) (hk:k = xs.length):cutV (x :: (xs ++ ys)) (some (1 + (k:Int))) none = ys:=by
 show ((x :: (xs ++ ys)).drop (HT.sIx (x :: (xs ++ ys)).length 0 (some (1 + (k:Int))))).take ((x :: (xs ++ ys)).length - HT.sIx (x :: (xs ++ ys)).length 0 (some (1 + (k:Int)))) = ys
 rw [show (1:Int) + (k:Int) = ((1 + k:Nat):Int) by omega,HT.sIx_nat,List.length_cons,List.length_append,hk,show min (1 + xs.length) (xs.length + ys.length + 1) = xs.length + 1 by omega]
 rw [List.drop_succ_cons,List.drop_left,List.take_of_length_le (by omega)]
theorem zeO (x:V) (xs:List V) (k:Nat) (hi:Option Int):¬ (HT.sIx (x :: xs).length 0 (some (1 + (k:Int))) = 0/\HT.sIx (x :: xs).length (x :: xs).length hi = (x :: xs).length):=fun h=>by
 have h1:=h.1
 rw [show (1:Int) + (k:Int) = ((1 + k:Nat):Int) by omega,HT.sIx_nat,List.length_cons] at h1
 omega
theorem zdJ:∀ {ps:List Rl}{i:Nat}{p:Rl},ps[i]? = some p->(rlWs ps)[i]? = some p.toW
 | q :: r,0,p,h=>by cases h; rw [rlWs]; rfl
 | q :: r,i + 1,p,h=>by rw [rlWs,List.getElem?_cons_succ]; exact zdJ (by simpa using h)
theorem zij:bootBuiltins (Str.ofString "set") = some (.type "set"):=by kernel_rfl
def rLen (K:PySem.W.Frag):List V->Hp->VK->Prop:=fun xs H Q=>∃ x n,xs = [x]/\LenV K x H n/\Q (.int n) H
def kvsB:List (Key × V):=[(.inr "let",.int 1),(.inr "each",.int 1),(.inr "over",.int 2)]
def kvsP:List (Key × V):=[(.inr "let",.int 2),(.inr "if",.int 3),(.inr "+",.int 2),(.inr "-",.int 2),(.inr "*",.int 2),(.inr "/",.int 2),(.inr "same",.int 2),(.inr "less",.int 2),(.inr "join",.int 2),(.inr "item",.int 2),(.inr "count",.int 1),(.inr "figures",.int 1),(.inr "each",.int 2),(.inr "over",.int 3),(.inr "look",.int 1),(.inr "else",.int 2),(.inr "cry",.int 1)]
def zbZ:Sp:=fun vs H Q _=>∃ d:Wo,vs = [.str (woS d)]/\Q (.bl (!(wLit d || wVar d))) H
def zbM:Sp:=fun vs H Q _=>∃ d:Wo,vs = [.str (woS d)]/\Q (.int (bcnt d)) H
def zcp:Sp:=fun vs H Q _=>∃ (a:Addr) (d:Wo) (xs ys:List V),vs = [.ref a]/\H a = some (.tup (.str (woS d) :: (xs ++ ys)))/\xs.length = bcnt d/\∀ (p:Addr) (H':Hp),Same H H'->H' p = some (.tup xs)->Q (.ref p) H'
def zB:Rl->List Rl
 | .op _ _ ps=>ps
 | _=>[]
def zaa:Sp:=fun vs H Q _=>∃ (a:Addr) (d:Wo) (xs ys:List V),vs = [.ref a]/\H a = some (.tup (.str (woS d) :: (xs ++ ys)))/\((wLit d || wVar d) = true\/((wLit d || wVar d) = false/\xs.length = bcnt d))/\∀ (l:Addr) (H':Hp),H l = none->Same H H'->H' l = some (.lst (if (wLit d || wVar d) = true then [] else ys))->Q (.ref l) H'
section
variable {P:Program}{w:World}{K:PySem.W.Frag}{mg:Str->Option Value}{base:Heap}{f:Addr}{fd:FuncData}{k n:Nat}{ANoName AHouse ANoWorth ANoRule ANoThing zN ANoStep ANoRow AForgeError:Addr}
theorem zeP:FnScope ["word"] ["word"] (zh zaE):=⟨rfl,rfl,rfl,by decide +kernel,rfl,by decide +kernel,by decide +kernel⟩
theorem zeQ (F:Fun K "has_parts" "has_parts" zaE f fd) {g_PARTS:Addr} (m_PARTS:mg "PARTS" = some (.ref g_PARTS)) (d_PARTS:MD P w K g_PARTS kvsP):FnOk P w K mg base CX0 (k + 1) f fd ["word"] (zbZ):=by
 refine F.okQ zeP (fun vs H Q E h=>?_) (fun cdv A outer s H vs Q E hr h=>?_)
 ·obtain ⟨d,rfl,_⟩:=h
  rfl
 obtain ⟨d,rfl,q⟩:=h
 refine ⟨_,(zf (zr (zhe (zP Za (pv 0) zi (nomark _)) (Z0 (zP zl9 (pv 0) (Zr (v:=.ref g_PARTS) rfl m_PARTS rfl) (by rfl)))))),?_⟩
 refine ⟨_,rfl,rfl,_,rfl,?_⟩
 rw [show Str.ofString "list" = "list" from rfl,zkf]
 cases hl:zbL d with
 | true=>
  have:(!(wLit d || wVar d)) = true:=by cases d <;> first | rfl | (simp [zbL] at hl; done)
  rw [this] at q
  exact iteT q
 | false=>
  refine iteF ⟨_,rfl,g_PARTS,kvsP,.inr (woS d),rfl,rfl,d_PARTS,?_⟩
  have hs:(valV kvsP (.inr (woS d))).isSome = (!(wLit d || wVar d)):=by
   cases d
   case list=>simp [zbL] at hl
   all_goals rfl
  rw [hs]
  exact q
theorem zb9:FnScope ["word"] ["word"] (zh ZI):=⟨rfl,rfl,rfl,by decide +kernel,rfl,by decide +kernel,by decide +kernel⟩
theorem zca (F:Fun K "binding_count" "binding_count" ZI f fd) {g_BINDING:Addr} (m_BINDING:mg "BINDING" = some (.ref g_BINDING)) (d_BINDING:MD P w K g_BINDING kvsB):FnOk P w K mg base CX0 (k + 1) f fd ["word"] (zbM):=by
 refine F.okQ zb9 (fun vs H Q E h=>?_) (fun cdv A outer s H vs Q E hr h=>?_)
 ·obtain ⟨d,rfl,_⟩:=h
  rfl
 obtain ⟨d,rfl,q⟩:=h
 refine ⟨_,(zf (zr (zdB (Zr (v:=.ref g_BINDING) rfl m_BINDING rfl) (pv 0) ze ⟨rfl,rfl,rfl,rfl⟩))),?_⟩
 refine ⟨g_BINDING,kvsB,rfl,d_BINDING,_,rfl,.inr (woS d),rfl,?_⟩
 have hs:(valV kvsB (.inr (woS d))).getD (.int 0) = .int (bcnt d):=by cases d <;> rfl
 rw [hs]
 exact q
theorem zcM:FnScope ["expression"] ["expression"] (zh ZT):=⟨rfl,rfl,rfl,by decide +kernel,rfl,by decide +kernel,by decide +kernel⟩
theorem zcN (F:Fun K "variables_of" "variables_of" ZT f fd) (G_binding_count:Have P w K mg base "binding_count" k ["word"] (zbM)):FnOk P w K mg base CX0 (k + 1) f fd ["expression"] (zcp):=by
 refine F.okQ zcM (fun vs H Q E h=>?_) (fun cdv A outer s H vs Q E hr h=>?_)
 ·obtain ⟨a,d,xs,ys,rfl,_⟩:=h
  rfl
 obtain ⟨a,d,xs,ys,rfl,ha,hl,q⟩:=h
 refine ⟨_,(zf (zr (zbq zj4 (pv 0) (zbU ze) (zbU (zw Zi ze (zu G_binding_count hr rfl (za (zx zy (pv 0) ze (fun _ _=>rfl)) zb))))))),?_⟩
 refine ⟨_,rfl,_,rfl,_,rfl,a,_,0,_,rfl,rfl,SqT.of ha,zH (j:=0) rfl,d,rfl,_,_,rfl,rfl,_,rfl,a,_,rfl,SqT.of ha,zeO _ _ 0 _,fun p hp=>?_⟩
 refine q p _ (Same.new hp) (zc.trans ?_)
 exact congrArg (fun z=>some (HO.tup z)) (zk7 _ xs ys (bcnt d) hl.symm)
theorem zcO:FnScope ["expression","word"] ["expression"] (zh za2):=⟨rfl,rfl,rfl,by decide +kernel,rfl,by decide +kernel,by decide +kernel⟩
theorem zfy (F:Fun K "parts_of" "parts_of" za2 f fd) (G_binding_count:Have P w K mg base "binding_count" k ["word"] (zbM)) (G_has_parts:Have P w K mg base "has_parts" k ["word"] (zbZ)) (m_list:mg "list" = none):FnOk P w K mg base CX0 (k + 1) f fd ["expression"] (zaa):=by
 refine F.okQ zcO (fun vs H Q E h=>?_) (fun cdv A outer s H vs Q E hr h=>?_)
 ·obtain ⟨a,d,xs,ys,rfl,_⟩:=h
  rfl
 obtain ⟨a,d,xs,ys,rfl,ea,hc,q⟩:=h
 refine ⟨_,(zd (zn (i:=1) zcO.nd rfl (Or.inl rfl) (zx zy (pv 0) ze (fun _ _=>rfl)))
  (zd (zG (ZH (Zm (zu G_has_parts hr rfl (za (pv 1) zb)))) (zf (zr (zL zb))) zo)
  (zf (zr (Zu zem rfl m_list zgT (za (zbq zj4 (pv 0) (zbU (zw Zi ze (zu G_binding_count hr rfl (za (pv 1) zb)))) zdq) zb)))))),?_⟩
 refine ⟨_,rfl,a,_,0,_,rfl,rfl,SqT.of ea,zH (j:=0) rfl,?_⟩
 refine ⟨_,rfl,d,rfl,_,rfl,?_⟩
 rcases hc with hc | ⟨hc,hl⟩
 ·rw [hc] at q ⊢
  exact iteT ⟨zl0,fun l hl=>q l _ hl (Same.new hl) zc⟩
 ·rw [hc] at q ⊢
  refine iteF ⟨_,rfl,_,rfl,d,rfl,_,_,rfl,rfl,_,rfl,a,_,rfl,SqT.of ea,zeO _ _ (bcnt d) _,fun p hp=>?_⟩
  have s1:=Same.new (o:=.tup (cutV (.str (woS d) :: (xs ++ ys)) (some (1 + bcnt d)) none)) hp
  have e:=zjA (.str (woS d)) xs ys (bcnt d) hl.symm
  refine ⟨p,ys,rfl,.inr (SqT.of (by rw [zc]; exact congrArg _ (congrArg _ e))),fun l hl=>?_⟩
  have s2:=s1.trans (Same.new (o:=.lst ys) hl)
  exact q l _ (s1.free hl) s2 zc
theorem zmi {H:Hp}{v:V}{r:Rl}{Q:VK}{E:XK} (hv:RW H v r.toW) (hg:r.Gd) (q:∀ (l:Addr) (us:List V) (H':Hp),H l = none->Same H H'->H' l = some (.lst us)->RWs H' us (rlWs (zB r))->Q (.ref l) H'):zaa [v] H Q E:=by
 obtain ⟨a,us,rfl,ea,ho⟩:=opn hv
 cases ho with
 | lit _=>exact ⟨a,.lit,[],[_],rfl,ea,.inl rfl,fun l H' hl s e=>q l [] H' hl s e ⟨rfl,fun i v w e=>by simp at e⟩⟩
 | var=>exact ⟨a,.var,[],[_],rfl,ea,.inl rfl,fun l H' hl s e=>q l [] H' hl s e ⟨rfl,fun i v w e=>by simp at e⟩⟩
 | op hvs=>
  rename_i d bs ps vs
  rw [Rl.Gd] at hg
  obtain ⟨⟨h1,h2,h3,_⟩,_⟩:=hg
  have hb:(wLit d || wVar d) = false:=by rw [h1,h2]; rfl
  refine ⟨a,d,bs.map V.str,vs,rfl,ea,.inr ⟨hb,by rw [List.length_map,h3]⟩,fun l H' hl s e=>q l vs H' hl s ?_ (hvs.mono (zC s))⟩
  rw [hb] at e
  exact e
theorem zgd:∀ {ps:List Rl}{p:Rl},p∈ps->p.many<=manys ps
 | q :: r,p,h=>by
  simp only [manys]
  rcases List.mem_cons.mp h with rfl | h
  ·omega
  ·have:=zgd h; omega
theorem zfz (r:Rl):r.many = 1 + manys (zB r):=by cases r <;> simp [Rl.many,zB,manys]
theorem zfA (r:Rl):r.high = highs (zB r):=by cases r <;> simp [Rl.high,zB,highs]
theorem zaI {r:Rl} (h:r.Gd):∀ p∈zB r,p.Gd:=by
 cases r with
 | op d bs ps=>rw [Rl.Gd] at h; exact h.2.mem
 | lit _=>intro p hp; cases hp
 | var _=>intro p hp; cases hp
mutual
def unb (b:List Str):Rl->List Str
 | .lit _=>[]
 | .var s=>if s∈b then [] else [s]
 | .op _ bs ps=>unbs b bs ps
def unbs (b bs:List Str):List Rl->List Str
 | []=>[]
 | [p]=>unb (b ++ bs) p
 | p :: q :: r=>unb b p ++ unbs b bs (q :: r)
end
def unbR (x:Row):List Str:=unb x.2.2 x.2.1
theorem zeR (b bs:List Str):∀ (ps:List Rl) (k:Int),unbs b bs ps = (zaH [] b bs ps k).flatMap unbR
 | [],_=>by rw [unbs,zaH]; rfl
 | [p],_=>by rw [unbs,zaH]; simp [unbR]
 | p :: q :: r,k=>by rw [unbs,zaH,List.flatMap_cons,zeR b bs (q :: r) (k + 1)]; rfl
mutual
theorem zcP (b:List Str):∀ r:Rl,(unb b r).length<=r.many
 | .lit x=>by rw [unb,Rl.many]; exact Nat.zero_le _
 | .var s=>by rw [unb,Rl.many]; split <;> simp
 | .op d bs ps=>by rw [unb,Rl.many]; have:=unbs_len b bs ps; omega
theorem unbs_len (b bs:List Str):∀ ps:List Rl,(unbs b bs ps).length<=manys ps
 | []=>by rw [unbs,manys]; exact Nat.le_refl _
 | [p]=>by rw [unbs,manys,manys]; have:=zcP (b ++ bs) p; omega
 | p :: q :: r=>by rw [unbs,manys,List.length_append]; have:=zcP b p; have:=unbs_len b bs (q :: r); omega
end
def zcb:Rl->List Str
 | .op _ bs _=>bs
 | _=>[]
theorem zeS {α β:Type} (f:α->List β) (l:List α) (i:Nat):((l.take i).flatMap f).length<=(l.flatMap f).length:=by
 have:l.flatMap f = (l.take i).flatMap f ++ (l.drop i).flatMap f:=by rw [← List.flatMap_append,List.take_append_drop]
 rw [this,List.length_append]
 omega
theorem zal (s:Str) (b:List Str):inV (.str s) (b.map V.str) = decide (s∈b):=by
 induction b with
 | nil=>rfl
 | cons x r ih=>
  unfold inV at ih ⊢
  rw [List.map_cons,List.any_cons,ih]
  rw [show eqV (V.str x) (V.str s) = (x == s) from rfl]
  by_cases e:s = x
  ·subst e; simp
  ·have e':¬ x = s:=fun z=>e z.symm
   simp [e,e']
def zjB (n:Nat):Sp:=fun vs H Q _=>∃ (v:V) (r:Rl) (b:Addr) (bnd:List Str),vs = [v,.ref b]/\RW H v r.toW/\r.Gd/\r.many<=100/\r.high < n/\H b = some (.tup (bnd.map V.str))/\bnd.length + 2 * n<=1000 /\
 ∀ (l:Addr) (H':Hp),H l = none->Same H H'->H' l = some (.lst ((unb bnd r).map V.str))->Q (.ref l) H'
def zik:Sp:=fun vs H Q _=>∃ (v:V) (r:Rl),vs = [v]/\RW H v r.toW/\r.Gd/\r.many < 64/\r.high < 20 /\
 ∀ (l:Addr) (ss:List Str) (H':Hp),H l = none->Same H H'->H' l = some (.lst (ss.map V.str))->L2.zk0 ss->ss.Perm (L2.allS (unb [] r))->Q (.ref l) H'
theorem Z6:FnScope ["expression","bound","parts","names","place","part","is_last"] ["expression","bound"] (zh zbx):=⟨rfl,rfl,rfl,by decide +kernel,rfl,by decide +kernel,by decide +kernel⟩
theorem zgZ {n:Nat} (F:Fun K "unbound" "unbound" zbx f fd) (G_unbound:Have P w K mg base "unbound" k ["expression","bound"] (zjB n)) (G_variables_of:Have P w K mg base "variables_of" k ["expression"] (zcp)) (G_parts_of:Have P w K mg base "parts_of" k ["expression"] (zaa)) (m_enumerate:mg "enumerate" = none) (m_len:mg "len" = none):FnOk P w K mg base CX0 (k + 1) f fd ["expression","bound"] (zjB (n + 1)):=by
 refine F.okQ Z6 (fun vs H Q E h=>?_) (fun cdv A outer s H vs Q E hr h=>?_)
 ·obtain ⟨v,r,b,bnd,rfl,_⟩:=h
  rfl
 obtain ⟨v,r,b,bnd,rfl,hv,hfit,hm,hh,hb,hbl,q⟩:=h
 refine ⟨_,(zd (zG (zm Za (zx zy (pv 0) ze (fun _ _=>rfl)) zi (nomark _)) (zf (zr (za0 (zm ZW (zx zy (pv 0) ze (fun _ _=>rfl)) (pv 1) (by rfl)) (zL zb) (zL (za (zx zy (pv 0) ze (fun _ _=>rfl)) zb))))) zo)
  (zd (zn (i:=2) Z6.nd rfl (Or.inl rfl) (zu G_parts_of hr rfl (za (pv 0) zb)))
  (zd (zn (i:=3) Z6.nd rfl (Or.inl rfl) (zL zb))
  (zd (Z1 PassesOwn.never rfl (zdC rfl m_enumerate (za (pv 2) zb)) (zcv rfl (ZQ (zV (i:=4) Z6.nd rfl (Or.inl rfl)) (ZQ (zV (i:=5) Z6.nd rfl (Or.inl rfl)) zcu))) (zd (zn (i:=6) Z6.nd rfl (Or.inl rfl) (zP Za (pv 4) (zw Z2 (zl zD rfl m_len PySem.boot_len (za (pv 2) zb)) ze) (nomark _)))
  (zf (zq (zav PySem.F.plainAttrs_list PySem.F.slot_list_extend PySem.F.type_list_extend zcF (pv 3) (za (zu G_unbound hr rfl (za (pv 5) (za (za0 (Zm (pv 6)) (zw zkX (pv 1) (zu G_variables_of hr rfl (za (pv 0) zb))) (pv 1)) zb))) zb))))))
  (zf (zr (pv 3))))))),?_⟩
 obtain ⟨a,us0,rfl,ea,ho⟩:=opn hv
 refine ⟨_,rfl,a,_,0,_,rfl,rfl,SqT.of ea,zH (j:=0) ho.head,rfl,_,rfl,?_⟩
 rw [show Str.ofString "var" = "var" from rfl,zmh]
 cases hw:wVar (rlW r) with
 | true=>
  cases ho with
  | var=>
   rename_i s
   refine iteT ⟨_,rfl,a,_,1,_,rfl,rfl,SqT.of ea,rfl,_,rfl,b,_,rfl,.inr (SqT.of hb),rfl,?_,_,rfl,?_⟩
   ·rw [List.all_map]; simp [zcD]
   ·show if inV (.str s) (bnd.map V.str) = true then _ else _
    rw [zal]
    by_cases hs:s∈bnd
    ·rw [decide_eq_true hs]
     exact iteT ⟨zl0,fun l hl=>q l _ hl (Same.new hl) (by rw [zc,unb,if_pos hs]; rfl)⟩
    ·rw [decide_eq_false hs]
     exact iteF ⟨_,rfl,a,_,1,_,rfl,rfl,SqT.of ea,rfl,zl1,fun l hl=>q l _ hl (Same.new hl) (by rw [zc,unb,if_neg hs]; rfl)⟩
  | lit _=>cases hw
  | op hvs=>
   have hf:=hfit
   rw [Rl.Gd] at hf
   rw [show wVar (rlW (Rl.op _ _ _)) = false from hf.1.2.1] at hw
   cases hw
 | false=>
  have hub:unb bnd r = (zaH [] bnd (zcb r) (zB r) 0).flatMap unbR:=by
   cases r with
   | lit _=>rw [unb]; rfl
   | var _=>cases hw
   | op d bs ps=>rw [unb,zeR bnd bs ps 0]; rfl
  refine iteF ⟨_,rfl,?_⟩
  dsimp only [tNil,List.cons_append,List.nil_append]
  refine zmi hv hfit fun l us H1 hl s1 el hus=>⟨zl0,fun nm hnm=>?_⟩
  have hul:=hus.len
  rw [zdH] at hul
  have s2:=Same.new (o:=.lst []) hnm
  have hln:l≠nm:=zk el hnm
  have nmH:H nm = none:=s1.free hnm
  have ulen:=zcP bnd r
  refine ⟨_,rfl,l,us,rfl,SqL.of (s2 _ _ el),zf5 (xs:=us) (fun i σ' H'=>∃ (o4 o5 o6:Option V),σ' = [some (.ref a),some (.ref b),some (.ref l),some (.ref nm),o4,o5,o6]/\(∀ c o,c≠nm->upd H1 nm (.lst []) c = some o->H' c = some o)/\H' nm = some (.lst ((((zaH [] bnd (zcb r) (zB r) 0).take i).flatMap unbR).map V.str)))
   ⟨none,none,none,rfl,fun c o _ e=>e,by rw [zc]; rfl⟩ (fun i σ' H' _ h=>?_) (fun i x t σ' H' hx ht h=>?_) (fun σ' H' h=>?_)⟩
  ·obtain ⟨_,_,_,_,kp,_⟩:=h
   exact SqL.of (kp l _ hln (s2 _ _ el))
  ·obtain ⟨o4,o5,o6,rfl,kp,enm⟩:=h
   have hi:i < us.length:=(List.getElem?_eq_some_iff.mp hx).1
   have hki:(zB r)[i]? = some (zB r)[i]:=List.getElem?_eq_getElem (by omega)
   have hkid:=zgb [] bnd (zcb r) (zB r) 0 i _ hki
   have sT:=Same.new (o:=.tup [.int i,x]) ht
   have hpm:=List.getElem_mem (show i < (zB r).length by omega)
   have h1:=zgd hpm
   have h2:=zco hpm
   have hme:=zfz r
   have hhe:=zfA r
   have kpT:∀ c o,c≠nm->upd H1 nm (.lst []) c = some o->upd H' t (.tup [.int i,x]) c = some o:=fun c o hc e=>sT _ _ (kp c o hc e)
   have kH:∀ c o,H c = some o->upd H' t (.tup [.int i,x]) c = some o:=fun c o e=>kpT c o (zk e nmH) (s2 _ _ (s1 _ _ e))
   refine ⟨t,_,rfl,SqT.of zc,rfl,_,_,rfl,_,_,rfl,rfl,?_⟩
   refine ⟨_,rfl,_,rfl,_,_,rfl,.inl ⟨_,SqL.of (kpT l _ hln (s2 _ _ el)),rfl⟩,_,_,rfl,rfl,rfl,?_⟩
   refine ⟨_,rfl,.inl ⟨rfl,_,SqL.of (sT _ _ enm)⟩,_,rfl,_,rfl,_,rfl,?_⟩
   have rwx:RW (upd H' t (.tup [.int i,x])) x ((zB r)[i]).toW:=by
    refine (hus.at' i x _ hx (zdJ hki)).mono (fun c zs ec=>?_)
    exact kpT c _ (zk ec hnm) (s2 _ _ ec)
   have F:∀ (l2:Addr) (H6:Hp) (bnd2:List Str),bnd2 = (if i + 1 = (zB r).length then bnd ++ zcb r else bnd)->Same (upd H' t (.tup [.int i,x])) H6->H6 l2 = some (.lst ((unb bnd2 (zB r)[i]).map V.str))->H6 nm = some (.lst ((((zaH [] bnd (zcb r) (zB r) 0).take i).flatMap unbR).map V.str)) /\
     ((((zaH [] bnd (zcb r) (zB r) 0).take i).flatMap unbR).map V.str).length + ((unb bnd2 (zB r)[i]).map V.str).length<=sizeLine /\
     (∀ c o,c≠nm->upd H1 nm (.lst []) c = some o->upd H6 nm (.lst ((((zaH [] bnd (zcb r) (zB r) 0).take i).flatMap unbR).map V.str ++ (unb bnd2 (zB r)[i]).map V.str)) c = some o) /\
     upd H6 nm (.lst ((((zaH [] bnd (zcb r) (zB r) 0).take i).flatMap unbR).map V.str ++ (unb bnd2 (zB r)[i]).map V.str)) nm = some (.lst ((((zaH [] bnd (zcb r) (zB r) 0).take (i + 1)).flatMap unbR).map V.str)):=fun l2 H6 bnd2 hb2 s6 el2=>by
    have t1:=zeS unbR (zaH [] bnd (zcb r) (zB r) 0) i
    rw [← hub] at t1
    have t2:=zcP bnd2 (zB r)[i]
    refine ⟨s6 _ _ (sT _ _ enm),?_,fun c o hc e=>?_,?_⟩
    ·rw [List.length_map,List.length_map]
     exact Nat.le_trans (show _<=300 by omega) (by decide)
    ·rw [zg hc]
     exact s6 _ _ (kpT c o hc e)
    ·rw [zc,List.take_succ,hkid,List.flatMap_append,List.map_append,← hb2]
     simp [unbR]
   refine ite2 (fun c=>?_) (fun c=>?_)
   ·have hlast:i + 1 = (zB r).length:=by
     have:=of_decide_eq_true c
     injection this with this
     omega
    cases ho with
    | lit _=>simp [zB] at hlast
    | var=>cases hw
    | op hvs=>
     rename_i d bs ps vs
     have hfit':=hfit
     have hf:=hfit
     rw [Rl.Gd] at hf
     have hb2l:=zdI d
     have hbl3:=hf.1.2.2.1
     refine ⟨_,rfl,_,rfl,a,d,bs.map V.str,vs,rfl,kH _ _ ea,by rw [List.length_map]; exact hf.1.2.2.1,fun p H5 s5 ep=>?_⟩
     have hb2:bnd ++ bs = (if i + 1 = (zB (.op d bs ps)).length then bnd ++ zcb (.op d bs ps) else bnd):=by rw [if_pos hlast]; rfl
     have hbl2:(bnd ++ bs).length + 2 * n<=1000:=by rw [List.length_append]; omega
     have call:∀ (b2:Addr) (H6:Hp),Same H5 H6->H6 b2 = some (.tup ((bnd ++ bs).map V.str))->RW H6 x ((zB (.op d bs ps))[i]).toW:=fun b2 H6 s6 _=>rwx.mono (zC (s5.trans s6))
     cases hbn:bnd with
     | nil=>
      subst hbn
      refine .inr (.inr ⟨b,p,_,rfl,rfl,SqT.of (s5 _ _ (kH _ _ hb)),SqT.of ep,?_⟩)
      exact ⟨x,_,p,[] ++ bs,rfl,rwx.mono (zC s5),zaI hfit' _ hpm,by omega,by omega,ep,hbl2,fun l2 H6 hl2 s6 el2=>⟨nm,l2,_,_,rfl,rfl,(F l2 H6 _ hb2 (s5.trans s6) el2).1,el2,(F l2 H6 _ hb2 (s5.trans s6) el2).2.1,_,_,_,rfl,(F l2 H6 _ hb2 (s5.trans s6) el2).2.2.1,(F l2 H6 _ hb2 (s5.trans s6) el2).2.2.2⟩⟩
     | cons z zs=>
      rw [← hbn]
      refine .inr (.inl ⟨b,p,_,_,rfl,rfl,SqT.of (s5 _ _ (kH _ _ hb)),SqT.of ep,(by rw [hbn]; exact fun z=>nomatch z),by rw [List.length_map,List.length_map]; exact Nat.le_trans (show bnd.length + bs.length<=1100 by omega) (by decide),fun hz=>?_,fun _ p6 hp6=>?_⟩)
      ·have hbs:bs = []:=List.map_eq_nil_iff.mp hz
       have eb:H5 b = some (.tup ((bnd ++ bs).map V.str)):=by rw [hbs,List.append_nil]; exact s5 _ _ (kH _ _ hb)
       exact ⟨x,_,b,bnd ++ bs,rfl,rwx.mono (zC s5),zaI hfit' _ hpm,by omega,by omega,eb,hbl2,fun l2 H6 hl2 s6 el2=>⟨nm,l2,_,_,rfl,rfl,(F l2 H6 _ hb2 (s5.trans s6) el2).1,el2,(F l2 H6 _ hb2 (s5.trans s6) el2).2.1,_,_,_,rfl,(F l2 H6 _ hb2 (s5.trans s6) el2).2.2.1,(F l2 H6 _ hb2 (s5.trans s6) el2).2.2.2⟩⟩
      ·have s56:=s5.trans (Same.new (o:=.tup (bnd.map V.str ++ bs.map V.str)) hp6)
       exact ⟨x,_,p6,bnd ++ bs,rfl,rwx.mono (zC s56),zaI hfit' _ hpm,by omega,by omega,by rw [zc,List.map_append],hbl2,fun l2 H6 hl2 s6 el2=>⟨nm,l2,_,_,rfl,rfl,(F l2 H6 _ hb2 (s56.trans s6) el2).1,el2,(F l2 H6 _ hb2 (s56.trans s6) el2).2.1,_,_,_,rfl,(F l2 H6 _ hb2 (s56.trans s6) el2).2.2.1,(F l2 H6 _ hb2 (s56.trans s6) el2).2.2.2⟩⟩
   ·have hlast:¬ i + 1 = (zB r).length:=fun z=>c (decide_eq_true (congrArg V.int (show (i:Int) = (us.length:Int) - 1 by omega)))
    have hb2:bnd = (if i + 1 = (zB r).length then bnd ++ zcb r else bnd):=by rw [if_neg hlast]
    exact ⟨_,rfl,x,_,b,bnd,rfl,rwx,zaI hfit _ hpm,by omega,by omega,kH _ _ hb,by omega,fun l2 H6 hl2 s6 el2=>⟨nm,l2,_,_,rfl,rfl,(F l2 H6 _ hb2 s6 el2).1,el2,(F l2 H6 _ hb2 s6 el2).2.1,_,_,_,rfl,(F l2 H6 _ hb2 s6 el2).2.2.1,(F l2 H6 _ hb2 s6 el2).2.2.2⟩⟩
  ·obtain ⟨o4,o5,o6,rfl,kp,enm⟩:=h
   refine ⟨_,rfl,q nm H' nmH (fun c o e=>kp c o (zk e nmH) (s2 _ _ (s1 _ _ e))) ?_⟩
   rw [enm,hub,List.take_of_length_le (by rw [zga]; omega)]
theorem zg0:FnScope ["expression"] ["expression"] (zh zby):=⟨rfl,rfl,rfl,by decide +kernel,rfl,by decide +kernel,by decide +kernel⟩
theorem zg1 (F:Fun K "free_in" "free_in" zby f fd) (G_unbound:Have P w K mg base "unbound" k ["expression","bound"] (zjB 20)) (m_set:mg "set" = none) (m_sorted:mg "sorted" = none):FnOk P w K mg base CX0 (k + 1) f fd ["expression"] (zik):=by
 refine F.okQ zg0 (fun vs H Q E h=>?_) (fun cdv A outer s H vs Q E hr h=>?_)
 ·obtain ⟨v,r,rfl,_⟩:=h
  rfl
 obtain ⟨v,r,rfl,hv,hfit,hm,hh,q⟩:=h
 refine ⟨_,(zf (zr (zl (zcL rfl) rfl m_sorted PyProof.Rows.boot_sorted (za (Zu (zfs rfl) rfl m_set zij (za (zu G_unbound hr rfl (za (pv 0) (za (zt zb) zb))) zb)) zb)))),?_⟩
 refine ⟨_,rfl,zl0,fun p hp=>?_⟩
 have s1:=Same.new (o:=.tup []) hp
 have hul:=zcP [] r
 have hal:=L2.zf6 (unb [] r)
 refine ⟨v,r,p,[],rfl,hv.mono (zC s1),hfit,by omega,hh,zc,by decide,fun l H2 hl s2 el=>⟨l,unb [] r,rfl,SqL.of el,by omega,fun st hst=>⟨st,_,rfl,zc,by omega,fun o ss ho hp hs=>?_⟩⟩⟩
 have s3:=Same.new (o:=L2.SetH P w st (L2.allS (unb [] r))) hst
 have s4:=(s1.trans s2).trans s3
 exact q o ss _ (s4.free ho) (s4.trans (Same.new ho)) zc hs hp
def abcL:Str:=Str.ofString "abcdefghijklmnopqrstuvwxyz"
theorem zge (c:Nat):c∈abcL.cps.toList ↔ 97<=c/\c<=122:=by
 have e:abcL.cps.toList = (List.range 26).map (· + 97):=by decide +kernel
 rw [e,List.mem_map]
 constructor
 ·rintro ⟨i,hi,rfl⟩
  have:=List.mem_range.mp hi
  omega
 ·exact fun h=>⟨c - 97,List.mem_range.mpr (by omega),by omega⟩
def letB (c:Nat):Bool:=decide (c∈abcL.cps.toList)
def zZ:T->Bool
 | .txt z=>decide (1<=z.length) && (decide (z.length<=8) && z.cps.toList.all letB)
 | _=>false
theorem ZP {z:Str}:zZ (.txt z) = true ↔ Vr z:=by
 show (decide (1<=z.length) && (decide (z.length<=8) && z.cps.toList.all letB)) = true ↔ _
 rw [Bool.and_eq_true,Bool.and_eq_true,decide_eq_true_iff,decide_eq_true_iff,List.all_eq_true]
 refine ⟨fun h=>⟨h.1,h.2.1,fun c hc=>(zge c).mp (of_decide_eq_true (h.2.2 c hc))⟩,fun h=>⟨h.1,h.2.1,fun c hc=>decide_eq_true ((zge c).mpr (h.2.2 c hc))⟩⟩
theorem zba {t:T} (h:zZ t = true):∃ z,t = .txt z/\Vr z:=by
 cases t with
 | txt z=>exact ⟨z,rfl,ZP.mp h⟩
 | _=>cases h
def zbN:List T->Bool
 | []=>true
 | [t]=>zZ t
 | .txt x :: .txt y :: _=>zZ (.txt x) && (zZ (.txt y) && decide (x≠y))
 | _ :: _ :: _=>false
def RTs (H:Hp) (vs:List V) (ts:List T):Prop:=vs.length = ts.length/\∀ (i:Nat) (v:V) (t:T),vs[i]? = some v->ts[i]? = some t->RT H v t
theorem RTs.mono {H H':Hp} (s:Same H H') {vs:List V}{ts:List T} (h:RTs H vs ts):RTs H' vs ts:=⟨h.1,fun i v t a b=>(h.2 i v t a b).mono s⟩
def zdK:Sp:=fun vs H Q _=>∃ (v:V) (t:T),vs = [v]/\RT H v t/\t.Sm/\∀ H',Same H H'->Q (.bl (zZ t)) H'
def zfB:Sp:=fun vs H Q _=>∃ (a:Addr) (us:List V) (ts:List T),vs = [.ref a]/\H a = some (.tup us)/\RTs H us ts/\Sms ts/\ts.length<=2/\∀ H',Same H H'->Q (.bl (zbN ts)) H'
theorem zc7:FnScope ["thing"] ["thing"] (zh Z4):=⟨rfl,rfl,rfl,by decide +kernel,rfl,by decide +kernel,by decide +kernel⟩
theorem zc8 (F:Fun K "is_variable" "is_variable" Z4 f fd) (m_all:mg "all" = none) (m_isi:mg "isinstance" = none) (m_len:mg "len" = none) (m_str:mg "str" = none) (m_MOST_LETTERS:∃ t,mg "MOST_LETTERS" = some (.int 8 t)) (m_LETTERS:∃ t,mg "LETTERS" = some (.str abcL t)):FnOk P w K mg base CX0 (k + 1) f fd ["thing"] (zdK):=by
 refine F.okQ zc7 (fun vs H Q E h=>?_) (fun cdv A outer s H vs Q E hr h=>?_)
 ·obtain ⟨v,t,rfl,_⟩:=h
  rfl
 obtain ⟨v,t,rfl,rt,sm,q⟩:=h
 refine ⟨_,(zd (zG (PW.pt (zbe (ZH (Zm (zl ZR rfl m_isi zU (za (pv 0) (za (zbh rfl m_str zaQ) zb))))) (zaN (ZH (zcf zd9 zd9 ze (zl zD rfl m_len PySem.boot_len (za (pv 0) zb)) (Zp rfl m_MOST_LETTERS)))))) (zf (zr zan)) zo)
  (zf (zr (zl (ZS rfl) rfl m_all zbv (za (Zy [] [] rfl rfl (by decide +kernel) rfl (by decide +kernel) rfl (by decide +kernel) trivial rfl trivial (zeu (pv 0)) (fun C s H fp=>⟨Zx,(zP zeb (pv 0) (zcl rfl m_LETTERS) (by rfl))⟩)) zb))))),?_⟩
 cases rt with
 | non=>exact ⟨_,rfl,_,_,_,_,rfl,.non,zez,_,rfl,iteT (q _ (Same.refl _))⟩
 | bl b=>exact ⟨_,rfl,_,_,_,_,rfl,.bl b,zey,_,rfl,iteT (q _ (Same.refl _))⟩
 | num i=>exact ⟨_,rfl,_,_,_,_,rfl,.int i,zfY,_,rfl,iteT (q _ (Same.refl _))⟩
 | tup e _ _=>exact ⟨_,rfl,_,_,_,_,rfl,.tup e,zew,_,rfl,iteT (q _ (Same.refl _))⟩
 | lst e=>exact ⟨_,rfl,_,_,_,_,rfl,.lst e,zeA,_,rfl,iteT (q _ (Same.refl _))⟩
 | dic e=>exact ⟨_,rfl,_,_,_,_,rfl,.dK e,zeB,_,rfl,iteT (q _ (Same.refl _))⟩
 | txt z=>
 have hsm:z.length<=100000:=sm
 refine ⟨_,rfl,_,_,_,_,rfl,.str z,zex,_,rfl,iteF ?_⟩
 refine ⟨_,rfl,_,_,rfl,⟨Nat.le_trans hsm (by decide),rfl⟩,_,_,rfl,rfl,_,rfl,?_⟩
 by_cases h1:1<=z.length
 rotate_left
 ·rw [decide_eq_false (show ¬ (1:Int)<=(z.length:Int) by omega)]
  have hq:zZ (.txt z) = false:=by show (decide (1<=z.length) && _) = false; rw [decide_eq_false h1]; rfl
  rw [hq] at q
  exact iteF ⟨_,rfl,iteT (q _ (Same.refl _))⟩
 rw [decide_eq_true (show (1:Int)<=(z.length:Int) by omega)]
 refine iteT ⟨_,_,rfl,rfl,_,rfl,?_⟩
 by_cases h2:z.length<=8
 rotate_left
 ·rw [decide_eq_false (show ¬ (z.length:Int)<=8 by omega)]
  have hq:zZ (.txt z) = false:=by show (_ && (decide (z.length<=8) && _)) = false; rw [decide_eq_false h2]; simp
  rw [hq] at q
  exact iteT (q _ (Same.refl _))
 rw [decide_eq_true (show (z.length:Int)<=8 by omega)]
 refine iteF ?_
 have hq:zZ (.txt z) = z.cps.toList.all letB:=by show (decide (1<=z.length) && (decide (z.length<=8) && _)) = _; rw [decide_eq_true h1,decide_eq_true h2]; rfl
 rw [hq] at q
 have hsz:z.cps.size = z.length:=rfl
 dsimp only [zc2,tRet,tOp,tC,tCB,Zq,tNil]
 refine zff (z.cps.toList.map fun c=>V.bl (letB c)) (by rfl) (by rw [List.length_map]; simp) (by rw [hsz]; exact small (by omega)) (fun i c y H1 R hc hy s1 hR=>?_) (fun H1 D s1 hD=>?_)
 ·have hc':z.cps.toList[i]? = some c:=by simpa using hc
  rw [List.getElem?_map,hc'] at hy
  cases hy
  refine ⟨_,rfl,_,_,rfl,rfl,?_⟩
  rw [show (!(Builtin.Str.occurrences abcL ⟨#[c]⟩ 0 abcL.length 1).isEmpty) = letB c from StrLaws.found_one abcL c]
  exact hR _ (Same.refl _)
 ·refine ⟨D,z.cps.toList.map letB,rfl,SqL.of ?_,?_⟩
  ·rw [zc,List.map_map]; rfl
  ·rw [show ((z.cps.toList.map letB).all id) = z.cps.toList.all letB by rw [List.all_map]; rfl]
   exact q _ (s1.trans (Same.new hD))
theorem zaV:FnScope ["names"] ["names"] (zh Zb):=⟨rfl,rfl,rfl,by decide +kernel,rfl,by decide +kernel,by decide +kernel⟩
theorem zaW (F:Fun K "are_good_variables" "are_good_variables" Zb f fd) (G_is_variable:Have P w K mg base "is_variable" k ["thing"] (zdK)) (m_all:mg "all" = none) (m_len:mg "len" = none):FnOk P w K mg base CX0 (k + 1) f fd ["names"] (zfB):=by
 refine F.okQ zaV (fun vs H Q E h=>?_) (fun cdv A outer s H vs Q E hr h=>?_)
 ·obtain ⟨a,us,ts,rfl,_⟩:=h
  rfl
 obtain ⟨a,us,ts,rfl,ha,hrt,hsm,hl,q⟩:=h
 refine ⟨_,(zd (zG (ZH (Zm (zl (ZS rfl) rfl m_all zbv (za (Zy [] [] rfl rfl (by decide +kernel) rfl (by decide +kernel) rfl (by decide +kernel) trivial rfl trivial (zfS (pv 0)) (fun C s H fp=>⟨Zx,(zu G_is_variable hr rfl (za (pv 0) zb))⟩)) zb)))) (zf (zr zan)) zo)
  (zf (zr (zhe (zP zgA (zl zD rfl m_len PySem.boot_len (za (pv 0) zb)) ze (nomark _)) (Z0 (zP ziN (zx zy (pv 0) ze (fun _ _=>rfl)) (zx zy (pv 0) ze (fun _ _=>rfl)) (nomark _))))))),?_⟩
 have hul:=hrt.1
 dsimp only [zc2,tRet,tOp,tC,tCB,Zq,tNil,tB,tNot,tIfS,tSeq]
 refine zkK (K:=K) (ts.map fun t=>V.bl (zZ t)) (by rfl) (SqT.of ha) (by rw [List.length_map]; exact hul.symm) (Nat.le_trans (show us.length<=2 by omega) (by decide)) (fun i v y H1 R hv' hy s1 hR=>?_) (fun H1 D s1 hD=>?_)
 ·rw [List.getElem?_map] at hy
  obtain ⟨t,ht,rfl⟩:=Option.map_eq_some_iff.mp hy
  exact ⟨_,rfl,v,t,rfl,(hrt.2 i v t hv' ht).mono s1,zfi hsm t (List.mem_of_getElem? ht),fun H2 s2=>hR H2 s2⟩
 ·have s2:=s1.trans (Same.new (o:=.lst (ts.map fun t=>V.bl (zZ t))) hD)
  refine ⟨D,ts.map zZ,rfl,SqL.of (by rw [zc,List.map_map]; rfl),_,rfl,?_⟩
  have ha2:=s2 _ _ ha
  cases hall:(ts.map zZ).all id with
  | false=>
   have hq:zbN ts = false:=by
    match ts,hl with
    | [],_=>cases hall
    | [t],_=>simpa [zbN] using hall
    | [t,t2],_=>
     have hall':(zZ t && (zZ t2 && true)) = false:=hall
     rw [Bool.and_true] at hall'
     cases t with
     | txt x=>
      cases t2 with
      | txt y=>
       show (zZ (.txt x) && (zZ (.txt y) && _)) = false
       rw [← Bool.and_assoc,hall']; rfl
      | _=>rfl
     | _=>cases t2 <;> rfl
   rw [hq] at q
   exact iteT (q _ s2)
  | true=>
   refine iteF ⟨_,rfl,_,_,rfl,.inr ⟨_,SqT.of ha2,rfl⟩,_,_,rfl,rfl,_,rfl,?_⟩
   match ts,hl,hul,hrt,hall,q with
   | [],_,hul,_,_,q=>
    have:us.length = 0:=hul
    rw [this]
    exact iteT (q _ s2)
   | [t],_,hul,_,hall,q=>
    have:us.length = 1:=hul
    rw [this]
    have hv:zZ t = true:=by simpa using hall
    rw [show zbN [t] = zZ t by cases t <;> rfl,hv] at q
    exact iteT (q _ s2)
   | [t,t2],_,hul,hrt,hall,q=>
    have hlu:us.length = 2:=hul
    obtain ⟨v0,v1,rfl⟩:∃ a b,us = [a,b]:=match us,hlu with | [a,b],_=>⟨a,b,rfl⟩
    have hv:zZ t = true/\zZ t2 = true:=by simpa using hall
    obtain ⟨x,rfl,hx⟩:=zba hv.1
    obtain ⟨y,rfl,hy⟩:=zba hv.2
    have r0:=hrt.2 0 v0 _ rfl rfl
    have r1:=hrt.2 1 v1 _ rfl rfl
    cases r0
    cases r1
    rw [show zbN [.txt x,.txt y] = decide (x≠y) by show (zZ (.txt x) && (zZ (.txt y) && decide (x≠y))) = _; rw [hv.1,hv.2]; rfl] at q
    refine iteF ⟨_,rfl,a,_,0,_,rfl,rfl,SqT.of ha2,zH (j:=0) rfl,_,rfl,a,_,1,_,rfl,rfl,SqT.of ha2,zH (j:=1) rfl,rfl,?_⟩
    rw [show (!decide (V.str x = V.str y)) = decide (x≠y) by rw [Bool.eq_iff_iff]; simp]
    exact q _ s2
theorem zk8 {X:Cx} (hu:X.A.units + 64 < cLine):OpR X (compareOp .Eq) (fun x y H Q=>∃ (a b:Addr) (vs:List V),x = .ref a/\y = .ref b/\SqT X.K H a vs/\SqT X.K H b []/\Q (.bl vs.isEmpty) H):=by
 intro zp s σ H x y v u Q I rx ry h
 obtain ⟨a,b,vs,rfl,rfl,e,e2,q⟩:=h
 have hu0:X.A.units < cLine:=by omega
 cases rx
 cases ry
 obtain ⟨its,rv,p,_⟩:=I.tuple e
 obtain ⟨its2,rv2,p2,_⟩:=I.tuple e2
 have h2:its2 = []:=List.length_eq_zero_iff.mp rv2.length.symm
 subst h2
 have hb:((List.range (min its.toArray.size (#[]:Array Value).size)).all (fun _=>true) && its.toArray.size == (#[]:Array Value).size) = vs.isEmpty:=by
  have:=rv.length
  cases its with
  | nil=>rw [List.length_eq_zero_iff.mp (show vs.length = 0 from this)]; rfl
  | cons x r=>cases vs with
   | nil=>cases this
   | cons y l=>rfl
 have fin:EP X zp σ Q (.bool vs.isEmpty) s:=⟨.bl _,H,I,rfl,q⟩
 rw [← hb] at fin
 exact SeqAt.RcAt.tuples (e:=fun _=>true) p p2 hu0 (fun j h1 h2=>absurd h2 (Nat.not_lt_zero _)) _ _ _ _ fin
def woAt (z:Str):Option Wo:=zmg.find? fun d=>decide (woS d = z)
theorem zgf (d:Wo):woAt (woS d) = some d:=by cases d <;> rfl
theorem zab {d d':Wo} (h:woS d = woS d'):d = d':=by
 have:=congrArg woAt h
 rw [zgf,zgf] at this
 exact Option.some.inj this
theorem zgg (d:Wo) (h1:wLit d = false) (h2:wVar d = false) (h3:zbL d = false):valV kvsP (.inr (woS d)) = some (.int (pcnt d)):=by
 cases d
 case lit=>simp [wLit] at h1
 case var=>simp [wVar] at h2
 case list=>simp [zbL] at h3
 all_goals rfl
theorem zil:∀ kv∈kvsP,∃ d,kv.1 = Sum.inr (woS d):=by
 have:kvsP.map (·.1) = [Wo.letw,.ifw,.add,.sub,.mul,.div,.same,.less,.join,.item,.count,.figs,.each,.over,.look,.elsew,.cry].map fun d=>(Sum.inr (woS d):Key):=rfl
 intro kv hkv
 have h:=List.mem_map_of_mem (f:=(·.1)) hkv
 rw [this] at h
 obtain ⟨d,_,hd⟩:=List.mem_map.mp h
 exact ⟨d,hd.symm⟩
theorem zim {z:Str} (h:∀ d,z≠woS d):valV kvsP (.inr z) = none:=by
 unfold valV
 rw [List.find?_eq_none.mpr fun kv hkv=>?_]
 ·rfl
 ·obtain ⟨d,hd⟩:=zil kv hkv
  rw [hd]
  simp only [decide_eq_true_eq]
  exact fun e=>h d (Sum.inr.inj e).symm
inductive F1:T->List T->Prop where
 | lit {x:T}:zQ x = true->F1 (.tup [.txt "lit",x]) []
 | var {s:Str}:Vr s->F1 (.tup [.txt "var",.txt s]) []
 | op {d:Wo}{bs:List Str}{ts:List T}:wLit d = false->wVar d = false->bs.length = bcnt d->(∀ z∈bs,Vr z)->bs.Nodup->Cnt d ts.length->F1 (.tup (.txt (woS d) :: (bs.map T.txt ++ ts))) ts
theorem F1.tup {t:T}{ps:List T} (h:F1 t ps):∃ z ts,t = .tup (.txt z :: ts):=by cases h <;> exact ⟨_,_,rfl⟩
theorem F1.inv {z:Str}{ts ps:List T} (h:F1 (.tup (.txt z :: ts)) ps):∃ d,z = woS d/\((d = .lit/\ps = []/\∃ x,ts = [x]/\zQ x = true)\/(d = .var/\ps = []/\∃ s,ts = [.txt s]/\Vr s)\/(wLit d = false/\wVar d = false/\∃ bs:List Str,ts = bs.map T.txt ++ ps/\bs.length = bcnt d/\(∀ z∈bs,Vr z)/\bs.Nodup/\Cnt d ps.length)):=by
 generalize he:T.tup (.txt z :: ts) = t at h
 cases h with
 | lit hx=>
  injection he with he
  injection he with h1 h2
  injection h1 with h1
  exact ⟨.lit,h1,.inl ⟨rfl,rfl,_,h2,hx⟩⟩
 | var hs=>
  injection he with he
  injection he with h1 h2
  injection h1 with h1
  exact ⟨.var,h1,.inr (.inl ⟨rfl,rfl,_,h2,hs⟩)⟩
 | op a b c d e f=>
  injection he with he
  injection he with h1 h2
  injection h1 with h1
  exact ⟨_,h1,.inr (.inr ⟨a,b,_,h2,c,d,e,f⟩)⟩
def zcQ:Sp:=fun vs H Q _=>∃ (v:V) (t:T),vs = [v]/\RT H v t/\t.Sm/\∀ (b:Bool) (H':Hp),Same H H'->(b = true->∃ ts,F1 t ts)->(b = false->∀ ts,¬ F1 t ts)->Q (.bl b) H'
def zkg:T->Bool
 | .txt _=>true
 | _=>false
theorem RT.ty {K:PySem.W.Frag}{H:Hp}{v:V}{t:T} (h:RT H v t):∃ A,TyOf K H v (.type A)/\isi A "str" = some (zkg t):=by
 cases h with
 | non=>exact ⟨_,.non,zez⟩
 | bl b=>exact ⟨_,.bl b,zey⟩
 | num i=>exact ⟨_,.int i,zfY⟩
 | txt z=>exact ⟨_,.str z,zex⟩
 | tup e _ _=>exact ⟨_,.tup e,zew⟩
 | lst e=>exact ⟨_,.lst e,zeA⟩
 | dic e=>exact ⟨_,.dK e,zeB⟩
theorem zb0 {ts:List T} (hl:ts.length<=2):zbN ts = true ↔ ∃ bs:List Str,ts = bs.map T.txt/\(∀ z∈bs,Vr z)/\bs.Nodup:=by
 match ts,hl with
 | [],_=>exact ⟨fun _=>⟨[],rfl,(fun z h=>nomatch h),List.nodup_nil⟩,fun _=>rfl⟩
 | [t],_=>
  rw [show zbN [t] = zZ t by cases t <;> rfl]
  constructor
  ·intro h
   obtain ⟨z,rfl,hz⟩:=zba h
   exact ⟨[z],rfl,fun y hy=>by rw [List.mem_singleton.mp hy]; exact hz,by simp⟩
  ·rintro ⟨bs,e,hv,_⟩
   match bs,e with
   | [z],e=>cases e; exact ZP.mpr (hv z (by simp))
 | [t,t2],_=>
  constructor
  ·intro h
   cases t with
   | txt x=>
    cases t2 with
    | txt y=>
     have h:(zZ (.txt x) && (zZ (.txt y) && decide (x≠y))) = true:=h
     rw [Bool.and_eq_true,Bool.and_eq_true,decide_eq_true_iff] at h
     refine ⟨[x,y],rfl,fun z hz=>?_,by simp [h.2.2]⟩
     simp only [List.mem_cons,List.not_mem_nil,or_false] at hz
     rcases hz with rfl | rfl
     ·exact ZP.mp h.1
     ·exact ZP.mp h.2.1
    | _=>cases h
   | _=>cases t2 <;> cases h
  ·rintro ⟨bs,e,hv,hn⟩
   match bs,e with
   | [x,y],e=>
    cases e
    show (zZ (.txt x) && (zZ (.txt y) && decide (x≠y))) = true
    rw [ZP.mpr (hv x (by simp)),ZP.mpr (hv y (by simp)),decide_eq_true (by simpa using hn)]
    rfl
theorem zcR:FnScope ["thing","word"] ["thing"] (zh za3):=⟨rfl,rfl,rfl,by decide +kernel,rfl,by decide +kernel,by decide +kernel⟩
theorem zfC (F:Fun K "has_form" "has_form" za3 f fd) (G_are_good_variables:Have P w K mg base "are_good_variables" k ["names"] (zfB)) (G_variables_of:Have P w K mg base "variables_of" k ["expression"] (zcp)) (G_binding_count:Have P w K mg base "binding_count" k ["word"] (zbM)) (G_is_variable:Have P w K mg base "is_variable" k ["thing"] (zdK)) (G_is_worth:Have P w K mg base "is_worth" k ["thing"] (zbE)) (m_isi:mg "isinstance" = none) (m_len:mg "len" = none) (m_str:mg "str" = none) (m_tuple:mg "tuple" = none) (m_MOST_LISTED:∃ t,mg "MOST_LISTED" = some (.int 8 t)) {g_PARTS:Addr} (m_PARTS:mg "PARTS" = some (.ref g_PARTS)) (d_PARTS:MD P w K g_PARTS kvsP):FnOk P w K mg base CX0 (k + 1) f fd ["thing"] (zcQ):=by
 refine F.okQ zcR (fun vs H Q E h=>?_) (fun cdv A outer s H vs Q E hr h=>?_)
 ·obtain ⟨v,t,rfl,_⟩:=h
  rfl
 obtain ⟨v,t,rfl,rt,sm,q⟩:=h
 refine ⟨_,(zd (zG (PW.pt (zbe (ZH (Zm (zl ZR rfl m_isi zU (za (pv 0) (za (zbh rfl m_tuple zaC) zb))))) (zbe (zm (zk8 hr.units) (pv 0) (zt zb) (nomark _)) (zaN (ZH (Zm (zl ZR rfl m_isi zU (za (zx zy (pv 0) ze (fun _ _=>rfl)) (za (zbh rfl m_str zaQ) zb))))))))) (zf (zr zan)) zo)
  (zd (zn (i:=1) zcR.nd rfl (Or.inl rfl) (zx zy (pv 0) ze (fun _ _=>rfl)))
  (zd (zG (zm Za (pv 1) zi (nomark _)) (zf (zr (ZV (zP Za (zl zD rfl m_len PySem.boot_len (za (pv 0) zb)) ze (nomark _)) (Z0 (zu G_is_worth hr rfl (za (zx zy (pv 0) ze (fun _ _=>rfl)) zb)))))) zo)
  (zd (zG (zm Za (pv 1) zi (nomark _)) (zf (zr (ZV (zP Za (zl zD rfl m_len PySem.boot_len (za (pv 0) zb)) ze (nomark _)) (Z0 (zu G_is_variable hr rfl (za (zx zy (pv 0) ze (fun _ _=>rfl)) zb)))))) zo)
  (zd (zG (zm Za (pv 1) zi (nomark _)) (zf (zr (zP zd9 (zl zD rfl m_len PySem.boot_len (za (pv 0) zb)) (zw Zi ze (Zp rfl m_MOST_LISTED)) (nomark _)))) zo)
  (zd (zG (PW.pt (zbe (zm zh4 (pv 1) (Zr (v:=.ref g_PARTS) rfl m_PARTS rfl) (by rfl)) (zaN (zm ziN (zl zD rfl m_len PySem.boot_len (za (pv 0) zb)) (zw Zi (zw Zi ze (zu G_binding_count hr rfl (za (pv 1) zb))) (zx zma (Zr (v:=.ref g_PARTS) rfl m_PARTS rfl) (pv 1) (fun _ _=>rfl))) (nomark _))))) (zf (zr zan)) zo)
  (zf (zr (zu G_are_good_variables hr rfl (za (zu G_variables_of hr rfl (za (pv 0) zb)) zb)))))))))),?_⟩
 have no:(∀ ts,t≠.tup ts)->∀ H',Same H H'->Q (.bl false) H':=fun hn H' s=>q false H' s (fun z=>nomatch z) (fun _ ps hf=>by obtain ⟨z,ts,e⟩:=hf.tup; exact hn _ e)
 cases rt with
 | non=>exact ⟨_,rfl,_,_,_,_,rfl,.non,zhM,_,rfl,iteT (no (fun ts z=>nomatch z) _ (Same.refl _))⟩
 | bl b=>exact ⟨_,rfl,_,_,_,_,rfl,.bl b,zhL,_,rfl,iteT (no (fun ts z=>nomatch z) _ (Same.refl _))⟩
 | num i=>exact ⟨_,rfl,_,_,_,_,rfl,.int i,zj8,_,rfl,iteT (no (fun ts z=>nomatch z) _ (Same.refl _))⟩
 | txt i=>exact ⟨_,rfl,_,_,_,_,rfl,.str i,zj9,_,rfl,iteT (no (fun ts z=>nomatch z) _ (Same.refl _))⟩
 | lst e=>exact ⟨_,rfl,_,_,_,_,rfl,.lst e,zhN,_,rfl,iteT (no (fun ts z=>nomatch z) _ (Same.refl _))⟩
 | dic e=>exact ⟨_,rfl,_,_,_,_,rfl,.dK e,zhO,_,rfl,iteT (no (fun ts z=>nomatch z) _ (Same.refl _))⟩
 | @tup a us ts ea hul hat=>
 clear no
 refine ⟨_,rfl,_,_,_,_,rfl,.tup ea,zhK,_,rfl,iteF ?_⟩
 refine ⟨_,rfl,zl0,fun e he=>?_⟩
 have s1:=Same.new (o:=.tup []) he
 have ea1:=s1 _ _ ea
 have ee:upd H e (.tup []) e = some (.tup []):=zc
 generalize upd H e (.tup []) = H1 at s1 ea1 ee
 refine ⟨a,e,us,rfl,rfl,SqT.of ea1,SqT.of ee,_,rfl,?_⟩
 have sm:ts.length<=100000/\Sms ts:=sm
 cases ts with
 | nil=>
  have hu0:us = []:=List.length_eq_zero_iff.mp hul
  subst hu0
  exact iteT (q false _ s1 (fun z=>nomatch z) (fun _ ps hf=>by obtain ⟨z,ts,e⟩:=hf.tup; injection e with e; cases e))
 | cons t0 ts=>
 cases us with
 | nil=>cases hul
 | cons v0 us=>
 have hul':us.length = ts.length:=by simpa using hul
 have r0:RT H v0 t0:=hat 0 v0 t0 rfl rfl
 have hrt:RTs H us ts:=⟨hul',fun i v t h1 h2=>hat (i + 1) v t (by simpa using h1) (by simpa using h2)⟩
 clear hat
 refine iteF ?_
 obtain ⟨A0,ty0,is0⟩:=(r0.mono s1).ty (K:=K)
 refine ⟨_,rfl,a,_,0,_,rfl,rfl,SqT.of ea1,zH (j:=0) rfl,_,_,_,_,rfl,ty0,is0,_,rfl,?_⟩
 cases hx:zkg t0 with
 | false=>
  exact iteT (q false _ s1 (fun z=>nomatch z) (fun _ ps hf=>by obtain ⟨z,ts,e⟩:=hf.tup; injection e with e; injection e with e _; rw [e] at hx; cases hx))
 | true=>
 obtain ⟨z,rfl⟩:∃ z,t0 = .txt z:=by
  cases t0 with
  | txt z=>exact ⟨z,rfl⟩
  | _=>cases hx
 cases r0
 refine iteF ?_
 refine ⟨_,rfl,a,_,0,_,rfl,rfl,SqT.of ea1,zH (j:=0) rfl,?_⟩
 dsimp only [Z7]
 have q':∀ (b:Bool) (H':Hp),Same H1 H'->(b = true->∃ ps,F1 (.tup (.txt z :: ts)) ps)->(b = false->∀ ps,¬ F1 (.tup (.txt z :: ts)) ps)->Q (.bl b) H':=fun b H' s h1 h2=>q b H' (s1.trans s) h1 h2
 have hrt1:=hrt.mono s1
 by_cases hz:∃ d,z = woS d
 rotate_left
 ·have hz':∀ d,z≠woS d:=fun d e=>hz ⟨d,e⟩
  refine ⟨_,rfl,rfl,_,rfl,?_⟩
  rw [show decide (V.str z = V.str (Str.ofString "lit")) = false from decide_eq_false fun e=>hz' .lit (V.str.inj e)]
  refine iteF ⟨_,rfl,rfl,_,rfl,?_⟩
  rw [show decide (V.str z = V.str (Str.ofString "var")) = false from decide_eq_false fun e=>hz' .var (V.str.inj e)]
  refine iteF ⟨_,rfl,rfl,_,rfl,?_⟩
  rw [show decide (V.str z = V.str (Str.ofString "list")) = false from decide_eq_false fun e=>hz' .list (V.str.inj e)]
  refine iteF ⟨_,rfl,g_PARTS,kvsP,.inr z,rfl,rfl,d_PARTS,_,rfl,?_⟩
  rw [zim hz']
  exact iteT (q' false _ (Same.refl _) (fun z=>nomatch z) (fun _ ps hf=>by obtain ⟨d,e,_⟩:=hf.inv; exact hz' d e))
 obtain ⟨d,rfl⟩:=hz
 refine ⟨_,rfl,rfl,_,rfl,?_⟩
 rw [show Str.ofString "lit" = "lit" from rfl,zmI]
 have smts:Sms ts:=sm.2.2
 have len2:us.length≠1->decide (V.int (((V.str (woS d) :: us).length:Nat):Int) = V.int 2) = false:=fun h=>decide_eq_false fun e=>by
  injection e with e
  rw [List.length_cons] at e
  omega
 have no:(∀ ps,¬ F1 (.tup (.txt (woS d) :: ts)) ps)->∀ H',Same H1 H'->Q (.bl false) H':=fun h H' s=>q' false H' s (fun z=>nomatch z) (fun _=>h)
 cases hlit:wLit d with
 | true=>
  obtain rfl:d = .lit:=by cases d <;> first | rfl | cases hlit
  refine iteT ⟨_,rfl,_,_,rfl,.inr ⟨_,SqT.of ea1,rfl⟩,rfl,_,rfl,?_⟩
  have inv:∀ ps,F1 (.tup (.txt (woS .lit) :: ts)) ps->∃ x,ts = [x]/\zQ x = true:=fun ps hf=>by
   obtain ⟨d,e,h⟩:=hf.inv
   obtain rfl:=zab e
   rcases h with ⟨_,_,h⟩ | ⟨h,_⟩ | ⟨h,_⟩
   ·exact h
   ·cases h
   ·cases h
  by_cases hl:us.length = 1
  ·obtain ⟨v1,rfl⟩:∃ a,us = [a]:=match us,hl with | [a],_=>⟨a,rfl⟩
   obtain ⟨t1,rfl⟩:∃ a,ts = [a]:=match ts,hul' with | [a],_=>⟨a,rfl⟩
   refine iteT ⟨_,rfl,a,_,1,_,rfl,rfl,SqT.of ea1,zH (j:=1) rfl,v1,t1,rfl,hrt1.2 0 _ _ rfl rfl,smts.1,fun H2 s2=>?_⟩
   refine q' _ H2 s2 (fun h=>⟨[],.lit h⟩) (fun h ps hf=>?_)
   obtain ⟨x,e,hx⟩:=inv ps hf
   cases e
   rw [h] at hx
   cases hx
  ·rw [len2 hl]
   refine iteF (no (fun ps hf=>?_) _ (Same.refl _))
   obtain ⟨x,rfl,_⟩:=inv ps hf
   exact hl hul'
 | false=>
 refine iteF ⟨_,rfl,rfl,_,rfl,?_⟩
 rw [show Str.ofString "var" = "var" from rfl,zmh]
 cases hvar:wVar d with
 | true=>
  obtain rfl:d = .var:=by cases d <;> first | rfl | cases hvar
  refine iteT ⟨_,rfl,_,_,rfl,.inr ⟨_,SqT.of ea1,rfl⟩,rfl,_,rfl,?_⟩
  have inv:∀ ps,F1 (.tup (.txt (woS .var) :: ts)) ps->∃ s,ts = [.txt s]/\Vr s:=fun ps hf=>by
   obtain ⟨d,e,h⟩:=hf.inv
   obtain rfl:=zab e
   rcases h with ⟨h,_⟩ | ⟨_,_,h⟩ | ⟨_,h,_⟩
   ·cases h
   ·exact h
   ·cases h
  by_cases hl:us.length = 1
  ·obtain ⟨v1,rfl⟩:∃ a,us = [a]:=match us,hl with | [a],_=>⟨a,rfl⟩
   obtain ⟨t1,rfl⟩:∃ a,ts = [a]:=match ts,hul' with | [a],_=>⟨a,rfl⟩
   refine iteT ⟨_,rfl,a,_,1,_,rfl,rfl,SqT.of ea1,zH (j:=1) rfl,v1,t1,rfl,hrt1.2 0 _ _ rfl rfl,smts.1,fun H2 s2=>?_⟩
   refine q' _ H2 s2 (fun h=>?_) (fun h ps hf=>?_)
   ·obtain ⟨z,rfl,hz⟩:=zba h
    exact ⟨[],.var hz⟩
   ·obtain ⟨z,e,hz⟩:=inv ps hf
    cases e
    rw [ZP.mpr hz] at h
    cases h
  ·rw [len2 hl]
   refine iteF (no (fun ps hf=>?_) _ (Same.refl _))
   obtain ⟨x,rfl,_⟩:=inv ps hf
   exact hl hul'
 | false=>
 have inv:∀ ps,F1 (.tup (.txt (woS d) :: ts)) ps->∃ bs:List Str,ts = bs.map T.txt ++ ps/\bs.length = bcnt d/\(∀ z∈bs,Vr z)/\bs.Nodup/\Cnt d ps.length:=fun ps hf=>by
  obtain ⟨d',e,h⟩:=hf.inv
  obtain rfl:=zab e
  rcases h with ⟨h,_⟩ | ⟨h,_⟩ | ⟨_,_,h⟩
  ·rw [h] at hlit; cases hlit
  ·rw [h] at hvar; cases hvar
  ·exact h
 refine iteF ⟨_,rfl,rfl,_,rfl,?_⟩
 rw [show Str.ofString "list" = "list" from rfl,zkf]
 cases hli:zbL d with
 | true=>
  have hb0:bcnt d = 0:=by cases d <;> first | rfl | (simp [zbL] at hli; done)
  refine iteT ⟨_,rfl,_,_,rfl,.inr ⟨_,SqT.of ea1,rfl⟩,_,_,rfl,rfl,_,_,rfl,rfl,?_⟩
  show Q (V.bl (decide ((((V.str (woS d) :: us).length:Nat):Int)<=1 + 8))) _
  refine q' _ _ (Same.refl _) (fun h=>⟨ts,?_⟩) (fun h ps hf=>?_)
  ·have h:=of_decide_eq_true h
   rw [List.length_cons] at h
   exact F1.op (bs:=[]) hlit hvar hb0.symm (fun z h=>nomatch h) List.nodup_nil ⟨fun _=>by omega,fun z=>by rw [hli] at z; cases z⟩
  ·obtain ⟨bs,rfl,h1,_,_,h5⟩:=inv ps hf
   have h:=of_decide_eq_false h
   rw [List.length_cons] at h
   have h8:=h5.1 hli
   rw [List.length_append,List.length_map] at hul'
   omega
 | false=>
 refine iteF ⟨_,rfl,g_PARTS,kvsP,.inr (woS d),rfl,rfl,d_PARTS,_,rfl,?_⟩
 rw [zgg d hlit hvar hli]
 refine iteF ⟨_,rfl,_,_,rfl,.inr ⟨_,SqT.of ea1,rfl⟩,?_⟩
 refine ⟨_,rfl,d,rfl,_,_,rfl,rfl,_,rfl,g_PARTS,kvsP,.inr (woS d),_,rfl,rfl,d_PARTS,zgg d hlit hvar hli,_,_,rfl,rfl,rfl,_,rfl,?_⟩
 show if (!decide (V.int (((V.str (woS d) :: us).length:Nat):Int) = V.int (1 + (bcnt d:Int) + (pcnt d:Int)))) = true then _ else _
 by_cases hl:us.length = bcnt d + pcnt d
 ·have en:(!decide (V.int (((V.str (woS d) :: us).length:Nat):Int) = V.int (1 + (bcnt d:Int) + (pcnt d:Int)))) = false:=by rw [decide_eq_true (congrArg V.int (by rw [List.length_cons,hl]; omega))]; rfl
  rw [en]
  have hb2:=zdI d
  have esp:us = us.take (bcnt d) ++ us.drop (bcnt d):=(List.take_append_drop _ _).symm
  have ht2:(ts.take (bcnt d)).length<=2:=by rw [List.length_take]; omega
  have ea2:H1 a = some (.tup (V.str (woS d) :: (us.take (bcnt d) ++ us.drop (bcnt d)))):=by rw [← esp]; exact ea1
  refine iteF ⟨_,rfl,a,d,us.take (bcnt d),us.drop (bcnt d),rfl,ea2,by rw [List.length_take]; omega,fun p H2 s2 ep=>⟨p,us.take (bcnt d),ts.take (bcnt d),rfl,ep,⟨by rw [List.length_take,List.length_take]; omega,fun i v t h1 h2=>?_⟩,?_,ht2,fun H3 s3=>q' _ H3 (s2.trans s3) (fun h=>?_) (fun h ps hf=>?_)⟩⟩
  ·rw [List.getElem?_take] at h1 h2
   split at h1
   ·rename_i hi
    rw [if_pos hi] at h2
    exact (hrt1.2 i v t h1 h2).mono s2
   ·cases h1
  ·have:∀ (n:Nat) (l:List T),Sms l->Sms (l.take n):=fun n=>by
    induction n with
    | zero=>intro l _; rw [List.take_zero]; trivial
    | succ n ih=>
     intro l h
     cases l with
     | nil=>trivial
     | cons x r=>exact ⟨h.1,ih r h.2⟩
   exact this _ _ smts
  ·obtain ⟨bs,e,hv,hn⟩:=(zb0 ht2).mp h
   have hbl:bs.length = bcnt d:=by
    have:=congrArg List.length e
    rw [List.length_take,List.length_map] at this
    omega
   refine ⟨ts.drop (bcnt d),?_⟩
   have:=F1.op (d:=d) (bs:=bs) (ts:=ts.drop (bcnt d)) hlit hvar hbl hv hn ⟨fun z=>(by rw [hli] at z; cases z),fun _=>(by rw [List.length_drop]; omega)⟩
   rw [← e,List.take_append_drop] at this
   exact this
  ·obtain ⟨bs,rfl,h1,h2,h3,_⟩:=inv ps hf
   rw [List.take_left' (by rw [List.length_map]; exact h1)] at h
   rw [(zb0 (by rw [List.length_map]; omega)).mpr ⟨bs,rfl,h2,h3⟩] at h
   cases h
 ·have en:(!decide (V.int (((V.str (woS d) :: us).length:Nat):Int) = V.int (1 + (bcnt d:Int) + (pcnt d:Int)))) = true:=by
   rw [decide_eq_false fun e=>hl (by injection e with e; rw [List.length_cons] at e; omega)]; rfl
  rw [en]
  refine iteT (no (fun ps hf=>?_) _ (Same.refl _))
  obtain ⟨bs,rfl,h1,_,_,h5⟩:=inv ps hf
  have h6:=h5.2 hli
  rw [List.length_append,List.length_map] at hul'
  omega
theorem zjC {x:Str} (h:zao x = true):Signs x:=fun c hc=>by
 have:=List.all_eq_true.mp h c hc
 unfold zbW at this
 simp only [Bool.and_eq_true,decide_eq_true_eq] at this
 exact ⟨this.1,this.2.1,this.2.2.1,this.2.2.2⟩
mutual
theorem zkh:∀ (t:T) (lv:Int),zaS t lv = true->∃ x:W,t = x.toT/\x.Ok/\(x.depth:Int)<=max lv 0
 | .num i,lv,h=>⟨.num i,rfl,(of_decide_eq_true h:-(10 ^ 60) < i/\i < 10 ^ 60),by show ((0:Nat):Int)<=_; omega⟩
 | .txt z,lv,h=>by
  have h:(decide (z.length<=400) && zao z) = true:=h
  rw [Bool.and_eq_true,decide_eq_true_iff] at h
  exact ⟨.txt z,rfl,⟨h.1,zjC h.2⟩,by show ((0:Nat):Int)<=_; omega⟩
 | .tup ts,lv,h=>by
  have h:((decide (ts.length<=60) && decide (0 < lv)) && fitsA ts (lv - 1)) = true:=h
  rw [Bool.and_eq_true,Bool.and_eq_true,decide_eq_true_iff,decide_eq_true_iff] at h
  obtain ⟨ws,rfl,ok,dp⟩:=fits_ws ts (lv - 1) h.2
  have hl:=h.1.1
  rw [zbH] at hl
  refine ⟨.lst ws,by simp only [W.toT],⟨hl,ok⟩,?_⟩
  have:=h.1.2
  show ((1 + depths ws:Nat):Int)<=_
  omega
 | .non,lv,h=>nomatch h
 | .bl _,lv,h=>nomatch h
 | .lst,lv,h=>nomatch h
 | .dic,lv,h=>nomatch h
theorem fits_ws:∀ (ts:List T) (lv:Int),fitsA ts lv = true->∃ ws:List W,ts = toTs ws/\Oks ws/\(depths ws:Int)<=max lv 0
 | [],lv,h=>⟨[],by rw [toTs],trivial,by show ((0:Nat):Int)<=_; omega⟩
 | t :: r,lv,h=>by
  have h:(zaS t lv && fitsA r lv) = true:=h
  rw [Bool.and_eq_true] at h
  obtain ⟨x,rfl,ok,dp⟩:=zkh t lv h.1
  obtain ⟨ws,rfl,oks,dps⟩:=fits_ws r lv h.2
  refine ⟨x :: ws,by rw [toTs],⟨ok,oks⟩,?_⟩
  rw [depths]
  omega
end
theorem zk9 {t:T} (h:zQ t = true):∃ x:W,t = x.toT/\x.Ok/\x.size<=1000/\x.depth<=12:=by
 have h:(zaS t 12 && decide (t.size<=1000)) = true:=h
 rw [Bool.and_eq_true,decide_eq_true_iff] at h
 obtain ⟨x,rfl,ok,dp⟩:=zkh t 12 h.1
 exact ⟨x,rfl,ok,by rw [← zdA]; exact h.2,by omega⟩
mutual
theorem zin:∀ x:W,x.Ok->zeE x = true
 | .num i,h=>decide_eq_true ⟨h.1,h.2⟩
 | .txt z,h=>decide_eq_true h.1
 | .lst ws,h=>by
  have h1:ws.length<=60:=h.1
  have h2:Oks ws:=h.2
  simp only [zeE,decide_eq_true h1,fitss_ok ws h2,Bool.and_self]
theorem fitss_ok:∀ ws:List W,Oks ws->fitsWs ws = true
 | [],_=>rfl
 | x :: r,h=>by simp only [fitsWs,zin x h.1,fitss_ok r h.2,Bool.and_self]
end
theorem zfD {x:W} (h:x.Ok) (hs:x.size<=1000) (hd:x.depth<=12):zQ x.toT = true:=by
 rw [zfl (zjl x h)]
 unfold zkW
 rw [zin x h,decide_eq_true hs,decide_eq_true (show (x.depth:Int)<=12 by omega)]
 rfl
theorem RT.toRW {H:Hp}{v:V}{t:T} (h:RT H v t):∀ {x:W},t = x.toT->RW H v x:=by
 induction h with
 | non=>intro x e; cases x <;> simp only [W.toT] at e <;> cases e
 | bl b=>intro x e; cases x <;> simp only [W.toT] at e <;> cases e
 | lst _=>intro x e; cases x <;> simp only [W.toT] at e <;> cases e
 | dic _=>intro x e; cases x <;> simp only [W.toT] at e <;> cases e
 | num i=>
  intro x e
  cases x with
  | num j=>simp only [W.toT] at e; cases e; exact .num _
  | _=>simp only [W.toT] at e; cases e
 | txt i=>
  intro x e
  cases x with
  | txt j=>simp only [W.toT] at e; cases e; exact .txt _
  | _=>simp only [W.toT] at e; cases e
 | @tup a vs ts ea hl _ ih=>
  intro x e
  cases x with
  | lst ws=>
   simp only [W.toT] at e
   injection e with e
   subst e
   refine .lst ea (by rw [hl,zbH]) fun i v w hv hw=>?_
   exact ih i v w.toT hv (by rw [zbG,List.getElem?_map,hw]; rfl) rfl
  | num j=>simp only [W.toT] at e; cases e
  | txt j=>simp only [W.toT] at e; cases e
def Rl.toT (r:Rl):T:=r.toW.toT
theorem zgh:∀ ps:List Rl,rlWs ps = ps.map Rl.toW
 | []=>by rw [rlWs]; rfl
 | p :: r=>by rw [rlWs,zgh r]; rfl
theorem zac (x:W):(Rl.lit x).toT = .tup [.txt "lit",x.toT]:=by unfold Rl.toT; rw [Rl.toW]; simp only [W.toT,toTs]
theorem zap (s:Str):(Rl.var s).toT = .tup [.txt "var",.txt s]:=by unfold Rl.toT; rw [Rl.toW]; simp only [W.toT,toTs]
theorem zaX (d:Wo) (bs:List Str) (ps:List Rl):(Rl.op d bs ps).toT = .tup (.txt (woS d) :: (bs.map T.txt ++ ps.map Rl.toT)):=by
 unfold Rl.toT
 rw [Rl.toW]
 simp only [W.toT,toTs,zbG,List.map_append,List.map_map,zgh]
 congr 3
theorem zla {r:Rl} (h:r.Gd):F1 r.toT ((zB r).map Rl.toT):=by
 cases r with
 | lit x=>rw [Rl.Gd] at h; rw [zac]; exact .lit (zfD h.1 h.2.1 h.2.2)
 | var s=>rw [Rl.Gd] at h; rw [zap]; exact .var h
 | op d bs ps=>
  rw [Rl.Gd] at h
  obtain ⟨⟨a,b,c,e,f,g⟩,_⟩:=h
  rw [zaX]
  exact .op a b c e f (by rw [List.length_map]; exact g)
theorem F1.fn {t:T}{ps qs:List T} (h:F1 t ps) (h2:F1 t qs):ps = qs:=by
 obtain ⟨z,ts,rfl⟩:=h.tup
 obtain ⟨d,e,h⟩:=h.inv
 obtain ⟨d',e',h2⟩:=h2.inv
 obtain rfl:=zab (e.symm.trans e')
 rcases h with ⟨hd,rfl,_⟩ | ⟨hd,rfl,_⟩ | ⟨a1,a2,bs,rfl,a3,_⟩
 ·rcases h2 with ⟨_,rfl,_⟩ | ⟨_,rfl,_⟩ | ⟨b1,_⟩
  ·rfl
  ·rfl
  ·rw [hd] at b1; cases b1
 ·rcases h2 with ⟨_,rfl,_⟩ | ⟨_,rfl,_⟩ | ⟨_,b1,_⟩
  ·rfl
  ·rfl
  ·rw [hd] at b1; cases b1
 ·rcases h2 with ⟨hd,_⟩ | ⟨hd,_⟩ | ⟨_,_,bs',e2,b3,_⟩
  ·rw [hd] at a1; cases a1
  ·rw [hd] at a2; cases a2
  ·exact (List.append_inj e2 (by rw [List.length_map,List.length_map,a3,b3])).2
inductive FA:List (T × Int)->Nat->Prop where
 | nil:FA [] 0
 | cons {lv:Int}{ps:List (T × Int)}{n:Nat} (r:Rl):r.Gd->lv + r.high<=12->FA ps n->FA ((r.toT,lv) :: ps) (r.many + n)
theorem FA.app {a b:List (T × Int)}{n m:Nat} (h:FA a n) (g:FA b m):FA (a ++ b) (n + m):=by
 induction h with
 | nil=>rw [Nat.zero_add]; exact g
 | cons r h1 h2 _ ih=>rw [Nat.add_assoc]; exact .cons r h1 h2 ih
theorem FA.split:∀ {a b:List (T × Int)}{n:Nat},FA (a ++ b) n->∃ n1 n2,FA a n1/\FA b n2/\n = n1 + n2
 | [],b,n,h=>⟨0,n,.nil,h,by omega⟩
 | p :: a,b,n,h=>by
  cases h with
  | cons r h1 h2 h3=>
   obtain ⟨n1,n2,g1,g2,e⟩:=FA.split h3
   exact ⟨r.many + n1,n2,.cons r h1 h2 g1,g2,by omega⟩
theorem FA.map {lv:Int}:∀ {ps:List Rl},(∀ p∈ps,p.Gd/\lv + p.high<=12)->FA (ps.map fun p=>(p.toT,lv)) (manys ps)
 | [],_=>by rw [manys]; exact .nil
 | p :: r,h=>by
  rw [manys]
  exact .cons p (h p (by simp)).1 (h p (by simp)).2 (FA.map fun q hq=>h q (List.mem_cons_of_mem _ hq))
theorem FA.unmap {lv:Int}:∀ {ts:List T}{n:Nat},FA (ts.map fun t=>(t,lv)) n->∃ ps:List Rl,ts = ps.map Rl.toT/\Gds ps/\n = manys ps/\∀ p∈ps,lv + p.high<=12
 | [],n,h=>by cases h; exact ⟨[],rfl,by rw [Gds]; trivial,by rw [manys],fun p h=>nomatch h⟩
 | t :: r,n,h=>by
  rw [List.map_cons] at h
  generalize he:(t,lv) = q at h
  cases h with
  | cons p h1 h2 h3=>
   cases he
   obtain ⟨ps,rfl,g,rfl,hh⟩:=FA.unmap h3
   refine ⟨p :: ps,rfl,by rw [Gds]; exact ⟨h1,g⟩,by rw [manys],fun q hq=>?_⟩
   rcases List.mem_cons.mp hq with rfl | hq
   ·exact h2
   ·exact hh q hq
theorem zgi {n:Nat}:∀ {ps:List Rl},(∀ p∈ps,1 + p.high<=n)->highs ps<=n
 | [],_=>by rw [highs]; omega
 | p :: r,h=>by
  rw [highs]
  have h1:=h p (by simp)
  have h2:=zgi fun q hq=>h q (List.mem_cons_of_mem _ hq)
  omega
theorem FA.step {t:T}{ts:List T}{lv:Int}{n:Nat} (h0:0<=lv) (h:F1 t ts):FA [(t,lv)] n ↔ (lv<=12/\∃ m,FA (ts.map fun t=>(t,lv + 1)) m/\n = 1 + m):=by
 constructor
 ·intro g
  generalize he:(t,lv) = q at g
  cases g with
  | cons r g1 g2 g3=>
   cases he
   cases g3
   refine ⟨by omega,manys (zB r),?_,by rw [← zfz]; omega⟩
   rw [h.fn (zla g1),List.map_map]
   refine FA.map fun p hp=>⟨zaI g1 p hp,?_⟩
   have:=zco hp
   have:=zfA r
   omega
 ·rintro ⟨hlv,m,g,rfl⟩
  have fin:∀ r:Rl,t = r.toT->r.Gd->lv + r.high<=12->r.many = 1 + m->FA [(t,lv)] (1 + m):=fun r e g1 g2 g3=>by
   rw [e,← g3]
   exact .cons r g1 g2 .nil
  cases h with
  | lit hx=>
   obtain ⟨x,rfl,ok,sz,dp⟩:=zk9 hx
   cases g
   exact fin (.lit x) (zac x).symm (by rw [Rl.Gd]; exact ⟨ok,sz,dp⟩) (by rw [Rl.high]; omega) (by rw [Rl.many])
  | var hs=>
   rename_i s
   cases g
   exact fin (.var s) (zap s).symm (by rw [Rl.Gd]; exact hs) (by rw [Rl.high]; omega) (by rw [Rl.many])
  | op a b c d' e f=>
   rename_i d bs
   obtain ⟨ps,rfl,g1,rfl,hh⟩:=FA.unmap g
   rw [List.length_map] at f
   refine fin (.op d bs ps) (zaX d bs ps).symm (by rw [Rl.Gd]; exact ⟨⟨a,b,c,d',e,f⟩,g1⟩) ?_ (by rw [Rl.many])
   rw [Rl.high]
   have:highs ps<=(12 - lv).toNat:=zgi fun p hp=>by have:=hh p hp; omega
   omega
def Formed (t:T):Prop:=∃ r:Rl,t = r.toT/\r.Gd/\r.high<=12/\r.many<=60
def GA (ps:List (T × Int)) (whole:Int):Prop:=∃ n:Nat,FA ps n/\whole + n<=60
theorem zg2 {t:T}:GA [(t,0)] 0 ↔ Formed t:=by
 constructor
 ·rintro ⟨n,h,hn⟩
  generalize he:(t,(0:Int)) = q at h
  cases h with
  | cons r g1 g2 g3=>
   cases he
   cases g3
   exact ⟨r,rfl,g1,by omega,by omega⟩
 ·rintro ⟨r,rfl,g1,g2,g3⟩
  exact ⟨r.many + 0,.cons r g1 (by omega) .nil,by omega⟩
theorem GA.pop {ps:List (T × Int)}{t:T}{lv whole:Int} (h:GA (ps ++ [(t,lv)]) whole):whole + 1<=60/\lv<=12/\∃ ts,F1 t ts:=by
 obtain ⟨n,g,hn⟩:=h
 obtain ⟨n1,n2,_,g2,e⟩:=g.split
 generalize he:(t,lv) = q at g2
 cases g2 with
 | cons r g1 g3 g4=>
  cases he
  have:=zfz r
  exact ⟨by omega,by omega,_,zla g1⟩
theorem GA.go {ps:List (T × Int)}{t:T}{ts:List T}{lv whole:Int} (h0:0<=lv) (hlv:lv<=12) (h:F1 t ts):GA (ps ++ [(t,lv)]) whole ↔ GA (ps ++ ts.map fun t=>(t,lv + 1)) (whole + 1):=by
 constructor
 ·rintro ⟨n,g,hn⟩
  obtain ⟨n1,n2,g1,g2,e⟩:=g.split
  obtain ⟨_,m,g3,e2⟩:=(FA.step h0 h).mp g2
  exact ⟨n1 + m,g1.app g3,by omega⟩
 ·rintro ⟨n,g,hn⟩
  obtain ⟨n1,n2,g1,g2,e⟩:=g.split
  exact ⟨n1 + (1 + n2),g1.app ((FA.step h0 h).mpr ⟨hlv,n2,g2,rfl⟩),by omega⟩
theorem F1.len {t:T}{ts:List T} (h:F1 t ts):ts.length<=8:=by
 cases h with
 | lit _=>exact Nat.zero_le _
 | var _=>exact Nat.zero_le _
 | op a b c h4 e f=>
  rename_i d bs
  cases hw:zbL d with
  | true=>exact f.1 hw
  | false=>
   rw [f.2 hw]
   cases d <;> decide
theorem zg3 (a b:List T):tnodes (a ++ b) = tnodes a + tnodes b:=by
 induction a with
 | nil=>simp [tnodes]
 | cons x r ih=>simp only [List.cons_append,tnodes,ih]; omega
theorem F1.nodes {t:T}{ts:List T} (h:F1 t ts):tnodes ts < t.nodes:=by
 cases h with
 | lit _=>simp only [tnodes,T.nodes]; omega
 | var _=>simp only [tnodes,T.nodes]; omega
 | op a b c d e f=>simp only [T.nodes,tnodes,zg3]; omega
theorem Sms.app {a b:List T} (h:Sms (a ++ b)):Sms b:=by
 induction a with
 | nil=>exact h
 | cons x r ih=>exact ih h.2
theorem F1.sms {t:T}{ts:List T} (h:F1 t ts) (sm:t.Sm):Sms ts:=by
 cases h with
 | lit _=>trivial
 | var _=>trivial
 | op a b c d e f=>exact Sms.app sm.2.2
theorem RTs.app {H:Hp}{vs:List V}{as bs:List T} (h:RTs H vs (as ++ bs)):∃ us ws,vs = us ++ ws/\us.length = as.length/\RTs H ws bs:=by
 have hl:=h.1
 rw [List.length_append] at hl
 refine ⟨vs.take as.length,vs.drop as.length,(List.take_append_drop _ _).symm,by rw [List.length_take]; omega,by rw [List.length_drop]; omega,fun i v t hv ht=>h.2 (as.length + i) v t ?_ ?_⟩
 ·rw [List.getElem?_drop] at hv; exact hv
 ·rw [List.getElem?_append_right (by omega),Nat.add_sub_cancel_left]; exact ht
theorem zmK {H0 H:Hp}{v:V}{t:T}{ts:List T}{Q:VK}{E:XK} (s0:Same H0 H) (hv:RT H0 v t) (hf:F1 t ts) (q:∀ (l:Addr) (us:List V) (H':Hp),H l = none->Same H H'->H' l = some (.lst us)->RTs H0 us ts->Q (.ref l) H'):zaa [v] H Q E:=by
 cases hf with
 | lit _=>
  cases hv with
  | @tup a vs _ ea hl at'=>
   obtain ⟨v0,v1,rfl⟩:∃ a b,vs = [a,b]:=match vs,hl with | [a,b],_=>⟨a,b,rfl⟩
   have r0:=at' 0 v0 _ rfl rfl
   cases r0
   exact ⟨a,.lit,[],[v1],rfl,s0 _ _ ea,.inl rfl,fun l H' hl s e=>q l [] H' hl s e ⟨rfl,fun i v w e=>by simp at e⟩⟩
 | var _=>
  cases hv with
  | @tup a vs _ ea hl at'=>
   obtain ⟨v0,v1,rfl⟩:∃ a b,vs = [a,b]:=match vs,hl with | [a,b],_=>⟨a,b,rfl⟩
   have r0:=at' 0 v0 _ rfl rfl
   cases r0
   exact ⟨a,.var,[],[v1],rfl,s0 _ _ ea,.inl rfl,fun l H' hl s e=>q l [] H' hl s e ⟨rfl,fun i v w e=>by simp at e⟩⟩
 | op h1 h2 h3 h4 h5 h6=>
  rename_i d bs
  cases hv with
  | @tup a vs _ ea hl at'=>
   cases vs with
   | nil=>cases hl
   | cons v0 vs=>
   have r0:=at' 0 v0 _ rfl rfl
   cases r0
   have hr:RTs H0 vs (bs.map T.txt ++ ts):=⟨by simpa using hl,fun i v t a b=>at' (i + 1) v t (by simpa using a) (by simpa using b)⟩
   obtain ⟨us,ws,rfl,hul,hr⟩:=hr.app
   rw [List.length_map] at hul
   have hb:(wLit d || wVar d) = false:=by rw [h1,h2]; rfl
   refine ⟨a,d,us,ws,rfl,s0 _ _ ea,.inr ⟨hb,by omega⟩,fun l H' hl s e=>q l ws H' hl s ?_ hr⟩
   rw [hb] at e
   exact e
end
end D
namespace L2
open PySem
theorem zgj {fr:List Nat}{te:TE}{σ:St}{H:Hp}{F:Addr->Hp->List V->Prop}{n:Int} (Pv:Nat->List V->Hp->Prop) (h0:Pv 0 [] H) (hlen:∀ i us H1,Pv i us H1->us.length = i) (hn:n.toNat<=1000000)
  (step:∀ (i:Nat) (us:List V) (H1:Hp) (R:VK),i < n.toNat->Pv i us H1->(∀ y H2,Pv (i + 1) (us ++ [y]) H2->R y H2)->te (some (.int (0 + (i:Int))) :: frees fr σ) H1 R)
  (fin:∀ (us:List V) (H1:Hp) (D:Addr),Pv n.toNat us H1->H1 D = none->F D H1 us):
  ∃ W:Nat->Nat->List V->Hp->Prop,(∃ m,W 0 m [] H)/\∀ i m us H,W i m us H->us.length<=sizeLine /\
   (((Itr 0 n.toNat).stop i H/\∀ D,H D = none->F D H us) \/
    ((Itr 0 n.toNat).go i H/\∀ v H',(Itr 0 n.toNat).yld i H v H'->if true = true then te (some v :: frees fr σ) H' fun y H3=>∃ m',m' < m/\W (i + 1) m' (us ++ [y]) H3 else ∃ m',m' < m/\W (i + 1) m' us H')):=by
 refine ⟨fun i m us H1=>i<=n.toNat/\m = n.toNat - i/\Pv i us H1,⟨_,Nat.zero_le _,rfl,h0⟩,fun i m us H1 hW=>?_⟩
 obtain ⟨hi,hm,hu⟩:=hW
 have hz:(1000000:Nat)<=sizeLine:=by decide
 refine ⟨by rw [hlen _ _ _ hu]; omega,?_⟩
 by_cases hlt:i < n.toNat
 ·refine .inr ⟨hlt,fun v H' hy=>?_⟩
  obtain ⟨rfl,rfl⟩:=hy
  refine iteT ?_
  exact step i us H' _ hlt hu fun y H2 p2=>⟨n.toNat - (i + 1),by omega,by omega,rfl,p2⟩
 ·have e:i = n.toNat:=by omega
  subst e
  exact .inl ⟨Nat.le_refl _,fun D hD=>fin us H1 D hu hD⟩
theorem zjD {K:PySem.W.Frag}{fr:List Nat}{te:TE}{σ:St}{H:Hp}{F:Addr->Hp->List V->Prop}{a:Addr}{vs:List V} (Pv:Nat->List V->Hp->Prop) (hz:vs.length<=sizeLine) (h0:Pv 0 [] H) (hlen:∀ i us H1,Pv i us H1->us.length = i) (hS:∀ i us H1,Pv i us H1->SqL K H1 a vs)
  (step:∀ (i:Nat) (v:V) (us:List V) (H1:Hp) (R:VK),vs[i]? = some v->Pv i us H1->(∀ y H2,Pv (i + 1) (us ++ [y]) H2->R y H2)->te (some v :: frees fr σ) H1 R)
  (fin:∀ (us:List V) (H1:Hp) (D:Addr),Pv vs.length us H1->H1 D = none->F D H1 us):
  ∃ W:Nat->Nat->List V->Hp->Prop,(∃ m,W 0 m [] H)/\∀ i m vs H,W i m vs H->vs.length<=sizeLine /\
   (((Itl K a).stop i H/\∀ D,H D = none->F D H vs) \/
    ((Itl K a).go i H/\∀ v H',(Itl K a).yld i H v H'->if true = true then te (some v :: frees fr σ) H' fun y H3=>∃ m',m' < m/\W (i + 1) m' (vs ++ [y]) H3 else ∃ m',m' < m/\W (i + 1) m' vs H')):=by
 refine ⟨fun i m us H1=>i<=vs.length/\m = vs.length - i/\Pv i us H1,⟨_,Nat.zero_le _,rfl,h0⟩,fun i m us H1 hW=>?_⟩
 obtain ⟨hi,hm,hu⟩:=hW
 have sq:=hS _ _ _ hu
 refine ⟨by rw [hlen _ _ _ hu]; omega,?_⟩
 by_cases hlt:i < vs.length
 ·refine .inr ⟨⟨vs,vs[i],sq,List.getElem?_eq_getElem hlt⟩,fun v H' hy=>?_⟩
  obtain ⟨rfl,hv⟩:=hy
  have hv:=hv vs sq
  refine iteT ?_
  exact step i v us H' _ hv hu fun y H2 p2=>⟨vs.length - (i + 1),by omega,by omega,rfl,p2⟩
 ·have e:i = vs.length:=by omega
  subst e
  exact .inl ⟨⟨vs,sq,by omega⟩,fun D hD=>fin us H1 D hu hD⟩
end L2
namespace D
open PySem L2
def zdL:Sp:=fun vs H Q _=>∃ (v:V) (t:T),vs = [v]/\RT H v t/\t.Sm/\∀ (b:Bool) (H':Hp),Same H H'->(b = true->Formed t)->(b = false->¬ Formed t)->Q (.bl b) H'
structure FmP (t:T) (v:V) (l:Addr) (H:Hp) (m:Nat) (σ':St) (H':Hp) (vs:List V) (ps:List (T × Int)) (whole:Int):Prop where
 el:H' l = some (.lst vs)
 st:StR H H' vs ps
 mn:m = nds ps
 w0:0<=whole
 w1:whole<=60
 len:(vs.length:Int)<=1 + 8 * whole
 sms:∀ p∈ps,p.1.Sm/\0<=p.2
 ga:GA ps whole ↔ Formed t
 sH:Same H H'
section
variable {P:Program}{w:World}{K:PySem.W.Frag}{mg:Str->Option Value}{base:Heap}{f:Addr}{fd:FuncData}{k n:Nat}{ANoName AHouse ANoWorth ANoRule ANoThing zN ANoStep ANoRow AForgeError:Addr}
theorem Zt:FnScope ["thing","waiting","whole","pair","expression","level"] ["thing"] (zh zaF):=⟨rfl,rfl,rfl,by decide +kernel,rfl,by decide +kernel,by decide +kernel⟩
theorem zeT (F:Fun K "is_formed" "is_formed" zaF f fd) (G_parts_of:Have P w K mg base "parts_of" k ["expression"] (zaa)) (G_has_form:Have P w K mg base "has_form" k ["thing"] (zcQ)) (m_len:mg "len" = none) (m_MOST_MANY:∃ t,mg "MOST_MANY" = some (.int 60 t)) (m_MOST_NESTING:∃ t,mg "MOST_NESTING" = some (.int 12 t)):FnOk P w K mg base CX0 (k + 1) f fd ["thing"] (zdL):=by
 refine F.okQ Zt (fun vs H Q E h=>?_) (fun cdv A outer s H vs Q E hr h=>?_)
 ·obtain ⟨v,t,rfl,_⟩:=h
  rfl
 obtain ⟨v,t,rfl,rt,sm,q⟩:=h
 refine ⟨_,(zd (zn (i:=1) Zt.nd rfl (Or.inl rfl) (zL (za (zt (za (pv 0) (za ze zb))) zb)))
  (zd (zn (i:=2) Zt.nd rfl (Or.inl rfl) ze)
  (zd (zbl PassesOwn.never (zm zea (zl zD rfl m_len PySem.boot_len (za (pv 1) zb)) ze (nomark _)) (zd (zn (i:=3) Zt.nd rfl (Or.inl rfl) (zdg PySem.F.plainAttrs_list PySem.F.slot_list_pop PySem.F.type_list_pop zj7 (pv 1)))
  (zd (zn (i:=4) Zt.nd rfl (Or.inl rfl) (zx zy (pv 3) ze (fun _ _=>rfl)))
  (zd (zn (i:=5) Zt.nd rfl (Or.inr rfl) (zx zy (pv 3) ze (fun _ _=>rfl)))
  (zd (zd8 (i:=2) Zt.nd rfl (Or.inl rfl) ze (zlL zhi))
  (zd (zG (PW.pt (zbe (zm zea (pv 2) (Zp rfl m_MOST_MANY) (nomark _)) (zbe (zm zea (pv 5) (Zp rfl m_MOST_NESTING) (nomark _)) (zaN (ZH (Zm (zu G_has_form hr rfl (za (pv 4) zb)))))))) (zf (zr zan)) zo)
  (zf (zq (zav PySem.F.plainAttrs_list PySem.F.slot_list_extend PySem.F.type_list_extend zcF (pv 1) (za (Zy [5] ["level"] rfl rfl (by decide +kernel) rfl (by decide +kernel) rfl (by decide +kernel) ⟨rfl,trivial⟩ rfl ⟨⟨rfl,rfl,Or.inr (Or.inl rfl),(by show (some NameKind.cell:Option NameKind)≠some .local; decide),⟨_,rfl⟩⟩,trivial⟩ (zaz (zu G_parts_of hr rfl (za (pv 4) zb))) (fun C s H fp=>⟨Zx,(zt (za (pv 0) (za (zw Zi (pv 1) ze) zb)))⟩)) zb))))))))))
  (zf (zr zan))))),?_⟩
 refine ⟨_,rfl,zl2,fun a ha=>?_⟩
 refine ⟨zl1,fun l hl=>?_⟩
 have sa:=Same.new (o:=.tup [v,.int 0]) ha
 have sl:=Same.new (o:=.lst [.ref a]) hl
 have s1:=sa.trans sl
 have hlH:H l = none:=sa.free hl
 refine ⟨fun m σ' H'=>∃ (vs:List V) (ps:List (T × Int)) (whole:Int) (o3 o4 o5:Option V),σ' = [some v,some (.ref l),some (.int whole),o3,o4,o5]/\FmP t v l H m σ' H' vs ps whole,
  ⟨_,[.ref a],[(t,0)],0,none,none,none,rfl,zc,StR.one (p:=(t,0)) (sl _ _ zc) rt,rfl,Int.le_refl _,by decide,by simp,fun p hp=>by rw [List.mem_singleton.mp hp]; exact ⟨sm,Int.le_refl _⟩,zg2,s1⟩,fun m σ' H' hW=>?_⟩
 obtain ⟨vs,ps,whole,o3,o4,o5,rfl,⟨hlv,hst,hm,hw0,hw1,hvl,hsm,hga,sH⟩⟩:=hW
 refine ⟨_,rfl,_,_,rfl,.inl ⟨_,SqL.of hlv,rfl⟩,_,_,rfl,rfl,_,rfl,?_⟩
 refine ite2 (fun c=>?_) (fun c=>?_)
 rotate_left
 ·have hv0:vs = []:=by
   have:¬ (0:Int) < vs.length:=fun z=>c (decide_eq_true z)
   exact List.length_eq_zero_iff.mp (by omega)
  have hp0:ps = []:=List.length_eq_zero_iff.mp (by rw [← hst.len,hv0]; rfl)
  subst hp0
  exact q true _ sH (fun _=>hga.mp ⟨0,.nil,by omega⟩) (fun z=>nomatch z)
 have c1:(0:Int) < vs.length:=of_decide_eq_true c
 refine ⟨_,fun _ _ h=>h,?_⟩
 rcases List.eq_nil_or_concat vs with rfl | ⟨vs',vl,e⟩
 ·simp at c1
 rw [List.concat_eq_append] at e
 subst e
 rcases List.eq_nil_or_concat ps with rfl | ⟨ps',p,e⟩
 ·have:=hst.len; simp at this
 rw [List.concat_eq_append] at e
 subst e
 obtain ⟨hst',ap,u,rfl,hap,rtu⟩:=hst.front
 obtain ⟨t1,n1⟩:=p
 have ed:(vs' ++ [V.ref ap]).dropLast = vs':=List.dropLast_concat
 obtain ⟨smp,hn0⟩:=hsm (t1,n1) (by simp)
 have smp:t1.Sm:=smp
 have hn0:0<=n1:=hn0
 refine ⟨_,rfl,.inl ⟨rfl,_,SqL.of hlv⟩,l,_,.ref ap,rfl,rfl,hlv,by simp,?_⟩
 rw [ed]
 have t1':=zak (o:=.lst vs') hlv
 have sH1:Same H (upd H' l (.lst vs')):=zbF sH hlH
 have hap1:upd H' l (.lst vs') ap = some (.tup [u,.int n1]):=t1' _ _ hap
 have el1:upd H' l (.lst vs') l = some (.lst vs'):=zc
 generalize upd H' l (.lst vs') = H1 at t1' sH1 hap1 el1
 refine ⟨_,rfl,ap,_,0,u,rfl,rfl,SqT.of hap1,rfl,?_⟩
 refine ⟨_,rfl,ap,_,1,.int n1,rfl,rfl,SqT.of hap1,rfl,?_⟩
 refine ⟨_,rfl,_,_,rfl,rfl,?_⟩
 have no:∀ H',Same H1 H'->¬ GA (ps' ++ [(t1,n1)]) whole->Q (.bl false) H':=fun H' s h=>q false _ (sH1.trans s) (fun z=>nomatch z) (fun _ z=>h (hga.mpr z))
 refine ⟨_,rfl,_,_,rfl,rfl,_,rfl,?_⟩
 refine ite2 (fun c2=>?_) (fun c2=>?_)
 ·have:(60:Int) < whole + 1:=of_decide_eq_true c2
  exact no _ (Same.refl _) fun h=>by have:=h.pop.1; omega
 have hw60:¬ (60:Int) < whole + 1:=fun z=>c2 (decide_eq_true z)
 refine ⟨_,rfl,_,_,rfl,rfl,_,rfl,?_⟩
 refine ite2 (fun c3=>?_) (fun c3=>?_)
 ·have:(12:Int) < n1:=of_decide_eq_true c3
  exact no _ (Same.refl _) fun h=>by have:=h.pop.2.1; omega
 have hn12:¬ (12:Int) < n1:=fun z=>c3 (decide_eq_true z)
 refine ⟨_,rfl,u,t1,rfl,rtu.mono sH1,smp,fun b H2 s2 hT hF=>⟨_,rfl,?_⟩⟩
 cases b with
 | false=>exact iteT (no _ s2 fun h=>by obtain ⟨ts,hf⟩:=h.pop.2.2; exact hF rfl ts hf)
 | true=>
 obtain ⟨ts,hf⟩:=hT rfl
 refine iteF ?_
 have sH2:=sH1.trans s2
 have hl2:=s2 _ _ el1
 refine ⟨_,rfl,.inl ⟨rfl,_,SqL.of hl2⟩,?_⟩
 dsimp only [Zq,tNil]
 refine ⟨_,rfl,?_⟩
 dsimp only [tNil,List.cons_append,List.nil_append]
 refine zmK sH2 rtu hf fun lp us H3 hlp s3 elp hus=>⟨lp,rfl,⟨us,SqL.of elp⟩,?_⟩
 have hul:=hus.1
 have h8:=hf.len
 refine zjD (K:=K) (vs:=us) (fun i xs H4=>Same H3 H4/\xs.length = i/\StR H H4 xs ((ts.take i).map fun t=>(t,n1 + 1))) (Nat.le_trans (show us.length<=60 by omega) (by decide)) ⟨Same.refl _,rfl,StR.nil⟩ (fun i us H4 h=>h.2.1) (fun i us H4 h=>SqL.of (h.1 _ _ elp)) (fun i x xs H4 R hx hP hR=>?_) (fun xs H4 D hP hD=>?_)
 ·obtain ⟨s4,hxl,hsk⟩:=hP
  have hi:i < us.length:=(List.getElem?_eq_some_iff.mp hx).1
  have hki:ts[i]? = some ts[i]:=List.getElem?_eq_getElem (by omega)
  refine ⟨_,rfl,_,rfl,_,_,rfl,rfl,zl2,fun a5 ha5=>?_⟩
  have s5:=Same.new (o:=.tup [x,.int (n1 + 1)]) ha5
  refine hR _ _ ⟨s4.trans s5,by rw [List.length_append,hxl]; rfl,?_⟩
  rw [zaw hki,List.map_append]
  exact (hsk.mono (ZF s5)).app (StR.one (p:=(ts[i],n1 + 1)) zc (hus.2 i x _ hx hki))
 ·obtain ⟨s4,hxl,hsk⟩:=hP
  have s5:=Same.new (o:=.lst xs) hD
  have sA:=s3.trans (s4.trans s5)
  rw [List.take_of_length_le (by omega)] at hsk
  have hl4:upd H4 D (.lst xs) l = some (.lst vs'):=sA _ _ hl2
  have eD:upd H4 D (.lst xs) D = some (.lst xs):=zc
  have hskD:=hsk.mono (ZF s5)
  generalize upd H4 D (.lst xs) = H5 at s5 sA hl4 eD hskD
  have t6:=zak (o:=.lst (vs' ++ xs)) hl4
  have hvl':(vs'.length:Int) + 1<=1 + 8 * whole:=by rw [List.length_append] at hvl; exact hvl
  have hnn:nds (ps' ++ ts.map fun t=>(t,n1 + 1)) < nds (ps' ++ [(t1,n1)]):=by
   have:=hf.nodes
   rw [zdy,zdy,zh0]
   simp only [nds]
   omega
  refine ⟨l,D,vs',xs,rfl,rfl,hl4,eD,Nat.le_trans (show vs'.length + xs.length<=1000 by omega) (by decide),?_⟩
  refine ⟨nds (ps' ++ ts.map fun t=>(t,n1 + 1)),by rw [hm]; exact hnn,vs' ++ xs,ps' ++ ts.map (fun t=>(t,n1 + 1)),whole + 1,_,_,_,rfl,zc,?_,rfl,by omega,by omega,?_,?_,?_,?_⟩
  ·exact (((hst'.mono t1').mono (ZF (s2.trans sA))).mono t6).app (hskD.mono t6)
  ·rw [List.length_append]; omega
  ·intro p hp
   rcases List.mem_append.mp hp with hp | hp
   ·exact hsm p (List.mem_append_left _ hp)
   ·obtain ⟨p',hp',rfl⟩:=List.mem_map.mp hp
    exact ⟨zfi (hf.sms smp) p' hp',by show 0<=n1 + 1; omega⟩
  ·rw [← hga]
   exact (GA.go hn0 (by omega) hf).symm
  ·exact zbF (sH2.trans sA) hlH
theorem zgk (b:Bool):∀ (ps:List Rl) (i:Nat) (p:Rl),ps[i]? = some p->p.rep<=reps b ps/\(b = true->i + 1 = ps.length->p.rep + 1<=reps b ps)
 | [q],0,p,h=>by
  cases h
  rw [reps]
  exact ⟨by omega,fun hb _=>by rw [hb]; exact Nat.le_refl _⟩
 | q :: r :: l,0,p,h=>by
  cases h
  rw [reps]
  exact ⟨by omega,fun _ h=>by simp at h⟩
 | q :: r :: l,i + 1,p,h=>by
  have:=zgk b (r :: l) i p (by simpa using h)
  rw [reps]
  refine ⟨by omega,fun hb hl=>?_⟩
  have:=this.2 hb (by simpa using hl)
  omega
 | [q],i + 1,p,h=>by simp at h
theorem zgl {b:Bool}{d:Nat}:∀ {ps:List Rl},(∀ (j:Nat) (p:Rl),ps[j]? = some p->p.rep + (if b = true/\j + 1 = ps.length then 1 else 0)<=d)->reps b ps<=d
 | [],_=>by rw [reps]; omega
 | [p],h=>by
  have:=h 0 p rfl
  rw [reps]
  cases b with
  | true=>rw [if_pos ⟨rfl,rfl⟩] at this; simp only [if_true]; exact this
  | false=>rw [if_neg (fun z=>by cases z.1)] at this; simp only [Bool.false_eq_true,if_false]; exact this
 | p :: q :: r,h=>by
  rw [reps]
  have h1:=h 0 p rfl
  have h2:=zgl (b:=b) (d:=d) (ps:=q :: r) fun j p' hp=>by
   have:=h (j + 1) p' (by simpa using hp)
   by_cases hc:b = true/\j + 1 = (q :: r).length
   ·rw [if_pos hc]
    rw [if_pos ⟨hc.1,by rw [List.length_cons (a:=p)]; omega⟩] at this
    exact this
   ·rw [if_neg hc]
    omega
  omega
def zjE (n:Nat):Sp:=fun vs H Q _=>∃ (v:V) (r:Rl),vs = [v]/\RW H v r.toW/\r.Gd/\r.high < n/\∀ H':Hp,Same H H'->Q (.int r.rep) H'
mutual
theorem W.toT_inj:∀ {x y:W},x.toT = y.toT->x = y
 | .num i,y,h=>by cases y <;> simp only [W.toT] at h <;> cases h; rfl
 | .txt i,y,h=>by cases y <;> simp only [W.toT] at h <;> cases h; rfl
 | .lst ws,y,h=>by
  cases y with
  | lst zs=>simp only [W.toT] at h; injection h with h; rw [toTs_inj h]
  | num _=>simp only [W.toT] at h; cases h
  | txt _=>simp only [W.toT] at h; cases h
theorem toTs_inj:∀ {xs ys:List W},toTs xs = toTs ys->xs = ys
 | [],ys,h=>by cases ys with
  | nil=>rfl
  | cons y r=>simp only [toTs] at h; cases h
 | x :: xs,ys,h=>by
  cases ys with
  | nil=>simp only [toTs] at h; cases h
  | cons y r=>
   simp only [toTs] at h
   injection h with h1 h2
   rw [W.toT_inj h1,toTs_inj h2]
end
theorem zgm:∀ {a b:List Str},a.map T.txt = b.map T.txt->a = b
 | [],b,h=>by cases b with
  | nil=>rfl
  | cons _ _=>cases h
 | x :: a,b,h=>by
  cases b with
  | nil=>cases h
  | cons y b=>
   rw [List.map_cons,List.map_cons] at h
   injection h with h1 h2
   injection h1 with h1
   rw [h1,zgm h2]
mutual
theorem Rl.toT_inj:∀ {r q:Rl},r.Gd->q.Gd->r.toT = q.toT->r = q
 | .lit x,q,g,g2,h=>by
  cases q with
  | lit y=>
   rw [zac,zac] at h
   injection h with h
   injection h with _ h
   injection h with h _
   rw [W.toT_inj h]
  | var s=>rw [zac,zap] at h; injection h with h; injection h with h _; injection h with h; exact absurd (zab (d:=.lit) (d':=.var) h) (fun z=>nomatch z)
  | op d bs ps=>
   rw [zac,zaX] at h
   injection h with h
   injection h with h _
   injection h with h
   rw [Rl.Gd] at g2
   have:=g2.1.1
   rw [← zab (d:=.lit) (d':=d) h] at this
   cases this
 | .var s,q,g,g2,h=>by
  cases q with
  | var y=>
   rw [zap,zap] at h
   injection h with h
   injection h with _ h
   injection h with h _
   injection h with h
   rw [h]
  | lit x=>rw [zac,zap] at h; injection h with h; injection h with h _; injection h with h; exact absurd (zab (d:=.var) (d':=.lit) h) (fun z=>nomatch z)
  | op d bs ps=>
   rw [zap,zaX] at h
   injection h with h
   injection h with h _
   injection h with h
   rw [Rl.Gd] at g2
   have:=g2.1.2.1
   rw [← zab (d:=.var) (d':=d) h] at this
   cases this
 | .op d bs ps,q,g,g2,h=>by
  rw [Rl.Gd] at g
  cases q with
  | lit x=>
   rw [zac,zaX] at h
   injection h with h
   injection h with h _
   injection h with h
   have:=g.1.1
   rw [zab (d:=d) (d':=.lit) h] at this
   cases this
  | var s=>
   rw [zap,zaX] at h
   injection h with h
   injection h with h _
   injection h with h
   have:=g.1.2.1
   rw [zab (d:=d) (d':=.var) h] at this
   cases this
  | op d' bs' ps'=>
   rw [Rl.Gd] at g2
   rw [zaX,zaX] at h
   injection h with h
   injection h with h1 h2
   injection h1 with h1
   obtain rfl:=zab h1
   obtain ⟨h3,h4⟩:=List.append_inj h2 (by rw [List.length_map,List.length_map,g.1.2.2.1,g2.1.2.2.1])
   rw [zgm h3,rls_inj g.2 g2.2 h4]
theorem rls_inj:∀ {ps qs:List Rl},Gds ps->Gds qs->ps.map Rl.toT = qs.map Rl.toT->ps = qs
 | [],qs,_,_,h=>by cases qs with
  | nil=>rfl
  | cons _ _=>cases h
 | p :: ps,qs,g,g2,h=>by
  cases qs with
  | nil=>cases h
  | cons q qs=>
   rw [Gds] at g g2
   rw [List.map_cons,List.map_cons] at h
   injection h with h1 h2
   rw [Rl.toT_inj g.1 g2.1 h1,rls_inj g.2 g2.2 h2]
end
def zeU (t:T):Prop:=∃ r:Rl,t = r.toT/\r.Gd/\r.high<=12/\r.many<=60/\unb [] r = []/\r.rep<=2
def zdM:Sp:=fun vs H Q _=>∃ (v:V) (t:T),vs = [v]/\RT H v t/\t.Sm/\∀ (b:Bool) (H':Hp),Same H H'->(b = true->zeU t)->(b = false->¬ zeU t)->Q (.bl b) H'
theorem zjF {l:List Str} (h:L2.allS l = []):l = []:=by
 cases l with
 | nil=>rfl
 | cons x r=>
  exfalso
  have:x∈L2.allS (x :: r):=L2.zjr.mpr (by simp)
  rw [h] at this
  cases this
theorem ZB:FnScope ["expression","parts","deepest","place","part","is_repeated"] ["expression"] (zh za4):=⟨rfl,rfl,rfl,by decide +kernel,rfl,by decide +kernel,by decide +kernel⟩
theorem zfE {n:Nat} (F:Fun K "repeated" "repeated" za4 f fd) (G_repeated:Have P w K mg base "repeated" k ["expression"] (zjE n)) (G_parts_of:Have P w K mg base "parts_of" k ["expression"] (zaa)) (m_enumerate:mg "enumerate" = none) (m_len:mg "len" = none) (m_max:mg "max" = none) {g_REPEATING:Addr} (m_REPEATING:mg "REPEATING" = some (.ref g_REPEATING)) (t_REPEATING:∀ H:Hp,SqT K H g_REPEATING [.str "each",.str "over"]):FnOk P w K mg base CX0 (k + 1) f fd ["expression"] (zjE (n + 1)):=by
 refine F.okQ ZB (fun vs H Q E h=>?_) (fun cdv A outer s H vs Q E hr h=>?_)
 ·obtain ⟨v,r,rfl,_⟩:=h
  rfl
 obtain ⟨v,r,rfl,hv,hfit,hh,q⟩:=h
 refine ⟨_,(zd (zn (i:=1) ZB.nd rfl (Or.inl rfl) (zu G_parts_of hr rfl (za (pv 0) zb)))
  (zd (zn (i:=2) ZB.nd rfl (Or.inl rfl) ze)
  (zd (Z1 PassesOwn.never rfl (zdC rfl m_enumerate (za (pv 1) zb)) (zcv rfl (ZQ (zV (i:=3) ZB.nd rfl (Or.inl rfl)) (ZQ (zV (i:=4) ZB.nd rfl (Or.inl rfl)) zcu))) (zd (zn (i:=5) ZB.nd rfl (Or.inl rfl) (ZV (zP ZW (zx zy (pv 0) ze (fun _ _=>rfl)) (Zr (v:=.ref g_REPEATING) rfl m_REPEATING rfl) (by rfl)) (Z0 (zP Za (pv 3) (zw Z2 (zl zD rfl m_len PySem.boot_len (za (pv 1) zb)) ze) (nomark _)))))
  (zf (zn (i:=2) ZB.nd rfl (Or.inl rfl) (zl (zhn rfl) rfl m_max PyProof.Rows.boot_max (za (pv 2) (za (zw Zi (zu G_repeated hr rfl (za (pv 4) zb)) (za0 (Zm (pv 5)) ze ze)) zb)))))))
  (zf (zr (pv 2)))))),?_⟩
 obtain ⟨a,us0,rfl,ea,ho⟩:=opn hv
 have h0:us0[0]? = some (.str (woS (rlW r))):=ho.head
 obtain ⟨we,hwe⟩:∃ b,b = wEO (rlW r):=⟨_,rfl⟩
 have hrep:r.rep = reps we (zB r):=by
  rw [hwe]
  cases r with
  | lit _=>rw [Rl.rep]; rfl
  | var _=>rw [Rl.rep]; rfl
  | op d bs ps=>rw [Rl.rep]; rfl
 refine ⟨_,rfl,?_⟩
 dsimp only [tNil,List.cons_append,List.nil_append]
 refine zmi hv hfit fun l us H1 hl s1 el hus=>?_
 have hul:=hus.len
 rw [zdH] at hul
 refine ⟨_,rfl,l,us,rfl,SqL.of el,zf5 (xs:=us) (fun i σ' H'=>∃ (o3 o4 o5:Option V) (d:Nat),σ' = [some (.ref a),some (.ref l),some (.int d),o3,o4,o5]/\Same H1 H'/\d<=r.rep/\∀ (j:Nat) (p:Rl),j < i->(zB r)[j]? = some p->p.rep + (if we = true/\j + 1 = (zB r).length then 1 else 0)<=d)
  ⟨none,none,none,0,rfl,Same.refl _,Nat.zero_le _,fun j p hj=>absurd hj (Nat.not_lt_zero _)⟩ (fun i σ' H' _ h=>?_) (fun i x t σ' H' hx ht h=>?_) (fun σ' H' h=>?_)⟩
 ·obtain ⟨_,_,_,_,_,s2,_⟩:=h
  exact SqL.of (s2 _ _ el)
 ·obtain ⟨o3,o4,o5,d,rfl,s2,hd,hall⟩:=h
  have hi:i < us.length:=(List.getElem?_eq_some_iff.mp hx).1
  have hki:(zB r)[i]? = some (zB r)[i]:=List.getElem?_eq_getElem (by omega)
  have hpm:=List.getElem_mem (show i < (zB r).length by omega)
  have sT:=s2.trans (Same.new (o:=.tup [.int i,x]) ht)
  have h2:=zco hpm
  have hhe:=zfA r
  have hrg:=zgk we (zB r) i _ hki
  rw [← hrep] at hrg
  refine ⟨t,_,rfl,SqT.of zc,rfl,_,_,rfl,_,_,rfl,rfl,?_⟩
  have ea1:=sT _ _ (s1 _ _ ea)
  have rwx:RW (upd H' t (.tup [.int i,x])) x ((zB r)[i]).toW:=RW.mono (zC sT) (hus.at' i x _ hx (zdJ hki))
  have go:∀ (b:Bool),(b = true->we = true/\i + 1 = (zB r).length)->∀ y:Nat,y = ((zB r)[i]).rep->max d (y + if b then 1 else 0)<=r.rep:=fun b hb y hy=>by
   cases b with
   | false=>simp only [Bool.false_eq_true,if_false]; have:=hrg.1; omega
   | true=>have:=hrg.2 (hb rfl).1 (hb rfl).2; simp only [if_true]; omega
  refine ⟨_,rfl,a,us0,0,_,rfl,rfl,SqT.of ea1,zH (j:=0) h0,g_REPEATING,_,rfl,.inr (t_REPEATING _),rfl,rfl,_,rfl,?_⟩
  show if inV (.str (woS (rlW r))) [.str "each",.str "over"] = true then _ else _
  rw [inEO]
  have fin:∀ (b:Bool) (c:Int) (o:Option V),c = (if b = true then 1 else 0)->(b = true->we = true/\i + 1 = (zB r).length)->((we = true/\i + 1 = (zB r).length)->b = true)->∀ (y:Nat) (H6:Hp),y = ((zB r)[i]).rep->Same (upd H' t (.tup [.int i,x])) H6->∃ (o3 o4 o5:Option V) (d':Nat),[some (.ref a),some (.ref l),some (.int (if (y:Int) + c > (d:Int) then (y:Int) + c else (d:Int))),some (.int i),some x,o] = [some (.ref a),some (.ref l),some (.int d'),o3,o4,o5]/\Same H1 H6/\d'<=r.rep/\∀ (j:Nat) (p:Rl),j < i + 1->(zB r)[j]? = some p->p.rep + (if we = true/\j + 1 = (zB r).length then 1 else 0)<=d':=fun b c o hc hb hb2 y H6 hy s6=>by
   have hg:=go b hb y hy
   refine ⟨_,_,_,max d (y + if b then 1 else 0),congrArg (fun z=>[some (.ref a),some (.ref l),some (V.int z),some (.int i),some x,o]) ?_,sT.trans s6,hg,fun j p hj hp=>?_⟩
   rotate_left
   ·by_cases hji:j < i
    ·have:=hall j p hji hp
     omega
    ·obtain rfl:j = i:=by omega
     rw [hki] at hp
     cases hp
     rw [hy]
     cases b with
     | true=>rw [if_pos (hb rfl)]; simp only [if_true]; omega
     | false=>rw [if_neg (fun z=>by have:=hb2 z; cases this)]; simp only [Bool.false_eq_true,if_false]; omega
   subst hc
   cases b <;> simp only [Bool.false_eq_true,if_false,if_true] <;> split <;> omega
  cases he:wEO (rlW r) with
  | false=>
   refine iteF ⟨_,rfl,_,rfl,x,_,rfl,rwx,zaI hfit _ hpm,by omega,fun H6 s6=>?_⟩
   refine ⟨_,rfl,_,rfl,iteF ⟨_,_,rfl,rfl,_,_,rfl,?_⟩⟩
   exact fin false _ _ rfl (fun z=>nomatch z) (fun z=>by rw [hwe,he] at z; cases z.1) _ H6 rfl s6
  | true=>
   refine iteT ⟨_,rfl,_,rfl,_,_,rfl,.inl ⟨_,SqL.of (sT _ _ el),rfl⟩,_,_,rfl,rfl,rfl,?_⟩
   refine ⟨_,rfl,_,rfl,x,_,rfl,rwx,zaI hfit _ hpm,by omega,fun H6 s6=>?_⟩
   refine ⟨_,rfl,_,rfl,?_⟩
   refine ite2 (fun c=>?_) (fun c=>?_)
   ·have hc:i + 1 = (zB r).length:=by
     have:=of_decide_eq_true c
     injection this with this
     omega
    refine ⟨_,_,rfl,rfl,_,_,rfl,?_⟩
    exact fin true _ _ rfl (fun _=>⟨hwe.trans he,hc⟩) (fun _=>rfl) _ H6 rfl s6
   ·refine ⟨_,_,rfl,rfl,_,_,rfl,?_⟩
    exact fin false _ _ rfl (fun z=>nomatch z) (fun z=>absurd (decide_eq_true (congrArg V.int (show (i:Int) = (us.length:Int) - 1 by have:=z.2; omega))) c) _ H6 rfl s6
 ·obtain ⟨o3,o4,o5,d,rfl,s2,hd,hall⟩:=h
  have hge:r.rep<=d:=by
   rw [hrep]
   exact zgl fun j p hp=>hall j p (by have:=(List.getElem?_eq_some_iff.mp hp).1; omega) hp
  obtain rfl:d = r.rep:=by omega
  exact ⟨_,rfl,q H' (s1.trans s2)⟩
theorem zg4:FnScope ["thing"] ["thing"] (zh zbz):=⟨rfl,rfl,rfl,by decide +kernel,rfl,by decide +kernel,by decide +kernel⟩
theorem zg5 (F:Fun K "is_rule" "is_rule" zbz f fd) (G_repeated:Have P w K mg base "repeated" k ["expression"] (zjE 20)) (G_free_in:Have P w K mg base "free_in" k ["expression"] (zik)) (G_is_formed:Have P w K mg base "is_formed" k ["thing"] (zdL)) (m_MOST_REPEATED:∃ t,mg "MOST_REPEATED" = some (.int 2 t)):FnOk P w K mg base CX0 (k + 1) f fd ["thing"] (zdM):=by
 refine F.okQ zg4 (fun vs H Q E h=>?_) (fun cdv A outer s H vs Q E hr h=>?_)
 ·obtain ⟨v,t,rfl,_⟩:=h
  rfl
 obtain ⟨v,t,rfl,rt,sm,q⟩:=h
 refine ⟨_,(zf (zr (ZV (zu G_is_formed hr rfl (za (pv 0) zb)) (ZV (zP (zmc (Nat.lt_of_le_of_lt (Nat.le_add_right _ 64) hr.units)) (zu G_free_in hr rfl (za (pv 0) zb)) (zL zb) (nomark _)) (Z0 (zP zd9 (zu G_repeated hr rfl (za (pv 0) zb)) (Zp rfl m_MOST_REPEATED) (nomark _))))))),?_⟩
 refine ⟨_,rfl,v,t,rfl,rt,sm,fun b H1 s1 hT hF=>⟨_,rfl,?_⟩⟩
 cases b with
 | false=>exact iteF (q false _ s1 (fun z=>nomatch z) (fun _ ⟨r,a,b,c,d,_⟩=>hF rfl ⟨r,a,b,c,d⟩))
 | true=>
 obtain ⟨r,rfl,g,hh,hm⟩:=hT rfl
 have hv:RW H v r.toW:=rt.toRW rfl
 have no:∀ H',Same H H'->(unb [] r≠[]\/2 < r.rep)->Q (.bl false) H':=fun H' s h=>q false H' s (fun z=>nomatch z) fun _ ⟨r',a,b,_,_,c,d⟩=>by
  rw [← Rl.toT_inj g b a] at c d
  rcases h with h | h
  ·exact h c
  ·omega
 refine iteT ⟨_,rfl,v,r,rfl,RW.mono (zC s1) hv,g,by omega,by omega,fun l ss H2 hl s2 el hs hp=>?_⟩
 refine ⟨zl0,fun e he=>?_⟩
 have s3:=Same.new (o:=.lst []) he
 have s123:=s1.trans (s2.trans s3)
 have el3:=s3 _ _ el
 refine ⟨l,e,ss.map V.str,rfl,rfl,SqL.of el3,SqL.of zc,_,rfl,?_⟩
 by_cases hss:ss = []
 ·subst hss
  have hu:unb [] r = []:=zjF (List.length_eq_zero_iff.mp (by rw [← hp.length_eq]; rfl))
  refine iteT ⟨_,rfl,v,r,rfl,RW.mono (zC s123) hv,g,by omega,fun H4 s4=>⟨_,_,rfl,rfl,?_⟩⟩
  show Q (.bl (decide ((r.rep:Int)<=2))) H4
  by_cases hr2:r.rep<=2
  ·rw [decide_eq_true (by omega)]
   exact q true _ (s123.trans s4) (fun _=>⟨r,rfl,g,hh,hm,hu,hr2⟩) (fun z=>nomatch z)
  ·rw [decide_eq_false (by omega)]
   exact no _ (s123.trans s4) (.inr (by omega))
 ·have hem:(ss.map V.str).isEmpty = false:=by
   cases ss with
   | nil=>exact absurd rfl hss
   | cons _ _=>rfl
  rw [hem]
  refine iteF (no _ s123 (.inl fun z=>hss ?_))
  rw [z] at hp
  exact List.length_eq_zero_iff.mp (by rw [hp.length_eq]; rfl)
theorem RT.inv_tup {H:Hp}{v:V}{ts:List T} (h:RT H v (.tup ts)):∃ a vs,v = .ref a/\H a = some (.tup vs)/\RTs H vs ts:=by
 cases h with
 | tup e l r=>exact ⟨_,_,rfl,e,l,r⟩
theorem RTs.rt {H:Hp}{a:Addr}{vs:List V}{ts:List T} (h:RTs H vs ts) (e:H a = some (.tup vs)):RT H (.ref a) (.tup ts):=.tup e h.1 h.2
theorem zio:∀ {l:List T},(∀ y∈l,y.Sm)->Sms l
 | [],_=>trivial
 | y :: r,h=>⟨h y (by simp),zio fun z hz=>h z (List.mem_cons_of_mem _ hz)⟩
mutual
theorem zmj:∀ {r:Rl},r.Gd->r.toT.Sm
 | .lit x,h=>by
  rw [Rl.Gd] at h
  rw [zac]
  exact ⟨by show 2<=100000; decide,(by show (Str.ofString "lit").length<=100000; decide +kernel),zh3 x (zjl x h.1),trivial⟩
 | .var s,h=>by
  rw [Rl.Gd] at h
  have:=h.2.1
  rw [zap]
  exact ⟨by show 2<=100000; decide,(by show (Str.ofString "var").length<=100000; decide +kernel),(by show s.length<=100000; omega),trivial⟩
 | .op d bs ps,h=>by
  rw [Rl.Gd] at h
  have hb:=zdI d
  have hl:=h.1.2.2.1
  have hp:ps.length<=8:=by
   have:=(zla (r:=.op d bs ps) (by rw [Rl.Gd]; exact h)).len
   rw [List.length_map] at this
   exact this
  rw [zaX]
  refine ⟨?_,?_,zio fun y hy=>?_⟩
  ·rw [List.length_cons,List.length_append,List.length_map,List.length_map]; omega
  ·show (woS d).length<=100000
   cases d <;> decide +kernel
  ·rcases List.mem_append.mp hy with hy | hy
   ·obtain ⟨z,hz,rfl⟩:=List.mem_map.mp hy
    have:=(h.1.2.2.2.1 z hz).2.1
    show z.length<=100000
    omega
   ·obtain ⟨p,hp,rfl⟩:=List.mem_map.mp hy
    exact gds_sm h.2 p hp
theorem gds_sm:∀ {ps:List Rl},Gds ps->∀ p∈ps,p.toT.Sm
 | [],_,p,hp=>nomatch hp
 | q :: r,h,p,hp=>by
  rw [Gds] at h
  rcases List.mem_cons.mp hp with e | hp
  ·rw [e]; exact zmj h.1
  ·exact gds_sm h.2 p hp
end
end
end D
namespace L2
open PySem PySem.Spec PyProof.Rows PySem.Builtin PySem.Builtin.Str
def dot:Str:=Str.ofString "."
theorem zb5:dot = ⟨#[46]⟩:=by decide +kernel
theorem zbi:dot.length = 1:=by decide +kernel
def zay (x:Str):List Str:=Txt.split x dot
theorem zgn (z:Str) (i:Nat):StrLaws.At z dot z.length i ↔ z.cps.toList[i]? = some 46:=by
 rw [zb5]
 exact StrLaws.subAt_one z 46 i
theorem ziq {z:Str}{i:Nat} (h:StrLaws.At z dot z.length i):¬ (decide (z.length < dot.length) || decide (strKind z < strKind dot)) = true:=fun hc=>by
 rw [Bool.or_eq_true,decide_eq_true_eq,decide_eq_true_eq] at hc
 rcases hc with hc | hc
 ·have:=h.1
  omega
 ·rw [zb5] at hc
  exact StrLaws.kind_free z 46 hc (List.mem_of_getElem? ((zgn z i).mp h))
theorem zeV {r w:Str} (hr:46 ∉ r.cps.toList) (hw:46 ∉ w.cps.toList):zay (r ++ dot ++ w) = [r,w]:=by
 have hdl:dot.cps.toList = [46]:=by rw [zb5]
 have hz:(r ++ dot ++ w).cps.toList = r.cps.toList ++ 46 :: w.cps.toList:=by
  rw [D.zO,D.zO,hdl,List.append_assoc]; rfl
 generalize hzz:r ++ dot ++ w = z at hz ⊢
 have hn:z.cps.toList.length = z.length:=D.zM z
 have hrl:r.cps.toList.length = r.length:=D.zM r
 have a0:StrLaws.At z dot z.length r.length:=(zgn z _).mpr (by rw [hz,← hrl,List.getElem?_append_right (Nat.le_refl _)]; simp)
 have lo:∀ i,i < r.length->¬ StrLaws.At z dot z.length i:=fun i hi ha=>by
  have:=(zgn z i).mp ha
  rw [hz,List.getElem?_append_left (by omega)] at this
  exact hr (List.mem_of_getElem? this)
 have up:∀ i,r.length + 1<=i->¬ StrLaws.At z dot z.length i:=fun i hi ha=>by
  have:=(zgn z i).mp ha
  rw [hz,List.getElem?_append_right (by omega)] at this
  obtain ⟨m,hm⟩:∃ m,i - r.cps.toList.length = m + 1:=⟨i - r.cps.toList.length - 1,by omega⟩
  rw [hm,List.getElem?_cons_succ] at this
  exact hw (List.mem_of_getElem? this)
 obtain ⟨f,hG,_⟩:=StrLaws.occ_tight z dot (by rw [zbi]; exact Nat.le_refl 1)
 have h0:occurrences z dot 0 z.length (z.length + 1) = [r.length]:=by
  rcases StrLaws.occ_head z dot (z.length + 1) (by omega) with ⟨_,hno⟩ | ⟨j,rest,h0,hj,hmin⟩
  ·exact absurd a0 (hno _)
  ·have hij:j = r.length:=by
    rcases Nat.lt_trichotomy j r.length with h | h | h
    ·exact absurd hj (lo j h)
    ·exact h
    ·exact absurd a0 (hmin _ h)
   rw [h0] at hG
   cases rest with
   | nil=>rw [h0,hij]
   | cons c rest'=>
    have h1:=hG.2.2.2
    have h2:j + dot.length<=c:=h1.1
    rw [zbi] at h2
    exact absurd h1.2.1 (up c (by omega))
 unfold zay Txt.split
 rw [if_neg (ziq a0),if_neg (by rw [h0]; simp),StrLaws.partsBetween_eq,h0]
 show [strSub z 0 r.length,strSub z (r.length + dot.length) z.length] = [r,w]
 have e1:strSub z 0 r.length = r:=by
  apply Str.ext'
  apply Array.toList_inj.mp
  rw [StrLaws.strSub_toList,hz,List.drop_zero,Nat.sub_zero,← hrl,List.take_left]
 have e2:strSub z (r.length + dot.length) z.length = w:=by
  apply Str.ext'
  apply Array.toList_inj.mp
  rw [StrLaws.strSub_toList,zbi]
  have:z.cps.toList.drop (r.length + 1) = w.cps.toList:=by
   rw [hz,← hrl,List.drop_append]
   simp
  rw [this,List.take_of_length_le]
  rw [← hn,hz,List.length_append,List.length_cons]
  omega
 rw [e1,e2]
theorem zgo (z:Str) (w:Nat):∀ (cuts:List Nat) (a:Nat),∀ p∈StrLaws.partsFrom z w a cuts,p.length<=z.length
 | [],a,p,h=>by
  rw [List.mem_singleton.mp h]
  exact strSub_length_le z _ _
 | c :: r,a,p,h=>by
  rcases List.mem_cons.mp h with h | h
  ·rw [h]; exact strSub_length_le z _ _
  ·exact zgo z w r _ p h
theorem zjG {z p:Str} (h:p∈zay z):p.length<=z.length:=by
 unfold zay Txt.split at h
 split at h
 ·rw [List.mem_singleton.mp h]; exact Nat.le_refl _
 ·split at h
  ·rw [List.mem_singleton.mp h]; exact Nat.le_refl _
  ·rw [StrLaws.partsBetween_eq] at h
   exact zgo z _ _ _ p h
end L2
namespace D
open PySem L2
def zaq:Str:=Str.ofString "abcdefghijklmnopqrstuvwxyz0123456789"
def in36 (c:Nat):Bool:=decide (c∈zaq.cps.toList)
theorem zjH (c:Nat):(!(Builtin.Str.occurrences zaq ⟨#[c]⟩ 0 zaq.length 1).isEmpty) = in36 c:=StrLaws.found_one zaq c
theorem no46:in36 46 = false:=by decide +kernel
structure Wd (x:Str):Prop where
 lo:1<=x.length
 hi:x.length<=12
 at':∀ c∈x.cps.toList,in36 c = true
theorem Wd.free {x:Str} (h:Wd x):46 ∉ x.cps.toList:=fun m=>by
 have:=h.at' _ m
 rw [no46] at this
 cases this
def Nm (z:Str):Prop:=∃ r w:Str,z = r ++ dot ++ w/\Wd r/\Wd w
theorem Nm.len {z:Str} (h:Nm z):z.length<=25:=by
 obtain ⟨r,w,rfl,h1,h2⟩:=h
 have a1:=h1.hi
 have a2:=h2.hi
 rw [← zM,zO,zO,List.length_append,List.length_append,zM,zM,zM,zbi]
 omega
def wdB (x:Str):Bool:=decide ((1:Int)<=(x.length:Int)) && (decide ((x.length:Int)<=12) && x.cps.toList.all in36)
def nmB (x:Str):Bool:=decide ((zay x).length = 2) && (zay x).all wdB
theorem Wd.b {x:Str} (h:Wd x):wdB x = true:=by
 have h1:=h.lo
 have h2:=h.hi
 unfold wdB
 rw [decide_eq_true (show (1:Int)<=(x.length:Int) by omega),decide_eq_true (show (x.length:Int)<=12 by omega),Bool.true_and,Bool.true_and]
 exact List.all_eq_true.mpr h.at'
theorem Nm.b {z:Str} (h:Nm z):nmB z = true:=by
 obtain ⟨r,w,rfl,h1,h2⟩:=h
 unfold nmB
 rw [zeV h1.free h2.free]
 show (decide (2 = 2) && (wdB r && (wdB w && true))) = true
 rw [h1.b,h2.b]
 rfl
def zcS:Sp:=fun vs H Q _=>∃ x:Str,vs = [.str x]/\x.length<=1000/\∀ H',Same H H'->Q (.bl (wdB x)) H'
def nmT:T->Bool
 | .txt z=>nmB z
 | _=>false
def T.Le (t:T) (n:Nat):Prop:=∀ z,t = .txt z->z.length<=n
def zdN:Sp:=fun vs H Q _=>∃ (v:V) (t:T),vs = [v]/\RT H v t/\t.Le 1000/\∀ H',Same H H'->Q (.bl (nmT t)) H'
def zcT (AN:Addr):Sp:=fun vs H Q E=>∃ (v:V) (t:T),vs = [v]/\RT H v t/\t.Le 1000/\(nmT t = true->∀ H',Same H H'->Q .non H')/\(nmT t = false->∀ H',Same H H'->E (.ref AN) none H')
section
variable {P:Program}{w:World}{K:PySem.W.Frag}{mg:Str->Option Value}{base:Heap}{f:Addr}{fd:FuncData}{k n:Nat}{ANoName AHouse ANoWorth ANoRule ANoThing zN ANoStep ANoRow AForgeError:Addr}
theorem zg6:FnScope ["text"] ["text"] (zh zbA):=⟨rfl,rfl,rfl,by decide +kernel,rfl,by decide +kernel,by decide +kernel⟩
theorem zg7 (F:Fun K "is_word" "is_word" zbA f fd) (m_all:mg "all" = none) (m_len:mg "len" = none) (m_MOST_SIGNS_names:∃ t,mg "MOST_SIGNS_names" = some (.int 12 t)) (m_SIGNS:∃ t,mg "SIGNS" = some (.str zaq t)):FnOk P w K mg base CX0 (k + 1) f fd ["text"] (zcS):=by
 refine F.okQ zg6 (fun vs H Q E h=>?_) (fun cdv A outer s H vs Q E hr h=>?_)
 ·obtain ⟨x,rfl,_⟩:=h
  rfl
 obtain ⟨x,rfl,hx,q⟩:=h
 refine ⟨_,(zf (zr (ZV (zbp zd9 zd9 ze (zl zD rfl m_len PySem.boot_len (za (pv 0) zb)) (Zp rfl m_MOST_SIGNS_names)) (Z0 (zl (ZS rfl) rfl m_all zbv (za (Zy [] [] rfl rfl (by decide +kernel) rfl (by decide +kernel) rfl (by decide +kernel) trivial rfl trivial (zeu (pv 0)) (fun C s H fp=>⟨Zx,(zP zeb (pv 0) (zcl rfl m_SIGNS) (by rfl))⟩)) zb)))))),?_⟩
 have hsz:x.cps.size = x.length:=rfl
 refine ⟨_,rfl,_,_,rfl,⟨small (by omega),rfl⟩,_,_,rfl,rfl,_,rfl,?_⟩
 unfold wdB at q
 by_cases h1:(1:Int)<=(x.length:Int)
 ·rw [decide_eq_true h1]
  rw [decide_eq_true h1,Bool.true_and] at q
  refine iteT ⟨_,_,rfl,rfl,_,rfl,?_⟩
  by_cases h2:(x.length:Int)<=12
  ·rw [decide_eq_true h2]
   rw [decide_eq_true h2,Bool.true_and] at q
   refine iteT ?_
   dsimp only [tRet,tOp,tC,tCB,Zq,tNil]
   refine zff (x.cps.toList.map fun c=>V.bl (in36 c)) (by rfl) (by rw [List.length_map]; simp) (by rw [hsz]; exact small (by omega)) (fun i c y H1 R hc hy s1 hR=>?_) (fun H1 D s1 hD=>?_)
   ·have hc':x.cps.toList[i]? = some c:=by simpa using hc
    rw [List.getElem?_map,hc'] at hy
    cases hy
    refine ⟨_,rfl,_,_,rfl,rfl,?_⟩
    rw [zjH]
    exact hR _ (Same.refl _)
   ·refine ⟨D,x.cps.toList.map in36,rfl,SqL.of ?_,?_⟩
    ·rw [zc,List.map_map]; rfl
    ·rw [show ((x.cps.toList.map in36).all id) = x.cps.toList.all in36 by rw [List.all_map]; rfl]
     exact q _ (s1.trans (Same.new hD))
  ·rw [decide_eq_false h2]
   rw [decide_eq_false h2] at q
   exact iteF (q _ (Same.refl _))
 ·rw [decide_eq_false h1]
  rw [decide_eq_false h1] at q
  exact iteF ⟨_,rfl,iteF (q _ (Same.refl _))⟩
theorem zdl:FnScope ["thing","words"] ["thing"] (zh zbB):=⟨rfl,rfl,rfl,by decide +kernel,rfl,by decide +kernel,by decide +kernel⟩
theorem zg8 (F:Fun K "is_name" "is_name" zbB f fd) (G_is_word:Have P w K mg base "is_word" k ["text"] (zcS)) (m_isi:mg "isinstance" = none) (m_len:mg "len" = none) (m_str:mg "str" = none):FnOk P w K mg base CX0 (k + 1) f fd ["thing"] (zdN):=by
 refine F.okQ zdl (fun vs H Q E h=>?_) (fun cdv A outer s H vs Q E hr h=>?_)
 ·obtain ⟨v,t,rfl,_⟩:=h
  rfl
 obtain ⟨v,t,rfl,rt,hle,q⟩:=h
 refine ⟨_,(zd (zG (ZH (Zm (zl ZR rfl m_isi zU (za (pv 0) (za (zbh rfl m_str zaQ) zb))))) (zf (zr zan)) zo)
  (zd (zn (i:=1) zdl.nd rfl (Or.inl rfl) (zav PySem.F.plainAttrs_str PySem.F.slot_str_split PySem.F.type_str_split zjm (pv 0) (za zi zb)))
  (zf (zr (ZV (zP Za (zl zD rfl m_len PySem.boot_len (za (pv 1) zb)) ze (nomark _)) (ZV (zu G_is_word hr rfl (za (zx zE (pv 1) ze (fun _ _=>rfl)) zb)) (Z0 (zu G_is_word hr rfl (za (zx zE (pv 1) ze (fun _ _=>rfl)) zb))))))))),?_⟩
 cases rt with
 | non=>exact ⟨_,rfl,_,_,_,_,rfl,.non,zez,_,rfl,iteT (q _ (Same.refl _))⟩
 | bl b=>exact ⟨_,rfl,_,_,_,_,rfl,.bl b,zey,_,rfl,iteT (q _ (Same.refl _))⟩
 | num i=>exact ⟨_,rfl,_,_,_,_,rfl,.int i,zfY,_,rfl,iteT (q _ (Same.refl _))⟩
 | tup e _ _=>exact ⟨_,rfl,_,_,_,_,rfl,.tup e,zew,_,rfl,iteT (q _ (Same.refl _))⟩
 | lst e=>exact ⟨_,rfl,_,_,_,_,rfl,.lst e,zeA,_,rfl,iteT (q _ (Same.refl _))⟩
 | dic e=>exact ⟨_,rfl,_,_,_,_,rfl,.dK e,zeB,_,rfl,iteT (q _ (Same.refl _))⟩
 | txt x=>
 have hx:=hle x rfl
 have q:∀ H',Same H H'->Q (.bl (nmB x)) H':=q
 refine ⟨_,rfl,_,_,_,_,rfl,.str _,zex,_,rfl,iteF ?_⟩
 refine ⟨_,rfl,rfl,_,dot,rfl,rfl,zbi,Nat.le_trans hx (by decide),fun l hl=>?_⟩
 have s1:=Same.new (o:=.lst ((zay x).map V.str)) hl
 have el:upd H l (.lst ((zay x).map V.str)) l = some (.lst ((zay x).map V.str)):=zc
 unfold nmB at q
 have hle:∀ p∈zay x,p.length<=1000:=fun p hp=>Nat.le_trans (zjG hp) hx
 show tSeq _ _ _ _ (upd H l (.lst ((zay x).map V.str)))
 generalize zay x = ws at s1 el q hle
 refine ⟨_,rfl,_,_,rfl,.inl ⟨_,SqL.of el,rfl⟩,rfl,_,rfl,?_⟩
 have e2:decide (V.int ((ws.map V.str).length:Int) = V.int 2) = decide (ws.length = 2):=by
  rw [List.length_map]
  by_cases h:ws.length = 2
  ·rw [decide_eq_true h,h]; rfl
  ·rw [decide_eq_false h]
   exact decide_eq_false fun z=>h (by have:=V.int.inj z; omega)
 rw [e2]
 by_cases h:ws.length = 2
 ·rw [decide_eq_true h]
  rw [decide_eq_true h,Bool.true_and] at q
  match ws,h with
  | [w0,w1],_=>
   refine iteT ⟨_,rfl,l,_,0,.str w0,rfl,rfl,SqL.of el,rfl,w0,rfl,hle _ (by simp),fun H2 s2=>⟨_,rfl,?_⟩⟩
   have q':∀ H',Same H H'->Q (.bl (wdB w0 && (wdB w1 && true))) H':=q
   cases h0:wdB w0 with
   | false=>
    rw [h0] at q'
    exact iteF (q' _ (s1.trans s2))
   | true=>
    rw [h0,Bool.true_and,Bool.and_true] at q'
    exact iteT ⟨_,rfl,l,_,1,.str w1,rfl,rfl,SqL.of (s2 _ _ el),rfl,w1,rfl,hle _ (by simp),fun H3 s3=>q' _ ((s1.trans s2).trans s3)⟩
 ·rw [decide_eq_false h]
  rw [decide_eq_false h] at q
  exact iteF (q _ s1)
theorem zcU:FnScope ["name"] ["name"] (zh ZU):=⟨rfl,rfl,rfl,by decide +kernel,rfl,by decide +kernel,by decide +kernel⟩
theorem zcV (F:Fun K "ask_for_name" "ask_for_name" ZU f fd) (G_is_name:Have P w K mg base "is_name" k ["thing"] (zdN)) (x_NoName:excIn K ANoName vErr "ValueError.__new__" = true) (c_NoName:mg "NoName" = some (.ref ANoName)):FnOk P w K mg base (CX1 P w) (k + 1) f fd ["name"] (zcT ANoName):=by
 refine F.okX zcU (fun vs H Q E h=>?_) (fun cdv A outer s H vs Q E hr h=>?_)
 ·obtain ⟨v,t,rfl,_⟩:=h
  rfl
 obtain ⟨v,t,rfl,rt,hle,q,qe⟩:=h
 refine ⟨_,(zf (zG (ZH (Zm (zu G_is_name hr rfl (za (pv 0) zb)))) (zf (za9 zaM rfl x_NoName c_NoName rfl (za zi zb))) zo)),?_⟩
 refine ⟨_,rfl,v,t,rfl,rt,hle,fun H1 s1=>⟨_,rfl,?_⟩⟩
 cases hb:nmT t with
 | true=>exact iteF (q hb _ s1)
 | false=>exact iteT ⟨zl1,qe hb _ s1⟩
end
end D
namespace L2
open PySem PySem.Spec PyProof.Rows PySem.Builtin
def zir:V->List V->Hp->VK->Prop:=fun x vs H Q=>∃ (l:Addr) (zs:List Str) (z:Str) (j:Nat),x = .ref l/\vs = [.str z]/\H l = some (.lst (zs.map V.str))/\zs[j]? = some z/\(∀ m,m < j->zs[m]?≠some z)/\Q .non (upd H l (.lst ((zs.eraseIdx j).map V.str)))
theorem zeW:∀ (zs:List Str) (j:Nat),(zs.eraseIdx j).map V.str = (zs.map V.str).eraseIdx j
 | [],_=>rfl
 | x :: r,0=>rfl
 | x :: r,j + 1=>by rw [List.eraseIdx_cons_succ,List.map_cons,List.map_cons,List.eraseIdx_cons_succ,zeW r j]
theorem zcW {X:Cx}:MtM X "list.remove" zir:=by
 intro zp s σ H x vs v us Q I rx rv h
 obtain ⟨l,zs,z,j,rfl,rfl,hH,hj,hmin,q⟩:=h
 cases rx
 obtain ⟨u,rfl,t,rfl⟩:=zbf rv
 obtain ⟨hz,its,n,r,hl,e⟩:=I.lstM hH
 rw [List.length_map] at hl hz
 have hit:∀ (i:Nat) (y:Str),zs[i]? = some y->∃ t',its[i]? = some (.str y t'):=fun i y hy=>by
  obtain ⟨u,hu,t',rfl⟩:=r.get (i:=i) (x:=.str y) (by rw [List.getElem?_map,hy]; rfl)
  exact ⟨t',hu⟩
 have hjl:j < zs.length:=(List.getElem?_eq_some_iff.mp hj).1
 refine call_meets F.slot_list_remove ⟨_,e,rfl⟩ F.entry_list_remove (F.args_list_remove_2 _ _) (MeetsSeq.list_remove l its.toArray n (.str z t) (fun v=>match v with | .str y _=>y == z | _=>false) (fun y hy=>?_) j (by rw [List.size_toArray]; omega) ?_ (fun m hm hmj=>?_) (by rw [List.size_toArray,← hl]; exact hz)) ⟨e,?_⟩
 ·obtain ⟨i,hi,he⟩:=List.getElem_of_mem (List.mem_toArray.mp hy)
  obtain ⟨t',ht⟩:=hit i (zs[i]'(by omega)) (List.getElem?_eq_getElem _)
  rw [List.getElem?_eq_getElem hi,he] at ht
  cases ht
  exact eqGives_str _ _ _ _
 ·obtain ⟨t',ht⟩:=hit j z hj
  rw [List.getElem?_eq_getElem (by omega)] at ht
  show (match its[j]'(by omega) with | .str y _=>y == z | _=>false) = true
  rw [Option.some.inj ht]
  exact beq_self_eq_true z
 ·have hml:m < zs.length:=by omega
  obtain ⟨t',ht⟩:=hit m zs[m] (List.getElem?_eq_getElem hml)
  rw [List.getElem?_eq_getElem (by omega)] at ht
  show (match its[m]'(by omega) with | .str y _=>y == z | _=>false) = false
  rw [Option.some.inj ht]
  refine beq_eq_false_iff_ne.mpr fun hz=>hmin m hmj ?_
  rw [List.getElem?_eq_getElem hml,hz]
 ·refine ⟨.non,_,I.lset (its':=its.eraseIdx j) hH e ?_ ?_ ?_,rfl,q⟩
  ·show its.toArray.eraseIdxIfInBounds j = (its.eraseIdx j).toArray
   rw [List.eraseIdxIfInBounds_toArray]
  ·rw [show (zs.eraseIdx j).map V.str = (zs.map V.str).eraseIdx j from zeW zs j]
   exact r.eraseIdx j
  ·rw [List.length_map]
   exact Nat.le_trans (zen _ _) hz
end L2
namespace D
open PySem L2
abbrev Kvs:=List (Key × V)
def fH (s r o w:Addr):List (Str × V):=[("sources",.ref s),("rules",.ref r),("opened",.ref o),("wishes",.ref w)]
structure Hd where
 p:Addr
 s:Addr
 r:Addr
 o:Addr
 w:Addr
def Hd.all (a:Hd):List Addr:=[a.p,a.s,a.r,a.o,a.w]
structure Hs (AH:Addr) (a:Hd) (H:Hp) (S R:Kvs) (O W:List Str):Prop where
 ins:∃ dx,H a.p = some (.ins AH dx (fH a.s a.r a.o a.w))
 so:H a.s = some (.dK S)
 ru:H a.r = some (.dK R)
 op:H a.o = some (.lst (O.map V.str))
 wi:H a.w = some (.lst (W.map V.str))
 sr:a.s≠a.r
 ow:a.o≠a.w
 fs:S.length<=1000
 fr:R.length<=1000
 fo:O.length<=1000
 fw:W.length<=1000
def Kb (N:List Addr) (H H':Hp):Prop:=∀ c o,c ∉ N->H c = some o->H' c = some o
theorem Kb.ofSame {N:List Addr}{H H':Hp} (s:Same H H'):Kb N H H':=fun c o _ e=>s c o e
theorem Kb.trans {N:List Addr}{H H1 H2:Hp} (a:Kb N H H1) (b:Kb N H1 H2):Kb N H H2:=fun c o h e=>b c o h (a c o h e)
theorem Kb.upd {N:List Addr}{H:Hp}{a:Addr}{o:HO} (h:a∈N):Kb N H (upd H a o):=fun c o' hc e=>by rw [zg (fun z=>hc (by rw [z]; exact h))]; exact e
section
variable {AH:Addr}{a:Hd}{H H':Hp}{S R:Kvs}{O W:List Str}
theorem Hs.same (h:Hs AH a H S R O W) (s:Same H H'):Hs AH a H' S R O W:=
 ⟨let ⟨dx,e⟩:=h.ins; ⟨dx,s _ _ e⟩,s _ _ h.so,s _ _ h.ru,s _ _ h.op,s _ _ h.wi,h.sr,h.ow,h.fs,h.fr,h.fo,h.fw⟩
theorem Hs.setS (h:Hs AH a H S R O W) (S':Kvs) (hf:S'.length<=1000):Hs AH a (upd H a.s (.dK S')) S' R O W:=by
 obtain ⟨⟨dx,hi⟩,so,ru,op,wi,sr,ow,_,fr,fo,fw⟩:=h
 have n1:a.p≠a.s:=fun z=>by rw [z,so] at hi; cases hi
 have n2:a.o≠a.s:=fun z=>by rw [z,so] at op; cases op
 have n3:a.w≠a.s:=fun z=>by rw [z,so] at wi; cases wi
 exact ⟨⟨dx,by rw [zg n1]; exact hi⟩,zc,by rw [zg sr.symm]; exact ru,by rw [zg n2]; exact op,by rw [zg n3]; exact wi,sr,ow,hf,fr,fo,fw⟩
theorem Hs.setR (h:Hs AH a H S R O W) (R':Kvs) (hf:R'.length<=1000):Hs AH a (upd H a.r (.dK R')) S R' O W:=by
 obtain ⟨⟨dx,hi⟩,so,ru,op,wi,sr,ow,fs,_,fo,fw⟩:=h
 have n1:a.p≠a.r:=fun z=>by rw [z,ru] at hi; cases hi
 have n2:a.o≠a.r:=fun z=>by rw [z,ru] at op; cases op
 have n3:a.w≠a.r:=fun z=>by rw [z,ru] at wi; cases wi
 exact ⟨⟨dx,by rw [zg n1]; exact hi⟩,by rw [zg sr]; exact so,zc,by rw [zg n2]; exact op,by rw [zg n3]; exact wi,sr,ow,fs,hf,fo,fw⟩
theorem Hs.setO (h:Hs AH a H S R O W) (O':List Str) (hf:O'.length<=1000):Hs AH a (upd H a.o (.lst (O'.map V.str))) S R O' W:=by
 obtain ⟨⟨dx,hi⟩,so,ru,op,wi,sr,ow,fs,fr,_,fw⟩:=h
 have n1:a.p≠a.o:=fun z=>by rw [z,op] at hi; cases hi
 have n2:a.s≠a.o:=fun z=>by rw [z,op] at so; cases so
 have n3:a.r≠a.o:=fun z=>by rw [z,op] at ru; cases ru
 exact ⟨⟨dx,by rw [zg n1]; exact hi⟩,by rw [zg n2]; exact so,by rw [zg n3]; exact ru,zc,by rw [zg ow.symm]; exact wi,sr,ow,fs,fr,hf,fw⟩
theorem Hs.setW (h:Hs AH a H S R O W) (W':List Str) (hf:W'.length<=1000):Hs AH a (upd H a.w (.lst (W'.map V.str))) S R O W':=by
 obtain ⟨⟨dx,hi⟩,so,ru,op,wi,sr,ow,fs,fr,fo,_⟩:=h
 have n1:a.p≠a.w:=fun z=>by rw [z,wi] at hi; cases hi
 have n2:a.s≠a.w:=fun z=>by rw [z,wi] at so; cases so
 have n3:a.r≠a.w:=fun z=>by rw [z,wi] at ru; cases ru
 exact ⟨⟨dx,by rw [zg n1]; exact hi⟩,by rw [zg n2]; exact so,by rw [zg n3]; exact ru,by rw [zg ow]; exact op,zc,sr,ow,fs,fr,fo,hf⟩
end
theorem ZG {kvs:Kvs}{k:Key} (h:valV kvs k = none):zI kvs k = kvs:=by
 unfold zI
 refine List.filter_eq_self.mpr fun kv hm=>decide_eq_true fun hk=>?_
 have h1:=Z3 k kvs
 rw [h] at h1
 have h2:(kvs.any fun kv=>decide (kv.1 = k)) = true:=List.any_eq_true.mpr ⟨kv,hm,decide_eq_true hk⟩
 rw [h2] at h1
 cases h1
theorem zJ (kvs:Kvs) (k:Key):(zI kvs k).length<=kvs.length:=List.length_filter_le _ _
theorem zam (kvs:Kvs) (k:Key) (v:V):(putK kvs k v).length<=kvs.length + 1:=by
 unfold putK
 split
 ·rw [List.length_map]; omega
 ·rw [List.length_append]; exact Nat.le_refl _
def BadN (H:Hp) (v:V) (AN:Addr) (E:XK):Prop:=∃ t,RT H v t/\t.Le 1000/\nmT t = false/\∀ H',Same H H'->E (.ref AN) none H'
theorem Nm.t {z:Str} (h:Nm z):nmT (.txt z) = true:=h.b
theorem zmL {z:Str} (h:Nm z):(T.txt z).Le 1000:=fun y e=>by cases e; exact Nat.le_trans h.len (by decide)
theorem zc9 {AN:Addr}{z:Str}{σ:St}{H:Hp}{D:Ends}{E:XK}{t:TS} (e:σ[1]? = some (some (.str z))) (h:Nm z) (q:∀ H',Same H H'->t D σ H'):tSeq (zdm (zb6 (zcT AN) [] E (Zq (tVar 1) tNil))) t D σ H:=⟨_,e,_,_,rfl,.txt z,zmL h,fun _=>q,fun e=>by rw [h.t] at e; cases e⟩
theorem rdNo {AN:Addr}{v:V}{σ:St}{H:Hp}{D:Ends}{E:XK}{t:TS} (e:σ[1]? = some (some v)) (h:BadN H v AN E):tSeq (zdm (zb6 (zcT AN) [] E (Zq (tVar 1) tNil))) t D σ H:=by
 obtain ⟨t,rt,le,hn,q⟩:=h
 exact ⟨_,e,v,t,rfl,rt,le,(fun e=>by rw [hn] at e; cases e),fun _=>q⟩
def zjI (AH AN AW:Addr):Sp:=fun vs H Q E=>∃ (a:Hd) (S R:Kvs) (O W:List Str) (v1 v2:V),vs = [.ref a.p,v1,v2]/\Hs AH a H S R O W /\
 ((∃ (z:Str) (x:D.W),v1 = .str z/\Nm z/\RW H v2 x/\x.Ok/\x.size<=1000/\x.depth<=12/\S.length < 1000/\∀ H',Hs AH a H' (putK S (.inr z) v2) (zI R (.inr z)) O W->Kb a.all H H'->Q .non H')\/BadN H v1 AN E \/
  ∃ (z:Str) (t:T),v1 = .str z/\Nm z/\RT H v2 t/\t.Sm/\zQ t = false/\∀ H',Same H H'->E (.ref AW) none H')
def zgp (AH AN AR:Addr):Sp:=fun vs H Q E=>∃ (a:Hd) (S R:Kvs) (O W:List Str) (v1 v2:V),vs = [.ref a.p,v1,v2]/\Hs AH a H S R O W /\
 ((∃ (z:Str) (x:Rl),v1 = .str z/\Nm z/\RW H v2 x.toW/\zeU x.toT/\x.Gd/\R.length < 1000/\∀ H',Hs AH a H' (zI S (.inr z)) (putK R (.inr z) v2) O W->Kb a.all H H'->Q .non H')\/BadN H v1 AN E \/
  ∃ (z:Str) (t:T),v1 = .str z/\Nm z/\RT H v2 t/\t.Sm/\¬ zeU t/\∀ H',Same H H'->E (.ref AR) none H')
section
variable {P:Program}{w:World}{K:PySem.W.Frag}{mg:Str->Option Value}{base:Heap}{f:Addr}{fd:FuncData}{k n:Nat}{ANoName AHouse ANoWorth ANoRule ANoThing zN ANoStep ANoRow AForgeError:Addr}
theorem zeX:FnScope ["self","name","worth"] ["self","name","worth"] (zh ZM):=⟨rfl,rfl,rfl,by decide +kernel,rfl,by decide +kernel,by decide +kernel⟩
theorem zeY (F:Fun K "put" "House.put" ZM f fd) (G_is_worth:Have P w K mg base "is_worth" k ["thing"] (zbE)) (G_ask_for_name:zaT P w K mg base "ask_for_name" k ["name"] (zcT ANoName)) (clH:Cls K AHouse) (nS:zY K AHouse "sources") (nR:zY K AHouse "rules") (x_NoWorth:excIn K ANoWorth vErr "ValueError.__new__" = true) (c_NoWorth:mg "NoWorth" = some (.ref ANoWorth)):FnOk P w K mg base (CX1 P w) (k + 1) f fd ["self","name","worth"] (zjI AHouse ANoName ANoWorth):=by
 refine F.okX zeX (fun vs H Q E h=>?_) (fun cdv A outer s H vs Q E hr h=>?_)
 ·obtain ⟨a,S,R,O,W,v1,v2,rfl,_⟩:=h
  rfl
 obtain ⟨a,S,R,O,W,v1,v,rfl,hs,h⟩:=h
 refine ⟨_,(zd (zq (zbK G_ask_for_name hr zaM rfl (za (pv 1) zb)))
  (zd (zG (ZH (Zm (zu G_is_worth hr rfl (za (pv 2) zb)))) (zf (za9 zaM rfl x_NoWorth c_NoWorth rfl (za zi zb))) zo)
  (zd (zq (zag (Zn (pv 0) rfl) (pv 1) zas ⟨rfl,rfl,rfl,rfl⟩))
  (zf (zcB (zfc hr) (Zn (pv 0) rfl) (pv 1) (pv 2) rfl))))),?_⟩
 rcases h with ⟨z,x,rfl,hz,hv,hok,hsz,hdp,hl,q⟩ | hb | ⟨z,t,rfl,hz,rt,sm,hw,qe⟩
 rotate_left
 ·exact rdNo rfl hb
 ·refine zc9 rfl hz fun H1 s1=>⟨_,rfl,v,t,rfl,rt.mono s1,sm,fun H2 s2=>⟨_,rfl,?_⟩⟩
  rw [hw]
  exact iteT ⟨zl1,qe _ (s1.trans s2)⟩
 refine zc9 rfl hz fun H1 s1=>?_
 have hth:=zjl x hok
 refine ⟨_,rfl,v,x.toT,rfl,(hv.mono (zC s1)).toRT,zh3 x hth,fun H2 s2=>⟨_,rfl,?_⟩⟩
 rw [zfD hok hsz hdp]
 refine iteF ?_
 have h2:=hs.same (s1.trans s2)
 have kb:Kb a.all H H2:=.ofSame (s1.trans s2)
 obtain ⟨dx,ei⟩:=h2.ins
 dsimp only [zc2]
 refine seqI (fun σ' H3=>σ' = [some (.ref a.p),some (.str z),some v]/\Hs AHouse a H3 S (zI R (.inr z)) O W/\Kb a.all H H3) (fun σ' H3 h3=>?_) (fun tl=>?_)
 ·obtain ⟨rfl,h3,k3⟩:=h3
  obtain ⟨dx3,ei3⟩:=h3.ins
  refine ⟨_,rfl,_,rfl,a.p,AHouse,dx3,_,.ref a.s,rfl,ei3,clH,nS,rfl,_,rfl,a.s,_,rfl,.inl ⟨S,.inr z,h3.so,rfl,Nat.lt_trans hl (by decide),rfl⟩,?_⟩
  exact q _ (h3.setS _ (Nat.le_trans (zam S (.inr z) v) hl)) (k3.trans (Kb.upd (by simp [Hd.all])))
 ·refine ⟨_,rfl,a.p,AHouse,dx,_,.ref a.r,rfl,ei,clH,nR,rfl,a.r,rfl,.inl ⟨R,.of h2.ru⟩,_,rfl,R,.inr z,h2.ru,rfl,fun v' _=>tl _ _ ⟨rfl,h2.setR _ (Nat.le_trans (zJ R (.inr z)) h2.fr),kb.trans (Kb.upd (by simp [Hd.all]))⟩,fun hn=>tl _ _ ⟨rfl,?_,kb⟩⟩
  rw [ZG hn]
  exact h2
theorem zb1:FnScope ["self","name","rule"] ["self","name","rule"] (zh zX):=⟨rfl,rfl,rfl,by decide +kernel,rfl,by decide +kernel,by decide +kernel⟩
theorem zb2 (F:Fun K "put_rule" "House.put_rule" zX f fd) (G_is_rule:Have P w K mg base "is_rule" k ["thing"] (zdM)) (G_ask_for_name:zaT P w K mg base "ask_for_name" k ["name"] (zcT ANoName)) (clH:Cls K AHouse) (nS:zY K AHouse "sources") (nR:zY K AHouse "rules") (x_NoRule:excIn K ANoRule vErr "ValueError.__new__" = true) (c_NoRule:mg "NoRule" = some (.ref ANoRule)):FnOk P w K mg base (CX1 P w) (k + 1) f fd ["self","name","rule"] (zgp AHouse ANoName ANoRule):=by
 refine F.okX zb1 (fun vs H Q E h=>?_) (fun cdv A outer s H vs Q E hr h=>?_)
 ·obtain ⟨a,S,R,O,W,v1,v2,rfl,_⟩:=h
  rfl
 obtain ⟨a,S,R,O,W,v1,v,rfl,hs,h⟩:=h
 refine ⟨_,(zd (zq (zbK G_ask_for_name hr zaM rfl (za (pv 1) zb)))
  (zd (zG (ZH (Zm (zu G_is_rule hr rfl (za (pv 2) zb)))) (zf (za9 zaM rfl x_NoRule c_NoRule rfl (za zi zb))) zo)
  (zd (zq (zag (Zn (pv 0) rfl) (pv 1) zas ⟨rfl,rfl,rfl,rfl⟩))
  (zf (zcB (zfc hr) (Zn (pv 0) rfl) (pv 1) (pv 2) rfl))))),?_⟩
 rcases h with ⟨z,x,rfl,hz,hv,hw,gd,hl,q⟩ | hb | ⟨z,t,rfl,hz,rt,sm,hw,qe⟩
 rotate_left
 ·exact rdNo rfl hb
 ·refine zc9 rfl hz fun H1 s1=>⟨_,rfl,v,t,rfl,rt.mono s1,sm,fun b H2 s2 hT hF=>⟨_,rfl,?_⟩⟩
  cases b with
  | true=>exact absurd (hT rfl) hw
  | false=>exact iteT ⟨zl1,qe _ (s1.trans s2)⟩
 refine zc9 rfl hz fun H1 s1=>?_
 refine ⟨_,rfl,v,x.toT,rfl,RW.toRT (RW.mono (zC s1) hv),zmj gd,fun b H2 s2 hT hF=>⟨_,rfl,?_⟩⟩
 cases b with
 | false=>exact absurd hw (hF rfl)
 | true=>
 refine iteF ?_
 have h2:=hs.same (s1.trans s2)
 have kb:Kb a.all H H2:=.ofSame (s1.trans s2)
 obtain ⟨dx,ei⟩:=h2.ins
 dsimp only [zc2]
 refine seqI (fun σ' H3=>σ' = [some (.ref a.p),some (.str z),some v]/\Hs AHouse a H3 (zI S (.inr z)) R O W/\Kb a.all H H3) (fun σ' H3 h3=>?_) (fun tl=>?_)
 ·obtain ⟨rfl,h3,k3⟩:=h3
  obtain ⟨dx3,ei3⟩:=h3.ins
  refine ⟨_,rfl,_,rfl,a.p,AHouse,dx3,_,.ref a.r,rfl,ei3,clH,nR,rfl,_,rfl,a.r,_,rfl,.inl ⟨R,.inr z,h3.ru,rfl,Nat.lt_trans hl (by decide),rfl⟩,?_⟩
  exact q _ (h3.setR _ (Nat.le_trans (zam R (.inr z) v) hl)) (k3.trans (Kb.upd (by simp [Hd.all])))
 ·refine ⟨_,rfl,a.p,AHouse,dx,_,.ref a.s,rfl,ei,clH,nS,rfl,a.s,rfl,.inl ⟨S,.of h2.so⟩,_,rfl,S,.inr z,h2.so,rfl,fun v' _=>tl _ _ ⟨rfl,h2.setS _ (Nat.le_trans (zJ S (.inr z)) h2.fs),kb.trans (Kb.upd (by simp [Hd.all]))⟩,fun hn=>tl _ _ ⟨rfl,?_,kb⟩⟩
  rw [ZG hn]
  exact h2
def addL (z:Str) (l:List Str):List Str:=if z∈l then l else l ++ [z]
def rm (z:Str):List Str->List Str
 | []=>[]
 | x :: r=>if x = z then r else x :: rm z r
theorem zjJ {z:Str}:∀ {l:List Str},z∈l->∃ j,l[j]? = some z/\(∀ m,m < j->l[m]?≠some z)/\l.eraseIdx j = rm z l
 | x :: r,h=>by
  by_cases e:x = z
  ·subst e
   exact ⟨0,rfl,fun m hm=>absurd hm (Nat.not_lt_zero m),by rw [rm,if_pos rfl]; rfl⟩
  ·obtain ⟨j,h1,h2,h3⟩:=zjJ (l:=r) (by rcases List.mem_cons.mp h with h | h; exact absurd h.symm e; exact h)
   refine ⟨j + 1,by rw [List.getElem?_cons_succ]; exact h1,fun m hm=>?_,by rw [rm,if_neg e,List.eraseIdx_cons_succ,h3]⟩
   cases m with
   | zero=>exact fun h=>e (Option.some.inj h)
   | succ m=>rw [List.getElem?_cons_succ]; exact h2 m (by omega)
theorem zjK {z:Str}:∀ {l:List Str},z ∉ l->rm z l = l
 | [],_=>rfl
 | x :: r,h=>by
  rw [rm,if_neg (fun e=>h (by rw [e]; exact List.mem_cons_self ..)),zjK fun m=>h (List.mem_cons_of_mem _ m)]
theorem zgq (z:Str):∀ l:List Str,(rm z l).length<=l.length
 | []=>Nat.le_refl _
 | x :: r=>by
  have:=zgq z r
  rw [rm]
  split
  ·simp
  ·simp only [List.length_cons]; omega
theorem zdO (z:Str) (l:List Str):(addL z l).length<=l.length + 1:=by
 unfold addL
 split
 ·omega
 ·rw [List.length_append]; exact Nat.le_refl _
theorem zad (l:List Str):(l.map V.str).all zcD = true:=by rw [List.all_map]; simp [zcD]
def zlb (AH:Addr):Sp:=fun vs H Q _=>∃ (a:Hd) (S R:Kvs) (O W:List Str) (z:Str),vs = [.ref a.p,.str z]/\Hs AH a H S R O W/\Q (.bl ((valV S (.inr z)).isSome || (valV R (.inr z)).isSome)) H
def zeZ (AH AN AT:Addr):Sp:=fun vs H Q E=>∃ (a:Hd) (S R:Kvs) (O W:List Str) (v1:V),vs = [.ref a.p,v1]/\Hs AH a H S R O W /\
 ((∃ z:Str,v1 = .str z/\Nm z/\((valV S (.inr z)).isSome || (valV R (.inr z)).isSome) = true/\∀ H',Hs AH a H' (zI S (.inr z)) (zI R (.inr z)) O W->Kb a.all H H'->Q .non H')\/BadN H v1 AN E \/
  ∃ z:Str,v1 = .str z/\Nm z/\((valV S (.inr z)).isSome || (valV R (.inr z)).isSome) = false/\∀ H',Same H H'->E (.ref AT) none H')
def zgr (AH AN:Addr):Sp:=fun vs H Q E=>∃ (a:Hd) (S R:Kvs) (O W:List Str) (v1:V),vs = [.ref a.p,v1]/\Hs AH a H S R O W /\
 ((∃ z:Str,v1 = .str z/\Nm z/\O.length < 1000/\∀ H',Hs AH a H' S R (addL z O) W->Kb a.all H H'->Q .non H')\/BadN H v1 AN E)
def zgs (AH AN:Addr):Sp:=fun vs H Q E=>∃ (a:Hd) (S R:Kvs) (O W:List Str) (v1:V),vs = [.ref a.p,v1]/\Hs AH a H S R O W /\
 ((∃ z:Str,v1 = .str z/\Nm z/\∀ H',Hs AH a H' S R (rm z O) W->Kb a.all H H'->Q .non H')\/BadN H v1 AN E)
def zgt (AH AN:Addr):Sp:=fun vs H Q E=>∃ (a:Hd) (S R:Kvs) (O W:List Str) (v1:V),vs = [.ref a.p,v1]/\Hs AH a H S R O W /\
 ((∃ z:Str,v1 = .str z/\Nm z/\W.length < 1000/\∀ H',Hs AH a H' S R O (addL z W)->Kb a.all H H'->Q .non H')\/BadN H v1 AN E)
def zjL (AH AN:Addr):Sp:=fun vs H Q E=>∃ (a:Hd) (S R:Kvs) (O W:List Str) (v1:V),vs = [.ref a.p,v1]/\Hs AH a H S R O W /\
 ((∃ z:Str,v1 = .str z/\Nm z/\∀ H',Hs AH a H' S R O (rm z W)->Kb a.all H H'->Q .non H')\/BadN H v1 AN E)
theorem zbO:FnScope ["self","name"] ["self","name"] (zh zS):=⟨rfl,rfl,rfl,by decide +kernel,rfl,by decide +kernel,by decide +kernel⟩
theorem zbP (F:Fun K "has_thing" "House.has_thing" zS f fd) (clH:Cls K AHouse) (nS:zY K AHouse "sources") (nR:zY K AHouse "rules"):FnOk P w K mg base CX0 (k + 1) f fd ["self","name"] (zlb AHouse):=by
 refine F.okQ zbO (fun vs H Q E h=>?_) (fun cdv A outer s H vs Q E hr h=>?_)
 ·obtain ⟨a,S,R,O,W,z,rfl,_⟩:=h
  rfl
 obtain ⟨a,S,R,O,W,z,rfl,hs,q⟩:=h
 refine ⟨_,(zf (zr (zhe (zd7 (zde (zfc hr) (pv 1) (Zn (pv 0) rfl)) rfl) (Z0 (zd7 (zde (zfc hr) (pv 1) (Zn (pv 0) rfl)) rfl))))),?_⟩
 obtain ⟨dx,ei⟩:=hs.ins
 refine ⟨_,rfl,_,rfl,a.p,AHouse,dx,_,.ref a.s,rfl,ei,clH,nS,rfl,a.s,_,rfl,DGet.k (k:=.inr z) hs.so,_,rfl,?_⟩
 cases hS:(valV S (.inr z)).isSome with
 | true=>
  rw [hS] at q
  exact iteT q
 | false=>
  rw [hS,Bool.false_or] at q
  exact iteF ⟨_,rfl,_,rfl,a.p,AHouse,dx,_,.ref a.r,rfl,ei,clH,nR,rfl,a.r,_,rfl,DGet.k (k:=.inr z) hs.ru,q⟩
theorem zdP:FnScope ["self","name"] ["self","name"] (zh ZC):=⟨rfl,rfl,rfl,by decide +kernel,rfl,by decide +kernel,by decide +kernel⟩
theorem zdQ (F:Fun K "drop" "House.drop" ZC f fd) (G_House_has_thing:zfn P w K mg base AHouse "has_thing" k ["self","name"] (zlb AHouse)) (G_ask_for_name:zaT P w K mg base "ask_for_name" k ["name"] (zcT ANoName)) (clH:Cls K AHouse) (nS:zY K AHouse "sources") (nR:zY K AHouse "rules") (x_NoThing:excIn K ANoThing vErr "ValueError.__new__" = true) (c_NoThing:mg "NoThing" = some (.ref ANoThing)):FnOk P w K mg base (CX1 P w) (k + 1) f fd ["self","name"] (zeZ AHouse ANoName ANoThing):=by
 refine F.okX zdP (fun vs H Q E h=>?_) (fun cdv A outer s H vs Q E hr h=>?_)
 ·obtain ⟨a,S,R,O,W,v1,rfl,_⟩:=h
  rfl
 obtain ⟨a,S,R,O,W,v1,rfl,hs,h⟩:=h
 refine ⟨_,(zd (zq (zbK G_ask_for_name hr zaM rfl (za (pv 1) zb)))
  (zd (zG (ZH (Zm (pe_m G_House_has_thing hr (pv 0) (za (pv 1) zb)))) (zf (za9 zaM rfl x_NoThing c_NoThing rfl (za zi zb))) zo)
  (zd (zq (zag (Zn (pv 0) rfl) (pv 1) zas ⟨rfl,rfl,rfl,rfl⟩))
  (zf (zq (zag (Zn (pv 0) rfl) (pv 1) zas ⟨rfl,rfl,rfl,rfl⟩)))))),?_⟩
 rcases h with ⟨z,rfl,hz,hh,q⟩ | hb | ⟨z,rfl,hz,hh,qe⟩
 rotate_left
 ·exact rdNo rfl hb
 ·refine zc9 rfl hz fun H1 s1=>?_
  have h1:=hs.same s1
  obtain ⟨dx,ei⟩:=h1.ins
  refine ⟨_,rfl,a.p,dx,_,rfl,ei,rfl,_,rfl,a,S,R,O,W,z,rfl,h1,_,rfl,?_⟩
  rw [hh]
  exact iteT ⟨zl1,qe _ s1⟩
 refine zc9 rfl hz fun H1 s1=>?_
 have h1:=hs.same s1
 have kb:Kb a.all H H1:=.ofSame s1
 obtain ⟨dx,ei⟩:=h1.ins
 refine ⟨_,rfl,a.p,dx,_,rfl,ei,rfl,_,rfl,a,S,R,O,W,z,rfl,h1,_,rfl,?_⟩
 rw [hh]
 refine iteF ?_
 dsimp only [zc2]
 refine seqI (fun σ' H3=>σ' = [some (.ref a.p),some (.str z)]/\Hs AHouse a H3 (zI S (.inr z)) R O W/\Kb a.all H H3) (fun σ' H3 h3=>?_) (fun tl=>?_)
 ·obtain ⟨rfl,h3,k3⟩:=h3
  obtain ⟨dx3,ei3⟩:=h3.ins
  refine ⟨_,rfl,a.p,AHouse,dx3,_,.ref a.r,rfl,ei3,clH,nR,rfl,a.r,rfl,.inl ⟨R,.of h3.ru⟩,_,rfl,R,.inr z,h3.ru,rfl,fun v' _=>q _ (h3.setR _ (Nat.le_trans (zJ R (.inr z)) h3.fr)) (k3.trans (Kb.upd (by simp [Hd.all]))),fun hn=>q _ ?_ k3⟩
  rw [ZG hn]
  exact h3
 ·refine ⟨_,rfl,a.p,AHouse,dx,_,.ref a.s,rfl,ei,clH,nS,rfl,a.s,rfl,.inl ⟨S,.of h1.so⟩,_,rfl,S,.inr z,h1.so,rfl,fun v' _=>tl _ _ ⟨rfl,h1.setS _ (Nat.le_trans (zJ S (.inr z)) h1.fs),kb.trans (Kb.upd (by simp [Hd.all]))⟩,fun hn=>tl _ _ ⟨rfl,?_,kb⟩⟩
  rw [ZG hn]
  exact h1
theorem zcc:FnScope ["self","name"] ["self","name"] (zh Zc):=⟨rfl,rfl,rfl,by decide +kernel,rfl,by decide +kernel,by decide +kernel⟩
theorem zcd (F:Fun K "open_up" "House.open_up" Zc f fd) (G_ask_for_name:zaT P w K mg base "ask_for_name" k ["name"] (zcT ANoName)) (clH:Cls K AHouse) (nO:zY K AHouse "opened"):FnOk P w K mg base (CX1 P w) (k + 1) f fd ["self","name"] (zgr AHouse ANoName):=by
 refine F.okX zcc (fun vs H Q E h=>?_) (fun cdv A outer s H vs Q E hr h=>?_)
 ·obtain ⟨a,S,R,O,W,v1,rfl,_⟩:=h
  rfl
 obtain ⟨a,S,R,O,W,v1,rfl,hs,h⟩:=h
 refine ⟨_,(zd (zq (zbK G_ask_for_name hr zaM rfl (za (pv 1) zb)))
  (zf (zG (zm zaP (pv 1) (Zn (pv 0) rfl) (by rfl)) (zf (zq (zav PySem.F.plainAttrs_list PySem.F.slot_list_append PySem.F.type_list_append Zv (Zn (pv 0) rfl) (za (pv 1) zb)))) zo))),?_⟩
 rcases h with ⟨z,rfl,hz,hl,q⟩ | hb
 rotate_left
 ·exact rdNo rfl hb
 refine zc9 rfl hz fun H1 s1=>?_
 have h1:=hs.same s1
 have kb:Kb a.all H H1:=.ofSame s1
 obtain ⟨dx,ei⟩:=h1.ins
 refine ⟨_,rfl,_,rfl,a.p,AHouse,dx,_,.ref a.o,rfl,ei,clH,nO,rfl,a.o,_,rfl,.inl (SqL.of h1.op),rfl,zad O,_,rfl,?_⟩
 show if (!inV (.str z) (O.map V.str)) = true then _ else _
 rw [zal]
 by_cases hm:z∈O
 ·rw [decide_eq_true hm]
  exact iteF (q _ (by rw [addL,if_pos hm]; exact h1) kb)
 ·rw [decide_eq_false hm]
  refine iteT ⟨_,rfl,a.p,AHouse,dx,_,.ref a.o,rfl,ei,clH,nO,rfl,.inl ⟨rfl,_,SqL.of h1.op⟩,_,rfl,a.o,O.map V.str,.str z,rfl,rfl,h1.op,Nat.lt_of_lt_of_le (show (O.map V.str).length < 1000 by rw [List.length_map]; exact hl) (by decide),?_⟩
  refine q _ ?_ (kb.trans (Kb.upd (by simp [Hd.all])))
  have:=h1.setO (addL z O) (Nat.le_trans (zdO z O) hl)
  rw [addL,if_neg hm,List.map_append] at this
  rw [addL,if_neg hm]
  exact this
theorem zdR:FnScope ["self","name"] ["self","name"] (zh ZD):=⟨rfl,rfl,rfl,by decide +kernel,rfl,by decide +kernel,by decide +kernel⟩
theorem zdS (F:Fun K "shut" "House.shut" ZD f fd) (G_ask_for_name:zaT P w K mg base "ask_for_name" k ["name"] (zcT ANoName)) (clH:Cls K AHouse) (nO:zY K AHouse "opened"):FnOk P w K mg base (CX1 P w) (k + 1) f fd ["self","name"] (zgs AHouse ANoName):=by
 refine F.okX zdR (fun vs H Q E h=>?_) (fun cdv A outer s H vs Q E hr h=>?_)
 ·obtain ⟨a,S,R,O,W,v1,rfl,_⟩:=h
  rfl
 obtain ⟨a,S,R,O,W,v1,rfl,hs,h⟩:=h
 refine ⟨_,(zd (zq (zbK G_ask_for_name hr zaM rfl (za (pv 1) zb)))
  (zf (zG (zm ZW (pv 1) (Zn (pv 0) rfl) (by rfl)) (zf (zq (zav PySem.F.plainAttrs_list PySem.F.slot_list_remove PySem.F.type_list_remove zcW (Zn (pv 0) rfl) (za (pv 1) zb)))) zo))),?_⟩
 rcases h with ⟨z,rfl,hz,q⟩ | hb
 rotate_left
 ·exact rdNo rfl hb
 refine zc9 rfl hz fun H1 s1=>?_
 have h1:=hs.same s1
 have kb:Kb a.all H H1:=.ofSame s1
 obtain ⟨dx,ei⟩:=h1.ins
 refine ⟨_,rfl,_,rfl,a.p,AHouse,dx,_,.ref a.o,rfl,ei,clH,nO,rfl,a.o,_,rfl,.inl (SqL.of h1.op),rfl,zad O,_,rfl,?_⟩
 show if inV (.str z) (O.map V.str) = true then _ else _
 rw [zal]
 by_cases hm:z∈O
 ·rw [decide_eq_true hm]
  obtain ⟨j,hj,hmin,he⟩:=zjJ hm
  refine iteT ⟨_,rfl,a.p,AHouse,dx,_,.ref a.o,rfl,ei,clH,nO,rfl,.inl ⟨rfl,_,SqL.of h1.op⟩,_,rfl,a.o,O,z,j,rfl,rfl,h1.op,hj,hmin,?_⟩
  rw [he]
  exact q _ (h1.setO _ (Nat.le_trans (zgq z O) h1.fo)) (kb.trans (Kb.upd (by simp [Hd.all])))
 ·rw [decide_eq_false hm]
  exact iteF (q _ (by rw [zjK hm]; exact h1) kb)
theorem zdT:FnScope ["self","name"] ["self","name"] (zh ZE):=⟨rfl,rfl,rfl,by decide +kernel,rfl,by decide +kernel,by decide +kernel⟩
theorem zdU (F:Fun K "wish" "House.wish" ZE f fd) (G_ask_for_name:zaT P w K mg base "ask_for_name" k ["name"] (zcT ANoName)) (clH:Cls K AHouse) (nW:zY K AHouse "wishes"):FnOk P w K mg base (CX1 P w) (k + 1) f fd ["self","name"] (zgt AHouse ANoName):=by
 refine F.okX zdT (fun vs H Q E h=>?_) (fun cdv A outer s H vs Q E hr h=>?_)
 ·obtain ⟨a,S,R,O,W,v1,rfl,_⟩:=h
  rfl
 obtain ⟨a,S,R,O,W,v1,rfl,hs,h⟩:=h
 refine ⟨_,(zd (zq (zbK G_ask_for_name hr zaM rfl (za (pv 1) zb)))
  (zf (zG (zm zaP (pv 1) (Zn (pv 0) rfl) (by rfl)) (zf (zq (zav PySem.F.plainAttrs_list PySem.F.slot_list_append PySem.F.type_list_append Zv (Zn (pv 0) rfl) (za (pv 1) zb)))) zo))),?_⟩
 rcases h with ⟨z,rfl,hz,hl,q⟩ | hb
 rotate_left
 ·exact rdNo rfl hb
 refine zc9 rfl hz fun H1 s1=>?_
 have h1:=hs.same s1
 have kb:Kb a.all H H1:=.ofSame s1
 obtain ⟨dx,ei⟩:=h1.ins
 refine ⟨_,rfl,_,rfl,a.p,AHouse,dx,_,.ref a.w,rfl,ei,clH,nW,rfl,a.w,_,rfl,.inl (SqL.of h1.wi),rfl,zad W,_,rfl,?_⟩
 show if (!inV (.str z) (W.map V.str)) = true then _ else _
 rw [zal]
 by_cases hm:z∈W
 ·rw [decide_eq_true hm]
  exact iteF (q _ (by rw [addL,if_pos hm]; exact h1) kb)
 ·rw [decide_eq_false hm]
  refine iteT ⟨_,rfl,a.p,AHouse,dx,_,.ref a.w,rfl,ei,clH,nW,rfl,.inl ⟨rfl,_,SqL.of h1.wi⟩,_,rfl,a.w,W.map V.str,.str z,rfl,rfl,h1.wi,Nat.lt_of_lt_of_le (show (W.map V.str).length < 1000 by rw [List.length_map]; exact hl) (by decide),?_⟩
  refine q _ ?_ (kb.trans (Kb.upd (by simp [Hd.all])))
  have:=h1.setW (addL z W) (Nat.le_trans (zdO z W) hl)
  rw [addL,if_neg hm,List.map_append] at this
  rw [addL,if_neg hm]
  exact this
theorem zcX:FnScope ["self","name"] ["self","name"] (zh Zk):=⟨rfl,rfl,rfl,by decide +kernel,rfl,by decide +kernel,by decide +kernel⟩
theorem zcY (F:Fun K "let_go" "House.let_go" Zk f fd) (G_ask_for_name:zaT P w K mg base "ask_for_name" k ["name"] (zcT ANoName)) (clH:Cls K AHouse) (nW:zY K AHouse "wishes"):FnOk P w K mg base (CX1 P w) (k + 1) f fd ["self","name"] (zjL AHouse ANoName):=by
 refine F.okX zcX (fun vs H Q E h=>?_) (fun cdv A outer s H vs Q E hr h=>?_)
 ·obtain ⟨a,S,R,O,W,v1,rfl,_⟩:=h
  rfl
 obtain ⟨a,S,R,O,W,v1,rfl,hs,h⟩:=h
 refine ⟨_,(zd (zq (zbK G_ask_for_name hr zaM rfl (za (pv 1) zb)))
  (zf (zG (zm ZW (pv 1) (Zn (pv 0) rfl) (by rfl)) (zf (zq (zav PySem.F.plainAttrs_list PySem.F.slot_list_remove PySem.F.type_list_remove zcW (Zn (pv 0) rfl) (za (pv 1) zb)))) zo))),?_⟩
 rcases h with ⟨z,rfl,hz,q⟩ | hb
 rotate_left
 ·exact rdNo rfl hb
 refine zc9 rfl hz fun H1 s1=>?_
 have h1:=hs.same s1
 have kb:Kb a.all H H1:=.ofSame s1
 obtain ⟨dx,ei⟩:=h1.ins
 refine ⟨_,rfl,_,rfl,a.p,AHouse,dx,_,.ref a.w,rfl,ei,clH,nW,rfl,a.w,_,rfl,.inl (SqL.of h1.wi),rfl,zad W,_,rfl,?_⟩
 show if inV (.str z) (W.map V.str) = true then _ else _
 rw [zal]
 by_cases hm:z∈W
 ·rw [decide_eq_true hm]
  obtain ⟨j,hj,hmin,he⟩:=zjJ hm
  refine iteT ⟨_,rfl,a.p,AHouse,dx,_,.ref a.w,rfl,ei,clH,nW,rfl,.inl ⟨rfl,_,SqL.of h1.wi⟩,_,rfl,a.w,W,z,j,rfl,rfl,h1.wi,hj,hmin,?_⟩
  rw [he]
  exact q _ (h1.setW _ (Nat.le_trans (zgq z W) h1.fw)) (kb.trans (Kb.upd (by simp [Hd.all])))
 ·rw [decide_eq_false hm]
  exact iteF (q _ (by rw [zjK hm]; exact h1) kb)
def spHI (AH:Addr):Sp:=fun vs H Q _=>∃ (p dx:Addr),vs = [.ref p]/\H p = some (.ins AH dx [])/\∀ (a:Hd) (H':Hp),a.p = p->Hs AH a H' [] [] [] []->(∀ c o,c≠p->H c = some o->H' c = some o)->H a.s = none->H a.r = none->H a.o = none->H a.w = none->Q .non H'
theorem zmk (s r o w:Addr):putF "wishes" (.ref w) (putF "opened" (.ref o) (putF "rules" (.ref r) (putF "sources" (.ref s) []))) = fH s r o w:=by
 with_unfolding_all rfl
theorem zb3:FnScope ["self"] ["self"] (zh zW):=⟨rfl,rfl,rfl,by decide +kernel,rfl,by decide +kernel,by decide +kernel⟩
theorem zb4 (F:Fun K "__init__" "House.__init__" zW f fd) (clH:Cls K AHouse) (nS:zY K AHouse "sources") (nR:zY K AHouse "rules") (nO:zY K AHouse "opened") (nW:zY K AHouse "wishes"):FnOk P w K mg base CX0 (k + 1) f fd ["self"] (spHI AHouse):=by
 refine F.okQ zb3 (fun vs H Q E h=>?_) (fun cdv A outer s H vs Q E hr h=>?_)
 ·obtain ⟨p,dx,rfl,_⟩:=h
  rfl
 obtain ⟨p,dx,rfl,hp,q⟩:=h
 refine ⟨_,(zd (zdd (pv 0) zaA rfl)
  (zd (zdd (pv 0) zaA rfl)
  (zd (zdd (pv 0) (zL zb) rfl)
  (zf (zdd (pv 0) (zL zb) rfl))))),?_⟩
 refine fun s hs=>⟨_,rfl,p,AHouse,dx,[],rfl,?_,clH,nS,(by show 0 < 1000; decide),?_⟩
 ·rw [zg (zk hp hs)]; exact hp
 have ns:p≠s:=zk hp hs
 refine fun r hr'=>?_
 have n1:p≠r:=fun z=>by rw [← z,zc] at hr'; cases hr'
 have n2:s≠r:=fun z=>by rw [← z,zg ns.symm,zc] at hr'; cases hr'
 have hr0:H r = none:=by rw [zg n1.symm,zg n2.symm] at hr'; exact hr'
 refine ⟨_,rfl,p,AHouse,dx,_,rfl,(by rw [zg n1,zc]),clH,nR,(by show 1 < 1000; decide),?_⟩
 refine ⟨zl0,fun o ho=>?_⟩
 have n3:p≠o:=fun z=>by rw [← z,zc] at ho; cases ho
 have n4:r≠o:=fun z=>by rw [← z,zg n1.symm,zc] at ho; cases ho
 have n5:s≠o:=fun z=>by rw [← z,zg ns.symm,zg n2,zg ns.symm,zc] at ho; cases ho
 have ho0:H o = none:=by rw [zg n3.symm,zg n4.symm,zg n3.symm,zg n5.symm] at ho; exact ho
 refine ⟨_,rfl,p,AHouse,dx,_,rfl,(by rw [zg n3,zc]),clH,nO,(by show 2 < 1000; decide),?_⟩
 refine ⟨zl0,fun w' hw=>?_⟩
 have n6:p≠w':=fun z=>by rw [← z,zc] at hw; cases hw
 have n7:o≠w':=fun z=>by rw [← z,zg n3.symm,zc] at hw; cases hw
 have n8:r≠w':=fun z=>by rw [← z,zg n1.symm,zg n4,zg n1.symm,zc] at hw; cases hw
 have n9:s≠w':=fun z=>by rw [← z,zg ns.symm,zg n5,zg ns.symm,zg n2,zg ns.symm,zc] at hw; cases hw
 have hw0:H w' = none:=by rw [zg n6.symm,zg n7.symm,zg n6.symm,zg n8.symm,zg n6.symm,zg n9.symm] at hw; exact hw
 refine ⟨_,rfl,p,AHouse,dx,_,rfl,(by rw [zg n6,zc]),clH,nW,(by show 3 < 1000; decide),?_⟩
 refine q ⟨p,s,r,o,w'⟩ _ rfl ⟨⟨dx,zc.trans (congrArg (fun z=>some (HO.ins AHouse dx z)) (zmk s r o w'))⟩,?_,?_,?_,?_,n2,n7,Nat.zero_le _,Nat.zero_le _,Nat.zero_le _,Nat.zero_le _⟩ (fun c u hc e=>?_) hs hr0 ho0 hw0
 ·show upd _ p _ s = _
  rw [zg ns.symm,zg n9,zg ns.symm,zg n5,zg ns.symm,zg n2,zg ns.symm,zc]
 ·show upd _ p _ r = _
  rw [zg n1.symm,zg n8,zg n1.symm,zg n4,zg n1.symm,zc]
 ·show upd _ p _ o = _
  rw [zg n3.symm,zg n7,zg n3.symm,zc]; rfl
 ·show upd _ p _ w' = _
  rw [zg n6.symm,zc]; rfl
 ·rw [zg hc,zg (zk e hw0),zg hc,zg (zk e ho0),zg hc,zg (zk e hr0),zg hc,zg (zk e hs)]
  exact e
end
end D
namespace L2
open PySem PySem.Spec PyProof.Rows
theorem zjM {X:Cx}:OpR X (binaryOp .Mult) (fun x y H Q=>∃ (z:Str) (k:Int),x = .str z/\y = .int k/\(k = 0\/k = 1)/\∀ r:Str,(r.cps.toList = []\/r.cps.toList = z.cps.toList)->Q (.str r) H):=by
 intro zp s σ H x y v u Q I rx ry h
 obtain ⟨z,k,rfl,rfl,hk,q⟩:=h
 obtain ⟨t,rfl⟩:=rx
 obtain ⟨t',rfl⟩:=ry
 have hok:MulOk z k:=by
  rcases hk with rfl | rfl
  ·exact ⟨by decide,fun h=>absurd (by decide) h,fun h=>absurd (by decide) h⟩
  ·exact ⟨by decide,fun _ h=>by simp at h,fun _ h=>by simp at h⟩
 refine PySem.SB.mul hok fun t' tk=>⟨.str _,H,I.tok tk,⟨_,rfl⟩,q _ ?_⟩
 rcases hk with rfl | rfl
 ·left
  unfold PySem.Txt.mul
  rw [if_pos (by decide)]
  rfl
 ·right
  unfold PySem.Txt.mul
  rw [if_neg (by decide),if_pos (by simp)]
end L2
namespace D
open PySem L2
theorem zlc:zaq.length = 36:=by decide +kernel
theorem zjN (cs:List Nat):Txt.join (Str.ofString "") (cs.map fun c=>(⟨#[c]⟩:Str)) = ⟨cs.toArray⟩:=zgS cs
theorem zjO (cs:List Nat):((cs.map fun c=>(⟨#[c]⟩:Str)).map (·.length)).sum = cs.length:=by
 induction cs with
 | nil=>rfl
 | cons c r ih=>
  rw [List.map_cons,List.map_cons,List.sum_cons,ih,List.length_cons]
  show 1 + r.length = r.length + 1
  omega
theorem at36 {i:Int} (h0:0<=i) (h1:i < 36):∃ c,atI zaq.cps.toList i = some c/\in36 c = true:=by
 obtain ⟨c,h,hm⟩:=zk6 (z:=zaq) h0 (by rw [zlc]; exact h1)
 exact ⟨c,h,decide_eq_true hm⟩
def zfF:Sp:=fun vs H Q _=>∃ (b:Addr) (n:Int),vs = [.ref b,.int n]/\Zd H b/\0<=n/\n<=100 /\
 ∀ (l:Addr) (ws:List Str) (H':Hp),H l = none->Step b H H'->H' l = some (.lst (ws.map V.str))->ws.length = n.toNat->(∀ z∈ws,Wd z)->Q (.ref l) H'
section
variable {P:Program}{w:World}{K:PySem.W.Frag}{mg:Str->Option Value}{base:Heap}{f:Addr}{fd:FuncData}{k n:Nat}{ANoName AHouse ANoWorth ANoRule ANoThing zN ANoStep ANoRow AForgeError:Addr}
theorem ZK:FnScope ["_law_box_here","_law_total","_law_signs","_law_wide","_law_spot","_law_letters","_law_first_here","_law_more","_law_found","_law_k"] ["_law_box_here","_law_total"] (zh zch):=⟨rfl,rfl,rfl,by decide +kernel,rfl,by decide +kernel,by decide +kernel⟩
theorem zis (F:Fun K "_law_likes" "_law_likes" zch f fd) (G_ltake:Have P w K mg base "_law_take" k ["_law_box_here","_law_wide"] (Z9)) (m_range:mg "range" = none):FnOk P w K mg base CX0 (k + 1) f fd ["_law_box_here","_law_total"] (zfF):=by
 refine F.okQ ZK (fun vs H Q E h=>?_) (fun cdv A outer s H vs Q E hr h=>?_)
 ·obtain ⟨b,n,rfl,_⟩:=h
  rfl
 obtain ⟨b,n,rfl,hb,hn0,hn1,q⟩:=h
 refine ⟨_,(zd (zn (i:=2) ZK.nd rfl (Or.inr rfl) zi)
  (zd (zn (i:=3) ZK.nd rfl (Or.inl rfl) (zw Zi ze (zu G_ltake hr rfl (za (pv 0) (za ze zb)))))
  (zd (zn (i:=4) ZK.nd rfl (Or.inl rfl) (zu G_ltake hr rfl (za (pv 0) (za (pv 3) zb))))
  (zd (zfm (i:=5) [2,0] ["_law_signs","_law_box_here"] rfl rfl (by decide +kernel) rfl (by decide +kernel) rfl (by decide +kernel) ⟨rfl,rfl,trivial⟩ rfl ⟨⟨rfl,rfl,Or.inr (Or.inl rfl),(by show (some NameKind.cell:Option NameKind)≠some .local; decide),⟨_,rfl⟩⟩,⟨rfl,rfl,Or.inr (Or.inl rfl),(by show (some NameKind.cell:Option NameKind)≠some .local; decide),⟨_,rfl⟩⟩,trivial⟩ (Zs rfl m_range (za (pv 3) zb)) (fun C s H fp=>⟨Zx,(zx zhE (pv 1) (zu G_ltake hr rfl (za (pv 2) (za ze zb))) (fun _ _=>rfl))⟩) ZK.nd rfl (Or.inl rfl))
  (zd (zn (i:=6) ZK.nd rfl (Or.inl rfl) (zu G_ltake hr rfl (za (pv 0) (za ze zb))))
  (zd (zn (i:=7) ZK.nd rfl (Or.inl rfl) (zu G_ltake hr rfl (za (pv 0) (za ze zb))))
  (zd (zn (i:=8) ZK.nd rfl (Or.inl rfl) (zL zb))
  (zd (Z1 PassesOwn.never rfl (Zs rfl m_range (za (pv 1) zb)) (zV (i:=9) ZK.nd rfl (Or.inl rfl)) (zd (zbc (zx zhE (pv 2) (zw zaK (zw Zi (pv 6) (zw zbn ze (pv 9))) ze) (fun _ _=>rfl)) (zcw (pv 5) (pv 4) zbr))
  (zf (zq (zav PySem.F.plainAttrs_list PySem.F.slot_list_append PySem.F.type_list_append Zv (pv 8) (za (zw Zj (zav PySem.F.plainAttrs_str PySem.F.slot_str_join PySem.F.type_str_join zkU zi (za (pv 5) zb)) (zw zjM zi (zw zbn (pv 7) (zw zaK (pv 9) ze)))) zb))))))
  (zf (zr (pv 8))))))))))),?_⟩
 refine ⟨_,rfl,b,11,rfl,hb,by decide,by decide,fun wd H1 w0 w1 st1=>⟨_,_,rfl,rfl,?_⟩⟩
 refine ⟨_,rfl,_,rfl,b,1 + wd,rfl,st1.box,by omega,Int.lt_of_le_of_lt (show 1 + wd<=11 by omega) (by decide),fun sp H2 sp0 sp1 st2=>?_⟩
 have st12:=st1.trans st2
 refine ⟨_,rfl,1 + wd,rfl,by omega,by omega,zgj (n:=1 + wd) (fun i us H'=>∃ cs:List Nat,us = cs.map (fun c=>V.str ⟨#[c]⟩)/\cs.length = i/\(∀ c∈cs,in36 c = true)/\Step b H H') ⟨[],rfl,rfl,(fun c h=>nomatch h),st12⟩ (fun i us H' h=>?_) (by omega) (fun i us H' R hi h r=>?_) (fun us H' D h hD=>?_)⟩
 ·obtain ⟨cs,rfl,hl,_⟩:=h
  rw [List.length_map]; exact hl
 ·obtain ⟨cs,rfl,hl,hc,st⟩:=h
  refine ⟨_,rfl,_,rfl,b,36,rfl,st.box,by decide,by decide,fun r2 H5 a0 a1 st5=>?_⟩
  obtain ⟨c,ec,hcc⟩:=at36 a0 a1
  refine ⟨_,r2,c,rfl,rfl,small (by rw [show (Str.ofString "abcdefghijklmnopqrstuvwxyz0123456789").length = 36 from zlc]; decide),ec,r _ _ ⟨cs ++ [c],by rw [List.map_append]; rfl,by rw [List.length_append,hl]; rfl,fun x hx=>?_,st.trans st5⟩⟩
  rcases List.mem_append.mp hx with hx | hx
  ·exact hc x hx
  ·rw [List.mem_singleton.mp hx]; exact hcc
 obtain ⟨cs,rfl,hl,hc,st3⟩:=h
 have eD:upd H' D (.lst (cs.map fun c=>V.str ⟨#[c]⟩)) D = some (.lst (cs.map fun c=>V.str ⟨#[c]⟩)):=zc
 have st4:=st3.trans (Step.new (o:=.lst (cs.map fun c=>V.str ⟨#[c]⟩)) st3.box hD)
 have nDb:D≠b:=Zd.ne st3.box hD
 generalize upd H' D (.lst (cs.map fun c=>V.str ⟨#[c]⟩)) = H4 at eD st4
 refine ⟨_,rfl,b,36,rfl,st4.box,by decide,by decide,fun fi H5 f0 f1 st5=>?_⟩
 refine ⟨_,rfl,b,2,rfl,st5.box,by decide,by decide,fun mo H6 m0 m1 st6=>?_⟩
 refine ⟨zl0,fun l hlf=>?_⟩
 have st46:=st5.trans st6
 have hl6:∀ {c o},c≠b->H4 c = some o->H6 c = some o:=fun h e=>st46.keep _ _ h e
 have s7:=Same.new (o:=.lst []) hlf
 have nlb:l≠b:=Zd.ne st6.box hlf
 have hl0:H l = none:=by
  cases e:H l with
  | none=>rfl
  | some o=>rw [(st4.trans st46).keep l o nlb e] at hlf; cases hlf
 have nDl:D≠l:=zk (hl6 nDb eD) hlf
 have e7:upd H6 l (.lst []) l = some (.lst []):=zc
 have eD7:=s7 _ _ (hl6 nDb eD)
 generalize hH7:upd H6 l (.lst []) = H7 at s7 e7 eD7
 have hD0:H D = none:=by
  cases e:H D with
  | none=>rfl
  | some o=>rw [st3.keep D o nDb e] at hD; cases hD
 refine ⟨_,rfl,n,rfl,by omega,by omega,zat (lo:=0) (n:=n.toNat) (fun i σ' H8=>∃ (o9:Option V) (cs':List Nat) (ws:List Str),σ' = [some (.ref b),some (.int n),some (.str "abcdefghijklmnopqrstuvwxyz0123456789"),some (.int (1 + wd)),some (.int sp),some (.ref D),some (.int fi),some (.int mo),some (.ref l),o9]/\H8 D = some (.lst (cs'.map fun c=>V.str ⟨#[c]⟩))/\cs'.length = (1 + wd).toNat/\(∀ c∈cs',in36 c = true)/\H8 l = some (.lst (ws.map V.str))/\ws.length = i/\(∀ z∈ws,Wd z)/\∀ c o,c≠D->c≠l->H7 c = some o->H8 c = some o)
  ⟨none,cs,[],rfl,eD7,hl,hc,e7,rfl,(fun z h=>nomatch h),fun c o _ _ e=>e⟩ (fun i σ' H8 hi h=>?_) (fun σ' H8 h=>?_)⟩
 ·obtain ⟨o9,cs',ws,rfl,eD8,hcl,hcc,el8,hwl,hww,kp⟩:=h
  have hi':(i:Int) < 100:=by omega
  have md:0<=(fi + 7 * (0 + (i:Int))) % 36/\(fi + 7 * (0 + (i:Int))) % 36 < 36:=by omega
  obtain ⟨c,ec,hc36⟩:=at36 md.1 md.2
  refine ⟨_,rfl,_,rfl,_,rfl,_,_,rfl,rfl,.inl ⟨by decide,by decide⟩,_,_,rfl,rfl,_,_,rfl,rfl,(by show (0:Int) < 36; decide),_,_,c,rfl,rfl,small (by rw [show (Str.ofString "abcdefghijklmnopqrstuvwxyz0123456789").length = 36 from zlc]; decide),ec,?_⟩
  have hsl:sp.toNat < cs'.length:=by omega
  have hix:ixN (cs'.map fun c=>V.str ⟨#[c]⟩).length sp = some sp.toNat:=by
   unfold ixN
   rw [List.length_map,if_pos sp0,if_pos (by omega)]
  refine ⟨_,rfl,_,rfl,D,_,sp,sp.toNat,rfl,rfl,eD8,hix,?_⟩
  have eset:(cs'.map fun c=>V.str ⟨#[c]⟩).set sp.toNat (.str ⟨#[c]⟩) = (cs'.set sp.toNat c).map fun c=>V.str ⟨#[c]⟩:=by rw [List.map_set]
  rw [eset]
  have hcc':∀ x∈cs'.set sp.toNat c,in36 x = true:=fun x hx=>by
   rcases List.mem_or_eq_of_mem_set hx with h | h
   ·exact hcc x h
   ·rw [h]; exact hc36
  have hcl':(cs'.set sp.toNat c).length = (1 + wd).toNat:=by rw [List.length_set]; exact hcl
  generalize cs'.set sp.toNat c = cs2 at hcc' hcl'
  have el9:upd H8 D (.lst (cs2.map fun c=>V.str ⟨#[c]⟩)) l = some (.lst (ws.map V.str)):=by rw [zg nDl.symm]; exact el8
  have eD9:upd H8 D (.lst (cs2.map fun c=>V.str ⟨#[c]⟩)) D = some (.lst ((cs2.map fun c=>(⟨#[c]⟩:Str)).map V.str)):=by rw [zc,List.map_map]; rfl
  refine ⟨_,rfl,.inl ⟨rfl,_,SqL.of el9⟩,rfl,_,rfl,_,D,cs2.map fun c=>(⟨#[c]⟩:Str),rfl,rfl,SqL.of eD9,?_,?_⟩
  ·rw [zjO,List.length_map,show (Str.ofString "").length = 0 from by decide +kernel]
   omega
  rw [zjN]
  have hmk:mo * ((0 + (i:Int)) % 2) = 0\/mo * ((0 + (i:Int)) % 2) = 1:=by
   have h1:mo = 0\/mo = 1:=by omega
   rcases h1 with rfl | rfl
   ·left; simp
   ·rw [Int.one_mul]; omega
  refine ⟨_,rfl,_,rfl,_,_,rfl,rfl,(by show (0:Int) < 2; decide),_,_,rfl,rfl,.inl ⟨by omega,by omega⟩,_,_,rfl,rfl,hmk,fun r hr0=>?_⟩
  have hrl:r.cps.toList.length<=1/\∀ x∈r.cps.toList,in36 x = true:=by
   have e0:(Str.ofString "0").cps.toList = [48]:=by decide +kernel
   rcases hr0 with h | h
   ·rw [h]; exact ⟨Nat.zero_le _,fun x hx=>nomatch hx⟩
   ·rw [h,e0]; exact ⟨Nat.le_refl _,fun x hx=>by rw [List.mem_singleton.mp hx]; decide +kernel⟩
  have hcs:(⟨cs2.toArray⟩:Str).cps.toList = cs2:=by show cs2.toArray.toList = cs2; rw [List.toList_toArray]
  have hcl2:(⟨cs2.toArray⟩:Str).length = cs2.length:=by rw [← zM,hcs]
  have hrl2:r.length<=1:=by rw [← zM]; exact hrl.1
  have hwd:Wd (⟨cs2.toArray⟩ ++ r):=by
   have hl':(⟨cs2.toArray⟩ ++ r:Str).length = cs2.length + r.length:=by rw [← zM,zO,List.length_append,zM,zM,hcl2]
   refine ⟨by rw [hl']; omega,by rw [hl']; omega,fun x hx=>?_⟩
   rw [zO,hcs] at hx
   rcases List.mem_append.mp hx with hx | hx
   ·exact hcc' x hx
   ·exact hrl.2 x hx
  refine ⟨_,_,rfl,rfl,small (by rw [hcl2]; omega),l,ws.map V.str,_,rfl,rfl,el9,small (by rw [List.length_map]; omega),?_⟩
  refine ⟨_,cs2,ws ++ [⟨cs2.toArray⟩ ++ r],rfl,?_,hcl',hcc',by rw [zc,List.map_append]; rfl,by rw [List.length_append,hwl]; rfl,fun z hz=>?_,fun c' o h1 h2 e=>?_⟩
  ·rw [zg nDl,zc]
  ·rcases List.mem_append.mp hz with hz | hz
   ·exact hww z hz
   ·rw [List.mem_singleton.mp hz]; exact hwd
  ·rw [zg h2,zg h1]; exact kp c' o h1 h2 e
 ·obtain ⟨o9,cs',ws,rfl,eD8,hcl,hcc,el8,hwl,hww,kp⟩:=h
  refine ⟨_,rfl,q l ws H8 hl0 ⟨?_,fun c o hc e=>?_⟩ el8 hwl hww⟩
  ·obtain ⟨x,y,z,e⟩:=st6.box
   exact ⟨x,y,z,kp _ _ nDb.symm nlb.symm (s7 _ _ e)⟩
  ·exact kp _ _ (zk e hD0) (zk e hl0) (s7 _ _ (hl6 hc (st4.keep _ _ hc e)))
theorem zmM {vs:List V} (k:Nat):cutV vs none (some (k:Int)) = vs.take k:=by
 show (vs.drop 0).take (HT.sIx vs.length vs.length (some ((k:Nat):Int)) - 0) = _
 rw [HT.sIx_nat,Nat.sub_zero,List.drop_zero]
 by_cases h:k<=vs.length
 ·rw [Nat.min_eq_left h]
 ·rw [Nat.min_eq_right (by omega),List.take_of_length_le (Nat.le_refl _),List.take_of_length_le (by omega)]
theorem Wd.nm {r w:Str} (h1:Wd r) (h2:Wd w):Nm (r ++ dot ++ w):=⟨r,w,rfl,h1,h2⟩
def zfG:Sp:=fun vs H Q _=>∃ (b:Addr) (m:Int),vs = [.ref b,.int m]/\Zd H b/\2<=m/\m<=100 /\
 ∀ (l:Addr) (ns:List Str) (H':Hp),H l = none->Step b H H'->H' l = some (.lst (ns.map V.str))->ns≠[]->ns.length<=15/\(ns.length:Int)<=m->(∀ z∈ns,Nm z)->Q (.ref l) H'
theorem zaY:FnScope ["_law_box_here","_law_most","_law_rooms","_law_names_here","_law_word"] ["_law_box_here","_law_most"] (zh zci):=⟨rfl,rfl,rfl,by decide +kernel,rfl,by decide +kernel,by decide +kernel⟩
theorem zit (F:Fun K "_law_names" "_law_names" zci f fd) (G_ltake:Have P w K mg base "_law_take" k ["_law_box_here","_law_wide"] (Z9)) (G_llikes:Have P w K mg base "_law_likes" k ["_law_box_here","_law_total"] (zfF)):FnOk P w K mg base CX0 (k + 1) f fd ["_law_box_here","_law_most"] (zfG):=by
 refine F.okQ zaY (fun vs H Q E h=>?_) (fun cdv A outer s H vs Q E hr h=>?_)
 ·obtain ⟨b,m,rfl,_⟩:=h
  rfl
 obtain ⟨b,m,rfl,hb,hm0,hm1,q⟩:=h
 refine ⟨_,(zd (zn (i:=2) zaY.nd rfl (Or.inl rfl) (zu G_llikes hr rfl (za (pv 0) (za (zw Zi ze (zu G_ltake hr rfl (za (pv 0) (za ze zb)))) zb))))
  (zd (zn (i:=3) zaY.nd rfl (Or.inl rfl) (zL zb))
  (zd (Z1 PassesOwn.never rfl (zaz (zu G_llikes hr rfl (za (pv 0) (za (zw Zi ze (zu G_ltake hr rfl (za (pv 0) (za ze zb)))) zb)))) (zV (i:=4) zaY.nd rfl (Or.inr rfl)) (zf (zn (i:=3) zaY.nd rfl (Or.inl rfl) (zw zcG (pv 3) (Zy [4] ["_law_word"] rfl rfl (by decide +kernel) rfl (by decide +kernel) rfl (by decide +kernel) ⟨rfl,trivial⟩ rfl ⟨⟨rfl,rfl,Or.inr (Or.inl rfl),(by show (some NameKind.cell:Option NameKind)≠some .local; decide),⟨_,rfl⟩⟩,trivial⟩ (zaz (pv 2)) (fun C s H fp=>⟨Zx,(zw Zj (zw Zj (pv 0) zi) (pv 1))⟩))))))
  (zf (zr (zbq zkD (pv 3) zdq (zbU (zw Zi ze (zu G_ltake hr rfl (za (pv 0) (za (zw Z2 (pv 1) ze) zb))))))))))),?_⟩
 refine ⟨_,rfl,_,rfl,b,3,rfl,hb,by decide,by decide,fun r1 H1 a0 a1 st1=>⟨_,_,rfl,rfl,b,1 + r1,rfl,st1.box,by omega,by omega,fun lr rooms H2 hlr st2 er hrl hrw=>⟨zl0,fun l0 hl0=>?_⟩⟩⟩
 have st12:=st1.trans st2
 have nrb:lr≠b:=Zd.ne st1.box hlr
 have st3:=st12.trans (Step.new (o:=.lst []) st2.box hl0)
 have e0:upd H2 l0 (.lst []) l0 = some (.lst []):=zc
 have er3:=Same.new (o:=.lst []) hl0 _ _ er
 have n0b:l0≠b:=Zd.ne st2.box hl0
 generalize upd H2 l0 (.lst []) = H3 at st3 e0 er3
 refine ⟨_,rfl,_,rfl,b,4,rfl,st3.box,by decide,by decide,fun r2 H4 c0 c1 st4=>⟨_,_,rfl,rfl,b,2 + r2,rfl,st4.box,by omega,by omega,fun lw words H5 hlw st5 ew hwl hww=>?_⟩⟩
 have st45:=st4.trans st5
 have st35:=st3.trans st45
 have er5:=st45.keep lr _ nrb er3
 have e05:=st45.keep l0 _ n0b e0
 have hrn:rooms.length<=3/\1<=rooms.length:=by omega
 have hwn:words.length<=5/\2<=words.length:=by omega
 refine ⟨lw,rfl,⟨_,SqL.of ew⟩,zbm (K:=K) (xs:=words.map V.str) (fun i σ' H'=>∃ (o4:Option V) (ln:Addr) (ns:List Str),σ' = [some (.ref b),some (.int m),some (.ref lr),some (.ref ln),o4]/\H' ln = some (.lst (ns.map V.str))/\(∀ z∈ns,Nm z)/\ns.length = i * rooms.length/\Same H5 H')
  ⟨none,l0,[],rfl,e05,(fun z h=>nomatch h),by simp,Same.refl _⟩ (fun i σ' H' _ h=>?_) (fun i x σ' H' hx h=>?_) (fun σ' H' h=>?_)⟩
 ·obtain ⟨_,_,_,_,_,_,_,s6⟩:=h
  exact SqL.of (s6 _ _ ew)
 ·obtain ⟨o4,ln,ns,rfl,en,hnm,hnl,s6⟩:=h
  rw [List.getElem?_map] at hx
  obtain ⟨wd,hwd,rfl⟩:=Option.map_eq_some_iff.mp hx
  have hw:=hww wd (List.mem_of_getElem? hwd)
  have hi:i < words.length:=(List.getElem?_eq_some_iff.mp hwd).1
  have hnl':ns.length<=15:=by
   rw [hnl]
   exact Nat.le_trans (Nat.mul_le_mul (show i<=5 by omega) hrn.1) (by decide)
  refine ⟨_,rfl,_,rfl,lr,rfl,⟨_,SqL.of (s6 _ _ er5)⟩,zjy (K:=K) (rooms.map fun r=>V.str (r ++ dot ++ wd)) (SqL.of (s6 _ _ er5)) (by rw [List.length_map,List.length_map]) (small (by rw [List.length_map]; omega)) (fun j v y H7 R hv hy s7 hR=>?_) (fun H7 D s7 hD=>?_)⟩
  ·rw [List.getElem?_map] at hv hy
   obtain ⟨ro,hro,rfl⟩:=Option.map_eq_some_iff.mp hv
   rw [hro] at hy
   cases hy
   have hr:=hrw ro (List.mem_of_getElem? hro)
   have h1:=hr.hi
   have h2:=hw.hi
   have hd1:(ro ++ dot).length = ro.length + 1:=by rw [← zM,zO,List.length_append,zM,zM,zbi]
   refine ⟨_,rfl,_,_,rfl,rfl,small (by rw [show (Str.ofString ".").length = 1 from zbi]; omega),_,rfl,_,_,rfl,rfl,small (by rw [show (ro ++ Str.ofString ".").length = ro.length + 1 from hd1]; omega),hR _ (Same.refl _)⟩
  ·have s8:=s7.trans (Same.new (o:=.lst (rooms.map fun r=>V.str (r ++ dot ++ wd))) hD)
   refine ⟨ln,D,ns.map V.str,rooms.map fun r=>V.str (r ++ dot ++ wd),rfl,rfl,s8 _ _ en,zc,small (by rw [List.length_map,List.length_map]; omega),fun p hp=>?_⟩
   refine ⟨_,p,ns ++ rooms.map (fun r=>r ++ dot ++ wd),rfl,by rw [zc,List.map_append,List.map_map]; rfl,fun z hz=>?_,?_,s6.trans (s8.trans (Same.new hp))⟩
   ·rcases List.mem_append.mp hz with hz | hz
    ·exact hnm z hz
    ·obtain ⟨r,hr,rfl⟩:=List.mem_map.mp hz
     exact (hrw r hr).nm hw
   ·rw [List.length_append,List.length_map,hnl,Nat.add_mul]; omega
 ·obtain ⟨o4,ln,ns,rfl,en,hnm,hnl,s6⟩:=h
  rw [List.length_map] at hnl
  have hnl2:2<=ns.length:=by
   rw [hnl]
   exact Nat.le_trans (by decide:2<=2 * 1) (Nat.mul_le_mul hwn.2 hrn.2)
  have hnl3:ns.length<=15:=by
   rw [hnl]
   exact Nat.le_trans (Nat.mul_le_mul hwn.1 hrn.1) (by decide)
  have st6:=st35.trans (Step.ofSame' st5.box s6)
  refine ⟨_,rfl,_,rfl,_,rfl,_,_,rfl,rfl,b,m - 1,rfl,st6.box,by omega,Int.lt_of_le_of_lt (show m - 1<=100 by omega) (by decide),fun r3 H7 d0 d1 st7=>⟨_,_,rfl,rfl,_,rfl,?_⟩⟩
  have nlb:ln≠b:=fun h=>by
   obtain ⟨x,y,z,e⟩:=st6.box
   rw [h,e] at en
   cases ns with
   | nil=>cases en
   | cons a r=>cases en
  refine ⟨ln,_,rfl,SqL.of (st7.keep ln _ nlb en),fun p hp=>?_⟩
  have st8:=st7.trans (Step.new (o:=.lst (cutV (ns.map V.str) none (some (2 + r3)))) st7.box hp)
  have hpb:p≠b:=Zd.ne st7.box hp
  have ecut:cutV (ns.map V.str) none (some (2 + r3)) = (ns.take (2 + r3).toNat).map V.str:=by
   have:=zmM (vs:=ns.map V.str) (2 + r3).toNat
   rw [show (((2 + r3).toNat:Nat):Int) = 2 + r3 by omega] at this
   rw [this,List.map_take]
  have st68:=st6.trans st8
  have hpH:H p = none:=by
   cases e:H p with
   | none=>rfl
   | some o=>rw [(st6.trans st7).keep p o hpb e] at hp; cases hp
  refine q p (ns.take (2 + r3).toNat) _ hpH st68 (by rw [zc,ecut]) (fun h=>?_) ⟨Nat.le_trans (by rw [List.length_take]; omega) (Nat.le_refl 15),by rw [List.length_take]; omega⟩ (fun z hz=>hnm z (List.mem_of_mem_take hz))
  have:=congrArg List.length h
  rw [List.length_take,List.length_nil] at this
  omega
theorem ze0:∀ c∈zaq.cps.toList,32<=c/\c<=126/\c≠34/\c≠37:=by decide +kernel
theorem Nm.ok {z:Str} (h:Nm z):(W.txt z).Ok:=by
 have hl:=h.len
 obtain ⟨r,w,rfl,h1,h2⟩:=h
 refine ⟨by omega,fun c hc=>?_⟩
 rw [zO,zO] at hc
 rcases List.mem_append.mp hc with hc | hc
 ·rcases List.mem_append.mp hc with hc | hc
  ·exact ze0 c (of_decide_eq_true (h1.at' c hc))
  ·rw [zb5] at hc
   have:c = 46:=by simpa using hc
   subst this
   decide
 ·exact ze0 c (of_decide_eq_true (h2.at' c hc))
def RuOk (x:Rl):Prop:=x.Gd/\x.high<=12/\x.many<=60/\unb [] x = []/\x.rep<=2
theorem RuOk.rule {x:Rl} (h:RuOk x):zeU x.toT:=⟨x,rfl,h⟩
def litG (x:W):Prop:=x.Ok/\x.size<=1000/\x.depth<=3
theorem litG.gd {x:W} (h:litG x):(Rl.lit x).Gd:=by rw [Rl.Gd]; exact ⟨h.1,h.2.1,Nat.le_trans h.2.2 (by decide)⟩
theorem Nm.lit {z:Str} (h:Nm z):litG (.txt z):=⟨h.ok,by have:=h.len; simp only [W.size]; omega,Nat.zero_le _⟩
def zaZ (z:Str):Rl:=.op .look [] [.lit (.txt z)]
theorem zki {x:W} (h:litG x):RuOk (.lit x):=by
 refine ⟨h.gd,?_,?_,by rw [unb],by rw [Rl.rep]; exact Nat.zero_le _⟩
 ·rw [Rl.high]; exact Nat.zero_le _
 ·rw [Rl.many]; decide
theorem zdV {z:Str} (h:Nm z):(zaZ z).Gd:=by
 unfold zaZ
 rw [Rl.Gd,Gds,Gds]
 exact ⟨⟨rfl,rfl,rfl,(fun z h=>nomatch h),List.nodup_nil,(fun h=>nomatch h),fun _=>rfl⟩,h.lit.gd,trivial⟩
theorem zbQ (z:Str):(zaZ z).high = 1:=by unfold zaZ; rw [Rl.high,highs,highs,Rl.high]; rfl
theorem zbR (z:Str):(zaZ z).many = 2:=by unfold zaZ; rw [Rl.many,manys,manys,Rl.many]
theorem zcq (z:Str) (b:List Str):unb b (zaZ z) = []:=by unfold zaZ; rw [unb,unbs,unb]
theorem zcr (z:Str):(zaZ z).rep = 0:=by unfold zaZ; rw [Rl.rep,reps,Rl.rep]; rfl
theorem zld {z:Str} (h:Nm z):RuOk (zaZ z):=⟨zdV h,by rw [zbQ]; decide,by rw [zbR]; decide,zcq z [],by rw [zcr]; decide⟩
theorem zkj {d:Wo}{p q:Rl} (hd:wLit d = false/\wVar d = false/\bcnt d = 0/\(zbL d = false->pcnt d = 2)/\wEO d = false) (gp:p.Gd) (gq:q.Gd) (hp:p.high<=1) (hq:q.high<=1) (mp:p.many<=2) (mq:q.many<=2) (up:∀ b,unb b p = []) (uq:∀ b,unb b q = []) (rp:p.rep = 0) (rq:q.rep = 0):RuOk (.op d [] [p,q]):=by
 refine ⟨?_,?_,?_,?_,?_⟩
 ·rw [Rl.Gd,Gds,Gds,Gds]
  exact ⟨⟨hd.1,hd.2.1,hd.2.2.1.symm,(fun z h=>nomatch h),List.nodup_nil,(fun _=>by show 2<=8; decide),fun h=>(hd.2.2.2.1 h).symm⟩,gp,gq,trivial⟩
 ·rw [Rl.high,highs,highs,highs]
  omega
 ·rw [Rl.many,manys,manys,manys]
  omega
 ·rw [unb,unbs,unbs,up,uq]
  rfl
 ·rw [Rl.rep,reps,reps,rp,rq,hd.2.2.2.2]
  decide
theorem RW.tri {H:Hp}{a:Addr}{u1 u2 u3:V}{w1 w2 w3:W} (e:H a = some (.tup [u1,u2,u3])) (r1:RW H u1 w1) (r2:RW H u2 w2) (r3:RW H u3 w3):RW H (.ref a) (.lst [w1,w2,w3]):=
 .lst e rfl fun i v w hv hw=>match i,hv,hw with
  | 0,hv,hw=>by
   have a1:u1 = v:=by simpa using hv
   have a2:w1 = w:=by simpa using hw
   rw [← a1,← a2]; exact r1
  | 1,hv,hw=>by
   have a1:u2 = v:=by simpa using hv
   have a2:w2 = w:=by simpa using hw
   rw [← a1,← a2]; exact r2
  | 2,hv,hw=>by
   have a1:u3 = v:=by simpa using hv
   have a2:w3 = w:=by simpa using hw
   rw [← a1,← a2]; exact r3
  | j + 3,hv,hw=>by simp at hv
structure Nms (H:Hp) (b l:Addr) (ns:List Str):Prop where
 at':H l = some (.lst (ns.map V.str))
 ne:l≠b
 ne0:ns≠[]
 few:ns.length<=15
 nm:∀ z∈ns,Nm z
def NmI (ns:List Str) (z:Str):Prop:=Nm z/\z∈ns
theorem Nms.step {H H':Hp}{b l:Addr}{ns:List Str} (h:Nms H b l ns) (st:Step b H H'):Nms H' b l ns:=⟨st.keep l _ h.ne h.at',h.ne,h.ne0,h.few,h.nm⟩
theorem Nms.pick {H:Hp}{b l:Addr}{ns:List Str} (h:Nms H b l ns) {r:Int} (h0:0<=r) (h1:r < ((ns.map V.str).length:Nat)):∃ z,atI (ns.map V.str) r = some (.str z)/\NmI ns z:=by
 rw [List.length_map] at h1
 have hl:r.toNat < ns.length:=by omega
 refine ⟨ns[r.toNat],?_,h.nm _ (List.getElem_mem hl),List.getElem_mem hl⟩
 have:=zH (xs:=ns.map V.str) (j:=r.toNat) (v:=.str ns[r.toNat]) (by rw [List.getElem?_map,List.getElem?_eq_getElem hl]; rfl)
 rw [show ((r.toNat:Nat):Int) = r by omega] at this
 exact this
theorem Nms.pos {H:Hp}{b l:Addr}{ns:List Str} (h:Nms H b l ns):(0:Int) < ((ns.map V.str).length:Nat)/\(((ns.map V.str).length:Nat):Int) < 10 ^ 61:=by
 have h1:=h.few
 have h2:ns.length≠0:=fun z=>h.ne0 (List.length_eq_zero_iff.mp z)
 rw [List.length_map]
 refine ⟨by omega,Int.lt_of_le_of_lt (show (ns.length:Int)<=200 by omega) (by decide)⟩
def zdW:Sp:=fun vs H Q _=>∃ (b l:Addr) (ns:List Str),vs = [.ref b,.ref l]/\Zd H b/\Nms H b l ns/\∀ (v:V) (x:Rl) (H':Hp),RW H' v x.toW->RuOk x->Step b H H'->Q v H'
theorem zdX:FnScope ["_law_box_here","_law_names_here","_law_kind","_law_look"] ["_law_box_here","_law_names_here"] (zh zdu):=⟨rfl,rfl,rfl,by decide +kernel,rfl,by decide +kernel,by decide +kernel⟩
theorem zjP (F:Fun K "_law_rule" "_law_rule" zdu f fd) (G_ltake:Have P w K mg base "_law_take" k ["_law_box_here","_law_wide"] (Z9)) (G_lnumber:Have P w K mg base "_law_number" k ["_law_box_here"] (za8)) (G_lworth:Have P w K mg base "_law_worth" k ["_law_box_here","_law_room","_law_deep"] (zbV 13)) (m_len:mg "len" = none):FnOk P w K mg base CX0 (k + 1) f fd ["_law_box_here","_law_names_here"] (zdW):=by
 refine F.okQ zdX (fun vs H Q E h=>?_) (fun cdv A outer s H vs Q E hr h=>?_)
 ·obtain ⟨b,l,ns,rfl,_⟩:=h
  rfl
 obtain ⟨b,l,ns,rfl,hb,hn,q⟩:=h
 refine ⟨_,(zd (zn (i:=2) zdX.nd rfl (Or.inl rfl) (zu G_ltake hr rfl (za (pv 0) (za ze zb))))
  (zd (zG (zm Za (pv 2) ze (nomark _)) (zf (zr (zt (za zi (za (zu G_lworth hr rfl (za (pv 0) (za ze (za ze zb)))) zb))))) zo)
  (zd (zn (i:=3) zdX.nd rfl (Or.inl rfl) (zt (za zi (za (zt (za zi (za (zx zE (pv 1) (zu G_ltake hr rfl (za (pv 0) (za (zl zD rfl m_len PySem.boot_len (za (pv 1) zb)) zb))) (fun _ _=>rfl)) zb))) zb))))
  (zd (zG (zm Za (pv 2) ze (nomark _)) (zf (zr (pv 3))) zo)
  (zd (zG (zm Za (pv 2) ze (nomark _)) (zf (zr (zt (za zi (za (pv 3) (za (zt (za zi (za (zu G_lnumber hr rfl (za (pv 0) zb)) zb))) zb)))))) zo)
  (zf (zr (zt (za zi (za (pv 3) (za (zt (za zi (za (zt (za zi (za (zx zE (pv 1) (zu G_ltake hr rfl (za (pv 0) (za (zl zD rfl m_len PySem.boot_len (za (pv 1) zb)) zb))) (fun _ _=>rfl)) zb))) zb))) zb))))))))))),?_⟩
 refine ⟨_,rfl,b,4,rfl,hb,by decide,by decide,fun kd H1 k0 k1 st1=>?_⟩
 refine ⟨_,rfl,rfl,_,rfl,ite2 (fun c=>?_) (fun c=>?_)⟩
 ·refine ⟨_,rfl,b,8,2,rfl,st1.box,by decide,by decide,by decide,by decide,fun v x H2 rv ok dp sz st2=>⟨zl2,fun p hp=>?_⟩⟩
  have s3:=Same.new (o:=.tup [.str "lit",v]) hp
  exact q _ (.lit x) _ (by rw [Rl.toW]; exact RW.pair zc (.txt _) (rv.mono (zC s3))) (zki ⟨ok,by omega,by omega⟩) (st1.trans (st2.trans (Step.ofSame' st2.box s3)))
 have n1:=hn.step st1
 refine ⟨_,rfl,_,rfl,_,rfl,_,_,rfl,.inl ⟨_,SqL.of n1.at',rfl⟩,b,_,rfl,st1.box,n1.pos.1,n1.pos.2,fun r H2 r0 r1 st2=>?_⟩
 obtain ⟨z,ez,hz,_⟩:=n1.pick r0 r1
 have n2:=n1.step st2
 refine ⟨l,_,r,_,rfl,rfl,SqL.of n2.at',ez,zl2,fun p1 hp1=>⟨zl2,fun p2 hp2=>?_⟩⟩
 have s3:=Same.new (o:=.tup [.str "lit",.str z]) hp1
 have s4:=Same.new (o:=.tup [.str "look",.ref p1]) hp2
 have e1:upd H2 p1 (.tup [.str "lit",.str z]) p1 = some (.tup [.str "lit",.str z]):=zc
 have rwl:RW (upd (upd H2 p1 (.tup [.str "lit",.str z])) p2 (.tup [.str "look",.ref p1])) (.ref p2) (zaZ z).toW:=by
  unfold zaZ
  rw [Rl.toW]
  simp only [List.map_nil,List.nil_append,rlWs]
  refine RW.pair zc (.txt _) ?_
  rw [Rl.toW]
  exact RW.pair (s4 _ _ e1) (.txt _) (.txt _)
 have st4:=st1.trans (st2.trans (Step.ofSame' st2.box (s3.trans s4)))
 generalize upd (upd H2 p1 (.tup [.str "lit",.str z])) p2 (.tup [.str "look",.ref p1]) = H4 at rwl st4
 refine ⟨_,rfl,rfl,_,rfl,ite2 (fun c1=>?_) (fun c1=>?_)⟩
 ·exact ⟨_,rfl,q _ _ _ rwl (zld hz) st4⟩
 refine ⟨_,rfl,rfl,_,rfl,ite2 (fun c2=>?_) (fun c2=>?_)⟩
 ·refine ⟨_,rfl,_,rfl,b,rfl,st4.box,fun i H5 i0 i1 st5=>⟨zl2,fun p3 hp3=>⟨zl3,fun p4 hp4=>?_⟩⟩⟩
  have s6:=Same.new (o:=.tup [.str "lit",.int i]) hp3
  have s7:=Same.new (o:=.tup [.str "else",.ref p2,.ref p3]) hp4
  have e3:upd H5 p3 (.tup [.str "lit",.int i]) p3 = some (.tup [.str "lit",.int i]):=zc
  have rw5:=RW.mono (fun c vs e=>s7 _ _ (s6 _ _ (st5.keep c _ (fun z=>by obtain ⟨x,y,w',eb⟩:=st4.box; rw [z,eb] at e; cases e) e))) rwl
  have hok:litG (.num i):=⟨⟨i0,i1⟩,by simp only [W.size]; decide,Nat.zero_le _⟩
  refine q _ (.op .elsew [] [zaZ z,.lit (.num i)]) _ ?_ (zkj ⟨rfl,rfl,rfl,fun _=>rfl,rfl⟩ (zdV hz) hok.gd (by rw [zbQ]; decide) (by rw [Rl.high]; decide) (by rw [zbR]; decide) (by rw [Rl.many]; decide) (zcq z) (fun b=>by rw [unb]) (zcr z) (by rw [Rl.rep])) (st4.trans (st5.trans (Step.ofSame' st5.box (s6.trans s7))))
  rw [Rl.toW]
  simp only [List.map_nil,List.nil_append,rlWs]
  refine RW.tri zc (.txt _) rw5 ?_
  rw [Rl.toW]
  exact RW.pair (s7 _ _ e3) (.txt _) (.num _)
 ·have n4:=hn.step st4
  refine ⟨_,rfl,_,rfl,_,rfl,_,rfl,_,_,rfl,.inl ⟨_,SqL.of n4.at',rfl⟩,b,_,rfl,st4.box,n4.pos.1,n4.pos.2,fun r' H5 r0' r1' st5=>?_⟩
  obtain ⟨z',ez',hz',_⟩:=n4.pick r0' r1'
  have n5:=n4.step st5
  refine ⟨l,_,r',_,rfl,rfl,SqL.of n5.at',ez',zl2,fun p3 hp3=>⟨zl2,fun p4 hp4=>⟨zl3,fun p5 hp5=>?_⟩⟩⟩
  have s6:=Same.new (o:=.tup [.str "lit",.str z']) hp3
  have s7:=Same.new (o:=.tup [.str "look",.ref p3]) hp4
  have s8:=Same.new (o:=.tup [.str "list",.ref p2,.ref p4]) hp5
  have e3:upd H5 p3 (.tup [.str "lit",.str z']) p3 = some (.tup [.str "lit",.str z']):=zc
  have e4:upd (upd H5 p3 (.tup [.str "lit",.str z'])) p4 (.tup [.str "look",.ref p3]) p4 = some (.tup [.str "look",.ref p3]):=zc
  have s68:=s6.trans (s7.trans s8)
  have rw5:=RW.mono (fun c vs e=>s68 _ _ (st5.keep c _ (fun z=>by obtain ⟨x,y,w',eb⟩:=st4.box; rw [z,eb] at e; cases e) e)) rwl
  refine q _ (.op .list [] [zaZ z,zaZ z']) _ ?_ (zkj ⟨rfl,rfl,rfl,(fun h=>nomatch h),rfl⟩ (zdV hz) (zdV hz') (by rw [zbQ]; decide) (by rw [zbQ]; decide) (by rw [zbR]; decide) (by rw [zbR]; decide) (zcq z) (zcq z') (zcr z) (zcr z')) (st4.trans (st5.trans (Step.ofSame' st5.box s68)))
  rw [Rl.toW]
  simp only [List.map_nil,List.nil_append,rlWs]
  refine RW.tri zc (.txt _) rw5 ?_
  unfold zaZ
  rw [Rl.toW]
  simp only [List.map_nil,List.nil_append,rlWs]
  refine RW.pair (s8 _ _ e4) (.txt _) ?_
  rw [Rl.toW]
  exact RW.pair (s8 _ _ (s7 _ _ e3)) (.txt _) (.txt _)
inductive Dw where
 | drop | opn | shut | wish | lt
def Dw.s:Dw->Str
 | .drop=>"drop"
 | .opn=>"open"
 | .shut=>"shut"
 | .wish=>"wish"
 | .lt=>"let"
inductive Dd where
 | put (z:Str) (x:W)
 | rule (z:Str) (x:Rl)
 | one (d:Dw) (z:Str)
def Dd.toW:Dd->W
 | .put z x=>.lst [.txt "put",.txt z,x]
 | .rule z x=>.lst [.txt "rule",.txt z,x.toW]
 | .one d z=>.lst [.txt d.s,.txt z]
def Dd.Ok (ns:List Str):Dd->Prop
 | .put z x=>NmI ns z/\x.Ok/\x.size<=1000/\x.depth<=12
 | .rule z x=>NmI ns z/\RuOk x
 | .one _ z=>NmI ns z
def ziu:Sp:=fun vs H Q _=>∃ (b l:Addr) (ns:List Str),vs = [.ref b,.ref l]/\Zd H b/\Nms H b l ns/\∀ (v:V) (d:Dd) (H':Hp),RW H' v d.toW->d.Ok ns->Step b H H'->Q v H'
theorem zmN {i:Int} (h0:0<=i) (h1:i < 6):∃ d:Dw,atI [V.str "drop",V.str "open",V.str "shut",V.str "wish",V.str "wish",V.str "let"] i = some (.str d.s):=by
 have:i = 0\/i = 1\/i = 2\/i = 3\/i = 4\/i = 5:=by omega
 rcases this with rfl | rfl | rfl | rfl | rfl | rfl
 ·exact ⟨.drop,rfl⟩
 ·exact ⟨.opn,rfl⟩
 ·exact ⟨.shut,rfl⟩
 ·exact ⟨.wish,rfl⟩
 ·exact ⟨.wish,rfl⟩
 ·exact ⟨.lt,rfl⟩
theorem zdY:FnScope ["_law_box_here","_law_names_here","_law_name","_law_kind"] ["_law_box_here","_law_names_here"] (zh zdv):=⟨rfl,rfl,rfl,by decide +kernel,rfl,by decide +kernel,by decide +kernel⟩
theorem zjQ (F:Fun K "_law_deed" "_law_deed" zdv f fd) (G_lrule:Have P w K mg base "_law_rule" k ["_law_box_here","_law_names_here"] (zdW)) (G_lworth:Have P w K mg base "_law_worth" k ["_law_box_here","_law_room","_law_deep"] (zbV 13)) (G_ltake:Have P w K mg base "_law_take" k ["_law_box_here","_law_wide"] (Z9)) (m_len:mg "len" = none):FnOk P w K mg base CX0 (k + 1) f fd ["_law_box_here","_law_names_here"] (ziu):=by
 refine F.okQ zdY (fun vs H Q E h=>?_) (fun cdv A outer s H vs Q E hr h=>?_)
 ·obtain ⟨b,l,ns,rfl,_⟩:=h
  rfl
 obtain ⟨b,l,ns,rfl,hb,hn,q⟩:=h
 refine ⟨_,(zd (zn (i:=2) zdY.nd rfl (Or.inl rfl) (zx zE (pv 1) (zu G_ltake hr rfl (za (pv 0) (za (zl zD rfl m_len PySem.boot_len (za (pv 1) zb)) zb))) (fun _ _=>rfl)))
  (zd (zn (i:=3) zdY.nd rfl (Or.inl rfl) (zu G_ltake hr rfl (za (pv 0) (za ze zb))))
  (zd (zG (zm zgA (pv 3) ze (nomark _)) (zf (zr (zt (za zi (za (pv 2) (za (zu G_lworth hr rfl (za (pv 0) (za ze (za ze zb)))) zb)))))) zo)
  (zd (zG (zm zgA (pv 3) ze (nomark _)) (zf (zr (zt (za zi (za (pv 2) (za (zu G_lrule hr rfl (za (pv 0) (za (pv 1) zb))) zb)))))) zo)
  (zf (zr (zt (za (zx zE (zL (za zi (za zi (za zi (za zi (za zi (za zi zb))))))) (zw Z2 (pv 3) ze) (fun _ _=>rfl)) (za (pv 2) zb))))))))),?_⟩
 refine ⟨_,rfl,_,rfl,_,rfl,_,_,rfl,.inl ⟨_,SqL.of hn.at',rfl⟩,b,_,rfl,hb,hn.pos.1,hn.pos.2,fun r H1 r0 r1 st1=>?_⟩
 obtain ⟨z,ez,hz⟩:=hn.pick r0 r1
 have n1:=hn.step st1
 refine ⟨l,_,r,_,rfl,rfl,SqL.of n1.at',ez,?_⟩
 refine ⟨_,rfl,b,12,rfl,st1.box,by decide,by decide,fun kd H2 k0 k1 st2=>?_⟩
 have n2:=n1.step st2
 have st12:=st1.trans st2
 refine ⟨_,rfl,_,_,rfl,rfl,_,rfl,ite2 (fun c=>?_) (fun c=>?_)⟩
 ·refine ⟨_,rfl,_,rfl,b,10,2,rfl,st2.box,by decide,by decide,by decide,by decide,fun v x H3 rv ok dp sz st3=>⟨zl3,fun p hp=>?_⟩⟩
  have s4:=Same.new (o:=.tup [.str "put",.str z,v]) hp
  exact q _ (.put z x) _ (RW.tri zc (.txt _) (.txt _) (rv.mono (zC s4))) ⟨hz,ok,by omega,by omega⟩ (st12.trans (st3.trans (Step.ofSame' st3.box s4)))
 refine ⟨_,rfl,_,_,rfl,rfl,_,rfl,ite2 (fun c1=>?_) (fun c1=>?_)⟩
 ·refine ⟨_,rfl,_,rfl,_,rfl,b,l,ns,rfl,st2.box,n2,fun v x H3 rv ok st3=>⟨zl3,fun p hp=>?_⟩⟩
  have s4:=Same.new (o:=.tup [.str "rule",.str z,v]) hp
  exact q _ (.rule z x) _ (RW.tri zc (.txt _) (.txt _) (rv.mono (zC s4))) ⟨hz,ok⟩ (st12.trans (st3.trans (Step.ofSame' st3.box s4)))
 ·have c2:¬ kd < 6:=of_decide_eq_false (Bool.eq_false_iff.mpr c1)
  refine ⟨zl6,fun p0 hp0=>?_⟩
  have s3:=Same.new (o:=.lst [V.str "drop",V.str "open",V.str "shut",V.str "wish",V.str "wish",V.str "let"]) hp0
  obtain ⟨d,ed⟩:=zmN (i:=kd - 6) (by omega) (by omega)
  refine ⟨_,rfl,_,_,rfl,rfl,p0,_,kd - 6,_,rfl,rfl,SqL.of zc,ed,_,rfl,zl2,fun p hp=>?_⟩
  have s4:=s3.trans (Same.new (o:=.tup [.str d.s,.str z]) hp)
  exact q _ (.one d z) _ (RW.pair zc (.txt _) (.txt _)) hz (st12.trans (Step.ofSame' st2.box s4))
structure FI (b ld:Addr) (ns:List Str) (H1:Hp) (m:Nat) (H:Hp) (vs:List V) (ds:List Dd):Prop where
 box:Zd H b
 at':H ld = some (.lst vs)
 rw:RWs H vs (ds.map Dd.toW)
 ok:∀ d∈ds,d.Ok ns
 few:ds.length<=m
 kp:∀ c o,c≠b->c≠ld->H1 c = some o->H c = some o
theorem ze1 {b:Addr}{H H':Hp} (hb:Zd H b) (st:Step b H H'):Tups H H':=fun c vs e=>st.keep c _ (fun z=>by obtain ⟨x,y,w',eb⟩:=hb; rw [z,eb] at e; cases e) e
section
variable {b ld:Addr}{ns:List Str}{H1 H H':Hp}{m:Nat}{vs:List V}{ds:List Dd}
theorem FI.step (h:FI b ld ns H1 m H vs ds) (n:ld≠b) (st:Step b H H'):FI b ld ns H1 m H' vs ds:=
 ⟨st.box,st.keep ld _ n h.at',h.rw.mono (ze1 h.box st),h.ok,h.few,fun c o h1 h2 e=>st.keep c o h1 (h.kp c o h1 h2 e)⟩
theorem FI.more (h:FI b ld ns H1 m H vs ds) {m':Nat} (e:m<=m'):FI b ld ns H1 m' H vs ds:=⟨h.box,h.at',h.rw,h.ok,Nat.le_trans h.few e,h.kp⟩
theorem FI.app (h:FI b ld ns H1 m H vs ds) (n:ld≠b) {v:V}{d:Dd} (hv:RW H v d.toW) (hd:d.Ok ns):FI b ld ns H1 (m + 1) (upd H ld (.lst (vs ++ [v]))) (vs ++ [v]) (ds ++ [d]):=by
 have t:=zak (o:=.lst (vs ++ [v])) h.at'
 refine ⟨?_,zc,?_,fun x hx=>?_,by rw [List.length_append]; exact Nat.succ_le_succ h.few,fun c o h1 h2 e=>by rw [zg h2]; exact h.kp c o h1 h2 e⟩
 ·obtain ⟨x,y,z,e⟩:=h.box
  exact ⟨x,y,z,by rw [zg n.symm]; exact e⟩
 ·rw [List.map_append]
  exact (h.rw.mono t).snoc (hv.mono t)
 ·rcases List.mem_append.mp hx with hx | hx
  ·exact h.ok x hx
  ·rw [List.mem_singleton.mp hx]; exact hd
theorem FI.new (h:FI b ld ns H1 m H vs ds) (n:ld≠b) (st:Step b H H') {p:Addr} (hp:H' p = none) {us:List V}{d:Dd} (hv:RW (upd H' p (.tup us)) (.ref p) d.toW) (hd:d.Ok ns):
  upd H' p (.tup us) ld = some (.lst vs)/\FI b ld ns H1 (m + 1) (upd (upd H' p (.tup us)) ld (.lst (vs ++ [.ref p]))) (vs ++ [.ref p]) (ds ++ [d]):=by
 have h2:=(h.step n st).step n (Step.ofSame' st.box (Same.new (o:=.tup us) hp))
 exact ⟨h2.at',h2.app n hv hd⟩
theorem FI.len (h:FI b ld ns H1 m H vs ds):vs.length<=m:=by rw [h.rw.len,List.length_map]; exact h.few
end
theorem RWs.cat {H:Hp}{us vs:List V}{xs ys:List W} (h:RWs H us xs) (g:RWs H vs ys):RWs H (us ++ vs) (xs ++ ys):=by
 refine ⟨by rw [List.length_append,List.length_append,h.len,g.len],fun i v w e1 e2=>?_⟩
 by_cases hi:i < us.length
 ·rw [List.getElem?_append_left hi] at e1
  rw [List.getElem?_append_left (h.len ▸ hi)] at e2
  exact h.at' i v w e1 e2
 ·rw [List.getElem?_append_right (by omega)] at e1
  rw [List.getElem?_append_right (by have:=h.len; omega)] at e2
  rw [h.len] at e1
  exact g.at' _ v w e1 e2
def zfH:Sp:=fun vs H Q _=>∃ (b l:Addr) (ns:List Str),vs = [.ref b,.ref l]/\Zd H b/\Nms H b l ns/\∀ (p:Addr) (us:List V) (ds:List Dd) (H':Hp),H p = none->H' p = some (.lst us)->RWs H' us (ds.map Dd.toW)->(∀ d∈ds,d.Ok ns)->ds.length<=800->Step b H H'->Q (.ref p) H'
theorem zbS:FnScope ["_law_box_here","_law_names_here","_law_deeds","_law_name","_law_kind"] ["_law_box_here","_law_names_here"] (zh zcj):=⟨rfl,rfl,rfl,by decide +kernel,rfl,by decide +kernel,by decide +kernel⟩
theorem ziv (F:Fun K "_law_first" "_law_first" zcj f fd) (G_ltake:Have P w K mg base "_law_take" k ["_law_box_here","_law_wide"] (Z9)) (G_lrule:Have P w K mg base "_law_rule" k ["_law_box_here","_law_names_here"] (zdW)) (G_lworth:Have P w K mg base "_law_worth" k ["_law_box_here","_law_room","_law_deep"] (zbV 13)) (m_len:mg "len" = none) (m_range:mg "range" = none):FnOk P w K mg base CX0 (k + 1) f fd ["_law_box_here","_law_names_here"] (zfH):=by
 refine F.okQ zbS (fun vs H Q E h=>?_) (fun cdv A outer s H vs Q E hr h=>?_)
 ·obtain ⟨b,l,ns,rfl,_⟩:=h
  rfl
 obtain ⟨b,l,ns,rfl,hb,hn,q⟩:=h
 refine ⟨_,(zd (zn (i:=2) zbS.nd rfl (Or.inl rfl) (zL zb))
  (zd (Z1 PassesOwn.never rfl (zaz (pv 1)) (zV (i:=3) zbS.nd rfl (Or.inl rfl)) (zd (zn (i:=4) zbS.nd rfl (Or.inl rfl) (zu G_ltake hr rfl (za (pv 0) (za ze zb))))
  (zd (zG (PW.pt (zbe (zm Za (pv 4) ze (nomark _)) (zaN (zm Za (pv 4) ze (nomark _))))) (zf (zq (zav PySem.F.plainAttrs_list PySem.F.slot_list_append PySem.F.type_list_append Zv (pv 2) (za (zt (za zi (za (pv 3) (za (zu G_lworth hr rfl (za (pv 0) (za ze (za ze zb)))) zb)))) zb)))) zo)
  (zd (zG (zm zea (pv 4) ze (nomark _)) (zf (zq (zav PySem.F.plainAttrs_list PySem.F.slot_list_append PySem.F.type_list_append Zv (pv 2) (za (zt (za zi (za (pv 3) (za (zu G_lrule hr rfl (za (pv 0) (za (pv 1) zb))) zb)))) zb)))) zo)
  (zf (zG (zm Za (zu G_ltake hr rfl (za (pv 0) (za ze zb))) ze (nomark _)) (zf (zq (zav PySem.F.plainAttrs_list PySem.F.slot_list_append PySem.F.type_list_append Zv (pv 2) (za (zt (za zi (za (pv 3) zb))) zb)))) zo))))))
  (zf (zr (zw zcG (pv 2) (Zy [1,0] ["_law_names_here","_law_box_here"] rfl rfl (by decide +kernel) rfl (by decide +kernel) rfl (by decide +kernel) ⟨rfl,rfl,trivial⟩ rfl ⟨⟨rfl,rfl,Or.inr (Or.inl rfl),(by show (some NameKind.cell:Option NameKind)≠some .local; decide),⟨_,rfl⟩⟩,⟨rfl,rfl,Or.inr (Or.inl rfl),(by show (some NameKind.cell:Option NameKind)≠some .local; decide),⟨_,rfl⟩⟩,trivial⟩ (Zs rfl m_range (za (zw Zi ze (zu G_ltake hr rfl (za (pv 0) (za ze zb)))) zb)) (fun C s H fp=>⟨Zx,(zt (za zi (za (zx (show IxR _ (rIxL K) from zE) (pv 1) (zu G_ltake hr rfl (za (pv 2) (za (zl (show zau _ (.builtin "len") (rLen K) from zD) rfl m_len PySem.boot_len (za (pv 1) zb)) zb))) (fun _ _=>rfl)) zb)))⟩))))))),?_⟩
 refine ⟨zl0,fun ld hld=>?_⟩
 have nlb:ld≠b:=Zd.ne hb hld
 have nll:l≠ld:=zk hn.at' hld
 have s1:=Same.new (o:=.lst []) hld
 have fi0:FI b ld ns H 0 (upd H ld (.lst [])) [] []:=⟨(Step.ofSame' hb s1).box,zc,⟨rfl,fun i v w e=>by simp at e⟩,(fun d h=>nomatch h),Nat.le_refl _,fun c o _ _ e=>s1 _ _ e⟩
 generalize upd H ld (.lst []) = H0 at fi0
 have nmOf:∀ {m H' vs ds},FI b ld ns H m H' vs ds->Nms H' b l ns:=fun fi=>⟨fi.kp l _ hn.ne nll hn.at',hn.ne,hn.ne0,hn.few,hn.nm⟩
 have h200:=hn.few
 refine ⟨_,rfl,l,rfl,⟨_,SqL.of (nmOf fi0).at'⟩,zbm (K:=K) (xs:=ns.map V.str) (fun i σ' H'=>∃ (o3 o4:Option V) (vs:List V) (ds:List Dd),σ' = [some (.ref b),some (.ref l),some (.ref ld),o3,o4]/\FI b ld ns H (3 * i) H' vs ds)
  ⟨none,none,[],[],rfl,fi0⟩ (fun i σ' H' _ h=>?_) (fun i x σ' H' hx h=>?_) (fun σ' H' h=>?_)⟩
 ·obtain ⟨_,_,_,_,_,fi⟩:=h
  exact SqL.of (nmOf fi).at'
 ·obtain ⟨o3,o4,vs,ds,rfl,fi⟩:=h
  rw [List.getElem?_map] at hx
  obtain ⟨z,hz',rfl⟩:=Option.map_eq_some_iff.mp hx
  have hz:NmI ns z:=⟨hn.nm z (List.mem_of_getElem? hz'),List.mem_of_getElem? hz'⟩
  have hi:i < ns.length:=(List.getElem?_eq_some_iff.mp hz').1
  refine ⟨_,rfl,b,6,rfl,fi.box,by decide,by decide,fun kd H2 k0 k1 st=>?_⟩
  have fi2:=fi.step nlb st
  dsimp only [Z7]
  refine seqI (fun σ' H3=>∃ vs ds,σ' = [some (.ref b),some (.ref l),some (.ref ld),some (.str z),some (.int kd)]/\FI b ld ns H (3 * i + 1) H3 vs ds) (fun σ' H3 h=>?_) (fun tl=>?_)
  rotate_left
  ·have len:=fi2.len
   have sz:vs.length < sizeLine:=Nat.lt_of_le_of_lt (show vs.length<=700 by omega) (by decide)
   have pf:∀ (v:V) (x:W) (H3:Hp) (p:Addr),RW H3 v x->x.Ok->(x.depth:Int)<=2->x.size<=16 * 10->Step b H2 H3->H3 p = none->_:=fun v x H3 p rv ok dp sz st3 hp=>fi2.new nlb st3 hp (us:=[.str "put",.str z,v]) (d:=.put z x) (RW.tri zc (.txt _) (.txt _) (rv.mono (zC (Same.new hp)))) ⟨hz,ok,by omega,by omega⟩
   refine ⟨_,rfl,rfl,_,rfl,ite2 (fun c=>iteT ?_) (fun c=>⟨_,rfl,rfl,_,rfl,ite2 (fun c'=>?_) (fun c'=>tl _ _ ⟨_,_,rfl,fi2.more (by omega)⟩)⟩)⟩
   ·exact ⟨_,rfl,.inl ⟨rfl,_,SqL.of fi2.at'⟩,_,rfl,_,rfl,b,10,2,rfl,fi2.box,by decide,by decide,by decide,by decide,fun v x H3 rv ok dp sz' st3=>⟨zl3,fun p hp=>⟨ld,vs,.ref p,rfl,rfl,(pf v x H3 p rv ok dp sz' st3 hp).1,sz,tl _ _ ⟨_,_,rfl,(pf v x H3 p rv ok dp sz' st3 hp).2⟩⟩⟩⟩
   ·exact ⟨_,rfl,.inl ⟨rfl,_,SqL.of fi2.at'⟩,_,rfl,_,rfl,b,10,2,rfl,fi2.box,by decide,by decide,by decide,by decide,fun v x H3 rv ok dp sz' st3=>⟨zl3,fun p hp=>⟨ld,vs,.ref p,rfl,rfl,(pf v x H3 p rv ok dp sz' st3 hp).1,sz,tl _ _ ⟨_,_,rfl,(pf v x H3 p rv ok dp sz' st3 hp).2⟩⟩⟩⟩
  obtain ⟨vs,ds,rfl,fi3⟩:=h
  refine seqI (fun σ' H4=>∃ vs ds,σ' = [some (.ref b),some (.ref l),some (.ref ld),some (.str z),some (.int kd)]/\FI b ld ns H (3 * i + 2) H4 vs ds) (fun σ' H4 h=>?_) (fun tl=>?_)
  rotate_left
  ·have len:=fi3.len
   have sz:vs.length < sizeLine:=Nat.lt_of_le_of_lt (show vs.length<=700 by omega) (by decide)
   refine ⟨_,rfl,_,_,rfl,rfl,_,rfl,ite2 (fun c=>?_) (fun c=>tl _ _ ⟨_,_,rfl,fi3.more (by omega)⟩)⟩
   refine ⟨_,rfl,.inl ⟨rfl,_,SqL.of fi3.at'⟩,_,rfl,_,rfl,_,rfl,b,l,ns,rfl,fi3.box,nmOf fi3,fun v x H4 rv ok st4=>⟨zl3,fun p hp=>?_⟩⟩
   have:=fi3.new nlb st4 hp (us:=[.str "rule",.str z,v]) (d:=.rule z x) (RW.tri zc (.txt _) (.txt _) (rv.mono (zC (Same.new hp)))) ⟨hz,ok⟩
   exact ⟨ld,vs,.ref p,rfl,rfl,this.1,sz,tl _ _ ⟨_,_,rfl,this.2⟩⟩
  obtain ⟨vs,ds,rfl,fi4⟩:=h
  have len:=fi4.len
  have sz:vs.length < sizeLine:=Nat.lt_of_le_of_lt (show vs.length<=700 by omega) (by decide)
  refine ⟨_,rfl,b,3,rfl,fi4.box,by decide,by decide,fun r H5 r0 r1 st5=>?_⟩
  have fi5:=fi4.step nlb st5
  refine ⟨rfl,_,rfl,ite2 (fun c=>?_) (fun c=>⟨_,_,_,_,rfl,fi5.more (by omega)⟩)⟩
  refine ⟨_,rfl,.inl ⟨rfl,_,SqL.of fi5.at'⟩,_,rfl,zl2,fun p hp=>?_⟩
  have:=fi5.new nlb (Step.ofSame' fi5.box (Same.refl _)) hp (us:=[.str "open",.str z]) (d:=.one .opn z) (RW.pair zc (.txt _) (.txt _)) hz
  exact ⟨ld,vs,.ref p,rfl,rfl,this.1,sz,_,_,_,_,rfl,this.2⟩
 ·obtain ⟨o3,o4,vs,ds,rfl,fi⟩:=h
  rw [List.length_map] at fi
  have len:=fi.len
  refine ⟨_,rfl,_,rfl,b,3,rfl,fi.box,by decide,by decide,fun r H5 r0 r1 st5=>⟨_,_,rfl,rfl,1 + r,rfl,by omega,by omega,zgj (n:=1 + r) (fun i us H6=>Step b H5 H6/\us.length = i/\∃ ds':List Dd,RWs H6 us (ds'.map Dd.toW)/\∀ d∈ds',d.Ok ns) ⟨Step.ofSame' st5.box (Same.refl _),rfl,[],⟨rfl,fun i v w e=>by simp at e⟩,(fun d h=>nomatch h)⟩ (fun i us H6 h=>h.2.1) (by omega) (fun i us H6 R hi h hR=>?_) (fun us H6 D h hD=>?_)⟩⟩
  ·obtain ⟨st6,hul,ds',hrw,hok⟩:=h
   have n6:=((nmOf fi).step st5).step st6
   refine ⟨_,rfl,_,rfl,_,rfl,_,_,rfl,.inl ⟨_,SqL.of n6.at',rfl⟩,b,_,rfl,st6.box,n6.pos.1,n6.pos.2,fun r2 H7 a0 a1 st7=>?_⟩
   obtain ⟨z,ez,hz⟩:=n6.pick a0 a1
   refine ⟨l,_,r2,_,rfl,rfl,SqL.of (n6.step st7).at',ez,zl2,fun p hp=>hR _ _ ?_⟩
   have s8:=Same.new (o:=.tup [.str "wish",.str z]) hp
   refine ⟨st6.trans (st7.trans (Step.ofSame' st7.box s8)),by rw [List.length_append,hul]; rfl,ds' ++ [.one .wish z],?_,fun d hd=>?_⟩
   ·rw [List.map_append]
    exact ((hrw.mono (ze1 st6.box st7)).mono (zC s8)).snoc (RW.pair zc (.txt _) (.txt _))
   ·rcases List.mem_append.mp hd with hd | hd
    ·exact hok d hd
    ·rw [List.mem_singleton.mp hd]; exact hz
  ·obtain ⟨st6,hul,ds',hrw,hok⟩:=h
   have hdl:ds'.length = us.length:=by rw [hrw.len,List.length_map]
   have s7:=Same.new (o:=.lst us) hD
   have st57:=st5.trans (st6.trans (Step.ofSame' st6.box s7))
   have fi7:=fi.step nlb st57
   have hu3:us.length<=3:=by rw [hul]; omega
   refine ⟨ld,D,vs,us,rfl,rfl,fi7.at',zc,Nat.le_trans (show vs.length + us.length<=700 by omega) (by decide),fun p hp=>?_⟩
   have s8:=Same.new (o:=.lst (vs ++ us)) hp
   have hpH:H p = none:=by
    cases e:H p with
    | none=>rfl
    | some o=>
     have nb:p≠b:=Zd.ne fi7.box hp
     have nl:p≠ld:=fun z=>by rw [z,hld] at e; cases e
     rw [fi7.kp p o nb nl e] at hp
     cases hp
   refine q p (vs ++ us) (ds ++ ds') _ hpH zc ?_ (fun d hd=>?_) ?_ ⟨(Step.ofSame' fi7.box s8).box,fun c o hc e=>s8 _ _ (fi7.kp c o hc (zk e hld) e)⟩
   ·rw [List.map_append]
    exact RWs.cat (fi7.rw.mono (zC s8)) (hrw.mono (zC (s7.trans s8)))
   ·rcases List.mem_append.mp hd with hd | hd
    ·exact fi.ok d hd
    ·exact hok d hd
   ·have:=fi.few
    rw [List.length_append]
    omega
end
end D
namespace L2
open PySem
theorem rdE {K:PySem.W.Frag}{i:Nat}{σ:St}{H:Hp}{t:Addr}{us:List V}{s0 s:Str}{Q:Bool->Hp->Prop} (h0:σ[i]? = some (some (.ref t))) (et:SqT K H t us) (hu:atI us 0 = some (.str s0)) (q:Q (decide (V.str s0 = V.str s)) H):zdn (tOp rEq (tOp (rIxT K) (tVar i) (tC (.int 0))) (tC (.str s))) σ H Q:=⟨_,h0,t,us,0,_,rfl,rfl,et,hu,rfl,_,rfl,q⟩
end L2
namespace D
open PySem L2
theorem dk {a b:Str} (h:a≠b):decide (V.str a = V.str b) = false:=decide_eq_false fun z=>h (V.str.inj z)
theorem dy {a b:Str} (h:a = b):decide (V.str a = V.str b) = true:=decide_eq_true (congrArg V.str h)
def DdAt (H:Hp) (t:Addr) (pv:V):Dd->Prop
 | .put z x=>H t = some (.tup [.str "put",.str z,pv])/\RW H pv x
 | .rule z x=>H t = some (.tup [.str "rule",.str z,pv])/\RW H pv x.toW
 | .one w z=>H t = some (.tup [.str w.s,.str z])
def aS (pv:V) (S:Kvs):Dd->Kvs
 | .put z _=>putK S (.inr z) pv
 | .rule z _=>zI S (.inr z)
 | .one .drop z=>zI S (.inr z)
 | _=>S
def aR (pv:V) (R:Kvs):Dd->Kvs
 | .put z _=>zI R (.inr z)
 | .rule z _=>putK R (.inr z) pv
 | .one .drop z=>zI R (.inr z)
 | _=>R
def aO (O:List Str):Dd->List Str
 | .one .opn z=>addL z O
 | .one .shut z=>rm z O
 | _=>O
def aW (W:List Str):Dd->List Str
 | .one .wish z=>addL z W
 | .one .lt z=>rm z W
 | _=>W
def zgu (AH:Addr):Sp:=fun vs H Q _=>∃ (a:Hd) (S R:Kvs) (O W:List Str) (t:Addr) (pv:V) (ns:List Str) (d:Dd),vs = [.ref a.p,.ref t]/\Hs AH a H S R O W/\DdAt H t pv d/\d.Ok ns/\S.length < 1000/\R.length < 1000/\O.length < 1000/\W.length < 1000 /\
 ∀ H',Hs AH a H' (aS pv S d) (aR pv R d) (aO O d) (aW W d)->Kb a.all H H'->Q .non H'
section
variable {P:Program}{w:World}{K:PySem.W.Frag}{mg:Str->Option Value}{base:Heap}{f:Addr}{fd:FuncData}{k n:Nat}{ANoName AHouse ANoWorth ANoRule ANoThing zN ANoStep ANoRow AForgeError:Addr}
theorem zjR:FnScope ["_law_house","_law_deed_here"] ["_law_house","_law_deed_here"] (zh zdw):=⟨rfl,rfl,rfl,by decide +kernel,rfl,by decide +kernel,by decide +kernel⟩
theorem zjS (F:Fun K "_law_hand" "_law_hand" zdw f fd) (G_House_put:Ze P w K mg base AHouse "put" k ["self","name","worth"] (zjI AHouse ANoName ANoWorth)) (G_House_put_rule:Ze P w K mg base AHouse "put_rule" k ["self","name","rule"] (zgp AHouse ANoName ANoRule)) (G_House_drop:Ze P w K mg base AHouse "drop" k ["self","name"] (zeZ AHouse ANoName ANoThing)) (G_House_open_up:Ze P w K mg base AHouse "open_up" k ["self","name"] (zgr AHouse ANoName)) (G_House_shut:Ze P w K mg base AHouse "shut" k ["self","name"] (zgs AHouse ANoName)) (G_House_wish:Ze P w K mg base AHouse "wish" k ["self","name"] (zgt AHouse ANoName)) (G_House_let_go:Ze P w K mg base AHouse "let_go" k ["self","name"] (zjL AHouse ANoName)) (clH:Cls K AHouse) (nS:zY K AHouse "sources") (nR:zY K AHouse "rules"):FnOk P w K mg base CX0 (k + 1) f fd ["_law_house","_law_deed_here"] (zgu AHouse):=by
 refine F.okQ zjR (fun vs H Q E h=>?_) (fun cdv A outer s H vs Q E hr h=>?_)
 ·obtain ⟨a,S,R,O,W,t,px,ns,d,rfl,_⟩:=h
  rfl
 obtain ⟨a,S,R,O,W,t,px,ns,d,rfl,hs,hd,hok,l1,l2,l3,l4,q⟩:=h
 refine ⟨_,(zf (zG (zm Za (zx zy (pv 1) ze (fun _ _=>rfl)) zi (nomark _)) (zf (zq (zaU G_House_put hr zeN (pv 0) (za (zx zy (pv 1) ze (fun _ _=>rfl)) (za (zx zy (pv 1) ze (fun _ _=>rfl)) zb))))) (zf (zG (zm Za (zx zy (pv 1) ze (fun _ _=>rfl)) zi (nomark _)) (zf (zq (zaU G_House_put_rule hr zeN (pv 0) (za (zx zy (pv 1) ze (fun _ _=>rfl)) (za (zx zy (pv 1) ze (fun _ _=>rfl)) zb))))) (zf (zG (PW.pt (zct (zm Za (zx zy (pv 1) ze (fun _ _=>rfl)) zi (nomark _)) (zbd (PW.pt (zbe (zdb (zde (zfc hr) (zx zy (pv 1) ze (fun _ _=>rfl)) (Zn (pv 0) rfl)) rfl) (zaN (zdb (zde (zfc hr) (zx zy (pv 1) ze (fun _ _=>rfl)) (Zn (pv 0) rfl)) rfl))))))) (zf (zq (zaU G_House_drop hr zeN (pv 0) (za (zx zy (pv 1) ze (fun _ _=>rfl)) zb)))) (zf (zG (zm Za (zx zy (pv 1) ze (fun _ _=>rfl)) zi (nomark _)) (zf (zq (zaU G_House_open_up hr zeN (pv 0) (za (zx zy (pv 1) ze (fun _ _=>rfl)) zb)))) (zf (zG (zm Za (zx zy (pv 1) ze (fun _ _=>rfl)) zi (nomark _)) (zf (zq (zaU G_House_shut hr zeN (pv 0) (za (zx zy (pv 1) ze (fun _ _=>rfl)) zb)))) (zf (zG (zm Za (zx zy (pv 1) ze (fun _ _=>rfl)) zi (nomark _)) (zf (zq (zaU G_House_wish hr zeN (pv 0) (za (zx zy (pv 1) ze (fun _ _=>rfl)) zb)))) (zf (zG (zm Za (zx zy (pv 1) ze (fun _ _=>rfl)) zi (nomark _)) (zf (zq (zaU G_House_let_go hr zeN (pv 0) (za (zx zy (pv 1) ze (fun _ _=>rfl)) zb)))) zo)))))))))))))),?_⟩
 obtain ⟨dx,ei⟩:=hs.ins
 cases d with
 | put z x=>
  obtain ⟨et,rx⟩:=hd
  refine rdE rfl (SqT.of et) rfl ?_
  rw [dy (by rfl)]
  refine iteT ⟨_,rfl,a.p,dx,_,rfl,ei,rfl,_,rfl,t,_,1,_,rfl,rfl,SqT.of et,rfl,_,rfl,t,_,2,_,rfl,rfl,SqT.of et,rfl,?_⟩
  exact ⟨a,S,R,O,W,_,px,rfl,hs,.inl ⟨z,x,rfl,hok.1.1,rx,hok.2.1,hok.2.2.1,hok.2.2.2,l1,q⟩⟩
 | rule z x=>
  obtain ⟨et,rx⟩:=hd
  refine rdE rfl (SqT.of et) rfl ?_
  rw [dk (by decide +kernel)]
  refine iteF (rdE rfl (SqT.of et) rfl ?_)
  rw [dy (by rfl)]
  refine iteT ⟨_,rfl,a.p,dx,_,rfl,ei,rfl,_,rfl,t,_,1,_,rfl,rfl,SqT.of et,rfl,_,rfl,t,_,2,_,rfl,rfl,SqT.of et,rfl,?_⟩
  exact ⟨a,S,R,O,W,_,px,rfl,hs,.inl ⟨z,x,rfl,hok.1.1,rx,hok.2.rule,hok.2.1,l2,q⟩⟩
 | one w z=>
  have et:H t = some (.tup [.str w.s,.str z]):=hd
  refine rdE rfl (SqT.of et) rfl ?_
  rw [dk (by cases w <;> decide +kernel)]
  refine iteF (rdE rfl (SqT.of et) rfl ?_)
  rw [dk (by cases w <;> decide +kernel)]
  refine iteF (rdE rfl (SqT.of et) rfl ?_)
  cases w with
  | drop=>
   rw [dy (by rfl)]
   refine iteT ⟨_,rfl,t,_,1,_,rfl,rfl,SqT.of et,rfl,_,rfl,a.p,AHouse,dx,_,.ref a.s,rfl,ei,clH,nS,rfl,a.s,_,rfl,DGet.k (k:=.inr z) hs.so,_,rfl,?_⟩
   cases hS:(valV S (.inr z)).isSome with
   | true=>
    refine iteT ⟨_,rfl,a.p,dx,_,rfl,ei,rfl,_,rfl,t,_,1,_,rfl,rfl,SqT.of et,rfl,?_⟩
    exact ⟨a,S,R,O,W,_,rfl,hs,.inl ⟨z,rfl,hok.1,by rw [hS]; rfl,q⟩⟩
   | false=>
    refine iteF ⟨_,rfl,t,_,1,_,rfl,rfl,SqT.of et,rfl,_,rfl,a.p,AHouse,dx,_,.ref a.r,rfl,ei,clH,nR,rfl,a.r,_,rfl,DGet.k (k:=.inr z) hs.ru,_,rfl,?_⟩
    cases hR:(valV R (.inr z)).isSome with
    | true=>
     refine iteT ⟨_,rfl,a.p,dx,_,rfl,ei,rfl,_,rfl,t,_,1,_,rfl,rfl,SqT.of et,rfl,?_⟩
     exact ⟨a,S,R,O,W,_,rfl,hs,.inl ⟨z,rfl,hok.1,by rw [hS,hR]; rfl,q⟩⟩
    | false=>
     have eS:zI S (.inr z) = S:=ZG (Option.isSome_eq_false_iff.mp hS |> Option.isNone_iff_eq_none.mp)
     have eR:zI R (.inr z) = R:=ZG (Option.isSome_eq_false_iff.mp hR |> Option.isNone_iff_eq_none.mp)
     refine iteF (rdE rfl (SqT.of et) rfl ?_)
     rw [dk (by decide +kernel)]
     refine iteF (rdE rfl (SqT.of et) rfl ?_)
     rw [dk (by decide +kernel)]
     refine iteF (rdE rfl (SqT.of et) rfl ?_)
     rw [dk (by decide +kernel)]
     refine iteF (rdE rfl (SqT.of et) rfl ?_)
     rw [dk (by decide +kernel)]
     refine iteF (q _ ?_ (Kb.ofSame (Same.refl _)))
     show Hs AHouse a H (zI S (.inr z)) (zI R (.inr z)) O W
     rw [eS,eR]
     exact hs
  | opn=>
   rw [dk (by decide +kernel)]
   refine iteF (iteF (rdE rfl (SqT.of et) rfl ?_))
   rw [dy (by rfl)]
   refine iteT ⟨_,rfl,a.p,dx,_,rfl,ei,rfl,_,rfl,t,_,1,_,rfl,rfl,SqT.of et,rfl,?_⟩
   exact ⟨a,S,R,O,W,_,rfl,hs,.inl ⟨z,rfl,hok.1,l3,q⟩⟩
  | shut=>
   rw [dk (by decide +kernel)]
   refine iteF (iteF (rdE rfl (SqT.of et) rfl ?_))
   rw [dk (by decide +kernel)]
   refine iteF (rdE rfl (SqT.of et) rfl ?_)
   rw [dy (by rfl)]
   refine iteT ⟨_,rfl,a.p,dx,_,rfl,ei,rfl,_,rfl,t,_,1,_,rfl,rfl,SqT.of et,rfl,?_⟩
   exact ⟨a,S,R,O,W,_,rfl,hs,.inl ⟨z,rfl,hok.1,q⟩⟩
  | wish=>
   rw [dk (by decide +kernel)]
   refine iteF (iteF (rdE rfl (SqT.of et) rfl ?_))
   rw [dk (by decide +kernel)]
   refine iteF (rdE rfl (SqT.of et) rfl ?_)
   rw [dk (by decide +kernel)]
   refine iteF (rdE rfl (SqT.of et) rfl ?_)
   rw [dy (by rfl)]
   refine iteT ⟨_,rfl,a.p,dx,_,rfl,ei,rfl,_,rfl,t,_,1,_,rfl,rfl,SqT.of et,rfl,?_⟩
   exact ⟨a,S,R,O,W,_,rfl,hs,.inl ⟨z,rfl,hok.1,l4,q⟩⟩
  | lt=>
   rw [dk (by decide +kernel)]
   refine iteF (iteF (rdE rfl (SqT.of et) rfl ?_))
   rw [dk (by decide +kernel)]
   refine iteF (rdE rfl (SqT.of et) rfl ?_)
   rw [dk (by decide +kernel)]
   refine iteF (rdE rfl (SqT.of et) rfl ?_)
   rw [dk (by decide +kernel)]
   refine iteF (rdE rfl (SqT.of et) rfl ?_)
   rw [dy (by rfl)]
   refine iteT ⟨_,rfl,a.p,dx,_,rfl,ei,rfl,_,rfl,t,_,1,_,rfl,rfl,SqT.of et,rfl,?_⟩
   exact ⟨a,S,R,O,W,_,rfl,hs,.inl ⟨z,rfl,hok.1,q⟩⟩
structure Ps (a:Hd) (H:Hp) (S R:Kvs) (O W:List Str):Prop where
 top:H a.p = some (.lst [.ref a.s,.ref a.r,.ref a.o,.ref a.w])
 so:H a.s = some (.dK S)
 ru:H a.r = some (.dK R)
 op:H a.o = some (.lst (O.map V.str))
 wi:H a.w = some (.lst (W.map V.str))
 sr:a.s≠a.r
 ow:a.o≠a.w
 po:a.p≠a.o
 pw:a.p≠a.w
 fs:S.length<=1000
 fr:R.length<=1000
 fo:O.length<=1000
 fw:W.length<=1000
section
variable {a:Hd}{H H':Hp}{S R:Kvs}{O W:List Str}
theorem Ps.same (h:Ps a H S R O W) (s:Same H H'):Ps a H' S R O W:=⟨s _ _ h.top,s _ _ h.so,s _ _ h.ru,s _ _ h.op,s _ _ h.wi,h.sr,h.ow,h.po,h.pw,h.fs,h.fr,h.fo,h.fw⟩
theorem Ps.out (h:Ps a H S R O W) {t:Addr}{us:List V} (et:H t = some (.tup us)):t ∉ a.all:=fun m=>by
 simp only [Hd.all,List.mem_cons,List.not_mem_nil,or_false] at m
 rcases m with rfl | rfl | rfl | rfl | rfl
 ·rw [h.top] at et; cases et
 ·rw [h.so] at et; cases et
 ·rw [h.ru] at et; cases et
 ·rw [h.op] at et; cases et
 ·rw [h.wi] at et; cases et
theorem Ps.setS (h:Ps a H S R O W) (S':Kvs) (hf:S'.length<=1000):Ps a (upd H a.s (.dK S')) S' R O W:=by
 obtain ⟨top,so,ru,op,wi,sr,ow,po,pw,_,fr,fo,fw⟩:=h
 have n1:a.p≠a.s:=fun z=>by rw [z,so] at top; cases top
 have n2:a.o≠a.s:=fun z=>by rw [z,so] at op; cases op
 have n3:a.w≠a.s:=fun z=>by rw [z,so] at wi; cases wi
 exact ⟨by rw [zg n1]; exact top,zc,by rw [zg sr.symm]; exact ru,by rw [zg n2]; exact op,by rw [zg n3]; exact wi,sr,ow,po,pw,hf,fr,fo,fw⟩
theorem Ps.setR (h:Ps a H S R O W) (R':Kvs) (hf:R'.length<=1000):Ps a (upd H a.r (.dK R')) S R' O W:=by
 obtain ⟨top,so,ru,op,wi,sr,ow,po,pw,fs,_,fo,fw⟩:=h
 have n1:a.p≠a.r:=fun z=>by rw [z,ru] at top; cases top
 have n2:a.o≠a.r:=fun z=>by rw [z,ru] at op; cases op
 have n3:a.w≠a.r:=fun z=>by rw [z,ru] at wi; cases wi
 exact ⟨by rw [zg n1]; exact top,by rw [zg sr]; exact so,zc,by rw [zg n2]; exact op,by rw [zg n3]; exact wi,sr,ow,po,pw,fs,hf,fo,fw⟩
theorem Ps.setO (h:Ps a H S R O W) (O':List Str) (hf:O'.length<=1000):Ps a (upd H a.o (.lst (O'.map V.str))) S R O' W:=by
 obtain ⟨top,so,ru,op,wi,sr,ow,po,pw,fs,fr,_,fw⟩:=h
 have n2:a.s≠a.o:=fun z=>by rw [z,op] at so; cases so
 have n3:a.r≠a.o:=fun z=>by rw [z,op] at ru; cases ru
 exact ⟨by rw [zg po]; exact top,by rw [zg n2]; exact so,by rw [zg n3]; exact ru,zc,by rw [zg ow.symm]; exact wi,sr,ow,po,pw,fs,fr,hf,fw⟩
theorem Ps.setW (h:Ps a H S R O W) (W':List Str) (hf:W'.length<=1000):Ps a (upd H a.w (.lst (W'.map V.str))) S R O W':=by
 obtain ⟨top,so,ru,op,wi,sr,ow,po,pw,fs,fr,fo,_⟩:=h
 have n2:a.s≠a.w:=fun z=>by rw [z,wi] at so; cases so
 have n3:a.r≠a.w:=fun z=>by rw [z,wi] at ru; cases ru
 exact ⟨by rw [zg pw]; exact top,by rw [zg n2]; exact so,by rw [zg n3]; exact ru,by rw [zg ow]; exact op,zc,sr,ow,po,pw,fs,fr,fo,hf⟩
end
def bS (pv:V) (S:Kvs):Dd->Kvs
 | .put z _=>putK (zI S (.inr z)) (.inr z) pv
 | .rule z _=>zI S (.inr z)
 | .one .drop z=>zI S (.inr z)
 | _=>S
def bR (pv:V) (R:Kvs):Dd->Kvs
 | .put z _=>zI R (.inr z)
 | .rule z _=>putK (zI R (.inr z)) (.inr z) pv
 | .one .drop z=>zI R (.inr z)
 | _=>R
def Dd.nm:Dd->Str
 | .put z _=>z
 | .rule z _=>z
 | .one _ z=>z
def Dd.wd:Dd->Str
 | .put _ _=>"put"
 | .rule _ _=>"rule"
 | .one w _=>w.s
def Dd.rest (pv:V):Dd->List V
 | .one _ _=>[]
 | _=>[pv]
theorem DdAt.tup {H:Hp}{t:Addr}{pv:V}{d:Dd} (h:DdAt H t pv d):H t = some (.tup (.str d.wd :: .str d.nm :: d.rest pv)):=by
 cases d with
 | put z x=>exact h.1
 | rule z x=>exact h.1
 | one w z=>exact h
def cD:Dd->Bool
 | .put _ _=>true
 | .rule _ _=>true
 | .one .drop _=>true
 | _=>false
def cW:Dw->Bool
 | .drop=>true
 | _=>false
theorem in3o (w:Dw):inV (.str w.s) [.str "put",.str "rule",.str "drop"] = cW w:=by cases w <;> decide +kernel
theorem in3w (d:Dd):inV (.str d.wd) [.str "put",.str "rule",.str "drop"] = cD d:=by
 cases d with
 | put z x=>rfl
 | rule z x=>exact (by decide +kernel:inV (.str "rule") [.str "put",.str "rule",.str "drop"] = true)
 | one w z=>cases w with
  | drop=>exact in3o .drop
  | opn=>exact in3o .opn
  | shut=>exact in3o .shut
  | wish=>exact in3o .wish
  | lt=>exact in3o .lt
def pass (wd nm s1 s2:Str) (L:List Str):List Str:=if wd = s2 then rm nm (if wd = s1 then addL nm L else L) else if wd = s1 then addL nm L else L
theorem zgv {H:Hp}{c:Addr}{o:HO} (h:H c = some o):upd H c o = H:=by
 funext x
 by_cases e:x = c
 ·rw [e,zc,h]
 ·rw [zg e]
theorem ziw {H:Hp}{c:Addr}{o o':HO}:upd (upd H c o) c o' = upd H c o':=by
 funext x
 by_cases e:x = c
 ·rw [e,zc,zc]
 ·rw [zg e,zg e,zg e]
theorem zix {K:PySem.W.Frag}{D:Ends}{σ:St}{H:Hp}{t lo:Addr}{us:List V}{wd nm s1 s2:Str}{L:List Str} (h1:σ[1]? = some (some (.ref t))) (h2:σ[2]? = some (some (.str nm))) (h3:σ[3]? = some (some (.str s1))) (h4:σ[4]? = some (some (.str s2))) (h5:σ[5]? = some (some (.ref lo))) (et:H t = some (.tup (.str wd :: us))) (el:H lo = some (.lst (L.map V.str))) (hl:L.length < 1000) (q:D.nx σ (upd H lo (.lst ((pass wd nm s1 s2 L).map V.str)))):
  tSeq (tIfS (tAnd (zdn (tOp rEq (tOp (rIxT K) (tVar 1) (tC (.int 0))) (tVar 3))) (zdn (tOp (rIn K true) (tVar 2) (tVar 5)))) (zdm (tBM K "list" zhF (tVar 5) (Zq (tVar 2) tNil))) zc2)
   (tIfS (tAnd (zdn (tOp rEq (tOp (rIxT K) (tVar 1) (tC (.int 0))) (tVar 4))) (zdn (tOp (rIn K false) (tVar 2) (tVar 5)))) (zdm (tBM K "list" zir (tVar 5) (Zq (tVar 2) tNil))) zc2) D σ H:=by
 have ntl:t≠lo:=fun z=>by rw [z,el] at et; cases et
 refine seqI (fun σ' H'=>σ' = σ/\H' = upd H lo (.lst ((if wd = s1 then addL nm L else L).map V.str))) (fun σ' H' h=>?_) (fun tl=>?_)
 ·obtain ⟨rfl,rfl⟩:=h
  have el1:upd H lo (.lst ((if wd = s1 then addL nm L else L).map V.str)) lo = some (.lst ((if wd = s1 then addL nm L else L).map V.str)):=zc
  have et1:upd H lo (.lst ((if wd = s1 then addL nm L else L).map V.str)) t = some (.tup (.str wd :: us)):=by rw [zg ntl]; exact et
  unfold pass at q
  refine ⟨_,h1,t,_,0,_,rfl,rfl,SqT.of et1,zH (j:=0) rfl,_,h4,rfl,_,rfl,?_⟩
  by_cases e2:wd = s2
  ·rw [dy e2]
   rw [if_pos e2] at q
   refine iteT ⟨_,h2,_,h5,lo,_,rfl,.inl (SqL.of el1),rfl,zad _,_,rfl,?_⟩
   show if inV (.str nm) ((if wd = s1 then addL nm L else L).map V.str) = true then _ else _
   rw [zal]
   generalize (if wd = s1 then addL nm L else L) = L1 at q el1
   by_cases hm:nm∈L1
   ·rw [decide_eq_true hm]
    obtain ⟨j,hj,hmin,he⟩:=zjJ hm
    refine iteT ⟨_,h5,.inl ⟨rfl,_,SqL.of el1⟩,_,h2,lo,L1,nm,j,rfl,rfl,el1,hj,hmin,?_⟩
    rw [he,ziw]
    exact q
   ·rw [decide_eq_false hm]
    rw [zjK hm] at q
    exact iteF q
  ·rw [dk e2]
   rw [if_neg e2] at q
   exact iteF (iteF q)
 ·refine ⟨_,h1,t,_,0,_,rfl,rfl,SqT.of et,zH (j:=0) rfl,_,h3,rfl,_,rfl,?_⟩
  by_cases e1:wd = s1
  ·rw [dy e1]
   rw [if_pos e1] at tl
   refine iteT ⟨_,h2,_,h5,lo,_,rfl,.inl (SqL.of el),rfl,zad _,_,rfl,?_⟩
   show if (!inV (.str nm) (L.map V.str)) = true then _ else _
   rw [zal]
   by_cases hm:nm∈L
   ·rw [decide_eq_true hm]
    refine iteF (tl _ _ ⟨rfl,?_⟩)
    rw [addL,if_pos hm,zgv el]
   ·rw [decide_eq_false hm]
    refine iteT ⟨_,h5,.inl ⟨rfl,_,SqL.of el⟩,_,h2,lo,L.map V.str,.str nm,rfl,rfl,el,Nat.lt_of_lt_of_le (show (L.map V.str).length < 1000 by rw [List.length_map]; exact hl) (by decide),tl _ _ ⟨rfl,?_⟩⟩
    rw [addL,if_neg hm,List.map_append]
    rfl
  ·rw [dk e1]
   rw [if_neg e1] at tl
   refine iteF (iteF (tl _ _ ⟨rfl,?_⟩))
   rw [zgv el]
theorem zcs (wd nm s1 s2:Str) (L:List Str):(pass wd nm s1 s2 L).length<=L.length + 1:=by
 have h1:(if wd = s1 then addL nm L else L).length<=L.length + 1:=by
  split
  ·exact zdO nm L
  ·omega
 unfold pass
 split
 ·exact Nat.le_trans (zgq _ _) h1
 ·exact h1
theorem zfI (O:List Str) (d:Dd):pass d.wd d.nm "open" "shut" O = aO O d:=by
 unfold pass
 cases d with
 | put z x=>rw [if_neg (by show ¬ ("put":Str) = "shut"; decide +kernel),if_neg (by show ¬ ("put":Str) = "open"; decide +kernel)]; rfl
 | rule z x=>rw [if_neg (by show ¬ ("rule":Str) = "shut"; decide +kernel),if_neg (by show ¬ ("rule":Str) = "open"; decide +kernel)]; rfl
 | one w z=>
  cases w with
  | drop=>rw [if_neg (by show ¬ ("drop":Str) = "shut"; decide +kernel),if_neg (by show ¬ ("drop":Str) = "open"; decide +kernel)]; rfl
  | opn=>rw [if_neg (by show ¬ ("open":Str) = "shut"; decide +kernel),if_pos (by show ("open":Str) = "open"; rfl)]; rfl
  | shut=>rw [if_pos (by show ("shut":Str) = "shut"; rfl),if_neg (by show ¬ ("shut":Str) = "open"; decide +kernel)]; rfl
  | wish=>rw [if_neg (by show ¬ ("wish":Str) = "shut"; decide +kernel),if_neg (by show ¬ ("wish":Str) = "open"; decide +kernel)]; rfl
  | lt=>rw [if_neg (by show ¬ ("let":Str) = "shut"; decide +kernel),if_neg (by show ¬ ("let":Str) = "open"; decide +kernel)]; rfl
theorem zfJ (W:List Str) (d:Dd):pass d.wd d.nm "wish" "let" W = aW W d:=by
 unfold pass
 cases d with
 | put z x=>rw [if_neg (by show ¬ ("put":Str) = "let"; decide +kernel),if_neg (by show ¬ ("put":Str) = "wish"; decide +kernel)]; rfl
 | rule z x=>rw [if_neg (by show ¬ ("rule":Str) = "let"; decide +kernel),if_neg (by show ¬ ("rule":Str) = "wish"; decide +kernel)]; rfl
 | one w z=>
  cases w with
  | drop=>rw [if_neg (by show ¬ ("drop":Str) = "let"; decide +kernel),if_neg (by show ¬ ("drop":Str) = "wish"; decide +kernel)]; rfl
  | opn=>rw [if_neg (by show ¬ ("open":Str) = "let"; decide +kernel),if_neg (by show ¬ ("open":Str) = "wish"; decide +kernel)]; rfl
  | shut=>rw [if_neg (by show ¬ ("shut":Str) = "let"; decide +kernel),if_neg (by show ¬ ("shut":Str) = "wish"; decide +kernel)]; rfl
  | wish=>rw [if_neg (by show ¬ ("wish":Str) = "let"; decide +kernel),if_pos (by show ("wish":Str) = "wish"; rfl)]; rfl
  | lt=>rw [if_pos (by show ("let":Str) = "let"; rfl),if_neg (by show ¬ ("let":Str) = "wish"; decide +kernel)]; rfl
def spDo:Sp:=fun vs H Q _=>∃ (a:Hd) (S R:Kvs) (O W:List Str) (t:Addr) (pv:V) (d:Dd),vs = [.ref a.p,.ref t]/\Ps a H S R O W/\DdAt H t pv d/\S.length < 1000/\R.length < 1000/\O.length < 1000/\W.length < 1000 /\
 ∀ H',Ps a H' (bS pv S d) (bR pv R d) (aO O d) (aW W d)->Kb a.all H H'->Q .non H'
theorem ze2:FnScope ["_law_parts","_law_deed_here","_law_name","_law_word","_law_other","_law_some"] ["_law_parts","_law_deed_here"] (zh zi8):=⟨rfl,rfl,rfl,by decide +kernel,rfl,by decide +kernel,by decide +kernel⟩
theorem zml (F:Fun K "_law_do" "_law_do" zi8 f fd) (m_int:mg "int" = none) (m_len:mg "len" = none):FnOk P w K mg base CX0 (k + 1) f fd ["_law_parts","_law_deed_here"] (spDo):=by
 refine F.okQ ze2 (fun vs H Q E h=>?_) (fun cdv A outer s H vs Q E hr h=>?_)
 ·obtain ⟨a,S,R,O,W,t,px,d,rfl,_⟩:=h
  rfl
 obtain ⟨a,S,R,O,W,t,px,d,rfl,hs,hd,l1,l2,l3,l4,q⟩:=h
 refine ⟨_,(zd (zn (i:=2) ze2.nd rfl (Or.inl rfl) (zx zy (pv 1) ze (fun _ _=>rfl)))
  (zd (zG (zm ZW (zx zy (pv 1) ze (fun _ _=>rfl)) (zt (za zi (za zi (za zi zb)))) (by rfl)) (zd (zq (zag (zx zE (pv 0) ze (fun _ _=>rfl)) (pv 2) zas ⟨rfl,rfl,rfl,rfl⟩))
  (zf (zq (zag (zx zE (pv 0) ze (fun _ _=>rfl)) (pv 2) zas ⟨rfl,rfl,rfl,rfl⟩)))) zo)
  (zd (zG (zm Za (zl zD rfl m_len PySem.boot_len (za (pv 1) zb)) ze (nomark _)) (zf (zcB (zfc hr) (zx zE (pv 0) (Zu zho rfl m_int zeC (za (zP Za (zx zy (pv 1) ze (fun _ _=>rfl)) zi (nomark _)) zb)) (fun _ _=>rfl)) (pv 2) (zx zy (pv 1) ze (fun _ _=>rfl)) rfl)) zo)
  (zf (Z1 PassesOwn.never rfl (zaz (zL (za (zt (za zi (za zi (za (zx zE (pv 0) ze (fun _ _=>rfl)) zb)))) (za (zt (za zi (za zi (za (zx zE (pv 0) ze (fun _ _=>rfl)) zb)))) zb)))) (zcv rfl (ZQ (zV (i:=3) ze2.nd rfl (Or.inl rfl)) (ZQ (zV (i:=4) ze2.nd rfl (Or.inl rfl)) (ZQ (zV (i:=5) ze2.nd rfl (Or.inl rfl)) zcu)))) (zd (zG (PW.pt (zct (zm Za (zx zy (pv 1) ze (fun _ _=>rfl)) (pv 3) (nomark _)) (zbd (zm zaP (pv 2) (pv 5) (by rfl))))) (zf (zq (zav PySem.F.plainAttrs_list PySem.F.slot_list_append PySem.F.type_list_append Zv (pv 5) (za (pv 2) zb)))) zo)
  (zf (zG (PW.pt (zct (zm Za (zx zy (pv 1) ze (fun _ _=>rfl)) (pv 4) (nomark _)) (zbd (zm ZW (pv 2) (pv 5) (by rfl))))) (zf (zq (zav PySem.F.plainAttrs_list PySem.F.slot_list_remove PySem.F.type_list_remove zcW (pv 5) (za (pv 2) zb)))) zo)))))))),?_⟩
 have et:=hd.tup
 refine ⟨_,rfl,t,_,1,_,rfl,rfl,SqT.of et,zH (j:=1) rfl,?_⟩
 dsimp only [Z7]
 refine seqI (fun σ' H2=>σ' = [some (.ref a.p),some (.ref t),some (.str d.nm),none,none,none]/\Ps a H2 (if cD d then zI S (.inr d.nm) else S) (if cD d then zI R (.inr d.nm) else R) O W/\Kb a.all H H2) (fun σ' H2 h2=>?_) (fun tl=>?_)
 rotate_left
 ·refine ⟨_,rfl,t,_,0,_,rfl,rfl,SqT.of et,zH (j:=0) rfl,zl3,fun q1 hq1=>⟨q1,_,rfl,.inr (SqT.of zc),rfl,rfl,_,rfl,?_⟩⟩
  show if inV (.str d.wd) [.str "put",.str "rule",.str "drop"] = true then _ else _
  rw [in3w]
  have s1:=Same.new (o:=.tup [.str "put",.str "rule",.str "drop"]) hq1
  have h1:=hs.same s1
  have kb:Kb a.all H _:=.ofSame s1
  generalize upd H q1 (.tup [.str "put",.str "rule",.str "drop"]) = H1 at h1 kb s1
  cases hc:cD d with
  | false=>
   rw [hc] at tl
   exact iteF (tl _ _ ⟨rfl,h1,kb⟩)
  | true=>
   rw [hc] at tl
   refine iteT (seqI (fun σ' H2=>σ' = [some (.ref a.p),some (.ref t),some (.str d.nm),none,none,none]/\Ps a H2 (zI S (.inr d.nm)) R O W/\Kb a.all H H2) (fun σ' H2 h2=>?_) (fun tl2=>?_))
   ·obtain ⟨rfl,h2,k2⟩:=h2
    refine ⟨_,rfl,a.p,_,1,_,rfl,rfl,SqL.of h2.top,zH (j:=1) rfl,a.r,rfl,.inl ⟨R,.of h2.ru⟩,_,rfl,R,.inr d.nm,h2.ru,rfl,fun v' _=>tl _ _ ⟨rfl,h2.setR _ (Nat.le_trans (zJ R (.inr d.nm)) h2.fr),k2.trans (Kb.upd (by simp [Hd.all]))⟩,fun hn=>tl _ _ ⟨rfl,?_,k2⟩⟩
    show Ps a H2 (zI S (.inr d.nm)) (zI R (.inr d.nm)) O W
    rw [ZG hn]
    exact h2
   ·refine ⟨_,rfl,a.p,_,0,_,rfl,rfl,SqL.of h1.top,zH (j:=0) rfl,a.s,rfl,.inl ⟨S,.of h1.so⟩,_,rfl,S,.inr d.nm,h1.so,rfl,fun v' _=>tl2 _ _ ⟨rfl,h1.setS _ (Nat.le_trans (zJ S (.inr d.nm)) h1.fs),kb.trans (Kb.upd (by simp [Hd.all]))⟩,fun hn=>tl2 _ _ ⟨rfl,?_,kb⟩⟩
    rw [ZG hn]
    exact h1
 obtain ⟨rfl,h2,k2⟩:=h2
 have et2:=k2 _ _ (hs.out et) et
 refine seqI (fun σ' H3=>σ' = [some (.ref a.p),some (.ref t),some (.str d.nm),none,none,none]/\Ps a H3 (bS px S d) (bR px R d) O W/\Kb a.all H H3) (fun σ' H3 h3=>?_) (fun tl=>?_)
 rotate_left
 ·refine ⟨_,rfl,_,_,rfl,.inr ⟨_,SqT.of et2,rfl⟩,rfl,_,rfl,?_⟩
  cases d with
  | put z x=>
   have h2':Ps a H2 (zI S (.inr z)) (zI R (.inr z)) O W:=h2
   have et':H2 t = some (.tup [.str "put",.str z,px]):=et2
   have hl:=zJ S (.inr z)
   have hl':=zam (zI S (.inr z)) (.inr z) px
   refine iteT ⟨_,rfl,t,_,2,_,rfl,rfl,SqT.of et',zH (j:=2) rfl,_,rfl,_,rfl,t,_,0,_,rfl,rfl,SqT.of et',zH (j:=0) rfl,rfl,.inr ⟨_,rfl,a.p,_,_,.ref a.s,rfl,rfl,SqL.of h2'.top,?_,_,rfl,a.s,_,rfl,.inl ⟨_,.inr z,h2'.so,rfl,Nat.lt_of_lt_of_le (show (zI S (.inr z)).length < 1000 by omega) (by decide),rfl⟩,?_⟩⟩
   ·rw [show decide (V.str (Str.ofString "put") = V.str (Str.ofString "rule")) = false from dk (by decide +kernel)]
    rfl
   ·exact tl _ _ ⟨rfl,h2'.setS _ (by omega),k2.trans (Kb.upd (by simp [Hd.all]))⟩
  | rule z x=>
   have h2':Ps a H2 (zI S (.inr z)) (zI R (.inr z)) O W:=h2
   have et':H2 t = some (.tup [.str "rule",.str z,px]):=et2
   have hl:=zJ R (.inr z)
   have hl':=zam (zI R (.inr z)) (.inr z) px
   refine iteT ⟨_,rfl,t,_,2,_,rfl,rfl,SqT.of et',zH (j:=2) rfl,_,rfl,_,rfl,t,_,0,_,rfl,rfl,SqT.of et',zH (j:=0) rfl,rfl,.inr ⟨_,rfl,a.p,_,_,.ref a.r,rfl,rfl,SqL.of h2'.top,?_,_,rfl,a.r,_,rfl,.inl ⟨_,.inr z,h2'.ru,rfl,Nat.lt_of_lt_of_le (show (zI R (.inr z)).length < 1000 by omega) (by decide),rfl⟩,?_⟩⟩
   ·rw [show decide (V.str (Str.ofString "rule") = V.str (Str.ofString "rule")) = true from dy rfl]
    rfl
   ·exact tl _ _ ⟨rfl,h2'.setR _ (by omega),k2.trans (Kb.upd (by simp [Hd.all]))⟩
  | one w z=>
   refine iteF (tl _ _ ⟨rfl,?_,k2⟩)
   cases w <;> exact h2
 obtain ⟨rfl,h3,k3⟩:=h3
 have et3:=k3 _ _ (hs.out et) et
 refine ⟨_,rfl,a.p,_,2,_,rfl,rfl,SqL.of h3.top,zH (j:=2) rfl,zl3,fun t1 ht1=>?_⟩
 have s1:=Same.new (o:=.tup [.str "open",.str "shut",.ref a.o]) ht1
 refine ⟨_,rfl,a.p,_,3,_,rfl,rfl,SqL.of (s1 _ _ h3.top),zH (j:=3) rfl,zl3,fun t2 ht2=>⟨zl2,fun ll hll=>?_⟩⟩
 have s2:=Same.new (o:=.tup [.str "wish",.str "let",.ref a.w]) ht2
 have s3:=Same.new (o:=.lst [.ref t1,.ref t2]) hll
 have s123:=s1.trans (s2.trans s3)
 have e1:=s3 _ _ (s2 _ _ (zc (H:=H3) (a:=t1) (o:=.tup [.str "open",.str "shut",.ref a.o])))
 have e2:=s3 _ _ (zc (H:=upd H3 t1 (.tup [.str "open",.str "shut",.ref a.o])) (a:=t2) (o:=.tup [.str "wish",.str "let",.ref a.w]))
 have h4:=h3.same s123
 have k4:Kb a.all H _:=k3.trans (.ofSame s123)
 have nll:ll ∉ a.all:=fun m=>by
  have h12:=h3.same (s1.trans s2)
  simp only [Hd.all,List.mem_cons,List.not_mem_nil,or_false] at m
  rcases m with rfl | rfl | rfl | rfl | rfl
  ·rw [h12.top] at hll; cases hll
  ·rw [h12.so] at hll; cases hll
  ·rw [h12.ru] at hll; cases hll
  ·rw [h12.op] at hll; cases hll
  ·rw [h12.wi] at hll; cases hll
 have ell:upd (upd (upd H3 t1 (.tup [.str "open",.str "shut",.ref a.o])) t2 (.tup [.str "wish",.str "let",.ref a.w])) ll (.lst [.ref t1,.ref t2]) ll = some (.lst [.ref t1,.ref t2]):=zc
 generalize upd (upd (upd H3 t1 (.tup [.str "open",.str "shut",.ref a.o])) t2 (.tup [.str "wish",.str "let",.ref a.w])) ll (.lst [.ref t1,.ref t2]) = H4 at h4 k4 e1 e2 ell s3 s123
 have et4:=k4 _ _ (hs.out et) et
 refine ⟨ll,rfl,⟨_,SqL.of ell⟩,zbm (K:=K) (xs:=[.ref t1,.ref t2]) (fun i σ' H'=>∃ (o3 o4 o5:Option V),σ' = [some (.ref a.p),some (.ref t),some (.str d.nm),o3,o4,o5]/\Ps a H' (bS px S d) (bR px R d) (if 1<=i then aO O d else O) (if 2<=i then aW W d else W)/\Kb a.all H4 H')
  ⟨none,none,none,rfl,h4,.ofSame (Same.refl _)⟩ (fun i σ' H' _ h=>?_) (fun i x σ' H' hx h=>?_) (fun σ' H' h=>?_)⟩
 ·obtain ⟨_,_,_,_,_,k5⟩:=h
  exact SqL.of (k5 _ _ nll ell)
 ·obtain ⟨o3,o4,o5,rfl,h5,k5⟩:=h
  have et5:=k5 _ _ (hs.out et) et4
  match i,hx with
  | 0,hx=>
   cases hx
   refine ⟨t1,_,rfl,SqT.of (k5 _ _ (h4.out e1) e1),rfl,_,_,rfl,_,_,rfl,_,_,rfl,rfl,?_⟩
   have h5':Ps a H' (bS px S d) (bR px R d) O W:=h5
   show tSeq _ _ _ _ _
   refine zix (K:=K) (t:=t) (lo:=a.o) (wd:=d.wd) (nm:=d.nm) (s1:="open") (s2:="shut") (L:=O) ?_ ?_ ?_ ?_ ?_ et5 h5'.op l3 ?_
   ·rfl
   ·rfl
   ·rfl
   ·rfl
   ·rfl
   ·rw [zfI]
    have hl:=zcs d.wd d.nm "open" "shut" O
    rw [zfI] at hl
    exact ⟨_,_,_,rfl,h5'.setO _ (by omega),k5.trans (Kb.upd (by simp [Hd.all]))⟩
  | 1,hx=>
   cases hx
   refine ⟨t2,_,rfl,SqT.of (k5 _ _ (h4.out e2) e2),rfl,_,_,rfl,_,_,rfl,_,_,rfl,rfl,?_⟩
   have h5':Ps a H' (bS px S d) (bR px R d) (aO O d) W:=h5
   show tSeq _ _ _ _ _
   refine zix (K:=K) (t:=t) (lo:=a.w) (wd:=d.wd) (nm:=d.nm) (s1:="wish") (s2:="let") (L:=W) ?_ ?_ ?_ ?_ ?_ et5 h5'.wi l4 ?_
   ·rfl
   ·rfl
   ·rfl
   ·rfl
   ·rfl
   ·rw [zfJ]
    have hl:=zcs d.wd d.nm "wish" "let" W
    rw [zfJ] at hl
    exact ⟨_,_,_,rfl,h5'.setW _ (by omega),k5.trans (Kb.upd (by simp [Hd.all]))⟩
  | j + 2,hx=>simp at hx
 ·obtain ⟨o3,o4,o5,rfl,h5,k5⟩:=h
  exact q _ h5 (k4.trans k5)
end
end D
namespace L2
open PySem PySem.Spec PyProof.Rows
theorem zmm {X:Cx} (hu64:X.A.units + 64 < cLine):OpR X (compareOp .Eq) (fun x y H Q=>∃ (a b:Addr) (ys:List Str),x = .ref a/\y = .ref b/\SqL X.K H a (ys.map V.str)/\SqL X.K H b (ys.map V.str)/\Q (.bl true) H):=by
 intro zp s σ H x y v u Q I rx ry h
 obtain ⟨a,b,ys,rfl,rfl,ha,hb,q⟩:=h
 cases rx
 have hu:X.A.units < cLine:=Nat.lt_of_le_of_lt (Nat.le_add_right _ 64) hu64
 cases ry
 obtain ⟨its,r1,p1,_⟩:=I.list ha
 obtain ⟨its2,r2,p2,_⟩:=I.list hb
 have l1:=r1.length
 have l2:=r2.length
 rw [List.length_map] at l1 l2
 have key:SeqAt.RcAt X.A s (.ref a) (.ref b) ((List.range its.toArray.size).all fun _=>true):=by
  refine SeqAt.RcAt.lists p1.isList p2.isList (by rw [List.size_toArray,List.size_toArray,← l1,← l2]) hu (fun j h1 h2=>?_)
  have j1:j < ys.length:=by rw [l1]; simpa using h1
  obtain ⟨u1,hu1,t1,rfl⟩:=r1.get (i:=j) (x:=V.str ys[j]) (by rw [List.getElem?_map,List.getElem?_eq_getElem j1]; rfl)
  obtain ⟨u2,hu2,t2,rfl⟩:=r2.get (i:=j) (x:=V.str ys[j]) (by rw [List.getElem?_map,List.getElem?_eq_getElem j1]; rfl)
  have e1:its.toArray[j] = .str ys[j] t1:=by
   have:=(List.getElem?_eq_some_iff.mp hu1).2
   simpa using this
  have e2:its2.toArray[j] = .str ys[j] t2:=by
   have:=(List.getElem?_eq_some_iff.mp hu2).2
   simpa using this
  rw [e1,e2]
  have:=SeqAt.EqAt.str_str (A:=X.A.in1) (s:=s) ys[j] t1 ys[j] t2
  rw [beq_self_eq_true] at this
  exact this
 have e:((List.range its.toArray.size).all fun _=>true) = true:=by simp
 rw [e] at key
 exact key X.prog X.w _ _ ⟨.bl true,H,I,rfl,q⟩
def Pv:V->Prop
 | .int _=>True
 | .str _=>True
 | .ref _=>True
 | _=>False
theorem zmO {A:Around}{s:Shared}{v:V}{x y:Value} (h:Pv v) (r1:RelV v x) (r2:RelV v y):SeqAt.EqAt A s x y true:=by
 cases v with
 | int i=>
  obtain ⟨t,rfl⟩:=r1
  obtain ⟨t',rfl⟩:=r2
  have:=SeqAt.EqAt.int_int (A:=A) (s:=s) i t i t'
  rw [beq_self_eq_true] at this
  exact this
 | str z=>
  obtain ⟨t,rfl⟩:=r1
  obtain ⟨t',rfl⟩:=r2
  have:=SeqAt.EqAt.str_str (A:=A) (s:=s) z t z t'
  rw [beq_self_eq_true] at this
  exact this
 | ref a=>cases r1; cases r2; exact .same _
 | _=>exact h.elim
theorem ze3 {k:Key}{v:V}:∀ {kvs:List (Key × V)},(kvs.map (·.1)).Nodup->(k,v)∈kvs->valV kvs k = some v
 | [],_,h=>by cases h
 | p :: r,nd,h=>by
  rw [List.map_cons,List.nodup_cons] at nd
  rcases List.mem_cons.mp h with h | h
  ·subst h; exact Zo rfl
  ·rw [Zg (fun e=>nd.1 (by rw [e]; exact List.mem_map_of_mem (f:=(·.1)) h))]
   exact ze3 nd.2 h
theorem zmP {A:Around}{s:Shared}{kb:List (Key × V)}{vs2:List (Key × Value)} (r2:KV kb vs2):
  ∀ {sub:List (Key × V)}{us:List (Key × Value)},KV sub us->(∀ p∈sub,valV kb p.1 = some p.2/\Pv p.2)->PySem.W.KeqHits A s vs2 us true:=by
 intro sub us r
 induction r with
 | nil=>intro _; exact .nil
 | @cons p q ps qs hpq _ ih=>
  intro hs
  obtain ⟨k,x⟩:=p
  obtain ⟨k',v⟩:=q
  obtain ⟨e1,rv⟩:=hpq
  cases e1
  obtain ⟨hm,hp⟩:=hs _ (List.mem_cons_self)
  have hv:=r2.val k
  rw [hm] at hv
  cases hy:valueAt vs2 k with
  | none=>rw [hy] at hv; exact hv.elim
  | some y=>
   rw [hy] at hv
   have:=PySem.W.KeqHits.hit hy (zmO (A:=A) (s:=s) hp rv hv) (ih fun p hp=>hs p (List.mem_cons_of_mem _ hp))
   rw [Bool.true_and] at this
   exact this
def zjT (ka kb:List (Key × V)):Prop:=ka.length = kb.length/\∀ p∈ka,valV kb p.1 = some p.2/\Pv p.2
theorem zkk {X:Cx} (hu:X.A.units + 64 < cLine):OpR X (compareOp .NotEq) (fun x y H Q=>∃ (a b:Addr) (ka kb:List (Key × V)),x = .ref a/\y = .ref b/\H a = some (.dK ka)/\H b = some (.dK kb)/\zjT ka kb/\Q (.bl false) H):=by
 intro zp s σ H x y v u Q I rx ry h
 obtain ⟨a,b,ka,kb,rfl,rfl,ea,eb,sm,q⟩:=h
 cases rx
 cases ry
 obtain ⟨_,sa,vs1,r1,d1⟩:=zhw I.hok ea
 obtain ⟨_,sb,vs2,r2,d2⟩:=zhw I.hok eb
 have l1:=r1.length
 have l2:=r2.length
 refine PySem.W.keq_ne sa sb d1 d2 (Nat.lt_of_le_of_lt (Nat.le_add_right _ 64) hu) (fun _=>zmP r2 r1 sm.2) ?_
 have e:(!(vs1.length == vs2.length && true)) = false:=by rw [← l1,← l2,sm.1]; simp
 rw [e]
 exact ⟨.bl false,H,I,rfl,q⟩
theorem zkl:∀ {ys:List Str}{us:List Value},Vals (ys.map V.str) us->(∀ v∈us,∃ z tk,v = .str z tk)/\us.map txOf = ys
 | [],_,.nil=>⟨(fun v h=>nomatch h),rfl⟩
 | y :: ys,_,.cons r rs=>by
  obtain ⟨t,rfl⟩:=r
  have ih:=zkl rs
  refine ⟨fun v h=>?_,by rw [List.map_cons,ih.2]; rfl⟩
  rcases List.mem_cons.mp h with rfl | h
  ·exact ⟨y,t,rfl⟩
  ·exact ih.1 v h
theorem zaL {X:Cx} (hc:X.calm = true):zau X (.builtin "sorted") (fun xs H Q=>∃ (a:Addr) (ds:List Str),xs = [.ref a]/\SqL X.K H a (ds.map V.str)/\ds.length < 64/\∀ (l:Addr) (ss:List Str),H l = none->ss.Perm ds->sortedS ss = true->Q (.ref l) (upd H l (.lst (ss.map V.str)))):=by
 intro zp s σ H xs us Q I r h
 obtain ⟨a,ds,rfl,ea,hn,q⟩:=h
 obtain ⟨u,rfl,rx⟩:=zbf r
 cases rx
 obtain ⟨its,ri,pl,_⟩:=I.list ea
 obtain ⟨ht,hm⟩:=zkl ri
 have hil:its.length < 64:=by rw [← hm,List.length_map] at hn; exact hn
 refine zdk (ds:=ds) (fun R hR=>collect_list (vs:=its) pl.isList ?_ (Nat.le_trans (Nat.le_of_lt hil) (by decide))) hn fun D h' tk d' out ss e kp hD g hs hp hS'=>?_
 ·have sz:(s.heap.push (seqObj "list" #[] 0)).objs.size = s.heap.objs.size + 1:=Heap.size_push ..
  refine hR _ s.toks s.drawn its (fun b o e=>?_) ?_ ht (.of_eq hm)
  ·rw [Heap.get?_update_other _ _ (Ne.symm (Nat.ne_of_lt (Heap.lt_size e)))]
   exact Heap.get?_push_of_some _ e
  ·rw [Heap.size_update,sz]
   exact Nat.le_succ _
 have hl:ss.length < 64:=by rw [hp.length_eq]; exact hn
 exact ⟨.ref D,_,(I.drawn d').laid (t':=tk) kp hD (show Zh X.prog X.w _ h' _ (.lst (ss.map V.str)) from ⟨by rw [List.length_map]; exact Nat.le_trans (Nat.le_of_lt hl) (by decide),out,e,zfv hs,g⟩),rfl,q D ss (I.hok.fresh hD) hp hS'⟩
end L2
namespace D
open PySem L2
theorem zae (k j:Key):∀ S:Kvs,valV (zI S k) j = if j = k then none else valV S j
 | []=>by
  split
  ·rfl
  ·rfl
 | p :: r=>by
  have ih:=zae k j r
  by_cases e:p.1 = k
  ·rw [zeq e,ih]
   by_cases h:j = k
   ·rw [if_pos h,if_pos h]
   ·rw [if_neg h,if_neg h,Zg (fun z=>h (z.symm.trans e))]
  ·rw [zer e]
   by_cases h:p.1 = j
   ·rw [Zo h,Zo h,if_neg (fun z=>e (h.trans z))]
   ·rw [Zg h,Zg h,ih]
theorem zkm {S:Kvs} (k:Key) (v:V) (h:(S.map (·.1)).Nodup):((putK S k v).map (·.1)).Nodup:=by
 cases e:valV S k with
 | none=>exact zkJ v h e
 | some y=>
  unfold putK
  rw [if_pos (by rw [Z3,e]; rfl),List.map_map]
  rw [show ((fun x:Key × V=>x.1) ∘ fun kv:Key × V=>if kv.1 = k then (kv.1,v) else kv) = (·.1) from funext fun kv=>by
   show (if kv.1 = k then (kv.1,v) else kv).1 = kv.1
   split <;> rfl]
  exact h
theorem zle {S:Kvs}{k:Key}{v:V}{p:Key × V} (h:p∈putK S k v):p.2 = v\/p∈S:=by
 unfold putK at h
 split at h
 ·obtain ⟨q,hq,rfl⟩:=List.mem_map.mp h
  split
  ·exact .inl rfl
  ·exact .inr hq
 ·rcases List.mem_append.mp h with h | h
  ·exact .inr h
  ·rw [List.mem_singleton.mp h]; exact .inl rfl
structure Bi (S S':Kvs):Prop where
 n1:(S.map (·.1)).Nodup
 n2:(S'.map (·.1)).Nodup
 eq:∀ k,valV S k = valV S' k
 pv:∀ p∈S,Pv p.2
theorem ziy {S:Kvs}{k:Key}:k∈S.map (·.1) ↔ valV S k≠none:=by
 refine ⟨fun m e=>zfX e m,fun h=>?_⟩
 cases e:valV S k with
 | none=>exact absurd e h
 | some v=>exact zkI e
theorem Bi.same {S S':Kvs} (h:Bi S S'):zjT S S':=by
 refine ⟨?_,fun p hp=>⟨by rw [← h.eq]; exact ze3 h.n1 hp,h.pv p hp⟩⟩
 have:=((List.perm_ext_iff_of_nodup h.n1 h.n2).mpr fun k=>by rw [ziy,ziy,h.eq]).length_eq
 rw [List.length_map,List.length_map] at this
 exact this
theorem Bi.nil:Bi [] []:=⟨List.nodup_nil,List.nodup_nil,fun _=>rfl,(fun p h=>nomatch h)⟩
theorem Bi.drop {S S':Kvs} (h:Bi S S') (k:Key):Bi (zI S k) (zI S' k):=
 ⟨zbt h.n1,zbt h.n2,fun j=>by rw [zae,zae,h.eq],fun p hp=>h.pv p (zes hp)⟩
theorem Bi.put {S S':Kvs} (h:Bi S S') (k:Key) {v:V} (hv:Pv v):Bi (putK S k v) (putK (zI S' k) k v):=by
 refine ⟨zkm k v h.n1,zkm k v (zbt h.n2),fun j=>?_,fun p hp=>?_⟩
 ·rw [zcg,zcg,zae,h.eq]
  by_cases e:j = k
  ·rw [if_pos e,if_pos e]
  ·rw [if_neg e,if_neg e,if_neg e]
 ·rcases zle hp with e | e
  ·rw [e]; exact hv
  ·exact h.pv p e
theorem bi_S {S S':Kvs}{pv:V} (hv:Pv pv) (h:Bi S S') (d:Dd):Bi (aS pv S d) (bS pv S' d):=by
 cases d with
 | put z x=>exact h.put _ hv
 | rule z x=>exact h.drop _
 | one w z=>cases w <;> first | exact h.drop _ | exact h
theorem bi_R {R R':Kvs}{pv:V} (hv:Pv pv) (h:Bi R R') (d:Dd):Bi (aR pv R d) (bR pv R' d):=by
 cases d with
 | put z x=>exact h.drop _
 | rule z x=>exact h.put _ hv
 | one w z=>cases w <;> first | exact h.drop _ | exact h
theorem zmn (pv:V) (S:Kvs) (d:Dd):(aS pv S d).length<=S.length + 1:=by
 cases d with
 | put z x=>exact zam S (.inr z) pv
 | rule z x=>exact Nat.le_succ_of_le (zJ S (.inr z))
 | one w z=>cases w <;> first | exact Nat.le_succ_of_le (zJ S (.inr z)) | exact Nat.le_succ _
theorem zmo (pv:V) (S:Kvs) (d:Dd):(aR pv S d).length<=S.length + 1:=by
 cases d with
 | put z x=>exact Nat.le_succ_of_le (zJ S (.inr z))
 | rule z x=>exact zam S (.inr z) pv
 | one w z=>cases w <;> first | exact Nat.le_succ_of_le (zJ S (.inr z)) | exact Nat.le_succ _
theorem zmp (W:List Str) (d:Dd):(aW W d).length<=W.length + 1:=by
 rw [← zfJ]
 exact zcs _ _ _ _ _
structure OpN (ns O:List Str):Prop where
 nd:O.Nodup
 sub:∀ z∈O,z∈ns
theorem zkn {l:List Str}:∀ {m:List Str},l.Nodup->(∀ z∈l,z∈m)->l.length<=m.length:=by
 induction l with
 | nil=>intro m _ _; exact Nat.zero_le _
 | cons a r ih=>
  intro m nd hs
  obtain ⟨h1,h2⟩:=List.nodup_cons.mp nd
  have ha:a∈m:=hs a List.mem_cons_self
  have:=ih (m:=m.erase a) h2 fun z hz=>(List.mem_erase_of_ne (fun e=>h1 (by rw [← e]; exact hz))).mpr (hs z (List.mem_cons_of_mem _ hz))
  rw [List.length_erase_of_mem ha] at this
  have hp:=List.length_pos_of_mem ha
  rw [List.length_cons]
  omega
theorem ziz (z:Str):∀ l:List Str,(rm z l).Sublist l
 | []=>.slnil
 | a :: r=>by
  rw [rm]
  split
  ·exact List.sublist_cons_self _ _
  ·exact (ziz z r).cons_cons _
theorem OpN.step {ns O:List Str} (h:OpN ns O) {d:Dd} (hd:d.Ok ns):OpN ns (aO O d):=by
 cases d with
 | put z x=>exact h
 | rule z x=>exact h
 | one w z=>cases w with
  | opn=>
   show OpN ns (addL z O)
   unfold addL
   split
   ·exact h
   ·rename_i hz
    refine ⟨zfd h.nd hz,fun y hy=>?_⟩
    rcases List.mem_append.mp hy with hy | hy
    ·exact h.sub y hy
    ·rw [List.mem_singleton.mp hy]; exact (show NmI ns z from hd).2
  | shut=>exact ⟨h.nd.sublist (ziz z O),fun y hy=>h.sub y ((ziz z O).subset hy)⟩
  | _=>exact h
theorem Hs.kb {AH:Addr}{a:Hd}{H H':Hp}{S R:Kvs}{O W:List Str}{N:List Addr} (h:Hs AH a H S R O W) (k:Kb N H H') (hn:∀ c∈a.all,c ∉ N):Hs AH a H' S R O W:=by
 obtain ⟨dx,e⟩:=h.ins
 have m:∀ c,c∈[a.p,a.s,a.r,a.o,a.w]->c ∉ N:=hn
 exact ⟨⟨dx,k _ _ (m _ (by simp)) e⟩,k _ _ (m _ (by simp)) h.so,k _ _ (m _ (by simp)) h.ru,k _ _ (m _ (by simp)) h.op,k _ _ (m _ (by simp)) h.wi,h.sr,h.ow,h.fs,h.fr,h.fo,h.fw⟩
theorem Ps.kb {a:Hd}{H H':Hp}{S R:Kvs}{O W:List Str}{N:List Addr} (h:Ps a H S R O W) (k:Kb N H H') (hn:∀ c∈a.all,c ∉ N):Ps a H' S R O W:=by
 have m:∀ c,c∈[a.p,a.s,a.r,a.o,a.w]->c ∉ N:=hn
 exact ⟨k _ _ (m _ (by simp)) h.top,k _ _ (m _ (by simp)) h.so,k _ _ (m _ (by simp)) h.ru,k _ _ (m _ (by simp)) h.op,k _ _ (m _ (by simp)) h.wi,h.sr,h.ow,h.po,h.pw,h.fs,h.fr,h.fo,h.fw⟩
theorem Hs.at {AH:Addr}{a:Hd}{H:Hp}{S R:Kvs}{O W:List Str} (h:Hs AH a H S R O W) {c:Addr} (hc:c∈a.all):∃ o,H c = some o:=by
 obtain ⟨dx,e⟩:=h.ins
 have m:c∈[a.p,a.s,a.r,a.o,a.w]:=hc
 simp only [List.mem_cons,List.not_mem_nil,or_false] at m
 rcases m with rfl | rfl | rfl | rfl | rfl
 ·exact ⟨_,e⟩
 ·exact ⟨_,h.so⟩
 ·exact ⟨_,h.ru⟩
 ·exact ⟨_,h.op⟩
 ·exact ⟨_,h.wi⟩
theorem Hs.out {AH:Addr}{a:Hd}{H:Hp}{S R:Kvs}{O W:List Str} (h:Hs AH a H S R O W) {t:Addr}{us:List V} (e:H t = some (.tup us)):t ∉ a.all:=fun m=>by
 obtain ⟨dx,ei⟩:=h.ins
 have m:t∈[a.p,a.s,a.r,a.o,a.w]:=m
 simp only [List.mem_cons,List.not_mem_nil,or_false] at m
 rcases m with rfl | rfl | rfl | rfl | rfl
 ·rw [ei] at e; cases e
 ·rw [h.so] at e; cases e
 ·rw [h.ru] at e; cases e
 ·rw [h.op] at e; cases e
 ·rw [h.wi] at e; cases e
theorem Hs.tups {AH:Addr}{a:Hd}{H H':Hp}{S R:Kvs}{O W:List Str} (h:Hs AH a H S R O W) (k:Kb a.all H H'):Tups H H':=fun t us e=>k t _ (h.out e) e
theorem Ps.tups {a:Hd}{H H':Hp}{S R:Kvs}{O W:List Str} (h:Ps a H S R O W) (k:Kb a.all H H'):Tups H H':=fun t us e=>k t _ (h.out e) e
theorem RW.pv {H:Hp}{v:V}{x:W} (h:RW H v x):Pv v:=by
 cases h <;> exact True.intro
theorem zgw {H:Hp}{v:V}{s z:Str}{x:W} (h:RW H v (.lst [.txt s,.txt z,x])):∃ t px,v = .ref t/\H t = some (.tup [.str s,.str z,px])/\RW H px x:=by
 cases h with
 | @lst a vs ws e l f=>
  obtain ⟨v1,r1,rfl,h1,h2⟩:=RWs.inv_cons ⟨l,f⟩
  obtain ⟨v2,r2,rfl,h3,h4⟩:=h2.inv_cons
  obtain ⟨v3,r3,rfl,h5,h6⟩:=h4.inv_cons
  obtain rfl:=h6.inv_nil
  cases h1
  cases h3
  exact ⟨a,v3,rfl,e,h5⟩
theorem zmq {H:Hp}{v:V}{s z:Str} (h:RW H v (.lst [.txt s,.txt z])):∃ t,v = .ref t/\H t = some (.tup [.str s,.str z]):=by
 cases h with
 | @lst a vs ws e l f=>
  obtain ⟨v1,r1,rfl,h1,h2⟩:=RWs.inv_cons ⟨l,f⟩
  obtain ⟨v2,r2,rfl,h3,h4⟩:=h2.inv_cons
  obtain rfl:=h4.inv_nil
  cases h1
  cases h3
  exact ⟨a,rfl,e⟩
theorem zlf {H:Hp}{v:V}{d:Dd} (h:RW H v d.toW):∃ t px,v = .ref t/\DdAt H t px d/\Pv px:=by
 cases d with
 | put z x=>
  obtain ⟨t,px,rfl,e,r⟩:=zgw h
  exact ⟨t,px,rfl,⟨e,r⟩,r.pv⟩
 | rule z x=>
  obtain ⟨t,px,rfl,e,r⟩:=zgw h
  exact ⟨t,px,rfl,⟨e,r⟩,RW.pv r⟩
 | one w z=>
  obtain ⟨t,rfl,e⟩:=zmq h
  exact ⟨t,.int 0,rfl,e,True.intro⟩
theorem DdAt.mono {H H':Hp}{t:Addr}{px:V}{d:Dd} (h:DdAt H t px d) (k:Tups H H'):DdAt H' t px d:=by
 cases d with
 | put z x=>exact ⟨k _ _ h.1,RW.mono k h.2⟩
 | rule z x=>exact ⟨k _ _ h.1,RW.mono k h.2⟩
 | one w z=>exact k _ _ h
def zjU (K:PySem.W.Frag):Sp:=fun vs H Q _=>∃ (a:Addr) (ns:List Int),vs = [.ref a]/\SqL K H a (ns.map V.int)/\ns.length<=63/\∀ H',Q (.bl true) H'
theorem ze4 {te:TE}{g:TG}{t:TS}{D:Ends}{σ:St}{H:Hp} (h:te σ H (fun v H'=>g v σ H' (fun σ' H''=>t D σ' H''))):tSeq (tAsg te g) t D σ H:=h
theorem zmr {AH:Addr}{σ:St}{H:Hp}{Q:VK} (q:∀ (a:Hd) (H':Hp),Hs AH a H' [] [] [] []->Same H H'->(∀ c∈a.all,H c = none)->Q (.ref a.p) H'):ziT AH (spHI AH) [] E0 tNil σ H Q:=by
 intro x dx hx hdx ne
 refine ⟨x,dx,rfl,zc,fun a H' ea hs kp e1 e2 e3 e4=>⟨rfl,?_⟩⟩
 subst ea
 have fr:∀ c,upd (upd H dx (.own a.p)) a.p (.ins AH dx []) c = none->H c = none:=fun c h=>by
  have n1:c≠a.p:=fun z=>by rw [z,zc] at h; cases h
  rw [zg n1] at h
  have n2:c≠dx:=fun z=>by rw [z,zc] at h; cases h
  rw [zg n2] at h
  exact h
 refine q a H' hs (fun c o e=>?_) (fun c hc=>?_)
 ·have n1:c≠a.p:=zk e hx
  refine kp c o n1 ?_
  rw [zg n1,zg (zk e hdx)]
  exact e
 ·have m:c∈[a.p,a.s,a.r,a.o,a.w]:=hc
  simp only [List.mem_cons,List.not_mem_nil,or_false] at m
  rcases m with rfl | rfl | rfl | rfl | rfl
  ·exact hx
  ·exact fr _ e1
  ·exact fr _ e2
  ·exact fr _ e3
  ·exact fr _ e4
theorem zlg {σ:St}{H:Hp}{Q:VK} (q:∀ (a:Hd) (H':Hp),Ps a H' [] [] [] []->Same H H'->(∀ c∈a.all,H c = none)->Q (.ref a.p) H'):tLst (Zq zek (Zq zek (Zq (tLst tNil) (Zq (tLst tNil) tNil)))) σ H Q:=by
 intro s hs r hr
 refine ⟨Nat.zero_le _,fun o ho=>⟨Nat.zero_le _,fun w' hw=>⟨zl4,fun p hp=>?_⟩⟩⟩
 have s1:=Same.new (o:=.dK []) hs
 have s2:=Same.new (o:=.dK []) hr
 have s3:=Same.new (o:=.lst []) ho
 have s4:=Same.new (o:=.lst []) hw
 have s5:=Same.new (o:=.lst [.ref s,.ref r,.ref o,.ref w']) hp
 have e1:=zc (H:=H) (a:=s) (o:=.dK [])
 have e2:=zc (H:=upd H s (.dK [])) (a:=r) (o:=.dK [])
 have e3:=zc (H:=upd (upd H s (.dK [])) r (.dK [])) (a:=o) (o:=.lst [])
 have e4:=zc (H:=upd (upd (upd H s (.dK [])) r (.dK [])) o (.lst [])) (a:=w') (o:=.lst [])
 have fr:∀ {G G':Hp}{c:Addr},Same G G'->G' c = none->G c = none:=fun {G G' c} t h=>by
  cases e:G c with
  | none=>rfl
  | some z=>rw [t _ _ e] at h; cases h
 refine q ⟨p,s,r,o,w'⟩ _ ⟨zc,s5 _ _ (s4 _ _ (s3 _ _ (s2 _ _ e1))),s5 _ _ (s4 _ _ (s3 _ _ e2)),s5 _ _ (s4 _ _ e3),s5 _ _ e4,zk e1 hr,zk e3 hw,(zk (s4 _ _ e3) hp).symm,(zk e4 hp).symm,Nat.zero_le _,Nat.zero_le _,Nat.zero_le _,Nat.zero_le _⟩ (s1.trans (s2.trans (s3.trans (s4.trans s5)))) (fun c hc=>?_)
 have m:c∈[p,s,r,o,w']:=hc
 simp only [List.mem_cons,List.not_mem_nil,or_false] at m
 rcases m with rfl | rfl | rfl | rfl | rfl
 ·exact fr (s1.trans (s2.trans (s3.trans s4))) hp
 ·exact hs
 ·exact fr s1 hr
 ·exact fr (s1.trans s2) ho
 ·exact fr (s1.trans (s2.trans s3)) hw
def YT (te:TE) (σ:St) (H:Hp) (t:T):Prop:=∀ (H1:Hp) (Q:VK),Same H H1->(∀ v H2,Same H1 H2->RT H2 v t->Q v H2)->te σ H1 Q
def YA (ta:TA) (σ:St) (H:Hp) (ts:List T):Prop:=∀ (H1:Hp) (Q:List V->Hp->Prop),Same H H1->(∀ vs H2,Same H1 H2->RTs H2 vs ts->Q vs H2)->ta σ H1 Q
theorem RTs.nil {H:Hp}:RTs H [] []:=⟨rfl,fun i v t e=>by simp at e⟩
theorem RTs.cons {H:Hp}{v:V}{t:T}{vs:List V}{ts:List T} (h:RT H v t) (g:RTs H vs ts):RTs H (v :: vs) (t :: ts):=by
 refine ⟨by rw [List.length_cons,List.length_cons,g.1],fun i v' t' a b=>?_⟩
 cases i with
 | zero=>cases a; cases b; exact h
 | succ i=>exact g.2 i v' t' (by simpa using a) (by simpa using b)
theorem zko {σ:St}{H:Hp}{i:Nat}{v:V}{t:T} (e:σ[i]? = some (some v)) (r:RT H v t):YT (tVar i) σ H t:=fun H1 Q s q=>⟨v,e,q v H1 (Same.refl _) (r.mono s)⟩
theorem yt_c {σ:St}{H:Hp}{v:V}{t:T} (r:RT H v t):YT (tC v) σ H t:=fun H1 Q s q=>q v H1 (Same.refl _) (r.mono s)
theorem zR {σ:St}{H:Hp}:YA tNil σ H []:=fun H1 Q s q=>q [] H1 (Same.refl _) .nil
theorem zj {σ:St}{H:Hp}{te:TE}{ta:TA}{t:T}{ts:List T} (h:YT te σ H t) (g:YA ta σ H ts):YA (Zq te ta) σ H (t :: ts):=fun H1 Q s q=>
 h H1 _ s fun v H2 s2 r2=>g H2 _ (s.trans s2) fun vs H3 s3 r3=>q (v :: vs) H3 (s2.trans s3) (.cons (r2.mono s3) r3)
theorem Zw {σ:St}{H:Hp}{ta:TA}{ts:List T} (g:YA ta σ H ts) (hl:ts.length<=1000):YT (tTup ta) σ H (.tup ts):=fun H1 Q s q=>
 g H1 _ s fun vs H2 s2 r2=>⟨Nat.le_trans (show vs.length<=1000 by rw [r2.1]; exact hl) (by decide),fun p hp=>q _ _ (s2.trans (Same.new hp)) ((r2.mono (Same.new hp)).rt zc)⟩
theorem ziA {σ:St}{H:Hp}{ta:TA}{ts:List T} (g:YA ta σ H ts) (hl:ts.length<=1000):YT (tLst ta) σ H .lst:=fun H1 Q s q=>
 g H1 _ s fun vs H2 s2 r2=>⟨Nat.le_trans (show vs.length<=1000 by rw [r2.1]; exact hl) (by decide),fun p hp=>q _ _ (s2.trans (Same.new hp)) (.lst zc)⟩
theorem RTs.cat {H:Hp}{vs us:List V}{ts ps:List T} (h:RTs H vs ts) (g:RTs H us ps):RTs H (vs ++ us) (ts ++ ps):=by
 refine ⟨by rw [List.length_append,List.length_append,h.1,g.1],fun i v t a b=>?_⟩
 by_cases hi:i < vs.length
 ·rw [List.getElem?_append_left hi] at a
  rw [List.getElem?_append_left (by rw [← h.1]; exact hi)] at b
  exact h.2 i v t a b
 ·rw [List.getElem?_append_right (by omega)] at a
  rw [List.getElem?_append_right (by rw [← h.1]; omega),← h.1] at b
  exact g.2 _ v t a b
theorem zms {K:PySem.W.Frag}{σ:St}{H:Hp}{ta tb:TE}{as bs:List T} (h:YT ta σ H (.tup as)) (g:YT tb σ H (.tup bs)) (hn:as≠[]) (hl:as.length + bs.length<=1000):YT (tOp (zkC K) ta tb) σ H (.tup (as ++ bs)):=fun H1 Q s q=>
 h H1 _ s fun v H2 s2 r2=>g H2 _ (s.trans s2) fun u H3 s3 r3=>by
  obtain ⟨a,xs,rfl,ea,hxs⟩:=r2.inv_tup
  obtain ⟨b,ys,rfl,eb,hys⟩:=r3.inv_tup
  have l1:=hxs.1
  have l2:=hys.1
  refine ⟨a,b,xs,ys,rfl,rfl,SqT.of (s3 _ _ ea),SqT.of eb,(fun z=>hn (List.length_eq_zero_iff.mp (by rw [← l1,z]; rfl))),Nat.le_trans (show xs.length + ys.length<=1000 by omega) (by decide),fun z=>?_,fun _ p hp=>?_⟩
  ·have hb:bs = []:=List.length_eq_zero_iff.mp (by rw [← l2,z]; rfl)
   subst hb
   rw [List.append_nil] at q
   exact q _ H3 (s2.trans s3) (r2.mono s3)
  ·have s4:=Same.new (o:=.tup (xs ++ ys)) hp
   exact q _ _ ((s2.trans s3).trans s4) (((hxs.mono (s3.trans s4)).cat (hys.mono s4)).rt zc)
def tk (i:Nat) (n:Int):TE:=zb6 Z9 [] E0 (Zq (tVar i) (Zq (tC (.int n)) tNil))
theorem RT.step {b:Addr}{H H':Hp} (st:Step b H H') (hb:Zd H b) {v:V}{t:T} (h:RT H v t):RT H' v t:=by
 induction h with
 | non=>exact .non
 | bl b=>exact .bl b
 | num i=>exact .num i
 | txt x=>exact .txt x
 | tup e l _ ih=>exact .tup (st.tups hb _ _ e) l ih
 | @lst a vs e=>
  by_cases hab:a = b
  ·subst hab
   obtain ⟨x,y,z,e'⟩:=st.box
   exact .lst e'
  ·exact .lst (st.keep _ _ hab e)
 | dic e=>exact .dic (st.keepN hb e (fun _ _ _ z=>nomatch z))
def rp (k c:Nat):Str:=⟨(List.replicate k c).toArray⟩
theorem zmQ {z:Str}{k c:Nat} (h:z.cps.toList = List.replicate k c):z = rp k c:=by
 cases z with
 | mk a=>
  unfold rp
  congr 1
  rw [← h]
theorem ze5 (k c:Nat):(rp k c).length = k:=by
 show (List.replicate k c).toArray.size = k
 rw [List.size_toArray,List.length_replicate]
theorem ziB {σ:St}{H:Hp} (z:Str) (k:Int) (h1:z.length = 1) (h2:1<=k) (h3:k < 1000000):YT (tOp (fun x y H Q=>∃ (z:Str) (k:Int),x = .str z/\y = .int k/\z.length = 1/\1<=k/\k < 1000000/\∀ r:Str,r.cps.toList = List.replicate k.toNat (z.cps.getD 0 0)->Q (.str r) H) (tC (.str z)) (tC (.int k))) σ H (.txt (rp k.toNat (z.cps.getD 0 0))):=fun H1 Q s q=>
 ⟨z,k,rfl,rfl,h1,h2,h3,fun r hr=>by rw [zmQ hr]; exact q _ H1 (Same.refl _) (.txt _)⟩
theorem ziC {K:PySem.W.Frag}{σ:St}{H:Hp}{te:TE}{t:T} (k:Int) (h:YT te σ H (.tup [t])) (h2:1 < k) (h3:k < 1000000):YT (tOp (zlZ K) te (tC (.int k))) σ H (.tup (List.replicate k.toNat t)):=fun H1 Q s q=>
 h H1 _ s fun v H2 s2 r2=>by
  obtain ⟨a,us,rfl,ea,hus⟩:=r2.inv_tup
  have hul:us.length = 1:=hus.1
  obtain ⟨u,rfl⟩:∃ u,us = [u]:=match us,hul with | [u],_=>⟨u,rfl⟩
  refine ⟨a,k,[u],rfl,rfl,SqT.of ea,by simp,h2,h3,by show 1 * k.toNat<=1000000; omega,fun p hp=>?_⟩
  have s3:=Same.new (o:=.tup (List.replicate k.toNat [u]).flatten) hp
  refine q _ _ (s2.trans s3) (.tup zc (by rw [zf9,List.length_replicate,List.length_replicate]) fun i v t' a1 a2=>?_)
  rw [zf9] at a1
  rw [List.eq_of_mem_replicate (List.mem_of_getElem? a1),List.eq_of_mem_replicate (List.mem_of_getElem? a2)]
  exact (hus.2 0 u t rfl rfl).mono s3
theorem zlh {σ:St}{H:Hp}:YT zek σ H .dic:=fun H1 Q s q p hp=>q _ _ (Same.new hp) (.dic zc)
def nest:Nat->T
 | 0=>.tup []
 | n + 1=>.tup [nest n]
theorem ze6:∀ (n:Nat) (lv:Int),zaS (nest n) lv = decide ((n:Int) < lv)
 | 0,lv=>by
  show (decide (0<=60) && decide (0 < lv) && true) = decide (((0:Nat):Int) < lv)
  simp
 | n + 1,lv=>by
  show (decide (1<=60) && decide (0 < lv) && (zaS (nest n) (lv - 1) && true)) = _
  rw [ze6 n (lv - 1),Bool.eq_iff_iff]
  simp
  omega
theorem ziD:∀ n:Nat,(nest n).Sm
 | 0=>⟨by decide,trivial⟩
 | n + 1=>⟨by show 1<=100000; decide,ziD n,trivial⟩
def NoW (t:T):Prop:=t.Sm/\zQ t = false
theorem ZL {t:T} (h:t.Sm) (h2:zaS t 12 = false):NoW t:=⟨h,by unfold zQ; rw [h2]; rfl⟩
theorem zjV {z:Str} (h:400 < z.length) (h2:z.length<=100000):NoW (.txt z):=ZL h2 (by show (decide (z.length<=400) && zao z) = false; rw [decide_eq_false (by omega)]; rfl)
theorem zli {x:Str} (h:nmB x = true):∃ a b:List Nat,x.cps.toList = a ++ 46 :: b/\(∀ c∈a,in36 c = true)/\(∀ c∈b,in36 c = true)/\b.length<=12:=by
 unfold nmB at h
 rw [Bool.and_eq_true,decide_eq_true_iff] at h
 obtain ⟨hl,ha⟩:=h
 have hj:=StrLaws.join_split x dot
 match hs:zay x,hl,ha with
 | [r,w],_,ha=>
  have hs':Txt.split x dot = [r,w]:=hs
  rw [hs'] at hj
  have hj:r ++ dot ++ w = x:=hj
  simp only [List.all_cons,List.all_nil,Bool.and_true,Bool.and_eq_true] at ha
  have wd:∀ y:Str,wdB y = true->y.length<=12/\∀ c∈y.cps.toList,in36 c = true:=fun y hy=>by
   unfold wdB at hy
   rw [Bool.and_eq_true,Bool.and_eq_true,decide_eq_true_iff,decide_eq_true_iff] at hy
   exact ⟨by have:=hy.2.1; omega,List.all_eq_true.mp hy.2.2⟩
  refine ⟨r.cps.toList,w.cps.toList,?_,(wd r ha.1).2,(wd w ha.2).2,by rw [zM]; exact (wd w ha.2).1⟩
  rw [← hj,zO,zO,show dot.cps.toList = [46] by rw [zb5],List.append_assoc]
  rfl
theorem in46 {l:List Nat} (h:∀ c∈l,in36 c = true):46 ∉ l:=fun m=>by have:=h _ m; rw [no46] at this; cases this
theorem zcZ {x:Str} (h:∀ a b:List Nat,x.cps.toList = a ++ 46 :: b->(∀ c∈a,in36 c = true)->(∀ c∈b,in36 c = true)->b.length<=12->False):nmB x = false:=by
 cases e:nmB x with
 | false=>rfl
 | true=>obtain ⟨a,b,h1,h2,h3,h4⟩:=zli e; exact (h a b h1 h2 h3 h4).elim
theorem ziE {x:Str}{c:Nat} (hc:c∈x.cps.toList) (h1:in36 c = false) (h2:c≠46):nmB x = false:=zcZ fun a b e ha hb _=>by
 rw [e] at hc
 rcases List.mem_append.mp hc with hc | hc
 ·rw [ha c hc] at h1; cases h1
 ·rcases List.mem_cons.mp hc with hc | hc
  ·exact h2 hc
  ·rw [hb c hc] at h1; cases h1
theorem zdZ {x:Str} (h:x.cps.toList.count 46≠1):nmB x = false:=zcZ fun a b e ha hb _=>by
 refine h ?_
 rw [e,List.count_append,List.count_cons_self,List.count_eq_zero.mpr (in46 ha),List.count_eq_zero.mpr (in46 hb)]
theorem zmt:∀ {a p b s:List Nat},46 ∉ a->46 ∉ p->a ++ 46 :: b = p ++ 46 :: s->b = s
 | [],[],b,s,_,_,e=>by injection e
 | [],y :: p,b,s,_,h,e=>by injection e with e _; exact absurd (by rw [e]; simp) h
 | x :: a,[],b,s,h,_,e=>by injection e with e _; exact absurd (by rw [e]; simp) h
 | x :: a,y :: p,b,s,h1,h2,e=>by
  injection e with _ e
  exact zmt (fun m=>h1 (List.mem_cons_of_mem _ m)) (fun m=>h2 (List.mem_cons_of_mem _ m)) e
theorem zlj {x:Str}{p s:List Nat} (e:x.cps.toList = p ++ 46 :: s) (hp:46 ∉ p) (hs:12 < s.length):nmB x = false:=zcZ fun a b e2 ha hb hl=>by
 rw [zmt (in46 ha) hp (e2.symm.trans e)] at hl
 omega
theorem Nm.list {z:Str} (h:Nm z):∃ r w:Str,z = r ++ dot ++ w/\Wd r/\Wd w/\z.cps.toList = r.cps.toList ++ 46 :: w.cps.toList/\46 ∉ r.cps.toList/\46 ∉ w.cps.toList:=by
 obtain ⟨r,w,rfl,h1,h2⟩:=h
 refine ⟨r,w,rfl,h1,h2,?_,h1.free,h2.free⟩
 rw [zO,zO,show dot.cps.toList = [46] by rw [zb5],List.append_assoc]
 rfl
theorem Nm.repl {z y:Str} (h:Nm z):∃ r w:Str,Wd r/\Wd w/\Txt.replace z dot y = r ++ y ++ w:=by
 obtain ⟨r,w,rfl,h1,h2⟩:=h
 refine ⟨r,w,h1,h2,?_⟩
 have e:=StrLaws.replace_one (r ++ dot ++ w) y 46
 rw [← zb5] at e
 rw [e,show Txt.split (r ++ dot ++ w) dot = [r,w] from zeV h1.free h2.free]
 rfl
def s12:Str:=rp 12 97
def noN (z:Str):List T:=[.txt (z ++ Str.ofString ".a"),.txt (Txt.replace z (Str.ofString ".") (Str.ofString "")),.txt (Txt.replace z (Str.ofString ".") (Str.ofString "..")),.txt (z ++ s12),.txt (Str.ofString "A" ++ z),.txt (z ++ Str.ofString " ")]
def noN2 (z:Str):List T:=[.txt "",.txt ".",.txt "a.",.txt ".a",.non,.num 7,.tup [.txt z,.txt z],.bl true]
def NoN (t:T):Prop:=t.Le 1000/\nmT t = false
theorem zar {z:Str} (h1:z.length<=1000) (h2:nmB z = false):NoN (.txt z):=⟨fun y e=>by cases e; exact h1,h2⟩
theorem ZY (x y:Str):(x ++ y).length = x.length + y.length:=by rw [← zM,zO,List.length_append,zM,zM]
theorem zmu {z:Str} (h:Nm z):∀ t∈noN z,NoN t:=by
 have hl:=h.len
 obtain ⟨r,w,ez,h1,h2,e,f1,f2⟩:=h.list
 intro t ht
 simp only [noN,List.mem_cons,List.not_mem_nil,or_false] at ht
 rcases ht with rfl | rfl | rfl | rfl | rfl | rfl
 ·refine zar (by rw [ZY,show (Str.ofString ".a").length = 2 by decide +kernel]; omega) (zdZ ?_)
  rw [zO,e,List.count_append,List.count_append,List.count_cons_self,show (Str.ofString ".a").cps.toList.count 46 = 1 by decide +kernel]
  omega
 ·obtain ⟨r',w',g1,g2,er⟩:=h.repl (y:=Str.ofString "")
  have k1:=g1.hi
  have k2:=g2.hi
  rw [show Txt.replace z (Str.ofString ".") (Str.ofString "") = _ from er]
  refine zar (by rw [ZY,ZY,show (Str.ofString "").length = 0 by decide +kernel]; omega) (zdZ ?_)
  rw [zO,zO,List.count_append,List.count_append,List.count_eq_zero.mpr g1.free,List.count_eq_zero.mpr g2.free,show (Str.ofString "").cps.toList.count 46 = 0 by decide +kernel]
  omega
 ·obtain ⟨r',w',g1,g2,er⟩:=h.repl (y:=Str.ofString "..")
  have k1:=g1.hi
  have k2:=g2.hi
  rw [show Txt.replace z (Str.ofString ".") (Str.ofString "..") = _ from er]
  refine zar (by rw [ZY,ZY,show (Str.ofString "..").length = 2 by decide +kernel]; omega) (zdZ ?_)
  rw [zO,zO,List.count_append,List.count_append,show (Str.ofString "..").cps.toList.count 46 = 2 by decide +kernel]
  omega
 ·refine zar (by rw [ZY,show s12.length = 12 from ze5 12 97]; omega) (zlj (p:=r.cps.toList) (s:=w.cps.toList ++ s12.cps.toList) ?_ f1 ?_)
  ·rw [zO,e,List.append_assoc]; rfl
  ·have:=h2.lo
   rw [List.length_append,zM,zM,show s12.length = 12 from ze5 12 97]
   omega
 ·refine zar (by rw [ZY,show (Str.ofString "A").length = 1 by decide +kernel]; omega) (ziE (c:=65) ?_ (by decide +kernel) (by decide))
  rw [zO]
  exact List.mem_append_left _ (by decide +kernel)
 ·refine zar (by rw [ZY,show (Str.ofString " ").length = 1 by decide +kernel]; omega) (ziE (c:=32) ?_ (by decide +kernel) (by decide))
  rw [zO]
  exact List.mem_append_right _ (by decide +kernel)
theorem zlk (z:Str):∀ t∈noN2 z,NoN t:=by
 intro t ht
 simp only [noN2,List.mem_cons,List.not_mem_nil,or_false] at ht
 rcases ht with rfl | rfl | rfl | rfl | rfl | rfl | rfl | rfl
 ·exact zar (by decide +kernel) (by decide +kernel)
 ·exact zar (by decide +kernel) (by decide +kernel)
 ·exact zar (by decide +kernel) (by decide +kernel)
 ·exact zar (by decide +kernel) (by decide +kernel)
 ·exact ⟨(fun y e=>nomatch e),rfl⟩
 ·exact ⟨(fun y e=>nomatch e),rfl⟩
 ·exact ⟨(fun y e=>nomatch e),rfl⟩
 ·exact ⟨(fun y e=>nomatch e),rfl⟩
theorem zd0 {σ:St}{H:Hp}{ta tb:TE}{x y:Str} (h:YT ta σ H (.txt x)) (g:YT tb σ H (.txt y)) (hl:x.length + y.length<=1000):YT (tOp (fun x y H Q=>∃ i j,x = .str i/\y = .str j/\i.length + j.length<=sizeLine/\Q (.str (i ++ j)) H) ta tb) σ H (.txt (x ++ y)):=fun H1 Q s q=>
 h H1 _ s fun v H2 s2 r2=>g H2 _ (s.trans s2) fun u H3 s3 r3=>by
  cases r2
  cases r3
  exact ⟨x,y,rfl,rfl,Nat.le_trans hl (by decide),q _ H3 (s2.trans s3) (.txt _)⟩
theorem ziF {σ:St}{H:Hp}{ta:TE}{x y z:Str} (h:YT ta σ H (.txt x)) (hl:x.length<=1000):YT (zk4 y z ta) σ H (.txt (Txt.replace x y z)):=fun H1 Q s q=>
 h H1 _ s fun v H2 s2 r2=>by
  cases r2
  exact ⟨x,rfl,hl,q _ H2 s2 (.txt _)⟩
theorem zll {H H':Hp}{b l:Addr}{xs:List V}{ts:List T}{r:Int} (hb:Zd H b) (hlb:l≠b) (hl:H l = some (.lst xs)) (rt:RTs H xs ts) (st:Step b H H') (r0:0<=r) (r1:r < (xs.length:Nat)):∃ v t,atI xs r = some v/\t∈ts/\RT H' v t/\H' l = some (.lst xs):=by
 have hm:r.toNat < xs.length:=by omega
 have hv:xs[r.toNat]? = some xs[r.toNat]:=List.getElem?_eq_getElem hm
 have hm2:r.toNat < ts.length:=by rw [← rt.1]; exact hm
 have ht:ts[r.toNat]? = some ts[r.toNat]:=List.getElem?_eq_getElem hm2
 refine ⟨_,_,?_,List.mem_of_getElem? ht,(rt.2 _ _ _ hv ht).step st hb,st.keep l _ hlb hl⟩
 have:=zH hv
 rw [show ((r.toNat:Nat):Int) = r by omega] at this
 exact this
def zd1:Sp:=fun vs H Q _=>∃ (b:Addr) (z:Str),vs = [.ref b,.str z]/\Zd H b/\Nm z/\∀ (v:V) (t:T) (H':Hp),RT H' v t->NoN t->Step b H H'->Q v H'
def noW (d:T):List T:=[.bl true,.non,.lst,.dic,.num (10 ^ 60),.num (-(10 ^ 60)),.txt (rp 401 97),.tup (List.replicate 61 (.num 0)),d,.tup [.num 1,.bl true],.tup [.non]]
theorem zmv:∀ t∈noW (nest 12),NoW t:=by
 intro t ht
 simp only [noW,List.mem_cons,List.not_mem_nil,or_false] at ht
 rcases ht with rfl | rfl | rfl | rfl | rfl | rfl | rfl | rfl | rfl | rfl | rfl
 ·exact ZL trivial rfl
 ·exact ZL trivial rfl
 ·exact ZL trivial rfl
 ·exact ZL trivial rfl
 ·exact ZL trivial (show decide (-(10 ^ 60) < ((10 ^ 60):Int)/\((10 ^ 60):Int) < 10 ^ 60) = false from decide_eq_false (by omega))
 ·exact ZL trivial (show decide (-(10 ^ 60) < (-(10 ^ 60):Int)/\(-(10 ^ 60):Int) < 10 ^ 60) = false from decide_eq_false (by omega))
 ·exact zjV (by rw [ze5]; decide) (by rw [ze5]; decide)
 ·refine ZL ⟨by rw [List.length_replicate]; decide,zio fun y hy=>by rw [List.eq_of_mem_replicate hy]; trivial⟩ ?_
  show (decide ((List.replicate 61 (T.num 0)).length<=60) && decide ((0:Int) < 12) && fitsA (List.replicate 61 (T.num 0)) (12 - 1)) = false
  rw [decide_eq_false (by rw [List.length_replicate]; decide)]
  rfl
 ·exact ZL (ziD 12) (by rw [ze6]; exact decide_eq_false (by omega))
 ·exact ZL ⟨by show 2<=100000; decide,trivial,trivial,trivial⟩ rfl
 ·exact ZL ⟨by show 1<=100000; decide,trivial,trivial⟩ rfl
def zc0:Sp:=fun vs H Q _=>∃ b:Addr,vs = [.ref b]/\Zd H b/\∀ (v:V) (t:T) (H':Hp),RT H' v t->NoW t->Step b H H'->Q v H'
section
variable {P:Program}{w:World}{K:PySem.W.Frag}{mg:Str->Option Value}{base:Heap}{f:Addr}{fd:FuncData}{k n:Nat}{ANoName AHouse ANoWorth ANoRule ANoThing zN ANoStep ANoRow AForgeError:Addr}
theorem zbj:FnScope ["_law_box_here","_law_name","_law_some"] ["_law_box_here","_law_name"] (zh za5):=⟨rfl,rfl,rfl,by decide +kernel,rfl,by decide +kernel,by decide +kernel⟩
theorem zfK (F:Fun K "_law_no_name" "_law_no_name" za5 f fd) (G_ltake:Have P w K mg base "_law_take" k ["_law_box_here","_law_wide"] (Z9)) (m_len:mg "len" = none):FnOk P w K mg base CX0 (k + 1) f fd ["_law_box_here","_law_name"] (zd1):=by
 refine F.okQ zbj (fun vs H Q E h=>?_) (fun cdv A outer s H vs Q E hr h=>?_)
 ·obtain ⟨b,z,rfl,_⟩:=h
  rfl
 obtain ⟨b,z,rfl,hb,hz,q⟩:=h
 refine ⟨_,(zd (zn (i:=2) zbj.nd rfl (Or.inl rfl) (zL (zdG (zfx (pv 1) (by decide +kernel)) (zcm (zcn (pkv 1) (by decide +kernel) (by decide +kernel)) (zcm (zcn (pkv 1) (by decide +kernel) (by decide +kernel)) (QA.k (za (zw Zj (pv 1) (zw zh2 zi ze)) (za (zw Zj zi (pv 1)) (za (zw Zj (pv 1) zi) zb)))))))))
  (zd (zn (i:=2) zbj.nd rfl (Or.inl rfl) (zw zcG (pv 2) (zL (za zi (za zi (za zi (za zi (za zas (za ze (za (zt (za (pv 1) (za (pv 1) zb))) (za zan zb)))))))))))
  (zf (zr (zx zE (pv 2) (zu G_ltake hr rfl (za (pv 0) (za (zl zD rfl m_len PySem.boot_len (za (pv 2) zb)) zb))) (fun _ _=>rfl)))))),?_⟩
 have hzl:=hz.len
 have yz:∀ {σ:St}{G:Hp},σ[1]? = some (some (.str z))->YT (tVar 1) σ G (.txt z):=fun {σ G} e=>zko e (.txt z)
 have ya:YA _ [some (.ref b),some (.str z),none] H (noN z):=
  zj (te:=tOp zk3 (tVar 1) (tC (.str (Str.ofString ".a")))) (zd0 (yz rfl) (yt_c (.txt _)) (by rw [show (Str.ofString ".a").length = 2 by decide +kernel]; omega)) (zj (ziF (yz rfl) (by omega)) (zj (ziF (yz rfl) (by omega)) (zj (zd0 (yz rfl) (ziB (Str.ofString "a") 12 (by decide +kernel) (by decide) (by decide)) (by show z.length + (rp 12 _).length<=1000; rw [ze5]; omega)) (zj (zd0 (yt_c (.txt _)) (yz rfl) (by rw [show (Str.ofString "A").length = 1 by decide +kernel]; omega)) (zj (zd0 (yz rfl) (yt_c (.txt _)) (by rw [show (Str.ofString " ").length = 1 by decide +kernel]; omega)) zR)))))
 refine ze4 ?_
 refine ya H _ (Same.refl _) fun xs H1 s1 r1=>?_
 have hx6:xs.length = 6:=r1.1
 refine ⟨Nat.le_trans (show xs.length<=100 by omega) (by decide),fun l1 hl1=>?_⟩
 have s2:=Same.new (o:=.lst xs) hl1
 have e2:upd H1 l1 (.lst xs) l1 = some (.lst xs):=zc
 generalize upd H1 l1 (.lst xs) = H2 at s2 e2
 dsimp only [Z7]
 have yb:YA _ [some (.ref b),some (.str z),some (.ref l1)] H2 (noN2 z):=
  zj (yt_c (.txt _)) (zj (yt_c (.txt _)) (zj (yt_c (.txt _)) (zj (yt_c (.txt _)) (zj (yt_c .non) (zj (yt_c (.num _)) (zj (Zw (zj (yz rfl) (zj (yz rfl) zR)) (by show 2<=1000; decide)) (zj (yt_c (.bl _)) zR)))))))
 refine ⟨_,rfl,?_⟩
 refine yb H2 _ (Same.refl _) fun us H3 s3 r3=>?_
 have hu8:us.length = 8:=r3.1
 refine ⟨Nat.le_trans (show us.length<=100 by omega) (by decide),fun l2 hl2=>?_⟩
 have s4:=Same.new (o:=.lst us) hl2
 have e4:upd H3 l2 (.lst us) l2 = some (.lst us):=zc
 generalize upd H3 l2 (.lst us) = H4 at s4 e4
 refine ⟨l1,l2,xs,us,rfl,rfl,(s3.trans s4) _ _ e2,e4,Nat.le_trans (show xs.length + us.length<=100 by omega) (by decide),fun l3 hl3=>?_⟩
 have s5:=Same.new (o:=.lst (xs ++ us)) hl3
 have e5:upd H4 l3 (.lst (xs ++ us)) l3 = some (.lst (xs ++ us)):=zc
 have s14:=s1.trans (s2.trans (s3.trans s4))
 have hb4:=(Step.ofSame' hb s14).box
 have st5:=Step.ofSame' hb (s14.trans s5)
 have h3b:l3≠b:=Zd.ne hb4 hl3
 have rAll:RTs (upd H4 l3 (.lst (xs ++ us))) (xs ++ us) (noN z ++ noN2 z):=(r1.mono (s2.trans (s3.trans (s4.trans s5)))).cat (r3.mono (s4.trans s5))
 have hlen:(xs ++ us).length = 14:=by rw [List.length_append]; omega
 generalize upd H4 l3 (.lst (xs ++ us)) = H5 at s5 e5 st5 rAll
 generalize xs ++ us = zs at e5 rAll hlen
 refine ⟨_,rfl,_,rfl,_,rfl,_,_,rfl,.inl ⟨_,SqL.of e5,rfl⟩,b,_,rfl,st5.box,by rw [hlen]; decide,by rw [hlen]; decide,fun r H6 r0' r1' st6=>?_⟩
 obtain ⟨v,t,hat,hm,rt,e6⟩:=zll st5.box h3b e5 rAll st6 r0' r1'
 refine ⟨l3,_,r,_,rfl,rfl,SqL.of e6,hat,q v t _ rt ?_ (st5.trans st6)⟩
 rcases List.mem_append.mp hm with h | h
 ·exact zmu hz t h
 ·exact zlk z t h
theorem ZZ:FnScope ["_law_box_here","_law_deep","_law_k","_law_some"] ["_law_box_here"] (zh zaG):=⟨rfl,rfl,rfl,by decide +kernel,rfl,by decide +kernel,by decide +kernel⟩
theorem ze7 (F:Fun K "_law_no_worth" "_law_no_worth" zaG f fd) (G_ltake:Have P w K mg base "_law_take" k ["_law_box_here","_law_wide"] (Z9)) (m_len:mg "len" = none) (m_range:mg "range" = none):FnOk P w K mg base CX0 (k + 1) f fd ["_law_box_here"] (zc0):=by
 refine F.okQ ZZ (fun vs H Q E h=>?_) (fun cdv A outer s H vs Q E hr h=>?_)
 ·obtain ⟨b,rfl,_⟩:=h
  rfl
 obtain ⟨b,rfl,hb,q⟩:=h
 refine ⟨_,(zd (zn (i:=1) ZZ.nd rfl (Or.inl rfl) (zt zb))
  (zd (Z1 PassesOwn.never rfl (Zs rfl m_range (za ze zb)) (zV (i:=2) ZZ.nd rfl (Or.inl rfl)) (zf (zn (i:=1) ZZ.nd rfl (Or.inl rfl) (zt (za (pv 1) zb)))))
  (zd (zn (i:=3) ZZ.nd rfl (Or.inl rfl) (zL (za zan (za zas (za (zL (za ze zb)) (za zaA (za (zw zbo ze ze) (za (zhh zhj (zw zbo ze ze)) (za (zw zh2 zi ze) (za (zw zh1 (zt (za ze zb)) ze) (za (pv 1) (za (zt (za ze (za zan zb))) (za (zt (za zas zb)) zb)))))))))))))
  (zf (zr (zx zE (pv 3) (zu G_ltake hr rfl (za (pv 0) (za (zl zD rfl m_len PySem.boot_len (za (pv 3) zb)) zb))) (fun _ _=>rfl))))))),?_⟩
 refine ⟨zl0,fun d0 hd0=>?_⟩
 have s1:=Same.new (o:=.tup []) hd0
 have r1:RT (upd H d0 (.tup [])) (.ref d0) (nest 0):=.tup zc rfl (fun i v t e=>by simp at e)
 generalize upd H d0 (.tup []) = H1 at s1 r1
 dsimp only [Z7]
 refine ⟨12,rfl,by decide,by decide,zat (n:=12) (fun i σ' H'=>∃ (d:Addr) (o:Option V),σ' = [some (.ref b),some (.ref d),o,none]/\RT H' (.ref d) (nest i)/\Same H H') ⟨d0,none,rfl,r1,s1⟩ (fun i σ' H' hi h=>?_) (fun σ' H' h=>?_)⟩
 ·obtain ⟨d,o,rfl,rd,s2⟩:=h
  refine ⟨_,rfl,zl1,fun d' hd'=>⟨d',_,rfl,?_,s2.trans (Same.new hd')⟩⟩
  exact (RTs.cons (rd.mono (Same.new hd')) .nil).rt zc
 ·obtain ⟨d,o,rfl,rd,s2⟩:=h
  have st2:=Step.ofSame' hb s2
  have ya:YA _ [some (.ref b),some (.ref d),o,none] H' (noW (nest 12)):=
   zj (yt_c (.bl _)) (zj (yt_c .non) (zj (ziA (zj (yt_c (.num 1)) zR) (by decide)) (zj zlh (zj (te:=tOp (rI CPow fun i j=>V.int (i ^ j.toNat)) (tC (V.int 10)) (tC (V.int 60))) (fun H1 Q s q=>⟨_,_,rfl,rfl,⟨by decide,by decide,by decide⟩,q _ H1 (Same.refl _) (.num _)⟩) (zj (te:=tUn (rU fun i=>V.int (-i)) (tOp (rI CPow fun i j=>V.int (i ^ j.toNat)) (tC (V.int 10)) (tC (V.int 60)))) (fun H1 Q s q=>⟨_,_,rfl,rfl,⟨by decide,by decide,by decide⟩,_,rfl,q _ H1 (Same.refl _) (.num _)⟩) (zj (ziB (Str.ofString "a") 401 (by decide +kernel) (by decide) (by decide)) (zj (ziC (K:=K) 61 (Zw (zj (yt_c (.num 0)) zR) (by decide)) (by decide) (by decide)) (zj (zko (i:=1) rfl rd) (zj (Zw (zj (yt_c (.num 1)) (zj (yt_c (.bl _)) zR)) (by show 2<=1000; decide)) (zj (Zw (zj (yt_c .non) zR) (by show 1<=1000; decide)) zR))))))))))
  dsimp only
  refine ze4 ?_
  refine ya H' _ (Same.refl _) fun xs H3 s3 r3=>?_
  have hx:xs.length = 11:=r3.1
  refine ⟨Nat.le_trans (show xs.length<=100 by omega) (by decide),fun l hl=>?_⟩
  have s4:=Same.new (o:=.lst xs) hl
  have e4:upd H3 l (.lst xs) l = some (.lst xs):=zc
  have s24:=s2.trans s3
  have hlb:l≠b:=Zd.ne (Step.ofSame' hb s24).box hl
  have st4:=Step.ofSame' hb (s24.trans s4)
  have r4:=r3.mono s4
  generalize upd H3 l (.lst xs) = H4 at s4 e4 st4 r4
  dsimp only [Z7]
  refine ⟨_,rfl,_,rfl,_,rfl,_,_,rfl,.inl ⟨_,SqL.of e4,rfl⟩,b,_,rfl,st4.box,by rw [hx]; decide,by rw [hx]; decide,fun r H6 r0' r1' st6=>?_⟩
  obtain ⟨v,t,hat,hm,rt,e6⟩:=zll st4.box hlb e4 r4 st6 r0' r1'
  exact ⟨l,_,r,_,rfl,rfl,SqL.of e6,hat,q v t _ rt (zmv t hm) (st4.trans st6)⟩
def wAt (z:Str):Option Wo:=zmg.find? fun d=>woS d == z
theorem zfL (d:Wo):wAt (woS d) = some d:=by cases d <;> kernel_rfl
def ziG:T->Bool
 | .tup _=>true
 | _=>false
def cntB (d:Wo) (n:Nat):Bool:=if zbL d = true then decide (n<=8) else decide (n = pcnt d)
def okB:T->Bool
 | .tup (.txt z :: ts)=>match wAt z with
  | none=>false
  | some d=>if wLit d = true then (match ts with | [x]=>zQ x | _=>false) else if wVar d = true then false else zbN (ts.take (bcnt d)) && (cntB d (ts.drop (bcnt d)).length && (ts.drop (bcnt d)).all ziG)
 | _=>false
theorem zfM (z:Str) (ts:List T):okB (.tup (.txt z :: ts)) = (match wAt z with
  | none=>false
  | some d=>if wLit d = true then (match ts with | [x]=>zQ x | _=>false) else if wVar d = true then false else zbN (ts.take (bcnt d)) && (cntB d (ts.drop (bcnt d)).length && (ts.drop (bcnt d)).all ziG)):=rfl
theorem zlm (r:Rl):ziG r.toT = true:=by
 cases r with
 | lit x=>rw [zac]; rfl
 | var s=>rw [zap]; rfl
 | op d bs ps=>rw [zaX]; rfl
theorem zmw {t:T} (h:zeU t):okB t = true:=by
 obtain ⟨r,rfl,g,_,_,hu,_⟩:=h
 cases r with
 | lit x=>
  rw [Rl.Gd] at g
  rw [zac]
  have e:wAt "lit" = some .lit:=zfL .lit
  rw [zfM,e]
  exact zfD g.1 g.2.1 g.2.2
 | var s=>rw [unb] at hu; simp at hu
 | op d bs ps=>
  rw [Rl.Gd] at g
  obtain ⟨⟨h1,h2,h3,h4,h5,h6⟩,_⟩:=g
  rw [zaX,zfM]
  simp only [zfL,h1,h2,Bool.false_eq_true,if_false]
  have hl:(bs.map T.txt).length = bcnt d:=by rw [List.length_map]; exact h3
  rw [← hl,List.take_left,List.drop_left,List.length_map]
  have hb:=zdI d
  rw [(zb0 (by rw [hl]; exact hb)).mpr ⟨bs,rfl,h4,h5⟩]
  have hc:cntB d ps.length = true:=by
   unfold cntB
   cases hw:zbL d with
   | true=>simp only [if_true]; exact decide_eq_true (h6.1 hw)
   | false=>simp only [Bool.false_eq_true,if_false]; exact decide_eq_true (h6.2 hw)
  rw [hc,Bool.true_and,Bool.true_and,List.all_map]
  exact List.all_eq_true.mpr fun p _=>zlm p
def NoR (t:T):Prop:=t.Sm/\¬ zeU t
theorem ziH {t:T} (h:t.Sm) (h2:okB t = false):NoR t:=⟨h,fun r=>by rw [zmw r] at h2; cases h2⟩
def litN (i:Int):T:=.tup [.txt "lit",.num i]
def noR1 (i:Int):List T:=[.num i,.tup [.txt "var",.txt "x"],.lst,.tup [.txt "lit",.bl true],.tup [.txt "lit"],.tup [.txt "look"],.tup [.txt "let",.txt "x",litN 1]]
def noR2:List T:=[.tup [.txt "+",litN 1],.tup ([.txt "list"] ++ List.replicate 9 (litN 1)),.tup [.txt "cry",.num 1],.tup [],.non]
def noR3:List T:=[.tup [.txt "let",.txt "X",litN 1,litN 2]]
def noR4:List T:=[.tup [.txt "over",.txt "x",.txt "x",.tup [.txt "list"],litN 0,litN 1],.tup [.txt "list",litN 1,.lst]]
def noR5 (z:Str):List T:=[.tup [.txt "if",litN 1,litN 1],.tup [.txt "look",.txt z]]
def smB:T->Bool
 | .txt z=>decide (z.length<=100000)
 | .tup ts=>decide (ts.length<=100000) && smBs ts
 | _=>true
where smBs:List T->Bool
 | []=>true
 | t :: r=>smB t && smBs r
mutual
theorem sm_b:∀ {t:T},smB t = true->t.Sm
 | .txt z,h=>by rw [smB] at h; exact (show z.length<=100000 from of_decide_eq_true h)
 | .tup ts,h=>by rw [smB,Bool.and_eq_true] at h; exact ⟨of_decide_eq_true h.1,sms_b h.2⟩
 | .non,_=>trivial
 | .bl _,_=>trivial
 | .num _,_=>trivial
 | .lst,_=>trivial
 | .dic,_=>trivial
theorem sms_b:∀ {ts:List T},smB.smBs ts = true->Sms ts
 | [],_=>trivial
 | t :: r,h=>by rw [smB.smBs,Bool.and_eq_true] at h; exact ⟨sm_b h.1,sms_b h.2⟩
end
def badB (t:T):Bool:=smB t && !okB t
theorem zln {t:T} (h:badB t = true):NoR t:=by
 unfold badB at h
 rw [Bool.and_eq_true,Bool.not_eq_true'] at h
 exact ziH (sm_b h.1) h.2
theorem zlo (i:Int):∀ t∈noR1 i,NoR t:=by
 intro t ht
 have h2:∀ t∈(noR1 0).tail,badB t = true:=by decide +kernel
 rcases List.mem_cons.mp ht with rfl | ht
 ·exact ziH trivial rfl
 ·exact zln (h2 t ht)
theorem zjW:∀ t∈noR2 ++ noR3 ++ noR4,NoR t:=by
 have h2:∀ t∈noR2 ++ noR3 ++ noR4,badB t = true:=by decide +kernel
 exact fun t ht=>zln (h2 t ht)
theorem zlp {z:Str} (h:z.length<=1000):∀ t∈noR5 z,NoR t:=by
 intro t ht
 simp only [noR5,List.mem_cons,List.not_mem_nil,or_false] at ht
 rcases ht with rfl | rfl
 ·exact zln (by decide +kernel)
 ·refine ziH ⟨by show 2<=100000; decide,(by show (Str.ofString "look").length<=100000; decide +kernel),Nat.le_trans h (by decide),trivial⟩ ?_
  have e:wAt "look" = some .look:=zfL .look
  rw [zfM,e]
  rfl
structure TL (H:Hp) (b l:Addr) (xs:List V) (ts:List T):Prop where
 at':H l = some (.lst xs)
 rt:RTs H xs ts
 ne:l≠b
 bx:Zd H b
theorem zlq {σ:St}{H:Hp}{b l:Addr}{i:Nat}{xs:List V}{ts ps:List T}{ta:TA}{Q:VK} (el:σ[i]? = some (some (.ref l))) (tl:TL H b l xs ts) (ya:YA ta σ H ps) (hn:xs.length + ps.length<=1000) (q:∀ (l':Addr) (ys:List V) (H':Hp),TL H' b l' ys (ts ++ ps)->ys.length = xs.length + ps.length->Same H H'->H l' = none->Q (.ref l') H'):tOp rCat (tVar i) (tLst ta) σ H Q:=by
 refine ⟨_,el,?_⟩
 refine ya H _ (Same.refl _) fun us H3 s3 r3=>?_
 have hu:=r3.1
 refine ⟨Nat.le_trans (show us.length<=1000 by omega) (by decide),fun l2 hl2=>?_⟩
 have s4:=Same.new (o:=.lst us) hl2
 have e4:upd H3 l2 (.lst us) l2 = some (.lst us):=zc
 generalize upd H3 l2 (.lst us) = H4 at s4 e4
 refine ⟨l,l2,xs,us,rfl,rfl,(s3.trans s4) _ _ tl.at',e4,Nat.le_trans (show xs.length + us.length<=1000 by omega) (by decide),fun l3 hl3=>?_⟩
 have s5:=Same.new (o:=.lst (xs ++ us)) hl3
 have sA:=(s3.trans s4).trans s5
 exact q l3 _ _ ⟨zc,(tl.rt.mono sA).cat (r3.mono (s4.trans s5)),Zd.ne (Step.ofSame' tl.bx (s3.trans s4)).box hl3,(Step.ofSame' tl.bx sA).box⟩ (by rw [List.length_append,hu]) sA (by
  cases e:H l3 with
  | none=>rfl
  | some o=>rw [(s3.trans s4) _ _ e] at hl3; cases hl3)
theorem RT.putL {H:Hp}{l:Addr}{xs ys:List V} (e:H l = some (.lst xs)) {v:V}{t:T} (h:RT H v t):RT (upd H l (.lst ys)) v t:=by
 induction h with
 | non=>exact .non
 | bl b=>exact .bl b
 | num i=>exact .num i
 | txt x=>exact .txt x
 | @tup a vs ts e2 hl _ ih=>exact .tup (by rw [zg (fun z=>by rw [z,e] at e2; cases e2)]; exact e2) hl ih
 | @lst a vs e2=>
  by_cases h:a = l
  ·rw [h]; exact .lst zc
  ·exact .lst (by rw [zg h]; exact e2)
 | @dic a kvs e2=>exact .dic (by rw [zg (fun z=>by rw [z,e] at e2; cases e2)]; exact e2)
def zd2:Sp:=fun vs H Q _=>∃ (b l:Addr) (ns:List Str),vs = [.ref b,.ref l]/\Zd H b/\Nms H b l ns/\∀ (v:V) (t:T) (H':Hp),RT H' v t->NoR t->Step b H H'->Q v H'
theorem zaJ:FnScope ["_law_box_here","_law_names_here","_law_some"] ["_law_box_here","_law_names_here"] (zh za6):=⟨rfl,rfl,rfl,by decide +kernel,rfl,by decide +kernel,by decide +kernel⟩
theorem zfN (F:Fun K "_law_no_rule" "_law_no_rule" za6 f fd) (G_ltake:Have P w K mg base "_law_take" k ["_law_box_here","_law_wide"] (Z9)) (G_lnumber:Have P w K mg base "_law_number" k ["_law_box_here"] (za8)) (m_len:mg "len" = none):FnOk P w K mg base CX0 (k + 1) f fd ["_law_box_here","_law_names_here"] (zd2):=by
 refine F.okQ zaJ (fun vs H Q E h=>?_) (fun cdv A outer s H vs Q E hr h=>?_)
 ·obtain ⟨b,l,ns,rfl,_⟩:=h
  rfl
 obtain ⟨b,l,ns,rfl,hb,hn,q⟩:=h
 refine ⟨_,(zd (zn (i:=2) zaJ.nd rfl (Or.inl rfl) (zL (za (zu G_lnumber hr rfl (za (pv 0) zb)) (za (zt (za zi (za zi zb))) (za (zL (za zi (za ze zb))) (za (zt (za zi (za zan zb))) (za (zt (za zi zb)) (za (zt (za zi zb)) (za (zt (za zi (za zi (za (zt (za zi (za ze zb))) zb)))) zb)))))))))
  (zd (zn (i:=2) zaJ.nd rfl (Or.inl rfl) (zw zcG (pv 2) (zL (za (zt (za zi (za (zt (za zi (za ze zb))) zb))) (za (zw zhB (zt (za zi zb)) (zw zh1 (zt (za (zt (za zi (za ze zb))) zb)) ze)) (za (zt (za zi (za ze zb))) (za (zt zb) (za zas zb))))))))
  (zd (zq (zav PySem.F.plainAttrs_list PySem.F.slot_list_append PySem.F.type_list_append Zv (pv 2) (za (zt (za zi (za zi (za (zt (za zi (za ze zb))) (za (zt (za zi (za ze zb))) zb))))) zb)))
  (zd (zn (i:=2) zaJ.nd rfl (Or.inl rfl) (zw zcG (pv 2) (zL (za (zt (za zi (za zi (za zi (za (zt (za zi zb)) (za (zt (za zi (za ze zb))) (za (zt (za zi (za ze zb))) zb))))))) (za (zt (za zi (za (zt (za zi (za ze zb))) (za (zL (za (zt (za zi (za ze zb))) zb)) zb)))) zb)))))
  (zf (zr (zx zE (zw zcG (pv 2) (zL (za (zt (za zi (za (zt (za zi (za ze zb))) (za (zt (za zi (za ze zb))) zb)))) (za (zt (za zi (za (zx zE (pv 1) ze (fun _ _=>rfl)) zb))) zb)))) (zu G_ltake hr rfl (za (pv 0) (za (zw Zi (zl zD rfl m_len PySem.boot_len (za (pv 2) zb)) ze) zb))) (fun _ _=>rfl)))))))),?_⟩
 have yl:∀ {σ:St}{G:Hp} (i:Int),YT (tTup (Zq (tC (.str (Str.ofString "lit"))) (Zq (tC (.int i)) tNil))) σ G (litN i):=fun {σ G} i=>Zw (zj (yt_c (.txt _)) (zj (yt_c (.num i)) zR)) (by show 2<=1000; decide)
 refine ze4 ⟨_,rfl,b,rfl,hb,fun i H1 i0 i1 st1=>?_⟩
 have ya:YA _ [some (.ref b),some (.ref l),none] H1 (noR1 i).tail:=
  zj (Zw (zj (yt_c (.txt _)) (zj (yt_c (.txt _)) zR)) (by show 2<=1000; decide)) (zj (ziA (zj (yt_c (.txt (Str.ofString "lit"))) (zj (yt_c (.num 1)) zR)) (by show 2<=1000; decide)) (zj (Zw (zj (yt_c (.txt _)) (zj (yt_c (.bl _)) zR)) (by show 2<=1000; decide)) (zj (Zw (zj (yt_c (.txt _)) zR) (by show 1<=1000; decide)) (zj (Zw (zj (yt_c (.txt _)) zR) (by show 1<=1000; decide)) (zj (Zw (zj (yt_c (.txt _)) (zj (yt_c (.txt _)) (zj (yl 1) zR))) (by show 3<=1000; decide)) zR)))))
 refine ya H1 _ (Same.refl _) fun xs H2 s2 r2=>?_
 have hx:xs.length = 6:=r2.1
 refine ⟨Nat.le_trans (show (V.int i :: xs).length<=100 by rw [List.length_cons]; omega) (by decide),fun l1 hl1=>?_⟩
 have s3:=Same.new (o:=.lst (V.int i :: xs)) hl1
 have hb2:=(st1.trans (Step.ofSame' st1.box s2))
 have t3:TL (upd H2 l1 (.lst (V.int i :: xs))) b l1 (V.int i :: xs) (noR1 i):=⟨zc,RTs.cons (.num i) (r2.mono s3),Zd.ne hb2.box hl1,(Step.ofSame' hb2.box s3).box⟩
 have st3:=hb2.trans (Step.ofSame' hb2.box s3)
 have hx1:(V.int i :: xs).length = 7:=by rw [List.length_cons]; omega
 generalize upd H2 l1 (.lst (V.int i :: xs)) = H3 at t3 st3
 generalize (V.int i :: xs) = ys at t3 hx1
 dsimp only [Z7]
 have yb:YA _ [some (.ref b),some (.ref l),some (.ref l1)] H3 noR2:=
  zj (Zw (zj (yt_c (.txt _)) (zj (yl 1) zR)) (by show 2<=1000; decide)) (zj (zms (K:=K) (Zw (zj (yt_c (.txt _)) zR) (by show 1<=1000; decide)) (ziC (K:=K) 9 (Zw (zj (yl 1) zR) (by show 1<=1000; decide)) (by decide) (by decide)) (by simp) (by rw [List.length_replicate]; decide)) (zj (Zw (zj (yt_c (.txt _)) (zj (yt_c (.num _)) zR)) (by show 2<=1000; decide)) (zj (Zw zR (by show 0<=1000; decide)) (zj (yt_c .non) zR))))
 refine ze4 (zlq rfl t3 yb (by rw [hx1]; decide) fun l2 zs H4 t4 hz s4 f4=>?_)
 have st4:=st3.trans (Step.ofSame' t3.bx s4)
 have hz12:zs.length = 12:=by rw [hz,hx1]; rfl
 dsimp only [Z7]
 have yc:YA _ [some (.ref b),some (.ref l),some (.ref l2)] H4 noR3:=
  zj (Zw (zj (yt_c (.txt _)) (zj (yt_c (.txt _)) (zj (yl 1) (zj (yl 2) zR)))) (by show 4<=1000; decide)) zR
 refine ⟨_,rfl,.inl ⟨rfl,_,SqL.of t4.at'⟩,?_⟩
 refine yc H4 _ (Same.refl _) fun us H5 s5 r5=>?_
 obtain ⟨u,rfl⟩:∃ u,us = [u]:=match us,(show us.length = 1 from r5.1) with | [u],_=>⟨u,rfl⟩
 have e5:=s5 _ _ t4.at'
 refine ⟨l2,zs,u,rfl,rfl,e5,Nat.lt_of_le_of_lt (show zs.length<=100 by omega) (by decide),?_⟩
 have b5:=(Step.ofSame' t4.bx s5).box
 have t6:TL (upd H5 l2 (.lst (zs ++ [u]))) b l2 (zs ++ [u]) (noR1 i ++ noR2 ++ noR3):=by
  refine ⟨zc,RTs.cat ⟨t4.rt.1,fun j v t a c=>((t4.rt.2 j v t a c).mono s5).putL e5⟩ ⟨r5.1,fun j v t a c=>(r5.2 j v t a c).putL e5⟩,t4.ne,?_⟩
  obtain ⟨x,y,z,e⟩:=b5
  exact ⟨x,y,z,by rw [zg t4.ne.symm]; exact e⟩
 have st6:Step b H (upd H5 l2 (.lst (zs ++ [u]))):=⟨t6.bx,fun c o hc e=>by
  rw [zg (zk (st3.keep c o hc e) f4)]
  exact s5 _ _ (st4.keep c o hc e)⟩
 have hz13:(zs ++ [u]).length = 13:=by rw [List.length_append,hz12]; rfl
 generalize upd H5 l2 (.lst (zs ++ [u])) = H6 at t6 st6
 generalize zs ++ [u] = ws at t6 hz13
 have yd:YA _ [some (.ref b),some (.ref l),some (.ref l2)] H6 noR4:=
  zj (Zw (zj (yt_c (.txt _)) (zj (yt_c (.txt _)) (zj (yt_c (.txt _)) (zj (Zw (zj (yt_c (.txt _)) zR) (by show 1<=1000; decide)) (zj (yl 0) (zj (yl 1) zR)))))) (by show 6<=1000; decide)) (zj (Zw (zj (yt_c (.txt _)) (zj (yl 1) (zj (ziA (zj (yl 2) zR) (by show 1<=1000; decide)) zR))) (by show 3<=1000; decide)) zR)
 refine ze4 (zlq rfl t6 yd (by rw [hz13]; decide) fun l3 vs H7 t7 hv s7 f7=>?_)
 have st7:=st6.trans (Step.ofSame' t6.bx s7)
 have hv15:vs.length = 15:=by rw [hv,hz13]; rfl
 dsimp only [Z7]
 have n7:=hn.step st7
 obtain ⟨z,ns',rfl⟩:∃ z r,ns = z :: r:=by
  cases ns with
  | nil=>exact absurd rfl hn.ne0
  | cons z r=>exact ⟨z,r,rfl⟩
 have hzn:Nm z:=hn.nm z (by simp)
 have ye:YA (Zq (tTup (Zq (tC (.str (Str.ofString "if"))) (Zq _ (Zq _ tNil)))) (Zq (tTup (Zq (tC (.str (Str.ofString "look"))) (Zq (tOp (rIxL K) (tVar 1) (tC (.int 0))) tNil))) tNil)) [some (.ref b),some (.ref l),some (.ref l3)] H7 (noR5 z):=
  zj (Zw (zj (yt_c (.txt _)) (zj (yl 1) (zj (yl 1) zR))) (by show 3<=1000; decide)) (zj (Zw (zj (yt_c (.txt _)) (zj (fun G Q' s q'=>⟨_,rfl,l,_,0,_,rfl,rfl,SqL.of (s _ _ n7.at'),zH (j:=0) rfl,q' _ G (Same.refl _) (.txt z)⟩) zR)) (by show 2<=1000; decide)) zR)
 refine zlq rfl t7 ye (by rw [hv15]; show 15 + 2<=1000; decide) fun l4 rs H8 t8 hr8 s8 f8=>?_
 have st8:=st7.trans (Step.ofSame' t7.bx s8)
 have hr17:rs.length = 17:=by rw [hr8,hv15]; rfl
 have e7:=s8 _ _ t7.at'
 refine ⟨_,rfl,_,rfl,_,_,rfl,.inl ⟨_,SqL.of e7,rfl⟩,_,_,rfl,rfl,b,_,rfl,st8.box,by omega,Int.lt_of_le_of_lt (show (vs.length:Int) + 2<=100 by omega) (by decide),fun r H9 r0' r1' st9=>?_⟩
 obtain ⟨v,t,hat,hm,rt,e9⟩:=zll t8.bx t8.ne t8.at' t8.rt st9 r0' (by omega)
 refine ⟨l4,_,r,_,rfl,rfl,SqL.of e9,hat,q v t _ rt ?_ (st8.trans st9)⟩
 rcases List.mem_append.mp hm with h | h
 ·have h':t∈noR1 i ++ (noR2 ++ noR3 ++ noR4):=by simpa [List.append_assoc] using h
  rcases List.mem_append.mp h' with h | h
  ·exact zlo i t h
  ·exact zjW t h
 ·exact zlp (Nat.le_trans hzn.len (by decide)) t h
inductive D7 where
 | put | rule | drop | opn | shut | wish | lt
def D7.s:D7->Str
 | .put=>"put"
 | .rule=>"rule"
 | .drop=>"drop"
 | .opn=>"open"
 | .shut=>"shut"
 | .wish=>"wish"
 | .lt=>"let"
def Bad (H:Hp) (S R:Kvs) (AN AW AR AT:Addr) (us:List V) (E:XK):Prop:=
 (∃ (m:D7) (v1 v2:V),us = [.str m.s,v1,v2]/\BadN H v1 AN E) \/
 (∃ (z:Str) (v2:V) (t:T),us = [.str "put",.str z,v2]/\Nm z/\RT H v2 t/\t.Sm/\zQ t = false/\∀ H',Same H H'->E (.ref AW) none H') \/
 (∃ (z:Str) (v2:V) (t:T),us = [.str "rule",.str z,v2]/\Nm z/\RT H v2 t/\t.Sm/\¬ zeU t/\∀ H',Same H H'->E (.ref AR) none H') \/
 (∃ z:Str,us = [.str "drop",.str z]/\Nm z/\((valV S (.inr z)).isSome || (valV R (.inr z)).isSome) = false/\∀ H',Same H H'->E (.ref AT) none H')
def spDD (AH AN AW AR AT:Addr):Sp:=fun vs H Q E=>∃ (a:Hd) (S R:Kvs) (O W:List Str) (t:Addr) (us:List V),vs = [.ref a.p,.ref t]/\Hs AH a H S R O W/\H t = some (.tup us)/\Bad H S R AN AW AR AT us E
inductive Bd (H:Hp) (S R:Kvs):List V->Nat->Prop
 | name (m:D7) {v1 v2:V}{t:T}:RT H v1 t->NoN t->Bd H S R [.str m.s,v1,v2] 0
 | worth {z:Str}{v2:V}{t:T}:Nm z->RT H v2 t->NoW t->Bd H S R [.str "put",.str z,v2] 1
 | rule {z:Str}{v2:V}{t:T}:Nm z->RT H v2 t->NoR t->Bd H S R [.str "rule",.str z,v2] 2
 | thing {z:Str}:Nm z->((valV S (.inr z)).isSome || (valV R (.inr z)).isSome) = false->Bd H S R [.str "drop",.str z] 3
theorem Bd.bad {H:Hp}{S R:Kvs}{us:List V}{i:Nat}{a0 a1 a2 a3:Addr}{E:XK} (h:Bd H S R us i) (q:∀ C,[a0,a1,a2,a3][i]? = some C->∀ H',Same H H'->E (.ref C) none H'):Bad H S R a0 a1 a2 a3 us E:=by
 cases h with
 | name m rt hn=>exact .inl ⟨m,_,_,rfl,_,rt,hn.1,hn.2,q _ rfl⟩
 | worth hz rt hw=>exact .inr (.inl ⟨_,_,_,rfl,hz,rt,hw.1,hw.2,q _ rfl⟩)
 | rule hz rt hw=>exact .inr (.inr (.inl ⟨_,_,_,rfl,hz,rt,hw.1,hw.2,q _ rfl⟩))
 | thing hz hh=>exact .inr (.inr (.inr ⟨_,rfl,hz,hh,q _ rfl⟩))
structure Ek (K:PySem.W.Frag) (C AF:Addr) (cs:List Addr) (i:Nat):Prop where
 z:IsX K C
 xm:exmOne K (.ref C) (.ref AF) = some true
 ve:kitOne K (.ref C) (.type "ValueError") = some true
 k:∀ j c,cs[j]? = some c->kitOne K (.ref C) (.ref c) = some (decide (j = i))
theorem zjX {K:PySem.W.Frag}{C AF a0 a1 a2 a3 a4 a5 a6:Addr}{i:Nat} (z:IsX K C) (xm:exmOne K (.ref C) (.ref AF) = some true) (ve:kitOne K (.ref C) (.type "ValueError") = some true)
  (k0:kitOne K (.ref C) (.ref a0) = some (decide (0 = i))) (k1:kitOne K (.ref C) (.ref a1) = some (decide (1 = i))) (k2:kitOne K (.ref C) (.ref a2) = some (decide (2 = i))) (k3:kitOne K (.ref C) (.ref a3) = some (decide (3 = i))) (k4:kitOne K (.ref C) (.ref a4) = some (decide (4 = i))) (k5:kitOne K (.ref C) (.ref a5) = some (decide (5 = i))) (k6:kitOne K (.ref C) (.ref a6) = some (decide (6 = i))):Ek K C AF [a0,a1,a2,a3,a4,a5,a6] i:=
 ⟨z,xm,ve,fun j c h=>by
  match j,h with
  | 0,h=>cases h; exact k0
  | 1,h=>cases h; exact k1
  | 2,h=>cases h; exact k2
  | 3,h=>cases h; exact k3
  | 4,h=>cases h; exact k4
  | 5,h=>cases h; exact k5
  | 6,h=>cases h; exact k6⟩
def blS (i:Nat):List V:=(List.range 7).map fun j=>.bl (decide (j = i))
def zfO (K:PySem.W.Frag) (AF:Addr) (cs:List Addr):Sp:=fun vs H Q _=>∃ (a C:Addr) (i:Nat),vs = [.ref a]/\H a = some (excO a C)/\Ek K C AF cs i/\∀ (l:Addr) (H':Hp),Same H H'->H' l = some (.lst (blS i))->Q (.ref l) H'
def zc1 (AH:Addr):Sp:=fun vs H Q _=>∃ (a p:Hd) (S R S' R':Kvs) (O W:List Str) (t:Addr) (us:List V) (i:Nat),vs = [.ref a.p,.ref p.p,.ref t,.int i]/\Hs AH a H S R O W/\Ps p H S' R' O W/\zjT S S'/\zjT R R'/\O.length < 64/\H t = some (.tup us)/\Bd H S R us i /\
 ∀ H',Same H H'->Q (.bl true) H'
theorem zd3:FnScope ["_law_house","_law_deed_here"] ["_law_house","_law_deed_here"] (zh zaj):=⟨rfl,rfl,rfl,by decide +kernel,rfl,by decide +kernel,by decide +kernel⟩
theorem zd4 (F:Fun K "_law_deed_done" "_law_deed_done" zaj f fd) (G_House_put:Ze P w K mg base AHouse "put" k ["self","name","worth"] (zjI AHouse ANoName ANoWorth)) (G_House_put_rule:Ze P w K mg base AHouse "put_rule" k ["self","name","rule"] (zgp AHouse ANoName ANoRule)) (G_House_drop:Ze P w K mg base AHouse "drop" k ["self","name"] (zeZ AHouse ANoName ANoThing)) (G_House_open_up:Ze P w K mg base AHouse "open_up" k ["self","name"] (zgr AHouse ANoName)) (G_House_shut:Ze P w K mg base AHouse "shut" k ["self","name"] (zgs AHouse ANoName)) (G_House_wish:Ze P w K mg base AHouse "wish" k ["self","name"] (zgt AHouse ANoName)) (G_House_let_go:Ze P w K mg base AHouse "let_go" k ["self","name"] (zjL AHouse ANoName)):FnOk P w K mg base (CX1 P w) (k + 1) f fd ["_law_house","_law_deed_here"] (spDD AHouse ANoName ANoWorth ANoRule ANoThing):=by
 refine F.okX zd3 (fun vs H Q E h=>?_) (fun cdv A outer s H vs Q E hr h=>?_)
 ·obtain ⟨a,S,R,O,W,t,us,rfl,_⟩:=h
  rfl
 obtain ⟨a,S,R,O,W,t,us,rfl,hs,et,hd⟩:=h
 refine ⟨_,(zf (zG (zm Za (zx zy (pv 1) ze (fun _ _=>rfl)) zi (nomark _)) (zf (zq (zaU G_House_put hr zaM (pv 0) (za (zx zy (pv 1) ze (fun _ _=>rfl)) (za (zx zy (pv 1) ze (fun _ _=>rfl)) zb))))) (zf (zG (zm Za (zx zy (pv 1) ze (fun _ _=>rfl)) zi (nomark _)) (zf (zq (zaU G_House_put_rule hr zaM (pv 0) (za (zx zy (pv 1) ze (fun _ _=>rfl)) (za (zx zy (pv 1) ze (fun _ _=>rfl)) zb))))) (zf (zG (zm Za (zx zy (pv 1) ze (fun _ _=>rfl)) zi (nomark _)) (zf (zq (zaU G_House_drop hr zaM (pv 0) (za (zx zy (pv 1) ze (fun _ _=>rfl)) zb)))) (zf (zG (zm Za (zx zy (pv 1) ze (fun _ _=>rfl)) zi (nomark _)) (zf (zq (zaU G_House_open_up hr zaM (pv 0) (za (zx zy (pv 1) ze (fun _ _=>rfl)) zb)))) (zf (zG (zm Za (zx zy (pv 1) ze (fun _ _=>rfl)) zi (nomark _)) (zf (zq (zaU G_House_shut hr zaM (pv 0) (za (zx zy (pv 1) ze (fun _ _=>rfl)) zb)))) (zf (zG (zm Za (zx zy (pv 1) ze (fun _ _=>rfl)) zi (nomark _)) (zf (zq (zaU G_House_wish hr zaM (pv 0) (za (zx zy (pv 1) ze (fun _ _=>rfl)) zb)))) (zf (zq (zaU G_House_let_go hr zaM (pv 0) (za (zx zy (pv 1) ze (fun _ _=>rfl)) zb)))))))))))))))),?_⟩
 obtain ⟨dx,ei⟩:=hs.ins
 rcases hd with ⟨m,v1,v2,rfl,hb⟩ | ⟨z,v2,t2,rfl,hz,rt,sm,hw,qe⟩ | ⟨z,v2,t2,rfl,hz,rt,sm,hw,qe⟩ | ⟨z,rfl,hz,hh,qe⟩
 ·cases m with
  | put=>
   refine rdE rfl (SqT.of et) rfl ?_
   rw [dy (by rfl)]
   refine iteT ⟨_,rfl,a.p,dx,_,rfl,ei,rfl,_,rfl,t,_,1,_,rfl,rfl,SqT.of et,rfl,_,rfl,t,_,2,_,rfl,rfl,SqT.of et,rfl,?_⟩
   exact ⟨a,S,R,O,W,v1,v2,rfl,hs,.inr (.inl hb)⟩
  | rule=>
   refine rdE rfl (SqT.of et) rfl ?_
   rw [dk (by decide +kernel)]
   refine iteF (rdE rfl (SqT.of et) rfl ?_)
   rw [dy (by rfl)]
   refine iteT ⟨_,rfl,a.p,dx,_,rfl,ei,rfl,_,rfl,t,_,1,_,rfl,rfl,SqT.of et,rfl,_,rfl,t,_,2,_,rfl,rfl,SqT.of et,rfl,?_⟩
   exact ⟨a,S,R,O,W,v1,v2,rfl,hs,.inr (.inl hb)⟩
  | drop=>
   refine rdE rfl (SqT.of et) rfl ?_
   rw [dk (by decide +kernel)]
   refine iteF (rdE rfl (SqT.of et) rfl ?_)
   rw [dk (by decide +kernel)]
   refine iteF (rdE rfl (SqT.of et) rfl ?_)
   rw [dy (by rfl)]
   refine iteT ⟨_,rfl,a.p,dx,_,rfl,ei,rfl,_,rfl,t,_,1,_,rfl,rfl,SqT.of et,rfl,?_⟩
   exact ⟨a,S,R,O,W,v1,rfl,hs,.inr (.inl hb)⟩
  | opn=>
   refine rdE rfl (SqT.of et) rfl ?_
   rw [dk (by decide +kernel)]
   refine iteF (rdE rfl (SqT.of et) rfl ?_)
   rw [dk (by decide +kernel)]
   refine iteF (rdE rfl (SqT.of et) rfl ?_)
   rw [dk (by decide +kernel)]
   refine iteF (rdE rfl (SqT.of et) rfl ?_)
   rw [dy (by rfl)]
   refine iteT ⟨_,rfl,a.p,dx,_,rfl,ei,rfl,_,rfl,t,_,1,_,rfl,rfl,SqT.of et,rfl,?_⟩
   exact ⟨a,S,R,O,W,v1,rfl,hs,.inr hb⟩
  | shut=>
   refine rdE rfl (SqT.of et) rfl ?_
   rw [dk (by decide +kernel)]
   refine iteF (rdE rfl (SqT.of et) rfl ?_)
   rw [dk (by decide +kernel)]
   refine iteF (rdE rfl (SqT.of et) rfl ?_)
   rw [dk (by decide +kernel)]
   refine iteF (rdE rfl (SqT.of et) rfl ?_)
   rw [dk (by decide +kernel)]
   refine iteF (rdE rfl (SqT.of et) rfl ?_)
   rw [dy (by rfl)]
   refine iteT ⟨_,rfl,a.p,dx,_,rfl,ei,rfl,_,rfl,t,_,1,_,rfl,rfl,SqT.of et,rfl,?_⟩
   exact ⟨a,S,R,O,W,v1,rfl,hs,.inr hb⟩
  | wish=>
   refine rdE rfl (SqT.of et) rfl ?_
   rw [dk (by decide +kernel)]
   refine iteF (rdE rfl (SqT.of et) rfl ?_)
   rw [dk (by decide +kernel)]
   refine iteF (rdE rfl (SqT.of et) rfl ?_)
   rw [dk (by decide +kernel)]
   refine iteF (rdE rfl (SqT.of et) rfl ?_)
   rw [dk (by decide +kernel)]
   refine iteF (rdE rfl (SqT.of et) rfl ?_)
   rw [dk (by decide +kernel)]
   refine iteF (rdE rfl (SqT.of et) rfl ?_)
   rw [dy (by rfl)]
   refine iteT ⟨_,rfl,a.p,dx,_,rfl,ei,rfl,_,rfl,t,_,1,_,rfl,rfl,SqT.of et,rfl,?_⟩
   exact ⟨a,S,R,O,W,v1,rfl,hs,.inr hb⟩
  | lt=>
   refine rdE rfl (SqT.of et) rfl ?_
   rw [dk (by decide +kernel)]
   refine iteF (rdE rfl (SqT.of et) rfl ?_)
   rw [dk (by decide +kernel)]
   refine iteF (rdE rfl (SqT.of et) rfl ?_)
   rw [dk (by decide +kernel)]
   refine iteF (rdE rfl (SqT.of et) rfl ?_)
   rw [dk (by decide +kernel)]
   refine iteF (rdE rfl (SqT.of et) rfl ?_)
   rw [dk (by decide +kernel)]
   refine iteF (rdE rfl (SqT.of et) rfl ?_)
   rw [dk (by decide +kernel)]
   refine iteF ?_
   refine ⟨_,rfl,a.p,dx,_,rfl,ei,rfl,_,rfl,t,_,1,_,rfl,rfl,SqT.of et,rfl,?_⟩
   exact ⟨a,S,R,O,W,v1,rfl,hs,.inr hb⟩
 ·refine rdE rfl (SqT.of et) rfl ?_
  rw [dy (by rfl)]
  refine iteT ⟨_,rfl,a.p,dx,_,rfl,ei,rfl,_,rfl,t,_,1,_,rfl,rfl,SqT.of et,rfl,_,rfl,t,_,2,_,rfl,rfl,SqT.of et,rfl,?_⟩
  exact ⟨a,S,R,O,W,_,v2,rfl,hs,.inr (.inr ⟨z,t2,rfl,hz,rt,sm,hw,qe⟩)⟩
 ·refine rdE rfl (SqT.of et) rfl ?_
  rw [dk (by decide +kernel)]
  refine iteF (rdE rfl (SqT.of et) rfl ?_)
  rw [dy (by rfl)]
  refine iteT ⟨_,rfl,a.p,dx,_,rfl,ei,rfl,_,rfl,t,_,1,_,rfl,rfl,SqT.of et,rfl,_,rfl,t,_,2,_,rfl,rfl,SqT.of et,rfl,?_⟩
  exact ⟨a,S,R,O,W,_,v2,rfl,hs,.inr (.inr ⟨z,t2,rfl,hz,rt,sm,hw,qe⟩)⟩
 ·refine rdE rfl (SqT.of et) rfl ?_
  rw [dk (by decide +kernel)]
  refine iteF (rdE rfl (SqT.of et) rfl ?_)
  rw [dk (by decide +kernel)]
  refine iteF (rdE rfl (SqT.of et) rfl ?_)
  rw [dy (by rfl)]
  refine iteT ⟨_,rfl,a.p,dx,_,rfl,ei,rfl,_,rfl,t,_,1,_,rfl,rfl,SqT.of et,rfl,?_⟩
  exact ⟨a,S,R,O,W,_,rfl,hs,.inr (.inr ⟨z,rfl,hz,hh,qe⟩)⟩
theorem ze8:FnScope ["_law_e","_law_some"] ["_law_e"] (zh zck):=⟨rfl,rfl,rfl,by decide +kernel,rfl,by decide +kernel,by decide +kernel⟩
theorem ziI (F:Fun K "_law_sorts" "_law_sorts" zck f fd) (m_isi:mg "isinstance" = none) (c_NoName:mg "NoName" = some (.ref ANoName)) (c_NoWorth:mg "NoWorth" = some (.ref ANoWorth)) (c_NoRule:mg "NoRule" = some (.ref ANoRule)) (c_NoThing:mg "NoThing" = some (.ref ANoThing)) (c_NoText:mg "NoText" = some (.ref zN)) (c_NoStep:mg "NoStep" = some (.ref ANoStep)) (c_NoRow:mg "NoRow" = some (.ref ANoRow)):FnOk P w K mg base CX0 (k + 1) f fd ["_law_e"] (zfO K AForgeError [ANoName,ANoWorth,ANoRule,ANoThing,zN,ANoStep,ANoRow]):=by
 refine F.okQ ze8 (fun vs H Q E h=>?_) (fun cdv A outer s H vs Q E hr h=>?_)
 ·obtain ⟨a,C,i,rfl,_⟩:=h
  rfl
 obtain ⟨a,C,i,rfl,ea,ek,q⟩:=h
 refine ⟨_,(zd (zn (i:=1) ze8.nd rfl (Or.inl rfl) (zL (za (zl (ZX (c:=.ref ANoName) (fun _ r=>r)) rfl m_isi zU (za (pv 0) (za (Zr (v:=.ref ANoName) rfl c_NoName rfl) zb))) (za (zl (ZX (c:=.ref ANoWorth) (fun _ r=>r)) rfl m_isi zU (za (pv 0) (za (Zr (v:=.ref ANoWorth) rfl c_NoWorth rfl) zb))) (za (zl (ZX (c:=.ref ANoRule) (fun _ r=>r)) rfl m_isi zU (za (pv 0) (za (Zr (v:=.ref ANoRule) rfl c_NoRule rfl) zb))) (za (zl (ZX (c:=.ref ANoThing) (fun _ r=>r)) rfl m_isi zU (za (pv 0) (za (Zr (v:=.ref ANoThing) rfl c_NoThing rfl) zb))) zb))))))
  (zf (zr (zw zcG (pv 1) (zL (za (zl (ZX (c:=.ref zN) (fun _ r=>r)) rfl m_isi zU (za (pv 0) (za (Zr (v:=.ref zN) rfl c_NoText rfl) zb))) (za (zl (ZX (c:=.ref ANoStep) (fun _ r=>r)) rfl m_isi zU (za (pv 0) (za (Zr (v:=.ref ANoStep) rfl c_NoStep rfl) zb))) (za (zl (ZX (c:=.ref ANoRow) (fun _ r=>r)) rfl m_isi zU (za (pv 0) (za (Zr (v:=.ref ANoRow) rfl c_NoRow rfl) zb))) zb)))))))),?_⟩
 refine ⟨_,rfl,a,C,_,rfl,ea,ek.z,ek.k 0 _ rfl,?_⟩
 refine ⟨_,rfl,a,C,_,rfl,ea,ek.z,ek.k 1 _ rfl,?_⟩
 refine ⟨_,rfl,a,C,_,rfl,ea,ek.z,ek.k 2 _ rfl,?_⟩
 refine ⟨_,rfl,a,C,_,rfl,ea,ek.z,ek.k 3 _ rfl,zl4,fun l1 hl1=>?_⟩
 have s1:=Same.new (o:=.lst [.bl (decide (0 = i)),.bl (decide (1 = i)),.bl (decide (2 = i)),.bl (decide (3 = i))]) hl1
 have e1:upd H l1 (.lst [.bl (decide (0 = i)),.bl (decide (1 = i)),.bl (decide (2 = i)),.bl (decide (3 = i))]) l1 = some (.lst [.bl (decide (0 = i)),.bl (decide (1 = i)),.bl (decide (2 = i)),.bl (decide (3 = i))]):=zc
 generalize upd H l1 (.lst [.bl (decide (0 = i)),.bl (decide (1 = i)),.bl (decide (2 = i)),.bl (decide (3 = i))]) = H1 at s1 e1
 have ea1:=s1 _ _ ea
 dsimp only [Z7]
 refine ⟨_,rfl,_,rfl,a,C,_,rfl,ea1,ek.z,ek.k 4 _ rfl,?_⟩
 refine ⟨_,rfl,a,C,_,rfl,ea1,ek.z,ek.k 5 _ rfl,?_⟩
 refine ⟨_,rfl,a,C,_,rfl,ea1,ek.z,ek.k 6 _ rfl,zl3,fun l2 hl2=>?_⟩
 have s2:=Same.new (o:=.lst [.bl (decide (4 = i)),.bl (decide (5 = i)),.bl (decide (6 = i))]) hl2
 refine ⟨l1,l2,_,_,rfl,rfl,s2 _ _ e1,zc,zl7,fun l3 hl3=>q l3 _ (s1.trans (s2.trans (Same.new hl3))) zc⟩
theorem zbk:FnScope ["_law_house","_law_parts","_law_deed_here","_law_sort","_law_caught","_law_e"] ["_law_house","_law_parts","_law_deed_here","_law_sort"] (zh za7):=⟨rfl,rfl,rfl,by decide +kernel,rfl,by decide +kernel,by decide +kernel⟩
theorem zfP (F:Fun K "_law_refused" "_law_refused" za7 f fd) (G_lsorts:Have P w K mg base "_law_sorts" k ["_law_e"] (zfO K AForgeError [ANoName,ANoWorth,ANoRule,ANoThing,zN,ANoStep,ANoRow])) (G_ldeed_done:zaT P w K mg base "_law_deed_done" k ["_law_house","_law_deed_here"] (spDD AHouse ANoName ANoWorth ANoRule ANoThing)) (m_ValueError:mg "ValueError" = none) (m_isi:mg "isinstance" = none) (m_range:mg "range" = none) (m_sorted:mg "sorted" = none) (clH:Cls K AHouse) (nS:zY K AHouse "sources") (nR:zY K AHouse "rules") (nO:zY K AHouse "opened") (nW:zY K AHouse "wishes") (c_ForgeError:mg "ForgeError" = some (.ref AForgeError)) (e0:Ek K ANoName AForgeError [ANoName,ANoWorth,ANoRule,ANoThing,zN,ANoStep,ANoRow] 0) (e1:Ek K ANoWorth AForgeError [ANoName,ANoWorth,ANoRule,ANoThing,zN,ANoStep,ANoRow] 1) (e2:Ek K ANoRule AForgeError [ANoName,ANoWorth,ANoRule,ANoThing,zN,ANoStep,ANoRow] 2) (e3:Ek K ANoThing AForgeError [ANoName,ANoWorth,ANoRule,ANoThing,zN,ANoStep,ANoRow] 3):FnOk P w K mg base CX0 (k + 1) f fd ["_law_house","_law_parts","_law_deed_here","_law_sort"] (zc1 AHouse):=by
 refine F.okQ zbk (fun vs H Q E h=>?_) (fun cdv A outer s H vs Q E hr h=>?_)
 ·obtain ⟨a,p,S,R,S',R',O,W,t,us,i,rfl,_⟩:=h
  rfl
 obtain ⟨a,p,S,R,S',R',O,W,t,us,i,rfl,hs,hp,mS,mR,hl,et,hd,q⟩:=h
 refine ⟨_,(zd (zn (i:=4) zbk.nd rfl (Or.inl rfl) zas)
  (zd (zfw (i:=4) (j:=5) G_ldeed_done hr rfl rfl ⟨_,rfl⟩ c_ForgeError rfl zbk.nd rfl (Or.inl rfl) rfl rfl (by decide +kernel) (fun Ex pl=>(za (pv 0) (za (pv 2) zb))))
  (zd (zG (PW.pt (zbe (zdb (zhd (pv 4))) (zbe (ZH (Zm (zl (ZX (c:=.ty "ValueError") (fun _ r=>r)) rfl m_isi zU (za (pv 4) (za (zbh rfl m_ValueError zb8) zb))))) (zaN (zm (zke hr.units) (zu G_lsorts hr rfl (za (pv 4) zb)) (Zy [3] ["_law_sort"] rfl rfl (by decide +kernel) rfl (by decide +kernel) rfl (by decide +kernel) ⟨rfl,trivial⟩ rfl ⟨⟨rfl,rfl,Or.inr (Or.inl rfl),(by show (some NameKind.cell:Option NameKind)≠some .local; decide),⟨_,rfl⟩⟩,trivial⟩ (Zs rfl m_range (za ze zb)) (fun C s H fp=>⟨Zx,(zP Za (pv 0) (pv 1) (nomark _))⟩)) (nomark _)))))) (zf (zr zan)) zo)
  (zd (zG (PW.pt (zbe (zm (zkk hr.units) (Zn (pv 0) rfl) (zx zE (pv 1) ze (fun _ _=>rfl)) (nomark _)) (zbe (zm (zkk hr.units) (Zn (pv 0) rfl) (zx zE (pv 1) ze (fun _ _=>rfl)) (nomark _)) (zaN (zm (zke hr.units) (Zn (pv 0) rfl) (zx zE (pv 1) ze (fun _ _=>rfl)) (nomark _)))))) (zf (zr zan)) zo)
  (zf (zr (zP (zmm hr.units) (zl (zaL rfl) rfl m_sorted PyProof.Rows.boot_sorted (za (Zn (pv 0) rfl) zb)) (zl (zaL rfl) rfl m_sorted PyProof.Rows.boot_sorted (za (zx zE (pv 1) ze (fun _ _=>rfl)) zb)) (nomark _)))))))),?_⟩
 refine seqI (fun σ' H'=>σ' = [some (.ref a.p),some (.ref p.p),some (.ref t),some (.int i),some .non,none]/\H' = H) (fun σ' H' h=>?_) (fun tl=>tl _ _ ⟨rfl,rfl⟩)
 obtain ⟨rfl,rfl⟩:=h
 refine ⟨_,rfl,_,rfl,a,S,R,O,W,t,us,rfl,hs,et,hd.bad fun C hC H1 s1=>?_⟩
 have ek:Ek K C AForgeError [ANoName,ANoWorth,ANoRule,ANoThing,zN,ANoStep,ANoRow] i:=by
  cases hd with
  | name=>cases hC; exact e0
  | worth=>cases hC; exact e1
  | rule=>cases hC; exact e2
  | thing=>cases hC; exact e3
 refine ⟨C,rfl,ek.xm,fun ea hea=>?_⟩
 have sE:=Same.new (o:=excO ea C) hea
 have ee:upd H1 ea (excO ea C) ea = some (excO ea C):=zc
 have sA:=s1.trans sE
 generalize upd H1 ea (excO ea C) = G0 at sE ee sA
 have hsA:=hs.same sA
 have hpA:=hp.same sA
 show tSeq _ _ _ [some (.ref a.p),some (.ref p.p),some (.ref t),some (.int i),some (.ref ea),none] G0
 refine ⟨_,rfl,_,rfl,?_⟩
 rw [decide_eq_false (show ¬ V.ref ea = V.non from fun z=>nomatch z)]
 refine iteF ⟨_,rfl,ea,C,_,rfl,ee,ek.z,ek.ve,_,rfl,iteF ?_⟩
 refine ⟨_,rfl,ea,C,i,rfl,ee,ek,fun l1 G1 sG eL=>?_⟩
 refine zkV (blS i) (fun R hR=>hR) (by show 7<=1000000; decide) (fun j y G2 R hy s2 hR=>?_) (fun G2 D s2 hD=>?_)
 ·unfold blS at hy
  rw [List.getElem?_map] at hy
  obtain ⟨j',hj,rfl⟩:=Option.map_eq_some_iff.mp hy
  obtain ⟨hj1,hj2⟩:=List.getElem?_eq_some_iff.mp hj
  rw [List.getElem_range] at hj2
  subst hj2
  refine ⟨_,rfl,_,rfl,rfl,?_⟩
  rw [show decide (V.int (0 + (j:Int)) = V.int (i:Int)) = decide (j = i) by
   by_cases h:j = i
   ·rw [decide_eq_true h,h,decide_eq_true (by rw [Int.zero_add])]
   ·rw [decide_eq_false h,decide_eq_false fun z=>h (by have:=V.int.inj z; omega)]]
  exact hR _ (Same.refl _)
 have s3:=Same.new (o:=.lst (blS i)) hD
 have sB:=(sA.trans sG).trans (s2.trans s3)
 have hsB:=hs.same sB
 have hpB:=hp.same sB
 refine ⟨l1,D,blS i,rfl,rfl,SqL.of ((s2.trans s3) _ _ eL),SqL.of zc,fun z hz=>?_,_,rfl,iteF ?_⟩
 ·unfold blS at hz
  obtain ⟨j,_,rfl⟩:=List.mem_map.mp hz
  trivial
 generalize upd G2 D (.lst (blS i)) = G3 at sB hsB hpB
 obtain ⟨dx,ei⟩:=hsB.ins
 refine ⟨_,rfl,a.p,AHouse,dx,_,.ref a.s,rfl,ei,clH,nS,rfl,_,rfl,p.p,_,0,_,rfl,rfl,SqL.of hpB.top,zH (j:=0) rfl,a.s,p.s,S,S',rfl,rfl,hsB.so,hpB.so,mS,_,rfl,?_⟩
 refine iteF ⟨_,rfl,a.p,AHouse,dx,_,.ref a.r,rfl,ei,clH,nR,rfl,_,rfl,p.p,_,1,_,rfl,rfl,SqL.of hpB.top,zH (j:=1) rfl,a.r,p.r,R,R',rfl,rfl,hsB.ru,hpB.ru,mR,_,rfl,?_⟩
 refine iteF ⟨_,rfl,a.p,AHouse,dx,_,.ref a.w,rfl,ei,clH,nW,rfl,_,rfl,p.p,_,3,_,rfl,rfl,SqL.of hpB.top,zH (j:=3) rfl,a.w,p.w,W.map V.str,rfl,rfl,SqL.of hsB.wi,SqL.of hpB.wi,fun z hz=>?_,_,rfl,iteF ?_⟩
 ·obtain ⟨j,_,rfl⟩:=List.mem_map.mp hz
  trivial
 refine ⟨_,rfl,a.p,AHouse,dx,_,.ref a.o,rfl,ei,clH,nO,rfl,a.o,O,rfl,SqL.of hsB.op,hl,fun l1 o1 hl1 p1 t1=>?_⟩
 have s4:=Same.new (o:=.lst (o1.map V.str)) hl1
 refine ⟨_,rfl,p.p,_,2,_,rfl,rfl,SqL.of (s4 _ _ hpB.top),zH (j:=2) rfl,p.o,O,rfl,SqL.of (s4 _ _ hpB.op),hl,fun l2 o2 hl2 p2 t2=>?_⟩
 have s5:=Same.new (o:=.lst (o2.map V.str)) hl2
 obtain rfl:o1 = o2:=zgY t1 t2 (p1.trans p2.symm)
 exact ⟨l1,l2,o1,rfl,rfl,SqL.of (s5 _ _ zc),SqL.of zc,q _ (sB.trans (s4.trans s5))⟩
theorem zkp (pv:V) (S:Kvs) (d:Dd):(bS pv S d).length<=S.length + 1:=by
 cases d with
 | put z x=>exact Nat.le_trans (zam (zI S (.inr z)) (.inr z) pv) (Nat.succ_le_succ (zJ S (.inr z)))
 | rule z x=>exact Nat.le_succ_of_le (zJ S (.inr z))
 | one w z=>cases w <;> first | exact Nat.le_succ_of_le (zJ S (.inr z)) | exact Nat.le_succ _
theorem zkq (pv:V) (S:Kvs) (d:Dd):(bR pv S d).length<=S.length + 1:=by
 cases d with
 | put z x=>exact Nat.le_succ_of_le (zJ S (.inr z))
 | rule z x=>exact Nat.le_trans (zam (zI S (.inr z)) (.inr z) pv) (Nat.succ_le_succ (zJ S (.inr z)))
 | one w z=>cases w <;> first | exact Nat.le_succ_of_le (zJ S (.inr z)) | exact Nat.le_succ _
theorem zmx (W:List Str) (d:Dd):(aO W d).length<=W.length + 1:=by
 rw [← zfI]
 exact zcs _ _ _ _ _
def Off (nn:List Str) (S:Kvs):Prop:=∀ y,y ∉ nn->valV S (.inr y) = none
theorem Off.drop {nn:List Str}{S:Kvs} (h:Off nn S) (z:Str):Off nn (zI S (.inr z)):=fun y hy=>by
 rw [zae]
 split
 ·rfl
 ·exact h y hy
theorem Off.put {nn:List Str}{S:Kvs} (h:Off nn S) {z:Str} (hz:z∈nn) (v:V):Off nn (putK S (.inr z) v):=fun y hy=>by
 rw [zcg,if_neg (fun e=>hy (by injection e with e; rw [e]; exact hz))]
 exact h y hy
theorem Off.aS {nn:List Str}{S:Kvs} (h:Off nn S) {d:Dd} (hd:d.Ok nn) (pv:V):Off nn (aS pv S d):=by
 cases d with
 | put z x=>exact h.put hd.1.2 pv
 | rule z x=>exact h.drop z
 | one w z=>cases w <;> first | exact h.drop z | exact h
theorem Off.aR {nn:List Str}{S:Kvs} (h:Off nn S) {d:Dd} (hd:d.Ok nn) (pv:V):Off nn (aR pv S d):=by
 cases d with
 | put z x=>exact h.drop z
 | rule z x=>exact h.put hd.1.2 pv
 | one w z=>cases w <;> first | exact h.drop z | exact h
structure LS (AH:Addr) (a p:Hd) (l:Addr) (nn:List Str) (n:Nat) (H:Hp) (S R S' R':Kvs) (O W:List Str):Prop where
 nl:H l = some (.lst (nn.map V.str))
 hs:Hs AH a H S R O W
 ps:Ps p H S' R' O W
 bs:Bi S S'
 br:Bi R R'
 on:OpN nn O
 os:Off nn S
 or:Off nn R
 len:S.length<=n/\R.length<=n/\S'.length<=n/\R'.length<=n/\O.length<=n/\W.length<=n
 ap:∀ c∈a.all,c ∉ p.all
 la:l ∉ a.all
 lp:l ∉ p.all
section
variable {AH:Addr}{a p:Hd}{l b:Addr}{nn:List Str}{n:Nat}{H H':Hp}{S R S' R':Kvs}{O W:List Str}
theorem LS.kb {N:List Addr} (h:LS AH a p l nn n H S R S' R' O W) (k:Kb N H H') (ha:∀ c∈a.all,c ∉ N) (hp:∀ c∈p.all,c ∉ N) (hl:l ∉ N):LS AH a p l nn n H' S R S' R' O W:=
 ⟨k _ _ hl h.nl,h.hs.kb k ha,h.ps.kb k hp,h.bs,h.br,h.on,h.os,h.or,h.len,h.ap,h.la,h.lp⟩
theorem LS.same (h:LS AH a p l nn n H S R S' R' O W) (s:Same H H'):LS AH a p l nn n H' S R S' R' O W:=
 h.kb (N:=[]) (Kb.ofSame s) (fun _ _ z=>nomatch z) (fun _ _ z=>nomatch z) (fun z=>nomatch z)
theorem LS.mono {m:Nat} (h:LS AH a p l nn n H S R S' R' O W) (e:n<=m):LS AH a p l nn m H S R S' R' O W:=by
 obtain ⟨h1,h2,h3,h4,h5,h6⟩:=h.len
 exact ⟨h.nl,h.hs,h.ps,h.bs,h.br,h.on,h.os,h.or,⟨by omega,by omega,by omega,by omega,by omega,by omega⟩,h.ap,h.la,h.lp⟩
structure Ap (a p:Hd) (l b:Addr) (H:Hp):Prop where
 bx:Zd H b
 na:b ∉ a.all
 np:b ∉ p.all
 nl:l≠b
theorem LS.step (h:LS AH a p l nn n H S R S' R' O W) (x:Ap a p l b H) (st:Step b H H'):LS AH a p l nn n H' S R S' R' O W:=
 h.kb (N:=[b]) (fun c o hc e=>st.keep c o (fun z=>hc (by rw [z]; simp)) e) (fun c hc z=>x.na (by rw [← List.mem_singleton.mp z]; exact hc)) (fun c hc z=>x.np (by rw [← List.mem_singleton.mp z]; exact hc)) (fun z=>x.nl (List.mem_singleton.mp z))
theorem Ap.step (x:Ap a p l b H) (st:Step b H H'):Ap a p l b H':=⟨st.box,x.na,x.np,x.nl⟩
theorem Ap.same (x:Ap a p l b H) (s:Same H H'):Ap a p l b H':=⟨(Step.ofSame' x.bx s).box,x.na,x.np,x.nl⟩
theorem Ap.kb (x:Ap a p l b H) (k:Kb (a.all ++ p.all) H H'):Ap a p l b H':=by
 refine ⟨?_,x.na,x.np,x.nl⟩
 obtain ⟨u,v,w,e⟩:=x.bx
 exact ⟨u,v,w,k _ _ (fun z=>(List.mem_append.mp z).elim x.na x.np) e⟩
theorem Kb.more {N M:List Addr} (h:Kb N H H') (s:∀ c∈N,c∈M):Kb M H H':=fun c o hc e=>h c o (fun z=>hc (s c z)) e
theorem ziJ {σ:St}{D:Ends}{ip ih id:Nat}{t:Addr}{px:V}{d:Dd} (e1:σ[ip]? = some (some (.ref p.p))) (e2:σ[ih]? = some (some (.ref a.p))) (e3:σ[id]? = some (some (.ref t))) (ls:LS AH a p l nn n H S R S' R' O W) (hn:n < 999) (da:DdAt H t px d) (ok:d.Ok nn) (hpx:Pv px)
  (q:∀ H',LS AH a p l nn (n + 1) H' (aS px S d) (aR px R d) (bS px S' d) (bR px R' d) (aO O d) (aW W d)->Kb (a.all ++ p.all) H H'->Tups H H'->D.nx σ H'):tSeq (zdm (zb6 spDo [] E0 (Zq (tVar ip) (Zq (tVar id) tNil)))) (zdm (zb6 (zgu AH) [] E0 (Zq (tVar ih) (Zq (tVar id) tNil)))) D σ H:=by
 obtain ⟨m1,m2,m3,m4,m5,m6⟩:=ls.len
 have pa:∀ c∈p.all,c ∉ a.all:=fun c hc m=>ls.ap c m hc
 refine ⟨_,e1,_,e3,p,S',R',O,W,t,px,d,rfl,ls.ps,da,by omega,by omega,by omega,by omega,fun H7 p7 k7=>?_⟩
 have h7:=ls.hs.kb k7 ls.ap
 have t7:=ls.ps.tups k7
 refine ⟨_,e2,_,e3,a,S,R,O,W,t,px,nn,d,rfl,h7,da.mono t7,ok,by omega,by omega,by omega,by omega,fun H8 h8 k8=>?_⟩
 have t8:=h7.tups k8
 have w1:=zmn px S d
 have w2:=zmo px R d
 have w3:=zkp px S' d
 have w4:=zkq px R' d
 have w5:=zmx O d
 have w6:=zmp W d
 exact q H8 ⟨k8 _ _ ls.la (k7 _ _ ls.lp ls.nl),h8,p7.kb k8 pa,bi_S hpx ls.bs d,bi_R hpx ls.br d,ls.on.step ok,ls.os.aS ok px,ls.or.aR ok px,⟨by omega,by omega,by omega,by omega,by omega,by omega⟩,ls.ap,ls.la,ls.lp⟩ ((k7.more fun c hc=>List.mem_append_right _ hc).trans (k8.more fun c hc=>List.mem_append_left _ hc)) (fun c vs e=>t8 _ _ (t7 _ _ e))
end
def zz (k:Nat):Str:=⟨(122 :: 46 :: List.replicate (k + 1) 122).toArray⟩
theorem zd5 (k:Nat):(zz k).cps.toList = 122 :: 46 :: List.replicate (k + 1) 122:=rfl
theorem ziK (k:Nat):(zz k).length = k + 3:=by rw [← zM,zd5,List.length_cons,List.length_cons,List.length_replicate]
theorem zlr:Str.ofString "z.z" = zz 0:=by decide +kernel
theorem zls (k:Nat):zz k ++ Str.ofString "z" = zz (k + 1):=by
 apply zig
 rw [zO,zd5,zd5,show (Str.ofString "z").cps.toList = [122] by decide +kernel,List.cons_append,List.cons_append,List.replicate_succ' (n:=k + 1)]
theorem zmy {j k:Nat} (h:zz j = zz k):j = k:=by
 have:=congrArg Str.length h
 rw [ziK,ziK] at this
 omega
theorem zmR {k:Nat} (h:k < 12):Nm (zz k):=by
 have e1:(⟨#[122]⟩:Str).cps.toList = [122]:=rfl
 have e2:(⟨(List.replicate (k + 1) 122).toArray⟩:Str).cps.toList = List.replicate (k + 1) 122:=rfl
 refine ⟨⟨#[122]⟩,⟨(List.replicate (k + 1) 122).toArray⟩,?_,⟨by decide,by decide,by decide +kernel⟩,⟨?_,?_,fun c hc=>?_⟩⟩
 ·apply zig
  rw [zO,zO,e1,e2,zd5,show dot.cps.toList = [46] by rw [zb5]]
  rfl
 ·rw [← zM,e2,List.length_replicate]; omega
 ·rw [← zM,e2,List.length_replicate]; omega
 ·rw [e2] at hc
  rw [List.eq_of_mem_replicate hc]
  decide +kernel
theorem zkr {nn:List Str}{k:Nat} (h:∀ j,j < k->zz j∈nn):k<=nn.length:=by
 have:=zkn (l:=(List.range k).map zz) (m:=nn) ?_ fun z hz=>?_
 ·rw [List.length_map,List.length_range] at this
  exact this
 ·exact List.Pairwise.map _ (fun a b hab e=>hab (zmy e)) List.nodup_range
 ·obtain ⟨j,hj,rfl⟩:=List.mem_map.mp hz
  exact h j (List.mem_range.mp hj)
theorem Ps.at {a:Hd}{H:Hp}{S R:Kvs}{O W:List Str} (h:Ps a H S R O W) {c:Addr} (hc:c∈a.all):∃ o,H c = some o:=by
 have m:c∈[a.p,a.s,a.r,a.o,a.w]:=hc
 simp only [List.mem_cons,List.not_mem_nil,or_false] at m
 rcases m with rfl | rfl | rfl | rfl | rfl
 ·exact ⟨_,h.top⟩
 ·exact ⟨_,h.so⟩
 ·exact ⟨_,h.ru⟩
 ·exact ⟨_,h.op⟩
 ·exact ⟨_,h.wi⟩
theorem seven {x:V} (h:x∈[V.str "put",.str "rule",.str "drop",.str "open",.str "shut",.str "wish",.str "let"]):∃ m:D7,x = .str m.s:=by
 simp only [List.mem_cons,List.not_mem_nil,or_false] at h
 rcases h with rfl | rfl | rfl | rfl | rfl | rfl | rfl
 ·exact ⟨.put,rfl⟩
 ·exact ⟨.rule,rfl⟩
 ·exact ⟨.drop,rfl⟩
 ·exact ⟨.opn,rfl⟩
 ·exact ⟨.shut,rfl⟩
 ·exact ⟨.wish,rfl⟩
 ·exact ⟨.lt,rfl⟩
structure DJ (AH:Addr) (a p:Hd) (l ld:Addr) (nn:List Str) (H0:Hp) (m:Nat) (H:Hp) (us:List V) (ds:List Dd):Prop where
 ls:LS AH a p l nn 0 H [] [] [] [] [] []
 at':H ld = some (.lst us)
 rw:RWs H us (ds.map Dd.toW)
 ok:∀ d∈ds,d.Ok nn
 few:ds.length<=m
 kp:Same H0 H
theorem zaf:FnScope ["_law_script","_law_box_here","_law_names_here","_law_house","_law_parts","_law_deeds","_law_k","_law_deed_here","_law_name","_law_word","_law_turn","_law_other"] ["_law_script"] (zh sLaw):=⟨rfl,rfl,rfl,by decide +kernel,rfl,by decide +kernel,by decide +kernel⟩
theorem zmz (F:Fun K "law" "law" sLaw f fd) (G_lrefused:Have P w K mg base "_law_refused" k ["_law_house","_law_parts","_law_deed_here","_law_sort"] (zc1 AHouse)) (G_House_drop:Ze P w K mg base AHouse "drop" k ["self","name"] (zeZ AHouse ANoName ANoThing)) (G_ldo:Have P w K mg base "_law_do" k ["_law_parts","_law_deed_here"] (spDo)) (G_lhand:Have P w K mg base "_law_hand" k ["_law_house","_law_deed_here"] (zgu AHouse)) (G_lno_rule:Have P w K mg base "_law_no_rule" k ["_law_box_here","_law_names_here"] (zd2)) (G_lno_worth:Have P w K mg base "_law_no_worth" k ["_law_box_here"] (zc0)) (G_lno_name:Have P w K mg base "_law_no_name" k ["_law_box_here","_law_name"] (zd1)) (G_ltake:Have P w K mg base "_law_take" k ["_law_box_here","_law_wide"] (Z9)) (G_lbox:Have P w K mg base "_law_box" k ["_law_script","_law_k"] (zkL K)) (G_ldeed:Have P w K mg base "_law_deed" k ["_law_box_here","_law_names_here"] (ziu)) (G_lfirst:Have P w K mg base "_law_first" k ["_law_box_here","_law_names_here"] (zfH)) (G_House___init__:zfo P w K mg base AHouse "House" k ["self"] (spHI AHouse)) (G_lnames:Have P w K mg base "_law_names" k ["_law_box_here","_law_most"] (zfG)) (m_len:mg "len" = none) (m_min:mg "min" = none) (m_range:mg "range" = none) (clH:Cls K AHouse):FnOk P w K mg base CX0 (k + 1) f fd ["_law_script"] (zjU K):=by
 refine F.okQ zaf (fun vs H Q E h=>?_) (fun cdv A outer s H vs Q E hr h=>?_)
 ·obtain ⟨a,ns,rfl,_⟩:=h
  rfl
 obtain ⟨a,ns,rfl,hS,h63,q⟩:=h
 refine ⟨_,(zd (zn (i:=1) zaf.nd rfl (Or.inl rfl) (zu G_lbox hr rfl (za (pv 0) (za ze zb))))
  (zd (zn (i:=2) zaf.nd rfl (Or.inl rfl) (zu G_lnames hr rfl (za (pv 1) (za ze zb))))
  (zd (zn (i:=3) zaf.nd rfl (Or.inl rfl) (zfp G_House___init__ hr rfl))
  (zd (zn (i:=4) zaf.nd rfl (Or.inl rfl) (zL (za zaA (za zaA (za (zL zb) (za (zL zb) zb))))))
  (zd (zn (i:=5) zaf.nd rfl (Or.inl rfl) (zu G_lfirst hr rfl (za (pv 1) (za (pv 2) zb))))
  (zd (Z1 PassesOwn.never rfl (zaO rfl m_range (za ze (za (zl (zed rfl) rfl m_min PyProof.Rows.boot_min (za (zl zD rfl m_len PySem.boot_len (za (pv 0) zb)) (za ze zb))) zb))) (zV (i:=6) zaf.nd rfl (Or.inl rfl)) (zf (zq (zav PySem.F.plainAttrs_list PySem.F.slot_list_append PySem.F.type_list_append Zv (pv 5) (za (zu G_ldeed hr rfl (za (zu G_lbox hr rfl (za (pv 0) (za (pv 6) zb))) (za (pv 2) zb))) zb)))))
  (zd (Z1 PassesOwn.never rfl (zaz (pv 5)) (zV (i:=7) zaf.nd rfl (Or.inl rfl)) (zd (zq (zu G_ldo hr rfl (za (pv 4) (za (pv 7) zb))))
  (zf (zq (zu G_lhand hr rfl (za (pv 3) (za (pv 7) zb)))))))
  (zd (zn (i:=1) zaf.nd rfl (Or.inl rfl) (zu G_lbox hr rfl (za (pv 0) (za ze zb))))
  (zd (zn (i:=8) zaf.nd rfl (Or.inl rfl) (zx zE (pv 2) (zu G_ltake hr rfl (za (pv 1) (za (zl zD rfl m_len PySem.boot_len (za (pv 2) zb)) zb))) (fun _ _=>rfl)))
  (zd (Z1 PassesOwn.never rfl (zaz (zL (za zi (za zi (za zi (za zi (za zi (za zi (za zi zb))))))))) (zV (i:=9) zaf.nd rfl (Or.inl rfl)) (zf (zG (ZH (Zm (zu G_lrefused hr rfl (za (pv 3) (za (pv 4) (za (zt (za (pv 9) (za (zu G_lno_name hr rfl (za (pv 1) (za (pv 8) zb))) (za (zu G_lno_worth hr rfl (za (pv 1) zb)) zb)))) (za ze zb))))))) (zf (zr zan)) zo)))
  (zd (Z1 PassesOwn.never rfl (Zs rfl m_range (za ze zb)) (zV (i:=10) zaf.nd rfl (Or.inl rfl)) (zd (zG (ZH (Zm (zu G_lrefused hr rfl (za (pv 3) (za (pv 4) (za (zt (za zi (za (pv 8) (za (zu G_lno_worth hr rfl (za (pv 1) zb)) zb)))) (za ze zb))))))) (zf (zr zan)) zo)
  (zd (zG (ZH (Zm (zu G_lrefused hr rfl (za (pv 3) (za (pv 4) (za (zt (za zi (za (pv 8) (za (zu G_lno_rule hr rfl (za (pv 1) (za (pv 2) zb))) zb)))) (za ze zb))))))) (zf (zr zan)) zo)
  (zd (zn (i:=7) zaf.nd rfl (Or.inl rfl) (zt (za (zx zE (zL (za zi (za zi zb))) (pv 10) (fun _ _=>rfl)) (za (pv 8) (za (zx zE (zL (za (zt (za zi (za ze zb))) (za ze zb))) (pv 10) (fun _ _=>rfl)) zb)))))
  (zd (zq (zu G_ldo hr rfl (za (pv 4) (za (pv 7) zb))))
  (zf (zq (zu G_lhand hr rfl (za (pv 3) (za (pv 7) zb))))))))))
  (zd (zq (zu G_ldo hr rfl (za (pv 4) (za (zt (za zi (za (pv 8) zb))) zb))))
  (zd (zq (zaU G_House_drop hr zeN (pv 3) (za (pv 8) zb)))
  (zd (zn (i:=11) zaf.nd rfl (Or.inl rfl) zi)
  (zd (zbl PassesOwn.never (zm ZW (pv 11) (pv 2) (by rfl)) (zf (zn (i:=11) zaf.nd rfl (Or.inl rfl) (zw Zj (pv 11) zi))))
  (zf (zr (ZV (zu G_lrefused hr rfl (za (pv 3) (za (pv 4) (za (zt (za zi (za (pv 8) zb))) (za ze zb))))) (Z0 (zu G_lrefused hr rfl (za (pv 3) (za (pv 4) (za (zt (za zi (za (pv 11) zb))) (za ze zb)))))))))))))))))))))))),?_⟩
 refine ⟨_,rfl,a,ns,1,rfl,hS,by decide,fun x1 x2 x3 b hb=>?_⟩
 have hbox:Zd (upd H b (.lst [.int x1,.int x2,.int x3])) b:=⟨_,_,_,zc⟩
 have sb:Same H (upd H b (.lst [.int x1,.int x2,.int x3])):=Same.new hb
 generalize upd H b (.lst [.int x1,.int x2,.int x3]) = H0 at hbox sb
 refine ⟨_,rfl,b,8,rfl,hbox,by decide,by decide,fun l nn H1 hl st1 el hne hfew hnm=>?_⟩
 have nlb:l≠b:=Zd.ne hbox hl
 have s1:Same H H1:=fun c o e=>st1.keep c o (zk e hb) (sb c o e)
 dsimp only [Z7]
 refine ze4 (zmr fun a1 H2 h2 s2 f2=>?_)
 refine ze4 (zlg fun p H3 p3 s3 f3=>?_)
 have h3:=h2.same s3
 have ap:∀ c∈a1.all,c ∉ p.all:=fun c hc m=>by
  obtain ⟨o,e⟩:=h2.at hc
  rw [f3 c m] at e
  cases e
 have kept:∀ {c:Addr}{o:HO},H1 c = some o->c ∉ a1.all/\c ∉ p.all:=fun {c o} e=>by
  refine ⟨fun m=>?_,fun m=>?_⟩
  ·rw [f2 _ m] at e; cases e
  ·have:=f3 _ m
   rw [s2 _ _ e] at this
   cases this
 have s23:=s2.trans s3
 have kl:=kept el
 have kb1:b ∉ a1.all/\b ∉ p.all:=by
  obtain ⟨u,v,w',e⟩:=st1.box
  exact kept e
 have x3':Ap a1 p l b H3:=⟨(Step.ofSame' st1.box s23).box,kb1.1,kb1.2,nlb⟩
 have l3:LS AHouse a1 p l nn 0 H3 [] [] [] [] [] []:=⟨s23 _ _ el,h3,p3,.nil,.nil,⟨List.nodup_nil,fun z h=>(nomatch h)⟩,fun _ _=>rfl,fun _ _=>rfl,by decide,ap,kl.1,kl.2⟩
 dsimp only [Z7]
 refine ⟨_,rfl,_,rfl,b,l,nn,rfl,x3'.bx,⟨l3.nl,nlb,hne,hfew.1,hnm⟩,fun ld us ds H4 hld eld hrw hok hds st4=>?_⟩
 have sE:∀ {G G':Hp},Same H G->Kb (a1.all ++ p.all) G G'->Same H G':=fun {G G'} sG k c o e=>by
  have e1:=s1 _ _ e
  have kk:=kept e1
  exact k _ _ (fun z=>(List.mem_append.mp z).elim kk.1 kk.2) (sG _ _ e)
 have s4:Same H H4:=fun c o e=>st4.keep c o (zk e hb) (s23 _ _ (s1 _ _ e))
 have l4:=l3.step x3' st4
 have nld:ld ∉ a1.all/\ld ∉ p.all/\l≠ld:=by
  refine ⟨fun m=>?_,fun m=>?_,fun z=>?_⟩
  ·obtain ⟨o,e⟩:=l3.hs.at m
   rw [hld] at e; cases e
  ·obtain ⟨o,e⟩:=Ps.at l3.ps m
   rw [hld] at e; cases e
  ·rw [← z,l3.nl] at hld; cases hld
 have hldH:H ld = none:=by
  cases e:H ld with
  | none=>rfl
  | some o=>rw [s23 _ _ (s1 _ _ e)] at hld; cases hld
 have d0:DJ AHouse a1 p l ld nn H 800 H4 us ds:=⟨l4,eld,hrw,hok,hds,s4⟩
 dsimp only [Z7]
 refine seqI (fun σ' H'=>∃ (o6:Option V) (us:List V) (ds:List Dd),σ' = [some (.ref a),some (.ref b),some (.ref l),some (.ref a1.p),some (.ref p.p),some (.ref ld),o6,none,none,none,none,none]/\DJ AHouse a1 p l ld nn H 900 H' us ds) (fun σ' H5 h=>?_) (fun tl=>?_)
 rotate_left
 ·refine ⟨_,rfl,_,_,rfl,.inl ⟨_,s4.seq hS,rfl⟩,_,_,rfl,_,_,rfl,?_,zat (fun i σ' H'=>∃ (o6:Option V) (us:List V) (ds:List Dd),σ' = [some (.ref a),some (.ref b),some (.ref l),some (.ref a1.p),some (.ref p.p),some (.ref ld),o6,none,none,none,none,none]/\DJ AHouse a1 p l ld nn H (800 + i) H' us ds)
   ⟨none,us,ds,rfl,d0⟩ (fun i σ' H' hi h=>?_) (fun σ' H' h=>?_)⟩
  ·refine ⟨by decide,by decide,?_,?_⟩ <;> (rw [List.length_map]; split <;> omega)
  ·obtain ⟨o6,us,ds,rfl,di⟩:=h
   have hi6:i < 60:=by
    rw [List.length_map] at hi
    split at hi <;> omega
   have hds:=di.few
   have hul:us.length<=860:=by rw [di.rw.len,List.length_map]; omega
   refine ⟨_,rfl,.inl ⟨rfl,_,SqL.of di.at'⟩,_,rfl,_,rfl,a,ns,_,rfl,di.kp.seq hS,by omega,fun y1 y2 y3 b2 hb2=>?_⟩
   have hbox2:Zd (upd H' b2 (.lst [.int y1,.int y2,.int y3])) b2:=⟨_,_,_,zc⟩
   have sb2:Same H' (upd H' b2 (.lst [.int y1,.int y2,.int y3])):=Same.new hb2
   generalize upd H' b2 (.lst [.int y1,.int y2,.int y3]) = H5 at hbox2 sb2
   refine ⟨_,rfl,b2,l,nn,rfl,hbox2,⟨sb2 _ _ di.ls.nl,zk di.ls.nl hb2,hne,hfew.1,hnm⟩,fun v d H6 rv okd st6=>?_⟩
   have sm6:Same H' H6:=fun c o e=>st6.keep c o (zk e hb2) (sb2 c o e)
   have e6:=sm6 _ _ di.at'
   have t6:=zak (o:=.lst (us ++ [v])) e6
   refine ⟨ld,us,v,rfl,rfl,e6,Nat.lt_of_le_of_lt hul (by decide),_,us ++ [v],ds ++ [d],rfl,(di.ls.same sm6).kb (N:=[ld]) (Kb.upd (by simp)) (fun c hc z=>nld.1 (by rw [← List.mem_singleton.mp z]; exact hc)) (fun c hc z=>nld.2.1 (by rw [← List.mem_singleton.mp z]; exact hc)) (fun z=>nld.2.2 (List.mem_singleton.mp z)),zc,?_,fun x hx=>?_,by rw [List.length_append]; exact Nat.succ_le_succ hds,fun c o e=>?_⟩
   ·rw [List.map_append]
    exact ((di.rw.mono (zC sm6)).mono t6).snoc (rv.mono t6)
   ·rcases List.mem_append.mp hx with hx | hx
    ·exact di.ok x hx
    ·rw [List.mem_singleton.mp hx]; exact okd
   ·rw [zg (zk e hldH)]
    exact sm6 _ _ (di.kp _ _ e)
  ·obtain ⟨o6,us,ds,rfl,di⟩:=h
   refine tl _ _ ⟨o6,us,ds,rfl,di.ls,di.at',di.rw,di.ok,Nat.le_trans di.few ?_,di.kp⟩
   rw [List.length_map]
   split <;> omega
 obtain ⟨o6,us,ds,rfl,di⟩:=h
 have hds:=di.few
 have hul:us.length = ds.length:=by rw [di.rw.len,List.length_map]
 refine seqI (fun σ' H'=>∃ (o7:Option V) (S R S' R':Kvs) (O W:List Str),σ' = [some (.ref a),some (.ref b),some (.ref l),some (.ref a1.p),some (.ref p.p),some (.ref ld),o6,o7,none,none,none,none]/\LS AHouse a1 p l nn 900 H' S R S' R' O W/\Same H H') (fun σ' H6 h=>?_) (fun tl=>?_)
 rotate_left
 ·refine ⟨_,rfl,ld,rfl,⟨_,SqL.of di.at'⟩,zbm (K:=K) (xs:=us) (fun i σ' H'=>∃ (o7:Option V) (S R S' R':Kvs) (O W:List Str),σ' = [some (.ref a),some (.ref b),some (.ref l),some (.ref a1.p),some (.ref p.p),some (.ref ld),o6,o7,none,none,none,none]/\LS AHouse a1 p l nn i H' S R S' R' O W/\Same H H'/\H' ld = some (.lst us)/\Tups H5 H')
   ⟨none,_,_,_,_,_,_,rfl,di.ls,di.kp,di.at',fun _ _ e=>e⟩ (fun i σ' H' _ h=>?_) (fun i x σ' H' hx h=>?_) (fun σ' H' h=>?_)⟩
  ·obtain ⟨_,_,_,_,_,_,_,_,_,_,e,_⟩:=h
   exact SqL.of e
  ·obtain ⟨o7,S,R,S',R',O,W,rfl,li,kp,eld',tu⟩:=h
   have hi:i < us.length:=(List.getElem?_eq_some_iff.mp hx).1
   have hd:ds[i]? = some ds[i]:=List.getElem?_eq_getElem (by omega)
   have okd:=di.ok _ (List.getElem_mem (by omega:i < ds.length))
   obtain ⟨t,px,rfl,da6,hpx⟩:=zlf (di.rw.at' i x _ hx (by rw [List.getElem?_map,hd]; rfl))
   generalize ds[i] = d at okd da6
   refine ziJ (ip:=4) (ih:=3) (id:=7) rfl rfl rfl li (by omega) (da6.mono tu) okd hpx fun H8 l8 k8 t8=>?_
   exact ⟨_,_,_,_,_,_,_,rfl,l8,sE kp k8,k8 _ _ (fun z=>(List.mem_append.mp z).elim nld.1 nld.2.1) eld',fun c vs e=>t8 _ _ (tu _ _ e)⟩
  ·obtain ⟨o7,S,R,S',R',O,W,rfl,li,kp,_,_⟩:=h
   exact tl _ _ ⟨o7,S,R,S',R',O,W,rfl,li.mono (by omega),kp⟩
 obtain ⟨o7,S,R,S',R',O,W,rfl,li,kp⟩:=h
 refine ⟨_,rfl,a,ns,2,rfl,kp.seq hS,by decide,fun y1 y2 y3 b2 hb2=>?_⟩
 have sb2:Same H6 (upd H6 b2 (.lst [.int y1,.int y2,.int y3])):=Same.new hb2
 have x7:Ap a1 p l b2 (upd H6 b2 (.lst [.int y1,.int y2,.int y3])):=by
  refine ⟨⟨_,_,_,zc⟩,fun m=>?_,fun m=>?_,zk li.nl hb2⟩
  ·obtain ⟨o,e⟩:=li.hs.at m
   rw [hb2] at e; cases e
  ·obtain ⟨o,e⟩:=Ps.at li.ps m
   rw [hb2] at e; cases e
 have l7:=li.same sb2
 have k7:=kp.trans sb2
 have nb2:∀ {c:Addr}{o:HO},H c = some o->c≠b2:=fun {c o} e=>zk (kp _ _ e) hb2
 generalize upd H6 b2 (.lst [.int y1,.int y2,.int y3]) = H7 at sb2 x7 l7 k7
 have sS:∀ {G G':Hp},Same H G->Step b2 G G'->Same H G':=fun {G G'} sG st c o e=>st.keep c o (nb2 e) (sG _ _ e)
 have nm7:Nms H7 b2 l nn:=⟨l7.nl,x7.nl,hne,hfew.1,hnm⟩
 dsimp only [Z7]
 refine ⟨_,rfl,_,rfl,_,rfl,_,_,rfl,.inl ⟨_,SqL.of nm7.at',rfl⟩,b2,_,rfl,x7.bx,nm7.pos.1,nm7.pos.2,fun r H8 r0 r1 st8=>?_⟩
 obtain ⟨z,ez,hz,hzm⟩:=nm7.pick r0 r1
 have n8:=nm7.step st8
 refine ⟨l,_,r,_,rfl,rfl,SqL.of n8.at',ez,?_⟩
 have l8:=l7.step x7 st8
 have x8:=x7.step st8
 have k8:=sS k7 st8
 have o64:∀ {m:Nat}{G:Hp}{S R S' R':Kvs}{O W:List Str},LS AHouse a1 p l nn m G S R S' R' O W->O.length < 64:=fun ls=>Nat.lt_of_le_of_lt (zkn ls.on.nd ls.on.sub) (by have:=hfew.1; omega)
 dsimp only [Z7]
 refine seqI (fun σ' H'=>∃ o9:Option V,σ' = [some (.ref a),some (.ref b2),some (.ref l),some (.ref a1.p),some (.ref p.p),some (.ref ld),o6,o7,some (.str z),o9,none,none]/\LS AHouse a1 p l nn 900 H' S R S' R' O W/\Ap a1 p l b2 H'/\Same H H') (fun σ' H9 h=>?_) (fun tl=>?_)
 rotate_left
 ·refine ⟨zl7,fun lw hlw=>?_⟩
  have s9:=Same.new (o:=.lst [.str "put",.str "rule",.str "drop",.str "open",.str "shut",.str "wish",.str "let"]) hlw
  have ew:upd H8 lw (.lst [.str "put",.str "rule",.str "drop",.str "open",.str "shut",.str "wish",.str "let"]) lw = some (.lst [.str "put",.str "rule",.str "drop",.str "open",.str "shut",.str "wish",.str "let"]):=zc
  have l9:=l8.same s9
  have x9:=x8.same s9
  have k9:=k8.trans s9
  have nwb:lw≠b2:=Zd.ne x8.bx hlw
  refine ⟨lw,rfl,⟨_,SqL.of ew⟩,zbm (K:=K) (xs:=[.str "put",.str "rule",.str "drop",.str "open",.str "shut",.str "wish",.str "let"]) (fun i σ' H'=>∃ o9:Option V,σ' = [some (.ref a),some (.ref b2),some (.ref l),some (.ref a1.p),some (.ref p.p),some (.ref ld),o6,o7,some (.str z),o9,none,none]/\LS AHouse a1 p l nn 900 H' S R S' R' O W/\Ap a1 p l b2 H'/\Same H H'/\H' lw = some (.lst [.str "put",.str "rule",.str "drop",.str "open",.str "shut",.str "wish",.str "let"]))
   ⟨none,rfl,l9,x9,k9,ew⟩ (fun i σ' H' _ h=>?_) (fun i x σ' H' hx h=>?_) (fun σ' H' h=>?_)⟩
  ·obtain ⟨_,_,_,_,_,e⟩:=h
   exact SqL.of e
  ·obtain ⟨o9,rfl,lq,xq,kq,eq⟩:=h
   obtain ⟨m,rfl⟩:=seven (List.mem_of_getElem? hx)
   refine ⟨_,rfl,_,rfl,_,rfl,_,rfl,_,rfl,b2,z,rfl,xq.bx,hz,fun v t G1 rt hn st1=>⟨_,rfl,b2,rfl,st1.box,fun v2 t2 G2 rt2 hw st2=>⟨zl3,fun tp htp=>?_⟩⟩⟩
   have sT:=Same.new (o:=.tup [.str m.s,v,v2]) htp
   have lT:=((lq.step xq st1).step (xq.step st1) st2).same sT
   have xT:=((xq.step st1).step st2).same sT
   have kT:=(sS (sS kq st1) st2).trans sT
   have eT:upd G2 tp (.tup [.str m.s,v,v2]) lw = some (.lst [.str "put",.str "rule",.str "drop",.str "open",.str "shut",.str "wish",.str "let"]):=sT _ _ (st2.keep _ _ nwb (st1.keep _ _ nwb eq))
   refine ⟨a1,p,S,R,S',R',O,W,tp,_,0,rfl,lT.hs,lT.ps,lT.bs.same,lT.br.same,o64 lT,zc,.name m ((rt.step st2 st1.box).mono sT) hn,fun H10 s10=>⟨_,rfl,iteF ?_⟩⟩
   exact ⟨_,rfl,lT.same s10,xT.same s10,kT.trans s10,s10 _ _ eT⟩
  ·obtain ⟨o9,rfl,lq,xq,kq,_⟩:=h
   exact tl _ _ ⟨o9,rfl,lq,xq,kq⟩
 obtain ⟨o9,rfl,l9,x9,k9⟩:=h
 refine seqI (fun σ' H'=>∃ (o7 o10:Option V) (S R S' R':Kvs) (O W:List Str),σ' = [some (.ref a),some (.ref b2),some (.ref l),some (.ref a1.p),some (.ref p.p),some (.ref ld),o6,o7,some (.str z),o9,o10,none]/\LS AHouse a1 p l nn 902 H' S R S' R' O W/\(valV S (.inr z)).isSome = true) (fun σ' H10 h=>?_) (fun tl=>?_)
 rotate_left
 ·refine ⟨2,rfl,by decide,by decide,zat (n:=2) (fun i σ' H'=>∃ (o7 o10:Option V) (S R S' R':Kvs) (O W:List Str),σ' = [some (.ref a),some (.ref b2),some (.ref l),some (.ref a1.p),some (.ref p.p),some (.ref ld),o6,o7,some (.str z),o9,o10,none]/\LS AHouse a1 p l nn (900 + i) H' S R S' R' O W/\Ap a1 p l b2 H'/\(i = 2->(valV S (.inr z)).isSome = true)) ⟨o7,none,S,R,S',R',O,W,rfl,l9,x9,fun z=>nomatch z⟩ (fun i σ' H' hi h=>?_) (fun σ' H' h=>?_)⟩
  ·obtain ⟨o7,o10,S,R,S',R',O,W,rfl,lq,xq,_⟩:=h
   refine ⟨_,rfl,_,rfl,_,rfl,_,rfl,b2,rfl,xq.bx,fun v2 t2 G2 rt2 hw st2=>⟨zl3,fun tp htp=>?_⟩⟩
   have sT:=Same.new (o:=.tup [.str "put",.str z,v2]) htp
   have lT:=(lq.step xq st2).same sT
   have xT:=(xq.step st2).same sT
   refine ⟨a1,p,S,R,S',R',O,W,tp,_,1,rfl,lT.hs,lT.ps,lT.bs.same,lT.br.same,o64 lT,zc,.worth hz (rt2.mono sT) hw,fun H10 s10=>⟨_,rfl,iteF ?_⟩⟩
   have lU:=lT.same s10
   have xU:=xT.same s10
   have nmU:Nms H10 b2 l nn:=⟨lU.nl,xU.nl,hne,hfew.1,hnm⟩
   refine ⟨_,rfl,_,rfl,_,rfl,_,rfl,_,rfl,b2,l,nn,rfl,xU.bx,nmU,fun v3 t3 G3 rt3 hr st3=>⟨zl3,fun tp2 htp2=>?_⟩⟩
   have sV:=Same.new (o:=.tup [.str "rule",.str z,v3]) htp2
   have lV:=(lU.step xU st3).same sV
   have xV:=(xU.step st3).same sV
   refine ⟨a1,p,S,R,S',R',O,W,tp2,_,2,rfl,lV.hs,lV.ps,lV.bs.same,lV.br.same,o64 lV,zc,.rule hz (rt3.mono sV) hr,fun H11 s11=>⟨_,rfl,iteF ?_⟩⟩
   have lW:=lV.same s11
   have xW:=xV.same s11
   have hi2:i = 0\/i = 1:=by omega
   dsimp only [zc2]
   refine ze4 ?_
   rcases hi2 with rfl | rfl
   ·refine ⟨zl2,fun q1 hq1=>⟨_,rfl,q1,_,_,.str "rule",rfl,rfl,SqL.of zc,rfl,_,rfl,zl2,fun q2 hq2=>⟨zl2,fun q3 hq3=>⟨_,rfl,q3,_,_,.ref q2,rfl,rfl,SqL.of zc,rfl,zl3,fun tp3 htp3=>?_⟩⟩⟩⟩
    have m1:=Same.new (o:=.lst [.str "rule",.str "put"]) hq1
    have m2:=Same.new (o:=.tup [.str "lit",.int 5]) hq2
    have m3:=Same.new (o:=.lst [.ref q2,.int 5]) hq3
    have m4:=Same.new (o:=.tup [.str "rule",.str z,.ref q2]) htp3
    have e2:=zc (H:=upd H11 q1 (.lst [.str "rule",.str "put"])) (a:=q2) (o:=.tup [.str "lit",.int 5])
    have mA:=m1.trans (m2.trans (m3.trans m4))
    refine ziJ (ip:=4) (ih:=3) (id:=7) (px:=.ref q2) (d:=.rule z (.lit (.num 5))) rfl rfl rfl (lW.same mA) (by omega) ⟨zc,?_⟩ ⟨⟨hz,hzm⟩,zki ⟨⟨by decide,by decide⟩,by simp only [D.W.size]; decide,Nat.zero_le _⟩⟩ trivial fun G l' k' t'=>?_
    ·rw [Rl.toW]
     exact RW.pair (m4 _ _ (m3 _ _ e2)) (.txt _) (.num _)
    ·exact ⟨_,_,_,_,_,_,_,_,rfl,l',(xW.same mA).kb k',fun z=>nomatch z⟩
   ·refine ⟨zl2,fun q1 hq1=>⟨_,rfl,q1,_,_,.str "put",rfl,rfl,SqL.of zc,rfl,_,rfl,zl2,fun q2 hq2=>⟨zl2,fun q3 hq3=>⟨_,rfl,q3,_,_,.int 5,rfl,rfl,SqL.of zc,rfl,zl3,fun tp3 htp3=>?_⟩⟩⟩⟩
    have m1:=Same.new (o:=.lst [.str "rule",.str "put"]) hq1
    have m2:=Same.new (o:=.tup [.str "lit",.int 5]) hq2
    have m3:=Same.new (o:=.lst [.ref q2,.int 5]) hq3
    have m4:=Same.new (o:=.tup [.str "put",.str z,.int 5]) htp3
    have mA:=m1.trans (m2.trans (m3.trans m4))
    refine ziJ (ip:=4) (ih:=3) (id:=7) (px:=.int 5) (d:=.put z (.num 5)) rfl rfl rfl (lW.same mA) (by omega) ⟨zc,.num _⟩ ⟨⟨hz,hzm⟩,⟨by decide,by decide⟩,by simp only [D.W.size]; decide,Nat.zero_le _⟩ trivial fun G l' k' t'=>?_
    refine ⟨_,_,_,_,_,_,_,_,rfl,l',(xW.same mA).kb k',fun _=>?_⟩
    show (valV (putK S (.inr z) (.int 5)) (.inr z)).isSome = true
    rw [zcg,if_pos rfl]
    rfl
  ·obtain ⟨o7,o10,S,R,S',R',O,W,rfl,lq,xq,hv⟩:=h
   exact tl _ _ ⟨o7,o10,S,R,S',R',O,W,rfl,lq,hv rfl⟩
 obtain ⟨o7,o10,S,R,S',R',O,W,rfl,lq,hv⟩:=h
 obtain ⟨m1,m2,m3,m4,m5,m6⟩:=lq.len
 have pa:∀ c∈p.all,c ∉ a1.all:=fun c hc m=>ap c m hc
 refine ⟨_,rfl,_,rfl,zl2,fun tp htp=>?_⟩
 have sT:=Same.new (o:=.tup [.str "drop",.str z]) htp
 have lT:=lq.same sT
 have ok:(Dd.one .drop z).Ok nn:=⟨hz,hzm⟩
 refine ⟨p,S',R',O,W,tp,.int 0,.one .drop z,rfl,lT.ps,zc,by omega,by omega,by omega,by omega,fun H11 p11 k11=>?_⟩
 have h11:=lT.hs.kb k11 ap
 obtain ⟨dx,ei⟩:=h11.ins
 refine ⟨_,rfl,a1.p,dx,_,rfl,ei,rfl,_,rfl,a1,S,R,O,W,_,rfl,h11,.inl ⟨z,rfl,hz,by rw [hv]; rfl,fun H12 h12 k12=>?_⟩⟩
 have l12:LS AHouse a1 p l nn 903 H12 (zI S (.inr z)) (zI R (.inr z)) (bS (.int 0) S' (.one .drop z)) (bR (.int 0) R' (.one .drop z)) O W:=by
  have w1:=zJ S (.inr z)
  have w2:=zJ R (.inr z)
  have w3:=zkp (.int 0) S' (.one .drop z)
  have w4:=zkq (.int 0) R' (.one .drop z)
  have p12:=p11.kb k12 pa
  exact ⟨k12 _ _ lT.la (k11 _ _ lT.lp lT.nl),h12,p12,bi_S (pv:=.int 0) trivial lT.bs (.one .drop z),bi_R (pv:=.int 0) trivial lT.br (.one .drop z),lT.on,lT.os.drop z,lT.or.drop z,⟨by omega,by omega,by omega,by omega,by omega,by omega⟩,ap,lT.la,lT.lp⟩
 generalize bS (.int 0) S' (.one .drop z) = S2 at l12
 generalize bR (.int 0) R' (.one .drop z) = R2 at l12
 have vS:(valV (zI S (.inr z)) (.inr z)).isSome = false:=by rw [zae,if_pos rfl]; rfl
 have vR:(valV (zI R (.inr z)) (.inr z)).isSome = false:=by rw [zae,if_pos rfl]; rfl
 generalize zI S (.inr z) = S3 at l12 vS
 generalize zI R (.inr z) = R3 at l12 vR
 dsimp only
 refine seqI (fun σ' H'=>σ' = [some (.ref a),some (.ref b2),some (.ref l),some (.ref a1.p),some (.ref p.p),some (.ref ld),o6,o7,some (.str z),o9,o10,some (.str (zz 0))]/\H' = H12) (fun σ' H'' h=>?_) (fun tl=>tl _ _ ⟨by rw [zlr]; rfl,rfl⟩)
 obtain ⟨rfl,rfl⟩:=h
 have h8:nn.length<=8:=by have:=hfew.2; omega
 refine ⟨fun m σ' H'=>∃ k,σ' = [some (.ref a),some (.ref b2),some (.ref l),some (.ref a1.p),some (.ref p.p),some (.ref ld),o6,o7,some (.str z),o9,o10,some (.str (zz k))]/\m = 8 - k/\(∀ j,j < k->zz j∈nn)/\H' = H'',⟨8,0,rfl,rfl,fun j hj=>absurd hj (Nat.not_lt_zero _),rfl⟩,fun m σ' G h=>?_⟩
 obtain ⟨k,rfl,rfl,hk,rfl⟩:=h
 have hk8:=zkr hk
 refine ⟨_,rfl,_,rfl,l,_,rfl,.inl (SqL.of l12.nl),rfl,zad nn,_,rfl,?_⟩
 show if inV (.str (zz k)) (nn.map V.str) = true then _ else _
 rw [zal]
 by_cases hm:zz k∈nn
 ·rw [decide_eq_true hm]
  have hk':∀ j,j < k + 1->zz j∈nn:=fun j hj=>by
   by_cases e:j = k
   ·rw [e]; exact hm
   ·exact hk j (by omega)
  have hk9:=zkr hk'
  refine iteT ⟨fun σ2 H2=>σ2 = [some (.ref a),some (.ref b2),some (.ref l),some (.ref a1.p),some (.ref p.p),some (.ref ld),o6,o7,some (.str z),o9,o10,some (.str (zz (k + 1)))]/\H2 = G,fun σ2 H2 h2=>⟨8 - (k + 1),by omega,k + 1,h2.1,rfl,hk',h2.2⟩,?_⟩
  refine ⟨_,rfl,_,_,rfl,rfl,small (by rw [ziK,show (Str.ofString "z").length = 1 by decide +kernel]; omega),?_⟩
  rw [zls]
  exact ⟨rfl,rfl⟩
 ·rw [decide_eq_false hm]
  refine iteF ?_
  refine ⟨_,rfl,_,rfl,_,rfl,zl2,fun t1 ht1=>?_⟩
  have sA:=Same.new (o:=.tup [.str "drop",.str z]) ht1
  have lA:=l12.same sA
  refine ⟨a1,p,S3,R3,S2,R2,O,W,t1,_,3,rfl,lA.hs,lA.ps,lA.bs.same,lA.br.same,o64 lA,zc,.thing hz (by rw [vS,vR]; rfl),fun G1 g1=>?_⟩
  have lB:=lA.same g1
  have hzk:Nm (zz k):=zmR (by omega)
  refine ⟨_,rfl,?_⟩
  refine iteT ⟨_,rfl,_,rfl,_,rfl,zl2,fun t2 ht2=>?_⟩
  have sC:=Same.new (o:=.tup [.str "drop",.str (zz k)]) ht2
  have lC:=lB.same sC
  exact ⟨a1,p,S3,R3,S2,R2,O,W,t2,_,3,rfl,lC.hs,lC.ps,lC.bs.same,lC.br.same,o64 lC,zc,.thing hzk (by rw [lC.os _ hm,lC.or _ hm]; rfl),fun G2 g2=>q _⟩
end
end D
namespace PySem.W.Fast
def tw17788411115865675327:=0
def tw13931791873692145204:=0
def tw17726538051435158551:=0
def tw854471247796394361:=0
def tw4706766511672588179:=0
def tw10843871266909289013:=0
def tw17872836269706888106:=0
def tw4328313409143295800:=0
def tw2262004970793092090:=0
def tw14586405385906648256:=0
def tw12102014353434850499:=0
def tw3996349403769003504:=0
def tw12050373673765600478:=0
def tw3784084127687930374:=0
def tw8199104189412867912:=0
def tw3989146139904210753:=0
def tw6449135883384747004:=0
def tw7978174628275747700:=0
def tw14779776536435305157:=0
def tw15213256320781686778:=0
def tw165418508558057408:=0
def tw14998902405145205016:=0
def tw13401189407236713609:=0
def tw8295464851526780923:=0
def tw12830168652844820804:=0
def tw18259143845725771881:=0
def tw6850807537696184853:=0
def tw1713419284495510441:=0
def tw5225822005963992000:=0
def tw15959821139296960173:=0
def tw2227053192006624108:=0
def tw11480826943767764142:=0
def tw4925482266885440622:=0
def tw7933288802996911982:=0
def tw5098708462707598724:=0
def tw390434780145315773:=0
def tw17156786574005423989:=0
def tw11792531694766841954:=0
def tw1131859238349598205:=0
def tw17553215972078623543:=0
def tw15859275899192224487:=0
def tw4285936261103713134:=0
def tw2952587473527862020:=0
def tw18251546311251585881:=0
def tw9559208186962995186:=0
def tw2287512147876736034:=0
def tw4477300246895985352:=0
def tw10639330486703476760:=0
def tw11515612671981139321:=0
def tw2337840199892353291:=0
def tw3914191945083728679:=0
def tw2222495644224994158:=0
def tw10299401500811791123:=0
def tw9282097349245681393:=0
def tw12954639648603404948:=0
def tw11698680569288378175:=0
def tw10549303134554566843:=0
def tw12837976405178150474:=0
def tw4886748126163893530:=0
def tw14221083154447260049:=0
def tw14194536355020576237:=0
def tw11798457475011598635:=0
def tw519176582063997257:=0
def tw13494152961877755344:=0
def tw9073536986278688797:=0
def tw3366916958503436090:=0
def tw15801952981842543810:=0
def tw13565651583945305656:=0
def tw16908232122191247842:=0
def tw16357306188094714848:=0
def tw7413126841869054566:=0
def tw14792238657664110389:=0
def tw2245515465759734844:=0
def tw10858677157280064352:=0
def tw5755308343169816970:=0
def tw9367054378895799356:=0
def tw15678557087916342443:=0
def tw9375174216977395387:=0
def tw75905668456870473:=0
def tw17784733323653807139:=0
def tw7141779313934232998:=0
def tw2211885544351428592:=0
def tw16033886287782117984:=0
def tw11284029829114203184:=0
def tw2580016431390996107:=0
def tw9383311044623539385:=0
def tw7379154718520942485:=0
def tw1386005504949504303:=0
def tw5216811109308101359:=0
def tw7148323042139456626:=0
def tw14861870062138880214:=0
def tw14657032248521413321:=0
def tw14674368461535845801:=0
def tw1296708079076782004:=0
def tw14142048038656844485:=0
def tw16427072365164837668:=0
def tw15830928559725407008:=0
def tw12226460678789494229:=0
def tw5592266663287917710:=0
def tw2580699473205559224:=0
def tw4500406997413374153:=0
def tw2577359246968659534:=0
def tw5427672004270511913:=0
def tw9305664631318097072:=0
def tw8923484838373429506:=0
def tw12377052169991597632:=0
def tw4082688845623043062:=0
def tw14123591181135501747:=0
def tw12574538716182116902:=0
def tw2519375011073218649:=0
def tw5240477075564420704:=0
def tw6571515547337277567:=0
def tw7988466974512138655:=0
def tw7219133206893970274:=0
def tw940497054526360731:=0
def tw9513730061404768145:=0
def tw1372226920562105865:=0
def tw3262295561424166488:=0
def tw12196075161387260531:=0
def tw2486695162526845112:=0
def tw5761934927133829477:=0
def tw4724902308786204322:=0
def tw6911297836890417206:=0
def tw16919887287977079988:=0
def tw5555538361321596950:=0
def tw12200583370884795189:=0
def tw7141297463927554497:=0
def tw10637641510093772015:=0
def tw3969155664359162471:=0
def tw7178909180559580134:=0
def tw14521875482092732228:=0
def tw2520181243291714132:=0
def tw10817874076914799053:=0
def tw9346037890112960643:=0
def tw4223337951747393526:=0
def tw14618824815567185336:=0
def tw567522082615358929:=0
def tw4669969057968608764:=0
def tw2892226567930365332:=0
def tw9023832508780014290:=0
def tw8832821199696735748:=0
def tw12141843506264926697:=0
def tw6269456115767773940:=0
def tw6578058756008590773:=0
def tw18419185292581165685:=0
def tw11639999598604372249:=0
def tw1020341589403523679:=0
def tw14725171858253562628:=0
def tw17141623372392050409:=0
def tw12679819289692050885:=0
def tw3466600145306039673:=0
def tw4533835831282316217:=0
def tw8342119018956011305:=0
def tw5453172434092827592:=0
def tw4343434340746865982:=0
def tw3869872541486256105:=0
def tw3717580132345301680:=0
def tw10640291838438834462:=0
def tw8725694742355255772:=0
def tw2817539288897869191:=0
def tw4989082406329809537:=0
def tw11481845076676010239:=0
def tw339327223080335409:=0
def tw6454498218922967837:=0
def tw15331854493678530738:=0
def tw6859577372439926938:=0
def tw8750869061970109392:=0
def tw3000719990881198040:=0
def tw9312187781470644914:=0
def tw380226076078099612:=0
def tw4661308825556200599:=0
def tw9900205098497919369:=0
def tw4265594636546633883:=0
def tw18326434586047665891:=0
def tw3129550462181105094:=0
def tw7623668757241152992:=0
def tw13911757645006448422:=0
def tw16828629883971485178:=0
def tw17355097827962463706:=0
def tw13490621185523189632:=0
def tw94682842084465408:=0
def tw5405088428531433111:=0
def tw16601489674586193230:=0
def tw8910600182413526460:=0
def tw4608426410294082516:=0
def tw4495941112893903617:=0
def tw10759218901025982452:=0
def tw13014717454767765301:=0
def tw7817691014070424193:=0
def tw4699209333475389599:=0
def tw15365574873236055629:=0
def tw15196967976032065426:=0
def tw13922897480992977602:=0
def tw14328173943449594957:=0
def tw4385199408188028305:=0
def tw5216080562846700121:=0
def tw8333057714891578409:=0
def tw15386135437976167040:=0
def tw7417973924973124488:=0
def tw123472143508138390:=0
end PySem.W.Fast
namespace D
open PySem L2
theorem zfQ {P:Program}{w:World}{K:PySem.W.Frag}{mg:Str->Option Value}{base:Heap}{f:Addr}{fd:FuncData}{ps:List Str}{sp:Sp}{CX:CXT} (no:∀ vs H Q E,¬ sp vs H Q E) (k:Nat):FnOk P w K mg base CX k f fd ps sp:=
 ⟨fun vs H Q E h=>absurd h (no vs H Q E),fun A outer s H args us vs Q E _ _ _ _ h=>absurd h (no vs H Q E)⟩
theorem us_1 {us:List Value} (h:us.length = 1):∃ x0,us = [x0]:=by
 match us,h with
 | [x0],_=>exact ⟨x0,rfl⟩
theorem us_2 {us:List Value} (h:us.length = 2):∃ x0 x1,us = [x0,x1]:=by
 match us,h with
 | [x0,x1],_=>exact ⟨x0,x1,rfl⟩
theorem us_3 {us:List Value} (h:us.length = 3):∃ x0 x1 x2,us = [x0,x1,x2]:=by
 match us,h with
 | [x0,x1,x2],_=>exact ⟨x0,x1,x2,rfl⟩
theorem us_4 {us:List Value} (h:us.length = 4):∃ x0 x1 x2 x3,us = [x0,x1,x2,x3]:=by
 match us,h with
 | [x0,x1,x2,x3],_=>exact ⟨x0,x1,x2,x3,rfl⟩
abbrev nI (K:PySem.W.Frag) (s:Str) (f:Addr):Prop:=nsIn K mainGlobals s = some (some (.ref f))
abbrev lI (K:PySem.W.Frag) (f:Addr) (s:Str) (t:Stmt) (oc:Value) (od:Option Addr) (kV dc pm:Value) (an:Option Addr) (cd ct:Value) (sl:Array (Option Value)):Prop:=K.lookup f = some ⟨oc,od,.func (fnOf s s (ZA t) (Zl t) (zh t) .none kV dc pm an cd ct),sl⟩
abbrev cI (K:PySem.W.Frag) (c:Value) (s:Str):Prop:=codeIn K c s = true
abbrev kI (K:PySem.W.Frag) (f:Addr):Prop:=keepIn K (.ref f) = true
theorem zmA {l:PySem.W.OpenLaw}{w:World}{K:PySem.W.Frag}{h:Heap}{mg:Str->Option Value}{fa f0 f1 f2 f3 f4 f5 f6 f7 f8 f9 f10 f11 f12 f13 f14 f15 f16 f17 f18 f19 f20 f21 f22 f23 f24 f25 f26 f27 f28 f29 f30 f31 f32 f33 f34 f35 f36 f37 f38 f39 f40 f41 f42 f43 f44 f45 f46 f47 f48:Addr} (X:K.In h) (G:h.Ns mainGlobals mg) (hfa:mg "law" = some (.ref fa))
  {od0 an0 od1 an1 od2 an2 od3 an3 od4 an4 od5 an5 od6 an6 od7 an7 od8 an8 od9 an9 od10 an10 od11 an11 od12 an12 od13 an13 od14 an14 od15 an15 od16 an16 od17 an17 od18 an18 od19 an19 od20 an20 od21 an21 od22 an22 od23 an23 od24 an24 od25 an25 od26 an26 od27 an27 od28 an28 od29 an29 od30 an30 od31 an31 od32 an32 od33 an33 od34 an34 od35 an35 od36 an36 od37 an37 od38 an38 od39 an39 od40 an40 od41 an41 od42 an42 od43 an43 od44 an44 od45 an45 od46 an46 od47 an47 od48 an48:Option Addr}{sl0 sl1 sl2 sl3 sl4 sl5 sl6 sl7 sl8 sl9 sl10 sl11 sl12 sl13 sl14 sl15 sl16 sl17 sl18 sl19 sl20 sl21 sl22 sl23 sl24 sl25 sl26 sl27 sl28 sl29 sl30 sl31 sl32 sl33 sl34 sl35 sl36 sl37 sl38 sl39 sl40 sl41 sl42 sl43 sl44 sl45 sl46 sl47 sl48:Array (Option Value)}{oc0 kV0 dc0 pm0 cd0 ct0 oc1 kV1 dc1 pm1 cd1 ct1 oc2 kV2 dc2 pm2 cd2 ct2 oc3 kV3 dc3 pm3 cd3 ct3 oc4 kV4 dc4 pm4 cd4 ct4 oc5 kV5 dc5 pm5 cd5 ct5 oc6 kV6 dc6 pm6 cd6 ct6 oc7 kV7 dc7 pm7 cd7 ct7 oc8 kV8 dc8 pm8 cd8 ct8 oc9 kV9 dc9 pm9 cd9 ct9 oc10 kV10 dc10 pm10 cd10 ct10 oc11 kV11 dc11 pm11 cd11 ct11 oc12 kV12 dc12 pm12 cd12 ct12 oc13 kV13 dc13 pm13 cd13 ct13 oc14 kV14 dc14 pm14 cd14 ct14 oc15 kV15 dc15 pm15 cd15 ct15 oc16 kV16 dc16 pm16 cd16 ct16 oc17 kV17 dc17 pm17 cd17 ct17 oc18 kV18 dc18 pm18 cd18 ct18 oc19 kV19 dc19 pm19 cd19 ct19 oc20 kV20 dc20 pm20 cd20 ct20 oc21 kV21 dc21 pm21 cd21 ct21 oc22 kV22 dc22 pm22 cd22 ct22 oc23 kV23 dc23 pm23 cd23 ct23 oc24 kV24 dc24 pm24 cd24 ct24 oc25 kV25 dc25 pm25 cd25 ct25 oc26 kV26 dc26 pm26 cd26 ct26 oc27 kV27 dc27 pm27 cd27 ct27 oc28 kV28 dc28 pm28 cd28 ct28 oc29 kV29 dc29 pm29 cd29 ct29 oc30 kV30 dc30 pm30 cd30 ct30 oc31 kV31 dc31 pm31 cd31 ct31 oc32 kV32 dc32 pm32 cd32 ct32 oc33 kV33 dc33 pm33 cd33 ct33 oc34 kV34 dc34 pm34 cd34 ct34 oc35 kV35 dc35 pm35 cd35 ct35 oc36 kV36 dc36 pm36 cd36 ct36 oc37 kV37 dc37 pm37 cd37 ct37 oc38 kV38 dc38 pm38 cd38 ct38 oc39 kV39 dc39 pm39 cd39 ct39 oc40 kV40 dc40 pm40 cd40 ct40 oc41 kV41 dc41 pm41 cd41 ct41 oc42 kV42 dc42 pm42 cd42 ct42 oc43 kV43 dc43 pm43 cd43 ct43 oc44 kV44 dc44 pm44 cd44 ct44 oc45 kV45 dc45 pm45 cd45 ct45 oc46 kV46 dc46 pm46 cd46 ct46 oc47 kV47 dc47 pm47 cd47 ct47 oc48 kV48 dc48 pm48 cd48 ct48:Value}
  {AHouse:Addr} (aC_House:nsIn K mainGlobals "House" = some (some (.ref AHouse))) (pg_House:plainGet K AHouse Str.empty = true) (hd_House:hasDictIn K AHouse = true) (po_House:plainOver K AHouse = true) (sa_House:findIn K (.ref AHouse) "__setattr__" = some (some (.builtin "object.__setattr__"))) (mk_House:makesIn K AHouse = true) (kc_House:keepIn K (.ref AHouse) = true) (nf_House_sources:findIn K (.ref AHouse) "sources" = some none) (nf_House_rules:findIn K (.ref AHouse) "rules" = some none) (nf_House_opened:findIn K (.ref AHouse) "opened" = some none) (nf_House_wishes:findIn K (.ref AHouse) "wishes" = some none)
  {ANoName:Addr}
  (aX_NoName:nsIn K mainGlobals "NoName" = some (some (.ref ANoName)))
  (eX_NoName:excIn K ANoName vErr "ValueError.__new__" = true)
  {ANoWorth:Addr}
  (aX_NoWorth:nsIn K mainGlobals "NoWorth" = some (some (.ref ANoWorth)))
  (eX_NoWorth:excIn K ANoWorth vErr "ValueError.__new__" = true)
  {ANoRule:Addr}
  (aX_NoRule:nsIn K mainGlobals "NoRule" = some (some (.ref ANoRule)))
  (eX_NoRule:excIn K ANoRule vErr "ValueError.__new__" = true)
  {ANoThing:Addr}
  (aX_NoThing:nsIn K mainGlobals "NoThing" = some (some (.ref ANoThing)))
  (eX_NoThing:excIn K ANoThing vErr "ValueError.__new__" = true)
  {zN:Addr}
  (aX_NoText:nsIn K mainGlobals "NoText" = some (some (.ref zN)))
  {ANoStep:Addr}
  (aX_NoStep:nsIn K mainGlobals "NoStep" = some (some (.ref ANoStep)))
  {ANoRow:Addr}
  (aX_NoRow:nsIn K mainGlobals "NoRow" = some (some (.ref ANoRow)))
  {AForgeError:Addr}
  (aX_ForgeError:nsIn K mainGlobals "ForgeError" = some (some (.ref AForgeError)))
  (ix4:specialIn K (.builtin "object.__class__") "__get__" = some (some (.builtin "getset_descriptor.__get__")))
  (ix5:takesIn K (.builtin "object.__class__") = some true)
  (ix1_0:findIn K (.ref ANoName) "__getattribute__" = some (some (.builtin "BaseException.__getattribute__")))
  (ix2_0:findIn K (.ref ANoName) "__getattr__" = some none)
  (ix3_0:findIn K (.ref ANoName) "__class__" = some (some (.builtin "object.__class__")))
  (ix6_0:mroIn K ANoName (.type "object") = some true)
  (ix7_0:mroIn K ANoName (.type "BaseException") = some true)
  (xm_0:exmOne K (.ref ANoName) (.ref AForgeError) = some true)
  (kv_0:kitOne K (.ref ANoName) (.type "ValueError") = some true)
  (kk_0_0:kitOne K (.ref ANoName) (.ref ANoName) = some true)
  (kk_0_1:kitOne K (.ref ANoName) (.ref ANoWorth) = some false)
  (kk_0_2:kitOne K (.ref ANoName) (.ref ANoRule) = some false)
  (kk_0_3:kitOne K (.ref ANoName) (.ref ANoThing) = some false)
  (kk_0_4:kitOne K (.ref ANoName) (.ref zN) = some false)
  (kk_0_5:kitOne K (.ref ANoName) (.ref ANoStep) = some false)
  (kk_0_6:kitOne K (.ref ANoName) (.ref ANoRow) = some false)
  (ix1_1:findIn K (.ref ANoWorth) "__getattribute__" = some (some (.builtin "BaseException.__getattribute__")))
  (ix2_1:findIn K (.ref ANoWorth) "__getattr__" = some none)
  (ix3_1:findIn K (.ref ANoWorth) "__class__" = some (some (.builtin "object.__class__")))
  (ix6_1:mroIn K ANoWorth (.type "object") = some true)
  (ix7_1:mroIn K ANoWorth (.type "BaseException") = some true)
  (xm_1:exmOne K (.ref ANoWorth) (.ref AForgeError) = some true)
  (kv_1:kitOne K (.ref ANoWorth) (.type "ValueError") = some true)
  (kk_1_0:kitOne K (.ref ANoWorth) (.ref ANoName) = some false)
  (kk_1_1:kitOne K (.ref ANoWorth) (.ref ANoWorth) = some true)
  (kk_1_2:kitOne K (.ref ANoWorth) (.ref ANoRule) = some false)
  (kk_1_3:kitOne K (.ref ANoWorth) (.ref ANoThing) = some false)
  (kk_1_4:kitOne K (.ref ANoWorth) (.ref zN) = some false)
  (kk_1_5:kitOne K (.ref ANoWorth) (.ref ANoStep) = some false)
  (kk_1_6:kitOne K (.ref ANoWorth) (.ref ANoRow) = some false)
  (ix1_2:findIn K (.ref ANoRule) "__getattribute__" = some (some (.builtin "BaseException.__getattribute__")))
  (ix2_2:findIn K (.ref ANoRule) "__getattr__" = some none)
  (ix3_2:findIn K (.ref ANoRule) "__class__" = some (some (.builtin "object.__class__")))
  (ix6_2:mroIn K ANoRule (.type "object") = some true)
  (ix7_2:mroIn K ANoRule (.type "BaseException") = some true)
  (xm_2:exmOne K (.ref ANoRule) (.ref AForgeError) = some true)
  (kv_2:kitOne K (.ref ANoRule) (.type "ValueError") = some true)
  (kk_2_0:kitOne K (.ref ANoRule) (.ref ANoName) = some false)
  (kk_2_1:kitOne K (.ref ANoRule) (.ref ANoWorth) = some false)
  (kk_2_2:kitOne K (.ref ANoRule) (.ref ANoRule) = some true)
  (kk_2_3:kitOne K (.ref ANoRule) (.ref ANoThing) = some false)
  (kk_2_4:kitOne K (.ref ANoRule) (.ref zN) = some false)
  (kk_2_5:kitOne K (.ref ANoRule) (.ref ANoStep) = some false)
  (kk_2_6:kitOne K (.ref ANoRule) (.ref ANoRow) = some false)
  (ix1_3:findIn K (.ref ANoThing) "__getattribute__" = some (some (.builtin "BaseException.__getattribute__")))
  (ix2_3:findIn K (.ref ANoThing) "__getattr__" = some none)
  (ix3_3:findIn K (.ref ANoThing) "__class__" = some (some (.builtin "object.__class__")))
  (ix6_3:mroIn K ANoThing (.type "object") = some true)
  (ix7_3:mroIn K ANoThing (.type "BaseException") = some true)
  (xm_3:exmOne K (.ref ANoThing) (.ref AForgeError) = some true)
  (kv_3:kitOne K (.ref ANoThing) (.type "ValueError") = some true)
  (kk_3_0:kitOne K (.ref ANoThing) (.ref ANoName) = some false)
  (kk_3_1:kitOne K (.ref ANoThing) (.ref ANoWorth) = some false)
  (kk_3_2:kitOne K (.ref ANoThing) (.ref ANoRule) = some false)
  (kk_3_3:kitOne K (.ref ANoThing) (.ref ANoThing) = some true)
  (kk_3_4:kitOne K (.ref ANoThing) (.ref zN) = some false)
  (kk_3_5:kitOne K (.ref ANoThing) (.ref ANoStep) = some false)
  (kk_3_6:kitOne K (.ref ANoThing) (.ref ANoRow) = some false)
  (a0:nI K "is_number" f0) (l0:lI K f0 "is_number" zaD oc0 od0 kV0 dc0 pm0 an0 cd0 ct0 sl0) (c0:cI K cd0 "is_number") (k0:kI K f0)
  (a1:nI K "is_sign" f1) (l1:lI K f1 "is_sign" zbw oc1 od1 kV1 dc1 pm1 an1 cd1 ct1 sl1) (c1:cI K cd1 "is_sign") (k1:kI K f1)
  (a2:nI K "fits_alone" f2) (l2:lI K f2 "fits_alone" zai oc2 od2 kV2 dc2 pm2 an2 cd2 ct2 sl2) (c2:cI K cd2 "fits_alone") (k2:kI K f2)
  (a3:nI K "size_alone" f3) (l3:lI K f3 "size_alone" zfZ oc3 od3 kV3 dc3 pm3 an3 cd3 ct3 sl3) (c3:cI K cd3 "size_alone") (k3:kI K f3)
  (a4:nI K "is_worth" f4) (l4:lI K f4 "is_worth" za1 oc4 od4 kV4 dc4 pm4 an4 cd4 ct4 sl4) (c4:cI K cd4 "is_worth") (k4:kI K f4)
  (a5:nI K "is_variable" f5) (l5:lI K f5 "is_variable" Z4 oc5 od5 kV5 dc5 pm5 an5 cd5 ct5 sl5) (c5:cI K cd5 "is_variable") (k5:kI K f5)
  (a6:nI K "has_parts" f6) (l6:lI K f6 "has_parts" zaE oc6 od6 kV6 dc6 pm6 an6 cd6 ct6 sl6) (c6:cI K cd6 "has_parts") (k6:kI K f6)
  (a7:nI K "binding_count" f7) (l7:lI K f7 "binding_count" ZI oc7 od7 kV7 dc7 pm7 an7 cd7 ct7 sl7) (c7:cI K cd7 "binding_count") (k7:kI K f7)
  (a8:nI K "variables_of" f8) (l8:lI K f8 "variables_of" ZT oc8 od8 kV8 dc8 pm8 an8 cd8 ct8 sl8) (c8:cI K cd8 "variables_of") (k8:kI K f8)
  (a9:nI K "parts_of" f9) (l9:lI K f9 "parts_of" za2 oc9 od9 kV9 dc9 pm9 an9 cd9 ct9 sl9) (c9:cI K cd9 "parts_of") (k9:kI K f9)
  (a10:nI K "are_good_variables" f10) (l10:lI K f10 "are_good_variables" Zb oc10 od10 kV10 dc10 pm10 an10 cd10 ct10 sl10) (c10:cI K cd10 "are_good_variables") (k10:kI K f10)
  (a11:nI K "has_form" f11) (l11:lI K f11 "has_form" za3 oc11 od11 kV11 dc11 pm11 an11 cd11 ct11 sl11) (c11:cI K cd11 "has_form") (k11:kI K f11)
  (a12:nI K "is_formed" f12) (l12:lI K f12 "is_formed" zaF oc12 od12 kV12 dc12 pm12 an12 cd12 ct12 sl12) (c12:cI K cd12 "is_formed") (k12:kI K f12)
  (a13:nI K "unbound" f13) (l13:lI K f13 "unbound" zbx oc13 od13 kV13 dc13 pm13 an13 cd13 ct13 sl13) (c13:cI K cd13 "unbound") (k13:kI K f13)
  (a14:nI K "free_in" f14) (l14:lI K f14 "free_in" zby oc14 od14 kV14 dc14 pm14 an14 cd14 ct14 sl14) (c14:cI K cd14 "free_in") (k14:kI K f14)
  (a15:nI K "repeated" f15) (l15:lI K f15 "repeated" za4 oc15 od15 kV15 dc15 pm15 an15 cd15 ct15 sl15) (c15:cI K cd15 "repeated") (k15:kI K f15)
  (a16:nI K "is_rule" f16) (l16:lI K f16 "is_rule" zbz oc16 od16 kV16 dc16 pm16 an16 cd16 ct16 sl16) (c16:cI K cd16 "is_rule") (k16:kI K f16)
  (a17:nI K "is_word" f17) (l17:lI K f17 "is_word" zbA oc17 od17 kV17 dc17 pm17 an17 cd17 ct17 sl17) (c17:cI K cd17 "is_word") (k17:kI K f17)
  (a18:nI K "is_name" f18) (l18:lI K f18 "is_name" zbB oc18 od18 kV18 dc18 pm18 an18 cd18 ct18 sl18) (c18:cI K cd18 "is_name") (k18:kI K f18)
  (a19:nI K "ask_for_name" f19) (l19:lI K f19 "ask_for_name" ZU oc19 od19 kV19 dc19 pm19 an19 cd19 ct19 sl19) (c19:cI K cd19 "ask_for_name") (k19:kI K f19)
  (a20:findIn K (.ref AHouse) "__init__" = some (some (.ref f20))) (q20:isFn K (.ref f20) = true) (l20:K.lookup f20 = some ⟨oc20,od20,.func (fnOf "__init__" "House.__init__" (ZA zW) (Zl zW) (zh zW) .none kV20 dc20 pm20 an20 cd20 ct20),sl20⟩) (c20:codeIn K cd20 "House.__init__" = true) (k20:keepIn K (.ref f20) = true)
  (a21:findIn K (.ref AHouse) "has_thing" = some (some (.ref f21))) (q21:isFn K (.ref f21) = true) (l21:K.lookup f21 = some ⟨oc21,od21,.func (fnOf "has_thing" "House.has_thing" (ZA zS) (Zl zS) (zh zS) .none kV21 dc21 pm21 an21 cd21 ct21),sl21⟩) (c21:codeIn K cd21 "House.has_thing" = true) (k21:keepIn K (.ref f21) = true)
  (a22:findIn K (.ref AHouse) "put" = some (some (.ref f22))) (q22:isFn K (.ref f22) = true) (l22:K.lookup f22 = some ⟨oc22,od22,.func (fnOf "put" "House.put" (ZA ZM) (Zl ZM) (zh ZM) .none kV22 dc22 pm22 an22 cd22 ct22),sl22⟩) (c22:codeIn K cd22 "House.put" = true) (k22:keepIn K (.ref f22) = true)
  (a23:findIn K (.ref AHouse) "put_rule" = some (some (.ref f23))) (q23:isFn K (.ref f23) = true) (l23:K.lookup f23 = some ⟨oc23,od23,.func (fnOf "put_rule" "House.put_rule" (ZA zX) (Zl zX) (zh zX) .none kV23 dc23 pm23 an23 cd23 ct23),sl23⟩) (c23:codeIn K cd23 "House.put_rule" = true) (k23:keepIn K (.ref f23) = true)
  (a24:findIn K (.ref AHouse) "drop" = some (some (.ref f24))) (q24:isFn K (.ref f24) = true) (l24:K.lookup f24 = some ⟨oc24,od24,.func (fnOf "drop" "House.drop" (ZA ZC) (Zl ZC) (zh ZC) .none kV24 dc24 pm24 an24 cd24 ct24),sl24⟩) (c24:codeIn K cd24 "House.drop" = true) (k24:keepIn K (.ref f24) = true)
  (a25:findIn K (.ref AHouse) "open_up" = some (some (.ref f25))) (q25:isFn K (.ref f25) = true) (l25:K.lookup f25 = some ⟨oc25,od25,.func (fnOf "open_up" "House.open_up" (ZA Zc) (Zl Zc) (zh Zc) .none kV25 dc25 pm25 an25 cd25 ct25),sl25⟩) (c25:codeIn K cd25 "House.open_up" = true) (k25:keepIn K (.ref f25) = true)
  (a26:findIn K (.ref AHouse) "shut" = some (some (.ref f26))) (q26:isFn K (.ref f26) = true) (l26:K.lookup f26 = some ⟨oc26,od26,.func (fnOf "shut" "House.shut" (ZA ZD) (Zl ZD) (zh ZD) .none kV26 dc26 pm26 an26 cd26 ct26),sl26⟩) (c26:codeIn K cd26 "House.shut" = true) (k26:keepIn K (.ref f26) = true)
  (a27:findIn K (.ref AHouse) "wish" = some (some (.ref f27))) (q27:isFn K (.ref f27) = true) (l27:K.lookup f27 = some ⟨oc27,od27,.func (fnOf "wish" "House.wish" (ZA ZE) (Zl ZE) (zh ZE) .none kV27 dc27 pm27 an27 cd27 ct27),sl27⟩) (c27:codeIn K cd27 "House.wish" = true) (k27:keepIn K (.ref f27) = true)
  (a28:findIn K (.ref AHouse) "let_go" = some (some (.ref f28))) (q28:isFn K (.ref f28) = true) (l28:K.lookup f28 = some ⟨oc28,od28,.func (fnOf "let_go" "House.let_go" (ZA Zk) (Zl Zk) (zh Zk) .none kV28 dc28 pm28 an28 cd28 ct28),sl28⟩) (c28:codeIn K cd28 "House.let_go" = true) (k28:keepIn K (.ref f28) = true)
  (a29:nI K "_law_cell" f29) (l29:lI K f29 "_law_cell" zi5 oc29 od29 kV29 dc29 pm29 an29 cd29 ct29 sl29) (c29:cI K cd29 "_law_cell") (k29:kI K f29)
  (a30:nI K "_law_box" f30) (l30:lI K f30 "_law_box" sBox oc30 od30 kV30 dc30 pm30 an30 cd30 ct30 sl30) (c30:cI K cd30 "_law_box") (k30:kI K f30)
  (a31:nI K "_law_take" f31) (l31:lI K f31 "_law_take" zi6 oc31 od31 kV31 dc31 pm31 an31 cd31 ct31 sl31) (c31:cI K cd31 "_law_take") (k31:kI K f31)
  (a32:nI K "_law_text" f32) (l32:lI K f32 "_law_text" zi7 oc32 od32 kV32 dc32 pm32 an32 cd32 ct32 sl32) (c32:cI K cd32 "_law_text") (k32:kI K f32)
  (a33:nI K "_law_number" f33) (l33:lI K f33 "_law_number" zdt oc33 od33 kV33 dc33 pm33 an33 cd33 ct33 sl33) (c33:cI K cd33 "_law_number") (k33:kI K f33)
  (a34:nI K "_law_worth" f34) (l34:lI K f34 "_law_worth" zf0 oc34 od34 kV34 dc34 pm34 an34 cd34 ct34 sl34) (c34:cI K cd34 "_law_worth") (k34:kI K f34)
  (a35:nI K "_law_rule" f35) (l35:lI K f35 "_law_rule" zdu oc35 od35 kV35 dc35 pm35 an35 cd35 ct35 sl35) (c35:cI K cd35 "_law_rule") (k35:kI K f35)
  (a36:nI K "_law_likes" f36) (l36:lI K f36 "_law_likes" zch oc36 od36 kV36 dc36 pm36 an36 cd36 ct36 sl36) (c36:cI K cd36 "_law_likes") (k36:kI K f36)
  (a37:nI K "_law_names" f37) (l37:lI K f37 "_law_names" zci oc37 od37 kV37 dc37 pm37 an37 cd37 ct37 sl37) (c37:cI K cd37 "_law_names") (k37:kI K f37)
  (a38:nI K "_law_first" f38) (l38:lI K f38 "_law_first" zcj oc38 od38 kV38 dc38 pm38 an38 cd38 ct38 sl38) (c38:cI K cd38 "_law_first") (k38:kI K f38)
  (a39:nI K "_law_deed" f39) (l39:lI K f39 "_law_deed" zdv oc39 od39 kV39 dc39 pm39 an39 cd39 ct39 sl39) (c39:cI K cd39 "_law_deed") (k39:kI K f39)
  (a40:nI K "_law_do" f40) (l40:lI K f40 "_law_do" zi8 oc40 od40 kV40 dc40 pm40 an40 cd40 ct40 sl40) (c40:cI K cd40 "_law_do") (k40:kI K f40)
  (a41:nI K "_law_hand" f41) (l41:lI K f41 "_law_hand" zdw oc41 od41 kV41 dc41 pm41 an41 cd41 ct41 sl41) (c41:cI K cd41 "_law_hand") (k41:kI K f41)
  (a42:nI K "_law_no_name" f42) (l42:lI K f42 "_law_no_name" za5 oc42 od42 kV42 dc42 pm42 an42 cd42 ct42 sl42) (c42:cI K cd42 "_law_no_name") (k42:kI K f42)
  (a43:nI K "_law_no_worth" f43) (l43:lI K f43 "_law_no_worth" zaG oc43 od43 kV43 dc43 pm43 an43 cd43 ct43 sl43) (c43:cI K cd43 "_law_no_worth") (k43:kI K f43)
  (a44:nI K "_law_no_rule" f44) (l44:lI K f44 "_law_no_rule" za6 oc44 od44 kV44 dc44 pm44 an44 cd44 ct44 sl44) (c44:cI K cd44 "_law_no_rule") (k44:kI K f44)
  (a45:nI K "_law_deed_done" f45) (l45:lI K f45 "_law_deed_done" zaj oc45 od45 kV45 dc45 pm45 an45 cd45 ct45 sl45) (c45:cI K cd45 "_law_deed_done") (k45:kI K f45)
  (a46:nI K "_law_sorts" f46) (l46:lI K f46 "_law_sorts" zck oc46 od46 kV46 dc46 pm46 an46 cd46 ct46 sl46) (c46:cI K cd46 "_law_sorts") (k46:kI K f46)
  (a47:nI K "_law_refused" f47) (l47:lI K f47 "_law_refused" za7 oc47 od47 kV47 dc47 pm47 an47 cd47 ct47 sl47) (c47:cI K cd47 "_law_refused") (k47:kI K f47)
  (a48:nI K "law" f48) (l48:lI K f48 "law" sLaw oc48 od48 kV48 dc48 pm48 an48 cd48 ct48 sl48) (c48:cI K cd48 "law") (k48:kI K f48)
  (z0:nsIn K mainGlobals "isinstance" = some none)
  (z1:nsIn K mainGlobals "int" = some none)
  (z2:nsIn K mainGlobals "bool" = some none)
  (z3:nsIn K mainGlobals "ord" = some none)
  (z4:nsIn K mainGlobals "str" = some none)
  (z5:nsIn K mainGlobals "tuple" = some none)
  (z6:nsIn K mainGlobals "len" = some none)
  (z7:nsIn K mainGlobals "all" = some none)
  (z8:nsIn K mainGlobals "abs" = some none)
  (z9:nsIn K mainGlobals "list" = some none)
  (z10:nsIn K mainGlobals "enumerate" = some none)
  (z11:nsIn K mainGlobals "set" = some none)
  (z12:nsIn K mainGlobals "sorted" = some none)
  (z13:nsIn K mainGlobals "max" = some none)
  (z14:nsIn K mainGlobals "range" = some none)
  (z15:nsIn K mainGlobals "min" = some none)
  (z16:nsIn K mainGlobals "ValueError" = some none)
  {t0:Tok} (i0:nsIn K mainGlobals "PERCENT" = some (some (.int 37 t0)))
  {t1:Tok} (i1:nsIn K mainGlobals "MOST_SIGNS_worths" = some (some (.int 400 t1)))
  {t2:Tok} (i2:nsIn K mainGlobals "MOST_ITEMS" = some (some (.int 60 t2)))
  {t3:Tok} (i3:nsIn K mainGlobals "MOST_DEPTH" = some (some (.int 12 t3)))
  {t4:Tok} (i4:nsIn K mainGlobals "MOST_SIZE" = some (some (.int 1000 t4)))
  {t5:Tok} (i5:nsIn K mainGlobals "MOST_LETTERS" = some (some (.int 8 t5)))
  {t6:Tok} (i6:nsIn K mainGlobals "MOST_LISTED" = some (some (.int 8 t6)))
  {t7:Tok} (i7:nsIn K mainGlobals "MOST_MANY" = some (some (.int 60 t7)))
  {t8:Tok} (i8:nsIn K mainGlobals "MOST_NESTING" = some (some (.int 12 t8)))
  {t9:Tok} (i9:nsIn K mainGlobals "MOST_REPEATED" = some (some (.int 2 t9)))
  {t10:Tok} (i10:nsIn K mainGlobals "MOST_SIGNS_names" = some (some (.int 12 t10)))
  {v0:Tok} (s0:nsIn K mainGlobals "LETTERS" = some (some (.str "abcdefghijklmnopqrstuvwxyz" v0)))
  {v1:Tok} (s1:nsIn K mainGlobals "SIGNS" = some (some (.str "abcdefghijklmnopqrstuvwxyz0123456789" v1)))
  {g0:Addr}{gd0:Option Addr}{gn0:Nat}{gs0:Array (Option Value)}{u0_0 u0_1:Tok} (y0:nsIn K mainGlobals "REPEATING" = some (some (.ref g0))) (x0:K.lookup g0 = some ⟨.type "tuple",gd0,.seq #[.str "each" u0_0,.str "over" u0_1] gn0,gs0⟩)
  {dg0:Addr}{dn0:Nat}{du0_0 dv0_0 du0_1 dv0_1 du0_2 dv0_2:Tok} (dy0:nsIn K mainGlobals "BINDING" = some (some (.ref dg0))) (dx0:K.lookup dg0 = some ⟨.type "dict",none,.dict #[⟨hashStr w "let",.str "let" du0_0,.int 1 dv0_0⟩,⟨hashStr w "each",.str "each" du0_1,.int 1 dv0_1⟩,⟨hashStr w "over",.str "over" du0_2,.int 2 dv0_2⟩] dn0,#[]⟩) (dz0:(dg0 == sysModules) = false)
  {dg1:Addr}{dn1:Nat}{du1_0 dv1_0 du1_1 dv1_1 du1_2 dv1_2 du1_3 dv1_3 du1_4 dv1_4 du1_5 dv1_5 du1_6 dv1_6 du1_7 dv1_7 du1_8 dv1_8 du1_9 dv1_9 du1_10 dv1_10 du1_11 dv1_11 du1_12 dv1_12 du1_13 dv1_13 du1_14 dv1_14 du1_15 dv1_15 du1_16 dv1_16:Tok} (dy1:nsIn K mainGlobals "PARTS" = some (some (.ref dg1))) (dx1:K.lookup dg1 = some ⟨.type "dict",none,.dict #[⟨hashStr w "let",.str "let" du1_0,.int 2 dv1_0⟩,⟨hashStr w "if",.str "if" du1_1,.int 3 dv1_1⟩,⟨hashStr w "+",.str "+" du1_2,.int 2 dv1_2⟩,⟨hashStr w "-",.str "-" du1_3,.int 2 dv1_3⟩,⟨hashStr w "*",.str "*" du1_4,.int 2 dv1_4⟩,⟨hashStr w "/",.str "/" du1_5,.int 2 dv1_5⟩,⟨hashStr w "same",.str "same" du1_6,.int 2 dv1_6⟩,⟨hashStr w "less",.str "less" du1_7,.int 2 dv1_7⟩,⟨hashStr w "join",.str "join" du1_8,.int 2 dv1_8⟩,⟨hashStr w "item",.str "item" du1_9,.int 2 dv1_9⟩,⟨hashStr w "count",.str "count" du1_10,.int 1 dv1_10⟩,⟨hashStr w "figures",.str "figures" du1_11,.int 1 dv1_11⟩,⟨hashStr w "each",.str "each" du1_12,.int 2 dv1_12⟩,⟨hashStr w "over",.str "over" du1_13,.int 3 dv1_13⟩,⟨hashStr w "look",.str "look" du1_14,.int 1 dv1_14⟩,⟨hashStr w "else",.str "else" du1_15,.int 2 dv1_15⟩,⟨hashStr w "cry",.str "cry" du1_16,.int 1 dv1_16⟩] dn1,#[]⟩) (dz1:(dg1 == sysModules) = false)
  : ∃ fd:FuncData,(∀ (s:Shared) (v:Value),BindsTo s fd ⟨[v],[]⟩ [("_law_script",v)])/\∀ base:Heap,K.In base->base.Ns mainGlobals mg->FnOk l.prog w K mg base CX0 100 fa fd ["_law_script"] (zjU K):=by
 have e:=hfa.symm.trans (mg_of X G a48)
 cases e
 have F0:=zA (st:=zaD) l0 c0 k0
 have b0:=F0.binds (ps:=["thing"]) fun _ _ _ _ _ _ us hl=>by obtain ⟨_,rfl⟩:=us_1 hl; rfl
 have n0:=mg_of X G a0
 have F1:=zA (st:=zbw) l1 c1 k1
 have b1:=F1.binds (ps:=["sign"]) fun _ _ _ _ _ _ us hl=>by obtain ⟨_,rfl⟩:=us_1 hl; rfl
 have n1:=mg_of X G a1
 have F2:=zA (st:=zai) l2 c2 k2
 have b2:=F2.binds (ps:=["thing","levels"]) fun _ _ _ _ _ _ us hl=>by obtain ⟨_,_,rfl⟩:=us_2 hl; rfl
 have n2:=mg_of X G a2
 have F3:=zA (st:=zfZ) l3 c3 k3
 have b3:=F3.binds (ps:=["worth"]) fun _ _ _ _ _ _ us hl=>by obtain ⟨_,rfl⟩:=us_1 hl; rfl
 have n3:=mg_of X G a3
 have F4:=zA (st:=za1) l4 c4 k4
 have b4:=F4.binds (ps:=["thing"]) fun _ _ _ _ _ _ us hl=>by obtain ⟨_,rfl⟩:=us_1 hl; rfl
 have n4:=mg_of X G a4
 have F5:=zA (st:=Z4) l5 c5 k5
 have b5:=F5.binds (ps:=["thing"]) fun _ _ _ _ _ _ us hl=>by obtain ⟨_,rfl⟩:=us_1 hl; rfl
 have n5:=mg_of X G a5
 have F6:=zA (st:=zaE) l6 c6 k6
 have b6:=F6.binds (ps:=["word"]) fun _ _ _ _ _ _ us hl=>by obtain ⟨_,rfl⟩:=us_1 hl; rfl
 have n6:=mg_of X G a6
 have F7:=zA (st:=ZI) l7 c7 k7
 have b7:=F7.binds (ps:=["word"]) fun _ _ _ _ _ _ us hl=>by obtain ⟨_,rfl⟩:=us_1 hl; rfl
 have n7:=mg_of X G a7
 have F8:=zA (st:=ZT) l8 c8 k8
 have b8:=F8.binds (ps:=["expression"]) fun _ _ _ _ _ _ us hl=>by obtain ⟨_,rfl⟩:=us_1 hl; rfl
 have n8:=mg_of X G a8
 have F9:=zA (st:=za2) l9 c9 k9
 have b9:=F9.binds (ps:=["expression"]) fun _ _ _ _ _ _ us hl=>by obtain ⟨_,rfl⟩:=us_1 hl; rfl
 have n9:=mg_of X G a9
 have F10:=zA (st:=Zb) l10 c10 k10
 have b10:=F10.binds (ps:=["names"]) fun _ _ _ _ _ _ us hl=>by obtain ⟨_,rfl⟩:=us_1 hl; rfl
 have n10:=mg_of X G a10
 have F11:=zA (st:=za3) l11 c11 k11
 have b11:=F11.binds (ps:=["thing"]) fun _ _ _ _ _ _ us hl=>by obtain ⟨_,rfl⟩:=us_1 hl; rfl
 have n11:=mg_of X G a11
 have F12:=zA (st:=zaF) l12 c12 k12
 have b12:=F12.binds (ps:=["thing"]) fun _ _ _ _ _ _ us hl=>by obtain ⟨_,rfl⟩:=us_1 hl; rfl
 have n12:=mg_of X G a12
 have F13:=zA (st:=zbx) l13 c13 k13
 have b13:=F13.binds (ps:=["expression","bound"]) fun _ _ _ _ _ _ us hl=>by obtain ⟨_,_,rfl⟩:=us_2 hl; rfl
 have n13:=mg_of X G a13
 have F14:=zA (st:=zby) l14 c14 k14
 have b14:=F14.binds (ps:=["expression"]) fun _ _ _ _ _ _ us hl=>by obtain ⟨_,rfl⟩:=us_1 hl; rfl
 have n14:=mg_of X G a14
 have F15:=zA (st:=za4) l15 c15 k15
 have b15:=F15.binds (ps:=["expression"]) fun _ _ _ _ _ _ us hl=>by obtain ⟨_,rfl⟩:=us_1 hl; rfl
 have n15:=mg_of X G a15
 have F16:=zA (st:=zbz) l16 c16 k16
 have b16:=F16.binds (ps:=["thing"]) fun _ _ _ _ _ _ us hl=>by obtain ⟨_,rfl⟩:=us_1 hl; rfl
 have n16:=mg_of X G a16
 have F17:=zA (st:=zbA) l17 c17 k17
 have b17:=F17.binds (ps:=["text"]) fun _ _ _ _ _ _ us hl=>by obtain ⟨_,rfl⟩:=us_1 hl; rfl
 have n17:=mg_of X G a17
 have F18:=zA (st:=zbB) l18 c18 k18
 have b18:=F18.binds (ps:=["thing"]) fun _ _ _ _ _ _ us hl=>by obtain ⟨_,rfl⟩:=us_1 hl; rfl
 have n18:=mg_of X G a18
 have F19:=zA (st:=ZU) l19 c19 k19
 have b19:=F19.binds (ps:=["name"]) fun _ _ _ _ _ _ us hl=>by obtain ⟨_,rfl⟩:=us_1 hl; rfl
 have n19:=mg_of X G a19
 have F20:=zA (st:=zW) l20 c20 k20
 have b20:=F20.binds (ps:=["self"]) fun _ _ _ _ _ _ us hl=>by obtain ⟨_,rfl⟩:=us_1 hl; rfl
 have F21:=zA (st:=zS) l21 c21 k21
 have b21:=F21.binds (ps:=["self","name"]) fun _ _ _ _ _ _ us hl=>by obtain ⟨_,_,rfl⟩:=us_2 hl; rfl
 have F22:=zA (st:=ZM) l22 c22 k22
 have b22:=F22.binds (ps:=["self","name","worth"]) fun _ _ _ _ _ _ us hl=>by obtain ⟨_,_,_,rfl⟩:=us_3 hl; rfl
 have F23:=zA (st:=zX) l23 c23 k23
 have b23:=F23.binds (ps:=["self","name","rule"]) fun _ _ _ _ _ _ us hl=>by obtain ⟨_,_,_,rfl⟩:=us_3 hl; rfl
 have F24:=zA (st:=ZC) l24 c24 k24
 have b24:=F24.binds (ps:=["self","name"]) fun _ _ _ _ _ _ us hl=>by obtain ⟨_,_,rfl⟩:=us_2 hl; rfl
 have F25:=zA (st:=Zc) l25 c25 k25
 have b25:=F25.binds (ps:=["self","name"]) fun _ _ _ _ _ _ us hl=>by obtain ⟨_,_,rfl⟩:=us_2 hl; rfl
 have F26:=zA (st:=ZD) l26 c26 k26
 have b26:=F26.binds (ps:=["self","name"]) fun _ _ _ _ _ _ us hl=>by obtain ⟨_,_,rfl⟩:=us_2 hl; rfl
 have F27:=zA (st:=ZE) l27 c27 k27
 have b27:=F27.binds (ps:=["self","name"]) fun _ _ _ _ _ _ us hl=>by obtain ⟨_,_,rfl⟩:=us_2 hl; rfl
 have F28:=zA (st:=Zk) l28 c28 k28
 have b28:=F28.binds (ps:=["self","name"]) fun _ _ _ _ _ _ us hl=>by obtain ⟨_,_,rfl⟩:=us_2 hl; rfl
 have F29:=zA (st:=zi5) l29 c29 k29
 have b29:=F29.binds (ps:=["_law_script","_law_k"]) fun _ _ _ _ _ _ us hl=>by obtain ⟨_,_,rfl⟩:=us_2 hl; rfl
 have n29:=mg_of X G a29
 have F30:=zA (st:=sBox) l30 c30 k30
 have b30:=F30.binds (ps:=["_law_script","_law_k"]) fun _ _ _ _ _ _ us hl=>by obtain ⟨_,_,rfl⟩:=us_2 hl; rfl
 have n30:=mg_of X G a30
 have F31:=zA (st:=zi6) l31 c31 k31
 have b31:=F31.binds (ps:=["_law_box_here","_law_wide"]) fun _ _ _ _ _ _ us hl=>by obtain ⟨_,_,rfl⟩:=us_2 hl; rfl
 have n31:=mg_of X G a31
 have F32:=zA (st:=zi7) l32 c32 k32
 have b32:=F32.binds (ps:=["_law_box_here","_law_most"]) fun _ _ _ _ _ _ us hl=>by obtain ⟨_,_,rfl⟩:=us_2 hl; rfl
 have n32:=mg_of X G a32
 have F33:=zA (st:=zdt) l33 c33 k33
 have b33:=F33.binds (ps:=["_law_box_here"]) fun _ _ _ _ _ _ us hl=>by obtain ⟨_,rfl⟩:=us_1 hl; rfl
 have n33:=mg_of X G a33
 have F34:=zA (st:=zf0) l34 c34 k34
 have b34:=F34.binds (ps:=["_law_box_here","_law_room","_law_deep"]) fun _ _ _ _ _ _ us hl=>by obtain ⟨_,_,_,rfl⟩:=us_3 hl; rfl
 have n34:=mg_of X G a34
 have F35:=zA (st:=zdu) l35 c35 k35
 have b35:=F35.binds (ps:=["_law_box_here","_law_names_here"]) fun _ _ _ _ _ _ us hl=>by obtain ⟨_,_,rfl⟩:=us_2 hl; rfl
 have n35:=mg_of X G a35
 have F36:=zA (st:=zch) l36 c36 k36
 have b36:=F36.binds (ps:=["_law_box_here","_law_total"]) fun _ _ _ _ _ _ us hl=>by obtain ⟨_,_,rfl⟩:=us_2 hl; rfl
 have n36:=mg_of X G a36
 have F37:=zA (st:=zci) l37 c37 k37
 have b37:=F37.binds (ps:=["_law_box_here","_law_most"]) fun _ _ _ _ _ _ us hl=>by obtain ⟨_,_,rfl⟩:=us_2 hl; rfl
 have n37:=mg_of X G a37
 have F38:=zA (st:=zcj) l38 c38 k38
 have b38:=F38.binds (ps:=["_law_box_here","_law_names_here"]) fun _ _ _ _ _ _ us hl=>by obtain ⟨_,_,rfl⟩:=us_2 hl; rfl
 have n38:=mg_of X G a38
 have F39:=zA (st:=zdv) l39 c39 k39
 have b39:=F39.binds (ps:=["_law_box_here","_law_names_here"]) fun _ _ _ _ _ _ us hl=>by obtain ⟨_,_,rfl⟩:=us_2 hl; rfl
 have n39:=mg_of X G a39
 have F40:=zA (st:=zi8) l40 c40 k40
 have b40:=F40.binds (ps:=["_law_parts","_law_deed_here"]) fun _ _ _ _ _ _ us hl=>by obtain ⟨_,_,rfl⟩:=us_2 hl; rfl
 have n40:=mg_of X G a40
 have F41:=zA (st:=zdw) l41 c41 k41
 have b41:=F41.binds (ps:=["_law_house","_law_deed_here"]) fun _ _ _ _ _ _ us hl=>by obtain ⟨_,_,rfl⟩:=us_2 hl; rfl
 have n41:=mg_of X G a41
 have F42:=zA (st:=za5) l42 c42 k42
 have b42:=F42.binds (ps:=["_law_box_here","_law_name"]) fun _ _ _ _ _ _ us hl=>by obtain ⟨_,_,rfl⟩:=us_2 hl; rfl
 have n42:=mg_of X G a42
 have F43:=zA (st:=zaG) l43 c43 k43
 have b43:=F43.binds (ps:=["_law_box_here"]) fun _ _ _ _ _ _ us hl=>by obtain ⟨_,rfl⟩:=us_1 hl; rfl
 have n43:=mg_of X G a43
 have F44:=zA (st:=za6) l44 c44 k44
 have b44:=F44.binds (ps:=["_law_box_here","_law_names_here"]) fun _ _ _ _ _ _ us hl=>by obtain ⟨_,_,rfl⟩:=us_2 hl; rfl
 have n44:=mg_of X G a44
 have F45:=zA (st:=zaj) l45 c45 k45
 have b45:=F45.binds (ps:=["_law_house","_law_deed_here"]) fun _ _ _ _ _ _ us hl=>by obtain ⟨_,_,rfl⟩:=us_2 hl; rfl
 have n45:=mg_of X G a45
 have F46:=zA (st:=zck) l46 c46 k46
 have b46:=F46.binds (ps:=["_law_e"]) fun _ _ _ _ _ _ us hl=>by obtain ⟨_,rfl⟩:=us_1 hl; rfl
 have n46:=mg_of X G a46
 have F47:=zA (st:=za7) l47 c47 k47
 have b47:=F47.binds (ps:=["_law_house","_law_parts","_law_deed_here","_law_sort"]) fun _ _ _ _ _ _ us hl=>by obtain ⟨_,_,_,_,rfl⟩:=us_4 hl; rfl
 have n47:=mg_of X G a47
 have F48:=zA (st:=sLaw) l48 c48 k48
 have cl_House:Cls K AHouse:=⟨pg_House,hd_House,po_House,sa_House⟩
 have m_isinstance:=mg_none_of X G z0
 have m_int:=mg_none_of X G z1
 have m_bool:=mg_none_of X G z2
 have m_ord:=mg_none_of X G z3
 have m_str:=mg_none_of X G z4
 have m_tuple:=mg_none_of X G z5
 have m_len:=mg_none_of X G z6
 have m_all:=mg_none_of X G z7
 have m_abs:=mg_none_of X G z8
 have m_list:=mg_none_of X G z9
 have m_enumerate:=mg_none_of X G z10
 have m_set:=mg_none_of X G z11
 have m_sorted:=mg_none_of X G z12
 have m_max:=mg_none_of X G z13
 have m_range:=mg_none_of X G z14
 have m_min:=mg_none_of X G z15
 have m_ValueError:=mg_none_of X G z16
 have m_PERCENT:∃ t,mg "PERCENT" = some (.int 37 t):=⟨t0,mg_of X G i0⟩
 have m_MOST_SIGNS_worths:∃ t,mg "MOST_SIGNS_worths" = some (.int 400 t):=⟨t1,mg_of X G i1⟩
 have m_MOST_ITEMS:∃ t,mg "MOST_ITEMS" = some (.int 60 t):=⟨t2,mg_of X G i2⟩
 have m_MOST_DEPTH:∃ t,mg "MOST_DEPTH" = some (.int 12 t):=⟨t3,mg_of X G i3⟩
 have m_MOST_SIZE:∃ t,mg "MOST_SIZE" = some (.int 1000 t):=⟨t4,mg_of X G i4⟩
 have m_MOST_LETTERS:∃ t,mg "MOST_LETTERS" = some (.int 8 t):=⟨t5,mg_of X G i5⟩
 have m_MOST_LISTED:∃ t,mg "MOST_LISTED" = some (.int 8 t):=⟨t6,mg_of X G i6⟩
 have m_MOST_MANY:∃ t,mg "MOST_MANY" = some (.int 60 t):=⟨t7,mg_of X G i7⟩
 have m_MOST_NESTING:∃ t,mg "MOST_NESTING" = some (.int 12 t):=⟨t8,mg_of X G i8⟩
 have m_MOST_REPEATED:∃ t,mg "MOST_REPEATED" = some (.int 2 t):=⟨t9,mg_of X G i9⟩
 have m_MOST_SIGNS_names:∃ t,mg "MOST_SIGNS_names" = some (.int 12 t):=⟨t10,mg_of X G i10⟩
 have m_LETTERS:∃ t,mg "LETTERS" = some (.str abcL t):=⟨v0,mg_of X G s0⟩
 have m_SIGNS:∃ t,mg "SIGNS" = some (.str zaq t):=⟨v1,mg_of X G s1⟩
 have m_REPEATING:=mg_of X G y0
 have t_REPEATING:∀ H:Hp,SqT K H g0 [.str "each",.str "over"]:=fun H=>.inr ⟨_,_,_,x0,rfl,rfl,zl2,(.cons ⟨_,rfl⟩ (.cons ⟨_,rfl⟩ .nil))⟩
 have m_BINDING:=mg_of X G dy0
 have d_BINDING:MD l.prog w K dg0 (kvsB ):=zl8 [("let",du0_0,.int 1,.int 1 dv0_0),("each",du0_1,.int 1,.int 1 dv0_1),("over",du0_2,.int 2,.int 2 dv0_2)] dx0 dz0 (fun p hp=>by simp only [List.mem_cons,List.not_mem_nil,or_false] at hp; rcases hp with rfl | rfl | rfl <;> first | exact rfl | exact ⟨_,rfl⟩) (by show (["let","each","over"]:List Str).Nodup; decide +kernel)
 have m_PARTS:=mg_of X G dy1
 have d_PARTS:MD l.prog w K dg1 (kvsP ):=zl8 [("let",du1_0,.int 2,.int 2 dv1_0),("if",du1_1,.int 3,.int 3 dv1_1),("+",du1_2,.int 2,.int 2 dv1_2),("-",du1_3,.int 2,.int 2 dv1_3),("*",du1_4,.int 2,.int 2 dv1_4),("/",du1_5,.int 2,.int 2 dv1_5),("same",du1_6,.int 2,.int 2 dv1_6),("less",du1_7,.int 2,.int 2 dv1_7),("join",du1_8,.int 2,.int 2 dv1_8),("item",du1_9,.int 2,.int 2 dv1_9),("count",du1_10,.int 1,.int 1 dv1_10),("figures",du1_11,.int 1,.int 1 dv1_11),("each",du1_12,.int 2,.int 2 dv1_12),("over",du1_13,.int 3,.int 3 dv1_13),("look",du1_14,.int 1,.int 1 dv1_14),("else",du1_15,.int 2,.int 2 dv1_15),("cry",du1_16,.int 1,.int 1 dv1_16)] dx1 dz1 (fun p hp=>by simp only [List.mem_cons,List.not_mem_nil,or_false] at hp; rcases hp with rfl | rfl | rfl | rfl | rfl | rfl | rfl | rfl | rfl | rfl | rfl | rfl | rfl | rfl | rfl | rfl | rfl <;> first | exact rfl | exact ⟨_,rfl⟩) (by show (["let","if","+","-","*","/","same","less","join","item","count","figures","each","over","look","else","cry"]:List Str).Nodup; decide +kernel)
 refine ⟨fnOf "law" "law" (ZA sLaw) (Zl sLaw) (zh sLaw) .none kV48 dc48 pm48 an48 cd48 ct48,fun s v=>.of_eq rfl,fun base _ _=>?_⟩
 have h_is_number:Have l.prog w K mg base "is_number" 1 ["thing"] (zfj):=⟨_,_,(zjf F0 m_isinstance m_int m_bool:FnOk l.prog w K mg base CX0 (0 + 1) _ _ _ _),b0,k0,n0⟩
 have h_is_sign:Have l.prog w K mg base "is_sign" 1 ["sign"] (zdx):=⟨_,_,(zhX F1 m_ord m_PERCENT:FnOk l.prog w K mg base CX0 (0 + 1) _ _ _ _),b1,k1,n1⟩
 have h_size_alone:Have l.prog w K mg base "size_alone" 1 ["worth"] (zfk):=⟨_,_,(zjh F3 m_isinstance m_str m_len:FnOk l.prog w K mg base CX0 (0 + 1) _ _ _ _),b3,k3,n3⟩
 have h_is_variable:Have l.prog w K mg base "is_variable" 1 ["thing"] (zdK):=⟨_,_,(zc8 F5 m_all m_isinstance m_len m_str m_MOST_LETTERS m_LETTERS:FnOk l.prog w K mg base CX0 (0 + 1) _ _ _ _),b5,k5,n5⟩
 have h_has_parts:Have l.prog w K mg base "has_parts" 1 ["word"] (zbZ):=⟨_,_,(zeQ F6 m_PARTS d_PARTS:FnOk l.prog w K mg base CX0 (0 + 1) _ _ _ _),b6,k6,n6⟩
 have h_binding_count:Have l.prog w K mg base "binding_count" 1 ["word"] (zbM):=⟨_,_,(zca F7 m_BINDING d_BINDING:FnOk l.prog w K mg base CX0 (0 + 1) _ _ _ _),b7,k7,n7⟩
 have h_is_word:Have l.prog w K mg base "is_word" 1 ["text"] (zcS):=⟨_,_,(zg7 F17 m_all m_len m_MOST_SIGNS_names m_SIGNS:FnOk l.prog w K mg base CX0 (0 + 1) _ _ _ _),b17,k17,n17⟩
 have h_House_has_thing:zfn l.prog w K mg base AHouse "has_thing" 1 ["self","name"] (zlb AHouse):=⟨_,_,(zbP F21 cl_House nf_House_sources nf_House_rules:FnOk l.prog w K mg base CX0 (0 + 1) _ _ _ _),b21,⟨a21,q21,k21⟩,cl_House⟩
 have h_lcell:Have l.prog w K mg base "_law_cell" 1 ["_law_script","_law_k"] (zhR K):=⟨_,_,(zkM F29 m_len:FnOk l.prog w K mg base CX0 (0 + 1) _ _ _ _),b29,k29,n29⟩
 have h_ltake:Have l.prog w K mg base "_law_take" 1 ["_law_box_here","_law_wide"] (Z9):=⟨_,_,(zkN F31:FnOk l.prog w K mg base CX0 (0 + 1) _ _ _ _),b31,k31,n31⟩
 have h_ldo:Have l.prog w K mg base "_law_do" 1 ["_law_parts","_law_deed_here"] (spDo):=⟨_,_,(zml F40 m_int m_len:FnOk l.prog w K mg base CX0 (0 + 1) _ _ _ _),b40,k40,n40⟩
 have h_lsorts:Have l.prog w K mg base "_law_sorts" 1 ["_law_e"] (zfO K AForgeError [ANoName,ANoWorth,ANoRule,ANoThing,zN,ANoStep,ANoRow]):=⟨_,_,(ziI F46 m_isinstance (mg_of X G aX_NoName) (mg_of X G aX_NoWorth) (mg_of X G aX_NoRule) (mg_of X G aX_NoThing) (mg_of X G aX_NoText) (mg_of X G aX_NoStep) (mg_of X G aX_NoRow):FnOk l.prog w K mg base CX0 (0 + 1) _ _ _ _),b46,k46,n46⟩
 have h_fits_alone:Have l.prog w K mg base "fits_alone" 2 ["thing","levels"] (zhV):=⟨_,_,(zkQ F2 (h_is_number.mono (by omega)) (h_is_sign.mono (by omega)) m_isinstance m_str m_tuple m_len m_all m_abs m_MOST_SIGNS_worths m_MOST_ITEMS:FnOk l.prog w K mg base CX0 (1 + 1) _ _ _ _),b2,k2,n2⟩
 have h_variables_of:Have l.prog w K mg base "variables_of" 2 ["expression"] (zcp):=⟨_,_,(zcN F8 (h_binding_count.mono (by omega)):FnOk l.prog w K mg base CX0 (1 + 1) _ _ _ _),b8,k8,n8⟩
 have h_parts_of:Have l.prog w K mg base "parts_of" 2 ["expression"] (zaa):=⟨_,_,(zfy F9 (h_binding_count.mono (by omega)) (h_has_parts.mono (by omega)) m_list:FnOk l.prog w K mg base CX0 (1 + 1) _ _ _ _),b9,k9,n9⟩
 have h_are_good_variables:Have l.prog w K mg base "are_good_variables" 2 ["names"] (zfB):=⟨_,_,(zaW F10 (h_is_variable.mono (by omega)) m_all m_len:FnOk l.prog w K mg base CX0 (1 + 1) _ _ _ _),b10,k10,n10⟩
 have h_is_name:Have l.prog w K mg base "is_name" 2 ["thing"] (zdN):=⟨_,_,(zg8 F18 (h_is_word.mono (by omega)) m_isinstance m_len m_str:FnOk l.prog w K mg base CX0 (1 + 1) _ _ _ _),b18,k18,n18⟩
 have h_House___init__:zfo l.prog w K mg base AHouse "House" 2 ["self"] (spHI AHouse):=⟨_,_,1,rfl,(zb4 F20 cl_House nf_House_sources nf_House_rules nf_House_opened nf_House_wishes:FnOk l.prog w K mg base CX0 (0 + 1) _ _ _ _),b20,⟨mk_House,a20,q20,kc_House⟩,mg_of X G aC_House⟩
 have h_lbox:Have l.prog w K mg base "_law_box" 2 ["_law_script","_law_k"] (zkL K):=⟨_,_,(zlW F30 (h_lcell.mono (by omega)):FnOk l.prog w K mg base CX0 (1 + 1) _ _ _ _),b30,k30,n30⟩
 have h_ltext:Have l.prog w K mg base "_law_text" 2 ["_law_box_here","_law_most"] (zhS):=⟨_,_,(zkO F32 (h_ltake.mono (by omega)) m_len m_range:FnOk l.prog w K mg base CX0 (1 + 1) _ _ _ _),b32,k32,n32⟩
 have h_lnumber:Have l.prog w K mg base "_law_number" 2 ["_law_box_here"] (za8):=⟨_,_,(zhU F33 (h_ltake.mono (by omega)):FnOk l.prog w K mg base CX0 (1 + 1) _ _ _ _),b33,k33,n33⟩
 have h_llikes:Have l.prog w K mg base "_law_likes" 2 ["_law_box_here","_law_total"] (zfF):=⟨_,_,(zis F36 (h_ltake.mono (by omega)) m_range:FnOk l.prog w K mg base CX0 (1 + 1) _ _ _ _),b36,k36,n36⟩
 have h_lno_name:Have l.prog w K mg base "_law_no_name" 2 ["_law_box_here","_law_name"] (zd1):=⟨_,_,(zfK F42 (h_ltake.mono (by omega)) m_len:FnOk l.prog w K mg base CX0 (1 + 1) _ _ _ _),b42,k42,n42⟩
 have h_lno_worth:Have l.prog w K mg base "_law_no_worth" 2 ["_law_box_here"] (zc0):=⟨_,_,(ze7 F43 (h_ltake.mono (by omega)) m_len m_range:FnOk l.prog w K mg base CX0 (1 + 1) _ _ _ _),b43,k43,n43⟩
 have h_is_worth:Have l.prog w K mg base "is_worth" 3 ["thing"] (zbE):=⟨_,_,(zgQ F4 (h_fits_alone.mono (by omega)) (h_size_alone.mono (by omega)) m_isinstance m_tuple m_len m_MOST_DEPTH m_MOST_SIZE:FnOk l.prog w K mg base CX0 (2 + 1) _ _ _ _),b4,k4,n4⟩
 have h_unbound:∀ n:Nat,Have l.prog w K mg base "unbound" (n + 3) ["expression","bound"] (zjB n):=fun n=>by
  induction n with
  | zero=>exact ⟨_,_,zfQ (fun vs H Q E h=>by obtain ⟨_,_,_,_,_,_,_,_,h0,_⟩:=h; omega) _,b13,k13,n13⟩
  | succ n ih=>exact ⟨_,_,zgZ F13 ih (h_variables_of.mono (by omega)) (h_parts_of.mono (by omega)) m_enumerate m_len,b13,k13,n13⟩
 have h_repeated:∀ n:Nat,Have l.prog w K mg base "repeated" (n + 3) ["expression"] (zjE n):=fun n=>by
  induction n with
  | zero=>exact ⟨_,_,zfQ (fun vs H Q E h=>by obtain ⟨_,_,_,_,_,h0,_⟩:=h; omega) _,b15,k15,n15⟩
  | succ n ih=>exact ⟨_,_,zfE F15 ih (h_parts_of.mono (by omega)) m_enumerate m_len m_max m_REPEATING t_REPEATING,b15,k15,n15⟩
 have h_ask_for_name:zaT l.prog w K mg base "ask_for_name" 3 ["name"] (zcT ANoName):=⟨_,_,(zcV F19 (h_is_name.mono (by omega)) eX_NoName (mg_of X G aX_NoName):FnOk l.prog w K mg base (CX1 l.prog w) (2 + 1) _ _ _ _),b19,k19,n19⟩
 have h_lworth:∀ n:Nat,Have l.prog w K mg base "_law_worth" (n + 3) ["_law_box_here","_law_room","_law_deep"] (zbV n):=fun n=>by
  induction n with
  | zero=>exact ⟨_,_,zfQ (fun vs H Q E h=>by obtain ⟨b,room,deep,_,_,_,_,h0,h1,_⟩:=h; omega) _,b34,k34,n34⟩
  | succ n ih=>exact ⟨_,_,zjd F34 (h_ltake.mono (by omega)) (h_ltext.mono (by omega)) (h_lnumber.mono (by omega)) ih m_min m_range m_tuple,b34,k34,n34⟩
 have h_lnames:Have l.prog w K mg base "_law_names" 3 ["_law_box_here","_law_most"] (zfG):=⟨_,_,(zit F37 (h_ltake.mono (by omega)) (h_llikes.mono (by omega)):FnOk l.prog w K mg base CX0 (2 + 1) _ _ _ _),b37,k37,n37⟩
 have h_lno_rule:Have l.prog w K mg base "_law_no_rule" 3 ["_law_box_here","_law_names_here"] (zd2):=⟨_,_,(zfN F44 (h_ltake.mono (by omega)) (h_lnumber.mono (by omega)) m_len:FnOk l.prog w K mg base CX0 (2 + 1) _ _ _ _),b44,k44,n44⟩
 have h_has_form:Have l.prog w K mg base "has_form" 4 ["thing"] (zcQ):=⟨_,_,(zfC F11 (h_are_good_variables.mono (by omega)) (h_variables_of.mono (by omega)) (h_binding_count.mono (by omega)) (h_is_variable.mono (by omega)) (h_is_worth.mono (by omega)) m_isinstance m_len m_str m_tuple m_MOST_LISTED m_PARTS d_PARTS:FnOk l.prog w K mg base CX0 (3 + 1) _ _ _ _),b11,k11,n11⟩
 have h_House_put:Ze l.prog w K mg base AHouse "put" 4 ["self","name","worth"] (zjI AHouse ANoName ANoWorth):=⟨_,_,(zeY F22 (h_is_worth.mono (by omega)) (h_ask_for_name.mono (by omega)) cl_House nf_House_sources nf_House_rules eX_NoWorth (mg_of X G aX_NoWorth):FnOk l.prog w K mg base (CX1 l.prog w) (3 + 1) _ _ _ _),b22,⟨a22,q22,k22⟩,cl_House⟩
 have h_House_drop:Ze l.prog w K mg base AHouse "drop" 4 ["self","name"] (zeZ AHouse ANoName ANoThing):=⟨_,_,(zdQ F24 (h_House_has_thing.mono (by omega)) (h_ask_for_name.mono (by omega)) cl_House nf_House_sources nf_House_rules eX_NoThing (mg_of X G aX_NoThing):FnOk l.prog w K mg base (CX1 l.prog w) (3 + 1) _ _ _ _),b24,⟨a24,q24,k24⟩,cl_House⟩
 have h_House_open_up:Ze l.prog w K mg base AHouse "open_up" 4 ["self","name"] (zgr AHouse ANoName):=⟨_,_,(zcd F25 (h_ask_for_name.mono (by omega)) cl_House nf_House_opened:FnOk l.prog w K mg base (CX1 l.prog w) (3 + 1) _ _ _ _),b25,⟨a25,q25,k25⟩,cl_House⟩
 have h_House_shut:Ze l.prog w K mg base AHouse "shut" 4 ["self","name"] (zgs AHouse ANoName):=⟨_,_,(zdS F26 (h_ask_for_name.mono (by omega)) cl_House nf_House_opened:FnOk l.prog w K mg base (CX1 l.prog w) (3 + 1) _ _ _ _),b26,⟨a26,q26,k26⟩,cl_House⟩
 have h_House_wish:Ze l.prog w K mg base AHouse "wish" 4 ["self","name"] (zgt AHouse ANoName):=⟨_,_,(zdU F27 (h_ask_for_name.mono (by omega)) cl_House nf_House_wishes:FnOk l.prog w K mg base (CX1 l.prog w) (3 + 1) _ _ _ _),b27,⟨a27,q27,k27⟩,cl_House⟩
 have h_House_let_go:Ze l.prog w K mg base AHouse "let_go" 4 ["self","name"] (zjL AHouse ANoName):=⟨_,_,(zcY F28 (h_ask_for_name.mono (by omega)) cl_House nf_House_wishes:FnOk l.prog w K mg base (CX1 l.prog w) (3 + 1) _ _ _ _),b28,⟨a28,q28,k28⟩,cl_House⟩
 have h_is_formed:Have l.prog w K mg base "is_formed" 5 ["thing"] (zdL):=⟨_,_,(zeT F12 (h_parts_of.mono (by omega)) (h_has_form.mono (by omega)) m_len m_MOST_MANY m_MOST_NESTING:FnOk l.prog w K mg base CX0 (4 + 1) _ _ _ _),b12,k12,n12⟩
 have h_lrule:Have l.prog w K mg base "_law_rule" 17 ["_law_box_here","_law_names_here"] (zdW):=⟨_,_,(zjP F35 (h_ltake.mono (by omega)) (h_lnumber.mono (by omega)) ((h_lworth 13).mono (by omega)) m_len:FnOk l.prog w K mg base CX0 (16 + 1) _ _ _ _),b35,k35,n35⟩
 have h_lfirst:Have l.prog w K mg base "_law_first" 18 ["_law_box_here","_law_names_here"] (zfH):=⟨_,_,(ziv F38 (h_ltake.mono (by omega)) (h_lrule.mono (by omega)) ((h_lworth 13).mono (by omega)) m_len m_range:FnOk l.prog w K mg base CX0 (17 + 1) _ _ _ _),b38,k38,n38⟩
 have h_ldeed:Have l.prog w K mg base "_law_deed" 18 ["_law_box_here","_law_names_here"] (ziu):=⟨_,_,(zjQ F39 (h_lrule.mono (by omega)) ((h_lworth 13).mono (by omega)) (h_ltake.mono (by omega)) m_len:FnOk l.prog w K mg base CX0 (17 + 1) _ _ _ _),b39,k39,n39⟩
 have h_free_in:Have l.prog w K mg base "free_in" 24 ["expression"] (zik):=⟨_,_,(zg1 F14 ((h_unbound 20).mono (by omega)) m_set m_sorted:FnOk l.prog w K mg base CX0 (23 + 1) _ _ _ _),b14,k14,n14⟩
 have h_is_rule:Have l.prog w K mg base "is_rule" 25 ["thing"] (zdM):=⟨_,_,(zg5 F16 ((h_repeated 20).mono (by omega)) (h_free_in.mono (by omega)) (h_is_formed.mono (by omega)) m_MOST_REPEATED:FnOk l.prog w K mg base CX0 (24 + 1) _ _ _ _),b16,k16,n16⟩
 have h_House_put_rule:Ze l.prog w K mg base AHouse "put_rule" 26 ["self","name","rule"] (zgp AHouse ANoName ANoRule):=⟨_,_,(zb2 F23 (h_is_rule.mono (by omega)) (h_ask_for_name.mono (by omega)) cl_House nf_House_sources nf_House_rules eX_NoRule (mg_of X G aX_NoRule):FnOk l.prog w K mg base (CX1 l.prog w) (25 + 1) _ _ _ _),b23,⟨a23,q23,k23⟩,cl_House⟩
 have h_lhand:Have l.prog w K mg base "_law_hand" 27 ["_law_house","_law_deed_here"] (zgu AHouse):=⟨_,_,(zjS F41 (h_House_put.mono (by omega)) (h_House_put_rule.mono (by omega)) (h_House_drop.mono (by omega)) (h_House_open_up.mono (by omega)) (h_House_shut.mono (by omega)) (h_House_wish.mono (by omega)) (h_House_let_go.mono (by omega)) cl_House nf_House_sources nf_House_rules:FnOk l.prog w K mg base CX0 (26 + 1) _ _ _ _),b41,k41,n41⟩
 have h_ldeed_done:zaT l.prog w K mg base "_law_deed_done" 27 ["_law_house","_law_deed_here"] (spDD AHouse ANoName ANoWorth ANoRule ANoThing):=⟨_,_,(zd4 F45 (h_House_put.mono (by omega)) (h_House_put_rule.mono (by omega)) (h_House_drop.mono (by omega)) (h_House_open_up.mono (by omega)) (h_House_shut.mono (by omega)) (h_House_wish.mono (by omega)) (h_House_let_go.mono (by omega)):FnOk l.prog w K mg base (CX1 l.prog w) (26 + 1) _ _ _ _),b45,k45,n45⟩
 have h_lrefused:Have l.prog w K mg base "_law_refused" 28 ["_law_house","_law_parts","_law_deed_here","_law_sort"] (zc1 AHouse):=⟨_,_,(zfP F47 (h_lsorts.mono (by omega)) (h_ldeed_done.mono (by omega)) m_ValueError m_isinstance m_range m_sorted cl_House nf_House_sources nf_House_rules nf_House_opened nf_House_wishes (mg_of X G aX_ForgeError) (zjX ⟨ix1_0,ix2_0,ix3_0,ix4,ix5,ix6_0,ix7_0⟩ xm_0 kv_0 kk_0_0 kk_0_1 kk_0_2 kk_0_3 kk_0_4 kk_0_5 kk_0_6) (zjX ⟨ix1_1,ix2_1,ix3_1,ix4,ix5,ix6_1,ix7_1⟩ xm_1 kv_1 kk_1_0 kk_1_1 kk_1_2 kk_1_3 kk_1_4 kk_1_5 kk_1_6) (zjX ⟨ix1_2,ix2_2,ix3_2,ix4,ix5,ix6_2,ix7_2⟩ xm_2 kv_2 kk_2_0 kk_2_1 kk_2_2 kk_2_3 kk_2_4 kk_2_5 kk_2_6) (zjX ⟨ix1_3,ix2_3,ix3_3,ix4,ix5,ix6_3,ix7_3⟩ xm_3 kv_3 kk_3_0 kk_3_1 kk_3_2 kk_3_3 kk_3_4 kk_3_5 kk_3_6):FnOk l.prog w K mg base CX0 (27 + 1) _ _ _ _),b47,k47,n47⟩
 exact (zmz F48 (h_lrefused.mono (by omega)) (h_House_drop.mono (by omega)) (h_ldo.mono (by omega)) (h_lhand.mono (by omega)) (h_lno_rule.mono (by omega)) (h_lno_worth.mono (by omega)) (h_lno_name.mono (by omega)) (h_ltake.mono (by omega)) (h_lbox.mono (by omega)) (h_ldeed.mono (by omega)) (h_lfirst.mono (by omega)) (h_House___init__.mono (by omega)) (h_lnames.mono (by omega)) m_len m_min m_range cl_House:FnOk l.prog w K mg base CX0 (99 + 1) _ _ _ _)
theorem zjY {l:PySem.W.OpenLaw}{q:Program}{loose:List Str}{XP:(Str->Option Value)->Heap->Prop}{YP:World->Heap->Prop}{d:DefRec}{K:Params->PySem.W.Frag} (hn:l.most = some 63) (hdf:d.params.defaults = [])
  (hY:∀ (w:World) (h:Heap),YP w h->(K w.params).In h)
  (F:∀ (w:World) (mg:Str->Option Value) (fa:Addr) (h:Heap),(K w.params).In h->h.Ns mainGlobals mg->mg d.name = some (.ref fa)->
   ∃ fd:FuncData,(∀ (s:Shared) (u:Value),BindsTo s fd ⟨[u],[]⟩ [("_law_script",u)])/\∀ base:Heap,(K w.params).In base->base.Ns mainGlobals mg->FnOk l.prog w (K w.params) mg base CX0 100 fa fd ["_law_script"] (zjU (K w.params))):
  PySem.W.WalkO q loose XP YP l.row.toRowW d [] (fun f vs=>PySem.call f vs):=
 L2.zkG (n:=63) (k:=100) (x:="_law_script") (CX:=fun _=>CX0) (sp:=fun w=>zjU (K w.params)) hn (by decide) hdf ⟨rfl,by decide,by decide⟩ hY F (fun _ _ a ns hl _ hS=>⟨a,ns,rfl,hS,hl,fun _=>rfl⟩) fun _ _ _ _ _ z=>z
end D
open PySem PySem.W PyProof.Rows
set_option maxRecDepth 100000 in
set_option maxHeartbeats 0 in
theorem PySem.Challenge.cw_leastforge_k24_hands_refused_holds : PySem.Challenge.rw_leastforge_k24_hands_refused.Holds := by
 w_on; o_law; k_head; (case hw=>w_witness2)
 k_fill
 refine D.zjY (l:=PySem.Challenge.rw_leastforge_k24_hands_refused) rfl rfl (fun w h Y=>PySem.W.kIn_of Y) ?F
 case F=>
  intro w mg fa h KX G hmg
  refine' D.zmA KX G hmg ?_ ?_ ?_ ?_ ?_ ?_ ?_ ?_ ?_ ?_ ?_ ?_ ?_ ?_ ?_ ?_ ?_ ?_ ?_ ?_ ?_ ?_ ?_ ?_ ?_ ?_ ?_ ?_ ?_ ?_ ?_ ?_ ?_ ?_ ?_ ?_ ?_ ?_ ?_ ?_ ?_ ?_ ?_ ?_ ?_ ?_ ?_ ?_ ?_ ?_ ?_ ?_ ?_ ?_ ?_ ?_ ?_ ?_ ?_ ?_ ?_ ?_ ?_ ?_ ?_ ?_ ?_ ?_ ?_ ?_ ?_ ?_ ?_ ?_ ?_ ?_ ?_ ?_ ?_ ?_ ?_ ?_ ?_ ?_ ?_ ?_ ?_ ?_ ?_ ?_ ?_ ?_ ?_ ?_ ?_ ?_ ?_ ?_ ?_ ?_ ?_ ?_ ?_ ?_ ?_ ?_ ?_ ?_ ?_ ?_ ?_ ?_ ?_ ?_ ?_ ?_ ?_ ?_ ?_ ?_ ?_ ?_ ?_ ?_ ?_ ?_ ?_ ?_ ?_ ?_ ?_ ?_ ?_ ?_ ?_ ?_ ?_ ?_ ?_ ?_ ?_ ?_ ?_ ?_ ?_ ?_ ?_ ?_ ?_ ?_ ?_ ?_ ?_ ?_ ?_ ?_ ?_ ?_ ?_ ?_ ?_ ?_ ?_ ?_ ?_ ?_ ?_ ?_ ?_ ?_ ?_ ?_ ?_ ?_ ?_ ?_ ?_ ?_ ?_ ?_ ?_ ?_ ?_ ?_ ?_ ?_ ?_ ?_ ?_ ?_ ?_ ?_ ?_ ?_ ?_ ?_ ?_ ?_ ?_ ?_ ?_ ?_ ?_ ?_ ?_ ?_ ?_ ?_ ?_ ?_ ?_ ?_ ?_ ?_ ?_ ?_ ?_ ?_ ?_ ?_ ?_ ?_ ?_ ?_ ?_ ?_ ?_ ?_ ?_ ?_ ?_ ?_ ?_ ?_ ?_ ?_ ?_ ?_ ?_ ?_ ?_ ?_ ?_ ?_ ?_ ?_ ?_ ?_ ?_ ?_ ?_ ?_ ?_ ?_ ?_ ?_ ?_ ?_ ?_ ?_ ?_ ?_ ?_ ?_ ?_ ?_ ?_ ?_ ?_ ?_ ?_ ?_ ?_ ?_ ?_ ?_ ?_ ?_ ?_ ?_ ?_ ?_ ?_ ?_ ?_ ?_ ?_ ?_ ?_ ?_ ?_ ?_ ?_ ?_ ?_ ?_ ?_ ?_ ?_ ?_ ?_ ?_ ?_ ?_ ?_ ?_ ?_ ?_ ?_ ?_ ?_ ?_ ?_ ?_ ?_ ?_ ?_ ?_ ?_ ?_ ?_ ?_ ?_ ?_
  all_goals try ((try unfold D.nI); (try unfold D.lI); (try unfold D.cI); (try unfold D.kI); first | k_is | k_exc | rfl)
