import PyProof.Rows.All
import Wide.All
import OpenK.AllK
import Wide.FinOn
import Lean
import PyProof.EqAt
import PyProof.EqKinds
import PyProof.TupleCall
import PyProof.NeKinds
import PySem.Challenge.RW_leastforge_k15_looks_in_order
set_option Elab.async false
set_option linter.all false
set_option maxRecDepth 100000
namespace L2
open PySem PySem.Spec PyProof.Rows
abbrev Key:=Sum Int Str
def keyIs:Key→Value→Bool
  | .inl k,v=>Value.isInt k v
  | .inr x,v=>Value.isStrOf x v
def keyH (w:World):Key→Int
  | .inl k=>hashInt k
  | .inr x=>hashStr w x
theorem keyIs_shape:∀ {k:Key}{v:Value},keyIs k v = true→(∃ i t,k = Sum.inl i∧v = Value.int i t)∨(∃ x t,k = Sum.inr x∧v = Value.str x t)
  | .inl i,v,h=>by
    obtain ⟨t,e⟩:=Value.isInt_shape (k:=i) (v:=v) h
    exact .inl ⟨i,t,rfl,e⟩
  | .inr x,v,h=>by
    obtain ⟨t,e⟩:=Value.isStrOf_shape (x:=x) (v:=v) h
    exact .inr ⟨x,t,rfl,e⟩
theorem keyIs_int (i:Int) (t:Tok):keyIs (.inl i) (.int i t) = true:=by simp [keyIs,Value.isInt]
theorem keyIs_str (x:Str) (t:Tok):keyIs (.inr x) (.str x t) = true:=by simp [keyIs,Value.isStrOf]
theorem key_ll (a b:Int):decide ((Sum.inl a:Key) = Sum.inl b) = (a == b):=by
  by_cases e:a = b
  · subst e; simp
  · have h:¬ (Sum.inl a:Key) = Sum.inl b:=fun q=>e (Sum.inl.inj q)
    rw [decide_eq_false h]
    exact (beq_eq_false_iff_ne.mpr e).symm
theorem key_rr (a b:Str):decide ((Sum.inr a:Key) = Sum.inr b) = decide (a = b):=by
  by_cases e:a = b
  · subst e; simp
  · have h:¬ (Sum.inr a:Key) = Sum.inr b:=fun q=>e (Sum.inr.inj q)
    rw [decide_eq_false h,decide_eq_false e]
theorem key_lr (a:Int) (b:Str):decide ((Sum.inl a:Key) = Sum.inr b) = false:=decide_eq_false (fun q=>nomatch q)
theorem key_rl (a:Str) (b:Int):decide ((Sum.inr a:Key) = Sum.inl b) = false:=decide_eq_false (fun q=>nomatch q)
def mixKind (prog:Program) (w:World):PySem.KeyKind prog w Key where
  is:=keyIs
  hash:=keyH w
  inj:=fun v a b ha hb=>by
    rcases keyIs_shape ha with ⟨i,t,rfl,rfl⟩ | ⟨x,t,rfl,rfl⟩
    · rcases keyIs_shape hb with ⟨j,u,rfl,e⟩ | ⟨y,u,rfl,e⟩
      · injection e with e1 _; rw [e1]
      · exact nomatch e
    · rcases keyIs_shape hb with ⟨j,u,rfl,e⟩ | ⟨y,u,rfl,e⟩
      · exact nomatch e
      · injection e with e1 _; rw [e1]
  byValue:=fun k v h=>by
    rcases keyIs_shape h with ⟨i,t,rfl,rfl⟩ | ⟨x,t,rfl,rfl⟩ <;> rfl
  pyHash:=fun hv h=>by
    rcases keyIs_shape hv with ⟨i,t,rfl,rfl⟩ | ⟨x,t,rfl,rfl⟩
    · exact wpAny_pyHash_int h
    · exact wpAny_pyHash_str h
  eqBool:=fun hu hv h=>by
    rcases keyIs_shape hu with ⟨i,t,rfl,rfl⟩ | ⟨x,t,rfl,rfl⟩
    · rcases keyIs_shape hv with ⟨j,u,rfl,rfl⟩ | ⟨y,u,rfl,rfl⟩
      · rw [key_ll] at h; exact wpAny_eqBool_int h
      · rw [key_lr] at h; exact SeqAt.EqAt.int_str i t y u _ _ _ _ h
    · rcases keyIs_shape hv with ⟨j,u,rfl,rfl⟩ | ⟨y,u,rfl,rfl⟩
      · rw [key_rl] at h; exact SeqAt.EqAt.str_int x t j u _ _ _ _ h
      · rw [key_rr] at h; exact wpAny_eqBool_str h
  «strs»:=fun k x t v h=>by
    rcases keyIs_shape h with ⟨i,u,rfl,e⟩ | ⟨y,u,rfl,e⟩
    · exact nomatch e
    · injection e with e1 _
      subst e1
      cases v <;> rfl
theorem mixKind_int (prog:Program) (w:World) (i:Int) (t:Tok):(mixKind prog w).is (.inl i) (.int i t) = true:=keyIs_int i t
theorem mixKind_str (prog:Program) (w:World) (x:Str) (t:Tok):(mixKind prog w).is (.inr x) (.str x t) = true:=keyIs_str x t
end L2
namespace L2
open PySem PySem.Spec PyProof.Rows
inductive V where
  | non | bl (b:Bool) | int (i:Int) | str (x:Str) | byt (b:Array UInt8) | flt (b:UInt64) | ref (a:Addr) | ty (n:String)
  deriving DecidableEq
def RelV:V→Value→Prop
  | .non,u=>u = Value.none
  | .bl b,u=>u = Value.bool b
  | .int i,u=>∃ t,u = Value.int i t
  | .str x,u=>∃ t,u = Value.str x t
  | .byt b,u=>∃ t,u = Value.bytes b t
  | .flt b,u=>∃ t,u = Value.float b t
  | .ref a,u=>u = Value.ref a
  | .ty n,u=>u = Value.type n
abbrev Vals:List V→List Value→Prop:=Paired RelV
theorem Vals.length {xs:List V}{us:List Value} (r:Vals xs us):xs.length = us.length:=Paired.length r
theorem Vals.get:∀ {xs:List V}{us:List Value}{i:Nat}{x:V},Vals xs us→xs[i]? = some x→∃ u,us[i]? = some u∧RelV x u
  | _,_,_,_,.nil,e=>by simp at e
  | _,_,0,_,.cons r _,e=>by simp at e; subst e; exact ⟨_,rfl,r⟩
  | _,_,i + 1,x,.cons _ t,e=>by
    obtain ⟨u,h1,h2⟩:=Vals.get (i:=i) (x:=x) t (by simpa using e)
    exact ⟨u,by simpa using h1,h2⟩
theorem Vals.set {x:V}{u:Value} (r:RelV x u):∀ {xs:List V}{us:List Value} (i:Nat),Vals xs us→Vals (xs.set i x) (us.set i u)
  | _,_,_,.nil=>.nil
  | _,_,0,.cons _ t=>.cons r t
  | _,_,i + 1,.cons q t=>.cons q (Vals.set r i t)
theorem Vals.append:∀ {xs ys:List V}{us ws:List Value},Vals xs us→Vals ys ws→Vals (xs ++ ys) (us ++ ws)
  | _,_,_,_,.nil,s=>s
  | _,_,_,_,.cons r t,s=>.cons r (Vals.append t s)
theorem Vals.take:∀ {xs:List V}{us:List Value} (n:Nat),Vals xs us→Vals (xs.take n) (us.take n)
  | _,_,0,_=>.nil
  | _,_,_ + 1,.nil=>.nil
  | _,_,n + 1,.cons r t=>.cons r (Vals.take n t)
theorem Vals.drop:∀ {xs:List V}{us:List Value} (n:Nat),Vals xs us→Vals (xs.drop n) (us.drop n)
  | _,_,0,r=>r
  | _,_,_ + 1,.nil=>.nil
  | _,_,n + 1,.cons _ t=>Vals.drop n t
theorem Vals.none_of:∀ {xs:List V}{us:List Value}{i:Nat},Vals xs us→xs[i]? = none→us[i]? = none:=fun {xs us i} r e=>by
  have h1:=r.length
  have h2:xs.length≤i:=List.getElem?_eq_none_iff.mp e
  exact List.getElem?_eq_none_iff.mpr (by omega)
def RelO:Option V→Option Value→Prop
  | some v,some u=>RelV v u
  | none,none=>True
  | _,_=>False
def KV {κ:Type}:List (κ × V)→List (κ × Value)→Prop:=Paired fun (p:κ × V) (q:κ × Value)=>p.1 = q.1∧RelV p.2 q.2
def kV:Key→V
  | .inl i=>.int i
  | .inr x=>.str x
inductive HO where
  | lst (xs:List V)
  | tup (xs:List V)
  | dK (kvs:List (Key × V)) | dT (kvs:List (List Key × V))
  | set (S:Int→Bool) (n:Nat)
  | ins (C dx:Addr) (fs:List (Str × V))
  | own (x:Addr)
  | xd (fs:List (Str × V))
  | met (f x:Addr)
  | rng (lo hi:Int)
  | frz (o:Obj) (u:HO)
  | tbl (ps:Array Value)
  | ext (φ:Heap→Prop)
abbrev Hp:=Addr→Option HO
def upd (H:Hp) (a:Addr) (o:HO):Hp:=fun b=>if b = a then some o else H b
theorem upd_same {H:Hp}{a:Addr}{o:HO}:upd H a o a = some o:=by unfold upd; rw [if_pos rfl]
theorem upd_ne {H:Hp}{a b:Addr}{o:HO} (h:b≠a):upd H a o b = H b:=by unfold upd; rw [if_neg h]
theorem ne_of {H:Hp}{a b:Addr}{o u:HO} (h:H a = some o) (h':H b = some u) (d:o≠u):a≠b:=by
  intro e; subst e; rw [h] at h'; exact d (Option.some.inj h')
theorem ne_of_none {H:Hp}{a b:Addr}{o:HO} (h:H a = some o) (h':H b = none):a≠b:=by
  intro e; subst e; rw [h] at h'; cases h'
section
variable (P:Program) (w:World)
def ObjOk (H:Hp) (h:Heap) (a:Addr):HO→Prop
  | .lst xs=>xs.length≤sizeLine∧∃ (its:List Value) (n:Nat),Vals xs its∧h.get? a = some { cls:=.type "list",data:=.seq its.toArray n }
  | .tup xs=>xs.length≤sizeLine∧∃ its:List Value,Vals xs its∧IsTup h a its.toArray
  | .dK kvs=>kvs.length≤sizeLine∧(a == sysModules) = false∧∃ vs,KV kvs vs∧h.DictOf (mixKind P w) a vs
  | .dT kvs=>kvs.length≤sizeLine∧(a == sysModules) = false∧∃ xs:List (List Key × Addr × Value),
      Paired (fun (p:List Key × V) (q:List Key × Addr × Value)=>p.1 = q.1∧H q.2.1 = some (.tup (p.1.map kV))∧RelV p.2 q.2.2) kvs xs ∧
      ∃ o es ep,h.get? a = some o∧o.ExactDict∧o.data = .dict es ep∧es.toList = xs.map (entryOfKey (tupleKind (mixKind P w)))∧(xs.map (·.1)).Nodup
  | .set S n=>h.SetOf (intKind P w) a S n
  | .ins C dx fs=>H dx = some (.own a)∧fs.length≤1000∧dx≠a∧h.get? a = some (PySem.W.instObj C dx) ∧
      ∃ mA,h.Ns1 dx mA∧(∀ f,RelO (fs.lookup f) (mA f))∧PySem.Within mA (fs.map (·.1))
  | .own _=>∃ o,h.get? a = some o
  | .xd fs=>∃ mA,h.Ns1 a mA∧∀ f,RelO (fs.lookup f) (mA f)
  | .rng lo hi=>∃ t u v,h.get? a = some { cls:=.type "range",data:=.fields #[.int lo t,.int hi u,.int 1 v] }
  | .frz o u=>h.get? a = some o∧ObjOk H h a u
  | .tbl ps=>h.get? a = some { cls:=.none,data:=.fields ps }
  | .met f x=>h.get? a = some (PySem.W.methodObj (.ref f) (.ref x))
  | .ext φ=>φ h∧(∃ o,h.get? a = some o)∧∀ h1 h2:Heap,φ h1→(∀ o,h1.get? a = some o→h2.get? a = some o)→φ h2
def HOk (H:Hp) (h:Heap):Prop:=∀ a o,H a = some o→ObjOk P w H h a o
end
section
variable {P:Program}{w:World}{H H':Hp}{h h':Heap}{a:Addr}{o:HO}
theorem ObjOk.lt (x:ObjOk P w H h a o):a < h.objs.size:=by
  cases o with
  | lst xs=>obtain ⟨_,_,_,_,e⟩:=x; exact Heap.lt_size e
  | tup xs=>obtain ⟨_,_,_,p⟩:=x; exact p.lt
  | dK kvs=>obtain ⟨_,_,_,_,o,_,_,e,_⟩:=x; exact Heap.lt_size e
  | dT kvs=>obtain ⟨_,_,_,_,o,_,_,e,_⟩:=x; exact Heap.lt_size e
  | set S n=>obtain ⟨o,_,_,_,e,_⟩:=x; exact Heap.lt_size e
  | ins C dx fs=>obtain ⟨_,_,_,e,_⟩:=x; exact Heap.lt_size e
  | own y=>obtain ⟨_,e⟩:=x; exact Heap.lt_size e
  | xd fs=>obtain ⟨_,⟨_,_,_,e,_⟩,_⟩:=x; exact Heap.lt_size e
  | rng lo hi=>obtain ⟨_,_,_,e⟩:=x; exact Heap.lt_size e
  | frz ob u=>obtain ⟨e,_⟩:=x; exact Heap.lt_size e
  | tbl ps=>exact Heap.lt_size (show h.get? a = some _ from x)
  | met f y=>exact Heap.lt_size (show h.get? a = some _ from x)
  | ext φ=>obtain ⟨_,⟨_,e⟩,_⟩:=x; exact Heap.lt_size e
theorem Paired.mapP {α β:Type}{F G:α→β→Prop}:∀ {l₁:List α}{l₂:List β},Paired F l₁ l₂→(∀ a b,F a b→G a b)→Paired G l₁ l₂
  | _,_,.nil,_=>.nil
  | _,_,.cons r t,f=>.cons (f _ _ r) (Paired.mapP t f)
theorem ObjOk.stay (x:ObjOk P w H h a o) (k:∀ b u,(b = a∨H b = some (.own a))→h.get? b = some u→h'.get? b = some u)
    (ho:∀ b,H b = some (.own a)→H' b = some (.own a)) (ht:∀ b xs,H b = some (.tup xs)→H' b = some (.tup xs)):ObjOk P w H' h' a o:=by
  induction o with
  | lst xs=>obtain ⟨z,its,n,r,e⟩:=x; exact ⟨z,its,n,r,k _ _ (.inl rfl) e⟩
  | tup xs=>obtain ⟨z,its,r,ob,e,c⟩:=x; exact ⟨z,its,r,ob,k _ _ (.inl rfl) e,c⟩
  | dK kvs=>obtain ⟨z,y,vs,r,ob,es,ep,e,c⟩:=x; exact ⟨z,y,vs,r,ob,es,ep,k _ _ (.inl rfl) e,c⟩
  | dT kvs=>
    obtain ⟨z,y,xs,r,ob,es,ep,e,c⟩:=x
    exact ⟨z,y,xs,Paired.mapP r fun p q z=>⟨z.1,ht _ _ z.2.1,z.2.2⟩,ob,es,ep,k _ _ (.inl rfl) e,c⟩
  | set S n=>obtain ⟨ob,es,ep,t,e,c⟩:=x; exact ⟨ob,es,ep,t,k _ _ (.inl rfl) e,c⟩
  | ins C dx fs=>
    obtain ⟨d,z,ne,e,mA,⟨od,es,ep,e2,c⟩,r⟩:=x
    exact ⟨ho _ d,z,ne,k _ _ (.inl rfl) e,mA,⟨od,es,ep,k _ _ (.inr d) e2,c⟩,r⟩
  | own y=>obtain ⟨ob,e⟩:=x; exact ⟨ob,k _ _ (.inl rfl) e⟩
  | xd fs=>obtain ⟨mA,⟨od,es,ep,e,c⟩,r⟩:=x; exact ⟨mA,⟨od,es,ep,k _ _ (.inl rfl) e,c⟩,r⟩
  | rng lo hi=>obtain ⟨t,u,v,e⟩:=x; exact ⟨t,u,v,k _ _ (.inl rfl) e⟩
  | frz ob u ih=>obtain ⟨e,q⟩:=x; exact ⟨k _ _ (.inl rfl) e,ih q⟩
  | tbl ps=>
    have e:h.get? a = some { cls:=.none,data:=.fields ps }:=x
    show h'.get? a = some { cls:=.none,data:=.fields ps }
    exact k a _ (.inl rfl) e
  | met f y=>
    have e:h.get? a = some (PySem.W.methodObj (.ref f) (.ref y)):=x
    show h'.get? a = some (PySem.W.methodObj (.ref f) (.ref y))
    exact k a _ (.inl rfl) e
  | ext φ=>obtain ⟨p,⟨o,e⟩,st⟩:=x; exact ⟨st _ _ p fun o q=>k _ _ (.inl rfl) q,⟨o,k _ _ (.inl rfl) e⟩,st⟩
theorem HOk.lt (x:HOk P w H h) (e:H a = some o):a < h.objs.size:=(x a o e).lt
theorem HOk.fresh (x:HOk P w H h) (e:h.objs.size≤a):H a = none:=by
  cases q:H a with
  | none=>rfl
  | some u=>exact absurd (Nat.lt_of_lt_of_le (x.lt q) e) (Nat.lt_irrefl _)
theorem HOk.kept (x:HOk P w H h) (k:∀ b u,h.get? b = some u→h'.get? b = some u):HOk P w H h':=fun a o e=>
  (x a o e).stay (fun b u _ q=>k b u q) (fun _ q=>q) fun _ _ q=>q
theorem HOk.laid (x:HOk P w H h) (k:∀ b u,h.get? b = some u→h'.get? b = some u) (hp:h.objs.size≤a) (new:ObjOk P w (upd H a o) h' a o):HOk P w (upd H a o) h':=fun b u e=>by
  have hn:=x.fresh hp
  by_cases hb:b = a
  · subst hb; rw [upd_same] at e; cases e; exact new
  · rw [upd_ne hb] at e
    exact (x b u e).stay (fun c v _ q=>k c v q) (fun c q=>by rw [upd_ne (ne_of_none q hn)]; exact q) fun c xs q=>by rw [upd_ne (ne_of_none q hn)]; exact q
end
def Rd (H:Hp) (a:Addr) (u:HO):Prop:=H a = some u∨∃ o,H a = some (.frz o u)
theorem Rd.of {H:Hp}{a:Addr}{u:HO} (h:H a = some u):Rd H a u:=.inl h
theorem Rd.ok {P:Program}{w:World}{H:Hp}{h:Heap}{a:Addr}{u:HO} (r:Rd H a u) (x:HOk P w H h):ObjOk P w H h a u:=by
  rcases r with r | ⟨o,r⟩
  · exact x a u r
  · obtain ⟨_,q⟩:=x a _ r
    exact q
def Mut:Option HO→Prop
  | some (.lst _)=>True
  | some (.dK _)=>True
  | some (.dT _)=>True
  | some (.set _ _)=>True
  | some (.ins _ _ _)=>True
  | some (.ext _)=>True
  | _=>False
section
variable {P:Program}{w:World}{H:Hp}{h h':Heap}{x e:Addr}{o':HO}
theorem HOk.write (ok:HOk P w H h) (mu:Mut (H x)) (he:e = x∨H e = some (.own x)) (k:∀ b u,b≠e→h.get? b = some u→h'.get? b = some u) (heo:∃ u,h'.get? e = some u)
    (new:ObjOk P w (upd H x o') h' x o'):HOk P w (upd H x o') h':=fun b u q=>by
  have nown:∀ c y,H c = some (.own y)→c≠x:=fun c y r z=>by subst z; rw [r] at mu; exact mu
  have ntup:∀ c xs,H c = some (.tup xs)→c≠x:=fun c xs r z=>by subst z; rw [r] at mu; exact mu
  by_cases hb:b = x
  · subst hb; rw [upd_same] at q; cases q; exact new
  · rw [upd_ne hb] at q
    by_cases hbe:b = e
    · have q':H b = some (.own x):=by
        rcases he with z | z
        · exact absurd (hbe.trans z) hb
        · rw [hbe]; exact z
      rw [q] at q'; cases q'
      obtain ⟨v,hv⟩:=heo
      exact ⟨v,by rw [hbe]; exact hv⟩
    · refine (ok b u q).stay (fun c v hc r=>k c v ?_ r) (fun c r=>by rw [upd_ne (nown c b r)]; exact r) fun c xs r=>by rw [upd_ne (ntup c xs r)]; exact r
      rcases hc with rfl | hc
      · exact hbe
      · rintro rfl
        rcases he with z | z
        · exact nown c b hc z
        · rw [hc] at z; cases z; exact hb rfl
end
structure Un (fs ex:List Addr) (H H':Hp) (h h':Heap):Prop where
  keep:∀ b o,h.get? b = some o→H b = none→b ∉ fs→b ∉ ex→h'.get? b = some o
  slot:∀ b o,h.get? b = some o→H b = none→b∈fs→b ∉ ex→∃ sl,h'.get? b = some { o with slots:=sl }
  free:∀ b o,h.get? b = some o→H b = none→b ∉ ex→H' b = none
  there:∀ b o,h.get? b = some o→b ∉ ex→∃ o',h'.get? b = some o'
  tups:∀ b xs,H b = some (.tup xs)→H' b = some (.tup xs)
  frzs:∀ b o u,H b = some (.frz o u)→H' b = some (.frz o u)
  tbls:∀ b ps,H b = some (.tbl ps)→∃ more,H' b = some (.tbl (ps ++ more))
section
variable {fs fs' ex ex':List Addr}{H H1 H2:Hp}{h h1 h2 h':Heap}{a x e:Addr}{o:HO}
theorem Un.any (u:Un fs ex H H1 h h1) {b:Addr}{ob:Obj} (q:h.get? b = some ob) (n:H b = none) (hx:b ∉ ex):∃ sl,h1.get? b = some { ob with slots:=sl }:=by
  by_cases hb:b∈fs
  · exact u.slot b ob q n hb hx
  · exact ⟨ob.slots,u.keep b ob q n hb hx⟩
theorem Un.trans (a:Un fs ex H H1 h h1) (b:Un fs ex H1 H2 h1 h2):Un fs ex H H2 h h2 where
  keep:=fun c ob q n hc hx=>b.keep c ob (a.keep c ob q n hc hx) (a.free c ob q n hx) hc hx
  slot:=fun c ob q n hc hx=>by
    obtain ⟨sl,e1⟩:=a.slot c ob q n hc hx
    obtain ⟨sl',e2⟩:=b.slot c _ e1 (a.free c ob q n hx) hc hx
    exact ⟨sl',e2⟩
  free:=fun c ob q n hx=>by
    obtain ⟨o',e1⟩:=a.there c ob q hx
    exact b.free c o' e1 (a.free c ob q n hx) hx
  there:=fun c ob q hx=>by
    obtain ⟨o',e1⟩:=a.there c ob q hx
    exact b.there c o' e1 hx
  tups:=fun c xs q=>b.tups c xs (a.tups c xs q)
  frzs:=fun c ob xs q=>b.frzs c ob xs (a.frzs c ob xs q)
  tbls:=fun c ps q=>by
    obtain ⟨m1,e1⟩:=a.tbls c ps q
    obtain ⟨m2,e2⟩:=b.tbls c _ e1
    exact ⟨m1 ++ m2,by rw [e2,Array.append_assoc]⟩
theorem Un.kept (k:∀ b u,h.get? b = some u→h'.get? b = some u):Un fs ex H H h h':=
  ⟨fun b ob q _ _ _=>k b ob q,fun b ob q _ _ _=>⟨ob.slots,k b ob q⟩,fun _ _ _ n _=>n,fun b ob q _=>⟨ob,k b ob q⟩,fun _ _ q=>q,fun _ _ _ q=>q,fun _ ps q=>⟨#[],by rw [q]; simp⟩⟩
theorem Un.refl:Un fs ex H H h h:=Un.kept fun _ _ q=>q
theorem Un.laid (k:∀ b u,h.get? b = some u→h'.get? b = some u) (hp:h.objs.size≤a) (hn:H a = none):Un fs ex H (upd H a o) h h' where
  keep:=fun b u q _ _ _=>k b u q
  slot:=fun b u q _ _ _=>⟨u.slots,k b u q⟩
  free:=fun b u q n _=>by rw [upd_ne (Nat.ne_of_lt (Nat.lt_of_lt_of_le (Heap.lt_size q) hp))]; exact n
  there:=fun b u q _=>⟨u,k b u q⟩
  tups:=fun b xs q=>by rw [upd_ne (ne_of_none q hn)]; exact q
  frzs:=fun b u xs q=>by rw [upd_ne (ne_of_none q hn)]; exact q
  tbls:=fun b ps q=>⟨#[],by rw [upd_ne (ne_of_none q hn),q]; simp⟩
theorem Un.write (mu:Mut (H x)) (he:e = x∨H e = some (.own x)) (k:∀ b u,b≠e→h.get? b = some u→h'.get? b = some u) (heo:∃ u,h'.get? e = some u):Un fs ex H (upd H x o) h h':=by
  have hx:∀ b,H b = none→b≠x:=fun b n z=>by subst z; rw [n] at mu; exact mu
  have hb:∀ b,H b = none→b≠e:=fun b n z=>by
    subst z
    rcases he with r | r
    · exact hx b n r
    · rw [n] at r; cases r
  have hm:∀ b u,H b = some u→¬ Mut (some u)→b≠x:=fun b u q nm z=>by subst z; rw [q] at mu; exact nm mu
  refine ⟨fun b u q n _ _=>k b u (hb b n) q,fun b u q n _ _=>⟨u.slots,k b u (hb b n) q⟩,fun b u q n _=>by rw [upd_ne (hx b n)]; exact n,fun b u q _=>?_,
    fun b xs q=>by rw [upd_ne (hm b _ q fun z=>z)]; exact q,fun b u xs q=>by rw [upd_ne (hm b _ q fun z=>z)]; exact q,fun b ps q=>⟨#[],by rw [upd_ne (hm b _ q fun z=>z),q]; simp⟩⟩
  by_cases hbe:b = e
  · subst hbe; exact heo
  · exact ⟨u,k b u hbe q⟩
theorem Un.mono (u:Un fs ex H H1 h h1) (hs:∀ b∈fs,b∈fs') (hx:∀ b∈ex,b∈ex'):Un fs' ex' H H1 h h1:=
  ⟨fun b ob q n hb he=>u.keep b ob q n (fun z=>hb (hs b z)) fun z=>he (hx b z),fun _ _ q n _ he=>u.any q n fun z=>he (hx _ z),fun b ob q n he=>u.free b ob q n fun z=>he (hx b z),fun b ob q he=>u.there b ob q fun z=>he (hx b z),u.tups,u.frzs,u.tbls⟩
end
def trk (h:Heap) (H:Hp):List Addr:=(List.range h.objs.size).filter fun a=>(H a).isSome
def hidT (h:Heap) (H:Hp):Heap:=PySem.W.hideAll h (trk h H)
theorem hidT_size (h:Heap) (H:Hp):(hidT h H).objs.size = h.objs.size:=PySem.W.hideAll_size _ _
theorem hidT_get {h:Heap}{H:Hp}{b:Addr}{o:Obj} (e:h.get? b = some o) (n:H b = none):(hidT h H).get? b = some o:=
  PySem.W.hideAll_get _ e fun hm=>by
    have q:(H b).isSome = true:=(List.mem_filter.mp hm).2
    rw [n] at q; simp at q
theorem of_hidT {h:Heap}{H:Hp}{b:Addr}{o:Obj} (e:(hidT h H).get? b = some o):h.get? b = some o∧H b = none:=by
  have e':h.get? b = some o:=PySem.W.of_hideAll (trk h H) e
  refine ⟨e',?_⟩
  cases q:H b with
  | none=>rfl
  | some x=>
    have hm:b∈trk h H:=List.mem_filter.mpr ⟨List.mem_range.mpr (Heap.lt_size e'),by simp [q]⟩
    have z:(hidT h H).get? b = none:=PySem.W.hideAll_none (trk h H) hm
    rw [z] at e; cases e
def allNews (g h:Heap) (L:Addr):List (Addr × Obj):=(List.range h.objs.size).filterMap fun a=>if a = L∨(g.get? a).isSome = true then none else (h.get? a).map fun o=>(a,o)
def rest (g h:Heap) (L d:Addr):List (Addr × Obj):=(allNews g h L).filter fun p=>decide (p.1≠d)
end L2
namespace L2
open PySem PySem.Spec PyProof.Rows
structure Mod (K:PySem.W.Frag) (mg:Str→Option Value) (base:Heap):Prop where
  kin:K.In base
  glob:base.Ns mainGlobals mg
  blt:∃ mb,base.Ns builtinsNs mb∧∀ x:Str,x≠"__name__"→mb x = bootBuiltins x
  nolimit:base.NoLimit
structure Cx where
  prog:Program
  w:World
  K:PySem.W.Frag
  mg:Str→Option Value
  base:Heap
  A:Around
  N:List Str
  s₀:Shared
  H₀:Hp
  env:Env
  outer:List Env
  stack:List Env
  ex:List Addr
  fn:Str→Bool
  calm:Bool
  pn:List (Addr × Obj)
  xe:Value→Shared→Prop
def frs (l:List Env):List Addr:=l.filterMap (·.frame)
abbrev Cx.fs (X:Cx):List Addr:=frs X.outer
def Vis (sc:Scope) (x:Str):Prop:=sc.names.lookup x = some .local∨sc.names.lookup x = some .cell∨sc.names.lookup x = some .free
def Loc (sc:Scope) (x:Str):Prop:=sc.names.lookup x = some .local∨sc.names.lookup x = some .cell
def Look (env:Env) (h:Heap) (m:Str→Option Value) (x:Str) (u:Value):Prop:=
  (env.kindOf x = some .local∧m x = some u)∨((env.kindOf x = some .cell∨env.kindOf x = some .free)∧∃ c,env.cells.lookup x = some c∧h.IsCell c (some u))
structure Cx.Ok (X:Cx):Prop where
  mod:Mod X.K X.mg X.base
  kind:X.env.scope.kind = .function
  glob:X.env.globals = mainGlobals
  blt:X.env.builtins = builtinsNs
  above:X.s₀.heap.objs.size≤X.env.locals
  inj:∀ x y c,X.env.cells.lookup x = some c→X.env.cells.lookup y = some c→x = y
  has:∀ x,(X.env.kindOf x = some .cell∨X.env.kindOf x = some .free)→∃ c,X.env.cells.lookup x = some c
  cab:∀ x c,X.fn x = true→X.env.cells.lookup x = some c→X.s₀.heap.objs.size≤c
  hd:X.calm = true→X.A.handled = none
  frames:X.A.frames = some X.stack
  stk:X.stack = X.outer∨(X.stack = X.env :: X.outer∧X.env.frame = some X.env.locals)
  exf:∀ b∈X.ex,b≠X.env.locals∧∀ x c,X.env.cells.lookup x = some c→c≠b
  bs:∀ b o,X.base.get? b = some o→X.s₀.heap.get? b = some o∧X.H₀ b = none
  bsz:X.base.objs.size≤X.s₀.heap.objs.size
  noex:∀ b o,X.base.get? b = some o→b ∉ X.ex
  exfs:∀ b∈X.ex,b ∉ X.fs
  funs:X.s₀.heap.FunFrames X.base X.outer
  frf:∀ b∈X.fs,X.H₀ b = none
structure Inv (X:Cx) (pins:List (Addr × Obj)) (σ:List (Option V)) (H:Hp) (s:Shared):Prop where
  ok:X.Ok
  os:s.os = X.s₀.os
  bare:AllBare s.gens
  base:Un X.fs X.ex X.H₀ H X.s₀.heap s.heap
  loc:∃ m,s.heap.Ns X.env.locals m∧∀ (i:Nat) (x:Str) (v:V),X.N[i]? = some x→σ[i]? = some (some v)→Vis X.env.scope x→∃ u,RelV v u∧Look X.env s.heap m x u
  cell:∀ x c,X.env.cells.lookup x = some c→∃ v,s.heap.IsCell c v
  free:H X.env.locals = none
  freeC:∀ x c,X.env.cells.lookup x = some c→H c = none
  pin:∀ p∈X.pn ++ pins,s.heap.get? p.1 = some p.2∧H p.1 = none∧p.1≠X.env.locals∧p.1 ∉ X.fs∧∀ v,p.2.data≠.cell v
  hok:HOk X.prog X.w H s.heap
  len:σ.length = X.N.length
section
variable {X:Cx}{pins:List (Addr × Obj)}{σ:List (Option V)}{H H':Hp}{s:Shared}{h':Heap}
theorem Cx.Ok.nofr (ok:X.Ok) {b:Addr}{o:Obj} (e:X.base.get? b = some o):b ∉ X.fs:=fun hb=>by
  have:=(ok.funs.mem hb).1
  rw [e] at this; cases this
theorem Inv.bs (I:Inv X pins σ H s):∀ b o,X.base.get? b = some o→s.heap.get? b = some o∧H b = none:=fun b o e=>
  ⟨I.base.keep b o (I.ok.bs b o e).1 (I.ok.bs b o e).2 (I.ok.nofr e) (I.ok.noex b o e),I.base.free b o (I.ok.bs b o e).1 (I.ok.bs b o e).2 (I.ok.noex b o e)⟩
theorem Inv.bk (I:Inv X pins σ H s):∀ b o,X.base.get? b = some o→s.heap.get? b = some o:=fun b o e=>(I.bs b o e).1
theorem Inv.mod (I:Inv X pins σ H s):Mod X.K X.mg X.base:=I.ok.mod
theorem Inv.kIn (I:Inv X pins σ H s):X.K.In s.heap:=I.ok.mod.kin.keeps I.bk
theorem Inv.nolimit (I:Inv X pins σ H s):s.heap.NoLimit:=I.ok.mod.nolimit.keeps I.bk
theorem Inv.fr (I:Inv X pins σ H s):∃ m,Fr X.base X.env.locals s.heap m:=
  let ⟨m,hn,_⟩:=I.loc
  ⟨m,hn,I.bk,Nat.le_trans I.ok.bsz I.ok.above⟩
theorem Inv.lt (I:Inv X pins σ H s):X.env.locals < s.heap.objs.size:=let ⟨_,hn,_⟩:=I.loc; hn.lt
theorem Inv.sz (I:Inv X pins σ H s):X.s₀.heap.objs.size≤s.heap.objs.size:=Nat.le_trans I.ok.above (Nat.le_of_lt I.lt)
theorem Inv.nofs (I:Inv X pins σ H s) {a:Addr} (h:s.heap.objs.size≤a):a ∉ X.fs:=fun hb=>by
  obtain ⟨_,o,ho,_⟩:=I.ok.funs.mem hb
  exact absurd (Nat.lt_of_lt_of_le (Heap.lt_size ho) (Nat.le_trans I.sz h)) (Nat.lt_irrefl _)
theorem Inv.cne (I:Inv X pins σ H s):∀ x c,X.env.cells.lookup x = some c→c≠X.env.locals:=fun x c e z=>by
  obtain ⟨v,o,ho,hd⟩:=I.cell x c e
  obtain ⟨m,⟨o',es,ep,ho',hd',_⟩,_⟩:=I.loc
  rw [z,ho'] at ho; cases ho; rw [hd'] at hd; cases hd
theorem Inv.funs (I:Inv X pins σ H s):s.heap.FunFrames X.base X.outer:=by
  have all:∀ (l:List Env),(∀ b∈frs l,b∈X.fs)→X.s₀.heap.FunFrames X.base l→s.heap.FunFrames X.base l:=by
    intro l
    induction l with
    | nil=>intro _ _; trivial
    | cons env r ih=>
      intro hs hl
      obtain ⟨hk,⟨L,o,hf,hn,ho,hd⟩,hr⟩:=hl
      have hL:L∈X.fs:=hs L (by unfold frs; rw [List.filterMap_cons,hf]; exact List.mem_cons_self)
      obtain ⟨sl,e⟩:=I.base.slot L o ho (I.ok.frf L hL) hL fun z=>I.ok.exfs L z hL
      exact ⟨hk,⟨L,_,hf,hn,e,hd⟩,ih (fun b hb=>hs b (by unfold frs; rw [List.filterMap_cons,hf]; exact List.mem_cons_of_mem _ hb)) hr⟩
  exact all X.outer (fun _ hb=>hb) I.ok.funs
theorem Inv.stack (I:Inv X pins σ H s):s.heap.FunFrames X.base X.stack:=by
  rcases I.ok.stk with e | ⟨e,hf⟩
  · rw [e]; exact I.funs
  · rw [e]
    obtain ⟨m,hn,_⟩:=I.loc
    refine .cons (by rw [I.ok.kind]; decide) hf hn ?_ I.funs
    exact Heap.get?_none_of_le (Nat.le_trans I.ok.bsz I.ok.above)
theorem Inv.stkSub (I:Inv X pins σ H s):∀ b∈frs X.stack,b∈X.env.locals :: X.fs:=fun b hb=>by
  rcases I.ok.stk with e | ⟨e,hf⟩
  · rw [e] at hb; exact List.mem_cons_of_mem _ hb
  · rw [e] at hb
    unfold frs at hb
    rw [List.filterMap_cons,hf] at hb
    exact hb
theorem Inv.stkFree (I:Inv X pins σ H s):∀ b∈frs X.stack,H b = none:=fun b hb=>by
  rcases List.mem_cons.mp (I.stkSub b hb) with e | hb
  · rw [e]; exact I.free
  · obtain ⟨_,o,ho,_⟩:=I.ok.funs.mem hb
    exact I.base.free b o ho (I.ok.frf b hb) fun z=>I.ok.exfs b z hb
theorem Inv.step {g':Array GenState}{t':Nat}{d':Drawn}{ch:List Addr} (I:Inv X pins σ H s)
    (hch:∀ b∈ch,(b∈X.ex∨X.s₀.heap.objs.size≤b)∧b≠X.env.locals∧(∀ x c,X.env.cells.lookup x = some c→c≠b)∧∀ p∈X.pn ++ pins,p.1≠b)
    (keep:∀ b o,b≠X.env.locals→b ∉ X.fs→b ∉ ch→s.heap.get? b = some o→H b = none→h'.get? b = some o)
    (slot:∀ b o,b≠X.env.locals→b∈X.fs→b ∉ ch→s.heap.get? b = some o→H b = none→∃ sl,h'.get? b = some { o with slots:=sl }) (free:∀ b o,b ∉ ch→s.heap.get? b = some o→H b = none→H' b = none)
    (there:∀ b o,b ∉ ch→s.heap.get? b = some o→∃ o',h'.get? b = some o')
    (tups:∀ b xs,H b = some (.tup xs)→H' b = some (.tup xs)) (frzs:∀ b o u,H b = some (.frz o u)→H' b = some (.frz o u)) (tbls:∀ b ps,H b = some (.tbl ps)→∃ more,H' b = some (.tbl (ps ++ more)))
    (ns:∀ m,s.heap.Ns X.env.locals m→h'.Ns X.env.locals m) (hok:HOk X.prog X.w H' h') (hg:AllBare g'):
    Inv X pins σ H' { s with heap:=h',gens:=g',drawn:=d',toks:=t' }:=by
  have neL:∀ b o,X.s₀.heap.get? b = some o→b≠X.env.locals:=fun b o e=>Nat.ne_of_lt (Nat.lt_of_lt_of_le (Heap.lt_size e) I.ok.above)
  have neC:∀ b o,X.s₀.heap.get? b = some o→b ∉ X.ex→b ∉ ch:=fun b o e hx hb=>by
    rcases (hch b hb).1 with z | z
    · exact hx z
    · exact absurd (Nat.lt_of_lt_of_le (Heap.lt_size e) z) (Nat.lt_irrefl _)
  have cellK:∀ x c,X.env.cells.lookup x = some c→∀ v,s.heap.IsCell c v→h'.IsCell c v:=fun x c e v ⟨o,ho,hd⟩=>by
    have nch:c ∉ ch:=fun z=>(hch c z).2.2.1 x c e rfl
    by_cases hc:c∈X.fs
    · obtain ⟨sl,q⟩:=slot c o (I.cne x c e) hc nch ho (I.freeC x c e)
      exact ⟨_,q,hd⟩
    · exact ⟨o,keep c o (I.cne x c e) hc nch ho (I.freeC x c e),hd⟩
  refine ⟨I.ok,I.os,hg,⟨fun b o e n hb hx=>?_,fun b o e n hb hx=>?_,fun b o e n hx=>?_,fun b o e hx=>?_,fun b xs e=>tups b xs (I.base.tups b xs e),fun b o xs e=>frzs b o xs (I.base.frzs b o xs e),fun b ps e=>?_⟩,?_,fun x c e=>?_,?_,fun x c e=>?_,fun p hp=>?_,hok,I.len⟩
  · exact keep b o (neL b o e) hb (neC b o e hx) (I.base.keep b o e n hb hx) (I.base.free b o e n hx)
  · obtain ⟨sl,e1⟩:=I.base.slot b o e n hb hx
    obtain ⟨sl',e2⟩:=slot b _ (neL b o e) hb (neC b o e hx) e1 (I.base.free b o e n hx)
    exact ⟨sl',e2⟩
  · obtain ⟨o',e1⟩:=I.base.there b o e hx
    exact free b o' (neC b o e hx) e1 (I.base.free b o e n hx)
  · obtain ⟨o',e1⟩:=I.base.there b o e hx
    exact there b o' (neC b o e hx) e1
  · obtain ⟨m1,e1⟩:=I.base.tbls b ps e
    obtain ⟨m2,e2⟩:=tbls b _ e1
    exact ⟨m1 ++ m2,by rw [e2,Array.append_assoc]⟩
  · obtain ⟨m,hn,hl⟩:=I.loc
    refine ⟨m,ns m hn,fun i x v e1 e2 e3=>?_⟩
    obtain ⟨u,r,l⟩:=hl i x v e1 e2 e3
    refine ⟨u,r,?_⟩
    rcases l with l | ⟨k,c,e,z⟩
    · exact .inl l
    · exact .inr ⟨k,c,e,cellK x c e _ z⟩
  · obtain ⟨v,z⟩:=I.cell x c e
    exact ⟨v,cellK x c e v z⟩
  · obtain ⟨m,⟨o,_,_,ho,_⟩,_⟩:=I.loc
    exact free _ o (fun z=>(hch _ z).2.1 rfl) ho I.free
  · obtain ⟨v,o,ho,hd⟩:=I.cell x c e
    exact free c o (fun z=>(hch c z).2.2.1 x c e rfl) ho (I.freeC x c e)
  · obtain ⟨e,n,ne,nf,d⟩:=I.pin p hp
    have nch:p.1 ∉ ch:=fun z=>(hch p.1 z).2.2.2 p hp rfl
    exact ⟨keep p.1 p.2 ne nf nch e n,free p.1 p.2 nch e n,ne,nf,d⟩
theorem Inv.un {t':Nat} (I:Inv X pins σ H s) (u:Un X.fs [] H H' s.heap h') (hok:HOk X.prog X.w H' h'):Inv X pins σ H' { s with heap:=h',toks:=t' }:=by
  obtain ⟨m,⟨o,es,ep,ho,r⟩,_⟩:=id I.loc
  obtain ⟨sl,hL⟩:=u.any ho I.free (by simp)
  exact I.step (g':=s.gens) (d':=s.drawn) (ch:=[]) (fun _ z=>nomatch z) (fun b o _ hb _ e n=>u.keep b o e n hb (by simp)) (fun b o _ hb _ e n=>u.slot b o e n hb (by simp)) (fun b o _ e n=>u.free b o e n (by simp)) (fun b o _ e=>u.there b o e (by simp)) u.tups u.frzs u.tbls (fun m' hm=>by
    obtain ⟨o',es',ep',ho',r'⟩:=hm
    rw [ho] at ho'; cases ho'
    exact ⟨_,es',ep',hL,r'⟩) hok I.bare
theorem Inv.call {g':Array GenState}{t':Nat}{d':Drawn}{ch:List Addr} (I:Inv X pins σ H s) (u:Un (frs X.stack) ch H H' s.heap h') (hok:HOk X.prog X.w H' h') (hg:AllBare g')
    (hch:∀ b∈ch,(b∈X.ex∨X.s₀.heap.objs.size≤b)∧b≠X.env.locals∧(∀ x c,X.env.cells.lookup x = some c→c≠b)∧∀ p∈X.pn ++ pins,p.1≠b):
    Inv X pins σ H' { s with heap:=h',gens:=g',drawn:=d',toks:=t' }:=by
  obtain ⟨m,⟨o,es,ep,ho,r⟩,_⟩:=id I.loc
  obtain ⟨sl,hL⟩:=u.any ho I.free fun z=>(hch _ z).2.1 rfl
  exact I.step (ch:=ch) hch (fun b o hL hb hc e n=>u.keep b o e n (fun z=>(List.mem_cons.mp (I.stkSub b z)).elim hL hb) hc) (fun b o _ _ hc e n=>u.any e n hc) (fun b o hc e n=>u.free b o e n hc) (fun b o hc e=>u.there b o e hc) u.tups u.frzs u.tbls (fun m' hm=>by
    obtain ⟨o',es',ep',ho',r'⟩:=hm
    rw [ho] at ho'; cases ho'
    exact ⟨_,es',ep',hL,r'⟩) hok hg
theorem Inv.turned {t':Nat}{it:Addr} (I:Inv X pins σ H s) (k:∀ b o,b≠it→s.heap.get? b = some o→h'.get? b = some o) (hn:H it = none) (hL:it≠X.env.locals)
    (h1:it∈X.ex∨X.s₀.heap.objs.size≤it) (h2:∀ x c,X.env.cells.lookup x = some c→c≠it) (h3:∀ p∈X.pn ++ pins,p.1≠it):Inv X pins σ H { s with heap:=h',toks:=t' }:=by
  have nit:∀ b u,H b = some u→b≠it:=fun b u e z=>by rw [z,hn] at e; cases e
  refine I.step (g':=s.gens) (d':=s.drawn) (ch:=[it]) (fun b hb=>?_) (fun b o _ _ hc e _=>k b o (fun z=>hc (by simp [z])) e) (fun b o _ _ hc e _=>⟨o.slots,k b o (fun z=>hc (by simp [z])) e⟩) (fun _ _ _ _ n=>n)
    (fun b o hc e=>⟨o,k b o (fun z=>hc (by simp [z])) e⟩) (fun _ _ e=>e) (fun _ _ _ e=>e) (fun b ps e=>⟨#[],by rw [e]; simp⟩) (fun m hm=>?_) (fun b u e=>?_) I.bare
  · have e:b = it:=by simpa using hb
    subst e
    exact ⟨h1,hL,h2,h3⟩
  · obtain ⟨o,es,ep,ho,r⟩:=hm
    exact ⟨o,es,ep,k _ o (Ne.symm hL) ho,r⟩
  · refine (I.hok b u e).stay (fun c v hc q=>k c v ?_ q) (fun _ q=>q) fun _ _ q=>q
    rcases hc with z | z
    · rw [z]; exact nit b u e
    · exact nit c _ z
theorem Inv.tok (I:Inv X pins σ H s) (t:Nat):Inv X pins σ H { s with toks:=t }:=I.un (h':=s.heap) (t':=t) Un.refl I.hok
theorem Inv.kept {t':Nat} (I:Inv X pins σ H s) (k:∀ b u,s.heap.get? b = some u→h'.get? b = some u):Inv X pins σ H { s with heap:=h',toks:=t' }:=I.un (Un.kept k) (I.hok.kept k)
theorem Inv.laid {a:Addr}{o:HO}{t':Nat} (I:Inv X pins σ H s) (k:∀ b u,s.heap.get? b = some u→h'.get? b = some u) (hp:s.heap.objs.size≤a) (new:ObjOk X.prog X.w (upd H a o) h' a o):
    Inv X pins σ (upd H a o) { s with heap:=h',toks:=t' }:=I.un (Un.laid k hp (I.hok.fresh hp)) (I.hok.laid k hp new)
theorem Inv.write {x e:Addr}{o:HO}{t':Nat} (I:Inv X pins σ H s) (mu:Mut (H x)) (he:e = x∨H e = some (.own x)) (k:∀ b u,b≠e→s.heap.get? b = some u→h'.get? b = some u) (heo:∃ u,h'.get? e = some u)
    (new:ObjOk X.prog X.w (upd H x o) h' x o):Inv X pins σ (upd H x o) { s with heap:=h',toks:=t' }:=I.un (Un.write mu he k heo) (I.hok.write mu he k heo new)
theorem Inv.weak {σ':List (Option V)} (I:Inv X pins σ H s) (hl:σ'.length = σ.length) (w:∀ (i:Nat) v,σ'[i]? = some (some v)→σ[i]? = some (some v)):Inv X pins σ' H s:=
  ⟨I.ok,I.os,I.bare,I.base,let ⟨m,hn,hl'⟩:=I.loc; ⟨m,hn,fun i x v e1 e2 e3=>hl' i x v e1 (w i v e2) e3⟩,I.cell,I.free,I.freeC,I.pin,I.hok,hl.trans I.len⟩
theorem Inv.pins_of {pins':List (Addr × Obj)} (I:Inv X pins σ H s) (h:∀ p∈pins',s.heap.get? p.1 = some p.2∧H p.1 = none∧p.1≠X.env.locals∧p.1 ∉ X.fs∧∀ v,p.2.data≠.cell v):Inv X pins' σ H s:=
  ⟨I.ok,I.os,I.bare,I.base,I.loc,I.cell,I.free,I.freeC,fun p hp=>(List.mem_append.mp hp).elim (fun z=>I.pin p (List.mem_append_left _ z)) (h p),I.hok,I.len⟩
theorem nodup_ix {N:List Str} (hN:N.Nodup) {i j:Nat}{x:Str} (a:N[i]? = some x) (b:N[j]? = some x):i = j:=by
  obtain ⟨h1,e1⟩:=List.getElem?_eq_some_iff.mp a
  obtain ⟨h2,e2⟩:=List.getElem?_eq_some_iff.mp b
  exact (List.getElem_inj hN).mp (e1.trans e2.symm)
theorem store_ok2 {M:Model}{A:Around}{E:Value→Shared→Prop}{i:Nat}{x:Str}{v:V}{u:Value}{Q:Unit→Shared→Prop} (I:Inv X pins σ H s) (hN:X.N.Nodup) (hi:X.N[i]? = some x) (hx:Loc X.env.scope x) (r:RelV v u)
    (h:∀ s',Inv X pins (σ.set i (some v)) H s'→(∃ a,Heap.SameBut a s.heap s'.heap∧(a = X.env.locals∨X.env.cells.lookup x = some a))→Q () s') (hf:X.fn x = true∨X.env.scope.names.lookup x = some .local:=by first | exact .inl rfl | exact .inr rfl | assumption):wpAny M A (storeName X.env x u) Q E s:=by
  obtain ⟨m,hn,hl⟩:=id I.loc
  have hcls:(X.env.scope.kind == .class || (X.env.scope.kind == .module && X.env.locals != X.env.globals)) = false:=by rw [I.ok.kind]; rfl
  have hiσ:i < σ.length:=by rw [I.len]; exact (List.getElem?_eq_some_iff.mp hi).1
  have cne:=I.cne
  have tracked:∀ {a:Addr}{h':Heap},(∃ o,s.heap.get? a = some o∧H a = none)→Heap.SameBut a s.heap h'→HOk X.prog X.w H h':=fun {a h'} ha hs b ob e=>by
    obtain ⟨_,_,hfree⟩:=ha
    refine (I.hok b ob e).stay (fun c w' hc q=>(hs.2 c ?_).trans q) (fun _ q=>q) fun _ _ q=>q
    rintro rfl
    rcases hc with rfl | hc
    · rw [hfree] at e; cases e
    · rw [hfree] at hc; cases hc
  rcases hx with hk | hk
  · refine wpAny_storeName_local hk hn (fun h' hn' hs=>?_) hcls
    obtain ⟨oL,_,_,hoL,_⟩:=id hn
    refine h _ ⟨I.ok,I.os,I.bare,⟨fun b o e n hb hx=>?_,fun b o e n hb hx=>?_,I.base.free,fun b o e hx=>?_,I.base.tups,I.base.frzs,I.base.tbls⟩,⟨_,hn',fun j y v' e1 e2 e3=>?_⟩,fun y c e=>?_,I.free,I.freeC,fun p hp=>?_,tracked ⟨oL,hoL,I.free⟩ hs,by simpa using I.len⟩ ⟨_,hs,.inl rfl⟩
    · exact (hs.2 b (Nat.ne_of_lt (Nat.lt_of_lt_of_le (Heap.lt_size e) I.ok.above))).trans (I.base.keep b o e n hb hx)
    · obtain ⟨sl,e1⟩:=I.base.slot b o e n hb hx
      exact ⟨sl,(hs.2 b (Nat.ne_of_lt (Nat.lt_of_lt_of_le (Heap.lt_size e) I.ok.above))).trans e1⟩
    · obtain ⟨o',e1⟩:=I.base.there b o e hx
      exact ⟨o',(hs.2 b (Nat.ne_of_lt (Nat.lt_of_lt_of_le (Heap.lt_size e) I.ok.above))).trans e1⟩
    · by_cases hj:j = i
      · subst hj
        rw [hi] at e1; cases e1
        rw [List.getElem?_set_self hiσ] at e2
        cases e2
        exact ⟨u,r,.inl ⟨hk,by simp⟩⟩
      · rw [List.getElem?_set_ne (Ne.symm hj)] at e2
        obtain ⟨u',r',q⟩:=hl j y v' e1 e2 e3
        refine ⟨u',r',?_⟩
        rcases q with ⟨k,e⟩ | ⟨k,c,e,z⟩
        · refine .inl ⟨k,?_⟩
          have:y≠x:=fun e=>hj (nodup_ix hN e1 (e ▸ hi))
          simp [this,e]
        · exact .inr ⟨k,c,e,z.sameBut hs (cne y c e)⟩
    · obtain ⟨w',z⟩:=I.cell y c e
      exact ⟨w',z.sameBut hs (cne y c e)⟩
    · obtain ⟨e,n,ne,nf,d⟩:=I.pin p hp
      exact ⟨(hs.2 p.1 ne).trans e,n,ne,nf,d⟩
  · have hfn:X.fn x = true:=by
      rcases hf with z | z
      · exact z
      · rw [z] at hk; cases hk
    obtain ⟨c,hc⟩:=I.ok.has x (.inl hk)
    obtain ⟨w',z⟩:=I.cell x c hc
    refine wpAny_storeName_cell I.ok.kind hk hc z (fun h' hc' hs=>?_)
    obtain ⟨oc,hoc,hocd⟩:=id z
    refine h { s with heap:=h' } ⟨I.ok,I.os,I.bare,⟨fun b o e n hb hx=>?_,fun b o e n hb hx=>?_,I.base.free,fun b o e hx=>?_,I.base.tups,I.base.frzs,I.base.tbls⟩,⟨m,hn.sameBut hs (Ne.symm (cne x c hc)),fun j y v' e1 e2 e3=>?_⟩,fun y c' e=>?_,I.free,I.freeC,fun p hp=>?_,tracked ⟨oc,hoc,I.freeC x c hc⟩ hs,by simpa using I.len⟩ ⟨c,hs,.inr hc⟩
    · exact (hs.2 b (Nat.ne_of_lt (Nat.lt_of_lt_of_le (Heap.lt_size e) (I.ok.cab x c hfn hc)))).trans (I.base.keep b o e n hb hx)
    · obtain ⟨sl,e1⟩:=I.base.slot b o e n hb hx
      exact ⟨sl,(hs.2 b (Nat.ne_of_lt (Nat.lt_of_lt_of_le (Heap.lt_size e) (I.ok.cab x c hfn hc)))).trans e1⟩
    · obtain ⟨o',e1⟩:=I.base.there b o e hx
      exact ⟨o',(hs.2 b (Nat.ne_of_lt (Nat.lt_of_lt_of_le (Heap.lt_size e) (I.ok.cab x c hfn hc)))).trans e1⟩
    · by_cases hj:j = i
      · subst hj
        rw [hi] at e1; cases e1
        rw [List.getElem?_set_self hiσ] at e2
        cases e2
        exact ⟨u,r,.inr ⟨.inl hk,c,hc,hc'⟩⟩
      · rw [List.getElem?_set_ne (Ne.symm hj)] at e2
        obtain ⟨u',r',q⟩:=hl j y v' e1 e2 e3
        refine ⟨u',r',?_⟩
        rcases q with q | ⟨k,c',e,z'⟩
        · exact .inl q
        · refine .inr ⟨k,c',e,z'.sameBut hs ?_⟩
          rintro rfl
          exact hj (nodup_ix hN e1 (I.ok.inj _ _ _ e hc ▸ hi))
    · by_cases hcc:c' = c
      · subst hcc; exact ⟨_,hc'⟩
      · obtain ⟨w2,z2⟩:=I.cell y c' e
        exact ⟨w2,z2.sameBut hs hcc⟩
    · obtain ⟨e,n,ne,nf,d⟩:=I.pin p hp
      refine ⟨(hs.2 p.1 ?_).trans e,n,ne,nf,d⟩
      intro q
      rw [q,hoc] at e
      have q':oc = p.2:=Option.some.inj e
      exact d w' (by rw [← q']; exact hocd)
theorem store_ok {M:Model}{A:Around}{E:Value→Shared→Prop}{i:Nat}{x:Str}{v:V}{u:Value}{Q:Unit→Shared→Prop} (I:Inv X pins σ H s) (hN:X.N.Nodup) (hi:X.N[i]? = some x) (hx:Loc X.env.scope x) (r:RelV v u)
    (h:∀ s',Inv X pins (σ.set i (some v)) H s'→Q () s') (hf:X.fn x = true∨X.env.scope.names.lookup x = some .local:=by first | exact .inl rfl | exact .inr rfl | assumption):wpAny M A (storeName X.env x u) Q E s:=
  store_ok2 I hN hi hx r (fun s' I' _=>h s' I') hf
theorem Inv.call' {s':Shared}{ch:List Addr} (I:Inv X pins σ H s) (ho:s'.os = s.os) (u:Un (frs X.stack) ch H H' s.heap s'.heap) (hok:HOk X.prog X.w H' s'.heap) (hg:AllBare s'.gens)
    (hch:∀ b∈ch,(b∈X.ex∨X.s₀.heap.objs.size≤b)∧b≠X.env.locals∧(∀ x c,X.env.cells.lookup x = some c→c≠b)∧∀ p∈X.pn ++ pins,p.1≠b):Inv X pins σ H' s':=by
  obtain ⟨h',g',d',t',o'⟩:=s'
  have e:o' = s.os:=ho
  subst e
  exact I.call (g':=g') (t':=t') (d':=d') u hok hg hch
end
abbrev XK:=Value→Option Addr→Hp→Prop
abbrev St:=List (Option V)
abbrev VK:=V→Hp→Prop
abbrev TE:=St→Hp→VK→Prop
abbrev TT:=St→Hp→(Bool→Hp→Prop)→Prop
abbrev TA:=St→Hp→(List V→Hp→Prop)→Prop
structure Ends where
  nx:St→Hp→Prop
  rt:VK
  bk:St→Hp→Prop:=fun _ _=>False
  ct:St→Hp→Prop:=fun _ _=>False
abbrev TS:=Ends→St→Hp→Prop
def EP (X:Cx) (pins:List (Addr × Obj)) (σ:St) (Q:VK) (u:Value) (s':Shared):Prop:=∃ v H',Inv X pins σ H' s'∧RelV v u∧Q v H'
def TP (X:Cx) (pins:List (Addr × Obj)) (σ:St) (Q:Bool→Hp→Prop) (b:Bool) (s':Shared):Prop:=∃ H',Inv X pins σ H' s'∧Q b H'
def AP (X:Cx) (pins:List (Addr × Obj)) (σ:St) (Q:List V→Hp→Prop) (us:List Value) (s':Shared):Prop:=∃ vs H',Inv X pins σ H' s'∧Vals vs us∧Q vs H'
def SP (X:Cx) (pins:List (Addr × Obj)) (D:Ends) (f:Flow) (s':Shared):Prop:=
  match f with
  | .next=>∃ σ' H',Inv X pins σ' H' s'∧D.nx σ' H'
  | .brk=>∃ σ' H',Inv X pins σ' H' s'∧D.bk σ' H'
  | .cont=>∃ σ' H',Inv X pins σ' H' s'∧D.ct σ' H'
  | .ret u=>∃ v σ' H',Inv X pins σ' H' s'∧RelV v u∧D.rt v H'
def PE (X:Cx) (e:Expr) (t:TE):Prop:=
  ∀ (pins:List (Addr × Obj)) (s:Shared) (σ:St) (H:Hp) (Q:VK),Inv X pins σ H s→t σ H Q→wpAny (model X.prog X.w) X.A (eval e X.env) (EP X pins σ Q) X.xe s
def PT (X:Cx) (e:Expr) (t:TT):Prop:=
  ∀ (pins:List (Addr × Obj)) (s:Shared) (σ:St) (H:Hp) (Q:Bool→Hp→Prop),Inv X pins σ H s→t σ H Q→wpAny (model X.prog X.w) X.A (isTrue e X.env (eval e X.env)) (TP X pins σ Q) X.xe s
def PW (X:Cx) (e:Expr) (t:TT):Prop:=
  ∀ (whole:Sem Value) (pins:List (Addr × Obj)) (s:Shared) (σ:St) (H:Hp) (Q:Bool→Hp→Prop),Inv X pins σ H s→t σ H Q→wpAny (model X.prog X.w) X.A (isTrue e X.env whole) (TP X pins σ Q) X.xe s
theorem PW.pt {X:Cx}{e:Expr}{t:TT} (h:PW X e t):PT X e t:=h _
def PA (X:Cx) (es:List Expr) (t:TA):Prop:=
  ∀ (pos:Pos) (pins:List (Addr × Obj)) (s:Shared) (σ:St) (H:Hp) (Q:List V→Hp→Prop),Inv X pins σ H s→t σ H Q→wpAny (model X.prog X.w) X.A (spliced (backTo pos (starEach es X.env))) (AP X pins σ Q) X.xe s
def PS (X:Cx) (st:Stmt) (t:TS):Prop:=
  ∀ (pins:List (Addr × Obj)) (s:Shared) (σ:St) (H:Hp) (D:Ends),Inv X pins σ H s→t D σ H→wpAny (model X.prog X.w) X.A (exec st X.env) (SP X pins D) X.xe s
def PSs (X:Cx) (st:List Stmt) (t:TS):Prop:=
  ∀ (pins:List (Addr × Obj)) (s:Shared) (σ:St) (H:Hp) (D:Ends),Inv X pins σ H s→t D σ H→wpAny (model X.prog X.w) X.A (execs st X.env) (SP X pins D) X.xe s
theorem thn {α:Type}{t:Sem α}{Q Q':α→Shared→Prop}{M:Model}{A:Around}{E:Value→Shared→Prop}{s:Shared} (h:wpAny M A t Q E s) (hQ:∀ a s,Q a s→Q' a s):wpAny M A t Q' E s:=wpAny_mono h hQ fun _ _ x=>x
end L2
namespace L2
open PySem PySem.Spec PyProof.Rows
section
variable {X:Cx}
def tVar (i:Nat):TE:=fun σ H Q=>∃ v,σ[i]? = some (some v)∧Q v H
def tC (v:V):TE:=fun _ H Q=>Q v H
theorem pe_var {i:Nat}{x:Str}{pos:Pos} (hN:X.N[i]? = some x) (hv:Vis X.env.scope x) (hd:(x == ("__debug__":Str)) = false:=by decide) (hcd:(x == ("__classdict__":Str)) = false:=by decide):PE X (.Name x pos) (tVar i):=by
  intro pins s σ H Q I h
  obtain ⟨v,e,h⟩:=h
  obtain ⟨m,hn,hl⟩:=I.loc
  obtain ⟨u,r,l⟩:=hl i x v hN e hv
  have fin:EP X pins σ Q u s:=⟨v,H,I,r,h⟩
  rcases l with ⟨hk,hm⟩ | ⟨hk,c,hc,hcell⟩
  · exact wpAny_Name (wpAny_loadName_local I.ok.kind hk hn hm fin) hd
  · rcases hk with hk | hk
    · exact wpAny_Name (wpAny_loadName_cell I.ok.kind hk hc hcell fin) hd
    · exact wpAny_Name (wpAny_loadName_free I.ok.kind hk hc hcell fin hcd) hd
theorem pe_int {i j pos}:PE X (.Constant (.int i) j pos) (tC (.int i)):=fun _ _ _ H _ I h=>wpAny_Constant_int ⟨.int i,H,I.tok _,⟨_,rfl⟩,h⟩
theorem pe_bl {b j pos}:PE X (.Constant (.bool b) j pos) (tC (.bl b)):=fun _ _ _ H _ I h=>Constant_bool ⟨.bl b,H,I,rfl,h⟩
theorem pe_non {j pos}:PE X (.Constant .none j pos) (tC .non):=fun _ _ _ H _ I h=>Constant_none ⟨.non,H,I,rfl,h⟩
theorem pe_str {x j pos}:PE X (.Constant (.str x) j pos) (tC (.str x)):=fun _ _ _ H _ I h=>Calls.Constant_str ⟨.str x,H,I.tok _,⟨_,rfl⟩,h⟩
def Gl (X:Cx) (x:Str):Prop:=X.env.kindOf x = some .globalImplicit
theorem ld_glob {E:Value→Shared→Prop}{pins:List (Addr × Obj)}{s:Shared}{σ:St}{H:Hp}{x:Str}{u:Value}{pos:Pos}{Q:Value→Shared→Prop} (I:Inv X pins σ H s) (hg:Gl X x) (hm:X.mg x = some u) (h:Q u s)
    (hd:(x == ("__debug__":Str)) = false:=by decide):wpAny (model X.prog X.w) X.A (eval (.Name x pos) X.env) Q E s:=
  Calls.Name_function_global I.ok.kind hg (Calls.loadGlobal_global (by rw [I.ok.glob]; exact I.mod.glob.keeps I.bk) hm h) hd
theorem ld_blt {E:Value→Shared→Prop}{pins:List (Addr × Obj)}{s:Shared}{σ:St}{H:Hp}{x:Str}{u:Value}{pos:Pos}{Q:Value→Shared→Prop} (I:Inv X pins σ H s) (hg:Gl X x) (hm:X.mg x = none) (hv:bootBuiltins x = some u) (h:Q u s)
    (hn:x≠"__name__":=by decide) (hd:(x == ("__debug__":Str)) = false:=by decide):wpAny (model X.prog X.w) X.A (eval (.Name x pos) X.env) Q E s:=by
  obtain ⟨mb,h1,h2⟩:=I.mod.blt
  exact Calls.Name_function_global I.ok.kind hg (Calls.loadGlobal_builtin (by rw [I.ok.glob]; exact I.mod.glob.keeps I.bk) hm (by rw [I.ok.blt]; exact h1.keeps I.bk) ((h2 x hn).trans hv) h) hd
theorem pe_glob {x:Str}{v:V}{u:Value}{pos:Pos} (hg:Gl X x) (hm:X.mg x = some u) (r:RelV v u) (hd:(x == ("__debug__":Str)) = false:=by decide):PE X (.Name x pos) (tC v):=
  fun _ _ _ H _ I h=>ld_glob I hg hm ⟨v,H,I,r,h⟩ hd
theorem pe_bltn {x:Str}{v:V}{u:Value}{pos:Pos} (hg:Gl X x) (hm:X.mg x = none) (hv:bootBuiltins x = some u) (r:RelV v u) (hn:x≠"__name__":=by decide) (hd:(x == ("__debug__":Str)) = false:=by decide):PE X (.Name x pos) (tC v):=
  fun _ _ _ H _ I h=>ld_blt I hg hm hv ⟨v,H,I,r,h⟩ hn hd
def t2I (ta tb:TE) (k:Int→Int→Hp→Prop):St→Hp→Prop:=fun σ H=>ta σ H fun x H1=>tb σ H1 fun y H2=>∃ i j,x = .int i∧y = .int j∧k i j H2
def tAdd (ta tb:TE):TE:=fun σ H Q=>t2I ta tb (fun i j H2=>Q (.int (i + j)) H2) σ H
def tSub (ta tb:TE):TE:=fun σ H Q=>t2I ta tb (fun i j H2=>Q (.int (i - j)) H2) σ H
def tMul (ta tb:TE):TE:=fun σ H Q=>t2I ta tb (fun i j H2=>(-(2 ^ 64) < i∧i < 2 ^ 64)∧Q (.int (i * j)) H2) σ H
variable {a b:Expr}{ta tb:TE}{pos:Pos}
def PC (X:Cx) (op:CmpOp) (a b:Expr) (t:TE):Prop:=
  ∀ (pins:List (Addr × Obj)) (s:Shared) (σ:St) (H:Hp) (Q:VK),Inv X pins σ H s→t σ H Q→
    wpAny (model X.prog X.w) X.A (eval a X.env) (fun v s₁=>wpAny (model X.prog X.w) X.A (eval b X.env) (fun u s₂=>wpAny (model X.prog X.w) X.A (compareOp op v u) (EP X pins σ Q) X.xe s₂) X.xe s₁) X.xe s
theorem nobehind (b:Expr) {op:CmpOp} (h:op≠.In) (h2:op≠.NotIn):behindInMarks op b = false:=by
  have e1:(op == CmpOp.In) = false:=by cases op <;> first | rfl | exact absurd rfl h
  have e2:(op == CmpOp.NotIn) = false:=by cases op <;> first | rfl | exact absurd rfl h2
  cases b <;> simp [behindInMarks,e1,e2]
def tCmp (p:Int→Int→Bool) (ta tb:TE):TE:=fun σ H Q=>t2I ta tb (fun i j H2=>Q (.bl (p i j)) H2) σ H
abbrev tLt:TE→TE→TE:=tCmp fun i j=>decide (i < j)
abbrev tLe:TE→TE→TE:=tCmp fun i j=>decide (i≤j)
abbrev tGt:TE→TE→TE:=tCmp fun i j=>decide (j < i)
abbrev tGe:TE→TE→TE:=tCmp fun i j=>decide (j≤i)
abbrev tEqI:TE→TE→TE:=tCmp fun i j=>decide (i = j)
abbrev tNeI:TE→TE→TE:=tCmp fun i j=>!decide (i = j)
def tIsN (ta:TE):TE:=fun σ H Q=>ta σ H fun x H1=>Q (.bl (decide (x = .non))) H1
def tNotN (ta:TE):TE:=fun σ H Q=>ta σ H fun x H1=>Q (.bl (!decide (x = .non))) H1
theorem RelV.none_iff {x:V}{v:Value} (r:RelV x v):(v == Value.none) = decide (x = .non):=by
  cases x with
  | non=>cases r; rfl
  | bl _=>cases r; rfl
  | int _=>obtain ⟨t,rfl⟩:=r; rfl
  | str _=>obtain ⟨t,rfl⟩:=r; rfl
  | byt _=>obtain ⟨t,rfl⟩:=r; rfl
  | flt _=>obtain ⟨t,rfl⟩:=r; rfl
  | ref _=>cases r; rfl
  | ty _=>cases r; rfl
theorem pc_isN {j pos'} (ha:PE X a ta):PC X .Is a (.Constant .none j pos') (tIsN ta):=by
  intro pins s σ H Q I h
  refine thn (ha pins s σ H _ I h) fun v s1 ⟨x,H1,I1,r1,q1⟩=>?_
  exact Constant_none (is_none_gen ⟨.bl _,H1,I1,by rw [r1.none_iff]; rfl,q1⟩)
theorem pc_notN {j pos'} (ha:PE X a ta):PC X .IsNot a (.Constant .none j pos') (tNotN ta):=by
  intro pins s σ H Q I h
  refine thn (ha pins s σ H _ I h) fun v s1 ⟨x,H1,I1,r1,q1⟩=>?_
  exact Constant_none (isnot_none_gen ⟨.bl _,H1,I1,by rw [r1.none_iff]; rfl,q1⟩)
def tB (t:TE):TT:=fun σ H Q=>t σ H fun x H1=>∃ c,x = .bl c∧Q c H1
theorem pe_cmp {op:CmpOp}{t:TE} (h:PC X op a b t) (h1:behindInMarks op b = false:=by first | exact nobehind _ (by decide) (by decide) | rfl):PE X (.Compare a [op] [b] pos) t:=fun pins s σ H Q I hw=>wpAny_Compare1 (h pins s σ H Q I hw) h1
theorem pt_cmp {op:CmpOp}{t:TE} (h:PC X op a b t) (h1:behindInMarks op b = false:=by first | exact nobehind _ (by decide) (by decide) | rfl):PT X (.Compare a [op] [b] pos) (tB t):=by
  intro pins s σ H Q I hw
  refine wpAny_isTrue_Compare1 (thn (h pins s σ H _ I hw) fun v s1 h1=>thn h1 fun u s2 h2=>thn h2 fun c s3 ⟨x,H1,I1,r1,q1⟩=>?_) h1
  obtain ⟨d,rfl,q⟩:=q1
  cases r1
  exact wpAny_truthy_bool ⟨H1,I1,q⟩
theorem pt_val {e:Expr}{t:TE} (h:PE X e t) (he:∀ whole,isTrue e X.env whole = (do let v ← whole; standAt e.pos; holding [v] (truthy v)):=by intro _; rfl):PT X e (tB t):=by
  intro pins s σ H Q I hw
  refine isTrue_plain (thn (h pins s σ H _ I hw) fun v s1 ⟨x,H1,I1,r1,q1⟩=>?_) (he _)
  obtain ⟨d,rfl,q⟩:=q1
  cases r1
  exact wpAny_truthy_bool ⟨H1,I1,q⟩
variable {tA tB':TT}{rest:List Expr}
def tAnd (t u:TT):TT:=fun σ H Q=>t σ H fun c H1=>if c = true then u σ H1 Q else Q false H1
def tOr (t u:TT):TT:=fun σ H Q=>t σ H fun c H1=>if c = true then Q true H1 else u σ H1 Q
def tNot (t:TT):TT:=fun σ H Q=>t σ H fun c H1=>Q (!c) H1
theorem pw_and1 (ha:PT X a tA):PW X (.BoolOp .And [a] pos) tA:=by
  intro wh pins s σ H Q I h
  refine isTrue_and (thn (ha pins s σ H Q I h) fun c s1 e=>?_)
  cases c with
  | true=>exact isTrue_and_nil e
  | false=>exact e
theorem pw_or1 (ha:PT X a tA):PW X (.BoolOp .Or [a] pos) tA:=by
  intro wh pins s σ H Q I h
  refine isTrue_or (thn (ha pins s σ H Q I h) fun c s1 e=>?_)
  cases c with
  | false=>exact isTrue_or_nil e
  | true=>exact e
theorem pw_and (ha:PT X a tA) (hb:PW X (.BoolOp .And (b :: rest) pos) tB'):PW X (.BoolOp .And (a :: b :: rest) pos) (tAnd tA tB'):=by
  intro wh pins s σ H Q I h
  refine isTrue_and (thn (ha pins s σ H _ I h) fun c s1 ⟨H1,I1,q1⟩=>?_)
  cases c with
  | true=>exact hb wh pins s1 σ H1 Q I1 q1
  | false=>exact ⟨H1,I1,q1⟩
theorem pw_or (ha:PT X a tA) (hb:PW X (.BoolOp .Or (b :: rest) pos) tB'):PW X (.BoolOp .Or (a :: b :: rest) pos) (tOr tA tB'):=by
  intro wh pins s σ H Q I h
  refine isTrue_or (thn (ha pins s σ H _ I h) fun c s1 ⟨H1,I1,q1⟩=>?_)
  cases c with
  | true=>exact ⟨H1,I1,q1⟩
  | false=>exact hb wh pins s1 σ H1 Q I1 q1
theorem pt_not (ha:PT X a tA):PT X (.UnaryOp .Not a pos) (tNot tA):=by
  intro pins s σ H Q I h
  exact isTrue_not (ha pins s σ H (fun c H1=>Q (!c) H1) I h)
def tAndV (ta tb:TE):TE:=fun σ H Q=>ta σ H fun x H1=>∃ c,x = .bl c∧if c = true then tb σ H1 Q else Q (.bl false) H1
def tOrV (ta tb:TE):TE:=fun σ H Q=>ta σ H fun x H1=>∃ c,x = .bl c∧if c = true then Q (.bl true) H1 else tb σ H1 Q
def tNotV (ta:TE):TE:=fun σ H Q=>ta σ H fun x H1=>∃ c,x = .bl c∧Q (.bl (!c)) H1
theorem pe_one {op}{t:TE} (h:PE X a t):PE X (.BoolOp op [a] pos) t:=fun pins s σ H Q I hw=>BoolOp_one (h pins s σ H Q I hw)
theorem pe_and (ha:PE X a ta) (hb:PE X (.BoolOp .And (b :: rest) pos) tb):PE X (.BoolOp .And (a :: b :: rest) pos) (tAndV ta tb):=by
  intro pins s σ H Q I h
  refine BoolOp_and (thn (ha pins s σ H _ I h) fun v s1 ⟨x,H1,I1,r1,q1⟩=>?_)
  obtain ⟨c,rfl,q1⟩:=q1
  cases r1
  refine wpAny_truthy_bool ?_
  cases c with
  | true=>exact hb pins s1 σ H1 Q I1 q1
  | false=>exact ⟨.bl false,H1,I1,rfl,q1⟩
theorem pe_or (ha:PE X a ta) (hb:PE X (.BoolOp .Or (b :: rest) pos) tb):PE X (.BoolOp .Or (a :: b :: rest) pos) (tOrV ta tb):=by
  intro pins s σ H Q I h
  refine BoolOp_or (thn (ha pins s σ H _ I h) fun v s1 ⟨x,H1,I1,r1,q1⟩=>?_)
  obtain ⟨c,rfl,q1⟩:=q1
  cases r1
  refine wpAny_truthy_bool ?_
  cases c with
  | false=>exact hb pins s1 σ H1 Q I1 q1
  | true=>exact ⟨.bl true,H1,I1,rfl,q1⟩
theorem pe_not (ha:PE X a ta):PE X (.UnaryOp .Not a pos) (tNotV ta):=by
  intro pins s σ H Q I h
  refine UnaryOp_ (thn (ha pins s σ H _ I h) fun v s1 ⟨x,H1,I1,r1,q1⟩=>?_)
  obtain ⟨c,rfl,q1⟩:=q1
  cases r1
  exact not_of (wpAny_truthy_bool ⟨.bl (!c),H1,I1,rfl,q1⟩)
def tIf (t:TT) (ta tb:TE):TE:=fun σ H Q=>t σ H fun c H1=>if c = true then ta σ H1 Q else tb σ H1 Q
theorem pe_ifExp {c:Expr} (hc:PT X c tA) (ha:PE X a ta) (hb:PE X b tb):PE X (.IfExp c a b pos) (tIf tA ta tb):=by
  intro pins s σ H Q I h
  refine wpAny_IfExp (thn (hc pins s σ H _ I h) fun d s1 ⟨H1,I1,q1⟩=>?_)
  cases d with
  | true=>exact ha pins s1 σ H1 Q I1 q1
  | false=>exact hb pins s1 σ H1 Q I1 q1
end
end L2
namespace L2
open PySem PySem.Spec PyProof.Rows
def SqL (K:PySem.W.Frag) (H:Hp) (a:Addr) (xs:List V):Prop:=
  Rd H a (.lst xs) ∨
    ∃ (o:Obj) (its:Array Value) (n:Nat),K.lookup a = some o∧o.cls = .type "list"∧o.dict = none∧o.data = .seq its n∧its.size≤sizeLine∧Vals xs its.toList
def SqT (K:PySem.W.Frag) (H:Hp) (a:Addr) (xs:List V):Prop:=
  Rd H a (.tup xs) ∨
    ∃ (o:Obj) (its:Array Value) (n:Nat),K.lookup a = some o∧o.cls = .type "tuple"∧o.data = .seq its n∧its.size≤sizeLine∧Vals xs its.toList
def absV:Value→Option V
  | .none=>some .non
  | .bool b=>some (.bl b)
  | .int i _=>some (.int i)
  | .str x _=>some (.str x)
  | .bytes b _=>some (.byt b)
  | .float b _=>some (.flt b)
  | .ref a=>some (.ref a)
  | .type n=>some (.ty n)
  | _=>none
theorem RelV.abs {x:V}{u:Value} (r:RelV x u):absV u = some x:=by
  cases x with
  | non=>cases r; rfl
  | bl _=>cases r; rfl
  | int _=>obtain ⟨t,rfl⟩:=r; rfl
  | str _=>obtain ⟨t,rfl⟩:=r; rfl
  | byt _=>obtain ⟨t,rfl⟩:=r; rfl
  | flt _=>obtain ⟨t,rfl⟩:=r; rfl
  | ref _=>cases r; rfl
  | ty _=>cases r; rfl
theorem RelV.inj {x y:V}{u:Value} (r:RelV x u) (q:RelV y u):x = y:=Option.some.inj (r.abs.symm.trans q.abs)
theorem Vals.inj:∀ {xs ys:List V}{us:List Value},Vals xs us→Vals ys us→xs = ys
  | _,_,_,.nil,.nil=>rfl
  | _,_,_,.cons r t,.cons r' t'=>by rw [r.inj r',Vals.inj t t']
section
variable {X:Cx}{pins:List (Addr × Obj)}{σ:St}{H:Hp}{s:Shared}{a:Addr}{xs ys:List V}
theorem SqL.of {K:PySem.W.Frag} (h:H a = some (.lst xs)):SqL K H a xs:=.inl (.inl h)
theorem SqT.of {K:PySem.W.Frag} (h:H a = some (.tup xs)):SqT K H a xs:=.inl (.inl h)
theorem Inv.list (I:Inv X pins σ H s) (h:SqL X.K H a xs):∃ its:List Value,Vals xs its∧PlainL s.heap a its.toArray∧xs.length≤sizeLine:=by
  rcases h with h | ⟨o,its,n,hk,hc,hd,hs,hz,r⟩
  · obtain ⟨z,its,n,r,e⟩:=h.ok I.hok
    exact ⟨its,r,⟨_,n,e,rfl,rfl,rfl⟩,z⟩
  · refine ⟨its.toList,r,⟨o,n,I.kIn a o hk,hc,hd,by simpa using hs⟩,?_⟩
    have e:=r.length
    simp only [Array.length_toList] at e
    omega
theorem Inv.tuple (I:Inv X pins σ H s) (h:SqT X.K H a xs):∃ its:List Value,Vals xs its∧IsTup s.heap a its.toArray∧xs.length≤sizeLine:=by
  rcases h with h | ⟨o,its,n,hk,hc,hs,hz,r⟩
  · obtain ⟨z,its,r,p⟩:=h.ok I.hok
    exact ⟨its,r,p,z⟩
  · refine ⟨its.toList,r,⟨o,I.kIn a o hk,hc,n,by simpa using hs⟩,?_⟩
    have e:=r.length
    simp only [Array.length_toList] at e
    omega
theorem Inv.list_inj (I:Inv X pins σ H s) (h:SqL X.K H a xs) (h':SqL X.K H a ys):xs = ys:=by
  obtain ⟨its,r,⟨o,n,e,_,_,d⟩,_⟩:=I.list h
  obtain ⟨its',r',⟨o',n',e',_,_,d'⟩,_⟩:=I.list h'
  rw [e] at e'; cases e'
  rw [d] at d'
  injection d' with d1 _
  have:its = its':=by simpa using congrArg Array.toList d1
  subst this
  exact r.inj r'
theorem Inv.tuple_inj (I:Inv X pins σ H s) (h:SqT X.K H a xs) (h':SqT X.K H a ys):xs = ys:=by
  obtain ⟨its,r,⟨o,e,_,n,d⟩,_⟩:=I.tuple h
  obtain ⟨its',r',⟨o',e',_,n',d'⟩,_⟩:=I.tuple h'
  rw [e] at e'; cases e'
  rw [d] at d'
  injection d' with d1 _
  have:its = its':=by simpa using congrArg Array.toList d1
  subst this
  exact r.inj r'
end
abbrev Cx.wish (X:Cx) (E:Value→Shared→Prop):Cx:={ X with xe:=E }
abbrev Cx.nox (X:Cx):Cx:=X.wish fun _ _=>False
theorem Cx.Ok.wish {X:Cx} (ok:X.Ok) (E:Value→Shared→Prop):(X.wish E).Ok:=
  ⟨ok.mod,ok.kind,ok.glob,ok.blt,ok.above,ok.inj,ok.has,ok.cab,ok.hd,ok.frames,ok.stk,ok.exf,ok.bs,ok.bsz,ok.noex,ok.exfs,ok.funs,ok.frf⟩
theorem Cx.Ok.unwish {X:Cx}{E:Value→Shared→Prop} (ok:(X.wish E).Ok):X.Ok:=
  ⟨ok.mod,ok.kind,ok.glob,ok.blt,ok.above,ok.inj,ok.has,ok.cab,ok.hd,ok.frames,ok.stk,ok.exf,ok.bs,ok.bsz,ok.noex,ok.exfs,ok.funs,ok.frf⟩
section
variable {X:Cx}{pins:List (Addr × Obj)}{σ:St}{H:Hp}{s:Shared}{E:Value→Shared→Prop}
theorem Inv.wish (I:Inv X pins σ H s) (E:Value→Shared→Prop):Inv (X.wish E) pins σ H s:=⟨I.ok.wish E,I.os,I.bare,I.base,I.loc,I.cell,I.free,I.freeC,I.pin,I.hok,I.len⟩
theorem Inv.unwish (I:Inv (X.wish E) pins σ H s):Inv X pins σ H s:=⟨I.ok.unwish,I.os,I.bare,I.base,I.loc,I.cell,I.free,I.freeC,I.pin,I.hok,I.len⟩
theorem SP.unwish {D:Ends}{f:Flow}{s':Shared} (h:SP (X.wish E) pins D f s'):SP X pins D f s':=by
  cases f with
  | next=>obtain ⟨σ',H',I,q⟩:=h; exact ⟨σ',H',I.unwish,q⟩
  | brk=>obtain ⟨σ',H',I,q⟩:=h; exact ⟨σ',H',I.unwish,q⟩
  | cont=>obtain ⟨σ',H',I,q⟩:=h; exact ⟨σ',H',I.unwish,q⟩
  | ret u=>obtain ⟨v,σ',H',I,r,q⟩:=h; exact ⟨v,σ',H',I.unwish,r,q⟩
theorem PE.nox {e:Expr}{t:TE} (h:PE X.nox e t):PE X e t:=fun pins s σ H Q I hw=>
  wpAny_mono (h pins s σ H Q (I.wish _) hw) (fun _ _ ⟨v,H',I',r,q⟩=>⟨v,H',I'.unwish,r,q⟩) fun _ _ z=>False.elim z
theorem PT.nox {e:Expr}{t:TT} (h:PT X.nox e t):PT X e t:=fun pins s σ H Q I hw=>
  wpAny_mono (h pins s σ H Q (I.wish _) hw) (fun _ _ ⟨H',I',q⟩=>⟨H',I'.unwish,q⟩) fun _ _ z=>False.elim z
theorem PSs.nox {st:List Stmt}{t:TS} (h:PSs X.nox st t):PSs X st t:=fun pins s σ H D I hw=>
  wpAny_mono (h pins s σ H D (I.wish _) hw) (fun _ _ q=>q.unwish) fun _ _ z=>False.elim z
end
section
variable {X:Cx}{st:Stmt}{rest:List Stmt}{t u:TS}{e:Expr}{te:TE}{pos:Pos}
def tNext:TS:=fun D σ H=>D.nx σ H
def tSeq (t u:TS):TS:=fun D σ H=>t { D with nx:=u D } σ H
theorem pss_nil:PSs X [] tNext:=fun _ _ σ H _ I h=>wpAny_execs_nil ⟨σ,H,I,h⟩
theorem pss_cons (h1:PS X st t) (h2:PSs X rest u):PSs X (st :: rest) (tSeq t u):=by
  intro pins s σ H D I h
  refine wpAny_execs_cons (thn (h1 pins s σ H { D with nx:=u D } I h) fun f s1 q=>?_)
  cases f with
  | next=>
    obtain ⟨σ',H',I',q⟩:=q
    exact h2 pins s1 σ' H' D I' q
  | ret v=>exact q
  | brk=>exact q
  | cont=>exact q
theorem pss_one (h1:PS X st t):PSs X [st] t:=by
  intro pins s σ H D I h
  refine wpAny_execs_cons (thn (h1 pins s σ H D I h) fun f s1 q=>?_)
  cases f with
  | next=>exact wpAny_execs_nil q
  | ret v=>exact q
  | brk=>exact q
  | cont=>exact q
def tBreak:TS:=fun D σ H=>D.bk σ H
def tCont:TS:=fun D σ H=>D.ct σ H
theorem Inv.quiet {pins:List (Addr × Obj)}{σ:St}{H:Hp}{s:Shared} (I:Inv X pins σ H s):interactive X.env = false:=by simp [interactive,I.ok.kind]
def tDrop (te:TE):TS:=fun D σ H=>te σ H fun _ H1=>D.nx σ H1
theorem ps_expr (he:PE X e te) (hs:swapsWith e none pos.line X.env = pure false:=by rfl):PS X (.Expr e pos) (tDrop te):=by
  intro pins s σ H D I h
  exact wpAny_Expr_any (thn (he pins s σ H _ I h) fun v s1 ⟨x,H1,I1,r1,q1⟩=>⟨σ,H1,I1,q1⟩) I.quiet hs
def tRet (te:TE):TS:=fun D σ H=>te σ H D.rt
theorem ps_ret (he:PE X e te):PS X (.Return (some e) pos) (tRet te):=by
  intro pins s σ H D I h
  exact wpAny_Return_some (thn (he pins s σ H _ I h) fun v s1 ⟨x,H1,I1,r1,q1⟩=>⟨x,σ,H1,I1,r1,q1⟩)
def tRetN:TS:=fun D _ H=>D.rt .non H
def tIfS (c:TT) (t u:TS):TS:=fun D σ H=>c σ H fun b H1=>if b = true then t D σ H1 else u D σ H1
theorem ps_if {c:Expr}{a b:List Stmt}{tc:TT} (hc:PT X c tc) (ha:PSs X a t) (hb:PSs X b u):PS X (.If c a b pos) (tIfS tc t u):=by
  intro pins s σ H D I h
  refine wpAny_If (thn (hc pins s σ H _ I h) fun d s1 ⟨H1,I1,q1⟩=>?_)
  cases d with
  | true=>exact ha pins s1 σ H1 D I1 q1
  | false=>exact hb pins s1 σ H1 D I1 q1
def tNever:TS:=fun _ _ _=>False
end
abbrev TG:=V→St→Hp→(St→Hp→Prop)→Prop
abbrev TGs:=List V→St→Hp→(St→Hp→Prop)→Prop
def PG (X:Cx) (target:Expr) (t:TG):Prop:=
  ∀ (pins:List (Addr × Obj)) (s:Shared) (σ:St) (H:Hp) (v:V) (u:Value) (Q:St→Hp→Prop),Inv X pins σ H s→RelV v u→t v σ H Q→
    wpAny (model X.prog X.w) X.A (assign target X.env u) (fun _ s'=>∃ σ' H',Inv X pins σ' H' s'∧Q σ' H') X.xe s
def PGs (X:Cx) (ts:List Expr) (t:TGs):Prop:=
  ∀ (pins:List (Addr × Obj)) (s:Shared) (σ:St) (H:Hp) (vs:List V) (us:List Value) (Q:St→Hp→Prop),Inv X pins σ H s→Vals vs us→t vs σ H Q→
    wpAny (model X.prog X.w) X.A (assignInOrder ((assignEach ts X.env).map (·.2)) us) (fun _ s'=>∃ σ' H',Inv X pins σ' H' s'∧Q σ' H') X.xe s
abbrev TSet:=V→V→V→Hp→(Hp→Prop)→Prop
def PSet (X:Cx) (t:TSet):Prop:=
  ∀ (pins:List (Addr × Obj)) (s:Shared) (σ:St) (H:Hp) (o i v:V) (ov iv u:Value) (Q:Hp→Prop),Inv X pins σ H s→RelV o ov→RelV i iv→RelV v u→t o i v H Q→
    wpAny (model X.prog X.w) X.A (setItem ov iv u) (fun _ s'=>∃ H',Inv X pins σ H' s'∧Q H') X.xe s
abbrev TIp:=V→V→Hp→VK→Prop
def PIp (X:Cx) (op:Operator) (t:TIp):Prop:=
  ∀ (pins:List (Addr × Obj)) (s:Shared) (σ:St) (H:Hp) (x y:V) (v u:Value) (Q:VK),Inv X pins σ H s→RelV x v→RelV y u→t x y H Q→
    wpAny (model X.prog X.w) X.A (inplaceOp op v u) (EP X pins σ Q) X.xe s
section
variable {X:Cx}{pos:Pos}
def gName (i:Nat):TG:=fun v σ H Q=>Q (σ.set i (some v)) H
theorem pg_name {i:Nat}{x:Str} (hN:X.N.Nodup) (hi:X.N[i]? = some x) (hx:Loc X.env.scope x) (hf:X.fn x = true∨X.env.scope.names.lookup x = some .local:=by first | exact .inl rfl | exact .inr rfl | assumption):PG X (.Name x pos) (gName i):=by
  intro pins s σ H v u Q I r h
  exact wpAny_assign_Name (store_ok I hN hi hx r (fun s' I'=>⟨_,H,I',h⟩) hf)
def gNil:TGs:=fun vs σ H Q=>vs = []∧Q σ H
def gCons (t:TG) (u:TGs):TGs:=fun vs σ H Q=>∃ v r,vs = v :: r∧t v σ H fun σ' H'=>u r σ' H' Q
theorem pgs_nil:PGs X [] gNil:=by
  intro pins s σ H vs us Q I r h
  obtain ⟨e,h⟩:=h
  subst e
  cases r
  exact assignInOrder_nil ⟨σ,H,I,h⟩
theorem pgs_cons {e:Expr}{es:List Expr}{t:TG}{u:TGs} (h1:PG X e t) (h2:PGs X es u)
    (hs:(assignEach (e :: es) X.env).map (·.2) = assign e X.env :: (assignEach es X.env).map (·.2):=by rfl):PGs X (e :: es) (gCons t u):=by
  intro pins s σ H vs us Q I r h
  obtain ⟨v,vr,e1,h⟩:=h
  subst e1
  cases r with
  | cons r rr=>
    rw [hs]
    refine assignInOrder_cons (thn (h1 pins s σ H _ _ _ I r h) fun _ s1 ⟨σ1,H1,I1,q1⟩=>?_)
    exact h2 pins s1 σ1 H1 _ _ Q I1 rr q1
def gTup (K:PySem.W.Frag) (n:Nat) (t:TGs):TG:=fun v σ H Q=>∃ a xs,v = .ref a∧SqT K H a xs∧xs.length = n∧t xs σ H Q
theorem pg_tup {es:List Expr}{k:Nat}{t:TGs}{n:Nat} (hc:X.calm = true) (h:PGs X es t)
    (hn:(assignEach es X.env).length = n:=by rfl) (hst:(assignEach es X.env).findIdx? (·.1) = none:=by rfl):PG X (.Tuple es k pos) (gTup X.K n t):=by
  intro pins s σ H v u Q I r hw
  obtain ⟨a,xs,e1,hq,hl,hw⟩:=hw
  subst e1
  cases r
  obtain ⟨its,rv,ht,hz⟩:=I.tuple hq
  refine assign_Tuple_tuple (I.ok.hd hc) ht (by simp [hn,← hl,rv.length]) hst fun h' hx=>?_
  have I1:Inv X pins σ H { s with heap:=h' }:=I.kept (t':=s.toks) fun b o e=>hx b o (Nat.ne_of_lt (Heap.lt_size e)) e
  exact h pins _ σ H xs _ Q I1 (by simpa using rv) hw
def gSub (to ti:TE) (t:TSet):TG:=fun v σ H Q=>to σ H fun o H1=>ti σ H1 fun i H2=>t o i v H2 fun H3=>Q σ H3
theorem pg_sub {o i:Expr}{to ti:TE}{t:TSet} (ho:PE X o to) (hi:PE X i ti) (hs:PSet X t)
    (ha:∀ v,assign (.Subscript o i pos) X.env v = (do
      let ov ← holding [v] (eval o X.env)
      let iv ← holding [v,ov] (eval i X.env)
      standAt pos
      holding [v,ov,iv] (setItem ov iv v)
      release [v,ov,iv] []):=by intro _; rfl):PG X (.Subscript o i pos) (gSub to ti t):=by
  intro pins s σ H v u Q I r h
  rw [ha]
  refine wpAny_bind (wpAny_holding (thn (ho pins s σ H _ I h) fun ov s1 ⟨x,H1,I1,r1,q1⟩=>?_))
  refine wpAny_bind (wpAny_holding (thn (hi pins s1 σ H1 _ I1 q1) fun iv s2 ⟨y,H2,I2,r2,q2⟩=>?_))
  refine wpAny_bind (wpAny_standAt (wpAny_bind (wpAny_holding (thn (hs pins s2 σ H2 x y v ov iv u _ I2 r1 r2 r q2) fun _ s3 ⟨H3,I3,q3⟩=>?_))))
  exact wpAny_release ⟨σ,H3,I3,q3⟩
def tAsg (te:TE) (g:TG):TS:=fun D σ H=>te σ H fun x H1=>g x σ H1 D.nx
theorem ps_asg {tg e:Expr}{te:TE}{g:TG} (he:PE X e te) (hg:PG X tg g) (hs:swapsWithSole [tg] e pos.line X.env = pure false:=by rfl) (hw:swappedStores [tg] e X.env = pure none:=by rfl)
    (h1:(assignEach [tg] X.env).map (·.2) = [assign tg X.env]:=by rfl):PS X (.Assign [tg] e pos) (tAsg te g):=by
  intro pins s σ H D I h
  refine wpAny_Assign_stores (thn (he pins s σ H _ I h) fun v s1 ⟨x,H1,I1,r1,q1⟩=>?_) hs hw
  rw [h1]
  exact thn (hg pins s1 σ H1 x v _ I1 r1 q1) fun _ s2 q=>q
theorem ps_set {i:Nat}{x:Str}{e:Expr}{te:TE}{pos':Pos} (hN:X.N.Nodup) (hi:X.N[i]? = some x) (hx:Loc X.env.scope x) (he:PE X e te) (hs:swapsWith e (some (.Name x pos')) pos.line X.env = pure false:=by rfl) (hf:X.fn x = true∨X.env.scope.names.lookup x = some .local:=by first | exact .inl rfl | exact .inr rfl | assumption):
    PS X (.Assign [.Name x pos'] e pos) (tAsg te (gName i)):=by
  intro pins s σ H D I h
  refine wpAny_Assign_Name (thn (he pins s σ H _ I h) fun v s1 ⟨y,H1,I1,r1,q1⟩=>?_) hs
  exact store_ok I1 hN hi hx r1 (fun s2 I2=>⟨_,H1,I2,q1⟩) hf
def tPar (i j:Nat) (ta:TA):TS:=fun D σ H=>ta σ H fun vs H1=>∃ v w,vs = [v,w]∧D.nx ((σ.set i (some v)).set j (some w)) H1
def tAug (i:Nat) (te:TE) (ti:TIp):TS:=fun D σ H=>∃ x,σ[i]? = some (some x)∧te σ H fun y H1=>ti x y H1 fun z H2=>D.nx (σ.set i (some z)) H2
theorem ps_aug {i:Nat}{x:Str}{e:Expr}{te:TE}{op:Operator}{ti:TIp}{pos':Pos} (hN:X.N.Nodup) (hi:X.N[i]? = some x) (hx:Loc X.env.scope x) (he:PE X e te) (ho:PIp X op ti) (hf:X.fn x = true∨X.env.scope.names.lookup x = some .local:=by first | exact .inl rfl | exact .inr rfl | assumption):
    PS X (.AugAssign (.Name x pos') op e pos) (tAug i te ti):=by
  intro pins s σ H D I h
  obtain ⟨v,e1,h⟩:=h
  obtain ⟨m,hn,hl⟩:=I.loc
  have vis:Vis X.env.scope x:=by rcases hx with k | k; exact .inl k; exact .inr (.inl k)
  obtain ⟨u,r,l⟩:=hl i x v hi e1 vis
  refine wpAny_AugAssign_Name ?_
  have go:wpAny (model X.prog X.w) X.A (eval e X.env) (fun w s₂=>wpAny (model X.prog X.w) X.A (inplaceOp op u w) (fun r s₃=>wpAny (model X.prog X.w) X.A (storeName X.env x r) (fun _=>SP X pins D .next) X.xe s₃) X.xe s₂) X.xe s:=by
    refine thn (he pins s σ H _ I h) fun w s1 ⟨y,H1,I1,r1,q1⟩=>?_
    refine thn (ho pins s1 σ H1 v y u w _ I1 r r1 q1) fun z s2 ⟨zv,H2,I2,r2,q2⟩=>?_
    exact store_ok I2 hN hi hx r2 (fun s3 I3=>⟨_,H2,I3,q2⟩) hf
  rcases l with ⟨hk,hm⟩ | ⟨hk,c,hc,hcell⟩
  · exact wpAny_loadName_local I.ok.kind hk hn hm go
  · rcases hk with hk | hk
    · exact wpAny_loadName_cell I.ok.kind hk hc hcell go
    · rcases hx with k | k
      · have:X.env.scope.names.lookup x = some .free:=hk
        rw [k] at this; cases this
      · have:X.env.scope.names.lookup x = some .free:=hk
        rw [k] at this; cases this
def tAugS (to ti te:TE) (tget:V→V→Hp→VK→Prop) (tip:TIp) (tset:TSet):TS:=fun D σ H=>to σ H fun o H1=>ti σ H1 fun i H2=>tget o i H2 fun x H3=>te σ H3 fun y H4=>tip x y H4 fun z H5=>tset o i z H5 fun H6=>D.nx σ H6
def PGet (X:Cx) (t:V→V→Hp→VK→Prop):Prop:=
  ∀ (pins:List (Addr × Obj)) (s:Shared) (σ:St) (H:Hp) (o i:V) (ov iv:Value) (Q:VK),Inv X pins σ H s→RelV o ov→RelV i iv→t o i H Q→
    wpAny (model X.prog X.w) X.A (getItem ov iv) (EP X pins σ Q) X.xe s
def ipI (f:Int→Int→Int):TIp:=fun x y H Q=>∃ i j,x = .int i∧y = .int j∧Q (.int (f i j)) H
end
section
variable {X:Cx}{pos:Pos}
def tWhile (c:TT) (tb:TS):TS:=fun D σ H=>∃ W:Nat→St→Hp→Prop,(∃ m,W m σ H)∧∀ m σ H,W m σ H→
  c σ H fun b H1=>if b = true then ∃ N:St→Hp→Prop,(∀ σ' H',N σ' H'→∃ m',m' < m∧W m' σ' H')∧tb { D with nx:=N,ct:=N,bk:=D.nx } σ H1 else D.nx σ H1
theorem ps_while {c:Expr}{body:List Stmt}{tc:TT}{tb:TS} (hp:PassesOwn (model X.prog X.w) X.A X.env X.xe) (hc:PT X c tc) (hb:PSs X body tb):PS X (.While c body [] pos) (tWhile tc tb):=by
  intro pins s σ H D I h
  obtain ⟨W,⟨m0,w0⟩,turn⟩:=h
  refine wpAny_While (codeAny_whileLoop (fun n s'=>∃ σ' H',Inv X pins σ' H' s'∧W n σ' H') ?_ m0 ⟨σ,H,I,w0⟩)
  rintro n s1 ⟨σ1,H1,I1,w1⟩
  refine wpAny_passesOwn hp (thn (hc pins s1 σ1 H1 _ I1 (turn n σ1 H1 w1)) fun b s2 ⟨H2,I2,q2⟩=>?_)
  cases b with
  | true=>
    obtain ⟨N,hN,q2⟩:=q2
    rw [if_pos rfl]
    refine wpAny_passesOwn hp (thn (hb pins s2 σ1 H2 _ I2 q2) fun f s3 q3=>?_)
    cases f with
    | next=>
      obtain ⟨σ3,H3,I3,n3⟩:=q3
      obtain ⟨m',hm,w3⟩:=hN σ3 H3 n3
      exact ⟨m',hm,σ3,H3,I3,w3⟩
    | cont=>
      obtain ⟨σ3,H3,I3,n3⟩:=q3
      obtain ⟨m',hm,w3⟩:=hN σ3 H3 n3
      exact ⟨m',hm,σ3,H3,I3,w3⟩
    | brk=>exact q3
    | ret v=>exact q3
  | false=>
    rw [if_neg Bool.false_ne_true]
    exact wpAny_execs_nil ⟨σ1,H2,I2,q2⟩
end
structure It where
  go:Nat→Hp→Prop
  yld:Nat→Hp→V→Hp→Prop
  stop:Nat→Hp→Prop
def FpOk (X:Cx) (pins:List (Addr × Obj)) (H:Hp) (b:Addr):Prop:=
  H b = none∧b≠X.env.locals∧b ∉ X.fs∧(b∈X.ex∨X.s₀.heap.objs.size≤b)∧(∀ x c,X.env.cells.lookup x = some c→c≠b)∧∀ p∈X.pn ++ pins,p.1≠b
theorem Inv.fpOk {X:Cx}{pins:List (Addr × Obj)}{σ:St}{H H':Hp}{s:Shared}{b:Addr} (I:Inv X pins σ H s) (hb:s.heap.objs.size≤b) (hn:H' b = none):FpOk X pins H' b:=by
  refine ⟨hn,Nat.ne_of_gt (Nat.lt_of_lt_of_le I.lt hb),I.nofs hb,.inr (Nat.le_trans I.sz hb),fun x c e z=>?_,fun p hp z=>?_⟩
  · obtain ⟨v,q⟩:=I.cell x c e
    exact absurd (Nat.lt_of_lt_of_le q.lt (by rw [z]; exact hb)) (Nat.lt_irrefl _)
  · exact absurd (Nat.lt_of_lt_of_le (Heap.lt_size (I.pin p hp).1) (by rw [z]; exact hb)) (Nat.lt_irrefl _)
structure Turn (P:Program) (w:World) (K:PySem.W.Frag) (tg:Expr) (J:It) (fp:List Addr) (it:Addr) (tn:Nat→Heap→Prop):Prop where
  mem:it∈fp
  obj:∀ i h,tn i h→∀ b∈fp,∃ o,h.get? b = some o∧∀ v,o.data≠.cell v
  keep:∀ i h h',tn i h→(∀ b∈fp,∀ o,h.get? b = some o→h'.get? b = some o)→tn i h'
  item:∀ (X:Cx),X.prog = P→X.w = w→X.K = K→X.calm = true→∀ (i:Nat) (pins:List (Addr × Obj)) (s:Shared) (σ:St) (H:Hp) (E:Value→Shared→Prop),Inv X pins σ H s→(∀ b∈fp,FpOk X pins H b)→tn i s.heap→J.go i H→
    wpAny (model P w) X.A (pyNext (.ref it)) (fun r s1=>∃ u,r = some u ∧
      wpAny (model P w) X.A (letOwnedTupleGo tg (.ref it) u) (fun _ s2=>∃ x H',Inv X pins σ H' s2∧RelV x u∧J.yld i H x H'∧tn (i + 1) s2.heap∧∀ b∈fp,H' b = none) E s1) E s
  done:∀ (X:Cx),X.prog = P→X.w = w→X.K = K→X.calm = true→∀ (i:Nat) (pins:List (Addr × Obj)) (s:Shared) (σ:St) (H:Hp) (E:Value→Shared→Prop),Inv X pins σ H s→(∀ b∈fp,FpOk X pins H b)→tn i s.heap→J.stop i H→
    wpAny (model P w) X.A (pyNext (.ref it)) (fun r s1=>r = none∧Inv X pins σ H s1) E s
  self:∀ (A:Around) (i:Nat) (s:Shared) (Q:Value→Shared→Prop) (E:Value→Shared→Prop),tn i s.heap→Q (.ref it) s→wpAny (model P w) A (pyIter (.ref it)) Q E s
abbrev TI:=St→Hp→(It→Hp→Prop)→Prop
def PIE (X:Cx) (pins:List (Addr × Obj)) (σ:St) (tg:Expr) (R:It→Hp→Prop) (itv:Value) (s2:Shared):Prop:=
  ∃ (it:Addr) (fp:List Addr) (tn:Nat→Heap→Prop) (J:It) (H':Hp),itv = .ref it∧Inv X pins σ H' s2∧Turn X.prog X.w X.K tg J fp it tn∧tn 0 s2.heap∧(∀ b∈fp,FpOk X pins H' b)∧R J H'
def PI (X:Cx) (tg iter:Expr) (wi:TI):Prop:=
  ∀ (pins:List (Addr × Obj)) (s:Shared) (σ:St) (H:Hp) (R:It→Hp→Prop),Inv X pins σ H s→wi σ H R→
    wpAny (model X.prog X.w) X.A (eval iter X.env) (fun v s1=>wpAny (model X.prog X.w) X.A (pyIter v) (PIE X pins σ tg R) X.xe s1) X.xe s
theorem go_of {M:Model}{A:Around}{E:Value→Shared→Prop}{s:Shared}{tg:Expr}{it:Addr}{u:Value}{o:Obj}{n:String}{vs:Array Value}{Q:Unit→Shared→Prop} (ho:s.heap.get? it = some o) (hc:o.cls = .type n) (hd:o.data = .fields vs)
    (hn:["enumerate","zip","dict_itemiterator","dict_reverseitemiterator","odict_iterator","itertools.zip_longest","itertools.pairwise"].contains n = false) (hQ:Q () s):wpAny M A (letOwnedTupleGo tg (.ref it) u) Q E s:=by
  unfold letOwnedTupleGo
  cases tg <;> first
    | exact wpAny_pure hQ
    | (cases u <;> first
        | exact wpAny_pure hQ
        | (refine wpAny_bind (wpAny_load ho ?_)
           rw [hc,hd]
           show wpAny M A (if (["enumerate","zip","dict_itemiterator","dict_reverseitemiterator","odict_iterator","itertools.zip_longest","itertools.pairwise"].contains n && vs[0]? == some (rawInt _)) = true then _ else _) Q E s
           rw [if_neg (by intro h; rw [hn,Bool.false_and] at h; cases h)]
           exact wpAny_pure hQ))
def Itl (K:PySem.W.Frag) (a:Addr):It:=
  ⟨fun i H=>∃ xs x,SqL K H a xs∧xs[i]? = some x,fun i H x H'=>H' = H∧∀ xs,SqL K H a xs→xs[i]? = some x,fun i H=>∃ xs,SqL K H a xs∧xs.length≤i⟩
def Itt (K:PySem.W.Frag) (a:Addr):It:=
  ⟨fun i H=>∃ xs x,SqT K H a xs∧xs[i]? = some x,fun i H x H'=>H' = H∧∀ xs,SqT K H a xs→xs[i]? = some x,fun i H=>∃ xs,SqT K H a xs∧xs.length≤i⟩
def Itr (lo:Int) (n:Nat):It:=⟨fun i _=>i < n,fun i H x H'=>H' = H∧x = .int (lo + i),fun i _=>n≤i⟩
theorem turn_list {P:Program}{w:World}{K:PySem.W.Frag}{tg:Expr} (a it:Addr):Turn P w K tg (Itl K a) [it] it (fun i h=>h.IsListIter it a i) where
  mem:=by simp
  obj:=fun i h st b hb=>by
    have e:b = it:=by simpa using hb
    subst e
    obtain ⟨o,e,c,d⟩:=st
    exact ⟨o,e,fun v z=>by rw [d] at z; cases z⟩
  keep:=fun i h h' st k=>st.at fun o e=>k it (by simp) o e
  item:=by
    intro X hP hw hK hc i pins s σ H E I hf st hg
    subst hP hw hK
    obtain ⟨xs,x,hq,hx⟩:=hg
    obtain ⟨its,rv,p,hz⟩:=I.list hq
    obtain ⟨u,hu,ru⟩:=rv.get hx
    obtain ⟨f0,f1,f2,f3,f4,f5⟩:=hf it (by simp)
    refine wpAny_pyNext_list_item st p.isList (x:=u) (by simpa using hu) fun h' st' sb=>?_
    have I1:Inv X pins σ H { s with heap:=h' }:=I.turned (t':=s.toks) (fun b o hb e=>(sb.2 b hb).trans e) f0 f1 f3 f4 f5
    obtain ⟨o,e,c,d⟩:=id st'
    exact ⟨u,rfl,go_of (s:={ s with heap:=h' }) e c d (by decide) ⟨x,H,I1,ru,⟨rfl,fun ys hy=>by rw [I.list_inj hy hq]; exact hx⟩,st',fun b hb=>(hf b hb).1⟩⟩
  done:=by
    intro X hP hw hK hc i pins s σ H E I hf st hg
    subst hP hw hK
    obtain ⟨xs,hq,hx⟩:=hg
    obtain ⟨its,rv,p,hz⟩:=I.list hq
    obtain ⟨f0,f1,f2,f3,f4,f5⟩:=hf it (by simp)
    have hl:=rv.length
    exact wpAny_pyNext_list_end (I.ok.hd hc) st p.isList (by simp; omega) fun h' eb=>⟨rfl,I.turned (t':=s.toks) (fun b o hb e=>eb b o hb e) f0 f1 f3 f4 f5⟩
  self:=fun _ _ _ _ _ st h=>wpAny_pyIter_listiter st h
theorem turn_tuple {P:Program}{w:World}{K:PySem.W.Frag}{tg:Expr} (a it:Addr):Turn P w K tg (Itt K a) [it] it (fun i h=>h.IsTupleIter it a i) where
  mem:=by simp
  obj:=fun i h st b hb=>by
    have e:b = it:=by simpa using hb
    subst e
    obtain ⟨o,e,c,d⟩:=st
    exact ⟨o,e,fun v z=>by rw [d] at z; cases z⟩
  keep:=fun i h h' st k=>st.at fun o e=>k it (by simp) o e
  item:=by
    intro X hP hw hK hc i pins s σ H E I hf st hg
    subst hP hw hK
    obtain ⟨xs,x,hq,hx⟩:=hg
    obtain ⟨its,rv,p,hz⟩:=I.tuple hq
    obtain ⟨u,hu,ru⟩:=rv.get hx
    obtain ⟨f0,f1,f2,f3,f4,f5⟩:=hf it (by simp)
    refine wpAny_pyNext_tuple_item st (show s.heap.IsTuple a its.toArray from p) (x:=u) (by simpa using hu) fun h' st' sb=>?_
    have I1:Inv X pins σ H { s with heap:=h' }:=I.turned (t':=s.toks) (fun b o hb e=>(sb.2 b hb).trans e) f0 f1 f3 f4 f5
    obtain ⟨o,e,c,d⟩:=id st'
    exact ⟨u,rfl,go_of (s:={ s with heap:=h' }) e c d (by decide) ⟨x,H,I1,ru,⟨rfl,fun ys hy=>by rw [I.tuple_inj hy hq]; exact hx⟩,st',fun b hb=>(hf b hb).1⟩⟩
  done:=by
    intro X hP hw hK hc i pins s σ H E I hf st hg
    subst hP hw hK
    obtain ⟨xs,hq,hx⟩:=hg
    obtain ⟨its,rv,p,hz⟩:=I.tuple hq
    obtain ⟨f0,f1,f2,f3,f4,f5⟩:=hf it (by simp)
    have hl:=rv.length
    exact wpAny_pyNext_tuple_end (I.ok.hd hc) st (show s.heap.IsTuple a its.toArray from p) (by simp; omega) fun h' eb=>⟨rfl,I.turned (t':=s.toks) (fun b o hb e=>eb b o hb e) f0 f1 f3 f4 f5⟩
  self:=fun _ _ _ _ _ st h=>wpAny_pyIter_tupleiter st h
theorem turn_range {P:Program}{w:World}{K:PySem.W.Frag}{tg:Expr} (it:Addr) (lo:Int) (n:Nat):Turn P w K tg (Itr lo n) [it] it (fun i h=>IsRangeIter h it (lo + (i:Nat) * 1) ((n:Int) - (i:Nat)) 1) where
  mem:=by simp
  obj:=fun i h st b hb=>by
    have e:b = it:=by simpa using hb
    subst e
    exact ⟨_,st,fun v z=>by
      have z':Data.fields _ = Data.cell v:=z
      cases z'⟩
  keep:=fun i h h' st k=>k it (by simp) _ st
  item:=by
    intro X hP hw hK hc i pins s σ H E I hf st hg
    subst hP hw hK
    obtain ⟨f0,f1,f2,f3,f4,f5⟩:=hf it (by simp)
    have W:=Walks.range (prog:=X.prog) (w:=X.w) (I.ok.hd hc) it lo 1 n
    refine W.item i s _ _ hg st fun v h' tk hv st' kk=>?_
    obtain ⟨t,rfl⟩:=hv
    have I1:Inv X pins σ H { s with heap:=h',toks:=tk }:=I.turned (fun b o hb e=>kk b o (by simpa using hb) e) f0 f1 f3 f4 f5
    refine ⟨_,rfl,go_of (s:={ s with heap:=h',toks:=tk }) (n:="range_iterator") st' rfl rfl (by decide) ⟨.int (lo + i),H,I1,⟨t,?_⟩,⟨rfl,rfl⟩,st',fun b hb=>(hf b hb).1⟩⟩
    rw [Int.mul_one]
  done:=by
    intro X hP hw hK hc i pins s σ H E I hf st hg
    subst hP hw hK
    obtain ⟨f0,f1,f2,f3,f4,f5⟩:=hf it (by simp)
    exact wpAny_pyNext_range_end (I.ok.hd hc) st (by have:n≤i:=hg; omega) fun h' eb=>⟨rfl,I.turned (t':=s.toks) (fun b o hb e=>eb b o hb e) f0 f1 f3 f4 f5⟩
  self:=fun _ _ _ _ _ st h=>wpAny_pyIter_rangeiter st h
end L2
namespace L2
open PySem PySem.Spec PyProof.Rows
section
variable {X:Cx}{tg:Expr}
def iList (K:PySem.W.Frag) (tl:TE):TI:=fun σ H R=>tl σ H fun x H1=>∃ a,x = .ref a∧(∃ xs,SqL K H1 a xs)∧R (Itl K a) H1
def iTup (K:PySem.W.Frag) (tl:TE):TI:=fun σ H R=>tl σ H fun x H1=>∃ a,x = .ref a∧(∃ xs,SqT K H1 a xs)∧R (Itt K a) H1
theorem pi_list {l:Expr}{tl:TE} (hl:PE X l tl):PI X tg l (iList X.K tl):=by
  intro pins s σ H R I h
  refine thn (hl pins s σ H _ I h) fun v s1 ⟨x,H1,I1,r1,q1⟩=>?_
  obtain ⟨a,e,⟨xs,hq⟩,q⟩:=q1
  subst e
  cases r1
  obtain ⟨its,rv,p,hz⟩:=I1.list hq
  refine wpAny_pyIter_list p.isList ?_
  refine ⟨s1.heap.objs.size,[s1.heap.objs.size],_,_,H1,rfl,I1.kept (t':=s1.toks) fun b o e=>Heap.get?_push_of_some _ e,turn_list a _,⟨_,Heap.get?_push_size _ rfl,rfl,rfl⟩,fun b hb=>?_,q⟩
  have e:b = s1.heap.objs.size:=by simpa using hb
  subst e
  exact I1.fpOk (Nat.le_refl _) (I1.hok.fresh (Nat.le_refl _))
theorem pi_tup {l:Expr}{tl:TE} (hl:PE X l tl):PI X tg l (iTup X.K tl):=by
  intro pins s σ H R I h
  refine thn (hl pins s σ H _ I h) fun v s1 ⟨x,H1,I1,r1,q1⟩=>?_
  obtain ⟨a,e,⟨xs,hq⟩,q⟩:=q1
  subst e
  cases r1
  obtain ⟨its,rv,p,hz⟩:=I1.tuple hq
  refine wpAny_pyIter_tuple (show s1.heap.IsTuple a its.toArray from p) ?_
  refine ⟨s1.heap.objs.size,[s1.heap.objs.size],_,_,H1,rfl,I1.kept (t':=s1.toks) fun b o e=>Heap.get?_push_of_some _ e,turn_tuple a _,⟨_,Heap.get?_push_size _ rfl,rfl,rfl⟩,fun b hb=>?_,q⟩
  have e:b = s1.heap.objs.size:=by simpa using hb
  subst e
  exact I1.fpOk (Nat.le_refl _) (I1.hok.fresh (Nat.le_refl _))
theorem range_it {pins:List (Addr × Obj)}{σ:St}{H:Hp}{s:Shared}{R:It→Hp→Prop}{E:Value→Shared→Prop}{lo hi:Int}{t u v:Tok}{tk:Nat} (I:Inv X pins σ H s) (h1:-(2 ^ 62)≤lo) (h2:lo < 2 ^ 62) (h3:-(2 ^ 62)≤hi) (h4:hi < 2 ^ 62)
    (q:R (Itr lo (hi - lo).toNat) H):wpAny (model X.prog X.w) X.A (pyIter (.ref s.heap.objs.size)) (PIE X pins σ tg R) E { s with heap:=s.heap.push { cls:=.type "range",data:=.fields #[.int lo t,.int hi u,.int 1 v] },toks:=tk }:=by
  refine wpAny_pyIter_range (IsRange.new ..) (small_one h1 h2 h3 h4) ?_
  have I1:Inv X pins σ H { s with heap:=s.heap.push { cls:=.type "range",data:=.fields #[.int lo t,.int hi u,.int 1 v] },toks:=tk }:=I.kept fun b o e=>Heap.get?_push_of_some _ e
  refine ⟨(s.heap.push { cls:=.type "range",data:=.fields #[.int lo t,.int hi u,.int 1 v] }).objs.size,[(s.heap.push { cls:=.type "range",data:=.fields #[.int lo t,.int hi u,.int 1 v] }).objs.size],_,_,H,rfl,
    I1.kept (t':=tk) fun b o e=>Heap.get?_push_of_some _ e,turn_range _ lo (hi - lo).toNat,?_,fun b hb=>?_,q⟩
  · have e1:lo + ((0:Nat):Int) * 1 = lo:=by simp
    have e2:(((hi - lo).toNat:Nat):Int) - ((0:Nat):Int) = Builtin.Range.rangeSize lo hi 1:=by rw [rangeSize_one]; split <;> omega
    show IsRangeIter _ _ (lo + ((0:Nat):Int) * 1) ((((hi - lo).toNat:Nat):Int) - ((0:Nat):Int)) 1
    rw [e1,e2]
    exact Heap.get?_push_size _ rfl
  · have e:b = (s.heap.push { cls:=.type "range",data:=.fields #[.int lo t,.int hi u,.int 1 v] }).objs.size:=by simpa using hb
    subst e
    exact I1.fpOk (Nat.le_refl _) (I1.hok.fresh (Nat.le_refl _))
def iRng1 (ta:TA):TI:=fun σ H R=>ta σ H fun vs H1=>∃ j:Int,vs = [.int j]∧-(2 ^ 62)≤j∧j < 2 ^ 62∧R (Itr 0 j.toNat) H1
def iRng2 (ta:TA):TI:=fun σ H R=>ta σ H fun vs H1=>∃ i j:Int,vs = [.int i,.int j]∧(-(2 ^ 62)≤i∧i < 2 ^ 62∧-(2 ^ 62)≤j∧j < 2 ^ 62)∧R (Itr i (j - i).toNat) H1
theorem pi_range1 {a:Expr}{ta:TA}{p pos:Pos} (hg:Gl X "range") (hm:X.mg "range" = none) (ha:PA X [a] ta) (hs:starEach [a] X.env = [(false,eval a X.env)]:=by rfl):PI X tg (.Call (.Name "range" p) [a] [] pos) (iRng1 ta):=by
  intro pins s σ H R I h
  refine Call_ (ld_blt I hg hm boot_range (PyProof.Rows.callWith_type1 (thn (ha pos pins s σ H _ I h) fun us s1 ⟨vs,H1,I1,r1,q1⟩=>?_) hs rfl))
  obtain ⟨j,e,q1,q2,q⟩:=q1
  subst e
  cases r1 with
  | cons r rr=>
    cases rr
    obtain ⟨t,rfl⟩:=r
    exact call_range_1 (range_it I1 (by omega) (by omega) q1 q2 (by simpa using q))
def tFor (wi:TI) (g:TG) (tb:TS):TS:=fun D σ H=>wi σ H fun J H1=>∃ W:Nat→Nat→St→Hp→Prop,(∃ m,W 0 m σ H1)∧∀ i m σ H,W i m σ H→
  (J.stop i H∧D.nx σ H)∨(J.go i H∧∃ N:St→Hp→Prop,(∀ σ' H',N σ' H'→∃ m',m' < m∧W (i + 1) m' σ' H')∧∀ x H',J.yld i H x H'→g x σ H' fun σ2 H2=>tb { D with nx:=N,ct:=N,bk:=D.nx } σ2 H2)
def pinsAt (fp:List Addr) (h:Heap):List (Addr × Obj):=fp.filterMap fun b=>(h.get? b).map fun o=>(b,o)
theorem mem_pinsAt {fp:List Addr}{h:Heap}{b:Addr}{o:Obj} (hb:b∈fp) (e:h.get? b = some o):(b,o)∈pinsAt fp h:=List.mem_filterMap.mpr ⟨b,hb,by rw [e]; rfl⟩
theorem of_pinsAt {fp:List Addr}{h:Heap}{p:Addr × Obj} (hp:p∈pinsAt fp h):p.1∈fp∧h.get? p.1 = some p.2:=by
  obtain ⟨b,hb,e⟩:=List.mem_filterMap.mp hp
  cases q:h.get? b with
  | none=>rw [q] at e; cases e
  | some o=>
    rw [q] at e
    have e':(b,o) = p:=Option.some.inj e
    subst e'
    exact ⟨hb,q⟩
theorem Inv.pinned {pins:List (Addr × Obj)}{σ:St}{H:Hp}{s:Shared}{fp:List Addr} (I:Inv X pins σ H s) (hf:∀ b∈fp,FpOk X pins H b) (ho:∀ b∈fp,∃ o,s.heap.get? b = some o∧∀ v,o.data≠.cell v):Inv X (pins ++ pinsAt fp s.heap) σ H s:=
  I.pins_of fun p hp=>(List.mem_append.mp hp).elim (fun z=>I.pin p (List.mem_append_right _ z)) fun z=>by
    obtain ⟨hb,e⟩:=of_pinsAt z
    obtain ⟨f0,f1,f2,_⟩:=hf p.1 hb
    obtain ⟨o,e',d⟩:=ho p.1 hb
    rw [e] at e'; cases e'
    exact ⟨e,f0,f1,f2,d⟩
theorem Inv.unpinned {pins pl:List (Addr × Obj)}{σ:St}{H:Hp}{s:Shared} (I:Inv X (pins ++ pl) σ H s):Inv X pins σ H s:=I.pins_of fun p hp=>I.pin p (List.mem_append_right _ (List.mem_append_left _ hp))
theorem ps_for {iter:Expr}{body:List Stmt}{wi:TI}{g:TG}{tb:TS}{pos:Pos} (hp:PassesOwn (model X.prog X.w) X.A X.env X.xe) (hc:X.calm = true) (hi:PI X tg iter wi) (hg:PG X tg g) (hb:PSs X body tb)
    (hs:∀ x,foldedSetIterable iter X.env x = pure x:=by intro _; rfl):PS X (.For tg iter body [] pos) (tFor wi g tb):=by
  intro pins s σ H D I h
  refine wpAny_For (thn (hi pins s σ H _ I h) fun v s1 h1=>thn h1 fun itv s2 h2=>?_) hs
  obtain ⟨it,fp,tn,J,H2,e,I2,T,st2,f2,W,⟨m0,w0⟩,turn⟩:=h2
  subst e
  have stat:∀ {H':Hp},(∀ b∈fp,H' b = none)→∀ b∈fp,FpOk X pins H' b:=fun hn b hb=>⟨hn b hb,(f2 b hb).2⟩
  refine codeAny_forLoop_any (fun n s'=>∃ i σ' H',Inv X pins σ' H' s'∧tn i s'.heap∧(∀ b∈fp,H' b = none)∧W i n σ' H') ?_ m0 ⟨0,σ,H2,I2,st2,fun b hb=>(f2 b hb).1,w0⟩
  rintro n s3 ⟨i,σ3,H3,I3,st3,fr3,w3⟩
  rcases turn i n σ3 H3 w3 with ⟨stop,qn⟩ | ⟨go,N,hN,step⟩
  · refine wpAny_passesOwn hp (thn (T.done X rfl rfl rfl hc i pins s3 σ3 H3 X.xe I3 (stat fr3) st3 stop) fun r s4 ⟨hr,I4⟩=>?_)
    subst hr
    exact wpAny_execs_nil ⟨σ3,H3,I4,qn⟩
  · refine wpAny_passesOwn hp (thn (T.item X rfl rfl rfl hc i pins s3 σ3 H3 X.xe I3 (stat fr3) st3 go) fun r s4 ⟨u,hr,h4⟩=>?_)
    subst hr
    refine wpAny_passesOwn hp (thn h4 fun _ s5 ⟨x,H5,I5,r5,y5,st5,fr5⟩=>?_)
    have I5':=I5.pinned (stat fr5) (T.obj _ _ st5)
    refine wpAny_passesOwn hp (thn (hg _ s5 σ3 H5 x u _ I5' r5 (step x H5 y5)) fun _ s6 ⟨σ6,H6,I6,q6⟩=>?_)
    refine wpAny_passesOwn hp (thn (hb _ s6 σ6 H6 _ I6 q6) fun f s7 q7=>?_)
    have again:∀ {σ7:St}{H7:Hp},Inv X (pins ++ pinsAt fp s5.heap) σ7 H7 s7→N σ7 H7→∃ m,m < n∧∃ i σ' H',Inv X pins σ' H' s7∧tn i s7.heap∧(∀ b∈fp,H' b = none)∧W i m σ' H':=fun {σ7 H7} I7 n7=>by
      obtain ⟨m',hm,w7⟩:=hN σ7 H7 n7
      refine ⟨m',hm,i + 1,σ7,H7,I7.unpinned,T.keep _ _ _ st5 fun b hb o e=>(I7.pin (b,o) (List.mem_append_right _ (List.mem_append_right _ (mem_pinsAt hb e)))).1,fun b hb=>?_,w7⟩
      obtain ⟨o,e,d⟩:=T.obj _ _ st5 b hb
      exact (I7.pin (b,o) (List.mem_append_right _ (List.mem_append_right _ (mem_pinsAt hb e)))).2.1
    cases f with
    | next=>obtain ⟨σ7,H7,I7,n7⟩:=q7; exact again I7 n7
    | cont=>obtain ⟨σ7,H7,I7,n7⟩:=q7; exact again I7 n7
    | brk=>obtain ⟨σ7,H7,I7,q7⟩:=q7; exact ⟨σ7,H7,I7.unpinned,q7⟩
    | ret v=>obtain ⟨x7,σ7,H7,I7,r7,q7⟩:=q7; exact ⟨x7,σ7,H7,I7.unpinned,r7,q7⟩
end
theorem for_list {K:PySem.W.Frag}{a:Addr}{xs:List V}{g:TG}{tb:TS}{D:Ends}{σ:St}{H:Hp} (Pv:Nat→St→Hp→Prop) (h0:Pv 0 σ H) (hl:∀ i σ H,i≤xs.length→Pv i σ H→SqL K H a xs)
    (hs:∀ i x σ H,xs[i]? = some x→Pv i σ H→g x σ H fun σ2 H2=>tb { D with nx:=Pv (i + 1),ct:=Pv (i + 1),bk:=D.nx } σ2 H2) (hd:∀ σ H,Pv xs.length σ H→D.nx σ H):
    ∃ W:Nat→Nat→St→Hp→Prop,(∃ m,W 0 m σ H)∧∀ i m σ H,W i m σ H→
      ((Itl K a).stop i H∧D.nx σ H)∨((Itl K a).go i H∧∃ N:St→Hp→Prop,(∀ σ' H',N σ' H'→∃ m',m' < m∧W (i + 1) m' σ' H')∧∀ x H',(Itl K a).yld i H x H'→g x σ H' fun σ2 H2=>tb { D with nx:=N,ct:=N,bk:=D.nx } σ2 H2):=by
  refine ⟨fun i m σ H=>m = xs.length - i∧i≤xs.length∧Pv i σ H,⟨xs.length,by simp,Nat.zero_le _,h0⟩,?_⟩
  rintro i m σ H ⟨rfl,hi,p⟩
  have q:=hl i σ H hi p
  by_cases hlt:i < xs.length
  · refine .inr ⟨⟨xs,xs[i],q,by simp [hlt]⟩,Pv (i + 1),fun σ' H' p'=>⟨xs.length - (i + 1),by omega,rfl,hlt,p'⟩,fun x H' y=>?_⟩
    obtain ⟨e,y⟩:=y
    subst e
    exact hs i x σ _ (y xs q) p
  · have e:i = xs.length:=by omega
    subst e
    exact .inl ⟨⟨xs,q,Nat.le_refl _⟩,hd σ H p⟩
theorem for_tup {K:PySem.W.Frag}{a:Addr}{xs:List V}{g:TG}{tb:TS}{D:Ends}{σ:St}{H:Hp} (Pv:Nat→St→Hp→Prop) (h0:Pv 0 σ H) (hl:∀ i σ H,i≤xs.length→Pv i σ H→SqT K H a xs)
    (hs:∀ i x σ H,xs[i]? = some x→Pv i σ H→g x σ H fun σ2 H2=>tb { D with nx:=Pv (i + 1),ct:=Pv (i + 1),bk:=D.nx } σ2 H2) (hd:∀ σ H,Pv xs.length σ H→D.nx σ H):
    ∃ W:Nat→Nat→St→Hp→Prop,(∃ m,W 0 m σ H)∧∀ i m σ H,W i m σ H→
      ((Itt K a).stop i H∧D.nx σ H)∨((Itt K a).go i H∧∃ N:St→Hp→Prop,(∀ σ' H',N σ' H'→∃ m',m' < m∧W (i + 1) m' σ' H')∧∀ x H',(Itt K a).yld i H x H'→g x σ H' fun σ2 H2=>tb { D with nx:=N,ct:=N,bk:=D.nx } σ2 H2):=by
  refine ⟨fun i m σ H=>m = xs.length - i∧i≤xs.length∧Pv i σ H,⟨xs.length,by simp,Nat.zero_le _,h0⟩,?_⟩
  rintro i m σ H ⟨rfl,hi,p⟩
  have q:=hl i σ H hi p
  by_cases hlt:i < xs.length
  · refine .inr ⟨⟨xs,xs[i],q,by simp [hlt]⟩,Pv (i + 1),fun σ' H' p'=>⟨xs.length - (i + 1),by omega,rfl,hlt,p'⟩,fun x H' y=>?_⟩
    obtain ⟨e,y⟩:=y
    subst e
    exact hs i x σ _ (y xs q) p
  · have e:i = xs.length:=by omega
    subst e
    exact .inl ⟨⟨xs,q,Nat.le_refl _⟩,hd σ H p⟩
theorem for_range {lo:Int}{n:Nat}{g:TG}{tb:TS}{D:Ends}{σ:St}{H:Hp} (Pv:Nat→St→Hp→Prop) (h0:Pv 0 σ H)
    (hs:∀ i σ H,i < n→Pv i σ H→g (.int (lo + i)) σ H fun σ2 H2=>tb { D with nx:=Pv (i + 1),ct:=Pv (i + 1),bk:=D.nx } σ2 H2) (hd:∀ σ H,Pv n σ H→D.nx σ H):
    ∃ W:Nat→Nat→St→Hp→Prop,(∃ m,W 0 m σ H)∧∀ i m σ H,W i m σ H→
      ((Itr lo n).stop i H∧D.nx σ H)∨((Itr lo n).go i H∧∃ N:St→Hp→Prop,(∀ σ' H',N σ' H'→∃ m',m' < m∧W (i + 1) m' σ' H')∧∀ x H',(Itr lo n).yld i H x H'→g x σ H' fun σ2 H2=>tb { D with nx:=N,ct:=N,bk:=D.nx } σ2 H2):=by
  refine ⟨fun i m σ H=>m = n - i∧i≤n∧Pv i σ H,⟨n,by simp,Nat.zero_le _,h0⟩,?_⟩
  rintro i m σ H ⟨rfl,hi,p⟩
  by_cases hlt:i < n
  · refine .inr ⟨hlt,Pv (i + 1),fun σ' H' p'=>⟨n - (i + 1),by omega,rfl,hlt,p'⟩,fun x H' y=>?_⟩
    obtain ⟨e,y⟩:=y
    subst e y
    exact hs i σ _ hlt p
  · have e:i = n:=by omega
    subst e
    exact .inl ⟨Nat.le_refl _,hd σ H p⟩
end L2
namespace L2
open PySem PySem.Spec PyProof.Rows
abbrev R2:=V→V→Hp→VK→Prop
def OpR (X:Cx) (f:Value→Value→Sem Value) (r:R2):Prop:=
  ∀ (pins:List (Addr × Obj)) (s:Shared) (σ:St) (H:Hp) (x y:V) (v u:Value) (Q:VK),Inv X pins σ H s→RelV x v→RelV y u→r x y H Q→
    wpAny (model X.prog X.w) X.A (f v u) (EP X pins σ Q) X.xe s
def UnR (X:Cx) (f:Value→Sem Value) (r:V→Hp→VK→Prop):Prop:=
  ∀ (pins:List (Addr × Obj)) (s:Shared) (σ:St) (H:Hp) (x:V) (v:Value) (Q:VK),Inv X pins σ H s→RelV x v→r x H Q→
    wpAny (model X.prog X.w) X.A (f v) (EP X pins σ Q) X.xe s
def CallR (X:Cx) (f:Value) (r:List V→Hp→VK→Prop):Prop:=
  ∀ (pins:List (Addr × Obj)) (s:Shared) (σ:St) (H:Hp) (xs:List V) (us:List Value) (Q:VK),Inv X pins σ H s→Vals xs us→r xs H Q→
    wpAny (model X.prog X.w) X.A (call f us) (EP X pins σ Q) X.xe s
def TruR (X:Cx) (r:V→Hp→(Bool→Hp→Prop)→Prop):Prop:=
  ∀ (pins:List (Addr × Obj)) (s:Shared) (σ:St) (H:Hp) (x:V) (v:Value) (Q:Bool→Hp→Prop),Inv X pins σ H s→RelV x v→r x H Q→
    wpAny (model X.prog X.w) X.A (truthy v) (TP X pins σ Q) X.xe s
def tOp (r:R2) (ta tb:TE):TE:=fun σ H Q=>ta σ H fun x H1=>tb σ H1 fun y H2=>r x y H2 Q
def tUn (r:V→Hp→VK→Prop) (ta:TE):TE:=fun σ H Q=>ta σ H fun x H1=>r x H1 Q
def rI (C:Int→Int→Prop) (g:Int→Int→V):R2:=fun x y H Q=>∃ i j,x = .int i∧y = .int j∧C i j∧Q (g i j) H
def rI0 (g:Int→Int→V):R2:=fun x y H Q=>∃ i j,x = .int i∧y = .int j∧Q (g i j) H
def rU (g:Int→V):V→Hp→VK→Prop:=fun x H Q=>∃ i,x = .int i∧Q (g i) H
section
variable {X:Cx}{a b c:Expr}{ta tb tc:TE}{pos:Pos}
theorem binT (ha:PE X a ta) (hb:PE X b tb) {pins:List (Addr × Obj)}{s:Shared}{σ:St}{H:Hp}{R:V→V→Hp→Prop} (I:Inv X pins σ H s)
    (h:ta σ H fun x H1=>tb σ H1 fun y H2=>R x y H2) {Q:Value→Shared→Prop}{f:Value→Value→Sem Value}
    (hf:∀ v u s2 x y H2,Inv X pins σ H2 s2→RelV x v→RelV y u→R x y H2→wpAny (model X.prog X.w) X.A (f v u) Q X.xe s2):
    wpAny (model X.prog X.w) X.A (eval a X.env) (fun v s₁=>wpAny (model X.prog X.w) X.A (eval b X.env) (fun u s₂=>wpAny (model X.prog X.w) X.A (f v u) Q X.xe s₂) X.xe s₁) X.xe s:=by
  refine thn (ha pins s σ H _ I h) fun v s1 ⟨x,H1,I1,r1,q1⟩=>?_
  refine thn (hb pins s1 σ H1 _ I1 q1) fun u s2 ⟨y,H2,I2,r2,q2⟩=>?_
  exact hf v u s2 x y H2 I2 r1 r2 q2
theorem pe_op {op:Operator}{r:R2} (ho:OpR X (binaryOp op) r) (ha:PE X a ta) (hb:PE X b tb):PE X (.BinOp a op b pos) (tOp r ta tb):=by
  intro pins s σ H Q I h
  exact wpAny_BinOp (binT ha hb I h fun v u s2 x y H2 I2 rx ry q=>ho pins s2 σ H2 x y v u Q I2 rx ry q)
theorem pe_un {op:UnaryOp}{r:V→Hp→VK→Prop} (ho:UnR X (unaryOp op) r) (ha:PE X a ta):PE X (.UnaryOp op a pos) (tUn r ta):=by
  intro pins s σ H Q I h
  exact UnaryOp_ (thn (ha pins s σ H _ I h) fun v s1 ⟨x,H1,I1,r1,q1⟩=>ho pins s1 σ H1 x v Q I1 r1 q1)
theorem opI {f:Value→Value→Sem Value}{C:Int→Int→Prop}{g:Int→Int→Int}
    (rule:∀ (i j:Int) (t u:Tok) (s:Shared) (Q:Value→Shared→Prop) (E:Value→Shared→Prop),C i j→Q (.int (g i j) s.toks) { s with toks:=s.toks + 1 }→wpAny (model X.prog X.w) X.A (f (.int i t) (.int j u)) Q E s):
    OpR X f (rI C fun i j=>.int (g i j)):=by
  intro pins s σ H x y v u Q I rx ry h
  obtain ⟨i,j,rfl,rfl,hc,q⟩:=h
  obtain ⟨t,rfl⟩:=rx
  obtain ⟨t',rfl⟩:=ry
  exact rule i j t t' s _ _ hc ⟨.int (g i j),H,I.tok _,⟨_,rfl⟩,q⟩
theorem opI0 {f:Value→Value→Sem Value}{g:Int→Int→Int}
    (rule:∀ (i j:Int) (t u:Tok) (s:Shared) (Q:Value→Shared→Prop) (E:Value→Shared→Prop),Q (.int (g i j) s.toks) { s with toks:=s.toks + 1 }→wpAny (model X.prog X.w) X.A (f (.int i t) (.int j u)) Q E s):
    OpR X f (rI0 fun i j=>.int (g i j)):=by
  intro pins s σ H x y v u Q I rx ry h
  obtain ⟨i,j,rfl,rfl,q⟩:=h
  obtain ⟨t,rfl⟩:=rx
  obtain ⟨t',rfl⟩:=ry
  exact rule i j t t' s _ _ ⟨.int (g i j),H,I.tok _,⟨_,rfl⟩,q⟩
theorem opB0 {f:Value→Value→Sem Value}{g:Int→Int→Bool}
    (rule:∀ (i j:Int) (t u:Tok) (s:Shared) (Q:Value→Shared→Prop) (E:Value→Shared→Prop),Q (.bool (g i j)) s→wpAny (model X.prog X.w) X.A (f (.int i t) (.int j u)) Q E s):
    OpR X f (rI0 fun i j=>.bl (g i j)):=by
  intro pins s σ H x y v u Q I rx ry h
  obtain ⟨i,j,rfl,rfl,q⟩:=h
  obtain ⟨t,rfl⟩:=rx
  obtain ⟨t',rfl⟩:=ry
  exact rule i j t t' s _ _ ⟨.bl (g i j),H,I,rfl,q⟩
def CDiv (i j:Int):Prop:=0 < j∧j < 1073741824
def CDivN (i j:Int):Prop:=j≠0∧j.natAbs < 1073741824
def CPow (i j:Int):Prop:=0≤j∧j≤1000000∧i.natAbs < 2 ^ 64
def CMul (i j:Int):Prop:=(-(2 ^ 64) < i∧i < 2 ^ 64)∨(-(2 ^ 64) < j∧j < 2 ^ 64)
theorem CMul.ok {i j:Int} (h:CMul i j):IntMulOk i j:=by
  rcases h with ⟨h1,h2⟩ | ⟨h1,h2⟩
  · exact .of_left (intBits_le_64 h1 h2)
  · exact .of_right (intBits_le_64 h1 h2)
theorem op_add:OpR X (binaryOp .Add) (rI0 fun i j=>.int (i + j)):=opI0 fun _ _ _ _ _ _ _ q=>add_int q
theorem op_sub:OpR X (binaryOp .Sub) (rI0 fun i j=>.int (i - j)):=opI0 fun _ _ _ _ _ _ _ q=>sub_int q
theorem op_mul:OpR X (binaryOp .Mult) (rI CMul fun i j=>.int (i * j)):=opI fun _ _ _ _ _ _ _ hc q=>mul_int q hc.ok
theorem op_mod:OpR X (binaryOp .Mod) (rI (fun _ j=>0 < j) fun i j=>.int (i % j)):=opI fun i j _ _ _ _ _ hc q=>by
  have h1:(0:Int) < j:=hc
  exact mod_int' (by omega) (by rw [Int.fmod_eq_emod_of_nonneg i (by omega)]; exact q)
theorem op_pow:OpR X (binaryOp .Pow) (rI CPow fun i j=>.int (i ^ j.toNat)):=opI fun _ _ _ _ _ _ _ hc q=>pow_int_small hc.1 hc.2.1 hc.2.2 q
theorem iop_add:OpR X (inplaceOp .Add) (rI0 fun i j=>.int (i + j)):=opI0 fun _ _ _ _ _ _ _ q=>iadd_int q
theorem unI {f:Value→Sem Value}{g:Int→Int}
    (rule:∀ (i:Int) (t:Tok) (s:Shared) (Q:Value→Shared→Prop) (E:Value→Shared→Prop),Q (.int (g i) s.toks) { s with toks:=s.toks + 1 }→wpAny (model X.prog X.w) X.A (f (.int i t)) Q E s):
    UnR X f (rU fun i=>.int (g i)):=by
  intro pins s σ H x v Q I rx h
  obtain ⟨i,rfl,q⟩:=h
  obtain ⟨t,rfl⟩:=rx
  exact rule i t s _ _ ⟨.int (g i),H,I.tok _,⟨_,rfl⟩,q⟩
theorem un_neg:UnR X (unaryOp .USub) (rU fun i=>.int (-i)):=unI fun _ _ _ _ _ q=>neg_int q
end
def scal:V→V→Bool
  | .non,.non=>true | .non,.int _=>true | .int _,.non=>true | .non,.bl _=>true | .bl _,.non=>true | .non,.str _=>true | .str _,.non=>true
  | .int _,.int _=>true | .bl _,.bl _=>true | .str _,.str _=>true | .byt _,.byt _=>true
  | .int _,.str _=>true | .str _,.int _=>true | .bl _,.str _=>true | .str _,.bl _=>true
  | _,_=>false
def rEq:R2:=fun x y H Q=>scal x y = true∧Q (.bl (decide (x = y))) H
def rNe:R2:=fun x y H Q=>scal x y = true∧Q (.bl (!decide (x = y))) H
theorem dec_int {i j:Int}:decide (V.int i = V.int j) = (i == j):=by
  rw [Bool.eq_iff_iff]
  simp
theorem dec_bl {i j:Bool}:decide (V.bl i = V.bl j) = (i == j):=by
  rw [Bool.eq_iff_iff]
  simp
theorem dec_str {i j:Str}:decide (V.str i = V.str j) = (i == j):=by
  rw [Bool.eq_iff_iff]
  simp
theorem dec_byt {i j:Array UInt8}:decide (V.byt i = V.byt j) = (i.toList == j.toList):=by
  rw [Bool.eq_iff_iff]
  cases i
  cases j
  simp
section
variable {X:Cx}{a b c:Expr}{ta tb tc:TE}{pos:Pos}
theorem fin_bl {pins:List (Addr × Obj)}{σ:St}{H:Hp}{s:Shared}{Q:VK}{k k':Bool} (I:Inv X pins σ H s) (q:Q (.bl k) H) (e:k = k'):EP X pins σ Q (.bool k') s:=by
  subst e
  exact ⟨.bl k,H,I,rfl,q⟩
theorem op_eq:OpR X (compareOp .Eq) rEq:=by
  intro pins s σ H x y v u Q I rx ry h
  obtain ⟨hs,q⟩:=h
  cases x with
  | non=>
    cases rx
    cases y with
    | non=>cases ry; exact PySem.EqNone.eq_none_none (fin_bl I q (by simp))
    | bl j=>cases ry; exact PySem.EqNone.eq_none_bool (fin_bl I q (by simp))
    | int j=>obtain ⟨t',rfl⟩:=ry; exact PySem.EqNone.eq_none_int (fin_bl I q (by simp))
    | str j=>obtain ⟨t',rfl⟩:=ry; exact PySem.EqNone.eq_none_str (fin_bl I q (by simp))
    | _=>exact absurd (show false = true from hs) Bool.false_ne_true
  | bl i=>
    cases rx
    cases y with
    | non=>cases ry; exact PySem.EqNone.eq_bool_none (fin_bl I q (by simp))
    | bl j=>cases ry; exact eq_bool (fin_bl I q dec_bl)
    | str j=>obtain ⟨t',rfl⟩:=ry; exact PySem.EqMixed.eq_bool_str (fin_bl I q (by simp))
    | _=>exact absurd (show false = true from hs) Bool.false_ne_true
  | int i=>
    obtain ⟨t,rfl⟩:=rx
    cases y with
    | non=>cases ry; exact PySem.EqNone.eq_int_none (fin_bl I q (by simp))
    | int j=>obtain ⟨t',rfl⟩:=ry; exact eq_int (fin_bl I q dec_int)
    | str j=>obtain ⟨t',rfl⟩:=ry; exact PySem.EqMixed.eq_int_str (fin_bl I q (by simp))
    | _=>exact absurd (show false = true from hs) Bool.false_ne_true
  | str i=>
    obtain ⟨t,rfl⟩:=rx
    cases y with
    | non=>cases ry; exact PySem.EqNone.eq_str_none (fin_bl I q (by simp))
    | bl j=>cases ry; exact PySem.EqMixed.eq_str_bool (fin_bl I q (by simp))
    | int j=>obtain ⟨t',rfl⟩:=ry; exact PySem.EqMixed.eq_str_int (fin_bl I q (by simp))
    | str j=>obtain ⟨t',rfl⟩:=ry; exact eq_str (fin_bl I q dec_str)
    | _=>exact absurd (show false = true from hs) Bool.false_ne_true
  | byt i=>
    obtain ⟨t,rfl⟩:=rx
    cases y with
    | byt j=>obtain ⟨t',rfl⟩:=ry; exact PySem.W.eq_bytes (fin_bl I q dec_byt)
    | _=>exact absurd (show false = true from hs) Bool.false_ne_true
  | _=>cases y <;> exact absurd (show false = true from hs) Bool.false_ne_true
theorem op_ne:OpR X (compareOp .NotEq) rNe:=by
  intro pins s σ H x y v u Q I rx ry h
  obtain ⟨hs,q⟩:=h
  cases x with
  | non=>
    cases rx
    cases y with
    | non=>cases ry; exact PySem.EqNone.ne_none_none (fin_bl I q (by simp))
    | bl j=>cases ry; exact PySem.EqNone.ne_none_bool (fin_bl I q (by simp))
    | int j=>obtain ⟨t',rfl⟩:=ry; exact PySem.EqNone.ne_none_int (fin_bl I q (by simp))
    | str j=>obtain ⟨t',rfl⟩:=ry; exact PySem.EqNone.ne_none_str (fin_bl I q (by simp))
    | _=>exact absurd (show false = true from hs) Bool.false_ne_true
  | bl i=>
    cases rx
    cases y with
    | non=>cases ry; exact PySem.EqNone.ne_bool_none (fin_bl I q (by simp))
    | bl j=>cases ry; exact ne_bool (fin_bl I q (congrArg not dec_bl))
    | str j=>obtain ⟨t',rfl⟩:=ry; exact PySem.EqMixed.ne_bool_str (fin_bl I q (by simp))
    | _=>exact absurd (show false = true from hs) Bool.false_ne_true
  | int i=>
    obtain ⟨t,rfl⟩:=rx
    cases y with
    | non=>cases ry; exact PySem.EqNone.ne_int_none (fin_bl I q (by simp))
    | int j=>obtain ⟨t',rfl⟩:=ry; exact ne_int (fin_bl I q (congrArg not dec_int))
    | str j=>obtain ⟨t',rfl⟩:=ry; exact PySem.EqMixed.ne_int_str (fin_bl I q (by simp))
    | _=>exact absurd (show false = true from hs) Bool.false_ne_true
  | str i=>
    obtain ⟨t,rfl⟩:=rx
    cases y with
    | non=>cases ry; exact PySem.EqNone.ne_str_none (fin_bl I q (by simp))
    | bl j=>cases ry; exact PySem.EqMixed.ne_str_bool (fin_bl I q (by simp))
    | int j=>obtain ⟨t',rfl⟩:=ry; exact PySem.EqMixed.ne_str_int (fin_bl I q (by simp))
    | str j=>obtain ⟨t',rfl⟩:=ry; exact ne_str (fin_bl I q (congrArg not dec_str))
    | _=>exact absurd (show false = true from hs) Bool.false_ne_true
  | byt i=>
    obtain ⟨t,rfl⟩:=rx
    cases y with
    | byt j=>obtain ⟨t',rfl⟩:=ry; exact PySem.W.ne_bytes (fin_bl I q (congrArg not dec_byt))
    | _=>exact absurd (show false = true from hs) Bool.false_ne_true
  | _=>cases y <;> exact absurd (show false = true from hs) Bool.false_ne_true
theorem op_lt:OpR X (compareOp .Lt) (rI0 fun i j=>.bl (decide (i < j))):=opB0 fun _ _ _ _ _ _ _ q=>lt_int q
theorem op_le:OpR X (compareOp .LtE) (rI0 fun i j=>.bl (decide (i≤j))):=opB0 fun _ _ _ _ _ _ _ q=>le_int q
theorem op_gt:OpR X (compareOp .Gt) (rI0 fun i j=>.bl (decide (j < i))):=opB0 fun _ _ _ _ _ _ _ q=>gt_int q
def isObj:HO→Bool
  | .lst _=>true
  | .ins _ _ _=>true
  | _=>false
theorem OpR.or {f:Value→Value→Sem Value}{r r':R2} (h:OpR X f r) (h':OpR X f r'):OpR X f (fun x y H Q=>r x y H Q∨r' x y H Q):=by
  intro pins s σ H x y v u Q I rx ry q
  rcases q with q | q
  · exact h pins s σ H x y v u Q I rx ry q
  · exact h' pins s σ H x y v u Q I rx ry q
theorem nomark (b:Expr) {op:CmpOp} (h:op≠.In:=by decide) (h2:op≠.NotIn:=by decide):behindInMarks op b = false:=by
  have e1:(op == CmpOp.In) = false:=by cases op <;> first | rfl | exact absurd rfl h
  have e2:(op == CmpOp.NotIn) = false:=by cases op <;> first | rfl | exact absurd rfl h2
  cases b <;> simp [behindInMarks,e1,e2]
theorem pe_cmpR {op:CmpOp}{r:R2} (ho:OpR X (compareOp op) r) (ha:PE X a ta) (hb:PE X b tb) (hm:behindInMarks op b = false):PE X (.Compare a [op] [b] pos) (tOp r ta tb):=by
  intro pins s σ H Q I h
  exact wpAny_Compare1 (binT ha hb I h fun v u s2 x y H2 I2 rx ry q=>ho pins s2 σ H2 x y v u Q I2 rx ry q) hm
def tTest (t:TE):TT:=fun σ H Q=>t σ H fun x H'=>∃ k,x = .bl k∧Q k H'
theorem pt_cmpR {op:CmpOp}{r:R2} (ho:OpR X (compareOp op) r) (ha:PE X a ta) (hb:PE X b tb) (hm:behindInMarks op b = false):PT X (.Compare a [op] [b] pos) (tTest (tOp r ta tb)):=by
  intro pins s σ H Q I h
  refine wpAny_isTrue_Compare1 (thn (ha pins s σ H _ I h) fun v s1 ⟨x,H1,I1,r1,q1⟩=>thn (hb pins s1 σ H1 _ I1 q1) fun u s2 ⟨y,H2,I2,r2,q2⟩=>
    thn (ho pins s2 σ H2 x y v u _ I2 r1 r2 q2) fun c s3 ⟨z,H3,I3,r3,k,e,q3⟩=>?_) hm
  subst e
  cases r3
  exact wpAny_truthy_bool ⟨H3,I3,q3⟩
def tChain (r r':R2) (ta tb tc:TE):TE:=fun σ H Q=>ta σ H fun x H1=>tb σ H1 fun y H2=>r x y H2 fun z H3=>∃ k,z = .bl k ∧
  (if k = true then tc σ H3 fun w' H4=>r' y w' H4 Q else Q (.bl false) H3)
theorem pe_chain {op op':CmpOp}{r r':R2} (ho:OpR X (compareOp op) r) (ho':OpR X (compareOp op') r') (ha:PE X a ta) (hb:PE X b tb) (hc:PE X c tc)
    (hm:lastMarks [op,op'] [b,c] = false:=by with_unfolding_all rfl):PE X (.Compare a [op,op'] [b,c] pos) (tChain r r' ta tb tc):=by
  intro pins s σ H Q I h
  refine Compare_chain (thn (ha pins s σ H _ I h) fun v s1 ⟨x,H1,I1,r1,q1⟩=>chain_link (thn (hb pins s1 σ H1 _ I1 q1) fun u s2 ⟨y,H2,I2,r2,q2⟩=>
    thn (ho pins s2 σ H2 x y v u _ I2 r1 r2 q2) fun d s3 ⟨z,H3,I3,r3,k,e,q3⟩=>?_)) hm
  subst e
  cases r3
  refine wpAny_truthy_bool ?_
  cases k with
  | false=>exact ite_ff ⟨.bl false,H3,I3,rfl,q3⟩
  | true=>exact ite_tt (chain_last (thn (hc pins s3 σ H3 _ I3 q3) fun w' s4 ⟨z',H4,I4,r4,q4⟩=>ho' pins s4 σ H4 y z' u w' Q I4 r2 r4 q4))
theorem pt_chain {op op':CmpOp}{r r':R2} (ho:OpR X (compareOp op) r) (ho':OpR X (compareOp op') r') (ha:PE X a ta) (hb:PE X b tb) (hc:PE X c tc)
    (hm:lastMarks [op,op'] [b,c] = false:=by with_unfolding_all rfl):PT X (.Compare a [op,op'] [b,c] pos) (tTest (tChain r r' ta tb tc)):=by
  intro pins s σ H Q I h
  refine isTrue_chain (thn (ha pins s σ H _ I h) fun v s1 ⟨x,H1,I1,r1,q1⟩=>test_link (thn (hb pins s1 σ H1 _ I1 q1) fun u s2 ⟨y,H2,I2,r2,q2⟩=>
    thn (ho pins s2 σ H2 x y v u _ I2 r1 r2 q2) fun d s3 ⟨z,H3,I3,r3,k,e,q3⟩=>?_)) hm
  subst e
  cases r3
  refine wpAny_truthy_bool ?_
  cases k with
  | false=>
    obtain ⟨k',e',q'⟩:=q3
    cases e'
    exact ite_ff ⟨H3,I3,q'⟩
  | true=>
    refine ite_tt (test_last (thn (hc pins s3 σ H3 _ I3 q3) fun w' s4 ⟨z',H4,I4,r4,q4⟩=>thn (ho' pins s4 σ H4 y z' u w' _ I4 r2 r4 q4) fun d' s5 ⟨z2,H5,I5,r5,k2,e2,q5⟩=>?_))
    subst e2
    cases r5
    exact wpAny_truthy_bool ⟨H5,I5,q5⟩
def TruV (K:PySem.W.Frag) (x:V) (H:Hp) (k:Bool):Prop:=
  match x with
  | .non=>k = false
  | .bl b=>k = b
  | .int i=>k = (i != 0)
  | .str y=>y.length≤sizeLine∧k = ((y.length:Int) != 0)
  | .byt y=>y.size≤sizeLine∧k = ((y.size:Int) != 0)
  | .ref p=>(∃ xs,SqL K H p xs∧k = !xs.isEmpty)∨(∃ xs,SqT K H p xs∧k = !xs.isEmpty)∨∃ kvs,H p = some (.dK kvs)∧k = !kvs.isEmpty
  | _=>False
theorem line63:(sizeLine:Nat) < 2 ^ 63:=by rw [sizeLine_eq]; decide
theorem op_add_str:OpR X (binaryOp .Add) (fun x y H Q=>∃ i j,x = .str i∧y = .str j∧i.length + j.length≤sizeLine∧Q (.str (i ++ j)) H):=by
  intro pins s σ H x y v u Q I rx ry h
  obtain ⟨i,j,rfl,rfl,hz,q⟩:=h
  obtain ⟨t,rfl⟩:=rx
  obtain ⟨t',rfl⟩:=ry
  exact add_str (fun t' tk=>⟨.str (i ++ j),H,I.tok _,⟨_,rfl⟩,q⟩) hz
def PlainIxT (b:Expr):Prop:=∀ o i,subscripted b false o i = operate [o,i] (getItem o i)
theorem vals1 {x:V}{us:List Value} (r:Vals [x] us):∃ u,us = [u]∧RelV x u:=by
  cases r with
  | cons r1 r2=>cases r2; exact ⟨_,rfl,r1⟩
theorem vals2 {x y:V}{us:List Value} (r:Vals [x,y] us):∃ u w',us = [u,w']∧RelV x u∧RelV y w':=by
  cases r with
  | cons r1 r2=>
    cases r2 with
    | cons r3 r4=>cases r4; exact ⟨_,_,rfl,r1,r3⟩
theorem call_abs:CallR X (.builtin "abs") (fun xs H Q=>∃ i,xs = [.int i]∧Q (.int (if i < 0 then -i else i)) H):=by
  intro pins s σ H xs us Q I r h
  obtain ⟨i,rfl,q⟩:=h
  obtain ⟨u,rfl,t,rfl⟩:=vals1 r
  exact call_abs_int fun u tk=>⟨.int (if i < 0 then -i else i),H,I.tok _,⟨_,rfl⟩,q⟩
theorem call_max2 (hc:X.calm = true):CallR X (.builtin "max") (fun xs H Q=>∃ i j,xs = [.int i,.int j]∧Q (.int (if j > i then j else i)) H):=by
  intro pins s σ H xs us Q I r h
  obtain ⟨i,j,rfl,q⟩:=h
  obtain ⟨u,w',rfl,⟨t,rfl⟩,⟨t',rfl⟩⟩:=vals2 r
  refine max_two_ints (I.ok.hd hc) fun h' tk k=>⟨_,H,I.kept k,?_,q⟩
  by_cases hj:j > i
  · rw [if_pos hj,if_pos hj]; exact ⟨_,rfl⟩
  · rw [if_neg hj,if_neg hj]; exact ⟨_,rfl⟩
theorem call_min2 (hc:X.calm = true):CallR X (.builtin "min") (fun xs H Q=>∃ i j,xs = [.int i,.int j]∧Q (.int (if j < i then j else i)) H):=by
  intro pins s σ H xs us Q I r h
  obtain ⟨i,j,rfl,q⟩:=h
  obtain ⟨u,w',rfl,⟨t,rfl⟩,⟨t',rfl⟩⟩:=vals2 r
  refine min_two_ints (I.ok.hd hc) fun h' tk k=>⟨_,H,I.kept k,?_,q⟩
  by_cases hj:j < i
  · rw [if_pos hj,if_pos hj]; exact ⟨_,rfl⟩
  · rw [if_neg hj,if_neg hj]; exact ⟨_,rfl⟩
theorem call_int1:CallR X (.type "int") (fun xs H Q=>(∃ i,xs = [.int i]∧Q (.int i) H)∨∃ k,xs = [.bl k]∧Q (.int (if k then 1 else 0)) H):=by
  intro pins s σ H xs us Q I r h
  rcases h with ⟨i,rfl,q⟩ | ⟨k,rfl,q⟩
  · obtain ⟨u,rfl,t,rfl⟩:=vals1 r
    exact call_int_int ⟨.int i,H,I,⟨_,rfl⟩,q⟩
  · obtain ⟨u,rfl,r1⟩:=vals1 r
    cases r1
    exact call_int_bool ⟨.int (if k then 1 else 0),H,I.tok _,⟨_,rfl⟩,q⟩
theorem call_str_int:CallR X (.type "str") (fun xs H Q=>∃ i,xs = [.int i]∧i.natAbs.log2 < 1920∧Q (.str (toString i)) H):=by
  intro pins s σ H xs us Q I r h
  obtain ⟨i,rfl,hz,q⟩:=h
  obtain ⟨u,rfl,t,rfl⟩:=vals1 r
  exact PySem.P.str_of_int hz ⟨.str _,H,I.tok _,⟨_,rfl⟩,q⟩
theorem call_ord:CallR X (.builtin "ord") (fun xs H Q=>∃ x,xs = [.str x]∧x.length = 1∧Q (.int (x.cps.getD 0 0:Nat)) H):=by
  intro pins s σ H xs us Q I r h
  obtain ⟨x,rfl,hz,q⟩:=h
  obtain ⟨u,rfl,t,rfl⟩:=vals1 r
  exact ord_of_one hz ⟨.int _,H,I.tok _,⟨_,rfl⟩,q⟩
def LenV (K:PySem.W.Frag) (x:V) (H:Hp) (n:Nat):Prop:=
  match x with
  | .str y=>y.length≤sizeLine∧n = y.length
  | .byt y=>y.size≤sizeLine∧n = y.size
  | .ref p=>(∃ xs,SqL K H p xs∧n = xs.length)∨∃ xs,SqT K H p xs∧n = xs.length
  | _=>False
theorem call_len:CallR X (.builtin "len") (fun xs H Q=>∃ x n,xs = [x]∧LenV X.K x H n∧Q (.int n) H):=by
  intro pins s σ H xs us Q I r h
  obtain ⟨x,n,rfl,e,q⟩:=h
  obtain ⟨u,rfl,rx⟩:=vals1 r
  have hl:=line63
  have hs:sizeLine = 16777216:=sizeLine_eq
  cases x with
  | str y=>
    obtain ⟨t,rfl⟩:=rx
    obtain ⟨hy,e'⟩:y.length≤sizeLine∧n = y.length:=e
    subst e'
    exact len_str (by omega) ⟨.int _,H,I.tok _,⟨_,rfl⟩,q⟩
  | byt y=>
    obtain ⟨t,rfl⟩:=rx
    obtain ⟨hy,e'⟩:y.size≤sizeLine∧n = y.size:=e
    subst e'
    exact PySem.W.len_bytes (by omega) ⟨.int _,H,I.tok _,⟨_,rfl⟩,q⟩
  | ref p=>
    cases rx
    have e':(∃ xs,SqL X.K H p xs∧n = xs.length)∨∃ xs,SqT X.K H p xs∧n = xs.length:=e
    rcases e' with ⟨xs,hx,e'⟩ | ⟨xs,hx,e'⟩
    · subst e'
      obtain ⟨its,r',pl,hz⟩:=I.list hx
      have hlen:=r'.length
      exact Calls.call_len_list pl.isList (by simp only [List.size_toArray]; omega) ⟨.int xs.length,H,I.tok _,⟨_,by simp only [List.size_toArray]; rw [hlen]⟩,q⟩
    · subst e'
      obtain ⟨its,r',pl,hz⟩:=I.tuple hx
      have hlen:=r'.length
      exact len_tuple pl (by simp only [List.size_toArray]; omega) ⟨.int xs.length,H,I.tok _,⟨_,by simp only [List.size_toArray]; rw [hlen]⟩,q⟩
  | _=>exact (show False from e).elim
end
end L2
namespace L2
open PySem PySem.Spec PyProof.Rows
structure ObjM (h:Heap) (x dx C:Addr) (mA:Str→Option Value):Prop where
  obj:h.get? x = some (PySem.W.instObj C dx)
  ns:h.Ns1 dx mA
  ne:dx≠x
theorem lookIn_ns {h:Heap}{dx:Addr}{mA:Str→Option Value} (n:h.Ns1 dx mA):∃ od,h.get? dx = some od∧∀ name,PySem.W.lookIn name od = some (mA name):=by
  obtain ⟨o,es,ep,ho,hd,hk,_,hm⟩:=n
  refine ⟨o,ho,fun name=>?_⟩
  have e:=hm name
  unfold nsFind findBy at e
  rw [← Array.find?_toList] at e
  unfold PySem.W.lookIn
  rw [hd]
  dsimp only
  split
  · rename_i y q
    rw [q] at e
    exact congrArg some e
  · rename_i q
    rw [q] at e
    have a:es.toList.any (·.refKey) = false:=by
      rw [List.any_eq_false]
      intro y hy
      obtain ⟨z,t,hkey⟩:=hk y (Array.mem_toList_iff.mp hy)
      simp [DictEntry.refKey,hkey]
    have a':¬ es.toList.any (·.refKey) = true:=by rw [a]; exact Bool.false_ne_true
    rw [if_neg a']
    exact congrArg some e
theorem ObjM.look {h:Heap}{x dx C:Addr}{mA:Str→Option Value} (I:ObjM h x dx C mA):∃ od,PySem.W.InstAt h x (PySem.W.instObj C dx) C (some od)∧∀ name,PySem.W.lookIn name od = some (mA name):=
  let ⟨od,ho,hl⟩:=lookIn_ns I.ns
  ⟨od,⟨I.obj,rfl,rfl,ho⟩,hl⟩
section
variable {prog:Program}{w:World}{A:Around}{E:Value→Shared→Prop}{s:Shared}{K:PySem.W.Frag}{x dx C f:Addr}{mA:Str→Option Value}{name:Str}{v:Value}
theorem get_map {expr:Bool}{Q:Value→Shared→Prop} (X:K.In s.heap) (I:ObjM s.heap x dx C mA) (hg:PySem.W.plainGet K C name = true) (hh:PySem.W.hasDictIn K C = true)
    (ha:PySem.W.findIn K (.ref C) name = some none) (hv:mA name = some v) (hv':PySem.W.handedIn v = true) (h:Q v { s with toks:=s.toks + 1 }):
    wpAny (model prog w) A (getAttr (.ref x) name expr) Q E s:=by
  obtain ⟨od,J,hl⟩:=I.look
  exact PySem.W.get_value X J (PySem.W.plainGet_of hg).1 (PySem.W.findObj_own hh ha rfl (by rw [hl,hv])) hv' h
theorem get_meth {pl:Sem Bool}{Q:Value × List Value→Shared→Prop} (X:K.In s.heap) (I:ObjM s.heap x dx C mA) (hg:PySem.W.plainGet K C name = true)
    (hf:PySem.W.findIn K (.ref C) name = some (some (.ref f))) (ht:PySem.W.isFn K (.ref f) = true) (hv:mA name = none) (h:Q (.ref f,[.ref x]) s):
    wpAny (model prog w) A (getMethod (.ref x) name pl) Q E s:=by
  obtain ⟨od,J,hl⟩:=I.look
  exact PySem.W.method_fn X J (PySem.W.plainGet_of hg).1 (PySem.W.plainGet_of hg).2 hf (beq_iff_eq.mp ht) (by show (PySem.W.lookIn name od).map (·.isSome) = some false; rw [hl,hv]; rfl) h
theorem set_map {ns:List Str}{Q:Unit→Shared→Prop} (X:K.In s.heap) (I:ObjM s.heap x dx C mA)
    (hs:PySem.W.findIn K (.ref C) "__setattr__" = some (some (.builtin "object.__setattr__"))) (hp:PySem.W.plainOver K C = true) (ht:PySem.W.takerIn K C name = some none) (hh:PySem.W.hasDictIn K C = true)
    (hw:PySem.Within mA ns) (hsz:ns.length≤sizeLine)
    (h:∀ h',ObjM h' x dx C (fun y=>if y = name then some v else mA y)→Heap.SameBut dx s.heap h'→Q () { s with heap:=h',toks:=s.toks + 2 }):
    wpAny (model prog w) A (setAttr (.ref x) name v) Q E s:=by
  obtain ⟨od,J,hl⟩:=I.look
  refine PySem.W.set_plain X J hs (PySem.W.osa_open (s:={ s with toks:=s.toks + 1 }) (r:=none) X J hp ht fun b=>?_)
  obtain ⟨cd,hc,hd'⟩:=PySem.W.any_some hh
  have hx:s.heap.get? x = some ⟨.ref C,some dx,.plain,#[]⟩:=I.obj
  refine wpAny_bind (wpAny_pure (wpAny_bind (wpAny_bind (wpAny_loadPart hx (wpAny_bind (PySem.W.Looks.here (s:={ s with toks:=s.toks + 1 }) (PySem.W.looks_clsIn X hc) ?_))))))
  rw [hd']
  refine wpAny_pure (a:=some dx) (wpAny_bind (wpAny_pure (wpAny_bind ?_)))
  refine wpAny_nsSet1 (s:={ s with toks:=s.toks + 1 }) I.ns fun h' hn2 hs2=>?_
  obtain ⟨oD,esD,epD,hoD,hdD,hcD⟩:=hn2.count (PySem.Within.cons name v hw)
  refine wpAny_bind (wpAny_lookBehind hoD (by rw [hdD]; exact pastItsLine_dict (Nat.le_trans hcD (by rw [List.length_cons]; omega))) ?_)
  exact wpAny_pure (h _ ⟨(hs2.2 _ (Ne.symm I.ne)).trans I.obj,hn2,I.ne⟩ hs2)
theorem make_map {R:Result→Shared→Prop}{vs:List Value}{kw:List (Str × Value)} (X:K.In s.heap) (hm:PySem.W.makesIn K C = true)
    (hi:PySem.W.findIn K (.ref C) "__init__" = some (some (.ref f))) (hf:PySem.W.typeIn K (.ref f) = some (.type "function"))
    (h:codeAny (model prog w) (A.under (.builtin "type.__call__" ⟨.ref C :: vs,kw⟩)) (.call (.ref f) ⟨.ref (s.heap.objs.size + 1) :: vs,kw⟩) (PySem.W.InitBack (s.heap.objs.size + 1) R)
      { s with heap:=(s.heap.push PySem.W.emptyDict).push (PySem.W.instObj C s.heap.objs.size) }):
    codeAny (model prog w) A (.call (.ref C) ⟨vs,kw⟩) R s:=by
  obtain ⟨hh,g,d,t,os⟩:=s
  exact PySem.W.make_core (PySem.W.makes_of X hm) (PySem.W.looks_findIn X hi) (fun self=>PySem.W.bind_fn X self hf) (.inl rfl) h
end
def putF (f:Str) (v:V):List (Str × V)→List (Str × V)
  | []=>[(f,v)]
  | (g,x) :: r=>if g = f then (g,v) :: r else (g,x) :: putF f v r
theorem lookup_putF (f g:Str) (v:V):∀ fs:List (Str × V),(putF f v fs).lookup g = if g = f then some v else fs.lookup g
  | []=>by
    show List.lookup g [(f,v)] = _
    by_cases h:g = f
    · have hb:(g == f) = true:=beq_iff_eq.mpr h
      simp only [List.lookup,hb,if_pos h]
    · have hb:(g == f) = false:=beq_eq_false_iff_ne.mpr h
      simp only [List.lookup,hb,if_neg h]
  | (k,x) :: r=>by
    have ih:=lookup_putF f g v r
    rw [show putF f v ((k,x) :: r) = (if k = f then (k,v) :: r else (k,x) :: putF f v r) from rfl]
    by_cases hk:k = f
    · rw [if_pos hk]
      by_cases h:g = k
      · have hb:(g == k) = true:=beq_iff_eq.mpr h
        simp only [List.lookup,hb,if_pos (h.trans hk)]
      · have hb:(g == k) = false:=beq_eq_false_iff_ne.mpr h
        simp only [List.lookup,hb,if_neg (fun e:g = f=>h (e.trans hk.symm))]
    · rw [if_neg hk]
      by_cases h:g = k
      · have hb:(g == k) = true:=beq_iff_eq.mpr h
        simp only [List.lookup,hb,if_neg (fun e:g = f=>hk (h.symm.trans e))]
      · have hb:(g == k) = false:=beq_eq_false_iff_ne.mpr h
        simp only [List.lookup,hb]
        exact ih
theorem keys_putF (f:Str) (v:V):∀ fs:List (Str × V),f∈(putF f v fs).map (·.1)∧∀ g,g∈fs.map (·.1)→g∈(putF f v fs).map (·.1)
  | []=>⟨by simp [putF],fun g h=>by simp at h⟩
  | (k,x) :: r=>by
    obtain ⟨i1,i2⟩:=keys_putF f v r
    rw [show putF f v ((k,x) :: r) = (if k = f then (k,v) :: r else (k,x) :: putF f v r) from rfl]
    by_cases hk:k = f
    · rw [if_pos hk]
      subst hk
      exact ⟨by simp,fun g h=>by simpa using h⟩
    · rw [if_neg hk]
      refine ⟨?_,fun g h=>?_⟩
      · rw [List.map_cons]
        exact List.mem_cons_of_mem _ i1
      · rw [List.map_cons] at h ⊢
        rcases List.mem_cons.mp h with e | e
        · exact List.mem_cons.mpr (.inl e)
        · exact List.mem_cons_of_mem _ (i2 g e)
theorem length_putF (f:Str) (v:V):∀ fs:List (Str × V),(putF f v fs).length≤fs.length + 1
  | []=>by simp [putF]
  | (k,x) :: r=>by
    have ih:=length_putF f v r
    rw [show putF f v ((k,x) :: r) = (if k = f then (k,v) :: r else (k,x) :: putF f v r) from rfl]
    by_cases hk:k = f
    · rw [if_pos hk,List.length_cons,List.length_cons]; omega
    · rw [if_neg hk,List.length_cons,List.length_cons]; omega
theorem RelO.some_of {v:V}{o:Option Value} (r:RelO (some v) o):∃ u,o = some u∧RelV v u:=by
  cases o with
  | none=>exact (show False from r).elim
  | some u=>exact ⟨u,rfl,r⟩
theorem RelO.none_of {o:Option Value} (r:RelO none o):o = none:=by
  cases o with
  | none=>rfl
  | some u=>exact (show False from r).elim
theorem handed_of {v:V}{u:Value} (r:RelV v u):PySem.W.handedIn u = true:=by
  cases v with
  | non=>cases (show u = Value.none from r); rfl
  | bl b=>cases (show u = Value.bool b from r); rfl
  | int i=>obtain ⟨t,e⟩:=(show ∃ t,u = Value.int i t from r); cases e; rfl
  | str x=>obtain ⟨t,e⟩:=(show ∃ t,u = Value.str x t from r); cases e; rfl
  | byt b=>obtain ⟨t,e⟩:=(show ∃ t,u = Value.bytes b t from r); cases e; rfl
  | flt b=>obtain ⟨t,e⟩:=(show ∃ t,u = Value.float b t from r); cases e; rfl
  | ref a=>cases (show u = Value.ref a from r); rfl
  | ty n=>cases (show u = Value.type n from r); rfl
section
variable {P:Program}{w:World}{H H':Hp}{h h':Heap}{a C dx:Addr}{fs fs':List (Str × V)}
theorem ins_get (hok:HOk P w H h) (e:H a = some (.ins C dx fs)):∃ mA,ObjM h a dx C mA∧(∀ f,RelO (fs.lookup f) (mA f))∧PySem.Within mA (fs.map (·.1))∧fs.length≤1000∧H dx = some (.own a):=by
  obtain ⟨d,z,ne,ob,mA,n,r,q⟩:=(show ObjOk P w H h a (.ins C dx fs) from hok a _ e)
  exact ⟨mA,⟨ob,n,ne⟩,r,q,z,d⟩
end
structure Cls (K:PySem.W.Frag) (C:Addr):Prop where
  pg:PySem.W.plainGet K C Str.empty = true
  hd:PySem.W.hasDictIn K C = true
  po:PySem.W.plainOver K C = true
  sa:PySem.W.findIn K (.ref C) "__setattr__" = some (some (.builtin "object.__setattr__"))
theorem Cls.get {K:PySem.W.Frag}{C:Addr} (c:Cls K C) (f:Str):PySem.W.plainGet K C f = true:=c.pg
def NoAttr (K:PySem.W.Frag) (C:Addr) (f:Str):Prop:=PySem.W.findIn K (.ref C) f = some none
theorem NoAttr.taker {K:PySem.W.Frag}{C:Addr}{f:Str} (n:NoAttr K C f):PySem.W.takerIn K C f = some none:=by
  unfold PySem.W.takerIn
  rw [show PySem.W.findIn K (.ref C) f = some none from n]
  rfl
structure Con (K:PySem.W.Frag) (C:Addr) (f:Str) (v:V) (u:Value):Prop where
  at_:PySem.W.findIn K (.ref C) f = some (some u)
  rel:RelV v u
  get:PySem.W.specialIn K u "__get__" = some none
  cp:PySem.W.copiedNames.contains f = false
structure Meth (K:PySem.W.Frag) (C:Addr) (m:Str) (f:Addr):Prop where
  at_:PySem.W.findIn K (.ref C) m = some (some (.ref f))
  fn:PySem.W.isFn K (.ref f) = true
  kp:PySem.W.keepIn K (.ref f) = true
section
variable {X:Cx}{pins:List (Addr × Obj)}{σ:St}{H:Hp}{s:Shared}{a C dx:Addr}{fs:List (Str × V)}{f:Str}{v:V}{A:Around}{E:Value→Shared→Prop}
theorem getattr_ok {b:Bool}{Q:Value→Shared→Prop} (I:Inv X pins σ H s) (e:H a = some (.ins C dx fs)) (c:Cls X.K C) (n:NoAttr X.K C f) (l:fs.lookup f = some v)
    (h:∀ u s',Inv X pins σ H s'→RelV v u→Q u s'):wpAny (model X.prog X.w) A (getAttr (.ref a) f b) Q E s:=by
  obtain ⟨mA,O,r,_,_,_⟩:=ins_get I.hok e
  obtain ⟨u,hu,ru⟩:=RelO.some_of (v:=v) (o:=mA f) (by rw [← l]; exact r f)
  exact get_map I.kIn O (c.get f) c.hd n hu (handed_of ru) (h u _ (I.tok _) ru)
theorem getmeth_ok {m:Str}{g:Addr}{pl:Sem Bool}{Q:Value × List Value→Shared→Prop} (I:Inv X pins σ H s) (e:H a = some (.ins C dx fs)) (c:Cls X.K C) (k:Meth X.K C m g) (l:fs.lookup m = none)
    (h:Q (.ref g,[.ref a]) s):wpAny (model X.prog X.w) A (getMethod (.ref a) m pl) Q E s:=by
  obtain ⟨mA,O,r,_,_,_⟩:=ins_get I.hok e
  have hn:mA m = none:=RelO.none_of (by rw [← l]; exact r m)
  exact get_meth I.kIn O (c.get m) k.at_ k.fn hn h
theorem setattr_ok {y:V}{u:Value}{Q:Unit→Shared→Prop} (I:Inv X pins σ H s) (e:H a = some (.ins C dx fs)) (c:Cls X.K C) (n:NoAttr X.K C f) (hl:fs.length < 1000) (ry:RelV y u)
    (h:∀ s',Inv X pins σ (upd H a (.ins C dx (putF f y fs))) s'→Q () s'):wpAny (model X.prog X.w) A (setAttr (.ref a) f u) Q E s:=by
  obtain ⟨mA,O,r,wi,_,ho⟩:=ins_get I.hok e
  have hz:(fs.map (·.1)).length≤sizeLine:=by rw [List.length_map,sizeLine_eq]; omega
  refine set_map I.kIn O c.sa c.po n.taker c.hd wi hz fun h' O' sb=>h _ ?_
  have hd:∃ o,h'.get? dx = some o:=let ⟨o,_,_,e',_⟩:=O'.ns; ⟨o,e'⟩
  refine I.write (x:=a) (e:=dx) (by rw [e]; exact True.intro) (.inr ho) (fun b q hb z=>(sb.2 b hb).trans z) hd ?_
  refine ⟨by rw [upd_ne O.ne]; exact ho,?_,O.ne,O'.obj,_,O'.ns,fun g=>?_,fun g hg=>?_⟩
  · have:=length_putF f y fs; omega
  · show RelO ((putF f y fs).lookup g) (if g = f then some u else mA g)
    rw [lookup_putF]
    by_cases q:g = f
    · rw [if_pos q,if_pos q]; exact ry
    · rw [if_neg q,if_neg q]; exact r g
  · by_cases q:g = f
    · rw [q]; exact (keys_putF f y fs).1
    · refine (keys_putF f y fs).2 g (wi g fun z=>hg ?_)
      show (if g = f then some u else mA g) = none
      rw [if_neg q]; exact z
theorem Inv.made (I:Inv X pins σ H s):Inv X pins σ (upd (upd H s.heap.objs.size (.own (s.heap.objs.size + 1))) (s.heap.objs.size + 1) (.ins C s.heap.objs.size []))
    { s with heap:=(s.heap.push PySem.W.emptyDict).push (PySem.W.instObj C s.heap.objs.size) }:=by
  have e1:(s.heap.push PySem.W.emptyDict).get? s.heap.objs.size = some PySem.W.emptyDict:=Heap.get?_push_size s.heap rfl
  have e2:((s.heap.push PySem.W.emptyDict).push (PySem.W.instObj C s.heap.objs.size)).get? (s.heap.objs.size + 1) = some (PySem.W.instObj C s.heap.objs.size):=by
    have:=Heap.get?_push_size (s.heap.push PySem.W.emptyDict) (o:=PySem.W.instObj C s.heap.objs.size) rfl
    rwa [Heap.size_push] at this
  have e3:(s.heap.push PySem.W.emptyDict).Ns s.heap.objs.size (fun _=>none):=⟨PySem.W.emptyDict,#[],_,e1,rfl,(fun e he=>absurd he (by simp)),fun _=>rfl⟩
  have I1:=I.laid (a:=s.heap.objs.size) (o:=.own (s.heap.objs.size + 1)) (h':=s.heap.push PySem.W.emptyDict) (t':=s.toks) (fun b u q=>Heap.get?_push_of_some _ q) (Nat.le_refl _) ⟨_,e1⟩
  refine I1.laid (a:=s.heap.objs.size + 1) (o:=.ins C s.heap.objs.size []) (t':=s.toks) (fun b u q=>Heap.get?_push_of_some _ q) (Nat.le_of_eq (Heap.size_push _ _)) ?_
  have ne:s.heap.objs.size≠s.heap.objs.size + 1:=Nat.ne_of_lt (Nat.lt_succ_self _)
  refine ⟨by rw [upd_ne ne,upd_same],Nat.zero_le _,ne,e2,fun _=>none,(Heap.Ns1.of_empty e3).at fun o q=>Heap.get?_push_of_some _ q,fun _=>True.intro,fun y hy=>absurd rfl hy⟩
theorem attr_of {prog:Program}{w:World}{env:Env}{e:Expr}{f:Str}{pos:Pos}{s:Shared}{Q:Value→Shared→Prop} (hb:attributeBase e f env (eval e env) = eval e env)
    (h:wpAny (model prog w) A (eval e env) (fun o s₁=>wpAny (model prog w) A (getAttr o f true) Q E s₁) E s):wpAny (model prog w) A (eval (.Attribute e f pos) env) Q E s:=
  Attribute_any_ h (by rw [arm_eval_Attribute,hb])
end
def tFld (K:PySem.W.Frag) (ta:TE) (f:Str):TE:=fun σ H Q=>ta σ H fun x H1=>∃ a C dx fs v,x = .ref a∧H1 a = some (.ins C dx fs)∧Cls K C∧NoAttr K C f∧fs.lookup f = some v∧Q v H1
def tCon (K:PySem.W.Frag) (ta:TE) (f:Str):TE:=fun σ H Q=>ta σ H fun x H1=>∃ a C dx fs v u,x = .ref a∧H1 a = some (.ins C dx fs)∧Cls K C∧Con K C f v u∧fs.lookup f = none∧Q v H1
def sFld (K:PySem.W.Frag) (ta tv:TE) (f:Str):TS:=fun D σ H=>tv σ H fun y H1=>ta σ H1 fun x H2=>∃ a C dx fs,x = .ref a∧H2 a = some (.ins C dx fs)∧Cls K C∧NoAttr K C f∧fs.length < 1000 ∧
  D.nx σ (upd H2 a (.ins C dx (putF f y fs)))
def InOp (X:Cx) (op:Operator) (rd:V→V→Hp→VK→Prop):Prop:=
  ∀ (pins:List (Addr × Obj)) (s:Shared) (σ:St) (H:Hp) (x y:V) (u v:Value) (Q:VK),Inv X pins σ H s→RelV x u→RelV y v→rd x y H Q→wpAny (model X.prog X.w) X.A (inplaceOp op u v) (EP X pins σ Q) X.xe s
def sFldAug (K:PySem.W.Frag) (ta tv:TE) (rd:V→V→Hp→VK→Prop) (f:Str):TS:=fun D σ H=>ta σ H fun x H1=>∃ a C dx fs v,x = .ref a∧H1 a = some (.ins C dx fs)∧Cls K C∧NoAttr K C f∧fs.lookup f = some v ∧
  tv σ H1 fun y H2=>rd v y H2 fun z H3=>∃ dx' fs',H3 a = some (.ins C dx' fs')∧fs'.length < 1000∧D.nx σ (upd H3 a (.ins C dx' (putF f z fs')))
section
variable {X:Cx}{o e value:Expr}{f:Str}{pos pos' tpos:Pos}{ta tv:TE}
theorem pe_fld (he:PE X e ta) (hb:attributeBase e f X.env (eval e X.env) = eval e X.env):PE X (.Attribute e f pos) (tFld X.K ta f):=by
  intro pins s σ H Q I h
  refine attr_of hb (thn (he pins s σ H _ I h) fun u s1 ⟨x,H1,I1,rx,a,C,dx,fs,v,ex,ea,c,n,l,q⟩=>?_)
  subst ex
  obtain rfl:u = Value.ref a:=rx
  exact getattr_ok I1 ea c n l fun u' s2 I2 ru=>⟨v,H1,I2,ru,q⟩
theorem ps_fld (ha:PE X o ta) (hv:PE X value tv) (hs:swapsWith value (some (.Attribute o f pos')) pos.line X.env = pure false):PS X (.Assign [.Attribute o f pos'] value pos) (sFld X.K ta tv f):=by
  intro pins s σ H D I h
  refine plainObj_wpAny_Assign_Attribute (thn (hv pins s σ H _ I h) fun u s1 ⟨y,H1,I1,ry,q⟩=>thn (ha pins s1 σ H1 _ I1 q) fun ov s2 ⟨x,H2,I2,rx,a,C,dx,fs,ex,ea,c,n,l,q2⟩=>?_) hs
  subst ex
  obtain rfl:ov = Value.ref a:=rx
  exact setattr_ok I2 ea c n l ry fun s3 I3=>⟨σ,_,I3,q2⟩
def rAdd:V→V→Hp→VK→Prop:=fun x y H Q=>∃ i j,x = .int i∧y = .int j∧Q (.int (i + j)) H
def rSub:V→V→Hp→VK→Prop:=fun x y H Q=>∃ i j,x = .int i∧y = .int j∧Q (.int (i - j)) H
end
section
variable {X:Cx}{pins:List (Addr × Obj)}{σ:St}{H:Hp}{s:Shared}{A:Around}{E:Value→Shared→Prop}{Q:Value→Shared→Prop}{c:Value}{b:Bool}
inductive TyOf (K:PySem.W.Frag) (H:Hp):V→Value→Prop where
  | non:TyOf K H .non (.type "NoneType")
  | bl (x:Bool):TyOf K H (.bl x) (.type "bool")
  | int (i:Int):TyOf K H (.int i) (.type "int")
  | str (x:Str):TyOf K H (.str x) (.type "str")
  | flt (x:UInt64):TyOf K H (.flt x) (.type "float")
  | lst {a:Addr}{xs:List V} (e:H a = some (.lst xs)):TyOf K H (.ref a) (.type "list")
  | frz {a:Addr}{o:Obj}{xs:List V} (e:H a = some (.frz o (.lst xs))):TyOf K H (.ref a) (.type "list")
  | tup {a:Addr}{xs:List V} (e:H a = some (.tup xs)):TyOf K H (.ref a) (.type "tuple")
  | dK {a:Addr}{kvs:List (Key × V)} (e:H a = some (.dK kvs)):TyOf K H (.ref a) (.type "dict")
  | dT {a:Addr}{kvs:List (List Key × V)} (e:H a = some (.dT kvs)):TyOf K H (.ref a) (.type "dict")
  | ins {a C dx:Addr}{fs:List (Str × V)} (e:H a = some (.ins C dx fs)) (cl:Cls K C) (ha:PySem.W.findIn K (.ref C) "__class__" = some (some (.builtin "object.__class__")))
      (hn:PySem.W.specialIn K (.builtin "object.__class__") "__get__" = some (some (.builtin "getset_descriptor.__get__"))) (htk:PySem.W.takesIn K (.builtin "object.__class__") = some true)
      (hm:PySem.W.mroIn K C (.type "object") = some true):TyOf K H (.ref a) (.ref C)
theorem isinst_ok {x:V}{u t:Value} (I:Inv X pins σ H s) (rx:RelV x u) (ty:TyOf X.K H x t) (e:PySem.W.kitOne X.K t c = some b) (h:∀ tk,Q (.bool b) { s with toks:=tk }):
    wpAny (model X.prog X.w) A (call (.builtin "isinstance") [u,c]) Q E s:=by
  cases ty with
  | non=>cases (show u = Value.none from rx); exact PySem.W.kia_one PySem.W.kitx_none I.kIn True.intro e (fun z=>nomatch z) h
  | bl y=>cases (show u = Value.bool y from rx); exact PySem.W.kia_one PySem.W.kitx_bool I.kIn True.intro e (fun z=>nomatch z) h
  | int i=>obtain ⟨t,q⟩:=(show ∃ t,u = Value.int i t from rx); cases q; exact PySem.W.kia_one PySem.W.kitx_int I.kIn True.intro e (fun z=>nomatch z) h
  | str y=>obtain ⟨t,q⟩:=(show ∃ t,u = Value.str y t from rx); cases q; exact PySem.W.kia_one PySem.W.kitx_str I.kIn True.intro e (fun z=>nomatch z) h
  | flt y=>obtain ⟨t,q⟩:=(show ∃ t,u = Value.float y t from rx); cases q; exact PySem.W.kia_one PySem.W.kitx_float I.kIn True.intro e (fun z=>nomatch z) h
  | @lst a xs ea=>
    cases (show u = Value.ref a from rx)
    obtain ⟨_,_,n,_,h1⟩:=(show ObjOk X.prog X.w H s.heap a (.lst xs) from I.hok a _ ea)
    exact PySem.W.kia_one PySem.W.kitx_list I.kIn ⟨_,h1,rfl⟩ e (fun z=>nomatch z) h
  | @frz a ob xs ea=>
    cases (show u = Value.ref a from rx)
    obtain ⟨_,_,_,n,_,h1⟩:=(show ObjOk X.prog X.w H s.heap a (.frz ob (.lst xs)) from I.hok a _ ea)
    exact PySem.W.kia_one PySem.W.kitx_list I.kIn ⟨_,h1,rfl⟩ e (fun z=>nomatch z) h
  | @tup a xs ea=>
    cases (show u = Value.ref a from rx)
    obtain ⟨_,_,_,p⟩:=(show ObjOk X.prog X.w H s.heap a (.tup xs) from I.hok a _ ea)
    obtain ⟨o,h1,h2,_⟩:=p
    exact PySem.W.kia_one PySem.W.kitx_tuple I.kIn ⟨o,h1,h2⟩ e (fun z=>nomatch z) h
  | @dK a kvs ea=>
    cases (show u = Value.ref a from rx)
    obtain ⟨_,_,vs,_,p⟩:=(show ObjOk X.prog X.w H s.heap a (.dK kvs) from I.hok a _ ea)
    obtain ⟨o,es,ep,h1,h2,_⟩:=p
    exact PySem.W.kia_one PySem.W.kitx_dict I.kIn ⟨o,h1,h2.1⟩ e (fun z=>nomatch z) h
  | @dT a kvs ea=>
    cases (show u = Value.ref a from rx)
    obtain ⟨_,_,xs,_,o,es,ep,h1,h2,_⟩:=(show ObjOk X.prog X.w H s.heap a (.dT kvs) from I.hok a _ ea)
    exact PySem.W.kia_one PySem.W.kitx_dict I.kIn ⟨o,h1,h2.1⟩ e (fun z=>nomatch z) h
  | @ins a C dx fs ea cl ha hn htk hm=>
    cases (show u = Value.ref a from rx)
    obtain ⟨mA,O,_⟩:=ins_get I.hok ea
    obtain ⟨od,J,_⟩:=O.look
    exact PySem.W.kia_one (PySem.W.kitx_own (cl.get _) cl.hd ha hn htk hm) I.kIn J e (fun z=>nomatch z) h
end
end L2
namespace L2
open PySem PySem.Spec PyProof.Rows
structure Room (k:Nat) (A:Around):Prop where
  hd:A.handled = none
  dp:A.depth + 3 * k + 5 < recursionLimit
  un:A.units + 16 * k + 200 < cLine
theorem Room.mono {j k:Nat}{A:Around} (r:Room k A) (h:j≤k):Room j A:=⟨r.hd,by have:=r.dp; omega,by have:=r.un; omega⟩
theorem Room.deeper {k:Nat}{A:Around} (r:Room (k + 1) A) (env:Env):Room k (A.deeper env):=
  ⟨r.hd,by have:=r.dp; show A.depth + 1 + 3 * k + 5 < _; omega,by have:=r.un; show A.units + 3 + 16 * k + 200 < _; omega⟩
theorem Room.in1 {k:Nat}{A:Around} (r:Room (k + 1) A):Room k A.in1:=
  ⟨r.hd,by have:=r.dp; show A.depth + 3 * k + 5 < _; omega,by have:=r.un; show A.units + 1 + 16 * k + 200 < _; omega⟩
theorem make_depth {A:Around}{C:Addr}{us:List Value}{kw:List (Str × Value)}:(A.under (.builtin "type.__call__" ⟨.ref C :: us,kw⟩)).depth = A.depth + 1:=by
  first | rfl | simp [Around.under,Code.weight,Code.isCreation,Code.isGuard,Code.isCaller,Code.frames,Code.isFrame,guardIds]
theorem make_units {A:Around}{C:Addr}{us:List Value}{kw:List (Str × Value)}:(A.under (.builtin "type.__call__" ⟨.ref C :: us,kw⟩)).units = A.units + 1:=by
  first | rfl | simp [Around.under,Code.cUnits,Code.frames,Code.isFrame]
theorem Room.make {k:Nat}{A:Around} (r:Room (k + 1) A) (C:Addr) (us:List Value) (kw:List (Str × Value)):Room k (A.under (.builtin "type.__call__" ⟨.ref C :: us,kw⟩)):=
  ⟨r.hd,by have:=r.dp; rw [make_depth]; omega,by have:=r.un; rw [make_units]; omega⟩
theorem Room.depth {k:Nat}{A:Around} (r:Room k A):A.depth < recursionLimit:=by have:=r.dp; omega
theorem Room.units {k:Nat}{A:Around} (r:Room k A):A.units + 64 < cLine:=by have:=r.un; omega
def tNil:TA:=fun _ H Q=>Q [] H
def tCons (ta:TE) (tr:TA):TA:=fun σ H Q=>ta σ H fun x H1=>tr σ H1 fun xs H2=>Q (x :: xs) H2
section
variable {X:Cx}{e:Expr}{es:List Expr}{te:TE}{t:TA}{pos:Pos}
theorem pa_nil:PA X [] tNil:=fun _ _ _ _ H Q I h=>Calls.spliced_nil ⟨[],H,I,.nil,h⟩
theorem pa_cons (ha:PE X e te) (hr:PA X es t) (hs:starEach (e :: es) X.env = (false,eval e X.env) :: starEach es X.env:=by rfl):PA X (e :: es) (tCons te t):=by
  intro pos pins s σ H Q I h
  rw [hs]
  show wpAny _ _ (spliced ((false,eval e X.env) :: backTo pos (starEach es X.env))) _ _ s
  refine Calls.spliced_cons (thn (ha pins s σ H _ I h) fun u s1 ⟨x,H1,I1,r1,q1⟩=>?_)
  exact thn (hr pos pins s1 σ H1 _ I1 q1) fun us s2 ⟨xs,H2,I2,r2,q2⟩=>⟨x :: xs,H2,I2,.cons r1 r2,q2⟩
def tTup (t:TA):TE:=fun σ H Q=>t σ H fun xs H1=>xs.length≤sizeLine∧∀ p,H1 p = none→Q (.ref p) (upd H1 p (.tup xs))
def tLst (t:TA):TE:=fun σ H Q=>t σ H fun xs H1=>xs.length≤sizeLine∧∀ p,H1 p = none→Q (.ref p) (upd H1 p (.lst xs))
theorem pe_tup {x1} (h:PA X es t):PE X (.Tuple es x1 pos) (tTup t):=by
  intro pins s σ H Q I hq
  refine wpAny_Tuple_spliced (thn (h pos pins s σ H _ I hq) fun us s1 ⟨xs,H1,I1,r,z,q⟩=>⟨by rw [← r.length]; exact z,?_⟩)
  have hf:H1 s1.heap.objs.size = none:=I1.hok.fresh (Nat.le_refl _)
  refine ⟨.ref s1.heap.objs.size,upd H1 s1.heap.objs.size (.tup xs),I1.laid (t':=s1.toks) (fun b u e=>Heap.get?_push_of_some _ e) (Nat.le_refl _) ?_,rfl,q _ hf⟩
  exact ⟨z,us,r,⟨_,Heap.get?_push_size _ rfl,rfl,_,rfl⟩⟩
theorem pe_lst (h:PA X es t):PE X (.List es pos) (tLst t):=by
  intro pins s σ H Q I hq
  refine wpAny_List_spliced (thn (h pos pins s σ H _ I hq) fun us s1 ⟨xs,H1,I1,r,z,q⟩=>⟨by rw [← r.length]; exact z,?_⟩)
  have hf:H1 s1.heap.objs.size = none:=I1.hok.fresh (Nat.le_refl _)
  refine ⟨.ref s1.heap.objs.size,upd H1 s1.heap.objs.size (.lst xs),I1.laid (t':=s1.toks) (fun b u e=>Heap.get?_push_of_some _ e) (Nat.le_refl _) ?_,rfl,q _ hf⟩
  exact ⟨z,us,0,r,Heap.get?_push_size _ rfl⟩
end
abbrev Sp:=List V→Hp→VK→XK→Prop
abbrev CXT:=List Env→Hp→Shared→XK→Value→Shared→Prop
structure Env0 (P:Program) (w:World) (K:PySem.W.Frag) (mg:Str→Option Value) (base:Heap) (A:Around) (outer:List Env) (s:Shared) (H:Hp):Prop where
  frames:A.frames = some outer
  mod:Mod K mg base
  bs:∀ b o,base.get? b = some o→s.heap.get? b = some o∧H b = none
  bsz:base.objs.size≤s.heap.objs.size
  funs:s.heap.FunFrames base outer
  frf:∀ b∈frs outer,H b = none
  hok:HOk P w H s.heap
  bare:AllBare s.gens
def CE (outer:List Env) (P:Program) (w:World) (H:Hp) (s:Shared) (Q:VK) (u:Value) (s':Shared):Prop:=
  ∃ v H',s'.os = s.os∧AllBare s'.gens∧Un (frs outer) [] H H' s.heap s'.heap∧HOk P w H' s'.heap∧RelV v u∧Q v H'
def CR (CX:CXT) (outer:List Env) (P:Program) (w:World) (H:Hp) (s:Shared) (Q:VK) (E:XK) (r:Result) (s':Shared):Prop:=
  match r with
  | .ok (.ret u)=>CE outer P w H s Q u s'
  | .ok _=>False
  | .error e=>CX outer H s E e s'
structure FnOk (P:Program) (w:World) (K:PySem.W.Frag) (mg:Str→Option Value) (base:Heap) (CX:CXT) (k:Nat) (f:Addr) (fd:FuncData) (ps:List Str) (sp:Sp):Prop where
  len:∀ vs H Q E,sp vs H Q E→vs.length = ps.length
  run:∀ (A:Around) (outer:List Env) (s:Shared) (H:Hp) (args:Args) (us:List Value) (vs:List V) (Q:VK) (E:XK),Room k A→Env0 P w K mg base A outer s H→BindsTo s fd args (ps.zip us)→Vals vs us→sp vs H Q E→
    codeAny (model P w) A (.call (.ref f) args) (CR CX outer P w H s Q E) s
theorem FnOk.mono {P:Program}{w:World}{K:PySem.W.Frag}{mg:Str→Option Value}{base:Heap}{CX:CXT}{j k:Nat}{f:Addr}{fd:FuncData}{ps:List Str}{sp:Sp} (F:FnOk P w K mg base CX j f fd ps sp) (h:j≤k):
    FnOk P w K mg base CX k f fd ps sp:=⟨F.len,fun A outer s H args us vs Q E hr=>F.run A outer s H args us vs Q E (hr.mono h)⟩
theorem FnOk.imp {P:Program}{w:World}{K:PySem.W.Frag}{mg:Str→Option Value}{base:Heap}{CX:CXT}{k:Nat}{f:Addr}{fd:FuncData}{ps:List Str}{sp sp':Sp} (F:FnOk P w K mg base CX k f fd ps sp)
    (h:∀ vs H Q E,sp' vs H Q E→sp vs H Q E):FnOk P w K mg base CX k f fd ps sp':=
  ⟨fun vs H Q E q=>F.len vs H Q E (h _ _ _ _ q),fun A outer s H args us vs Q E hr he hb hv hs=>F.run A outer s H args us vs Q E hr he hb hv (h _ _ _ _ hs)⟩
theorem Env0.make {P:Program}{w:World}{K:PySem.W.Frag}{mg:Str→Option Value}{base:Heap}{A:Around}{outer:List Env}{s:Shared}{H:Hp} (e:Env0 P w K mg base A outer s H) (C:Addr) (us:List Value) (kw:List (Str × Value)):
    Env0 P w K mg base (A.under (.builtin "type.__call__" ⟨.ref C :: us,kw⟩)) outer s H:=⟨by first | exact e.frames | (simpa [Around.under,Code.envs,Code.isFrame,pushEnvs] using e.frames),e.mod,e.bs,e.bsz,e.funs,e.frf,e.hok,e.bare⟩
theorem Env0.in1 {P:Program}{w:World}{K:PySem.W.Frag}{mg:Str→Option Value}{base:Heap}{A:Around}{outer:List Env}{s:Shared}{H:Hp} (e:Env0 P w K mg base A outer s H):
    Env0 P w K mg base A.in1 outer s H:=⟨e.frames,e.mod,e.bs,e.bsz,e.funs,e.frf,e.hok,e.bare⟩
section
variable {X:Cx}{pins:List (Addr × Obj)}{σ:St}{H:Hp}{s s':Shared}
theorem Inv.env0 (I:Inv X pins σ H s):Env0 X.prog X.w X.K X.mg X.base X.A X.stack s H:=
  ⟨I.ok.frames,I.ok.mod,I.bs,Nat.le_trans I.ok.bsz I.sz,I.stack,I.stkFree,I.hok,I.bare⟩
theorem Inv.after {Q:VK}{u:Value} (I:Inv X pins σ H s) (h:CE X.stack X.prog X.w H s Q u s'):EP X pins σ Q u s':=by
  obtain ⟨v,H',os,bare,un,hok,r,q⟩:=h
  obtain ⟨hh,g,d,t,os'⟩:=s'
  obtain rfl:os' = s.os:=os
  exact ⟨v,H',I.call (h':=hh) (g':=g) (d':=d) (t':=t) (ch:=[]) un hok bare (fun b z=>absurd z (by simp)),r,q⟩
end
def tCall (sp:Sp) (dvs:List V) (E:XK) (t:TA):TE:=fun σ H Q=>t σ H fun vs H1=>sp (vs ++ dvs) H1 Q E
def tMeth (C:Addr) (m:Str) (sp:Sp) (dvs:List V) (E:XK) (ta:TE) (t:TA):TE:=fun σ H Q=>ta σ H fun x H1=>∃ a dx fs,x = .ref a∧H1 a = some (.ins C dx fs)∧fs.lookup m = none ∧
  t σ H1 fun vs H2=>sp (x :: (vs ++ dvs)) H2 Q E
def tMake (C:Addr) (sp:Sp) (dvs:List V) (E:XK) (t:TA):TE:=fun σ H Q=>t σ H fun vs H1=>∀ x dx,H1 x = none→H1 dx = none→dx≠x→
  sp (.ref x :: (vs ++ dvs)) (upd (upd H1 dx (.own x)) x (.ins C dx [])) (fun v H2=>v = .non∧Q (.ref x) H2) E
def Binds (K:PySem.W.Frag) (fd:FuncData) (ps:List Str) (ds:List Value):Prop:=
  ∀ (s:Shared) (us:List Value),K.In s.heap→(us ++ ds).length = ps.length→BindsTo s fd ⟨us,[]⟩ (ps.zip (us ++ ds))
theorem Binds.all {K:PySem.W.Frag}{fd:FuncData}{ps:List Str} (h:∀ us:List Value,us.length = ps.length→bindArgs fd ⟨us,[]⟩ = pure (ps.zip us)):Binds K fd ps []:=fun s us _ hl=>by
  rw [List.append_nil] at hl ⊢
  exact .of_eq (h us hl)
def Passes (CX:CXT) (X:Cx) (E:XK):Prop:=∀ (pins:List (Addr × Obj)) (σ:St) (H:Hp) (s:Shared) (e:Value) (s':Shared),Inv X pins σ H s→CX X.stack H s E e s'→X.xe e s'
section
variable {X:Cx}{CX:CXT}{k:Nat}{f C:Addr}{fd:FuncData}{ps:List Str}{sp:Sp}{dvs:List V}{ds:List Value}{E:XK}{x m:Str}{p pos apos:Pos}{e o:Expr}{es:List Expr}{ta:TE}{t:TA}
theorem run_fn {pins:List (Addr × Obj)}{σ:St}{H:Hp}{s:Shared}{Q:VK}{us:List Value}{vs:List V} (F:FnOk X.prog X.w X.K X.mg X.base CX k f fd ps sp) (hr:Room k X.A) (hb:Binds X.K fd ps ds) (hd:Vals dvs ds) (hx:Passes CX X E)
    (I:Inv X pins σ H s) (r:Vals vs us) (h:sp (vs ++ dvs) H Q E):wpAny (model X.prog X.w) X.A (call (.ref f) us) (EP X pins σ Q) X.xe s:=by
  have r2:Vals (vs ++ dvs) (us ++ ds):=r.append hd
  have hl:(us ++ ds).length = ps.length:=by rw [← r2.length]; exact F.len _ _ _ _ h
  refine wpAny_call (codeAny_mono (F.run X.A X.stack s H ⟨us,[]⟩ (us ++ ds) (vs ++ dvs) Q E hr I.env0 (hb s us I.kIn hl) r2 h) fun r s' hq=>?_)
  cases r with
  | error e=>exact hx pins σ H s e s' I hq
  | ok fl=>
    cases fl with
    | ret u=>exact I.after hq
    | next=>exact False.elim hq
    | brk=>exact False.elim hq
    | cont=>exact False.elim hq
theorem pe_call (F:FnOk X.prog X.w X.K X.mg X.base CX k f fd ps sp) (hr:Room k X.A) (hg:Gl X x) (hm:X.mg x = some (.ref f)) (hk:PySem.W.keepIn X.K (.ref f) = true) (hb:Binds X.K fd ps ds) (hd:Vals dvs ds) (hx:Passes CX X E)
    (ha:PA X (e :: es) t) (hdb:(x == ("__debug__":Str)) = false:=by decide) (he:starEach (e :: es) X.env = (false,eval e X.env) :: starEach es X.env:=by rfl) (hpl:(backTo pos (starEach es X.env)).any (·.1) = false:=by rfl):
    PE X (.Call (.Name x p) (e :: es) [] pos) (tCall sp dvs E t):=by
  intro pins s σ H Q I h
  refine wpAny_Call_Name_kw (ld_glob I hg hm ?_ hdb)
  refine PySem.W.callWith_K (h₀:=X.base) I.ok.mod.kin hk (thn (ha pos pins s σ H _ I h) fun us s1 ⟨vs,H1,I1,r,q⟩=>⟨I1.kIn,?_⟩) he hpl
  exact run_fn F hr hb hd hx I1 r q
theorem pe_meth {pl:Sem Bool} (he:PE X o ta) (c:Cls X.K C) (hm:Meth X.K C m f) (F:FnOk X.prog X.w X.K X.mg X.base CX k f fd ps sp) (hr:Room k X.A) (hb:Binds X.K fd ps ds) (hd:Vals dvs ds) (hx:Passes CX X E) (ha:PA X (e :: es) t)
    (hst:starEach (e :: es) X.env = (false,eval e X.env) :: starEach es X.env:=by rfl) (hpl:(backTo pos (starEach es X.env)).any (·.1) = false:=by rfl)
    (ht:eval (.Call (.Attribute o m apos) (e :: es) [] pos) X.env = (do
      let ov ← eval o X.env
      standAt apos.atName
      let (f,first) ← holding [ov] (getMethod ov m pl)
      callWith pos f first (backTo pos (starEach (e :: es) X.env)) (backToKw pos (keywordEach [] X.env))):=by rfl):
    PE X (.Call (.Attribute o m apos) (e :: es) [] pos) (tMeth C m sp dvs E ta t):=by
  intro pins s σ H Q I h
  refine PySem.W.methodCall_KW (pl:=pl) (thn (he pins s σ H _ I h) fun u s1 ⟨x,H1,I1,rx,a,dx,fs,ex,ea,l,q⟩=>?_) ht
  subst ex
  obtain rfl:u = Value.ref a:=rx
  refine getmeth_ok I1 ea c hm l ?_
  refine PySem.W.callWith_K (first:=[.ref a]) (h₀:=X.base) I.ok.mod.kin hm.kp (thn (ha pos pins s1 σ H1 _ I1 q) fun us s2 ⟨vs,H2,I2,r,q2⟩=>⟨I2.kIn,?_⟩) hst hpl
  exact run_fn (us:=.ref a :: us) (vs:=.ref a :: vs) F hr hb hd hx I2 (.cons rfl r) q2
structure Mk (K:PySem.W.Frag) (C f:Addr):Prop where
  makes:PySem.W.makesIn K C = true
  init:PySem.W.findIn K (.ref C) "__init__" = some (some (.ref f))
  fn:PySem.W.isFn K (.ref f) = true
  kp:PySem.W.keepIn K (.ref C) = true
theorem run_make {pins:List (Addr × Obj)}{σ:St}{H:Hp}{s:Shared}{Q:VK}{us:List Value}{vs:List V} (M:Mk X.K C f) (F:FnOk X.prog X.w X.K X.mg X.base CX k f fd ps sp) (hr:Room (k + 1) X.A) (hb:Binds X.K fd ps ds) (hd:Vals dvs ds)
    (hx:Passes CX X E) (I:Inv X pins σ H s) (r:Vals vs us)
    (h:∀ x dx,H x = none→H dx = none→dx≠x→sp (.ref x :: (vs ++ dvs)) (upd (upd H dx (.own x)) x (.ins C dx [])) (fun v H2=>v = .non∧Q (.ref x) H2) E):
    wpAny (model X.prog X.w) X.A (call (.ref C) us) (EP X pins σ Q) X.xe s:=by
  have hq:=h (s.heap.objs.size + 1) s.heap.objs.size (I.hok.fresh (Nat.le_succ _)) (I.hok.fresh (Nat.le_refl _)) (Nat.ne_of_lt (Nat.lt_succ_self _))
  have I2:=Inv.made (C:=C) I
  have r2:Vals (V.ref (s.heap.objs.size + 1) :: (vs ++ dvs)) (Value.ref (s.heap.objs.size + 1) :: (us ++ ds)):=.cons rfl (r.append hd)
  have hl:(Value.ref (s.heap.objs.size + 1) :: us ++ ds).length = ps.length:=by
    have e:=r2.length
    rw [F.len _ _ _ _ hq] at e
    exact e.symm
  refine wpAny_call (make_map (f:=f) I.kIn M.makes M.init (beq_iff_eq.mp M.fn) (codeAny_mono (F.run _ X.stack _ _ ⟨Value.ref (s.heap.objs.size + 1) :: us,[]⟩ (Value.ref (s.heap.objs.size + 1) :: (us ++ ds)) _ _ E (hr.make C us [])
    (I2.env0.make C us []) (hb _ (Value.ref (s.heap.objs.size + 1) :: us) I2.kIn hl) r2 hq) fun r s' hq'=>?_))
  cases r with
  | error e=>exact hx pins σ _ _ e s' I2 hq'
  | ok fl=>
    cases fl with
    | ret u=>
      obtain ⟨v,H',I3,rv,ev,q3⟩:=I2.after hq'
      subst ev
      exact ⟨rv,⟨V.ref (s.heap.objs.size + 1),H',I3,rfl,q3⟩⟩
    | next=>exact False.elim hq'
    | brk=>exact False.elim hq'
    | cont=>exact False.elim hq'
theorem pe_make (M:Mk X.K C f) (F:FnOk X.prog X.w X.K X.mg X.base CX k f fd ps sp) (hr:Room (k + 1) X.A) (hg:Gl X x) (hm:X.mg x = some (.ref C)) (hb:Binds X.K fd ps ds) (hd:Vals dvs ds) (hx:Passes CX X E)
    (ha:PA X (e :: es) t) (hdb:(x == ("__debug__":Str)) = false:=by decide) (he:starEach (e :: es) X.env = (false,eval e X.env) :: starEach es X.env:=by rfl) (hpl:(backTo pos (starEach es X.env)).any (·.1) = false:=by rfl):
    PE X (.Call (.Name x p) (e :: es) [] pos) (tMake C sp dvs E t):=by
  intro pins s σ H Q I h
  refine wpAny_Call_Name_kw (ld_glob I hg hm ?_ hdb)
  refine PySem.W.callWith_K (h₀:=X.base) I.ok.mod.kin M.kp (thn (ha pos pins s σ H _ I h) fun us s1 ⟨vs,H1,I1,r,q⟩=>⟨I1.kIn,?_⟩) he hpl
  exact run_make M F hr hb hd hx I1 r q
end
def PK (X:Cx) (kws:List Keyword) (t:TA):Prop:=
  ∀ (pos:Pos) (pins:List (Addr × Obj)) (s:Shared) (σ:St) (H:Hp) (Q:List V→Hp→Prop),Inv X pins σ H s→t σ H Q→wpAny (model X.prog X.w) X.A (evalAll ((backToKw pos (keywordEach kws X.env)).map (·.2))) (AP X pins σ Q) X.xe s
section
variable {X:Cx}{CX:CXT}{k:Nat}{f C:Addr}{fd:FuncData}{ps ks:List Str}{sp:Sp}{E:XK}{x m:Str}{p pos apos kpos:Pos}{e o:Expr}{es:List Expr}{kws:List Keyword}{te ta:TE}{t tk:TA}{nm:Option Str}
structure KBinds (K:PySem.W.Frag) (fd:FuncData) (ps ks:List Str) (g:List Value→List Value→List Value) (gV:List V→List V→List V):Prop where
  to:∀ (s:Shared) (us ws:List Value),K.In s.heap→(g us ws).length = ps.length→BindsTo s fd ⟨us,ks.zip ws⟩ (ps.zip (g us ws))
  rel:∀ {vs:List V}{us:List Value}{zs:List V}{ws:List Value},Vals vs us→Vals zs ws→Vals (gV vs zs) (g us ws)
def tCallK (sp:Sp) (gV:List V→List V→List V) (E:XK) (t tk:TA):TE:=fun σ H Q=>t σ H fun vs H1=>tk σ H1 fun zs H2=>sp (gV vs zs) H2 Q E
variable {g:List Value→List Value→List Value}{gV:List V→List V→List V}
end
structure FnScope (N P:List Str) (sc:Scope):Prop where
  kind:sc.kind = .function
  co:sc.isCoroutine = false
  gen:sc.isGenerator = false
  nd:N.Nodup
  pre:N.take P.length = P
  par:∀ x∈P,sc.names.lookup x = some .local∨sc.names.lookup x = some .cell
  nofree:∀ y∈sc.names,y.2≠.free
theorem bindL_out {kindOf:Str→Option NameKind}{x:Str}:∀ {binds:List (Str × Value)}{m:Str→Option Value},(∀ v,(x,v) ∉ binds)→bindL kindOf binds m x = m x
  | [],_,_=>rfl
  | (n,v) :: r,m,h=>by
    unfold bindL
    rw [bindL_out fun w hw=>h w (List.mem_cons_of_mem _ hw)]
    split
    · have:x≠n:=by rintro rfl; exact h v List.mem_cons_self
      simp [this]
    · rfl
theorem bindC_out {kindOf:Str→Option NameKind}{x:Str}:∀ {binds:List (Str × Value)}{m:Str→Option Value},(∀ v,(x,v) ∉ binds)→bindC kindOf binds m x = m x
  | [],_,_=>rfl
  | (n,v) :: r,m,h=>by
    unfold bindC
    rw [bindC_out fun w hw=>h w (List.mem_cons_of_mem _ hw)]
    split
    · rfl
    · have:x≠n:=by rintro rfl; exact h v List.mem_cons_self
      simp [this]
theorem bindL_get {kindOf:Str→Option NameKind}{x:Str}{v:Value}:∀ {P:List Str}{vs:List Value}{i:Nat}{m:Str→Option Value},P.Nodup→P[i]? = some x→vs[i]? = some v→kindOf x = some .local→
    bindL kindOf (P.zip vs) m x = some v
  | [],_,_,_,_,h,_,_=>by simp at h
  | _ :: _,[],_,_,_,_,h,_=>by simp at h
  | p :: P,w :: vs,0,m,nd,h1,h2,hk=>by
    simp at h1 h2; subst h1; subst h2
    show bindL kindOf ((p,w) :: P.zip vs) m p = _
    unfold bindL
    rw [bindL_out fun v hv=>(List.nodup_cons.mp nd).1 (List.of_mem_zip hv).1,if_pos hk]
    simp
  | p :: P,w :: vs,i + 1,m,nd,h1,h2,hk=>by
    show bindL kindOf ((p,w) :: P.zip vs) m x = _
    unfold bindL
    exact bindL_get (i:=i) (List.nodup_cons.mp nd).2 (by simpa using h1) (by simpa using h2) hk
theorem bindC_get {kindOf:Str→Option NameKind}{x:Str}{v:Value}:∀ {P:List Str}{vs:List Value}{i:Nat}{m:Str→Option Value},P.Nodup→P[i]? = some x→vs[i]? = some v→kindOf x≠some .local→
    bindC kindOf (P.zip vs) m x = some v
  | [],_,_,_,_,h,_,_=>by simp at h
  | _ :: _,[],_,_,_,_,h,_=>by simp at h
  | p :: P,w :: vs,0,m,nd,h1,h2,hk=>by
    simp at h1 h2; subst h1; subst h2
    show bindC kindOf ((p,w) :: P.zip vs) m p = _
    unfold bindC
    rw [bindC_out fun v hv=>(List.nodup_cons.mp nd).1 (List.of_mem_zip hv).1,if_neg hk]
    simp
  | p :: P,w :: vs,i + 1,m,nd,h1,h2,hk=>by
    show bindC kindOf ((p,w) :: P.zip vs) m x = _
    unfold bindC
    exact bindC_get (i:=i) (List.nodup_cons.mp nd).2 (by simpa using h1) (by simpa using h2) hk
def start (N:List Str) (vs:List V):St:=vs.map some ++ List.replicate (N.length - vs.length) none
def cxOf (CX:CXT) (P:Program) (w:World) (K:PySem.W.Frag) (mg:Str→Option Value) (base:Heap) (N:List Str) (qual:Str) (scope:Scope) (f:Addr) (cd:Value) (A:Around) (outer:List Env) (s:Shared) (H:Hp) (E:XK):Cx where
  prog:=P
  w:=w
  K:=K
  mg:=mg
  base:=base
  A:=A.deeper (envOfC qual scope s.heap.objs.size f cd)
  N:=N
  s₀:=s
  H₀:=H
  env:=envOfC qual scope s.heap.objs.size f cd
  outer:=outer
  stack:=envOfC qual scope s.heap.objs.size f cd :: outer
  ex:=[]
  calm:=true
  fn:=fun _=>true
  pn:=[]
  xe:=fun e s'=>wpAny (model P w) (A.deeper (envOfC qual scope s.heap.objs.size f cd)) (leaving (envOfC qual scope s.heap.objs.size f cd) e) (fun _ s''=>CX outer H s E e s'') (fun e' s''=>CX outer H s E e' s'') s'
theorem cell_has {sc:Scope}{n:Nat}{x:Str} (h:sc.names.lookup x = some .cell):∃ c,(cellsFrom n sc.names []).lookup x = some c:=by
  have q:=PySem.W.cellsFrom_some sc.names n [] (.inl h)
  exact Option.isSome_iff_exists.mp q
theorem inv_start {CX:CXT}{P:Program}{w:World}{K:PySem.W.Frag}{mg:Str→Option Value}{base:Heap}{N ps:List Str}{qual:Str}{scope:Scope}{f:Addr}{cd:Value}{A:Around}{outer:List Env}{s s1:Shared}{H:Hp}{E:XK}{us:List Value}{vs:List V}
    (S:FnScope N ps scope) (hd:A.handled = none) (e0:Env0 P w K mg base A outer s H) (hl:vs.length = ps.length) (r:Vals vs us)
    (x:InCallC s s.heap.objs.size (bindL (envOfC qual scope s.heap.objs.size f cd).kindOf (ps.zip us) fun _=>none) (cellsFrom (s.heap.objs.size + 1) scope.names []) (bindC (envOfC qual scope s.heap.objs.size f cd).kindOf (ps.zip us) fun _=>none) s1):
    Inv (cxOf CX P w K mg base N qual scope f cd A outer s H E) [] (start N vs) H s1:=by
  have hpl:ps.length≤N.length:=by have:=congrArg List.length S.pre; rw [List.length_take] at this; omega
  obtain ⟨h1,tk,rfl,hk⟩:=x.done
  have noA:∀ b:Addr,b ∉ (cxOf CX P w K mg base N qual scope f cd A outer s H E).ex:=fun b z=>absurd (show b∈([]:List Addr) from z) (by simp)
  refine ⟨⟨e0.mod,S.kind,rfl,rfl,Nat.le_refl _,fun y z c h1 h2=>?_,fun y hy=>?_,fun y c _ h=>?_,fun _=>hd,Around.frames_deeper e0.frames,.inr ⟨rfl,rfl⟩,fun b z=>absurd z (noA b),e0.bs,e0.bsz,fun b _ _=>noA b,fun b z=>absurd z (noA b),e0.funs,e0.frf⟩,
    rfl,e0.bare,Un.kept hk,⟨_,x.toInCall.ns,fun i y v h1 h2 h3=>?_⟩,fun y c h=>⟨_,x.cell y c h⟩,e0.hok.fresh (Nat.le_refl _),fun y c h=>?_,fun p hp=>absurd (show p∈([]:List (Addr × Obj)) from hp) (by simp),e0.hok.kept hk,?_⟩
  · exact name_of_addr x.apart (PySem.mem_of_lookup h1) (PySem.mem_of_lookup h2)
  · have hy:scope.names.lookup y = some .cell∨scope.names.lookup y = some .free:=hy
    rcases hy with hy | hy
    · exact cell_has hy
    · exact absurd rfl (S.nofree _ (PySem.mem_of_lookup hy))
  · exact Nat.le_of_lt (x.above y c (PySem.mem_of_lookup h))
  · have hi:i < vs.length:=by
      unfold start at h2
      by_cases hi:i < vs.length
      · exact hi
      · rw [List.getElem?_append_right (by simpa using hi)] at h2
        rw [List.getElem?_replicate] at h2
        split at h2 <;> cases h2
    have ha:vs[i]? = some v:=by
      unfold start at h2
      rw [List.getElem?_append_left (by simpa using hi),List.getElem?_map] at h2
      cases e:vs[i]? with
      | none=>rw [e] at h2; cases h2
      | some a=>rw [e] at h2; cases h2; rfl
    obtain ⟨u,hu,rv⟩:=r.get ha
    have hp:ps[i]? = some y:=by
      rw [← S.pre,List.getElem?_take_of_lt (by omega)]; exact h1
    have ndP:ps.Nodup:=by rw [← S.pre]; exact S.nd.sublist (List.take_sublist _ _)
    refine ⟨u,rv,?_⟩
    rcases S.par y (List.mem_of_getElem? hp) with k | k
    · exact .inl ⟨k,bindL_get ndP hp hu k⟩
    · obtain ⟨c,e⟩:=cell_has (n:=s.heap.objs.size + 1) k
      refine .inr ⟨.inl k,c,e,?_⟩
      have q:=x.cell y c e
      rw [bindC_get ndP hp hu (by show scope.names.lookup y≠_; rw [k]; decide)] at q
      exact q
  · exact e0.hok.fresh (Nat.le_of_lt (x.above y c (PySem.mem_of_lookup h)))
  · unfold start
    show _ = N.length
    rw [List.length_append,List.length_map,List.length_replicate]
    omega
theorem fn_of {CX:CXT}{P:Program}{w:World}{K:PySem.W.Frag}{mg:Str→Option Value}{base:Heap}{k:Nat}{f:Addr}{name qual:Str}{params:Arguments}{body:List Stmt}{scope:Scope}{dV kV doc pm cdv ct oc:Value}{an od:Option Addr}
    {osl:Array (Option Value)}{N ps:List Str}{sp:Sp} (lk:K.lookup f = some ⟨oc,od,.func (PySem.W.fnOf name qual params body scope dV kV doc pm an cdv ct),osl⟩) (hcd:PySem.W.codeIn K cdv qual = true) (S:FnScope N ps scope)
    (len:∀ vs H Q E,sp vs H Q E→vs.length = ps.length)
    (hbody:∀ (A:Around) (outer:List Env) (s:Shared) (H:Hp) (vs:List V) (Q:VK) (E:XK),Room k (A.deeper (envOfC qual scope s.heap.objs.size f cdv))→sp vs H Q E→
      ∃ t,PSs (cxOf CX P w K mg base N qual scope f cdv A outer s H E) body t∧t { nx:=fun _ H'=>Q .non H',rt:=Q } (start N vs) H):
    FnOk P w K mg base CX (k + 1) f (PySem.W.fnOf name qual params body scope dV kV doc pm an cdv ct) ps sp:=by
  refine ⟨len,fun A outer s H args us vs Q E hr e0 hb r hsp=>?_⟩
  have hl:=len _ _ _ _ hsp
  have KX:K.In s.heap:=e0.mod.kin.keeps fun b o e=>(e0.bs b o e).1
  have lim:s.heap.NoLimit:=e0.mod.nolimit.keeps fun b o e=>(e0.bs b o e).1
  have hkind:∀ y∈ps.zip us,scope.names.lookup y.1 = some .local∨(scope.names.lookup y.1 = some .cell∧((cellsFrom (s.heap.objs.size + 1) scope.names []).lookup y.1).isSome = true):=fun ⟨n,v⟩ hy=>by
    rcases S.par n (List.of_mem_zip hy).1 with q | q
    · exact .inl q
    · exact .inr ⟨q,PySem.W.cellsFrom_some _ _ _ (.inl q)⟩
  refine codeAny_call_function hr.depth (KX _ _ lk) rfl S.co S.gen rfl (PySem.W.codeRec_of KX hcd) (hb _ _ _ _ ?_)
  refine wpAny_newFunctionEnv_cells S.kind hkind fun env he s1 x=>?_
  subst he
  refine ⟨lim.keeps x.toInCall.keep,codeAny_func ?_⟩
  obtain ⟨t,ht,hq⟩:=hbody A outer s H vs Q E (hr.deeper _) hsp
  have I:Inv (cxOf CX P w K mg base N qual scope f cdv A outer s H E) [] (start N vs) H s1:=inv_start S hr.hd e0 hl r x
  refine wpAny_mono (ht [] s1 (start N vs) H _ I hq) (fun fl s' hs=>?_) fun e s' hs=>hs
  have fin:∀ {σ':St}{H':Hp}{v:V}{u:Value},Inv (cxOf CX P w K mg base N qual scope f cdv A outer s H E) [] σ' H' s'→RelV v u→Q v H'→CE outer P w H s Q u s':=
    fun {σ' H' v u} J rv q=>⟨v,H',J.os,J.bare,J.base,J.hok,rv,q⟩
  cases fl with
  | ret u=>
    obtain ⟨v,σ',H',J,rv,q⟩:=hs
    exact fin J rv q
  | next=>
    obtain ⟨σ',H',J,q⟩:=hs
    exact fin (v:=V.non) (u:=Value.none) J rfl q
  | brk=>
    obtain ⟨_,_,_,q⟩:=hs
    exact False.elim q
  | cont=>
    obtain ⟨_,_,_,q⟩:=hs
    exact False.elim q
end L2
namespace L2
open PySem PySem.Spec PyProof.Rows
section
variable {X:Cx}{x:Str}{p pos:Pos}{e:Expr}{es:List Expr}{t:TA}{id T:String}{r:List V→Hp→VK→Prop}
def tCB (r:List V→Hp→VK→Prop) (t:TA):TE:=fun σ H Q=>t σ H fun vs H1=>r vs H1 Q
theorem pe_callB (hc:CallR X (.builtin id) r) (hg:Gl X x) (hm:X.mg x = none) (hv:bootBuiltins x = some (.builtin id)) (ha:PA X (e :: es) t) (hn:x≠"__name__":=by decide) (hdb:(x == ("__debug__":Str)) = false:=by decide)
    (he:starEach (e :: es) X.env = (false,eval e X.env) :: starEach es X.env:=by rfl) (hpl:(backTo pos (starEach es X.env)).any (·.1) = false:=by rfl):PE X (.Call (.Name x p) (e :: es) [] pos) (tCB r t):=by
  intro pins s σ H Q I h
  refine wpAny_Call_Name_kw (ld_blt I hg hm hv ?_ hn hdb)
  exact PyProof.Rows.callWith_builtin1 (thn (ha pos pins s σ H _ I h) fun us s1 ⟨vs,H1,I1,r1,q1⟩=>hc pins s1 σ H1 vs us Q I1 r1 q1) he hpl
theorem pe_callTy (hc:CallR X (.type T) r) (hg:Gl X x) (hm:X.mg x = none) (hv:bootBuiltins x = some (.type T)) (ha:PA X (e :: es) t) (hn:x≠"__name__":=by decide) (hdb:(x == ("__debug__":Str)) = false:=by decide)
    (he:starEach (e :: es) X.env = (false,eval e X.env) :: starEach es X.env:=by rfl) (hpl:(backTo pos (starEach es X.env)).any (·.1) = false:=by rfl):PE X (.Call (.Name x p) (e :: es) [] pos) (tCB r t):=by
  intro pins s σ H Q I h
  refine wpAny_Call_Name_kw (ld_blt I hg hm hv ?_ hn hdb)
  exact PyProof.Rows.callWith_type1 (thn (ha pos pins s σ H _ I h) fun us s1 ⟨vs,H1,I1,r1,q1⟩=>hc pins s1 σ H1 vs us Q I1 r1 q1) he hpl
end
end L2
namespace L2
open PySem PySem.Spec PyProof.Rows
section
variable {κ:Type} [DecidableEq κ]
def valV (kvs:List (κ × V)) (k:κ):Option V:=(kvs.find? fun kv=>decide (kv.1 = k)).map (·.2)
def putK (kvs:List (κ × V)) (k:κ) (v:V):List (κ × V):=
  if (kvs.any fun kv=>decide (kv.1 = k)) = true then kvs.map (fun kv=>if kv.1 = k then (kv.1,v) else kv) else kvs ++ [(k,v)]
def dropK (kvs:List (κ × V)) (k:κ):List (κ × V):=kvs.filter fun kv=>decide (kv.1≠k)
theorem valV_pos {p:κ × V}{r:List (κ × V)}{k:κ} (e:p.1 = k):valV (p :: r) k = some p.2:=by simp [valV,List.find?_cons,e]
theorem valV_neg {p:κ × V}{r:List (κ × V)}{k:κ} (e:¬ p.1 = k):valV (p :: r) k = valV r k:=by simp [valV,List.find?_cons,e]
theorem valV_any (k:κ):∀ kvs:List (κ × V),(kvs.any fun kv=>decide (kv.1 = k)) = (valV kvs k).isSome
  | []=>rfl
  | p :: r=>by
    rw [List.any_cons]
    by_cases e:p.1 = k
    · simp only [valV_pos e,decide_eq_true e,Bool.true_or,Option.isSome_some]
    · rw [valV_neg e,decide_eq_false e,Bool.false_or]; exact valV_any k r
theorem valV_map (k j:κ) (y:V):∀ kvs:List (κ × V),valV (kvs.map fun kv=>if kv.1 = k then (kv.1,y) else kv) j = (valV kvs j).map fun x=>if j = k then y else x
  | []=>rfl
  | p :: r=>by
    have ih:=valV_map k j y r
    rw [List.map_cons]
    by_cases h:p.1 = k
    · rw [if_pos h]
      by_cases e:p.1 = j
      · rw [valV_pos (p:=(p.1,y)) e,valV_pos e,Option.map_some,if_pos (e.symm.trans h)]
      · rw [valV_neg (p:=(p.1,y)) e,valV_neg e,ih]
    · rw [if_neg h]
      by_cases e:p.1 = j
      · rw [valV_pos (p:=p) e,valV_pos e,Option.map_some,if_neg (fun z=>h (e.trans z))]
      · rw [valV_neg (p:=p) e,valV_neg e,ih]
theorem valV_snoc (k j:κ) (y:V):∀ kvs:List (κ × V),valV kvs k = none→valV (kvs ++ [(k,y)]) j = if j = k then some y else valV kvs j
  | [],_=>by
    by_cases e:k = j
    · rw [if_pos e.symm]; exact valV_pos (p:=(k,y)) e
    · rw [if_neg (fun z=>e z.symm)]; exact valV_neg (p:=(k,y)) e
  | p :: r,hn=>by
    rw [List.cons_append]
    have hk:¬ p.1 = k:=fun z=>by rw [valV_pos z] at hn; cases hn
    rw [valV_neg hk] at hn
    have ih:=valV_snoc k j y r hn
    by_cases e:p.1 = j
    · rw [valV_pos e,valV_pos e,if_neg (fun z=>hk (e.trans z))]
    · rw [valV_neg e,valV_neg e,ih]
theorem valV_put (kvs:List (κ × V)) (k j:κ) (y:V):valV (putK kvs k y) j = if j = k then some y else valV kvs j:=by
  unfold putK
  by_cases a:(kvs.any fun kv=>decide (kv.1 = k)) = true
  · rw [if_pos a,valV_map]
    rw [valV_any] at a
    by_cases e:j = k
    · obtain ⟨x,hx⟩:=Option.isSome_iff_exists.mp a
      rw [if_pos e,e,hx,Option.map_some,if_pos rfl]
    · rw [if_neg e]
      cases valV kvs j with
      | none=>rfl
      | some x=>rw [Option.map_some,if_neg e]
  · rw [if_neg a]
    refine valV_snoc k j y kvs ?_
    rw [valV_any] at a
    cases q:valV kvs k with
    | none=>rfl
    | some x=>rw [q] at a; exact (a rfl).elim
theorem length_putK (kvs:List (κ × V)) (k:κ) (v:V):(putK kvs k v).length≤kvs.length + 1:=by
  unfold putK
  split
  · rw [List.length_map]; omega
  · rw [List.length_append,List.length_cons,List.length_nil]; omega
theorem RelO.isSome_eq {o:Option V}{u:Option Value} (r:RelO o u):o.isSome = u.isSome:=by
  cases o with
  | none=>cases u with
    | none=>rfl
    | some _=>exact (show False from r).elim
  | some _=>cases u with
    | none=>exact (show False from r).elim
    | some _=>rfl
theorem RelO.getD {o:Option V}{u:Option Value}{d:V}{d':Value} (r:RelO o u) (rd:RelV d d'):RelV (o.getD d) (u.getD d'):=by
  cases o with
  | none=>cases u with
    | none=>exact rd
    | some _=>exact (show False from r).elim
  | some _=>cases u with
    | none=>exact (show False from r).elim
    | some _=>exact r
theorem KV.val {kvs:List (κ × V)}{vs:List (κ × Value)} (r:KV kvs vs) (k:κ):RelO (valV kvs k) (valueAt vs k):=by
  unfold KV at r
  induction r with
  | nil=>exact True.intro
  | @cons p q ps qs h t ih=>
    obtain ⟨h1,h2⟩:=h
    by_cases e:p.1 = k
    · have e':q.1 = k:=h1.symm.trans e
      have b:valueAt (q :: qs) k = some q.2:=by simp [valueAt,List.find?_cons,e']
      rw [valV_pos e,b]; exact h2
    · have e':¬ q.1 = k:=fun z=>e (h1.trans z)
      have b:valueAt (q :: qs) k = valueAt qs k:=by simp [valueAt,List.find?_cons,e']
      rw [valV_neg e,b]; exact ih
theorem KV.any {kvs:List (κ × V)}{vs:List (κ × Value)} (r:KV kvs vs) (k:κ):(kvs.any fun kv=>decide (kv.1 = k)) = vs.any fun kv=>decide (kv.1 = k):=by
  unfold KV at r
  induction r with
  | nil=>rfl
  | cons h t ih=>rw [List.any_cons,List.any_cons,ih,h.1]
theorem KV.repl {kvs:List (κ × V)}{vs:List (κ × Value)} (r:KV kvs vs) (k:κ) {y:V}{u:Value} (ry:RelV y u):
    KV (kvs.map fun kv=>if kv.1 = k then (kv.1,y) else kv) (vs.map fun kv=>if kv.1 = k then (kv.1,u) else kv):=by
  unfold KV at r ⊢
  induction r with
  | nil=>exact .nil
  | @cons p q ps qs h t ih=>
    rw [List.map_cons,List.map_cons]
    refine .cons ?_ ih
    obtain ⟨h1,h2⟩:=h
    by_cases e:p.1 = k
    · rw [if_pos e,if_pos (h1.symm.trans e)]; exact ⟨h1,ry⟩
    · rw [if_neg e,if_neg (fun z=>e (h1.trans z))]; exact ⟨h1,h2⟩
theorem KV.put {kvs:List (κ × V)}{vs:List (κ × Value)} (r:KV kvs vs) (k:κ) {y:V}{u:Value} (ry:RelV y u):KV (putK kvs k y) (stored vs k u):=by
  unfold putK stored
  rw [r.any k]
  by_cases e:(vs.any fun kv=>decide (kv.1 = k)) = true
  · rw [if_pos e,if_pos e]; exact r.repl k ry
  · rw [if_neg e,if_neg e]; exact Paired.snoc r ⟨rfl,ry⟩
theorem KV.drop {kvs:List (κ × V)}{vs:List (κ × Value)} (r:KV kvs vs) (k:κ):KV (dropK kvs k) (without vs k):=by
  unfold KV at r ⊢
  unfold dropK without
  induction r with
  | nil=>exact .nil
  | @cons p q ps qs h t ih=>
    obtain ⟨h1,h2⟩:=h
    rw [List.filter_cons,List.filter_cons]
    by_cases e:p.1 = k
    · have a:¬ decide (p.1≠k) = true:=by simp [e]
      have b:¬ decide (q.1≠k) = true:=by simp [h1.symm.trans e]
      rw [if_neg a,if_neg b]; exact ih
    · have e':¬ q.1 = k:=fun z=>e (h1.trans z)
      have a:decide (p.1≠k) = true:=by simp [e]
      have b:decide (q.1≠k) = true:=by simp [e']
      rw [if_pos a,if_pos b]; exact .cons ⟨h1,h2⟩ ih
theorem KV.keys {kvs:List (κ × V)}{vs:List (κ × Value)} (r:KV kvs vs):kvs.map (·.1) = vs.map (·.1):=by
  unfold KV at r
  induction r with
  | nil=>rfl
  | cons h t ih=>rw [List.map_cons,List.map_cons,ih,h.1]
theorem KV.length {kvs:List (κ × V)}{vs:List (κ × Value)} (r:KV kvs vs):kvs.length = vs.length:=Paired.length r
end
theorem kV_is {P:Program}{w:World}{k:Key}{u:Value} (r:RelV (kV k) u):(mixKind P w).is k u = true:=by
  cases k with
  | inl i=>obtain ⟨t,e⟩:=(show ∃ t,u = Value.int i t from r); subst e; exact mixKind_int P w i t
  | inr x=>obtain ⟨t,e⟩:=(show ∃ t,u = Value.str x t from r); subst e; exact mixKind_str P w x t
theorem items_are {P:Program}{w:World}:∀ {ks:List Key}{us:List Value},Vals (ks.map kV) us→ItemsAre (mixKind P w) ks us
  | [],_,r=>by rw [List.map_nil] at r; cases r; exact .nil
  | k :: ks,_,r=>by
    rw [List.map_cons] at r
    cases r with
    | cons h t=>exact .cons (kV_is h) (items_are t)
abbrev KT (H:Hp):List (List Key × V)→List (List Key × Addr × Value)→Prop:=Paired fun p q=>p.1 = q.1∧H q.2.1 = some (.tup (p.1.map kV))∧RelV p.2 q.2.2
theorem KT.val {H:Hp}{kvs:List (List Key × V)}{xs:List (List Key × Addr × Value)} (r:KT H kvs xs) (k:List Key):RelO (valV kvs k) ((atKey xs k).map (·.2)):=by
  induction r with
  | nil=>exact True.intro
  | @cons p q ps qs h t ih=>
    obtain ⟨h1,_,h2⟩:=h
    by_cases e:p.1 = k
    · have e':q.1 = k:=h1.symm.trans e
      have b:atKey (q :: qs) k = some q.2:=by simp [atKey,List.find?_cons,e']
      rw [valV_pos e,b]; exact h2
    · have e':¬ q.1 = k:=fun z=>e (h1.trans z)
      have b:atKey (q :: qs) k = atKey qs k:=by simp [atKey,List.find?_cons,e']
      rw [valV_neg e,b]; exact ih
theorem KT.repl {H:Hp}{kvs:List (List Key × V)}{xs:List (List Key × Addr × Value)} (r:KT H kvs xs) (k:List Key) {y:V}{u:Value} (ry:RelV y u):
    KT H (kvs.map fun kv=>if kv.1 = k then (kv.1,y) else kv) (xs.map (putAt k u)):=by
  induction r with
  | nil=>exact .nil
  | @cons p q ps qs h t ih=>
    rw [List.map_cons,List.map_cons]
    refine .cons ?_ ih
    obtain ⟨h1,h2,h3⟩:=h
    unfold putAt
    by_cases e:p.1 = k
    · rw [if_pos e,if_pos (h1.symm.trans e)]; exact ⟨h1,h2,ry⟩
    · rw [if_neg e,if_neg (fun z=>e (h1.trans z))]; exact ⟨h1,h2,h3⟩
theorem KT.put {H:Hp}{kvs:List (List Key × V)}{xs:List (List Key × Addr × Value)} (r:KT H kvs xs) (k:List Key) {b:Addr}{y:V}{u:Value} (hb:H b = some (.tup (k.map kV))) (ry:RelV y u):
    KT H (putK kvs k y) (storedH xs k b u):=by
  have e:(kvs.any fun kv=>decide (kv.1 = k)) = (atKey xs k).isSome:=by
    rw [valV_any,(r.val k).isSome_eq,Option.isSome_map]
  unfold putK storedH
  rw [e]
  by_cases q:(atKey xs k).isSome = true
  · rw [if_pos q,if_pos q]; exact r.repl k ry
  · rw [if_neg q,if_neg q]; exact Paired.snoc r ⟨rfl,hb,ry⟩
theorem KT.keeps {H H':Hp}{kvs:List (List Key × V)}{xs:List (List Key × Addr × Value)} (r:KT H kvs xs) (ht:∀ b ys,H b = some (.tup ys)→H' b = some (.tup ys)):KT H' kvs xs:=
  Paired.mapP r fun _ _ z=>⟨z.1,ht _ _ z.2.1,z.2.2⟩
section
variable {P:Program}{w:World}{H:Hp}{h:Heap}{a:Addr}
theorem rd_of {u:HO} (ok:HOk P w H h) (e:Rd H a u):ObjOk P w H h a u:=e.ok ok
theorem dk_rd {kvs:List (Key × V)} (ok:HOk P w H h) (e:Rd H a (.dK kvs)):kvs.length≤sizeLine∧(a == sysModules) = false∧∃ vs,KV kvs vs∧h.DictOf (mixKind P w) a vs:=
  show ObjOk P w H h a (.dK kvs) from rd_of ok e
theorem dk_of {kvs:List (Key × V)} (ok:HOk P w H h) (e:H a = some (.dK kvs)):kvs.length≤sizeLine∧(a == sysModules) = false∧∃ vs,KV kvs vs∧h.DictOf (mixKind P w) a vs:=dk_rd ok (.inl e)
theorem key_of {ks:List Key} (ok:HOk P w H h) (e:H a = some (.tup (ks.map kV))):(tupleKind (mixKind P w)).is h ks a:=by
  obtain ⟨_,its,r,o,h1,h2,n,h3⟩:=(show ObjOk P w H h a (.tup (ks.map kV)) from ok a _ e)
  exact ⟨o,its.toArray,n,h1,h2,h3,by simpa using items_are r⟩
theorem dt_rd {kvs:List (List Key × V)} (ok:HOk P w H h) (e:Rd H a (.dT kvs)):kvs.length≤sizeLine∧(a == sysModules) = false ∧
    ∃ xs,KT H kvs xs∧h.DictOfH (tupleKind (mixKind P w)) a xs:=by
  obtain ⟨z,y,xs,r,o,es,ep,h1,h2,h3,h4,h5⟩:=(show ObjOk P w H h a (.dT kvs) from rd_of ok e)
  refine ⟨z,y,xs,r,o,es,ep,h1,h2,h3,h4,fun x hx=>?_,h5⟩
  have all:∀ {l:List (List Key × V)}{m:List (List Key × Addr × Value)},KT H l m→∀ x∈m,(tupleKind (mixKind P w)).is h x.1 x.2.1:=by
    intro l m q
    induction q with
    | nil=>intro x hx; exact nomatch hx
    | @cons p q ps qs hq t ih=>
      intro x hx
      rcases List.mem_cons.mp hx with e | hx
      · subst e
        exact key_of ok (by rw [← hq.1]; exact hq.2.1)
      · exact ih x hx
  exact all r x hx
theorem dt_of {kvs:List (List Key × V)} (ok:HOk P w H h) (e:H a = some (.dT kvs)):kvs.length≤sizeLine∧(a == sysModules) = false ∧
    ∃ xs,KT H kvs xs∧h.DictOfH (tupleKind (mixKind P w)) a xs:=dt_rd ok (.inl e)
end
def DGet (H:Hp) (a:Addr) (y:V) (r:Option V):Prop:=
  (∃ kvs k,Rd H a (.dK kvs)∧y = kV k∧r = valV kvs k)∨∃ kvs k b,Rd H a (.dT kvs)∧y = .ref b∧H b = some (.tup (k.map kV))∧r = valV kvs k
def DPut (H:Hp) (a:Addr) (y v:V) (H':Hp):Prop:=
  (∃ kvs k,H a = some (.dK kvs)∧y = kV k∧kvs.length < sizeLine∧H' = upd H a (.dK (putK kvs k v))) ∨
  ∃ kvs k b,H a = some (.dT kvs)∧y = .ref b∧H b = some (.tup (k.map kV))∧kvs.length < sizeLine∧H' = upd H a (.dT (putK kvs k v))
theorem DGet.k {H:Hp}{a:Addr}{kvs:List (Key × V)}{k:Key} (e:H a = some (.dK kvs)):DGet H a (kV k) (valV kvs k):=.inl ⟨kvs,k,.inl e,rfl,rfl⟩
theorem DGet.t {H:Hp}{a b:Addr}{kvs:List (List Key × V)}{k:List Key} (e:H a = some (.dT kvs)) (eb:H b = some (.tup (k.map kV))):DGet H a (.ref b) (valV kvs k):=.inr ⟨kvs,k,b,.inl e,rfl,eb,rfl⟩
theorem DPut.k {H:Hp}{a:Addr}{kvs:List (Key × V)}{k:Key}{v:V} (e:H a = some (.dK kvs)) (hl:kvs.length < sizeLine):DPut H a (kV k) v (upd H a (.dK (putK kvs k v))):=.inl ⟨kvs,k,e,rfl,hl,rfl⟩
theorem DPut.t {H:Hp}{a b:Addr}{kvs:List (List Key × V)}{k:List Key}{v:V} (e:H a = some (.dT kvs)) (eb:H b = some (.tup (k.map kV))) (hl:kvs.length < sizeLine):
    DPut H a (.ref b) v (upd H a (.dT (putK kvs k v))):=.inr ⟨kvs,k,b,e,rfl,eb,hl,rfl⟩
section
variable {X:Cx}{pins:List (Addr × Obj)}{σ:St}{H:Hp}{s:Shared}{a:Addr}{y v:V}{u r:Value}{o:Option V}{A:Around}{E:Value→Shared→Prop}
theorem Inv.big (I:Inv X pins σ H s):sysModules < s.heap.objs.size:=by
  have h:mainGlobals < s.heap.objs.size:=(I.mod.glob.keeps I.bk).lt
  exact Nat.lt_trans (by decide) h
theorem d_getItem {Q:Value→Shared→Prop} (hu:A.units + 1 < cLine) (I:Inv X pins σ H s) (g:DGet H a y (some v)) (ry:RelV y u) (h:∀ w' s',Inv X pins σ H s'→RelV v w'→Q w' s'):
    wpAny (model X.prog X.w) A (getItem (.ref a) u) Q E s:=by
  rcases g with ⟨kvs,k,e,ey,l⟩ | ⟨kvs,k,b,e,ey,eb,l⟩
  · subst ey
    obtain ⟨z,hd,vs,rel,dd⟩:=dk_rd I.hok e
    obtain ⟨w',hw,rw'⟩:=RelO.some_of (v:=v) (o:=valueAt vs k) (by rw [l]; exact rel.val k)
    exact wpAny_getItem_of (kV_is ry) dd.mapOf hw (h w' _ (I.tok _) rw')
  · subst ey
    cases (show u = Value.ref b from ry)
    obtain ⟨z,hd,xs,rel,dd⟩:=dt_rd I.hok e
    obtain ⟨w',hw,rw'⟩:=RelO.some_of (v:=v) (o:=(atKey xs k).map (·.2)) (by rw [l]; exact rel.val k)
    obtain ⟨p,hp,hp2⟩:=Option.map_eq_some_iff.mp hw
    refine wpAny_getItem_heap (tupleKind_room_in1 hu) (key_of I.hok eb) dd hp ?_
    rw [hp2]
    exact h w' _ (I.tok _) rw'
theorem d_write {h':Heap}{t':Nat}{ob:HO} (I:Inv X pins σ H s) (mu:Mut (H a)) (hs:Heap.SameBut a s.heap h') (he:∃ q,h'.get? a = some q) (new:ObjOk X.prog X.w (upd H a ob) h' a ob):
    Inv X pins σ (upd H a ob) { s with heap:=h',toks:=t' }:=
  I.write (x:=a) (e:=a) mu (.inl rfl) (fun b q hb z=>(hs.2 b hb).trans z) he new
theorem dk_new {P:Program}{w:World}{H':Hp}{h':Heap}{kvs:List (Key × V)}{vs:List (Key × Value)} (z:kvs.length≤sizeLine) (hd:(a == sysModules) = false) (rel:KV kvs vs) (dd:h'.DictOf (mixKind P w) a vs):
    ObjOk P w H' h' a (.dK kvs):=⟨z,hd,vs,rel,dd⟩
theorem d_setItem {H':Hp}{Q:Unit→Shared→Prop} (hu:A.units + 1 < cLine) (I:Inv X pins σ H s) (g:DPut H a y v H') (ry:RelV y u) (rv:RelV v r) (h:∀ s',Inv X pins σ H' s'→Q () s'):
    wpAny (model X.prog X.w) A (setItem (.ref a) u r) Q E s:=by
  rcases g with ⟨kvs,k,e,ey,l,eH⟩ | ⟨kvs,k,b,e,ey,eb,l,eH⟩
  · subst ey eH
    obtain ⟨z,hd,vs,rel,dd⟩:=dk_of I.hok e
    have hz:vs.length≤sizeLine:=by rw [← rel.length]; exact z
    have hl:(putK kvs k v).length≤sizeLine:=by have:=length_putK kvs k v; omega
    refine wpAny_setItem_pairs (hsz:=hz) (kV_is ry) dd fun h' dd' hs=>h _ ?_
    have he:∃ q,h'.get? a = some q:=let ⟨q,_,_,hq,_⟩:=dd'; ⟨q,hq⟩
    exact d_write I (by rw [e]; exact True.intro) hs he (dk_new hl hd (rel.put k rv) dd')
  · subst ey eH
    cases (show u = Value.ref b from ry)
    obtain ⟨z,hd,xs,rel,dd⟩:=dt_of I.hok e
    have hz:xs.length≤sizeLine:=by rw [← Paired.length rel]; exact z
    have hl:(putK kvs k v).length≤sizeLine:=by have:=length_putK kvs k v; omega
    refine wpAny_setItem_heap (hsz:=hz) (tupleKind_room_in1 hu) (key_of I.hok eb) dd fun h' dd' hs=>h _ ?_
    obtain ⟨q,es,ep,hq,h2,h3,h4,_,h5⟩:=dd'
    refine d_write I (by rw [e]; exact True.intro) hs ⟨q,hq⟩ ⟨hl,hd,_,(rel.put k eb rv).keeps fun c ys ec=>?_,q,es,ep,hq,h2,h3,h4,h5⟩
    rw [upd_ne (ne_of ec e (fun z=>nomatch z))]
    exact ec
end
section
variable {X:Cx}{pins:List (Addr × Obj)}{σ:St}{H:Hp}{s:Shared}{a:Addr}{kvs:List (Key × V)}{k:Key}{u:Value}{A:Around}{E:Value→Shared→Prop}
end
def NoSl (i:Expr):Prop:=∀ ov iv,subscripted i false ov iv = operate [ov,iv] (getItem ov iv)
theorem subD_of {prog:Program}{w:World}{A:Around}{E:Value→Shared→Prop}{s:Shared}{env:Env}{value slice:Expr}{pos:Pos}{T id:String}{Q:Value→Shared→Prop}
    (hl:typeLookup (.type T) "__getitem__" = pure (some (.builtin id))) (hs:NoSl slice)
    (h:wpAny (model prog w) A (eval value env) (fun o s₁=>wpAny (model prog w) A (eval slice env) (fun i s₂=>s₂.TypeIs o T∧wpAny (model prog w) A (getItem o i) Q E s₂) E s₁) E s):
    wpAny (model prog w) A (eval (.Subscript value slice pos) env) Q E s:=by
  refine Subscript_ (wpAny_mono h (fun o s₁ h₁=>wpAny_mono h₁ (fun i s₂ h₂=>?_) fun _ _ x=>x) fun _ _ x=>x)
  obtain ⟨hT,h₂⟩:=h₂
  unfold subscriptTail
  refine wpAny_bind ?_
  rw [getitemInPython_of_ne hT.not_modules]
  refine wpAny_bind (wpAny_specialOf hT hl ?_)
  have fin:wpAny (model prog w) A (subscripted slice false o i) (fun r s₃=>wpAny (model prog w) A (letTemporaryGo value o r >>= fun _=>pure r) Q E s₃) E s₂:=by
    rw [hs o i]
    exact wpAny_operating (wpAny_mono h₂ (fun r s₃ h₃=>wpAny_bind (wpAny_letTemporaryGo (wpAny_pure h₃))) fun _ _ x=>x)
  first
    | exact wpAny_pure (wpAny_bind fin)
    | exact wpAny_bind (wpAny_pure (wpAny_bind fin))
    | exact wpAny_bind fin
theorem dict_typeIs {X:Cx}{pins:List (Addr × Obj)}{σ:St}{H:Hp}{s:Shared}{a:Addr}{y:V}{o:Option V} (I:Inv X pins σ H s) (g:DGet H a y o):s.TypeIs (.ref a) "dict":=by
  rcases g with ⟨kvs,k,e,_,_⟩ | ⟨kvs,k,b,e,_,_,_⟩
  · obtain ⟨_,_,vs,_,dd⟩:=dk_rd I.hok e
    exact dd.typeIs
  · obtain ⟨_,_,xs,_,dd⟩:=dt_rd I.hok e
    exact dd.typeIs
def tDGet (td ty:TE):TE:=fun σ H Q=>td σ H fun x H1=>ty σ H1 fun y H2=>∃ a v,x = .ref a∧DGet H2 a y (some v)∧Q v H2
def tDIn (ty td:TE):TE:=fun σ H Q=>ty σ H fun y H1=>td σ H1 fun x H2=>∃ a o,x = .ref a∧DGet H2 a y o∧Q (.bl o.isSome) H2
def tDNotIn (ty td:TE):TE:=fun σ H Q=>ty σ H fun y H1=>td σ H1 fun x H2=>∃ a o,x = .ref a∧DGet H2 a y o∧Q (.bl (!o.isSome)) H2
def sDPut (td ty tv:TE):TS:=fun D σ H=>tv σ H fun v H1=>td σ H1 fun x H2=>ty σ H2 fun y H3=>∃ a H4,x = .ref a∧DPut H3 a y v H4∧D.nx σ H4
def sDAug (td ty tv:TE) (rd:V→V→Hp→VK→Prop):TS:=fun D σ H=>td σ H fun x H1=>ty σ H1 fun y H2=>∃ a v,x = .ref a∧DGet H2 a y (some v) ∧
  tv σ H2 fun y2 H3=>rd v y2 H3 fun z H4=>∃ H5,DPut H4 a y z H5∧D.nx σ H5
def sDDel (td ty:TE):TS:=fun D σ H=>td σ H fun x H1=>ty σ H1 fun y H2=>∃ a kvs k,x = .ref a∧H2 a = some (.dK kvs)∧y = kV k∧(valV kvs k).isSome = true∧D.nx σ (upd H2 a (.dK (dropK kvs k)))
section
variable {X:Cx}{o i e value:Expr}{pos pos' tpos:Pos}{td ty tv:TE}
theorem pe_dget (hu:X.A.units + 1 < cLine) (ho:PE X o td) (hi:PE X i ty) (hs:NoSl i):PE X (.Subscript o i pos) (tDGet td ty):=by
  intro pins s σ H Q I h
  refine subD_of PySem.F.slot_dict_getitem.lookup hs (thn (ho pins s σ H _ I h) fun u s1 ⟨x,H1,I1,rx,q1⟩=>thn (hi pins s1 σ H1 _ I1 q1) fun iv s2 ⟨y,H2,I2,ry,a,v,ex,g,q2⟩=>?_)
  subst ex
  obtain rfl:u = Value.ref a:=rx
  exact ⟨dict_typeIs I2 g,d_getItem hu I2 g ry fun w' s3 I3 rw'=>⟨v,H2,I3,rw',q2⟩⟩
theorem ps_dput (hu:X.A.units + 1 < cLine) (ho:PE X o td) (hi:PE X i ty) (hv:PE X value tv) (hs:swapsWith value (some (.Subscript o i pos')) pos.line X.env = pure false):
    PS X (.Assign [.Subscript o i pos'] value pos) (sDPut td ty tv):=by
  intro pins s σ H D I h
  refine wpAny_Assign_Subscript (thn (hv pins s σ H _ I h) fun r s1 ⟨v,H1,I1,rv,q1⟩=>thn (ho pins s1 σ H1 _ I1 q1) fun u s2 ⟨x,H2,I2,rx,q2⟩=>thn (hi pins s2 σ H2 _ I2 q2) fun iv s3 ⟨y,H3,I3,ry,a,H4,ex,g,q3⟩=>?_) hs
  subst ex
  obtain rfl:u = Value.ref a:=rx
  exact d_setItem hu I3 g ry rv fun s4 I4=>⟨σ,H4,I4,q3⟩
end
theorem dk_empty {P:Program}{w:World}{H:Hp} (h:Heap) (hb:sysModules < h.objs.size):ObjOk P w H (h.push { cls:=.type "dict",data:=.dict #[] }) h.objs.size (.dK []):=
  ⟨Nat.zero_le _,beq_eq_false_iff_ne.mpr (Ne.symm (Nat.ne_of_lt hb)),[],.nil,Heap.DictOf.new h⟩
def tDNewK:TE:=fun _ H Q=>∀ p,H p = none→Q (.ref p) (upd H p (.dK []))
def tDNewT:TE:=fun _ H Q=>∀ p,H p = none→Q (.ref p) (upd H p (.dT []))
section
variable {X:Cx}{pos:Pos}
theorem pe_dnewK:PE X (.Dict [] [] pos) tDNewK:=fun pins s σ H Q I h=>
  wpAny_Dict_empty ⟨.ref s.heap.objs.size,_,I.laid (a:=s.heap.objs.size) (o:=.dK []) (t':=s.toks) (fun _ _ q=>Heap.get?_push_of_some _ q) (Nat.le_refl _) (dk_empty s.heap I.big),rfl,h _ (I.hok.fresh (Nat.le_refl _))⟩
end
def tPairs:List (TE × TE)→St→Hp→(List (V × V)→Hp→Prop)→Prop
  | [],_,H,Q=>Q [] H
  | (tk,tv) :: r,σ,H,Q=>tk σ H fun x H1=>tv σ H1 fun y H2=>tPairs r σ H2 fun ps H3=>Q ((x,y) :: ps) H3
abbrev VV:List (V × V)→List (Value × Value)→Prop:=Paired fun p q=>RelV p.1 q.1∧RelV p.2 q.2
def PPs (X:Cx) (pos:Pos) (keys:List (Option Expr)) (values:List Expr) (trs:List (TE × TE)):Prop:=
  ∀ (pins:List (Addr × Obj)) (s:Shared) (σ:St) (H:Hp) (Q:List (V × V)→Hp→Prop),Inv X pins σ H s→tPairs trs σ H Q→
    wpAny (model X.prog X.w) X.A (evalPairs (pairTrees keys values X.env pos)) (fun vs s'=>∃ ps H',Inv X pins σ H' s'∧VV ps vs∧Q ps H') X.xe s
def mergeK (kvs more:List (Key × V)):List (Key × V):=more.foldl (fun acc kv=>putK acc kv.1 kv.2) kvs
def tDisp (trs:List (TE × TE)):TE:=fun σ H Q=>∀ p,H p = none→tPairs trs σ (upd H p (.dK [])) fun ps H2=>H2 p = some (.dK [])∧∃ kvs:List (Key × V),ps = kvs.map (fun kv=>(kV kv.1,kv.2))∧kvs.length≤15∧Q (.ref p) (upd H2 p (.dK (mergeK [] kvs)))
structure M1 (X:Cx) (o:Expr) (m:Str) (apos:Pos) (e:Expr) (cpos:Pos):Prop where
  base:attributeBase o m X.env (eval o X.env) = eval o X.env
  few:((backTo cpos (starEach [e] X.env)).all (fun x=>!x.1) && (backToKw cpos (keywordEach [] X.env)).all (fun x=>x.1.isSome)
    && decide (([e]:List Expr).length + ([]:List Keyword).length + (if ([]:List Keyword).isEmpty then 0 else 1) < 30)) = true
  line:(apos.endLine == cpos.line) = true
  trees:backTo cpos (starEach [e] X.env) = [(false,eval e X.env)]
structure M2 (X:Cx) (o:Expr) (m:Str) (apos:Pos) (e f:Expr) (cpos:Pos):Prop where
  base:attributeBase o m X.env (eval o X.env) = eval o X.env
  few:((backTo cpos (starEach [e,f] X.env)).all (fun x=>!x.1) && (backToKw cpos (keywordEach [] X.env)).all (fun x=>x.1.isSome)
    && decide (([e,f]:List Expr).length + ([]:List Keyword).length + (if ([]:List Keyword).isEmpty then 0 else 1) < 30)) = true
  line:(apos.endLine == cpos.line) = true
  trees:backTo cpos (starEach [e,f] X.env) = [(false,eval e X.env),(false,eval f X.env)]
def IsD (H:Hp) (a:Addr):Prop:=(∃ kvs,Rd H a (.dK kvs))∨∃ kvs,Rd H a (.dT kvs)
section
variable {X:Cx}{pins:List (Addr × Obj)}{σ:St}{H:Hp}{s:Shared}{a:Addr}{y d:V}{u r:Value}{o:Option V}{A:Around}{E:Value→Shared→Prop}
end
def tDGet1 (td ty:TE):TE:=fun σ H Q=>td σ H fun x H1=>∃ a,x = .ref a∧IsD H1 a∧ty σ H1 fun y H2=>∃ o,DGet H2 a y o∧Q (o.getD .non) H2
def tDGet2 (td ty tx:TE):TE:=fun σ H Q=>td σ H fun x H1=>∃ a,x = .ref a∧IsD H1 a∧ty σ H1 fun y H2=>tx σ H2 fun z H3=>∃ o,DGet H3 a y o∧Q (o.getD z) H3
def tDPop1 (td ty:TE):TE:=fun σ H Q=>td σ H fun x H1=>∃ a,x = .ref a∧IsD H1 a∧ty σ H1 fun y H2=>∃ kvs k v,H2 a = some (.dK kvs)∧y = kV k∧valV kvs k = some v∧Q v (upd H2 a (.dK (dropK kvs k)))
def tDPop2 (td ty tx:TE):TE:=fun σ H Q=>td σ H fun x H1=>∃ a,x = .ref a∧IsD H1 a∧ty σ H1 fun y H2=>tx σ H2 fun z H3=>∃ kvs k,H3 a = some (.dK kvs)∧y = kV k ∧
  (∀ v,valV kvs k = some v→Q v (upd H3 a (.dK (dropK kvs k))))∧(valV kvs k = none→Q z H3)
section
variable {X:Cx}{o e f:Expr}{apos cpos:Pos}{td ty tx:TE}
end
section
variable {X:Cx}{pins:List (Addr × Obj)}{σ:St}{H:Hp}{s:Shared}{a:Addr}{kvs:List (Key × V)}{A:Around}{E:Value→Shared→Prop}
theorem d_copyOf {Q:Value→Shared→Prop} (I:Inv X pins σ H s) (e:Rd H a (.dK kvs)) (h:∀ p s',H p = none→Inv X pins σ (upd H p (.dK kvs)) s'→Q (.ref p) s'):wpAny (model X.prog X.w) A (call (.type "dict") [.ref a]) Q E s:=by
  obtain ⟨z,hd,vs,rel,dd⟩:=dk_rd I.hok e
  refine kt_call_dict hd dd (by rw [← rel.length]; exact z) fun h' dd' hs=>?_
  refine h _ _ (I.hok.fresh (Nat.le_refl _)) (I.laid (a:=s.heap.objs.size) (o:=.dK kvs) (t':=s.toks) (fun b q hq=>?_) (Nat.le_refl _) (dk_new z (beq_eq_false_iff_ne.mpr (Ne.symm (Nat.ne_of_lt I.big))) rel dd'))
  exact (hs.2 b (Nat.ne_of_lt (Heap.lt_size hq))).trans (Heap.get?_push_of_some _ hq)
end
section
variable {X:Cx}{pins:List (Addr × Obj)}{σ:St}{H:Hp}{s:Shared}{a:Addr}{y:V}{u:Value}{A:Around}{E:Value→Shared→Prop}
end
end L2
namespace HT
open PySem PyProof.Rows
def lexLt:List Int→List Int→Bool
  | [],[]=>false
  | [],_ :: _=>true
  | _ :: _,[]=>false
  | x :: xs,y :: ys=>if x = y then lexLt xs ys else decide (x < y)
section
open PySem.SeqAt
open PySem.AutoSeq1 (wpAny_loadPart')
open PySem.MeetsSeq PySem.MeetsSeq2 PySem.MeetsSeq3
end
section
variable {prog:Program}{w:World}{A:Around}{E:Value→Shared→Prop}{s:Shared}
theorem cat_tup {t b:Addr}{vs ws:List Value}{Q:Value→Shared→Prop} (ht:IsTup s.heap t vs.toArray) (hb:IsTup s.heap b ws.toArray) (hv:vs≠[])
    (h1:ws = []→Q (.ref t) s) (h2:ws≠[]→Q (.ref s.heap.objs.size) { s with heap:=s.heap.push { cls:=.type "tuple",data:=.seq (vs ++ ws).toArray } })
    (hsz:vs.length + ws.length≤sizeLine):wpAny (model prog w) A (binaryOp .Add (.ref t) (.ref b)) Q E s:=by
  obtain ⟨⟨cls,dd,data,sl⟩,ho,hc,n,hd⟩:=id ht
  obtain ⟨⟨cls2,dd2,data2,sl2⟩,ho2,hc2,n2,hd2⟩:=id hb
  simp only at hc hd hc2 hd2
  subst hc hd hc2 hd2
  have e:vs.toArray ++ ws.toArray = (vs ++ ws).toArray:=by simp
  by_cases hw:ws = []
  · exact concat_meets ⟨_,ho,rfl⟩ ⟨_,ho2,rfl⟩ noFill_tuple_add seq_tuple_add PySem.F.slot_tuple_add PySem.F.entry_tuple_add (PySem.F.args_tuple_add_2 _ _)
      (tuple_addW1 t b vs.toArray ws.toArray n n2 dd dd2 sl sl2 (by simpa using hv) (by simp [hw])) ⟨ho,ho2,h1 hw⟩
  · refine concat_meets ⟨_,ho,rfl⟩ ⟨_,ho2,rfl⟩ noFill_tuple_add seq_tuple_add PySem.F.slot_tuple_add PySem.F.entry_tuple_add (PySem.F.args_tuple_add_2 _ _)
      (tuple_addW2 t b vs.toArray ws.toArray n n2 dd dd2 sl sl2 (by simpa using hv) (by simpa using hw) (by rw [List.size_toArray,List.size_toArray]; exact hsz)) ⟨ho,ho2,?_⟩
    rw [e]
    exact h2 hw
def sIx (n d:Nat):Option Int→Nat
  | none=>d
  | some v=>if v < 0 then (v + (n:Int)).toNat else min v.toNat n
theorem sIx_nat (n d k:Nat):sIx n d (some (k:Int)) = min k n:=by
  show (if (k:Int) < 0 then ((k:Int) + (n:Int)).toNat else min (k:Int).toNat n) = min k n
  rw [if_neg (by omega),Int.toNat_natCast]
theorem sIx_le (n d:Nat) (hd:d≤n) (o:Option Int):sIx n d o≤n:=by
  cases o with
  | none=>exact hd
  | some v=>
    show (if v < 0 then (v + (n:Int)).toNat else min v.toNat n)≤n
    by_cases hv:v < 0
    · rw [if_pos hv]; omega
    · rw [if_neg hv]; exact Nat.min_le_right _ _
theorem clip_eq (v:Int) (n d:Nat):(if v < 0 then max (v + (n:Int)) 0 else min v (n:Int)) = ((sIx n d (some v):Nat):Int):=by
  show (if v < 0 then max (v + (n:Int)) 0 else min v (n:Int)) = (((if v < 0 then (v + (n:Int)).toNat else min v.toNat n):Nat):Int)
  by_cases hv:v < 0
  · simp only [if_pos hv]; omega
  · simp only [if_neg hv]; omega
theorem adjust_gen (lo hi:Option Int) (n:Nat):Builtin.Slice.sliceAdjust lo hi 1 (n:Int) = (((sIx n 0 lo:Nat):Int),((sIx n n hi:Nat):Int)):=by
  have h1:¬ ((1:Int) < 0):=by omega
  unfold Builtin.Slice.sliceAdjust
  simp only [h1,if_false]
  refine Prod.ext ?_ ?_
  · cases lo with
    | none=>rfl
    | some v=>exact clip_eq v n 0
  · cases hi with
    | none=>rfl
    | some v=>exact clip_eq v n n
theorem places_gen (i j:Nat):Builtin.Slice.slicePlaces (i:Int) (j:Int) 1 = j - i:=by
  unfold Builtin.Slice.slicePlaces
  have h1:(1:Int) > 0:=by omega
  simp only [h1,if_true,Int.ediv_one]
  split <;> omega
theorem slicePart_ {v:Value}{o:Option Int}{Q:Option Int→Shared→Prop} (p:IsPart v o) (h:Q o s):wpAny (model prog w) A (Builtin.Slice.slicePartIndex v) Q E s:=by
  cases p with
  | none=>exact slicePart_none h
  | int i t=>exact slicePart_int h
theorem sliceApplied_gen {sl:Addr}{vl vu:Value}{lo hi:Option Int}{n:Nat}{Q:Int × Int × Nat→Shared→Prop} (hs:s.heap.IsSliceOf sl vl vu .none) (pl:IsPart vl lo) (pu:IsPart vu hi)
    (h:Q (((sIx n 0 lo:Nat):Int),1,sIx n n hi - sIx n 0 lo) s):wpAny (model prog w) A (Builtin.Slice.sliceApplied (.ref sl) (pure (n:Int))) Q E s:=by
  obtain ⟨os,hos,hcs,hds⟩:=id hs
  unfold Builtin.Slice.sliceApplied Builtin.Slice.sliceFields
  refine wpAny_bind (wpAny_bind (wpAny_field hos hds (x:=vl) rfl (wpAny_bind (wpAny_field hos hds (x:=vu) rfl (wpAny_bind (wpAny_field hos hds (x:=.none) rfl (wpAny_pure ?_)))))))
  refine wpAny_bind (slicePart_none ?_)
  show wpAny _ _ (if ((1:Int) == 0) = true then _ else _) _ _ s
  rw [if_neg (by decide)]
  refine wpAny_bind (slicePart_ pl (wpAny_bind (slicePart_ pu (wpAny_bind (wpAny_pure ?_)))))
  show wpAny _ _ (match Builtin.Slice.sliceAdjust lo hi 1 (n:Int) with | (lo,hi)=>pure (lo,(1:Int),Builtin.Slice.slicePlaces lo hi 1)) _ _ s
  rw [adjust_gen lo hi n]
  show wpAny _ _ (pure (((sIx n 0 lo:Nat):Int),(1:Int),Builtin.Slice.slicePlaces ((sIx n 0 lo:Nat):Int) ((sIx n n hi:Nat):Int) 1)) _ _ s
  rw [places_gen]
  exact wpAny_pure h
theorem pick_gen (xs:Array Value) (i k:Nat):((List.range k).filterMap fun (m:Nat)=>xs[((i:Int) + (m:Int) * 1).toNat]?).toArray = ((xs.toList.drop i).take k).toArray:=by
  have e:(fun (m:Nat)=>xs[((i:Int) + (m:Int) * 1).toNat]?) = fun m=>xs[i + m]?:=by
    funext m
    have:((i:Int) + (m:Int) * 1).toNat = i + m:=by omega
    rw [this]
  rw [e]
  have:=pick_run xs i k
  rw [List.filterMap_map] at this
  have e2:((fun x=>xs[x]?) ∘ fun x=>i + x) = fun m=>xs[i + m]?:=rfl
  rw [e2] at this
  rw [this]
theorem getItem_tuple_cut {t sl:Addr}{items:Array Value}{vl vu:Value}{lo hi:Option Int}{Q:Value→Shared→Prop} (ht:IsTup s.heap t items) (hs:s.heap.IsSliceOf sl vl vu .none) (pl:IsPart vl lo) (pu:IsPart vu hi)
    (hw:¬ (sIx items.size 0 lo = 0∧sIx items.size items.size hi = items.size))
    (h:Q (.ref s.heap.objs.size) { s with heap:=s.heap.push { cls:=.type "tuple",data:=.seq ((items.toList.drop (sIx items.size 0 lo)).take (sIx items.size items.size hi - sIx items.size 0 lo)).toArray } })
    (hsz:items.size≤sizeLine):wpAny (model prog w) A (getItem (.ref t) (.ref sl)) Q E s:=by
  have htake:sizeOk (.seq ((items.toList.drop (sIx items.size 0 lo)).take (sIx items.size items.size hi - sIx items.size 0 lo)).toArray):=by
    show ((items.toList.drop (sIx items.size 0 lo)).take (sIx items.size items.size hi - sIx items.size 0 lo)).toArray.size≤sizeLine
    rw [List.size_toArray,List.length_take,List.length_drop,Array.length_toList]
    omega
  have hj:sIx items.size items.size hi≤items.size:=sIx_le _ _ (Nat.le_refl _) hi
  obtain ⟨os,hos,hcs,hds⟩:=id hs
  have hTs:s.TypeIs (.ref sl) "slice":=⟨os,hos,hcs⟩
  unfold getItem
  try with_reducible refine wpAny_holding ?_
  first | refine wpAny_bind (wpAny_pure ?_) | skip
  refine wpAny_bind (wpAny_sequenceKey ht.typeIs (by decide) ?_)
  refine wpAny_bind (wpAny_callSpecial?_slot (name:=Str.ofString "__getitem__") ht.typeIs PyProof.Rows.slot_tuple_getitem
    (wpAny_call_entry PyProof.Rows.slot_tuple_getitem ht.typeIs entry_tuple_getitem ?_ (args_tuple_getitem _ _)))
  show wpAny _ _ (Builtin.Tuple.tupleItemsOf (.ref t) >>= _) _ _ s
  refine wpAny_bind (tupleItemsOf_ ht ?_)
  refine wpAny_bind (wpAny_typeOf hTs ?_)
  rw [if_pos (by decide)]
  refine wpAny_bind (sliceApplied_gen hs pl pu ?_)
  have hno:¬ ((((sIx items.size 0 lo:Nat):Int) == 0 && (1:Int) == 1 && (sIx items.size items.size hi - sIx items.size 0 lo) == items.size) = true):=by
    intro q
    rw [Bool.and_eq_true,Bool.and_eq_true] at q
    have q1:((sIx items.size 0 lo:Nat):Int) = 0:=eq_of_beq q.1.1
    have q2:sIx items.size items.size hi - sIx items.size 0 lo = items.size:=eq_of_beq q.2
    exact hw ⟨by omega,by omega⟩
  show wpAny _ _ (if (((sIx items.size 0 lo:Nat):Int) == 0 && (1:Int) == 1 && (sIx items.size items.size hi - sIx items.size 0 lo) == items.size) = true then _ else _) _ _ s
  rw [if_neg hno,pick_gen]
  first
    | exact wpAny_bind (m:=Builtin.Tuple.tupleExact _) (wpAny_newObj_type (wpAny_pure ⟨_,rfl,wpAny_pure h⟩) htake)
    | exact wpAny_bind (m:=Builtin.Tuple.tupleExact _) (wpAny_newObj_type (wpAny_bind (wpAny_pure (wpAny_pure ⟨_,rfl,wpAny_pure h⟩))) htake)
    | exact wpAny_bind (wpAny_bind (m:=Builtin.Tuple.tupleExact _) (wpAny_newObj_type (wpAny_pure (wpAny_pure ⟨_,rfl,wpAny_pure h⟩)) htake))
    | exact wpAny_bind (wpAny_bind (m:=Builtin.Tuple.tupleExact _) (wpAny_newObj_type (wpAny_pure ⟨_,rfl,wpAny_pure h⟩) htake))
end
end HT
namespace L2
open PySem PySem.Spec PyProof.Rows
abbrev TO:=St→Hp→(Option Int→Hp→Prop)→Prop
def PO (X:Cx) (e:Option Expr) (t:TO):Prop:=
  ∀ (pins:List (Addr × Obj)) (s:Shared) (σ:St) (H:Hp) (Q:Option Int→Hp→Prop),Inv X pins σ H s→t σ H Q→
    wpAny (model X.prog X.w) X.A (evalPart e X.env) (fun u s'=>∃ o H',Inv X pins σ H' s'∧IsPart u o∧Q o H') X.xe s
def tNoPart:TO:=fun _ H Q=>Q none H
def tPart (t:TE):TO:=fun σ H Q=>t σ H fun x H1=>∃ i,x = .int i∧Q (some i) H1
section
variable {X:Cx}{e:Expr}{te:TE}{lo hi:Option Expr}{tl th:TO}{pos p2:Pos}
theorem po_none:PO X none tNoPart:=by
  intro pins s σ H Q I h
  rw [evalPart_none]
  exact wpAny_pure ⟨none,H,I,.none,h⟩
theorem po_some (h:PE X e te):PO X (some e) (tPart te):=by
  intro pins s σ H Q I hw
  rw [evalPart_some]
  refine thn (h pins s σ H _ I hw) fun u s1 ⟨x,H1,I1,r1,q1⟩=>?_
  obtain ⟨i,rfl,q⟩:=q1
  obtain ⟨t,rfl⟩:=r1
  exact ⟨some i,H1,I1,.int i t,q⟩
def SlR (X:Cx) (r:V→Option Int→Option Int→Hp→VK→Prop):Prop:=
  ∀ (pins:List (Addr × Obj)) (s:Shared) (σ:St) (H:Hp) (x:V) (v vl vu:Value) (lo hi:Option Int) (sl:Addr) (Q:VK),Inv X pins σ H s→RelV x v→s.heap.IsSliceOf sl vl vu .none→IsPart vl lo→IsPart vu hi→r x lo hi H Q→
    ∃ T id,typeLookup (.type T) "__getitem__" = pure (some (.builtin id))∧s.TypeIs v T∧wpAny (model X.prog X.w) X.A (getItem v (.ref sl)) (EP X pins σ Q) X.xe s
theorem SlR.or {r r':V→Option Int→Option Int→Hp→VK→Prop} (h:SlR X r) (h':SlR X r'):SlR X (fun x lo hi H Q=>r x lo hi H Q∨r' x lo hi H Q):=by
  intro pins s σ H x v vl vu lo hi sl Q I rx hs pl pu q
  rcases q with q | q
  · exact h pins s σ H x v vl vu lo hi sl Q I rx hs pl pu q
  · exact h' pins s σ H x v vl vu lo hi sl Q I rx hs pl pu q
def tSl (r:V→Option Int→Option Int→Hp→VK→Prop) (te:TE) (tl th:TO):TE:=fun σ H Q=>te σ H fun x H1=>tl σ H1 fun l H2=>th σ H2 fun u H3=>r x l u H3 Q
theorem pe_slice {r:V→Option Int→Option Int→Hp→VK→Prop} (hr:SlR X r) (he:PE X e te) (hl:PO X lo tl) (hu:PO X hi th):PE X (.Subscript e (.Slice lo hi none p2) pos) (tSl r te tl th):=by
  intro pins s σ H Q I h
  refine Subscript_ (thn (he pins s σ H _ I h) fun v s1 ⟨x,H1,I1,r1,q1⟩=>?_)
  refine wpAny_Slice (thn (hl pins s1 σ H1 _ I1 q1) fun vl s2 ⟨l,H2,I2,pl,q2⟩=>thn (hu pins s2 σ H2 _ I2 q2) fun vu s3 ⟨u,H3,I3,pu,q3⟩=>?_)
  rw [evalPart_none]
  refine wpAny_pure ?_
  have I4:Inv X pins σ H3 { s3 with heap:=s3.heap.push { cls:=.type "slice",data:=.fields #[vl,vu,.none] } }:=I3.kept (t':=s3.toks) fun b ob q=>Heap.get?_push_of_some _ q
  obtain ⟨T,id,hT,ht,hg⟩:=hr pins { s3 with heap:=s3.heap.push { cls:=.type "slice",data:=.fields #[vl,vu,.none] } } σ H3 x v vl vu l u s3.heap.objs.size Q I4 r1 (Heap.IsSliceOf.new ..) pl pu q3
  show wpAny (model X.prog X.w) X.A (subscriptTail e (.Slice lo hi none p2) v (.ref s3.heap.objs.size)) (EP X pins σ Q) X.xe { s3 with heap:=s3.heap.push { cls:=.type "slice",data:=.fields #[vl,vu,.none] } }
  exact tail_any (ops:=[.ref s3.heap.objs.size,v]) ht hT hg (by with_unfolding_all rfl)
def cutV (xs:List V) (lo hi:Option Int):List V:=(xs.drop (HT.sIx xs.length 0 lo)).take (HT.sIx xs.length xs.length hi - HT.sIx xs.length 0 lo)
theorem cutV_length (xs:List V) (lo hi:Option Int):(cutV xs lo hi).length≤xs.length:=by
  unfold cutV
  rw [List.length_take,List.length_drop]
  omega
def rSlT (K:PySem.W.Frag):V→Option Int→Option Int→Hp→VK→Prop:=fun x lo hi H Q=>∃ a xs,x = .ref a∧SqT K H a xs ∧
  ¬ (HT.sIx xs.length 0 lo = 0∧HT.sIx xs.length xs.length hi = xs.length)∧∀ p,H p = none→Q (.ref p) (upd H p (.tup (cutV xs lo hi)))
theorem sl_tup:SlR X (rSlT X.K):=by
  intro pins s σ H x v vl vu lo hi sl Q I rx hs pl pu h
  obtain ⟨a,xs,rfl,hx,hw,q⟩:=h
  cases rx
  obtain ⟨its,r,ht,hz⟩:=I.tuple hx
  have hlen:its.toArray.size = xs.length:=by rw [List.size_toArray]; exact r.length.symm
  refine ⟨"tuple",_,PyProof.Rows.slot_tuple_getitem.lookup,ht.typeIs,?_⟩
  refine HT.getItem_tuple_cut ht hs pl pu (by rw [hlen]; exact hw) ?_ (by rw [hlen]; exact hz)
  rw [hlen]
  refine ⟨.ref s.heap.objs.size,_,I.laid (t':=s.toks) (o:=.tup (cutV xs lo hi)) (fun b ob q=>Heap.get?_push_of_some _ q) (Nat.le_refl _) ?_,rfl,q _ (I.hok.fresh (Nat.le_refl _))⟩
  exact ⟨Nat.le_trans (cutV_length xs lo hi) hz,_,(r.drop (HT.sIx xs.length 0 lo)).take (HT.sIx xs.length xs.length hi - HT.sIx xs.length 0 lo),IsTup.new _ _⟩
def rLtT (K:PySem.W.Frag):R2:=fun x y H Q=>∃ a b ns ms,x = .ref a∧y = .ref b∧SqT K H a (ns.map V.int)∧SqT K H b (ms.map V.int)∧Q (.bl (HT.lexLt ns ms)) H
def rCatT (K:PySem.W.Frag):R2:=fun x y H Q=>∃ a b xs ys,x = .ref a∧y = .ref b∧SqT K H a xs∧SqT K H b ys∧xs≠[]∧xs.length + ys.length≤sizeLine ∧
  (ys = []→Q (.ref a) H)∧(ys≠[]→∀ p,H p = none→Q (.ref p) (upd H p (.tup (xs ++ ys))))
theorem Vals.nil_iff {xs:List V}{us:List Value} (r:Vals xs us):us = [] ↔ xs = []:=by
  cases r with
  | nil=>simp
  | cons _ _=>simp
theorem op_catT:OpR X (binaryOp .Add) (rCatT X.K):=by
  intro pins s σ H x y v u Q I rx ry h
  obtain ⟨a,b,xs,ys,rfl,rfl,ha,hb,hx,hz,q1,q2⟩:=h
  cases rx
  cases ry
  obtain ⟨its,r1,p1,_⟩:=I.tuple ha
  obtain ⟨its2,r2,p2,_⟩:=I.tuple hb
  refine HT.cat_tup p1 p2 (fun z=>hx (r1.nil_iff.mp z)) (fun z=>⟨.ref a,H,I,rfl,q1 (r2.nil_iff.mp z)⟩) (fun z=>?_) (by rw [← r1.length,← r2.length]; exact hz)
  refine ⟨.ref s.heap.objs.size,_,I.laid (t':=s.toks) (o:=.tup (xs ++ ys)) (fun b ob q=>Heap.get?_push_of_some _ q) (Nat.le_refl _) ?_,rfl,q2 (fun w=>z (r2.nil_iff.mpr w)) _ (I.hok.fresh (Nat.le_refl _))⟩
  exact ⟨by rw [List.length_append]; exact hz,_,r1.append r2,IsTup.new _ _⟩
end
end L2
namespace L2
open PySem PySem.Spec PyProof.Rows
def ixN (n:Nat) (i:Int):Option Nat:=if 0≤i then (if i < n then some i.toNat else none) else if -(n:Int)≤i then some (i + n).toNat else none
def atI {α:Type} (xs:List α) (i:Int):Option α:=(ixN xs.length i).bind fun j=>xs[j]?
theorem ixN_seq {n:Nat}{i:Int}{j:Nat} (h:ixN n i = some j):seqIndex? i n = some j∧j < n∧-(n:Int)≤i∧i < n:=by
  unfold ixN at h
  by_cases h0:0≤i
  · rw [if_pos h0] at h
    by_cases h1:i < n
    · rw [if_pos h1] at h
      have e:i.toNat = j:=Option.some.inj h
      exact ⟨by rw [seqIndex_of h0 h1,e],by omega,by omega,h1⟩
    · rw [if_neg h1] at h; cases h
  · rw [if_neg h0] at h
    by_cases h1:-(n:Int)≤i
    · rw [if_pos h1] at h
      have e:(i + n).toNat = j:=Option.some.inj h
      exact ⟨by rw [seqIndex_neg (by omega) h1,e],by omega,h1,by omega⟩
    · rw [if_neg h1] at h; cases h
theorem atI_get {α:Type}{xs:List α}{i:Int}{v:α} (h:atI xs i = some v):∃ j,seqIndex? i xs.length = some j∧xs[j]? = some v∧j < xs.length∧-(xs.length:Int)≤i∧i < xs.length:=by
  unfold atI at h
  cases e:ixN xs.length i with
  | none=>rw [e] at h; cases h
  | some j=>
    rw [e] at h
    obtain ⟨h1,h2,h3,h4⟩:=ixN_seq e
    exact ⟨j,h1,h,h2,h3,h4⟩
theorem atI_nat {α:Type}{xs:List α}{j:Nat}{v:α} (h:xs[j]? = some v):atI xs (j:Int) = some v:=by
  have hj:j < xs.length:=(List.getElem?_eq_some_iff.mp h).1
  have e:ixN xs.length (j:Int) = some j:=by
    unfold ixN
    rw [if_pos (by omega),if_pos (by omega)]; simp
  unfold atI; rw [e]; exact h
theorem atI_last {α:Type} (xs:List α) (v:α):atI (xs ++ [v]) (-1) = some v:=by
  have hl:(xs ++ [v]).length = xs.length + 1:=by simp
  have e:ixN (xs ++ [v]).length (-1) = some xs.length:=by
    unfold ixN
    rw [hl,if_neg (by decide),if_pos (by omega)]
    congr 1
    omega
  unfold atI
  rw [e]
  show (xs ++ [v])[xs.length]? = some v
  simp
def PlainIx (b:Expr):Prop:=∀ o i,subscripted b false o i = operate [o,i] (getItem o i)
def IxR (X:Cx) (r:R2):Prop:=
  ∀ (value slice:Expr) (pins:List (Addr × Obj)) (s:Shared) (σ:St) (H:Hp) (x y:V) (v u:Value) (Q:VK),Inv X pins σ H s→RelV x v→RelV y u→r x y H Q→
    subscripted slice false v u = operate [v,u] (getItem v u)→wpAny (model X.prog X.w) X.A (subscriptTail value slice v u) (EP X pins σ Q) X.xe s
def MtR (X:Cx) (id:String) (r:V→List V→Hp→VK→Prop):Prop:=
  ∀ (pins:List (Addr × Obj)) (s:Shared) (σ:St) (H:Hp) (x:V) (xs:List V) (v:Value) (us:List Value) (Q:VK),Inv X pins σ H s→RelV x v→Vals xs us→r x xs H Q→
    wpAny (model X.prog X.w) X.A (call (.builtin id) (v :: us)) (EP X pins σ Q) X.xe s
section
variable {X:Cx}{a b:Expr}{ta tb:TE}{pos:Pos}
theorem IxR.or {r r':R2} (h:IxR X r) (h':IxR X r'):IxR X (fun x y H Q=>r x y H Q∨r' x y H Q):=by
  intro value slice pins s σ H x y v u Q I rx ry q hs
  rcases q with q | q
  · exact h value slice pins s σ H x y v u Q I rx ry q hs
  · exact h' value slice pins s σ H x y v u Q I rx ry q hs
theorem MtR.or {id:String}{r r':V→List V→Hp→VK→Prop} (h:MtR X id r) (h':MtR X id r'):MtR X id (fun x xs H Q=>r x xs H Q∨r' x xs H Q):=by
  intro pins s σ H x xs v us Q I rx rs q
  rcases q with q | q
  · exact h pins s σ H x xs v us Q I rx rs q
  · exact h' pins s σ H x xs v us Q I rx rs q
theorem pe_ix {r:R2} (hr:IxR X r) (ha:PE X a ta) (hb:PE X b tb) (hs:PlainIx b):PE X (.Subscript a b pos) (tOp r ta tb):=by
  intro pins s σ H Q I h
  exact Subscript_ (binT ha hb I h fun v u s2 x y H2 I2 rx ry q=>hr a b pins s2 σ H2 x y v u Q I2 rx ry q (hs _ _))
def rIxL (K:PySem.W.Frag):R2:=fun x y H Q=>∃ p xs i v,x = .ref p∧y = .int i∧SqL K H p xs∧atI xs i = some v∧Q v H
def rIxT (K:PySem.W.Frag):R2:=fun x y H Q=>∃ p xs i v,x = .ref p∧y = .int i∧SqT K H p xs∧atI xs i = some v∧Q v H
def rIxS:R2:=fun x y H Q=>∃ z i c,x = .str z∧y = .int i∧z.length≤sizeLine∧atI z.cps.toList i = some c∧Q (.str ⟨#[c]⟩) H
theorem ix_list:IxR X (rIxL X.K):=by
  intro value slice pins s σ H x y v u Q I rx ry h hs
  obtain ⟨p,xs,i,z,rfl,rfl,hq,he,q⟩:=h
  cases rx
  obtain ⟨t,rfl⟩:=ry
  obtain ⟨its,r,pl,hz⟩:=I.list hq
  obtain ⟨j,h1,h2,h3,h4,h5⟩:=atI_get he
  obtain ⟨w,ew,rw'⟩:=r.get h2
  have hl:=r.length
  have hn:=line63
  have fin:EP X pins σ Q w s:=⟨z,H,I,rw',q⟩
  by_cases h0:0≤i
  · have hj:i.toNat = j:=by
      rw [seqIndex_of h0 h5] at h1
      exact Option.some.inj h1
    exact item_listR pl.isList h0 (by omega) (by rw [hj]; simpa using ew) fin hs
  · have hj:(i + (its.toArray.size:Int)).toNat = j:=by
      rw [seqIndex_neg (by omega) h4] at h1
      rw [List.size_toArray,← hl]
      exact Option.some.inj h1
    exact subscriptTail_builtinR (x:=w) pl.isList.typeIs slot_list_getitem.lookup
      (wpAny_getItem_list_neg (Q:=fun r s'=>r = w∧EP X pins σ Q r s') pl.isList (by omega) (by rw [List.size_toArray] <;> omega) (by omega) (by rw [hj]; simpa using ew) ⟨rfl,fin⟩) hs
theorem ix_tup:IxR X (rIxT X.K):=by
  intro value slice pins s σ H x y v u Q I rx ry h hs
  obtain ⟨p,xs,i,z,rfl,rfl,hq,he,q⟩:=h
  cases rx
  obtain ⟨t,rfl⟩:=ry
  obtain ⟨its,r,pl,hz⟩:=I.tuple hq
  obtain ⟨j,h1,h2,h3,h4,h5⟩:=atI_get he
  obtain ⟨w,ew,rw'⟩:=r.get h2
  have hl:=r.length
  have hn:=line63
  have fin:EP X pins σ Q w s:=⟨z,H,I,rw',q⟩
  exact subscriptTail_builtinR (x:=w) pl.typeIs slot_tuple_getitem.lookup
    (getItem_tuple (j:=j) (Q:=fun r s'=>r = w∧EP X pins σ Q r s') pl (by omega) (by omega) (by rw [List.size_toArray,← hl]; exact h1) (by simpa using ew) ⟨rfl,fin⟩) hs
theorem ix_str:IxR X rIxS:=by
  intro value slice pins s σ H x y v u Q I rx ry h hs
  obtain ⟨z,i,c,rfl,rfl,hz,he,q⟩:=h
  obtain ⟨t,rfl⟩:=rx
  obtain ⟨t',rfl⟩:=ry
  obtain ⟨j,h1,h2,h3,h4,h5⟩:=atI_get he
  have hl:z.cps.toList.length = z.length:=by simp [Str.length]
  rw [hl] at h1 h4 h5
  have hn:=line63
  exact tail_any (typeIs_str s z t) slot_str_getitem.lookup (getItem_str (c:=c) (by
    have e1:decide (i < -(2 ^ 63:Int)) = false:=decide_eq_false (by omega)
    have e2:decide (i ≥ 2 ^ 63) = false:=decide_eq_false (by omega)
    rw [e1,e2,Bool.or_false]) (by rw [h1]; simpa using h2) ⟨.str ⟨#[c]⟩,H,I.tok _,⟨_,rfl⟩,q⟩) hs
def rIx (K:PySem.W.Frag):R2:=fun x y H Q=>rIxL K x y H Q∨rIxT K x y H Q∨rIxS x y H Q
theorem ix_seq:IxR X (rIx X.K):=ix_list.or (ix_tup.or ix_str)
theorem mapSeq_set (its:List Value) (n j:Nat) (u:Value):Obj.mapSeq (·.setIfInBounds j u) { cls:=.type "list",data:=.seq its.toArray n } = { cls:=.type "list",data:=.seq (its.set j u).toArray n }:=by
  simp [Obj.mapSeq]
theorem Inv.lst {pins:List (Addr × Obj)}{σ:St}{H:Hp}{s:Shared}{p:Addr}{xs:List V} (I:Inv X pins σ H s) (h:H p = some (.lst xs)):
    ∃ (its:List Value) (n:Nat),Vals xs its∧s.heap.get? p = some { cls:=.type "list",data:=.seq its.toArray n }∧xs.length≤sizeLine:=by
  obtain ⟨z,its,n,r,e⟩:=I.hok p _ h
  exact ⟨its,n,r,e,z⟩
theorem Inv.lstUpd {pins:List (Addr × Obj)}{σ:St}{H:Hp}{s:Shared}{p:Addr}{xs ys:List V}{its its':List Value}{n n':Nat}{f:Obj→Obj} (I:Inv X pins σ H s) (h:H p = some (.lst xs))
    (ho:s.heap.get? p = some { cls:=.type "list",data:=.seq its.toArray n }) (hf:f { cls:=.type "list",data:=.seq its.toArray n } = { cls:=.type "list",data:=.seq its'.toArray n' }) (r:Vals ys its') (hz:ys.length≤sizeLine) (t:Nat):
    Inv X pins σ (upd H p (.lst ys)) { s with heap:=s.heap.update p f,toks:=t }:=by
  have e:(s.heap.update p f).get? p = some { cls:=.type "list",data:=.seq its'.toArray n' }:=by
    rw [Heap.get?_update_self f ho (by rw [hf] <;> rfl),hf]
  refine I.write (x:=p) (e:=p) (by rw [h]; trivial) (.inl rfl) (fun b u hb q=>(Heap.get?_update_other _ _ (Ne.symm hb)).trans q) ⟨_,e⟩ ?_
  exact ⟨hz,its',n',r,e⟩
def rSetL:V→V→V→Hp→(Hp→Prop)→Prop:=fun o i v H Q=>∃ p xs k j,o = .ref p∧i = .int k∧H p = some (.lst xs)∧ixN xs.length k = some j∧Q (upd H p (.lst (xs.set j v)))
theorem set_list:PSet X rSetL:=by
  intro pins s σ H o i v ov iv u Q I ro ri rv h
  obtain ⟨p,xs,k,j,rfl,rfl,hp,hj,q⟩:=h
  cases ro
  obtain ⟨t,rfl⟩:=ri
  obtain ⟨its,n,r,ho,hz⟩:=I.lst hp
  obtain ⟨h1,h2,h3,h4⟩:=ixN_seq hj
  have hl:=r.length
  have hn:=line63
  have I':Inv X pins σ (upd H p (.lst (xs.set j v))) { s with heap:=s.heap.update p (Obj.mapSeq (·.setIfInBounds j u)) }:=
    I.lstUpd hp ho (mapSeq_set its n j u) (r.set rv j) (by rw [List.length_set]; exact hz) s.toks
  by_cases h0:0≤k
  · have hk:k.toNat = j:=by
      rw [seqIndex_of h0 h4] at h1
      exact Option.some.inj h1
    exact PySem.W.ki_setAt ho h0 (by omega) (by rw [List.size_toArray,← hl]; exact h4) (by rw [hk]; exact ⟨_,I',q⟩)
  · have hk:(k + (its.toArray.size:Int)).toNat = j:=by
      rw [seqIndex_neg (by omega) h3] at h1
      rw [List.size_toArray,← hl]
      exact Option.some.inj h1
    exact PySem.W.ki_setBack ho (by omega) (by rw [List.size_toArray,← hl]; exact h3) (by omega) (by rw [hk]; exact ⟨_,I',q⟩)
theorem slice_bounds (lo hi:Option Int) (n:Nat):(sliceBounds lo hi none n).1 = ((HT.sIx n 0 lo:Nat):Int)∧(sliceBounds lo hi none n).2.1 = ((HT.sIx n n hi:Nat):Int)∧(sliceBounds lo hi none n).2.2 = 1:=by
  refine ⟨?_,?_,rfl⟩
  · cases lo with
    | none=>simp [sliceBounds,HT.sIx]
    | some i=>
      simp only [sliceBounds,HT.sIx,Option.getD_none,show (1:Int) > 0 by decide,if_true]
      by_cases h:i < 0
      · simp only [h,if_true] <;> omega
      · simp only [h,if_false] <;> omega
  · cases hi with
    | none=>simp [sliceBounds,HT.sIx]
    | some i=>
      simp only [sliceBounds,HT.sIx,Option.getD_none,show (1:Int) > 0 by decide,if_true]
      by_cases h:i < 0
      · simp only [h,if_true] <;> omega
      · simp only [h,if_false] <;> omega
theorem slicePick_cut (its:List Value) (lo hi:Option Int):slicePick its.toArray lo hi none = ((its.drop (HT.sIx its.length 0 lo)).take (HT.sIx its.length its.length hi - HT.sIx its.length 0 lo)).toArray:=by
  obtain ⟨h1,h2,h3⟩:=slice_bounds lo hi its.toArray.size
  unfold slicePick
  rw [h1,h2,h3]
  simp only [sliceRange_one,pick_run,List.size_toArray] <;> rfl
def rSlL (K:PySem.W.Frag):V→Option Int→Option Int→Hp→VK→Prop:=fun x lo hi H Q=>∃ a xs,x = .ref a∧SqL K H a xs∧∀ p,H p = none→Q (.ref p) (upd H p (.lst (cutV xs lo hi)))
theorem sl_list:SlR X (rSlL X.K):=by
  intro pins s σ H x v vl vu lo hi sl Q I rx hs pl pu h
  obtain ⟨a,xs,rfl,hx,q⟩:=h
  cases rx
  obtain ⟨its,r,ht,hz⟩:=I.list hx
  have hlen:=r.length
  refine ⟨"list",_,slot_list_getitem.lookup,ht.isList.typeIs,?_⟩
  refine wpAny_getItem_list_slice ht.isList hs pl pu .none (by simp) ?_ (by rw [List.size_toArray] <;> omega)
  rw [slicePick_cut,← hlen]
  refine ⟨.ref s.heap.objs.size,_,I.laid (t':=s.toks) (o:=.lst (cutV xs lo hi)) (fun b ob q=>Heap.get?_push_of_some _ q) (Nat.le_refl _) ?_,rfl,q _ (I.hok.fresh (Nat.le_refl _))⟩
  exact ⟨Nat.le_trans (cutV_length xs lo hi) hz,_,0,(r.drop (HT.sIx xs.length 0 lo)).take (HT.sIx xs.length xs.length hi - HT.sIx xs.length 0 lo),Heap.get?_push_size _ rfl⟩
def flatV:V→Bool
  | .non=>true
  | .bl _=>true
  | .int _=>true
  | .str _=>true
  | _=>false
def eqV:V→V→Bool
  | .non,.non=>true
  | .bl a,.bl b=>a == b
  | .bl a,.int b=>(if a then 1 else 0) == b
  | .int a,.bl b=>a == (if b then 1 else 0)
  | .int a,.int b=>a == b
  | .str a,.str b=>a == b
  | _,_=>false
theorem eqAt_V {A:Around}{s:Shared}{y x:V}{u v:Value} (ry:RelV y u) (rx:RelV x v) (fy:flatV y = true) (fx:flatV x = true):SeqAt.EqAt A s u v (eqV y x):=by
  cases y with
  | non=>
    cases ry
    cases x with
    | non=>cases rx; exact SeqAt.EqAt.same _
    | bl b=>cases rx; exact SeqAt.EqAt.none_bool b
    | int b=>obtain ⟨t,rfl⟩:=rx; exact SeqAt.EqAt.none_int b t
    | str b=>obtain ⟨t,rfl⟩:=rx; exact SeqAt.EqAt.none_str b t
    | _=>exact absurd (show false = true from fx) Bool.false_ne_true
  | bl a=>
    cases ry
    cases x with
    | non=>cases rx; exact SeqAt.EqAt.bool_none a
    | bl b=>cases rx; exact SeqAt.EqAt.bool_bool a b
    | int b=>obtain ⟨t,rfl⟩:=rx; exact SeqAt.EqAt.bool_int a b t
    | str b=>obtain ⟨t,rfl⟩:=rx; exact SeqAt.EqAt.bool_str a b t
    | _=>exact absurd (show false = true from fx) Bool.false_ne_true
  | int a=>
    obtain ⟨t',rfl⟩:=ry
    cases x with
    | non=>cases rx; exact SeqAt.EqAt.int_none a t'
    | bl b=>cases rx; exact SeqAt.EqAt.int_bool a t' b
    | int b=>obtain ⟨t,rfl⟩:=rx; exact SeqAt.EqAt.int_int a t' b t
    | str b=>obtain ⟨t,rfl⟩:=rx; exact SeqAt.EqAt.int_str a t' b t
    | _=>exact absurd (show false = true from fx) Bool.false_ne_true
  | str a=>
    obtain ⟨t',rfl⟩:=ry
    cases x with
    | non=>cases rx; exact SeqAt.EqAt.str_none a t'
    | bl b=>cases rx; exact SeqAt.EqAt.str_bool a t' b
    | int b=>obtain ⟨t,rfl⟩:=rx; exact SeqAt.EqAt.str_int a t' b t
    | str b=>obtain ⟨t,rfl⟩:=rx; exact SeqAt.EqAt.str_str a t' b t
    | _=>exact absurd (show false = true from fx) Bool.false_ne_true
  | _=>exact absurd (show false = true from fy) Bool.false_ne_true
def eqU (x:V) (u:Value):Bool:=match u with
  | .none=>eqV .non x
  | .bool b=>eqV (.bl b) x
  | .int i _=>eqV (.int i) x
  | .str z _=>eqV (.str z) x
  | _=>false
theorem eqU_of {x y:V}{u:Value} (r:RelV y u) (f:flatV y = true):eqU x u = eqV y x:=by
  cases y with
  | non=>cases r; rfl
  | bl b=>cases r; rfl
  | int i=>obtain ⟨t,rfl⟩:=r; rfl
  | str z=>obtain ⟨t,rfl⟩:=r; rfl
  | _=>exact absurd (show false = true from f) Bool.false_ne_true
theorem any_eqU {x:V}:∀ {xs:List V}{us:List Value},Vals xs us→xs.all flatV = true→us.any (eqU x) = xs.any fun y=>eqV y x
  | _,_,.nil,_=>rfl
  | y :: xs,u :: us,.cons r t,f=>by
    rw [List.all_cons,Bool.and_eq_true] at f
    rw [List.any_cons,List.any_cons,eqU_of r f.1,any_eqU t f.2]
theorem mem_eqAt {A:Around}{s:Shared}{x:V}{v:Value} (rx:RelV x v) (fx:flatV x = true):∀ {xs:List V}{us:List Value},Vals xs us→xs.all flatV = true→∀ u∈us,SeqAt.EqAt A s u v (eqU x u)
  | _,_,.nil,_=>fun u hu=>by cases hu
  | y :: xs,u :: us,.cons r t,f=>fun u' hu=>by
    rw [List.all_cons,Bool.and_eq_true] at f
    rcases List.mem_cons.mp hu with rfl | hu
    · rw [eqU_of r f.1]; exact eqAt_V r rx f.1 fx
    · exact mem_eqAt rx fx t f.2 u' hu
def inV (x:V) (xs:List V):Bool:=xs.any fun y=>eqV y x
def rIn (K:PySem.W.Frag) (neg:Bool):R2:=fun x y H Q=>∃ p xs,y = .ref p∧(SqL K H p xs∨SqT K H p xs)∧flatV x = true∧xs.all flatV = true∧Q (.bl (if neg then !inV x xs else inV x xs)) H
theorem op_in_seq:OpR X (compareOp .In) (rIn X.K false):=by
  intro pins s σ H x y v u Q I rx ry h
  obtain ⟨p,xs,rfl,hq,fx,fs,q⟩:=h
  cases ry
  rcases hq with hq | hq
  · obtain ⟨its,r,pl,hz⟩:=I.list hq
    refine SeqAt.in_listAt (eqU x) pl.isList (fun w hw=>mem_eqAt rx fx r fs w (by simpa using hw)) ⟨.bl _,H,I,rfl,?_⟩
    rw [show its.toArray.any (eqU x) = its.any (eqU x) by simp,any_eqU r fs]
    exact q
  · obtain ⟨its,r,pl,hz⟩:=I.tuple hq
    refine SeqAt.in_tupleAt (eqU x) pl (fun w hw=>mem_eqAt rx fx r fs w (by simpa using hw)) ⟨.bl _,H,I,rfl,?_⟩
    rw [show its.toArray.any (eqU x) = its.any (eqU x) by simp,any_eqU r fs]
    exact q
theorem CallR.or {f:Value}{r r':List V→Hp→VK→Prop} (h:CallR X f r) (h':CallR X f r'):CallR X f (fun xs H Q=>r xs H Q∨r' xs H Q):=by
  intro pins s σ H xs us Q I rs q
  rcases q with q | q
  · exact h pins s σ H xs us Q I rs q
  · exact h' pins s σ H xs us Q I rs q
theorem call_list_of:CallR X (.type "list") (fun xs H Q=>∃ p ys,xs = [.ref p]∧(SqL X.K H p ys∨SqT X.K H p ys)∧∀ l,H l = none→Q (.ref l) (upd H l (.lst ys))):=by
  intro pins s σ H xs us Q I r h
  obtain ⟨p,ys,rfl,hq,q⟩:=h
  obtain ⟨u,rfl,rx⟩:=vals1 r
  cases rx
  have fin:∀ (its:List Value),Vals ys its→ys.length≤sizeLine→∀ (h':Heap) (c':Nat),(∀ b o',s.heap.get? b = some o'→h'.get? b = some o')→
      h'.get? s.heap.objs.size = some { cls:=.type "list",dict:=none,data:=.seq its.toArray c',slots:=#[] }→EP X pins σ Q (.ref s.heap.objs.size) { s with heap:=h' }:=fun its r' hz h' c' kp e=>
    ⟨.ref s.heap.objs.size,_,I.laid (t':=s.toks) kp (Nat.le_refl _) (show ObjOk X.prog X.w _ h' _ (.lst ys) from ⟨hz,its,c',r',e⟩),rfl,q _ (I.hok.fresh (Nat.le_refl _))⟩
  rcases hq with hq | hq
  · obtain ⟨its,r',pl,hz⟩:=I.list hq
    have hlen:=r'.length
    obtain ⟨o,ho,hc,n,hd⟩:=pl.isList
    exact call_list_seq p (.inl rfl) ho hc hd (fun h' c' kp e=>fin its r' hz h' c' kp e) (by simp only [List.size_toArray] <;> omega)
  · obtain ⟨its,r',pl,hz⟩:=I.tuple hq
    have hlen:=r'.length
    obtain ⟨o,ho,hc,n,hd⟩:=pl
    exact call_list_seq p (.inr rfl) ho hc hd (fun h' c' kp e=>fin its r' hz h' c' kp e) (by simp only [List.size_toArray] <;> omega)
theorem call_tuple_of:CallR X (.type "tuple") (fun xs H Q=>∃ p ys,xs = [.ref p]∧((SqL X.K H p ys∧∀ l,H l = none→Q (.ref l) (upd H l (.tup ys)))∨(SqT X.K H p ys∧Q (.ref p) H))):=by
  intro pins s σ H xs us Q I r h
  obtain ⟨p,ys,rfl,h⟩:=h
  obtain ⟨u,rfl,rx⟩:=vals1 r
  cases rx
  rcases h with ⟨hq,q⟩ | ⟨hq,q⟩
  · obtain ⟨its,r',pl,hz⟩:=I.list hq
    have hlen:=r'.length
    refine call_tuple_list pl.isList (fun h' kp=>?_) (by simp only [List.size_toArray] <;> omega)
    have I1:Inv X pins σ H { s with heap:=h' }:=I.kept (t':=s.toks) kp
    have I2:Inv X pins σ (upd H h'.objs.size (.tup ys)) { s with heap:=h'.push { cls:=.type "tuple",data:=.seq its.toArray } }:=
      I1.laid (t':=s.toks) (fun b o e=>Heap.get?_push_of_some _ e) (Nat.le_refl _) (show ObjOk X.prog X.w _ _ _ (.tup ys) from ⟨hz,its,r',IsTup.new _ _⟩)
    exact ⟨.ref h'.objs.size,_,I2,rfl,q _ (I1.hok.fresh (Nat.le_refl _))⟩
  · obtain ⟨its,r',pl,hz⟩:=I.tuple hq
    exact call_tuple_same pl ⟨.ref p,H,I,rfl,q⟩
def tyV (K:PySem.W.Frag) (T:String) (x:V) (H:Hp):Prop:=match x with
  | .str _=>T = "str"
  | .int _=>T = "int"
  | .ref p=>(T = "list"∧∃ xs,SqL K H p xs)∨(T = "tuple"∧∃ o,K.lookup p = some o∧o.cls = .type "tuple"∧o.dict = none) ∨
      (T = "dict"∧((∃ kvs,H p = some (.dK kvs))∨∃ kvs,H p = some (.dT kvs)))∨(T = "set"∧∃ S n,H p = some (.set S n))
  | _=>False
theorem tyV_is {pins:List (Addr × Obj)}{σ:St}{H:Hp}{s:Shared}{T:String}{x:V}{v:Value} (I:Inv X pins σ H s) (r:RelV x v) (ty:tyV X.K T x H):
    s.TypeIs v T∧∀ a,v = .ref a→∃ ob,s.heap.get? a = some ob∧ob.dict = none:=by
  cases x with
  | str z=>
    obtain ⟨t,rfl⟩:=r
    cases (show T = "str" from ty)
    exact ⟨typeIs_str s z t,fun _ e=>nomatch e⟩
  | int i=>
    obtain ⟨t,rfl⟩:=r
    cases (show T = "int" from ty)
    exact ⟨typeIs_int s i t,fun _ e=>nomatch e⟩
  | ref p=>
    cases r
    rcases ty with ⟨rfl,xs,hq⟩ | ⟨rfl,o,hk,hc,hd⟩ | ⟨rfl,hk⟩ | ⟨rfl,S,n,hk⟩
    · obtain ⟨its,_,pl,_⟩:=I.list hq
      refine ⟨pl.isList.typeIs,fun a e=>?_⟩
      cases e
      obtain ⟨o,n,e,c,hd,_⟩:=pl
      exact ⟨o,e,hd⟩
    · refine ⟨⟨o,I.kIn p o hk,hc⟩,fun a e=>?_⟩
      cases e
      exact ⟨o,I.kIn _ o hk,hd⟩
    · have z:∃ o,s.heap.get? p = some o∧o.ExactDict:=by
        rcases hk with ⟨kvs,hk⟩ | ⟨kvs,hk⟩
        · obtain ⟨_,_,_,_,o,_,_,e,ex,_⟩:=I.hok p _ hk
          exact ⟨o,e,ex⟩
        · obtain ⟨_,_,_,_,o,_,_,e,ex,_⟩:=I.hok p _ hk
          exact ⟨o,e,ex⟩
      obtain ⟨o,e,ex⟩:=z
      refine ⟨⟨o,e,ex.1⟩,fun a e2=>?_⟩
      cases e2
      exact ⟨o,e,ex.2.1⟩
    · obtain ⟨o,_,_,_,e,ex,_⟩:=I.hok p _ hk
      refine ⟨⟨o,e,ex.1⟩,fun a e2=>?_⟩
      cases e2
      exact ⟨o,e,ex.2.1⟩
  | _=>exact False.elim ty
def tBM0 (K:PySem.W.Frag) (T:String) (r:V→List V→Hp→VK→Prop) (to:TE):TE:=fun σ H Q=>to σ H fun x H1=>tyV K T x H1∧r x [] H1 Q
def tBM (K:PySem.W.Frag) (T:String) (r:V→List V→Hp→VK→Prop) (to:TE) (t:TA):TE:=fun σ H Q=>to σ H fun x H1=>tyV K T x H1∧t σ H1 fun xs H2=>r x xs H2 Q
variable {o e:Expr}{es:List Expr}{to:TE}{t:TA}{name:Str}{apos cpos:Pos}{T id:String}{r:V→List V→Hp→VK→Prop}
theorem pe_bm0 (pa:PlainAttrs T) (slot:Slot T name id) (hty:typeOf (.builtin id) = pure (.type "method_descriptor")) (hm:MtR X id r) (ho:PE X o to)
    (hbase:attributeBase o name X.env (eval o X.env) = eval o X.env:=by rfl) (hline:(apos.endLine == cpos.line) = true:=by rfl):PE X (.Call (.Attribute o name apos) [] [] cpos) (tBM0 X.K T r to):=by
  intro pins s σ H Q I h
  refine wpAny_Call_method0_late hbase hline (thn (ho pins s σ H _ I h) fun v s1 ⟨x,H1,I1,r1,ty,q1⟩=>?_)
  obtain ⟨h1,h2⟩:=tyV_is I1 r1 ty
  exact ⟨T,id,pa,slot,hty,h1,h2,Calls.callWith_builtin rfl (PySem.evalArgs_none (hm pins s1 σ H1 x [] v [] Q I1 r1 .nil q1))⟩
theorem pe_bm (pa:PlainAttrs T) (slot:Slot T name id) (hty:typeOf (.builtin id) = pure (.type "method_descriptor")) (hm:MtR X id r) (ho:PE X o to) (ha:PA X (e :: es) t)
    (hbase:attributeBase o name X.env (eval o X.env) = eval o X.env:=by rfl)
    (hfew:((backTo cpos (starEach (e :: es) X.env)).all (fun x=>!x.1) && (backToKw cpos (keywordEach [] X.env)).all (fun x=>x.1.isSome)
      && decide ((e :: es).length + ([]:List Keyword).length + (if ([]:List Keyword).isEmpty then 0 else 1) < 30)) = true:=by rfl)
    (hline:(apos.endLine == cpos.line) = true:=by rfl) (hs:starEach (e :: es) X.env = (false,eval e X.env) :: starEach es X.env:=by rfl) (hplain:(backTo cpos (starEach es X.env)).any (·.1) = false:=by rfl):
    PE X (.Call (.Attribute o name apos) (e :: es) [] cpos) (tBM X.K T r to t):=by
  intro pins s σ H Q I h
  refine wpAny_Call_method_late hbase hfew hline rfl (thn (ho pins s σ H _ I h) fun v s1 ⟨x,H1,I1,r1,ty,q1⟩=>?_)
  obtain ⟨h1,h2⟩:=tyV_is I1 r1 ty
  refine ⟨T,id,pa,slot,hty,h1,h2,?_⟩
  have hA:=ha cpos pins s1 σ H1 _ I1 q1
  rw [hs] at hA ⊢
  refine Calls.callWith_builtin (by show (false || (backTo cpos (starEach es X.env)).any (·.1)) = false; rw [hplain] <;> rfl) (Calls.evalArgs_plain ?_)
  exact thn hA fun us s2 ⟨vs,H2,I2,r2,q2⟩=>hm pins s2 σ H2 x vs v us Q I2 r1 r2 q2
end
end L2
namespace L2
open PySem PySem.Spec PyProof.Rows
def MtM (X:Cx) (id:String) (r:V→List V→Hp→VK→Prop):Prop:=
  ∀ (pins:List (Addr × Obj)) (s:Shared) (σ:St) (H:Hp) (x:V) (xs:List V) (v:Value) (us:List Value) (Q:VK),Inv X pins σ H s→RelV x v→Vals xs us→r x xs H Q→
    wpAny (model X.prog X.w) X.A (call (.builtin id) (v :: us)) (EP X pins σ Q) X.xe s
theorem Vals.one:∀ {x:V}{us:List Value},Vals [x] us→∃ u,us = [u]∧RelV x u
  | _,_,.cons r .nil=>⟨_,rfl,r⟩
theorem Vals.two:∀ {x y:V}{us:List Value},Vals [x,y] us→∃ u v,us = [u,v]∧RelV x u∧RelV y v
  | _,_,_,.cons r (.cons q .nil)=>⟨_,_,rfl,r,q⟩
theorem Vals.zero:∀ {us:List Value},Vals [] us→us = []
  | _,.nil=>rfl
theorem Vals.dropLast {xs:List V}{us:List Value} (h:Vals xs us):Vals xs.dropLast us.dropLast:=by
  induction h with
  | nil=>exact .nil
  | cons r t ih=>
    cases t with
    | nil=>exact .nil
    | cons q t'=>exact .cons r ih
theorem Vals.eraseIdx:∀ {xs:List V}{us:List Value} (i:Nat),Vals xs us→Vals (xs.eraseIdx i) (us.eraseIdx i)
  | _,_,_,.nil=>.nil
  | _,_,0,.cons _ t=>t
  | _,_,i + 1,.cons r t=>.cons r (Vals.eraseIdx i t)
theorem Vals.reverse {xs:List V}{us:List Value} (h:Vals xs us):Vals xs.reverse us.reverse:=by
  induction h with
  | nil=>exact .nil
  | cons r t ih=>rw [List.reverse_cons,List.reverse_cons]; exact Vals.append ih (.cons r .nil)
theorem erase_last {α:Type} (l:List α):l.eraseIdx (l.length - 1) = l.dropLast:=by
  induction l with
  | nil=>rfl
  | cons a r ih=>
    cases r with
    | nil=>rfl
    | cons b r=>
      have e:(a :: b :: r).length - 1 = ((b :: r).length - 1) + 1:=by
        have h1:(a :: b :: r).length = r.length + 2:=rfl
        have h2:(b :: r).length = r.length + 1:=rfl
        omega
      rw [e,List.eraseIdx_cons_succ,ih]
      all_goals rfl
section
variable {X:Cx}{pins:List (Addr × Obj)}{σ:St}{H:Hp}{s:Shared}{l b:Addr}{xs ys zs:List V}
theorem Inv.lset {its its':List Value}{n:Nat}{f:Array Value→Array Value}{t':Nat} (I:Inv X pins σ H s) (hH:H l = some (.lst xs))
    (e:s.heap.get? l = some { cls:=.type "list",data:=.seq its.toArray n }) (hf:f its.toArray = its'.toArray) (hv:Vals ys its') (hz:ys.length≤sizeLine):
    Inv X pins σ (upd H l (.lst ys)) { s with heap:=s.heap.update l (Obj.mapSeq f),toks:=t' }:=by
  have q:=PySem.IsL.update e f
  rw [hf] at q
  refine I.write (x:=l) (e:=l) (by rw [hH]; exact trivial) (.inl rfl) (fun b' u hb hu=>(Heap.get?_update_other s.heap (Obj.mapSeq f) (Ne.symm hb)).trans hu) ⟨_,q⟩ ?_
  exact ⟨hz,its',_,hv,q⟩
theorem Inv.lnew {its:List Value}{t':Nat} (I:Inv X pins σ H s) (hv:Vals ys its) (hz:ys.length≤sizeLine):
    Inv X pins σ (upd H s.heap.objs.size (.lst ys)) { s with heap:=s.heap.push { cls:=.type "list",data:=.seq its.toArray },toks:=t' }:=
  I.laid (fun _ _ q=>Heap.get?_push_of_some _ q) (Nat.le_refl _) ⟨hz,its,0,hv,Heap.get?_push_size _ rfl⟩
theorem Inv.fresh (I:Inv X pins σ H s):H s.heap.objs.size = none:=I.hok.fresh (Nat.le_refl _)
theorem Inv.lstM (I:Inv X pins σ H s) (hH:H l = some (.lst xs)):xs.length≤sizeLine∧∃ (its:List Value) (n:Nat),Vals xs its∧xs.length = its.length∧s.heap.get? l = some { cls:=.type "list",data:=.seq its.toArray n }:=by
  obtain ⟨z,its,n,r,e⟩:=I.hok l _ hH
  exact ⟨z,its,n,r,r.length,e⟩
theorem notLongL {n:Nat} (h:n≤sizeLine):Builtin.List.listTooLong n = false:=by
  unfold Builtin.List.listTooLong
  exact decide_eq_false (by omega)
end
section
variable {X:Cx}
def rAppend:V→List V→Hp→VK→Prop:=fun x vs H Q=>∃ l xs y,x = .ref l∧vs = [y]∧H l = some (.lst xs)∧xs.length < sizeLine∧Q .non (upd H l (.lst (xs ++ [y])))
theorem mt_append:MtM X "list.append" rAppend:=by
  intro pins s σ H x vs v us Q I rx rv h
  obtain ⟨l,xs,y,rfl,rfl,hH,hz,q⟩:=h
  cases rx
  obtain ⟨u,rfl,ru⟩:=rv.one
  obtain ⟨z,its,n,r,hl,e⟩:=I.lstM hH
  refine call_meets F.slot_list_append ⟨_,e,rfl⟩ F.entry_list_append (F.args_list_append_2 _ _) (PySem.list_append l its.toArray n u (by rw [List.size_toArray]; omega)) ⟨e,?_⟩
  refine ⟨.non,_,I.lset (its':=its ++ [u]) hH e (by simp) (r.append (.cons ru .nil)) ?_,rfl,q⟩
  rw [List.length_append,List.length_singleton]
  omega
def rExtend:V→List V→Hp→VK→Prop:=fun x vs H Q=>∃ l b xs zs,x = .ref l∧vs = [.ref b]∧H l = some (.lst xs)∧H b = some (.lst zs)∧xs.length + zs.length≤sizeLine∧Q .non (upd H l (.lst (xs ++ zs)))
theorem mt_extend:MtM X "list.extend" rExtend:=by
  intro pins s σ H x vs v us Q I rx rv h
  obtain ⟨l,b,xs,zs,rfl,rfl,hH,hB,hz,q⟩:=h
  cases rx
  obtain ⟨u,rfl,ru⟩:=rv.one
  cases ru
  obtain ⟨z,its,n,r,hl,e⟩:=I.lstM hH
  obtain ⟨z2,its2,n2,r2,hl2,e2⟩:=I.lstM hB
  have hsz:its.toArray.size + its2.toArray.size≤sizeLine:=by rw [List.size_toArray,List.size_toArray]; omega
  have hlong:¬ (!its.toArray.isEmpty && Builtin.List.listTooLong (its.toArray.size + its2.toArray.size)) = true:=by
    rw [notLongL hsz,Bool.and_false]
    exact Bool.false_ne_true
  refine call_meets F.slot_list_extend ⟨_,e,rfl⟩ F.entry_list_extend (F.args_list_extend_2 _ _)
    (AutoSeq1.list_extend_list_list_0 l its.toArray n b its2.toArray n2 hlong (by rw [List.size_toArray]; omega) (by omega)) ⟨e,e2,?_⟩
  refine ⟨.non,_,I.lset (its':=its ++ its2) hH e (by simp) (r.append r2) ?_,rfl,q⟩
  rw [List.length_append]
  omega
def rPop:V→List V→Hp→VK→Prop:=fun x vs H Q=>∃ l xs y,x = .ref l∧vs = []∧H l = some (.lst xs)∧xs[xs.length - 1]? = some y∧Q y (upd H l (.lst xs.dropLast))
theorem mt_pop:MtM X "list.pop" rPop:=by
  intro pins s σ H x vs v us Q I rx rv h
  obtain ⟨l,xs,y,rfl,rfl,hH,hy,q⟩:=h
  cases rx
  have hus:=rv.zero
  subst hus
  obtain ⟨z,its,n,r,hl,e⟩:=I.lstM hH
  obtain ⟨u,hu,ru⟩:=r.get hy
  have hy':its.toArray[its.toArray.size - 1]? = some u:=by
    show its.toArray[its.length - 1]? = some u
    rw [← Array.getElem?_toList,← hl]
    exact hu
  refine call_meets F.slot_list_pop ⟨_,e,rfl⟩ F.entry_list_pop (F.args_list_pop_1 _) (MeetsSeq.list_pop_last l its.toArray n u hy' (by rw [List.size_toArray]; omega)) ⟨e,?_⟩
  refine ⟨y,_,I.lset (its':=its.dropLast) hH e ?_ r.dropLast ?_,ru,q⟩
  · show its.toArray.eraseIdxIfInBounds (its.toArray.size - 1) = its.dropLast.toArray
    rw [List.size_toArray,List.eraseIdxIfInBounds_toArray,erase_last]
  · rw [List.length_dropLast]
    omega
def rPopAt:V→List V→Hp→VK→Prop:=fun x vs H Q=>∃ l xs i k y,x = .ref l∧vs = [.int i]∧H l = some (.lst xs)∧-(2 ^ 63)≤i∧i < 2 ^ 63∧seqIndex? i xs.length = some k∧xs[k]? = some y∧Q y (upd H l (.lst (xs.eraseIdx k)))
def rReverse:V→List V→Hp→VK→Prop:=fun x vs H Q=>∃ l xs,x = .ref l∧vs = []∧H l = some (.lst xs)∧Q .non (upd H l (.lst xs.reverse))
def rClear:V→List V→Hp→VK→Prop:=fun x vs H Q=>∃ l xs,x = .ref l∧vs = []∧H l = some (.lst xs)∧Q .non (upd H l (.lst []))
def rCat:R2:=fun x y H Q=>∃ l b xs zs,x = .ref l∧y = .ref b∧H l = some (.lst xs)∧H b = some (.lst zs)∧xs.length + zs.length≤sizeLine∧∀ p,H p = none→Q (.ref p) (upd H p (.lst (xs ++ zs)))
theorem op_cat:OpR X (binaryOp .Add) rCat:=by
  intro pins s σ H x y v u Q I rx ry h
  obtain ⟨l,b,xs,zs,rfl,rfl,hH,hB,hz,q⟩:=h
  cases rx
  cases ry
  obtain ⟨z,its,n,r,hl,e⟩:=I.lstM hH
  obtain ⟨z2,its2,n2,r2,hl2,e2⟩:=I.lstM hB
  refine PySem.P.add_list e e2 ?_ (by rw [List.size_toArray,List.size_toArray]; omega)
  have ea:its.toArray ++ its2.toArray = (its ++ its2).toArray:=by simp
  rw [ea]
  exact ⟨.ref _,_,I.lnew (t':=s.toks) (r.append r2) (by rw [List.length_append]; omega),rfl,q _ I.fresh⟩
def rRep:R2:=fun x y H Q=>∃ l k xs,x = .ref l∧y = .int k∧H l = some (.lst xs)∧-(2 ^ 63)≤k∧k < 2 ^ 63∧xs.length * k.toNat≤sizeLine ∧
  ∀ p,H p = none→Q (.ref p) (upd H p (.lst (List.replicate k.toNat xs).flatten))
end
section
variable {prog:Program}{w:World}{A:Around}{E:Value→Shared→Prop}{s:Shared}
set_option maxRecDepth 100000 in
end
section
variable {X:Cx}
end
end L2
namespace Att
open PySem PySem.W PySem.Calls PyProof.Rows
theorem ints_of_wellAll {P:Params}{h:Heap}:∀ (ns:List Int) (vs:List Value),WellAll P h vs (ns.map WData.int)→IntsAre vs ns:=by
  intro ns
  induction ns with
  | nil=>
    intro vs w
    rw [List.map_nil] at w
    cases w
    exact .nil
  | cons n ns ih=>
    intro vs w
    rw [List.map_cons] at w
    cases w with
    | cons a b=>
      cases a
      exact .cons _ _ (ih _ b)
theorem script_of {l:OpenLaw}{n:Nat} (hn:l.most = some n) {P:Params}{h:Heap}{args:List WData}{vals:List Value}
    (hpre:l.row.toRowW.claim.pre args = true) (hwl:WellAll P h vals args):
    ∃ a vs ns,vals = [Value.ref a]∧args = [WData.list (ns.map WData.int)]∧h.get? a = some { cls:=.type "list",data:=.seq vs.toArray }∧IntsAre vs ns∧ns.length≤n:=by
  have hsh:WShape.hasAll [] args [.list .int] = true:=(pre_splitW hpre).1
  have hc:l.pre.holds [] { args:=args } = true:=(pre_splitW hpre).2
  obtain ⟨d,r,rfl,h1,h2⟩:=hasAllW_cons hsh
  obtain rfl:=hasAllW_nil h2
  obtain ⟨xs,rfl,h3⟩:=hasW_list h1
  obtain ⟨ns,rfl⟩:=items_int h3
  have hlen:ns.length≤n:=by
    unfold OpenLaw.pre at hc
    have h4:(WTm.not (.lt (.lit (.int (n:Int))) (.len (.arg 0)))).holds [] { args:=[.list (ns.map .int)] } = true:=by
      have h4:=(holds_andW hc).1
      rw [hn] at h4
      exact h4
    have h5:=condW_of h4 (w_not (w_lt w_lit (w_len_list (w_arg rfl))))
    rw [List.length_map] at h5
    refine Nat.le_of_not_lt fun q=>?_
    have q':(n:Int) < ((ns.length:Nat):Int):=by omega
    first
      | (rw [decide_eq_true q'] at h5; exact absurd h5 (by decide))
      | (simp at h5; omega)
  cases hwl with
  | cons w1 w2=>
    cases w2
    cases w1 with
    | list ho hall=>exact ⟨_,_,ns,rfl,rfl,ho,ints_of_wellAll ns _ hall,hlen⟩
theorem post_true (l:OpenLaw) (args:List WData):l.row.toRowW.claim.post args (.bool true) args = true:=
  postW_of (r:=l.row.toRowW) (X:=(true == true))
    (show WShape.has [] (.bool true) .bool = true by first | rfl | decide | simp [WShape.has,WShape.arms,WShape.armsAll])
    (show (WTm.eq .res (.lit (.bool true))).value [] { args:=args,res:=some (.bool true),after:=args } = some (.bool (true == true)) from w_eq_bool (w_res rfl) w_lit) rfl
theorem attach_call {l:OpenLaw}{n:Nat}{q:Program}{loose:List Str}{XP:(Str→Option Value)→Heap→Prop}{YP:World→Heap→Prop}{d:DefRec}
    (hn:l.most = some n) (hdf:d.params.defaults = [])
    (call:∀ (w:World) (s₀ s₁:Shared) (mg mb:Str→Option Value) (fa:Addr) (o:Obj) (pm cd doc:Value) (a:Addr) (vs:List Value) (ns:List Int),
      Ground q loose [] XP w s₀ mg mb s₁.heap→YP w s₁.heap→
      s₁.heap.get? fa = some o→o.data = .func (docDef d.name d.params d.body d.scope pm cd doc)→s₁.heap.CodeRec cd d.name→mg d.name = some (.ref fa)→
      s₁.heap.get? a = some { cls:=.type "list",data:=.seq vs.toArray }→IntsAre vs ns→ns.length≤n→s₁.gens = #[]→
      codeAny (model l.prog w) callerA (.call (.ref fa) ⟨[.ref a],[]⟩) (fun r s'=>r = .ok (.ret (.bool true))∧OldK s₁.heap s'.heap∧s'.os = s₁.os∧AllBare s'.gens) s₁):
    WalkO q loose XP YP l.row.toRowW d [] (fun f vs=>PySem.call f vs):=by
  intro w s₀ s₁ mg mb G Y fa o pm cd doc dV kV ho hd hcd hD hmg hg args vals as hpre hlay hrd hwl hlo
  obtain rfl:dV = .none:=Dflts.none hD hdf
  obtain rfl:kV = .none:=Dflts.noKw hD
  obtain ⟨a,vs,ns,rfl,rfl,hobj,hints,hlen⟩:=script_of hn hpre hwl
  refine enter_call (codeAny_mono (call w s₀ s₁ mg mb fa o pm cd doc a vs ns G Y ho (fd_plain hd) hcd hmg hobj hints hlen hg) fun r s' hq=>?_)
  obtain ⟨rfl,h2,h3,h4⟩:=hq
  exact ⟨.inl ⟨.bool true,.bool true,[],rfl,fun _=>rfl,.bool true,post_true l _,fun _=>⟨List.Pairwise.nil,fun _ hm=>(nomatch hm)⟩⟩,h2,h3,h4⟩
section
variable {prog:Program}{w:World}{A:Around}{E:Value→Shared→Prop}{s:Shared}{K:Frag}
def noObjs (h:Heap):Heap:={ h with objs:=#[] }
def ledger (h:Heap) (L d:Addr):List (Addr × Obj):=(List.range h.objs.size).filterMap fun a=>if a = L∨a = d then none else (h.get? a).map fun o=>(a,o)
end
end Att
namespace L2
open PySem PySem.Spec PyProof.Rows
theorem vals_ints:∀ {vs:List Value}{ns:List Int},IntsAre vs ns→Vals (ns.map V.int) vs
  | _,_,.nil=>.nil
  | _,_,.cons n t h=>.cons ⟨t,rfl⟩ (vals_ints h)
def Only (H:Hp):Prop:=∀ b,H b = none∨∃ o xs,H b = some (.frz o (.lst xs))
theorem law_call {P:Program}{w:World}{K:PySem.W.Frag}{mg mb:Str→Option Value}{CX:CXT}{k:Nat}{fa a:Addr}{fd:FuncData}{x:Str}{sp:Sp}{s₁:Shared}{vs:List Value}{ns:List Int}
    (KX:K.In s₁.heap) (hns:s₁.heap.Ns mainGlobals mg) (hb:s₁.heap.Ns builtinsNs mb) (hbb:∀ x:Str,x≠"__name__"→mb x = bootBuiltins x) (hlim:s₁.heap.NoLimit) (hg:s₁.gens = #[])
    (ha:s₁.heap.get? a = some { cls:=.type "list",data:=.seq vs.toArray }) (hi:IntsAre vs ns) (hl:ns.length≤sizeLine) (hr:Room k callerA)
    (F:∀ base:Heap,K.In base→base.Ns mainGlobals mg→FnOk P w K mg base CX k fa fd [x] sp) (hbind:∀ (s:Shared) (u:Value),BindsTo s fd ⟨[u],[]⟩ [(x,u)])
    (hsp:∀ H:Hp,Only H→SqL K H a (ns.map V.int)→sp [.ref a] H (fun v _=>v = .bl true) fun _ _ _=>False)
    (hCX:∀ H e s',CX [] H s₁ (fun _ _ _=>False) e s'→False):
    codeAny (model P w) callerA (.call (.ref fa) ⟨[.ref a],[]⟩) (fun r s'=>r = .ok (.ret (.bool true))∧OldK s₁.heap s'.heap∧s'.os = s₁.os∧AllBare s'.gens) s₁:=by
  have rv:=vals_ints hi
  have lenV:=hi.length
  have core:∀ H:Hp,Only H→SqL K H a (ns.map V.int)→HOk P w H s₁.heap→(∀ b,H b≠none→b = a)→(H a≠none→K.lookup a = none)→
      codeAny (model P w) callerA (.call (.ref fa) ⟨[.ref a],[]⟩) (fun r s'=>r = .ok (.ret (.bool true))∧OldK s₁.heap s'.heap∧s'.os = s₁.os∧AllBare s'.gens) s₁:=by
    intro H hO hS hok hA hK
    have base_of:∀ {b:Addr}{o:Obj},s₁.heap.get? b = some o→H b = none→(hidT s₁.heap H).get? b = some o:=fun e n=>hidT_get e n
    have noA:∀ {b:Addr}{o:Obj}{es:Array DictEntry}{ep:Nat},s₁.heap.get? b = some o→o.data = .dict es ep→H b = none:=fun {b o es ep} e d=>by
      cases q:H b with
      | none=>rfl
      | some u=>
        have e':b = a:=hA b (by rw [q]; simp)
        subst e'
        rw [ha] at e; cases e
        have d':Data.seq vs.toArray _ = Data.dict es ep:=d
        cases d'
    have nsK:∀ {b:Addr}{m:Str→Option Value},s₁.heap.Ns b m→(hidT s₁.heap H).Ns b m:=fun {b m} ⟨o,es,ep,e,d,r⟩=>⟨o,es,ep,base_of e (noA e d),d,r⟩
    have hKb:K.In (hidT s₁.heap H):=fun b o e=>base_of (KX b o e) (by
      cases q:H b with
      | none=>rfl
      | some u=>
        have e':b = a:=hA b (by rw [q]; simp)
        subst e'
        rw [hK (by rw [q]; simp)] at e; cases e)
    have hM:Mod K mg (hidT s₁.heap H):=⟨hKb,nsK hns,⟨mb,nsK hb,hbb⟩,let ⟨mc,h1,h2⟩:=hlim; ⟨mc,nsK h1,h2⟩⟩
    have e0:Env0 P w K mg (hidT s₁.heap H) callerA [] s₁ H:=⟨rfl,hM,fun b o e=>of_hidT e,Nat.le_of_eq (hidT_size _ _),trivial,fun b hb=>absurd (show b∈([]:List Addr) from hb) (by simp),hok,.of_eq hg⟩
    refine codeAny_mono ((F _ hKb (nsK hns)).run callerA [] s₁ H ⟨[.ref a],[]⟩ [.ref a] [.ref a] _ _ hr e0 (hbind s₁ (.ref a)) (.cons rfl .nil) (hsp H hO hS)) fun r s' h=>?_
    cases r with
    | error e=>exact (hCX H e s' h).elim
    | ok fl=>
      cases fl with
      | next=>exact False.elim h
      | brk=>exact False.elim h
      | cont=>exact False.elim h
      | ret u=>
        obtain ⟨v,H',os,bare,un,hok',r',q⟩:=h
        have q':v = .bl true:=q
        subst q'
        obtain rfl:u = Value.bool true:=r'
        refine ⟨rfl,OldK.of_keep fun b o e=>?_,os,bare⟩
        cases q:H b with
        | none=>exact un.keep b o e q (by intro z; exact absurd (show b∈([]:List Addr) from z) (by simp)) (by simp)
        | some u=>
          rcases hO b with z | ⟨ob,xs,z⟩
          · rw [q] at z; cases z
          · have z2:=un.frzs b ob _ z
            obtain ⟨e1,_⟩:=hok b _ z
            obtain ⟨e2,_⟩:=hok' b _ z2
            rw [e] at e1; cases e1
            exact e2
  cases hk:K.lookup a with
  | some o=>
    have e:=KX a o hk
    rw [ha] at e
    cases e
    refine core (fun _=>none) (fun _=>.inl rfl) (.inr ⟨_,vs.toArray,_,hk,rfl,rfl,rfl,by rw [List.size_toArray,lenV]; exact hl,by simpa using rv⟩) (fun b u z=>by have z':(none:Option HO) = some u:=z; cases z') (fun b z=>absurd rfl z) fun z=>absurd rfl z
  | none=>
    refine core (fun b=>if b = a then some (.frz { cls:=.type "list",data:=.seq vs.toArray } (.lst (ns.map V.int))) else none) (fun b=>?_) (.inl (.inr ⟨{ cls:=.type "list",data:=.seq vs.toArray },if_pos rfl⟩)) (fun b u z=>?_) (fun b z=>?_) fun _=>hk
    · by_cases hb:b = a
      · exact .inr ⟨_,_,if_pos hb⟩
      · exact .inl (if_neg hb)
    · by_cases hb:b = a
      · have z':=(if_pos hb).symm.trans z
        cases z'
        subst hb
        exact ⟨ha,by rw [List.length_map]; exact hl,vs,_,rv,ha⟩
      · have z':=(if_neg hb).symm.trans z
        cases z'
    · by_cases hb:b = a
      · exact hb
      · exact absurd (if_neg hb) z
end L2
namespace L2
open PySem PySem.Spec PyProof.Rows
abbrev KOf {K:PySem.W.Frag}{h:Heap} (_:K.In h):PySem.W.Frag:=K
theorem walk_of {l:PySem.W.OpenLaw}{n k:Nat}{q:Program}{loose:List Str}{XP:(Str→Option Value)→Heap→Prop}{YP:World→Heap→Prop}{d:DefRec}{K:Params→PySem.W.Frag}{CX:World→CXT}{sp:World→Sp}{x:Str}
    (hn:l.most = some n) (hn2:n≤sizeLine) (hdf:d.params.defaults = []) (hr:Room k callerA)
    (hY:∀ (w:World) (h:Heap),YP w h→(K w.params).In h)
    (F:∀ (w:World) (mg:Str→Option Value) (fa:Addr) (h:Heap),(K w.params).In h→h.Ns mainGlobals mg→mg d.name = some (.ref fa)→
      ∃ fd:FuncData,(∀ (s:Shared) (u:Value),BindsTo s fd ⟨[u],[]⟩ [(x,u)]) ∧
        ∀ base:Heap,(K w.params).In base→base.Ns mainGlobals mg→FnOk l.prog w (K w.params) mg base (CX w) k fa fd [x] (sp w))
    (hsp:∀ (w:World) (H:Hp) (a:Addr) (ns:List Int),ns.length≤n→Only H→SqL (K w.params) H a (ns.map V.int)→sp w [.ref a] H (fun v _=>v = .bl true) fun _ _ _=>False)
    (hCX:∀ (w:World) (H:Hp) (s:Shared) (e:Value) (s':Shared),CX w [] H s (fun _ _ _=>False) e s'→False):
    PySem.W.WalkO q loose XP YP l.row.toRowW d [] (fun f vs=>PySem.call f vs):=by
  refine Att.attach_call hn hdf fun w s₀ s₁ mg mb fa o pm cd doc a vs ns G Y ho hd hcd hmg hobj hints hlen hg=>?_
  have KX:=hY w _ Y
  obtain ⟨fd,hb,hF⟩:=F w mg fa _ KX G.T.g hmg
  exact law_call KX G.T.g G.T.b G.T.builtins G.T.nolimit hg hobj hints (Nat.le_trans hlen hn2) hr hF hb (fun H hO hS=>hsp w H a ns hlen hO hS) fun H e s'=>hCX w H s₁ e s'
end L2
namespace L2
open PySem PySem.Spec PyProof.Rows
def inClass (s:Stmt) (j:Nat):Stmt:=match s with
  | .ClassDef _ _ _ body _ _ _ _ _ _ _=>body.getD j (.Pass ⟨0,0,0,0⟩)
  | _=>.Pass ⟨0,0,0,0⟩
def defArgs (s:Stmt):Arguments:=match s with
  | .FunctionDef _ a _ _ _ _ _ _ _ _=>a
  | _=>{ posonlyargs:=[],args:=[],vararg:=none,kwonlyargs:=[],kw_defaults:=[],kwarg:=none,defaults:=[] }
def defBody (s:Stmt):List Stmt:=match s with
  | .FunctionDef _ _ b _ _ _ _ _ _ _=>b
  | _=>[]
def defScope (s:Stmt):Scope:=match s with
  | .FunctionDef _ _ _ _ _ _ sc _ _ _=>sc
  | _=>{ kind:=.function,names:=[],isGenerator:=false,isCoroutine:=false }
abbrev CX0:CXT:=fun _ _ _ _ _ _=>False
abbrev E0:XK:=fun _ _ _=>False
theorem pass0 {X:Cx}:Passes CX0 X E0:=fun _ _ _ _ _ _ _ h=>h.elim
structure Fun (K:PySem.W.Frag) (x qual:Str) (st:Stmt) (f:Addr) (fd:FuncData):Prop where
  ex:∃ (oc:Value) (od:Option Addr) (kV doc pm:Value) (an:Option Addr) (cdv ct:Value) (osl:Array (Option Value)),
    fd = PySem.W.fnOf x qual (defArgs st) (defBody st) (defScope st) .none kV doc pm an cdv ct∧K.lookup f = some ⟨oc,od,.func fd,osl⟩∧PySem.W.codeIn K cdv qual = true
  kp:PySem.W.keepIn K (.ref f) = true
section
variable {P:Program}{w:World}{K:PySem.W.Frag}{mg:Str→Option Value}{base:Heap}
theorem Fun.ok {x qual:Str}{st:Stmt}{f:Addr}{fd:FuncData}{N ps:List Str}{k:Nat}{sp:Sp} (F:Fun K x qual st f fd) (S:FnScope N ps (defScope st)) (len:∀ vs H Q E,sp vs H Q E→vs.length = ps.length)
    (hbody:∀ (cdv:Value) (A:Around) (outer:List Env) (s:Shared) (H:Hp) (vs:List V) (Q:VK) (E:XK),Room k (A.deeper (envOfC qual (defScope st) s.heap.objs.size f cdv))→sp vs H Q E→
      ∃ t,PSs (cxOf CX0 P w K mg base N qual (defScope st) f cdv A outer s H E).nox (defBody st) t∧t { nx:=fun _ H'=>Q .non H',rt:=Q } (start N vs) H):FnOk P w K mg base CX0 (k + 1) f fd ps sp:=by
  obtain ⟨oc,od,kV,doc,pm,an,cdv,ct,osl,rfl,lk,hcd⟩:=F.ex
  refine fn_of lk hcd S len fun A outer s H vs Q E hr hsp=>?_
  obtain ⟨t,h,q⟩:=hbody cdv A outer s H vs Q E hr hsp
  exact ⟨t,h.nox,q⟩
theorem Fun.binds {x qual:Str}{st:Stmt}{f:Addr}{fd:FuncData}{ps:List Str} (F:Fun K x qual st f fd)
    (h:∀ (kV doc pm:Value) (an:Option Addr) (cdv ct:Value) (us:List Value),us.length = ps.length→bindArgs (PySem.W.fnOf x qual (defArgs st) (defBody st) (defScope st) .none kV doc pm an cdv ct) ⟨us,[]⟩ = pure (ps.zip us)):Binds K fd ps []:=by
  obtain ⟨oc,od,kV,doc,pm,an,cdv,ct,osl,rfl,lk,hcd⟩:=F.ex
  exact .all (h kV doc pm an cdv ct)
theorem fun_mk {x qual:Str}{st:Stmt}{f:Addr}{oc:Value}{od an:Option Addr}{osl:Array (Option Value)}{kV doc pm cdv ct:Value} (l:K.lookup f = some ⟨oc,od,.func (PySem.W.fnOf x qual (defArgs st) (defBody st) (defScope st) .none kV doc pm an cdv ct),osl⟩)
    (c:PySem.W.codeIn K cdv qual = true) (k:PySem.W.keepIn K (.ref f) = true):Fun K x qual st f (PySem.W.fnOf x qual (defArgs st) (defBody st) (defScope st) .none kV doc pm an cdv ct):=⟨⟨oc,od,kV,doc,pm,an,cdv,ct,osl,rfl,l,c⟩,k⟩
end
theorem hu_of {A:Around}{k:Nat} (hr:Room k A):A.units + 1 < cLine:=Nat.lt_of_le_of_lt (Nat.add_le_add_left (by decide:1≤64) _) hr.units
theorem small1000 {n:Nat} (h:n≤1000):n < sizeLine:=Nat.lt_of_le_of_lt h (by decide)
section
variable {X:Cx}
theorem pv (i:Nat) {x:Str}{pos:Pos} (hN:X.N[i]? = some x:=by rfl) (hv:Vis X.env.scope x:=by first | exact Or.inl rfl | exact Or.inr (Or.inl rfl) | exact Or.inr (Or.inr rfl)) (hd:(x == ("__debug__":Str)) = false:=by decide)
    (hcd:(x == ("__classdict__":Str)) = false:=by decide):PE X (.Name x pos) (tVar i):=pe_var hN hv hd hcd
end
theorem iteF {A B:Prop} (h:B):if false = true then A else B:=by
  rw [if_neg Bool.false_ne_true]
  exact h
theorem iteT {A B:Prop} (h:A):if true = true then A else B:=by
  rw [if_pos rfl]
  exact h
theorem ite2 {c A B:Prop} [Decidable c] (h1:c→A) (h2:¬ c→B):if c then A else B:=by
  by_cases h:c
  · rw [if_pos h]
    exact h1 h
  · rw [if_neg h]
    exact h2 h
def Same (H H':Hp):Prop:=∀ b o,H b = some o→H' b = some o
theorem Same.refl (H:Hp):Same H H:=fun _ _ h=>h
theorem Same.trans {H H1 H2:Hp} (a:Same H H1) (b:Same H1 H2):Same H H2:=fun c o h=>b c o (a c o h)
theorem Same.free {H H':Hp} (e:Same H H') {l:Addr} (h:H' l = Option.none):H l = Option.none:=by
  cases q:H l with
  | none=>rfl
  | some o=>
    rw [e l o q] at h
    cases h
theorem Same.seq {K:PySem.W.Frag}{H H':Hp}{a:Addr}{xs:List V} (e:Same H H') (h:SqL K H a xs):SqL K H' a xs:=by
  rcases h with (h | ⟨o,h⟩) | h
  · exact .inl (.inl (e _ _ h))
  · exact .inl (.inr ⟨o,e _ _ h⟩)
  · exact .inr h
section
variable {κ:Type} [DecidableEq κ]
end
end L2
set_option maxHeartbeats 4000000
namespace L2
open PySem PySem.Spec PyProof.Rows
theorem HOk.track {P:Program}{w:World}{H:Hp}{h:Heap}{a:Addr}{o:HO} (x:HOk P w H h) (hn:H a = none) (new:ObjOk P w (upd H a o) h a o):HOk P w (upd H a o) h:=fun b u e=>by
  by_cases hb:b = a
  · subst hb; rw [upd_same] at e; cases e; exact new
  · rw [upd_ne hb] at e
    exact (x b u e).stay (fun c v _ q=>q) (fun c q=>by rw [upd_ne (ne_of_none q hn)]; exact q) fun c xs q=>by rw [upd_ne (ne_of_none q hn)]; exact q
theorem HOk.other {P:Program}{w:World}{H:Hp}{h h':Heap}{a:Addr} (x:HOk P w H h) (hn:H a = none) (hs:Heap.SameBut a h h'):HOk P w H h':=fun b u e=>
  (x b u e).stay (fun c v hc q=>(hs.2 c (by
    rintro rfl
    rcases hc with rfl | hc
    · rw [hn] at e; cases e
    · rw [hn] at hc; cases hc)).trans q) (fun _ q=>q) fun _ _ q=>q
section
variable {prog:Program}{w:World}{A:Around}{R:Result→Shared→Prop}{s:Shared}
theorem comp_loop {elt target iter:Expr}{ifs:List Expr}{scope:Scope}{pos:Pos}{it acc:Value}{env:Env} (I:Nat→Shared→Prop)
    (turn:∀ n s,I n s→wpAny (model prog w) A (pyNext it) (fun r s₁=>match r with
      | none=>R (.ok .next) s₁
      | some v=>wpAny (model prog w) A (letOwnedTupleGo target it v) (fun _ s₀=>wpAny (model prog w) A (assign target env v) (fun _ s₂=>
          wpAny (model prog w) A (forIn ifs true fun c r=>if r = true then do let ok ← isTrue c env (eval c env); pure (ForInStep.yield ok) else pure (ForInStep.yield r)) (fun ok s₃=>
            if ok = true then wpAny (model prog w) A (eval elt env) (fun x s₄=>
              wpAny (model prog w) A (call (.builtin "list.append") [acc,x]) (fun _ s₅=>∃ m,m < n∧I m s₅) (notedBy (model prog w) A env fun e s'=>R (.error e) s') s₄) (notedBy (model prog w) A env fun e s'=>R (.error e) s') s₃
            else ∃ m,m < n∧I m s₃) (notedBy (model prog w) A env fun e s'=>R (.error e) s') s₂) (notedBy (model prog w) A env fun e s'=>R (.error e) s') s₀) (notedBy (model prog w) A env fun e s'=>R (.error e) s') s₁) (notedBy (model prog w) A env fun e s'=>R (.error e) s') s)
    (n:Nat) (h:I n s):codeAny (model prog w) A (.compLoop (.ListComp elt [⟨target,iter,ifs,0⟩] scope pos) 0 it acc env) R s:=by
  refine codeAny_loop rfl I (fun n s hI=>?_) n h
  show wpAny _ A ((compTurn (.ListComp elt [⟨target,iter,ifs,0⟩] scope pos) 0 it acc env).onRaise (fun x=>do noteFrame x env; theTreesLotGoes x)) _ _ s
  refine wpAny_noted ?_
  rw [compTurn_list]
  refine wpAny_bind (wpAny_standAt (wpAny_bind (wpAny_mono (turn n s hI) (fun r s₁ h₁=>?_) fun _ _ h'=>h')))
  cases r with
  | none=>exact wpAny_pure h₁
  | some v=>
    refine wpAny_bind (wpAny_mono h₁ (fun _ s₀ h₀=>?_) fun _ _ h'=>h')
    refine wpAny_bind (wpAny_mono h₀ (fun _ s₂ h₂=>wpAny_bind (wpAny_mono h₂ (fun ok s₃ h₃=>?_) fun _ _ h'=>h')) fun _ _ h'=>h')
    cases ok with
    | false=>exact wpAny_pure ⟨rfl,h₃⟩
    | true=>
      exact wpAny_bind (wpAny_bind (wpAny_mono h₃ (fun x s₄ h₄=>wpAny_bind (wpAny_mono h₄ (fun _ s₅ h₅=>wpAny_pure (wpAny_pure ⟨rfl,h₅⟩)) fun _ _ h'=>h')) fun _ _ h'=>h'))
end
def cxComp (X:Cx) (scope:Scope) (cl:List (Str × Addr)) (NY:List Str) (C:Addr) (s:Shared) (H:Hp) (fp:List Addr):Cx where
  prog:=X.prog
  w:=X.w
  K:=X.K
  mg:=X.mg
  base:=X.base
  A:=X.A
  N:=NY
  s₀:=s
  H₀:=H
  env:=compEnvC scope cl C X.env
  outer:=X.stack
  stack:=X.stack
  ex:=fp
  fn:=fun _=>false
  calm:=true
  pn:=[]
  xe:=notedBy (model X.prog X.w) X.A (compEnvC scope cl C X.env) fun e s'=>compPost (model X.prog X.w) X.A X.xe none (fun _ _=>False) .none C (.error e) s'
def ClOk:List (Str × Addr)→List (Str × Addr)→Prop
  | [],_=>True
  | p :: r,cells=>cells.lookup p.1 = some p.2∧ClOk r cells
theorem ClOk.mem:∀ {cl cells:List (Str × Addr)},ClOk cl cells→∀ {x:Str}{c:Addr},cl.lookup x = some c→cells.lookup x = some c
  | [],_,_,_,_,e=>by simp at e
  | (y,d) :: r,cells,h,x,c,e=>by
    rw [List.lookup_cons] at e
    split at e
    · rename_i q
      have q':x = y:=by simpa using q
      subst q'
      cases e
      exact h.1
    · exact ClOk.mem h.2 e
def FrOk (X:Cx) (scope:Scope) (cl:List (Str × Addr)):List Nat→List Str→Prop
  | [],[]=>True
  | i :: r,y :: ys=>(X.N[i]? = some y∧scope.names.lookup y = some .free∧Vis X.env.scope y∧X.env.kindOf y≠some .local∧∃ c,cl.lookup y = some c)∧FrOk X scope cl r ys
  | _,_=>False
def PIfs (X:Cx) (ifs:List Expr) (t:TT):Prop:=
  ∀ (pins:List (Addr × Obj)) (s:Shared) (σ:St) (H:Hp) (Q:Bool→Hp→Prop),Inv X pins σ H s→t σ H Q→
    wpAny (model X.prog X.w) X.A (forIn ifs true fun c r=>if r = true then do let ok ← isTrue c X.env (eval c X.env); pure (ForInStep.yield ok) else pure (ForInStep.yield r)) (TP X pins σ Q) X.xe s
theorem pifs_nil {X:Cx}:PIfs X [] (fun _ H Q=>Q true H):=fun _ _ _ H _ I h=>wpAny_tests_nil ⟨H,I,h⟩
def frees (fr:List Nat) (σ:St):St:=fr.map fun k=>(σ[k]?).join
def tLComp (fr:List Nat) (wi:TI) (tt:TT) (te:TE):TE:=fun σ H Q=>wi σ H fun J H1=>∃ W:Nat→Nat→List V→Hp→Prop,(∃ m,W 0 m [] H1)∧∀ i m vs H,W i m vs H→vs.length≤sizeLine ∧
  ((J.stop i H∧∀ D,H D = none→Q (.ref D) (upd H D (.lst vs))) ∨
   (J.go i H∧∀ v H',J.yld i H v H'→tt (some v :: frees fr σ) H' fun b H2=>if b = true then te (some v :: frees fr σ) H2 fun y H3=>∃ m',m' < m∧W (i + 1) m' (vs ++ [y]) H3 else ∃ m',m' < m∧W (i + 1) m' vs H2))
def relF (env:Env) (p:Str × NameKind):Str × NameKind:=if (p.2 == NameKind.free && env.scope.kind == .function && env.kindOf p.1 == some .cell) = true then (p.1,NameKind.cell) else (p.1,p.2)
theorem relF_fst (env:Env) (p:Str × NameKind):(relF env p).1 = p.1:=by unfold relF; split <;> rfl
theorem lookup_relF {env:Env}:∀ {names:List (Str × NameKind)}{x:Str},(names.map (relF env)).lookup x = (names.lookup x).map fun k=>(relF env (x,k)).2
  | [],_=>rfl
  | (n,k) :: r,x=>by
    have ih:=@lookup_relF env r x
    rw [List.map_cons]
    have e:relF env (n,k) = (n,(relF env (n,k)).2):=Prod.ext (relF_fst env (n,k)) rfl
    rw [e]
    cases hx:x == n with
    | true=>
      have q':x = n:=by simpa using hx
      subst q'
      simp only [List.lookup_cons,hx,Option.map_some]
    | false=>simp only [List.lookup_cons,hx]; exact ih
theorem lookup_relabel_free {env:Env}{names:List (Str × NameKind)}{x:Str} (h:names.lookup x = some .free):
    (names.map (relF env)).lookup x = some .cell∨(names.map (relF env)).lookup x = some .free:=by
  rw [lookup_relF,h,Option.map_some]
  unfold relF
  split
  · exact .inl rfl
  · exact .inr rfl
theorem lookup_relabel_inv {env:Env}{names:List (Str × NameKind)}{x:Str} (hn:∀ y∈names,y.2≠.cell) (h:(names.map (relF env)).lookup x = some .cell∨(names.map (relF env)).lookup x = some .free):(x,NameKind.free)∈names:=by
  rw [lookup_relF] at h
  cases q:names.lookup x with
  | none=>rw [q] at h; simp at h
  | some k=>
    rw [q] at h
    have hm:=PySem.mem_of_lookup q
    have hk:k = .free:=by
      unfold relF at h
      simp only [Option.map_some,Option.some.injEq] at h
      split at h
      · rename_i c
        simp only [Bool.and_eq_true] at c
        simpa using c.1.1
      · rcases h with h | h
        · exact absurd h (hn _ hm)
        · exact h
    rw [← hk]
    exact hm
theorem frees_get {X:Cx}{scope:Scope}{cl:List (Str × Addr)}{σ:St}:∀ {fr:List Nat}{ys:List Str},FrOk X scope cl fr ys→∀ (j:Nat) (y:Str) (v:V),ys[j]? = some y→(frees fr σ)[j]? = some (some v)→
    ∃ i:Nat,X.N[i]? = some y∧σ[i]? = some (some v)∧scope.names.lookup y = some .free∧Vis X.env.scope y∧X.env.kindOf y≠some .local∧∃ c,cl.lookup y = some c
  | [],[],_,j,y,v,e,_=>by simp at e
  | [],_ :: _,h,_,_,_,_,_=>h.elim
  | _ :: _,[],h,_,_,_,_,_=>h.elim
  | i :: r,z :: ys,h,0,y,v,e1,e2=>by
    have e1':z = y:=by simpa using e1
    subst e1'
    have e2':(σ[i]?).join = some v:=by simpa [frees] using e2
    have:σ[i]? = some (some v):=by
      cases q:σ[i]? with
      | none=>rw [q] at e2'; cases e2'
      | some o=>rw [q] at e2'; cases o with
        | none=>cases e2'
        | some u=>cases e2'; rfl
    exact ⟨i,h.1.1,this,h.1.2.1,h.1.2.2.1,h.1.2.2.2.1,h.1.2.2.2.2⟩
  | i :: r,z :: ys,h,j + 1,y,v,e1,e2=>frees_get (fr:=r) (ys:=ys) h.2 j y v (by simpa using e1) (by simpa [frees] using e2)
theorem frees_len {X:Cx}{scope:Scope}{cl:List (Str × Addr)}{σ:St}:∀ {fr:List Nat}{ys:List Str},FrOk X scope cl fr ys→(frees fr σ).length = ys.length
  | [],[],_=>rfl
  | [],_ :: _,h=>h.elim
  | _ :: _,[],h=>h.elim
  | i :: r,z :: ys,h=>by
    have:=frees_len (σ:=σ) (fr:=r) (ys:=ys) h.2
    simp only [frees,List.map_cons,List.length_cons,List.length_map] at *
    omega
theorem pe_lcomp {X:Cx}{elt iter:Expr}{x:Str}{px pos:Pos}{ifs:List Expr}{scope:Scope}{cl:List (Str × Addr)} (fr:List Nat) (ys:List Str) {wi:TI}{tt:TT}{te:TE}
    (hc:X.calm = true) (hclos:closureFor scope X.env = pure cl) (hcell:∀ y∈scope.names,y.2≠.cell) (hkind:scope.kind = .function) (hnames:∀ y∈scope.names,y.2 = .local→scope.names.lookup y.1 = some .local)
    (hx:scope.names.lookup x = some .local) (hnd:(x :: ys).Nodup) (hcl:ClOk cl X.env.cells) (hall:(scope.names.all fun y=>y.2 != .free || (cl.lookup y.1).isSome) = true) (hfr:FrOk X scope cl fr ys)
    (hi:PI X (.Name x px) iter wi)
    (hY:∀ C s H fp,PIfs (cxComp X scope cl (x :: ys) C s H fp) ifs tt∧PE (cxComp X scope cl (x :: ys) C s H fp) elt te)
    (hs:∀ v,foldedSetIterable iter X.env v = pure v:=by intro _; rfl):
    PE X (.ListComp elt [⟨.Name x px,iter,ifs,0⟩] scope pos) (tLComp fr wi tt te):=by
  intro pins s σ H Q I h
  rw [eval_ListComp]
  refine wpAny_comprehension_free (use:=none) rfl hs hclos hkind hnames (wpAny_mono (hi pins s σ H _ I h) (fun v s1 h1=>wpAny_mono h1 (fun itv s2 h2=>?_) fun _ _ e=>e) fun _ _ e=>e)
  obtain ⟨it,fp,tn,J,H2,rfl,I2,T,st2,f2,W,⟨m0,w0⟩,turn⟩:=h2
  refine wpAny_newObj_type (wpAny_newFunctionEnv hcell (by intro y hy; simp at hy) (fun h₁ hns₁ hsb₁=>?_) hkind)
  dsimp only at hns₁ hsb₁ ⊢
  generalize hP2:s2.heap.push { cls:=.type "list",dict:=none,data:=.seq ([]:List Value).toArray } = P2 at hns₁ hsb₁ ⊢
  have hC:P2.objs.size = s2.heap.objs.size + 1:=by rw [← hP2,Heap.size_push]
  have hDC:s2.heap.objs.size≠P2.objs.size:=by rw [hC]; exact Nat.ne_of_lt (Nat.lt_succ_self _)
  have hCle:s2.heap.objs.size≤P2.objs.size:=by rw [hC]; exact Nat.le_succ _
  have below:∀ b,b < s2.heap.objs.size→b≠P2.objs.size∧b≠s2.heap.objs.size:=fun b hb=>⟨by rw [hC]; exact Nat.ne_of_lt (Nat.lt_succ_of_lt hb),Nat.ne_of_lt hb⟩
  have old:∀ b o,s2.heap.get? b = some o→h₁.get? b = some o:=fun b o e=>hsb₁.extBut b o (below b (Heap.lt_size e)).1 (Heap.get?_push_of_some _ (hP2 ▸ Heap.get?_push_of_some _ e))
  have hacc:h₁.get? s2.heap.objs.size = some { cls:=.type "list",data:=.seq ([]:List Value).toArray }:=hsb₁.extBut _ _ hDC (Heap.get?_push_of_some _ (hP2 ▸ Heap.get?_push_size _ rfl))
  have fpl:∀ b∈fp,b < s2.heap.objs.size:=fun b hb=>by
    obtain ⟨o,e,_⟩:=T.obj _ _ st2 b hb
    exact Heap.lt_size e
  have tlt:∀ b o,H2 b = some o→b < s2.heap.objs.size:=fun b o e=>I2.hok.lt e
  generalize hCg:P2.objs.size = C at hns₁ hsb₁ hDC hCle below ⊢
  generalize hDg:s2.heap.objs.size = D at hDC below hacc fpl tlt ⊢
  have hDle:D≤C:=by rw [← hDg]; exact hCle
  have cls:∀ y c,cl.lookup y = some c→X.env.cells.lookup y = some c:=fun y c e=>hcl.mem e
  have clt:∀ y c,cl.lookup y = some c→c < D:=fun y c e=>by
    obtain ⟨v,q⟩:=I2.cell y c (cls y c e)
    rw [← hDg]; exact q.lt
  have sub:∀ b∈frs X.stack,b < D:=fun b hb=>by
    rcases List.mem_cons.mp (I2.stkSub b hb) with e | hb
    · rw [e,← hDg]; exact I2.lt
    · obtain ⟨_,o,ho,_⟩:=I2.ok.funs.mem hb
      rw [← hDg]; exact Nat.lt_of_lt_of_le (Heap.lt_size ho) I2.sz
  obtain ⟨YI,YE⟩:=hY C s2 H2 fp
  have Yok:(cxComp X scope cl (x :: ys) C s2 H2 fp).Ok:=by
    refine ⟨I2.ok.mod,hkind,I2.ok.glob,I2.ok.blt,hCle,?_,?_,?_,fun _=>I2.ok.hd hc,I2.ok.frames,.inl rfl,?_,I2.bs,Nat.le_trans I2.ok.bsz I2.sz,?_,?_,I2.stack,I2.stkFree⟩
    · exact fun y z c e1 e2=>I2.ok.inj y z c (cls y c e1) (cls z c e2)
    · intro y hy
      have hm:=lookup_relabel_inv (env:=X.env) (names:=scope.names) (x:=y) hcell hy
      have q:=List.all_eq_true.mp hall _ hm
      show ∃ c,cl.lookup y = some c
      exact Option.isSome_iff_exists.mp (by simpa using q)
    · intro y c hf _
      exact absurd hf (by show ¬ false = true; decide)
    · intro b hb
      refine ⟨(below b (fpl b hb)).1,fun y c e z=>?_⟩
      exact (f2 b hb).2.2.2.2.1 y c (cls y c e) z
    · intro b o e hb
      have hb:b∈fp:=hb
      rcases (f2 b hb).2.2.2.1 with z | z
      · exact I2.ok.noex b o e z
      · exact absurd (Nat.lt_of_lt_of_le (Heap.lt_size e) (Nat.le_trans I2.ok.bsz z)) (Nat.lt_irrefl _)
    · intro b hb hf
      have hb:b∈fp:=hb
      rcases List.mem_cons.mp (I2.stkSub b hf) with e | hf
      · exact (f2 b hb).2.1 e
      · exact (f2 b hb).2.2.1 hf
  have hvis:Loc (cxComp X scope cl (x :: ys) C s2 H2 fp).env.scope x:=.inl (lookup_relabel_local hx)
  have start:∀ tk,Inv (cxComp X scope cl (x :: ys) C s2 H2 fp) [] (none :: frees fr σ) H2 { s2 with heap:=h₁,toks:=tk }:=fun tk=>by
    refine ⟨Yok,rfl,I2.bare,Un.kept old,⟨_,hns₁,fun i y v e1 e2 e3=>?_⟩,fun y c e=>?_,?_,fun y c e=>?_,fun p hp=>absurd (show p∈([]:List (Addr × Obj)) from hp) (by simp),I2.hok.kept old,?_⟩
    · cases i with
      | zero=>simp at e2
      | succ j=>
        obtain ⟨i',n1,n2,n3,n4,n5,c,n6⟩:=frees_get hfr j y v (by simpa [cxComp] using e1) (by simpa using e2)
        obtain ⟨m,hn,hl⟩:=I2.loc
        obtain ⟨u,r,l⟩:=hl i' y v n1 n2 n4
        refine ⟨u,r,.inr ⟨lookup_relabel_free n3,c,n6,?_⟩⟩
        rcases l with ⟨k,_⟩ | ⟨k,c',e,z⟩
        · exact absurd k n5
        · rw [cls y c n6] at e
          cases e
          obtain ⟨o,ho,hd⟩:=z
          exact ⟨o,old _ _ ho,hd⟩
    · obtain ⟨v,o,ho,hd⟩:=I2.cell y c (cls y c e)
      exact ⟨v,o,old _ _ ho,hd⟩
    · show H2 C = none
      cases q:H2 C with
      | none=>rfl
      | some o=>exact absurd (tlt C o q) (Nat.not_lt.mpr hDle)
    · exact I2.freeC y c (cls y c e)
    · show (none :: frees fr σ).length = (x :: ys).length
      rw [List.length_cons,List.length_cons,frees_len hfr]
  have fpY:∀ {pl:List (Addr × Obj)}{H':Hp},(∀ b∈fp,H' b = none)→(∀ p∈pl,p.1 = D)→∀ b∈fp,FpOk (cxComp X scope cl (x :: ys) C s2 H2 fp) pl H' b:=fun {pl H'} hn hpl b hb=>by
    refine ⟨hn b hb,(below b (fpl b hb)).1,Yok.exfs b hb,.inl hb,fun y c e z=>(f2 b hb).2.2.2.2.1 y c (cls y c e) z,fun p hp=>?_⟩
    have hp:p∈[] ++ pl:=hp
    rw [List.nil_append] at hp
    rw [hpl p hp]
    exact (below b (fpl b hb)).2.symm
  have loop:∀ s₃:Shared,(∃ tk,s₃ = { s2 with heap:=h₁,toks:=tk })→
      codeAny (model X.prog X.w) X.A (.compLoop (.ListComp elt [⟨.Name x px,iter,ifs,0⟩] scope pos) 0 (.ref it) (.ref D) (compEnvC scope cl C X.env))
        (compPost (model X.prog X.w) X.A X.xe none (EP X pins σ Q) (.ref D) C) s₃:=by
    rintro s₃ ⟨tk,rfl⟩
    refine comp_loop
      (fun k s'=>∃ i vs ws nn H',Inv (cxComp X scope cl (x :: ys) C s2 H2 fp) [] (none :: frees fr σ) H' s'∧tn i s'.heap∧(∀ b∈fp,H' b = none)∧H' D = none ∧
        s'.heap.get? D = some { cls:=.type "list",data:=.seq (ws:List Value).toArray nn }∧Vals vs ws∧W i k vs H') ?_ m0
      ⟨0,[],[],0,H2,start tk,T.keep _ _ _ st2 fun b _ o e=>old b o e,fun b hb=>(f2 b hb).1,?_,hacc,.nil,w0⟩
    · rintro n s3 ⟨i,vs,ws,nn,H3,I3,st3,fr3,hD3,ho3,rv3,w3⟩
      have I3':Inv (cxComp X scope cl (x :: ys) C s2 H2 fp) [(D,{ cls:=.type "list",data:=.seq ws.toArray nn })] (none :: frees fr σ) H3 s3:=I3.pins_of fun p hp=>by
        have e:p = (D,{ cls:=.type "list",data:=.seq ws.toArray nn }):=by simpa using hp
        subst e
        refine ⟨ho3,hD3,hDC,fun z=>absurd (sub D z) (Nat.lt_irrefl _),fun v z=>?_⟩
        have z':Data.seq ws.toArray nn = Data.cell v:=z
        cases z'
      have fp3:=fpY (pl:=[(D,{ cls:=.type "list",data:=.seq ws.toArray nn })]) fr3 (fun p hp=>by rw [List.mem_singleton.mp hp])
      obtain ⟨hsz,alt⟩:=turn i n vs H3 w3
      rcases alt with ⟨stop,fin⟩ | ⟨go,step⟩
      · refine thn (T.done (cxComp X scope cl (x :: ys) C s2 H2 fp) rfl rfl rfl rfl i _ s3 _ H3 _ I3' fp3 st3 stop) fun r s4 ⟨hr,I4⟩=>?_
        subst hr
        have pD:=I4.pin (D,{ cls:=.type "list",data:=.seq ws.toArray nn }) (by show _∈[] ++ _; simp)
        obtain ⟨m4,hn4,_⟩:=I4.loc
        refine ⟨m4,hn4,fun h' hs'=>?_⟩
        have hC4:H3 C = none:=I4.free
        have hok':HOk X.prog X.w (upd H3 D (.lst vs)) h':=by
          refine HOk.track (I4.hok.other hC4 hs') hD3 ⟨hsz,ws,nn,rv3,(hs'.2 D hDC).trans pD.1⟩
        have b4:=I4.base
        have un:Un (frs X.stack) fp H2 (upd H3 D (.lst vs)) s2.heap h':=by
          have lt:∀ b o,s2.heap.get? b = some o→b < D:=fun b o e=>by rw [← hDg]; exact Heap.lt_size e
          refine ⟨fun b o e n hb hx=>(hs'.2 b (below b (lt b o e)).1).trans (b4.keep b o e n hb hx),fun b o e n hb hx=>?_,fun b o e n hx=>?_,fun b o e hx=>?_,fun b zs e=>?_,fun b o u e=>?_,fun b ps e=>?_⟩
          · obtain ⟨sl,q⟩:=b4.slot b o e n hb hx
            exact ⟨sl,(hs'.2 b (below b (lt b o e)).1).trans q⟩
          · rw [upd_ne (below b (lt b o e)).2]; exact b4.free b o e n hx
          · obtain ⟨o',q⟩:=b4.there b o e hx
            exact ⟨o',(hs'.2 b (below b (lt b o e)).1).trans q⟩
          · rw [upd_ne (below b (tlt b _ e)).2]; exact b4.tups b zs e
          · rw [upd_ne (below b (tlt b _ e)).2]; exact b4.frzs b o u e
          · rw [upd_ne (below b (tlt b _ e)).2]; exact b4.tbls b ps e
        refine ⟨.ref D,upd H3 D (.lst vs),?_,rfl,fin D hD3⟩
        exact I2.call' (s':={ s4 with heap:=h' }) (ch:=fp) I4.os un hok' I4.bare fun b hb=>⟨(f2 b hb).2.2.2.1,(f2 b hb).2.1,(f2 b hb).2.2.2.2.1,(f2 b hb).2.2.2.2.2⟩
      · refine thn (T.item (cxComp X scope cl (x :: ys) C s2 H2 fp) rfl rfl rfl rfl i _ s3 _ H3 _ I3' fp3 st3 go) fun r s4 ⟨u,hr,h4⟩=>?_
        subst hr
        refine thn h4 fun _ s5 ⟨v,H5,I5,r5,y5,st5,fr5⟩=>?_
        have fp5:=fpY (pl:=[(D,{ cls:=.type "list",data:=.seq ws.toArray nn })]) fr5 (fun p hp=>by rw [List.mem_singleton.mp hp])
        have I5':=I5.pinned fp5 (T.obj _ _ st5)
        refine thn (pg_name (X:=cxComp X scope cl (x :: ys) C s2 H2 fp) (i:=0) (pos:=px) hnd rfl hvis (.inr (lookup_relabel_local hx)) _ s5 _ H5 v u (fun σ' H'=>σ' = some v :: frees fr σ∧H' = H5) I5' r5 ⟨rfl,rfl⟩) fun _ s6 ⟨σ6,H6,I6,e6,e6'⟩=>?_
        subst e6 e6'
        refine thn (YI _ s6 _ _ _ I6 (step v H6 y5)) fun b s7 ⟨H7,I7,q7⟩=>?_
        have back:∀ {H8:Hp}{s8:Shared},Inv (cxComp X scope cl (x :: ys) C s2 H2 fp) ([(D,{ cls:=.type "list",data:=.seq ws.toArray nn })] ++ pinsAt fp s5.heap) (some v :: frees fr σ) H8 s8→
            s8.heap.get? D = some { cls:=.type "list",data:=.seq ws.toArray nn }∧H8 D = none∧(∀ b∈fp,H8 b = none)∧(∀ b∈fp,∀ o,s5.heap.get? b = some o→s8.heap.get? b = some o):=fun {H8 s8} I8=>by
          have pD:=I8.pin (D,{ cls:=.type "list",data:=.seq ws.toArray nn }) (by show _∈[] ++ _; simp)
          refine ⟨pD.1,pD.2.1,fun b hb=>?_,fun b hb o e=>?_⟩
          · obtain ⟨o,e,d⟩:=T.obj _ _ st5 b hb
            exact (I8.pin (b,o) (List.mem_append_right _ (List.mem_append_right _ (mem_pinsAt hb e)))).2.1
          · exact (I8.pin (b,o) (List.mem_append_right _ (List.mem_append_right _ (mem_pinsAt hb e)))).1
        have weak:∀ {H8:Hp}{s8:Shared},Inv (cxComp X scope cl (x :: ys) C s2 H2 fp) [] (some v :: frees fr σ) H8 s8→Inv (cxComp X scope cl (x :: ys) C s2 H2 fp) [] (none :: frees fr σ) H8 s8:=fun {H8 s8} I8=>
          I8.weak rfl fun i v' e=>by
            cases i with
            | zero=>simp at e
            | succ j=>simpa using e
        have nopin:∀ {H8:Hp}{s8:Shared}{pl:List (Addr × Obj)},Inv (cxComp X scope cl (x :: ys) C s2 H2 fp) pl (some v :: frees fr σ) H8 s8→Inv (cxComp X scope cl (x :: ys) C s2 H2 fp) [] (some v :: frees fr σ) H8 s8:=fun {H8 s8 pl} I8=>
          I8.pins_of fun p hp=>absurd hp (by simp)
        cases b with
        | false=>
          rw [if_neg Bool.false_ne_true] at q7 ⊢
          obtain ⟨m',hm,w7⟩:=q7
          obtain ⟨k1,k2,k3,k4⟩:=back I7
          exact ⟨m',hm,i + 1,vs,ws,nn,H7,weak (nopin I7),T.keep _ _ _ st5 k4,k3,k2,k1,rv3,w7⟩
        | true=>
          rw [if_pos rfl] at q7 ⊢
          refine thn (YE _ s7 _ _ _ I7 q7) fun u8 s8 ⟨y8,H8,I8,r8,m',hm,w8⟩=>?_
          obtain ⟨k1,k2,k3,k4⟩:=back I8
          refine append_at (hsz:=by rw [List.size_toArray,← rv3.length]; exact hsz) k1 fun h9 hs9 ho9=>?_
          have I9:Inv (cxComp X scope cl (x :: ys) C s2 H2 fp) [] (some v :: frees fr σ) H8 { s8 with heap:=h9 }:=
            (nopin I8).turned (t':=s8.toks) (it:=D) (fun b o hb e=>(hs9.2 b hb).trans e) k2 hDC (.inr (by rw [← hDg]; exact Nat.le_refl _)) (fun y c e=>Nat.ne_of_lt (clt y c e)) fun p hp=>absurd (show p∈([]:List (Addr × Obj)) from hp) (by simp)
          refine ⟨m',hm,i + 1,vs ++ [y8],ws ++ [u8],nn + 1,H8,weak I9,?_,k3,k2,?_,rv3.append (.cons r8 .nil),w8⟩
          · refine T.keep _ _ _ st5 fun b hb o e=>?_
            exact (hs9.2 b (below b (fpl b hb)).2).trans (k4 b hb o e)
          · rw [ho9,List.push_toArray]
    · cases q:H2 D with
      | none=>rfl
      | some o=>exact absurd (tlt D o q) (Nat.lt_irrefl _)
  exact codeAny_compStart_list (loop _ ⟨_,rfl⟩) (T.self _ 0 _ _ _ (T.keep _ _ _ st2 fun b _ o e=>old b o e) (loop _ ⟨_,rfl⟩))
end L2
namespace L2
open PySem PySem.Spec PyProof.Rows
def Have (P:Program) (w:World) (K:PySem.W.Frag) (mg:Str→Option Value) (base:Heap) (x:Str) (k:Nat) (ps:List Str) (sp:Sp):Prop:=
  ∃ (f:Addr) (fd:FuncData),FnOk P w K mg base CX0 k f fd ps sp∧Binds K fd ps []∧PySem.W.keepIn K (.ref f) = true∧mg x = some (.ref f)
theorem Have.mono {P:Program}{w:World}{K:PySem.W.Frag}{mg:Str→Option Value}{base:Heap}{x:Str}{j k:Nat}{ps:List Str}{sp:Sp} (h:Have P w K mg base x j ps sp) (e:j≤k):Have P w K mg base x k ps sp:=
  let ⟨f,fd,F,r⟩:=h; ⟨f,fd,F.mono e,r⟩
theorem Have.imp {P:Program}{w:World}{K:PySem.W.Frag}{mg:Str→Option Value}{base:Heap}{x:Str}{k:Nat}{ps:List Str}{sp sp':Sp} (h:Have P w K mg base x k ps sp) (e:∀ vs H Q E,sp' vs H Q E→sp vs H Q E):Have P w K mg base x k ps sp':=
  let ⟨f,fd,F,r⟩:=h; ⟨f,fd,F.imp e,r⟩
section
variable {X:Cx}{x:Str}{k:Nat}{ps:List Str}{sp:Sp}{e:Expr}{es:List Expr}{t:TA}{p pos:Pos}
theorem pe_fn (G:Have X.prog X.w X.K X.mg X.base x k ps sp) (hr:Room k X.A) (hg:Gl X x) (ha:PA X (e :: es) t) (hdb:(x == ("__debug__":Str)) = false:=by decide)
    (he:starEach (e :: es) X.env = (false,eval e X.env) :: starEach es X.env:=by rfl) (hpl:(backTo pos (starEach es X.env)).any (·.1) = false:=by rfl):
    PE X (.Call (.Name x p) (e :: es) [] pos) (tCall sp [] E0 t):=by
  obtain ⟨f,fd,F,b,kp,m⟩:=G
  exact pe_call F hr hg m kp b .nil pass0 ha hdb he hpl
end
section
variable {X:Cx}
def CDivB (i j:Int):Prop:=0 < j∧j.natAbs.log2 < 9000
theorem op_fdivB:OpR X (binaryOp .FloorDiv) (rI CDivB fun i j=>.int (i / j)):=opI fun i j _ _ _ _ _ hc q=>by
  have h1:(0:Int) < j:=hc.1
  exact floordiv_int (by omega) (by rw [Int.fdiv_eq_ediv_of_nonneg i (by omega)]; exact q) (.inl (PyProof.noPylong_of_log2 hc.2))
def isiNames:List String:=["NoneType","bool","int","str","list","tuple","dict"]
def isi (A T:String):Option Bool:=if isiNames.contains A && isiNames.contains T then some (A == T || (A == "bool" && T == "int")) else none
theorem isi_mem {A:String} (h:isiNames.contains A = true):A = "NoneType"∨A = "bool"∨A = "int"∨A = "str"∨A = "list"∨A = "tuple"∨A = "dict":=by
  have:A∈isiNames:=by simpa using h
  simpa [isiNames] using this
theorem isi_ok {K:PySem.W.Frag}{A T:String}{b:Bool} (h:isi A T = some b):PySem.W.kitOne K (.type A) (.type T) = some b:=by
  unfold isi at h
  split at h
  · rename_i c
    rw [Bool.and_eq_true] at c
    cases h
    rcases isi_mem c.1 with rfl | rfl | rfl | rfl | rfl | rfl | rfl <;> rcases isi_mem c.2 with rfl | rfl | rfl | rfl | rfl | rfl | rfl <;> kernel_rfl
  · cases h
theorem call_isi:CallR X (.builtin "isinstance") (fun xs H Q=>∃ v T A b,xs = [v,.ty T]∧TyOf X.K H v (.type A)∧isi A T = some b∧Q (.bl b) H):=by
  intro pins s σ H xs us Q I r h
  obtain ⟨v,T,A,b,rfl,ty,e,q⟩:=h
  obtain ⟨u,c,rfl,ru,rc⟩:=vals2 r
  cases (show c = Value.type T from rc)
  exact isinst_ok I ru ty (isi_ok e) fun tk=>⟨.bl b,H,I.tok tk,rfl,q⟩
theorem truth_bools {A:Around}{P:Program}{w:World}{xs:List Bool}{its:List Value} (r:Vals (xs.map V.bl) its):TruthOf P w A (fun i v=>its.toArray[i]? = some v) (fun i=>xs.getD i true):=by
  intro i v s Q E hv h
  have hv':its[i]? = some v:=by simpa using hv
  have hl:=r.length
  rw [List.length_map] at hl
  have hi:i < xs.length:=by rw [hl]; exact (List.getElem?_eq_some_iff.mp hv').1
  obtain ⟨u,hu,ru⟩:=r.get (i:=i) (x:=V.bl xs[i]) (by rw [List.getElem?_map,List.getElem?_eq_getElem hi]; rfl)
  rw [hv'] at hu
  cases hu
  cases ru
  refine wpAny_truthy_bool ?_
  have e:xs.getD i true = xs[i]:=by rw [List.getD_eq_getElem?_getD,List.getElem?_eq_getElem hi]; rfl
  have h:Q (xs.getD i true) s:=h
  rw [e] at h
  exact h
theorem all_range (xs:List Bool):(List.range xs.length).all (fun i=>xs.getD i true) = xs.all id:=by
  rw [Bool.eq_iff_iff,List.all_eq_true,List.all_eq_true]
  constructor
  · intro h x hx
    obtain ⟨i,hi,rfl⟩:=List.mem_iff_getElem.mp hx
    have:=h i (List.mem_range.mpr hi)
    rw [List.getD_eq_getElem?_getD,List.getElem?_eq_getElem hi] at this
    exact this
  · intro h i hi
    have hi:=List.mem_range.mp hi
    rw [List.getD_eq_getElem?_getD,List.getElem?_eq_getElem hi]
    exact h _ (List.getElem_mem hi)
theorem call_all_bools (hc:X.calm = true):CallR X (.builtin "all") (fun xs H Q=>∃ (p:Addr) (bs:List Bool),xs = [.ref p]∧SqL X.K H p (bs.map V.bl)∧Q (.bl (bs.all id)) H):=by
  intro pins s σ H xs us Q I r h
  obtain ⟨p,bs,rfl,hq,q⟩:=h
  obtain ⟨u,rfl,rx⟩:=vals1 r
  cases rx
  obtain ⟨its,r',pl,hz⟩:=I.list hq
  have hl:=pl.isList
  obtain ⟨o,ho,_⟩:=id hl
  have hlt:=Heap.lt_size ho
  refine call_all_walk (wpAny_pyIter_list hl ?_)
  refine ⟨_,_,_,_,_,_,fun i=>bs.getD i true,rfl,Walks.list (A:=X.A.in1) (I.ok.hd hc) s.heap.objs.size p (Nat.ne_of_lt hlt) its.toArray,⟨⟨_,Heap.get?_push_size _ rfl,rfl,rfl⟩,hl.push _⟩,truth_bools r',fun h' tk hk=>?_⟩
  have e:(List.range its.toArray.size).all (fun i=>bs.getD i true) = bs.all id:=by
    have hl2:=r'.length
    rw [List.length_map] at hl2
    rw [List.size_toArray,← hl2]
    exact all_range bs
  rw [e]
  refine ⟨.bl (bs.all id),H,I.kept (h':=h') (t':=tk) fun b o e=>?_,rfl,q⟩
  exact hk b o (fun hm=>absurd (Heap.lt_size e) (by rw [List.mem_singleton.mp hm]; exact Nat.lt_irrefl _)) (Heap.get?_push_of_some _ e)
end
def maxL:Int→List Int→Int
  | b,[]=>b
  | b,y :: r=>maxL (if y > b then y else b) r
def maxD (d:Int):List Int→Int
  | []=>d
  | x :: r=>maxL x r
section
variable {prog:Program}{w:World}{A:Around}{R:Result→Shared→Prop}{I l:Addr}{vs:List Value}{ns:List Int}{d:Value}
end
def tMaxD (d:Int) (K:PySem.W.Frag) (te:TE):TE:=fun σ H Q=>te σ H fun x H1=>∃ (p:Addr) (ns:List Int),x = .ref p∧SqL K H1 p (ns.map V.int)∧Q (.int (maxD d ns)) H1
end L2
namespace L2
open PySem PySem.Spec PyProof.Rows
def Its (z:Str):It:=⟨fun i _=>i < z.cps.size,fun i H x H'=>H' = H∧∃ c,z.cps[i]? = some c∧x = .str ⟨#[c]⟩,fun i _=>i = z.cps.size⟩
theorem turn_str {P:Program}{w:World}{K:PySem.W.Frag}{tg:Expr}{it:Addr}{T:String}{z:Str}{t:Tok}
    (W:∀ A:Around,A.handled = none→Walks P w A it [it] [it] z.cps.size (SignAt z) (fun i h=>h.IsStrIter it T z t i))
    (hT:["enumerate","zip","dict_itemiterator","dict_reverseitemiterator","odict_iterator","itertools.zip_longest","itertools.pairwise"].contains T = false)
    (self:∀ (A:Around) (i:Nat) (s:Shared) (Q:Value→Shared→Prop) (E:Value→Shared→Prop),s.heap.IsStrIter it T z t i→Q (.ref it) s→wpAny (model P w) A (pyIter (.ref it)) Q E s):
    Turn P w K tg (Its z) [it] it (fun i h=>h.IsStrIter it T z t i) where
  mem:=by simp
  obj:=fun i h st b hb=>by
    have e:b = it:=by simpa using hb
    subst e
    obtain ⟨o,e,c,d⟩:=st
    exact ⟨o,e,fun v z=>by rw [d] at z; cases z⟩
  keep:=fun i h h' st k=>by
    obtain ⟨o,e,c⟩:=st
    exact ⟨o,k it (by simp) o e,c⟩
  item:=by
    intro X hP hw hK hc i pins s σ H E I hf st hg
    subst hP hw hK
    obtain ⟨f0,f1,f2,f3,f4,f5⟩:=hf it (by simp)
    refine (W X.A (I.ok.hd hc)).item i s _ _ hg st fun v h' tk hP st' kk=>?_
    obtain ⟨c,u,hcu,rfl⟩:=hP
    have I1:Inv X pins σ H { s with heap:=h',toks:=tk }:=I.turned (fun b o hb e=>kk b o (by simpa using hb) e) f0 f1 f3 f4 f5
    obtain ⟨o,e,cc,d⟩:=id st'
    exact ⟨_,rfl,go_of (s:={ s with heap:=h',toks:=tk }) e cc d hT ⟨.str ⟨#[c]⟩,H,I1,⟨u,rfl⟩,⟨rfl,c,hcu,rfl⟩,st',fun b hb=>(hf b hb).1⟩⟩
  done:=by
    intro X hP hw hK hc i pins s σ H E I hf st hg
    subst hP hw hK
    obtain ⟨f0,f1,f2,f3,f4,f5⟩:=hf it (by simp)
    have hg:i = z.cps.size:=hg
    subst hg
    exact (W X.A (I.ok.hd hc)).done s _ _ st fun h' tk kk=>⟨rfl,I.turned (fun b o hb e=>kk b o (by simpa using hb) e) f0 f1 f3 f4 f5⟩
  self:=fun A i s Q E st h=>self A i s Q E st h
def iStr (te:TE):TI:=fun σ H R=>te σ H fun x H1=>∃ z,x = .str z∧R (Its z) H1
theorem pi_str {X:Cx}{tg e:Expr}{te:TE} (he:PE X e te):PI X tg e (iStr te):=by
  intro pins s σ H R I h
  refine thn (he pins s σ H _ I h) fun v s1 ⟨x,H1,I1,r1,q1⟩=>?_
  obtain ⟨z,rfl,q⟩:=q1
  obtain ⟨t,rfl⟩:=r1
  have fin:∀ (T:String),(∀ A:Around,A.handled = none→Walks X.prog X.w A s1.heap.objs.size [s1.heap.objs.size] [s1.heap.objs.size] z.cps.size (SignAt z) (fun i h=>h.IsStrIter s1.heap.objs.size T z t i))→
      ["enumerate","zip","dict_itemiterator","dict_reverseitemiterator","odict_iterator","itertools.zip_longest","itertools.pairwise"].contains T = false→
      (∀ (A:Around) (i:Nat) (s:Shared) (Q:Value→Shared→Prop) (E:Value→Shared→Prop),s.heap.IsStrIter s1.heap.objs.size T z t i→Q (.ref s1.heap.objs.size) s→wpAny (model X.prog X.w) A (pyIter (.ref s1.heap.objs.size)) Q E s)→
      PIE X pins σ tg R (.ref s1.heap.objs.size) { s1 with heap:=s1.heap.push { cls:=.type T,data:=.fields #[.str z t,.int 0 0] } }:=fun T W hT self=>by
    refine ⟨s1.heap.objs.size,[s1.heap.objs.size],_,_,H1,rfl,I1.kept (t':=s1.toks) fun b o e=>Heap.get?_push_of_some _ e,turn_str W hT self,⟨_,Heap.get?_push_size _ rfl,rfl,rfl⟩,fun b hb=>?_,q⟩
    have e:b = s1.heap.objs.size:=by simpa using hb
    subst e
    exact I1.fpOk (Nat.le_refl _) (I1.hok.fresh (Nat.le_refl _))
  cases ha:z.cps.all (· < 128)
  · exact wpAny_pyIter_wide ha (fin "str_iterator" (fun A hA=>Walks.strWide hA _ z t) (by decide) fun A i s Q E st h=>wpAny_pyIter_striter_wide st h)
  · exact wpAny_pyIter_ascii ha (fin "str_ascii_iterator" (fun A hA=>Walks.strAscii hA _ z t) (by decide) fun A i s Q E st h=>wpAny_pyIter_striter_ascii st h)
theorem op_le_str {X:Cx}:OpR X (compareOp .LtE) (fun x y H Q=>∃ i j:Str,x = .str i∧y = .str j∧Q (.bl (!decide (j.cps.toList < i.cps.toList))) H):=by
  intro pins s σ H x y v u Q I rx ry h
  obtain ⟨i,j,rfl,rfl,q⟩:=h
  obtain ⟨t,rfl⟩:=rx
  obtain ⟨t',rfl⟩:=ry
  exact PySem.P.le_str ⟨.bl _,H,I,rfl,q⟩
theorem pe_globI {X:Cx}{x:Str}{i:Int}{pos:Pos} (hg:Gl X x) (hm:∃ t,X.mg x = some (.int i t)) (hd:(x == ("__debug__":Str)) = false:=by decide):PE X (.Name x pos) (tC (.int i)):=by
  obtain ⟨t,hm⟩:=hm
  exact pe_glob hg hm ⟨t,rfl⟩ hd
theorem ip_of {X:Cx}{op:Operator}{r:R2} (h:OpR X (inplaceOp op) r):PIp X op r:=fun pins s σ H x y v u Q I rx ry q=>h pins s σ H x y v u Q I rx ry q
theorem pe_ty {X:Cx}{x:Str}{T:String}{pos:Pos} (hg:Gl X x) (hm:X.mg x = none) (hv:bootBuiltins x = some (.type T)) (hn:x≠"__name__":=by decide) (hd:(x == ("__debug__":Str)) = false:=by decide):PE X (.Name x pos) (tC (.ty T)):=pe_bltn hg hm hv rfl hn hd
theorem Same.new {H:Hp}{p:Addr}{o:HO} (h:H p = none):Same H (upd H p o):=fun b u q=>by rw [upd_ne (ne_of_none q h)]; exact q
theorem Same.seqT {K:PySem.W.Frag}{H H':Hp}{a:Addr}{xs:List V} (e:Same H H') (h:SqT K H a xs):SqT K H' a xs:=by
  rcases h with (h | ⟨o,h⟩) | h
  · exact .inl (.inl (e _ _ h))
  · exact .inl (.inr ⟨o,e _ _ h⟩)
  · exact .inr h
theorem take_snoc {α:Type}{xs:List α}{i:Nat}{x:α} (h:xs[i]? = some x):xs.take (i + 1) = xs.take i ++ [x]:=by
  rw [List.take_add_one,h]; rfl
theorem rd_mapS {fr:List Nat}{j:Nat}{te:TE}{σ:St}{H:Hp}{Q:VK}{z:Str} (outs:List V) (hσ:σ[j]? = some (some (.str z))) (hl:outs.length = z.cps.size) (hz:z.cps.size≤sizeLine)
    (step:∀ (i c:Nat) (y:V) (H1:Hp) (R:VK),z.cps[i]? = some c→outs[i]? = some y→Same H H1→(∀ H2,Same H1 H2→R y H2)→te (some (.str ⟨#[c]⟩) :: frees fr σ) H1 R)
    (fin:∀ (H1:Hp) (D:Addr),Same H H1→H1 D = none→Q (.ref D) (upd H1 D (.lst outs))):tLComp fr (iStr (tVar j)) (fun _ H Q=>Q true H) te σ H Q:=by
  refine ⟨_,hσ,z,rfl,fun i m us H1=>i≤z.cps.size∧m = z.cps.size - i∧us = outs.take i∧Same H H1,⟨_,Nat.zero_le _,rfl,by simp,Same.refl _⟩,fun i m us H1 hW=>?_⟩
  obtain ⟨hi,hm,hu,sm⟩:=hW
  refine ⟨by rw [hu,List.length_take]; omega,?_⟩
  by_cases hlt:i < z.cps.size
  · refine .inr ⟨hlt,fun v H' hy=>?_⟩
    obtain ⟨rfl,c,hc,rfl⟩:=hy
    have hy:outs[i]? = some outs[i]:=List.getElem?_eq_getElem (by omega)
    refine iteT ?_
    refine step i c outs[i] H' _ hc hy sm fun H2 s2=>⟨z.cps.size - (i + 1),by omega,by omega,rfl,?_,sm.trans s2⟩
    rw [hu,take_snoc hy]
  · have e:i = z.cps.size:=by omega
    refine .inl ⟨e,fun D hD=>?_⟩
    have e2:us = outs:=by rw [hu,List.take_of_length_le (by omega)]
    rw [e2]
    exact fin H1 D sm hD
theorem isi_tt:isi "tuple" "tuple" = some true:=by decide +kernel
theorem isi_it:isi "int" "tuple" = some false:=by decide +kernel
theorem isi_st:isi "str" "tuple" = some false:=by decide +kernel
theorem isi_bt:isi "bool" "tuple" = some false:=by decide +kernel
theorem isi_nt:isi "NoneType" "tuple" = some false:=by decide +kernel
theorem isi_lt:isi "list" "tuple" = some false:=by decide +kernel
theorem isi_dt:isi "dict" "tuple" = some false:=by decide +kernel
theorem isi_ts:isi "tuple" "str" = some false:=by decide +kernel
theorem isi_is:isi "int" "str" = some false:=by decide +kernel
theorem isi_ss:isi "str" "str" = some true:=by decide +kernel
theorem isi_bs:isi "bool" "str" = some false:=by decide +kernel
theorem isi_ns:isi "NoneType" "str" = some false:=by decide +kernel
theorem isi_ls:isi "list" "str" = some false:=by decide +kernel
theorem isi_ds:isi "dict" "str" = some false:=by decide +kernel
theorem isi_ti:isi "tuple" "int" = some false:=by decide +kernel
theorem isi_ii:isi "int" "int" = some true:=by decide +kernel
theorem isi_si:isi "str" "int" = some false:=by decide +kernel
theorem isi_bi:isi "bool" "int" = some true:=by decide +kernel
theorem isi_ni:isi "NoneType" "int" = some false:=by decide +kernel
theorem isi_li:isi "list" "int" = some false:=by decide +kernel
theorem isi_di:isi "dict" "int" = some false:=by decide +kernel
theorem isi_ib:isi "int" "bool" = some false:=by decide +kernel
theorem isi_bb:isi "bool" "bool" = some true:=by decide +kernel
theorem boot_tupleT:bootBuiltins (Str.ofString "tuple") = some (.type "tuple"):=by kernel_rfl
theorem boot_strT:bootBuiltins (Str.ofString "str") = some (.type "str"):=by kernel_rfl
theorem boot_intT:bootBuiltins (Str.ofString "int") = some (.type "int"):=by kernel_rfl
theorem boot_boolT:bootBuiltins (Str.ofString "bool") = some (.type "bool"):=by kernel_rfl
theorem boot_isi:bootBuiltins (Str.ofString "isinstance") = some (.builtin "isinstance"):=by kernel_rfl
theorem boot_ordB:bootBuiltins (Str.ofString "ord") = some (.builtin "ord"):=by kernel_rfl
theorem boot_absB:bootBuiltins (Str.ofString "abs") = some (.builtin "abs"):=by kernel_rfl
theorem boot_allB:bootBuiltins (Str.ofString "all") = some (.builtin "all"):=by kernel_rfl
end L2
namespace D
open PySem L2
def top (i:Nat):Stmt:=PySem.Challenge.pw_leastforge_k15_looks_in_order.main.body.getD i (.Pass ⟨0,0,0,0⟩)
abbrev s_is_number:Stmt:=top 6
abbrev s_is_sign:Stmt:=top 7
abbrev s_fits_alone:Stmt:=top 8
abbrev sSizeA:Stmt:=top 9
abbrev s_is_worth:Stmt:=top 10
abbrev s_same:Stmt:=top 11
abbrev s_made:Stmt:=top 17
abbrev s_truth:Stmt:=top 18
abbrev s_summed:Stmt:=top 19
abbrev s_differing:Stmt:=top 20
abbrev s_multiplied:Stmt:=top 21
abbrev s_divided:Stmt:=top 22
abbrev s_lessened:Stmt:=top 23
abbrev s_figured:Stmt:=top 24
abbrev s_compared:Stmt:=top 25
abbrev s_joined:Stmt:=top 26
abbrev s_listed:Stmt:=top 27
abbrev s_item_at:Stmt:=top 28
abbrev s_counted:Stmt:=top 29
abbrev s_reckoned:Stmt:=top 32
abbrev s_has_parts:Stmt:=top 36
abbrev s_binding_count:Stmt:=top 37
abbrev s_parts_of:Stmt:=top 38
abbrev s_Run___init__:Stmt:=inClass (top 41) 0
abbrev s_Run_look:Stmt:=inClass (top 41) 1
abbrev s_is_made:Stmt:=top 42
abbrev s_worth_of:Stmt:=top 43
abbrev s_as_last:Stmt:=top 44
abbrev s_binding:Stmt:=top 45
abbrev s_go_lit:Stmt:=top 46
abbrev s_go_var:Stmt:=top 47
abbrev s_go_let:Stmt:=top 48
abbrev s_go_if:Stmt:=top 49
abbrev s_ended_ahead:Stmt:=top 50
abbrev s_go_each:Stmt:=top 51
abbrev s_go_over:Stmt:=top 52
abbrev s_go_look:Stmt:=top 53
abbrev s_go_else:Stmt:=top 54
abbrev s_go_cry:Stmt:=top 55
abbrev s_go_through:Stmt:=top 57
abbrev s_go_reckoned:Stmt:=top 58
abbrev s_record_of:Stmt:=top 59
abbrev s_gone:Stmt:=top 60
abbrev sCell:Stmt:=top 62
abbrev sBox:Stmt:=top 63
abbrev sTake:Stmt:=top 64
abbrev sText:Stmt:=top 65
abbrev sNumber:Stmt:=top 66
abbrev sWorth:Stmt:=top 67
abbrev s_lsame:Stmt:=top 68
abbrev s_loutcome:Stmt:=top 69
abbrev s_lname:Stmt:=top 70
abbrev s_llist:Stmt:=top 71
abbrev s_leach:Stmt:=top 72
abbrev s_lelses:Stmt:=top 73
abbrev s_lchain:Stmt:=top 74
abbrev s_lrounds:Stmt:=top 75
abbrev sLaw:Stmt:=top 76
end D
namespace L2
open PySem PySem.Spec PyProof.Rows
theorem seqI {t u:TS}{D:Ends}{σ:St}{H:Hp} (Pv:St→Hp→Prop) (h2:∀ σ' H',Pv σ' H'→u D σ' H') (h1:(∀ σ' H',Pv σ' H'→u D σ' H')→t { D with nx:=u D } σ H):tSeq t u D σ H:=h1 h2
theorem pos (n:Nat):(0:Int) < (((n + 1:Nat):Int)):=by omega
end L2
namespace D
open PySem L2
def IsBox (H:Hp) (b:Addr):Prop:=∃ a f m:Int,H b = some (.lst [.int a,.int f,.int m])
structure Step (b:Addr) (H H':Hp):Prop where
  box:IsBox H' b
  keep:∀ c o,c≠b→H c = some o→H' c = some o
theorem Step.refl {b:Addr}{H:Hp} (h:IsBox H b):Step b H H:=⟨h,fun _ _ _ e=>e⟩
theorem Step.trans {b:Addr}{H H1 H2:Hp} (x:Step b H H1) (y:Step b H1 H2):Step b H H2:=⟨y.box,fun c o hc e=>y.keep c o hc (x.keep c o hc e)⟩
theorem Step.new {b p:Addr}{H:Hp}{o:HO} (h:IsBox H b) (hp:H p = none):Step b H (upd H p o):=by
  obtain ⟨a,f,m,e⟩:=h
  exact ⟨⟨a,f,m,by rw [upd_ne (ne_of_none e hp)]; exact e⟩,fun c u _ e=>by rw [upd_ne (ne_of_none e hp)]; exact e⟩
theorem Step.put {b:Addr}{H:Hp} (a f m:Int):Step b H (upd H b (.lst [.int a,.int f,.int m])):=⟨⟨a,f,m,upd_same⟩,fun c o hc e=>by rw [upd_ne hc]; exact e⟩
theorem Step.keepN {b:Addr}{H H':Hp} (x:Step b H H') {c:Addr}{o:HO} (hb:IsBox H b) (e:H c = some o) (ho:∀ a f m:Int,o≠.lst [.int a,.int f,.int m]):H' c = some o:=by
  obtain ⟨a,f,m,e'⟩:=hb
  exact x.keep c o (ne_of e e' (ho a f m)) e
def spCell (K:PySem.W.Frag):Sp:=fun vs H Q _=>∃ (a:Addr) (ns:List Int) (k:Int),vs = [.ref a,.int k]∧SqL K H a (ns.map V.int)∧0≤k∧∀ i:Int,Q (.int i) H
def spBox (K:PySem.W.Frag):Sp:=fun vs H Q _=>∃ (a:Addr) (ns:List Int) (k:Int),vs = [.ref a,.int k]∧SqL K H a (ns.map V.int)∧0≤k∧∀ (x f m:Int) (p:Addr),H p = none→Q (.ref p) (upd H p (.lst [.int x,.int f,.int m]))
def spTake:Sp:=fun vs H Q _=>∃ (b:Addr) (n:Int),vs = [.ref b,.int n]∧IsBox H b∧0 < n∧n < 10 ^ 61∧∀ (r:Int) (H':Hp),0≤r→r < n→Step b H H'→Q (.int r) H'
def Signs (x:Str):Prop:=∀ c∈x.cps.toList,32≤c∧c≤126∧c≠34∧c≠37
def spText:Sp:=fun vs H Q _=>∃ (b:Addr) (n:Int),vs = [.ref b,.int n]∧IsBox H b∧0≤n∧n < 10000∧∀ (x:Str) (H':Hp),(x.length:Int)≤n→Signs x→Step b H H'→Q (.str x) H'
def spNumber:Sp:=fun vs H Q _=>∃ b:Addr,vs = [.ref b]∧IsBox H b∧∀ (i:Int) (H':Hp),-(10 ^ 60) < i→i < 10 ^ 60→Step b H H'→Q (.int i) H'
section
variable {P:Program}{w:World}{K:PySem.W.Frag}{mg:Str→Option Value}{base:Heap}{f:Addr}{fd:FuncData}{k:Nat}
theorem scCell:FnScope ["_law_script","_law_k"] ["_law_script","_law_k"] (defScope sCell):=⟨rfl,rfl,rfl,by decide +kernel,rfl,by decide +kernel,by decide +kernel⟩
theorem ok_cell (F:Fun K "_law_cell" "_law_cell" sCell f fd) (m_len:mg "len" = none):FnOk P w K mg base CX0 (k + 1) f fd ["_law_script","_law_k"] (spCell K):=by
  refine F.ok scCell (fun vs H Q E h=>?_) (fun cdv A outer s H vs Q E hr h=>?_)
  · obtain ⟨a,ns,k,rfl,_⟩:=h
    rfl
  obtain ⟨a,ns,j,rfl,hS,h0,q⟩:=h
  refine ⟨_,(pss_cons (ps_if (pt_cmpR op_lt (pv 1) (pe_callB call_len rfl m_len PySem.boot_len (pa_cons (pv 0) pa_nil)) (nomark _)) (pss_one (ps_ret (pe_ix ix_list (pv 0) (pv 1) (fun _ _=>rfl)))) pss_nil)
    (pss_one (ps_ret (pe_op op_add (pe_op op_mul pe_int (pv 1)) pe_int)))),?_⟩
  refine ⟨_,rfl,_,rfl,_,_,rfl,.inl ⟨_,hS,rfl⟩,_,_,rfl,rfl,_,rfl,?_⟩
  refine ite2 (fun c=>?_) (fun c=>?_)
  · have c':j < (((ns.map V.int).length:Nat):Int):=of_decide_eq_true c
    rw [List.length_map] at c'
    have hj:j.toNat < ns.length:=by omega
    have ej:j = ((j.toNat:Nat):Int):=by omega
    have at1:atI (ns.map V.int) ((j.toNat:Nat):Int) = some (.int ns[j.toNat]):=atI_nat (by rw [List.getElem?_map,List.getElem?_eq_getElem hj]; rfl)
    rw [← ej] at at1
    exact ⟨_,rfl,_,rfl,a,_,j,.int ns[j.toNat],rfl,rfl,hS,at1,q _⟩
  · exact ⟨_,rfl,_,_,rfl,rfl,.inl ⟨by decide,by decide⟩,_,_,rfl,rfl,q _⟩
theorem scBox:FnScope ["_law_script","_law_k","_law_cell_here","_law_number_here","_law_mixed"] ["_law_script","_law_k"] (defScope sBox):=⟨rfl,rfl,rfl,by decide +kernel,rfl,by decide +kernel,by decide +kernel⟩
theorem ok_box (F:Fun K "_law_box" "_law_box" sBox f fd) (G_lcell:Have P w K mg base "_law_cell" k ["_law_script","_law_k"] (spCell K)):FnOk P w K mg base CX0 (k + 1) f fd ["_law_script","_law_k"] (spBox K):=by
  refine F.ok scBox (fun vs H Q E h=>?_) (fun cdv A outer s H vs Q E hr h=>?_)
  · obtain ⟨a,ns,k,rfl,_⟩:=h
    rfl
  obtain ⟨a,ns,j,rfl,hS,h0,q⟩:=h
  refine ⟨_,(pss_cons (ps_set (i:=2) scBox.nd rfl (Or.inl rfl) (pe_fn G_lcell hr rfl (pa_cons (pv 0) (pa_cons (pv 1) pa_nil))))
    (pss_cons (ps_set (i:=3) scBox.nd rfl (Or.inl rfl) (pe_op op_mod (pe_op op_mul (pe_op op_add (pe_op op_mod (pv 2) pe_int) pe_int) pe_int) pe_int))
    (pss_cons (ps_set (i:=4) scBox.nd rfl (Or.inl rfl) (pe_op op_mod (pe_op op_add (pe_op op_mul (pv 3) (pe_op op_add (pe_op op_mod (pv 3) pe_int) pe_int)) (pe_op op_mul pe_int (pv 1))) pe_int))
    (pss_cons (ps_if (pt_cmpR op_eq (pe_op op_mod (pe_fn G_lcell hr rfl (pa_cons (pv 0) (pa_cons pe_int pa_nil))) pe_int) pe_int (nomark _)) (pss_one (ps_ret (pe_lst (pa_cons (pv 2) (pa_cons pe_int (pa_cons (pv 4) pa_nil)))))) pss_nil)
    (pss_one (ps_ret (pe_lst (pa_cons (pv 4) (pa_cons pe_int (pa_cons pe_int pa_nil)))))))))),?_⟩
  refine ⟨_,rfl,_,rfl,a,ns,j,rfl,hS,h0,fun c=>?_⟩
  refine ⟨_,rfl,_,_,rfl,rfl,pos _,_,_,rfl,rfl,_,_,rfl,rfl,.inr ⟨by decide,by decide⟩,_,_,rfl,rfl,pos _,?_⟩
  have b1:0≤(c % 2147483629 + 11) * 69621 % 2147483629:=Int.emod_nonneg _ (by decide)
  have b2:(c % 2147483629 + 11) * 69621 % 2147483629 < 2147483629:=Int.emod_lt_of_pos _ (by decide)
  refine ⟨_,rfl,_,rfl,_,_,rfl,rfl,pos _,_,_,rfl,rfl,_,_,rfl,rfl,.inl ⟨by omega,by omega⟩,_,rfl,_,_,rfl,rfl,.inl ⟨by decide,by decide⟩,_,_,rfl,rfl,_,_,rfl,rfl,pos _,?_⟩
  refine ⟨_,rfl,a,ns,0,rfl,hS,Int.le_refl 0,fun c0=>?_⟩
  refine ⟨_,_,rfl,rfl,pos _,rfl,_,rfl,?_⟩
  refine ite2 (fun e=>?_) (fun e=>?_)
  · exact ⟨_,rfl,_,rfl,(by show 3≤sizeLine; decide),fun p hp=>q _ _ _ p hp⟩
  · exact ⟨_,rfl,(by show 3≤sizeLine; decide),fun p hp=>q _ _ _ p hp⟩
theorem scTake:FnScope ["_law_box_here","_law_wide","_law_found"] ["_law_box_here","_law_wide"] (defScope sTake):=⟨rfl,rfl,rfl,by decide +kernel,rfl,by decide +kernel,by decide +kernel⟩
theorem log_lt {n:Int} (h0:0 < n) (h:n < 10 ^ 61):n.natAbs.log2 < 9000:=by
  have h1:n.natAbs < 2 ^ 210:=by
    have:(10:Int) ^ 61≤2 ^ 210:=by decide
    omega
  have:=(Nat.log2_lt (by omega)).mpr h1
  omega
theorem ok_take (F:Fun K "_law_take" "_law_take" sTake f fd):FnOk P w K mg base CX0 (k + 1) f fd ["_law_box_here","_law_wide"] spTake:=by
  refine F.ok scTake (fun vs H Q E h=>?_) (fun cdv A outer s H vs Q E hr h=>?_)
  · obtain ⟨b,n,rfl,_⟩:=h
    rfl
  obtain ⟨b,n,rfl,⟨a0,f0,m,hb⟩,hn,hn2,q⟩:=h
  refine ⟨_,(pss_cons (ps_if (pw_and (pt_cmpR op_eq (pe_ix ix_list (pv 0) pe_int (fun _ _=>rfl)) pe_int (nomark _)) (pw_and1 (pt_cmpR op_in_seq (pe_ix ix_list (pv 0) pe_int (fun _ _=>rfl)) (pe_tup (pa_cons pe_int (pa_cons (pe_un un_neg pe_int) pa_nil))) (by rfl)))).pt (pss_cons (ps_asg (pe_ix ix_list (pv 0) pe_int (fun _ _=>rfl)) (pg_sub (pv 0) pe_int set_list))
    (pss_one (ps_asg pe_int (pg_sub (pv 0) pe_int set_list)))) pss_nil)
    (pss_cons (ps_if (pt_cmpR op_eq (pe_ix ix_list (pv 0) pe_int (fun _ _=>rfl)) pe_int (nomark _)) (pss_cons (ps_set (i:=2) scTake.nd rfl (Or.inl rfl) (pe_op op_mod (pe_ix ix_list (pv 0) pe_int (fun _ _=>rfl)) (pv 1)))
    (pss_cons (ps_asg (pe_op op_fdivB (pe_ix ix_list (pv 0) pe_int (fun _ _=>rfl)) (pv 1)) (pg_sub (pv 0) pe_int set_list))
    (pss_one (ps_ret (pv 2))))) pss_nil)
    (pss_cons (ps_asg (pe_op op_mod (pe_op op_add (pe_op op_mul (pe_ix ix_list (pv 0) pe_int (fun _ _=>rfl)) pe_int) pe_int) pe_int) (pg_sub (pv 0) pe_int set_list))
    (pss_cons (ps_set (i:=2) scTake.nd rfl (Or.inl rfl) (pe_op op_mod (pe_op op_mul (pe_ix ix_list (pv 0) pe_int (fun _ _=>rfl)) (pe_op op_add (pe_op op_mod (pe_ix ix_list (pv 0) pe_int (fun _ _=>rfl)) pe_int) pe_int)) pe_int))
    (pss_cons (ps_if (pt_cmpR op_gt (pv 1) (pe_op op_pow pe_int pe_int) (nomark _)) (pss_one (ps_set (i:=2) scTake.nd rfl (Or.inl rfl) (pe_op op_add (pe_op op_pow (pv 2) pe_int) (pv 2)))) pss_nil)
    (pss_one (ps_ret (pe_op op_mod (pv 2) (pv 1))))))))),?_⟩
  refine seqI (fun σ' H'=>σ' = [some (.ref b),some (.int n),none]∧Step b H H') (fun σ' H1 h1=>?_) (fun rest=>?_)
  · obtain ⟨rfl,st1⟩:=h1
    obtain ⟨a,f,m,hb1⟩:=st1.box
    refine ⟨_,rfl,b,_,1,.int f,rfl,rfl,SqL.of hb1,rfl,rfl,_,rfl,?_⟩
    refine ite2 (fun e=>?_) (fun e=>?_)
    · refine ⟨_,rfl,b,_,0,.int a,rfl,rfl,SqL.of hb1,rfl,_,rfl,_,_,rfl,rfl,hn,?_⟩
      refine ⟨_,rfl,b,_,0,.int a,rfl,rfl,SqL.of hb1,rfl,_,rfl,_,_,rfl,rfl,⟨hn,log_lt hn hn2⟩,_,rfl,b,_,0,0,rfl,rfl,hb1,rfl,?_⟩
      exact ⟨_,rfl,q _ _ (Int.emod_nonneg _ (by omega)) (Int.emod_lt_of_pos _ hn) (st1.trans (Step.put _ _ _))⟩
    · refine ⟨_,rfl,b,_,0,.int a,rfl,rfl,SqL.of hb1,rfl,_,_,rfl,rfl,.inr ⟨by decide,by decide⟩,_,_,rfl,rfl,_,_,rfl,rfl,pos _,_,rfl,b,_,0,0,rfl,rfl,hb1,rfl,?_⟩
      refine ⟨_,rfl,b,_,0,_,rfl,rfl,SqL.of upd_same,rfl,_,rfl,b,_,0,_,rfl,rfl,SqL.of upd_same,rfl,_,_,rfl,rfl,pos _,_,_,rfl,rfl,_,_,rfl,rfl,.inr ⟨?_,?_⟩,_,_,rfl,rfl,pos _,?_⟩
      · have:=Int.emod_nonneg ((a * 69621 + 104729) % 2147483587) (show (16807:Int)≠0 by decide)
        omega
      · have:=Int.emod_lt_of_pos ((a * 69621 + 104729) % 2147483587) (show (0:Int) < 16807 by decide)
        omega
      dsimp only [gName]
      refine seqI (t:=tIfS _ _ _) (fun σ' H'=>∃ x:Int,σ' = [some (.ref b),some (.int n),some (.int x)]∧Step b H H') (fun σ' H1 h1=>?_) (fun rest=>?_)
      · obtain ⟨x,rfl,st2⟩:=h1
        exact ⟨_,rfl,_,rfl,_,_,rfl,rfl,hn,q _ _ (Int.emod_nonneg _ (by omega)) (Int.emod_lt_of_pos _ hn) st2⟩
      · refine ⟨_,rfl,_,_,rfl,rfl,⟨by decide,by decide,by decide⟩,_,_,rfl,rfl,_,rfl,?_⟩
        refine ite2 (fun e=>?_) (fun e=>?_)
        · refine ⟨_,rfl,_,_,rfl,rfl,⟨by decide,by decide,?_⟩,_,rfl,_,_,rfl,rfl,rest _ _ ⟨_,rfl,st1.trans (Step.put _ _ _)⟩⟩
          have l1:=Int.emod_nonneg ((a * 69621 + 104729) % 2147483587 * ((a * 69621 + 104729) % 2147483587 % 16807 + 1)) (show (2147483579:Int)≠0 by decide)
          have l2:=Int.emod_lt_of_pos ((a * 69621 + 104729) % 2147483587 * ((a * 69621 + 104729) % 2147483587 % 16807 + 1)) (show (0:Int) < 2147483579 by decide)
          omega
        · exact rest _ _ ⟨_,rfl,st1.trans (Step.put _ _ _)⟩
  · refine ⟨_,rfl,b,_,1,.int f0,rfl,rfl,SqL.of hb,rfl,rfl,_,rfl,?_⟩
    refine ite2 (fun e=>?_) (fun e=>?_)
    · refine ⟨_,rfl,b,_,0,.int a0,rfl,rfl,SqL.of hb,rfl,_,rfl,(by show 2≤sizeLine; decide),fun t ht=>?_⟩
      have hb2:upd H t (.tup [.int 0,.int (-1)]) b = some (.lst [.int a0,.int f0,.int m]):=by rw [upd_ne (ne_of_none hb ht)]; exact hb
      refine ⟨t,_,rfl,.inr (SqT.of upd_same),rfl,rfl,_,rfl,?_⟩
      refine ite2 (fun e=>?_) (fun e=>?_)
      · refine ⟨_,rfl,b,_,2,.int m,rfl,rfl,SqL.of hb2,rfl,_,rfl,b,_,0,0,rfl,rfl,hb2,rfl,?_⟩
        refine ⟨_,rfl,b,_,1,1,rfl,rfl,upd_same,rfl,?_⟩
        exact rest _ _ ⟨rfl,((Step.new ⟨_,_,_,hb⟩ ht).trans (Step.put _ _ _)).trans (Step.put _ _ _)⟩
      · exact rest _ _ ⟨rfl,Step.new ⟨_,_,_,hb⟩ ht⟩
    · refine iteF ?_
      exact rest _ _ ⟨rfl,Step.refl ⟨_,_,_,hb⟩⟩
end
inductive W where
  | num (i:Int)
  | txt (x:Str)
  | lst (ws:List W)
mutual
def W.size:W→Int
  | .num _=>1
  | .txt x=>1 + (x.length:Int)
  | .lst ws=>1 + sizes ws
def sizes:List W→Int
  | []=>0
  | w :: r=>w.size + sizes r
end
mutual
def W.depth:W→Nat
  | .num _=>0
  | .txt _=>0
  | .lst ws=>1 + depths ws
def depths:List W→Nat
  | []=>0
  | w :: r=>max w.depth (depths r)
end
mutual
def W.Ok:W→Prop
  | .num i=>-(10 ^ 60) < i∧i < 10 ^ 60
  | .txt x=>x.length≤400∧Signs x
  | .lst ws=>ws.length≤60∧Oks ws
def Oks:List W→Prop
  | []=>True
  | w :: r=>w.Ok∧Oks r
end
theorem sizes_snoc (ws:List W) (w:W):sizes (ws ++ [w]) = sizes ws + w.size:=by
  induction ws with
  | nil=>simp [sizes]
  | cons x r ih=>simp only [List.cons_append,sizes,ih]; omega
theorem depths_snoc (ws:List W) (w:W):depths (ws ++ [w]) = max (depths ws) w.depth:=by
  induction ws with
  | nil=>simp [depths]
  | cons x r ih=>simp only [List.cons_append,depths,ih]; omega
theorem Oks_snoc (ws:List W) (w:W):Oks (ws ++ [w]) ↔ Oks ws∧w.Ok:=by
  induction ws with
  | nil=>simp [Oks]
  | cons x r ih=>simp only [List.cons_append,Oks,ih,and_assoc]
theorem Oks_mem {ws:List W} (h:Oks ws):∀ w∈ws,w.Ok:=by
  induction ws with
  | nil=>intro w hw; cases hw
  | cons x r ih=>
    intro w hw
    rcases List.mem_cons.mp hw with rfl | hw
    · exact h.1
    · exact ih h.2 w hw
theorem depths_mem {ws:List W}:∀ w∈ws,w.depth≤depths ws:=by
  induction ws with
  | nil=>intro w hw; cases hw
  | cons x r ih=>
    intro w hw
    simp only [depths]
    rcases List.mem_cons.mp hw with rfl | hw
    · omega
    · have:=ih w hw
      omega
inductive RW (H:Hp):V→W→Prop where
  | num (i:Int):RW H (.int i) (.num i)
  | txt (x:Str):RW H (.str x) (.txt x)
  | lst {a:Addr}{vs:List V}{ws:List W}:H a = some (.tup vs)→vs.length = ws.length→(∀ (i:Nat) (v:V) (w:W),vs[i]? = some v→ws[i]? = some w→RW H v w)→RW H (.ref a) (.lst ws)
structure RWs (H:Hp) (vs:List V) (ws:List W):Prop where
  len:vs.length = ws.length
  at':∀ (i:Nat) (v:V) (w:W),vs[i]? = some v→ws[i]? = some w→RW H v w
def Tups (H H':Hp):Prop:=∀ a vs,H a = some (.tup vs)→H' a = some (.tup vs)
theorem RW.mono {H H':Hp} (t:Tups H H') {v:V}{w:W} (h:RW H v w):RW H' v w:=by
  induction h with
  | num i=>exact .num i
  | txt x=>exact .txt x
  | lst e l _ ih=>exact .lst (t _ _ e) l ih
theorem RWs.mono {H H':Hp} (t:Tups H H') {vs:List V}{ws:List W} (h:RWs H vs ws):RWs H' vs ws:=⟨h.len,fun i v w a b=>(h.at' i v w a b).mono t⟩
theorem RWs.snoc {H:Hp}{vs:List V}{ws:List W}{v:V}{w:W} (h:RWs H vs ws) (x:RW H v w):RWs H (vs ++ [v]) (ws ++ [w]):=by
  refine ⟨by rw [List.length_append,List.length_append,h.len]; rfl,fun i v' w' a b=>?_⟩
  by_cases hi:i < vs.length
  · rw [List.getElem?_append_left hi] at a
    rw [List.getElem?_append_left (h.len ▸ hi)] at b
    exact h.at' i v' w' a b
  · rw [List.getElem?_append_right (by omega)] at a
    rw [List.getElem?_append_right (by have:=h.len; omega)] at b
    have hi0:i - vs.length = 0:=by
      have:=(List.getElem?_eq_some_iff.mp a).1
      simp at this
      omega
    have hi1:i - ws.length = 0:=by have:=h.len; omega
    rw [hi0] at a
    rw [hi1] at b
    have e1:v = v':=by simpa using a
    have e2:w = w':=by simpa using b
    rw [← e1,← e2]
    exact x
theorem Step.tups {b:Addr}{H H':Hp} (x:Step b H H') (hb:IsBox H b):Tups H H':=fun a vs e=>x.keepN hb e (fun _ _ _ z=>nomatch z)
theorem tups_new {H:Hp}{p:Addr}{o:HO} (h:H p = none):Tups H (upd H p o):=fun a vs e=>by rw [upd_ne (ne_of_none e h)]; exact e
theorem tups_put {H:Hp}{p:Addr}{xs:List V}{o:HO} (h:H p = some (.lst xs)):Tups H (upd H p o):=fun a vs e=>by rw [upd_ne (ne_of e h (fun z=>nomatch z))]; exact e
def signsA:Str:=Str.ofString " !#$&'()*+,-./0123456789:;<=>?@ABCDEFGHIJKLMNOPQRSTUVWXYZ"
def signsB:Str:=Str.ofString "[\\]^_`abcdefghijklmnopqrstuvwxyz{|}~"
theorem signs_len:(signsA ++ signsB).length = 93:=by decide +kernel
theorem signs_all:∀ c∈(signsA ++ signsB).cps.toList,32≤c∧c≤126∧c≠34∧c≠37:=by decide +kernel
theorem str_len (x:Str):x.cps.toList.length = x.length:=by simp [Str.length]
theorem str_app (x y:Str):(x ++ y).cps.toList = x.cps.toList ++ y.cps.toList:=by
  show (x.cps ++ y.cps).toList = _
  simp
theorem str_app_len (x y:Str):(x ++ y).length = x.length + y.length:=by
  rw [← str_len,str_app,List.length_append,str_len,str_len]
mutual
theorem size_pos:∀ w:W,1≤w.size
  | .num _=>by simp [W.size]
  | .txt x=>by simp only [W.size]; omega
  | .lst ws=>by have:=sizes_nn ws; simp only [W.size]; omega
theorem sizes_nn:∀ ws:List W,0≤sizes ws
  | []=>by simp [sizes]
  | w :: r=>by have h1:=size_pos w; have h2:=sizes_nn r; simp only [sizes]; omega
end
section
variable {P:Program}{w:World}{K:PySem.W.Frag}{mg:Str→Option Value}{base:Heap}{f:Addr}{fd:FuncData}{k:Nat}
theorem scText:FnScope ["_law_box_here","_law_most","_law_signs","_law_found","_law_k"] ["_law_box_here","_law_most"] (defScope sText):=⟨rfl,rfl,rfl,by decide +kernel,rfl,by decide +kernel,by decide +kernel⟩
theorem small {n:Nat} (h:n≤1000000):n≤sizeLine:=Nat.le_trans h (by decide)
theorem ok_text (F:Fun K "_law_text" "_law_text" sText f fd) (G_ltake:Have P w K mg base "_law_take" k ["_law_box_here","_law_wide"] spTake) (m_len:mg "len" = none) (m_range:mg "range" = none):
    FnOk P w K mg base CX0 (k + 1) f fd ["_law_box_here","_law_most"] spText:=by
  refine F.ok scText (fun vs H Q E h=>?_) (fun cdv A outer s H vs Q E hr h=>?_)
  · obtain ⟨b,n,rfl,_⟩:=h
    rfl
  obtain ⟨b,n,rfl,hb,hn,hn2,q⟩:=h
  refine ⟨_,(pss_cons (ps_set (i:=2) scText.nd rfl (Or.inl rfl) pe_str)
    (pss_cons (ps_set (i:=2) scText.nd rfl (Or.inl rfl) (pe_op op_add_str (pv 2) pe_str))
    (pss_cons (ps_set (i:=3) scText.nd rfl (Or.inl rfl) pe_str)
    (pss_cons (ps_for PassesOwn.never rfl (pi_range1 rfl m_range (pa_cons (pe_fn G_ltake hr rfl (pa_cons (pv 0) (pa_cons (pe_op op_add (pv 1) pe_int) pa_nil))) pa_nil)) (pg_name (i:=4) scText.nd rfl (Or.inl rfl)) (pss_one (ps_set (i:=3) scText.nd rfl (Or.inl rfl) (pe_op op_add_str (pv 3) (pe_ix ix_str (pv 2) (pe_fn G_ltake hr rfl (pa_cons (pv 0) (pa_cons (pe_callB call_len rfl m_len PySem.boot_len (pa_cons (pv 2) pa_nil)) pa_nil))) (fun _ _=>rfl))))))
    (pss_one (ps_ret (pv 3))))))),?_⟩
  refine ⟨_,rfl,signsA,signsB,rfl,rfl,small (by decide +kernel),?_⟩
  refine ⟨_,rfl,_,rfl,_,_,rfl,rfl,b,n + 1,rfl,hb,by omega,by omega,fun r H1 h0 h1 st=>?_⟩
  refine ⟨r,rfl,by omega,by omega,for_range (n:=r.toNat) (fun i σ' H'=>∃ (x:Str) (o:Option V),σ' = [some (.ref b),some (.int n),some (.str (signsA ++ signsB)),some (.str x),o]∧x.length = i∧Signs x∧Step b H H')
    ⟨Str.ofString "",none,rfl,rfl,?_,st⟩ (fun i σ' H' hi h=>?_) (fun σ' H' h=>?_)⟩
  · intro c hc
    have e0:(Str.ofString "").cps.toList = []:=by decide +kernel
    rw [e0] at hc
    cases hc
  · obtain ⟨x,o,rfl,hx,sx,st1⟩:=h
    refine ⟨_,rfl,_,rfl,_,rfl,_,rfl,_,_,rfl,⟨small (by rw [signs_len]; decide),rfl⟩,b,_,rfl,st1.box,by rw [signs_len]; decide,by rw [signs_len]; decide,fun r2 H2 r0 r1 st2=>?_⟩
    rw [signs_len] at r1
    have hr2:r2.toNat < (signsA ++ signsB).cps.toList.length:=by rw [str_len,signs_len]; omega
    have er2:r2 = ((r2.toNat:Nat):Int):=by omega
    have a1:atI (signsA ++ signsB).cps.toList ((r2.toNat:Nat):Int) = some (signsA ++ signsB).cps.toList[r2.toNat]:=atI_nat (List.getElem?_eq_getElem hr2)
    rw [← er2] at a1
    refine ⟨_,r2,_,rfl,rfl,small (by rw [signs_len]; decide),a1,x,_,rfl,rfl,small ?_,?_⟩
    · have:(Str.mk #[(signsA ++ signsB).cps.toList[r2.toNat]]).length = 1:=rfl
      rw [this]
      omega
    · refine ⟨_,_,rfl,?_,?_,st1.trans st2⟩
      · rw [str_app_len,hx]
        rfl
      · intro c hc
        rw [str_app] at hc
        rcases List.mem_append.mp hc with hc | hc
        · exact sx c hc
        · have:c = (signsA ++ signsB).cps.toList[r2.toNat]:=by simpa using hc
          rw [this]
          exact signs_all _ (List.getElem_mem _)
  · obtain ⟨x,o,rfl,hx,sx,st1⟩:=h
    exact ⟨_,rfl,q x H' (by omega) sx st1⟩
theorem scNumber:FnScope ["_law_box_here","_law_kind"] ["_law_box_here"] (defScope sNumber):=⟨rfl,rfl,rfl,by decide +kernel,rfl,by decide +kernel,by decide +kernel⟩
theorem ok_number (F:Fun K "_law_number" "_law_number" sNumber f fd) (G_ltake:Have P w K mg base "_law_take" k ["_law_box_here","_law_wide"] spTake):
    FnOk P w K mg base CX0 (k + 1) f fd ["_law_box_here"] spNumber:=by
  refine F.ok scNumber (fun vs H Q E h=>?_) (fun cdv A outer s H vs Q E hr h=>?_)
  · obtain ⟨b,rfl,_⟩:=h
    rfl
  obtain ⟨b,rfl,hb,q⟩:=h
  refine ⟨_,(pss_cons (ps_set (i:=1) scNumber.nd rfl (Or.inl rfl) (pe_fn G_ltake hr rfl (pa_cons (pv 0) (pa_cons pe_int pa_nil))))
    (pss_cons (ps_if (pt_cmpR op_eq (pv 1) pe_int (nomark _)) (pss_one (ps_ret (pe_op op_add (pe_op op_sub (pe_fn G_ltake hr rfl (pa_cons (pv 0) (pa_cons (pe_op op_sub (pe_op op_mul pe_int (pe_op op_pow pe_int pe_int)) pe_int) pa_nil))) (pe_op op_pow pe_int pe_int)) pe_int))) pss_nil)
    (pss_cons (ps_if (pt_cmpR op_eq (pv 1) pe_int (nomark _)) (pss_one (ps_ret (pe_ix ix_list (pe_lst (pa_cons (pe_op op_sub (pe_op op_pow pe_int pe_int) pe_int) (pa_cons (pe_op op_sub pe_int (pe_op op_pow pe_int pe_int)) (pa_cons pe_int (pa_cons (pe_un un_neg pe_int) pa_nil))))) (pe_fn G_ltake hr rfl (pa_cons (pv 0) (pa_cons pe_int pa_nil))) (fun _ _=>rfl)))) pss_nil)
    (pss_one (ps_ret (pe_op op_sub (pe_fn G_ltake hr rfl (pa_cons (pv 0) (pa_cons pe_int pa_nil))) pe_int)))))),?_⟩
  refine ⟨_,rfl,b,4,rfl,hb,by decide,by decide,fun r H1 h0 h1 st=>?_⟩
  refine ⟨_,rfl,rfl,_,rfl,?_⟩
  refine ite2 (fun e=>?_) (fun e=>?_)
  · refine ⟨_,rfl,_,_,rfl,rfl,⟨by decide,by decide,by decide⟩,_,_,rfl,rfl,.inl ⟨by decide,by decide⟩,_,_,rfl,rfl,b,_,rfl,st.box,by decide,by decide,fun r2 H2 r0 r1 st2=>?_⟩
    refine ⟨_,_,rfl,rfl,⟨by decide,by decide,by decide⟩,_,_,rfl,rfl,_,_,rfl,rfl,q _ _ ?_ ?_ (st.trans st2)⟩
    · have:(10:Int) ^ (60:Int).toNat = 10 ^ 60:=rfl
      omega
    · have:(10:Int) ^ (60:Int).toNat = 10 ^ 60:=rfl
      have r1:r2 < 2 * 10 ^ 60 - 1:=r1
      omega
  · refine ⟨_,rfl,rfl,_,rfl,?_⟩
    refine ite2 (fun e=>?_) (fun e=>?_)
    · refine ⟨_,_,rfl,rfl,⟨by decide,by decide,by decide⟩,_,_,rfl,rfl,_,_,rfl,rfl,⟨by decide,by decide,by decide⟩,_,_,rfl,rfl,_,rfl,(by show 4≤sizeLine; decide),fun p hp=>?_⟩
      have st1:=st.trans (Step.new (o:=.lst [.int (10 ^ 60 - 1),.int (1 - 10 ^ 60),.int 0,.int (-1)]) st.box hp)
      refine ⟨_,rfl,b,4,rfl,st1.box,by decide,by decide,fun r2 H2 r0 r1 st2=>?_⟩
      have hp2:H2 p = some (.lst [.int (10 ^ 60 - 1),.int (1 - 10 ^ 60),.int 0,.int (-1)]):=by
        obtain ⟨a',f',m',e'⟩:=st.box
        exact st2.keep p _ (ne_of_none e' hp).symm upd_same
      have hcases:r2 = 0∨r2 = 1∨r2 = 2∨r2 = 3:=by omega
      rcases hcases with rfl | rfl | rfl | rfl
      · exact ⟨p,_,0,_,rfl,rfl,SqL.of hp2,rfl,q _ _ (by decide) (by decide) (st1.trans st2)⟩
      · exact ⟨p,_,1,_,rfl,rfl,SqL.of hp2,rfl,q _ _ (by decide) (by decide) (st1.trans st2)⟩
      · exact ⟨p,_,2,_,rfl,rfl,SqL.of hp2,rfl,q _ _ (by decide) (by decide) (st1.trans st2)⟩
      · exact ⟨p,_,3,_,rfl,rfl,SqL.of hp2,rfl,q _ _ (by decide) (by decide) (st1.trans st2)⟩
    · refine ⟨_,rfl,b,12,rfl,st.box,by decide,by decide,fun r2 H2 r0 r1 st2=>?_⟩
      exact ⟨_,_,rfl,rfl,q _ _ (by have:(3:Int) < 10 ^ 60:=(by decide); omega) (by have:(12:Int) < 10 ^ 60:=(by decide); omega) (st.trans st2)⟩
def spWorth (n:Nat):Sp:=fun vs H Q _=>∃ (b:Addr) (room deep:Int),vs = [.ref b,.int room,.int deep]∧IsBox H b∧1≤room∧room < 1000∧0≤deep∧deep < n ∧
  ∀ (v:V) (x:W) (H':Hp),RW H' v x→x.Ok→(x.depth:Int)≤deep→x.size≤16 * room→Step b H H'→Q v H'
theorem scWorth:FnScope ["_law_box_here","_law_room","_law_deep","_law_kind","_law_wide","_law_left","_law_found","_law_k","_law_share"] ["_law_box_here","_law_room","_law_deep"] (defScope sWorth):=⟨rfl,rfl,rfl,by decide +kernel,rfl,by decide +kernel,by decide +kernel⟩
theorem ok_worth {n:Nat} (F:Fun K "_law_worth" "_law_worth" sWorth f fd) (G_ltake:Have P w K mg base "_law_take" k ["_law_box_here","_law_wide"] spTake) (G_ltext:Have P w K mg base "_law_text" k ["_law_box_here","_law_most"] spText)
    (G_lnumber:Have P w K mg base "_law_number" k ["_law_box_here"] spNumber) (G_lworth:Have P w K mg base "_law_worth" k ["_law_box_here","_law_room","_law_deep"] (spWorth n))
    (m_min:mg "min" = none) (m_range:mg "range" = none) (m_tuple:mg "tuple" = none):FnOk P w K mg base CX0 (k + 1) f fd ["_law_box_here","_law_room","_law_deep"] (spWorth (n + 1)):=by
  refine F.ok scWorth (fun vs H Q E h=>?_) (fun cdv A outer s H vs Q E hr h=>?_)
  · obtain ⟨b,room,deep,rfl,_⟩:=h
    rfl
  obtain ⟨b,room,deep,rfl,hb,hr1,hr2,hd0,hd1,q⟩:=h
  refine ⟨_,(pss_cons (ps_set (i:=3) scWorth.nd rfl (Or.inl rfl) (pe_fn G_ltake hr rfl (pa_cons (pv 0) (pa_cons pe_int pa_nil))))
    (pss_cons (ps_if (pw_or (pt_cmpR op_eq (pv 3) pe_int (nomark _)) (pw_or1 (pw_and (pt_cmpR op_eq (pv 3) pe_int (nomark _)) (pw_and1 (pt_cmpR op_lt (pv 2) pe_int (nomark _)))).pt)).pt (pss_one (ps_ret (pe_fn G_lnumber hr rfl (pa_cons (pv 0) pa_nil)))) pss_nil)
    (pss_cons (ps_if (pt_cmpR op_eq (pv 3) pe_int (nomark _)) (pss_one (ps_ret (pe_fn G_ltext hr rfl (pa_cons (pv 0) (pa_cons pe_int pa_nil))))) pss_nil)
    (pss_cons (ps_set (i:=4) scWorth.nd rfl (Or.inl rfl) (pe_fn G_ltake hr rfl (pa_cons (pv 0) (pa_cons (pe_callB (call_min2 rfl) rfl m_min PyProof.Rows.boot_min (pa_cons (pv 1) (pa_cons pe_int pa_nil))) pa_nil))))
    (pss_cons (ps_set (i:=5) scWorth.nd rfl (Or.inl rfl) (pe_op op_sub (pv 1) pe_int))
    (pss_cons (ps_set (i:=6) scWorth.nd rfl (Or.inl rfl) (pe_lst pa_nil))
    (pss_cons (ps_for PassesOwn.never rfl (pi_range1 rfl m_range (pa_cons (pv 4) pa_nil)) (pg_name (i:=7) scWorth.nd rfl (Or.inl rfl)) (pss_cons (ps_set (i:=8) scWorth.nd rfl (Or.inl rfl) (pe_op op_add pe_int (pe_fn G_ltake hr rfl (pa_cons (pv 0) (pa_cons (pe_op op_sub (pv 5) (pe_op op_sub (pe_op op_sub (pv 4) pe_int) (pv 7))) pa_nil)))))
    (pss_cons (ps_expr (pe_bm PySem.F.plainAttrs_list PySem.F.slot_list_append PySem.F.type_list_append mt_append (pv 6) (pa_cons (pe_fn G_lworth hr rfl (pa_cons (pv 0) (pa_cons (pv 8) (pa_cons (pe_op op_sub (pv 2) pe_int) pa_nil)))) pa_nil)))
    (pss_one (ps_set (i:=5) scWorth.nd rfl (Or.inl rfl) (pe_op op_sub (pv 5) (pv 8)))))))
    (pss_one (ps_ret (pe_callTy call_tuple_of rfl m_tuple boot_tupleT (pa_cons (pv 6) pa_nil))))))))))),?_⟩
  refine ⟨_,rfl,b,3,rfl,hb,by decide,by decide,fun kd H1 k0 k1 st=>?_⟩
  dsimp only [gName]
  refine seqI (t:=tIfS _ _ _) (fun σ' H'=>σ' = [some (.ref b),some (.int room),some (.int deep),some (.int kd),none,none,none,none,none]∧Step b H H'∧(kd = 1∨(kd = 2∧1≤deep))) (fun σ' H2 h2=>?_) (fun rest=>?_)
  · obtain ⟨rfl,st2,hk⟩:=h2
    refine ⟨_,rfl,rfl,_,rfl,?_⟩
    refine ite2 (fun e=>?_) (fun e=>?_)
    · refine ⟨_,rfl,b,15,rfl,st2.box,by decide,by decide,fun x H3 hx sx st3=>?_⟩
      refine q _ _ _ (.txt x) ⟨by omega,sx⟩ (by show ((0:Nat):Int)≤deep; omega) ?_ (st2.trans st3)
      show 1 + (x.length:Int)≤16 * room
      omega
    · have e':¬ V.int kd = V.int 1:=of_decide_eq_false (Bool.eq_false_iff.mpr e)
      have hk2:kd = 2∧1≤deep:=by
        rcases hk with hk | hk
        · exact absurd (by rw [hk]) e'
        · exact hk
      refine ⟨_,rfl,_,rfl,room,61,rfl,b,_,rfl,st2.box,?_,?_,fun wide H3 w0 w1 st3=>?_⟩
      · split <;> omega
      · split <;> omega
      have w2:wide < room∧wide < 61:=by
        revert w1
        split <;> intro w1 <;> omega
      refine ⟨_,rfl,_,_,rfl,rfl,(by show 0≤sizeLine; decide),fun l hl=>?_⟩
      have st4:=(st2.trans st3).trans (Step.new (o:=.lst []) st3.box hl)
      have lb:l≠b:=by
        obtain ⟨a',f',m',e'⟩:=st3.box
        exact (ne_of_none e' hl).symm
      have hlH:H l = none:=by
        cases e:H l with
        | none=>rfl
        | some o=>
          have:=(st2.trans st3).keep l o lb e
          rw [hl] at this
          cases this
      refine ⟨_,rfl,wide,rfl,by omega,by omega,for_range (n:=wide.toNat) (fun i σ' H'=>∃ (left:Int) (vs:List V) (ws:List W) (o1 o2:Option V),
          σ' = [some (.ref b),some (.int room),some (.int deep),some (.int kd),some (.int wide),some (.int left),some (.ref l),o1,o2]∧H' l = some (.lst vs)∧RWs H' vs ws∧ws.length = i∧Oks ws∧(depths ws:Int)≤deep - 1 ∧
          sizes ws≤16 * (room - 1 - left)∧wide - i≤left∧Step b H H')
        ⟨room - 1,[],[],none,none,rfl,upd_same,⟨rfl,fun i v w e=>by simp at e⟩,rfl,trivial,by show ((0:Nat):Int)≤deep - 1; omega,by simp [sizes],by omega,st4⟩ (fun i σ' H' hi h=>?_) (fun σ' H' h=>?_)⟩
      · obtain ⟨left,vs,ws,o1,o2,rfl,hl',hrw,hlen,hok,hdp,hsz,hleft,st5⟩:=h
        have nn:=sizes_nn ws
        refine ⟨_,rfl,_,rfl,_,rfl,_,_,rfl,rfl,_,rfl,_,_,rfl,rfl,_,_,rfl,rfl,b,_,rfl,st5.box,?_,?_,fun r H5 r0 r1 st6=>?_⟩
        · omega
        · have:(2000:Int) < 10 ^ 61:=by decide
          omega
        have hl5:H5 l = some (.lst vs):=st6.keep l _ lb hl'
        refine ⟨_,_,rfl,rfl,_,rfl,.inl ⟨rfl,_,SqL.of hl5⟩,_,rfl,_,rfl,_,rfl,_,_,rfl,rfl,b,_,_,rfl,st6.box,?_,?_,?_,?_,fun v x H6 rx okx dx sx st7=>?_⟩
        · omega
        · omega
        · omega
        · omega
        have hl6:H6 l = some (.lst vs):=st7.keep l _ lb hl5
        have hlv:vs.length≤61:=by have:=hrw.len; omega
        refine ⟨l,vs,v,rfl,rfl,hl6,Nat.lt_of_le_of_lt hlv (by decide),?_⟩
        refine ⟨_,rfl,_,rfl,_,_,rfl,rfl,?_⟩
        have t6:Tups H' H6:=fun a us e=>(st7.tups st6.box) a us ((st6.tups st5.box) a us e)
        have t7:=tups_put (o:=.lst (vs ++ [v])) hl6
        refine ⟨_,vs ++ [v],ws ++ [x],_,_,rfl,upd_same,((hrw.mono t6).mono t7).snoc (rx.mono t7),?_,(Oks_snoc _ _).mpr ⟨hok,okx⟩,?_,?_,?_,?_⟩
        · rw [List.length_append,hlen]; rfl
        · rw [depths_snoc]; omega
        · rw [sizes_snoc]; omega
        · omega
        · refine ⟨?_,fun c o hc e=>?_⟩
          · obtain ⟨a',f',m',e'⟩:=st7.box
            exact ⟨a',f',m',by rw [upd_ne lb.symm]; exact e'⟩
          · rw [upd_ne (ne_of_none e hlH)]
            exact (st5.trans (st6.trans st7)).keep c o hc e
      · obtain ⟨left,vs,ws,o1,o2,rfl,hl',hrw,hlen,hok,hdp,hsz,hleft,st5⟩:=h
        refine ⟨_,rfl,l,vs,rfl,.inl ⟨SqL.of hl',fun t ht=>?_⟩⟩
        have t6:=tups_new (o:=.tup vs) ht
        refine q _ (.lst ws) _ (.lst upd_same hrw.len fun i v x a b=>(hrw.at' i v x a b).mono t6) ⟨by omega,hok⟩ ?_ ?_ (st5.trans (Step.new st5.box ht))
        · show ((1 + depths ws:Nat):Int)≤deep
          omega
        · show 1 + sizes ws≤16 * room
          omega
  · refine ⟨_,rfl,rfl,_,rfl,?_⟩
    have fin:∀ H2,Step b H H2→spNumber [.ref b] H2 Q E0:=fun H2 st2=>⟨b,rfl,st2.box,fun i H3 i0 i1 st3=>q _ (.num i) _ (.num i) ⟨i0,i1⟩ (by show ((0:Nat):Int)≤deep; omega) (by show (1:Int)≤16 * room; omega) (st2.trans st3)⟩
    refine ite2 (fun e=>?_) (fun e=>?_)
    · refine iteT ?_
      exact ⟨_,rfl,fin H1 st⟩
    · have e':¬ V.int kd = V.int 0:=of_decide_eq_false (Bool.eq_false_iff.mpr e)
      have kne:kd≠0:=fun z=>e' (by rw [z])
      refine ⟨_,rfl,rfl,_,rfl,?_⟩
      refine ite2 (fun e2=>?_) (fun e2=>?_)
      · have e2':V.int kd = V.int 2:=of_decide_eq_true e2
        have kd2:kd = 2:=by injection e2'
        refine ⟨_,rfl,_,_,rfl,rfl,_,rfl,?_⟩
        refine ite2 (fun e3=>?_) (fun e3=>?_)
        · exact ⟨_,rfl,fin H1 st⟩
        · have e3':¬ deep < 1:=of_decide_eq_false (Bool.eq_false_iff.mpr e3)
          exact rest _ _ ⟨rfl,st,.inr ⟨kd2,by omega⟩⟩
      · have e2':¬ V.int kd = V.int 2:=of_decide_eq_false (Bool.eq_false_iff.mpr e2)
        have kne2:kd≠2:=fun z=>e2' (by rw [z])
        refine iteF ?_
        exact rest _ _ ⟨rfl,st,.inl (by omega)⟩
end
end D
set_option Elab.async false
set_option linter.all false
set_option maxRecDepth 100000
set_option maxHeartbeats 4000000
namespace D
open PySem L2
inductive T where
  | non
  | bl (b:Bool)
  | num (i:Int)
  | txt (x:Str)
  | tup (ts:List T)
  | lst
  | dic
mutual
def T.size:T→Int
  | .txt x=>1 + (x.length:Int)
  | .tup ts=>1 + tsizes ts
  | _=>1
def tsizes:List T→Int
  | []=>0
  | t :: r=>t.size + tsizes r
end
mutual
def T.nodes:T→Nat
  | .tup ts=>1 + tnodes ts
  | _=>1
def tnodes:List T→Nat
  | []=>0
  | t :: r=>t.nodes + tnodes r
end
def signB (c:Nat):Bool:=decide (32≤c) && (decide (c≤126) && (decide (c≠34) && decide (c≠37)))
def okSigns (x:Str):Bool:=x.cps.toList.all signB
def aloneB (lv:Int):T→Bool
  | .num i=>decide (-(10 ^ 60) < i∧i < 10 ^ 60)
  | .txt x=>decide (x.length≤400) && okSigns x
  | .tup ts=>decide (ts.length≤60) && decide (0 < lv)
  | _=>false
mutual
def fitsB:T→Int→Bool
  | .tup ts,lv=>decide (ts.length≤60) && decide (0 < lv) && fitsA ts (lv - 1)
  | .num i,_=>decide (-(10 ^ 60) < i∧i < 10 ^ 60)
  | .txt x,_=>decide (x.length≤400) && okSigns x
  | .non,_=>false
  | .bl _,_=>false
  | .lst,_=>false
  | .dic,_=>false
def fitsA:List T→Int→Bool
  | [],_=>true
  | t :: r,lv=>fitsB t lv && fitsA r lv
end
def isWorthB (t:T):Bool:=fitsB t 12 && decide (t.size≤1000)
mutual
def T.Sm:T→Prop
  | .txt x=>x.length≤100000
  | .tup ts=>ts.length≤100000∧Sms ts
  | _=>True
def Sms:List T→Prop
  | []=>True
  | t :: r=>t.Sm∧Sms r
end
mutual
theorem tsize_pos:∀ t:T,1≤t.size
  | .non=>by simp [T.size]
  | .bl _=>by simp [T.size]
  | .num _=>by simp [T.size]
  | .lst=>by simp [T.size]
  | .dic=>by simp [T.size]
  | .txt x=>by simp only [T.size]; omega
  | .tup ts=>by have:=tsizes_nn ts; simp only [T.size]; omega
theorem tsizes_nn:∀ ts:List T,0≤tsizes ts
  | []=>by simp [tsizes]
  | t :: r=>by have h1:=tsize_pos t; have h2:=tsizes_nn r; simp only [tsizes]; omega
end
theorem Sms_mem {ts:List T} (h:Sms ts):∀ t∈ts,t.Sm:=by
  induction ts with
  | nil=>intro t ht; cases ht
  | cons x r ih=>
    intro t ht
    rcases List.mem_cons.mp ht with rfl | ht
    · exact h.1
    · exact ih h.2 t ht
inductive RT (H:Hp):V→T→Prop where
  | non:RT H .non .non
  | bl (b:Bool):RT H (.bl b) (.bl b)
  | num (i:Int):RT H (.int i) (.num i)
  | txt (x:Str):RT H (.str x) (.txt x)
  | tup {a:Addr}{vs:List V}{ts:List T}:H a = some (.tup vs)→vs.length = ts.length→(∀ (i:Nat) (v:V) (t:T),vs[i]? = some v→ts[i]? = some t→RT H v t)→RT H (.ref a) (.tup ts)
  | lst {a:Addr}{vs:List V}:H a = some (.lst vs)→RT H (.ref a) .lst
  | dic {a:Addr}{kvs:List (Key × V)}:H a = some (.dK kvs)→RT H (.ref a) .dic
theorem RT.mono {H H':Hp} (s:Same H H') {v:V}{t:T} (h:RT H v t):RT H' v t:=by
  induction h with
  | non=>exact .non
  | bl b=>exact .bl b
  | num i=>exact .num i
  | txt x=>exact .txt x
  | tup e l _ ih=>exact .tup (s _ _ e) l ih
  | lst e=>exact .lst (s _ _ e)
  | dic e=>exact .dic (s _ _ e)
def isNumB:T→Bool
  | .num _=>true
  | _=>false
def spIsNum:Sp:=fun vs H Q _=>∃ (v:V) (t:T),vs = [v]∧RT H v t∧Q (.bl (isNumB t)) H
def spIsSign:Sp:=fun vs H Q _=>∃ c:Nat,vs = [.str ⟨#[c]⟩]∧Q (.bl (signB c)) H
def spFits:Sp:=fun vs H Q _=>∃ (v:V) (t:T) (lv:Int),vs = [v,.int lv]∧RT H v t∧t.Sm∧∀ H',Same H H'→Q (.bl (aloneB lv t)) H'
def aloneSz:T→Int
  | .txt x=>1 + (x.length:Int)
  | _=>1
def spSizeT:Sp:=fun vs H Q _=>∃ (v:V) (t:T),vs = [v]∧RT H v t∧t.Sm∧Q (.int (aloneSz t)) H
def spIsWorth:Sp:=fun vs H Q _=>∃ (v:V) (t:T),vs = [v]∧RT H v t∧t.Sm∧∀ H',Same H H'→Q (.bl (isWorthB t)) H'
theorem lt_one (a b:Nat):decide (([a]:List Nat) < [b]) = decide (a < b):=by
  rw [Bool.eq_iff_iff,decide_eq_true_iff,decide_eq_true_iff]
  constructor
  · intro h
    rcases List.cons_lt_cons_iff.mp h with h | ⟨_,h⟩
    · exact h
    · exact absurd h (List.not_lt_nil _)
  · exact fun h=>List.cons_lt_cons_iff.mpr (.inl h)
section
variable {P:Program}{w:World}{K:PySem.W.Frag}{mg:Str→Option Value}{base:Heap}{f:Addr}{fd:FuncData}{k:Nat}
theorem sc_isnum:FnScope ["thing"] ["thing"] (defScope s_is_number):=⟨rfl,rfl,rfl,by decide +kernel,rfl,by decide +kernel,by decide +kernel⟩
theorem ok_isnum (F:Fun K "is_number" "is_number" s_is_number f fd) (m_isi:mg "isinstance" = none) (m_int:mg "int" = none) (m_bool:mg "bool" = none):FnOk P w K mg base CX0 (k + 1) f fd ["thing"] spIsNum:=by
  refine F.ok sc_isnum (fun vs H Q E h=>?_) (fun cdv A outer s H vs Q E hr h=>?_)
  · obtain ⟨v,t,rfl,_⟩:=h
    rfl
  obtain ⟨v,t,rfl,rt,q⟩:=h
  refine ⟨_,(pss_one (ps_ret (pe_and (pe_callB call_isi rfl m_isi boot_isi (pa_cons (pv 0) (pa_cons (pe_ty rfl m_int boot_intT) pa_nil))) (pe_one (pe_not (pe_callB call_isi rfl m_isi boot_isi (pa_cons (pv 0) (pa_cons (pe_ty rfl m_bool boot_boolT) pa_nil)))))))),?_⟩
  cases rt with
  | non=>exact ⟨_,rfl,_,_,_,_,rfl,.non,isi_ni,_,rfl,iteF q⟩
  | bl b=>exact ⟨_,rfl,_,_,_,_,rfl,.bl b,isi_bi,_,rfl,iteT ⟨_,rfl,_,_,_,_,rfl,.bl b,isi_bb,_,rfl,q⟩⟩
  | num i=>exact ⟨_,rfl,_,_,_,_,rfl,.int i,isi_ii,_,rfl,iteT ⟨_,rfl,_,_,_,_,rfl,.int i,isi_ib,_,rfl,q⟩⟩
  | txt x=>exact ⟨_,rfl,_,_,_,_,rfl,.str x,isi_si,_,rfl,iteF q⟩
  | tup e _ _=>exact ⟨_,rfl,_,_,_,_,rfl,.tup e,isi_ti,_,rfl,iteF q⟩
  | lst e=>exact ⟨_,rfl,_,_,_,_,rfl,.lst e,isi_li,_,rfl,iteF q⟩
  | dic e=>exact ⟨_,rfl,_,_,_,_,rfl,.dK e,isi_di,_,rfl,iteF q⟩
theorem sc_issign:FnScope ["sign"] ["sign"] (defScope s_is_sign):=⟨rfl,rfl,rfl,by decide +kernel,rfl,by decide +kernel,by decide +kernel⟩
theorem str_one_ne (c d:Nat):(!decide (V.str ⟨#[c]⟩ = V.str ⟨#[d]⟩)) = decide (c≠d):=by
  rw [Bool.eq_iff_iff]
  simp
theorem ok_issign (F:Fun K "is_sign" "is_sign" s_is_sign f fd) (m_ord:mg "ord" = none) (m_PERCENT:∃ t,mg "PERCENT" = some (.int 37 t)):FnOk P w K mg base CX0 (k + 1) f fd ["sign"] spIsSign:=by
  refine F.ok sc_issign (fun vs H Q E h=>?_) (fun cdv A outer s H vs Q E hr h=>?_)
  · obtain ⟨c,rfl,_⟩:=h
    rfl
  obtain ⟨c,rfl,q⟩:=h
  refine ⟨_,(pss_one (ps_ret (pe_and (pe_chain op_le_str op_le_str pe_str (pv 0) pe_str) (pe_and (pe_cmpR op_ne (pv 0) pe_str (nomark _)) (pe_one (pe_cmpR op_ne (pe_callB (call_ord) rfl m_ord boot_ordB (pa_cons (pv 0) pa_nil)) (pe_globI rfl m_PERCENT) (nomark _))))))),?_⟩
  have e32:(Str.ofString " ").cps.toList = [32]:=by decide +kernel
  have e126:(Str.ofString "~").cps.toList = [126]:=by decide +kernel
  have e34:Str.ofString "\"" = ⟨#[34]⟩:=by decide +kernel
  have l1:(!decide ((Str.mk #[c]).cps.toList < (Str.ofString " ").cps.toList)) = decide (32≤c):=by rw [e32]; show (!decide (([c]:List Nat) < [32])) = _; rw [lt_one,Bool.eq_iff_iff]; simp
  have l2:(!decide ((Str.ofString "~").cps.toList < (Str.mk #[c]).cps.toList)) = decide (c≤126):=by rw [e126]; show (!decide (([126]:List Nat) < [c])) = _; rw [lt_one,Bool.eq_iff_iff]; simp
  have l3:(!decide (V.str ⟨#[c]⟩ = V.str (Str.ofString "\""))) = decide (c≠34):=by rw [e34]; exact str_one_ne c 34
  have l4:(!decide (V.int ((((Str.mk #[c]).cps.getD 0 0:Nat)):Int) = V.int 37)) = decide (c≠37):=by
    show (!decide (V.int (c:Int) = V.int 37)) = decide (c≠37)
    rw [Bool.eq_iff_iff]
    simp
    omega
  refine ⟨_,rfl,_,_,rfl,rfl,_,rfl,?_⟩
  have fin:∀ b:Bool,signB c = b→Q (.bl b) H:=fun b e=>by rw [← e]; exact q
  refine ite2 (fun e=>?_) (fun e=>?_)
  · have e1:decide (32≤c) = true:=by rw [← l1]; exact e
    refine ⟨_,_,rfl,rfl,_,rfl,?_⟩
    refine ite2 (fun e=>?_) (fun e=>?_)
    · have e2:decide (c≤126) = true:=by rw [← l2]; exact e
      refine ⟨_,rfl,rfl,_,rfl,?_⟩
      refine ite2 (fun e=>?_) (fun e=>?_)
      · have e3:decide (c≠34) = true:=by rw [← l3]; exact e
        refine ⟨_,rfl,_,rfl,rfl,rfl,fin _ ?_⟩
        rw [l4]
        unfold signB
        rw [e1,e2,e3]
        rfl
      · have e3:decide (c≠34) = false:=by rw [← l3]; exact Bool.eq_false_iff.mpr e
        refine fin _ ?_
        unfold signB
        rw [e1,e2,e3]
        rfl
    · have e2:decide (c≤126) = false:=by rw [← l2]; exact Bool.eq_false_iff.mpr e
      refine fin _ ?_
      unfold signB
      rw [e1,e2]
      rfl
  · have e1:decide (32≤c) = false:=by rw [← l1]; exact Bool.eq_false_iff.mpr e
    refine ⟨_,rfl,iteF (fin _ ?_)⟩
    unfold signB
    rw [e1]
    rfl
theorem sc_fits:FnScope ["thing","levels"] ["thing","levels"] (defScope s_fits_alone):=⟨rfl,rfl,rfl,by decide +kernel,rfl,by decide +kernel,by decide +kernel⟩
theorem all_map {α:Type} (p:α→Bool) (l:List α):(l.map p).all id = l.all p:=by rw [List.all_map]; rfl
theorem ok_fits (F:Fun K "fits_alone" "fits_alone" s_fits_alone f fd) (G_is_number:Have P w K mg base "is_number" k ["thing"] spIsNum) (G_is_sign:Have P w K mg base "is_sign" k ["sign"] spIsSign)
    (m_isi:mg "isinstance" = none) (m_str:mg "str" = none) (m_tuple:mg "tuple" = none) (m_len:mg "len" = none) (m_all:mg "all" = none) (m_abs:mg "abs" = none) (m_MOST_SIGNS:∃ t,mg "MOST_SIGNS" = some (.int 400 t)) (m_MOST_ITEMS:∃ t,mg "MOST_ITEMS" = some (.int 60 t)):
    FnOk P w K mg base CX0 (k + 1) f fd ["thing","levels"] spFits:=by
  refine F.ok sc_fits (fun vs H Q E h=>?_) (fun cdv A outer s H vs Q E hr h=>?_)
  · obtain ⟨v,t,lv,rfl,_⟩:=h
    rfl
  obtain ⟨v,t,lv,rfl,rt,sm,q⟩:=h
  refine ⟨_,(pss_cons (ps_if (pt_val (pe_fn G_is_number hr rfl (pa_cons (pv 0) pa_nil))) (pss_one (ps_ret (pe_cmpR op_lt (pe_callB (call_abs) rfl m_abs boot_absB (pa_cons (pv 0) pa_nil)) (pe_op op_pow pe_int pe_int) (nomark _)))) pss_nil)
    (pss_cons (ps_if (pt_val (pe_callB call_isi rfl m_isi boot_isi (pa_cons (pv 0) (pa_cons (pe_ty rfl m_str boot_strT) pa_nil)))) (pss_one (ps_ret (pe_and (pe_cmpR op_le (pe_callB call_len rfl m_len PySem.boot_len (pa_cons (pv 0) pa_nil)) (pe_globI rfl m_MOST_SIGNS) (nomark _)) (pe_one (pe_callB (call_all_bools rfl) rfl m_all boot_allB (pa_cons (pe_lcomp [] [] rfl rfl (by decide +kernel) rfl (by decide +kernel) rfl (by decide +kernel) trivial rfl trivial (pi_str (pv 0)) (fun C s H fp=>⟨pifs_nil,(pe_fn G_is_sign hr rfl (pa_cons (pv 0) pa_nil))⟩)) pa_nil)))))) pss_nil)
    (pss_one (ps_ret (pe_and (pe_callB call_isi rfl m_isi boot_isi (pa_cons (pv 0) (pa_cons (pe_ty rfl m_tuple boot_tupleT) pa_nil))) (pe_and (pe_cmpR op_le (pe_callB call_len rfl m_len PySem.boot_len (pa_cons (pv 0) pa_nil)) (pe_globI rfl m_MOST_ITEMS) (nomark _)) (pe_one (pe_cmpR op_gt (pv 1) pe_int (nomark _))))))))),?_⟩
  have q0:∀ b:Bool,aloneB lv t = b→Q (.bl b) H:=fun b e=>by rw [← e]; exact q H (Same.refl H)
  refine ⟨_,rfl,v,t,rfl,rt,_,rfl,?_⟩
  cases rt with
  | non=>exact iteF ⟨_,rfl,_,_,_,_,rfl,.non,isi_ns,_,rfl,iteF ⟨_,rfl,_,_,_,_,rfl,.non,isi_nt,_,rfl,iteF (q0 _ rfl)⟩⟩
  | bl b=>exact iteF ⟨_,rfl,_,_,_,_,rfl,.bl b,isi_bs,_,rfl,iteF ⟨_,rfl,_,_,_,_,rfl,.bl b,isi_bt,_,rfl,iteF (q0 _ rfl)⟩⟩
  | lst e=>exact iteF ⟨_,rfl,_,_,_,_,rfl,.lst e,isi_ls,_,rfl,iteF ⟨_,rfl,_,_,_,_,rfl,.lst e,isi_lt,_,rfl,iteF (q0 _ rfl)⟩⟩
  | dic e=>exact iteF ⟨_,rfl,_,_,_,_,rfl,.dK e,isi_ds,_,rfl,iteF ⟨_,rfl,_,_,_,_,rfl,.dK e,isi_dt,_,rfl,iteF (q0 _ rfl)⟩⟩
  | num i=>
    refine iteT ⟨_,rfl,i,rfl,_,_,rfl,rfl,⟨by decide,by decide,by decide⟩,_,_,rfl,rfl,q0 _ ?_⟩
    show decide (-(10 ^ 60) < i∧i < 10 ^ 60) = decide ((if i < 0 then -i else i) < 10 ^ (60:Int).toNat)
    have e:(10:Int) ^ (60:Int).toNat = 10 ^ 60:=rfl
    rw [e,Bool.eq_iff_iff,decide_eq_true_iff,decide_eq_true_iff]
    constructor
    · intro h
      split <;> omega
    · split <;> intro h <;> omega
  | txt x=>
    refine iteF ⟨_,rfl,_,_,_,_,rfl,.str x,isi_ss,_,rfl,iteT ?_⟩
    have hx:x.length≤100000:=sm
    refine ⟨_,rfl,_,_,rfl,⟨small (by omega),rfl⟩,_,_,rfl,rfl,_,rfl,?_⟩
    refine ite2 (fun e=>?_) (fun e=>?_)
    · have e1:(x.length:Int)≤400:=of_decide_eq_true e
      dsimp only [tRet,tOp,tC,tCB,tCons,tNil]
      have hsz:x.cps.size = x.length:=rfl
      refine rd_mapS (x.cps.toList.map fun c=>V.bl (signB c)) (by rfl) (by rw [List.length_map]; simp) (by rw [hsz]; exact small (by omega)) (fun i c y H1 R hc hy s1 hR=>?_) (fun H1 D s1 hD=>?_)
      · have hc':x.cps.toList[i]? = some c:=by simpa using hc
        rw [List.getElem?_map,hc'] at hy
        cases hy
        exact ⟨_,rfl,c,rfl,hR _ (Same.refl _)⟩
      · refine ⟨D,x.cps.toList.map signB,rfl,SqL.of ?_,?_⟩
        · rw [upd_same,List.map_map]; rfl
        · have:=q _ (s1.trans (Same.new (o:=.lst (x.cps.toList.map fun c=>V.bl (signB c))) hD))
          rw [all_map]
          have e3:aloneB lv (.txt x) = x.cps.toList.all signB:=by
            show (decide (x.length≤400) && okSigns x) = _
            rw [decide_eq_true (by omega)]
            rfl
          rw [← e3]
          exact this
    · have e1:¬ (x.length:Int)≤400:=of_decide_eq_false (Bool.eq_false_iff.mpr e)
      refine q0 _ ?_
      show (decide (x.length≤400) && okSigns x) = _
      rw [decide_eq_false (by omega)]
      rfl
  | @tup a vs ts e l _=>
    refine iteF ⟨_,rfl,_,_,_,_,rfl,.tup e,isi_ts,_,rfl,iteF ?_⟩
    refine ⟨_,rfl,_,_,_,_,rfl,.tup e,isi_tt,_,rfl,iteT ?_⟩
    refine ⟨_,rfl,_,_,rfl,.inr ⟨_,SqT.of e,rfl⟩,_,_,rfl,rfl,_,rfl,?_⟩
    refine ite2 (fun c=>?_) (fun c=>?_)
    · have c1:(vs.length:Int)≤60:=of_decide_eq_true c
      refine ⟨_,rfl,_,_,rfl,rfl,q0 _ ?_⟩
      show (decide (ts.length≤60) && decide (0 < lv)) = _
      rw [decide_eq_true (by omega),Bool.true_and]
    · have c1:¬ (vs.length:Int)≤60:=of_decide_eq_false (Bool.eq_false_iff.mpr c)
      refine q0 _ ?_
      show (decide (ts.length≤60) && decide (0 < lv)) = _
      rw [decide_eq_false (by omega),Bool.false_and]
theorem sc_sizeT:FnScope ["worth"] ["worth"] (defScope sSizeA):=⟨rfl,rfl,rfl,by decide +kernel,rfl,by decide +kernel,by decide +kernel⟩
theorem ok_sizeT (F:Fun K "size_alone" "size_alone" sSizeA f fd) (m_isi:mg "isinstance" = none) (m_str:mg "str" = none) (m_len:mg "len" = none):FnOk P w K mg base CX0 (k + 1) f fd ["worth"] spSizeT:=by
  refine F.ok sc_sizeT (fun vs H Q E h=>?_) (fun cdv A outer s H vs Q E hr h=>?_)
  · obtain ⟨v,x,rfl,_⟩:=h
    rfl
  obtain ⟨v,t,rfl,rt,sm,q⟩:=h
  refine ⟨_,pss_one (ps_ret (pe_ifExp (pt_val (pe_callB call_isi rfl m_isi boot_isi (pa_cons (pv 0) (pa_cons (pe_ty rfl m_str boot_strT) pa_nil)))) (pe_op op_add pe_int (pe_callB call_len rfl m_len PySem.boot_len (pa_cons (pv 0) pa_nil))) pe_int)),?_⟩
  cases rt with
  | non=>exact ⟨_,rfl,_,_,_,_,rfl,.non,isi_ns,_,rfl,iteF q⟩
  | bl b=>exact ⟨_,rfl,_,_,_,_,rfl,.bl b,isi_bs,_,rfl,iteF q⟩
  | num i=>exact ⟨_,rfl,_,_,_,_,rfl,.int i,isi_is,_,rfl,iteF q⟩
  | lst e=>exact ⟨_,rfl,_,_,_,_,rfl,.lst e,isi_ls,_,rfl,iteF q⟩
  | dic e=>exact ⟨_,rfl,_,_,_,_,rfl,.dK e,isi_ds,_,rfl,iteF q⟩
  | tup e _ _=>exact ⟨_,rfl,_,_,_,_,rfl,.tup e,isi_ts,_,rfl,iteF q⟩
  | txt x=>
    have hx:x.length≤100000:=sm
    refine ⟨_,rfl,_,_,_,_,rfl,.str x,isi_ss,_,rfl,iteT ?_⟩
    exact ⟨_,rfl,_,_,rfl,⟨small (by omega),rfl⟩,_,_,rfl,rfl,q⟩
end
end D
set_option Elab.async false
set_option linter.all false
set_option maxRecDepth 100000
set_option maxHeartbeats 4000000
namespace D
open PySem L2
structure StR (H0 H:Hp) (vs:List V) (ps:List (T × Int)):Prop where
  len:vs.length = ps.length
  at':∀ (i:Nat) (v:V) (p:T × Int),vs[i]? = some v→ps[i]? = some p→∃ (a:Addr) (u:V),v = .ref a∧H a = some (.tup [u,.int p.2])∧RT H0 u p.1
theorem StR.mono {H0 H H':Hp} (s:Tups H H') {vs:List V}{ps:List (T × Int)} (h:StR H0 H vs ps):StR H0 H' vs ps:=
  ⟨h.len,fun i v p e1 e2=>let ⟨a,u,x,y,z⟩:=h.at' i v p e1 e2; ⟨a,u,x,s _ _ y,z⟩⟩
theorem StR.nil {H0 H:Hp}:StR H0 H [] []:=⟨rfl,fun i v p e=>by simp at e⟩
theorem StR.app {H0 H:Hp}{vs us:List V}{ps qs:List (T × Int)} (h:StR H0 H vs ps) (g:StR H0 H us qs):StR H0 H (vs ++ us) (ps ++ qs):=by
  refine ⟨by rw [List.length_append,List.length_append,h.len,g.len],fun i v p e1 e2=>?_⟩
  by_cases hi:i < vs.length
  · rw [List.getElem?_append_left hi] at e1
    rw [List.getElem?_append_left (h.len ▸ hi)] at e2
    exact h.at' i v p e1 e2
  · rw [List.getElem?_append_right (by omega)] at e1
    rw [List.getElem?_append_right (by have:=h.len; omega)] at e2
    rw [h.len] at e1
    exact g.at' _ v p e1 e2
theorem StR.one {H0 H:Hp}{a:Addr}{u:V}{p:T × Int} (e:H a = some (.tup [u,.int p.2])) (r:RT H0 u p.1):StR H0 H [.ref a] [p]:=by
  refine ⟨rfl,fun i v' p' e1 e2=>?_⟩
  cases i with
  | zero=>
    have q1:V.ref a = v':=by simpa using e1
    have q2:p = p':=by simpa using e2
    subst q1 q2
    exact ⟨a,u,rfl,e,r⟩
  | succ j=>simp at e1
theorem StR.front {H0 H:Hp}{vs:List V}{ps:List (T × Int)}{v:V}{p:T × Int} (h:StR H0 H (vs ++ [v]) (ps ++ [p])):StR H0 H vs ps∧∃ (a:Addr) (u:V),v = .ref a∧H a = some (.tup [u,.int p.2])∧RT H0 u p.1:=by
  have l:=h.len
  rw [List.length_append,List.length_append] at l
  have l':vs.length = ps.length:=by simpa using l
  refine ⟨⟨l',fun i v' p' e1 e2=>?_⟩,?_⟩
  · have h1:=(List.getElem?_eq_some_iff.mp e1).1
    exact h.at' i v' p' (by rw [List.getElem?_append_left h1]; exact e1) (by rw [List.getElem?_append_left (l' ▸ h1)]; exact e2)
  · exact h.at' vs.length v p (by rw [List.getElem?_append_right (Nat.le_refl _)]; simp) (by rw [l',List.getElem?_append_right (Nat.le_refl _)]; simp)
theorem same_tupsD {H H':Hp} (s:Same H H'):Tups H H':=fun a vs e=>s a _ e
theorem same_putD {H H1:Hp}{l:Addr}{o:HO} (s:Same H H1) (hl:H l = none):Same H (upd H1 l o):=fun c u e=>by rw [upd_ne (ne_of_none e hl)]; exact s c u e
def szs:List (T × Int)→Int
  | []=>0
  | p :: r=>p.1.size + szs r
def nds:List (T × Int)→Nat
  | []=>0
  | p :: r=>p.1.nodes + nds r
def fts:List (T × Int)→Bool
  | []=>true
  | p :: r=>fitsB p.1 p.2 && fts r
theorem szs_app (a b:List (T × Int)):szs (a ++ b) = szs a + szs b:=by
  induction a with
  | nil=>simp [szs]
  | cons p r ih=>simp only [List.cons_append,szs,ih]; omega
theorem nds_app (a b:List (T × Int)):nds (a ++ b) = nds a + nds b:=by
  induction a with
  | nil=>simp [nds]
  | cons p r ih=>simp only [List.cons_append,nds,ih]; omega
theorem fts_app (a b:List (T × Int)):fts (a ++ b) = (fts a && fts b):=by
  induction a with
  | nil=>simp [fts]
  | cons p r ih=>simp only [List.cons_append,fts,ih,Bool.and_assoc]
theorem szs_nn:∀ ps:List (T × Int),0≤szs ps
  | []=>by simp [szs]
  | p :: r=>by have h1:=tsize_pos p.1; have h2:=szs_nn r; simp only [szs]; omega
theorem szs_map (ts:List T) (lv:Int):szs (ts.map fun t=>(t,lv)) = tsizes ts:=by
  induction ts with
  | nil=>rfl
  | cons t r ih=>simp only [List.map_cons,szs,tsizes,ih]
theorem nds_map (ts:List T) (lv:Int):nds (ts.map fun t=>(t,lv)) = tnodes ts:=by
  induction ts with
  | nil=>rfl
  | cons t r ih=>simp only [List.map_cons,nds,tnodes,ih]
theorem fts_map (ts:List T) (lv:Int):fts (ts.map fun t=>(t,lv)) = fitsA ts lv:=by
  induction ts with
  | nil=>rfl
  | cons t r ih=>simp only [List.map_cons,fts,fitsA,ih]
def valB (ps:List (T × Int)) (whole:Int):Bool:=fts ps && decide (whole + szs ps≤1000)
theorem alone_fits {t:T}{lv:Int} (h:aloneB lv t = false):fitsB t lv = false:=by
  cases t with
  | tup ts=>
    have h:(decide (ts.length≤60) && decide (0 < lv)) = false:=h
    simp only [fitsB,h,Bool.false_and]
  | num i=>exact h
  | txt x=>exact h
  | non=>rfl
  | bl b=>rfl
  | lst=>rfl
  | dic=>rfl
theorem alone_leaf {t:T}{lv:Int} (h:aloneB lv t = true) (hn:∀ ts,t≠.tup ts):fitsB t lv = true∧t.size = aloneSz t:=by
  cases t with
  | tup ts=>exact absurd rfl (hn ts)
  | num i=>exact ⟨h,rfl⟩
  | txt x=>exact ⟨h,rfl⟩
  | non=>cases h
  | bl b=>cases h
  | lst=>cases h
  | dic=>cases h
theorem aloneSz_le (t:T):aloneSz t≤t.size∧1≤aloneSz t:=by
  cases t with
  | tup ts=>have:=tsizes_nn ts; simp only [aloneSz,T.size]; omega
  | txt x=>simp only [aloneSz,T.size]; omega
  | _=>simp [aloneSz,T.size]
section
variable {P:Program}{w:World}{K:PySem.W.Frag}{mg:Str→Option Value}{base:Heap}{f:Addr}{fd:FuncData}{k:Nat}
theorem sc_isworth:FnScope ["thing","waiting","whole","pair","item","levels"] ["thing"] (defScope s_is_worth):=⟨rfl,rfl,rfl,by decide +kernel,rfl,by decide +kernel,by decide +kernel⟩
theorem ok_isworth (F:Fun K "is_worth" "is_worth" s_is_worth f fd) (G_fits_alone:Have P w K mg base "fits_alone" k ["thing","levels"] spFits) (G_size_alone:Have P w K mg base "size_alone" k ["worth"] spSizeT)
    (m_isi:mg "isinstance" = none) (m_tuple:mg "tuple" = none) (m_len:mg "len" = none) (m_MOST_DEPTH:∃ t,mg "MOST_DEPTH" = some (.int 12 t)) (m_MOST_SIZE:∃ t,mg "MOST_SIZE" = some (.int 1000 t)):
    FnOk P w K mg base CX0 (k + 1) f fd ["thing"] spIsWorth:=by
  refine F.ok sc_isworth (fun vs H Q E h=>?_) (fun cdv A outer s H vs Q E hr h=>?_)
  · obtain ⟨v,t,rfl,_⟩:=h
    rfl
  obtain ⟨v,t,rfl,rt,sm,q⟩:=h
  refine ⟨_,(pss_cons (ps_set (i:=1) sc_isworth.nd rfl (Or.inl rfl) (pe_lst (pa_cons (pe_tup (pa_cons (pv 0) (pa_cons (pe_globI rfl m_MOST_DEPTH) pa_nil))) pa_nil)))
    (pss_cons (ps_set (i:=2) sc_isworth.nd rfl (Or.inl rfl) pe_int)
    (pss_cons (ps_while PassesOwn.never (pt_cmpR op_gt (pe_callB call_len rfl m_len PySem.boot_len (pa_cons (pv 1) pa_nil)) pe_int (nomark _)) (pss_cons (ps_set (i:=3) sc_isworth.nd rfl (Or.inl rfl) (pe_bm0 PySem.F.plainAttrs_list PySem.F.slot_list_pop PySem.F.type_list_pop mt_pop (pv 1)))
    (pss_cons (ps_set (i:=4) sc_isworth.nd rfl (Or.inl rfl) (pe_ix ix_tup (pv 3) pe_int (fun _ _=>rfl)))
    (pss_cons (ps_set (i:=5) sc_isworth.nd rfl (Or.inr rfl) (pe_ix ix_tup (pv 3) pe_int (fun _ _=>rfl)))
    (pss_cons (ps_if (pt_not (pt_val (pe_fn G_fits_alone hr rfl (pa_cons (pv 4) (pa_cons (pv 5) pa_nil))))) (pss_one (ps_ret pe_bl)) pss_nil)
    (pss_cons (ps_aug (i:=2) sc_isworth.nd rfl (Or.inl rfl) (pe_fn G_size_alone hr rfl (pa_cons (pv 4) pa_nil)) (ip_of iop_add))
    (pss_cons (ps_if (pt_cmpR op_gt (pv 2) (pe_globI rfl m_MOST_SIZE) (nomark _)) (pss_one (ps_ret pe_bl)) pss_nil)
    (pss_one (ps_if (pt_val (pe_callB call_isi rfl m_isi boot_isi (pa_cons (pv 4) (pa_cons (pe_ty rfl m_tuple boot_tupleT) pa_nil)))) (pss_one (ps_expr (pe_bm PySem.F.plainAttrs_list PySem.F.slot_list_extend PySem.F.type_list_extend mt_extend (pv 1) (pa_cons (pe_lcomp [5] ["levels"] rfl rfl (by decide +kernel) rfl (by decide +kernel) rfl (by decide +kernel) ⟨rfl,trivial⟩ rfl ⟨⟨rfl,rfl,Or.inr (Or.inl rfl),(by show (some NameKind.cell:Option NameKind)≠some .local; decide),⟨_,rfl⟩⟩,trivial⟩ (pi_tup (pv 4)) (fun C s H fp=>⟨pifs_nil,(pe_tup (pa_cons (pv 0) (pa_cons (pe_op op_sub (pv 1) pe_int) pa_nil)))⟩)) pa_nil)))) pss_nil)))))))))
    (pss_one (ps_ret pe_bl))))),?_⟩
  refine ⟨_,rfl,(by show 2≤sizeLine; decide),fun a ha=>?_⟩
  refine ⟨(by show 1≤sizeLine; decide),fun l hl=>?_⟩
  have s1:Same H (upd (upd H a (.tup [v,.int 12])) l (.lst [.ref a])):=(Same.new ha).trans (Same.new hl)
  have hlH:H l = none:=by
    cases e:H l with
    | none=>rfl
    | some o=>have:=Same.new (o:=.tup [v,.int 12]) ha l o e; rw [hl] at this; cases this
  have ea:upd (upd H a (.tup [v,.int 12])) l (.lst [.ref a]) a = some (.tup [v,.int 12]):=by rw [upd_ne (ne_of_none upd_same hl)]; exact upd_same
  have st0:StR H (upd (upd H a (.tup [v,.int 12])) l (.lst [.ref a])) [.ref a] [(t,12)]:=StR.one (p:=(t,12)) ea rt
  refine ⟨fun m σ' H'=>∃ (vs:List V) (ps:List (T × Int)) (whole:Int) (o3 o4 o5:Option V),σ' = [some v,some (.ref l),some (.int whole),o3,o4,o5]∧H' l = some (.lst vs)∧StR H H' vs ps∧m = nds ps∧0≤whole∧whole≤1000 ∧
      (vs.length:Int)≤60 * whole + 1∧(∀ p∈ps,p.1.Sm)∧valB ps whole = isWorthB t∧Same H H',
    ⟨_,[.ref a],[(t,12)],0,none,none,none,rfl,upd_same,st0,rfl,Int.le_refl _,by decide,by simp,fun p hp=>by rw [List.mem_singleton.mp hp]; exact sm,?_,s1⟩,fun m σ' H' hW=>?_⟩
  · unfold valB isWorthB
    simp only [fts,szs,Bool.and_true]
    congr 2
    rw [eq_iff_iff]
    constructor <;> intro h <;> omega
  obtain ⟨vs,ps,whole,o3,o4,o5,rfl,hlv,hst,hm,hw0,hw1,hvl,hsm,hval,sH⟩:=hW
  refine ⟨_,rfl,_,_,rfl,.inl ⟨_,SqL.of hlv,rfl⟩,_,_,rfl,rfl,_,rfl,?_⟩
  refine ite2 (fun c=>?_) (fun c=>?_)
  · have c1:(0:Int) < vs.length:=of_decide_eq_true c
    refine ⟨_,fun _ _ h=>h,?_⟩
    rcases List.eq_nil_or_concat vs with rfl | ⟨vs',vl,e⟩
    · simp at c1
    rw [List.concat_eq_append] at e
    subst e
    rcases List.eq_nil_or_concat ps with rfl | ⟨ps',p,e⟩
    · have:=hst.len; simp at this
    rw [List.concat_eq_append] at e
    subst e
    obtain ⟨hst',ap,u,rfl,hap,rtu⟩:=hst.front
    have ed:(vs' ++ [V.ref ap]).dropLast = vs':=List.dropLast_concat
    have smp:p.1.Sm:=hsm p (by simp)
    refine ⟨_,rfl,.inl ⟨rfl,_,SqL.of hlv⟩,l,_,.ref ap,rfl,rfl,hlv,by simp,?_⟩
    rw [ed]
    have sH1:Same H (upd H' l (.lst vs')):=same_putD sH hlH
    have hap1:upd H' l (.lst vs') ap = some (.tup [u,.int p.2]):=tups_put hlv _ _ hap
    refine ⟨_,rfl,ap,_,0,u,rfl,rfl,SqT.of hap1,rfl,?_⟩
    refine ⟨_,rfl,ap,_,1,.int p.2,rfl,rfl,SqT.of hap1,rfl,?_⟩
    refine ⟨_,rfl,_,rfl,u,p.1,p.2,rfl,rtu.mono sH1,smp,fun H2 s2=>⟨_,rfl,?_⟩⟩
    have vb:valB (ps' ++ [p]) whole = ((fts ps' && fitsB p.1 p.2) && decide (whole + (szs ps' + p.1.size)≤1000)):=by
      unfold valB
      rw [fts_app,szs_app]
      simp only [fts,szs,Bool.and_true]
      congr 2
      rw [eq_iff_iff]
      constructor <;> intro h <;> omega
    have hsn:=szs_nn ps'
    have hal:=aloneSz_le p.1
    have sH2:=sH1.trans s2
    cases hal1:aloneB p.2 p.1 with
    | false=>
      refine iteT ?_
      have:isWorthB t = false:=by
        rw [← hval,vb,alone_fits hal1]
        simp
      have fin:=q _ sH2
      rw [this] at fin
      exact fin
    | true=>
      refine iteF ?_
      refine ⟨_,rfl,_,rfl,u,p.1,rfl,rtu.mono sH2,smp,_,_,rfl,rfl,?_⟩
      refine ⟨_,rfl,_,_,rfl,rfl,_,rfl,?_⟩
      refine ite2 (fun c2=>?_) (fun c2=>?_)
      · have c3:(1000:Int) < whole + aloneSz p.1:=of_decide_eq_true c2
        have:isWorthB t = false:=by
          rw [← hval,vb,decide_eq_false (by omega)]
          simp
        have fin:=q _ sH2
        rw [this] at fin
        exact fin
      · have c3:¬ (1000:Int) < whole + aloneSz p.1:=of_decide_eq_false (Bool.eq_false_iff.mpr c2)
        have hl2:H2 l = some (.lst vs'):=s2 _ _ upd_same
        have hst2:StR H H2 vs' ps':=(hst'.mono (tups_put hlv)).mono (same_tupsD s2)
        have hvl':((vs'.length:Nat):Int) + 1≤60 * whole + 1:=by
          rw [List.length_append] at hvl
          have:([V.ref ap]:List V).length = 1:=rfl
          omega
        have hnd:nds (ps' ++ [p]) = nds ps' + p.1.nodes:=by rw [nds_app]; simp [nds]
        have hsm':∀ p'∈ps',p'.1.Sm:=fun p' hp'=>hsm p' (List.mem_append_left _ hp')
        have leaf:∀ (t':T),p.1 = t'→(∀ ts,t'≠.tup ts)→p.1.nodes = 1→∃ m',m' < m∧∃ (vs:List V) (ps:List (T × Int)) (whole':Int) (o3 o4 o5:Option V),[some v,some (.ref l),some (.int (whole + aloneSz p.1)),some (.ref ap),some u,some (.int p.2)] = [some v,some (.ref l),some (.int whole'),o3,o4,o5]∧H2 l = some (.lst vs)∧StR H H2 vs ps∧m' = nds ps∧0≤whole'∧whole'≤1000 ∧
            (vs.length:Int)≤60 * whole' + 1∧(∀ p∈ps,p.1.Sm)∧valB ps whole' = isWorthB t∧Same H H2:=fun t' e hn hnode=>by
          obtain ⟨hf,hz⟩:=alone_leaf hal1 (by rw [e]; exact hn)
          refine ⟨nds ps',by omega,vs',ps',whole + aloneSz p.1,_,_,_,rfl,hl2,hst2,rfl,by omega,by omega,by omega,hsm',?_,sH2⟩
          rw [← hval,vb,hf,hz]
          unfold valB
          rw [Bool.and_true]
          congr 2
          rw [eq_iff_iff]
          constructor <;> intro h <;> omega
        obtain ⟨tt,lv⟩:=p
        have rt2:RT H2 u tt:=rtu.mono sH2
        cases rt2 with
        | non=>exact ⟨_,rfl,_,_,_,_,rfl,.non,isi_nt,_,rfl,iteF (leaf _ rfl (fun _ z=>nomatch z) rfl)⟩
        | bl b=>exact ⟨_,rfl,_,_,_,_,rfl,.bl b,isi_bt,_,rfl,iteF (leaf _ rfl (fun _ z=>nomatch z) rfl)⟩
        | num i=>exact ⟨_,rfl,_,_,_,_,rfl,.int i,isi_it,_,rfl,iteF (leaf _ rfl (fun _ z=>nomatch z) rfl)⟩
        | txt x=>exact ⟨_,rfl,_,_,_,_,rfl,.str x,isi_st,_,rfl,iteF (leaf _ rfl (fun _ z=>nomatch z) rfl)⟩
        | lst e=>exact ⟨_,rfl,_,_,_,_,rfl,.lst e,isi_lt,_,rfl,iteF (leaf _ rfl (fun _ z=>nomatch z) rfl)⟩
        | dic e=>exact ⟨_,rfl,_,_,_,_,rfl,.dK e,isi_dt,_,rfl,iteF (leaf _ rfl (fun _ z=>nomatch z) rfl)⟩
        | @tup a2 us ts e2 l2 at2=>
          refine ⟨_,rfl,_,_,_,_,rfl,.tup e2,isi_tt,_,rfl,iteT ?_⟩
          have ha60:ts.length≤60:=by
            have h:(decide (ts.length≤60) && decide (0 < lv)) = true:=hal1
            rw [Bool.and_eq_true] at h
            exact of_decide_eq_true h.1
          have hlv0:0 < lv:=by
            have h:(decide (ts.length≤60) && decide (0 < lv)) = true:=hal1
            rw [Bool.and_eq_true] at h
            exact of_decide_eq_true h.2
          refine ⟨_,rfl,.inl ⟨rfl,_,SqL.of hl2⟩,?_⟩
          have at0:∀ (i:Nat) (x:V) (t':T),us[i]? = some x→ts[i]? = some t'→RT H x t':=by
            cases rtu with
            | @tup a3 us3 ts3 e3 l3 at3=>
              have:us3 = us:=by
                have h1:=sH2 _ _ e3
                rw [e2] at h1
                cases h1
                rfl
              subst this
              exact at3
          dsimp only [tCons,tNil]
          refine ⟨_,rfl,a2,rfl,⟨us,SqT.of e2⟩,fun i m2 xs H3=>i≤us.length∧m2 = us.length - i∧StR H H3 xs ((ts.take i).map fun t'=>(t',lv - 1))∧Same H2 H3,⟨_,Nat.zero_le _,rfl,by simpa using StR.nil,Same.refl _⟩,fun i m2 xs H3 hW=>?_⟩
          obtain ⟨hi,hm2,hxs,s3⟩:=hW
          have hxl:xs.length≤60:=by
            have:=hxs.len
            rw [List.length_map,List.length_take] at this
            omega
          refine ⟨small (by omega),?_⟩
          have e3:=s3 _ _ e2
          by_cases hlt:i < us.length
          · refine .inr ⟨⟨us,us[i],SqT.of e3,List.getElem?_eq_getElem hlt⟩,fun y H4 hy=>?_⟩
            obtain ⟨rfl,hy⟩:=hy
            have hy:=hy us (SqT.of e3)
            have hti:ts[i]? = some ts[i]:=List.getElem?_eq_getElem (by omega)
            refine iteT ?_
            refine ⟨_,rfl,_,rfl,_,_,rfl,rfl,(by show 2≤sizeLine; decide),fun a5 ha5=>?_⟩
            have s5:=Same.new (o:=.tup [y,.int (lv - 1)]) ha5
            refine ⟨us.length - (i + 1),by omega,by omega,rfl,?_,s3.trans s5⟩
            rw [take_snoc hti,List.map_append]
            exact (hxs.mono (same_tupsD s5)).app (StR.one (p:=(ts[i],lv - 1)) upd_same (at0 i y ts[i] hy hti))
          · have ei:i = us.length:=by omega
            refine .inl ⟨⟨us,SqT.of e3,by omega⟩,fun D hD=>?_⟩
            have et:ts.take i = ts:=List.take_of_length_le (by omega)
            rw [et] at hxs
            have hl3:=s3 _ _ hl2
            have hl4:upd H3 D (.lst xs) l = some (.lst vs'):=by rw [upd_ne (ne_of_none hl3 hD)]; exact hl3
            refine ⟨l,D,vs',xs,rfl,rfl,hl4,upd_same,?_,?_⟩
            · have h60:vs'.length≤60001:=by omega
              exact small (by omega)
            · have s4:=Same.new (o:=.lst xs) hD
              have t5:=tups_put (o:=.lst (vs' ++ xs)) hl4
              refine ⟨nds ps' + tnodes ts,?_,vs' ++ xs,ps' ++ ts.map (fun t'=>(t',lv - 1)),whole + 1,_,_,_,rfl,upd_same,?_,?_,by omega,?_,?_,?_,?_,?_⟩
              · have:(T.tup ts).nodes = 1 + tnodes ts:=rfl
                have h9:nds (ps' ++ [(T.tup ts,lv)]) = nds ps' + (T.tup ts).nodes:=hnd
                omega
              · exact ((((hst2.mono (same_tupsD s3)).mono (same_tupsD s4)).mono t5)).app ((hxs.mono (same_tupsD s4)).mono t5)
              · rw [nds_app,nds_map]
              · have:aloneSz (T.tup ts) = 1:=rfl
                have c4:¬ (1000:Int) < whole + aloneSz (T.tup ts):=c3
                omega
              · rw [List.length_append]
                omega
              · intro p' hp'
                rcases List.mem_append.mp hp' with hp' | hp'
                · exact hsm' p' hp'
                · obtain ⟨t',ht',rfl⟩:=List.mem_map.mp hp'
                  exact Sms_mem (show Sms ts from (show ts.length≤100000∧Sms ts from smp).2) t' ht'
              · rw [← hval,vb]
                unfold valB
                rw [fts_app,fts_map,szs_app,szs_map]
                have f1:fitsB (T.tup ts) lv = fitsA ts (lv - 1):=by
                  show (decide (ts.length≤60) && decide (0 < lv) && fitsA ts (lv - 1)) = _
                  rw [decide_eq_true ha60,decide_eq_true hlv0]
                  rfl
                have f2:(T.tup ts).size = 1 + tsizes ts:=rfl
                show _ = ((fts ps' && fitsB (T.tup ts) lv) && decide (whole + (szs ps' + (T.tup ts).size)≤1000))
                rw [f1,f2]
                congr 2
                rw [eq_iff_iff]
                constructor <;> intro h <;> omega
              · exact same_putD ((sH2.trans s3).trans s4) hlH
  · have c1:¬ (0:Int) < vs.length:=of_decide_eq_false (Bool.eq_false_iff.mpr c)
    have hv0:vs = []:=List.length_eq_zero_iff.mp (by omega)
    have hp0:ps = []:=List.length_eq_zero_iff.mp (by rw [← hst.len,hv0]; rfl)
    have:isWorthB t = true:=by
      rw [← hval,hp0]
      unfold valB
      simp only [fts,szs,Bool.true_and]
      exact decide_eq_true (by omega)
    have fin:=q _ sH
    rw [this] at fin
    exact fin
end
end D
set_option Elab.async false
set_option linter.all false
set_option maxRecDepth 100000
set_option maxHeartbeats 4000000
namespace L2
open PySem PySem.Spec PyProof.Rows PySem.Builtin
theorem noFill_tuple_mulT:fillsNumberSlot (.type "tuple") "mul" = pure false:=
  PySem.fillsNumberSlot_seq (id:="tuple.__mul__") (r:=some (.builtin "tuple.__rmul__")) PySem.F.slot_tuple_mul.lookup (by decide +kernel) PySem.F.slot_tuple_rmul.lookup (by decide +kernel)
theorem repeat_tupleT:seqRepeat? (.type "tuple") = pure (some (.builtin "tuple.__mul__")):=by
  unfold seqRepeat?
  rw [PySem.seqSlot_of (T:="tuple") (name:="__mul__") (id:="tuple.__mul__") PySem.F.slot_tuple_mul.lookup (by decide +kernel),PySem.seqSlot_of (T:="tuple") (name:="__rmul__") (id:="tuple.__rmul__") PySem.F.slot_tuple_rmul.lookup (by decide +kernel)]
  rfl
theorem rmul_int_tuple (a:Int) (t:Tok) (l:Addr) (dd:Option Addr) (sl:Array (Option Value)) (items:Array Value) (n:Nat):
    Meets (Builtin.«int.__rmul__» ⟨[.int a t,.ref l],[]⟩) (fun _ R s=>s.heap.get? l = some { cls:=.type "tuple",dict:=dd,data:=.seq items n,slots:=sl }∧R (.ok (.ret Value.notImplemented)) s):=
  .of_wp fun prog w A R s h=>by obtain ⟨hp,g,d,tk,os⟩:=s; obtain ⟨hl,h⟩:=h; wp_walk; exact ⟨_,rfl,h⟩
section
variable {prog:Program}{w:World}{A:Around}{E:Value→Shared→Prop}{s:Shared}
end
def rRepT (K:PySem.W.Frag):R2:=fun x y H Q=>∃ (a:Addr) (k:Int) (xs:List V),x = .ref a∧y = .int k∧SqT K H a xs∧xs≠[]∧1 < k∧k < 1000000∧xs.length * k.toNat≤1000000∧∀ p,H p = none→Q (.ref p) (upd H p (.tup (List.replicate k.toNat xs).flatten))
theorem op_catT0 {X:Cx}:OpR X (binaryOp .Add) (fun x y H Q=>∃ (a b:Addr) (ys:List V),x = .ref a∧y = .ref b∧SqT X.K H a []∧SqT X.K H b ys∧Q (.ref b) H):=by
  intro pins s σ H x y v u Q I rx ry h
  obtain ⟨a,b,ys,rfl,rfl,ha,hb,q⟩:=h
  cases rx
  cases ry
  obtain ⟨its,r1,p1,_⟩:=I.tuple ha
  obtain ⟨its2,r2,p2,_⟩:=I.tuple hb
  have e0:its = []:=by cases r1; rfl
  subst e0
  obtain ⟨⟨cls,dd,data,sl⟩,ho,hc,n,hd⟩:=id p1
  obtain ⟨⟨cls2,dd2,data2,sl2⟩,ho2,hc2,n2,hd2⟩:=id p2
  simp only at hc hd hc2 hd2
  subst hc hd hc2 hd2
  exact concat_meets ⟨_,ho,rfl⟩ ⟨_,ho2,rfl⟩ noFill_tuple_add seq_tuple_add PySem.F.slot_tuple_add PySem.F.entry_tuple_add (PySem.F.args_tuple_add_2 _ _)
    (tuple_addW0 a b #[] its2.toArray n n2 dd dd2 sl sl2 rfl) ⟨ho,ho2,⟨.ref b,H,I,rfl,q⟩⟩
end L2
set_option Elab.async false
set_option linter.all false
set_option maxRecDepth 100000
set_option maxHeartbeats 4000000
namespace L2
open PySem PySem.Spec PyProof.Rows
theorem rd_mapR {fr:List Nat}{ta:TA}{te:TE}{σ:St}{H:Hp}{Q:VK} (outs:List V) (hσ:∀ R:List V→Hp→Prop,R [.int outs.length] H→ta σ H R) (hz:outs.length≤1000000)
    (step:∀ (i:Nat) (y:V) (H1:Hp) (R:VK),outs[i]? = some y→Same H H1→(∀ H2,Same H1 H2→R y H2)→te (some (.int (0 + (i:Int))) :: frees fr σ) H1 R)
    (fin:∀ (H1:Hp) (D:Addr),Same H H1→H1 D = none→Q (.ref D) (upd H1 D (.lst outs))):tLComp fr (iRng1 ta) (fun _ H Q=>Q true H) te σ H Q:=by
  have hz2:outs.length≤sizeLine:=Nat.le_trans hz (by decide)
  refine hσ _ ⟨outs.length,rfl,by omega,by omega,fun i m us H1=>i≤outs.length∧m = outs.length - i∧us = outs.take i∧Same H H1,⟨_,Nat.zero_le _,rfl,by simp,Same.refl _⟩,fun i m us H1 hW=>?_⟩
  obtain ⟨hi,hm,hu,sm⟩:=hW
  refine ⟨by rw [hu,List.length_take]; omega,?_⟩
  by_cases hlt:i < outs.length
  · refine .inr ⟨(by show i < (outs.length:Int).toNat; omega),fun v H' hy=>?_⟩
    obtain ⟨rfl,rfl⟩:=hy
    have hy:outs[i]? = some outs[i]:=List.getElem?_eq_getElem hlt
    refine iteT ?_
    refine step i outs[i] H' _ hy sm fun H2 s2=>⟨outs.length - (i + 1),by omega,by omega,rfl,?_,sm.trans s2⟩
    rw [hu,take_snoc hy]
  · refine .inl ⟨(by show (outs.length:Int).toNat≤i; omega),fun D hD=>?_⟩
    have e2:us = outs:=by rw [hu,List.take_of_length_le (by omega)]
    rw [e2]
    exact fin H1 D sm hD
end L2
namespace D
open PySem L2
mutual
def eqW:W→W→Bool
  | .num i,.num j=>i == j
  | .txt x,.txt y=>x == y
  | .lst ws,.lst zs=>eqWs ws zs
  | .num _,.txt _=>false
  | .num _,.lst _=>false
  | .txt _,.num _=>false
  | .txt _,.lst _=>false
  | .lst _,.num _=>false
  | .lst _,.txt _=>false
def eqWs:List W→List W→Bool
  | [],[]=>true
  | w :: r,z :: s=>eqW w z && eqWs r s
  | [],_ :: _=>false
  | _ :: _,[]=>false
end
mutual
theorem eqW_refl:∀ w:W,eqW w w = true
  | .num i=>by simp [eqW]
  | .txt x=>by simp [eqW]
  | .lst ws=>eqWs_refl ws
theorem eqWs_refl:∀ ws:List W,eqWs ws ws = true
  | []=>rfl
  | w :: r=>by simp only [eqWs,eqW_refl w,eqWs_refl r,Bool.and_self]
end
mutual
theorem eqW_symm:∀ w z:W,eqW w z = eqW z w
  | .num i,.num j=>by simp only [eqW]; exact BEq.comm
  | .txt x,.txt y=>by simp only [eqW]; exact BEq.comm
  | .lst ws,.lst zs=>by simp only [eqW]; exact eqWs_symm ws zs
  | .num _,.txt _=>rfl
  | .num _,.lst _=>rfl
  | .txt _,.num _=>rfl
  | .txt _,.lst _=>rfl
  | .lst _,.num _=>rfl
  | .lst _,.txt _=>rfl
theorem eqWs_symm:∀ ws zs:List W,eqWs ws zs = eqWs zs ws
  | [],[]=>rfl
  | w :: r,z :: s=>by simp only [eqWs,eqW_symm w z,eqWs_symm r s]
  | [],_ :: _=>rfl
  | _ :: _,[]=>rfl
end
theorem eqWs_iff:∀ ws zs:List W,eqWs ws zs = ((List.range (min ws.length zs.length)).all (fun j=>eqW (ws.getD j (.num 0)) (zs.getD j (.num 0))) && ws.length == zs.length)
  | [],[]=>rfl
  | [],_ :: _=>rfl
  | _ :: _,[]=>rfl
  | w :: r,z :: s=>by
    rw [eqWs,eqWs_iff r s]
    have e:min (w :: r).length (z :: s).length = min r.length s.length + 1:=by simp only [List.length_cons]; omega
    rw [e,List.range_succ_eq_map,List.all_cons,List.all_map]
    have e2:((w :: r).length == (z :: s).length) = (r.length == s.length):=by simp
    rw [e2,Bool.and_assoc]
    rfl
theorem RW.inj {H:Hp}{v:V}{x:W} (h:RW H v x):∀ {y:W},RW H v y→x = y:=by
  induction h with
  | num i=>intro y g; cases g; rfl
  | txt z=>intro y g; cases g; rfl
  | @lst a vs ws e l _ ih=>
    intro y g
    cases g with
    | @lst _ vs2 zs e2 l2 at2=>
      rw [e] at e2
      cases e2
      congr 1
      refine List.ext_getElem (by omega) fun i h1 h2=>?_
      exact ih i vs[i] ws[i] (List.getElem?_eq_getElem (by omega)) (List.getElem?_eq_getElem h1) (at2 i vs[i] zs[i] (List.getElem?_eq_getElem (by omega)) (List.getElem?_eq_getElem h2))
end D
set_option Elab.async false
set_option linter.all false
set_option maxRecDepth 100000
set_option maxHeartbeats 4000000
namespace L2
open PySem PySem.Spec PyProof.Rows
def rIsiS (K:PySem.W.Frag) (xs:List V) (H:Hp) (Q:VK):Prop:=∃ v T A b,xs = [v,.ty T]∧(TyOf K H v (.type A)∨(A = "tuple"∧∃ a ys,v = .ref a∧SqT K H a ys))∧isi A T = some b∧Q (.bl b) H
theorem call_isiS {X:Cx}:CallR X (.builtin "isinstance") (fun xs H Q=>∃ v T A b,xs = [v,.ty T]∧(TyOf X.K H v (.type A)∨(A = "tuple"∧∃ a ys,v = .ref a∧SqT X.K H a ys))∧isi A T = some b∧Q (.bl b) H):=by
  intro pins s σ H xs us Q I r h
  obtain ⟨v,T,A,b,rfl,ty,e,q⟩:=h
  obtain ⟨u,c,rfl,ru,rc⟩:=vals2 r
  cases (show c = Value.type T from rc)
  rcases ty with ty | ⟨rfl,a,ys,rfl,hs⟩
  · exact isinst_ok I ru ty (isi_ok e) fun tk=>⟨.bl b,H,I.tok tk,rfl,q⟩
  · cases (show u = Value.ref a from ru)
    obtain ⟨its,_,p,_⟩:=I.tuple hs
    obtain ⟨o,h1,h2,_⟩:=p
    exact PySem.W.kia_one PySem.W.kitx_tuple I.kIn ⟨o,h1,h2⟩ (isi_ok e) (fun z=>nomatch z) fun tk=>⟨.bl b,H,I.tok tk,rfl,q⟩
theorem isi_sl:isi "str" "list" = some false:=by decide +kernel
theorem isi_il:isi "int" "list" = some false:=by decide +kernel
theorem isi_tl:isi "tuple" "list" = some false:=by decide +kernel
theorem isi_tb:isi "tuple" "bool" = some false:=by decide +kernel
theorem isi_sb:isi "str" "bool" = some false:=by decide +kernel
theorem boot_listT:bootBuiltins (Str.ofString "list") = some (.type "list"):=by kernel_rfl
end L2
set_option Elab.async false
set_option linter.all false
set_option maxRecDepth 100000
set_option maxHeartbeats 4000000
namespace D
open PySem L2
mutual
def W.Th:W→Prop
  | .num _=>True
  | .txt x=>x.length≤100000∧Signs x
  | .lst ws=>ws.length≤1000∧Ths ws
def Ths:List W→Prop
  | []=>True
  | w :: r=>w.Th∧Ths r
end
mutual
theorem th_of:∀ w:W,w.Ok→w.Th
  | .num _,_=>trivial
  | .txt _,h=>⟨Nat.le_trans h.1 (by decide),h.2⟩
  | .lst ws,h=>⟨Nat.le_trans h.1 (by decide),ths_of ws h.2⟩
theorem ths_of:∀ ws:List W,Oks ws→Ths ws
  | [],_=>trivial
  | w :: r,h=>⟨th_of w h.1,ths_of r h.2⟩
end
theorem Ths_mem {ws:List W} (h:Ths ws):∀ w∈ws,w.Th:=by
  induction ws with
  | nil=>intro w hw; cases hw
  | cons x r ih=>
    intro w hw
    rcases List.mem_cons.mp hw with rfl | hw
    · exact h.1
    · exact ih h.2 w hw
theorem Ths_mk {ws:List W} (h:∀ w∈ws,w.Th):Ths ws:=by
  induction ws with
  | nil=>trivial
  | cons x r ih=>exact ⟨h x List.mem_cons_self,ih fun w hw=>h w (List.mem_cons_of_mem _ hw)⟩
mutual
def fitsW:W→Bool
  | .num i=>decide (-(10 ^ 60) < i∧i < 10 ^ 60)
  | .txt x=>decide (x.length≤400)
  | .lst ws=>decide (ws.length≤60) && fitsWs ws
def fitsWs:List W→Bool
  | []=>true
  | w :: r=>fitsW w && fitsWs r
end
mutual
def W.toT:W→T
  | .num i=>.num i
  | .txt x=>.txt x
  | .lst ws=>.tup (toTs ws)
def toTs:List W→List T
  | []=>[]
  | w :: r=>w.toT :: toTs r
end
theorem toTs_map:∀ ws:List W,toTs ws = ws.map W.toT
  | []=>rfl
  | w :: r=>by simp only [toTs,List.map_cons,toTs_map r]
theorem toTs_len (ws:List W):(toTs ws).length = ws.length:=by rw [toTs_map,List.length_map]
mutual
theorem size_toT:∀ w:W,w.toT.size = w.size
  | .num _=>rfl
  | .txt _=>rfl
  | .lst ws=>by simp only [W.toT,T.size,W.size,sizes_toT ws]
theorem sizes_toT:∀ ws:List W,tsizes (toTs ws) = sizes ws
  | []=>rfl
  | w :: r=>by simp only [toTs,tsizes,sizes,size_toT w,sizes_toT r]
end
mutual
theorem sm_toT:∀ w:W,w.Th→w.toT.Sm
  | .num _,_=>trivial
  | .txt _,h=>h.1
  | .lst ws,h=>⟨by rw [toTs_len]; exact Nat.le_trans h.1 (by decide),sms_toT ws h.2⟩
theorem sms_toT:∀ ws:List W,Ths ws→Sms (toTs ws)
  | [],_=>trivial
  | w :: r,h=>⟨sm_toT w h.1,sms_toT r h.2⟩
end
theorem okSigns_of {x:Str} (h:Signs x):okSigns x = true:=by
  unfold okSigns
  rw [List.all_eq_true]
  intro c hc
  have:=h c hc
  simp [signB,this]
mutual
theorem fits_toT:∀ (w:W) (lv:Nat),w.Th→fitsB w.toT (lv:Int) = (fitsW w && decide (w.depth≤lv))
  | .num i,lv,_=>by
    show decide (-(10 ^ 60) < i∧i < 10 ^ 60) = (decide (-(10 ^ 60) < i∧i < 10 ^ 60) && decide (0≤lv))
    rw [decide_eq_true (Nat.zero_le lv),Bool.and_true]
  | .txt x,lv,h=>by
    show (decide (x.length≤400) && okSigns x) = (decide (x.length≤400) && decide (0≤lv))
    rw [okSigns_of h.2,decide_eq_true (Nat.zero_le lv)]
  | .lst ws,lv,h=>by
    show (decide ((toTs ws).length≤60) && decide (0 < (lv:Int)) && fitsA (toTs ws) ((lv:Int) - 1)) = ((decide (ws.length≤60) && fitsWs ws) && decide (1 + depths ws≤lv))
    rw [toTs_len]
    cases lv with
    | zero=>
      rw [decide_eq_false (show ¬ (0:Int) < ((0:Nat):Int) by omega),decide_eq_false (show ¬ 1 + depths ws≤0 by omega)]
      simp
    | succ n=>
      have e:((n + 1:Nat):Int) - 1 = (n:Int):=by omega
      rw [decide_eq_true (show (0:Int) < ((n + 1:Nat):Int) by omega),e,fits_toTs ws n h.2,Bool.and_true,← Bool.and_assoc]
      congr 2
      rw [eq_iff_iff]
      constructor <;> intro h <;> omega
theorem fits_toTs:∀ (ws:List W) (lv:Nat),Ths ws→fitsA (toTs ws) (lv:Int) = (fitsWs ws && decide (depths ws≤lv))
  | [],lv,_=>by
    show true = (true && decide (0≤lv))
    rw [decide_eq_true (Nat.zero_le lv)]
    rfl
  | w :: r,lv,h=>by
    show (fitsB w.toT lv && fitsA (toTs r) lv) = ((fitsW w && fitsWs r) && decide (max w.depth (depths r)≤lv))
    rw [fits_toT w lv h.1,fits_toTs r lv h.2]
    have e:decide (max w.depth (depths r)≤lv) = (decide (w.depth≤lv) && decide (depths r≤lv)):=by
      rw [Bool.eq_iff_iff,Bool.and_eq_true,decide_eq_true_iff,decide_eq_true_iff,decide_eq_true_iff]
      omega
    rw [e]
    cases fitsW w <;> cases fitsWs r <;> cases decide (w.depth≤lv) <;> cases decide (depths r≤lv) <;> rfl
end
def goodW (x:W):Bool:=fitsW x && (decide (x.size≤1000) && decide ((x.depth:Int)≤12))
theorem isWorth_toT {x:W} (h:x.Th):isWorthB x.toT = goodW x:=by
  unfold isWorthB goodW
  have:=fits_toT x 12 h
  rw [show (12:Int) = ((12:Nat):Int) from rfl,this,size_toT]
  have e:decide ((x.depth:Int)≤((12:Nat):Int)) = decide (x.depth≤12):=by
    rw [Bool.eq_iff_iff,decide_eq_true_iff,decide_eq_true_iff]
    omega
  rw [e]
  cases fitsW x <;> cases decide (x.depth≤12) <;> cases decide (x.size≤1000) <;> rfl
theorem RW.toRT {H:Hp}{v:V}{x:W} (h:RW H v x):RT H v x.toT:=by
  induction h with
  | num i=>exact .num i
  | txt x=>exact .txt x
  | @lst a vs ws e l _ ih=>
    refine .tup e (by rw [toTs_len]; exact l) fun i v t hv ht=>?_
    rw [toTs_map,List.getElem?_map] at ht
    obtain ⟨w,hw,rfl⟩:=Option.map_eq_some_iff.mp ht
    exact ih i v w hv hw
inductive RS (K:PySem.W.Frag) (H:Hp):V→W→Prop where
  | num (i:Int):RS K H (.int i) (.num i)
  | txt (x:Str):RS K H (.str x) (.txt x)
  | lst {a:Addr}{vs:List V}{ws:List W}:SqT K H a vs→vs.length = ws.length→(∀ (i:Nat) (v:V) (w:W),vs[i]? = some v→ws[i]? = some w→RS K H v w)→RS K H (.ref a) (.lst ws)
theorem RS.mono {K:PySem.W.Frag}{H H':Hp} (t:Same H H') {v:V}{w:W} (h:RS K H v w):RS K H' v w:=by
  induction h with
  | num i=>exact .num i
  | txt x=>exact .txt x
  | lst e l _ ih=>exact .lst (t.seqT e) l ih
theorem RW.toRS {K:PySem.W.Frag}{H:Hp}{v:V}{w:W} (h:RW H v w):RS K H v w:=by
  induction h with
  | num i=>exact .num i
  | txt x=>exact .txt x
  | lst e l _ ih=>exact .lst (SqT.of e) l ih
theorem same_tups {H H':Hp} (s:Same H H'):Tups H H':=fun a vs e=>s a _ e
theorem Step.ofSame {b:Addr}{H H':Hp} (hb:IsBox H b) (s:Same H H'):Step b H H':=⟨by obtain ⟨x,y,z,e⟩:=hb; exact ⟨x,y,z,s _ _ e⟩,fun c o _ e=>s c o e⟩
def greatW:W:=.lst [.txt "wrong",.txt "great",.txt ""]
def madeW (x:W):W:=if goodW x = true then .lst [.txt "made",x] else greatW
def spLSize (n:Nat):Sp:=fun vs H Q _=>∃ (v:V) (x:W),vs = [v]∧RW H v x∧x.Th∧x.depth < n∧∀ H',Same H H'→Q (.int x.size) H'
def spLDepth (n:Nat):Sp:=fun vs H Q _=>∃ (v:V) (x:W),vs = [v]∧RW H v x∧x.Th∧x.depth < n∧∀ H',Same H H'→Q (.int x.depth) H'
def spLFits (n:Nat):Sp:=fun vs H Q _=>∃ (v:V) (x:W),vs = [v]∧RW H v x∧x.Th∧x.depth < n∧∀ H',Same H H'→Q (.bl (fitsW x)) H'
def RM (K:PySem.W.Frag) (H:Hp) (v:V) (w:W):Prop:=RS K H v w∧∀ m x,w = .lst [m,x]→∃ a u,v = .ref a∧SqT K H a [.str "made",u]∧RW H u x
theorem RM.mono {K:PySem.W.Frag}{H H':Hp} (t:Same H H') {v:V}{w:W} (h:RM K H v w):RM K H' v w:=
  ⟨h.1.mono t,fun m x e=>let ⟨a,u,e1,e2,e3⟩:=h.2 m x e; ⟨a,u,e1,t.seqT e2,e3.mono (same_tups t)⟩⟩
def spMade (K:PySem.W.Frag) (n:Nat):Sp:=fun vs H Q _=>∃ (v:V) (x:W),vs = [v]∧RW H v x∧x.Th∧x.depth < n∧∀ (u:V) (H':Hp),Same H H'→RM K H' u (madeW x)→Q u H'
def spLSame (K:PySem.W.Frag) (n:Nat):Sp:=fun vs H Q _=>∃ (u v:V) (x:W),vs = [u,v]∧RS K H u x∧RS K H v x∧x.Th∧x.depth < n∧∀ H',Same H H'→Q (.bl true) H'
end D
set_option Elab.async false
set_option linter.all false
set_option maxRecDepth 100000
set_option maxHeartbeats 4000000
namespace D
open PySem L2
theorem RS.two {K:PySem.W.Frag}{H:Hp}{a:Addr}{u1 u2:V}{w1 w2:W} (e:SqT K H a [u1,u2]) (r1:RS K H u1 w1) (r2:RS K H u2 w2):RS K H (.ref a) (.lst [w1,w2]):=
  .lst e rfl fun i v w hv hw=>match i,hv,hw with
    | 0,hv,hw=>by
      have a1:u1 = v:=by simpa using hv
      have a2:w1 = w:=by simpa using hw
      rw [← a1,← a2]; exact r1
    | 1,hv,hw=>by
      have a1:u2 = v:=by simpa using hv
      have a2:w2 = w:=by simpa using hw
      rw [← a1,← a2]; exact r2
    | j + 2,hv,hw=>by simp at hv
theorem RS.three {K:PySem.W.Frag}{H:Hp}{a:Addr}{u1 u2 u3:V}{w1 w2 w3:W} (e:SqT K H a [u1,u2,u3]) (r1:RS K H u1 w1) (r2:RS K H u2 w2) (r3:RS K H u3 w3):RS K H (.ref a) (.lst [w1,w2,w3]):=
  .lst e rfl fun i v w hv hw=>match i,hv,hw with
    | 0,hv,hw=>by
      have a1:u1 = v:=by simpa using hv
      have a2:w1 = w:=by simpa using hw
      rw [← a1,← a2]; exact r1
    | 1,hv,hw=>by
      have a1:u2 = v:=by simpa using hv
      have a2:w2 = w:=by simpa using hw
      rw [← a1,← a2]; exact r2
    | 2,hv,hw=>by
      have a1:u3 = v:=by simpa using hv
      have a2:w3 = w:=by simpa using hw
      rw [← a1,← a2]; exact r3
    | j + 3,hv,hw=>by simp at hv
theorem RM.three {K:PySem.W.Frag}{H:Hp}{a:Addr}{u1 u2 u3:V}{w1 w2 w3:W} (e:SqT K H a [u1,u2,u3]) (r1:RS K H u1 w1) (r2:RS K H u2 w2) (r3:RS K H u3 w3):RM K H (.ref a) (.lst [w1,w2,w3]):=
  ⟨RS.three e r1 r2 r3,fun m x h=>by simp at h⟩
theorem RM.two {K:PySem.W.Frag}{H:Hp}{a:Addr}{u2:V}{w2:W} (e:SqT K H a [.str "made",u2]) (r1:RS K H (.str "made") (.txt "made")) (r2:RW H u2 w2):RM K H (.ref a) (.lst [.txt "made",w2]):=
  ⟨RS.two e r1 r2.toRS,fun m x h=>by
    have e2:w2 = x:=by simpa using (show _∧w2 = x by simpa using h).2
    subst e2
    exact ⟨a,u2,rfl,e,r2⟩⟩
section
variable {P:Program}{w:World}{K:PySem.W.Frag}{mg:Str→Option Value}{base:Heap}{f:Addr}{fd:FuncData}{k:Nat}
theorem sc_made:FnScope ["thing"] ["thing"] (defScope s_made):=⟨rfl,rfl,rfl,by decide +kernel,rfl,by decide +kernel,by decide +kernel⟩
theorem ok_made {n:Nat}{g:Addr} (F:Fun K "made" "made" s_made f fd) (G_is_worth:Have P w K mg base "is_worth" k ["thing"] spIsWorth)
    (m_GREAT:mg "GREAT" = some (.ref g)) (hg:∀ H:Hp,SqT K H g [.str "wrong",.str "great",.str ""]):FnOk P w K mg base CX0 (k + 1) f fd ["thing"] (spMade K n):=by
  refine F.ok sc_made (fun vs H Q E h=>?_) (fun cdv A outer s H vs Q E hr h=>?_)
  · obtain ⟨v,x,rfl,_⟩:=h
    rfl
  obtain ⟨v,x,rfl,rw,hth,hn,q⟩:=h
  refine ⟨_,(pss_one (ps_ret (pe_ifExp (pt_val (pe_fn G_is_worth hr rfl (pa_cons (pv 0) pa_nil))) (pe_tup (pa_cons pe_str (pa_cons (pv 0) pa_nil))) (pe_glob (v:=.ref g) rfl m_GREAT rfl)))),?_⟩
  refine ⟨_,rfl,v,x.toT,rfl,rw.toRT,sm_toT x hth,fun H1 s1=>⟨_,rfl,?_⟩⟩
  rw [isWorth_toT hth]
  cases hgd:goodW x with
  | true=>
    refine iteT ⟨_,rfl,(by show 2≤sizeLine; decide),fun a ha=>?_⟩
    have s2:=Same.new (o:=.tup [.str "made",v]) ha
    refine q _ _ (s1.trans s2) ?_
    unfold madeW
    rw [if_pos hgd]
    exact RM.two (SqT.of upd_same) (.txt _) (rw.mono (same_tups (s1.trans s2)))
  | false=>
    refine iteF (q _ _ s1 ?_)
    unfold madeW
    rw [if_neg (by rw [hgd]; decide)]
    exact RM.three (hg H1) (.txt _) (.txt _) (.txt _)
end
end D
set_option Elab.async false
set_option linter.all false
set_option maxRecDepth 100000
set_option maxHeartbeats 4000000
namespace L2
open PySem PySem.Spec PyProof.Rows
section
variable {prog:Program}{w:World}{A:Around}{E:Value→Shared→Prop}{s:Shared}
open HT in
end
end L2
namespace D
open PySem L2
theorem eqAll {H:Hp}{ws zs:List W}{its its2:List Value}{vs us:List V} (r1:Vals vs its) (r2:Vals us its2) (l1:vs.length = ws.length) (l2:us.length = zs.length):
    ((List.range (min its.toArray.size its2.toArray.size)).all (fun j=>eqW (ws.getD j (.num 0)) (zs.getD j (.num 0))) && its.toArray.size == its2.toArray.size) = eqW (.lst ws) (.lst zs):=by
  have e1:its.toArray.size = ws.length:=by rw [List.size_toArray,← r1.length,l1]
  have e2:its2.toArray.size = zs.length:=by rw [List.size_toArray,← r2.length,l2]
  rw [e1,e2]
  exact (eqWs_iff ws zs).symm
theorem eqAt_W {X:Cx}{pins:List (Addr × Obj)}{σ:St}{H:Hp}{s:Shared} (I:Inv X pins σ H s):∀ (n:Nat) (A:Around) (x y:W) (u v:V) (U V':Value),x.depth < n→RW H u x→RW H v y→RelV u U→RelV v V'→A.units + n + 2 < cLine→
    SeqAt.EqAt A s U V' (eqW x y):=by
  intro n
  induction n with
  | zero=>intro A x y u v U V' h; omega
  | succ n ih=>
    intro A x y u v U V' hd rx ry r1 r2 hu
    have hu0:A.units < cLine:=by omega
    cases rx with
    | num i=>
      obtain ⟨t,rfl⟩:=r1
      cases ry with
      | num j=>obtain ⟨t2,rfl⟩:=r2; exact SeqAt.EqAt.int_int i t j t2
      | txt z=>obtain ⟨t2,rfl⟩:=r2; exact SeqAt.EqAt.int_str i t z t2
      | lst e _ _=>
        cases r2
        obtain ⟨its,_,p,_⟩:=I.tuple (SqT.of e)
        exact SeqAt.EqAt.int_tuple i t p hu0
    | txt z=>
      obtain ⟨t,rfl⟩:=r1
      cases ry with
      | num j=>obtain ⟨t2,rfl⟩:=r2; exact SeqAt.EqAt.str_int z t j t2
      | txt z2=>obtain ⟨t2,rfl⟩:=r2; exact SeqAt.EqAt.str_str z t z2 t2
      | lst e _ _=>
        cases r2
        obtain ⟨its,_,p,_⟩:=I.tuple (SqT.of e)
        exact SeqAt.EqAt.str_tuple z t p hu0
    | @lst a vs ws e l at1=>
      cases r1
      obtain ⟨its,rv,p,_⟩:=I.tuple (SqT.of e)
      cases ry with
      | num j=>obtain ⟨t2,rfl⟩:=r2; exact SeqAt.EqAt.tuple_int j t2 p hu0
      | txt z2=>obtain ⟨t2,rfl⟩:=r2; exact SeqAt.EqAt.tuple_str z2 t2 p hu0
      | @lst b us zs e2 l2 at2=>
        cases r2
        obtain ⟨its2,rv2,p2,_⟩:=I.tuple (SqT.of e2)
        by_cases hab:a = b
        · subst hab
          have:W.lst ws = W.lst zs:=RW.inj (.lst e l at1) (.lst e2 l2 at2)
          rw [this,eqW_refl]
          exact SeqAt.EqAt.same _
        · rw [← eqAll (H:=H) rv rv2 l l2]
          refine SeqAt.EqAt.of_refs hab (SeqAt.RcAt.tuples p p2 hu0 fun j h1 h2=>?_)
          have j1:j < its.length:=by simpa using h1
          have j2:j < its2.length:=by simpa using h2
          have k1:j < vs.length:=by rw [rv.length]; exact j1
          have k2:j < us.length:=by rw [rv2.length]; exact j2
          have m1:j < ws.length:=by omega
          have m2:j < zs.length:=by omega
          obtain ⟨U1,hU1,rU1⟩:=rv.get (List.getElem?_eq_getElem k1)
          obtain ⟨U2,hU2,rU2⟩:=rv2.get (List.getElem?_eq_getElem k2)
          have f1:its.toArray[j] = U1:=by have:=(List.getElem?_eq_some_iff.mp hU1).2; simpa using this
          have f2:its2.toArray[j] = U2:=by have:=(List.getElem?_eq_some_iff.mp hU2).2; simpa using this
          rw [f1,f2]
          have g1:ws.getD j (.num 0) = ws[j]:=by rw [List.getD_eq_getElem?_getD,List.getElem?_eq_getElem m1]; rfl
          have g2:zs.getD j (.num 0) = zs[j]:=by rw [List.getD_eq_getElem?_getD,List.getElem?_eq_getElem m2]; rfl
          rw [g1,g2]
          have hdj:=depths_mem ws[j] (List.getElem_mem m1)
          have hd':1 + depths ws < n + 1:=hd
          have hu1:A.in1.units = A.units + 1:=rfl
          exact ih A.in1 ws[j] zs[j] vs[j] us[j] U1 U2 (by omega) (at1 j _ _ (List.getElem?_eq_getElem k1) (List.getElem?_eq_getElem m1)) (at2 j _ _ (List.getElem?_eq_getElem k2) (List.getElem?_eq_getElem m2)) rU1 rU2 (by omega)
theorem op_eqW {X:Cx} (hu:X.A.units + 64 < cLine):OpR X (compareOp .Eq) (fun x y H Q=>∃ wx wy:W,RW H x wx∧RW H y wy∧wx.depth < 50∧Q (.bl (eqW wx wy)) H):=by
  intro pins s σ H x y v u Q I rx ry h
  obtain ⟨wx,wy,hx,hy,hd,q⟩:=h
  have hu0:X.A.units < cLine:=by omega
  have fin:EP X pins σ Q (.bool (eqW wx wy)) s:=⟨.bl _,H,I,rfl,q⟩
  cases hx with
  | num i=>
    obtain ⟨t,rfl⟩:=rx
    cases hy with
    | num j=>obtain ⟨t2,rfl⟩:=ry; exact SeqAt.RcAt.int_int i t j t2 _ _ _ _ fin
    | txt z=>obtain ⟨t2,rfl⟩:=ry; exact SeqAt.RcAt.int_str i t z t2 _ _ _ _ fin
    | lst e _ _=>
      cases ry
      obtain ⟨its,_,p,_⟩:=I.tuple (SqT.of e)
      exact SeqAt.RcAt.int_tuple i t p hu0 _ _ _ _ fin
  | txt z=>
    obtain ⟨t,rfl⟩:=rx
    cases hy with
    | num j=>obtain ⟨t2,rfl⟩:=ry; exact SeqAt.RcAt.str_int z t j t2 _ _ _ _ fin
    | txt z2=>obtain ⟨t2,rfl⟩:=ry; exact SeqAt.RcAt.str_str z t z2 t2 _ _ _ _ fin
    | lst e _ _=>
      cases ry
      obtain ⟨its,_,p,_⟩:=I.tuple (SqT.of e)
      exact SeqAt.RcAt.str_tuple z t p hu0 _ _ _ _ fin
  | @lst a vs ws e l at1=>
    cases rx
    obtain ⟨its,rv,p,_⟩:=I.tuple (SqT.of e)
    cases hy with
    | num j=>obtain ⟨t2,rfl⟩:=ry; exact SeqAt.RcAt.tuple_int j t2 p hu0 _ _ _ _ fin
    | txt z2=>obtain ⟨t2,rfl⟩:=ry; exact SeqAt.RcAt.tuple_str z2 t2 p hu0 _ _ _ _ fin
    | @lst b us zs e2 l2 at2=>
      cases ry
      obtain ⟨its2,rv2,p2,_⟩:=I.tuple (SqT.of e2)
      rw [← eqAll (H:=H) rv rv2 l l2] at fin
      refine SeqAt.RcAt.tuples p p2 hu0 (fun j h1 h2=>?_) _ _ _ _ fin
      have j1:j < its.length:=by simpa using h1
      have j2:j < its2.length:=by simpa using h2
      have k1:j < vs.length:=by rw [rv.length]; exact j1
      have k2:j < us.length:=by rw [rv2.length]; exact j2
      have m1:j < ws.length:=by omega
      have m2:j < zs.length:=by omega
      obtain ⟨U1,hU1,rU1⟩:=rv.get (List.getElem?_eq_getElem k1)
      obtain ⟨U2,hU2,rU2⟩:=rv2.get (List.getElem?_eq_getElem k2)
      have f1:its.toArray[j] = U1:=by have:=(List.getElem?_eq_some_iff.mp hU1).2; simpa using this
      have f2:its2.toArray[j] = U2:=by have:=(List.getElem?_eq_some_iff.mp hU2).2; simpa using this
      rw [f1,f2]
      have g1:ws.getD j (.num 0) = ws[j]:=by rw [List.getD_eq_getElem?_getD,List.getElem?_eq_getElem m1]; rfl
      have g2:zs.getD j (.num 0) = zs[j]:=by rw [List.getD_eq_getElem?_getD,List.getElem?_eq_getElem m2]; rfl
      rw [g1,g2]
      have hdj:=depths_mem ws[j] (List.getElem_mem m1)
      have hd':1 + depths ws < 50:=hd
      have hu1:X.A.in1.units = X.A.units + 1:=rfl
      exact eqAt_W I 50 X.A.in1 ws[j] zs[j] vs[j] us[j] U1 U2 (by omega) (at1 j _ _ (List.getElem?_eq_getElem k1) (List.getElem?_eq_getElem m1)) (at2 j _ _ (List.getElem?_eq_getElem k2) (List.getElem?_eq_getElem m2)) rU1 rU2 (by omega)
end D
set_option Elab.async false
set_option linter.all false
set_option maxRecDepth 100000
set_option maxHeartbeats 4000000
namespace L2
open PySem PySem.Spec PyProof.Rows
structure QSs (X:Cx) (st:List Stmt) (t:TS):Prop where
  un:PSs X st t
structure QIfs (X:Cx) (ifs:List Expr) (t:TT):Prop where
  un:PIfs X ifs t
structure QPs (X:Cx) (pos:Pos) (keys:List (Option Expr)) (values:List Expr) (trs:List (TE × TE)):Prop where
  un:PPs X pos keys values trs
structure QGs (X:Cx) (ts:List Expr) (t:TGs):Prop where
  un:PGs X ts t
structure QE (X:Cx) (e:Expr) (t:TE):Prop where
  un:PE X e t
structure QT (X:Cx) (e:Expr) (t:TT):Prop where
  un:PT X e t
structure QW (X:Cx) (e:Expr) (t:TT):Prop where
  un:PW X e t
structure QA (X:Cx) (es:List Expr) (t:TA):Prop where
  un:PA X es t
structure QS (X:Cx) (st:Stmt) (t:TS):Prop where
  un:PS X st t
structure QI (X:Cx) (tg iter:Expr) (wi:TI):Prop where
  un:PI X tg iter wi
structure QG (X:Cx) (tg:Expr) (t:TG):Prop where
  un:PG X tg t
structure QO (X:Cx) (e:Option Expr) (t:TO):Prop where
  un:PO X e t
structure QC (X:Cx) (op:CmpOp) (a b:Expr) (t:TE):Prop where
  un:PC X op a b t
theorem Fun.okQ {P:Program}{w:World}{K:PySem.W.Frag}{mg:Str→Option Value}{base:Heap}{x qual:Str}{st:Stmt}{f:Addr}{fd:FuncData}{N ps:List Str}{k:Nat}{sp:Sp} (F:Fun K x qual st f fd) (sc:FnScope N ps (defScope st)) (h1:∀ (vs:List V) (H:Hp) (Q:VK) (E:XK),sp vs H Q E→vs.length = ps.length)
    (h2:∀ (cdv:Value) (A:Around) (outer:List Env) (s:Shared) (H:Hp) (vs:List V) (Q:VK) (E:XK),Room k (A.deeper (PyProof.Rows.envOfC qual (defScope st) s.heap.objs.size f cdv))→sp vs H Q E→
      ∃ t:TS,QSs (cxOf CX0 P w K mg base N qual (defScope st) f cdv A outer s H E).nox (defBody st) t∧t { nx:=fun _ H'=>Q V.non H',rt:=Q } (L2.start N vs) H):FnOk P w K mg base CX0 (k + 1) f fd ps sp:=
  F.ok sc h1 fun cdv A outer s H vs Q E hr h=>let ⟨t,a,b⟩:=h2 cdv A outer s H vs Q E hr h; ⟨t,a.un,b⟩
end L2
namespace D
open PySem L2
theorem pss_nil {X:Cx}:QSs X [] tNext:=⟨L2.pss_nil ⟩
theorem pss_cons {X:Cx}{st:Stmt}{rest:List Stmt}{t u:TS} (h0:QS X st t) (h1:QSs X rest u):QSs X (st :: rest) (tSeq t u):=⟨L2.pss_cons h0.un h1.un⟩
theorem pss_one {X:Cx}{st:Stmt}{t:TS} (h0:QS X st t):QSs X [st] t:=⟨L2.pss_one h0.un⟩
theorem ps_ret {X:Cx}{e:Expr}{te:TE}{pos:Pos} (h0:QE X e te):QS X (Stmt.Return (some e) pos) (tRet te):=⟨L2.ps_ret h0.un⟩
theorem ps_if {X:Cx}{t u:TS}{pos:Pos}{c:Expr}{a b:List Stmt}{tc:TT} (h0:QT X c tc) (h1:QSs X a t) (h2:QSs X b u):QS X (Stmt.If c a b pos) (tIfS tc t u):=⟨L2.ps_if h0.un h1.un h2.un⟩
theorem ps_set {X:Cx}{pos:Pos}{i:Nat}{x:Str}{e:Expr}{te:TE}{pos':Pos} (h0:X.N.Nodup) (h1:X.N[i]? = some x) (h2:L2.Loc X.env.scope x) (h3:QE X e te) (h4:autoParam (swapsWith e (some (Expr.Name x pos')) pos.line X.env = pure false) L2.ps_set._auto_1) (h5:autoParam (X.fn x = true∨List.lookup x X.env.scope.names = some NameKind.local) L2.ps_set._auto_2):QS X (Stmt.Assign [Expr.Name x pos'] e pos) (tAsg te (gName i)):=⟨L2.ps_set h0 h1 h2 h3.un h4 h5⟩
theorem ps_asg {X:Cx}{pos:Pos}{tg e:Expr}{te:TE}{g:TG} (h0:QE X e te) (h1:QG X tg g) (h2:autoParam (swapsWithSole [tg] e pos.line X.env = pure false) L2.ps_asg._auto_1) (h3:autoParam (swappedStores [tg] e X.env = pure none) L2.ps_asg._auto_2) (h4:autoParam (List.map (fun (x:Bool × (Value→Sem Unit))=>x.snd) (assignEach [tg] X.env) = [assign tg X.env]) L2.ps_asg._auto_3):QS X (Stmt.Assign [tg] e pos) (tAsg te g):=⟨L2.ps_asg h0.un h1.un h2 h3 h4⟩
theorem ps_expr {X:Cx}{e:Expr}{te:TE}{pos:Pos} (h0:QE X e te) (h1:autoParam (swapsWith e none pos.line X.env = pure false) L2.ps_expr._auto_1):QS X (Stmt.Expr e pos) (tDrop te):=⟨L2.ps_expr h0.un h1⟩
theorem ps_for {X:Cx}{tg iter:Expr}{body:List Stmt}{wi:TI}{g:TG}{tb:TS}{pos:Pos} (h0:PassesOwn (model X.prog X.w) X.A X.env X.xe) (h1:X.calm = true) (h2:QI X tg iter wi) (h3:QG X tg g) (h4:QSs X body tb) (h5:autoParam (∀ (x:Value),foldedSetIterable iter X.env x = pure x) L2.ps_for._auto_1):QS X (Stmt.For tg iter body [] pos) (tFor wi g tb):=⟨L2.ps_for h0 h1 h2.un h3.un h4.un h5⟩
theorem ps_while {X:Cx}{pos:Pos}{c:Expr}{body:List Stmt}{tc:TT}{tb:TS} (h0:PassesOwn (model X.prog X.w) X.A X.env X.xe) (h1:QT X c tc) (h2:QSs X body tb):QS X (Stmt.While c body [] pos) (tWhile tc tb):=⟨L2.ps_while h0 h1.un h2.un⟩
theorem ps_aug {X:Cx}{pos:Pos}{i:Nat}{x:Str}{e:Expr}{te:TE}{op:Operator}{ti:TIp}{pos':Pos} (h0:X.N.Nodup) (h1:X.N[i]? = some x) (h2:L2.Loc X.env.scope x) (h3:QE X e te) (h4:PIp X op ti) (h5:autoParam (X.fn x = true∨List.lookup x X.env.scope.names = some NameKind.local) L2.ps_aug._auto_1):QS X (Stmt.AugAssign (Expr.Name x pos') op e pos) (tAug i te ti):=⟨L2.ps_aug h0 h1 h2 h3.un h4 h5⟩
theorem pe_int {X:Cx}{i:Int}{j:Nat}{pos:Pos}:QE X (Expr.Constant (Const.int i) j pos) (tC (V.int i)):=⟨L2.pe_int ⟩
theorem pe_str {X:Cx}{x:Str}{j:Nat}{pos:Pos}:QE X (Expr.Constant (Const.str x) j pos) (tC (V.str x)):=⟨L2.pe_str ⟩
theorem pe_bl {X:Cx}{b:Bool}{j:Nat}{pos:Pos}:QE X (Expr.Constant (Const.bool b) j pos) (tC (V.bl b)):=⟨L2.pe_bl ⟩
theorem pe_non {X:Cx}{j:Nat}{pos:Pos}:QE X (Expr.Constant Const.none j pos) (tC V.non):=⟨L2.pe_non ⟩
theorem pv {X:Cx} (i:Nat) {x:Str}{pos:Pos} (h0:autoParam (X.N[i]? = some x) L2.pv._auto_1) (h1:autoParam (Vis X.env.scope x) L2.pv._auto_2) (h2:autoParam ((x == Str.ofString "__debug__") = false) L2.pv._auto_3) (h3:autoParam ((x == Str.ofString "__classdict__") = false) L2.pv._auto_4):QE X (Expr.Name x pos) (tVar i):=⟨L2.pv i h0 h1 h2 h3⟩
theorem pe_glob {X:Cx}{x:Str}{v:V}{u:Value}{pos:Pos} (h0:Gl X x) (h1:X.mg x = some u) (h2:RelV v u) (h3:autoParam ((x == Str.ofString "__debug__") = false) L2.pe_glob._auto_1):QE X (Expr.Name x pos) (tC v):=⟨L2.pe_glob h0 h1 h2 h3⟩
theorem pe_globI {X:Cx}{x:Str}{i:Int}{pos:Pos} (h0:Gl X x) (h1:(∃ (t:Tok),X.mg x = some (Value.int i t))) (h2:autoParam ((x == Str.ofString "__debug__") = false) L2.pe_globI._auto_1):QE X (Expr.Name x pos) (tC (V.int i)):=⟨L2.pe_globI h0 h1 h2⟩
theorem pe_ty {X:Cx}{x:Str}{T:String}{pos:Pos} (h0:Gl X x) (h1:X.mg x = none) (h2:bootBuiltins x = some (Value.type T)) (h3:autoParam (x≠Str.ofString "__name__") L2.pe_ty._auto_1) (h4:autoParam ((x == Str.ofString "__debug__") = false) L2.pe_ty._auto_2):QE X (Expr.Name x pos) (tC (V.ty T)):=⟨L2.pe_ty h0 h1 h2 h3 h4⟩
theorem pe_op {X:Cx}{a b:Expr}{ta tb:TE}{pos:Pos}{op:Operator}{r:R2} (h0:OpR X (binaryOp op) r) (h1:QE X a ta) (h2:QE X b tb):QE X (a.BinOp op b pos) (tOp r ta tb):=⟨L2.pe_op h0 h1.un h2.un⟩
theorem pe_un {X:Cx}{a:Expr}{ta:TE}{pos:Pos}{op:UnaryOp}{r:V→Hp→VK→Prop} (h0:UnR X (unaryOp op) r) (h1:QE X a ta):QE X (Expr.UnaryOp op a pos) (tUn r ta):=⟨L2.pe_un h0 h1.un⟩
theorem pe_cmpR {X:Cx}{a b:Expr}{ta tb:TE}{pos:Pos}{op:CmpOp}{r:R2} (h0:OpR X (compareOp op) r) (h1:QE X a ta) (h2:QE X b tb) (h3:behindInMarks op b = false):QE X (a.Compare [op] [b] pos) (tOp r ta tb):=⟨L2.pe_cmpR h0 h1.un h2.un h3⟩
theorem pt_cmpR {X:Cx}{a b:Expr}{ta tb:TE}{pos:Pos}{op:CmpOp}{r:R2} (h0:OpR X (compareOp op) r) (h1:QE X a ta) (h2:QE X b tb) (h3:behindInMarks op b = false):QT X (a.Compare [op] [b] pos) (tTest (tOp r ta tb)):=⟨L2.pt_cmpR h0 h1.un h2.un h3⟩
theorem pe_cmp {X:Cx}{a b:Expr}{pos:Pos}{op:CmpOp}{t:TE} (h0:QC X op a b t) (h1:autoParam (behindInMarks op b = false) L2.pe_cmp._auto_1):QE X (a.Compare [op] [b] pos) t:=⟨L2.pe_cmp h0.un h1⟩
theorem pt_cmp {X:Cx}{a b:Expr}{pos:Pos}{op:CmpOp}{t:TE} (h0:QC X op a b t) (h1:autoParam (behindInMarks op b = false) L2.pt_cmp._auto_1):QT X (a.Compare [op] [b] pos) (tB t):=⟨L2.pt_cmp h0.un h1⟩
theorem pe_chain {X:Cx}{a b c:Expr}{ta tb tc:TE}{pos:Pos}{op op':CmpOp}{r r':R2} (h0:OpR X (compareOp op) r) (h1:OpR X (compareOp op') r') (h2:QE X a ta) (h3:QE X b tb) (h4:QE X c tc) (h5:autoParam (lastMarks [op,op'] [b,c] = false) L2.pe_chain._auto_1):QE X (a.Compare [op,op'] [b,c] pos) (tChain r r' ta tb tc):=⟨L2.pe_chain h0 h1 h2.un h3.un h4.un h5⟩
theorem pt_chain {X:Cx}{a b c:Expr}{ta tb tc:TE}{pos:Pos}{op op':CmpOp}{r r':R2} (h0:OpR X (compareOp op) r) (h1:OpR X (compareOp op') r') (h2:QE X a ta) (h3:QE X b tb) (h4:QE X c tc) (h5:autoParam (lastMarks [op,op'] [b,c] = false) L2.pt_chain._auto_1):QT X (a.Compare [op,op'] [b,c] pos) (tTest (tChain r r' ta tb tc)):=⟨L2.pt_chain h0 h1 h2.un h3.un h4.un h5⟩
theorem pe_and {X:Cx}{a b:Expr}{ta tb:TE}{pos:Pos}{rest:List Expr} (h0:QE X a ta) (h1:QE X (Expr.BoolOp BoolOp.And (b :: rest) pos) tb):QE X (Expr.BoolOp BoolOp.And (a :: b :: rest) pos) (tAndV ta tb):=⟨L2.pe_and h0.un h1.un⟩
theorem pe_or {X:Cx}{a b:Expr}{ta tb:TE}{pos:Pos}{rest:List Expr} (h0:QE X a ta) (h1:QE X (Expr.BoolOp BoolOp.Or (b :: rest) pos) tb):QE X (Expr.BoolOp BoolOp.Or (a :: b :: rest) pos) (tOrV ta tb):=⟨L2.pe_or h0.un h1.un⟩
theorem pe_one {X:Cx}{a:Expr}{pos:Pos}{op:BoolOp}{t:TE} (h0:QE X a t):QE X (Expr.BoolOp op [a] pos) t:=⟨L2.pe_one h0.un⟩
theorem pe_not {X:Cx}{a:Expr}{ta:TE}{pos:Pos} (h0:QE X a ta):QE X (Expr.UnaryOp UnaryOp.Not a pos) (tNotV ta):=⟨L2.pe_not h0.un⟩
theorem pe_ifExp {X:Cx}{a b:Expr}{ta tb:TE}{pos:Pos}{tA:TT}{c:Expr} (h0:QT X c tA) (h1:QE X a ta) (h2:QE X b tb):QE X (c.IfExp a b pos) (tIf tA ta tb):=⟨L2.pe_ifExp h0.un h1.un h2.un⟩
theorem pt_val {X:Cx}{e:Expr}{t:TE} (h:QE X e t) (he:∀ whole,isTrue e X.env whole = (do let v ← whole; standAt e.pos; holding [v] (truthy v)):=by intro _; rfl):QT X e (tB t):=⟨L2.pt_val h.un he⟩
theorem pt_not {X:Cx}{a:Expr}{pos:Pos}{tA:TT} (h0:QT X a tA):QT X (Expr.UnaryOp UnaryOp.Not a pos) (tNot tA):=⟨L2.pt_not h0.un⟩
theorem pw_and {X:Cx}{a b:Expr}{pos:Pos}{tA tB':TT}{rest:List Expr} (h0:QT X a tA) (h1:QW X (Expr.BoolOp BoolOp.And (b :: rest) pos) tB'):QW X (Expr.BoolOp BoolOp.And (a :: b :: rest) pos) (tAnd tA tB'):=⟨L2.pw_and h0.un h1.un⟩
theorem pw_and1 {X:Cx}{a:Expr}{pos:Pos}{tA:TT} (h0:QT X a tA):QW X (Expr.BoolOp BoolOp.And [a] pos) tA:=⟨L2.pw_and1 h0.un⟩
theorem pw_or {X:Cx}{a b:Expr}{pos:Pos}{tA tB':TT}{rest:List Expr} (h0:QT X a tA) (h1:QW X (Expr.BoolOp BoolOp.Or (b :: rest) pos) tB'):QW X (Expr.BoolOp BoolOp.Or (a :: b :: rest) pos) (tOr tA tB'):=⟨L2.pw_or h0.un h1.un⟩
theorem pw_or1 {X:Cx}{a:Expr}{pos:Pos}{tA:TT} (h0:QT X a tA):QW X (Expr.BoolOp BoolOp.Or [a] pos) tA:=⟨L2.pw_or1 h0.un⟩
theorem PW.pt {X:Cx}{e:Expr}{t:TT} (h0:QW X e t):QT X e t:=⟨L2.PW.pt h0.un⟩
theorem pe_fn {X:Cx}{x:Str}{k:Nat}{ps:List Str}{sp:Sp}{e:Expr}{es:List Expr}{t:TA}{p pos:Pos} (h0:Have X.prog X.w X.K X.mg X.base x k ps sp) (h1:Room k X.A) (h2:Gl X x) (h3:QA X (e :: es) t) (h4:autoParam ((x == Str.ofString "__debug__") = false) L2.pe_fn._auto_1) (h5:autoParam (starEach (e :: es) X.env = (false,eval e X.env) :: starEach es X.env) L2.pe_fn._auto_2) (h6:autoParam (((backTo pos (starEach es X.env)).any fun (x:Bool × Sem Value)=>x.fst) = false) L2.pe_fn._auto_3):QE X ((Expr.Name x p).Call (e :: es) [] pos) (tCall sp [] E0 t):=⟨L2.pe_fn h0 h1 h2 h3.un h4 h5 h6⟩
theorem pe_callB {X:Cx}{x:Str}{p pos:Pos}{e:Expr}{es:List Expr}{t:TA}{id:String}{r:List V→Hp→VK→Prop} (h0:CallR X (Value.builtin id) r) (h1:Gl X x) (h2:X.mg x = none) (h3:bootBuiltins x = some (Value.builtin id)) (h4:QA X (e :: es) t) (h5:autoParam (x≠Str.ofString "__name__") L2.pe_callB._auto_1) (h6:autoParam ((x == Str.ofString "__debug__") = false) L2.pe_callB._auto_2) (h7:autoParam (starEach (e :: es) X.env = (false,eval e X.env) :: starEach es X.env) L2.pe_callB._auto_3) (h8:autoParam (((backTo pos (starEach es X.env)).any fun (x:Bool × Sem Value)=>x.fst) = false) L2.pe_callB._auto_4):QE X ((Expr.Name x p).Call (e :: es) [] pos) (tCB r t):=⟨L2.pe_callB h0 h1 h2 h3 h4.un h5 h6 h7 h8⟩
theorem pe_callTy {X:Cx}{x:Str}{p pos:Pos}{e:Expr}{es:List Expr}{t:TA}{T:String}{r:List V→Hp→VK→Prop} (h0:CallR X (Value.type T) r) (h1:Gl X x) (h2:X.mg x = none) (h3:bootBuiltins x = some (Value.type T)) (h4:QA X (e :: es) t) (h5:autoParam (x≠Str.ofString "__name__") L2.pe_callTy._auto_1) (h6:autoParam ((x == Str.ofString "__debug__") = false) L2.pe_callTy._auto_2) (h7:autoParam (starEach (e :: es) X.env = (false,eval e X.env) :: starEach es X.env) L2.pe_callTy._auto_3) (h8:autoParam (((backTo pos (starEach es X.env)).any fun (x:Bool × Sem Value)=>x.fst) = false) L2.pe_callTy._auto_4):QE X ((Expr.Name x p).Call (e :: es) [] pos) (tCB r t):=⟨L2.pe_callTy h0 h1 h2 h3 h4.un h5 h6 h7 h8⟩
theorem pe_bm {X:Cx}{o e:Expr}{es:List Expr}{to:TE}{t:TA}{name:Str}{apos cpos:Pos}{T id:String}{r:V→List V→Hp→VK→Prop} (pa:PlainAttrs T) (slot:Slot T name id) (hty:typeOf (.builtin id) = pure (.type "method_descriptor")) (hm:MtR X id r) (ho:QE X o to) (ha:QA X (e :: es) t)
    (hbase:attributeBase o name X.env (eval o X.env) = eval o X.env:=by rfl)
    (hfew:((backTo cpos (starEach (e :: es) X.env)).all (fun x=>!x.1) && (backToKw cpos (keywordEach [] X.env)).all (fun x=>x.1.isSome)
      && decide ((e :: es).length + ([]:List Keyword).length + (if ([]:List Keyword).isEmpty then 0 else 1) < 30)) = true:=by rfl)
    (hline:(apos.endLine == cpos.line) = true:=by rfl) (hs:starEach (e :: es) X.env = (false,eval e X.env) :: starEach es X.env:=by rfl) (hplain:(backTo cpos (starEach es X.env)).any (·.1) = false:=by rfl):
    QE X (.Call (.Attribute o name apos) (e :: es) [] cpos) (tBM X.K T r to t):=⟨L2.pe_bm pa slot hty hm ho.un ha.un hbase hfew hline hs hplain⟩
theorem pe_bm0 {X:Cx}{o:Expr}{to:TE}{name:Str}{apos cpos:Pos}{T id:String}{r:V→List V→Hp→VK→Prop} (h0:PlainAttrs T) (h1:Slot T name id) (h2:typeOf (Value.builtin id) = pure (Value.type "method_descriptor")) (h3:MtR X id r) (h4:QE X o to) (h5:autoParam (attributeBase o name X.env (eval o X.env) = eval o X.env) L2.pe_bm0._auto_1) (h6:autoParam ((apos.endLine == cpos.line) = true) L2.pe_bm0._auto_2):QE X ((o.Attribute name apos).Call [] [] cpos) (tBM0 X.K T r to):=⟨L2.pe_bm0 h0 h1 h2 h3 h4.un h5 h6⟩
theorem pe_ix {X:Cx}{a b:Expr}{ta tb:TE}{pos:Pos}{r:R2} (h0:IxR X r) (h1:QE X a ta) (h2:QE X b tb) (h3:PlainIx b):QE X (a.Subscript b pos) (tOp r ta tb):=⟨L2.pe_ix h0 h1.un h2.un h3⟩
theorem pe_slice {X:Cx}{e:Expr}{te:TE}{lo hi:Option Expr}{tl th:TO}{pos p2:Pos}{r:V→Option Int→Option Int→Hp→VK→Prop} (h0:SlR X r) (h1:QE X e te) (h2:QO X lo tl) (h3:QO X hi th):QE X (e.Subscript (Expr.Slice lo hi none p2) pos) (tSl r te tl th):=⟨L2.pe_slice h0 h1.un h2.un h3.un⟩
theorem po_none {X:Cx}:QO X none tNoPart:=⟨L2.po_none ⟩
theorem po_some {X:Cx}{e:Expr}{te:TE} (h0:QE X e te):QO X (some e) (tPart te):=⟨L2.po_some h0.un⟩
theorem pe_lst {X:Cx}{es:List Expr}{t:TA}{pos:Pos} (h0:QA X es t):QE X (Expr.List es pos) (tLst t):=⟨L2.pe_lst h0.un⟩
theorem pe_tup {X:Cx}{es:List Expr}{t:TA}{pos:Pos}{x1:Nat} (h0:QA X es t):QE X (Expr.Tuple es x1 pos) (tTup t):=⟨L2.pe_tup h0.un⟩
theorem pa_nil {X:Cx}:QA X [] tNil:=⟨L2.pa_nil ⟩
theorem pa_cons {X:Cx}{e:Expr}{es:List Expr}{te:TE}{t:TA} (h0:QE X e te) (h1:QA X es t) (h2:autoParam (starEach (e :: es) X.env = (false,eval e X.env) :: starEach es X.env) L2.pa_cons._auto_1):QA X (e :: es) (tCons te t):=⟨L2.pa_cons h0.un h1.un h2⟩
theorem pe_dnewK {X:Cx}{pos:Pos}:QE X (Expr.Dict [] [] pos) tDNewK:=⟨L2.pe_dnewK ⟩
theorem pe_dget {X:Cx}{o i:Expr}{pos:Pos}{td ty:TE} (h0:X.A.units + 1 < cLine) (h1:QE X o td) (h2:QE X i ty) (h3:NoSl i):QE X (o.Subscript i pos) (tDGet td ty):=⟨L2.pe_dget h0 h1.un h2.un h3⟩
theorem pc_isN {X:Cx}{a:Expr}{ta:TE}{j:Nat}{pos':Pos} (h0:QE X a ta):QC X CmpOp.Is a (Expr.Constant Const.none j pos') (tIsN ta):=⟨L2.pc_isN h0.un⟩
theorem pc_notN {X:Cx}{a:Expr}{ta:TE}{j:Nat}{pos':Pos} (h0:QE X a ta):QC X CmpOp.IsNot a (Expr.Constant Const.none j pos') (tNotN ta):=⟨L2.pc_notN h0.un⟩
theorem ps_dput {X:Cx}{o i value:Expr}{pos pos':Pos}{td ty tv:TE} (h0:X.A.units + 1 < cLine) (h1:QE X o td) (h2:QE X i ty) (h3:QE X value tv) (h4:swapsWith value (some (o.Subscript i pos')) pos.line X.env = pure false):QS X (Stmt.Assign [o.Subscript i pos'] value pos) (sDPut td ty tv):=⟨L2.ps_dput h0 h1.un h2.un h3.un h4⟩
theorem pe_lcomp {X:Cx}{elt iter:Expr}{x:Str}{px pos:Pos}{ifs:List Expr}{scope:Scope}{cl:List (Str × Addr)} (fr:List Nat) (ys:List Str) {wi:TI}{tt:TT}{te:TE} (h0:X.calm = true) (h1:closureFor scope X.env = pure cl) (h2:(∀ (y:Str × NameKind),y∈scope.names→y.snd≠NameKind.cell)) (h3:scope.kind = ScopeKind.function) (h4:(∀ (y:Str × NameKind),y∈scope.names→y.snd = NameKind.local→List.lookup y.fst scope.names = some NameKind.local)) (h5:List.lookup x scope.names = some NameKind.local) (h6:(x :: ys).Nodup) (h7:ClOk cl X.env.cells) (h8:(scope.names.all fun (y:Str × NameKind)=>y.snd != NameKind.free || (List.lookup y.fst cl).isSome) = true) (h9:FrOk X scope cl fr ys) (h10:QI X (Expr.Name x px) iter wi) (h11:(∀ (C:Addr) (s:Shared) (H:Hp) (fp:List Addr),QIfs (cxComp X scope cl (x :: ys) C s H fp) ifs tt∧QE (cxComp X scope cl (x :: ys) C s H fp) elt te)) (h12:autoParam (∀ (v:Value),foldedSetIterable iter X.env v = pure v) L2.pe_lcomp._auto_1):QE X (elt.ListComp [{ target:=Expr.Name x px,iter:=iter,ifs:=ifs,is_async:=0 }] scope pos) (tLComp fr wi tt te):=⟨L2.pe_lcomp fr ys h0 h1 h2 h3 h4 h5 h6 h7 h8 h9 h10.un (fun C s H fp=>⟨(h11 C s H fp).1.un,(h11 C s H fp).2.un⟩) h12⟩
theorem pifs_nil {X:Cx}:QIfs X [] fun (x:St) (H:Hp) (Q:Bool→Hp→Prop)=>Q true H:=⟨L2.pifs_nil ⟩
theorem pi_list {X:Cx}{tg l:Expr}{tl:TE} (h0:QE X l tl):QI X tg l (iList X.K tl):=⟨L2.pi_list h0.un⟩
theorem pi_tup {X:Cx}{tg l:Expr}{tl:TE} (h0:QE X l tl):QI X tg l (iTup X.K tl):=⟨L2.pi_tup h0.un⟩
theorem pi_str {X:Cx}{tg e:Expr}{te:TE} (h0:QE X e te):QI X tg e (iStr te):=⟨L2.pi_str h0.un⟩
theorem pi_range1 {X:Cx}{tg a:Expr}{ta:TA}{p pos:Pos} (h0:Gl X (Str.ofString "range")) (h1:X.mg (Str.ofString "range") = none) (h2:QA X [a] ta) (h3:autoParam (starEach [a] X.env = [(false,eval a X.env)]) L2.pi_range1._auto_1):QI X tg ((Expr.Name (Str.ofString "range") p).Call [a] [] pos) (iRng1 ta):=⟨L2.pi_range1 h0 h1 h2.un h3⟩
theorem pg_name {X:Cx}{pos:Pos}{i:Nat}{x:Str} (h0:X.N.Nodup) (h1:X.N[i]? = some x) (h2:L2.Loc X.env.scope x) (h3:autoParam (X.fn x = true∨List.lookup x X.env.scope.names = some NameKind.local) L2.pg_name._auto_1):QG X (Expr.Name x pos) (gName i):=⟨L2.pg_name h0 h1 h2 h3⟩
theorem pg_tup {X:Cx}{pos:Pos}{es:List Expr}{k:Nat}{t:TGs}{n:Nat} (h0:X.calm = true) (h1:QGs X es t) (h2:autoParam ((assignEach es X.env).length = n) L2.pg_tup._auto_1) (h3:autoParam (List.findIdx? (fun (x:Bool × (Value→Sem Unit))=>x.fst) (assignEach es X.env) = none) L2.pg_tup._auto_2):QG X (Expr.Tuple es k pos) (gTup X.K n t):=⟨L2.pg_tup h0 h1.un h2 h3⟩
theorem pgs_nil {X:Cx}:QGs X [] gNil:=⟨L2.pgs_nil ⟩
theorem pgs_cons {X:Cx}{e:Expr}{es:List Expr}{t:TG}{u:TGs} (h0:QG X e t) (h1:QGs X es u) (h2:autoParam (List.map (fun (x:Bool × (Value→Sem Unit))=>x.snd) (assignEach (e :: es) X.env) = assign e X.env :: List.map (fun (x:Bool × (Value→Sem Unit))=>x.snd) (assignEach es X.env)) L2.pgs_cons._auto_1):QGs X (e :: es) (gCons t u):=⟨L2.pgs_cons h0.un h1.un h2⟩
theorem pg_sub {X:Cx}{pos:Pos}{o i:Expr}{to ti:TE}{t:TSet} (ho:QE X o to) (hi:QE X i ti) (hs:PSet X t)
    (ha:∀ v,assign (.Subscript o i pos) X.env v = (do
      let ov ← holding [v] (eval o X.env)
      let iv ← holding [v,ov] (eval i X.env)
      standAt pos
      holding [v,ov,iv] (setItem ov iv v)
      release [v,ov,iv] []):=by intro _; rfl):QG X (.Subscript o i pos) (gSub to ti t):=⟨L2.pg_sub ho.un hi.un hs ha⟩
theorem pe_fld {X:Cx}{e:Expr}{f:Str}{pos:Pos}{ta:TE} (h0:QE X e ta) (h1:attributeBase e f X.env (eval e X.env) = eval e X.env):QE X (e.Attribute f pos) (tFld X.K ta f):=⟨L2.pe_fld h0.un h1⟩
theorem ps_fld {X:Cx}{o value:Expr}{f:Str}{pos pos':Pos}{ta tv:TE} (h0:QE X o ta) (h1:QE X value tv) (h2:swapsWith value (some (o.Attribute f pos')) pos.line X.env = pure false):QS X (Stmt.Assign [o.Attribute f pos'] value pos) (sFld X.K ta tv f):=⟨L2.ps_fld h0.un h1.un h2⟩
theorem pe_make {X:Cx}{CX:CXT}{k:Nat}{f C:Addr}{fd:FuncData}{ps:List Str}{sp:Sp}{dvs:List V}{ds:List Value}{E:XK}{x:Str}{p pos:Pos}{e:Expr}{es:List Expr}{t:TA} (h0:Mk X.K C f) (h1:FnOk X.prog X.w X.K X.mg X.base CX k f fd ps sp) (h2:Room (k + 1) X.A) (h3:Gl X x) (h4:X.mg x = some (Value.ref C)) (h5:Binds X.K fd ps ds) (h6:Vals dvs ds) (h7:Passes CX X E) (h8:QA X (e :: es) t) (h9:autoParam ((x == Str.ofString "__debug__") = false) L2.pe_make._auto_1) (h10:autoParam (starEach (e :: es) X.env = (false,eval e X.env) :: starEach es X.env) L2.pe_make._auto_2) (h11:autoParam (((backTo pos (starEach es X.env)).any fun (x:Bool × Sem Value)=>x.fst) = false) L2.pe_make._auto_3):QE X ((Expr.Name x p).Call (e :: es) [] pos) (tMake C sp dvs E t):=⟨L2.pe_make h0 h1 h2 h3 h4 h5 h6 h7 h8.un h9 h10 h11⟩
end D
set_option Elab.async false
set_option linter.all false
set_option maxRecDepth 100000
set_option maxHeartbeats 4000000
namespace L2
open PySem PySem.Spec PyProof.Rows
def MD (P:Program) (w:World) (K:PySem.W.Frag) (g:Addr) (kvs:List (Key × V)):Prop:=
  ∃ (o:Obj) (vs:List (Key × Value)),K.lookup g = some o∧PySem.Obj.IsDictOf (mixKind P w) o vs∧KV kvs vs∧(g == sysModules) = false
theorem MD.dict {P:Program}{w:World}{K:PySem.W.Frag}{g:Addr}{kvs:List (Key × V)}{h:Heap} (m:MD P w K g kvs) (x:K.In h):∃ vs,KV kvs vs∧h.DictOf (mixKind P w) g vs∧(g == sysModules) = false:=by
  obtain ⟨o,vs,e,d,r,n⟩:=m
  exact ⟨vs,r,Heap.dictOf_iff.mpr ⟨o,x _ _ e,d⟩,n⟩
theorem pairs_of {P:Program}{w:World}:∀ l:List (Str × Tok × V × Value),Pairs (mixKind P w) (l.map fun p=>(⟨hashStr w p.1,.str p.1 p.2.1,p.2.2.2⟩:DictEntry)) (l.map fun p=>((Sum.inr p.1:Key),p.2.2.2))
  | []=>.nil
  | p :: r=>.cons (mixKind_str P w p.1 p.2.1) rfl (pairs_of r)
theorem kv_of:∀ l:List (Str × Tok × V × Value),(∀ p∈l,RelV p.2.2.1 p.2.2.2)→KV (l.map fun p=>((Sum.inr p.1:Key),p.2.2.1)) (l.map fun p=>((Sum.inr p.1:Key),p.2.2.2))
  | [],_=>.nil
  | p :: r,h=>.cons ⟨rfl,h p List.mem_cons_self⟩ (kv_of r fun q hq=>h q (List.mem_cons_of_mem _ hq))
theorem md_of {P:Program}{w:World}{K:PySem.W.Frag}{g:Addr} (l:List (Str × Tok × V × Value)) {ep:Nat} (e:K.lookup g = some ⟨.type "dict",none,.dict (l.map fun p=>(⟨hashStr w p.1,.str p.1 p.2.1,p.2.2.2⟩:DictEntry)).toArray ep,#[]⟩)
    (n:(g == sysModules) = false) (hr:∀ p∈l,RelV p.2.2.1 p.2.2.2) (nd:(l.map (·.1)).Nodup):MD P w K g (l.map fun p=>((Sum.inr p.1:Key),p.2.2.1)):=by
  refine ⟨_,l.map fun p=>((Sum.inr p.1:Key),p.2.2.2),e,⟨_,_,⟨rfl,rfl,rfl⟩,rfl,?_,?_,?_⟩,kv_of l hr,n⟩
  · intro x hx
    have hx':x∈l.map fun p=>(⟨hashStr w p.1,.str p.1 p.2.1,p.2.2.2⟩:DictEntry):=by simpa using hx
    obtain ⟨p,_,rfl⟩:=List.mem_map.mp hx'
    exact ⟨Sum.inr p.1,mixKind_str P w p.1 p.2.1,rfl⟩
  · rw [List.toList_toArray]
    exact pairs_of l
  · rw [List.map_map]
    have:(l.map ((fun x:Key × Value=>x.1) ∘ fun p=>((Sum.inr p.1:Key),p.2.2.2))) = (l.map (·.1)).map (Sum.inr:Str→Key):=by rw [List.map_map]; rfl
    rw [this]
    exact List.pairwise_map.mpr (List.Pairwise.imp (fun {a b} (h:a≠b) (e:(Sum.inr a:Key) = Sum.inr b)=>h (by simpa using e)) nd)
theorem op_inM {X:Cx}:OpR X (compareOp .In) (fun x y H Q=>∃ (g:Addr) (kvs:List (Key × V)) (k:Key),x = kV k∧y = .ref g∧MD X.prog X.w X.K g kvs∧Q (.bl (valV kvs k).isSome) H):=by
  intro pins s σ H x y v u Q I rx ry h
  obtain ⟨g,kvs,k,rfl,rfl,m,q⟩:=h
  cases ry
  obtain ⟨vs,rel,dd,hd⟩:=m.dict I.kIn
  refine wpAny_in_of (kV_is rx) hd dd.mapOf ?_
  rw [← (rel.val k).isSome_eq]
  exact ⟨.bl _,H,I.tok _,rfl,q⟩
theorem op_notInM {X:Cx}:OpR X (compareOp .NotIn) (fun x y H Q=>∃ (g:Addr) (kvs:List (Key × V)) (k:Key),x = kV k∧y = .ref g∧MD X.prog X.w X.K g kvs∧Q (.bl (!(valV kvs k).isSome)) H):=by
  intro pins s σ H x y v u Q I rx ry h
  obtain ⟨g,kvs,k,rfl,rfl,m,q⟩:=h
  cases ry
  obtain ⟨vs,rel,dd,hd⟩:=m.dict I.kIn
  refine wpAny_notIn_of (kV_is rx) hd dd.mapOf ?_
  rw [← (rel.val k).isSome_eq]
  exact ⟨.bl _,H,I.tok _,rfl,q⟩
theorem ix_mod {X:Cx}:IxR X (fun x y H Q=>∃ (g:Addr) (kvs:List (Key × V)) (k:Key) (v:V),x = .ref g∧y = kV k∧MD X.prog X.w X.K g kvs∧valV kvs k = some v∧Q v H):=by
  intro value slice pins s σ H x y v u Q I rx ry h hs
  obtain ⟨g,kvs,k,z,rfl,rfl,m,hv,q⟩:=h
  cases rx
  obtain ⟨vs,rel,dd,hd⟩:=m.dict I.kIn
  obtain ⟨w',hw,rw'⟩:=RelO.some_of (v:=z) (o:=valueAt vs k) (by rw [← hv]; exact rel.val k)
  exact tail_any dd.typeIs PySem.F.slot_dict_getitem.lookup (wpAny_getItem_of (kV_is ry) dd.mapOf hw ⟨z,H,I.tok _,rw',q⟩) hs
def HaveF (P:Program) (w:World) (K:PySem.W.Frag) (mg:Str→Option Value) (base:Heap) (f:Addr) (k:Nat) (ps:List Str) (sp:Sp):Prop:=∃ fd:FuncData,FnOk P w K mg base CX0 k f fd ps sp∧Binds K fd ps []∧PySem.W.keepIn K (.ref f) = true
theorem HaveF.mono {P:Program}{w:World}{K:PySem.W.Frag}{mg:Str→Option Value}{base:Heap}{f:Addr}{j k:Nat}{ps:List Str}{sp:Sp} (h:HaveF P w K mg base f j ps sp) (e:j≤k):HaveF P w K mg base f k ps sp:=
  let ⟨fd,F,r⟩:=h; ⟨fd,F.mono e,r⟩
def tCallF (P:Program) (w:World) (K:PySem.W.Frag) (mg:Str→Option Value) (base:Heap) (k:Nat) (tf:TE) (t:TA):TE:=fun σ H Q=>tf σ H fun x H1=>∃ (f:Addr) (ps:List Str) (sp:Sp),x = .ref f∧HaveF P w K mg base f k ps sp∧t σ H1 fun vs H2=>sp vs H2 Q E0
theorem pe_callF {X:Cx}{k:Nat}{fe e:Expr}{es:List Expr}{tf:TE}{t:TA}{pos:Pos} (hr:Room k X.A) (hf:PE X fe tf) (ha:PA X (e :: es) t)
    (hev:eval (.Call fe (e :: es) [] pos) X.env = (do callWith pos (← eval fe X.env) [] (backTo pos (starEach (e :: es) X.env)) (backToKw pos (keywordEach [] X.env))):=by rfl)
    (he:starEach (e :: es) X.env = (false,eval e X.env) :: starEach es X.env:=by rfl) (hpl:(backTo pos (starEach es X.env)).any (·.1) = false:=by rfl):
    PE X (.Call fe (e :: es) [] pos) (tCallF X.prog X.w X.K X.mg X.base k tf t):=by
  intro pins s σ H Q I h
  refine Call_ (thn (hf pins s σ H _ I h) fun fv s1 ⟨x,H1,I1,rx,f,ps,sp,ex,⟨fd,F,b,kp⟩,q1⟩=>?_) hev
  subst ex
  obtain rfl:fv = Value.ref f:=rx
  refine PySem.W.callWith_K (h₀:=X.base) I.ok.mod.kin kp (thn (ha pos pins s1 σ H1 _ I1 q1) fun us s2 ⟨vs,H2,I2,r,q⟩=>⟨I2.kIn,?_⟩) he hpl
  exact run_fn F hr b .nil pass0 I2 r (by rw [List.append_nil]; exact q)
end L2
namespace D
open PySem L2
theorem pe_callF {X:Cx}{k:Nat}{fe e:Expr}{es:List Expr}{tf:TE}{t:TA}{pos:Pos} (hr:Room k X.A) (hf:QE X fe tf) (ha:QA X (e :: es) t)
    (hev:eval (.Call fe (e :: es) [] pos) X.env = (do callWith pos (← eval fe X.env) [] (backTo pos (starEach (e :: es) X.env)) (backToKw pos (keywordEach [] X.env))):=by rfl)
    (he:starEach (e :: es) X.env = (false,eval e X.env) :: starEach es X.env:=by rfl) (hpl:(backTo pos (starEach es X.env)).any (·.1) = false:=by rfl):
    QE X (.Call fe (e :: es) [] pos) (tCallF X.prog X.w X.K X.mg X.base k tf t):=⟨L2.pe_callF hr hf.un ha.un hev he hpl⟩
end D
set_option Elab.async false
set_option linter.all false
set_option maxRecDepth 100000
set_option maxHeartbeats 4000000
namespace L2
open PySem PySem.Spec PyProof.Rows PySem.Builtin PySem.Builtin.Str
theorem op_mulB {X:Cx}:OpR X (binaryOp .Mult) (rI IntMulOk fun i j=>.int (i * j)):=opI fun _ _ _ _ _ _ _ hc q=>mul_int q hc
def CDivNB (i j:Int):Prop:=j≠0∧j.natAbs.log2 < 9000
theorem op_fdivNB {X:Cx}:OpR X (binaryOp .FloorDiv) (rI CDivNB fun i j=>.int (i.fdiv j)):=opI fun _ _ _ _ _ _ _ hc q=>floordiv_int hc.1 q (.inl (PyProof.noPylong_of_log2 hc.2))
def rJoin (K:PySem.W.Frag):R2:=fun x y H Q=>(∃ i j,x = .str i∧y = .str j∧i.length + j.length≤sizeLine∧Q (.str (i ++ j)) H)∨rCatT K x y H Q ∨
  ∃ (a b:Addr) (ys:List V),x = .ref a∧y = .ref b∧SqT K H a []∧SqT K H b ys∧Q (.ref b) H
theorem op_join {X:Cx}:OpR X (binaryOp .Add) (rJoin X.K):=OpR.or op_add_str (OpR.or op_catT op_catT0)
theorem isi_any {K:PySem.W.Frag}{A T1 T2:String}{b1 b2:Bool} (h1:isi A T1 = some b1) (h2:isi A T2 = some b2):PySem.W.kitAny K (.type A) [.type T1,.type T2] = some (b1 || b2):=by
  unfold PySem.W.kitAny
  rw [isi_ok h1]
  cases b1 with
  | true=>rfl
  | false=>
    show PySem.W.kitAny K (.type A) [.type T2] = _
    unfold PySem.W.kitAny
    rw [isi_ok h2]
    cases b2 <;> rfl
theorem call_isi2 {X:Cx}:CallR X (.builtin "isinstance") (fun xs H Q=>∃ v A p T1 T2 b1 b2,xs = [v,.ref p]∧TyOf X.K H v (.type A)∧H p = some (.tup [.ty T1,.ty T2])∧isi A T1 = some b1∧isi A T2 = some b2∧Q (.bl (b1 || b2)) H):=by
  intro pins s σ H xs us Q I r h
  obtain ⟨v,A,p,T1,T2,b1,b2,rfl,ty,hp,e1,e2,q⟩:=h
  obtain ⟨u,c,rfl,rx,rc⟩:=vals2 r
  cases (show c = Value.ref p from rc)
  obtain ⟨_,its,ri,⟨o,ho,hc,hd⟩⟩:=(show ObjOk X.prog X.w H s.heap p (.tup [.ty T1,.ty T2]) from I.hok p _ hp)
  obtain ⟨n,hd⟩:=hd
  have eits:its = [.type T1,.type T2]:=by
    cases ri with
    | cons r1 r2=>
    cases r2 with
    | cons r3 r4=>
    cases r4
    cases (show _ = Value.type T1 from r1)
    cases (show _ = Value.type T2 from r3)
    rfl
  have htp:s.heap.get? p = some ⟨.type "tuple",o.dict,.seq its.toArray n,o.slots⟩:=by
    rw [ho]
    cases o
    simp only at hc hd
    rw [hc,hd]
  have ha:=isi_any (K:=X.K) e1 e2
  rw [eits] at htp
  have fin:∀ tk,EP X pins σ Q (.bool (b1 || b2)) { s with toks:=tk }:=fun tk=>⟨.bl _,H,I.tok tk,rfl,q⟩
  cases ty with
  | non=>cases (show u = Value.none from rx); exact PySem.W.kia_tup PySem.W.kitx_none I.kIn True.intro htp ha (fun z=>nomatch z) fin
  | bl y=>cases (show u = Value.bool y from rx); exact PySem.W.kia_tup PySem.W.kitx_bool I.kIn True.intro htp ha (fun z=>nomatch z) fin
  | int i=>obtain ⟨t,q⟩:=(show ∃ t,u = Value.int i t from rx); cases q; exact PySem.W.kia_tup PySem.W.kitx_int I.kIn True.intro htp ha (fun z=>nomatch z) fin
  | str y=>obtain ⟨t,q⟩:=(show ∃ t,u = Value.str y t from rx); cases q; exact PySem.W.kia_tup PySem.W.kitx_str I.kIn True.intro htp ha (fun z=>nomatch z) fin
  | flt y=>obtain ⟨t,q⟩:=(show ∃ t,u = Value.float y t from rx); cases q; exact PySem.W.kia_tup PySem.W.kitx_float I.kIn True.intro htp ha (fun z=>nomatch z) fin
  | @lst a xs ea=>
    cases (show u = Value.ref a from rx)
    obtain ⟨_,_,n,_,h1⟩:=(show ObjOk X.prog X.w H s.heap a (.lst xs) from I.hok a _ ea)
    exact PySem.W.kia_tup PySem.W.kitx_list I.kIn ⟨_,h1,rfl⟩ htp ha (fun z=>nomatch z) fin
  | @frz a ob xs ea=>
    cases (show u = Value.ref a from rx)
    obtain ⟨_,_,_,n,_,h1⟩:=(show ObjOk X.prog X.w H s.heap a (.frz ob (.lst xs)) from I.hok a _ ea)
    exact PySem.W.kia_tup PySem.W.kitx_list I.kIn ⟨_,h1,rfl⟩ htp ha (fun z=>nomatch z) fin
  | @tup a xs ea=>
    cases (show u = Value.ref a from rx)
    obtain ⟨_,_,_,p⟩:=(show ObjOk X.prog X.w H s.heap a (.tup xs) from I.hok a _ ea)
    obtain ⟨o,h1,h2,_⟩:=p
    exact PySem.W.kia_tup PySem.W.kitx_tuple I.kIn ⟨o,h1,h2⟩ htp ha (fun z=>nomatch z) fin
  | @dK a kvs ea=>
    cases (show u = Value.ref a from rx)
    obtain ⟨_,_,vs,_,p⟩:=(show ObjOk X.prog X.w H s.heap a (.dK kvs) from I.hok a _ ea)
    obtain ⟨o,es,ep,h1,h2,_⟩:=p
    exact PySem.W.kia_tup PySem.W.kitx_dict I.kIn ⟨o,h1,h2.1⟩ htp ha (fun z=>nomatch z) fin
  | @dT a kvs ea=>
    cases (show u = Value.ref a from rx)
    obtain ⟨_,_,xs,_,o,es,ep,h1,h2,_⟩:=(show ObjOk X.prog X.w H s.heap a (.dT kvs) from I.hok a _ ea)
    exact PySem.W.kia_tup PySem.W.kitx_dict I.kIn ⟨o,h1,h2.1⟩ htp ha (fun z=>nomatch z) fin
end L2
set_option Elab.async false
set_option linter.all false
set_option maxRecDepth 100000
set_option maxHeartbeats 4000000
namespace L2
open PySem PySem.Spec PyProof.Rows
theorem ps_lset {X:Cx}{i:Nat}{y:Str}{py spos:Pos}{elt iter:Expr}{x:Str}{px pos:Pos}{ifs:List Expr}{scope:Scope}{cl:List (Str × Addr)} (fr:List Nat) (ys:List Str) {wi:TI}{tt:TT}{te:TE}
    (hc:X.calm = true) (hclos:closureFor scope X.env = pure cl) (hcell:∀ y∈scope.names,y.2≠.cell) (hkind:scope.kind = .function) (hnames:∀ y∈scope.names,y.2 = .local→scope.names.lookup y.1 = some .local)
    (hx:scope.names.lookup x = some .local) (hnd:(x :: ys).Nodup) (hcl:ClOk cl X.env.cells) (hall:(scope.names.all fun y=>y.2 != .free || (cl.lookup y.1).isSome) = true) (hfr:FrOk X scope cl fr ys)
    (hi:PI X (.Name x px) iter wi)
    (hY:∀ C s H fp,PIfs (cxComp X scope cl (x :: ys) C s H fp) ifs tt∧PE (cxComp X scope cl (x :: ys) C s H fp) elt te)
    (hN:X.N.Nodup) (hiy:X.N[i]? = some y) (hy:Loc X.env.scope y) (hsw:swapsWith (.ListComp elt [⟨.Name x px,iter,ifs,0⟩] scope pos) (some (.Name y py)) spos.line X.env = pure true:=by rfl)
    (hf:X.fn y = true∨X.env.scope.names.lookup y = some .local:=by first | exact .inl rfl | exact .inr rfl | assumption)
    (hs:∀ v,foldedSetIterable iter X.env v = pure v:=by intro _; rfl):
    PS X (.Assign [.Name y py] (.ListComp elt [⟨.Name x px,iter,ifs,0⟩] scope pos) spos) (tAsg (tLComp fr wi tt te) (gName i)):=by
  intro pins s σ H Dn I h
  rw [exec_Assign_Name_used _ _ _ _ hsw]
  refine wpAny_bind (wpAny_standAt (wpAny_bind ?_))
  refine (show wpAny _ X.A (do let _ ← comprehension (.ListComp elt [⟨.Name x px,iter,ifs,0⟩] scope pos) scope X.env _ (newList []) false (eval iter X.env) (some (assign (.Name y py) X.env))) _ _ s from ?_)
  refine wpAny_bind (wpAny_mono (wpAny_comprehension_free (use:=some (assign (.Name y py) X.env)) (Q:=fun _ s'=>SP X pins Dn .next s') rfl hs hclos hkind hnames (wpAny_mono (hi pins s σ H _ I h) (fun v s1 h1=>wpAny_mono h1 (fun itv s2 h2=>?_) fun _ _ e=>e) fun _ _ e=>e)) (fun _ s' hq=>wpAny_pure (wpAny_pure hq)) fun _ _ e=>e)
  obtain ⟨it,fp,tn,J,H2,rfl,I2,T,st2,f2,W,⟨m0,w0⟩,turn⟩:=h2
  refine wpAny_newObj_type (wpAny_newFunctionEnv hcell (by intro y hy; simp at hy) (fun h₁ hns₁ hsb₁=>?_) hkind)
  dsimp only at hns₁ hsb₁ ⊢
  generalize hP2:s2.heap.push { cls:=.type "list",dict:=none,data:=.seq ([]:List Value).toArray } = P2 at hns₁ hsb₁ ⊢
  have hC:P2.objs.size = s2.heap.objs.size + 1:=by rw [← hP2,Heap.size_push]
  have hDC:s2.heap.objs.size≠P2.objs.size:=by rw [hC]; exact Nat.ne_of_lt (Nat.lt_succ_self _)
  have hCle:s2.heap.objs.size≤P2.objs.size:=by rw [hC]; exact Nat.le_succ _
  have below:∀ b,b < s2.heap.objs.size→b≠P2.objs.size∧b≠s2.heap.objs.size:=fun b hb=>⟨by rw [hC]; exact Nat.ne_of_lt (Nat.lt_succ_of_lt hb),Nat.ne_of_lt hb⟩
  have old:∀ b o,s2.heap.get? b = some o→h₁.get? b = some o:=fun b o e=>hsb₁.extBut b o (below b (Heap.lt_size e)).1 (Heap.get?_push_of_some _ (hP2 ▸ Heap.get?_push_of_some _ e))
  have hacc:h₁.get? s2.heap.objs.size = some { cls:=.type "list",data:=.seq ([]:List Value).toArray }:=hsb₁.extBut _ _ hDC (Heap.get?_push_of_some _ (hP2 ▸ Heap.get?_push_size _ rfl))
  have fpl:∀ b∈fp,b < s2.heap.objs.size:=fun b hb=>by
    obtain ⟨o,e,_⟩:=T.obj _ _ st2 b hb
    exact Heap.lt_size e
  have tlt:∀ b o,H2 b = some o→b < s2.heap.objs.size:=fun b o e=>I2.hok.lt e
  generalize hCg:P2.objs.size = C at hns₁ hsb₁ hDC hCle below ⊢
  generalize hDg:s2.heap.objs.size = D at hDC below hacc fpl tlt ⊢
  have hDle:D≤C:=by rw [← hDg]; exact hCle
  have cls:∀ y c,cl.lookup y = some c→X.env.cells.lookup y = some c:=fun y c e=>hcl.mem e
  have clt:∀ y c,cl.lookup y = some c→c < D:=fun y c e=>by
    obtain ⟨v,q⟩:=I2.cell y c (cls y c e)
    rw [← hDg]; exact q.lt
  have sub:∀ b∈frs X.stack,b < D:=fun b hb=>by
    rcases List.mem_cons.mp (I2.stkSub b hb) with e | hb
    · rw [e,← hDg]; exact I2.lt
    · obtain ⟨_,o,ho,_⟩:=I2.ok.funs.mem hb
      rw [← hDg]; exact Nat.lt_of_lt_of_le (Heap.lt_size ho) I2.sz
  obtain ⟨YI,YE⟩:=hY C s2 H2 fp
  have Yok:(cxComp X scope cl (x :: ys) C s2 H2 fp).Ok:=by
    refine ⟨I2.ok.mod,hkind,I2.ok.glob,I2.ok.blt,hCle,?_,?_,?_,fun _=>I2.ok.hd hc,I2.ok.frames,.inl rfl,?_,I2.bs,Nat.le_trans I2.ok.bsz I2.sz,?_,?_,I2.stack,I2.stkFree⟩
    · exact fun y z c e1 e2=>I2.ok.inj y z c (cls y c e1) (cls z c e2)
    · intro y hy
      have hm:=lookup_relabel_inv (env:=X.env) (names:=scope.names) (x:=y) hcell hy
      have q:=List.all_eq_true.mp hall _ hm
      show ∃ c,cl.lookup y = some c
      exact Option.isSome_iff_exists.mp (by simpa using q)
    · intro y c hf _
      exact absurd hf (by show ¬ false = true; decide)
    · intro b hb
      refine ⟨(below b (fpl b hb)).1,fun y c e z=>?_⟩
      exact (f2 b hb).2.2.2.2.1 y c (cls y c e) z
    · intro b o e hb
      have hb:b∈fp:=hb
      rcases (f2 b hb).2.2.2.1 with z | z
      · exact I2.ok.noex b o e z
      · exact absurd (Nat.lt_of_lt_of_le (Heap.lt_size e) (Nat.le_trans I2.ok.bsz z)) (Nat.lt_irrefl _)
    · intro b hb hf
      have hb:b∈fp:=hb
      rcases List.mem_cons.mp (I2.stkSub b hf) with e | hf
      · exact (f2 b hb).2.1 e
      · exact (f2 b hb).2.2.1 hf
  have hvis:Loc (cxComp X scope cl (x :: ys) C s2 H2 fp).env.scope x:=.inl (lookup_relabel_local hx)
  have start:∀ tk,Inv (cxComp X scope cl (x :: ys) C s2 H2 fp) [] (none :: frees fr σ) H2 { s2 with heap:=h₁,toks:=tk }:=fun tk=>by
    refine ⟨Yok,rfl,I2.bare,Un.kept old,⟨_,hns₁,fun i y v e1 e2 e3=>?_⟩,fun y c e=>?_,?_,fun y c e=>?_,fun p hp=>absurd (show p∈([]:List (Addr × Obj)) from hp) (by simp),I2.hok.kept old,?_⟩
    · cases i with
      | zero=>simp at e2
      | succ j=>
        obtain ⟨i',n1,n2,n3,n4,n5,c,n6⟩:=frees_get hfr j y v (by simpa [cxComp] using e1) (by simpa using e2)
        obtain ⟨m,hn,hl⟩:=I2.loc
        obtain ⟨u,r,l⟩:=hl i' y v n1 n2 n4
        refine ⟨u,r,.inr ⟨lookup_relabel_free n3,c,n6,?_⟩⟩
        rcases l with ⟨k,_⟩ | ⟨k,c',e,z⟩
        · exact absurd k n5
        · rw [cls y c n6] at e
          cases e
          obtain ⟨o,ho,hd⟩:=z
          exact ⟨o,old _ _ ho,hd⟩
    · obtain ⟨v,o,ho,hd⟩:=I2.cell y c (cls y c e)
      exact ⟨v,o,old _ _ ho,hd⟩
    · show H2 C = none
      cases q:H2 C with
      | none=>rfl
      | some o=>exact absurd (tlt C o q) (Nat.not_lt.mpr hDle)
    · exact I2.freeC y c (cls y c e)
    · show (none :: frees fr σ).length = (x :: ys).length
      rw [List.length_cons,List.length_cons,frees_len hfr]
  have fpY:∀ {pl:List (Addr × Obj)}{H':Hp},(∀ b∈fp,H' b = none)→(∀ p∈pl,p.1 = D)→∀ b∈fp,FpOk (cxComp X scope cl (x :: ys) C s2 H2 fp) pl H' b:=fun {pl H'} hn hpl b hb=>by
    refine ⟨hn b hb,(below b (fpl b hb)).1,Yok.exfs b hb,.inl hb,fun y c e z=>(f2 b hb).2.2.2.2.1 y c (cls y c e) z,fun p hp=>?_⟩
    have hp:p∈[] ++ pl:=hp
    rw [List.nil_append] at hp
    rw [hpl p hp]
    exact (below b (fpl b hb)).2.symm
  have loop:∀ s₃:Shared,(∃ tk,s₃ = { s2 with heap:=h₁,toks:=tk })→
      codeAny (model X.prog X.w) X.A (.compLoop (.ListComp elt [⟨.Name x px,iter,ifs,0⟩] scope pos) 0 (.ref it) (.ref D) (compEnvC scope cl C X.env))
        (compPost (model X.prog X.w) X.A X.xe (some (assign (.Name y py) X.env)) (fun _ s'=>SP X pins Dn .next s') (.ref D) C) s₃:=by
    rintro s₃ ⟨tk,rfl⟩
    refine comp_loop
      (fun k s'=>∃ i vs ws nn H',Inv (cxComp X scope cl (x :: ys) C s2 H2 fp) [] (none :: frees fr σ) H' s'∧tn i s'.heap∧(∀ b∈fp,H' b = none)∧H' D = none ∧
        s'.heap.get? D = some { cls:=.type "list",data:=.seq (ws:List Value).toArray nn }∧Vals vs ws∧W i k vs H') ?_ m0
      ⟨0,[],[],0,H2,start tk,T.keep _ _ _ st2 fun b _ o e=>old b o e,fun b hb=>(f2 b hb).1,?_,hacc,.nil,w0⟩
    · rintro n s3 ⟨i,vs,ws,nn,H3,I3,st3,fr3,hD3,ho3,rv3,w3⟩
      have I3':Inv (cxComp X scope cl (x :: ys) C s2 H2 fp) [(D,{ cls:=.type "list",data:=.seq ws.toArray nn })] (none :: frees fr σ) H3 s3:=I3.pins_of fun p hp=>by
        have e:p = (D,{ cls:=.type "list",data:=.seq ws.toArray nn }):=by simpa using hp
        subst e
        refine ⟨ho3,hD3,hDC,fun z=>absurd (sub D z) (Nat.lt_irrefl _),fun v z=>?_⟩
        have z':Data.seq ws.toArray nn = Data.cell v:=z
        cases z'
      have fp3:=fpY (pl:=[(D,{ cls:=.type "list",data:=.seq ws.toArray nn })]) fr3 (fun p hp=>by rw [List.mem_singleton.mp hp])
      obtain ⟨hsz,alt⟩:=turn i n vs H3 w3
      rcases alt with ⟨stop,fin⟩ | ⟨go,step⟩
      · refine thn (T.done (cxComp X scope cl (x :: ys) C s2 H2 fp) rfl rfl rfl rfl i _ s3 _ H3 _ I3' fp3 st3 stop) fun r s4 ⟨hr,I4⟩=>?_
        subst hr
        have pD:=I4.pin (D,{ cls:=.type "list",data:=.seq ws.toArray nn }) (by show _∈[] ++ _; simp)
        obtain ⟨m4,hn4,_⟩:=I4.loc
        have hC4:H3 C = none:=I4.free
        have hok4:HOk X.prog X.w (upd H3 D (.lst vs)) s4.heap:=HOk.track I4.hok hD3 ⟨hsz,ws,nn,rv3,pD.1⟩
        have b4:=I4.base
        have un4:Un (frs X.stack) fp H2 (upd H3 D (.lst vs)) s2.heap s4.heap:=by
          have lt:∀ b o,s2.heap.get? b = some o→b < D:=fun b o e=>by rw [← hDg]; exact Heap.lt_size e
          refine ⟨b4.keep,b4.slot,fun b o e n hx=>?_,b4.there,fun b zs e=>?_,fun b o u e=>?_,fun b ps e=>?_⟩
          · rw [upd_ne (below b (lt b o e)).2]; exact b4.free b o e n hx
          · rw [upd_ne (below b (tlt b _ e)).2]; exact b4.tups b zs e
          · rw [upd_ne (below b (tlt b _ e)).2]; exact b4.frzs b o u e
          · rw [upd_ne (below b (tlt b _ e)).2]; exact b4.tbls b ps e
        have I5:Inv X pins σ (upd H3 D (.lst vs)) s4:=I2.call' (ch:=fp) I4.os un4 hok4 I4.bare fun b hb=>⟨(f2 b hb).2.2.2.1,(f2 b hb).2.1,(f2 b hb).2.2.2.2.1,(f2 b hb).2.2.2.2.2⟩
        have fC:FpOk X pins (upd H3 D (.lst vs)) C:=I2.fpOk (by rw [hDg]; exact hDle) (by rw [upd_ne hDC.symm]; exact hC4)
        refine (show wpAny _ X.A (assign (.Name y py) X.env (.ref D)) _ _ s4 from wpAny_assign_Name (store_ok2 I5 hN hiy hy (v:=.ref D) rfl (fun s5 I6 ⟨a,hsa,ha⟩=>?_) hf))
        have aC:C≠a:=by
          rcases ha with ha | ha
          · rw [ha]; exact fC.2.1
          · exact (fC.2.2.2.2.1 _ _ ha).symm
        refine ⟨m4,hn4.sameBut hsa aC,fun h' hs'=>⟨_,upd H3 D (.lst vs),I6.turned (t':=s5.toks) (it:=C) (fun b o hb e=>(hs'.2 b hb).trans e) fC.1 fC.2.1 fC.2.2.2.1 fC.2.2.2.2.1 fC.2.2.2.2.2,fin D hD3⟩⟩
      · refine thn (T.item (cxComp X scope cl (x :: ys) C s2 H2 fp) rfl rfl rfl rfl i _ s3 _ H3 _ I3' fp3 st3 go) fun r s4 ⟨u,hr,h4⟩=>?_
        subst hr
        refine thn h4 fun _ s5 ⟨v,H5,I5,r5,y5,st5,fr5⟩=>?_
        have fp5:=fpY (pl:=[(D,{ cls:=.type "list",data:=.seq ws.toArray nn })]) fr5 (fun p hp=>by rw [List.mem_singleton.mp hp])
        have I5':=I5.pinned fp5 (T.obj _ _ st5)
        refine thn (pg_name (X:=cxComp X scope cl (x :: ys) C s2 H2 fp) (i:=0) (pos:=px) hnd rfl hvis (.inr (lookup_relabel_local hx)) _ s5 _ H5 v u (fun σ' H'=>σ' = some v :: frees fr σ∧H' = H5) I5' r5 ⟨rfl,rfl⟩) fun _ s6 ⟨σ6,H6,I6,e6,e6'⟩=>?_
        subst e6 e6'
        refine thn (YI _ s6 _ _ _ I6 (step v H6 y5)) fun b s7 ⟨H7,I7,q7⟩=>?_
        have back:∀ {H8:Hp}{s8:Shared},Inv (cxComp X scope cl (x :: ys) C s2 H2 fp) ([(D,{ cls:=.type "list",data:=.seq ws.toArray nn })] ++ pinsAt fp s5.heap) (some v :: frees fr σ) H8 s8→
            s8.heap.get? D = some { cls:=.type "list",data:=.seq ws.toArray nn }∧H8 D = none∧(∀ b∈fp,H8 b = none)∧(∀ b∈fp,∀ o,s5.heap.get? b = some o→s8.heap.get? b = some o):=fun {H8 s8} I8=>by
          have pD:=I8.pin (D,{ cls:=.type "list",data:=.seq ws.toArray nn }) (by show _∈[] ++ _; simp)
          refine ⟨pD.1,pD.2.1,fun b hb=>?_,fun b hb o e=>?_⟩
          · obtain ⟨o,e,d⟩:=T.obj _ _ st5 b hb
            exact (I8.pin (b,o) (List.mem_append_right _ (List.mem_append_right _ (mem_pinsAt hb e)))).2.1
          · exact (I8.pin (b,o) (List.mem_append_right _ (List.mem_append_right _ (mem_pinsAt hb e)))).1
        have weak:∀ {H8:Hp}{s8:Shared},Inv (cxComp X scope cl (x :: ys) C s2 H2 fp) [] (some v :: frees fr σ) H8 s8→Inv (cxComp X scope cl (x :: ys) C s2 H2 fp) [] (none :: frees fr σ) H8 s8:=fun {H8 s8} I8=>
          I8.weak rfl fun i v' e=>by
            cases i with
            | zero=>simp at e
            | succ j=>simpa using e
        have nopin:∀ {H8:Hp}{s8:Shared}{pl:List (Addr × Obj)},Inv (cxComp X scope cl (x :: ys) C s2 H2 fp) pl (some v :: frees fr σ) H8 s8→Inv (cxComp X scope cl (x :: ys) C s2 H2 fp) [] (some v :: frees fr σ) H8 s8:=fun {H8 s8 pl} I8=>
          I8.pins_of fun p hp=>absurd hp (by simp)
        cases b with
        | false=>
          rw [if_neg Bool.false_ne_true] at q7 ⊢
          obtain ⟨m',hm,w7⟩:=q7
          obtain ⟨k1,k2,k3,k4⟩:=back I7
          exact ⟨m',hm,i + 1,vs,ws,nn,H7,weak (nopin I7),T.keep _ _ _ st5 k4,k3,k2,k1,rv3,w7⟩
        | true=>
          rw [if_pos rfl] at q7 ⊢
          refine thn (YE _ s7 _ _ _ I7 q7) fun u8 s8 ⟨y8,H8,I8,r8,m',hm,w8⟩=>?_
          obtain ⟨k1,k2,k3,k4⟩:=back I8
          refine append_at (hsz:=by rw [List.size_toArray,← rv3.length]; exact hsz) k1 fun h9 hs9 ho9=>?_
          have I9:Inv (cxComp X scope cl (x :: ys) C s2 H2 fp) [] (some v :: frees fr σ) H8 { s8 with heap:=h9 }:=
            (nopin I8).turned (t':=s8.toks) (it:=D) (fun b o hb e=>(hs9.2 b hb).trans e) k2 hDC (.inr (by rw [← hDg]; exact Nat.le_refl _)) (fun y c e=>Nat.ne_of_lt (clt y c e)) fun p hp=>absurd (show p∈([]:List (Addr × Obj)) from hp) (by simp)
          refine ⟨m',hm,i + 1,vs ++ [y8],ws ++ [u8],nn + 1,H8,weak I9,?_,k3,k2,?_,rv3.append (.cons r8 .nil),w8⟩
          · refine T.keep _ _ _ st5 fun b hb o e=>?_
            exact (hs9.2 b (below b (fpl b hb)).2).trans (k4 b hb o e)
          · rw [ho9,List.push_toArray]
    · cases q:H2 D with
      | none=>rfl
      | some o=>exact absurd (tlt D o q) (Nat.lt_irrefl _)
  exact codeAny_compStart_list (loop _ ⟨_,rfl⟩) (T.self _ 0 _ _ _ (T.keep _ _ _ st2 fun b _ o e=>old b o e) (loop _ ⟨_,rfl⟩))
end L2
namespace D
open PySem L2
theorem ps_lset {X:Cx}{i:Nat}{y:Str}{py spos:Pos}{elt iter:Expr}{x:Str}{px pos:Pos}{ifs:List Expr}{scope:Scope}{cl:List (Str × Addr)} (fr:List Nat) (ys:List Str) {wi:TI}{tt:TT}{te:TE}
    (hc:X.calm = true) (hclos:closureFor scope X.env = pure cl) (hcell:∀ y∈scope.names,y.2≠.cell) (hkind:scope.kind = .function) (hnames:∀ y∈scope.names,y.2 = .local→scope.names.lookup y.1 = some .local)
    (hx:scope.names.lookup x = some .local) (hnd:(x :: ys).Nodup) (hcl:ClOk cl X.env.cells) (hall:(scope.names.all fun y=>y.2 != .free || (cl.lookup y.1).isSome) = true) (hfr:FrOk X scope cl fr ys)
    (hi:QI X (.Name x px) iter wi)
    (hY:∀ C s H fp,QIfs (cxComp X scope cl (x :: ys) C s H fp) ifs tt∧QE (cxComp X scope cl (x :: ys) C s H fp) elt te)
    (hN:X.N.Nodup) (hiy:X.N[i]? = some y) (hy:L2.Loc X.env.scope y) (hsw:swapsWith (.ListComp elt [⟨.Name x px,iter,ifs,0⟩] scope pos) (some (.Name y py)) spos.line X.env = pure true:=by rfl)
    (hf:X.fn y = true∨X.env.scope.names.lookup y = some .local:=by first | exact .inl rfl | exact .inr rfl | assumption)
    (hs:∀ v,foldedSetIterable iter X.env v = pure v:=by intro _; rfl):
    QS X (.Assign [.Name y py] (.ListComp elt [⟨.Name x px,iter,ifs,0⟩] scope pos) spos) (tAsg (tLComp fr wi tt te) (gName i)):=
  ⟨L2.ps_lset fr ys hc hclos hcell hkind hnames hx hnd hcl hall hfr hi.un (fun C s H fp=>⟨(hY C s H fp).1.un,(hY C s H fp).2.un⟩) hN hiy hy hsw hf hs⟩
end D
set_option Elab.async false
set_option linter.all false
set_option maxRecDepth 100000
set_option maxHeartbeats 4000000
namespace L2
open PySem PySem.Spec PyProof.Rows
theorem call_dict_of {X:Cx}:CallR X (.type "dict") (fun xs H Q=>∃ (a:Addr) (kvs:List (Key × V)),xs = [.ref a]∧H a = some (.dK kvs)∧∀ p,H p = none→Q (.ref p) (upd H p (.dK kvs))):=by
  intro pins s σ H xs us Q I r h
  obtain ⟨a,kvs,rfl,e,q⟩:=h
  obtain ⟨u,rfl,rx⟩:=vals1 r
  cases rx
  exact d_copyOf I (.inl e) fun p s' hp I'=>⟨.ref p,_,I',rfl,q p hp⟩
def tMGet2 (P:Program) (w:World) (K:PySem.W.Frag) (td ty tx:TE):TE:=fun σ H Q=>td σ H fun x H1=>∃ (g:Addr) (kvs:List (Key × V)),x = .ref g∧MD P w K g kvs∧ty σ H1 fun y H2=>tx σ H2 fun z H3=>∃ k:Key,y = kV k∧Q ((valV kvs k).getD z) H3
theorem pe_mget2 {X:Cx}{o e f:Expr}{apos cpos:Pos}{td ty tx:TE} (ho:PE X o td) (he:PE X e ty) (hf:PE X f tx) (m:M2 X o "get" apos e f cpos):PE X (.Call (.Attribute o "get" apos) [e,f] [] cpos) (tMGet2 X.prog X.w X.K td ty tx):=by
  intro pins s σ H Q I h
  refine wpAny_Call_method m.base m.few m.line PySem.F.plainAttrs_dict PySem.F.slot_dict_get PySem.F.type_dict_get (thn (ho pins s σ H _ I h) fun u s1 ⟨x,H1,I1,rx,a,kvs,ex,d,q1⟩=>?_)
  subst ex
  obtain rfl:u = Value.ref a:=rx
  obtain ⟨vs1,rel1,dd1,hd1⟩:=d.dict I1.kIn
  refine ⟨dd1.typeIs,fun b q=>?_,?_⟩
  · cases q
    obtain ⟨ob,_,_,h1,h2,_⟩:=dd1
    exact ⟨ob,h1,h2.2.1⟩
  rw [m.trees]
  refine Calls.callWith_builtin rfl (Calls.evalArgs_plain (Calls.spliced_cons (thn (he pins s1 σ H1 _ I1 q1) fun iv s2 ⟨y,H2,I2,ry,q2⟩=>
    Calls.spliced_cons (thn (hf pins s2 σ H2 _ I2 q2) fun fv s3 ⟨z,H3,I3,rz,k,ey,q3⟩=>Calls.spliced_nil ?_))))
  subst ey
  obtain ⟨vs,rel,dd,hd⟩:=d.dict I3.kIn
  refine call_meetsIn PySem.F.slot_dict_get dd.typeIs PySem.F.entry_dict_get (PySem.F.args_dict_get_3 _ _ _) (meets_dict_get_default (mixKind X.prog X.w) a (kV_is ry) hd fv) ⟨_,dd.mapOf,?_⟩
  exact ⟨_,H3,I3.tok _,(rel.val k).getD rz,q3⟩
end L2
namespace D
open PySem L2
theorem pe_mget2 {X:Cx}{o e f:Expr}{apos cpos:Pos}{td ty tx:TE} (ho:QE X o td) (he:QE X e ty) (hf:QE X f tx) (m:M2 X o "get" apos e f cpos):QE X (.Call (.Attribute o "get" apos) [e,f] [] cpos) (tMGet2 X.prog X.w X.K td ty tx):=⟨L2.pe_mget2 ho.un he.un hf.un m⟩
end D
set_option Elab.async false
set_option linter.all false
set_option maxRecDepth 100000
set_option maxHeartbeats 4000000
namespace L2
open PySem PySem.Spec PyProof.Rows
theorem mul_one {prog:Program}{w:World}{A:Around}{E:Value→Shared→Prop}{s:Shared}{t:Addr}{items:Array Value}{u:Tok}{Q:Value→Shared→Prop} (ht:IsTup s.heap t items) (h:Q (.ref t) s):wpAny (model prog w) A (binaryOp .Mult (.ref t) (.int 1 u)) Q E s:=by
  obtain ⟨⟨cls,dd,data,sl⟩,ho,hc,n,hd⟩:=id ht
  simp only at hc hd
  subst hc hd
  refine wpAny_binaryOp_repeat_ref (T:="tuple") (U:="int") (by decide) ht.typeIs (fun s'=>typeIs_int s' 1 u) noFill_tuple_mulT PySem.F.fills_int_mul PySem.F.slot_int_rmul repeat_tupleT PySem.F.slot_int_index.lookup
    (call_meets PySem.F.slot_int_rmul (typeIs_int s 1 u) PySem.F.entry_int_rmul (PySem.F.args_int_rmul_2 _ _) (rmul_int_tuple 1 u t dd sl items n) ⟨ho,rfl,ht.typeIs,?_⟩)
  refine wpAny_call_entry PySem.F.slot_tuple_mul ht.typeIs PySem.F.entry_tuple_mul ?_ (PySem.F.args_tuple_mul_2 _ _)
  show wpAny (model prog w) A.in1 (asIndex (.int 1 u) >>= _) _ _ s
  refine wpAny_bind (wpAny_pure ?_)
  show wpAny (model prog w) A.in1 (if (decide ((1:Int) < -(2 ^ 63:Int)) || decide ((1:Int) ≥ 2 ^ 63)) = true then _ else _) _ _ s
  rw [if_neg (by decide)]
  refine wpAny_bind (tupleItemsOf_ ht ?_)
  show wpAny (model prog w) A.in1 (if (items.isEmpty || (1:Int) == 1) = true then _ else _) _ _ s
  rw [if_pos (by simp)]
  refine wpAny_bind (m:=Builtin.Tuple.tupleIsExact (.ref t)) (wpAny_bind (m:=typeOf (.ref t)) (wpAny_typeOf ht.typeIs (wpAny_pure ?_)))
  show wpAny (model prog w) A.in1 (if (Value.type "tuple" == Value.type "tuple") = true then _ else _) _ _ s
  rw [if_pos (by decide)]
  refine wpAny_bind (wpAny_rule ?_)
  exact wpAny_pure ⟨_,rfl,h⟩
def rRepT1 (K:PySem.W.Frag):R2:=fun x y H Q=>∃ (a:Addr) (xs:List V),x = .ref a∧y = .int 1∧SqT K H a xs∧Q (.ref a) H
end L2
set_option Elab.async false
set_option linter.all false
set_option maxRecDepth 100000
set_option maxHeartbeats 4000000
namespace D
open PySem L2 PySem.Spec PyProof.Rows
theorem op_neE {X:Cx} (hu:X.A.units < cLine):OpR X (compareOp .NotEq) (fun x y H Q=>∃ (a b:Addr) (us:List V),x = .ref a∧y = .ref b∧SqL X.K H a us∧SqL X.K H b []∧Q (.bl (!us.isEmpty)) H):=by
  intro pins s σ H x y v u Q I rx ry h
  obtain ⟨a,b,us,rfl,rfl,ha,hb,q⟩:=h
  cases rx
  cases ry
  obtain ⟨its,v1,p1,_⟩:=I.list ha
  obtain ⟨its2,v2,p2,_⟩:=I.list hb
  have l1:=v1.length
  have l2:=v2.length
  cases us with
  | nil=>
    have key:SeqAt.RcNeAt X.A s (.ref a) (.ref b) (!(List.range its.toArray.size).all fun _=>true):=
      SeqAt.RcNeAt.lists p1.isList p2.isList (by rw [List.size_toArray,List.size_toArray]; omega) hu (fun j h1 h2=>by
        have h3:j < its.length:=by simpa using h1
        exact absurd h3 (by rw [← l1]; exact Nat.not_lt_zero _))
    have e:(!(List.range its.toArray.size).all fun _=>true) = false:=by simp
    rw [e] at key
    exact key X.prog X.w _ _ ⟨.bl false,H,I,rfl,q⟩
  | cons x r=>
    have hsz:(its.toArray.size != its2.toArray.size) = true:=by
      rw [List.size_toArray,List.size_toArray,← l1,← l2]
      simp
    exact SeqAt.RcNeAt.lists_lengths p1.isList p2.isList hsz hu X.prog X.w _ _ ⟨.bl true,H,I,rfl,q⟩
end D
set_option Elab.async false
set_option linter.all false
set_option maxRecDepth 100000
set_option maxHeartbeats 4000000
namespace L2
open PySem PySem.Spec PyProof.Rows
theorem pick_rev (its:List Value):∀ k:Nat,k≤its.length→((List.range k).map fun (i:Nat)=>k - 1 - i).filterMap (its.toArray[·]?) = (its.take k).reverse
  | 0,_=>by simp
  | k + 1,h=>by
    have hk:its[k]? = some its[k]:=List.getElem?_eq_getElem (by omega)
    rw [List.range_succ_eq_map,List.map_cons,List.map_map,take_snoc hk,List.reverse_append]
    have e0:its.toArray[k + 1 - 1 - 0]? = some its[k]:=by simp only [Nat.add_sub_cancel,Nat.sub_zero,List.getElem?_toArray]; exact hk
    rw [List.filterMap_cons_some e0]
    have e1:((fun i:Nat=>k + 1 - 1 - i) ∘ Nat.succ) = fun i:Nat=>k - 1 - i:=by
      funext i
      show k + 1 - 1 - (i + 1) = k - 1 - i
      omega
    rw [e1,pick_rev its k (by omega)]
    rfl
theorem slicePick_rev (its:List Value):slicePick its.toArray none none (some (-1)) = its.reverse.toArray:=by
  have h:sliceRange (sliceBounds none none (some (-1)) its.toArray.size).1 (sliceBounds none none (some (-1)) its.toArray.size).2.1 (sliceBounds none none (some (-1)) its.toArray.size).2.2 = (List.range its.length).map fun (i:Nat)=>its.length - 1 - i:=by
    have e1:(sliceBounds none none (some (-1)) its.toArray.size).1 = (its.length:Int) - 1:=rfl
    have e2:(sliceBounds none none (some (-1)) its.toArray.size).2.1 = -1:=rfl
    have e3:(sliceBounds none none (some (-1)) its.toArray.size).2.2 = -1:=rfl
    rw [e1,e2,e3]
    unfold sliceRange
    have hc:(if (-1:Int) > 0 then (if (its.length:Int) - 1 < -1 then (-1 - ((its.length:Int) - 1) + -1 - 1) / -1 else 0) else (if (its.length:Int) - 1 > -1 then ((its.length:Int) - 1 - -1 - -1 - 1) / (- -1) else 0)).toNat = its.length:=by
      rw [if_neg (by decide)]
      by_cases hl:its.length = 0
      · rw [hl]; rfl
      · rw [if_pos (by omega),show (- -1:Int) = 1 from rfl,Int.ediv_one]
        omega
    show (List.range (if (-1:Int) > 0 then (if (its.length:Int) - 1 < -1 then (-1 - ((its.length:Int) - 1) + -1 - 1) / -1 else 0) else (if (its.length:Int) - 1 > -1 then ((its.length:Int) - 1 - -1 - -1 - 1) / (- -1) else 0)).toNat).map _ = _
    rw [hc]
    refine List.map_congr_left fun i hi=>?_
    have:=List.mem_range.mp hi
    omega
  unfold slicePick
  rw [h,pick_rev its its.length (Nat.le_refl _),List.take_length]
section
variable {X:Cx}{e:Expr}{te:TE}{st:Expr}{ts:TO}{pos p2:Pos}
def tSlRev (K:PySem.W.Frag) (te:TE) (ts:TO):TE:=fun σ H Q=>te σ H fun x H1=>ts σ H1 fun o H2=>o = some (-1)∧∃ a xs,x = .ref a∧SqL K H2 a xs∧∀ p,H2 p = none→Q (.ref p) (upd H2 p (.lst xs.reverse))
theorem pe_slrev (he:PE X e te) (hs:PO X (some st) ts):PE X (.Subscript e (.Slice none none (some st) p2) pos) (tSlRev X.K te ts):=by
  intro pins s σ H Q I h
  refine Subscript_ (thn (he pins s σ H _ I h) fun v s1 ⟨x,H1,I1,r1,q1⟩=>?_)
  refine wpAny_Slice ?_
  rw [evalPart_none]
  refine wpAny_pure (wpAny_pure ?_)
  refine thn (hs pins s1 σ H1 _ I1 q1) fun vs s3 ⟨o,H3,I3,ps,ho,a,xs,hx,sq,q⟩=>?_
  subst ho
  subst hx
  cases r1
  have I4:Inv X pins σ H3 { s3 with heap:=s3.heap.push { cls:=.type "slice",data:=.fields #[.none,.none,vs] } }:=I3.kept (t':=s3.toks) fun b ob q=>Heap.get?_push_of_some _ q
  obtain ⟨its,r,ht,hz⟩:=I4.list sq
  have hlen:=r.length
  refine tail_any (ops:=[.ref a,.ref s3.heap.objs.size]) (T:="list") ht.isList.typeIs slot_list_getitem.lookup ?_ (by with_unfolding_all rfl)
  refine wpAny_getItem_list_slice ht.isList (Heap.IsSliceOf.new ..) .none .none ps (by simp) ?_ (by rw [List.size_toArray] <;> omega)
  rw [slicePick_rev]
  refine ⟨.ref _,_,I4.laid (t':=s3.toks) (o:=.lst xs.reverse) (fun b ob q=>Heap.get?_push_of_some _ q) (Nat.le_refl _) ?_,rfl,q _ (I4.hok.fresh (Nat.le_refl _))⟩
  exact ⟨by rw [List.length_reverse]; exact hz,_,0,r.reverse,Heap.get?_push_size _ rfl⟩
end
end L2
namespace D
open PySem L2
theorem pe_slrev {X:Cx}{e:Expr}{te:TE}{st:Expr}{ts:TO}{pos p2:Pos} (h0:QE X e te) (h1:QO X (some st) ts):QE X (.Subscript e (.Slice none none (some st) p2) pos) (tSlRev X.K te ts):=⟨L2.pe_slrev h0.un h1.un⟩
end D
set_option Elab.async false
set_option linter.all false
set_option maxRecDepth 100000
set_option maxHeartbeats 4000000
namespace L2
open PySem PySem.Spec PyProof.Rows
def HaveM (P:Program) (w:World) (K:PySem.W.Frag) (mg:Str→Option Value) (base:Heap) (C:Addr) (m:Str) (k:Nat) (ps:List Str) (sp:Sp):Prop:=
  ∃ (f:Addr) (fd:FuncData),FnOk P w K mg base CX0 k f fd ps sp∧Binds K fd ps []∧Meth K C m f∧Cls K C
def HaveC (P:Program) (w:World) (K:PySem.W.Frag) (mg:Str→Option Value) (base:Heap) (C:Addr) (x:Str) (k:Nat) (ps:List Str) (sp:Sp):Prop:=
  ∃ (f:Addr) (fd:FuncData) (j:Nat),k = j + 1∧FnOk P w K mg base CX0 j f fd ps sp∧Binds K fd ps []∧Mk K C f∧mg x = some (.ref C)
theorem HaveM.mono {P:Program}{w:World}{K:PySem.W.Frag}{mg:Str→Option Value}{base:Heap}{C:Addr}{m:Str}{j k:Nat}{ps:List Str}{sp:Sp} (h:HaveM P w K mg base C m j ps sp) (e:j≤k):HaveM P w K mg base C m k ps sp:=
  let ⟨f,fd,F,r⟩:=h; ⟨f,fd,F.mono e,r⟩
theorem HaveC.mono {P:Program}{w:World}{K:PySem.W.Frag}{mg:Str→Option Value}{base:Heap}{C:Addr}{m:Str}{j k:Nat}{ps:List Str}{sp:Sp} (h:HaveC P w K mg base C m j ps sp) (e:j≤k):HaveC P w K mg base C m k ps sp:=by
  obtain ⟨f,fd,i,rfl,F,r⟩:=h
  exact ⟨f,fd,k - 1,by omega,F.mono (by omega),r⟩
section
variable {X:Cx}{C:Addr}{x m:Str}{k:Nat}{ps:List Str}{sp:Sp}{e o:Expr}{es:List Expr}{ta:TE}{t:TA}{p pos apos:Pos}
theorem pe_m (G:HaveM X.prog X.w X.K X.mg X.base C m k ps sp) (hr:Room k X.A) (ho:PE X o ta) (ha:PA X (e :: es) t) {pl:Sem Bool}
    (hst:starEach (e :: es) X.env = (false,eval e X.env) :: starEach es X.env:=by rfl) (hpl:(backTo pos (starEach es X.env)).any (·.1) = false:=by rfl)
    (ht:eval (.Call (.Attribute o m apos) (e :: es) [] pos) X.env = (do
      let ov ← eval o X.env
      standAt apos.atName
      let (f,first) ← holding [ov] (getMethod ov m pl)
      callWith pos f first (backTo pos (starEach (e :: es) X.env)) (backToKw pos (keywordEach [] X.env))):=by rfl):
    PE X (.Call (.Attribute o m apos) (e :: es) [] pos) (tMeth C m sp [] E0 ta t):=by
  obtain ⟨f,fd,F,b,mm,c⟩:=G
  exact pe_meth ho c mm F hr b .nil pass0 ha hst hpl ht
theorem pe_new (G:HaveC X.prog X.w X.K X.mg X.base C x k ps sp) (hr:Room k X.A) (hg:Gl X x) (ha:PA X (e :: es) t) (hdb:(x == ("__debug__":Str)) = false:=by decide)
    (he:starEach (e :: es) X.env = (false,eval e X.env) :: starEach es X.env:=by rfl) (hpl:(backTo pos (starEach es X.env)).any (·.1) = false:=by rfl):
    PE X (.Call (.Name x p) (e :: es) [] pos) (tMake C sp [] E0 t):=by
  obtain ⟨f,fd,j,rfl,F,b,mk,mg⟩:=G
  exact pe_make mk F hr hg mg b .nil pass0 ha hdb he hpl
end
end L2
namespace D
open PySem L2
section
variable {X:Cx}{C:Addr}{x m:Str}{k:Nat}{ps:List Str}{sp:Sp}{e o:Expr}{es:List Expr}{ta:TE}{t:TA}{p pos apos:Pos}
theorem pe_m (G:HaveM X.prog X.w X.K X.mg X.base C m k ps sp) (hr:Room k X.A) (ho:QE X o ta) (ha:QA X (e :: es) t) {pl:Sem Bool}
    (hst:starEach (e :: es) X.env = (false,eval e X.env) :: starEach es X.env:=by rfl) (hpl:(backTo pos (starEach es X.env)).any (·.1) = false:=by rfl)
    (ht:eval (.Call (.Attribute o m apos) (e :: es) [] pos) X.env = (do
      let ov ← eval o X.env
      standAt apos.atName
      let (f,first) ← holding [ov] (getMethod ov m pl)
      callWith pos f first (backTo pos (starEach (e :: es) X.env)) (backToKw pos (keywordEach [] X.env))):=by rfl):
    QE X (.Call (.Attribute o m apos) (e :: es) [] pos) (tMeth C m sp [] E0 ta t):=⟨L2.pe_m G hr ho.un ha.un hst hpl ht⟩
theorem pe_new (G:HaveC X.prog X.w X.K X.mg X.base C x k ps sp) (hr:Room k X.A) (hg:Gl X x) (ha:QA X (e :: es) t) (hdb:(x == ("__debug__":Str)) = false:=by decide)
    (he:starEach (e :: es) X.env = (false,eval e X.env) :: starEach es X.env:=by rfl) (hpl:(backTo pos (starEach es X.env)).any (·.1) = false:=by rfl):
    QE X (.Call (.Name x p) (e :: es) [] pos) (tMake C sp [] E0 t):=⟨L2.pe_new G hr hg ha.un hdb he hpl⟩
end
end D
set_option Elab.async false
set_option linter.all false
set_option maxRecDepth 100000
set_option maxHeartbeats 4000000
namespace D
open PySem L2
inductive Wd where
  | add | sub | mul | div | less | same | join | list | item | count | figs
def kindW:W:=.lst [.txt "wrong",.txt "kind",.txt ""]
def noughtW:W:=.lst [.txt "wrong",.txt "nought",.txt ""]
def placeW:W:=.lst [.txt "wrong",.txt "place",.txt ""]
def truthW (b:Bool):W:=.lst [.txt "made",.num (if b then 1 else 0)]
def two (f:Int→Int→W):List W→W
  | [.num a,.num b]=>f a b
  | _=>kindW
def recW:Wd→List W→W
  | .add,ws=>two (fun a b=>madeW (.num (a + b))) ws
  | .sub,ws=>two (fun a b=>madeW (.num (a - b))) ws
  | .mul,ws=>two (fun a b=>madeW (.num (a * b))) ws
  | .div,ws=>two (fun a b=>if b = 0 then noughtW else madeW (.num (a.fdiv b))) ws
  | .less,ws=>two (fun a b=>truthW (decide (a < b))) ws
  | .figs,[.num a]=>madeW (.txt (Str.ofString (toString a)))
  | .figs,_=>kindW
  | .same,[x,y]=>truthW (eqW x y)
  | .same,_=>kindW
  | .join,[.txt x,.txt y]=>madeW (.txt (x ++ y))
  | .join,[.lst xs,.lst ys]=>madeW (.lst (xs ++ ys))
  | .join,_=>kindW
  | .list,ws=>madeW (.lst ws)
  | .item,[.lst xs,.num i]=>if 0≤i∧i < (xs.length:Int) then madeW (xs.getD i.toNat (.num 0)) else placeW
  | .item,_=>kindW
  | .count,[.txt x]=>madeW (.num x.length)
  | .count,[.lst xs]=>madeW (.num xs.length)
  | .count,_=>kindW
def spSame:Sp:=fun vs H Q _=>∃ (u v:V) (x y:W),vs = [u,v]∧RW H u x∧RW H v y∧x.depth < 50∧Q (.bl (eqW x y)) H
def spTruth (K:PySem.W.Frag):Sp:=fun vs H Q _=>∃ b:Bool,vs = [.bl b]∧∀ (u:V) (H':Hp),Same H H'→RM K H' u (truthW b)→Q u H'
def spDeed (K:PySem.W.Frag) (pre:List W→Prop) (r:List W→W):Sp:=fun vs H Q _=>∃ (l:Addr) (us:List V) (ws:List W),vs = [.ref l]∧H l = some (.lst us)∧RWs H us ws∧Oks ws∧depths ws≤12∧ws.length≤8∧pre ws ∧
  ∀ (u:V) (H':Hp),Same H H'→RM K H' u (r ws)→Q u H'
theorem rws1 {H:Hp}{us:List V}{x:W} (h:RWs H us [x]):∃ u,us = [u]∧RW H u x:=by
  match us,h.len with
  | [u],_=>exact ⟨u,rfl,h.at' 0 u x rfl rfl⟩
theorem rws2 {H:Hp}{us:List V}{x y:W} (h:RWs H us [x,y]):∃ u v,us = [u,v]∧RW H u x∧RW H v y:=by
  match us,h.len with
  | [u,v],_=>exact ⟨u,v,rfl,h.at' 0 u x rfl rfl,h.at' 1 v y rfl rfl⟩
theorem rwn2 {H:Hp}{us:List V}{a b:Int} (h:RWs H us [.num a,.num b]):us = [.int a,.int b]:=by
  obtain ⟨u,v,rfl,r1,r2⟩:=rws2 h
  cases r1
  cases r2
  rfl
theorem len2w {ws:List W} (h:ws.length = 2):∃ x y,ws = [x,y]:=by
  match ws,h with
  | [x,y],_=>exact ⟨x,y,rfl⟩
theorem len1w {ws:List W} (h:ws.length = 1):∃ x,ws = [x]:=by
  match ws,h with
  | [x],_=>exact ⟨x,rfl⟩
theorem ok60 {a:Int} (h:(W.num a).Ok):a.natAbs.log2 < 1920:=by
  have h1:-(10 ^ 60) < a:=h.1
  have h2:a < 10 ^ 60:=h.2
  by_cases h0:a.natAbs = 0
  · rw [h0]; decide
  · have:=(Nat.log2_lt h0).mpr (show a.natAbs < 2 ^ 200 by
      have:(10:Int) ^ 60 < 2 ^ 200:=by decide
      omega)
    omega
theorem bits_le {a:Int} (h:a.natAbs.log2 < 1920):Builtin.Int.intBits a≤1920:=by
  unfold Builtin.Int.intBits
  split <;> omega
theorem mulOk {a b:Int} (h1:a.natAbs.log2 < 1920) (h2:b.natAbs.log2 < 1920):IntMulOk a b:=by
  unfold IntMulOk
  have:=bits_le h1
  have:=bits_le h2
  have e:Builtin.Int.intTooBig (Builtin.Int.intBits a + Builtin.Int.intBits b) = false:=by
    unfold Builtin.Int.intTooBig
    have hb:10000≤bitsLine:=by decide
    exact decide_eq_false (by omega)
  rw [e]
  simp
theorem signs_num (a:Int):Signs (Str.ofString (toString a)):=fun c hc=>by
  by_cases h:c = 45∨(48≤c∧c≤57)
  · omega
  · exact absurd hc (PyProof.Rows.int_text_free' c (by omega) a)
section
variable {P:Program}{w:World}{K:PySem.W.Frag}{mg:Str→Option Value}{base:Heap}{f:Addr}{fd:FuncData}{k:Nat}
theorem sc_same:FnScope ["one","other"] ["one","other"] (defScope s_same):=⟨rfl,rfl,rfl,by decide +kernel,rfl,by decide +kernel,by decide +kernel⟩
theorem ok_same (F:Fun K "same" "same" s_same f fd):FnOk P w K mg base CX0 (k + 1) f fd ["one","other"] (spSame):=by
  refine F.okQ sc_same (fun vs H Q E h=>?_) (fun cdv A outer s H vs Q E hr h=>?_)
  · obtain ⟨u,v,x,y,rfl,_⟩:=h
    rfl
  obtain ⟨u,v,x,y,rfl,rx,ry,hd,q⟩:=h
  refine ⟨_,(pss_one (ps_ret (pe_cmpR (op_eqW hr.units) (pv 0) (pv 1) (nomark _)))),?_⟩
  exact ⟨_,rfl,_,rfl,x,y,rx,ry,hd,q⟩
theorem sc_truth:FnScope ["is_so"] ["is_so"] (defScope s_truth):=⟨rfl,rfl,rfl,by decide +kernel,rfl,by decide +kernel,by decide +kernel⟩
theorem ok_truth (F:Fun K "truth" "truth" s_truth f fd):FnOk P w K mg base CX0 (k + 1) f fd ["is_so"] (spTruth K):=by
  refine F.okQ sc_truth (fun vs H Q E h=>?_) (fun cdv A outer s H vs Q E hr h=>?_)
  · obtain ⟨b,rfl,_⟩:=h
    rfl
  obtain ⟨b,rfl,q⟩:=h
  refine ⟨_,(pss_one (ps_ret (pe_tup (pa_cons pe_str (pa_cons (pe_ifExp (pt_val (pv 0)) pe_int pe_int) pa_nil))))),?_⟩
  refine ⟨_,rfl,_,rfl,?_⟩
  cases b with
  | true=>exact iteT ⟨(by show 2≤sizeLine; decide),fun a ha=>q _ _ (Same.new ha) (RM.two (SqT.of upd_same) (.txt _) (.num _))⟩
  | false=>exact iteF ⟨(by show 2≤sizeLine; decide),fun a ha=>q _ _ (Same.new ha) (RM.two (SqT.of upd_same) (.txt _) (.num _))⟩
theorem sc_summed:FnScope ["worths"] ["worths"] (defScope s_summed):=⟨rfl,rfl,rfl,by decide +kernel,rfl,by decide +kernel,by decide +kernel⟩
theorem ok_summed (F:Fun K "summed" "summed" s_summed f fd) (G_made:Have P w K mg base "made" k ["thing"] (spMade K 24)):FnOk P w K mg base CX0 (k + 1) f fd ["worths"] (spDeed K (fun ws=>∃ a b,ws = [.num a,.num b]) (recW .add)):=by
  refine F.okQ sc_summed (fun vs H Q E h=>?_) (fun cdv A outer s H vs Q E hr h=>?_)
  · obtain ⟨l,us,ws,rfl,_⟩:=h
    rfl
  obtain ⟨l,us,ws,rfl,hl,hw,ok,hd,hn,⟨a,b,rfl⟩,q⟩:=h
  have e:=rwn2 hw
  subst e
  refine ⟨_,(pss_one (ps_ret (pe_fn G_made hr rfl (pa_cons (pe_op op_add (pe_ix ix_list (pv 0) pe_int (fun _ _=>rfl)) (pe_ix ix_list (pv 0) pe_int (fun _ _=>rfl))) pa_nil)))),?_⟩
  refine ⟨_,rfl,l,_,0,_,rfl,rfl,SqL.of hl,rfl,_,rfl,l,_,1,_,rfl,rfl,SqL.of hl,rfl,_,_,rfl,rfl,?_⟩
  exact ⟨_,.num (a + b),rfl,.num _,trivial,(by show 0 < 24; decide),q⟩
theorem sc_differing:FnScope ["worths"] ["worths"] (defScope s_differing):=⟨rfl,rfl,rfl,by decide +kernel,rfl,by decide +kernel,by decide +kernel⟩
theorem ok_differing (F:Fun K "differing" "differing" s_differing f fd) (G_made:Have P w K mg base "made" k ["thing"] (spMade K 24)):FnOk P w K mg base CX0 (k + 1) f fd ["worths"] (spDeed K (fun ws=>∃ a b,ws = [.num a,.num b]) (recW .sub)):=by
  refine F.okQ sc_differing (fun vs H Q E h=>?_) (fun cdv A outer s H vs Q E hr h=>?_)
  · obtain ⟨l,us,ws,rfl,_⟩:=h
    rfl
  obtain ⟨l,us,ws,rfl,hl,hw,ok,hd,hn,⟨a,b,rfl⟩,q⟩:=h
  have e:=rwn2 hw
  subst e
  refine ⟨_,(pss_one (ps_ret (pe_fn G_made hr rfl (pa_cons (pe_op op_sub (pe_ix ix_list (pv 0) pe_int (fun _ _=>rfl)) (pe_ix ix_list (pv 0) pe_int (fun _ _=>rfl))) pa_nil)))),?_⟩
  refine ⟨_,rfl,l,_,0,_,rfl,rfl,SqL.of hl,rfl,_,rfl,l,_,1,_,rfl,rfl,SqL.of hl,rfl,_,_,rfl,rfl,?_⟩
  exact ⟨_,.num (a - b),rfl,.num _,trivial,(by show 0 < 24; decide),q⟩
theorem sc_multiplied:FnScope ["worths"] ["worths"] (defScope s_multiplied):=⟨rfl,rfl,rfl,by decide +kernel,rfl,by decide +kernel,by decide +kernel⟩
theorem ok_multiplied (F:Fun K "multiplied" "multiplied" s_multiplied f fd) (G_made:Have P w K mg base "made" k ["thing"] (spMade K 24)):FnOk P w K mg base CX0 (k + 1) f fd ["worths"] (spDeed K (fun ws=>∃ a b,ws = [.num a,.num b]) (recW .mul)):=by
  refine F.okQ sc_multiplied (fun vs H Q E h=>?_) (fun cdv A outer s H vs Q E hr h=>?_)
  · obtain ⟨l,us,ws,rfl,_⟩:=h
    rfl
  obtain ⟨l,us,ws,rfl,hl,hw,ok,hd,hn,⟨a,b,rfl⟩,q⟩:=h
  have e:=rwn2 hw
  subst e
  refine ⟨_,(pss_one (ps_ret (pe_fn G_made hr rfl (pa_cons (pe_op op_mulB (pe_ix ix_list (pv 0) pe_int (fun _ _=>rfl)) (pe_ix ix_list (pv 0) pe_int (fun _ _=>rfl))) pa_nil)))),?_⟩
  refine ⟨_,rfl,l,_,0,_,rfl,rfl,SqL.of hl,rfl,_,rfl,l,_,1,_,rfl,rfl,SqL.of hl,rfl,_,_,rfl,rfl,mulOk (ok60 ok.1) (ok60 ok.2.1),?_⟩
  exact ⟨_,.num (a * b),rfl,.num _,trivial,(by show 0 < 24; decide),q⟩
theorem sc_divided:FnScope ["worths"] ["worths"] (defScope s_divided):=⟨rfl,rfl,rfl,by decide +kernel,rfl,by decide +kernel,by decide +kernel⟩
theorem ok_divided (F:Fun K "divided" "divided" s_divided f fd) (G_made:Have P w K mg base "made" k ["thing"] (spMade K 24)) {g_NOUGHT:Addr} (m_NOUGHT:mg "NOUGHT" = some (.ref g_NOUGHT)) (t_NOUGHT:∀ H:Hp,SqT K H g_NOUGHT [.str "wrong",.str "nought",.str ""]):FnOk P w K mg base CX0 (k + 1) f fd ["worths"] (spDeed K (fun ws=>∃ a b,ws = [.num a,.num b]) (recW .div)):=by
  refine F.okQ sc_divided (fun vs H Q E h=>?_) (fun cdv A outer s H vs Q E hr h=>?_)
  · obtain ⟨l,us,ws,rfl,_⟩:=h
    rfl
  obtain ⟨l,us,ws,rfl,hl,hw,ok,hd,hn,⟨a,b,rfl⟩,q⟩:=h
  have e:=rwn2 hw
  subst e
  refine ⟨_,(pss_cons (ps_if (pt_cmpR op_eq (pe_ix ix_list (pv 0) pe_int (fun _ _=>rfl)) pe_int (nomark _)) (pss_one (ps_ret (pe_glob (v:=.ref g_NOUGHT) rfl m_NOUGHT rfl))) pss_nil) (pss_one (ps_ret (pe_fn G_made hr rfl (pa_cons (pe_op op_fdivNB (pe_ix ix_list (pv 0) pe_int (fun _ _=>rfl)) (pe_ix ix_list (pv 0) pe_int (fun _ _=>rfl))) pa_nil))))),?_⟩
  refine ⟨_,rfl,l,_,1,_,rfl,rfl,SqL.of hl,rfl,rfl,_,rfl,?_⟩
  have er:recW .div [.num a,.num b] = if b = 0 then noughtW else madeW (.num (a.fdiv b)):=rfl
  rw [er] at q
  refine ite2 (fun e=>?_) (fun e=>?_)
  · have hb:b = 0:=by simpa using of_decide_eq_true e
    rw [if_pos hb] at q
    exact q _ _ (Same.refl _) (RM.three (t_NOUGHT H) (.txt _) (.txt _) (.txt _))
  · have hb:b≠0:=fun z=>e (by rw [z]; rfl)
    rw [if_neg hb] at q
    refine ⟨_,rfl,l,_,0,_,rfl,rfl,SqL.of hl,rfl,_,rfl,l,_,1,_,rfl,rfl,SqL.of hl,rfl,_,_,rfl,rfl,⟨hb,?_⟩,?_⟩
    · have:=ok60 ok.2.1; omega
    · exact ⟨_,.num (a.fdiv b),rfl,.num _,trivial,(by show 0 < 24; decide),q⟩
theorem sc_lessened:FnScope ["worths"] ["worths"] (defScope s_lessened):=⟨rfl,rfl,rfl,by decide +kernel,rfl,by decide +kernel,by decide +kernel⟩
theorem ok_lessened (F:Fun K "lessened" "lessened" s_lessened f fd) (G_truth:Have P w K mg base "truth" k ["is_so"] (spTruth K)):FnOk P w K mg base CX0 (k + 1) f fd ["worths"] (spDeed K (fun ws=>∃ a b,ws = [.num a,.num b]) (recW .less)):=by
  refine F.okQ sc_lessened (fun vs H Q E h=>?_) (fun cdv A outer s H vs Q E hr h=>?_)
  · obtain ⟨l,us,ws,rfl,_⟩:=h
    rfl
  obtain ⟨l,us,ws,rfl,hl,hw,ok,hd,hn,⟨a,b,rfl⟩,q⟩:=h
  have e:=rwn2 hw
  subst e
  refine ⟨_,(pss_one (ps_ret (pe_fn G_truth hr rfl (pa_cons (pe_cmpR op_lt (pe_ix ix_list (pv 0) pe_int (fun _ _=>rfl)) (pe_ix ix_list (pv 0) pe_int (fun _ _=>rfl)) (nomark _)) pa_nil)))),?_⟩
  refine ⟨_,rfl,l,_,0,_,rfl,rfl,SqL.of hl,rfl,_,rfl,l,_,1,_,rfl,rfl,SqL.of hl,rfl,_,_,rfl,rfl,?_⟩
  exact ⟨_,rfl,q⟩
theorem sc_figured:FnScope ["worths"] ["worths"] (defScope s_figured):=⟨rfl,rfl,rfl,by decide +kernel,rfl,by decide +kernel,by decide +kernel⟩
theorem ok_figured (F:Fun K "figured" "figured" s_figured f fd) (G_made:Have P w K mg base "made" k ["thing"] (spMade K 24)) (m_str:mg "str" = none):FnOk P w K mg base CX0 (k + 1) f fd ["worths"] (spDeed K (fun ws=>∃ a,ws = [.num a]) (recW .figs)):=by
  refine F.okQ sc_figured (fun vs H Q E h=>?_) (fun cdv A outer s H vs Q E hr h=>?_)
  · obtain ⟨l,us,ws,rfl,_⟩:=h
    rfl
  obtain ⟨l,us,ws,rfl,hl,hw,ok,hd,hn,⟨a,rfl⟩,q⟩:=h
  obtain ⟨u,rfl,ru⟩:=rws1 hw
  cases ru
  refine ⟨_,(pss_one (ps_ret (pe_fn G_made hr rfl (pa_cons (pe_callTy call_str_int rfl m_str boot_strT (pa_cons (pe_ix ix_list (pv 0) pe_int (fun _ _=>rfl)) pa_nil)) pa_nil)))),?_⟩
  refine ⟨_,rfl,l,_,0,_,rfl,rfl,SqL.of hl,rfl,a,rfl,ok60 ok.1,?_⟩
  refine ⟨_,.txt (Str.ofString (toString a)),rfl,.txt _,⟨?_,signs_num a⟩,(by show 0 < 24; decide),q⟩
  have:=PyProof.Rows.int_text_len_1921 (ok60 ok.1)
  omega
theorem sc_compared:FnScope ["worths"] ["worths"] (defScope s_compared):=⟨rfl,rfl,rfl,by decide +kernel,rfl,by decide +kernel,by decide +kernel⟩
theorem ok_compared (F:Fun K "compared" "compared" s_compared f fd) (G_truth:Have P w K mg base "truth" k ["is_so"] (spTruth K)) (G_same:Have P w K mg base "same" k ["one","other"] (spSame)):FnOk P w K mg base CX0 (k + 1) f fd ["worths"] (spDeed K (fun ws=>ws.length = 2) (recW .same)):=by
  refine F.okQ sc_compared (fun vs H Q E h=>?_) (fun cdv A outer s H vs Q E hr h=>?_)
  · obtain ⟨l,us,ws,rfl,_⟩:=h
    rfl
  obtain ⟨l,us,ws,rfl,hl,hw,ok,hd,hn,h2,q⟩:=h
  obtain ⟨x,y,rfl⟩:=len2w h2
  obtain ⟨u,v,rfl,ru,rv⟩:=rws2 hw
  have hd2:max x.depth (max y.depth 0)≤12:=hd
  refine ⟨_,(pss_one (ps_ret (pe_fn G_truth hr rfl (pa_cons (pe_fn G_same hr rfl (pa_cons (pe_ix ix_list (pv 0) pe_int (fun _ _=>rfl)) (pa_cons (pe_ix ix_list (pv 0) pe_int (fun _ _=>rfl)) pa_nil))) pa_nil)))),?_⟩
  refine ⟨_,rfl,l,_,0,_,rfl,rfl,SqL.of hl,rfl,_,rfl,l,_,1,_,rfl,rfl,SqL.of hl,rfl,u,v,x,y,rfl,ru,rv,by omega,?_⟩
  exact ⟨_,rfl,q⟩
theorem sc_listed:FnScope ["worths"] ["worths"] (defScope s_listed):=⟨rfl,rfl,rfl,by decide +kernel,rfl,by decide +kernel,by decide +kernel⟩
theorem ok_listed (F:Fun K "listed" "listed" s_listed f fd) (G_made:Have P w K mg base "made" k ["thing"] (spMade K 24)) (m_tuple:mg "tuple" = none):FnOk P w K mg base CX0 (k + 1) f fd ["worths"] (spDeed K (fun _=>True) (recW .list)):=by
  refine F.okQ sc_listed (fun vs H Q E h=>?_) (fun cdv A outer s H vs Q E hr h=>?_)
  · obtain ⟨l,us,ws,rfl,_⟩:=h
    rfl
  obtain ⟨l,us,ws,rfl,hl,hw,ok,hd,hn,_,q⟩:=h
  refine ⟨_,(pss_one (ps_ret (pe_fn G_made hr rfl (pa_cons (pe_callTy call_tuple_of rfl m_tuple boot_tupleT (pa_cons (pv 0) pa_nil)) pa_nil)))),?_⟩
  refine ⟨_,rfl,l,us,rfl,.inl ⟨SqL.of hl,fun t ht=>?_⟩⟩
  have s1:=Same.new (o:=.tup us) ht
  refine ⟨_,.lst ws,rfl,.lst upd_same hw.len fun i v w a b=>(hw.at' i v w a b).mono (same_tups s1),⟨by omega,ths_of ws ok⟩,?_,fun u H' s2 r=>q u H' (s1.trans s2) r⟩
  show 1 + depths ws < 24
  omega
theorem sc_counted:FnScope ["worths"] ["worths"] (defScope s_counted):=⟨rfl,rfl,rfl,by decide +kernel,rfl,by decide +kernel,by decide +kernel⟩
theorem ok_counted (F:Fun K "counted" "counted" s_counted f fd) (G_made:Have P w K mg base "made" k ["thing"] (spMade K 24)) (m_isi:mg "isinstance" = none) (m_len:mg "len" = none) (m_str:mg "str" = none) (m_tuple:mg "tuple" = none) {g_KIND:Addr} (m_KIND:mg "KIND" = some (.ref g_KIND)) (t_KIND:∀ H:Hp,SqT K H g_KIND [.str "wrong",.str "kind",.str ""]):FnOk P w K mg base CX0 (k + 1) f fd ["worths"] (spDeed K (fun ws=>ws.length = 1) (recW .count)):=by
  refine F.okQ sc_counted (fun vs H Q E h=>?_) (fun cdv A outer s H vs Q E hr h=>?_)
  · obtain ⟨l,us,ws,rfl,_⟩:=h
    rfl
  obtain ⟨l,us,ws,rfl,hl,hw,ok,hd,hn,h1,q⟩:=h
  obtain ⟨x,rfl⟩:=len1w h1
  obtain ⟨u,rfl,ru⟩:=rws1 hw
  refine ⟨_,(pss_one (ps_ret (pe_ifExp (pt_val (pe_callB call_isi2 rfl m_isi boot_isi (pa_cons (pe_ix ix_list (pv 0) pe_int (fun _ _=>rfl)) (pa_cons (pe_tup (pa_cons (pe_ty rfl m_str boot_strT) (pa_cons (pe_ty rfl m_tuple boot_tupleT) pa_nil))) pa_nil)))) (pe_fn G_made hr rfl (pa_cons (pe_callB call_len rfl m_len PySem.boot_len (pa_cons (pe_ix ix_list (pv 0) pe_int (fun _ _=>rfl)) pa_nil)) pa_nil)) (pe_glob (v:=.ref g_KIND) rfl m_KIND rfl)))),?_⟩
  refine ⟨_,rfl,l,_,0,_,rfl,rfl,SqL.of hl,rfl,(by show 2≤sizeLine; decide),fun p hp=>?_⟩
  have s1:=Same.new (o:=.tup [.ty "str",.ty "tuple"]) hp
  cases ru with
  | num i=>
    refine ⟨_,_,p,_,_,_,_,rfl,.int i,upd_same,isi_is,isi_it,_,rfl,iteF (q _ _ s1 ?_)⟩
    exact RM.three (t_KIND _) (.txt _) (.txt _) (.txt _)
  | txt z=>
    refine ⟨_,_,p,_,_,_,_,rfl,.str z,upd_same,isi_ss,isi_st,_,rfl,iteT ?_⟩
    have hz:z.length≤400:=ok.1.1
    refine ⟨_,rfl,l,_,0,_,rfl,rfl,SqL.of (s1 _ _ hl),rfl,_,_,rfl,⟨small (by omega),rfl⟩,?_⟩
    exact ⟨_,.num z.length,rfl,.num _,trivial,(by show 0 < 24; decide),fun u H' s2 r=>q u H' (s1.trans s2) r⟩
  | @lst a vs ws e ll at'=>
    refine ⟨_,_,p,_,_,_,_,rfl,.tup (s1 _ _ e),upd_same,isi_ts,isi_tt,_,rfl,iteT ?_⟩
    refine ⟨_,rfl,l,_,0,_,rfl,rfl,SqL.of (s1 _ _ hl),rfl,_,_,rfl,.inr ⟨_,SqT.of (s1 _ _ e),rfl⟩,?_⟩
    rw [ll]
    exact ⟨_,.num ws.length,rfl,.num _,trivial,(by show 0 < 24; decide),fun u H' s2 r=>q u H' (s1.trans s2) r⟩
end
end D
set_option Elab.async false
set_option linter.all false
set_option maxRecDepth 100000
set_option maxHeartbeats 4000000
namespace L2
open PySem
theorem rd_mapL {K:PySem.W.Frag}{fr:List Nat}{j:Nat}{te:TE}{σ:St}{H:Hp}{Q:VK}{a:Addr}{vs:List V} (outs:List V) (hσ:σ[j]? = some (some (.ref a))) (hS:SqL K H a vs) (hl:outs.length = vs.length) (hz:vs.length≤sizeLine)
    (step:∀ (i:Nat) (v y:V) (H1:Hp) (R:VK),vs[i]? = some v→outs[i]? = some y→Same H H1→(∀ H2,Same H1 H2→R y H2)→te (some v :: frees fr σ) H1 R)
    (fin:∀ (H1:Hp) (D:Addr),Same H H1→H1 D = none→Q (.ref D) (upd H1 D (.lst outs))):tLComp fr (iList K (tVar j)) (fun _ H Q=>Q true H) te σ H Q:=by
  refine ⟨_,hσ,a,rfl,⟨vs,hS⟩,fun i m us H1=>i≤vs.length∧m = vs.length - i∧us = outs.take i∧Same H H1,⟨_,Nat.zero_le _,rfl,by simp,Same.refl _⟩,fun i m us H1 hW=>?_⟩
  obtain ⟨hi,hm,hu,sm⟩:=hW
  refine ⟨by rw [hu,List.length_take]; omega,?_⟩
  by_cases hlt:i < vs.length
  · refine .inr ⟨⟨vs,vs[i],sm.seq hS,List.getElem?_eq_getElem hlt⟩,fun v H' hy=>?_⟩
    obtain ⟨rfl,hv⟩:=hy
    have hv:=hv vs (sm.seq hS)
    have hy:outs[i]? = some outs[i]:=List.getElem?_eq_getElem (by omega)
    refine iteT ?_
    refine step i v outs[i] H' _ hv hy sm fun H2 s2=>⟨vs.length - (i + 1),by omega,by omega,rfl,?_,sm.trans s2⟩
    rw [hu,take_snoc hy]
  · have e:i = vs.length:=by omega
    refine .inl ⟨⟨vs,sm.seq hS,by omega⟩,fun D hD=>?_⟩
    have e2:us = outs:=by rw [hu,List.take_of_length_le (by omega)]
    rw [e2]
    exact fin H1 D sm hD
end L2
namespace D
open PySem L2
def wdS:Wd→Str
  | .add=>"+" | .sub=>"-" | .mul=>"*" | .div=>"/" | .less=>"less" | .same=>"same" | .join=>"join" | .list=>"list" | .item=>"item" | .count=>"count" | .figs=>"figures"
def arity:Wd→Nat→Prop
  | .list,_=>True
  | .count,n=>n = 1
  | .figs,n=>n = 1
  | _,n=>n = 2
def spReck (K:PySem.W.Frag):Sp:=fun vs H Q _=>∃ (d:Wd) (l:Addr) (us:List V) (ws:List W),vs = [.str (wdS d),.ref l]∧H l = some (.lst us)∧RWs H us ws∧Oks ws∧depths ws≤12∧ws.length≤8∧arity d ws.length ∧
  ∀ (u:V) (H':Hp),Same H H'→RM K H' u (recW d ws)→Q u H'
def kvsN (f1 f2 f3 f4 f5 f6:Addr):List (Key × V):=[(.inr "+",.ref f1),(.inr "-",.ref f2),(.inr "*",.ref f3),(.inr "/",.ref f4),(.inr "less",.ref f5),(.inr "figures",.ref f6)]
def kvsO (f7 f8 f9 f10 f11:Addr):List (Key × V):=[(.inr "same",.ref f7),(.inr "join",.ref f8),(.inr "list",.ref f9),(.inr "item",.ref f10),(.inr "count",.ref f11)]
def isNumW:W→Bool
  | .num _=>true
  | _=>false
theorem isNum_toT (x:W):isNumB x.toT = isNumW x:=by cases x <;> rfl
theorem two_kind (f:Int→Int→W):∀ {ws:List W},ws.all isNumW = false→two f ws = kindW
  | [],_=>rfl
  | [_],h=>by
    rename_i x
    cases x <;> rfl
  | [x,y],h=>by
    cases x with
    | num a=>
      cases y with
      | num b=>simp [isNumW] at h
      | txt z=>rfl
      | lst z=>rfl
    | txt z=>rfl
    | lst z=>rfl
  | x :: y :: z :: r,h=>by cases x <;> cases y <;> rfl
theorem nums2:∀ {ws:List W},ws.all isNumW = true→ws.length = 2→∃ a b,ws = [.num a,.num b]
  | [x,y],h,_=>by
    cases x with
    | num a=>
      cases y with
      | num b=>exact ⟨a,b,rfl⟩
      | txt z=>simp [isNumW] at h
      | lst z=>simp [isNumW] at h
    | txt z=>simp [isNumW] at h
    | lst z=>simp [isNumW] at h
theorem nums1:∀ {ws:List W},ws.all isNumW = true→ws.length = 1→∃ a,ws = [.num a]
  | [x],h,_=>by
    cases x with
    | num a=>exact ⟨a,rfl⟩
    | txt z=>simp [isNumW] at h
    | lst z=>simp [isNumW] at h
section
variable {P:Program}{w:World}{K:PySem.W.Frag}{mg:Str→Option Value}{base:Heap}{f:Addr}{fd:FuncData}{k:Nat}
theorem sc_joined:FnScope ["worths","one","other","are_texts","are_lists"] ["worths"] (defScope s_joined):=⟨rfl,rfl,rfl,by decide +kernel,rfl,by decide +kernel,by decide +kernel⟩
theorem ok_joined (F:Fun K "joined" "joined" s_joined f fd) (G_made:Have P w K mg base "made" k ["thing"] (spMade K 24)) (m_isi:mg "isinstance" = none) (m_str:mg "str" = none) (m_tuple:mg "tuple" = none) {g_KIND:Addr} (m_KIND:mg "KIND" = some (.ref g_KIND)) (t_KIND:∀ H:Hp,SqT K H g_KIND [.str "wrong",.str "kind",.str ""]):FnOk P w K mg base CX0 (k + 1) f fd ["worths"] (spDeed K (fun ws=>ws.length = 2) (recW .join)):=by
  refine F.okQ sc_joined (fun vs H Q E h=>?_) (fun cdv A outer s H vs Q E hr h=>?_)
  · obtain ⟨l,us,ws,rfl,_⟩:=h
    rfl
  obtain ⟨l,us,ws,rfl,hl,hw,ok,hd,hn,h2,q⟩:=h
  obtain ⟨x,y,rfl⟩:=len2w h2
  obtain ⟨u,v,rfl,ru,rv⟩:=rws2 hw
  have hd2:max x.depth (max y.depth 0)≤12:=hd
  refine ⟨_,(pss_cons (ps_set (i:=1) sc_joined.nd rfl (Or.inl rfl) (pe_ix ix_list (pv 0) pe_int (fun _ _=>rfl)))
    (pss_cons (ps_set (i:=2) sc_joined.nd rfl (Or.inl rfl) (pe_ix ix_list (pv 0) pe_int (fun _ _=>rfl)))
    (pss_cons (ps_set (i:=3) sc_joined.nd rfl (Or.inl rfl) (pe_and (pe_callB call_isi rfl m_isi boot_isi (pa_cons (pv 1) (pa_cons (pe_ty rfl m_str boot_strT) pa_nil))) (pe_one (pe_callB call_isi rfl m_isi boot_isi (pa_cons (pv 2) (pa_cons (pe_ty rfl m_str boot_strT) pa_nil))))))
    (pss_cons (ps_set (i:=4) sc_joined.nd rfl (Or.inl rfl) (pe_and (pe_callB call_isi rfl m_isi boot_isi (pa_cons (pv 1) (pa_cons (pe_ty rfl m_tuple boot_tupleT) pa_nil))) (pe_one (pe_callB call_isi rfl m_isi boot_isi (pa_cons (pv 2) (pa_cons (pe_ty rfl m_tuple boot_tupleT) pa_nil))))))
    (pss_one (ps_ret (pe_ifExp (PW.pt (pw_or (pt_val (pv 3)) (pw_or1 (pt_val (pv 4))))) (pe_fn G_made hr rfl (pa_cons (pe_op op_join (pv 1) (pv 2)) pa_nil)) (pe_glob (v:=.ref g_KIND) rfl m_KIND rfl)))))))),?_⟩
  refine ⟨_,rfl,l,_,0,_,rfl,rfl,SqL.of hl,rfl,_,rfl,l,_,1,_,rfl,rfl,SqL.of hl,rfl,?_⟩
  have kd:recW .join [x,y] = kindW→Q (.ref g_KIND) H:=fun e=>q _ _ (Same.refl _) (by rw [e]; exact RM.three (t_KIND _) (.txt _) (.txt _) (.txt _))
  cases ru with
  | num i=>
    refine ⟨_,rfl,_,_,_,_,rfl,.int i,isi_is,_,rfl,iteF ⟨_,rfl,_,_,_,_,rfl,.int i,isi_it,_,rfl,iteF ?_⟩⟩
    exact ⟨_,rfl,_,rfl,iteF ⟨_,rfl,_,rfl,iteF (kd (by cases y <;> rfl))⟩⟩
  | txt z=>
    have no:∀ (b:Bool),_:=fun (b:Bool)=>(b:Bool)
    cases rv with
    | num j=>
      refine ⟨_,rfl,_,_,_,_,rfl,.str z,isi_ss,_,rfl,iteT ⟨_,rfl,_,_,_,_,rfl,.int j,isi_is,_,rfl,_,_,_,_,rfl,.str z,isi_st,_,rfl,iteF ?_⟩⟩
      exact ⟨_,rfl,_,rfl,iteF ⟨_,rfl,_,rfl,iteF (kd rfl)⟩⟩
    | txt z2=>
      refine ⟨_,rfl,_,_,_,_,rfl,.str z,isi_ss,_,rfl,iteT ⟨_,rfl,_,_,_,_,rfl,.str z2,isi_ss,_,rfl,_,_,_,_,rfl,.str z,isi_st,_,rfl,iteF ?_⟩⟩
      have h1:z.length≤400:=ok.1.1
      have h3:z2.length≤400:=ok.2.1.1
      refine ⟨_,rfl,_,rfl,iteT (iteT ⟨_,rfl,_,rfl,.inl ⟨z,z2,rfl,rfl,small (by omega),?_⟩⟩)⟩
      refine ⟨_,.txt (z ++ z2),rfl,.txt _,⟨by rw [str_app_len]; omega,fun c hc=>?_⟩,(by show 0 < 24; decide),q⟩
      rw [str_app] at hc
      rcases List.mem_append.mp hc with hc | hc
      · exact ok.1.2 c hc
      · exact ok.2.1.2 c hc
    | @lst a vs ws e ll at'=>
      refine ⟨_,rfl,_,_,_,_,rfl,.str z,isi_ss,_,rfl,iteT ⟨_,rfl,_,_,_,_,rfl,.tup e,isi_ts,_,rfl,_,_,_,_,rfl,.str z,isi_st,_,rfl,iteF ?_⟩⟩
      exact ⟨_,rfl,_,rfl,iteF ⟨_,rfl,_,rfl,iteF (kd rfl)⟩⟩
  | @lst a vs xs e ll at'=>
    refine ⟨_,rfl,_,_,_,_,rfl,.tup e,isi_ts,_,rfl,iteF ⟨_,rfl,_,_,_,_,rfl,.tup e,isi_tt,_,rfl,iteT ?_⟩⟩
    cases rv with
    | num j=>
      refine ⟨_,rfl,_,_,_,_,rfl,.int j,isi_it,?_⟩
      exact ⟨_,rfl,_,rfl,iteF ⟨_,rfl,_,rfl,iteF (kd rfl)⟩⟩
    | txt z2=>
      refine ⟨_,rfl,_,_,_,_,rfl,.str z2,isi_st,?_⟩
      exact ⟨_,rfl,_,rfl,iteF ⟨_,rfl,_,rfl,iteF (kd rfl)⟩⟩
    | @lst b us2 ys e2 ll2 at2=>
      refine ⟨_,rfl,_,_,_,_,rfl,.tup e2,isi_tt,?_⟩
      refine ⟨_,rfl,_,rfl,iteF ⟨_,rfl,_,rfl,iteT ?_⟩⟩
      have l1:xs.length≤60:=ok.1.1
      have l2:ys.length≤60:=ok.2.1.1
      have hth:(W.lst (xs ++ ys)).Th:=⟨by rw [List.length_append]; omega,Ths_mk fun z hz=>by
        rcases List.mem_append.mp hz with hz | hz
        · exact th_of z (Oks_mem ok.1.2 z hz)
        · exact th_of z (Oks_mem ok.2.1.2 z hz)⟩
      have hdp:(W.lst (xs ++ ys)).depth < 24:=by
        have e1:(W.lst xs).depth = 1 + depths xs:=rfl
        have e3:(W.lst ys).depth = 1 + depths ys:=rfl
        have e4:∀ (a b:List W),depths (a ++ b) = max (depths a) (depths b):=fun a b=>by
          induction a with
          | nil=>simp [depths]
          | cons x r ih=>simp only [List.cons_append,depths,ih]; omega
        show 1 + depths (xs ++ ys) < 24
        rw [e4]
        omega
      by_cases hx:vs = []
      · have ex:xs = []:=List.length_eq_zero_iff.mp (by rw [← ll,hx]; rfl)
        subst ex
        subst hx
        refine ⟨_,rfl,_,rfl,.inr (.inr ⟨a,b,us2,rfl,rfl,SqT.of e,SqT.of e2,?_⟩)⟩
        exact ⟨_,.lst ([] ++ ys),rfl,.lst e2 ll2 at2,hth,hdp,q⟩
      · refine ⟨_,rfl,_,rfl,.inr (.inl ⟨a,b,vs,us2,rfl,rfl,SqT.of e,SqT.of e2,hx,small (by omega),fun hy=>?_,fun hy p hp=>?_⟩)⟩
        · have ey:ys = []:=List.length_eq_zero_iff.mp (by rw [← ll2,hy]; rfl)
          subst ey
          exact ⟨_,.lst (xs ++ []),rfl,by rw [List.append_nil]; exact .lst e ll at',hth,hdp,q⟩
        · have s1:=Same.new (o:=.tup (vs ++ us2)) hp
          refine ⟨_,.lst (xs ++ ys),rfl,.lst upd_same (by rw [List.length_append,List.length_append,ll,ll2]) fun i v w a1 a2=>?_,hth,hdp,fun u H' s2 r=>q u H' (s1.trans s2) r⟩
          by_cases hi:i < vs.length
          · rw [List.getElem?_append_left hi] at a1
            rw [List.getElem?_append_left (by omega)] at a2
            exact (at' i v w a1 a2).mono (same_tups s1)
          · rw [List.getElem?_append_right (by omega)] at a1
            rw [List.getElem?_append_right (by omega),← ll] at a2
            exact (at2 _ v w a1 a2).mono (same_tups s1)
theorem sc_item_at:FnScope ["worths","items","place"] ["worths"] (defScope s_item_at):=⟨rfl,rfl,rfl,by decide +kernel,rfl,by decide +kernel,by decide +kernel⟩
theorem ok_item_at (F:Fun K "item_at" "item_at" s_item_at f fd) (G_made:Have P w K mg base "made" k ["thing"] (spMade K 24)) (G_is_number:Have P w K mg base "is_number" k ["thing"] (spIsNum)) (m_isi:mg "isinstance" = none) (m_len:mg "len" = none) (m_tuple:mg "tuple" = none) {g_KIND:Addr} (m_KIND:mg "KIND" = some (.ref g_KIND)) (t_KIND:∀ H:Hp,SqT K H g_KIND [.str "wrong",.str "kind",.str ""]) {g_PLACE:Addr} (m_PLACE:mg "PLACE" = some (.ref g_PLACE)) (t_PLACE:∀ H:Hp,SqT K H g_PLACE [.str "wrong",.str "place",.str ""]):FnOk P w K mg base CX0 (k + 1) f fd ["worths"] (spDeed K (fun ws=>ws.length = 2) (recW .item)):=by
  refine F.okQ sc_item_at (fun vs H Q E h=>?_) (fun cdv A outer s H vs Q E hr h=>?_)
  · obtain ⟨l,us,ws,rfl,_⟩:=h
    rfl
  obtain ⟨l,us,ws,rfl,hl,hw,ok,hd,hn,h2,q⟩:=h
  obtain ⟨x,y,rfl⟩:=len2w h2
  obtain ⟨u,v,rfl,ru,rv⟩:=rws2 hw
  have hd2:max x.depth (max y.depth 0)≤12:=hd
  refine ⟨_,(pss_cons (ps_set (i:=1) sc_item_at.nd rfl (Or.inl rfl) (pe_ix ix_list (pv 0) pe_int (fun _ _=>rfl)))
    (pss_cons (ps_set (i:=2) sc_item_at.nd rfl (Or.inl rfl) (pe_ix ix_list (pv 0) pe_int (fun _ _=>rfl)))
    (pss_cons (ps_if (PW.pt (pw_or (pt_not (pt_val (pe_callB call_isi rfl m_isi boot_isi (pa_cons (pv 1) (pa_cons (pe_ty rfl m_tuple boot_tupleT) pa_nil))))) (pw_or1 (pt_not (pt_val (pe_fn G_is_number hr rfl (pa_cons (pv 2) pa_nil))))))) (pss_one (ps_ret (pe_glob (v:=.ref g_KIND) rfl m_KIND rfl))) pss_nil)
    (pss_one (ps_ret (pe_ifExp (pt_chain op_le op_lt pe_int (pv 2) (pe_callB call_len rfl m_len PySem.boot_len (pa_cons (pv 1) pa_nil))) (pe_fn G_made hr rfl (pa_cons (pe_ix ix_tup (pv 1) (pv 2) (fun _ _=>rfl)) pa_nil)) (pe_glob (v:=.ref g_PLACE) rfl m_PLACE rfl))))))),?_⟩
  refine ⟨_,rfl,l,_,0,_,rfl,rfl,SqL.of hl,rfl,_,rfl,l,_,1,_,rfl,rfl,SqL.of hl,rfl,?_⟩
  have kd:recW .item [x,y] = kindW→Q (.ref g_KIND) H:=fun e=>q _ _ (Same.refl _) (by rw [e]; exact RM.three (t_KIND _) (.txt _) (.txt _) (.txt _))
  cases ru with
  | num i=>exact ⟨_,rfl,_,_,_,_,rfl,.int i,isi_it,_,rfl,iteT (iteT (kd rfl))⟩
  | txt z=>exact ⟨_,rfl,_,_,_,_,rfl,.str z,isi_st,_,rfl,iteT (iteT (kd rfl))⟩
  | @lst a vs xs e ll at'=>
    refine ⟨_,rfl,_,_,_,_,rfl,.tup e,isi_tt,_,rfl,iteF ⟨_,rfl,v,y.toT,rfl,rv.toRT,_,rfl,?_⟩⟩
    cases rv with
    | txt z=>exact iteT (kd rfl)
    | lst e2 ll2 at2=>exact iteT (kd rfl)
    | num i=>
      refine iteF ?_
      have er:recW .item [.lst xs,.num i] = if 0≤i∧i < (xs.length:Int) then madeW (xs.getD i.toNat (.num 0)) else placeW:=rfl
      rw [er] at q
      have pl:¬ (0≤i∧i < (xs.length:Int))→Q (.ref g_PLACE) H:=fun hc=>by
        rw [if_neg hc] at q
        exact q _ _ (Same.refl _) (RM.three (t_PLACE _) (.txt _) (.txt _) (.txt _))
      refine ⟨_,rfl,_,_,rfl,rfl,_,rfl,?_⟩
      refine ite2 (fun c1=>?_) (fun c1=>?_)
      · have c1':0≤i:=of_decide_eq_true c1
        refine ⟨_,rfl,_,_,rfl,.inr ⟨_,SqT.of e,rfl⟩,_,_,rfl,rfl,_,rfl,?_⟩
        refine ite2 (fun c2=>?_) (fun c2=>pl fun hc=>c2 (decide_eq_true (by rw [ll]; exact hc.2)))
        have c2':i < (vs.length:Int):=of_decide_eq_true c2
        have hi:i.toNat < xs.length:=by omega
        have hv:vs[i.toNat]? = some vs[i.toNat]:=List.getElem?_eq_getElem (by omega)
        have hx:xs[i.toNat]? = some xs[i.toNat]:=List.getElem?_eq_getElem hi
        rw [if_pos ⟨c1',by omega⟩,List.getD_eq_getElem?_getD,hx] at q
        have hat:atI vs i = some vs[i.toNat]:=by
          have:=atI_nat hv
          rw [show ((i.toNat:Nat):Int) = i by omega] at this
          exact this
        have hm:=List.mem_of_getElem? hx
        have hdm:=depths_mem xs[i.toNat] hm
        have e1:(W.lst xs).depth = 1 + depths xs:=rfl
        refine ⟨_,rfl,_,rfl,a,vs,i,_,rfl,rfl,SqT.of e,hat,?_⟩
        exact ⟨_,xs[i.toNat],rfl,at' _ _ _ hv hx,th_of _ (Oks_mem ok.1.2 _ hm),by omega,q⟩
      · exact ⟨_,rfl,iteF (pl fun hc=>c1 (decide_eq_true hc.1))⟩
theorem sc_reckoned:FnScope ["word","worths"] ["word","worths"] (defScope s_reckoned):=⟨rfl,rfl,rfl,by decide +kernel,rfl,by decide +kernel,by decide +kernel⟩
theorem ok_reckoned (F:Fun K "reckoned" "reckoned" s_reckoned f fd) (G_is_number:Have P w K mg base "is_number" k ["thing"] (spIsNum)) (m_all:mg "all" = none) {g_KIND:Addr} (m_KIND:mg "KIND" = some (.ref g_KIND)) (t_KIND:∀ H:Hp,SqT K H g_KIND [.str "wrong",.str "kind",.str ""]) {g_NUMBER_DEEDS g_OTHER_DEEDS f1 f2 f3 f4 f5 f6 f7 f8 f9 f10 f11:Addr} (m_NUMBER_DEEDS:mg "NUMBER_DEEDS" = some (.ref g_NUMBER_DEEDS)) (d_NUM:MD P w K g_NUMBER_DEEDS (kvsN f1 f2 f3 f4 f5 f6)) (m_OTHER_DEEDS:mg "OTHER_DEEDS" = some (.ref g_OTHER_DEEDS)) (d_OTH:MD P w K g_OTHER_DEEDS (kvsO f7 f8 f9 f10 f11)) (c1:HaveF P w K mg base f1 k ["worths"] (spDeed K (fun ws=>∃ a b,ws = [.num a,.num b]) (recW .add))) (c2:HaveF P w K mg base f2 k ["worths"] (spDeed K (fun ws=>∃ a b,ws = [.num a,.num b]) (recW .sub))) (c3:HaveF P w K mg base f3 k ["worths"] (spDeed K (fun ws=>∃ a b,ws = [.num a,.num b]) (recW .mul))) (c4:HaveF P w K mg base f4 k ["worths"] (spDeed K (fun ws=>∃ a b,ws = [.num a,.num b]) (recW .div))) (c5:HaveF P w K mg base f5 k ["worths"] (spDeed K (fun ws=>∃ a b,ws = [.num a,.num b]) (recW .less))) (c6:HaveF P w K mg base f6 k ["worths"] (spDeed K (fun ws=>∃ a,ws = [.num a]) (recW .figs))) (c7:HaveF P w K mg base f7 k ["worths"] (spDeed K (fun ws=>ws.length = 2) (recW .same))) (c8:HaveF P w K mg base f8 k ["worths"] (spDeed K (fun ws=>ws.length = 2) (recW .join))) (c9:HaveF P w K mg base f9 k ["worths"] (spDeed K (fun _=>True) (recW .list))) (c10:HaveF P w K mg base f10 k ["worths"] (spDeed K (fun ws=>ws.length = 2) (recW .item))) (c11:HaveF P w K mg base f11 k ["worths"] (spDeed K (fun ws=>ws.length = 1) (recW .count))):FnOk P w K mg base CX0 (k + 1) f fd ["word","worths"] (spReck K):=by
  refine F.okQ sc_reckoned (fun vs H Q E h=>?_) (fun cdv A outer s H vs Q E hr h=>?_)
  · obtain ⟨d,l,us,ws,rfl,_⟩:=h
    rfl
  obtain ⟨d,l,us,ws,rfl,hl,hw,ok,hd,hn,ha,q⟩:=h
  refine ⟨_,(pss_cons (ps_if (pt_cmpR op_notInM (pv 0) (pe_glob (v:=.ref g_NUMBER_DEEDS) rfl m_NUMBER_DEEDS rfl) (by rfl)) (pss_one (ps_ret (pe_callF hr (pe_ix ix_mod (pe_glob (v:=.ref g_OTHER_DEEDS) rfl m_OTHER_DEEDS rfl) (pv 0) (fun _ _=>rfl)) (pa_cons (pv 1) pa_nil)))) pss_nil)
    (pss_cons (ps_if (pt_not (pt_val (pe_callB (call_all_bools rfl) rfl m_all boot_allB (pa_cons (pe_lcomp [] [] rfl rfl (by decide +kernel) rfl (by decide +kernel) rfl (by decide +kernel) trivial rfl trivial (pi_list (pv 1)) (fun C s H fp=>⟨pifs_nil,(pe_fn G_is_number hr rfl (pa_cons (pv 0) pa_nil))⟩)) pa_nil)))) (pss_one (ps_ret (pe_glob (v:=.ref g_KIND) rfl m_KIND rfl))) pss_nil)
    (pss_one (ps_ret (pe_callF hr (pe_ix ix_mod (pe_glob (v:=.ref g_NUMBER_DEEDS) rfl m_NUMBER_DEEDS rfl) (pv 0) (fun _ _=>rfl)) (pa_cons (pv 1) pa_nil)))))),?_⟩
  refine ⟨_,rfl,g_NUMBER_DEEDS,_,.inr (wdS d),rfl,rfl,d_NUM,_,rfl,?_⟩
  have facts:(∃ (f0:Addr) (pre:List W→Prop),valV (kvsN f1 f2 f3 f4 f5 f6) (.inr (wdS d)) = some (.ref f0)∧HaveF P w K mg base f0 k ["worths"] (spDeed K pre (recW d))∧(ws.all isNumW = true→pre ws)∧(ws.all isNumW = false→recW d ws = kindW)) ∨
      (valV (kvsN f1 f2 f3 f4 f5 f6) (.inr (wdS d)) = none∧∃ (f0:Addr) (pre:List W→Prop),valV (kvsO f7 f8 f9 f10 f11) (.inr (wdS d)) = some (.ref f0)∧HaveF P w K mg base f0 k ["worths"] (spDeed K pre (recW d))∧pre ws):=by
    cases d with
    | add=>exact .inl ⟨f1,_,rfl,c1,fun h=>nums2 h ha,two_kind _⟩
    | sub=>exact .inl ⟨f2,_,rfl,c2,fun h=>nums2 h ha,two_kind _⟩
    | mul=>exact .inl ⟨f3,_,rfl,c3,fun h=>nums2 h ha,two_kind _⟩
    | div=>exact .inl ⟨f4,_,rfl,c4,fun h=>nums2 h ha,two_kind _⟩
    | less=>exact .inl ⟨f5,_,rfl,c5,fun h=>nums2 h ha,two_kind _⟩
    | figs=>exact .inl ⟨f6,_,rfl,c6,fun h=>nums1 h ha,fun h=>by
        obtain ⟨x,rfl⟩:=len1w ha
        cases x with
        | num a=>simp [isNumW] at h
        | txt z=>rfl
        | lst z=>rfl⟩
    | same=>exact .inr ⟨rfl,f7,_,rfl,c7,ha⟩
    | join=>exact .inr ⟨rfl,f8,_,rfl,c8,ha⟩
    | list=>exact .inr ⟨rfl,f9,_,rfl,c9,trivial⟩
    | item=>exact .inr ⟨rfl,f10,_,rfl,c10,ha⟩
    | count=>exact .inr ⟨rfl,f11,_,rfl,c11,ha⟩
  rcases facts with ⟨f0,pre,hv,hf,h1,h2⟩ | ⟨hv,f0,pre,hv2,hf,h1⟩
  · rw [hv]
    refine iteF ?_
    dsimp only [tNext,tRet,tOp,tC,tCB,tCons,tNil,tB,tNot,tIfS,tSeq]
    refine rd_mapL (ws.map fun x=>V.bl (isNumW x)) (by rfl) (SqL.of hl) (by rw [List.length_map,hw.len]) (small (by have:=hw.len; omega)) (fun i v y H1 R hv' hy s1 hR=>?_) (fun H1 D s1 hD=>?_)
    · rw [List.getElem?_map] at hy
      obtain ⟨x,hx,rfl⟩:=Option.map_eq_some_iff.mp hy
      refine ⟨_,rfl,v,x.toT,rfl,((hw.at' i v x hv' hx).mono (same_tups s1)).toRT,?_⟩
      rw [isNum_toT]
      exact hR _ (Same.refl _)
    · have s2:=s1.trans (Same.new (o:=.lst (ws.map fun x=>V.bl (isNumW x))) hD)
      refine ⟨D,ws.map isNumW,rfl,SqL.of ?_,_,rfl,?_⟩
      · rw [upd_same,List.map_map]; rfl
      have e3:(ws.map isNumW).all id = ws.all isNumW:=by rw [List.all_map]; rfl
      rw [e3]
      cases hall:ws.all isNumW with
      | false=>
        refine iteT (q _ _ s2 ?_)
        rw [h2 hall]
        exact RM.three (t_KIND _) (.txt _) (.txt _) (.txt _)
      | true=>
        refine iteF ⟨_,rfl,g_NUMBER_DEEDS,_,.inr (wdS d),.ref f0,rfl,rfl,d_NUM,hv,f0,_,_,rfl,hf,_,rfl,?_⟩
        exact ⟨l,us,ws,rfl,s2 _ _ hl,hw.mono (same_tups s2),ok,hd,hn,h1 hall,fun u H' s3 r=>q u H' (s2.trans s3) r⟩
  · rw [hv]
    refine iteT ⟨_,rfl,g_OTHER_DEEDS,_,.inr (wdS d),.ref f0,rfl,rfl,d_OTH,hv2,f0,_,_,rfl,hf,_,rfl,?_⟩
    exact ⟨l,us,ws,rfl,hl,hw,ok,hd,hn,h1,q⟩
end
end D
set_option Elab.async false
set_option linter.all false
set_option maxRecDepth 100000
set_option maxHeartbeats 4000000
namespace L2
open PySem PySem.Spec PyProof.Rows
end L2
namespace D
open PySem L2
def isTxtW:W→Bool
  | .txt _=>true
  | _=>false
def isLstW:W→Bool
  | .lst _=>true
  | _=>false
def tnW:W→String
  | .num _=>"int"
  | .txt _=>"str"
  | .lst _=>"tuple"
theorem tyRS {K:PySem.W.Frag}{H:Hp}{u:V}{x:W} (h:RS K H u x):TyOf K H u (.type (tnW x))∨(tnW x = "tuple"∧∃ a ys,u = .ref a∧SqT K H a ys):=by
  cases h with
  | num i=>exact .inl (.int i)
  | txt z=>exact .inl (.str z)
  | @lst a vs ws e l at'=>exact .inr ⟨rfl,a,vs,rfl,e⟩
theorem isiB (x:W):isi (tnW x) "bool" = some false:=match x with | .num _=>isi_ib | .txt _=>isi_sb | .lst _=>isi_tb
theorem isiT (x:W):isi (tnW x) "tuple" = some (isLstW x):=match x with | .num _=>isi_it | .txt _=>isi_st | .lst _=>isi_tt
theorem isiS (x:W):isi (tnW x) "str" = some (isTxtW x):=match x with | .num _=>isi_is | .txt _=>isi_ss | .lst _=>isi_ts
theorem isiI (x:W):isi (tnW x) "int" = some (isNumW x):=match x with | .num _=>isi_ii | .txt _=>isi_si | .lst _=>isi_ti
theorem isi_ll:isi "list" "list" = some true:=by decide +kernel
theorem isi_lb:isi "list" "bool" = some false:=by decide +kernel
def spLSame2 (K:PySem.W.Frag) (n:Nat):Sp:=fun vs H Q _=>(∃ (u v:V) (x y:W),vs = [u,v]∧RS K H u x∧RS K H v y∧x.Th∧y.Th∧y.depth < n∧∀ H',Same H H'→Q (.bl (eqW x y)) H') ∨
  (∃ (a b:Addr) (us vs':List V) (ws:List W),vs = [.ref a,.ref b]∧H a = some (.lst us)∧H b = some (.lst vs')∧RWs H us ws∧RWs H vs' ws∧Oks ws∧depths ws + 1 < n∧ws.length≤100∧∀ H',Same H H'→Q (.bl true) H') ∨
  (∃ (a b l1 l2:Addr) (z:Str) (u v:V) (us vs':List V) (ws:List W) (x:W),vs = [.ref a,.ref b]∧H a = some (.tup [.str z,.ref l1,u])∧H b = some (.tup [.str z,.ref l2,v])∧H l1 = some (.lst us)∧H l2 = some (.lst vs')∧RWs H us ws∧RWs H vs' ws∧Oks ws∧depths ws + 2 < n∧ws.length≤100 ∧
    RS K H u x∧RS K H v x∧x.Th∧(W.txt z).Th∧x.depth + 1 < n∧∀ H',Same H H'→Q (.bl true) H') ∨
  (∃ (a b l1 l2:Addr) (z:Str) (us vs':List V) (ws:List W),vs = [.ref a,.ref b]∧H a = some (.tup [.str z,.ref l1])∧H b = some (.tup [.str z,.ref l2])∧H l1 = some (.lst us)∧H l2 = some (.lst vs')∧RWs H us ws∧RWs H vs' ws∧Oks ws∧depths ws + 2 < n∧ws.length≤100∧(W.txt z).Th∧∀ H',Same H H'→Q (.bl true) H')
theorem range_all {n:Nat} (g:Nat→Bool):((List.range n).map g).all id = (List.range n).all g:=by rw [List.all_map]; rfl
section
variable {P:Program}{w:World}{K:PySem.W.Frag}{mg:Str→Option Value}{base:Heap}{f:Addr}{fd:FuncData}{k:Nat}
theorem sc_lsame:FnScope ["_law_found","_law_due"] ["_law_found","_law_due"] (defScope s_lsame):=⟨rfl,rfl,rfl,by decide +kernel,rfl,by decide +kernel,by decide +kernel⟩
theorem ok_lsame {n:Nat} (F:Fun K "_law_same" "_law_same" s_lsame f fd) (G_lsame:Have P w K mg base "_law_same" k ["_law_found","_law_due"] (spLSame2 K n))
    (m_all:mg "all" = none) (m_bool:mg "bool" = none) (m_int:mg "int" = none) (m_isi:mg "isinstance" = none) (m_len:mg "len" = none) (m_list:mg "list" = none) (m_range:mg "range" = none) (m_str:mg "str" = none) (m_tuple:mg "tuple" = none):
    FnOk P w K mg base CX0 (k + 1) f fd ["_law_found","_law_due"] (spLSame2 K (n + 1)):=by
  refine F.okQ sc_lsame (fun vs H Q E h=>?_) (fun cdv A outer s H vs Q E hr h=>?_)
  · rcases h with ⟨u,v,x,y,rfl,_⟩ | ⟨a,b,us,vs',ws,rfl,_⟩ | ⟨a,b,l1,l2,z,u,v,us,vs',ws,x,rfl,_⟩ | ⟨a,b,l1,l2,z,us,vs',ws,rfl,_⟩ <;> rfl
  refine ⟨_,(pss_cons (ps_if (PW.pt (pw_or (pt_val (pe_callB call_isiS rfl m_isi boot_isi (pa_cons (pv 0) (pa_cons (pe_ty rfl m_bool boot_boolT) pa_nil)))) (pw_or1 (pt_val (pe_callB call_isiS rfl m_isi boot_isi (pa_cons (pv 1) (pa_cons (pe_ty rfl m_bool boot_boolT) pa_nil))))))) (pss_one (ps_ret (pe_and (pe_callB call_isiS rfl m_isi boot_isi (pa_cons (pv 0) (pa_cons (pe_ty rfl m_bool boot_boolT) pa_nil))) (pe_and (pe_callB call_isiS rfl m_isi boot_isi (pa_cons (pv 1) (pa_cons (pe_ty rfl m_bool boot_boolT) pa_nil))) (pe_one (pe_cmpR op_eq (pv 0) (pv 1) (nomark _))))))) pss_nil)
    (pss_cons (ps_if (PW.pt (pw_or (pt_val (pe_callB call_isiS rfl m_isi boot_isi (pa_cons (pv 1) (pa_cons (pe_ty rfl m_tuple boot_tupleT) pa_nil)))) (pw_or1 (pt_val (pe_callB call_isiS rfl m_isi boot_isi (pa_cons (pv 1) (pa_cons (pe_ty rfl m_list boot_listT) pa_nil))))))) (pss_cons (ps_if (PW.pt (pw_and (pt_not (pt_val (pe_callB call_isiS rfl m_isi boot_isi (pa_cons (pv 0) (pa_cons (pe_ty rfl m_tuple boot_tupleT) pa_nil))))) (pw_and1 (pt_not (pt_val (pe_callB call_isiS rfl m_isi boot_isi (pa_cons (pv 0) (pa_cons (pe_ty rfl m_list boot_listT) pa_nil)))))))) (pss_one (ps_ret pe_bl)) pss_nil)
    (pss_cons (ps_if (PW.pt (pw_or (pt_cmpR op_ne (pe_callB call_isiS rfl m_isi boot_isi (pa_cons (pv 0) (pa_cons (pe_ty rfl m_list boot_listT) pa_nil))) (pe_callB call_isiS rfl m_isi boot_isi (pa_cons (pv 1) (pa_cons (pe_ty rfl m_list boot_listT) pa_nil))) (nomark _)) (pw_or1 (pt_cmpR op_ne (pe_callB call_len rfl m_len PySem.boot_len (pa_cons (pv 0) pa_nil)) (pe_callB call_len rfl m_len PySem.boot_len (pa_cons (pv 1) pa_nil)) (nomark _))))) (pss_one (ps_ret pe_bl)) pss_nil)
    (pss_one (ps_ret (pe_callB (call_all_bools rfl) rfl m_all boot_allB (pa_cons (pe_lcomp [0,1] ["_law_found","_law_due"] rfl rfl (by decide +kernel) rfl (by decide +kernel) rfl (by decide +kernel) ⟨rfl,rfl,trivial⟩ rfl ⟨⟨rfl,rfl,Or.inr (Or.inl rfl),(by show (some NameKind.cell:Option NameKind)≠some .local; decide),⟨_,rfl⟩⟩,⟨rfl,rfl,Or.inr (Or.inl rfl),(by show (some NameKind.cell:Option NameKind)≠some .local; decide),⟨_,rfl⟩⟩,trivial⟩ (pi_range1 rfl m_range (pa_cons (pe_callB call_len rfl m_len PySem.boot_len (pa_cons (pv 1) pa_nil)) pa_nil)) (fun C s H fp=>⟨pifs_nil,(pe_fn G_lsame hr rfl (pa_cons (pe_ix (show IxR _ (rIx K) from ix_seq) (pv 1) (pv 0) (fun _ _=>rfl)) (pa_cons (pe_ix (show IxR _ (rIx K) from ix_seq) (pv 2) (pv 0) (fun _ _=>rfl)) pa_nil)))⟩)) pa_nil)))))) pss_nil)
    (pss_cons (ps_if (pt_val (pe_callB call_isiS rfl m_isi boot_isi (pa_cons (pv 1) (pa_cons (pe_ty rfl m_str boot_strT) pa_nil)))) (pss_one (ps_ret (pe_and (pe_callB call_isiS rfl m_isi boot_isi (pa_cons (pv 0) (pa_cons (pe_ty rfl m_str boot_strT) pa_nil))) (pe_one (pe_cmpR op_eq (pv 0) (pv 1) (nomark _)))))) pss_nil)
    (pss_cons (ps_if (pt_val (pe_callB call_isiS rfl m_isi boot_isi (pa_cons (pv 1) (pa_cons (pe_ty rfl m_int boot_intT) pa_nil)))) (pss_one (ps_ret (pe_and (pe_callB call_isiS rfl m_isi boot_isi (pa_cons (pv 0) (pa_cons (pe_ty rfl m_int boot_intT) pa_nil))) (pe_one (pe_cmpR op_eq (pv 0) (pv 1) (nomark _)))))) pss_nil)
    (pss_one (ps_ret (pe_and (pe_cmp (pc_isN (pv 0))) (pe_one (pe_cmp (pc_isN (pv 1))))))))))),?_⟩
  rcases h with ⟨u,v,x,y,rfl,rx,ry,hx,hy,hd,q⟩ | ⟨a,b,us,vs',ws,rfl,ha,hb,hu,hv,ok,hd,hn,q⟩ | ⟨a,b,l1,l2,z,u,v,us,vs',ws,x,rfl,ha,hb,hl1,hl2,hu,hv,ok,hd,hn,ru,rv,hx,hz,hdx,q⟩ | ⟨a,b,l1,l2,z,us,vs',ws,rfl,ha,hb,hl1,hl2,hu,hv,ok,hd,hn,hz,q⟩
  · have q0:∀ b:Bool,eqW x y = b→Q (.bl b) H:=fun b e=>by rw [← e]; exact q H (Same.refl H)
    refine ⟨_,rfl,_,_,_,_,rfl,tyRS rx,isiB x,_,rfl,iteF ⟨_,rfl,_,_,_,_,rfl,tyRS ry,isiB y,_,rfl,iteF ?_⟩⟩
    cases ry with
    | num j=>
      refine ⟨_,rfl,_,_,_,_,rfl,.inl (.int j),isi_it,_,rfl,iteF ⟨_,rfl,_,_,_,_,rfl,.inl (.int j),isi_il,_,rfl,iteF ?_⟩⟩
      refine ⟨_,rfl,_,_,_,_,rfl,.inl (.int j),isi_is,_,rfl,iteF ⟨_,rfl,_,_,_,_,rfl,.inl (.int j),isi_ii,_,rfl,iteT ?_⟩⟩
      refine ⟨_,rfl,_,_,_,_,rfl,tyRS rx,isiI x,_,rfl,?_⟩
      cases rx with
      | num i=>exact iteT ⟨_,rfl,_,rfl,rfl,q0 _ (by rw [dec_int]; rfl)⟩
      | txt z=>exact iteF (q0 _ rfl)
      | lst e l at'=>exact iteF (q0 _ rfl)
    | txt z=>
      refine ⟨_,rfl,_,_,_,_,rfl,.inl (.str z),isi_st,_,rfl,iteF ⟨_,rfl,_,_,_,_,rfl,.inl (.str z),isi_sl,_,rfl,iteF ?_⟩⟩
      refine ⟨_,rfl,_,_,_,_,rfl,.inl (.str z),isi_ss,_,rfl,iteT ?_⟩
      refine ⟨_,rfl,_,_,_,_,rfl,tyRS rx,isiS x,_,rfl,?_⟩
      cases rx with
      | num i=>exact iteF (q0 _ rfl)
      | txt z2=>exact iteT ⟨_,rfl,_,rfl,rfl,q0 _ (by rw [dec_str]; rfl)⟩
      | lst e l at'=>exact iteF (q0 _ rfl)
    | @lst b us2 ys e2 l2 at2=>
      refine ⟨_,rfl,_,_,_,_,rfl,.inr ⟨rfl,b,us2,rfl,e2⟩,isi_tt,_,rfl,iteT (iteT ?_)⟩
      refine ⟨_,rfl,_,_,_,_,rfl,tyRS rx,isiT x,_,rfl,?_⟩
      cases rx with
      | num i=>exact iteT ⟨_,rfl,_,_,_,_,rfl,.inl (.int i),isi_il,_,rfl,iteT (q0 _ rfl)⟩
      | txt z2=>exact iteT ⟨_,rfl,_,_,_,_,rfl,.inl (.str z2),isi_sl,_,rfl,iteT (q0 _ rfl)⟩
      | @lst a vs xs e l at1=>
      refine iteF (iteF ?_)
      refine ⟨_,rfl,_,_,_,_,rfl,.inr ⟨rfl,a,vs,rfl,e⟩,isi_tl,_,rfl,_,_,_,_,rfl,.inr ⟨rfl,b,us2,rfl,e2⟩,isi_tl,rfl,_,rfl,iteF ?_⟩
      refine ⟨_,rfl,_,_,rfl,.inr ⟨_,e,rfl⟩,_,rfl,_,_,rfl,.inr ⟨_,e2,rfl⟩,rfl,_,rfl,?_⟩
      have eqL:eqW (.lst xs) (.lst ys) = ((List.range (min xs.length ys.length)).all (fun j=>eqW (xs.getD j (.num 0)) (ys.getD j (.num 0))) && xs.length == ys.length):=eqWs_iff xs ys
      refine ite2 (fun c=>?_) (fun c=>?_)
      · refine q0 _ ?_
        have:vs.length≠us2.length:=fun z=>by
          rw [z,decide_eq_true rfl] at c
          cases c
        rw [eqL,show (xs.length == ys.length) = false from beq_eq_false_iff_ne.mpr (by omega),Bool.and_false]
      · have hlen:vs.length = us2.length:=by
          apply Classical.byContradiction
          intro z
          exact c (by rw [decide_eq_false (by simpa using fun h=>z (by omega))]; rfl)
        have hl3:xs.length = ys.length:=by omega
        have hl60:ys.length≤1000:=hy.1
        dsimp only [tNext,tRet,tOp,tC,tCB,tCons,tNil]
        refine rd_mapR ((List.range us2.length).map fun j=>V.bl (eqW (xs.getD j (.num 0)) (ys.getD j (.num 0)))) (fun R hR=>?_) (by rw [List.length_map,List.length_range]; omega) (fun i y' H1 R hy' s1 hR=>?_) (fun H1 D s1 hD=>?_)
        · refine ⟨_,rfl,_,_,rfl,.inr ⟨_,e2,rfl⟩,?_⟩
          rw [List.length_map,List.length_range] at hR
          exact hR
        · have hi:i < us2.length:=by
            have:=(List.getElem?_eq_some_iff.mp hy').1
            rw [List.length_map,List.length_range] at this
            exact this
          rw [List.getElem?_map,List.getElem?_range hi] at hy'
          cases hy'
          have k1:vs[i]? = some vs[i]:=List.getElem?_eq_getElem (by omega)
          have k2:us2[i]? = some us2[i]:=List.getElem?_eq_getElem (by omega)
          have m1:xs[i]? = some xs[i]:=List.getElem?_eq_getElem (by omega)
          have m2:ys[i]? = some ys[i]:=List.getElem?_eq_getElem (by omega)
          have a1:atI vs (0 + (i:Int)) = some vs[i]:=by rw [Int.zero_add]; exact atI_nat k1
          have a2:atI us2 (0 + (i:Int)) = some us2[i]:=by rw [Int.zero_add]; exact atI_nat k2
          have hm1:=List.mem_of_getElem? m1
          have hm:=List.mem_of_getElem? m2
          have hdm:=depths_mem ys[i] hm
          have hd':1 + depths ys < n + 1:=hd
          refine ⟨_,rfl,_,rfl,.inr (.inl ⟨a,vs,_,_,rfl,rfl,s1.seqT e,a1,_,rfl,_,rfl,.inr (.inl ⟨b,us2,_,_,rfl,rfl,s1.seqT e2,a2,.inl ?_⟩)⟩)⟩
          refine ⟨vs[i],us2[i],xs[i],ys[i],rfl,(at1 i _ _ k1 m1).mono s1,(at2 i _ _ k2 m2).mono s1,Ths_mem hx.2 _ hm1,Ths_mem hy.2 _ hm,by omega,fun H2 s2=>?_⟩
          have:=hR H2 s2
          dsimp only at this
          rw [List.getD_eq_getElem?_getD,List.getD_eq_getElem?_getD,m1,m2] at this
          exact this
        · refine ⟨D,(List.range us2.length).map fun j=>eqW (xs.getD j (.num 0)) (ys.getD j (.num 0)),rfl,SqL.of ?_,?_⟩
          · rw [upd_same,List.map_map]; rfl
          · rw [range_all]
            have:=q _ (s1.trans (Same.new (o:=.lst ((List.range us2.length).map fun j=>V.bl (eqW (xs.getD j (.num 0)) (ys.getD j (.num 0))))) hD))
            rw [eqL,show (xs.length == ys.length) = true from beq_iff_eq.mpr hl3,Bool.and_true,show min xs.length ys.length = us2.length by omega] at this
            exact this
  · have l1:=hu.len
    have l2:=hv.len
    refine ⟨_,rfl,_,_,_,_,rfl,.inl (.lst ha),isi_lb,_,rfl,iteF ⟨_,rfl,_,_,_,_,rfl,.inl (.lst hb),isi_lb,_,rfl,iteF ?_⟩⟩
    refine ⟨_,rfl,_,_,_,_,rfl,.inl (.lst hb),isi_lt,_,rfl,iteF ⟨_,rfl,_,_,_,_,rfl,.inl (.lst hb),isi_ll,_,rfl,iteT ?_⟩⟩
    refine ⟨_,rfl,_,_,_,_,rfl,.inl (.lst ha),isi_lt,_,rfl,iteT ⟨_,rfl,_,_,_,_,rfl,.inl (.lst ha),isi_ll,_,rfl,iteF ?_⟩⟩
    refine ⟨_,rfl,_,_,_,_,rfl,.inl (.lst ha),isi_ll,_,rfl,_,_,_,_,rfl,.inl (.lst hb),isi_ll,rfl,_,rfl,iteF ?_⟩
    refine ⟨_,rfl,_,_,rfl,.inl ⟨_,SqL.of ha,rfl⟩,_,rfl,_,_,rfl,.inl ⟨_,SqL.of hb,rfl⟩,rfl,_,rfl,?_⟩
    rw [show us.length = vs'.length by omega,decide_eq_true rfl]
    refine iteF ?_
    dsimp only [tNext,tRet,tOp,tC,tCB,tCons,tNil]
    refine rd_mapR (List.replicate vs'.length (V.bl true)) (fun R hR=>?_) (by rw [List.length_replicate]; omega) (fun i y' H1 R hy' s1 hR=>?_) (fun H1 D s1 hD=>?_)
    · refine ⟨_,rfl,_,_,rfl,.inl ⟨_,SqL.of hb,rfl⟩,?_⟩
      rw [List.length_replicate] at hR
      exact hR
    · have hi:i < vs'.length:=by
        have:=(List.getElem?_eq_some_iff.mp hy').1
        rw [List.length_replicate] at this
        exact this
      rw [List.getElem?_replicate,if_pos hi] at hy'
      cases hy'
      have k1:us[i]? = some us[i]:=List.getElem?_eq_getElem (by omega)
      have k2:vs'[i]? = some vs'[i]:=List.getElem?_eq_getElem (by omega)
      have m2:ws[i]? = some ws[i]:=List.getElem?_eq_getElem (by omega)
      have a1:atI us (0 + (i:Int)) = some us[i]:=by rw [Int.zero_add]; exact atI_nat k1
      have a2:atI vs' (0 + (i:Int)) = some vs'[i]:=by rw [Int.zero_add]; exact atI_nat k2
      have hm:=List.mem_of_getElem? m2
      have hdm:=depths_mem ws[i] hm
      have hth:=th_of _ (Oks_mem ok _ hm)
      refine ⟨_,rfl,_,rfl,.inl ⟨a,us,_,_,rfl,rfl,SqL.of (s1 _ _ ha),a1,_,rfl,_,rfl,.inl ⟨b,vs',_,_,rfl,rfl,SqL.of (s1 _ _ hb),a2,.inl ?_⟩⟩⟩
      refine ⟨us[i],vs'[i],ws[i],ws[i],rfl,((hu.at' i _ _ k1 m2).mono (same_tups s1)).toRS,((hv.at' i _ _ k2 m2).mono (same_tups s1)).toRS,hth,hth,by omega,fun H2 s2=>?_⟩
      rw [eqW_refl]
      exact hR H2 s2
    · refine ⟨D,List.replicate vs'.length true,rfl,SqL.of ?_,?_⟩
      · rw [upd_same,List.map_replicate]
      · have e3:(List.replicate vs'.length true).all id = true:=by
          rw [List.all_eq_true]
          intro z hz
          rw [(List.mem_replicate.mp hz).2]
          rfl
        rw [e3]
        exact q _ (s1.trans (Same.new hD))
  · have eT:SqT K H a [.str z,.ref l1,u]:=SqT.of ha
    have eT2:SqT K H b [.str z,.ref l2,v]:=SqT.of hb
    refine ⟨_,rfl,_,_,_,_,rfl,.inr ⟨rfl,a,_,rfl,eT⟩,isi_tb,_,rfl,iteF ⟨_,rfl,_,_,_,_,rfl,.inr ⟨rfl,b,_,rfl,eT2⟩,isi_tb,_,rfl,iteF ?_⟩⟩
    refine ⟨_,rfl,_,_,_,_,rfl,.inr ⟨rfl,b,_,rfl,eT2⟩,isi_tt,_,rfl,iteT (iteT ?_)⟩
    refine ⟨_,rfl,_,_,_,_,rfl,.inr ⟨rfl,a,_,rfl,eT⟩,isi_tt,_,rfl,iteF (iteF ?_)⟩
    refine ⟨_,rfl,_,_,_,_,rfl,.inr ⟨rfl,a,_,rfl,eT⟩,isi_tl,_,rfl,_,_,_,_,rfl,.inr ⟨rfl,b,_,rfl,eT2⟩,isi_tl,rfl,_,rfl,iteF ?_⟩
    refine ⟨_,rfl,_,_,rfl,.inr ⟨_,eT,rfl⟩,_,rfl,_,_,rfl,.inr ⟨_,eT2,rfl⟩,rfl,_,rfl,iteF ?_⟩
    dsimp only [tNext,tRet,tOp,tC,tCB,tCons,tNil]
    refine rd_mapR (List.replicate 3 (V.bl true)) (fun R hR=>?_) (by rw [List.length_replicate]; omega) (fun i y' H1 R hy' s1 hR=>?_) (fun H1 D s1 hD=>?_)
    · exact ⟨_,rfl,_,_,rfl,.inr ⟨_,eT2,rfl⟩,hR⟩
    · have hi:i < 3:=by
        have:=(List.getElem?_eq_some_iff.mp hy').1
        rw [List.length_replicate] at this
        exact this
      rw [List.getElem?_replicate,if_pos hi] at hy'
      cases hy'
      have hc:i = 0∨i = 1∨i = 2:=by omega
      rcases hc with rfl | rfl | rfl
      · refine ⟨_,rfl,_,rfl,.inr (.inl ⟨a,_,_,.str z,rfl,rfl,s1.seqT eT,rfl,_,rfl,_,rfl,.inr (.inl ⟨b,_,_,.str z,rfl,rfl,s1.seqT eT2,rfl,.inl ?_⟩)⟩)⟩
        refine ⟨.str z,.str z,.txt z,.txt z,rfl,.txt z,.txt z,hz,hz,by show 0 < n; omega,fun H2 s2=>?_⟩
        rw [eqW_refl]
        exact hR H2 s2
      · refine ⟨_,rfl,_,rfl,.inr (.inl ⟨a,_,_,.ref l1,rfl,rfl,s1.seqT eT,rfl,_,rfl,_,rfl,.inr (.inl ⟨b,_,_,.ref l2,rfl,rfl,s1.seqT eT2,rfl,.inr (.inl ?_)⟩)⟩)⟩
        exact ⟨l1,l2,us,vs',ws,rfl,s1 _ _ hl1,s1 _ _ hl2,hu.mono (same_tups s1),hv.mono (same_tups s1),ok,by omega,hn,hR⟩
      · refine ⟨_,rfl,_,rfl,.inr (.inl ⟨a,_,_,u,rfl,rfl,s1.seqT eT,rfl,_,rfl,_,rfl,.inr (.inl ⟨b,_,_,v,rfl,rfl,s1.seqT eT2,rfl,.inl ?_⟩)⟩)⟩
        refine ⟨u,v,x,x,rfl,ru.mono s1,rv.mono s1,hx,hx,by omega,fun H2 s2=>?_⟩
        rw [eqW_refl]
        exact hR H2 s2
    · refine ⟨D,List.replicate 3 true,rfl,SqL.of ?_,?_⟩
      · rw [upd_same,List.map_replicate]
      · exact q _ (s1.trans (Same.new hD))
  · have eT:SqT K H a [.str z,.ref l1]:=SqT.of ha
    have eT2:SqT K H b [.str z,.ref l2]:=SqT.of hb
    refine ⟨_,rfl,_,_,_,_,rfl,.inr ⟨rfl,a,_,rfl,eT⟩,isi_tb,_,rfl,iteF ⟨_,rfl,_,_,_,_,rfl,.inr ⟨rfl,b,_,rfl,eT2⟩,isi_tb,_,rfl,iteF ?_⟩⟩
    refine ⟨_,rfl,_,_,_,_,rfl,.inr ⟨rfl,b,_,rfl,eT2⟩,isi_tt,_,rfl,iteT (iteT ?_)⟩
    refine ⟨_,rfl,_,_,_,_,rfl,.inr ⟨rfl,a,_,rfl,eT⟩,isi_tt,_,rfl,iteF (iteF ?_)⟩
    refine ⟨_,rfl,_,_,_,_,rfl,.inr ⟨rfl,a,_,rfl,eT⟩,isi_tl,_,rfl,_,_,_,_,rfl,.inr ⟨rfl,b,_,rfl,eT2⟩,isi_tl,rfl,_,rfl,iteF ?_⟩
    refine ⟨_,rfl,_,_,rfl,.inr ⟨_,eT,rfl⟩,_,rfl,_,_,rfl,.inr ⟨_,eT2,rfl⟩,rfl,_,rfl,iteF ?_⟩
    dsimp only [tNext,tRet,tOp,tC,tCB,tCons,tNil]
    refine rd_mapR (List.replicate 2 (V.bl true)) (fun R hR=>?_) (by rw [List.length_replicate]; omega) (fun i y' H1 R hy' s1 hR=>?_) (fun H1 D s1 hD=>?_)
    · exact ⟨_,rfl,_,_,rfl,.inr ⟨_,eT2,rfl⟩,hR⟩
    · have hi:i < 2:=by
        have:=(List.getElem?_eq_some_iff.mp hy').1
        rw [List.length_replicate] at this
        exact this
      rw [List.getElem?_replicate,if_pos hi] at hy'
      cases hy'
      have hc:i = 0∨i = 1:=by omega
      rcases hc with rfl | rfl
      · refine ⟨_,rfl,_,rfl,.inr (.inl ⟨a,_,_,.str z,rfl,rfl,s1.seqT eT,rfl,_,rfl,_,rfl,.inr (.inl ⟨b,_,_,.str z,rfl,rfl,s1.seqT eT2,rfl,.inl ?_⟩)⟩)⟩
        refine ⟨.str z,.str z,.txt z,.txt z,rfl,.txt z,.txt z,hz,hz,by show 0 < n; omega,fun H2 s2=>?_⟩
        rw [eqW_refl]
        exact hR H2 s2
      · refine ⟨_,rfl,_,rfl,.inr (.inl ⟨a,_,_,.ref l1,rfl,rfl,s1.seqT eT,rfl,_,rfl,_,rfl,.inr (.inl ⟨b,_,_,.ref l2,rfl,rfl,s1.seqT eT2,rfl,.inr (.inl ?_)⟩)⟩)⟩
        exact ⟨l1,l2,us,vs',ws,rfl,s1 _ _ hl1,s1 _ _ hl2,hu.mono (same_tups s1),hv.mono (same_tups s1),ok,by omega,hn,hR⟩
    · refine ⟨D,List.replicate 2 true,rfl,SqL.of ?_,?_⟩
      · rw [upd_same,List.map_replicate]
      · exact q _ (s1.trans (Same.new hD))
end
end D
set_option Elab.async false
set_option linter.all false
set_option maxRecDepth 100000
set_option maxHeartbeats 4000000
namespace D
open PySem L2
theorem boot_dictT:bootBuiltins (Str.ofString "dict") = some (.type "dict"):=by kernel_rfl
inductive Res where
  | made (x:W)
  | wrong (ws:List W)
  | stop
inductive R where
  | mk (res:Res) (subs:List R)
def R.res:R→Res
  | .mk r _=>r
def Res.isMade:Res→Bool
  | .made _=>true
  | .wrong _=>false
  | .stop=>false
def Res.toW:Res→W
  | .made x=>.lst [.txt "made",x]
  | .wrong ws=>.lst (.txt "wrong" :: ws)
  | .stop=>.lst []
mutual
def R.toW:R→W
  | .mk r subs=>.lst [r.toW,.lst (toWs subs)]
def toWs:List R→List W
  | []=>[]
  | r :: l=>r.toW :: toWs l
end
def RRes (K:PySem.W.Frag) (H:Hp) (v:V):Res→Prop
  | .made x=>∃ a u,v = .ref a∧SqT K H a [.str "made",u]∧RW H u x
  | .wrong ws=>RS K H v (.lst (.txt "wrong" :: ws))
  | .stop=>v = .non
theorem RRes.mono {K:PySem.W.Frag}{H H':Hp} (t:Same H H') {v:V}:∀ {r:Res},RRes K H v r→RRes K H' v r
  | .made _,⟨a,u,e1,e2,e3⟩=>⟨a,u,e1,t.seqT e2,e3.mono (same_tups t)⟩
  | .wrong _,h=>RS.mono t h
  | .stop,h=>h
theorem RRes.rs {K:PySem.W.Frag}{H:Hp}{v:V}:∀ {r:Res},r≠.stop→RRes K H v r→RS K H v r.toW
  | .made _,_,⟨a,u,e1,e2,e3⟩=>by rw [e1]; exact RS.two e2 (.txt _) e3.toRS
  | .wrong _,_,h=>h
  | .stop,n,_=>absurd rfl n
theorem RRes.word {K:PySem.W.Frag}{H:Hp}{v:V}:∀ {r:Res},r≠.stop→RRes K H v r→∃ a us,v = .ref a∧SqT K H a (.str (if r.isMade then "made" else "wrong") :: us)
  | .stop,n,_=>absurd rfl n
  | .made _,_,⟨a,u,e1,e2,e3⟩=>⟨a,[u],e1,e2⟩
  | .wrong ws,_,h=>by
    have h:RS K H v (.lst (.txt "wrong" :: ws)):=h
    cases h with
    | @lst a vs _ e l at'=>
      match vs,l with
      | u :: us,_=>
        have:=at' 0 u _ rfl rfl
        cases this
        exact ⟨a,us,rfl,e⟩
inductive RR (K:PySem.W.Frag) (H:Hp):V→R→Prop where
  | mk {a b:Addr}{rv:V}{vs:List V}{res:Res}{rs:List R}:H a = some (.tup [rv,.ref b])→RRes K H rv res→H b = some (.tup vs)→vs.length = rs.length→(∀ (i:Nat) (v:V) (r:R),vs[i]? = some v→rs[i]? = some r→RR K H v r)→RR K H (.ref a) (.mk res rs)
theorem RR.mono {K:PySem.W.Frag}{H H':Hp} (t:Same H H') {v:V}{r:R} (h:RR K H v r):RR K H' v r:=by
  induction h with
  | mk e1 e2 e3 l _ ih=>exact .mk (t _ _ e1) (e2.mono t) (t _ _ e3) l ih
structure RRs (K:PySem.W.Frag) (H:Hp) (vs:List V) (rs:List R):Prop where
  len:vs.length = rs.length
  at':∀ (i:Nat) (v:V) (r:R),vs[i]? = some v→rs[i]? = some r→RR K H v r
theorem RRs.mono {K:PySem.W.Frag}{H H':Hp} (t:Same H H') {vs:List V}{rs:List R} (h:RRs K H vs rs):RRs K H' vs rs:=⟨h.len,fun i v r a b=>(h.at' i v r a b).mono t⟩
theorem RRs.nil {K:PySem.W.Frag}{H:Hp}:RRs K H [] []:=⟨rfl,fun i v r e=>by simp at e⟩
theorem RRs.snoc {K:PySem.W.Frag}{H:Hp}{vs:List V}{rs:List R}{v:V}{r:R} (h:RRs K H vs rs) (x:RR K H v r):RRs K H (vs ++ [v]) (rs ++ [r]):=by
  refine ⟨by rw [List.length_append,List.length_append,h.len]; rfl,fun i v' r' a b=>?_⟩
  by_cases hi:i < vs.length
  · rw [List.getElem?_append_left hi] at a
    rw [List.getElem?_append_left (by rw [← h.len]; exact hi)] at b
    exact h.at' i v' r' a b
  · rw [List.getElem?_append_right (by omega)] at a
    rw [List.getElem?_append_right (by rw [← h.len]; omega),← h.len] at b
    have e0:i - vs.length = 0:=by
      have:=(List.getElem?_eq_some_iff.mp a).1
      simp at this
      omega
    rw [e0] at a b
    cases a
    cases b
    exact x
theorem RRs.one {K:PySem.W.Frag}{H:Hp}{v:V}{r:R} (x:RR K H v r):RRs K H [v] [r]:=RRs.nil.snoc x
theorem RRs.two {K:PySem.W.Frag}{H:Hp}{v v2:V}{r r2:R} (x:RR K H v r) (y:RR K H v2 r2):RRs K H [v,v2] [r,r2]:=(RRs.one x).snoc y
theorem RRs.rr {K:PySem.W.Frag}{H:Hp}{a b:Addr}{rv:V}{vs:List V}{res:Res}{rs:List R} (h:RRs K H vs rs) (e1:H a = some (.tup [rv,.ref b])) (e2:RRes K H rv res) (e3:H b = some (.tup vs)):RR K H (.ref a) (.mk res rs):=.mk e1 e2 e3 h.len h.at'
theorem RR.res {K:PySem.W.Frag}{H:Hp}{v:V}{r:R} (h:RR K H v r):∃ a b rv,v = .ref a∧H a = some (.tup [rv,.ref b])∧RRes K H rv r.res:=by
  cases h with
  | @mk a b rv vs res rs e1 e2 e3 l at'=>exact ⟨a,b,rv,rfl,e1,e2⟩
def kvsB:List (Key × V):=[(.inr "let",.int 1),(.inr "each",.int 1),(.inr "over",.int 2)]
def kvsP:List (Key × V):=[(.inr "let",.int 2),(.inr "if",.int 3),(.inr "+",.int 2),(.inr "-",.int 2),(.inr "*",.int 2),(.inr "/",.int 2),(.inr "same",.int 2),(.inr "less",.int 2),(.inr "join",.int 2),(.inr "item",.int 2),(.inr "count",.int 1),(.inr "figures",.int 1),(.inr "each",.int 2),(.inr "over",.int 3),(.inr "look",.int 1),(.inr "else",.int 2),(.inr "cry",.int 1)]
def spHasParts:Sp:=fun vs H Q _=>∃ d:Wd,vs = [.str (wdS d)]∧Q (.bl true) H
def spBCount:Sp:=fun vs H Q _=>∃ d:Wd,vs = [.str (wdS d)]∧Q (.int 0) H
def spPartsOf:Sp:=fun vs H Q _=>∃ (a:Addr) (d:Wd) (us:List V),vs = [.ref a]∧H a = some (.tup (.str (wdS d) :: us))∧us.length≤100∧∀ (l:Addr) (H':Hp),Same H H'→H' l = some (.lst us)→H l = none→Q (.ref l) H'
def spIsMade (K:PySem.W.Frag):Sp:=fun vs H Q _=>∃ (v:V) (r:R),vs = [v]∧RR K H v r∧Q (.bl r.res.isMade) H
def spWorthOf (K:PySem.W.Frag):Sp:=fun vs H Q _=>∃ (v:V) (r:R) (x:W),vs = [v]∧RR K H v r∧r.res = .made x∧∀ u,RW H u x→Q u H
def spAsLast (K:PySem.W.Frag):Sp:=fun vs H Q _=>∃ (l:Addr) (us:List V) (rs:List R) (r:R),vs = [.ref l]∧H l = some (.lst us)∧RRs K H us rs∧rs.getLast? = some r∧∀ (v:V) (H':Hp),Same H H'→RR K H' v (.mk r.res rs)→Q v H'
def spBind:Sp:=fun vs H Q _=>∃ (bd:Addr) (z:Str) (u:V) (kvs:List (Key × V)),vs = [.ref bd,.str z,u]∧H bd = some (.dK kvs)∧kvs.length≤1000∧∀ (p:Addr) (H':Hp),Same H H'→H' p = some (.dK (putK kvs (.inr z) u))→Q (.ref p) H'
theorem atI_lastV {us:List V}{v:V} (e:us[us.length - 1]? = some v) (h:0 < us.length):atI us (-1) = some v:=by
  have h1:=take_snoc e
  rw [show us.length - 1 + 1 = us.length by omega,List.take_length] at h1
  rw [h1]
  exact atI_last _ _
section
variable {P:Program}{w:World}{K:PySem.W.Frag}{mg:Str→Option Value}{base:Heap}{f:Addr}{fd:FuncData}{k:Nat}
theorem sc_has_parts:FnScope ["word"] ["word"] (defScope s_has_parts):=⟨rfl,rfl,rfl,by decide +kernel,rfl,by decide +kernel,by decide +kernel⟩
theorem ok_has_parts (F:Fun K "has_parts" "has_parts" s_has_parts f fd) {g_PARTS:Addr} (m_PARTS:mg "PARTS" = some (.ref g_PARTS)) (d_PARTS:MD P w K g_PARTS kvsP):FnOk P w K mg base CX0 (k + 1) f fd ["word"] (spHasParts):=by
  refine F.okQ sc_has_parts (fun vs H Q E h=>?_) (fun cdv A outer s H vs Q E hr h=>?_)
  · obtain ⟨d,rfl,_⟩:=h
    rfl
  obtain ⟨d,rfl,q⟩:=h
  refine ⟨_,(pss_one (ps_ret (pe_or (pe_cmpR op_eq (pv 0) pe_str (nomark _)) (pe_one (pe_cmpR op_inM (pv 0) (pe_glob (v:=.ref g_PARTS) rfl m_PARTS rfl) (by rfl)))))),?_⟩
  refine ⟨_,rfl,rfl,_,rfl,?_⟩
  refine ite2 (fun e=>?_) (fun e=>?_)
  · exact q
  refine ⟨_,rfl,g_PARTS,kvsP,.inr (wdS d),rfl,rfl,d_PARTS,?_⟩
  have hs:(valV kvsP (.inr (wdS d))).isSome = true:=by
    cases d
    case list=>exact absurd rfl e
    all_goals rfl
  rw [hs]
  exact q
theorem sc_binding_count:FnScope ["word"] ["word"] (defScope s_binding_count):=⟨rfl,rfl,rfl,by decide +kernel,rfl,by decide +kernel,by decide +kernel⟩
theorem ok_binding_count (F:Fun K "binding_count" "binding_count" s_binding_count f fd) {g_BINDING:Addr} (m_BINDING:mg "BINDING" = some (.ref g_BINDING)) (d_BINDING:MD P w K g_BINDING kvsB):FnOk P w K mg base CX0 (k + 1) f fd ["word"] (spBCount):=by
  refine F.okQ sc_binding_count (fun vs H Q E h=>?_) (fun cdv A outer s H vs Q E hr h=>?_)
  · obtain ⟨d,rfl,_⟩:=h
    rfl
  obtain ⟨d,rfl,q⟩:=h
  refine ⟨_,(pss_one (ps_ret (pe_mget2 (pe_glob (v:=.ref g_BINDING) rfl m_BINDING rfl) (pv 0) pe_int ⟨rfl,rfl,rfl,rfl⟩))),?_⟩
  refine ⟨g_BINDING,kvsB,rfl,d_BINDING,_,rfl,.inr (wdS d),rfl,?_⟩
  have hs:valV kvsB (.inr (wdS d)) = none:=by cases d <;> rfl
  rw [hs]
  exact q
theorem sc_parts_of:FnScope ["expression","word"] ["expression"] (defScope s_parts_of):=⟨rfl,rfl,rfl,by decide +kernel,rfl,by decide +kernel,by decide +kernel⟩
theorem ok_parts_of (F:Fun K "parts_of" "parts_of" s_parts_of f fd) (G_binding_count:Have P w K mg base "binding_count" k ["word"] (spBCount)) (G_has_parts:Have P w K mg base "has_parts" k ["word"] (spHasParts)) (m_list:mg "list" = none):FnOk P w K mg base CX0 (k + 1) f fd ["expression"] (spPartsOf):=by
  refine F.okQ sc_parts_of (fun vs H Q E h=>?_) (fun cdv A outer s H vs Q E hr h=>?_)
  · obtain ⟨a,d,us,rfl,_⟩:=h
    rfl
  obtain ⟨a,d,us,rfl,ha,hl,q⟩:=h
  refine ⟨_,(pss_cons (ps_set (i:=1) sc_parts_of.nd rfl (Or.inl rfl) (pe_ix ix_tup (pv 0) pe_int (fun _ _=>rfl)))
    (pss_cons (ps_if (pt_not (pt_val (pe_fn G_has_parts hr rfl (pa_cons (pv 1) pa_nil)))) (pss_one (ps_ret (pe_lst pa_nil))) pss_nil)
    (pss_one (ps_ret (pe_callTy call_list_of rfl m_list boot_listT (pa_cons (pe_slice sl_tup (pv 0) (po_some (pe_op op_add pe_int (pe_fn G_binding_count hr rfl (pa_cons (pv 1) pa_nil)))) po_none) pa_nil)))))),?_⟩
  refine ⟨_,rfl,a,_,0,_,rfl,rfl,SqT.of ha,atI_nat (j:=0) rfl,?_⟩
  refine ⟨_,rfl,d,rfl,_,rfl,iteF ?_⟩
  refine ⟨_,rfl,_,rfl,d,rfl,_,_,rfl,rfl,_,rfl,a,_,rfl,SqT.of ha,?_,fun p hp=>?_⟩
  · intro h
    have h1:HT.sIx (V.str (wdS d) :: us).length 0 (some ((1:Nat):Int)) = 0:=h.1
    rw [HT.sIx_nat,List.length_cons] at h1
    omega
  have e:cutV (V.str (wdS d) :: us) (some (1 + 0)) none = us:=by
    show ((V.str (wdS d) :: us).drop (HT.sIx (V.str (wdS d) :: us).length 0 (some ((1:Nat):Int)))).take ((V.str (wdS d) :: us).length - HT.sIx (V.str (wdS d) :: us).length 0 (some ((1:Nat):Int))) = us
    rw [HT.sIx_nat,List.length_cons,show min 1 (us.length + 1) = 1 by omega]
    simp
  have s1:=Same.new (o:=.tup (cutV (V.str (wdS d) :: us) (some (1 + 0)) none)) hp
  refine ⟨p,us,rfl,.inr (SqT.of (by rw [upd_same]; exact congrArg _ (congrArg _ e))),fun l hl=>q l _ (s1.trans (Same.new hl)) upd_same (s1.free hl)⟩
theorem sc_is_made:FnScope ["record"] ["record"] (defScope s_is_made):=⟨rfl,rfl,rfl,by decide +kernel,rfl,by decide +kernel,by decide +kernel⟩
theorem ok_is_made (F:Fun K "is_made" "is_made" s_is_made f fd):FnOk P w K mg base CX0 (k + 1) f fd ["record"] (spIsMade K):=by
  refine F.okQ sc_is_made (fun vs H Q E h=>?_) (fun cdv A outer s H vs Q E hr h=>?_)
  · obtain ⟨v,r,rfl,_⟩:=h
    rfl
  obtain ⟨v,r,rfl,rr,q⟩:=h
  refine ⟨_,(pss_one (ps_ret (pe_and (pe_cmp (pc_notN (pe_ix ix_tup (pv 0) pe_int (fun _ _=>rfl)))) (pe_one (pe_cmpR op_eq (pe_ix ix_tup (pe_ix ix_tup (pv 0) pe_int (fun _ _=>rfl)) pe_int (fun _ _=>rfl)) pe_str (nomark _)))))),?_⟩
  obtain ⟨a,b,rv,rfl,ea,rres⟩:=rr.res
  by_cases hst:r.res = .stop
  · rw [hst] at rres q
    obtain rfl:rv = .non:=rres
    exact ⟨_,rfl,a,_,0,_,rfl,rfl,SqT.of ea,rfl,_,rfl,iteF q⟩
  obtain ⟨c,us,rfl,ec⟩:=rres.word hst
  refine ⟨_,rfl,a,_,0,_,rfl,rfl,SqT.of ea,rfl,?_⟩
  refine ⟨_,rfl,iteT ⟨_,rfl,a,_,0,_,rfl,rfl,SqT.of ea,rfl,c,_,0,_,rfl,rfl,ec,atI_nat (j:=0) rfl,rfl,?_⟩⟩
  cases hm:r.res.isMade with
  | true=>rw [hm] at q; exact q
  | false=>rw [hm] at q; exact q
theorem sc_worth_of:FnScope ["record"] ["record"] (defScope s_worth_of):=⟨rfl,rfl,rfl,by decide +kernel,rfl,by decide +kernel,by decide +kernel⟩
theorem ok_worth_of (F:Fun K "worth_of" "worth_of" s_worth_of f fd):FnOk P w K mg base CX0 (k + 1) f fd ["record"] (spWorthOf K):=by
  refine F.okQ sc_worth_of (fun vs H Q E h=>?_) (fun cdv A outer s H vs Q E hr h=>?_)
  · obtain ⟨v,r,x,rfl,_⟩:=h
    rfl
  obtain ⟨v,r,x,rfl,rr,e,q⟩:=h
  refine ⟨_,(pss_one (ps_ret (pe_ix ix_tup (pe_ix ix_tup (pv 0) pe_int (fun _ _=>rfl)) pe_int (fun _ _=>rfl)))),?_⟩
  obtain ⟨a,b,rv,rfl,ea,rres⟩:=rr.res
  rw [e] at rres
  obtain ⟨c,u,rfl,ec,ru⟩:=rres
  exact ⟨_,rfl,a,_,0,_,rfl,rfl,SqT.of ea,rfl,c,_,1,_,rfl,rfl,ec,rfl,q u ru⟩
theorem sc_as_last:FnScope ["records"] ["records"] (defScope s_as_last):=⟨rfl,rfl,rfl,by decide +kernel,rfl,by decide +kernel,by decide +kernel⟩
theorem ok_as_last (F:Fun K "as_last" "as_last" s_as_last f fd) (m_tuple:mg "tuple" = none):FnOk P w K mg base CX0 (k + 1) f fd ["records"] (spAsLast K):=by
  refine F.okQ sc_as_last (fun vs H Q E h=>?_) (fun cdv A outer s H vs Q E hr h=>?_)
  · obtain ⟨l,us,rs,r,rfl,_⟩:=h
    rfl
  obtain ⟨l,us,rs,r,rfl,hl,hrs,hr',q⟩:=h
  refine ⟨_,(pss_one (ps_ret (pe_tup (pa_cons (pe_ix ix_tup (pe_ix ix_list (pv 0) (pe_un un_neg pe_int) (fun _ _=>rfl)) pe_int (fun _ _=>rfl)) (pa_cons (pe_callTy call_tuple_of rfl m_tuple boot_tupleT (pa_cons (pv 0) pa_nil)) pa_nil))))),?_⟩
  have hne:rs≠[]:=fun z=>by rw [z] at hr'; cases hr'
  have hn:0 < rs.length:=List.length_pos_iff.mpr hne
  have hl':=hrs.len
  have e1:us[us.length - 1]? = some us[us.length - 1]:=List.getElem?_eq_getElem (by omega)
  have e2:rs[us.length - 1]? = some r:=by rw [hl',← List.getLast?_eq_getElem?]; exact hr'
  have rr:=hrs.at' _ _ _ e1 e2
  obtain ⟨a,b,rv,ev,ea,rres⟩:=rr.res
  refine ⟨_,rfl,_,rfl,l,us,-1,us[us.length - 1],rfl,rfl,SqL.of hl,atI_lastV e1 (by omega),a,_,0,_,ev,rfl,SqT.of ea,rfl,_,rfl,l,us,rfl,.inl ⟨SqL.of hl,fun t ht=>⟨(by show 2≤sizeLine; decide),fun a2 ha2=>?_⟩⟩⟩
  have s1:=Same.new (o:=.tup us) ht
  have s2:=Same.new (o:=.tup [rv,.ref t]) ha2
  have s3:=s1.trans s2
  exact q _ _ s3 ((hrs.mono s3).rr upd_same (rres.mono s3) (s2 _ _ upd_same))
theorem sc_binding:FnScope ["bound","name","worth","inner"] ["bound","name","worth"] (defScope s_binding):=⟨rfl,rfl,rfl,by decide +kernel,rfl,by decide +kernel,by decide +kernel⟩
theorem ok_binding (F:Fun K "binding" "binding" s_binding f fd) (m_dict:mg "dict" = none):FnOk P w K mg base CX0 (k + 1) f fd ["bound","name","worth"] (spBind):=by
  refine F.okQ sc_binding (fun vs H Q E h=>?_) (fun cdv A outer s H vs Q E hr h=>?_)
  · obtain ⟨bd,z,u,kvs,rfl,_⟩:=h
    rfl
  obtain ⟨bd,z,u,kvs,rfl,hb,hk,q⟩:=h
  refine ⟨_,(pss_cons (ps_set (i:=3) sc_binding.nd rfl (Or.inl rfl) (pe_callTy call_dict_of rfl m_dict boot_dictT (pa_cons (pv 0) pa_nil)))
    (pss_cons (ps_dput (hu_of hr) (pv 3) (pv 1) (pv 2) rfl)
    (pss_one (ps_ret (pv 3))))),?_⟩
  refine ⟨_,rfl,bd,kvs,rfl,hb,fun p hp=>?_⟩
  refine ⟨_,rfl,_,rfl,_,rfl,p,_,rfl,DPut.k (k:=.inr z) upd_same (Nat.lt_of_le_of_lt hk (by decide)),_,rfl,q _ _ (fun c o e=>?_) upd_same⟩
  rw [upd_ne (ne_of_none e hp),upd_ne (ne_of_none e hp)]
  exact e
end
end D
set_option Elab.async false
set_option linter.all false
set_option maxRecDepth 100000
set_option maxHeartbeats 4000000
namespace D
open PySem L2
abbrev Env:=Str→Option W
abbrev Ns:=List Str
def put (e:Env) (s:Str) (x:W):Env:=fun t=>if t = s then some x else e t
inductive Ex where
  | lit (x:W)
  | var (s:Str)
  | letE (s:Str) (a b:Ex)
  | ifE (a b c:Ex)
  | elseE (a b:Ex)
  | cryE (a:Ex)
  | lookE (a:Ex)
  | reck (d:Wd) (es:List Ex)
  | eachE (s:Str) (a b:Ex)
  | overE (s t:Str) (a b c:Ex)
mutual
def Ex.toW:Ex→W
  | .lit x=>.lst [.txt "lit",x]
  | .var s=>.lst [.txt "var",.txt s]
  | .letE s a b=>.lst [.txt "let",.txt s,a.toW,b.toW]
  | .ifE a b c=>.lst [.txt "if",a.toW,b.toW,c.toW]
  | .elseE a b=>.lst [.txt "else",a.toW,b.toW]
  | .cryE a=>.lst [.txt "cry",a.toW]
  | .lookE a=>.lst [.txt "look",a.toW]
  | .reck d es=>.lst (.txt (wdS d) :: exWs es)
  | .eachE s a b=>.lst [.txt "each",.txt s,a.toW,b.toW]
  | .overE s t a b c=>.lst [.txt "over",.txt s,.txt t,a.toW,b.toW,c.toW]
def exWs:List Ex→List W
  | []=>[]
  | e :: es=>e.toW :: exWs es
end
mutual
def Ex.high:Ex→Nat
  | .lit _=>1
  | .var _=>1
  | .letE _ a b=>1 + max a.high b.high
  | .ifE a b c=>1 + max a.high (max b.high c.high)
  | .elseE a b=>1 + max a.high b.high
  | .cryE a=>1 + a.high
  | .lookE a=>1 + a.high
  | .reck _ es=>1 + highs es
  | .eachE _ a b=>1 + max a.high b.high
  | .overE _ _ a b c=>1 + max a.high (max b.high c.high)
def highs:List Ex→Nat
  | []=>0
  | e :: es=>max e.high (highs es)
end
def resOf:W→Res
  | .lst [_,x]=>.made x
  | .lst (_ :: ws)=>.wrong ws
  | _=>.wrong []
def R.worth:R→W
  | .mk (.made x) _=>x
  | .mk _ _=>.num 0
def walk1 (f:W→Ns→R × Ns):List W→Ns→List R × Ns
  | [],ns=>([],ns)
  | w :: ws,ns=>if (f w ns).1.res.isMade then ((f w ns).1 :: (walk1 f ws (f w ns).2).1,(walk1 f ws (f w ns).2).2) else ([(f w ns).1],(f w ns).2)
def walk2 (f:W→W→Ns→R × Ns):List W→W→Ns→List R × Ns
  | [],_,ns=>([],ns)
  | w :: ws,y,ns=>if (f w y ns).1.res.isMade then ((f w y ns).1 :: (walk2 f ws (f w y ns).1.worth (f w y ns).2).1,(walk2 f ws (f w y ns).1.worth (f w y ns).2).2) else ([(f w y ns).1],(f w y ns).2)
def along1 (f:W→Ns→R × Ns) (p:W→Ns→Prop):List W→Ns→Prop
  | [],_=>True
  | w :: ws,ns=>p w ns∧((f w ns).1.res.isMade = true→along1 f p ws (f w ns).2)
def along2 (f:W→W→Ns→R × Ns) (p:W→W→Ns→Prop):List W→W→Ns→Prop
  | [],_,_=>True
  | w :: ws,y,ns=>p w y ns∧((f w y ns).1.res.isMade = true→along2 f p ws (f w y ns).1.worth (f w y ns).2)
def lastR (l:List R) (r:R):R:=(l.getLast?).getD r
def allMade (l:List R):Bool:=l.all fun r=>r.res.isMade
def found (fs:List Res) (n:Nat):Res:=(fs[n]?).getD .stop
section
variable (fs:List Res)
mutual
def ev:Ex→Env→Ns→R × Ns
  | .lit x,_,ns=>(.mk (.made x) [],ns)
  | .var s,e,ns=>(.mk (.made ((e s).getD (.num 0))) [],ns)
  | .letE s a b,e,ns=>match (ev a e ns).1.res with
    | .made x=>(.mk (ev b (put e s x) (ev a e ns).2).1.res [(ev a e ns).1,(ev b (put e s x) (ev a e ns).2).1],(ev b (put e s x) (ev a e ns).2).2)
    | r=>(.mk r [(ev a e ns).1],(ev a e ns).2)
  | .ifE a b c,e,ns=>match (ev a e ns).1.res with
    | .made (.num i)=>if i = 0 then (.mk (ev c e (ev a e ns).2).1.res [(ev a e ns).1,(ev c e (ev a e ns).2).1],(ev c e (ev a e ns).2).2) else (.mk (ev b e (ev a e ns).2).1.res [(ev a e ns).1,(ev b e (ev a e ns).2).1],(ev b e (ev a e ns).2).2)
    | .made _=>(.mk (.wrong [.txt "kind",.txt ""]) [(ev a e ns).1],(ev a e ns).2)
    | r=>(.mk r [(ev a e ns).1],(ev a e ns).2)
  | .elseE a b,e,ns=>match (ev a e ns).1.res with
    | .wrong _=>(.mk (ev b e (ev a e ns).2).1.res [(ev a e ns).1,(ev b e (ev a e ns).2).1],(ev b e (ev a e ns).2).2)
    | r=>(.mk r [(ev a e ns).1],(ev a e ns).2)
  | .cryE a,e,ns=>match (ev a e ns).1.res with
    | .made x=>(.mk (.wrong [.txt "cried",x]) [(ev a e ns).1],(ev a e ns).2)
    | r=>(.mk r [(ev a e ns).1],(ev a e ns).2)
  | .lookE a,e,ns=>match (ev a e ns).1.res with
    | .made (.txt s)=>(.mk (found fs (ev a e ns).2.length) [(ev a e ns).1],(ev a e ns).2 ++ [s])
    | .made _=>(.mk (.wrong [.txt "kind",.txt ""]) [(ev a e ns).1],(ev a e ns).2)
    | r=>(.mk r [(ev a e ns).1],(ev a e ns).2)
  | .reck d es,e,ns=>if allMade (evs es e ns).1 then (.mk (resOf (recW d ((evs es e ns).1.map R.worth))) (evs es e ns).1,(evs es e ns).2) else (.mk (lastR (evs es e ns).1 (.mk (.made (.num 0)) [])).res (evs es e ns).1,(evs es e ns).2)
  | .eachE s a b,e,ns=>match (ev a e ns).1.res with
    | .made (.lst ws)=>if ws.length > 10 then (.mk (.wrong [.txt "great",.txt ""]) [(ev a e ns).1],(ev a e ns).2) else
        if allMade (walk1 (fun w m=>ev b (put e s w) m) ws (ev a e ns).2).1 then (.mk (resOf (madeW (.lst ((walk1 (fun w m=>ev b (put e s w) m) ws (ev a e ns).2).1.map R.worth)))) ((ev a e ns).1 :: (walk1 (fun w m=>ev b (put e s w) m) ws (ev a e ns).2).1),(walk1 (fun w m=>ev b (put e s w) m) ws (ev a e ns).2).2)
        else (.mk (lastR (walk1 (fun w m=>ev b (put e s w) m) ws (ev a e ns).2).1 (ev a e ns).1).res ((ev a e ns).1 :: (walk1 (fun w m=>ev b (put e s w) m) ws (ev a e ns).2).1),(walk1 (fun w m=>ev b (put e s w) m) ws (ev a e ns).2).2)
    | .made _=>(.mk (.wrong [.txt "kind",.txt ""]) [(ev a e ns).1],(ev a e ns).2)
    | r=>(.mk r [(ev a e ns).1],(ev a e ns).2)
  | .overE s t a b c,e,ns=>match (ev a e ns).1.res with
    | .made x=>match (ev b e (ev a e ns).2).1.res with
      | .made y=>match x with
        | .lst ws=>if ws.length > 10 then (.mk (.wrong [.txt "great",.txt ""]) [(ev a e ns).1,(ev b e (ev a e ns).2).1],(ev b e (ev a e ns).2).2) else
            (.mk (lastR (walk2 (fun w y m=>ev c (put (put e s w) t y) m) ws y (ev b e (ev a e ns).2).2).1 (ev b e (ev a e ns).2).1).res ((ev a e ns).1 :: (ev b e (ev a e ns).2).1 :: (walk2 (fun w y m=>ev c (put (put e s w) t y) m) ws y (ev b e (ev a e ns).2).2).1),(walk2 (fun w y m=>ev c (put (put e s w) t y) m) ws y (ev b e (ev a e ns).2).2).2)
        | _=>(.mk (.wrong [.txt "kind",.txt ""]) [(ev a e ns).1,(ev b e (ev a e ns).2).1],(ev b e (ev a e ns).2).2)
      | r=>(.mk r [(ev a e ns).1,(ev b e (ev a e ns).2).1],(ev b e (ev a e ns).2).2)
    | r=>(.mk r [(ev a e ns).1],(ev a e ns).2)
def evs:List Ex→Env→Ns→List R × Ns
  | [],_,ns=>([],ns)
  | x :: xs,e,ns=>if (ev x e ns).1.res.isMade then ((ev x e ns).1 :: (evs xs e (ev x e ns).2).1,(evs xs e (ev x e ns).2).2) else ([(ev x e ns).1],(ev x e ns).2)
end
mutual
def Fine:Ex→Env→Ns→Prop
  | .lit _,_,_=>True
  | .var s,e,_=>∃ x,e s = some x
  | .letE s a b,e,ns=>Fine a e ns∧∀ x,(ev fs a e ns).1.res = .made x→Fine b (put e s x) (ev fs a e ns).2
  | .ifE a b c,e,ns=>Fine a e ns∧∀ i,(ev fs a e ns).1.res = .made (.num i)→(i≠0→Fine b e (ev fs a e ns).2)∧(i = 0→Fine c e (ev fs a e ns).2)
  | .elseE a b,e,ns=>Fine a e ns∧∀ w,(ev fs a e ns).1.res = .wrong w→Fine b e (ev fs a e ns).2
  | .cryE a,e,ns=>Fine a e ns
  | .lookE a,e,ns=>Fine a e ns∧(ev fs a e ns).2.length≤1000
  | .reck d es,e,ns=>es.length≤100∧Fines es e ns∧(allMade (evs fs es e ns).1 = true→Oks ((evs fs es e ns).1.map R.worth)∧depths ((evs fs es e ns).1.map R.worth)≤12∧(evs fs es e ns).1.length≤8∧arity d (evs fs es e ns).1.length)
  | .eachE s a b,e,ns=>Fine a e ns∧∀ ws,(ev fs a e ns).1.res = .made (.lst ws)→along1 (fun w m=>ev fs b (put e s w) m) (fun w m=>Fine b (put e s w) m) ws (ev fs a e ns).2∧Ths ((walk1 (fun w m=>ev fs b (put e s w) m) ws (ev fs a e ns).2).1.map R.worth)∧depths ((walk1 (fun w m=>ev fs b (put e s w) m) ws (ev fs a e ns).2).1.map R.worth)≤12
  | .overE s t a b c,e,ns=>Fine a e ns∧(∀ x,(ev fs a e ns).1.res = .made x→Fine b e (ev fs a e ns).2)∧∀ (ws:List W) (y:W),(ev fs a e ns).1.res = .made (.lst ws)→(ev fs b e (ev fs a e ns).2).1.res = .made y→along2 (fun w y m=>ev fs c (put (put e s w) t y) m) (fun w y m=>Fine c (put (put e s w) t y) m) ws y (ev fs b e (ev fs a e ns).2).2
def Fines:List Ex→Env→Ns→Prop
  | [],_,_=>True
  | x :: xs,e,ns=>Fine x e ns∧((ev fs x e ns).1.res.isMade = true→Fines xs e (ev fs x e ns).2)
end
end
end D
set_option Elab.async false
set_option linter.all false
set_option maxRecDepth 100000
set_option maxHeartbeats 4000000
namespace D
open PySem L2
def EnvR (H:Hp) (kvs:List (Key × V)) (e:Env):Prop:=∀ s x,e s = some x→∃ v,valV kvs (.inr s) = some v∧RW H v x
theorem EnvR.mono {H H':Hp}{kvs:List (Key × V)}{e:Env} (h:EnvR H kvs e) (s:Same H H'):EnvR H' kvs e:=fun z x hx=>let ⟨v,h1,h2⟩:=h z x hx; ⟨v,h1,h2.mono (same_tups s)⟩
theorem EnvR.put {H:Hp}{kvs:List (Key × V)}{e:Env} (h:EnvR H kvs e) {s:Str}{u:V}{x:W} (r:RW H u x):EnvR H (putK kvs (.inr s) u) (put e s x):=fun z y hy=>by
  unfold D.put at hy
  rw [valV_put]
  by_cases hz:z = s
  · rw [if_pos hz] at hy
    cases hy
    exact ⟨u,by rw [if_pos (by rw [hz])],r⟩
  · rw [if_neg hz] at hy
    obtain ⟨v,h1,h2⟩:=h z y hy
    exact ⟨v,by rw [if_neg (fun q=>hz (by simpa using q))]; exact h1,h2⟩
theorem RW.tup {H:Hp}{u:V}{ws:List W} (h:RW H u (.lst ws)):∃ a vs,u = .ref a∧H a = some (.tup vs)∧RWs H vs ws:=by
  cases h with
  | @lst a vs _ e l at'=>exact ⟨a,vs,rfl,e,l,at'⟩
theorem RWs.cons {H:Hp}{vs:List V}{x:W}{ws:List W} (h:RWs H vs (x :: ws)):∃ u us,vs = u :: us∧RW H u x∧RWs H us ws:=by
  match vs,h.len with
  | u :: us,hl=>exact ⟨u,us,rfl,h.at' 0 u x rfl rfl,by simpa using hl,fun i v w a b=>h.at' (i + 1) v w a b⟩
theorem RWs.nil' {H:Hp}{vs:List V} (h:RWs H vs []):vs = []:=List.length_eq_zero_iff.mp h.len
theorem RW.str {H:Hp}{u:V}{s:Str} (h:RW H u (.txt s)):u = .str s:=by cases h; rfl
def Kb (p:Addr) (H H':Hp):Prop:=∀ c o,c≠p→H c = some o→H' c = some o
theorem Kb.ofSame {p:Addr}{H H':Hp} (s:Same H H'):Kb p H H':=fun c o _ e=>s c o e
theorem Kb.put {p:Addr}{H:Hp}{o:HO}:Kb p H (upd H p o):=fun c u hc e=>by rw [upd_ne hc]; exact e
theorem Kb.seqT {K:PySem.W.Frag}{p:Addr}{H H':Hp}{ts:List V} (e:Kb p H H') (hp:H p = some (.lst ts)) {a:Addr}{xs:List V} (h:SqT K H a xs):SqT K H' a xs:=by
  rcases h with (h | ⟨o,h⟩) | h
  · exact .inl (.inl (e _ _ (fun z=>by rw [z,hp] at h; cases h) h))
  · exact .inl (.inr ⟨o,e _ _ (fun z=>by rw [z,hp] at h; cases h) h⟩)
  · exact .inr h
theorem Kb.rs {K:PySem.W.Frag}{p:Addr}{H H':Hp}{ts:List V} (e:Kb p H H') (hp:H p = some (.lst ts)) {v:V}{w:W} (h:RS K H v w):RS K H' v w:=by
  induction h with
  | num i=>exact .num i
  | txt x=>exact .txt x
  | lst e1 l _ ih=>exact .lst (e.seqT hp e1) l ih
theorem Kb.tups {p:Addr}{H H':Hp}{ts:List V} (e:Kb p H H') (hp:H p = some (.lst ts)):Tups H H':=fun a vs h=>e _ _ (fun z=>by rw [z,hp] at h; cases h) h
theorem Kb.res {K:PySem.W.Frag}{p:Addr}{H H':Hp}{ts:List V} (e:Kb p H H') (hp:H p = some (.lst ts)) {v:V}:∀ {r:Res},RRes K H v r→RRes K H' v r
  | .made _,⟨a,u,e1,e2,e3⟩=>⟨a,u,e1,e.seqT hp e2,e3.mono (e.tups hp)⟩
  | .wrong _,h=>Kb.rs e hp h
  | .stop,h=>h
theorem Kb.rr {K:PySem.W.Frag}{p:Addr}{H H':Hp}{ts:List V} (e:Kb p H H') (hp:H p = some (.lst ts)) {v:V}{r:R} (h:RR K H v r):RR K H' v r:=by
  induction h with
  | mk e1 e2 e3 l _ ih=>exact .mk (e.tups hp _ _ e1) (e.res hp e2) (e.tups hp _ _ e3) l ih
theorem Kb.rrs {K:PySem.W.Frag}{p:Addr}{H H':Hp}{ts:List V} (e:Kb p H H') (hp:H p = some (.lst ts)) {vs:List V}{rs:List R} (h:RRs K H vs rs):RRs K H' vs rs:=⟨h.len,fun i v r a b=>e.rr hp (h.at' i v r a b)⟩
def fR (l1 l2:Addr):List (Str × V):=putF "names" (.ref l2) (putF "founds" (.ref l1) [])
theorem fR_names (l1 l2:Addr):(fR l1 l2).lookup ("names":Str) = some (.ref l2):=by
  unfold fR
  rw [lookup_putF,if_pos rfl]
theorem fR_founds (l1 l2:Addr):(fR l1 l2).lookup ("founds":Str) = some (.ref l1):=by
  unfold fR
  rw [lookup_putF,if_neg (by decide +kernel),lookup_putF,if_pos rfl]
theorem fR_look (l1 l2:Addr):(fR l1 l2).lookup ("look":Str) = none:=by
  unfold fR
  rw [lookup_putF,if_neg (by decide +kernel),lookup_putF,if_neg (by decide +kernel)]
  rfl
structure G (l:Addr) (H H':Hp):Prop where
  k:Kb l H H'
  l:∃ xs,H l = some (.lst xs)
structure Rn (K:PySem.W.Frag) (AR:Addr) (fs:List Res) (rp l1 l:Addr) (H:Hp) (ns:Ns):Prop where
  ins:∃ dx,H rp = some (.ins AR dx (fR l1 l))
  fo:∃ us,H l1 = some (.lst us)∧us.length = fs.length∧∀ (i:Nat) (u:V) (r:Res),us[i]? = some u→fs[i]? = some r→RRes K H u r
  na:H l = some (.lst (ns.map V.str))
  ne:l1≠l
  few:fs.length≤1000
section
variable {K:PySem.W.Frag}{AR rp l1 l:Addr}{fs:List Res}{H H1 H2:Hp}{ns:Ns}
theorem G.trans (a:G l H H1) (b:G l H1 H2):G l H H2:=⟨fun c o hc e=>b.k c o hc (a.k c o hc e),a.l⟩
theorem G.same (a:G l H H1) (b:Same H1 H2):G l H H2:=⟨fun c o hc e=>b c o (a.k c o hc e),a.l⟩
theorem Rn.g (r:Rn K AR fs rp l1 l H ns) (s:Same H H1):G l H H1:=⟨fun c o _ e=>s c o e,_,r.na⟩
theorem Rn.same (r:Rn K AR fs rp l1 l H ns) (s:Same H H1):Rn K AR fs rp l1 l H1 ns:=by
  obtain ⟨dx,e1⟩:=r.ins
  obtain ⟨us,e2,e3,e4⟩:=r.fo
  exact ⟨⟨dx,s _ _ e1⟩,⟨us,s _ _ e2,e3,fun i u r a b=>(e4 i u r a b).mono s⟩,s _ _ r.na,r.ne,r.few⟩
theorem G.ts (g:G l H H1):Tups H H1:=let ⟨_,e⟩:=g.l; g.k.tups e
theorem G.t (g:G l H H1) {a:Addr}{vs:List V} (e:H a = some (.tup vs)):H1 a = some (.tup vs):=g.ts a vs e
theorem G.d (g:G l H H1) {a:Addr}{kvs:List (Key × V)} (e:H a = some (.dK kvs)):H1 a = some (.dK kvs):=by
  obtain ⟨_,e'⟩:=g.l
  exact g.k _ _ (fun z=>by rw [z,e'] at e; cases e) e
theorem G.rr (g:G l H H1) {v:V}{r:R} (h:RR K H v r):RR K H1 v r:=let ⟨_,e⟩:=g.l; g.k.rr e h
theorem G.rrs (g:G l H H1) {vs:List V}{rs:List R} (h:RRs K H vs rs):RRs K H1 vs rs:=let ⟨_,e⟩:=g.l; g.k.rrs e h
theorem G.sq (g:G l H H1) {a:Addr}{xs:List V} (h:SqT K H a xs):SqT K H1 a xs:=let ⟨_,e⟩:=g.l; g.k.seqT e h
theorem G.env (g:G l H H1) {kvs:List (Key × V)}{e:Env} (h:EnvR H kvs e):EnvR H1 kvs e:=fun z x hx=>let ⟨v,h1,h2⟩:=h z x hx; ⟨v,h1,h2.mono g.ts⟩
end
def spG (K:PySem.W.Frag) (AR:Addr) (n:Nat) (pre:Ex→Prop):Sp:=fun vs H Q _=>∃ (fs:List Res) (rp l1 l:Addr) (u:V) (bd:Addr) (kvs:List (Key × V)) (e:Env) (x:Ex) (ns:Ns),vs = [.ref rp,u,.ref bd]∧Rn K AR fs rp l1 l H ns∧RW H u x.toW∧H bd = some (.dK kvs)∧kvs.length + 2 * n≤1000∧EnvR H kvs e∧x.high≤n∧Fine fs x e ns∧pre x ∧
  ∀ (v:V) (H':Hp),G l H H'→Rn K AR fs rp l1 l H' (ev fs x e ns).2→RR K H' v (ev fs x e ns).1→Q v H'
def spLook (K:PySem.W.Frag) (AR:Addr):Sp:=fun vs H Q _=>∃ (fs:List Res) (rp l1 l:Addr) (z:Str) (ns:Ns),vs = [.ref rp,.str z]∧Rn K AR fs rp l1 l H ns∧ns.length≤1000∧∀ (v:V) (H':Hp),G l H H'→Rn K AR fs rp l1 l H' (ns ++ [z])→RRes K H' v (found fs ns.length)→Q v H'
section
variable {fs:List Res}{s t z:Str}{a b c:Ex}{e:Env}{ns:Ns}{x:W}{w:List W}{i:Int}
theorem ev_letM (h:(ev fs a e ns).1.res = .made x):ev fs (.letE s a b) e ns = (.mk (ev fs b (put e s x) (ev fs a e ns).2).1.res [(ev fs a e ns).1,(ev fs b (put e s x) (ev fs a e ns).2).1],(ev fs b (put e s x) (ev fs a e ns).2).2):=by rw [ev,h]
theorem ev_letN (h:(ev fs a e ns).1.res.isMade = false):ev fs (.letE s a b) e ns = (.mk (ev fs a e ns).1.res [(ev fs a e ns).1],(ev fs a e ns).2):=by
  rw [ev]
  cases hr:(ev fs a e ns).1.res with
  | made x=>rw [hr] at h; cases h
  | wrong ws=>rfl
  | stop=>rfl
theorem ev_ifN (h:(ev fs a e ns).1.res.isMade = false):ev fs (.ifE a b c) e ns = (.mk (ev fs a e ns).1.res [(ev fs a e ns).1],(ev fs a e ns).2):=by
  rw [ev]
  cases hr:(ev fs a e ns).1.res with
  | made x=>rw [hr] at h; cases h
  | wrong ws=>rfl
  | stop=>rfl
theorem ev_if0 (h:(ev fs a e ns).1.res = .made (.num 0)):ev fs (.ifE a b c) e ns = (.mk (ev fs c e (ev fs a e ns).2).1.res [(ev fs a e ns).1,(ev fs c e (ev fs a e ns).2).1],(ev fs c e (ev fs a e ns).2).2):=by rw [ev,h]; rfl
theorem ev_if1 (h:(ev fs a e ns).1.res = .made (.num i)) (hi:i≠0):ev fs (.ifE a b c) e ns = (.mk (ev fs b e (ev fs a e ns).2).1.res [(ev fs a e ns).1,(ev fs b e (ev fs a e ns).2).1],(ev fs b e (ev fs a e ns).2).2):=by
  rw [ev,h]
  exact if_neg hi
theorem ev_ifK (h:(ev fs a e ns).1.res = .made x) (hx:isNumW x = false):ev fs (.ifE a b c) e ns = (.mk (.wrong [.txt "kind",.txt ""]) [(ev fs a e ns).1],(ev fs a e ns).2):=by
  rw [ev,h]
  cases x with
  | num i=>cases hx
  | txt _=>rfl
  | lst _=>rfl
theorem ev_elseW (h:(ev fs a e ns).1.res = .wrong w):ev fs (.elseE a b) e ns = (.mk (ev fs b e (ev fs a e ns).2).1.res [(ev fs a e ns).1,(ev fs b e (ev fs a e ns).2).1],(ev fs b e (ev fs a e ns).2).2):=by rw [ev,h]
theorem ev_elseM (h:∀ w,(ev fs a e ns).1.res≠.wrong w):ev fs (.elseE a b) e ns = (.mk (ev fs a e ns).1.res [(ev fs a e ns).1],(ev fs a e ns).2):=by
  rw [ev]
  cases hr:(ev fs a e ns).1.res with
  | made x=>rfl
  | wrong ws=>exact absurd hr (h ws)
  | stop=>rfl
theorem ev_cryM (h:(ev fs a e ns).1.res = .made x):ev fs (.cryE a) e ns = (.mk (.wrong [.txt "cried",x]) [(ev fs a e ns).1],(ev fs a e ns).2):=by rw [ev,h]
theorem ev_cryN (h:(ev fs a e ns).1.res.isMade = false):ev fs (.cryE a) e ns = (.mk (ev fs a e ns).1.res [(ev fs a e ns).1],(ev fs a e ns).2):=by
  rw [ev]
  cases hr:(ev fs a e ns).1.res with
  | made x=>rw [hr] at h; cases h
  | wrong ws=>rfl
  | stop=>rfl
theorem ev_lookT (h:(ev fs a e ns).1.res = .made (.txt z)):ev fs (.lookE a) e ns = (.mk (found fs (ev fs a e ns).2.length) [(ev fs a e ns).1],(ev fs a e ns).2 ++ [z]):=by rw [ev,h]
theorem ev_lookN (h:(ev fs a e ns).1.res.isMade = false):ev fs (.lookE a) e ns = (.mk (ev fs a e ns).1.res [(ev fs a e ns).1],(ev fs a e ns).2):=by
  rw [ev]
  cases hr:(ev fs a e ns).1.res with
  | made x=>rw [hr] at h; cases h
  | wrong ws=>rfl
  | stop=>rfl
theorem ev_lookK (h:(ev fs a e ns).1.res = .made x) (hx:∀ z,x≠.txt z):ev fs (.lookE a) e ns = (.mk (.wrong [.txt "kind",.txt ""]) [(ev fs a e ns).1],(ev fs a e ns).2):=by
  rw [ev,h]
  cases x with
  | num i=>rfl
  | txt z=>exact absurd rfl (hx z)
  | lst _=>rfl
end
section
variable {P:Program}{w:World}{K:PySem.W.Frag}{mg:Str→Option Value}{base:Heap}{f:Addr}{fd:FuncData}{k n:Nat}{ARun:Addr}
theorem sc_go_lit:FnScope ["run","expression","bound"] ["run","expression","bound"] (defScope s_go_lit):=⟨rfl,rfl,rfl,by decide +kernel,rfl,by decide +kernel,by decide +kernel⟩
theorem ok_go_lit (F:Fun K "go_lit" "go_lit" s_go_lit f fd):FnOk P w K mg base CX0 (k + 1) f fd ["run","expression","bound"] (spG K ARun (n + 1) (fun x=>∃ y,x = .lit y)):=by
  refine F.okQ sc_go_lit (fun vs H Q E h=>?_) (fun cdv A outer s H vs Q E hr h=>?_)
  · obtain ⟨fs,rp,l1,l,u,bd,kvs,e,x,ns,rfl,_⟩:=h
    rfl
  obtain ⟨fs,rp,l1,l,u,bd,kvs,e,x,ns,rfl,rn,ru,hb,hk,he,hh,hf,⟨y,rfl⟩,q⟩:=h
  obtain ⟨a,vs,rfl,ea,hw⟩:=ru.tup
  obtain ⟨u0,us,rfl,r0,hw⟩:=hw.cons
  obtain ⟨u1,us,rfl,r1,hw⟩:=hw.cons
  cases hw.nil'
  refine ⟨_,(pss_one (ps_ret (pe_tup (pa_cons (pe_tup (pa_cons pe_str (pa_cons (pe_ix ix_tup (pv 1) pe_int (fun _ _=>rfl)) pa_nil))) (pa_cons (pe_tup pa_nil) pa_nil))))),?_⟩
  refine ⟨_,rfl,a,_,1,_,rfl,rfl,SqT.of ea,rfl,(by show 2≤sizeLine; decide),fun p hp=>⟨(by show 0≤sizeLine; decide),fun p2 hp2=>⟨(by show 2≤sizeLine; decide),fun p3 hp3=>?_⟩⟩⟩
  have s1:=Same.new (o:=.tup [.str "made",u1]) hp
  have s2:=Same.new (o:=.tup []) hp2
  have s3:=Same.new (o:=.tup [.ref p,.ref p2]) hp3
  have s13:=(s1.trans s2).trans s3
  exact q _ _ (rn.g s13) (rn.same s13) (RRs.nil.rr upd_same ⟨p,u1,rfl,SqT.of ((s2.trans s3) _ _ upd_same),r1.mono (same_tups s13)⟩ (s3 _ _ upd_same))
theorem sc_go_var:FnScope ["run","expression","bound"] ["run","expression","bound"] (defScope s_go_var):=⟨rfl,rfl,rfl,by decide +kernel,rfl,by decide +kernel,by decide +kernel⟩
theorem ok_go_var (F:Fun K "go_var" "go_var" s_go_var f fd):FnOk P w K mg base CX0 (k + 1) f fd ["run","expression","bound"] (spG K ARun (n + 1) (fun x=>∃ s,x = .var s)):=by
  refine F.okQ sc_go_var (fun vs H Q E h=>?_) (fun cdv A outer s H vs Q E hr h=>?_)
  · obtain ⟨fs,rp,l1,l,u,bd,kvs,e,x,ns,rfl,_⟩:=h
    rfl
  obtain ⟨fs,rp,l1,l,u,bd,kvs,e,x,ns,rfl,rn,ru,hb,hk,he,hh,hf,⟨z,rfl⟩,q⟩:=h
  obtain ⟨x0,hf⟩:∃ x,e z = some x:=by simpa only [Fine] using hf
  obtain ⟨a,vs,rfl,ea,hw⟩:=ru.tup
  obtain ⟨u0,us,rfl,r0,hw⟩:=hw.cons
  obtain ⟨u1,us,rfl,r1,hw⟩:=hw.cons
  cases hw.nil'
  cases r1.str
  obtain ⟨v,hv,rv⟩:=he z x0 hf
  refine ⟨_,(pss_one (ps_ret (pe_tup (pa_cons (pe_tup (pa_cons pe_str (pa_cons (pe_dget (hu_of hr) (pv 2) (pe_ix ix_tup (pv 1) pe_int (fun _ _=>rfl)) (fun _ _=>rfl)) pa_nil))) (pa_cons (pe_tup pa_nil) pa_nil))))),?_⟩
  refine ⟨_,rfl,_,rfl,a,_,1,_,rfl,rfl,SqT.of ea,rfl,bd,v,rfl,by rw [← hv]; exact DGet.k (k:=.inr z) hb,(by show 2≤sizeLine; decide),fun p hp=>⟨(by show 0≤sizeLine; decide),fun p2 hp2=>⟨(by show 2≤sizeLine; decide),fun p3 hp3=>?_⟩⟩⟩
  have s1:=Same.new (o:=.tup [.str "made",v]) hp
  have s2:=Same.new (o:=.tup []) hp2
  have s3:=Same.new (o:=.tup [.ref p,.ref p2]) hp3
  have s13:=(s1.trans s2).trans s3
  have hev:ev fs (.var z) e ns = (.mk (.made x0) [],ns):=by rw [ev,hf]; rfl
  rw [hev] at q
  exact q _ _ (rn.g s13) (rn.same s13) (RRs.nil.rr upd_same ⟨p,v,rfl,SqT.of ((s2.trans s3) _ _ upd_same),rv.mono (same_tups s13)⟩ (s3 _ _ upd_same))
theorem sc_go_let:FnScope ["run","expression","bound","first","inner"] ["run","expression","bound"] (defScope s_go_let):=⟨rfl,rfl,rfl,by decide +kernel,rfl,by decide +kernel,by decide +kernel⟩
theorem ok_go_let (F:Fun K "go_let" "go_let" s_go_let f fd) (G_as_last:Have P w K mg base "as_last" k ["records"] (spAsLast K)) (G_record_of:Have P w K mg base "record_of" k ["run","expression","bound"] (spG K ARun n (fun _=>True))) (G_binding:Have P w K mg base "binding" k ["bound","name","worth"] (spBind)) (G_worth_of:Have P w K mg base "worth_of" k ["record"] (spWorthOf K)) (G_is_made:Have P w K mg base "is_made" k ["record"] (spIsMade K)):FnOk P w K mg base CX0 (k + 1) f fd ["run","expression","bound"] (spG K ARun (n + 1) (fun x=>∃ s a b,x = .letE s a b)):=by
  refine F.okQ sc_go_let (fun vs H Q E h=>?_) (fun cdv A outer s H vs Q E hr h=>?_)
  · obtain ⟨fs,rp,l1,l,u,bd,kvs,e,x,ns,rfl,_⟩:=h
    rfl
  obtain ⟨fs,rp,l1,l,u,bd,kvs,e,x,ns,rfl,rn,ru,hb,hk,he,hh,hf,⟨z,A1,B1,rfl⟩,q⟩:=h
  rw [Ex.toW] at ru
  rw [Ex.high] at hh
  rw [Fine] at hf
  obtain ⟨a,vs,rfl,ea,hw⟩:=ru.tup
  obtain ⟨u0,us,rfl,r0,hw⟩:=hw.cons
  obtain ⟨u1,us,rfl,r1,hw⟩:=hw.cons
  obtain ⟨u2,us,rfl,r2,hw⟩:=hw.cons
  obtain ⟨u3,us,rfl,r3,hw⟩:=hw.cons
  cases hw.nil'
  cases r1.str
  refine ⟨_,(pss_cons (ps_set (i:=3) sc_go_let.nd rfl (Or.inl rfl) (pe_fn G_record_of hr rfl (pa_cons (pv 0) (pa_cons (pe_ix ix_tup (pv 1) pe_int (fun _ _=>rfl)) (pa_cons (pv 2) pa_nil)))))
    (pss_cons (ps_if (pt_not (pt_val (pe_fn G_is_made hr rfl (pa_cons (pv 3) pa_nil)))) (pss_one (ps_ret (pe_fn G_as_last hr rfl (pa_cons (pe_lst (pa_cons (pv 3) pa_nil)) pa_nil)))) pss_nil)
    (pss_cons (ps_set (i:=4) sc_go_let.nd rfl (Or.inl rfl) (pe_fn G_binding hr rfl (pa_cons (pv 2) (pa_cons (pe_ix ix_tup (pv 1) pe_int (fun _ _=>rfl)) (pa_cons (pe_fn G_worth_of hr rfl (pa_cons (pv 3) pa_nil)) pa_nil)))))
    (pss_one (ps_ret (pe_fn G_as_last hr rfl (pa_cons (pe_lst (pa_cons (pv 3) (pa_cons (pe_fn G_record_of hr rfl (pa_cons (pv 0) (pa_cons (pe_ix ix_tup (pv 1) pe_int (fun _ _=>rfl)) (pa_cons (pv 4) pa_nil)))) pa_nil))) pa_nil))))))),?_⟩
  refine ⟨_,rfl,_,rfl,a,_,2,_,rfl,rfl,SqT.of ea,rfl,_,rfl,fs,rp,l1,l,u2,bd,kvs,e,A1,ns,rfl,rn,r2,hb,by omega,he,by omega,hf.1,trivial,fun v1 H1 g1 rn1 rr1=>?_⟩
  refine ⟨_,rfl,v1,(ev fs A1 e ns).1,rfl,rr1,_,rfl,?_⟩
  cases hm:(ev fs A1 e ns).1.res.isMade with
  | false=>
    refine iteT ⟨_,rfl,(by show 1≤sizeLine; decide),fun p hp=>?_⟩
    have s2:=Same.new (o:=.lst [v1]) hp
    rw [ev_letN hm] at q
    exact ⟨p,[v1],[(ev fs A1 e ns).1],(ev fs A1 e ns).1,rfl,upd_same,RRs.one (rr1.mono s2),rfl,fun v H' s3 rr=>q v H' (g1.same (s2.trans s3)) (rn1.same (s2.trans s3)) rr⟩
  | true=>
    obtain ⟨x,hres⟩:∃ x,(ev fs A1 e ns).1.res = .made x:=by
      cases hr:(ev fs A1 e ns).1.res with
      | made x=>exact ⟨x,rfl⟩
      | wrong _=>rw [hr] at hm; cases hm
      | stop=>rw [hr] at hm; cases hm
    rw [ev_letM hres] at q
    refine iteF ⟨_,rfl,_,rfl,a,_,1,_,rfl,rfl,SqT.of (g1.t ea),rfl,_,rfl,v1,(ev fs A1 e ns).1,x,rfl,rr1,hres,fun ux rx=>?_⟩
    refine ⟨bd,z,ux,kvs,rfl,g1.d hb,by omega,fun p H2 s2 hp=>?_⟩
    have g12:=g1.same s2
    have hl:=length_putK kvs (.inr z) ux
    refine ⟨_,rfl,_,rfl,_,rfl,a,_,3,_,rfl,rfl,SqT.of (g12.t ea),rfl,_,rfl,fs,rp,l1,l,u3,p,_,put e z x,B1,_,rfl,rn1.same s2,r3.mono g12.ts,hp,by omega,((g12.env he).put (rx.mono (same_tups s2))),by omega,hf.2 x hres,trivial,fun v2 H3 g3 rn3 rr2=>⟨(by show 2≤sizeLine; decide),fun p4 hp4=>?_⟩⟩
    have s4:=Same.new (o:=.lst [v1,v2]) hp4
    exact ⟨p4,[v1,v2],[(ev fs A1 e ns).1,_],_,rfl,upd_same,RRs.two ((g3.rr (rr1.mono s2)).mono s4) (rr2.mono s4),rfl,fun v H' s5 rr=>q v H' ((g12.trans g3).same (s4.trans s5)) (rn3.same (s4.trans s5)) rr⟩
end
end D
set_option Elab.async false
set_option linter.all false
set_option maxRecDepth 100000
set_option maxHeartbeats 4000000
namespace D
open PySem L2
theorem made_of {r:Res} (h:r.isMade = true):∃ x,r = .made x:=by
  cases r with
  | made x=>exact ⟨x,rfl⟩
  | wrong _=>cases h
  | stop=>cases h
theorem RW.tyW {K:PySem.W.Frag}{H:Hp}{v:V}{x:W} (h:RW H v x):TyOf K H v (.type (tnW x)):=by
  cases h with
  | num i=>exact .int i
  | txt z=>exact .str z
  | lst e _ _=>exact .tup e
section
variable {P:Program}{w:World}{K:PySem.W.Frag}{mg:Str→Option Value}{base:Heap}{f:Addr}{fd:FuncData}{k n:Nat}{ARun:Addr}
theorem sc_go_cry:FnScope ["run","expression","bound","first"] ["run","expression","bound"] (defScope s_go_cry):=⟨rfl,rfl,rfl,by decide +kernel,rfl,by decide +kernel,by decide +kernel⟩
theorem ok_go_cry (F:Fun K "go_cry" "go_cry" s_go_cry f fd) (G_worth_of:Have P w K mg base "worth_of" k ["record"] (spWorthOf K)) (G_is_made:Have P w K mg base "is_made" k ["record"] (spIsMade K)) (G_as_last:Have P w K mg base "as_last" k ["records"] (spAsLast K)) (G_record_of:Have P w K mg base "record_of" k ["run","expression","bound"] (spG K ARun n (fun _=>True))):FnOk P w K mg base CX0 (k + 1) f fd ["run","expression","bound"] (spG K ARun (n + 1) (fun x=>∃ a,x = .cryE a)):=by
  refine F.okQ sc_go_cry (fun vs H Q E h=>?_) (fun cdv A outer s H vs Q E hr h=>?_)
  · obtain ⟨fs,rp,l1,l,u,bd,kvs,e,x,ns,rfl,_⟩:=h
    rfl
  obtain ⟨fs,rp,l1,l,u,bd,kvs,e,x,ns,rfl,rn,ru,hb,hk,he,hh,hf,⟨A1,rfl⟩,q⟩:=h
  rw [Ex.toW] at ru
  rw [Ex.high] at hh
  rw [Fine] at hf
  obtain ⟨a,vs,rfl,ea,hw⟩:=ru.tup
  obtain ⟨u0,us,rfl,r0,hw⟩:=hw.cons
  obtain ⟨u1,us,rfl,r1,hw⟩:=hw.cons
  cases hw.nil'
  refine ⟨_,(pss_cons (ps_set (i:=3) sc_go_cry.nd rfl (Or.inl rfl) (pe_fn G_record_of hr rfl (pa_cons (pv 0) (pa_cons (pe_ix ix_tup (pv 1) pe_int (fun _ _=>rfl)) (pa_cons (pv 2) pa_nil)))))
    (pss_cons (ps_if (pt_not (pt_val (pe_fn G_is_made hr rfl (pa_cons (pv 3) pa_nil)))) (pss_one (ps_ret (pe_fn G_as_last hr rfl (pa_cons (pe_lst (pa_cons (pv 3) pa_nil)) pa_nil)))) pss_nil)
    (pss_one (ps_ret (pe_tup (pa_cons (pe_tup (pa_cons pe_str (pa_cons pe_str (pa_cons (pe_fn G_worth_of hr rfl (pa_cons (pv 3) pa_nil)) pa_nil)))) (pa_cons (pe_tup (pa_cons (pv 3) pa_nil)) pa_nil))))))),?_⟩
  refine ⟨_,rfl,_,rfl,a,_,1,_,rfl,rfl,SqT.of ea,rfl,_,rfl,fs,rp,l1,l,u1,bd,kvs,e,A1,ns,rfl,rn,r1,hb,by omega,he,by omega,hf,trivial,fun v1 H1 g1 rn1 rr1=>?_⟩
  refine ⟨_,rfl,v1,(ev fs A1 e ns).1,rfl,rr1,_,rfl,?_⟩
  cases hm:(ev fs A1 e ns).1.res.isMade with
  | false=>
    refine iteT ⟨_,rfl,(by show 1≤sizeLine; decide),fun p hp=>?_⟩
    have s2:=Same.new (o:=.lst [v1]) hp
    rw [ev_cryN hm] at q
    exact ⟨p,[v1],[(ev fs A1 e ns).1],(ev fs A1 e ns).1,rfl,upd_same,RRs.one (rr1.mono s2),rfl,fun v H' s3 rr=>q v H' (g1.same (s2.trans s3)) (rn1.same (s2.trans s3)) rr⟩
  | true=>
    obtain ⟨x,hres⟩:=made_of hm
    rw [ev_cryM hres] at q
    refine iteF ⟨_,rfl,v1,(ev fs A1 e ns).1,x,rfl,rr1,hres,fun ux rx=>⟨(by show 3≤sizeLine; decide),fun p hp=>⟨_,rfl,(by show 1≤sizeLine; decide),fun p2 hp2=>⟨(by show 2≤sizeLine; decide),fun p3 hp3=>?_⟩⟩⟩⟩
    have s2:=Same.new (o:=.tup [.str "wrong",.str "cried",ux]) hp
    have s3:=Same.new (o:=.tup [v1]) hp2
    have s4:=Same.new (o:=.tup [.ref p,.ref p2]) hp3
    have s24:=(s2.trans s3).trans s4
    refine q _ _ (g1.same s24) (rn1.same s24) ?_
    exact (RRs.one (rr1.mono s24)).rr upd_same (show RS K _ _ _ from RS.three (SqT.of ((s3.trans s4) _ _ upd_same)) (.txt _) (.txt _) (rx.mono (same_tups s24)).toRS) (s4 _ _ upd_same)
theorem sc_go_else:FnScope ["run","expression","bound","first"] ["run","expression","bound"] (defScope s_go_else):=⟨rfl,rfl,rfl,by decide +kernel,rfl,by decide +kernel,by decide +kernel⟩
theorem ok_go_else (F:Fun K "go_else" "go_else" s_go_else f fd) (G_as_last:Have P w K mg base "as_last" k ["records"] (spAsLast K)) (G_record_of:Have P w K mg base "record_of" k ["run","expression","bound"] (spG K ARun n (fun _=>True))) (G_is_made:Have P w K mg base "is_made" k ["record"] (spIsMade K)):FnOk P w K mg base CX0 (k + 1) f fd ["run","expression","bound"] (spG K ARun (n + 1) (fun x=>∃ a b,x = .elseE a b)):=by
  refine F.okQ sc_go_else (fun vs H Q E h=>?_) (fun cdv A outer s H vs Q E hr h=>?_)
  · obtain ⟨fs,rp,l1,l,u,bd,kvs,e,x,ns,rfl,_⟩:=h
    rfl
  obtain ⟨fs,rp,l1,l,u,bd,kvs,e,x,ns,rfl,rn,ru,hb,hk,he,hh,hf,⟨A1,B1,rfl⟩,q⟩:=h
  rw [Ex.toW] at ru
  rw [Ex.high] at hh
  rw [Fine] at hf
  obtain ⟨a,vs,rfl,ea,hw⟩:=ru.tup
  obtain ⟨u0,us,rfl,r0,hw⟩:=hw.cons
  obtain ⟨u1,us,rfl,r1,hw⟩:=hw.cons
  obtain ⟨u2,us,rfl,r2,hw⟩:=hw.cons
  cases hw.nil'
  refine ⟨_,(pss_cons (ps_set (i:=3) sc_go_else.nd rfl (Or.inl rfl) (pe_fn G_record_of hr rfl (pa_cons (pv 0) (pa_cons (pe_ix ix_tup (pv 1) pe_int (fun _ _=>rfl)) (pa_cons (pv 2) pa_nil)))))
    (pss_cons (ps_if (PW.pt (pw_or (pt_cmp (pc_isN (pe_ix ix_tup (pv 3) pe_int (fun _ _=>rfl)))) (pw_or1 (pt_val (pe_fn G_is_made hr rfl (pa_cons (pv 3) pa_nil)))))) (pss_one (ps_ret (pe_fn G_as_last hr rfl (pa_cons (pe_lst (pa_cons (pv 3) pa_nil)) pa_nil)))) pss_nil)
    (pss_one (ps_ret (pe_fn G_as_last hr rfl (pa_cons (pe_lst (pa_cons (pv 3) (pa_cons (pe_fn G_record_of hr rfl (pa_cons (pv 0) (pa_cons (pe_ix ix_tup (pv 1) pe_int (fun _ _=>rfl)) (pa_cons (pv 2) pa_nil)))) pa_nil))) pa_nil)))))),?_⟩
  refine ⟨_,rfl,_,rfl,a,_,1,_,rfl,rfl,SqT.of ea,rfl,_,rfl,fs,rp,l1,l,u1,bd,kvs,e,A1,ns,rfl,rn,r1,hb,by omega,he,by omega,hf.1,trivial,fun v1 H1 g1 rn1 rr1=>?_⟩
  obtain ⟨a1,b1,rv1,ev1,ea1,rres1⟩:=rr1.res
  subst ev1
  cases hres:(ev fs A1 e ns).1.res with
  | stop=>
    rw [hres] at rres1
    obtain rfl:rv1 = .non:=rres1
    refine ⟨_,rfl,a1,_,0,_,rfl,rfl,SqT.of ea1,rfl,_,rfl,iteT ?_⟩
    refine ⟨_,rfl,(by show 1≤sizeLine; decide),fun p hp=>?_⟩
    have s2:=Same.new (o:=.lst [.ref a1]) hp
    rw [ev_elseM (fun w z=>by rw [hres] at z; cases z)] at q
    exact ⟨p,[.ref a1],[(ev fs A1 e ns).1],(ev fs A1 e ns).1,rfl,upd_same,RRs.one (rr1.mono s2),rfl,fun v H' s3 rr=>q v H' (g1.same (s2.trans s3)) (rn1.same (s2.trans s3)) rr⟩
  | made x=>
    obtain ⟨c1,us1,rfl,ec1⟩:=rres1.word (by rw [hres]; exact fun z=>nomatch z)
    refine ⟨_,rfl,a1,_,0,_,rfl,rfl,SqT.of ea1,rfl,_,rfl,iteF ⟨_,rfl,_,(ev fs A1 e ns).1,rfl,rr1,_,rfl,?_⟩⟩
    rw [hres]
    refine iteT ⟨_,rfl,(by show 1≤sizeLine; decide),fun p hp=>?_⟩
    have s2:=Same.new (o:=.lst [.ref a1]) hp
    rw [ev_elseM (fun w z=>by rw [hres] at z; cases z)] at q
    exact ⟨p,[.ref a1],[(ev fs A1 e ns).1],(ev fs A1 e ns).1,rfl,upd_same,RRs.one (rr1.mono s2),rfl,fun v H' s3 rr=>q v H' (g1.same (s2.trans s3)) (rn1.same (s2.trans s3)) rr⟩
  | wrong ws=>
    obtain ⟨c1,us1,rfl,ec1⟩:=rres1.word (by rw [hres]; exact fun z=>nomatch z)
    refine ⟨_,rfl,a1,_,0,_,rfl,rfl,SqT.of ea1,rfl,_,rfl,iteF ⟨_,rfl,_,(ev fs A1 e ns).1,rfl,rr1,_,rfl,?_⟩⟩
    rw [hres]
    rw [ev_elseW hres] at q
    refine iteF ⟨_,rfl,_,rfl,_,rfl,a,_,2,_,rfl,rfl,SqT.of (g1.t ea),rfl,_,rfl,fs,rp,l1,l,u2,bd,kvs,e,B1,_,rfl,rn1,r2.mono g1.ts,g1.d hb,by omega,g1.env he,by omega,hf.2 ws hres,trivial,fun v2 H3 g3 rn3 rr2=>⟨(by show 2≤sizeLine; decide),fun p hp=>?_⟩⟩
    have s4:=Same.new (o:=.lst [.ref a1,v2]) hp
    exact ⟨p,[.ref a1,v2],[(ev fs A1 e ns).1,_],_,rfl,upd_same,RRs.two ((g3.rr rr1).mono s4) (rr2.mono s4),rfl,fun v H' s5 rr=>q v H' ((g1.trans g3).same (s4.trans s5)) (rn3.same (s4.trans s5)) rr⟩
theorem sc_go_if:FnScope ["run","expression","bound","first","branch"] ["run","expression","bound"] (defScope s_go_if):=⟨rfl,rfl,rfl,by decide +kernel,rfl,by decide +kernel,by decide +kernel⟩
theorem ok_go_if (F:Fun K "go_if" "go_if" s_go_if f fd) (G_as_last:Have P w K mg base "as_last" k ["records"] (spAsLast K)) (G_record_of:Have P w K mg base "record_of" k ["run","expression","bound"] (spG K ARun n (fun _=>True))) (G_worth_of:Have P w K mg base "worth_of" k ["record"] (spWorthOf K)) (G_is_number:Have P w K mg base "is_number" k ["thing"] (spIsNum)) (G_is_made:Have P w K mg base "is_made" k ["record"] (spIsMade K)) {g_KIND:Addr} (m_KIND:mg "KIND" = some (.ref g_KIND)) (t_KIND:∀ H:Hp,SqT K H g_KIND [.str "wrong",.str "kind",.str ""]):FnOk P w K mg base CX0 (k + 1) f fd ["run","expression","bound"] (spG K ARun (n + 1) (fun x=>∃ a b c,x = .ifE a b c)):=by
  refine F.okQ sc_go_if (fun vs H Q E h=>?_) (fun cdv A outer s H vs Q E hr h=>?_)
  · obtain ⟨fs,rp,l1,l,u,bd,kvs,e,x,ns,rfl,_⟩:=h
    rfl
  obtain ⟨fs,rp,l1,l,u,bd,kvs,e,x,ns,rfl,rn,ru,hb,hk,he,hh,hf,⟨A1,B1,C1,rfl⟩,q⟩:=h
  rw [Ex.toW] at ru
  rw [Ex.high] at hh
  rw [Fine] at hf
  obtain ⟨a,vs,rfl,ea,hw⟩:=ru.tup
  obtain ⟨u0,us,rfl,r0,hw⟩:=hw.cons
  obtain ⟨u1,us,rfl,r1,hw⟩:=hw.cons
  obtain ⟨u2,us,rfl,r2,hw⟩:=hw.cons
  obtain ⟨u3,us,rfl,r3,hw⟩:=hw.cons
  cases hw.nil'
  refine ⟨_,(pss_cons (ps_set (i:=3) sc_go_if.nd rfl (Or.inl rfl) (pe_fn G_record_of hr rfl (pa_cons (pv 0) (pa_cons (pe_ix ix_tup (pv 1) pe_int (fun _ _=>rfl)) (pa_cons (pv 2) pa_nil)))))
    (pss_cons (ps_if (pt_not (pt_val (pe_fn G_is_made hr rfl (pa_cons (pv 3) pa_nil)))) (pss_one (ps_ret (pe_fn G_as_last hr rfl (pa_cons (pe_lst (pa_cons (pv 3) pa_nil)) pa_nil)))) pss_nil)
    (pss_cons (ps_if (pt_not (pt_val (pe_fn G_is_number hr rfl (pa_cons (pe_fn G_worth_of hr rfl (pa_cons (pv 3) pa_nil)) pa_nil)))) (pss_one (ps_ret (pe_tup (pa_cons (pe_glob (v:=.ref g_KIND) rfl m_KIND rfl) (pa_cons (pe_tup (pa_cons (pv 3) pa_nil)) pa_nil))))) pss_nil)
    (pss_cons (ps_set (i:=4) sc_go_if.nd rfl (Or.inl rfl) (pe_ifExp (pt_cmpR op_ne (pe_fn G_worth_of hr rfl (pa_cons (pv 3) pa_nil)) pe_int (nomark _)) (pe_ix ix_tup (pv 1) pe_int (fun _ _=>rfl)) (pe_ix ix_tup (pv 1) pe_int (fun _ _=>rfl))))
    (pss_one (ps_ret (pe_fn G_as_last hr rfl (pa_cons (pe_lst (pa_cons (pv 3) (pa_cons (pe_fn G_record_of hr rfl (pa_cons (pv 0) (pa_cons (pv 4) (pa_cons (pv 2) pa_nil)))) pa_nil))) pa_nil)))))))),?_⟩
  refine ⟨_,rfl,_,rfl,a,_,1,_,rfl,rfl,SqT.of ea,rfl,_,rfl,fs,rp,l1,l,u1,bd,kvs,e,A1,ns,rfl,rn,r1,hb,by omega,he,by omega,hf.1,trivial,fun v1 H1 g1 rn1 rr1=>?_⟩
  refine ⟨_,rfl,v1,(ev fs A1 e ns).1,rfl,rr1,_,rfl,?_⟩
  cases hm:(ev fs A1 e ns).1.res.isMade with
  | false=>
    refine iteT ⟨_,rfl,(by show 1≤sizeLine; decide),fun p hp=>?_⟩
    have s2:=Same.new (o:=.lst [v1]) hp
    rw [ev_ifN hm] at q
    exact ⟨p,[v1],[(ev fs A1 e ns).1],(ev fs A1 e ns).1,rfl,upd_same,RRs.one (rr1.mono s2),rfl,fun v H' s3 rr=>q v H' (g1.same (s2.trans s3)) (rn1.same (s2.trans s3)) rr⟩
  | true=>
    obtain ⟨x,hres⟩:=made_of hm
    refine iteF ⟨_,rfl,v1,(ev fs A1 e ns).1,x,rfl,rr1,hres,fun ux rx=>⟨ux,x.toT,rfl,rx.toRT,_,rfl,?_⟩⟩
    rw [isNum_toT]
    cases hn:isNumW x with
    | false=>
      refine iteT ⟨_,rfl,(by show 1≤sizeLine; decide),fun p2 hp2=>⟨(by show 2≤sizeLine; decide),fun p3 hp3=>?_⟩⟩
      have s3:=Same.new (o:=.tup [v1]) hp2
      have s4:=Same.new (o:=.tup [.ref g_KIND,.ref p2]) hp3
      have s24:=s3.trans s4
      rw [ev_ifK hres hn] at q
      exact q _ _ (g1.same s24) (rn1.same s24) ((RRs.one (rr1.mono s24)).rr upd_same (show RS K _ _ _ from RS.three (t_KIND _) (.txt _) (.txt _) (.txt _)) (s4 _ _ upd_same))
    | true=>
      cases x with
      | txt _=>cases hn
      | lst _=>cases hn
      | num i=>
        have hfi:=hf.2 i hres
        refine iteF ⟨_,rfl,v1,(ev fs A1 e ns).1,.num i,rfl,rr1,hres,fun ux2 rx2=>?_⟩
        cases rx2
        refine ⟨rfl,_,rfl,?_⟩
        refine ite2 (fun c=>?_) (fun c=>?_)
        · have hi:i≠0:=fun z=>by rw [z] at c; cases c
          rw [ev_if1 hres hi] at q
          refine ⟨_,rfl,a,_,2,_,rfl,rfl,SqT.of (g1.t ea),rfl,?_⟩
          refine ⟨_,rfl,_,rfl,_,rfl,_,rfl,fs,rp,l1,l,u2,bd,kvs,e,B1,_,rfl,rn1,r2.mono g1.ts,g1.d hb,by omega,g1.env he,by omega,hfi.1 hi,trivial,fun v2 H3 g3 rn3 rr2=>⟨(by show 2≤sizeLine; decide),fun p hp=>?_⟩⟩
          have s4:=Same.new (o:=.lst [v1,v2]) hp
          exact ⟨p,[v1,v2],[(ev fs A1 e ns).1,_],_,rfl,upd_same,RRs.two ((g3.rr rr1).mono s4) (rr2.mono s4),rfl,fun v H' s5 rr=>q v H' ((g1.trans g3).same (s4.trans s5)) (rn3.same (s4.trans s5)) rr⟩
        · have hi:i = 0:=by
            apply Classical.byContradiction
            intro z
            exact c (by rw [decide_eq_false (by simpa using z)]; rfl)
          subst hi
          rw [ev_if0 hres] at q
          refine ⟨_,rfl,a,_,3,_,rfl,rfl,SqT.of (g1.t ea),rfl,?_⟩
          refine ⟨_,rfl,_,rfl,_,rfl,_,rfl,fs,rp,l1,l,u3,bd,kvs,e,C1,_,rfl,rn1,r3.mono g1.ts,g1.d hb,by omega,g1.env he,by omega,hfi.2 rfl,trivial,fun v2 H3 g3 rn3 rr2=>⟨(by show 2≤sizeLine; decide),fun p hp=>?_⟩⟩
          have s4:=Same.new (o:=.lst [v1,v2]) hp
          exact ⟨p,[v1,v2],[(ev fs A1 e ns).1,_],_,rfl,upd_same,RRs.two ((g3.rr rr1).mono s4) (rr2.mono s4),rfl,fun v H' s5 rr=>q v H' ((g1.trans g3).same (s4.trans s5)) (rn3.same (s4.trans s5)) rr⟩
theorem sc_Run_look:FnScope ["self","name"] ["self","name"] (defScope s_Run_look):=⟨rfl,rfl,rfl,by decide +kernel,rfl,by decide +kernel,by decide +kernel⟩
theorem ok_Run_look (F:Fun K "look" "Run.look" s_Run_look f fd) (m_len:mg "len" = none) (clR:Cls K ARun) (nF:NoAttr K ARun "founds") (nN:NoAttr K ARun "names"):FnOk P w K mg base CX0 (k + 1) f fd ["self","name"] (spLook K ARun):=by
  refine F.okQ sc_Run_look (fun vs H Q E h=>?_) (fun cdv A outer s H vs Q E hr h=>?_)
  · obtain ⟨fs,rp,l1,l,z,ns,rfl,_⟩:=h
    rfl
  obtain ⟨fs,rp,l1,l,z,ns,rfl,rn,hns,q⟩:=h
  obtain ⟨dx,hins⟩:=rn.ins
  obtain ⟨us,e1,hlen,hres⟩:=rn.fo
  have na:=rn.na
  refine ⟨_,(pss_cons (ps_expr (pe_bm PySem.F.plainAttrs_list PySem.F.slot_list_append PySem.F.type_list_append mt_append (pe_fld (pv 0) rfl) (pa_cons (pv 1) pa_nil)))
    (pss_cons (ps_if (pt_cmpR op_gt (pe_callB call_len rfl m_len PySem.boot_len (pa_cons (pe_fld (pv 0) rfl) pa_nil)) (pe_callB call_len rfl m_len PySem.boot_len (pa_cons (pe_fld (pv 0) rfl) pa_nil)) (nomark _)) (pss_one (ps_ret pe_non)) pss_nil)
    (pss_one (ps_ret (pe_ix ix_list (pe_fld (pv 0) rfl) (pe_op op_sub (pe_callB call_len rfl m_len PySem.boot_len (pa_cons (pe_fld (pv 0) rfl) pa_nil)) pe_int) (fun _ _=>rfl)))))),?_⟩
  refine ⟨_,rfl,rp,ARun,dx,_,_,rfl,hins,clR,nN,fR_names _ _,.inl ⟨rfl,_,SqL.of na⟩,_,rfl,l,_,.str z,rfl,rfl,na,small1000 (by rw [List.length_map]; omega),?_⟩
  have kb:Kb l H (upd H l (.lst (ns.map V.str ++ [.str z]))):=Kb.put
  have na1:upd H l (.lst (ns.map V.str ++ [.str z])) l = some (.lst (ns.map V.str ++ [.str z])):=upd_same
  have hins1:=kb _ _ (fun c=>by rw [c,na] at hins; cases hins) hins
  have e11:=kb _ _ rn.ne e1
  have hres1:∀ (i:Nat) (u:V) (r:Res),us[i]? = some u→fs[i]? = some r→RRes K (upd H l (.lst (ns.map V.str ++ [.str z]))) u r:=fun i u r a b=>kb.res na (hres i u r a b)
  have g:G l H (upd H l (.lst (ns.map V.str ++ [.str z]))):=⟨kb,_,na⟩
  generalize upd H l (.lst (ns.map V.str ++ [.str z])) = H1 at na1 hins1 e11 hres1 g
  have rn1:Rn K ARun fs rp l1 l H1 (ns ++ [z]):=⟨⟨dx,hins1⟩,⟨us,e11,hlen,hres1⟩,by rw [na1,List.map_append]; rfl,rn.ne,rn.few⟩
  have hnl:(ns.map V.str ++ [V.str z]).length = ns.length + 1:=by simp
  refine ⟨_,rfl,rp,ARun,dx,_,_,rfl,hins1,clR,nN,fR_names _ _,_,_,rfl,.inl ⟨_,SqL.of na1,rfl⟩,_,rfl,rp,ARun,dx,_,_,rfl,hins1,clR,nF,fR_founds _ _,_,_,rfl,.inl ⟨_,SqL.of e11,rfl⟩,_,_,rfl,rfl,_,rfl,?_⟩
  by_cases hgt:fs.length < ns.length + 1
  · rw [show decide (((us.length:Nat):Int) < (((ns.map V.str ++ [V.str z]).length:Nat):Int)) = true from decide_eq_true (by rw [hnl]; omega)]
    refine iteT (q _ _ g rn1 ?_)
    unfold found
    rw [List.getElem?_eq_none (by omega)]
    rfl
  · rw [show decide (((us.length:Nat):Int) < (((ns.map V.str ++ [V.str z]).length:Nat):Int)) = false from decide_eq_false (by rw [hnl]; omega)]
    have hi:ns.length < us.length:=by omega
    have hi2:ns.length < fs.length:=by omega
    refine iteF ⟨_,rfl,rp,ARun,dx,_,_,rfl,hins1,clR,nF,fR_founds _ _,_,rfl,rp,ARun,dx,_,_,rfl,hins1,clR,nN,fR_names _ _,_,_,rfl,.inl ⟨_,SqL.of na1,rfl⟩,_,_,rfl,rfl,l1,us,_,us[ns.length],rfl,rfl,SqL.of e11,?_,q _ _ g rn1 ?_⟩
    · rw [hnl,show (((ns.length + 1:Nat):Int) - 1) = (ns.length:Int) by omega]
      exact atI_nat (List.getElem?_eq_getElem hi)
    · unfold found
      rw [List.getElem?_eq_getElem hi2]
      exact hres1 ns.length _ _ (List.getElem?_eq_getElem hi) (List.getElem?_eq_getElem hi2)
theorem sc_go_look:FnScope ["run","expression","bound","first"] ["run","expression","bound"] (defScope s_go_look):=⟨rfl,rfl,rfl,by decide +kernel,rfl,by decide +kernel,by decide +kernel⟩
theorem ok_go_look (F:Fun K "go_look" "go_look" s_go_look f fd) (G_Run_look:HaveM P w K mg base ARun "look" k ["self","name"] (spLook K ARun)) (G_worth_of:Have P w K mg base "worth_of" k ["record"] (spWorthOf K)) (G_is_made:Have P w K mg base "is_made" k ["record"] (spIsMade K)) (G_as_last:Have P w K mg base "as_last" k ["records"] (spAsLast K)) (G_record_of:Have P w K mg base "record_of" k ["run","expression","bound"] (spG K ARun n (fun _=>True))) (m_isi:mg "isinstance" = none) (m_str:mg "str" = none) {g_KIND:Addr} (m_KIND:mg "KIND" = some (.ref g_KIND)) (t_KIND:∀ H:Hp,SqT K H g_KIND [.str "wrong",.str "kind",.str ""]):FnOk P w K mg base CX0 (k + 1) f fd ["run","expression","bound"] (spG K ARun (n + 1) (fun x=>∃ a,x = .lookE a)):=by
  refine F.okQ sc_go_look (fun vs H Q E h=>?_) (fun cdv A outer s H vs Q E hr h=>?_)
  · obtain ⟨fs,rp,l1,l,u,bd,kvs,e,x,ns,rfl,_⟩:=h
    rfl
  obtain ⟨fs,rp,l1,l,u,bd,kvs,e,x,ns,rfl,rn,ru,hb,hk,he,hh,hf,⟨A1,rfl⟩,q⟩:=h
  rw [Ex.toW] at ru
  rw [Ex.high] at hh
  rw [Fine] at hf
  obtain ⟨a,vs,rfl,ea,hw⟩:=ru.tup
  obtain ⟨u0,us,rfl,r0,hw⟩:=hw.cons
  obtain ⟨u1,us,rfl,r1,hw⟩:=hw.cons
  cases hw.nil'
  refine ⟨_,(pss_cons (ps_set (i:=3) sc_go_look.nd rfl (Or.inl rfl) (pe_fn G_record_of hr rfl (pa_cons (pv 0) (pa_cons (pe_ix ix_tup (pv 1) pe_int (fun _ _=>rfl)) (pa_cons (pv 2) pa_nil)))))
    (pss_cons (ps_if (pt_not (pt_val (pe_fn G_is_made hr rfl (pa_cons (pv 3) pa_nil)))) (pss_one (ps_ret (pe_fn G_as_last hr rfl (pa_cons (pe_lst (pa_cons (pv 3) pa_nil)) pa_nil)))) pss_nil)
    (pss_cons (ps_if (pt_not (pt_val (pe_callB call_isi rfl m_isi boot_isi (pa_cons (pe_fn G_worth_of hr rfl (pa_cons (pv 3) pa_nil)) (pa_cons (pe_ty rfl m_str boot_strT) pa_nil))))) (pss_one (ps_ret (pe_tup (pa_cons (pe_glob (v:=.ref g_KIND) rfl m_KIND rfl) (pa_cons (pe_tup (pa_cons (pv 3) pa_nil)) pa_nil))))) pss_nil)
    (pss_one (ps_ret (pe_tup (pa_cons (pe_m G_Run_look hr (pv 0) (pa_cons (pe_fn G_worth_of hr rfl (pa_cons (pv 3) pa_nil)) pa_nil)) (pa_cons (pe_tup (pa_cons (pv 3) pa_nil)) pa_nil)))))))),?_⟩
  refine ⟨_,rfl,_,rfl,a,_,1,_,rfl,rfl,SqT.of ea,rfl,_,rfl,fs,rp,l1,l,u1,bd,kvs,e,A1,ns,rfl,rn,r1,hb,by omega,he,by omega,hf.1,trivial,fun v1 H1 g1 rn1 rr1=>?_⟩
  refine ⟨_,rfl,v1,(ev fs A1 e ns).1,rfl,rr1,_,rfl,?_⟩
  cases hm:(ev fs A1 e ns).1.res.isMade with
  | false=>
    refine iteT ⟨_,rfl,(by show 1≤sizeLine; decide),fun p hp=>?_⟩
    have s2:=Same.new (o:=.lst [v1]) hp
    rw [ev_lookN hm] at q
    exact ⟨p,[v1],[(ev fs A1 e ns).1],(ev fs A1 e ns).1,rfl,upd_same,RRs.one (rr1.mono s2),rfl,fun v H' s3 rr=>q v H' (g1.same (s2.trans s3)) (rn1.same (s2.trans s3)) rr⟩
  | true=>
    obtain ⟨x,hres⟩:=made_of hm
    have kindC:(∀ z,x≠.txt z)→∀ (p2 p3:Addr) (hp2:H1 p2 = none) (hp3:upd H1 p2 (.tup [v1]) p3 = none),Q (.ref p3) (upd (upd H1 p2 (.tup [v1])) p3 (.tup [.ref g_KIND,.ref p2])):=fun hx p2 p3 hp2 hp3=>by
      have s3:=Same.new (o:=.tup [v1]) hp2
      have s4:=Same.new (o:=.tup [.ref g_KIND,.ref p2]) hp3
      have s24:=s3.trans s4
      rw [ev_lookK hres hx] at q
      exact q _ _ (g1.same s24) (rn1.same s24) ((RRs.one (rr1.mono s24)).rr upd_same (show RS K _ _ _ from RS.three (t_KIND _) (.txt _) (.txt _) (.txt _)) (s4 _ _ upd_same))
    refine iteF ⟨_,rfl,v1,(ev fs A1 e ns).1,x,rfl,rr1,hres,fun ux rx=>⟨_,_,_,_,rfl,rx.tyW,isiS _,_,rfl,?_⟩⟩
    cases x with
    | num i=>exact iteT ⟨_,rfl,(by show 1≤sizeLine; decide),fun p2 hp2=>⟨(by show 2≤sizeLine; decide),fun p3 hp3=>kindC (fun z c=>nomatch c) p2 p3 hp2 hp3⟩⟩
    | lst ws=>exact iteT ⟨_,rfl,(by show 1≤sizeLine; decide),fun p2 hp2=>⟨(by show 2≤sizeLine; decide),fun p3 hp3=>kindC (fun z c=>nomatch c) p2 p3 hp2 hp3⟩⟩
    | txt z=>
      rw [ev_lookT hres] at q
      obtain ⟨dx,hins⟩:=rn1.ins
      refine iteF ⟨_,rfl,rp,dx,_,rfl,hins,fR_look _ _,_,rfl,v1,(ev fs A1 e ns).1,.txt z,rfl,rr1,hres,fun ux2 rx2=>?_⟩
      obtain rfl:=rx2.str
      refine ⟨fs,rp,l1,l,z,_,rfl,rn1,hf.2,fun v2 H2 g2 rn2 rres=>⟨_,rfl,(by show 1≤sizeLine; decide),fun p2 hp2=>⟨(by show 2≤sizeLine; decide),fun p3 hp3=>?_⟩⟩⟩
      have s3:=Same.new (o:=.tup [v1]) hp2
      have s4:=Same.new (o:=.tup [v2,.ref p2]) hp3
      have s24:=s3.trans s4
      exact q _ _ ((g1.trans g2).same s24) (rn2.same s24) ((RRs.one ((g2.rr rr1).mono s24)).rr upd_same (rres.mono s24) (s4 _ _ upd_same))
end
end D
set_option Elab.async false
set_option linter.all false
set_option maxRecDepth 100000
set_option maxHeartbeats 4000000
namespace L2
open PySem
def iSeq (K:PySem.W.Frag) (tl:TE):TI:=fun σ H R=>iList K tl σ H R∨iTup K tl σ H R
theorem pi_either {X:Cx}{tg l:Expr}{tl:TE} (hl:PE X l tl):PI X tg l (iSeq X.K tl):=fun pins s σ H R I h=>h.elim (fun h=>pi_list hl pins s σ H R I h) (fun h=>pi_tup hl pins s σ H R I h)
end L2
namespace L2
open PySem
theorem rd_bodyLP {K:PySem.W.Frag}{fr:List Nat}{te:TE}{σ:St}{H:Hp}{F:Addr→Hp→List V→Prop}{a:Addr}{vs:List V} (Pv:Nat→List V→Hp→Prop) (hS:SqL K H a vs) (hz:vs.length≤sizeLine) (h0:Pv 0 [] H) (hlen:∀ i us H1,Pv i us H1→us.length = i)
    (step:∀ (i:Nat) (v:V) (us:List V) (H1:Hp) (R:VK),vs[i]? = some v→Pv i us H1→Same H H1→(∀ y H2,Same H1 H2→Pv (i + 1) (us ++ [y]) H2→R y H2)→te (some v :: frees fr σ) H1 R)
    (fin:∀ (us:List V) (H1:Hp) (D:Addr),Pv vs.length us H1→Same H H1→H1 D = none→F D H1 us):
    ∃ W:Nat→Nat→List V→Hp→Prop,(∃ m,W 0 m [] H)∧∀ i m vs H,W i m vs H→vs.length≤sizeLine ∧
      (((Itl K a).stop i H∧∀ D,H D = none→F D H vs) ∨
       ((Itl K a).go i H∧∀ v H',(Itl K a).yld i H v H'→if true = true then te (some v :: frees fr σ) H' fun y H3=>∃ m',m' < m∧W (i + 1) m' (vs ++ [y]) H3 else ∃ m',m' < m∧W (i + 1) m' vs H')):=by
  refine ⟨fun i m us H1=>i≤vs.length∧m = vs.length - i∧Pv i us H1∧Same H H1,⟨_,Nat.zero_le _,rfl,h0,Same.refl _⟩,fun i m us H1 hW=>?_⟩
  obtain ⟨hi,hm,hu,sm⟩:=hW
  refine ⟨by rw [hlen _ _ _ hu]; omega,?_⟩
  by_cases hlt:i < vs.length
  · refine .inr ⟨⟨vs,vs[i],sm.seq hS,List.getElem?_eq_getElem hlt⟩,fun v H' hy=>?_⟩
    obtain ⟨rfl,hv⟩:=hy
    have hv:=hv vs (sm.seq hS)
    refine iteT ?_
    exact step i v us H' _ hv hu sm fun y H2 s2 p2=>⟨vs.length - (i + 1),by omega,by omega,rfl,p2,sm.trans s2⟩
  · have e:i = vs.length:=by omega
    subst e
    exact .inl ⟨⟨vs,sm.seq hS,by omega⟩,fun D hD=>fin us H1 D hu sm hD⟩
end L2
namespace D
open PySem L2
theorem pi_either {X:Cx}{tg l:Expr}{tl:TE} (hl:QE X l tl):QI X tg l (iSeq X.K tl):=⟨L2.pi_either hl.un⟩
theorem exWs_at:∀ (l:List Ex) (i:Nat),(exWs l)[i]? = (l[i]?).map Ex.toW
  | [],_=>by simp [exWs]
  | r :: l,0=>by simp [exWs]
  | r :: l,i + 1=>by simp only [exWs,List.getElem?_cons_succ]; exact exWs_at l i
theorem exWs_len:∀ l:List Ex,(exWs l).length = l.length
  | []=>by simp [exWs]
  | _ :: l=>by simp only [exWs,List.length_cons,exWs_len l]
theorem highs_mem {x:Ex}:∀ {es:List Ex},x∈es→x.high≤highs es
  | y :: ys,h=>by
    rw [highs]
    rcases List.mem_cons.mp h with rfl | h
    · omega
    · have:=highs_mem h; omega
theorem made_form (x:W):(∃ y,madeW x = .lst [.txt "made",y])∨∃ p q,madeW x = .lst [.txt "wrong",p,q]:=by
  unfold madeW
  split
  · exact .inl ⟨_,rfl⟩
  · exact .inr ⟨_,_,rfl⟩
theorem two_form {f:Int→Int→W} (hf:∀ a b,(∃ y,f a b = .lst [.txt "made",y])∨∃ p q,f a b = .lst [.txt "wrong",p,q]) (ws:List W):(∃ y,two f ws = .lst [.txt "made",y])∨∃ p q,two f ws = .lst [.txt "wrong",p,q]:=by
  unfold two
  split
  · rename_i a b
    exact hf a b
  · exact .inr ⟨.txt "kind",.txt "",rfl⟩
theorem rec_form (d:Wd) (ws:List W):(∃ y,recW d ws = .lst [.txt "made",y])∨∃ p q,recW d ws = .lst [.txt "wrong",p,q]:=by
  unfold recW
  split
  · exact two_form (fun _ _=>made_form _) _
  · exact two_form (fun _ _=>made_form _) _
  · exact two_form (fun _ _=>made_form _) _
  · refine two_form (fun _ _=>?_) _
    split
    · exact .inr ⟨.txt "nought",.txt "",rfl⟩
    · exact made_form _
  · exact two_form (fun _ _=>.inl ⟨_,rfl⟩) _
  · exact made_form _
  · exact .inr ⟨.txt "kind",.txt "",rfl⟩
  · exact .inl ⟨_,rfl⟩
  · exact .inr ⟨.txt "kind",.txt "",rfl⟩
  · exact made_form _
  · exact made_form _
  · exact .inr ⟨.txt "kind",.txt "",rfl⟩
  · exact made_form _
  · split
    · exact made_form _
    · exact .inr ⟨.txt "place",.txt "",rfl⟩
  · exact .inr ⟨.txt "kind",.txt "",rfl⟩
  · exact made_form _
  · exact made_form _
  · exact .inr ⟨.txt "kind",.txt "",rfl⟩
theorem RM.res {K:PySem.W.Frag}{H:Hp}{v:V}{w:W} (h:RM K H v w) (f:(∃ y,w = .lst [.txt "made",y])∨∃ p q,w = .lst [.txt "wrong",p,q]):RRes K H v (resOf w):=by
  rcases f with ⟨y,rfl⟩ | ⟨p,q,rfl⟩
  · exact h.2 _ _ rfl
  · exact h.1
theorem worth_made:∀ {r:R},r.res.isMade = true→r.res = .made r.worth
  | .mk (.made x) _,_=>rfl
  | .mk (.wrong _) _,h=>by cases h
  | .mk .stop _,h=>by cases h
theorem RRs.last {K:PySem.W.Frag}{H:Hp}{vs:List V}{rs:List R} (h:RRs K H vs rs) {r:R} (hr:rs.getLast? = some r):∃ v,vs[vs.length - 1]? = some v∧0 < vs.length∧RR K H v r:=by
  have hne:rs≠[]:=fun z=>by rw [z] at hr; cases hr
  have hn:0 < rs.length:=List.length_pos_iff.mpr hne
  have hl:=h.len
  have e1:vs[vs.length - 1]? = some vs[vs.length - 1]:=List.getElem?_eq_getElem (by omega)
  exact ⟨_,e1,by omega,h.at' _ _ _ e1 (by rw [hl,← List.getLast?_eq_getElem?]; exact hr)⟩
theorem lastR_of {l:List R}{r x:R} (h:l.getLast? = some r):lastR l x = r:=by unfold lastR; rw [h]; rfl
theorem Kb.seqL {K:PySem.W.Frag}{p a:Addr}{H H':Hp}{xs:List V} (e:Kb p H H') (ne:a≠p) (h:SqL K H a xs):SqL K H' a xs:=by
  rcases h with (h | ⟨o,h⟩) | h
  · exact .inl (.inl (e _ _ ne h))
  · exact .inl (.inr ⟨o,e _ _ ne h⟩)
  · exact .inr h
theorem Rn.keep {K:PySem.W.Frag}{AR rp l1 l p:Addr}{fs:List Res}{H H':Hp}{ns:Ns}{xs:List V} (r:Rn K AR fs rp l1 l H ns) (kb:Kb p H H') (ep:H p = some (.lst xs)) (n1:l1≠p) (n2:l≠p):Rn K AR fs rp l1 l H' ns:=by
  obtain ⟨dx,e1⟩:=r.ins
  obtain ⟨us,e2,e3,e4⟩:=r.fo
  exact ⟨⟨dx,kb _ _ (fun z=>by rw [z,ep] at e1; cases e1) e1⟩,⟨us,kb _ _ n1 e2,e3,fun i u r a b=>kb.res ep (e4 i u r a b)⟩,kb _ _ n2 r.na,r.ne,r.few⟩
theorem Rn.fresh {K:PySem.W.Frag}{AR rp l1 l p:Addr}{fs:List Res}{H:Hp}{ns:Ns} (r:Rn K AR fs rp l1 l H ns) (hp:H p = none):l1≠p∧l≠p:=by
  obtain ⟨us,e2,_⟩:=r.fo
  exact ⟨ne_of_none e2 hp,ne_of_none r.na hp⟩
section
variable {fs:List Res}{e:Env}
theorem evs_at (x:Ex) (xs:List Ex) (ns:Ns):evs fs (x :: xs) e ns = if (ev fs x e ns).1.res.isMade then ((ev fs x e ns).1 :: (evs fs xs e (ev fs x e ns).2).1,(evs fs xs e (ev fs x e ns).2).2) else ([(ev fs x e ns).1],(ev fs x e ns).2):=by rw [evs]
theorem evs_last:∀ {es:List Ex}{ns:Ns}{r:R},(evs fs es e ns).1.getLast? = some r→r.res.isMade = allMade (evs fs es e ns).1
  | [],ns,r,h=>by rw [evs] at h; cases h
  | x :: xs,ns,r,h=>by
    rw [evs] at h ⊢
    cases hx:(ev fs x e ns).1.res.isMade with
    | false=>
      rw [hx,if_neg (by decide)] at h
      rw [if_neg (by decide)]
      cases h
      simp [allMade,hx]
    | true=>
      rw [hx,if_pos rfl] at h
      rw [if_pos rfl]
      unfold allMade
      rw [List.all_cons,hx,Bool.true_and]
      cases hxs:(evs fs xs e (ev fs x e ns).2).1 with
      | nil=>
        have h:((ev fs x e ns).1 :: (evs fs xs e (ev fs x e ns).2).1).getLast? = some r:=h
        rw [hxs] at h
        cases h
        simpa using hx
      | cons y ys=>
        have h:((ev fs x e ns).1 :: (evs fs xs e (ev fs x e ns).2).1).getLast? = some r:=h
        rw [hxs,List.getLast?_cons_cons,← hxs] at h
        have:=evs_last h
        rw [hxs] at this
        exact this
theorem evs_le:∀ {es:List Ex}{ns:Ns},(evs fs es e ns).1.length≤es.length
  | [],ns=>by rw [evs]; exact Nat.le_refl _
  | x :: xs,ns=>by
    rw [evs]
    split
    · have:=evs_le (es:=xs) (ns:=(ev fs x e ns).2)
      simp only [List.length_cons]
      omega
    · simp
end
def spThru (K:PySem.W.Frag) (AR:Addr) (n:Nat):Sp:=fun vs H Q _=>∃ (fs:List Res) (rp l1 l la bd:Addr) (us:List V) (kvs:List (Key × V)) (e:Env) (es:List Ex) (ns:Ns),vs = [.ref rp,.ref la,.ref bd]∧Rn K AR fs rp l1 l H ns∧((SqL K H la us∧la≠l)∨SqT K H la us)∧RWs H us (exWs es)∧H bd = some (.dK kvs)∧kvs.length + 2 * n≤1000∧EnvR H kvs e∧highs es≤n∧Fines fs es e ns∧es.length≤100 ∧
  ∀ (p:Addr) (vs':List V) (H':Hp),H p = none→G l H H'→Rn K AR fs rp l1 l H' (evs fs es e ns).2→H' p = some (.lst vs')→RRs K H' vs' (evs fs es e ns).1→Q (.ref p) H'
section
variable {P:Program}{w:World}{K:PySem.W.Frag}{mg:Str→Option Value}{base:Heap}{f:Addr}{fd:FuncData}{k n:Nat}{ARun:Addr}
theorem sc_go_through:FnScope ["run","expressions","bound","records","expression"] ["run","expressions","bound"] (defScope s_go_through):=⟨rfl,rfl,rfl,by decide +kernel,rfl,by decide +kernel,by decide +kernel⟩
theorem ok_go_through (F:Fun K "go_through" "go_through" s_go_through f fd) (G_is_made:Have P w K mg base "is_made" k ["record"] (spIsMade K)) (G_record_of:Have P w K mg base "record_of" k ["run","expression","bound"] (spG K ARun n (fun _=>True))):FnOk P w K mg base CX0 (k + 1) f fd ["run","expressions","bound"] (spThru K ARun n):=by
  refine F.okQ sc_go_through (fun vs H Q E h=>?_) (fun cdv A outer s H vs Q E hr h=>?_)
  · obtain ⟨fs,rp,l1,l,la,bd,us,kvs,e,es,ns,rfl,_⟩:=h
    rfl
  obtain ⟨fs,rp,l1,l,la,bd,us,kvs,e,es,ns,rfl,rn,hl,hw,hb,hk,he,hh,hf,hn,q⟩:=h
  have hul:=hw.len
  rw [exWs_len] at hul
  refine ⟨_,(pss_cons (ps_set (i:=3) sc_go_through.nd rfl (Or.inl rfl) (pe_lst pa_nil))
    (pss_cons (ps_for PassesOwn.never rfl (pi_either (pv 1)) (pg_name (i:=4) sc_go_through.nd rfl (Or.inl rfl)) (pss_cons (ps_expr (pe_bm PySem.F.plainAttrs_list PySem.F.slot_list_append PySem.F.type_list_append mt_append (pv 3) (pa_cons (pe_fn G_record_of hr rfl (pa_cons (pv 0) (pa_cons (pv 4) (pa_cons (pv 2) pa_nil)))) pa_nil)))
    (pss_one (ps_if (pt_not (pt_val (pe_fn G_is_made hr rfl (pa_cons (pe_ix ix_list (pv 3) (pe_un un_neg pe_int) (fun _ _=>rfl)) pa_nil)))) (pss_one (ps_ret (pv 3))) pss_nil))))
    (pss_one (ps_ret (pv 3))))),?_⟩
  refine ⟨(by show 0≤sizeLine; decide),fun p hp=>?_⟩
  have sP:Same H (upd H p (.lst [])):=Same.new hp
  obtain ⟨n1,n2⟩:=rn.fresh hp
  rcases hl with ⟨hl,hla⟩ | hl
  · refine .inl ⟨_,rfl,la,rfl,⟨us,sP.seq hl⟩,for_list (xs:=us) (fun i σ' H'=>∃ (o:Option V) (vs':List V) (dn:List R) (nsi:Ns),σ' = [some (.ref rp),some (.ref la),some (.ref bd),some (.ref p),o]∧G l H H'∧Rn K ARun fs rp l1 l H' nsi∧H' p = some (.lst vs')∧RRs K H' vs' dn∧evs fs es e ns = (dn ++ (evs fs (es.drop i) e nsi).1,(evs fs (es.drop i) e nsi).2)∧Fines fs (es.drop i) e nsi∧dn.length = i)
      ⟨none,[],[],ns,rfl,rn.g sP,rn.same sP,upd_same,RRs.nil,rfl,hf,rfl⟩ (fun i σ' H' _ h=>?_) (fun i x σ' H' hx h=>?_) (fun σ' H' h=>?_)⟩
    · obtain ⟨o,vs',dn,nsi,_,g,_⟩:=h
      exact g.k.seqL hla hl
    · obtain ⟨o,vs',dn,nsi,rfl,g,rni,ep,rrs,hwk,hfi,hdl⟩:=h
      have hi:i < us.length:=(List.getElem?_eq_some_iff.mp hx).1
      have hie:i < es.length:=by omega
      have hy:es[i]? = some es[i]:=List.getElem?_eq_getElem hie
      have hw':RW H x (es[i]).toW:=hw.at' i x _ hx (by rw [exWs_at,hy]; rfl)
      have hhy:=highs_mem (List.mem_of_getElem? hy)
      have hvl:=rrs.len
      rw [List.drop_eq_getElem_cons hie,evs_at] at hwk
      rw [List.drop_eq_getElem_cons hie,Fines] at hfi
      refine ⟨_,rfl,.inl ⟨rfl,_,SqL.of ep⟩,_,rfl,_,rfl,_,rfl,fs,rp,l1,l,x,bd,kvs,e,es[i],nsi,rfl,rni,hw'.mono g.ts,g.d hb,hk,g.env he,by omega,hfi.1,trivial,fun v H2 g2 rn2 rr=>?_⟩
      have ep2:=g2.k p _ n2.symm ep
      refine ⟨p,vs',v,rfl,rfl,ep2,small1000 (by omega),?_⟩
      have kb:Kb p H2 (upd H2 p (.lst (vs' ++ [v]))):=Kb.put
      have rr3:=kb.rr ep2 rr
      have rrs3:=(kb.rrs ep2 (g2.rrs rrs)).snoc rr3
      have g3:G l H (upd H2 p (.lst (vs' ++ [v]))):=⟨fun c o hc ec=>by rw [upd_ne (ne_of_none ec hp)]; exact g2.k _ _ hc (g.k _ _ hc ec),g.l⟩
      have rn3:=rn2.keep kb ep2 n1 n2
      have ep3:upd H2 p (.lst (vs' ++ [v])) p = some (.lst (vs' ++ [v])):=upd_same
      generalize upd H2 p (.lst (vs' ++ [v])) = H3 at rr3 rrs3 g3 rn3 ep3
      refine ⟨_,rfl,_,rfl,p,vs' ++ [v],-1,v,rfl,rfl,SqL.of ep3,atI_last _ _,v,(ev fs es[i] e nsi).1,rfl,rr3,_,rfl,?_⟩
      cases hmd:(ev fs es[i] e nsi).1.res.isMade with
      | false=>
        rw [hmd,if_neg (by decide)] at hwk
        rw [hwk] at q
        exact iteT ⟨_,rfl,q p _ _ hp g3 rn3 ep3 rrs3⟩
      | true=>
        rw [hmd,if_pos rfl] at hwk
        exact iteF ⟨_,vs' ++ [v],dn ++ [(ev fs es[i] e nsi).1],_,rfl,g3,rn3,ep3,rrs3,by rw [hwk,List.append_assoc]; rfl,hfi.2 hmd,by simp [hdl]⟩
    · obtain ⟨o,vs',dn,nsi,rfl,g,rni,ep,rrs,hwk,hfi,hdl⟩:=h
      rw [hul,List.drop_length,evs,List.append_nil] at hwk
      rw [hwk] at q
      exact ⟨_,rfl,q p vs' _ hp g rni ep rrs⟩
  · refine .inr ⟨_,rfl,la,rfl,⟨us,sP.seqT hl⟩,for_tup (xs:=us) (fun i σ' H'=>∃ (o:Option V) (vs':List V) (dn:List R) (nsi:Ns),σ' = [some (.ref rp),some (.ref la),some (.ref bd),some (.ref p),o]∧G l H H'∧Rn K ARun fs rp l1 l H' nsi∧H' p = some (.lst vs')∧RRs K H' vs' dn∧evs fs es e ns = (dn ++ (evs fs (es.drop i) e nsi).1,(evs fs (es.drop i) e nsi).2)∧Fines fs (es.drop i) e nsi∧dn.length = i)
      ⟨none,[],[],ns,rfl,rn.g sP,rn.same sP,upd_same,RRs.nil,rfl,hf,rfl⟩ (fun i σ' H' _ h=>?_) (fun i x σ' H' hx h=>?_) (fun σ' H' h=>?_)⟩
    · obtain ⟨o,vs',dn,nsi,_,g,_⟩:=h
      exact g.sq hl
    · obtain ⟨o,vs',dn,nsi,rfl,g,rni,ep,rrs,hwk,hfi,hdl⟩:=h
      have hi:i < us.length:=(List.getElem?_eq_some_iff.mp hx).1
      have hie:i < es.length:=by omega
      have hy:es[i]? = some es[i]:=List.getElem?_eq_getElem hie
      have hw':RW H x (es[i]).toW:=hw.at' i x _ hx (by rw [exWs_at,hy]; rfl)
      have hhy:=highs_mem (List.mem_of_getElem? hy)
      have hvl:=rrs.len
      rw [List.drop_eq_getElem_cons hie,evs_at] at hwk
      rw [List.drop_eq_getElem_cons hie,Fines] at hfi
      refine ⟨_,rfl,.inl ⟨rfl,_,SqL.of ep⟩,_,rfl,_,rfl,_,rfl,fs,rp,l1,l,x,bd,kvs,e,es[i],nsi,rfl,rni,hw'.mono g.ts,g.d hb,hk,g.env he,by omega,hfi.1,trivial,fun v H2 g2 rn2 rr=>?_⟩
      have ep2:=g2.k p _ n2.symm ep
      refine ⟨p,vs',v,rfl,rfl,ep2,small1000 (by omega),?_⟩
      have kb:Kb p H2 (upd H2 p (.lst (vs' ++ [v]))):=Kb.put
      have rr3:=kb.rr ep2 rr
      have rrs3:=(kb.rrs ep2 (g2.rrs rrs)).snoc rr3
      have g3:G l H (upd H2 p (.lst (vs' ++ [v]))):=⟨fun c o hc ec=>by rw [upd_ne (ne_of_none ec hp)]; exact g2.k _ _ hc (g.k _ _ hc ec),g.l⟩
      have rn3:=rn2.keep kb ep2 n1 n2
      have ep3:upd H2 p (.lst (vs' ++ [v])) p = some (.lst (vs' ++ [v])):=upd_same
      generalize upd H2 p (.lst (vs' ++ [v])) = H3 at rr3 rrs3 g3 rn3 ep3
      refine ⟨_,rfl,_,rfl,p,vs' ++ [v],-1,v,rfl,rfl,SqL.of ep3,atI_last _ _,v,(ev fs es[i] e nsi).1,rfl,rr3,_,rfl,?_⟩
      cases hmd:(ev fs es[i] e nsi).1.res.isMade with
      | false=>
        rw [hmd,if_neg (by decide)] at hwk
        rw [hwk] at q
        exact iteT ⟨_,rfl,q p _ _ hp g3 rn3 ep3 rrs3⟩
      | true=>
        rw [hmd,if_pos rfl] at hwk
        exact iteF ⟨_,vs' ++ [v],dn ++ [(ev fs es[i] e nsi).1],_,rfl,g3,rn3,ep3,rrs3,by rw [hwk,List.append_assoc]; rfl,hfi.2 hmd,by simp [hdl]⟩
    · obtain ⟨o,vs',dn,nsi,rfl,g,rni,ep,rrs,hwk,hfi,hdl⟩:=h
      rw [hul,List.drop_length,evs,List.append_nil] at hwk
      rw [hwk] at q
      exact ⟨_,rfl,q p vs' _ hp g rni ep rrs⟩
theorem sc_go_reckoned:FnScope ["run","expression","bound","records"] ["run","expression","bound"] (defScope s_go_reckoned):=⟨rfl,rfl,rfl,by decide +kernel,rfl,by decide +kernel,by decide +kernel⟩
theorem ok_go_reckoned (F:Fun K "go_reckoned" "go_reckoned" s_go_reckoned f fd) (G_reckoned:Have P w K mg base "reckoned" k ["word","worths"] (spReck K)) (G_worth_of:Have P w K mg base "worth_of" k ["record"] (spWorthOf K)) (G_is_made:Have P w K mg base "is_made" k ["record"] (spIsMade K)) (G_as_last:Have P w K mg base "as_last" k ["records"] (spAsLast K)) (G_go_through:Have P w K mg base "go_through" k ["run","expressions","bound"] (spThru K ARun n)) (G_parts_of:Have P w K mg base "parts_of" k ["expression"] (spPartsOf)) (m_len:mg "len" = none) (m_tuple:mg "tuple" = none):FnOk P w K mg base CX0 (k + 1) f fd ["run","expression","bound"] (spG K ARun (n + 1) (fun x=>∃ d es,x = .reck d es)):=by
  refine F.okQ sc_go_reckoned (fun vs H Q E h=>?_) (fun cdv A outer s H vs Q E hr h=>?_)
  · obtain ⟨fs,rp,l1,l,u,bd,kvs,e,x,ns,rfl,_⟩:=h
    rfl
  obtain ⟨fs,rp,l1,l,u,bd,kvs,e,x,ns,rfl,rn,ru,hb,hk,he,hh,hf,⟨d,es,rfl⟩,q⟩:=h
  rw [Ex.toW] at ru
  rw [Ex.high] at hh
  rw [Fine] at hf
  obtain ⟨hlen,hfs,hok⟩:=hf
  obtain ⟨a,vs,rfl,ea,hw0⟩:=ru.tup
  obtain ⟨u0,us,rfl,r0,hw⟩:=hw0.cons
  obtain rfl:=r0.str
  have hul:=hw.len
  rw [exWs_len] at hul
  refine ⟨_,(pss_cons (ps_set (i:=3) sc_go_reckoned.nd rfl (Or.inl rfl) (pe_fn G_go_through hr rfl (pa_cons (pv 0) (pa_cons (pe_fn G_parts_of hr rfl (pa_cons (pv 1) pa_nil)) (pa_cons (pv 2) pa_nil)))))
    (pss_cons (ps_if (PW.pt (pw_and (pt_cmpR op_gt (pe_callB call_len rfl m_len PySem.boot_len (pa_cons (pv 3) pa_nil)) pe_int (nomark _)) (pw_and1 (pt_not (pt_val (pe_fn G_is_made hr rfl (pa_cons (pe_ix ix_list (pv 3) (pe_un un_neg pe_int) (fun _ _=>rfl)) pa_nil))))))) (pss_one (ps_ret (pe_fn G_as_last hr rfl (pa_cons (pv 3) pa_nil)))) pss_nil)
    (pss_one (ps_ret (pe_tup (pa_cons (pe_fn G_reckoned hr rfl (pa_cons (pe_ix ix_tup (pv 1) pe_int (fun _ _=>rfl)) (pa_cons (pe_lcomp [] [] rfl rfl (by decide +kernel) rfl (by decide +kernel) rfl (by decide +kernel) trivial rfl trivial (pi_list (pv 3)) (fun C s H fp=>⟨pifs_nil,(pe_fn G_worth_of hr rfl (pa_cons (pv 0) pa_nil))⟩)) pa_nil))) (pa_cons (pe_callTy call_tuple_of rfl m_tuple boot_tupleT (pa_cons (pv 3) pa_nil)) pa_nil))))))),?_⟩
  refine ⟨_,rfl,_,rfl,a,d,us,rfl,ea,by omega,fun la H1 s1 el hla=>⟨_,rfl,fs,rp,l1,l,la,bd,us,kvs,e,es,ns,rfl,rn.same s1,.inl ⟨SqL.of el,fun z=>ne_of_none rn.na hla z.symm⟩,hw.mono (same_tups s1),s1 _ _ hb,by omega,he.mono s1,by omega,hfs,hlen,fun p vs' H2 hp g2 rn2 ep rrs=>?_⟩⟩
  have g12:=(rn.g s1).trans g2
  have hvl:=rrs.len
  have hev:=evs_le (fs:=fs) (e:=e) (es:=es) (ns:=ns)
  refine ⟨_,rfl,_,_,rfl,.inl ⟨_,SqL.of ep,rfl⟩,_,_,rfl,rfl,_,rfl,?_⟩
  have good:allMade (evs fs es e ns).1 = true→tTup (tCons (tCall (spReck K) [] E0 (tCons (tOp (rIxT K) (tVar 1) (tC (.int 0))) (tCons (tLComp [] (iList K (tVar 3)) (fun _ H Q=>Q true H) (tCall (spWorthOf K) [] E0 (tCons (tVar 0) tNil))) tNil))) (tCons (tCB (fun xs H Q=>∃ p ys,xs = [.ref p]∧((SqL K H p ys∧∀ l,H l = none→Q (.ref l) (upd H l (.tup ys)))∨(SqT K H p ys∧Q (.ref p) H))) (tCons (tVar 3) tNil)) tNil))
      [some (.ref rp),some (.ref a),some (.ref bd),some (.ref p)] H2 Q:=fun hall=>by
    obtain ⟨ok,dep,l8,ar⟩:=hok hall
    refine ⟨_,rfl,a,_,0,_,rfl,rfl,SqT.of (g12.t ea),atI_nat (j:=0) rfl,_,rfl,p,rfl,⟨_,SqL.of ep⟩,?_⟩
    refine rd_bodyLP (K:=K) (vs:=vs') (fun i us H3=>us.length = i∧∀ (j:Nat) (y:V) (r:R),us[j]? = some y→(evs fs es e ns).1[j]? = some r→RW H3 y r.worth) (SqL.of ep) (Nat.le_of_lt (small1000 (by omega))) ⟨rfl,fun j y r h=>by simp at h⟩ (fun _ _ _ h=>h.1)
      (fun i v us H3 R hv hP sm r=>?_) (fun us H3 D hP sm hD=>?_)
    · have hi:=(List.getElem?_eq_some_iff.mp hv).1
      have hi':i < (evs fs es e ns).1.length:=by omega
      have er:(evs fs es e ns).1[i]? = some (evs fs es e ns).1[i]:=List.getElem?_eq_getElem hi'
      have hm:((evs fs es e ns).1[i]).res.isMade = true:=List.all_eq_true.mp hall _ (List.getElem_mem hi')
      refine ⟨_,rfl,v,(evs fs es e ns).1[i],_,rfl,(rrs.at' i v _ hv er).mono sm,worth_made hm,fun y ry=>?_⟩
      refine r y H3 (Same.refl _) ⟨by simp [hP.1],fun j z rj hz hrj=>?_⟩
      by_cases hj:j < us.length
      · rw [List.getElem?_append_left hj] at hz
        exact hP.2 j z rj hz hrj
      · have hlt:=(List.getElem?_eq_some_iff.mp hz).1
        have ej:j = us.length:=by simp at hlt; omega
        subst ej
        obtain rfl:y = z:=by simpa using hz
        rw [hP.1,er] at hrj
        cases hrj
        exact ry
    · have s3:=sm.trans (Same.new (o:=.lst us) hD)
      have hP1:us.length = vs'.length:=hP.1
      refine ⟨d,D,us,(evs fs es e ns).1.map R.worth,rfl,upd_same,⟨by rw [List.length_map]; omega,fun j y z hy hz=>?_⟩,ok,dep,by rw [List.length_map]; exact l8,by rw [List.length_map]; exact ar,fun uu H4 s4 rm=>?_⟩
      · rw [List.getElem?_map] at hz
        obtain ⟨r,hr,rfl⟩:=Option.map_eq_some_iff.mp hz
        exact (hP.2 j y r hy hr).mono (same_tups (Same.new (o:=.lst us) hD))
      · have s34:=s3.trans s4
        refine ⟨_,rfl,p,vs',rfl,.inl ⟨SqL.of (s34 _ _ ep),fun t ht=>⟨(by show 2≤sizeLine; decide),fun a2 ha2=>?_⟩⟩⟩
        have s5:=Same.new (o:=.tup vs') ht
        have s6:=Same.new (o:=.tup [uu,.ref t]) ha2
        have s56:=s5.trans s6
        have hE:ev fs (.reck d es) e ns = (.mk (resOf (recW d ((evs fs es e ns).1.map R.worth))) (evs fs es e ns).1,(evs fs es e ns).2):=by rw [ev,if_pos hall]
        rw [hE] at q
        exact q _ _ ((g12.same s34).same s56) ((rn2.same s34).same s56) ((rrs.mono (s34.trans s56)).rr upd_same ((rm.res (rec_form _ _)).mono s56) (s6 _ _ upd_same))
  cases hrs:(evs fs es e ns).1.getLast? with
  | none=>
    have hnil:(evs fs es e ns).1 = []:=List.getLast?_eq_none_iff.mp hrs
    have hv0:vs'.length = 0:=by rw [hvl,hnil]; rfl
    rw [show decide ((0:Int) < ((vs'.length:Nat):Int)) = false from decide_eq_false (by omega)]
    exact iteF (iteF (good (by rw [hnil]; rfl)))
  | some r=>
    obtain ⟨v,ev1,hpos,rr⟩:=rrs.last hrs
    rw [show decide ((0:Int) < ((vs'.length:Nat):Int)) = true from decide_eq_true (by omega)]
    refine iteT ⟨_,rfl,_,rfl,p,vs',-1,v,rfl,rfl,SqL.of ep,atI_lastV ev1 hpos,v,r,rfl,rr,_,rfl,?_⟩
    cases hm:r.res.isMade with
    | true=>
      refine iteF (good ?_)
      rw [← evs_last hrs]
      exact hm
    | false=>
      have hE:ev fs (.reck d es) e ns = (.mk r.res (evs fs es e ns).1,(evs fs es e ns).2):=by rw [ev,if_neg (by rw [← evs_last hrs,hm]; decide),lastR_of hrs]
      rw [hE] at q
      exact iteT ⟨_,rfl,p,vs',(evs fs es e ns).1,r,rfl,ep,rrs,hrs,fun v' H3 s3 rr3=>q _ _ (g12.same s3) (rn2.same s3) rr3⟩
end
end D
set_option Elab.async false
set_option linter.all false
set_option maxRecDepth 100000
set_option maxHeartbeats 4000000
namespace D
open PySem L2
def kindR:Res:=.wrong [.txt "kind",.txt ""]
def greatR:Res:=.wrong [.txt "great",.txt ""]
def endR (rs:List R) (r r0:R):Option R:=if r.res.isMade then (match r0.worth with
    | .lst ws=>if ws.length > 10 then some (.mk greatR rs) else none
    | _=>some (.mk kindR rs)) else some (.mk r.res rs)
def endV (K:PySem.W.Frag) (H:Hp) (v:V):Option R→Prop
  | some r=>RR K H v r
  | none=>v = .non
def spEnded (K:PySem.W.Frag):Sp:=fun vs H Q _=>∃ (l:Addr) (us:List V) (rs:List R) (r r0:R),vs = [.ref l]∧H l = some (.lst us)∧RRs K H us rs∧rs.getLast? = some r∧rs[0]? = some r0∧(r.res.isMade = true→r0.res.isMade = true) ∧
  ∀ (v:V) (H':Hp),Same H H'→endV K H' v (endR rs r r0)→Q v H'
section
variable {P:Program}{w:World}{K:PySem.W.Frag}{mg:Str→Option Value}{base:Heap}{f:Addr}{fd:FuncData}{k n:Nat}
theorem sc_ended_ahead:FnScope ["records","walked"] ["records"] (defScope s_ended_ahead):=⟨rfl,rfl,rfl,by decide +kernel,rfl,by decide +kernel,by decide +kernel⟩
theorem ok_ended_ahead (F:Fun K "ended_ahead" "ended_ahead" s_ended_ahead f fd) (G_worth_of:Have P w K mg base "worth_of" k ["record"] (spWorthOf K)) (G_is_made:Have P w K mg base "is_made" k ["record"] (spIsMade K)) (G_as_last:Have P w K mg base "as_last" k ["records"] (spAsLast K)) (m_isi:mg "isinstance" = none) (m_len:mg "len" = none) (m_tuple:mg "tuple" = none) {g_KIND:Addr} (m_KIND:mg "KIND" = some (.ref g_KIND)) (t_KIND:∀ H:Hp,SqT K H g_KIND [.str "wrong",.str "kind",.str ""]) (m_MOST_WALKED:∃ t,mg "MOST_WALKED" = some (.int 10 t)) {g_GREAT:Addr} (m_GREAT:mg "GREAT" = some (.ref g_GREAT)) (t_GREAT:∀ H:Hp,SqT K H g_GREAT [.str "wrong",.str "great",.str ""]):FnOk P w K mg base CX0 (k + 1) f fd ["records"] (spEnded K):=by
  refine F.okQ sc_ended_ahead (fun vs H Q E h=>?_) (fun cdv A outer s H vs Q E hr h=>?_)
  · obtain ⟨l,us,rs,r,r0,rfl,_⟩:=h
    rfl
  obtain ⟨l,us,rs,r,r0,rfl,el,rrs,hlast,h0,hmm,q⟩:=h
  refine ⟨_,(pss_cons (ps_if (pt_not (pt_val (pe_fn G_is_made hr rfl (pa_cons (pe_ix ix_list (pv 0) (pe_un un_neg pe_int) (fun _ _=>rfl)) pa_nil)))) (pss_one (ps_ret (pe_fn G_as_last hr rfl (pa_cons (pv 0) pa_nil)))) pss_nil)
    (pss_cons (ps_set (i:=1) sc_ended_ahead.nd rfl (Or.inl rfl) (pe_fn G_worth_of hr rfl (pa_cons (pe_ix ix_list (pv 0) pe_int (fun _ _=>rfl)) pa_nil)))
    (pss_cons (ps_if (pt_not (pt_val (pe_callB call_isi rfl m_isi boot_isi (pa_cons (pv 1) (pa_cons (pe_ty rfl m_tuple boot_tupleT) pa_nil))))) (pss_one (ps_ret (pe_tup (pa_cons (pe_glob (v:=.ref g_KIND) rfl m_KIND rfl) (pa_cons (pe_callTy call_tuple_of rfl m_tuple boot_tupleT (pa_cons (pv 0) pa_nil)) pa_nil))))) pss_nil)
    (pss_one (ps_ret (pe_ifExp (pt_cmpR op_gt (pe_callB call_len rfl m_len PySem.boot_len (pa_cons (pv 1) pa_nil)) (pe_globI rfl m_MOST_WALKED) (nomark _)) (pe_tup (pa_cons (pe_glob (v:=.ref g_GREAT) rfl m_GREAT rfl) (pa_cons (pe_callTy call_tuple_of rfl m_tuple boot_tupleT (pa_cons (pv 0) pa_nil)) pa_nil))) pe_non)))))),?_⟩
  obtain ⟨v,e1,hpos,rr⟩:=rrs.last hlast
  have e0:us[0]? = some us[0]:=List.getElem?_eq_getElem hpos
  have rr0:=rrs.at' 0 _ _ e0 h0
  refine ⟨_,rfl,_,rfl,l,us,-1,v,rfl,rfl,SqL.of el,atI_lastV e1 hpos,v,r,rfl,rr,_,rfl,?_⟩
  cases hm:r.res.isMade with
  | false=>
    refine iteT ⟨_,rfl,l,us,rs,r,rfl,el,rrs,hlast,fun v' H' s' rr'=>q v' H' s' ?_⟩
    unfold endR
    rw [hm,if_neg (by decide)]
    exact rr'
  | true=>
    refine iteF ⟨_,rfl,l,us,0,us[0],rfl,rfl,SqL.of el,atI_nat (j:=0) e0,us[0],r0,r0.worth,rfl,rr0,worth_made (hmm hm),fun y ry=>?_⟩
    have fin:∀ (res:Res) (rv:V) (t a:Addr) (H':Hp),Same H H'→H' a = some (.tup [rv,.ref t])→H' t = some (.tup us)→RRes K H' rv res→RR K H' (.ref a) (.mk res rs):=fun res rv t a H' s' ea et rres=>(rrs.mono s').rr ea rres et
    refine ⟨_,rfl,_,_,_,_,rfl,ry.tyW,isiT _,_,rfl,?_⟩
    have eR:endR rs r r0 = (match r0.worth with
        | .lst ws=>if ws.length > 10 then some (.mk greatR rs) else none
        | _=>some (.mk kindR rs)):=by unfold endR; rw [hm,if_pos rfl]
    rw [eR] at q
    cases hx:r0.worth with
    | num i=>
      rw [hx] at q
      refine iteT ⟨_,rfl,l,us,rfl,.inl ⟨SqL.of el,fun t ht=>⟨(by show 2≤sizeLine; decide),fun a ha=>?_⟩⟩⟩
      have s2:=(Same.new (o:=.tup us) ht).trans (Same.new (o:=.tup [.ref g_KIND,.ref t]) ha)
      exact q _ _ s2 (fin kindR _ t a _ s2 upd_same (Same.new ha _ _ upd_same) (show RS K _ _ _ from RS.three (t_KIND _) (.txt _) (.txt _) (.txt _)))
    | txt z=>
      rw [hx] at q
      refine iteT ⟨_,rfl,l,us,rfl,.inl ⟨SqL.of el,fun t ht=>⟨(by show 2≤sizeLine; decide),fun a ha=>?_⟩⟩⟩
      have s2:=(Same.new (o:=.tup us) ht).trans (Same.new (o:=.tup [.ref g_KIND,.ref t]) ha)
      exact q _ _ s2 (fin kindR _ t a _ s2 upd_same (Same.new ha _ _ upd_same) (show RS K _ _ _ from RS.three (t_KIND _) (.txt _) (.txt _) (.txt _)))
    | lst ws=>
      rw [hx] at q ry
      obtain ⟨b,ys,rfl,eb,hw⟩:=ry.tup
      have hwl:=hw.len
      refine iteF ⟨_,rfl,_,_,rfl,.inr ⟨_,SqT.of eb,rfl⟩,_,_,rfl,rfl,_,rfl,?_⟩
      by_cases hgt:ws.length > 10
      · rw [show decide ((10:Int) < ((ys.length:Nat):Int)) = true from decide_eq_true (by omega)]
        refine iteT ⟨_,rfl,l,us,rfl,.inl ⟨SqL.of el,fun t ht=>⟨(by show 2≤sizeLine; decide),fun a ha=>?_⟩⟩⟩
        have s2:=(Same.new (o:=.tup us) ht).trans (Same.new (o:=.tup [.ref g_GREAT,.ref t]) ha)
        dsimp only at q
        rw [if_pos hgt] at q
        exact q _ _ s2 (fin greatR _ t a _ s2 upd_same (Same.new ha _ _ upd_same) (show RS K _ _ _ from RS.three (t_GREAT _) (.txt _) (.txt _) (.txt _)))
      · rw [show decide ((10:Int) < ((ys.length:Nat):Int)) = false from decide_eq_false (by omega)]
        refine iteF ?_
        dsimp only at q
        rw [if_neg hgt] at q
        exact q _ _ (Same.refl _) rfl
end
theorem cut_drop1 (vs:List V) (h:1≤vs.length):cutV vs (some 1) none = vs.drop 1:=by
  show (vs.drop (HT.sIx vs.length 0 (some ((1:Nat):Int)))).take (vs.length - HT.sIx vs.length 0 (some ((1:Nat):Int))) = _
  rw [HT.sIx_nat,Nat.min_eq_left h,List.take_of_length_le (by rw [List.length_drop]; omega)]
theorem RRs.tail {K:PySem.W.Frag}{H:Hp}{vs:List V}{r:R}{rs:List R} (h:RRs K H vs (r :: rs)):∃ v us,vs = v :: us∧RR K H v r∧RRs K H us rs:=by
  match vs,h.len with
  | v :: us,l=>exact ⟨v,us,rfl,h.at' 0 _ _ rfl rfl,by simpa using l,fun i w x a b=>h.at' (i + 1) w x a b⟩
section
variable {fs:List Res}{e:Env}{ns:Ns}
theorem evs_one (a:Ex):evs fs [a] e ns = ([(ev fs a e ns).1],(ev fs a e ns).2):=by
  rw [evs]
  split
  · rw [evs]
  · rfl
theorem walk1_at (g:W→Ns→R × Ns) {w:W}{ws:List W}{ns:Ns}:walk1 g (w :: ws) ns = if (g w ns).1.res.isMade then ((g w ns).1 :: (walk1 g ws (g w ns).2).1,(walk1 g ws (g w ns).2).2) else ([(g w ns).1],(g w ns).2):=by rw [walk1]
theorem walk2_at (g:W→W→Ns→R × Ns) {w:W}{ws:List W}{y:W}{ns:Ns}:walk2 g (w :: ws) y ns = if (g w y ns).1.res.isMade then ((g w y ns).1 :: (walk2 g ws (g w y ns).1.worth (g w y ns).2).1,(walk2 g ws (g w y ns).1.worth (g w y ns).2).2) else ([(g w y ns).1],(g w y ns).2):=by rw [walk2]
theorem worth_of_res {r:R}{x:W} (h:r.res = .made x):r.worth = x:=by
  have:=worth_made (r:=r) (by rw [h]; rfl)
  rw [h] at this
  exact (Res.made.inj this).symm
theorem end_ev {s:Str}{a b:Ex}{r:R} (h:endR [(ev fs a e ns).1] (ev fs a e ns).1 (ev fs a e ns).1 = some r):ev fs (.eachE s a b) e ns = (r,(ev fs a e ns).2):=by
  unfold endR at h
  rw [ev]
  cases hr:(ev fs a e ns).1.res with
  | wrong ws=>
    rw [hr,show (Res.wrong ws).isMade = false from rfl,if_neg (by decide)] at h
    exact congrArg (·,(ev fs a e ns).2) (Option.some.inj h)
  | stop=>
    rw [hr,show Res.stop.isMade = false from rfl,if_neg (by decide)] at h
    exact congrArg (·,(ev fs a e ns).2) (Option.some.inj h)
  | made x=>
    have hw:=worth_of_res hr
    rw [hr,show (Res.made x).isMade = true from rfl,if_pos rfl,hw] at h
    cases x with
    | num i=>exact congrArg (·,(ev fs a e ns).2) (Option.some.inj h)
    | txt z=>exact congrArg (·,(ev fs a e ns).2) (Option.some.inj h)
    | lst ws=>
      dsimp only at h ⊢
      by_cases hg:ws.length > 10
      · rw [if_pos hg] at h ⊢
        exact congrArg (·,(ev fs a e ns).2) (Option.some.inj h)
      · rw [if_neg hg] at h
        cases h
theorem each_C {s:Str}{a b:Ex}{ws:List W} (h:(ev fs a e ns).1.res = .made (.lst ws)) (hl:ws.length≤10):ev fs (.eachE s a b) e ns = if allMade (walk1 (fun w m=>ev fs b (put e s w) m) ws (ev fs a e ns).2).1 then (.mk (resOf (madeW (.lst ((walk1 (fun w m=>ev fs b (put e s w) m) ws (ev fs a e ns).2).1.map R.worth)))) ((ev fs a e ns).1 :: (walk1 (fun w m=>ev fs b (put e s w) m) ws (ev fs a e ns).2).1),(walk1 (fun w m=>ev fs b (put e s w) m) ws (ev fs a e ns).2).2)
        else (.mk (lastR (walk1 (fun w m=>ev fs b (put e s w) m) ws (ev fs a e ns).2).1 (ev fs a e ns).1).res ((ev fs a e ns).1 :: (walk1 (fun w m=>ev fs b (put e s w) m) ws (ev fs a e ns).2).1),(walk1 (fun w m=>ev fs b (put e s w) m) ws (ev fs a e ns).2).2):=by
  rw [ev,h]
  dsimp only
  rw [if_neg (by omega)]
end
theorem end_none {rs:List R}{r r0:R} (h:endR rs r r0 = none):r.res.isMade = true∧∃ ws,r0.worth = .lst ws∧ws.length≤10:=by
  unfold endR at h
  cases hm:r.res.isMade with
  | false=>rw [hm,if_neg (by decide)] at h; cases h
  | true=>
    rw [hm,if_pos rfl] at h
    refine ⟨rfl,?_⟩
    cases hx:r0.worth with
    | num i=>rw [hx] at h; cases h
    | txt z=>rw [hx] at h; cases h
    | lst ws=>
      rw [hx] at h
      dsimp only at h
      by_cases hg:ws.length > 10
      · rw [if_pos hg] at h; cases h
      · exact ⟨ws,rfl,by omega⟩
theorem RR.ne_non {K:PySem.W.Frag}{H:Hp}{v:V}{r:R} (h:RR K H v r):(!decide (v = V.non)) = true:=by
  obtain ⟨a,b,rv,rfl,_⟩:=h.res
  rfl
theorem worths_rw {K:PySem.W.Frag}{H:Hp}{us:List V}{rs:List R} (h:us.length = rs.length) (g:∀ (j:Nat) (y:V) (r:R),us[j]? = some y→rs[j]? = some r→RW H y r.worth):RWs H us (rs.map R.worth):=
  ⟨by rw [List.length_map]; exact h,fun j y z hy hz=>by
    rw [List.getElem?_map] at hz
    obtain ⟨r,hr,rfl⟩:=Option.map_eq_some_iff.mp hz
    exact g j y r hy hr⟩
section
variable {P:Program}{w:World}{K:PySem.W.Frag}{mg:Str→Option Value}{base:Heap}{f:Addr}{fd:FuncData}{k n:Nat}{ARun:Addr}
theorem sc_go_each:FnScope ["run","expression","bound","records","ended","walked","item"] ["run","expression","bound"] (defScope s_go_each):=⟨rfl,rfl,rfl,by decide +kernel,rfl,by decide +kernel,by decide +kernel⟩
theorem ok_go_each (F:Fun K "go_each" "go_each" s_go_each f fd) (G_made:Have P w K mg base "made" k ["thing"] (spMade K 24)) (G_worth_of:Have P w K mg base "worth_of" k ["record"] (spWorthOf K)) (G_is_made:Have P w K mg base "is_made" k ["record"] (spIsMade K)) (G_as_last:Have P w K mg base "as_last" k ["records"] (spAsLast K)) (G_record_of:Have P w K mg base "record_of" k ["run","expression","bound"] (spG K ARun n (fun _=>True))) (G_binding:Have P w K mg base "binding" k ["bound","name","worth"] (spBind)) (G_ended_ahead:Have P w K mg base "ended_ahead" k ["records"] (spEnded K)) (G_go_through:Have P w K mg base "go_through" k ["run","expressions","bound"] (spThru K ARun n)) (m_tuple:mg "tuple" = none):FnOk P w K mg base CX0 (k + 1) f fd ["run","expression","bound"] (spG K ARun (n + 1) (fun x=>∃ s a b,x = .eachE s a b)):=by
  refine F.okQ sc_go_each (fun vs H Q E h=>?_) (fun cdv A outer s H vs Q E hr h=>?_)
  · obtain ⟨fs,rp,l1,l,u,bd,kvs,e,x,ns,rfl,_⟩:=h
    rfl
  obtain ⟨fs,rp,l1,l,u,bd,kvs,e,x,ns,rfl,rn,ru,hb,hk,he,hh,hf,⟨z,A1,B1,rfl⟩,q⟩:=h
  rw [Ex.toW] at ru
  rw [Ex.high] at hh
  rw [Fine] at hf
  obtain ⟨a,vs,rfl,ea,hw0⟩:=ru.tup
  obtain ⟨u0,us,rfl,r0,hw1⟩:=hw0.cons
  obtain ⟨u1,us,rfl,r1,hw2⟩:=hw1.cons
  obtain ⟨u2,us,rfl,r2,hw3⟩:=hw2.cons
  obtain ⟨u3,us,rfl,r3,hw4⟩:=hw3.cons
  obtain rfl:=hw4.nil'
  obtain rfl:=r1.str
  refine ⟨_,(pss_cons (ps_set (i:=3) sc_go_each.nd rfl (Or.inl rfl) (pe_fn G_go_through hr rfl (pa_cons (pv 0) (pa_cons (pe_slice sl_tup (pv 1) (po_some pe_int) (po_some pe_int)) (pa_cons (pv 2) pa_nil)))))
    (pss_cons (ps_set (i:=4) sc_go_each.nd rfl (Or.inl rfl) (pe_fn G_ended_ahead hr rfl (pa_cons (pv 3) pa_nil)))
    (pss_cons (ps_if (pt_cmp (pc_notN (pv 4))) (pss_one (ps_ret (pv 4))) pss_nil)
    (pss_cons (ps_set (i:=5) sc_go_each.nd rfl (Or.inl rfl) (pe_fn G_worth_of hr rfl (pa_cons (pe_ix ix_list (pv 3) pe_int (fun _ _=>rfl)) pa_nil)))
    (pss_cons (ps_for PassesOwn.never rfl (pi_tup (pv 5)) (pg_name (i:=6) sc_go_each.nd rfl (Or.inl rfl)) (pss_cons (ps_expr (pe_bm PySem.F.plainAttrs_list PySem.F.slot_list_append PySem.F.type_list_append mt_append (pv 3) (pa_cons (pe_fn G_record_of hr rfl (pa_cons (pv 0) (pa_cons (pe_ix ix_tup (pv 1) pe_int (fun _ _=>rfl)) (pa_cons (pe_fn G_binding hr rfl (pa_cons (pv 2) (pa_cons (pe_ix ix_tup (pv 1) pe_int (fun _ _=>rfl)) (pa_cons (pv 6) pa_nil)))) pa_nil)))) pa_nil)))
    (pss_one (ps_if (pt_not (pt_val (pe_fn G_is_made hr rfl (pa_cons (pe_ix ix_list (pv 3) (pe_un un_neg pe_int) (fun _ _=>rfl)) pa_nil)))) (pss_one (ps_ret (pe_fn G_as_last hr rfl (pa_cons (pv 3) pa_nil)))) pss_nil))))
    (pss_one (ps_ret (pe_tup (pa_cons (pe_fn G_made hr rfl (pa_cons (pe_callTy call_tuple_of rfl m_tuple boot_tupleT (pa_cons (pe_lcomp [] [] rfl rfl (by decide +kernel) rfl (by decide +kernel) rfl (by decide +kernel) trivial rfl trivial (pi_list (pe_slice sl_list (pv 3) (po_some pe_int) po_none)) (fun C s H fp=>⟨pifs_nil,(pe_fn G_worth_of hr rfl (pa_cons (pv 0) pa_nil))⟩)) pa_nil)) pa_nil)) (pa_cons (pe_callTy call_tuple_of rfl m_tuple boot_tupleT (pa_cons (pv 3) pa_nil)) pa_nil)))))))))),?_⟩
  refine ⟨_,rfl,_,rfl,_,rfl,_,rfl,a,_,rfl,SqT.of ea,(fun z=>absurd (show (2:Nat) = 0 from z.1) (by decide)),fun p hp=>?_⟩
  have s1:=Same.new (o:=.tup (cutV [u0,.str z,u2,u3] (some 2) (some 3))) hp
  have ep1:upd H p (.tup (cutV [u0,.str z,u2,u3] (some 2) (some 3))) p = some (.tup [u2]):=upd_same
  generalize upd H p (.tup (cutV [u0,.str z,u2,u3] (some 2) (some 3))) = H1 at s1 ep1
  refine ⟨_,rfl,fs,rp,l1,l,p,bd,[u2],kvs,e,[A1],ns,rfl,rn.same s1,.inr (SqT.of ep1),⟨rfl,fun i v w hv hw=>?_⟩,s1 _ _ hb,by omega,he.mono s1,?_,?_,(by show 1≤100; decide),fun p2 vs' H2 hp2 g2 rn2 ep rrs=>?_⟩
  · match i,hv,hw with
    | 0,hv,hw=>
      obtain rfl:u2 = v:=by simpa using hv
      obtain rfl:A1.toW = w:=by simpa [exWs] using hw
      exact r2.mono (same_tups s1)
    | j + 1,hv,hw=>simp at hv
  · simp only [highs]
    omega
  · simp only [Fines]
    exact ⟨hf.1,fun _=>trivial⟩
  rw [evs_one] at rrs rn2
  have hp20:H p2 = none:=s1.free hp2
  obtain ⟨np1,np2⟩:=rn.fresh hp20
  have g12:=(rn.g s1).trans g2
  refine ⟨_,rfl,p2,vs',[(ev fs A1 e ns).1],(ev fs A1 e ns).1,(ev fs A1 e ns).1,rfl,ep,rrs,rfl,rfl,id,fun v H3 s3 hend=>?_⟩
  have g13:=g12.same s3
  have rn3:=rn2.same s3
  cases hE:endR [(ev fs A1 e ns).1] (ev fs A1 e ns).1 (ev fs A1 e ns).1 with
  | some r=>
    rw [hE] at hend
    have hend:RR K H3 v r:=hend
    refine ⟨_,rfl,_,rfl,?_⟩
    rw [hend.ne_non]
    rw [end_ev hE] at q
    exact iteT ⟨_,rfl,q v H3 g13 rn3 hend⟩
  | none=>
    rw [hE] at hend
    obtain rfl:v = .non:=hend
    obtain ⟨hm,ws,hws,hl10⟩:=end_none hE
    have hres:(ev fs A1 e ns).1.res = .made (.lst ws):=by rw [worth_made hm,hws]
    obtain ⟨hfb,hth,hdp⟩:=hf.2 ws hres
    rw [each_C hres hl10] at q
    refine ⟨_,rfl,_,rfl,iteF ?_⟩
    have ep3:=s3 _ _ ep
    have rrs3:=rrs.mono s3
    obtain ⟨v0,us0,rfl,rr0,rn0⟩:=rrs3.tail
    refine ⟨_,rfl,p2,_,0,v0,rfl,rfl,SqL.of ep3,atI_nat (j:=0) rfl,v0,(ev fs A1 e ns).1,.lst ws,rfl,rr0,hres,fun y ry=>?_⟩
    obtain ⟨t,ys,rfl,et,hy⟩:=ry.tup
    have hyl:=hy.len
    refine ⟨_,rfl,t,rfl,⟨_,SqT.of et⟩,for_tup (xs:=ys) (fun i σ' H'=>∃ (o6:Option V) (vs2:List V) (dn:List R) (nsi:Ns),σ' = [some (.ref rp),some (.ref a),some (.ref bd),some (.ref p2),some .non,some (.ref t),o6]∧G l H H'∧Rn K ARun fs rp l1 l H' nsi∧SqT K H' t ys∧RWs H' ys ws∧H' p2 = some (.lst vs2)∧RRs K H' vs2 ((ev fs A1 e ns).1 :: dn)∧(∀ r∈dn,r.res.isMade = true) ∧
        walk1 (fun w m=>ev fs B1 (put e z w) m) ws (ev fs A1 e ns).2 = (dn ++ (walk1 (fun w m=>ev fs B1 (put e z w) m) (ws.drop i) nsi).1,(walk1 (fun w m=>ev fs B1 (put e z w) m) (ws.drop i) nsi).2)∧along1 (fun w m=>ev fs B1 (put e z w) m) (fun w m=>Fine fs B1 (put e z w) m) (ws.drop i) nsi∧dn.length = i)
      ⟨none,_,[],_,rfl,g13,rn3,SqT.of et,hy,ep3,rrs3,fun r h=>by simp at h,rfl,hfb,rfl⟩ (fun i σ' H' _ h=>?_) (fun i x σ' H' hx h=>?_) (fun σ' H' h=>?_)⟩
    · obtain ⟨_,_,_,_,_,_,_,sq,_⟩:=h
      exact sq
    · obtain ⟨o6,vs2,dn,nsi,rfl,g,rni,sq,hyw,ep4,rr4,hdn,hwk,hal,hdl⟩:=h
      have hi:i < ys.length:=(List.getElem?_eq_some_iff.mp hx).1
      have hiw:i < ws.length:=by omega
      have hwi:ws[i]? = some ws[i]:=List.getElem?_eq_getElem hiw
      have rx:=hyw.at' i x _ hx hwi
      have hrl:=rr4.len
      rw [List.length_cons] at hrl
      rw [List.drop_eq_getElem_cons hiw,walk1_at] at hwk
      rw [List.drop_eq_getElem_cons hiw,along1] at hal
      refine ⟨_,rfl,.inl ⟨rfl,_,SqL.of ep4⟩,_,rfl,_,rfl,a,_,3,_,rfl,rfl,SqT.of (g.t ea),rfl,_,rfl,_,rfl,a,_,1,_,rfl,rfl,SqT.of (g.t ea),rfl,_,rfl,bd,z,x,kvs,rfl,g.d hb,by omega,fun pb H5 s5 hpb=>?_⟩
      have hlp:=length_putK kvs (.inr z) x
      have g5:=g.same s5
      refine ⟨fs,rp,l1,l,u3,pb,_,put e z ws[i],B1,nsi,rfl,rni.same s5,r3.mono g5.ts,hpb,by omega,(g5.env he).put (rx.mono (same_tups s5)),by omega,hal.1,trivial,fun v6 H6 g6 rn6 rr6=>?_⟩
      have g56:=(rni.g s5).trans g6
      have ep6:=g6.k p2 _ np2.symm (s5 _ _ ep4)
      refine ⟨p2,vs2,v6,rfl,rfl,ep6,small1000 (by omega),?_⟩
      have kb:Kb p2 H6 (upd H6 p2 (.lst (vs2 ++ [v6]))):=Kb.put
      have rr7:=kb.rr ep6 rr6
      have rrs7:=(kb.rrs ep6 (g56.rrs rr4)).snoc rr7
      have g7:G l H (upd H6 p2 (.lst (vs2 ++ [v6]))):=⟨fun c o hc ec=>by rw [upd_ne (ne_of_none ec hp20)]; exact g56.k _ _ hc (g.k _ _ hc ec),g.l⟩
      have rn7:=rn6.keep kb ep6 np1 np2
      have sq7:SqT K (upd H6 p2 (.lst (vs2 ++ [v6]))) t ys:=kb.seqT ep6 (g56.sq sq)
      have hyw7:RWs (upd H6 p2 (.lst (vs2 ++ [v6]))) ys ws:=⟨hyw.len,fun j v w a b=>((hyw.at' j v w a b).mono g56.ts).mono (kb.tups ep6)⟩
      have ep7:upd H6 p2 (.lst (vs2 ++ [v6])) p2 = some (.lst (vs2 ++ [v6])):=upd_same
      generalize upd H6 p2 (.lst (vs2 ++ [v6])) = H7 at rr7 rrs7 g7 rn7 sq7 hyw7 ep7
      refine ⟨_,rfl,_,rfl,p2,vs2 ++ [v6],-1,v6,rfl,rfl,SqL.of ep7,atI_last _ _,v6,(ev fs B1 (put e z ws[i]) nsi).1,rfl,rr7,_,rfl,?_⟩
      cases hmd:(ev fs B1 (put e z ws[i]) nsi).1.res.isMade with
      | false=>
        rw [hmd,if_neg (by decide)] at hwk
        rw [hwk,if_neg (by simp [allMade,hmd]),show lastR (dn ++ [(ev fs B1 (put e z ws[i]) nsi).1]) (ev fs A1 e ns).1 = (ev fs B1 (put e z ws[i]) nsi).1 from lastR_of (by simp)] at q
        exact iteT ⟨_,rfl,p2,vs2 ++ [v6],(ev fs A1 e ns).1 :: dn ++ [(ev fs B1 (put e z ws[i]) nsi).1],(ev fs B1 (put e z ws[i]) nsi).1,rfl,ep7,rrs7,List.getLast?_concat,fun v8 H8 s8 rr8=>q _ _ (g7.same s8) (rn7.same s8) rr8⟩
      | true=>
        rw [hmd,if_pos rfl] at hwk
        refine iteF ⟨_,vs2 ++ [v6],dn ++ [(ev fs B1 (put e z ws[i]) nsi).1],_,rfl,g7,rn7,sq7,hyw7,ep7,rrs7,fun r hr=>?_,by rw [hwk,List.append_assoc]; rfl,hal.2 hmd,by simp [hdl]⟩
        rcases List.mem_append.mp hr with hr | hr
        · exact hdn r hr
        · rw [List.mem_singleton.mp hr]; exact hmd
    · obtain ⟨o6,vs2,dn,nsi,rfl,g,rni,sq,hyw,ep4,rr4,hdn,hwk,hal,hdl⟩:=h
      rw [hyl,List.drop_length,walk1,List.append_nil] at hwk
      have hrl:=rr4.len
      rw [List.length_cons] at hrl
      have hall:allMade dn = true:=List.all_eq_true.mpr hdn
      rw [hwk] at hth hdp
      have hdp:depths (dn.map R.worth)≤12:=hdp
      rw [hwk,if_pos hall] at q
      obtain ⟨v9,us9,rfl,rr9,rrn⟩:=rr4.tail
      refine ⟨_,rfl,_,rfl,p2,_,rfl,SqL.of ep4,fun p5 hp5=>?_⟩
      have s5:=Same.new (o:=.lst (cutV (v9 :: us9) (some 1) none)) hp5
      have ep5:upd H' p5 (.lst (cutV (v9 :: us9) (some 1) none)) p5 = some (.lst us9):=by rw [upd_same,cut_drop1 _ (by simp)]; rfl
      generalize upd H' p5 (.lst (cutV (v9 :: us9) (some 1) none)) = H5 at s5 ep5
      have rr5:=rrn.mono s5
      have hl9:=rrn.len
      refine ⟨p5,rfl,⟨_,SqL.of ep5⟩,?_⟩
      refine rd_bodyLP (K:=K) (vs:=us9) (fun i us H6=>us.length = i∧∀ (j:Nat) (y:V) (r:R),us[j]? = some y→dn[j]? = some r→RW H6 y r.worth) (SqL.of ep5) (Nat.le_of_lt (small1000 (by omega))) ⟨rfl,fun j y r h=>by simp at h⟩ (fun _ _ _ h=>h.1)
        (fun i v us H6 R hv hP sm6 r=>?_) (fun us H6 D hP sm6 hD=>?_)
      · have hi:=(List.getElem?_eq_some_iff.mp hv).1
        have hi':i < dn.length:=by omega
        have er:dn[i]? = some dn[i]:=List.getElem?_eq_getElem hi'
        refine ⟨_,rfl,v,dn[i],_,rfl,(rr5.at' i v _ hv er).mono sm6,worth_made (hdn _ (List.getElem_mem hi')),fun y ry=>?_⟩
        refine r y H6 (Same.refl _) ⟨by simp [hP.1],fun j zz rj hz hrj=>?_⟩
        by_cases hj:j < us.length
        · rw [List.getElem?_append_left hj] at hz
          exact hP.2 j zz rj hz hrj
        · have hlt:=(List.getElem?_eq_some_iff.mp hz).1
          have ej:j = us.length:=by simp at hlt; omega
          subst ej
          obtain rfl:y = zz:=by simpa using hz
          rw [hP.1,er] at hrj
          cases hrj
          exact ry
      · have s7:=Same.new (o:=.lst us) hD
        have hP1:us.length = us9.length:=hP.1
        refine ⟨D,us,rfl,.inl ⟨SqL.of upd_same,fun t3 ht3=>?_⟩⟩
        have s8:=Same.new (o:=.tup us) ht3
        have s78:=s7.trans s8
        have rws:RWs (upd (upd H6 D (.lst us)) t3 (.tup us)) us (dn.map R.worth):=worths_rw (K:=K) (by omega) fun j y r a b=>(hP.2 j y r a b).mono (same_tups s78)
        refine ⟨.ref t3,.lst (dn.map R.worth),rfl,.lst upd_same rws.len rws.at',⟨?_,hth⟩,?_,fun uu H9 s9 rm=>?_⟩
        · rw [List.length_map]
          omega
        · simp only [W.depth]
          omega
        · have s69:=(sm6.trans s78).trans s9
          have s49:=s5.trans s69
          refine ⟨_,rfl,p2,_,rfl,.inl ⟨SqL.of (s49 _ _ ep4),fun t5 ht5=>⟨(by show 2≤sizeLine; decide),fun a5 ha5=>?_⟩⟩⟩
          have s10:=(Same.new (o:=.tup (v9 :: us9)) ht5).trans (Same.new (o:=.tup [uu,.ref t5]) ha5)
          exact q _ _ ((g.same s49).same s10) ((rni.same s49).same s10) ((rr4.mono (s49.trans s10)).rr upd_same ((rm.res (made_form _)).mono s10) (Same.new ha5 _ _ upd_same))
end
end D
set_option Elab.async false
set_option linter.all false
set_option maxRecDepth 100000
set_option maxHeartbeats 4000000
namespace D
open PySem L2
section
variable {fs:List Res}{e:Env}{ns:Ns}{s t:Str}{a b c:Ex}
theorem evs_two:evs fs [a,b] e ns = if (ev fs a e ns).1.res.isMade then ([(ev fs a e ns).1,(ev fs b e (ev fs a e ns).2).1],(ev fs b e (ev fs a e ns).2).2) else ([(ev fs a e ns).1],(ev fs a e ns).2):=by
  rw [evs_at,evs_one]
theorem over_A (h:(ev fs a e ns).1.res.isMade = false):ev fs (.overE s t a b c) e ns = (.mk (ev fs a e ns).1.res [(ev fs a e ns).1],(ev fs a e ns).2):=by
  rw [ev]
  cases hr:(ev fs a e ns).1.res with
  | wrong ws=>rfl
  | stop=>rfl
  | made x=>rw [hr] at h; cases h
theorem over_B {r:R} (hA:(ev fs a e ns).1.res.isMade = true) (h:endR [(ev fs a e ns).1,(ev fs b e (ev fs a e ns).2).1] (ev fs b e (ev fs a e ns).2).1 (ev fs a e ns).1 = some r):ev fs (.overE s t a b c) e ns = (r,(ev fs b e (ev fs a e ns).2).2):=by
  unfold endR at h
  rw [ev]
  cases hr:(ev fs a e ns).1.res with
  | wrong ws=>rw [hr] at hA; cases hA
  | stop=>rw [hr] at hA; cases hA
  | made x=>
    dsimp only
    cases hb:(ev fs b e (ev fs a e ns).2).1.res with
    | wrong ws=>
      rw [hb,show (Res.wrong ws).isMade = false from rfl,if_neg (by decide)] at h
      exact congrArg (·,(ev fs b e (ev fs a e ns).2).2) (Option.some.inj h)
    | stop=>
      rw [hb,show Res.stop.isMade = false from rfl,if_neg (by decide)] at h
      exact congrArg (·,(ev fs b e (ev fs a e ns).2).2) (Option.some.inj h)
    | made y=>
      rw [hb,show (Res.made y).isMade = true from rfl,if_pos rfl,worth_of_res hr] at h
      cases x with
      | num i=>exact congrArg (·,(ev fs b e (ev fs a e ns).2).2) (Option.some.inj h)
      | txt z=>exact congrArg (·,(ev fs b e (ev fs a e ns).2).2) (Option.some.inj h)
      | lst ws=>
        dsimp only at h ⊢
        by_cases hg:ws.length > 10
        · rw [if_pos hg] at h ⊢
          exact congrArg (·,(ev fs b e (ev fs a e ns).2).2) (Option.some.inj h)
        · rw [if_neg hg] at h
          cases h
theorem over_C {ws:List W}{y:W} (hA:(ev fs a e ns).1.res = .made (.lst ws)) (hB:(ev fs b e (ev fs a e ns).2).1.res = .made y) (hl:ws.length≤10):
    ev fs (.overE s t a b c) e ns = (.mk (lastR (walk2 (fun w y m=>ev fs c (put (put e s w) t y) m) ws y (ev fs b e (ev fs a e ns).2).2).1 (ev fs b e (ev fs a e ns).2).1).res ((ev fs a e ns).1 :: (ev fs b e (ev fs a e ns).2).1 :: (walk2 (fun w y m=>ev fs c (put (put e s w) t y) m) ws y (ev fs b e (ev fs a e ns).2).2).1),(walk2 (fun w y m=>ev fs c (put (put e s w) t y) m) ws y (ev fs b e (ev fs a e ns).2).2).2):=by
  rw [ev,hA]
  dsimp only
  rw [hB]
  dsimp only
  rw [if_neg (by omega)]
end
theorem last_cons2 {a b:R}{dn:List R}:(a :: b :: dn).getLast? = some (lastR dn b):=by
  unfold lastR
  cases dn with
  | nil=>rfl
  | cons x xs=>
    rw [List.getLast?_cons_cons,List.getLast?_cons_cons]
    cases h:(x :: xs).getLast? with
    | none=>simp at h
    | some r=>rfl
theorem lastR_snoc {dn:List R}{r b:R}:lastR (dn ++ [r]) b = r:=lastR_of List.getLast?_concat
section
variable {P:Program}{w:World}{K:PySem.W.Frag}{mg:Str→Option Value}{base:Heap}{f:Addr}{fd:FuncData}{k n:Nat}{ARun:Addr}
theorem sc_go_over:FnScope ["run","expression","bound","records","ended","walked","item","inner"] ["run","expression","bound"] (defScope s_go_over):=⟨rfl,rfl,rfl,by decide +kernel,rfl,by decide +kernel,by decide +kernel⟩
theorem ok_go_over (F:Fun K "go_over" "go_over" s_go_over f fd) (G_as_last:Have P w K mg base "as_last" k ["records"] (spAsLast K)) (G_is_made:Have P w K mg base "is_made" k ["record"] (spIsMade K)) (G_record_of:Have P w K mg base "record_of" k ["run","expression","bound"] (spG K ARun n (fun _=>True))) (G_binding:Have P w K mg base "binding" k ["bound","name","worth"] (spBind)) (G_worth_of:Have P w K mg base "worth_of" k ["record"] (spWorthOf K)) (G_ended_ahead:Have P w K mg base "ended_ahead" k ["records"] (spEnded K)) (G_go_through:Have P w K mg base "go_through" k ["run","expressions","bound"] (spThru K ARun n)):FnOk P w K mg base CX0 (k + 1) f fd ["run","expression","bound"] (spG K ARun (n + 1) (fun x=>∃ s t a b c,x = .overE s t a b c)):=by
  refine F.okQ sc_go_over (fun vs H Q E h=>?_) (fun cdv A outer s H vs Q E hr h=>?_)
  · obtain ⟨fs,rp,l1,l,u,bd,kvs,e,x,ns,rfl,_⟩:=h
    rfl
  obtain ⟨fs,rp,l1,l,u,bd,kvs,e,x,ns,rfl,rn,ru,hb,hk,he,hh,hf,⟨z,tt,A1,B1,C1,rfl⟩,q⟩:=h
  rw [Ex.toW] at ru
  rw [Ex.high] at hh
  rw [Fine] at hf
  obtain ⟨a,vs,rfl,ea,hw0⟩:=ru.tup
  obtain ⟨u0,us,rfl,r0,hw1⟩:=hw0.cons
  obtain ⟨u1,us,rfl,r1,hw2⟩:=hw1.cons
  obtain ⟨u2,us,rfl,r2,hw3⟩:=hw2.cons
  obtain ⟨u3,us,rfl,r3,hw4⟩:=hw3.cons
  obtain ⟨u4,us,rfl,r4,hw5⟩:=hw4.cons
  obtain ⟨u5,us,rfl,r5,hw6⟩:=hw5.cons
  obtain rfl:=hw6.nil'
  obtain rfl:=r1.str
  obtain rfl:=r2.str
  refine ⟨_,(pss_cons (ps_set (i:=3) sc_go_over.nd rfl (Or.inl rfl) (pe_fn G_go_through hr rfl (pa_cons (pv 0) (pa_cons (pe_slice sl_tup (pv 1) (po_some pe_int) (po_some pe_int)) (pa_cons (pv 2) pa_nil)))))
    (pss_cons (ps_set (i:=4) sc_go_over.nd rfl (Or.inl rfl) (pe_fn G_ended_ahead hr rfl (pa_cons (pv 3) pa_nil)))
    (pss_cons (ps_if (pt_cmp (pc_notN (pv 4))) (pss_one (ps_ret (pv 4))) pss_nil)
    (pss_cons (ps_set (i:=5) sc_go_over.nd rfl (Or.inl rfl) (pe_fn G_worth_of hr rfl (pa_cons (pe_ix ix_list (pv 3) pe_int (fun _ _=>rfl)) pa_nil)))
    (pss_cons (ps_for PassesOwn.never rfl (pi_tup (pv 5)) (pg_name (i:=6) sc_go_over.nd rfl (Or.inl rfl)) (pss_cons (ps_set (i:=7) sc_go_over.nd rfl (Or.inl rfl) (pe_fn G_binding hr rfl (pa_cons (pe_fn G_binding hr rfl (pa_cons (pv 2) (pa_cons (pe_ix ix_tup (pv 1) pe_int (fun _ _=>rfl)) (pa_cons (pv 6) pa_nil)))) (pa_cons (pe_ix ix_tup (pv 1) pe_int (fun _ _=>rfl)) (pa_cons (pe_fn G_worth_of hr rfl (pa_cons (pe_ix ix_list (pv 3) (pe_un un_neg pe_int) (fun _ _=>rfl)) pa_nil)) pa_nil)))))
    (pss_cons (ps_expr (pe_bm PySem.F.plainAttrs_list PySem.F.slot_list_append PySem.F.type_list_append mt_append (pv 3) (pa_cons (pe_fn G_record_of hr rfl (pa_cons (pv 0) (pa_cons (pe_ix ix_tup (pv 1) pe_int (fun _ _=>rfl)) (pa_cons (pv 7) pa_nil)))) pa_nil)))
    (pss_one (ps_if (pt_not (pt_val (pe_fn G_is_made hr rfl (pa_cons (pe_ix ix_list (pv 3) (pe_un un_neg pe_int) (fun _ _=>rfl)) pa_nil)))) (pss_one (ps_ret (pe_fn G_as_last hr rfl (pa_cons (pv 3) pa_nil)))) pss_nil)))))
    (pss_one (ps_ret (pe_fn G_as_last hr rfl (pa_cons (pv 3) pa_nil))))))))),?_⟩
  refine ⟨_,rfl,_,rfl,_,rfl,_,rfl,a,_,rfl,SqT.of ea,(fun z=>absurd (show (3:Nat) = 0 from z.1) (by decide)),fun p hp=>?_⟩
  have s1:=Same.new (o:=.tup (cutV [u0,.str z,.str tt,u3,u4,u5] (some 3) (some 5))) hp
  have ep1:upd H p (.tup (cutV [u0,.str z,.str tt,u3,u4,u5] (some 3) (some 5))) p = some (.tup [u3,u4]):=upd_same
  generalize upd H p (.tup (cutV [u0,.str z,.str tt,u3,u4,u5] (some 3) (some 5))) = H1 at s1 ep1
  refine ⟨_,rfl,fs,rp,l1,l,p,bd,[u3,u4],kvs,e,[A1,B1],ns,rfl,rn.same s1,.inr (SqT.of ep1),⟨rfl,fun i v w hv hw=>?_⟩,s1 _ _ hb,by omega,he.mono s1,?_,?_,(by show 2≤100; decide),fun p2 vs' H2 hp2 g2 rn2 ep rrs=>?_⟩
  · match i,hv,hw with
    | 0,hv,hw=>
      obtain rfl:u3 = v:=by simpa using hv
      obtain rfl:A1.toW = w:=by simpa [exWs] using hw
      exact r3.mono (same_tups s1)
    | 1,hv,hw=>
      obtain rfl:u4 = v:=by simpa using hv
      obtain rfl:B1.toW = w:=by simpa [exWs] using hw
      exact r4.mono (same_tups s1)
    | j + 2,hv,hw=>simp at hv
  · simp only [highs]
    omega
  · simp only [Fines]
    exact ⟨hf.1,fun hm=>let ⟨x,hx⟩:=made_of hm; ⟨hf.2.1 x hx,fun _=>trivial⟩⟩
  rw [evs_two] at rrs rn2
  have hp20:H p2 = none:=s1.free hp2
  obtain ⟨np1,np2⟩:=rn.fresh hp20
  have g12:=(rn.g s1).trans g2
  cases hmA:(ev fs A1 e ns).1.res.isMade with
  | false=>
    rw [hmA,if_neg (by decide)] at rrs rn2
    refine ⟨_,rfl,p2,vs',[(ev fs A1 e ns).1],(ev fs A1 e ns).1,(ev fs A1 e ns).1,rfl,ep,rrs,rfl,rfl,id,fun v H3 s3 hend=>?_⟩
    have hend:RR K H3 v (.mk (ev fs A1 e ns).1.res [(ev fs A1 e ns).1]):=by
      unfold endR at hend
      rw [hmA,if_neg (by decide)] at hend
      exact hend
    refine ⟨_,rfl,_,rfl,?_⟩
    rw [hend.ne_non]
    rw [over_A hmA] at q
    exact iteT ⟨_,rfl,q v H3 (g12.same s3) (rn2.same s3) hend⟩
  | true=>
    rw [hmA,if_pos rfl] at rrs rn2
    refine ⟨_,rfl,p2,vs',[(ev fs A1 e ns).1,(ev fs B1 e (ev fs A1 e ns).2).1],(ev fs B1 e (ev fs A1 e ns).2).1,(ev fs A1 e ns).1,rfl,ep,rrs,rfl,rfl,fun _=>hmA,fun v H3 s3 hend=>?_⟩
    have g13:=g12.same s3
    have rn3:=rn2.same s3
    cases hE:endR [(ev fs A1 e ns).1,(ev fs B1 e (ev fs A1 e ns).2).1] (ev fs B1 e (ev fs A1 e ns).2).1 (ev fs A1 e ns).1 with
    | some r=>
      rw [hE] at hend
      have hend:RR K H3 v r:=hend
      refine ⟨_,rfl,_,rfl,?_⟩
      rw [hend.ne_non]
      rw [over_B hmA hE] at q
      exact iteT ⟨_,rfl,q v H3 g13 rn3 hend⟩
    | none=>
      rw [hE] at hend
      obtain rfl:v = .non:=hend
      obtain ⟨hmB,ws,hws,hl10⟩:=end_none hE
      have hres:(ev fs A1 e ns).1.res = .made (.lst ws):=by rw [worth_made hmA,hws]
      have hresB:(ev fs B1 e (ev fs A1 e ns).2).1.res = .made (ev fs B1 e (ev fs A1 e ns).2).1.worth:=worth_made hmB
      have hal:=hf.2.2 _ _ hres hresB
      rw [over_C hres hresB hl10] at q
      refine ⟨_,rfl,_,rfl,iteF ?_⟩
      have ep3:=s3 _ _ ep
      have rrs3:=rrs.mono s3
      generalize (ev fs B1 e (ev fs A1 e ns).2).2 = nsB at q hal rn3
      generalize (ev fs B1 e (ev fs A1 e ns).2).1 = rB at q hal hresB rrs3
      obtain ⟨v0,us0,rfl,rr0,rn0⟩:=rrs3.tail
      refine ⟨_,rfl,p2,_,0,v0,rfl,rfl,SqL.of ep3,atI_nat (j:=0) rfl,v0,(ev fs A1 e ns).1,.lst ws,rfl,rr0,hres,fun y ry=>?_⟩
      obtain ⟨t,ys,rfl,et,hy⟩:=ry.tup
      have hyl:=hy.len
      refine ⟨_,rfl,t,rfl,⟨_,SqT.of et⟩,for_tup (xs:=ys) (fun i σ' H'=>∃ (o6 o7:Option V) (vs2:List V) (dn:List R) (yi:W) (nsi:Ns),σ' = [some (.ref rp),some (.ref a),some (.ref bd),some (.ref p2),some .non,some (.ref t),o6,o7]∧G l H H'∧Rn K ARun fs rp l1 l H' nsi∧SqT K H' t ys∧RWs H' ys ws∧H' p2 = some (.lst vs2)∧RRs K H' vs2 ((ev fs A1 e ns).1 :: rB :: dn) ∧
          (lastR dn rB).res = .made yi∧walk2 (fun w y m=>ev fs C1 (put (put e z w) tt y) m) ws rB.worth nsB = (dn ++ (walk2 (fun w y m=>ev fs C1 (put (put e z w) tt y) m) (ws.drop i) yi nsi).1,(walk2 (fun w y m=>ev fs C1 (put (put e z w) tt y) m) (ws.drop i) yi nsi).2)∧dn.length = i∧along2 (fun w y m=>ev fs C1 (put (put e z w) tt y) m) (fun w y m=>Fine fs C1 (put (put e z w) tt y) m) (ws.drop i) yi nsi)
        ⟨none,none,_,[],rB.worth,nsB,rfl,g13,rn3,SqT.of et,hy,ep3,rrs3,hresB,rfl,rfl,hal⟩ (fun i σ' H' _ h=>?_) (fun i x σ' H' hx h=>?_) (fun σ' H' h=>?_)⟩
      · obtain ⟨_,_,_,_,_,_,_,_,_,sq,_⟩:=h
        exact sq
      · obtain ⟨o6,o7,vs2,dn,yi,nsi,rfl,g,rni,sq,hyw,ep4,rr4,hyi,hwk,hdl,hal⟩:=h
        have hi:i < ys.length:=(List.getElem?_eq_some_iff.mp hx).1
        have hiw:i < ws.length:=by omega
        have hwi:ws[i]? = some ws[i]:=List.getElem?_eq_getElem hiw
        have rx:=hyw.at' i x _ hx hwi
        have hrl:=rr4.len
        rw [List.length_cons,List.length_cons] at hrl
        rw [List.drop_eq_getElem_cons hiw,along2] at hal
        rw [List.drop_eq_getElem_cons hiw,walk2_at] at hwk
        obtain ⟨vl,hvl,hpos,rrl⟩:=rr4.last last_cons2
        refine ⟨_,rfl,_,rfl,a,_,1,_,rfl,rfl,SqT.of (g.t ea),rfl,_,rfl,bd,z,x,kvs,rfl,g.d hb,by omega,fun pb H5 s5 hpb=>?_⟩
        have hlp:=length_putK kvs (.inr z) x
        have g5:=g.same s5
        refine ⟨_,rfl,a,_,2,_,rfl,rfl,SqT.of (g5.t ea),rfl,_,rfl,_,rfl,p2,vs2,-1,vl,rfl,rfl,SqL.of (s5 _ _ ep4),atI_lastV hvl hpos,vl,lastR dn rB,yi,rfl,rrl.mono s5,hyi,fun uy ruy=>?_⟩
        refine ⟨pb,tt,uy,_,rfl,hpb,by omega,fun pc H6 s6 hpc=>?_⟩
        have hlp2:=length_putK (putK kvs (.inr z) x) (.inr tt) uy
        have s56:=s5.trans s6
        have g6:=g.same s56
        refine ⟨_,rfl,.inl ⟨rfl,_,SqL.of (s56 _ _ ep4)⟩,_,rfl,_,rfl,a,_,5,_,rfl,rfl,SqT.of (g6.t ea),rfl,_,rfl,fs,rp,l1,l,u5,pc,_,put (put e z ws[i]) tt yi,C1,nsi,rfl,rni.same s56,r5.mono g6.ts,hpc,by omega,?_,by omega,hal.1,trivial,fun v7 H7 g7 rn7 rr7=>?_⟩
        · exact ((((g5.env he).put (rx.mono (same_tups s5))).mono s6)).put (ruy.mono (same_tups s6))
        have g57:=(rni.g s56).trans g7
        have ep7':=g7.k p2 _ np2.symm (s56 _ _ ep4)
        refine ⟨p2,vs2,v7,rfl,rfl,ep7',small1000 (by omega),?_⟩
        have kb:Kb p2 H7 (upd H7 p2 (.lst (vs2 ++ [v7]))):=Kb.put
        have rr8:=kb.rr ep7' rr7
        have rrs8:=(kb.rrs ep7' (g57.rrs rr4)).snoc rr8
        have g8:G l H (upd H7 p2 (.lst (vs2 ++ [v7]))):=⟨fun c o hc ec=>by rw [upd_ne (ne_of_none ec hp20)]; exact g57.k _ _ hc (g.k _ _ hc ec),g.l⟩
        have rn8:=rn7.keep kb ep7' np1 np2
        have sq8:SqT K (upd H7 p2 (.lst (vs2 ++ [v7]))) t ys:=kb.seqT ep7' (g57.sq sq)
        have hyw8:RWs (upd H7 p2 (.lst (vs2 ++ [v7]))) ys ws:=⟨hyw.len,fun j v w a b=>((hyw.at' j v w a b).mono g57.ts).mono (kb.tups ep7')⟩
        have ep8:upd H7 p2 (.lst (vs2 ++ [v7])) p2 = some (.lst (vs2 ++ [v7])):=upd_same
        generalize upd H7 p2 (.lst (vs2 ++ [v7])) = H8 at rr8 rrs8 g8 rn8 sq8 hyw8 ep8
        refine ⟨_,rfl,_,rfl,p2,vs2 ++ [v7],-1,v7,rfl,rfl,SqL.of ep8,atI_last _ _,v7,(ev fs C1 (put (put e z ws[i]) tt yi) nsi).1,rfl,rr8,_,rfl,?_⟩
        cases hmd:(ev fs C1 (put (put e z ws[i]) tt yi) nsi).1.res.isMade with
        | false=>
          rw [hmd,if_neg (by decide)] at hwk
          rw [hwk,lastR_snoc] at q
          exact iteT ⟨_,rfl,p2,vs2 ++ [v7],(ev fs A1 e ns).1 :: rB :: dn ++ [(ev fs C1 (put (put e z ws[i]) tt yi) nsi).1],(ev fs C1 (put (put e z ws[i]) tt yi) nsi).1,rfl,ep8,rrs8,List.getLast?_concat,fun v9 H9 s9 rr9=>q _ _ (g8.same s9) (rn8.same s9) rr9⟩
        | true=>
          rw [hmd,if_pos rfl] at hwk
          exact iteF ⟨_,_,vs2 ++ [v7],dn ++ [(ev fs C1 (put (put e z ws[i]) tt yi) nsi).1],(ev fs C1 (put (put e z ws[i]) tt yi) nsi).1.worth,_,rfl,g8,rn8,sq8,hyw8,ep8,rrs8,by rw [lastR_snoc]; exact worth_made hmd,by rw [hwk,List.append_assoc]; rfl,by simp [hdl],hal.2 hmd⟩
      · obtain ⟨o6,o7,vs2,dn,yi,nsi,rfl,g,rni,sq,hyw,ep4,rr4,hyi,hwk,hdl,hal⟩:=h
        rw [hyl,List.drop_length,walk2,List.append_nil] at hwk
        rw [hwk] at q
        exact ⟨_,rfl,p2,vs2,(ev fs A1 e ns).1 :: rB :: dn,lastR dn rB,rfl,ep4,rr4,last_cons2,fun v9 H9 s9 rr9=>q _ _ (g.same s9) (rni.same s9) rr9⟩
end
end D
set_option Elab.async false
set_option linter.all false
set_option maxRecDepth 100000
set_option maxHeartbeats 4000000
namespace D
open PySem L2
def kvsG (f1 f2 f3 f4 f5 f6 f7 f8 f9:Addr):List (Key × V):=[(.inr "lit",.ref f1),(.inr "var",.ref f2),(.inr "let",.ref f3),(.inr "if",.ref f4),(.inr "each",.ref f5),(.inr "over",.ref f6),(.inr "look",.ref f7),(.inr "else",.ref f8),(.inr "cry",.ref f9)]
def e0:Env:=fun _=>none
def spRunI (K:PySem.W.Frag) (AR:Addr):Sp:=fun vs H Q _=>∃ (p dx fl:Addr) (us:List V),vs = [.ref p,.ref fl]∧H p = some (.ins AR dx [])∧SqL K H fl us∧∀ l1 l2:Addr,H l1 = none→H l2 = none→l1≠l2→∀ H':Hp,H' p = some (.ins AR dx (fR l1 l2))→H' l1 = some (.lst us)→H' l2 = some (.lst [])→(∀ c o,c≠p→H c = some o→H' c = some o)→Q .non H'
def spGone (K:PySem.W.Frag):Sp:=fun vs H Q _=>∃ (u:V) (fl:Addr) (us:List V) (fs:List Res) (x:Ex),vs = [u,.ref fl]∧RW H u x.toW∧SqL K H fl us∧us.length = fs.length∧fs.length≤1000∧(∀ (i:Nat) (v:V) (r:Res),us[i]? = some v→fs[i]? = some r→RRes K H v r)∧x.high≤30∧Fine fs x e0 [] ∧
  ((ev fs x e0 []).1.res = .stop→∀ (a l:Addr) (H':Hp),Same H H'→H l = none→H' a = some (.tup [.str "look",.ref l])→H' l = some (.lst ((ev fs x e0 []).2.map V.str))→Q (.ref a) H') ∧
  ((ev fs x e0 []).1.res≠.stop→∀ (a l:Addr) (rv:V) (H':Hp),Same H H'→H l = none→H' a = some (.tup [.str "ended",.ref l,rv])→H' l = some (.lst ((ev fs x e0 []).2.map V.str))→RR K H' rv (ev fs x e0 []).1→Q (.ref a) H')
theorem RRes.ne_non {K:PySem.W.Frag}{H:Hp}{v:V}{r:Res} (n:r≠.stop) (h:RRes K H v r):decide (v = V.non) = false:=by
  obtain ⟨a,us,rfl,_⟩:=h.word n
  rfl
section
variable {P:Program}{w:World}{K:PySem.W.Frag}{mg:Str→Option Value}{base:Heap}{f:Addr}{fd:FuncData}{k n:Nat}{ARun:Addr}
theorem sc_record_of:FnScope ["run","expression","bound"] ["run","expression","bound"] (defScope s_record_of):=⟨rfl,rfl,rfl,by decide +kernel,rfl,by decide +kernel,by decide +kernel⟩
theorem ok_record_of (F:Fun K "record_of" "record_of" s_record_of f fd) (G_go_reckoned:Have P w K mg base "go_reckoned" k ["run","expression","bound"] (spG K ARun (n + 1) (fun x=>∃ d es,x = .reck d es))) {g_GOING f1 f2 f3 f4 f5 f6 f7 f8 f9:Addr} (m_GOING:mg "GOING" = some (.ref g_GOING)) (d_GOING:MD P w K g_GOING (kvsG f1 f2 f3 f4 f5 f6 f7 f8 f9)) (c1:HaveF P w K mg base f1 k ["run","expression","bound"] (spG K ARun (n + 1) (fun x=>∃ y,x = .lit y))) (c2:HaveF P w K mg base f2 k ["run","expression","bound"] (spG K ARun (n + 1) (fun x=>∃ s,x = .var s))) (c3:HaveF P w K mg base f3 k ["run","expression","bound"] (spG K ARun (n + 1) (fun x=>∃ s a b,x = .letE s a b))) (c4:HaveF P w K mg base f4 k ["run","expression","bound"] (spG K ARun (n + 1) (fun x=>∃ a b c,x = .ifE a b c))) (c5:HaveF P w K mg base f5 k ["run","expression","bound"] (spG K ARun (n + 1) (fun x=>∃ s a b,x = .eachE s a b))) (c6:HaveF P w K mg base f6 k ["run","expression","bound"] (spG K ARun (n + 1) (fun x=>∃ s t a b c,x = .overE s t a b c))) (c7:HaveF P w K mg base f7 k ["run","expression","bound"] (spG K ARun (n + 1) (fun x=>∃ a,x = .lookE a))) (c8:HaveF P w K mg base f8 k ["run","expression","bound"] (spG K ARun (n + 1) (fun x=>∃ a b,x = .elseE a b))) (c9:HaveF P w K mg base f9 k ["run","expression","bound"] (spG K ARun (n + 1) (fun x=>∃ a,x = .cryE a))):FnOk P w K mg base CX0 (k + 1) f fd ["run","expression","bound"] (spG K ARun (n + 1) (fun _=>True)):=by
  refine F.okQ sc_record_of (fun vs H Q E h=>?_) (fun cdv A outer s H vs Q E hr h=>?_)
  · obtain ⟨fs,rp,l1,l,u,bd,kvs,e,x,ns,rfl,_⟩:=h
    rfl
  obtain ⟨fs,rp,l1,l,u,bd,kvs,e,x,ns,rfl,rn,ru,hb,hk,he,hh,hf,_,q⟩:=h
  refine ⟨_,(pss_cons (ps_if (pt_cmpR op_inM (pe_ix ix_tup (pv 1) pe_int (fun _ _=>rfl)) (pe_glob (v:=.ref g_GOING) rfl m_GOING rfl) (by rfl)) (pss_one (ps_ret (pe_callF hr (pe_ix ix_mod (pe_glob (v:=.ref g_GOING) rfl m_GOING rfl) (pe_ix ix_tup (pv 1) pe_int (fun _ _=>rfl)) (fun _ _=>rfl)) (pa_cons (pv 0) (pa_cons (pv 1) (pa_cons (pv 2) pa_nil)))))) pss_nil)
    (pss_one (ps_ret (pe_fn G_go_reckoned hr rfl (pa_cons (pv 0) (pa_cons (pv 1) (pa_cons (pv 2) pa_nil))))))),?_⟩
  have go:∀ (s:Str) (ws:List W),x.toW = .lst (.txt s :: ws)→∃ (a:Addr) (us:List V),u = .ref a∧H a = some (.tup (.str s :: us)):=fun s ws hx=>by
    rw [hx] at ru
    obtain ⟨a,vs,rfl,ea,hw0⟩:=ru.tup
    obtain ⟨u0,us,rfl,r0,_⟩:=hw0.cons
    obtain rfl:=r0.str
    exact ⟨a,us,rfl,ea⟩
  cases x with
  | lit y=>
    obtain ⟨a,us,rfl,ea⟩:=go "lit" _ (by rw [Ex.toW])
    refine ⟨_,rfl,a,_,0,_,rfl,rfl,SqT.of ea,atI_nat (j:=0) rfl,g_GOING,_,.inr "lit",rfl,rfl,d_GOING,_,rfl,iteT ?_⟩
    refine ⟨_,rfl,a,_,0,_,rfl,rfl,SqT.of ea,atI_nat (j:=0) rfl,g_GOING,_,.inr "lit",.ref f1,rfl,rfl,d_GOING,rfl,f1,_,_,rfl,c1,_,rfl,_,rfl,_,rfl,?_⟩
    exact ⟨fs,rp,l1,l,_,bd,kvs,e,_,ns,rfl,rn,ru,hb,hk,he,hh,hf,⟨_,rfl⟩,q⟩
  | var z=>
    obtain ⟨a,us,rfl,ea⟩:=go "var" _ (by rw [Ex.toW])
    refine ⟨_,rfl,a,_,0,_,rfl,rfl,SqT.of ea,atI_nat (j:=0) rfl,g_GOING,_,.inr "var",rfl,rfl,d_GOING,_,rfl,iteT ?_⟩
    refine ⟨_,rfl,a,_,0,_,rfl,rfl,SqT.of ea,atI_nat (j:=0) rfl,g_GOING,_,.inr "var",.ref f2,rfl,rfl,d_GOING,rfl,f2,_,_,rfl,c2,_,rfl,_,rfl,_,rfl,?_⟩
    exact ⟨fs,rp,l1,l,_,bd,kvs,e,_,ns,rfl,rn,ru,hb,hk,he,hh,hf,⟨_,rfl⟩,q⟩
  | letE z a1 b1=>
    obtain ⟨a,us,rfl,ea⟩:=go "let" _ (by rw [Ex.toW])
    refine ⟨_,rfl,a,_,0,_,rfl,rfl,SqT.of ea,atI_nat (j:=0) rfl,g_GOING,_,.inr "let",rfl,rfl,d_GOING,_,rfl,iteT ?_⟩
    refine ⟨_,rfl,a,_,0,_,rfl,rfl,SqT.of ea,atI_nat (j:=0) rfl,g_GOING,_,.inr "let",.ref f3,rfl,rfl,d_GOING,rfl,f3,_,_,rfl,c3,_,rfl,_,rfl,_,rfl,?_⟩
    exact ⟨fs,rp,l1,l,_,bd,kvs,e,_,ns,rfl,rn,ru,hb,hk,he,hh,hf,⟨_,_,_,rfl⟩,q⟩
  | ifE a1 b1 c1'=>
    obtain ⟨a,us,rfl,ea⟩:=go "if" _ (by rw [Ex.toW])
    refine ⟨_,rfl,a,_,0,_,rfl,rfl,SqT.of ea,atI_nat (j:=0) rfl,g_GOING,_,.inr "if",rfl,rfl,d_GOING,_,rfl,iteT ?_⟩
    refine ⟨_,rfl,a,_,0,_,rfl,rfl,SqT.of ea,atI_nat (j:=0) rfl,g_GOING,_,.inr "if",.ref f4,rfl,rfl,d_GOING,rfl,f4,_,_,rfl,c4,_,rfl,_,rfl,_,rfl,?_⟩
    exact ⟨fs,rp,l1,l,_,bd,kvs,e,_,ns,rfl,rn,ru,hb,hk,he,hh,hf,⟨_,_,_,rfl⟩,q⟩
  | eachE z a1 b1=>
    obtain ⟨a,us,rfl,ea⟩:=go "each" _ (by rw [Ex.toW])
    refine ⟨_,rfl,a,_,0,_,rfl,rfl,SqT.of ea,atI_nat (j:=0) rfl,g_GOING,_,.inr "each",rfl,rfl,d_GOING,_,rfl,iteT ?_⟩
    refine ⟨_,rfl,a,_,0,_,rfl,rfl,SqT.of ea,atI_nat (j:=0) rfl,g_GOING,_,.inr "each",.ref f5,rfl,rfl,d_GOING,rfl,f5,_,_,rfl,c5,_,rfl,_,rfl,_,rfl,?_⟩
    exact ⟨fs,rp,l1,l,_,bd,kvs,e,_,ns,rfl,rn,ru,hb,hk,he,hh,hf,⟨_,_,_,rfl⟩,q⟩
  | overE z t a1 b1 c1'=>
    obtain ⟨a,us,rfl,ea⟩:=go "over" _ (by rw [Ex.toW])
    refine ⟨_,rfl,a,_,0,_,rfl,rfl,SqT.of ea,atI_nat (j:=0) rfl,g_GOING,_,.inr "over",rfl,rfl,d_GOING,_,rfl,iteT ?_⟩
    refine ⟨_,rfl,a,_,0,_,rfl,rfl,SqT.of ea,atI_nat (j:=0) rfl,g_GOING,_,.inr "over",.ref f6,rfl,rfl,d_GOING,rfl,f6,_,_,rfl,c6,_,rfl,_,rfl,_,rfl,?_⟩
    exact ⟨fs,rp,l1,l,_,bd,kvs,e,_,ns,rfl,rn,ru,hb,hk,he,hh,hf,⟨_,_,_,_,_,rfl⟩,q⟩
  | elseE a1 b1=>
    obtain ⟨a,us,rfl,ea⟩:=go "else" _ (by rw [Ex.toW])
    refine ⟨_,rfl,a,_,0,_,rfl,rfl,SqT.of ea,atI_nat (j:=0) rfl,g_GOING,_,.inr "else",rfl,rfl,d_GOING,_,rfl,iteT ?_⟩
    refine ⟨_,rfl,a,_,0,_,rfl,rfl,SqT.of ea,atI_nat (j:=0) rfl,g_GOING,_,.inr "else",.ref f8,rfl,rfl,d_GOING,rfl,f8,_,_,rfl,c8,_,rfl,_,rfl,_,rfl,?_⟩
    exact ⟨fs,rp,l1,l,_,bd,kvs,e,_,ns,rfl,rn,ru,hb,hk,he,hh,hf,⟨_,_,rfl⟩,q⟩
  | cryE a1=>
    obtain ⟨a,us,rfl,ea⟩:=go "cry" _ (by rw [Ex.toW])
    refine ⟨_,rfl,a,_,0,_,rfl,rfl,SqT.of ea,atI_nat (j:=0) rfl,g_GOING,_,.inr "cry",rfl,rfl,d_GOING,_,rfl,iteT ?_⟩
    refine ⟨_,rfl,a,_,0,_,rfl,rfl,SqT.of ea,atI_nat (j:=0) rfl,g_GOING,_,.inr "cry",.ref f9,rfl,rfl,d_GOING,rfl,f9,_,_,rfl,c9,_,rfl,_,rfl,_,rfl,?_⟩
    exact ⟨fs,rp,l1,l,_,bd,kvs,e,_,ns,rfl,rn,ru,hb,hk,he,hh,hf,⟨_,rfl⟩,q⟩
  | lookE a1=>
    obtain ⟨a,us,rfl,ea⟩:=go "look" _ (by rw [Ex.toW])
    refine ⟨_,rfl,a,_,0,_,rfl,rfl,SqT.of ea,atI_nat (j:=0) rfl,g_GOING,_,.inr "look",rfl,rfl,d_GOING,_,rfl,iteT ?_⟩
    refine ⟨_,rfl,a,_,0,_,rfl,rfl,SqT.of ea,atI_nat (j:=0) rfl,g_GOING,_,.inr "look",.ref f7,rfl,rfl,d_GOING,rfl,f7,_,_,rfl,c7,_,rfl,_,rfl,_,rfl,?_⟩
    exact ⟨fs,rp,l1,l,_,bd,kvs,e,_,ns,rfl,rn,ru,hb,hk,he,hh,hf,⟨_,rfl⟩,q⟩
  | reck d es=>
    obtain ⟨a,us,rfl,ea⟩:=go (wdS d) _ (by rw [Ex.toW])
    refine ⟨_,rfl,a,_,0,_,rfl,rfl,SqT.of ea,atI_nat (j:=0) rfl,g_GOING,_,.inr (wdS d),rfl,rfl,d_GOING,_,rfl,?_⟩
    rw [show valV (kvsG f1 f2 f3 f4 f5 f6 f7 f8 f9) (.inr (wdS d)) = none by cases d <;> rfl]
    exact iteF ⟨_,rfl,_,rfl,_,rfl,fs,rp,l1,l,_,bd,kvs,e,_,ns,rfl,rn,ru,hb,hk,he,hh,hf,⟨_,_,rfl⟩,q⟩
theorem sc_Run___init__:FnScope ["self","founds"] ["self","founds"] (defScope s_Run___init__):=⟨rfl,rfl,rfl,by decide +kernel,rfl,by decide +kernel,by decide +kernel⟩
theorem ok_Run___init__ (F:Fun K "__init__" "Run.__init__" s_Run___init__ f fd) (m_list:mg "list" = none) (clR:Cls K ARun) (nF:NoAttr K ARun "founds") (nN:NoAttr K ARun "names"):FnOk P w K mg base CX0 (k + 1) f fd ["self","founds"] (spRunI K ARun):=by
  refine F.okQ sc_Run___init__ (fun vs H Q E h=>?_) (fun cdv A outer s H vs Q E hr h=>?_)
  · obtain ⟨p,dx,fl,us,rfl,_⟩:=h
    rfl
  obtain ⟨p,dx,fl,us,rfl,hp,hfl,q⟩:=h
  refine ⟨_,(pss_cons (ps_fld (pv 0) (pe_callTy call_list_of rfl m_list boot_listT (pa_cons (pv 1) pa_nil)) rfl)
    (pss_one (ps_fld (pv 0) (pe_lst pa_nil) rfl))),?_⟩
  refine ⟨_,rfl,fl,us,rfl,.inl hfl,fun l1 hl1=>?_⟩
  have n1:p≠l1:=ne_of_none hp hl1
  refine ⟨_,rfl,p,ARun,dx,[],rfl,(by rw [upd_ne n1]; exact hp),clR,nF,(by show 0 < 1000; decide),(by show 0≤sizeLine; decide),fun l2 hl2=>?_⟩
  have n2:p≠l2:=by
    intro z
    rw [← z,upd_same] at hl2
    cases hl2
  have n12:l1≠l2:=by
    intro z
    rw [← z,upd_ne n1.symm,upd_same] at hl2
    cases hl2
  have hl20:H l2 = none:=by
    rw [upd_ne n2.symm,upd_ne n12.symm] at hl2
    exact hl2
  refine ⟨_,rfl,p,ARun,dx,_,rfl,(by rw [upd_ne n2,upd_same]),clR,nN,(by show 1 < 1000; decide),?_⟩
  refine q l1 l2 hl1 hl20 n12 _ upd_same (by rw [upd_ne n1.symm,upd_ne n12,upd_ne n1.symm,upd_same]) (by rw [upd_ne n2.symm,upd_same]) fun c o hc e=>?_
  rw [upd_ne hc,upd_ne (ne_of_none e hl20),upd_ne hc,upd_ne (ne_of_none e hl1)]
  exact e
theorem sc_gone:FnScope ["rule","founds","run","record"] ["rule","founds"] (defScope s_gone):=⟨rfl,rfl,rfl,by decide +kernel,rfl,by decide +kernel,by decide +kernel⟩
theorem ok_gone (F:Fun K "gone" "gone" s_gone f fd) (G_record_of:Have P w K mg base "record_of" k ["run","expression","bound"] (spG K ARun 30 (fun _=>True))) (G_Run___init__:HaveC P w K mg base ARun "Run" k ["self","founds"] (spRunI K ARun)) (m_list:mg "list" = none) (clR:Cls K ARun) (nN:NoAttr K ARun "names"):FnOk P w K mg base CX0 (k + 1) f fd ["rule","founds"] (spGone K):=by
  refine F.okQ sc_gone (fun vs H Q E h=>?_) (fun cdv A outer s H vs Q E hr h=>?_)
  · obtain ⟨u,fl,us,fs,x,rfl,_⟩:=h
    rfl
  obtain ⟨u,fl,us,fs,x,rfl,ru,hfl,hlen,few,hres,hh,hf,q1,q2⟩:=h
  refine ⟨_,(pss_cons (ps_set (i:=2) sc_gone.nd rfl (Or.inl rfl) (pe_new G_Run___init__ hr rfl (pa_cons (pv 1) pa_nil)))
    (pss_cons (ps_set (i:=3) sc_gone.nd rfl (Or.inl rfl) (pe_fn G_record_of hr rfl (pa_cons (pv 2) (pa_cons (pv 0) (pa_cons pe_dnewK pa_nil)))))
    (pss_cons (ps_if (pt_cmp (pc_isN (pe_ix ix_tup (pv 3) pe_int (fun _ _=>rfl)))) (pss_one (ps_ret (pe_tup (pa_cons pe_str (pa_cons (pe_callTy call_list_of rfl m_list boot_listT (pa_cons (pe_fld (pv 2) rfl) pa_nil)) pa_nil))))) pss_nil)
    (pss_one (ps_ret (pe_tup (pa_cons pe_str (pa_cons (pe_callTy call_list_of rfl m_list boot_listT (pa_cons (pe_fld (pv 2) rfl) pa_nil)) (pa_cons (pv 3) pa_nil))))))))),?_⟩
  refine ⟨_,rfl,fun p dx np ndx nxp=>?_⟩
  have s1:Same H (upd (upd H dx (.own p)) p (.ins ARun dx [])):=fun c o e=>by
    rw [upd_ne (ne_of_none e np),upd_ne (ne_of_none e ndx)]
    exact e
  refine ⟨p,dx,fl,us,rfl,upd_same,s1.seq hfl,fun l1 l2 hl1 hl2 n12 H2 hp2 el1 el2 kp=>⟨rfl,?_⟩⟩
  have s2:Same H H2:=fun c o e=>kp c o (ne_of_none e np) (s1 c o e)
  have rn2:Rn K ARun fs p l1 l2 H2 []:=⟨⟨dx,hp2⟩,⟨us,el1,hlen,fun i v r a b=>(hres i v r a b).mono s2⟩,el2,n12,few⟩
  have hl20:H l2 = none:=s1.free hl2
  refine ⟨_,rfl,_,rfl,fun d hd=>?_⟩
  have s3:=Same.new (o:=.dK []) hd
  have s23:=s2.trans s3
  refine ⟨fs,p,l1,l2,u,d,[],e0,x,[],rfl,rn2.same s3,ru.mono (same_tups s23),upd_same,by decide,(fun s x hx=>by cases hx),hh,hf,trivial,fun rv H4 g4 rn4 rr=>?_⟩
  have s4:Same H H4:=fun c o e=>g4.k c o (ne_of_none e hl20) (s23 c o e)
  obtain ⟨dx4,hp4⟩:=rn4.ins
  have na:=rn4.na
  obtain ⟨a,b,rv0,rfl,ea,rres⟩:=rr.res
  refine ⟨_,rfl,a,_,0,_,rfl,rfl,SqT.of ea,rfl,_,rfl,?_⟩
  by_cases hst:(ev fs x e0 []).1.res = .stop
  · rw [hst] at rres
    obtain rfl:rv0 = .non:=rres
    refine iteT ⟨_,rfl,p,ARun,dx4,_,_,rfl,hp4,clR,nN,fR_names _ _,l2,_,rfl,.inl (SqL.of na),fun l3 hl3=>?_⟩
    have s5:=Same.new (o:=.lst ((ev fs x e0 []).2.map V.str)) hl3
    refine ⟨(by show 2≤sizeLine; decide),fun a6 ha6=>?_⟩
    have s6:=Same.new (o:=.tup [.str "look",.ref l3]) ha6
    exact q1 hst a6 l3 _ ((s4.trans s5).trans s6) (s4.free hl3) upd_same (s6 _ _ upd_same)
  · rw [rres.ne_non hst]
    refine iteF ⟨_,rfl,p,ARun,dx4,_,_,rfl,hp4,clR,nN,fR_names _ _,l2,_,rfl,.inl (SqL.of na),fun l3 hl3=>?_⟩
    have s5:=Same.new (o:=.lst ((ev fs x e0 []).2.map V.str)) hl3
    refine ⟨_,rfl,(by show 3≤sizeLine; decide),fun a6 ha6=>?_⟩
    have s6:=Same.new (o:=.tup [.str "ended",.ref l3,.ref a]) ha6
    exact q2 hst a6 l3 _ _ ((s4.trans s5).trans s6) (s4.free hl3) upd_same (s6 _ _ upd_same) (rr.mono (s5.trans s6))
end
end D
set_option Elab.async false
set_option linter.all false
set_option maxRecDepth 100000
set_option maxHeartbeats 4000000
namespace D
open PySem L2
def OutOk:Res→Prop
  | .made y=>y.Ok∧y.depth≤3∧y.size≤96
  | .wrong ws=>∃ c y,ws = [.txt c,y]∧(W.txt c).Ok∧y.Ok∧y.depth≤3
  | .stop=>False
def Nm (m:Nat) (s:Str):Prop:=s.length≤m∧Signs s
def spOut:Sp:=fun vs H Q _=>∃ b:Addr,vs = [.ref b]∧IsBox H b∧∀ (v:V) (r:Res) (H':Hp),RW H' v r.toW→OutOk r→Step b H H'→Q v H'
def spName:Sp:=fun vs H Q _=>∃ b:Addr,vs = [.ref b]∧IsBox H b∧∀ (z:Str) (H':Hp),Nm 12 z→Step b H H'→Q (.str z) H'
theorem RW.two {H:Hp}{p:Addr}{u v:V}{x y:W} (e:H p = some (.tup [u,v])) (h1:RW H u x) (h2:RW H v y):RW H (.ref p) (.lst [x,y]):=.lst e rfl fun i a b ha hb=>match i,ha,hb with
  | 0,ha,hb=>by
    obtain rfl:u = a:=by simpa using ha
    obtain rfl:x = b:=by simpa using hb
    exact h1
  | 1,ha,hb=>by
    obtain rfl:v = a:=by simpa using ha
    obtain rfl:y = b:=by simpa using hb
    exact h2
  | j + 2,ha,hb=>by simp at ha
theorem RW.three {H:Hp}{p:Addr}{u v t:V}{x y z:W} (e:H p = some (.tup [u,v,t])) (h1:RW H u x) (h2:RW H v y) (h3:RW H t z):RW H (.ref p) (.lst [x,y,z]):=.lst e rfl fun i a b ha hb=>match i,ha,hb with
  | 0,ha,hb=>by
    obtain rfl:u = a:=by simpa using ha
    obtain rfl:x = b:=by simpa using hb
    exact h1
  | 1,ha,hb=>by
    obtain rfl:v = a:=by simpa using ha
    obtain rfl:y = b:=by simpa using hb
    exact h2
  | 2,ha,hb=>by
    obtain rfl:t = a:=by simpa using ha
    obtain rfl:z = b:=by simpa using hb
    exact h3
  | j + 3,ha,hb=>by simp at ha
theorem txt_okd {s:Str} (h1:s.length≤400) (h2:∀ c∈s.cps.toList,32≤c∧c≤126∧c≠34∧c≠37):(W.txt s).Ok:=⟨h1,h2⟩
section
variable {P:Program}{w:World}{K:PySem.W.Frag}{mg:Str→Option Value}{base:Heap}{f:Addr}{fd:FuncData}{k n:Nat}
theorem sc_lname:FnScope ["_law_box_here"] ["_law_box_here"] (defScope s_lname):=⟨rfl,rfl,rfl,by decide +kernel,rfl,by decide +kernel,by decide +kernel⟩
theorem ok_lname (F:Fun K "_law_name" "_law_name" s_lname f fd) (G_ltake:Have P w K mg base "_law_take" k ["_law_box_here","_law_wide"] (spTake)) (G_ltext:Have P w K mg base "_law_text" k ["_law_box_here","_law_most"] (spText)):FnOk P w K mg base CX0 (k + 1) f fd ["_law_box_here"] (spName):=by
  refine F.okQ sc_lname (fun vs H Q E h=>?_) (fun cdv A outer s H vs Q E hr h=>?_)
  · obtain ⟨b,rfl,_⟩:=h
    rfl
  obtain ⟨b,rfl,hb,q⟩:=h
  refine ⟨_,(pss_cons (ps_if (pt_cmpR op_eq (pe_fn G_ltake hr rfl (pa_cons (pv 0) (pa_cons pe_int pa_nil))) pe_int (nomark _)) (pss_one (ps_ret (pe_fn G_ltext hr rfl (pa_cons (pv 0) (pa_cons pe_int pa_nil))))) pss_nil)
    (pss_one (ps_ret (pe_ix ix_list (pe_lst (pa_cons pe_str (pa_cons pe_str (pa_cons pe_str (pa_cons pe_str (pa_cons pe_str pa_nil)))))) (pe_fn G_ltake hr rfl (pa_cons (pv 0) (pa_cons pe_int pa_nil))) (fun _ _=>rfl))))),?_⟩
  refine ⟨_,rfl,b,2,rfl,hb,by decide,by decide,fun r H1 r0 r1 st1=>⟨rfl,_,rfl,ite2 (fun _=>?_) (fun _=>?_)⟩⟩
  · exact ⟨_,rfl,b,12,rfl,st1.box,by decide,by decide,fun x H2 hx sx st2=>q x H2 ⟨by omega,sx⟩ (st1.trans st2)⟩
  refine ⟨(by show 5≤sizeLine; decide),fun l hl=>?_⟩
  have st2:=st1.trans (Step.new (o:=.lst [.str "a.b",.str "a.c",.str "b.b",.str "",.str "a"]) st1.box hl)
  have el:upd H1 l (.lst [.str "a.b",.str "a.c",.str "b.b",.str "",.str "a"]) l = some (.lst [.str "a.b",.str "a.c",.str "b.b",.str "",.str "a"]):=upd_same
  have nlb:l≠b:=by
    obtain ⟨_,_,_,e'⟩:=st1.box
    exact (ne_of_none e' hl).symm
  generalize upd H1 l (.lst [.str "a.b",.str "a.c",.str "b.b",.str "",.str "a"]) = H2 at st2 el
  refine ⟨_,rfl,b,5,rfl,st2.box,by decide,by decide,fun m H3 m0 m1 st3=>?_⟩
  have el3:=st3.keep l _ nlb el
  have st:=st2.trans st3
  have hm:m = 0∨m = 1∨m = 2∨m = 3∨m = 4:=by omega
  have nm:∀ s:Str,s.length≤12→(∀ c∈s.cps.toList,32≤c∧c≤126∧c≠34∧c≠37)→Nm 12 s:=fun s a b=>⟨a,b⟩
  rcases hm with rfl | rfl | rfl | rfl | rfl
  · exact ⟨l,_,0,.str "a.b",rfl,rfl,SqL.of el3,atI_nat (j:=0) rfl,q _ _ (nm _ (by decide +kernel) (by decide +kernel)) st⟩
  · exact ⟨l,_,1,.str "a.c",rfl,rfl,SqL.of el3,atI_nat (j:=1) rfl,q _ _ (nm _ (by decide +kernel) (by decide +kernel)) st⟩
  · exact ⟨l,_,2,.str "b.b",rfl,rfl,SqL.of el3,atI_nat (j:=2) rfl,q _ _ (nm _ (by decide +kernel) (by decide +kernel)) st⟩
  · exact ⟨l,_,3,.str "",rfl,rfl,SqL.of el3,atI_nat (j:=3) rfl,q _ _ (nm _ (by decide +kernel) (by decide +kernel)) st⟩
  · exact ⟨l,_,4,.str "a",rfl,rfl,SqL.of el3,atI_nat (j:=4) rfl,q _ _ (nm _ (by decide +kernel) (by decide +kernel)) st⟩
theorem sc_loutcome:FnScope ["_law_box_here","_law_kind"] ["_law_box_here"] (defScope s_loutcome):=⟨rfl,rfl,rfl,by decide +kernel,rfl,by decide +kernel,by decide +kernel⟩
theorem ok_loutcome (F:Fun K "_law_outcome" "_law_outcome" s_loutcome f fd) (G_ltake:Have P w K mg base "_law_take" k ["_law_box_here","_law_wide"] (spTake)) (G_ltext:Have P w K mg base "_law_text" k ["_law_box_here","_law_most"] (spText)) (G_lworth:Have P w K mg base "_law_worth" k ["_law_box_here","_law_room","_law_deep"] (spWorth 13)):FnOk P w K mg base CX0 (k + 1) f fd ["_law_box_here"] (spOut):=by
  refine F.okQ sc_loutcome (fun vs H Q E h=>?_) (fun cdv A outer s H vs Q E hr h=>?_)
  · obtain ⟨b,rfl,_⟩:=h
    rfl
  obtain ⟨b,rfl,hb,q⟩:=h
  refine ⟨_,(pss_cons (ps_set (i:=1) sc_loutcome.nd rfl (Or.inl rfl) (pe_fn G_ltake hr rfl (pa_cons (pv 0) (pa_cons pe_int pa_nil))))
    (pss_cons (ps_if (pt_cmpR op_lt (pv 1) pe_int (nomark _)) (pss_one (ps_ret (pe_tup (pa_cons pe_str (pa_cons (pe_fn G_lworth hr rfl (pa_cons (pv 0) (pa_cons pe_int (pa_cons pe_int pa_nil)))) pa_nil))))) pss_nil)
    (pss_cons (ps_if (pt_cmpR op_eq (pv 1) pe_int (nomark _)) (pss_one (ps_ret (pe_tup (pa_cons pe_str (pa_cons pe_str (pa_cons (pe_fn G_lworth hr rfl (pa_cons (pv 0) (pa_cons pe_int (pa_cons pe_int pa_nil)))) pa_nil)))))) pss_nil)
    (pss_cons (ps_if (PW.pt (pw_or (pt_cmpR op_eq (pv 1) pe_int (nomark _)) (pw_or1 (pt_cmpR op_eq (pv 1) pe_int (nomark _))))) (pss_one (ps_ret (pe_tup (pa_cons pe_str (pa_cons (pe_ix ix_list (pe_lst (pa_cons pe_str (pa_cons pe_str pa_nil))) (pe_op op_sub (pv 1) pe_int) (fun _ _=>rfl)) (pa_cons (pe_fn G_ltext hr rfl (pa_cons (pv 0) (pa_cons pe_int pa_nil))) pa_nil)))))) pss_nil)
    (pss_one (ps_ret (pe_tup (pa_cons pe_str (pa_cons (pe_ix ix_list (pe_lst (pa_cons pe_str (pa_cons pe_str (pa_cons pe_str (pa_cons pe_str pa_nil))))) (pe_fn G_ltake hr rfl (pa_cons (pv 0) (pa_cons pe_int pa_nil))) (fun _ _=>rfl)) (pa_cons pe_str pa_nil)))))))))),?_⟩
  refine ⟨_,rfl,b,12,rfl,hb,by decide,by decide,fun kd H1 k0 k1 st1=>?_⟩
  have wr:∀ (p:Addr) (c:Str) (t:V) (y:W) (H2:Hp) (hp:H2 p = none),Step b H H2→RW H2 t y→(W.txt c).Ok→y.Ok→y.depth≤3→Q (.ref p) (upd H2 p (.tup [.str "wrong",.str c,t])):=fun p c t y H2 hp st rt oc oy dy=>by
    have s3:=Same.new (o:=.tup [.str "wrong",.str c,t]) hp
    exact q _ (.wrong [.txt c,y]) _ (RW.three upd_same (.txt _) (.txt _) (rt.mono (same_tups s3))) ⟨c,y,rfl,oc,oy,dy⟩ (st.trans (Step.ofSame st.box s3))
  refine ⟨_,rfl,_,_,rfl,rfl,_,rfl,ite2 (fun _=>?_) (fun _=>?_)⟩
  · refine ⟨_,rfl,b,6,3,rfl,st1.box,by decide,by decide,by decide,by decide,fun v x H2 rx okx dx sx st2=>⟨(by show 2≤sizeLine; decide),fun p hp=>?_⟩⟩
    have s3:=Same.new (o:=.tup [.str "made",v]) hp
    have st:=st1.trans st2
    exact q _ (.made x) _ (RW.two upd_same (.txt _) (rx.mono (same_tups s3))) ⟨okx,by omega,by omega⟩ (st.trans (Step.ofSame st.box s3))
  refine ⟨_,rfl,rfl,_,rfl,ite2 (fun _=>?_) (fun c7=>?_)⟩
  · refine ⟨_,rfl,b,6,3,rfl,st1.box,by decide,by decide,by decide,by decide,fun v x H2 rx okx dx sx st2=>⟨(by show 3≤sizeLine; decide),fun p hp=>?_⟩⟩
    exact wr p "cried" v x H2 hp (st1.trans st2) rx (txt_okd (by decide +kernel) (by decide +kernel)) okx (by omega)
  refine ⟨_,rfl,rfl,_,rfl,ite2 (fun c8=>?_) (fun c8=>⟨_,rfl,rfl,_,rfl,ite2 (fun c9=>?_) (fun c9=>?_)⟩)⟩
  · have hk:kd = 8:=V.int.inj (of_decide_eq_true c8)
    subst hk
    refine ⟨(by show 2≤sizeLine; decide),fun l hl=>?_⟩
    have st2:=st1.trans (Step.new (o:=.lst [.str "none",.str "shut"]) st1.box hl)
    have el:upd H1 l (.lst [.str "none",.str "shut"]) l = some (.lst [.str "none",.str "shut"]):=upd_same
    generalize upd H1 l (.lst [.str "none",.str "shut"]) = H2 at st2 el
    refine ⟨_,rfl,_,_,rfl,rfl,l,_,_,.str "none",rfl,rfl,SqL.of el,atI_nat (j:=0) rfl,_,rfl,b,15,rfl,st2.box,by decide,by decide,fun x H3 hx sx st3=>⟨(by show 3≤sizeLine; decide),fun p hp=>?_⟩⟩
    exact wr p "none" (.str x) (.txt x) H3 hp (st2.trans st3) (.txt x) (txt_okd (by decide +kernel) (by decide +kernel)) ⟨by omega,sx⟩ (Nat.zero_le _)
  · have hk:kd = 9:=V.int.inj (of_decide_eq_true c9)
    subst hk
    refine ⟨(by show 2≤sizeLine; decide),fun l hl=>?_⟩
    have st2:=st1.trans (Step.new (o:=.lst [.str "none",.str "shut"]) st1.box hl)
    have el:upd H1 l (.lst [.str "none",.str "shut"]) l = some (.lst [.str "none",.str "shut"]):=upd_same
    generalize upd H1 l (.lst [.str "none",.str "shut"]) = H2 at st2 el
    refine ⟨_,rfl,_,_,rfl,rfl,l,_,_,.str "shut",rfl,rfl,SqL.of el,atI_nat (j:=1) rfl,_,rfl,b,15,rfl,st2.box,by decide,by decide,fun x H3 hx sx st3=>⟨(by show 3≤sizeLine; decide),fun p hp=>?_⟩⟩
    exact wr p "shut" (.str x) (.txt x) H3 hp (st2.trans st3) (.txt x) (txt_okd (by decide +kernel) (by decide +kernel)) ⟨by omega,sx⟩ (Nat.zero_le _)
  · refine ⟨(by show 4≤sizeLine; decide),fun l hl=>?_⟩
    have st2:=st1.trans (Step.new (o:=.lst [.str "kind",.str "great",.str "nought",.str "place"]) st1.box hl)
    have el:upd H1 l (.lst [.str "kind",.str "great",.str "nought",.str "place"]) l = some (.lst [.str "kind",.str "great",.str "nought",.str "place"]):=upd_same
    have nlb:l≠b:=by
      obtain ⟨_,_,_,e'⟩:=st1.box
      exact (ne_of_none e' hl).symm
    generalize upd H1 l (.lst [.str "kind",.str "great",.str "nought",.str "place"]) = H2 at st2 el
    refine ⟨_,rfl,b,4,rfl,st2.box,by decide,by decide,fun m H3 m0 m1 st3=>?_⟩
    have el3:=st3.keep l _ nlb el
    have st:=st2.trans st3
    have em:(W.txt "").Ok:=txt_okd (by decide +kernel) (by decide +kernel)
    have hm:m = 0∨m = 1∨m = 2∨m = 3:=by omega
    rcases hm with rfl | rfl | rfl | rfl
    · exact ⟨l,_,0,.str "kind",rfl,rfl,SqL.of el3,atI_nat (j:=0) rfl,(by show 3≤sizeLine; decide),fun p hp=>wr p "kind" (.str "") (.txt "") H3 hp st (.txt _) (txt_okd (by decide +kernel) (by decide +kernel)) em (Nat.zero_le _)⟩
    · exact ⟨l,_,1,.str "great",rfl,rfl,SqL.of el3,atI_nat (j:=1) rfl,(by show 3≤sizeLine; decide),fun p hp=>wr p "great" (.str "") (.txt "") H3 hp st (.txt _) (txt_okd (by decide +kernel) (by decide +kernel)) em (Nat.zero_le _)⟩
    · exact ⟨l,_,2,.str "nought",rfl,rfl,SqL.of el3,atI_nat (j:=2) rfl,(by show 3≤sizeLine; decide),fun p hp=>wr p "nought" (.str "") (.txt "") H3 hp st (.txt _) (txt_okd (by decide +kernel) (by decide +kernel)) em (Nat.zero_le _)⟩
    · exact ⟨l,_,3,.str "place",rfl,rfl,SqL.of el3,atI_nat (j:=3) rfl,(by show 3≤sizeLine; decide),fun p hp=>wr p "place" (.str "") (.txt "") H3 hp st (.txt _) (txt_okd (by decide +kernel) (by decide +kernel)) em (Nat.zero_le _)⟩
end
end D
set_option Elab.async false
set_option linter.all false
set_option maxRecDepth 100000
set_option maxHeartbeats 4000000
namespace D
open PySem L2
def RL (x:W):R:=.mk (.made x) []
def lk (s:Str):Ex:=.lookE (.lit (.txt s))
section
variable {fs:List Res}{e:Env}{ns:Ns}
theorem ev_lit (x:W):ev fs (.lit x) e ns = (RL x,ns):=by rw [ev]; rfl
theorem ev_lk (s:Str):ev fs (lk s) e ns = (.mk (found fs ns.length) [RL (.txt s)],ns ++ [s]):=by
  unfold lk
  rw [ev_lookT (z:=s) (by rw [ev_lit]; rfl),ev_lit]
theorem looks_made:∀ {names:Ns}{ns:Ns},(∀ i < names.length,(found fs (ns.length + i)).isMade = true)→(evs fs (names.map lk) e ns).2 = ns ++ names∧allMade (evs fs (names.map lk) e ns).1 = true∧(evs fs (names.map lk) e ns).1.map R.res = (List.range names.length).map fun i=>found fs (ns.length + i)
  | [],ns,_=>by
    rw [List.map_nil,evs]
    exact ⟨(List.append_nil _).symm,rfl,rfl⟩
  | s :: names,ns,h=>by
    have h0:(found fs ns.length).isMade = true:=h 0 (by simp)
    have e1:=ev_lk (fs:=fs) (e:=e) (ns:=ns) s
    obtain ⟨i1,i2,i3⟩:=looks_made (names:=names) (ns:=ns ++ [s]) fun i hi=>by
      have:=h (i + 1) (by simp; omega)
      rw [List.length_append,List.length_singleton,show ns.length + 1 + i = ns.length + (i + 1) by omega]
      exact this
    rw [List.map_cons,evs_at,e1,if_pos (by exact h0)]
    refine ⟨?_,?_,?_⟩
    · show (evs fs (names.map lk) e (ns ++ [s])).2 = _
      rw [i1,List.append_assoc]
      rfl
    · show allMade (_ :: (evs fs (names.map lk) e (ns ++ [s])).1) = true
      unfold allMade
      rw [List.all_cons]
      exact Bool.and_eq_true_iff.mpr ⟨h0,i2⟩
    · show (R.mk (found fs ns.length) _).res :: (evs fs (names.map lk) e (ns ++ [s])).1.map R.res = _
      rw [i3,List.length_cons,List.range_succ_eq_map,List.map_cons,List.map_map]
      refine congrArg (_ :: ·) (List.map_congr_left fun i _=>?_)
      show found fs ((ns ++ [s]).length + i) = found fs (ns.length + (i + 1))
      rw [List.length_append,List.length_singleton,show ns.length + 1 + i = ns.length + (i + 1) by omega]
theorem looks_end:∀ {j:Nat}{names:Ns}{ns:Ns},j < names.length→(∀ i < j,(found fs (ns.length + i)).isMade = true)→(found fs (ns.length + j)).isMade = false→(evs fs (names.map lk) e ns).2 = ns ++ names.take (j + 1)∧allMade (evs fs (names.map lk) e ns).1 = false∧∀ d,(lastR (evs fs (names.map lk) e ns).1 d).res = found fs (ns.length + j)
  | 0,s :: names,ns,_,_,h0=>by
    have e1:=ev_lk (fs:=fs) (e:=e) (ns:=ns) s
    rw [List.map_cons,evs_at,e1,if_neg (by show ¬ (found fs ns.length).isMade = true; rw [Nat.add_zero] at h0; rw [h0]; decide)]
    refine ⟨rfl,?_,fun d=>rfl⟩
    show ((found fs ns.length).isMade && true) = false
    rw [Nat.add_zero] at h0
    rw [h0]
    rfl
  | j + 1,s :: names,ns,hj,h,h1=>by
    have h0:(found fs ns.length).isMade = true:=h 0 (by omega)
    have e1:=ev_lk (fs:=fs) (e:=e) (ns:=ns) s
    have hsh:∀ i,(ns ++ [s]).length + i = ns.length + (i + 1):=fun i=>by rw [List.length_append,List.length_singleton]; omega
    obtain ⟨i1,i2,i3⟩:=looks_end (j:=j) (names:=names) (ns:=ns ++ [s]) (by simp at hj; omega) (fun i hi=>by rw [hsh]; exact h (i + 1) (by omega)) (by rw [hsh]; exact h1)
    rw [List.map_cons,evs_at,e1,if_pos (by exact h0)]
    refine ⟨?_,?_,fun d=>?_⟩
    · show (evs fs (names.map lk) e (ns ++ [s])).2 = _
      rw [i1,List.append_assoc]
      rfl
    · show ((found fs ns.length).isMade && allMade (evs fs (names.map lk) e (ns ++ [s])).1) = false
      rw [i2,Bool.and_false]
    · show (lastR (R.mk (found fs ns.length) [RL (.txt s)] :: (evs fs (names.map lk) e (ns ++ [s])).1) d).res = _
      rw [← hsh j,← i3 (R.mk (found fs ns.length) [RL (.txt s)])]
      unfold lastR
      cases hl:(evs fs (names.map lk) e (ns ++ [s])).1 with
      | nil=>rfl
      | cons y ys=>
        rw [List.getLast?_cons_cons]
        cases hq:(y :: ys).getLast? with
        | none=>simp at hq
        | some r=>rfl
end
theorem found_take {founds:List Res}{j i:Nat} (h:i < j) (hj:j≤founds.length):found (founds.take j) i = (founds[i]?).getD .stop:=by
  unfold found
  rw [List.getElem?_take_of_lt h]
theorem found_stop {founds:List Res}{j:Nat} (hj:j≤founds.length):found (founds.take j) j = .stop:=by
  unfold found
  rw [List.getElem?_eq_none (by rw [List.length_take]; omega)]
  rfl
theorem found_pre {used fs:List Res}{i:Nat} (h:used <+: fs) (hi:i < used.length):found fs i = (used[i]?).getD .stop:=by
  obtain ⟨t,rfl⟩:=h
  unfold found
  rw [List.getElem?_append_left hi]
end D
set_option Elab.async false
set_option linter.all false
set_option maxRecDepth 100000
set_option maxHeartbeats 4000000
namespace D
open PySem L2
structure Beh (X:Ex) (names:Ns) (founds:List Res) (due:Res):Prop where
  high:X.high≤20
  le:names.length≤founds.length
  ne:due≠.stop
  th:due.toW.Th
  dp:due.toW.depth≤20
  fine:∀ fs,(∀ r∈fs,OutOk r)→Fine fs X e0 []
  stop:∀ j < names.length,(ev (founds.take j) X e0 []).1.res = .stop∧(ev (founds.take j) X e0 []).2 = names.take (j + 1)
  done:∀ fs,founds.take names.length <+: fs→(ev fs X e0 []).1.res = due∧(ev fs X e0 []).2 = names
theorem th_made':(W.txt "made").Th:=th_of _ (txt_okd (by decide +kernel) (by decide +kernel))
theorem th_wrong':(W.txt "wrong").Th:=th_of _ (txt_okd (by decide +kernel) (by decide +kernel))
theorem OutOk.th:∀ {r:Res},OutOk r→r.toW.Th
  | .made y,h=>⟨by show 2≤1000; decide,th_made',th_of _ h.1,trivial⟩
  | .wrong ws,h=>by
    obtain ⟨c,y,rfl,h1,h2,h3⟩:=h
    exact ⟨by show 3≤1000; decide,th_wrong',th_of _ h1,th_of _ h2,trivial⟩
  | .stop,h=>h.elim
theorem OutOk.dp:∀ {r:Res},OutOk r→r.toW.depth≤4
  | .made y,h=>by
    have:=h.2.1
    simp only [Res.toW,W.depth,depths]
    omega
  | .wrong ws,h=>by
    obtain ⟨c,y,rfl,h1,h2,h3⟩:=h
    simp only [Res.toW,W.depth,depths]
    omega
  | .stop,h=>h.elim
theorem OutOk.ne {r:Res} (h:OutOk r):r≠.stop:=fun z=>by rw [z] at h; exact h
theorem found_ok {fs:List Res} (h:∀ r∈fs,OutOk r) {n:Nat}{y:W} (e:found fs n = .made y):y.Ok∧y.depth≤3∧y.size≤96:=by
  unfold found at e
  cases hn:fs[n]? with
  | none=>rw [hn] at e; cases e
  | some r=>
    rw [hn] at e
    have e:r = .made y:=e
    have:=h r (List.mem_of_getElem? hn)
    rw [e] at this
    exact this
section
variable {fs:List Res}{e:Env}
theorem fines_looks:∀ {names:Ns}{ns:Ns},ns.length + names.length≤1000→Fines fs (names.map lk) e ns
  | [],ns,_=>by rw [List.map_nil,Fines]; trivial
  | s :: names,ns,h=>by
    rw [List.map_cons,Fines,ev_lk]
    rw [List.length_cons] at h
    refine ⟨?_,fun _=>fines_looks (by rw [List.length_append,List.length_singleton]; omega)⟩
    unfold lk
    rw [Fine,Fine,ev_lit]
    exact ⟨trivial,by show ns.length≤1000; omega⟩
theorem looks_mem:∀ {names:Ns}{ns:Ns}{r:R},r∈(evs fs (names.map lk) e ns).1→∃ i,r.res = found fs i
  | [],ns,r,h=>by rw [List.map_nil,evs] at h; cases h
  | s :: names,ns,r,h=>by
    rw [List.map_cons,evs_at,ev_lk] at h
    split at h
    · rcases List.mem_cons.mp h with rfl | h
      · exact ⟨_,rfl⟩
      · exact looks_mem h
    · rw [List.mem_singleton.mp h]
      exact ⟨_,rfl⟩
theorem worths_looks (h:∀ r∈fs,OutOk r) {rs:List R} (hr:∀ r∈rs,∃ i,r.res = found fs i):Oks (rs.map R.worth)∧depths (rs.map R.worth)≤3:=by
  induction rs with
  | nil=>exact ⟨trivial,Nat.zero_le _⟩
  | cons r rs ih=>
    obtain ⟨i1,i2⟩:=ih fun x hx=>hr x (List.mem_cons_of_mem _ hx)
    have hy:r.worth.Ok∧r.worth.depth≤3:=by
      obtain ⟨i,hi⟩:=hr r List.mem_cons_self
      cases r with
      | mk res ss=>
        cases res with
        | made y=>
          have hi:Res.made y = found fs i:=hi
          have:=found_ok h hi.symm
          exact ⟨this.1,this.2.1⟩
        | wrong _=>exact ⟨⟨by decide,by decide⟩,Nat.zero_le _⟩
        | stop=>exact ⟨⟨by decide,by decide⟩,Nat.zero_le _⟩
    refine ⟨⟨hy.1,i1⟩,?_⟩
    simp only [List.map_cons,depths]
    omega
end
def listX (names:Ns):Ex:=.reck .list (names.map lk)
section
variable {names:Ns}{founds:List Res}
theorem list_fine (h8:names.length≤8) (fs:List Res) (h:∀ r∈fs,OutOk r):Fine fs (listX names) e0 []:=by
  unfold listX
  rw [Fine]
  refine ⟨by rw [List.length_map]; omega,fines_looks (by show 0 + names.length≤1000; omega),fun _=>?_⟩
  obtain ⟨h1,h2⟩:=worths_looks h (rs:=(evs fs (names.map lk) e0 []).1) fun r hr=>looks_mem hr
  have:=evs_le (fs:=fs) (e:=e0) (es:=names.map lk) (ns:=[])
  rw [List.length_map] at this
  exact ⟨h1,by omega,by omega,trivial⟩
theorem lk_high (s:Str):(lk s).high = 2:=by unfold lk; simp only [Ex.high]
theorem highs_lk:∀ names:Ns,highs (names.map lk)≤2
  | []=>by rw [List.map_nil,highs]; omega
  | s :: names=>by
    rw [List.map_cons,highs,lk_high]
    have:=highs_lk names
    omega
theorem list_high:(listX names).high≤20:=by
  unfold listX
  rw [Ex.high]
  have:=highs_lk names
  omega
theorem list_end {fs:List Res}{j:Nat} (hj:j < names.length) (hm:∀ i < j,(found fs i).isMade = true) (h1:(found fs j).isMade = false):(ev fs (listX names) e0 []).1.res = found fs j∧(ev fs (listX names) e0 []).2 = names.take (j + 1):=by
  obtain ⟨i1,i2,i3⟩:=looks_end (fs:=fs) (e:=e0) (ns:=[]) hj (fun i hi=>by rw [show ([]:Ns).length + i = i from Nat.zero_add i]; exact hm i hi) (by rw [show ([]:Ns).length + j = j from Nat.zero_add j]; exact h1)
  unfold listX
  rw [ev,if_neg (by rw [i2]; decide)]
  refine ⟨?_,i1⟩
  have:=i3 (.mk (.made (.num 0)) [])
  rw [show ([]:Ns).length + j = j from Nat.zero_add j] at this
  exact this
theorem list_stop (hlen:names.length≤founds.length) {j:Nat} (hj:j < names.length) (hm:∀ i < j,∃ y,founds[i]? = some (.made y)):(ev (founds.take j) (listX names) e0 []).1.res = .stop∧(ev (founds.take j) (listX names) e0 []).2 = names.take (j + 1):=by
  have hs:=found_stop (founds:=founds) (j:=j) (by omega)
  have:=list_end (fs:=founds.take j) hj (fun i hi=>by
    obtain ⟨y,hy⟩:=hm i hi
    rw [found_take hi (by omega),hy]
    rfl) (by rw [hs]; rfl)
  rw [hs] at this
  exact this
theorem beh_listW (h8:names.length≤8) (hlen:names.length = founds.length) {k:Nat} (hk:k < names.length) {ws:List W} (hw:founds[k]? = some (.wrong ws)) (ok:OutOk (.wrong ws)) (hm:∀ i < k,∃ y,founds[i]? = some (.made y)):Beh (listX names) (names.take (k + 1)) founds (.wrong ws):=by
  have hl:(names.take (k + 1)).length = k + 1:=by rw [List.length_take]; omega
  refine ⟨list_high,by omega,ok.ne,ok.th,Nat.le_trans ok.dp (by decide),list_fine h8,fun j hj=>?_,fun fs hp=>?_⟩
  · rw [hl] at hj
    have:=list_stop (names:=names) (founds:=founds) (by omega) (j:=j) (by omega) fun i hi=>hm i (by omega)
    refine ⟨this.1,?_⟩
    rw [this.2,List.take_take,show min (j + 1) (k + 1) = j + 1 by omega]
  · rw [hl] at hp
    have hul:(founds.take (k + 1)).length = k + 1:=by rw [List.length_take]; omega
    have hf:found fs k = .wrong ws:=by
      rw [found_pre hp (by omega),List.getElem?_take_of_lt (by omega),hw]
      rfl
    have:=list_end (names:=names) (fs:=fs) hk (fun i hi=>by
      obtain ⟨y,hy⟩:=hm i hi
      rw [found_pre hp (by omega),List.getElem?_take_of_lt (by omega),hy]
      rfl) (by rw [hf]; rfl)
    rw [hf] at this
    exact this
end
end D
set_option Elab.async false
set_option linter.all false
set_option maxRecDepth 100000
set_option maxHeartbeats 4000000
namespace D
open PySem L2
mutual
theorem fits_ok:∀ x:W,x.Ok→fitsW x = true
  | .num i,h=>decide_eq_true ⟨h.1,h.2⟩
  | .txt z,h=>decide_eq_true h.1
  | .lst ws,h=>by
    have h1:ws.length≤60:=h.1
    have h2:Oks ws:=h.2
    simp only [fitsW,decide_eq_true h1,fitss_ok ws h2,Bool.and_self]
theorem fitss_ok:∀ ws:List W,Oks ws→fitsWs ws = true
  | [],_=>rfl
  | x :: r,h=>by simp only [fitsWs,fits_ok x h.1,fitss_ok r h.2,Bool.and_self]
end
theorem good_ok {x:W} (h:x.Ok) (hs:x.size≤1000) (hd:x.depth≤12):goodW x = true:=by
  unfold goodW
  rw [fits_ok x h,decide_eq_true hs,decide_eq_true (show (x.depth:Int)≤12 by omega)]
  rfl
theorem rec_made {x:W} (h:goodW x = true):resOf (madeW x) = .made x:=by unfold madeW; rw [if_pos h]; rfl
def resW:Res→W
  | .made x=>x
  | _=>.num 0
theorem worth_res:∀ r:R,r.worth = resW r.res
  | .mk (.made _) _=>rfl
  | .mk (.wrong _) _=>rfl
  | .mk .stop _=>rfl
structure Sm (y:W):Prop where
  ok:y.Ok
  dp:y.depth≤3
  sz:y.size≤96
theorem sms_ok:∀ {ys:List W},(∀ y∈ys,Sm y)→Oks ys∧depths ys≤3∧sizes ys≤96 * ys.length
  | [],_=>⟨trivial,Nat.zero_le _,by simp [sizes]⟩
  | y :: ys,h=>by
    have h1:=h y List.mem_cons_self
    obtain ⟨i1,i2,i3⟩:=sms_ok fun z hz=>h z (List.mem_cons_of_mem _ hz)
    refine ⟨⟨h1.ok,i1⟩,?_,?_⟩
    · have:=h1.dp
      simp only [depths]
      omega
    · have:=h1.sz
      simp only [sizes,List.length_cons]
      omega
theorem good_sms {ys:List W} (h:∀ y∈ys,Sm y) (h10:ys.length≤10):goodW (.lst ys) = true:=by
  obtain ⟨h1,h2,h3⟩:=sms_ok h
  refine good_ok ⟨by omega,h1⟩ ?_ ?_
  · simp only [W.size]
    omega
  · simp only [W.depth]
    omega
theorem th_sms {ys:List W} (h:∀ y∈ys,Sm y) (h10:ys.length≤10):(Res.made (.lst ys)).toW.Th:=⟨by show 2≤1000; decide,th_made',⟨by omega,ths_of _ (sms_ok h).1⟩,trivial⟩
theorem dp_sms {ys:List W} (h:∀ y∈ys,Sm y):(Res.made (.lst ys)).toW.depth≤20:=by
  have:=(sms_ok h).2.1
  simp only [Res.toW,W.depth,depths]
  omega
theorem beh_listM {names:Ns}{ys:List W} (h8:names.length≤8) (hlen:ys.length = names.length) (hy:∀ y∈ys,Sm y):Beh (listX names) names (ys.map .made) (.made (.lst ys)):=by
  have hat:∀ i (hi:i < ys.length),(ys.map Res.made)[i]? = some (.made ys[i]):=fun i hi=>by rw [List.getElem?_map,List.getElem?_eq_getElem hi]; rfl
  refine ⟨list_high,by rw [List.length_map]; omega,(fun z=>nomatch z),th_sms hy (by omega),dp_sms hy,list_fine h8,fun j hj=>?_,fun fs hp=>?_⟩
  · exact list_stop (by rw [List.length_map]; omega) hj fun i hi=>⟨_,hat i (by omega)⟩
  · have hp:ys.map Res.made <+: fs:=by
      rw [List.take_of_length_le (by rw [List.length_map]; omega)] at hp
      exact hp
    have hf:∀ i (hi:i < ys.length),found fs i = .made ys[i]:=fun i hi=>by
      rw [found_pre hp (by rw [List.length_map]; omega),hat i hi]
      rfl
    obtain ⟨i1,i2,i3⟩:=looks_made (fs:=fs) (e:=e0) (names:=names) (ns:=[]) fun i hi=>by
      rw [show ([]:Ns).length + i = i from Nat.zero_add i,hf i (by omega)]
      rfl
    have hw:(evs fs (names.map lk) e0 []).1.map R.worth = ys:=by
      have e1:(evs fs (names.map lk) e0 []).1.map R.worth = ((evs fs (names.map lk) e0 []).1.map R.res).map resW:=by
        rw [List.map_map]
        exact List.map_congr_left fun r _=>worth_res r
      rw [e1,i3,List.map_map]
      refine List.ext_getElem (by rw [List.length_map,List.length_range]; omega) fun i h1 h2=>?_
      rw [List.getElem_map,List.getElem_range]
      show resW (found fs (([]:Ns).length + i)) = _
      rw [show ([]:Ns).length + i = i from Nat.zero_add i,hf i h2]
      rfl
    unfold listX
    rw [ev,if_pos i2,hw]
    refine ⟨?_,i1⟩
    show resOf (madeW (.lst ys)) = _
    exact rec_made (good_sms hy (by omega))
end D
set_option Elab.async false
set_option linter.all false
set_option maxRecDepth 100000
set_option maxHeartbeats 4000000
namespace L2
open PySem
theorem rd_drawR {fr:List Nat}{te:TE}{σ:St}{H:Hp}{F:Addr→Hp→List V→Prop}{n:Int} (Pv:Nat→List V→Hp→Prop) (h0:Pv 0 [] H) (hlen:∀ i us H1,Pv i us H1→us.length = i) (hn:n.toNat≤1000000)
    (step:∀ (i:Nat) (us:List V) (H1:Hp) (R:VK),i < n.toNat→Pv i us H1→(∀ y H2,Pv (i + 1) (us ++ [y]) H2→R y H2)→te (some (.int (0 + (i:Int))) :: frees fr σ) H1 R)
    (fin:∀ (us:List V) (H1:Hp) (D:Addr),Pv n.toNat us H1→H1 D = none→F D H1 us):
    ∃ W:Nat→Nat→List V→Hp→Prop,(∃ m,W 0 m [] H)∧∀ i m us H,W i m us H→us.length≤sizeLine ∧
      (((Itr 0 n.toNat).stop i H∧∀ D,H D = none→F D H us) ∨
       ((Itr 0 n.toNat).go i H∧∀ v H',(Itr 0 n.toNat).yld i H v H'→if true = true then te (some v :: frees fr σ) H' fun y H3=>∃ m',m' < m∧W (i + 1) m' (us ++ [y]) H3 else ∃ m',m' < m∧W (i + 1) m' us H')):=by
  refine ⟨fun i m us H1=>i≤n.toNat∧m = n.toNat - i∧Pv i us H1,⟨_,Nat.zero_le _,rfl,h0⟩,fun i m us H1 hW=>?_⟩
  obtain ⟨hi,hm,hu⟩:=hW
  have hz:(1000000:Nat)≤sizeLine:=by decide
  refine ⟨by rw [hlen _ _ _ hu]; omega,?_⟩
  by_cases hlt:i < n.toNat
  · refine .inr ⟨hlt,fun v H' hy=>?_⟩
    obtain ⟨rfl,rfl⟩:=hy
    refine iteT ?_
    exact step i us H' _ hlt hu fun y H2 p2=>⟨n.toNat - (i + 1),by omega,by omega,rfl,p2⟩
  · have e:i = n.toNat:=by omega
    subst e
    exact .inl ⟨Nat.le_refl _,fun D hD=>fin us H1 D hu hD⟩
theorem rd_drawL {K:PySem.W.Frag}{fr:List Nat}{te:TE}{σ:St}{H:Hp}{F:Addr→Hp→List V→Prop}{a:Addr}{vs:List V} (Pv:Nat→List V→Hp→Prop) (hz:vs.length≤sizeLine) (h0:Pv 0 [] H) (hlen:∀ i us H1,Pv i us H1→us.length = i) (hS:∀ i us H1,Pv i us H1→SqL K H1 a vs)
    (step:∀ (i:Nat) (v:V) (us:List V) (H1:Hp) (R:VK),vs[i]? = some v→Pv i us H1→(∀ y H2,Pv (i + 1) (us ++ [y]) H2→R y H2)→te (some v :: frees fr σ) H1 R)
    (fin:∀ (us:List V) (H1:Hp) (D:Addr),Pv vs.length us H1→H1 D = none→F D H1 us):
    ∃ W:Nat→Nat→List V→Hp→Prop,(∃ m,W 0 m [] H)∧∀ i m vs H,W i m vs H→vs.length≤sizeLine ∧
      (((Itl K a).stop i H∧∀ D,H D = none→F D H vs) ∨
       ((Itl K a).go i H∧∀ v H',(Itl K a).yld i H v H'→if true = true then te (some v :: frees fr σ) H' fun y H3=>∃ m',m' < m∧W (i + 1) m' (vs ++ [y]) H3 else ∃ m',m' < m∧W (i + 1) m' vs H')):=by
  refine ⟨fun i m us H1=>i≤vs.length∧m = vs.length - i∧Pv i us H1,⟨_,Nat.zero_le _,rfl,h0⟩,fun i m us H1 hW=>?_⟩
  obtain ⟨hi,hm,hu⟩:=hW
  have sq:=hS _ _ _ hu
  refine ⟨by rw [hlen _ _ _ hu]; omega,?_⟩
  by_cases hlt:i < vs.length
  · refine .inr ⟨⟨vs,vs[i],sq,List.getElem?_eq_getElem hlt⟩,fun v H' hy=>?_⟩
    obtain ⟨rfl,hv⟩:=hy
    have hv:=hv vs sq
    refine iteT ?_
    exact step i v us H' _ hv hu fun y H2 p2=>⟨vs.length - (i + 1),by omega,by omega,rfl,p2⟩
  · have e:i = vs.length:=by omega
    subst e
    exact .inl ⟨⟨vs,sq,by omega⟩,fun D hD=>fin us H1 D hu hD⟩
end L2
namespace D
open PySem L2
def spBuild (K:PySem.W.Frag):Sp:=fun vs H Q _=>∃ b:Addr,vs = [.ref b]∧IsBox H b∧∀ (p lN lF:Addr) (u dv:V) (vf:List V) (X:Ex) (names:Ns) (founds:List Res) (due:Res) (H':Hp),
  H' p = some (.tup [u,.ref lN,.ref lF,dv])→RW H' u X.toW→H' lN = some (.lst (names.map V.str))→H' lF = some (.lst vf)→RWs H' vf (founds.map Res.toW)→(∀ r∈founds,OutOk r)→founds.length≤20→(∀ s∈names,Nm 100 s)→RW H' dv due.toW→Beh X names founds due→lN≠b→lF≠b→Step b H H'→Q (.ref p) H'
end D
set_option Elab.async false
set_option linter.all false
set_option maxRecDepth 100000
set_option maxHeartbeats 4000000
namespace D
open PySem L2
theorem cut_take {vs:List V}{i:Nat} (h:i + 1≤vs.length):cutV vs none (some (0 + (i:Int) + 1)) = vs.take (i + 1):=by
  rw [show (0 + (i:Int) + 1) = ((i + 1:Nat):Int) by omega]
  show (vs.drop 0).take (HT.sIx vs.length vs.length (some ((i + 1:Nat):Int)) - 0) = _
  rw [HT.sIx_nat,Nat.min_eq_left h,Nat.sub_zero,List.drop_zero]
theorem exWs_map (g:Str→Ex):∀ l:Ns,exWs (l.map g) = l.map fun s=>(g s).toW
  | []=>by simp only [List.map_nil,exWs]
  | a :: l=>by simp only [List.map_cons,exWs,exWs_map g l]
theorem listX_w (names:Ns):(listX names).toW = .lst (.txt "list" :: names.map fun s=>(lk s).toW):=by
  unfold listX
  rw [Ex.toW,exWs_map]
  rfl
theorem lk_w (s:Str):(lk s).toW = .lst [.txt "look",.lst [.txt "lit",.txt s]]:=by
  unfold lk
  simp only [Ex.toW]
theorem RWs.cons' {H:Hp}{u:V}{us:List V}{x:W}{ws:List W} (h:RW H u x) (hs:RWs H us ws):RWs H (u :: us) (x :: ws):=⟨by rw [List.length_cons,List.length_cons,hs.len],fun i v y a b=>match i,a,b with
    | 0,a,b=>by
      obtain rfl:u = v:=by simpa using a
      obtain rfl:x = y:=by simpa using b
      exact h
    | j + 1,a,b=>hs.at' j v y (by simpa using a) (by simpa using b)⟩
section
variable {P:Program}{w:World}{K:PySem.W.Frag}{mg:Str→Option Value}{base:Heap}{f:Addr}{fd:FuncData}{k n:Nat}
theorem sc_llist:FnScope ["_law_box_here","_law_names","_law_founds","_law_rule","_law_worths","_law_k"] ["_law_box_here"] (defScope s_llist):=⟨rfl,rfl,rfl,by decide +kernel,rfl,by decide +kernel,by decide +kernel⟩
theorem ok_llist (F:Fun K "_law_list" "_law_list" s_llist f fd) (G_ltake:Have P w K mg base "_law_take" k ["_law_box_here","_law_wide"] (spTake)) (G_loutcome:Have P w K mg base "_law_outcome" k ["_law_box_here"] (spOut)) (G_lname:Have P w K mg base "_law_name" k ["_law_box_here"] (spName)) (m_len:mg "len" = none) (m_range:mg "range" = none) (m_tuple:mg "tuple" = none):FnOk P w K mg base CX0 (k + 1) f fd ["_law_box_here"] (spBuild K):=by
  refine F.okQ sc_llist (fun vs H Q E h=>?_) (fun cdv A outer s H vs Q E hr h=>?_)
  · obtain ⟨b,rfl,_⟩:=h
    rfl
  obtain ⟨b,rfl,hb,q⟩:=h
  refine ⟨_,(pss_cons (ps_lset (i:=1) [0] ["_law_box_here"] rfl rfl (by decide +kernel) rfl (by decide +kernel) rfl (by decide +kernel) ⟨rfl,trivial⟩ rfl ⟨⟨rfl,rfl,Or.inr (Or.inl rfl),(by show (some NameKind.cell:Option NameKind)≠some .local; decide),⟨_,rfl⟩⟩,trivial⟩ (pi_range1 rfl m_range (pa_cons (pe_fn G_ltake hr rfl (pa_cons (pv 0) (pa_cons pe_int pa_nil))) pa_nil)) (fun C s H fp=>⟨pifs_nil,(pe_fn G_lname hr rfl (pa_cons (pv 1) pa_nil))⟩) sc_llist.nd rfl (Or.inl rfl))
    (pss_cons (ps_lset (i:=2) [0] ["_law_box_here"] rfl rfl (by decide +kernel) rfl (by decide +kernel) rfl (by decide +kernel) ⟨rfl,trivial⟩ rfl ⟨⟨rfl,rfl,Or.inr (Or.inl rfl),(by show (some NameKind.cell:Option NameKind)≠some .local; decide),⟨_,rfl⟩⟩,trivial⟩ (pi_list (pv 1)) (fun C s H fp=>⟨pifs_nil,(pe_fn G_loutcome hr rfl (pa_cons (pv 1) pa_nil))⟩) sc_llist.nd rfl (Or.inl rfl))
    (pss_cons (ps_set (i:=3) sc_llist.nd rfl (Or.inl rfl) (pe_op op_catT (pe_tup (pa_cons pe_str pa_nil)) (pe_callTy call_tuple_of rfl m_tuple boot_tupleT (pa_cons (pe_lcomp [] [] rfl rfl (by decide +kernel) rfl (by decide +kernel) rfl (by decide +kernel) trivial rfl trivial (pi_list (pv 1)) (fun C s H fp=>⟨pifs_nil,(pe_tup (pa_cons pe_str (pa_cons (pe_tup (pa_cons pe_str (pa_cons (pv 0) pa_nil))) pa_nil)))⟩)) pa_nil))))
    (pss_cons (ps_if (PW.pt (pw_and (pt_cmpR op_eq (pe_fn G_ltake hr rfl (pa_cons (pv 0) (pa_cons pe_int pa_nil))) pe_int (nomark _)) (pw_and1 (pt_cmpR op_lt pe_int (pe_callB call_len rfl m_len PySem.boot_len (pa_cons (pv 1) pa_nil)) (nomark _))))) (pss_one (ps_set (i:=2) sc_llist.nd rfl (Or.inl rfl) (pe_op op_cat (pe_lcomp [] [] rfl rfl (by decide +kernel) rfl (by decide +kernel) rfl (by decide +kernel) trivial rfl trivial (pi_range1 rfl m_range (pa_cons (pe_op op_sub (pe_callB call_len rfl m_len PySem.boot_len (pa_cons (pv 1) pa_nil)) pe_int) pa_nil)) (fun C s H fp=>⟨pifs_nil,(pe_tup (pa_cons pe_str (pa_cons (pv 0) pa_nil)))⟩)) (pe_lst (pa_cons (pe_fn G_loutcome hr rfl (pa_cons (pv 0) pa_nil)) pa_nil))))) pss_nil)
    (pss_cons (ps_set (i:=4) sc_llist.nd rfl (Or.inl rfl) (pe_lst pa_nil))
    (pss_cons (ps_for PassesOwn.never rfl (pi_range1 rfl m_range (pa_cons (pe_callB call_len rfl m_len PySem.boot_len (pa_cons (pv 1) pa_nil)) pa_nil)) (pg_name (i:=5) sc_llist.nd rfl (Or.inl rfl)) (pss_cons (ps_if (pt_cmpR op_eq (pe_ix ix_tup (pe_ix ix_list (pv 2) (pv 5) (fun _ _=>rfl)) pe_int (fun _ _=>rfl)) pe_str (nomark _)) (pss_one (ps_ret (pe_tup (pa_cons (pv 3) (pa_cons (pe_slice sl_list (pv 1) po_none (po_some (pe_op op_add (pv 5) pe_int))) (pa_cons (pv 2) (pa_cons (pe_ix ix_list (pv 2) (pv 5) (fun _ _=>rfl)) pa_nil))))))) pss_nil)
    (pss_one (ps_expr (pe_bm PySem.F.plainAttrs_list PySem.F.slot_list_append PySem.F.type_list_append mt_append (pv 4) (pa_cons (pe_ix ix_tup (pe_ix ix_list (pv 2) (pv 5) (fun _ _=>rfl)) pe_int (fun _ _=>rfl)) pa_nil))))))
    (pss_one (ps_ret (pe_tup (pa_cons (pv 3) (pa_cons (pv 1) (pa_cons (pv 2) (pa_cons (pe_tup (pa_cons pe_str (pa_cons (pe_callTy call_tuple_of rfl m_tuple boot_tupleT (pa_cons (pv 4) pa_nil)) pa_nil))) pa_nil))))))))))))),?_⟩
  refine ⟨_,rfl,b,9,rfl,hb,by decide,by decide,fun n H1 n0 n1 st1=>?_⟩
  refine ⟨n,rfl,by omega,by omega,rd_drawR (n:=n) (fun i us H'=>∃ names:Ns,us = names.map V.str∧names.length = i∧(∀ s∈names,Nm 12 s)∧Step b H H') ⟨[],rfl,rfl,(fun s h=>nomatch h),st1⟩ (fun i us H' h=>?_) (by omega) (fun i us H' R hi h r=>?_) (fun us H' D h hD=>?_)⟩
  · obtain ⟨names,rfl,hl,_⟩:=h
    rw [List.length_map]
    exact hl
  · obtain ⟨names,rfl,hl,hnm,st⟩:=h
    refine ⟨_,rfl,b,rfl,st.box,fun z H2 hz st2=>r _ _ ⟨names ++ [z],by rw [List.map_append]; rfl,by rw [List.length_append,hl]; rfl,fun s hs=>?_,st.trans st2⟩⟩
    rcases List.mem_append.mp hs with hs | hs
    · exact hnm s hs
    · rw [List.mem_singleton.mp hs]; exact hz
  obtain ⟨names,rfl,hl,hnm,st2⟩:=h
  have eN:upd H' D (.lst (names.map V.str)) D = some (.lst (names.map V.str)):=upd_same
  have st3:=st2.trans (Step.new (o:=.lst (names.map V.str)) st2.box hD)
  have nDb:D≠b:=by
    obtain ⟨_,_,_,e'⟩:=st2.box
    exact (ne_of_none e' hD).symm
  have hl8:names.length≤8:=by omega
  generalize upd H' D (.lst (names.map V.str)) = H2 at eN st3
  refine ⟨_,rfl,D,rfl,⟨_,SqL.of eN⟩,rd_drawL (K:=K) (a:=D) (vs:=names.map V.str) (fun i us H''=>∃ founds:List Res,RWs H'' us (founds.map Res.toW)∧founds.length = i∧(∀ r∈founds,OutOk r)∧Step b H H''∧H'' D = some (.lst (names.map V.str))) (Nat.le_of_lt (small1000 (by rw [List.length_map]; omega))) ⟨[],⟨rfl,fun i v w e=>by simp at e⟩,rfl,(fun s h=>nomatch h),st3,eN⟩ (fun i us H' h=>?_) (fun i us H' h=>?_) (fun i v us H' R hv h r=>?_) (fun us H' D2 h hD2=>?_)⟩
  · obtain ⟨founds,hw,hl,_⟩:=h
    rw [hw.len,List.length_map]
    exact hl
  · obtain ⟨_,_,_,_,_,e⟩:=h
    exact SqL.of e
  · obtain ⟨founds,hw,hl,hok,st,eD⟩:=h
    refine ⟨_,rfl,b,rfl,st.box,fun v x H3 rx okx st4=>r _ _ ⟨founds ++ [x],?_,by rw [List.length_append,hl]; rfl,fun s hs=>?_,st.trans st4,st4.keep _ _ nDb eD⟩⟩
    · rw [List.map_append]
      exact (hw.mono (st4.tups st.box)).snoc rx
    · rcases List.mem_append.mp hs with hs | hs
      · exact hok s hs
      · rw [List.mem_singleton.mp hs]; exact okx
  obtain ⟨founds,hw,hfl,hok,st4,eN4⟩:=h
  have eF:upd H' D2 (.lst us) D2 = some (.lst us):=upd_same
  have s5:=Same.new (o:=.lst us) hD2
  have st5:=st4.trans (Step.ofSame st4.box s5)
  have eN5:=s5 _ _ eN4
  have hw5:=hw.mono (same_tups s5)
  have nFb:D2≠b:=by
    obtain ⟨_,_,_,e'⟩:=st4.box
    exact (ne_of_none e' hD2).symm
  have nFN:D2≠D:=(ne_of_none eN4 hD2).symm
  rw [List.length_map] at hfl
  generalize upd H' D2 (.lst us) = H5 at eF st5 eN5 hw5
  dsimp only [gName]
  refine seqI (fun σ' H''=>∃ ra,σ' = [some (.ref b),some (.ref D),some (.ref D2),some (.ref ra),none,none]∧Same H5 H''∧RW H'' (.ref ra) (listX names).toW) (fun σ' H6 h6=>?_) (fun tl=>?_)
  rotate_left
  · have hX:=listX_w names
    refine ⟨(by show 1≤sizeLine; decide),fun p1 hp1=>?_⟩
    have s6:=Same.new (o:=.tup [.str "list"]) hp1
    have ep1:upd H5 p1 (.tup [.str "list"]) p1 = some (.tup [.str "list"]):=upd_same
    have eN6:=s6 _ _ eN5
    generalize upd H5 p1 (.tup [.str "list"]) = H6 at s6 ep1 eN6
    refine ⟨_,rfl,D,rfl,⟨_,SqL.of eN6⟩,?_⟩
    refine rd_bodyLP (K:=K) (vs:=names.map V.str) (fun i us H1=>us.length = i∧RWs H1 us ((names.take i).map fun s=>(lk s).toW)) (SqL.of eN6) (Nat.le_of_lt (small1000 (by rw [List.length_map]; omega))) ⟨rfl,rfl,fun i v w e=>by simp at e⟩ (fun i us H1 h=>h.1) (fun i v us H1 R hv hP sm r=>?_) (fun us H1 D3 hP sm hD3=>?_)
    · rw [List.getElem?_map] at hv
      obtain ⟨z,hz,rfl⟩:=Option.map_eq_some_iff.mp hv
      refine ⟨_,rfl,(by show 2≤sizeLine; decide),fun q1 hq1=>⟨(by show 2≤sizeLine; decide),fun q2 hq2=>?_⟩⟩
      have t1:=Same.new (o:=.tup [.str "lit",.str z]) hq1
      have t2:=Same.new (o:=.tup [.str "look",.ref q1]) hq2
      have t12:=t1.trans t2
      refine r _ _ t12 ⟨by rw [List.length_append,hP.1]; rfl,?_⟩
      rw [take_snoc hz,List.map_append]
      refine (hP.2.mono (same_tups t12)).snoc ?_
      show RW _ _ (lk z).toW
      rw [lk_w]
      exact RW.two upd_same (.txt _) (RW.two (t2 _ _ upd_same) (.txt _) (.txt _))
    · refine ⟨D3,us,rfl,.inl ⟨SqL.of upd_same,fun t ht=>?_⟩⟩
      have t1:=Same.new (o:=.lst us) hD3
      have t2:=Same.new (o:=.tup us) ht
      have t12:=t1.trans t2
      have hus:=hP.2.mono (same_tups t12)
      have et:upd (upd H1 D3 (.lst us)) t (.tup us) t = some (.tup us):=upd_same
      have ep1':=t12 _ _ (sm _ _ ep1)
      have sAll:=s6.trans (sm.trans t12)
      generalize upd (upd H1 D3 (.lst us)) t (.tup us) = H7 at hus et ep1' sAll
      rw [List.length_map,List.take_length] at hus
      have hul:=hus.len
      rw [List.length_map] at hul
      refine ⟨p1,t,[.str "list"],us,rfl,rfl,SqT.of ep1',SqT.of et,by simp,Nat.le_of_lt (small1000 (by simp; omega)),fun hnil=>?_,fun _ p2 hp2=>?_⟩
      · subst hnil
        refine tl _ _ ⟨p1,rfl,sAll,?_⟩
        rw [hX]
        exact .lst ep1' (by rw [List.length_cons,List.length_cons,List.length_map,← hul]) (RWs.cons' (.txt _) hus).at'
      · have t3:=Same.new (o:=.tup ([.str "list"] ++ us)) hp2
        refine tl _ _ ⟨p2,rfl,sAll.trans t3,?_⟩
        rw [hX]
        have:=RWs.cons' (RW.txt (H:=upd H7 p2 (.tup ([.str "list"] ++ us))) "list") (hus.mono (same_tups t3))
        exact .lst upd_same this.len this.at'
  obtain ⟨ra,rfl,s6,rX⟩:=h6
  have st6:=st5.trans (Step.ofSame st5.box s6)
  have eN6:=s6 _ _ eN5
  have eF6:=s6 _ _ eF
  have hw6:=hw5.mono (same_tups s6)
  refine seqI (fun σ' H''=>∃ (lF:Addr) (vf:List V) (fs':List Res),σ' = [some (.ref b),some (.ref D),some (.ref lF),some (.ref ra),none,none]∧Step b H H''∧H'' D = some (.lst (names.map V.str))∧H'' lF = some (.lst vf)∧RWs H'' vf (fs'.map Res.toW)∧fs'.length = names.length∧(∀ r∈fs',OutOk r)∧RW H'' (.ref ra) (listX names).toW∧lF≠b) (fun σ' H7 h7=>?_) (fun tl=>?_)
  rotate_left
  · refine ⟨_,rfl,b,2,rfl,st6.box,by decide,by decide,fun r H7 r0 r1 st7=>?_⟩
    have tp:=st7.tups st6.box
    have eN7:=st7.keep _ _ nDb eN6
    have eF7:=st7.keep _ _ nFb eF6
    have stA:=st6.trans st7
    have same:_:=tl _ H7 ⟨D2,us,founds,rfl,stA,eN7,eF7,hw6.mono tp,hfl,hok,rX.mono tp,nFb⟩
    refine ⟨rfl,_,rfl,ite2 (fun _=>?_) (fun _=>same)⟩
    refine ⟨_,rfl,_,_,rfl,.inl ⟨_,SqL.of eN7,rfl⟩,_,_,rfl,rfl,_,rfl,ite2 (fun c1=>?_) (fun _=>same)⟩
    have hl1:1 < names.length:=by
      have:=of_decide_eq_true c1
      rw [List.length_map] at this
      omega
    have hnl:(names.map V.str).length = names.length:=List.length_map _
    refine ⟨_,rfl,_,_,rfl,.inl ⟨_,SqL.of eN7,rfl⟩,_,_,rfl,rfl,_,rfl,by omega,by omega,rd_drawR (n:=((names.map V.str).length:Int) - 1) (fun i us H'=>Same H7 H'∧us.length = i∧RWs H' us ((List.range i).map fun k:Nat=>(Res.made (.num (k:Int))).toW)) ⟨Same.refl _,rfl,rfl,fun i v w e=>by simp at e⟩ (fun i us H' h=>h.2.1) (by omega) (fun i us H' R hi h r=>?_) (fun us9 H9 D4 h hD4=>?_)⟩
    · obtain ⟨sm,hl',hw'⟩:=h
      refine ⟨_,rfl,(by show 2≤sizeLine; decide),fun q1 hq1=>?_⟩
      have t1:=Same.new (o:=.tup [.str "made",.int (0 + (i:Int))]) hq1
      refine r _ _ ⟨sm.trans t1,by rw [List.length_append,hl']; rfl,?_⟩
      rw [List.range_succ,List.map_append]
      refine (hw'.mono (same_tups t1)).snoc ?_
      show RW _ _ (.lst [.txt "made",.num (i:Int)])
      refine RW.two upd_same (.txt _) ?_
      rw [Int.zero_add]
      exact .num _
    · obtain ⟨sm,hl',hw'⟩:=h
      have t1:=Same.new (o:=.lst us9) hD4
      have st9:=stA.trans (Step.ofSame stA.box (sm.trans t1))
      have eD4:upd H9 D4 (.lst us9) D4 = some (.lst us9):=upd_same
      have hw9:=hw'.mono (same_tups t1)
      have s79:=sm.trans t1
      have nD4:D4≠b:=by
        obtain ⟨_,_,_,e'⟩:=(stA.trans (Step.ofSame stA.box sm)).box
        exact (ne_of_none e' hD4).symm
      generalize upd H9 D4 (.lst us9) = H10 at st9 eD4 hw9 s79
      refine ⟨_,rfl,b,rfl,st9.box,fun v x H11 rx okx st11=>⟨(by show 1≤sizeLine; decide),fun D5 hD5=>?_⟩⟩
      have t2:=Same.new (o:=.lst [v]) hD5
      have st12:=(st9.trans st11).trans (Step.ofSame st11.box t2)
      have tp11:=st11.tups st9.box
      refine ⟨D4,D5,us9,[v],rfl,rfl,t2 _ _ (st11.keep _ _ nD4 eD4),upd_same,?_,fun D6 hD6=>?_⟩
      · rw [hl',List.length_singleton]
        have:(1000000:Nat)≤sizeLine:=by decide
        omega
      · have t3:=Same.new (o:=.lst (us9 ++ [v])) hD6
        have t23:=t2.trans t3
        have hm:(((names.map V.str).length:Int) - 1).toNat = names.length - 1:=by omega
        refine tl _ _ ⟨D6,us9 ++ [v],((List.range (names.length - 1)).map fun k:Nat=>Res.made (.num (k:Int))) ++ [x],rfl,st12.trans (Step.ofSame st12.box t3),t23 _ _ (st11.keep _ _ nDb (s79 _ _ eN7)),upd_same,?_,?_,fun r hr=>?_,((((rX.mono tp).mono (same_tups s79)).mono tp11).mono (same_tups t23)),?_⟩
        · rw [List.map_append,List.map_map]
          rw [hm] at hw9
          exact ((hw9.mono tp11).mono (same_tups t23)).snoc (rx.mono (same_tups t23))
        · rw [List.length_append,List.length_map,List.length_range,List.length_singleton]
          omega
        · rcases List.mem_append.mp hr with hr | hr
          · obtain ⟨k,hk,rfl⟩:=List.mem_map.mp hr
            have hk:=List.mem_range.mp hk
            have:(10:Int) ^ 60 > 1000:=by decide
            exact ⟨⟨by omega,by omega⟩,Nat.zero_le _,by show (1:Int)≤96; decide⟩
          · rw [List.mem_singleton.mp hr]; exact okx
        · obtain ⟨_,_,_,e'⟩:=st12.box
          exact (ne_of_none e' hD6).symm
  obtain ⟨lF,vf,fs',rfl,st7,eN7,eF7,hw7,hfl7,hok7,rX7,nFb7⟩:=h7
  have hvf:=hw7.len
  rw [List.length_map] at hvf
  refine ⟨(by show 0≤sizeLine; decide),fun lw hlw=>?_⟩
  have s8:=Same.new (o:=.lst []) hlw
  refine ⟨_,rfl,_,_,rfl,.inl ⟨_,SqL.of (s8 _ _ eN7),rfl⟩,_,rfl,by rw [List.length_map]; omega,by rw [List.length_map]; omega,for_range (fun i σ' H'=>∃ (o5:Option V) (ys:List W) (vs2:List V),σ' = [some (.ref b),some (.ref D),some (.ref lF),some (.ref ra),some (.ref lw),o5]∧Same H7 H'∧H' lw = some (.lst vs2)∧RWs H' vs2 ys∧fs'.take i = ys.map .made∧ys.length = i) ⟨none,[],[],rfl,s8,upd_same,⟨rfl,fun i v w e=>by simp at e⟩,rfl,rfl⟩ (fun i σ' H' hi h=>?_) (fun σ' H' h=>?_)⟩
  · obtain ⟨o5,ys,vs2,rfl,sm,ew,hys,htk,hyl⟩:=h
    have hin:i < names.length:=by rw [List.length_map] at hi; omega
    have hvi:vf[i]? = some vf[i]:=List.getElem?_eq_getElem (by omega)
    have hri:fs'[i]? = some fs'[i]:=List.getElem?_eq_getElem (by omega)
    have hati:atI vf (0 + (i:Int)) = some vf[i]:=by rw [Int.zero_add]; exact atI_nat hvi
    have rv:RW H7 vf[i] (fs'[i]).toW:=hw7.at' i _ _ hvi (by rw [List.getElem?_map,hri]; rfl)
    have hoki:=hok7 _ (List.getElem_mem (by omega:i < fs'.length))
    have hmade:∀ j < i,∃ y,fs'[j]? = some (.made y):=fun j hj=>by
      have e1:(fs'.take i)[j]? = fs'[j]?:=List.getElem?_take_of_lt hj
      rw [htk,List.getElem?_map,List.getElem?_eq_getElem (by omega)] at e1
      exact ⟨_,e1.symm⟩
    generalize hui:vf[i] = ui at hvi hati rv
    cases hr:fs'[i] with
    | stop=>rw [hr] at hoki; exact hoki.elim
    | made y=>
      rw [hr] at rv
      have rv:RW H7 ui (.lst [.txt "made",y]):=rv
      obtain ⟨t,us9,rfl,et,hw9⟩:=rv.tup
      obtain ⟨u0,us9,rfl,r0,hw9⟩:=hw9.cons
      obtain ⟨u1,us9,rfl,r1,hw9⟩:=hw9.cons
      obtain rfl:=hw9.nil'
      obtain rfl:=r0.str
      refine ⟨_,rfl,_,rfl,lF,vf,_,_,rfl,rfl,SqL.of (sm _ _ eF7),hati,t,_,0,_,rfl,rfl,SqT.of (sm _ _ et),atI_nat (j:=0) rfl,rfl,_,rfl,?_⟩
      rw [show decide (V.str "made" = V.str "wrong") = false from decide_eq_false (fun z=>absurd (V.str.inj z) (by decide +kernel))]
      refine iteF ⟨_,rfl,.inl ⟨rfl,_,SqL.of ew⟩,_,rfl,_,rfl,lF,vf,_,_,rfl,rfl,SqL.of (sm _ _ eF7),hati,t,_,1,u1,rfl,rfl,SqT.of (sm _ _ et),atI_nat (j:=1) rfl,lw,vs2,u1,rfl,rfl,ew,small1000 (by rw [hys.len]; omega),?_⟩
      have kb:Kb lw H' (upd H' lw (.lst (vs2 ++ [u1]))):=Kb.put
      refine ⟨_,ys ++ [y],vs2 ++ [u1],rfl,fun c o ec=>?_,upd_same,?_,?_,by rw [List.length_append,hyl]; rfl⟩
      · rw [upd_ne (ne_of_none ec hlw)]
        exact sm _ _ ec
      · have h1:RWs (upd H' lw (.lst (vs2 ++ [u1]))) vs2 ys:=⟨hys.len,fun j v w a b=>(hys.at' j v w a b).mono (kb.tups ew)⟩
        exact h1.snoc ((r1.mono (same_tups sm)).mono (kb.tups ew))
      · rw [take_snoc hri,htk,hr,List.map_append]
        rfl
    | wrong ws=>
      rw [hr] at rv hoki
      have rv0:RW H7 ui (.lst (.txt "wrong" :: ws)):=rv
      obtain ⟨t,us9,rfl,et,hw9⟩:=rv0.tup
      obtain ⟨u0,us9,rfl,r0,hw9⟩:=hw9.cons
      obtain rfl:=r0.str
      refine ⟨_,rfl,_,rfl,lF,vf,_,_,rfl,rfl,SqL.of (sm _ _ eF7),hati,t,_,0,_,rfl,rfl,SqT.of (sm _ _ et),atI_nat (j:=0) rfl,rfl,_,rfl,iteT ?_⟩
      refine ⟨_,rfl,_,rfl,_,rfl,_,_,rfl,rfl,_,rfl,D,_,rfl,SqL.of (sm _ _ eN7),fun D7 hD7=>?_⟩
      have t1:=Same.new (o:=.lst (cutV (names.map V.str) none (some (0 + (i:Int) + 1)))) hD7
      have eD7:upd H' D7 (.lst (cutV (names.map V.str) none (some (0 + (i:Int) + 1)))) D7 = some (.lst ((names.take (i + 1)).map V.str)):=by
        rw [upd_same,cut_take (by rw [List.length_map]; omega),List.map_take]
      have nD7:D7≠b:=by
        obtain ⟨_,_,_,e'⟩:=(st7.trans (Step.ofSame st7.box sm)).box
        exact (ne_of_none e' hD7).symm
      generalize upd H' D7 (.lst (cutV (names.map V.str) none (some (0 + (i:Int) + 1)))) = H8 at t1 eD7
      have s78:=sm.trans t1
      refine ⟨_,rfl,_,rfl,_,rfl,lF,vf,_,_,rfl,rfl,SqL.of (s78 _ _ eF7),hati,(by show 4≤sizeLine; decide),fun p2 hp2=>?_⟩
      have t3:=Same.new (o:=.tup [.ref ra,.ref D7,.ref lF,.ref t]) hp2
      have sA:=s78.trans t3
      exact q p2 D7 lF _ _ vf (listX names) (names.take (i + 1)) fs' (.wrong ws) _ upd_same (rX7.mono (same_tups sA)) (t3 _ _ eD7) (sA _ _ eF7) (hw7.mono (same_tups sA)) hok7 (by omega) (fun s hs=>⟨Nat.le_trans (hnm s (List.mem_of_mem_take hs)).1 (by decide),(hnm s (List.mem_of_mem_take hs)).2⟩) (rv.mono (same_tups sA)) (beh_listW hl8 (by omega) hin (by rw [hri,hr]) hoki hmade) nD7 nFb7 (st7.trans (Step.ofSame st7.box sA))
  · obtain ⟨o5,ys,vs2,rfl,sm,ew,hys,htk,hyl⟩:=h
    rw [List.length_map] at htk hyl
    have e0:((names.length:Nat):Int).toNat = names.length:=by omega
    rw [e0] at htk hyl
    rw [List.take_of_length_le (by omega)] at htk
    subst htk
    refine ⟨_,rfl,_,rfl,_,rfl,_,rfl,lw,_,rfl,.inl ⟨SqL.of ew,fun t ht=>⟨(by show 2≤sizeLine; decide),fun p1 hp1=>⟨(by show 4≤sizeLine; decide),fun p2 hp2=>?_⟩⟩⟩⟩
    have t1:=Same.new (o:=.tup vs2) ht
    have t2:=Same.new (o:=.tup [.str "made",.ref t]) hp1
    have t3:=Same.new (o:=.tup [.ref ra,.ref D,.ref lF,.ref p1]) hp2
    have t13:=(t1.trans t2).trans t3
    have sA:=sm.trans t13
    have hsm:∀ y∈ys,Sm y:=fun y hy=>by
      have:=hok7 (.made y) (List.mem_map_of_mem hy)
      exact ⟨this.1,this.2.1,this.2.2⟩
    have hy13:=hys.mono (same_tups t13)
    refine q p2 D lF _ _ vf (listX names) names (ys.map .made) (.made (.lst ys)) _ upd_same (rX7.mono (same_tups sA)) (sA _ _ eN7) (sA _ _ eF7) (hw7.mono (same_tups sA)) hok7 (by rw [List.length_map]; omega) (fun s hs=>⟨Nat.le_trans (hnm s hs).1 (by decide),(hnm s hs).2⟩) ?_ (beh_listM hl8 hyl hsm) nDb nFb7 (st7.trans (Step.ofSame st7.box sA))
    exact RW.two (t3 _ _ upd_same) (.txt _) (.lst (t3 _ _ (t2 _ _ upd_same)) hy13.len hy13.at')
end
end D
set_option Elab.async false
set_option linter.all false
set_option maxRecDepth 100000
set_option maxHeartbeats 4000000
namespace D
open PySem L2
def eachX (names:Ns):Ex:=.eachE "name" (.lit (.lst (names.map W.txt))) (.lookE (.var "name"))
theorem put_same (e:Env) (s:Str) (x:W):put e s x s = some x:=by unfold put; rw [if_pos rfl]
section
variable {fs:List Res}{ns:Ns}
theorem ev_lv (s:Str):ev fs (.lookE (.var "name")) (put e0 "name" (.txt s)) ns = (.mk (found fs ns.length) [RL (.txt s)],ns ++ [s]):=by
  have hv:ev fs (.var "name") (put e0 "name" (.txt s)) ns = (RL (.txt s),ns):=by rw [ev,put_same]; rfl
  rw [ev_lookT (z:=s) (by rw [hv]; rfl),hv]
theorem walk_looks:∀ {names:Ns}{ns:Ns},walk1 (fun w m=>ev fs (.lookE (.var "name")) (put e0 "name" w) m) (names.map W.txt) ns = evs fs (names.map lk) e0 ns
  | [],ns=>by rw [List.map_nil,List.map_nil,walk1,evs]
  | s :: names,ns=>by rw [List.map_cons,List.map_cons,walk1_at,evs_at,ev_lv,ev_lk,walk_looks]
theorem along_looks:∀ {names:Ns}{ns:Ns},ns.length + names.length≤1000→along1 (fun w m=>ev fs (.lookE (.var "name")) (put e0 "name" w) m) (fun w m=>Fine fs (.lookE (.var "name")) (put e0 "name" w) m) (names.map W.txt) ns
  | [],ns,_=>by rw [List.map_nil,along1]; trivial
  | s :: names,ns,h=>by
    rw [List.length_cons] at h
    rw [List.map_cons,along1,ev_lv]
    refine ⟨?_,fun _=>along_looks (by rw [List.length_append,List.length_singleton]; omega)⟩
    rw [Fine,Fine]
    refine ⟨⟨_,put_same _ _ _⟩,?_⟩
    rw [ev]
    show ns.length≤1000
    omega
end
section
variable {names:Ns}{founds:List Res}
theorem each_fine (h10:names.length≤10) (fs:List Res) (h:∀ r∈fs,OutOk r):Fine fs (eachX names) e0 []:=by
  unfold eachX
  rw [Fine,Fine,ev_lit]
  refine ⟨trivial,fun ws hws=>?_⟩
  obtain rfl:names.map W.txt = ws:=W.lst.inj (Res.made.inj hws)
  obtain ⟨h1,h2⟩:=worths_looks h (rs:=(evs fs (names.map lk) e0 []).1) fun r hr=>looks_mem hr
  refine ⟨along_looks (by show 0 + names.length≤1000; omega),?_,?_⟩
  · rw [walk_looks]
    exact ths_of _ h1
  · rw [walk_looks]
    exact Nat.le_trans h2 (by decide)
theorem each_high:(eachX names).high≤20:=by
  unfold eachX
  simp only [Ex.high]
  decide
theorem eachX_ev {fs:List Res} (h10:names.length≤10):ev fs (eachX names) e0 [] = if allMade (evs fs (names.map lk) e0 []).1 then (.mk (resOf (madeW (.lst ((evs fs (names.map lk) e0 []).1.map R.worth)))) (RL (.lst (names.map W.txt)) :: (evs fs (names.map lk) e0 []).1),(evs fs (names.map lk) e0 []).2)
    else (.mk (lastR (evs fs (names.map lk) e0 []).1 (RL (.lst (names.map W.txt)))).res (RL (.lst (names.map W.txt)) :: (evs fs (names.map lk) e0 []).1),(evs fs (names.map lk) e0 []).2):=by
  have hA:ev fs (.lit (.lst (names.map W.txt))) e0 [] = (RL (.lst (names.map W.txt)),[]):=ev_lit _
  unfold eachX
  rw [each_C (ws:=names.map W.txt) (by rw [hA]; rfl) (by rw [List.length_map]; omega),hA,walk_looks]
theorem each_end {fs:List Res} (h10:names.length≤10) {j:Nat} (hj:j < names.length) (hm:∀ i < j,(found fs i).isMade = true) (h1:(found fs j).isMade = false):(ev fs (eachX names) e0 []).1.res = found fs j∧(ev fs (eachX names) e0 []).2 = names.take (j + 1):=by
  obtain ⟨i1,i2,i3⟩:=looks_end (fs:=fs) (e:=e0) (ns:=[]) hj (fun i hi=>by rw [show ([]:Ns).length + i = i from Nat.zero_add i]; exact hm i hi) (by rw [show ([]:Ns).length + j = j from Nat.zero_add j]; exact h1)
  rw [eachX_ev h10,if_neg (by rw [i2]; decide)]
  refine ⟨?_,i1⟩
  have:=i3 (RL (.lst (names.map W.txt)))
  rw [show ([]:Ns).length + j = j from Nat.zero_add j] at this
  exact this
theorem each_stop (h10:names.length≤10) (hlen:names.length≤founds.length) {j:Nat} (hj:j < names.length) (hm:∀ i < j,∃ y,founds[i]? = some (.made y)):(ev (founds.take j) (eachX names) e0 []).1.res = .stop∧(ev (founds.take j) (eachX names) e0 []).2 = names.take (j + 1):=by
  have hs:=found_stop (founds:=founds) (j:=j) (by omega)
  have:=each_end (fs:=founds.take j) h10 hj (fun i hi=>by
    obtain ⟨y,hy⟩:=hm i hi
    rw [found_take hi (by omega),hy]
    rfl) (by rw [hs]; rfl)
  rw [hs] at this
  exact this
theorem beh_eachW (h10:names.length≤10) (hlen:names.length = founds.length) {k:Nat} (hk:k < names.length) {ws:List W} (hw:founds[k]? = some (.wrong ws)) (ok:OutOk (.wrong ws)) (hm:∀ i < k,∃ y,founds[i]? = some (.made y)):Beh (eachX names) (names.take (k + 1)) founds (.wrong ws):=by
  have hl:(names.take (k + 1)).length = k + 1:=by rw [List.length_take]; omega
  refine ⟨each_high,by omega,ok.ne,ok.th,Nat.le_trans ok.dp (by decide),each_fine h10,fun j hj=>?_,fun fs hp=>?_⟩
  · rw [hl] at hj
    have:=each_stop (names:=names) (founds:=founds) h10 (by omega) (j:=j) (by omega) fun i hi=>hm i (by omega)
    refine ⟨this.1,?_⟩
    rw [this.2,List.take_take,show min (j + 1) (k + 1) = j + 1 by omega]
  · rw [hl] at hp
    have hul:(founds.take (k + 1)).length = k + 1:=by rw [List.length_take]; omega
    have hf:found fs k = .wrong ws:=by
      rw [found_pre hp (by omega),List.getElem?_take_of_lt (by omega),hw]
      rfl
    have:=each_end (names:=names) (fs:=fs) h10 hk (fun i hi=>by
      obtain ⟨y,hy⟩:=hm i hi
      rw [found_pre hp (by omega),List.getElem?_take_of_lt (by omega),hy]
      rfl) (by rw [hf]; rfl)
    rw [hf] at this
    exact this
end
theorem beh_eachM {names:Ns}{ys:List W} (h8:names.length≤10) (hlen:ys.length = names.length) (hy:∀ y∈ys,Sm y):Beh (eachX names) names (ys.map .made) (.made (.lst ys)):=by
  have hat:∀ i (hi:i < ys.length),(ys.map Res.made)[i]? = some (.made ys[i]):=fun i hi=>by rw [List.getElem?_map,List.getElem?_eq_getElem hi]; rfl
  refine ⟨each_high,by rw [List.length_map]; omega,(fun z=>nomatch z),th_sms hy (by omega),dp_sms hy,each_fine h8,fun j hj=>?_,fun fs hp=>?_⟩
  · exact each_stop h8 (by rw [List.length_map]; omega) hj fun i hi=>⟨_,hat i (by omega)⟩
  · have hp:ys.map Res.made <+: fs:=by
      rw [List.take_of_length_le (by rw [List.length_map]; omega)] at hp
      exact hp
    have hf:∀ i (hi:i < ys.length),found fs i = .made ys[i]:=fun i hi=>by
      rw [found_pre hp (by rw [List.length_map]; omega),hat i hi]
      rfl
    obtain ⟨i1,i2,i3⟩:=looks_made (fs:=fs) (e:=e0) (names:=names) (ns:=[]) fun i hi=>by
      rw [show ([]:Ns).length + i = i from Nat.zero_add i,hf i (by omega)]
      rfl
    have hw:(evs fs (names.map lk) e0 []).1.map R.worth = ys:=by
      have e1:(evs fs (names.map lk) e0 []).1.map R.worth = ((evs fs (names.map lk) e0 []).1.map R.res).map resW:=by
        rw [List.map_map]
        exact List.map_congr_left fun r _=>worth_res r
      rw [e1,i3,List.map_map]
      refine List.ext_getElem (by rw [List.length_map,List.length_range]; omega) fun i h1 h2=>?_
      rw [List.getElem_map,List.getElem_range]
      show resW (found fs (([]:Ns).length + i)) = _
      rw [show ([]:Ns).length + i = i from Nat.zero_add i,hf i h2]
      rfl
    rw [eachX_ev h8,if_pos i2,hw]
    refine ⟨?_,i1⟩
    show resOf (madeW (.lst ys)) = _
    exact rec_made (good_sms hy (by omega))
end D
set_option Elab.async false
set_option linter.all false
set_option maxRecDepth 100000
set_option maxHeartbeats 4000000
namespace D
open PySem L2
def elsesX:Ns→Ex
  | []=>lk ""
  | [s]=>lk s
  | s :: t :: r=>.elseE (lk s) (elsesX (t :: r))
theorem elses_high:∀ names:Ns,(elsesX names).high≤names.length + 2
  | []=>by rw [elsesX,lk_high]; omega
  | [s]=>by rw [elsesX,lk_high]; omega
  | s :: t :: r=>by
    have:=elses_high (t :: r)
    rw [elsesX,Ex.high,lk_high]
    simp only [List.length_cons] at this ⊢
    omega
section
variable {fs:List Res}{e:Env}
theorem fine_lk {s:Str}{ns:Ns} (h:ns.length≤1000):Fine fs (lk s) e ns:=by
  unfold lk
  rw [Fine,Fine,ev_lit]
  exact ⟨trivial,h⟩
theorem elses_fine:∀ {names:Ns}{ns:Ns},ns.length + names.length≤1000→Fine fs (elsesX names) e ns
  | [],ns,h=>by rw [elsesX]; exact fine_lk (by omega)
  | [s],ns,h=>by rw [elsesX]; exact fine_lk (by omega)
  | s :: t :: r,ns,h=>by
    rw [elsesX,Fine,ev_lk]
    simp only [List.length_cons] at h
    refine ⟨fine_lk (by omega),fun _ _=>elses_fine ?_⟩
    simp only [List.length_append,List.length_cons,List.length_nil]
    omega
theorem elses_end:∀ {j:Nat}{names:Ns}{ns:Ns},j < names.length→(∀ i < j,∃ ws,found fs (ns.length + i) = .wrong ws)→((∀ ws,found fs (ns.length + j)≠.wrong ws)∨j + 1 = names.length)→(ev fs (elsesX names) e ns).1.res = found fs (ns.length + j)∧(ev fs (elsesX names) e ns).2 = ns ++ names.take (j + 1)
  | 0,[s],ns,_,_,_=>by rw [elsesX,ev_lk]; exact ⟨rfl,rfl⟩
  | 0,s :: t :: r,ns,_,_,h=>by
    have h:∀ ws,found fs ns.length≠.wrong ws:=h.resolve_right (by simp only [List.length_cons]; omega)
    rw [elsesX,ev_elseM (by rw [ev_lk]; exact h),ev_lk]
    exact ⟨rfl,rfl⟩
  | j + 1,[s],ns,hj,_,_=>by simp at hj
  | j + 1,s :: t :: r,ns,hj,hw,h=>by
    obtain ⟨ws,h0⟩:=hw 0 (by omega)
    have h0:found fs ns.length = .wrong ws:=h0
    have hsh:∀ i,(ns ++ [s]).length + i = ns.length + (i + 1):=fun i=>by rw [List.length_append,List.length_singleton]; omega
    obtain ⟨i1,i2⟩:=elses_end (j:=j) (names:=t :: r) (ns:=ns ++ [s]) (by simp only [List.length_cons] at hj ⊢; omega) (fun i hi=>by rw [hsh]; exact hw (i + 1) (by omega)) (by rw [hsh]; simp only [List.length_cons] at h ⊢; exact h.imp id (fun z=>by omega))
    rw [elsesX,ev_elseW (w:=ws) (by rw [ev_lk]; exact h0),ev_lk]
    refine ⟨?_,?_⟩
    · show (ev fs (elsesX (t :: r)) e (ns ++ [s])).1.res = _
      rw [i1,hsh]
    · show (ev fs (elsesX (t :: r)) e (ns ++ [s])).2 = _
      rw [i2,List.append_assoc]
      rfl
end
theorem beh_elses {names:Ns}{founds:List Res} (h8:names.length≤8) (hlen:names.length = founds.length) {k:Nat} (hk:k < names.length) {due:Res} (hd:founds[k]? = some due) (ok:OutOk due) (hm:∀ i < k,∃ ws,founds[i]? = some (.wrong ws)) (hl:(∃ y,due = .made y)∨k + 1 = names.length):Beh (elsesX names) (names.take (k + 1)) founds due:=by
  have hl1:(names.take (k + 1)).length = k + 1:=by rw [List.length_take]; omega
  have z:∀ i,([]:Ns).length + i = i:=fun i=>Nat.zero_add i
  refine ⟨Nat.le_trans (elses_high _) (by omega),by omega,ok.ne,ok.th,Nat.le_trans ok.dp (by decide),fun fs _=>elses_fine (by show 0 + _≤_; omega),fun j hj=>?_,fun fs hp=>?_⟩
  · rw [hl1] at hj
    have hs:=found_stop (founds:=founds) (j:=j) (by omega)
    obtain ⟨i1,i2⟩:=elses_end (fs:=founds.take j) (e:=e0) (names:=names) (ns:=[]) (j:=j) (by omega) (fun i hi=>by
      obtain ⟨ws,hy⟩:=hm i (by omega)
      rw [z,found_take hi (by omega),hy]
      exact ⟨ws,rfl⟩) (.inl (by rw [z,hs]; exact fun ws h=>nomatch h))
    rw [z,hs] at i1
    refine ⟨i1,?_⟩
    rw [i2,List.take_take,show min (j + 1) (k + 1) = j + 1 by omega]
    rfl
  · rw [hl1] at hp
    have hul:(founds.take (k + 1)).length = k + 1:=by rw [List.length_take]; omega
    have hf:found fs k = due:=by
      rw [found_pre hp (by omega),List.getElem?_take_of_lt (by omega),hd]
      rfl
    obtain ⟨i1,i2⟩:=elses_end (fs:=fs) (e:=e0) (names:=names) (ns:=[]) (j:=k) hk (fun i hi=>by
      obtain ⟨ws,hy⟩:=hm i hi
      rw [z,found_pre hp (by omega),List.getElem?_take_of_lt (by omega),hy]
      exact ⟨ws,rfl⟩) (by
      rw [z,hf]
      refine hl.imp (fun ⟨y,hy⟩ ws h=>?_) id
      rw [hy] at h
      cases h)
    rw [z,hf] at i1
    exact ⟨i1,i2⟩
def chainX (s:Str):Nat→Ex
  | 0=>.lit (.txt s)
  | m + 1=>.lookE (chainX s m)
theorem chain_high (s:Str):∀ m,(chainX s m).high = m + 1
  | 0=>by rw [chainX,Ex.high]
  | m + 1=>by rw [chainX,Ex.high,chain_high s m]; omega
section
variable {fs:List Res}{e:Env}{s:Str}
theorem look_len (a:Ex) (ns:Ns):(ev fs (.lookE a) e ns).2.length≤(ev fs a e ns).2.length + 1:=by
  rw [ev]
  split
  · rw [List.length_append,List.length_singleton]; exact Nat.le_refl _
  · exact Nat.le_succ _
  · exact Nat.le_succ _
theorem chain_len:∀ m,(ev fs (chainX s m) e []).2.length≤m
  | 0=>by rw [chainX,ev_lit]; exact Nat.le_refl _
  | m + 1=>by
    have:=look_len (fs:=fs) (e:=e) (chainX s m) []
    have:=chain_len m
    rw [chainX]
    omega
theorem chain_fine:∀ m,m≤1000→Fine fs (chainX s m) e []
  | 0,_=>by rw [chainX,Fine]; trivial
  | m + 1,h=>by
    have:=chain_len (fs:=fs) (e:=e) (s:=s) m
    rw [chainX,Fine]
    exact ⟨chain_fine m (by omega),by omega⟩
theorem chain_go {nm:Ns} (h0:nm[0]? = some s):∀ m,m < nm.length→(∀ i < m,∃ z,nm[i + 1]? = some z∧found fs i = .made (.txt z))→(∃ z,nm[m]? = some z∧(ev fs (chainX s m) e []).1.res = .made (.txt z))∧(ev fs (chainX s m) e []).2 = nm.take m
  | 0,_,_=>by rw [chainX,ev_lit]; exact ⟨⟨s,h0,rfl⟩,by rw [List.take_zero]⟩
  | m + 1,hm,h=>by
    obtain ⟨⟨z,hz,i1⟩,i2⟩:=chain_go h0 m (by omega) fun i hi=>h i (by omega)
    rw [chainX,ev_lookT i1,i2]
    obtain ⟨z2,hz2,h2⟩:=h m (by omega)
    refine ⟨⟨z2,hz2,?_⟩,(take_snoc hz).symm⟩
    show found fs (nm.take m).length = _
    rw [List.length_take,Nat.min_eq_left (by omega)]
    exact h2
theorem chain_at {nm:Ns} (h0:nm[0]? = some s) {k:Nat} (hk:k < nm.length) (h:∀ i < k,∃ z,nm[i + 1]? = some z∧found fs i = .made (.txt z)):(ev fs (chainX s (k + 1)) e []).1.res = found fs k∧(ev fs (chainX s (k + 1)) e []).2 = nm.take (k + 1):=by
  obtain ⟨⟨z,hz,i1⟩,i2⟩:=chain_go (fs:=fs) (e:=e) h0 k hk h
  rw [chainX,ev_lookT i1,i2]
  refine ⟨?_,(take_snoc hz).symm⟩
  show found fs (nm.take k).length = _
  rw [List.length_take,Nat.min_eq_left (by omega)]
theorem chain_stay {a:Nat} (h:(ev fs (chainX s a) e []).1.res.isMade = false):∀ d,(ev fs (chainX s (a + d)) e []).1.res = (ev fs (chainX s a) e []).1.res∧(ev fs (chainX s (a + d)) e []).2 = (ev fs (chainX s a) e []).2
  | 0=>⟨rfl,rfl⟩
  | d + 1=>by
    obtain ⟨i1,i2⟩:=chain_stay h d
    rw [show a + (d + 1) = a + d + 1 by omega,chainX,ev_lookN (by rw [i1]; exact h)]
    exact ⟨i1,i2⟩
theorem chain_kind {a:Nat}{y:W} (h:(ev fs (chainX s a) e []).1.res = .made y) (hy:∀ z,y≠.txt z) (d:Nat):(ev fs (chainX s (a + 1 + d)) e []).1.res = kindR∧(ev fs (chainX s (a + 1 + d)) e []).2 = (ev fs (chainX s a) e []).2:=by
  have h1:ev fs (chainX s (a + 1)) e [] = (.mk kindR [(ev fs (chainX s a) e []).1],(ev fs (chainX s a) e []).2):=by rw [chainX,ev_lookK h hy]; rfl
  obtain ⟨i1,i2⟩:=chain_stay (fs:=fs) (e:=e) (s:=s) (a:=a + 1) (by rw [h1]; rfl) d
  rw [h1] at i1 i2
  exact ⟨i1,i2⟩
end
section
variable {nm:Ns}{founds:List Res}{s:Str}{k:Nat}
theorem chain_stop (h0:nm[0]? = some s) (hn:nm.length = k + 1) (hk:k < founds.length) (h:∀ i < k,∃ z,nm[i + 1]? = some z∧founds[i]? = some (.made (.txt z))) {j:Nat} (hj:j < k + 1):(ev (founds.take j) (chainX s founds.length) e0 []).1.res = .stop∧(ev (founds.take j) (chainX s founds.length) e0 []).2 = nm.take (j + 1):=by
  have hs:=found_stop (founds:=founds) (j:=j) (by omega)
  obtain ⟨i1,i2⟩:=chain_at (fs:=founds.take j) (e:=e0) h0 (k:=j) (by omega) fun i hi=>by
    obtain ⟨z,h1,h2⟩:=h i (by omega)
    refine ⟨z,h1,?_⟩
    rw [found_take hi (by omega),h2]
    rfl
  rw [hs] at i1
  obtain ⟨j1,j2⟩:=chain_stay (fs:=founds.take j) (e:=e0) (s:=s) (a:=j + 1) (by rw [i1]; rfl) (founds.length - (j + 1))
  rw [show j + 1 + (founds.length - (j + 1)) = founds.length by omega] at j1 j2
  exact ⟨by rw [j1,i1],by rw [j2,i2]⟩
theorem chain_done (h0:nm[0]? = some s) (hn:nm.length = k + 1) (hk:k < founds.length) (h:∀ i < k,∃ z,nm[i + 1]? = some z∧founds[i]? = some (.made (.txt z))) {due r:Res} (hr:founds[k]? = some r) (hd:(r = due∧(r.isMade = false∨k + 1 = founds.length))∨(k + 1 < founds.length∧due = kindR∧∃ y,r = .made y∧∀ z,y≠.txt z)) {fs:List Res} (hp:founds.take nm.length <+: fs):(ev fs (chainX s founds.length) e0 []).1.res = due∧(ev fs (chainX s founds.length) e0 []).2 = nm:=by
  rw [hn] at hp
  have hul:(founds.take (k + 1)).length = k + 1:=by rw [List.length_take]; omega
  have hf:found fs k = r:=by
    rw [found_pre hp (by omega),List.getElem?_take_of_lt (by omega),hr]
    rfl
  obtain ⟨i1,i2⟩:=chain_at (fs:=fs) (e:=e0) h0 (k:=k) (by omega) fun i hi=>by
    obtain ⟨z,h1,h2⟩:=h i (by omega)
    refine ⟨z,h1,?_⟩
    rw [found_pre hp (by omega),List.getElem?_take_of_lt (by omega),h2]
    rfl
  rw [hf] at i1
  rw [← hn,List.take_length] at i2
  rcases hd with ⟨rfl,hd | hd⟩ | ⟨hlt,rfl,y,rfl,hy⟩
  · obtain ⟨j1,j2⟩:=chain_stay (fs:=fs) (e:=e0) (s:=s) (a:=k + 1) (by rw [i1]; exact hd) (founds.length - (k + 1))
    rw [show k + 1 + (founds.length - (k + 1)) = founds.length by omega] at j1 j2
    exact ⟨by rw [j1,i1],by rw [j2,hn.symm,i2]⟩
  · rw [← hd]
    exact ⟨i1,by rw [hn.symm,i2]⟩
  · obtain ⟨j1,j2⟩:=chain_kind i1 hy (founds.length - (k + 1 + 1))
    rw [show k + 1 + 1 + (founds.length - (k + 1 + 1)) = founds.length by omega] at j1 j2
    exact ⟨j1,by rw [j2,hn.symm,i2]⟩
theorem beh_chain (h8:founds.length≤8) (h0:nm[0]? = some s) (hn:nm.length = k + 1) (hk:k < founds.length) (h:∀ i < k,∃ z,nm[i + 1]? = some z∧founds[i]? = some (.made (.txt z))) {due r:Res} (hr:founds[k]? = some r) (hd:(r = due∧(r.isMade = false∨k + 1 = founds.length))∨(k + 1 < founds.length∧due = kindR∧∃ y,r = .made y∧∀ z,y≠.txt z)) (ok:OutOk due):Beh (chainX s founds.length) nm founds due:=
  ⟨by rw [chain_high]; omega,by omega,ok.ne,ok.th,Nat.le_trans ok.dp (by decide),fun fs _=>chain_fine _ (by omega),fun j hj=>chain_stop h0 hn hk h (by omega),fun fs hp=>chain_done h0 hn hk h hr hd hp⟩
end
theorem kind_ok:OutOk kindR:=⟨"kind",.txt "",rfl,txt_okd (by decide +kernel) (by decide +kernel),txt_okd (by decide +kernel) (by decide +kernel),Nat.zero_le _⟩
end D
set_option Elab.async false
set_option linter.all false
set_option maxRecDepth 100000
set_option maxHeartbeats 4000000
namespace D
open PySem L2
section
variable {fs:List Res}{f:W→Ns→R × Ns}{g:Str→Str}
def Looks (fs:List Res) (f:W→Ns→R × Ns) (g:Str→Str) (names:Ns):Prop:=∀ s∈names,∀ ns,(f (.txt s) ns).1.res = found fs ns.length∧(f (.txt s) ns).2 = ns ++ [g s]
theorem wk_made:∀ {names:Ns}{ns:Ns},Looks fs f g names→(∀ i < names.length,(found fs (ns.length + i)).isMade = true)→(walk1 f (names.map W.txt) ns).2 = ns ++ names.map g∧allMade (walk1 f (names.map W.txt) ns).1 = true∧(walk1 f (names.map W.txt) ns).1.map R.res = (List.range names.length).map fun i=>found fs (ns.length + i)
  | [],ns,_,_=>by
    rw [List.map_nil,walk1]
    exact ⟨(List.append_nil _).symm,rfl,rfl⟩
  | s :: names,ns,hL,h=>by
    have h0:(found fs ns.length).isMade = true:=h 0 (by simp)
    obtain ⟨e1,e2⟩:=hL s List.mem_cons_self ns
    obtain ⟨i1,i2,i3⟩:=wk_made (names:=names) (ns:=ns ++ [g s]) (fun z hz=>hL z (List.mem_cons_of_mem _ hz)) fun i hi=>by
      have:=h (i + 1) (by simp; omega)
      rw [List.length_append,List.length_singleton,show ns.length + 1 + i = ns.length + (i + 1) by omega]
      exact this
    rw [List.map_cons,walk1_at,e2,if_pos (by rw [e1]; exact h0)]
    refine ⟨?_,?_,?_⟩
    · show (walk1 f (names.map W.txt) (ns ++ [g s])).2 = _
      rw [i1,List.append_assoc]
      rfl
    · show allMade (_ :: (walk1 f (names.map W.txt) (ns ++ [g s])).1) = true
      unfold allMade
      rw [List.all_cons]
      exact Bool.and_eq_true_iff.mpr ⟨by rw [e1]; exact h0,i2⟩
    · show (f (.txt s) ns).1.res :: (walk1 f (names.map W.txt) (ns ++ [g s])).1.map R.res = _
      rw [i3,e1,List.length_cons,List.range_succ_eq_map,List.map_cons,List.map_map]
      refine congrArg (_ :: ·) (List.map_congr_left fun i _=>?_)
      show found fs ((ns ++ [g s]).length + i) = found fs (ns.length + (i + 1))
      rw [List.length_append,List.length_singleton,show ns.length + 1 + i = ns.length + (i + 1) by omega]
theorem lastR_cons (x:R) (l:List R) (d:R):lastR (x :: l) d = lastR l x:=by
  unfold lastR
  cases l with
  | nil=>rfl
  | cons y ys=>
    rw [List.getLast?_cons_cons]
    cases hq:(y :: ys).getLast? with
    | none=>simp at hq
    | some r=>rfl
theorem wk_end:∀ {j:Nat}{names:Ns}{ns:Ns},Looks fs f g names→j < names.length→(∀ i < j,(found fs (ns.length + i)).isMade = true)→(found fs (ns.length + j)).isMade = false→(walk1 f (names.map W.txt) ns).2 = ns ++ (names.map g).take (j + 1)∧allMade (walk1 f (names.map W.txt) ns).1 = false∧∀ d,(lastR (walk1 f (names.map W.txt) ns).1 d).res = found fs (ns.length + j)
  | 0,s :: names,ns,hL,_,_,h0=>by
    obtain ⟨e1,e2⟩:=hL s List.mem_cons_self ns
    rw [Nat.add_zero] at h0
    rw [List.map_cons,walk1_at,e2,if_neg (by rw [e1,h0]; decide)]
    refine ⟨rfl,?_,fun d=>by rw [lastR_cons]; exact e1⟩
    show ((f (.txt s) ns).1.res.isMade && true) = false
    rw [e1,h0]
    rfl
  | j + 1,s :: names,ns,hL,hj,h,h1=>by
    have h0:(found fs ns.length).isMade = true:=h 0 (by omega)
    obtain ⟨e1,e2⟩:=hL s List.mem_cons_self ns
    have hsh:∀ i,(ns ++ [g s]).length + i = ns.length + (i + 1):=fun i=>by rw [List.length_append,List.length_singleton]; omega
    obtain ⟨i1,i2,i3⟩:=wk_end (j:=j) (names:=names) (ns:=ns ++ [g s]) (fun z hz=>hL z (List.mem_cons_of_mem _ hz)) (by simp at hj; omega) (fun i hi=>by rw [hsh]; exact h (i + 1) (by omega)) (by rw [hsh]; exact h1)
    rw [List.map_cons,walk1_at,e2,if_pos (by rw [e1]; exact h0)]
    refine ⟨?_,?_,fun d=>?_⟩
    · show (walk1 f (names.map W.txt) (ns ++ [g s])).2 = _
      rw [i1,List.append_assoc]
      rfl
    · show ((f (.txt s) ns).1.res.isMade && allMade (walk1 f (names.map W.txt) (ns ++ [g s])).1) = false
      rw [i2,Bool.and_false]
    · show (lastR ((f (.txt s) ns).1 :: (walk1 f (names.map W.txt) (ns ++ [g s])).1) d).res = _
      rw [lastR_cons,i3,hsh j]
theorem walkP_all {p:R→Prop}:∀ {ws:List W}{ns:Ns},(∀ w∈ws,∀ ns,p (f w ns).1)→∀ r∈(walk1 f ws ns).1,p r
  | [],ns,_,r,h=>by rw [walk1] at h; cases h
  | w :: ws,ns,hp,r,h=>by
    rw [walk1_at] at h
    split at h
    · rcases List.mem_cons.mp h with rfl | h
      · exact hp w List.mem_cons_self ns
      · exact walkP_all (fun z hz=>hp z (List.mem_cons_of_mem _ hz)) r h
    · rw [List.mem_singleton.mp h]
      exact hp w List.mem_cons_self ns
theorem walk_le:∀ {ws:List W}{ns:Ns},(walk1 f ws ns).1.length≤ws.length
  | [],ns=>by rw [walk1]; exact Nat.le_refl _
  | w :: ws,ns=>by
    rw [walk1_at]
    split
    · have:=walk_le (ws:=ws) (ns:=(f w ns).2)
      simp only [List.length_cons]
      omega
    · simp only [List.length_cons,List.length_nil]
      omega
theorem walk_len {d:Nat}:∀ {ws:List W}{ns:Ns},(∀ w∈ws,∀ ns,(f w ns).2.length≤ns.length + d)→(walk1 f ws ns).2.length≤ns.length + ws.length * d
  | [],ns,_=>by rw [walk1]; simp
  | w :: ws,ns,hp=>by
    have h1:=hp w List.mem_cons_self ns
    rw [walk1_at,List.length_cons,Nat.add_mul,Nat.one_mul]
    split
    · have:=walk_len (ws:=ws) (ns:=(f w ns).2) (d:=d) fun z hz=>hp z (List.mem_cons_of_mem _ hz)
      show (walk1 f ws (f w ns).2).2.length≤_
      omega
    · show (f w ns).2.length≤_
      omega
theorem along_of {q:W→Ns→Prop}{d:Nat}:∀ {ws:List W}{ns:Ns},ns.length + ws.length * d≤1000→(∀ w∈ws,∀ ns,(f w ns).2.length≤ns.length + d)→(∀ w∈ws,∀ ns,ns.length + d≤1000→q w ns)→along1 f q ws ns
  | [],ns,_,_,_=>by rw [along1]; trivial
  | w :: ws,ns,hn,hp,hq=>by
    have h1:=hp w List.mem_cons_self ns
    rw [List.length_cons,Nat.add_mul,Nat.one_mul] at hn
    rw [along1]
    exact ⟨hq w List.mem_cons_self ns (by omega),fun _=>along_of (d:=d) (by omega) (fun z hz=>hp z (List.mem_cons_of_mem _ hz)) (fun z hz=>hq z (List.mem_cons_of_mem _ hz))⟩
end
theorem worths_all {d:Nat}:∀ {rs:List R},(∀ r∈rs,r.worth.Ok∧r.worth.depth≤d)→Oks (rs.map R.worth)∧depths (rs.map R.worth)≤d
  | [],_=>⟨trivial,Nat.zero_le _⟩
  | r :: rs,h=>by
    obtain ⟨h1,h2⟩:=h r List.mem_cons_self
    obtain ⟨i1,i2⟩:=worths_all fun x hx=>h x (List.mem_cons_of_mem _ hx)
    refine ⟨⟨h1,i1⟩,?_⟩
    simp only [List.map_cons,depths]
    omega
theorem num0_ok:(W.num 0).Ok∧(W.num 0).depth≤0:=⟨⟨by decide,by decide⟩,Nat.le_refl _⟩
theorem found_worth {fs:List Res} (h:∀ r∈fs,OutOk r) (i:Nat):(resW (found fs i)).Ok∧(resW (found fs i)).depth≤3:=by
  cases hf:found fs i with
  | made y=>have:=found_ok h hf; exact ⟨this.1,this.2.1⟩
  | wrong _=>exact ⟨num0_ok.1,Nat.zero_le _⟩
  | stop=>exact ⟨num0_ok.1,Nat.zero_le _⟩
def jl:Ex:=.lookE (.reck .join [.var "a",.var "b"])
def innX (others:Ns):Ex:=.eachE "b" (.lit (.lst (others.map W.txt))) jl
def roundsX (some others:Ns):Ex:=.eachE "a" (.lit (.lst (some.map W.txt))) (innX others)
def rnames (some others:Ns):Ns:=some.flatMap fun a=>others.map fun b=>a ++ b
def eA (a:Str):Env:=put e0 "a" (.txt a)
theorem nm_join {a b:Str} (ha:Nm 12 a) (hb:Nm 12 b):(W.txt (a ++ b)).Ok∧Nm 24 (a ++ b):=by
  have h1:(a ++ b).length≤24:=by
    have:=ha.1
    have:=hb.1
    rw [str_app_len]
    omega
  have h2:Signs (a ++ b):=fun c hc=>by
    rw [str_app] at hc
    rcases List.mem_append.mp hc with hc | hc
    · exact ha.2 c hc
    · exact hb.2 c hc
  exact ⟨⟨by omega,h2⟩,h1,h2⟩
section
variable {fs:List Res}{a b:Str}{others:Ns}
theorem env_a:put (eA a) "b" (.txt b) "a" = some (.txt a):=by
  unfold eA put
  rw [if_neg (by decide +kernel),if_pos rfl]
theorem ev_jv {ns:Ns}:evs fs [.var "a",.var "b"] (put (eA a) "b" (.txt b)) ns = ([RL (.txt a),RL (.txt b)],ns):=by
  have h1:ev fs (.var "a") (put (eA a) "b" (.txt b)) ns = (RL (.txt a),ns):=by rw [ev,env_a]; rfl
  have h2:ev fs (.var "b") (put (eA a) "b" (.txt b)) ns = (RL (.txt b),ns):=by rw [ev,put_same]; rfl
  rw [evs_two,h1,if_pos (by rfl),h2]
theorem ev_jj {ns:Ns} (ha:Nm 12 a) (hb:Nm 12 b):(ev fs (.reck .join [.var "a",.var "b"]) (put (eA a) "b" (.txt b)) ns).1.res = .made (.txt (a ++ b))∧(ev fs (.reck .join [.var "a",.var "b"]) (put (eA a) "b" (.txt b)) ns).2 = ns:=by
  rw [ev,ev_jv,if_pos (by rfl)]
  refine ⟨?_,rfl⟩
  show resOf (madeW (.txt (a ++ b))) = _
  obtain ⟨h1,h2⟩:=nm_join ha hb
  refine rec_made (good_ok h1 ?_ (Nat.zero_le _))
  have:=h2.1
  simp only [W.size]
  omega
theorem ev_jl {ns:Ns} (ha:Nm 12 a) (hb:Nm 12 b):(ev fs jl (put (eA a) "b" (.txt b)) ns).1.res = found fs ns.length∧(ev fs jl (put (eA a) "b" (.txt b)) ns).2 = ns ++ [a ++ b]:=by
  obtain ⟨h1,h2⟩:=ev_jj (fs:=fs) (ns:=ns) ha hb
  unfold jl
  rw [ev_lookT h1,h2]
  exact ⟨rfl,rfl⟩
theorem fine_jl {ns:Ns} (ha:Nm 12 a) (hb:Nm 12 b) (hn:ns.length≤1000):Fine fs jl (put (eA a) "b" (.txt b)) ns:=by
  unfold jl
  rw [Fine,(ev_jj (fs:=fs) (ns:=ns) ha hb).2]
  refine ⟨?_,hn⟩
  rw [Fine,ev_jv]
  refine ⟨by decide,?_,fun _=>?_⟩
  · rw [Fines,Fines,Fines,Fine,Fine]
    exact ⟨⟨_,env_a⟩,fun _=>⟨⟨_,put_same _ _ _⟩,fun _=>trivial⟩⟩
  · exact ⟨⟨⟨Nat.le_trans ha.1 (by decide),ha.2⟩,⟨Nat.le_trans hb.1 (by decide),hb.2⟩,trivial⟩,(by show (0:Nat)≤12; decide),(by show 2≤8; decide),rfl⟩
theorem jl_looks (ha:Nm 12 a) (ho:∀ s∈others,Nm 12 s):Looks fs (fun w m=>ev fs jl (put (eA a) "b" w) m) (fun b=>a ++ b) others:=fun s hs ns=>ev_jl ha (ho s hs)
theorem lit_res {x:W}{e:Env}{ns:Ns}:(ev fs (.lit x) e ns).1.res = .made x:=by rw [ev_lit]; rfl
theorem inn_ev (h4:others.length≤4) (ns:Ns):ev fs (innX others) (eA a) ns = if allMade (walk1 (fun w m=>ev fs jl (put (eA a) "b" w) m) (others.map W.txt) ns).1 then (.mk (resOf (madeW (.lst ((walk1 (fun w m=>ev fs jl (put (eA a) "b" w) m) (others.map W.txt) ns).1.map R.worth)))) (RL (.lst (others.map W.txt)) :: (walk1 (fun w m=>ev fs jl (put (eA a) "b" w) m) (others.map W.txt) ns).1),(walk1 (fun w m=>ev fs jl (put (eA a) "b" w) m) (others.map W.txt) ns).2)
    else (.mk (lastR (walk1 (fun w m=>ev fs jl (put (eA a) "b" w) m) (others.map W.txt) ns).1 (RL (.lst (others.map W.txt)))).res (RL (.lst (others.map W.txt)) :: (walk1 (fun w m=>ev fs jl (put (eA a) "b" w) m) (others.map W.txt) ns).1),(walk1 (fun w m=>ev fs jl (put (eA a) "b" w) m) (others.map W.txt) ns).2):=by
  unfold innX
  rw [each_C (ws:=others.map W.txt) lit_res (by rw [List.length_map]; omega),ev_lit]
theorem inn_made {ns:Ns} (ha:Nm 12 a) (ho:∀ s∈others,Nm 12 s) (h4:others.length≤4) (h:∀ i < others.length,∃ y,found fs (ns.length + i) = .made y∧Sm y):(ev fs (innX others) (eA a) ns).1.res = .made (.lst ((List.range others.length).map fun i=>resW (found fs (ns.length + i))))∧(ev fs (innX others) (eA a) ns).2 = ns ++ others.map fun b=>a ++ b:=by
  obtain ⟨i1,i2,i3⟩:=wk_made (jl_looks (fs:=fs) ha ho) (ns:=ns) fun i hi=>by
    obtain ⟨y,hy,_⟩:=h i hi
    rw [hy]
    rfl
  rw [inn_ev h4,if_pos i2]
  refine ⟨?_,i1⟩
  have e1:(walk1 (fun w m=>ev fs jl (put (eA a) "b" w) m) (others.map W.txt) ns).1.map R.worth = (List.range others.length).map fun i=>resW (found fs (ns.length + i)):=by
    have:(walk1 (fun w m=>ev fs jl (put (eA a) "b" w) m) (others.map W.txt) ns).1.map R.worth = ((walk1 (fun w m=>ev fs jl (put (eA a) "b" w) m) (others.map W.txt) ns).1.map R.res).map resW:=by
      rw [List.map_map]
      exact List.map_congr_left fun r _=>worth_res r
    rw [this,i3,List.map_map]
    rfl
  show resOf (madeW (.lst _)) = _
  rw [e1]
  refine rec_made (good_sms (fun y hy=>?_) (by rw [List.length_map,List.length_range]; omega))
  obtain ⟨i,hi,rfl⟩:=List.mem_map.mp hy
  obtain ⟨y,hy,hs⟩:=h i (List.mem_range.mp hi)
  rw [hy]
  exact hs
theorem inn_end {ns:Ns}{j:Nat} (ha:Nm 12 a) (ho:∀ s∈others,Nm 12 s) (h4:others.length≤4) (hj:j < others.length) (h:∀ i < j,(found fs (ns.length + i)).isMade = true) (h1:(found fs (ns.length + j)).isMade = false):(ev fs (innX others) (eA a) ns).1.res = found fs (ns.length + j)∧(ev fs (innX others) (eA a) ns).2 = ns ++ (others.map fun b=>a ++ b).take (j + 1):=by
  obtain ⟨i1,i2,i3⟩:=wk_end (jl_looks (fs:=fs) ha ho) (ns:=ns) hj h h1
  rw [inn_ev h4,if_neg (by rw [i2]; decide)]
  exact ⟨i3 _,i1⟩
theorem inn_len {ns:Ns} (ha:Nm 12 a) (ho:∀ s∈others,Nm 12 s) (h4:others.length≤4):(ev fs (innX others) (eA a) ns).2.length≤ns.length + others.length:=by
  have:=walk_len (f:=fun w m=>ev fs jl (put (eA a) "b" w) m) (d:=1) (ws:=others.map W.txt) (ns:=ns) fun w hw ns=>by
    obtain ⟨s,hs,rfl⟩:=List.mem_map.mp hw
    show (ev fs jl (put (eA a) "b" (.txt s)) ns).2.length≤_
    rw [(ev_jl ha (ho s hs)).2,List.length_append]
    exact Nat.le_refl _
  rw [List.length_map,Nat.mul_one] at this
  rw [inn_ev h4]
  split
  · exact this
  · exact this
theorem inn_worth {ns:Ns} (hf:∀ r∈fs,OutOk r) (ha:Nm 12 a) (ho:∀ s∈others,Nm 12 s) (h4:others.length≤4):(ev fs (innX others) (eA a) ns).1.worth.Ok∧(ev fs (innX others) (eA a) ns).1.worth.depth≤4:=by
  have hall:∀ r∈(walk1 (fun w m=>ev fs jl (put (eA a) "b" w) m) (others.map W.txt) ns).1,∃ i,r.res = found fs i:=walkP_all (p:=fun r=>∃ i,r.res = found fs i) fun w hw ns=>by
    obtain ⟨s,hs,rfl⟩:=List.mem_map.mp hw
    exact ⟨_,(ev_jl ha (ho s hs)).1⟩
  have hle:=walk_le (f:=fun w m=>ev fs jl (put (eA a) "b" w) m) (ws:=others.map W.txt) (ns:=ns)
  rw [List.length_map] at hle
  obtain ⟨h1,h2⟩:=worths_looks hf hall
  rw [inn_ev h4]
  generalize (walk1 (fun w m=>ev fs jl (put (eA a) "b" w) m) (others.map W.txt) ns) = wk at *
  split
  · rename_i hm
    rw [worth_res]
    show (resW (resOf (madeW (.lst (wk.1.map R.worth))))).Ok∧_
    by_cases hg:goodW (.lst (wk.1.map R.worth)) = true
    · have e1:(resOf (madeW (.lst (wk.1.map R.worth)))) = _:=rec_made hg
      show (resW (resOf (madeW (.lst (wk.1.map R.worth))))).Ok∧(resW (resOf (madeW (.lst (wk.1.map R.worth))))).depth≤4
      rw [e1]
      refine ⟨⟨by rw [List.length_map]; omega,h1⟩,?_⟩
      show 1 + depths (wk.1.map R.worth)≤4
      omega
    · have e1:resW (resOf (madeW (.lst (wk.1.map R.worth)))) = .num 0:=by unfold madeW; rw [if_neg hg]; rfl
      show (resW (resOf (madeW (.lst (wk.1.map R.worth))))).Ok∧(resW (resOf (madeW (.lst (wk.1.map R.worth))))).depth≤4
      rw [e1]
      exact ⟨num0_ok.1,Nat.zero_le _⟩
  · rename_i hm
    rw [worth_res]
    show (resW (lastR wk.1 _).res).Ok∧(resW (lastR wk.1 _).res).depth≤4
    cases hq:wk.1.getLast? with
    | none=>
      rw [List.getLast?_eq_none_iff.mp hq] at hm
      exact absurd rfl hm
    | some r=>
      rw [lastR_of hq]
      obtain ⟨i,hi⟩:=hall r (List.mem_of_getLast? hq)
      rw [hi]
      have:=found_worth hf i
      exact ⟨this.1,by omega⟩
theorem inn_fine {ns:Ns} (hf:∀ r∈fs,OutOk r) (ha:Nm 12 a) (ho:∀ s∈others,Nm 12 s) (h4:others.length≤4) (hn:ns.length + 4≤1000):Fine fs (innX others) (eA a) ns:=by
  have hall:∀ r∈(walk1 (fun w m=>ev fs jl (put (eA a) "b" w) m) (others.map W.txt) ns).1,∃ i,r.res = found fs i:=walkP_all (p:=fun r=>∃ i,r.res = found fs i) fun w hw ns=>by
    obtain ⟨s,hs,rfl⟩:=List.mem_map.mp hw
    exact ⟨_,(ev_jl ha (ho s hs)).1⟩
  obtain ⟨h1,h2⟩:=worths_looks hf hall
  unfold innX
  rw [Fine,Fine,ev_lit]
  refine ⟨trivial,fun ws hws=>?_⟩
  obtain rfl:others.map W.txt = ws:=W.lst.inj (Res.made.inj hws)
  refine ⟨along_of (d:=1) ?_ (fun w hw ns=>?_) (fun w hw ns hn=>?_),ths_of _ h1,Nat.le_trans h2 (by decide)⟩
  · show ns.length + _≤_
    rw [List.length_map]
    omega
  · obtain ⟨s,hs,rfl⟩:=List.mem_map.mp hw
    show (ev fs jl (put (eA a) "b" (.txt s)) ns).2.length≤_
    rw [(ev_jl ha (ho s hs)).2,List.length_append]
    exact Nat.le_refl _
  · obtain ⟨s,hs,rfl⟩:=List.mem_map.mp hw
    exact fine_jl ha (ho s hs) (by omega)
end
end D
set_option Elab.async false
set_option linter.all false
set_option maxRecDepth 100000
set_option maxHeartbeats 4000000
namespace D
open PySem L2
section
variable {fs:List Res}{some' others:Ns}
theorem rnames_cons (a:Str) (r:Ns):rnames (a :: r) others = (others.map fun b=>a ++ b) ++ rnames r others:=rfl
theorem rnames_len:∀ r:Ns,(rnames r others).length = r.length * others.length
  | []=>by simp [rnames]
  | a :: r=>by
    rw [rnames_cons,List.length_append,List.length_map,rnames_len r,List.length_cons,Nat.add_mul,Nat.one_mul]
    omega
def oF (fs:List Res) (others:Ns):W→Ns→R × Ns:=fun w m=>ev fs (innX others) (put e0 "a" w) m
theorem oF_at (s:Str) (ns:Ns):oF fs others (.txt s) ns = ev fs (innX others) (eA s) ns:=rfl
theorem out_end (ho:∀ s∈others,Nm 12 s) (h4:others.length≤4):∀ {r:Ns}{ns:Ns}{p:Nat},(∀ s∈r,Nm 12 s)→p < r.length * others.length→(∀ i < p,∃ y,found fs (ns.length + i) = .made y∧Sm y)→(found fs (ns.length + p)).isMade = false→(walk1 (oF fs others) (r.map W.txt) ns).2 = ns ++ (rnames r others).take (p + 1)∧allMade (walk1 (oF fs others) (r.map W.txt) ns).1 = false∧∀ d,(lastR (walk1 (oF fs others) (r.map W.txt) ns).1 d).res = found fs (ns.length + p)
  | [],ns,p,_,hp,_,_=>by simp at hp
  | a :: r,ns,p,hr,hp,h,h1=>by
    have ha:=hr a List.mem_cons_self
    rw [List.length_cons,Nat.add_mul,Nat.one_mul] at hp
    by_cases hlt:p < others.length
    · obtain ⟨i1,i2⟩:=inn_end (fs:=fs) (ns:=ns) ha ho h4 hlt (fun i hi=>by obtain ⟨y,hy,_⟩:=h i hi; rw [hy]; rfl) h1
      rw [List.map_cons,walk1_at,oF_at,if_neg (by rw [i1,h1]; decide),i2,rnames_cons,List.take_append_of_le_length (by rw [List.length_map]; omega)]
      refine ⟨rfl,?_,fun d=>by rw [lastR_cons]; exact i1⟩
      show ((ev fs (innX others) (eA a) ns).1.res.isMade && true) = false
      rw [i1,h1]
      rfl
    · obtain ⟨i1,i2⟩:=inn_made (fs:=fs) (ns:=ns) ha ho h4 fun i hi=>h i (by omega)
      have hl:(ns ++ others.map fun b=>a ++ b).length = ns.length + others.length:=by rw [List.length_append,List.length_map]
      have hsh:∀ i,(ns ++ others.map fun b=>a ++ b).length + i = ns.length + (others.length + i):=fun i=>by rw [hl]; omega
      obtain ⟨j1,j2,j3⟩:=out_end ho h4 (r:=r) (ns:=ns ++ others.map fun b=>a ++ b) (p:=p - others.length) (fun s hs=>hr s (List.mem_cons_of_mem _ hs)) (by omega) (fun i hi=>by rw [hsh]; exact h _ (by omega)) (by rw [hsh,show others.length + (p - others.length) = p by omega]; exact h1)
      rw [List.map_cons,walk1_at,oF_at,if_pos (by rw [i1]; rfl),i2]
      refine ⟨?_,?_,fun d=>?_⟩
      · show (walk1 (oF fs others) (r.map W.txt) _).2 = _
        rw [j1,rnames_cons,List.append_assoc,List.take_append,List.length_map,List.take_of_length_le (l:=others.map fun b=>a ++ b) (by rw [List.length_map]; omega),show p + 1 - others.length = p - others.length + 1 by omega]
      · show ((ev fs (innX others) (eA a) ns).1.res.isMade && allMade (walk1 (oF fs others) (r.map W.txt) _).1) = false
        rw [j2,Bool.and_false]
      · show (lastR (_ :: (walk1 (oF fs others) (r.map W.txt) _).1) d).res = _
        rw [lastR_cons,j3,hsh,show others.length + (p - others.length) = p by omega]
theorem out_made (ho:∀ s∈others,Nm 12 s) (h4:others.length≤4):∀ {r:Ns}{ns:Ns},(∀ s∈r,Nm 12 s)→(∀ i < r.length * others.length,∃ y,found fs (ns.length + i) = .made y∧Sm y)→(walk1 (oF fs others) (r.map W.txt) ns).2 = ns ++ rnames r others∧allMade (walk1 (oF fs others) (r.map W.txt) ns).1 = true∧(walk1 (oF fs others) (r.map W.txt) ns).1.map R.worth = (List.range r.length).map fun k=>W.lst ((List.range others.length).map fun i=>resW (found fs (ns.length + (k * others.length + i))))
  | [],ns,_,_=>by
    rw [List.map_nil,walk1]
    exact ⟨(List.append_nil _).symm,rfl,rfl⟩
  | a :: r,ns,hr,h=>by
    have ha:=hr a List.mem_cons_self
    rw [List.length_cons,Nat.add_mul,Nat.one_mul] at h
    obtain ⟨i1,i2⟩:=inn_made (fs:=fs) (ns:=ns) ha ho h4 fun i hi=>h i (by omega)
    have hl:(ns ++ others.map fun b=>a ++ b).length = ns.length + others.length:=by rw [List.length_append,List.length_map]
    have hsh:∀ i,(ns ++ others.map fun b=>a ++ b).length + i = ns.length + (others.length + i):=fun i=>by rw [hl]; omega
    obtain ⟨j1,j2,j3⟩:=out_made ho h4 (r:=r) (ns:=ns ++ others.map fun b=>a ++ b) (fun s hs=>hr s (List.mem_cons_of_mem _ hs)) (fun i hi=>by rw [hsh]; exact h _ (by omega))
    rw [List.map_cons,walk1_at,oF_at,if_pos (by rw [i1]; rfl),i2]
    refine ⟨?_,?_,?_⟩
    · show (walk1 (oF fs others) (r.map W.txt) _).2 = _
      rw [j1,rnames_cons,List.append_assoc]
    · show ((ev fs (innX others) (eA a) ns).1.res.isMade && allMade (walk1 (oF fs others) (r.map W.txt) _).1) = true
      rw [j2,i1]
      rfl
    · show (ev fs (innX others) (eA a) ns).1.worth :: (walk1 (oF fs others) (r.map W.txt) _).1.map R.worth = _
      rw [j3,worth_res,i1,List.length_cons,List.range_succ_eq_map,List.map_cons,List.map_map]
      have e1:∀ i,ns.length + i = ns.length + (0 * others.length + i):=fun i=>by omega
      refine congr (congrArg _ ?_) (List.map_congr_left fun k _=>?_)
      · show W.lst _ = W.lst _
        refine congrArg W.lst (List.map_congr_left fun i _=>?_)
        rw [Nat.zero_mul,Nat.zero_add]
      · show W.lst _ = W.lst _
        refine congrArg W.lst (List.map_congr_left fun i _=>?_)
        rw [hsh,show k.succ * others.length + i = others.length + (k * others.length + i) by rw [Nat.succ_mul]; omega]
theorem out_len (hs:∀ s∈some',Nm 12 s) (ho:∀ s∈others,Nm 12 s) (h4:others.length≤4) (w:W) (hw:w∈some'.map W.txt) (ns:Ns):(oF fs others w ns).2.length≤ns.length + 4:=by
  obtain ⟨s,h,rfl⟩:=List.mem_map.mp hw
  have:=inn_len (fs:=fs) (ns:=ns) (hs s h) ho h4
  rw [oF_at]
  omega
theorem rounds_fine (hs:∀ s∈some',Nm 12 s) (ho:∀ s∈others,Nm 12 s) (h4s:some'.length≤4) (h4:others.length≤4) (hf:∀ r∈fs,OutOk r):Fine fs (roundsX some' others) e0 []:=by
  obtain ⟨h1,h2⟩:=worths_all (d:=4) (rs:=(walk1 (oF fs others) (some'.map W.txt) []).1) (walkP_all (p:=fun r=>r.worth.Ok∧r.worth.depth≤4) fun w hw ns=>by
    obtain ⟨s,h,rfl⟩:=List.mem_map.mp hw
    exact inn_worth hf (hs s h) ho h4)
  unfold roundsX
  rw [Fine,Fine,ev_lit]
  refine ⟨trivial,fun ws hws=>?_⟩
  obtain rfl:some'.map W.txt = ws:=W.lst.inj (Res.made.inj hws)
  refine ⟨along_of (f:=oF fs others) (d:=4) ?_ (out_len hs ho h4) (fun w hw ns hn=>?_),ths_of _ h1,Nat.le_trans h2 (by decide)⟩
  · show 0 + _≤_
    rw [List.length_map]
    omega
  · obtain ⟨s,h,rfl⟩:=List.mem_map.mp hw
    exact inn_fine hf (hs s h) ho h4 hn
theorem rounds_ev (h4s:some'.length≤4):ev fs (roundsX some' others) e0 [] = if allMade (walk1 (oF fs others) (some'.map W.txt) []).1 then (.mk (resOf (madeW (.lst ((walk1 (oF fs others) (some'.map W.txt) []).1.map R.worth)))) (RL (.lst (some'.map W.txt)) :: (walk1 (oF fs others) (some'.map W.txt) []).1),(walk1 (oF fs others) (some'.map W.txt) []).2)
    else (.mk (lastR (walk1 (oF fs others) (some'.map W.txt) []).1 (RL (.lst (some'.map W.txt)))).res (RL (.lst (some'.map W.txt)) :: (walk1 (oF fs others) (some'.map W.txt) []).1),(walk1 (oF fs others) (some'.map W.txt) []).2):=by
  unfold roundsX
  rw [each_C (ws:=some'.map W.txt) lit_res (by rw [List.length_map]; omega),ev_lit]
  rfl
theorem rounds_end (hs:∀ s∈some',Nm 12 s) (ho:∀ s∈others,Nm 12 s) (h4s:some'.length≤4) (h4:others.length≤4) {p:Nat} (hp:p < (rnames some' others).length) (h:∀ i < p,∃ y,found fs i = .made y∧Sm y) (h1:(found fs p).isMade = false):(ev fs (roundsX some' others) e0 []).1.res = found fs p∧(ev fs (roundsX some' others) e0 []).2 = (rnames some' others).take (p + 1):=by
  have z:∀ i,([]:Ns).length + i = i:=fun i=>Nat.zero_add i
  rw [rnames_len] at hp
  obtain ⟨i1,i2,i3⟩:=out_end (fs:=fs) ho h4 (ns:=[]) hs hp (fun i hi=>by rw [z]; exact h i hi) (by rw [z]; exact h1)
  rw [rounds_ev h4s,if_neg (by rw [i2]; decide)]
  refine ⟨?_,i1⟩
  have:=i3 (RL (.lst (some'.map W.txt)))
  rw [z] at this
  exact this
end
theorem rounds_high (a b:Ns):(roundsX a b).high≤20:=by
  unfold roundsX innX jl
  simp only [Ex.high,highs]
  decide
section
variable {some' others:Ns}{founds:List Res}
theorem rounds_stop (hs:∀ s∈some',Nm 12 s) (ho:∀ s∈others,Nm 12 s) (h4s:some'.length≤4) (h4:others.length≤4) (hlen:(rnames some' others).length≤founds.length) {j:Nat} (hj:j < (rnames some' others).length) (hm:∀ i < j,∃ y,founds[i]? = some (.made y)∧Sm y):(ev (founds.take j) (roundsX some' others) e0 []).1.res = .stop∧(ev (founds.take j) (roundsX some' others) e0 []).2 = (rnames some' others).take (j + 1):=by
  have hs':=found_stop (founds:=founds) (j:=j) (by omega)
  have:=rounds_end (fs:=founds.take j) hs ho h4s h4 hj (fun i hi=>by
    obtain ⟨y,hy,sm⟩:=hm i hi
    rw [found_take hi (by omega),hy]
    exact ⟨y,rfl,sm⟩) (by rw [hs']; rfl)
  rw [hs'] at this
  exact this
theorem beh_roundsW (hs:∀ s∈some',Nm 12 s) (ho:∀ s∈others,Nm 12 s) (h4s:some'.length≤4) (h4:others.length≤4) (hlen:(rnames some' others).length = founds.length) {k:Nat} (hk:k < (rnames some' others).length) {ws:List W} (hw:founds[k]? = some (.wrong ws)) (ok:OutOk (.wrong ws)) (hm:∀ i < k,∃ y,founds[i]? = some (.made y)∧Sm y):Beh (roundsX some' others) ((rnames some' others).take (k + 1)) founds (.wrong ws):=by
  have hl:((rnames some' others).take (k + 1)).length = k + 1:=by rw [List.length_take]; omega
  refine ⟨rounds_high _ _,by omega,ok.ne,ok.th,Nat.le_trans ok.dp (by decide),fun fs=>rounds_fine hs ho h4s h4,fun j hj=>?_,fun fs hp=>?_⟩
  · rw [hl] at hj
    have:=rounds_stop (founds:=founds) hs ho h4s h4 (by omega) (j:=j) (by omega) fun i hi=>hm i (by omega)
    refine ⟨this.1,?_⟩
    rw [this.2,List.take_take,show min (j + 1) (k + 1) = j + 1 by omega]
  · rw [hl] at hp
    have hul:(founds.take (k + 1)).length = k + 1:=by rw [List.length_take]; omega
    have hf:found fs k = .wrong ws:=by
      rw [found_pre hp (by omega),List.getElem?_take_of_lt (by omega),hw]
      rfl
    have:=rounds_end (fs:=fs) hs ho h4s h4 hk (fun i hi=>by
      obtain ⟨y,hy,sm⟩:=hm i hi
      rw [found_pre hp (by omega),List.getElem?_take_of_lt (by omega),hy]
      exact ⟨y,rfl,sm⟩) (by rw [hf]; rfl)
    rw [hf] at this
    exact this
end
def Sn (y:W):Prop:=∃ i:Int,y = .num i∧0≤i∧i≤4
theorem Sn.sm {y:W} (h:Sn y):Sm y:=by
  obtain ⟨i,rfl,h0,h1⟩:=h
  have:(10:Int) ^ 60 > 1000:=by decide
  exact ⟨⟨by omega,by omega⟩,Nat.zero_le _,by show (1:Int)≤96; decide⟩
theorem sns:∀ {ys:List W},(∀ y∈ys,Sn y)→Oks ys∧depths ys≤0∧sizes ys = ys.length
  | [],_=>⟨trivial,Nat.le_refl _,rfl⟩
  | y :: ys,h=>by
    obtain ⟨i,rfl,h0,h1⟩:=h y List.mem_cons_self
    obtain ⟨i1,i2,i3⟩:=sns fun z hz=>h z (List.mem_cons_of_mem _ hz)
    refine ⟨⟨(Sn.sm ⟨i,rfl,h0,h1⟩).ok,i1⟩,?_,?_⟩
    · simp only [depths,W.depth]
      omega
    · simp only [sizes,W.size,List.length_cons,i3]
      omega
def Row (m:Nat) (y:W):Prop:=∃ zs,y = .lst zs∧zs.length≤m∧∀ z∈zs,Sn z
theorem rws:∀ {ys:List W},(∀ y∈ys,Row 4 y)→Oks ys∧depths ys≤1∧sizes ys≤5 * ys.length
  | [],_=>⟨trivial,Nat.zero_le _,by simp [sizes]⟩
  | y :: ys,h=>by
    obtain ⟨zs,rfl,hl,hz⟩:=h y List.mem_cons_self
    obtain ⟨i1,i2,i3⟩:=rws fun z hz=>h z (List.mem_cons_of_mem _ hz)
    obtain ⟨j1,j2,j3⟩:=sns hz
    refine ⟨⟨⟨by omega,j1⟩,i1⟩,?_,?_⟩
    · simp only [depths,W.depth]
      omega
    · simp only [sizes,W.size,List.length_cons,j3]
      omega
def rowsOf (n w:Nat) (ys:List W):List W:=(List.range n).map fun k=>W.lst ((ys.drop (k * w)).take w)
theorem rows_row {n w:Nat}{ys:List W} (hw:w≤4) (h:∀ y∈ys,Sn y):∀ y∈rowsOf n w ys,Row 4 y:=fun y hy=>by
  obtain ⟨k,_,rfl⟩:=List.mem_map.mp hy
  exact ⟨_,rfl,by rw [List.length_take]; omega,fun z hz=>h z (List.mem_of_mem_drop (List.mem_of_mem_take hz))⟩
theorem beh_roundsM {some' others:Ns}{ys:List W} (hs:∀ s∈some',Nm 12 s) (ho:∀ s∈others,Nm 12 s) (h4s:some'.length≤4) (h4:others.length≤4) (hlen:ys.length = (rnames some' others).length) (hy:∀ y∈ys,Sn y):Beh (roundsX some' others) (rnames some' others) (ys.map .made) (.made (.lst (rowsOf some'.length others.length ys))):=by
  have hat:∀ i (hi:i < ys.length),(ys.map Res.made)[i]? = some (.made ys[i]):=fun i hi=>by rw [List.getElem?_map,List.getElem?_eq_getElem hi]; rfl
  have hrow:=rows_row (n:=some'.length) (w:=others.length) h4 hy
  obtain ⟨r1,r2,r3⟩:=rws hrow
  have hrl:(rowsOf some'.length others.length ys).length = some'.length:=by unfold rowsOf; rw [List.length_map,List.length_range]
  refine ⟨rounds_high _ _,by rw [List.length_map]; omega,(fun z=>nomatch z),⟨by show 2≤1000; decide,th_made',⟨by omega,ths_of _ r1⟩,trivial⟩,?_,fun fs=>rounds_fine hs ho h4s h4,fun j hj=>?_,fun fs hp=>?_⟩
  · simp only [Res.toW,W.depth,depths]
    omega
  · exact rounds_stop hs ho h4s h4 (by rw [List.length_map]; omega) hj fun i hi=>⟨_,hat i (by omega),(hy _ (List.getElem_mem _)).sm⟩
  · have hp:ys.map Res.made <+: fs:=by
      rw [List.take_of_length_le (by rw [List.length_map]; omega)] at hp
      exact hp
    have hf:∀ i (hi:i < ys.length),found fs i = .made ys[i]:=fun i hi=>by
      rw [found_pre hp (by rw [List.length_map]; omega),hat i hi]
      rfl
    have z:∀ i,([]:Ns).length + i = i:=fun i=>Nat.zero_add i
    rw [rnames_len] at hlen
    obtain ⟨i1,i2,i3⟩:=out_made (fs:=fs) ho h4 (r:=some') (ns:=[]) hs fun i hi=>by
      rw [z,hf i (by omega)]
      exact ⟨_,rfl,(hy _ (List.getElem_mem _)).sm⟩
    have e1:(walk1 (oF fs others) (some'.map W.txt) []).1.map R.worth = rowsOf some'.length others.length ys:=by
      rw [i3]
      unfold rowsOf
      refine List.map_congr_left fun k hk=>congrArg W.lst ?_
      have hk:=List.mem_range.mp hk
      have hkl:k * others.length + others.length≤some'.length * others.length:=by
        have:=Nat.mul_le_mul_right others.length (show k + 1≤some'.length by omega)
        rw [Nat.add_mul,Nat.one_mul] at this
        exact this
      refine List.ext_getElem (by rw [List.length_map,List.length_range,List.length_take,List.length_drop]; omega) fun i h1 h2=>?_
      rw [List.length_map,List.length_range] at h1
      rw [List.getElem_map,List.getElem_range,List.getElem_take,List.getElem_drop,z,hf _ (by omega)]
      rfl
    rw [rounds_ev h4s,if_pos i2,e1]
    refine ⟨?_,i1⟩
    show resOf (madeW (.lst _)) = _
    refine rec_made (good_ok ⟨by omega,r1⟩ ?_ ?_)
    · simp only [W.size]
      omega
    · simp only [W.depth]
      omega
end D
set_option Elab.async false
set_option linter.all false
set_option maxRecDepth 100000
set_option maxHeartbeats 4000000
namespace D
open PySem L2
theorem eachX_w (names:Ns):(eachX names).toW = .lst [.txt "each",.txt "name",.lst [.txt "lit",.lst (names.map W.txt)],.lst [.txt "look",.lst [.txt "var",.txt "name"]]]:=by
  unfold eachX
  simp only [Ex.toW]
theorem RW.four {H:Hp}{p:Addr}{u v t s:V}{x y z w:W} (e:H p = some (.tup [u,v,t,s])) (h1:RW H u x) (h2:RW H v y) (h3:RW H t z) (h4:RW H s w):RW H (.ref p) (.lst [x,y,z,w]):=by
  have:RWs H [u,v,t,s] [x,y,z,w]:=RWs.cons' h1 (RWs.cons' h2 (RWs.cons' h3 (RWs.cons' h4 ⟨rfl,fun i v w e=>by simp at e⟩)))
  exact .lst e this.len this.at'
theorem RWs.strs {H:Hp} (names:Ns):RWs H (names.map V.str) (names.map W.txt):=⟨by rw [List.length_map,List.length_map],fun i v w a b=>by
  rw [List.getElem?_map] at a b
  obtain ⟨s,hs,rfl⟩:=Option.map_eq_some_iff.mp a
  rw [hs] at b
  cases b
  exact .txt s⟩
theorem RWs.set {H:Hp}{us:List V}{ws:List W}{v:V}{x:W} (h:RWs H us ws) (hx:RW H v x) (j:Nat):RWs H (us.set j v) (ws.set j x):=⟨by rw [List.length_set,List.length_set,h.len],fun i u y a b=>by
  rw [List.getElem?_set] at a b
  by_cases hji:j = i
  · rw [if_pos hji] at a b
    by_cases hl:j < us.length
    · rw [if_pos hl] at a
      rw [if_pos (by rw [← h.len]; exact hl)] at b
      cases a
      cases b
      exact hx
    · rw [if_neg hl] at a
      cases a
  · rw [if_neg hji] at a b
    exact h.at' i u y a b⟩
theorem Step.free {b c:Addr}{H H':Hp} (x:Step b H H') (hc:c≠b) (e:H' c = none):H c = none:=by
  cases hh:H c with
  | none=>rfl
  | some o=>rw [x.keep c o hc hh] at e; cases e
theorem Step.putF {b p:Addr}{H H':Hp}{o:HO} (x:Step b H H') (e:H p = none) (hp:p≠b):Step b H (upd H' p o):=⟨by
  obtain ⟨r,s,t,h⟩:=x.box
  exact ⟨r,s,t,by rw [upd_ne hp.symm]; exact h⟩,fun c u hc hh=>by rw [upd_ne (ne_of_none hh e)]; exact x.keep c u hc hh⟩
theorem ixN_nat {n j:Nat} (h:j < n):ixN n (j:Int) = some j:=by
  unfold ixN
  rw [if_pos (by omega),if_pos (by omega)]
  rfl
section
variable {P:Program}{w:World}{K:PySem.W.Frag}{mg:Str→Option Value}{base:Heap}{f:Addr}{fd:FuncData}{k n:Nat}
theorem sc_leach:FnScope ["_law_box_here","_law_names","_law_founds","_law_rule","_law_at"] ["_law_box_here"] (defScope s_leach):=⟨rfl,rfl,rfl,by decide +kernel,rfl,by decide +kernel,by decide +kernel⟩
theorem ok_leach (F:Fun K "_law_each" "_law_each" s_leach f fd) (G_ltake:Have P w K mg base "_law_take" k ["_law_box_here","_law_wide"] (spTake)) (G_loutcome:Have P w K mg base "_law_outcome" k ["_law_box_here"] (spOut)) (G_lname:Have P w K mg base "_law_name" k ["_law_box_here"] (spName)) (m_len:mg "len" = none) (m_range:mg "range" = none) (m_tuple:mg "tuple" = none):FnOk P w K mg base CX0 (k + 1) f fd ["_law_box_here"] (spBuild K):=by
  refine F.okQ sc_leach (fun vs H Q E h=>?_) (fun cdv A outer s H vs Q E hr h=>?_)
  · obtain ⟨b,rfl,_⟩:=h
    rfl
  obtain ⟨b,rfl,hb,q⟩:=h
  refine ⟨_,(pss_cons (ps_lset (i:=1) [0] ["_law_box_here"] rfl rfl (by decide +kernel) rfl (by decide +kernel) rfl (by decide +kernel) ⟨rfl,trivial⟩ rfl ⟨⟨rfl,rfl,Or.inr (Or.inl rfl),(by show (some NameKind.cell:Option NameKind)≠some .local; decide),⟨_,rfl⟩⟩,trivial⟩ (pi_range1 rfl m_range (pa_cons (pe_fn G_ltake hr rfl (pa_cons (pv 0) (pa_cons pe_int pa_nil))) pa_nil)) (fun C s H fp=>⟨pifs_nil,(pe_fn G_lname hr rfl (pa_cons (pv 1) pa_nil))⟩) sc_leach.nd rfl (Or.inl rfl))
    (pss_cons (ps_lset (i:=2) [0] ["_law_box_here"] rfl rfl (by decide +kernel) rfl (by decide +kernel) rfl (by decide +kernel) ⟨rfl,trivial⟩ rfl ⟨⟨rfl,rfl,Or.inr (Or.inl rfl),(by show (some NameKind.cell:Option NameKind)≠some .local; decide),⟨_,rfl⟩⟩,trivial⟩ (pi_list (pv 1)) (fun C s H fp=>⟨pifs_nil,(pe_tup (pa_cons pe_str (pa_cons (pe_fn G_ltake hr rfl (pa_cons (pv 1) (pa_cons pe_int pa_nil))) pa_nil)))⟩) sc_leach.nd rfl (Or.inl rfl))
    (pss_cons (ps_set (i:=3) sc_leach.nd rfl (Or.inl rfl) (pe_tup (pa_cons pe_str (pa_cons pe_str (pa_cons (pe_tup (pa_cons pe_str (pa_cons (pe_callTy call_tuple_of rfl m_tuple boot_tupleT (pa_cons (pv 1) pa_nil)) pa_nil))) (pa_cons (pe_tup (pa_cons pe_str (pa_cons (pe_tup (pa_cons pe_str (pa_cons pe_str pa_nil))) pa_nil))) pa_nil))))))
    (pss_cons (ps_if (PW.pt (pw_and (pt_cmpR op_eq (pe_fn G_ltake hr rfl (pa_cons (pv 0) (pa_cons pe_int pa_nil))) pe_int (nomark _)) (pw_and1 (pt_cmpR (op_neE (Nat.lt_of_le_of_lt (Nat.le_add_right _ 64) hr.units)) (pv 1) (pe_lst pa_nil) (nomark _))))) (pss_cons (ps_set (i:=4) sc_leach.nd rfl (Or.inl rfl) (pe_fn G_ltake hr rfl (pa_cons (pv 0) (pa_cons (pe_callB call_len rfl m_len PySem.boot_len (pa_cons (pv 1) pa_nil)) pa_nil))))
    (pss_cons (ps_asg (pe_fn G_loutcome hr rfl (pa_cons (pv 0) pa_nil)) (pg_sub (pv 2) (pv 4) set_list))
    (pss_one (ps_if (pt_cmpR op_eq (pe_ix ix_tup (pe_ix ix_list (pv 2) (pv 4) (fun _ _=>rfl)) pe_int (fun _ _=>rfl)) pe_str (nomark _)) (pss_one (ps_ret (pe_tup (pa_cons (pv 3) (pa_cons (pe_slice sl_list (pv 1) po_none (po_some (pe_op op_add (pv 4) pe_int))) (pa_cons (pv 2) (pa_cons (pe_ix ix_list (pv 2) (pv 4) (fun _ _=>rfl)) pa_nil))))))) pss_nil)))) pss_nil)
    (pss_one (ps_ret (pe_tup (pa_cons (pv 3) (pa_cons (pv 1) (pa_cons (pv 2) (pa_cons (pe_tup (pa_cons pe_str (pa_cons (pe_callTy call_tuple_of rfl m_tuple boot_tupleT (pa_cons (pe_lcomp [] [] rfl rfl (by decide +kernel) rfl (by decide +kernel) rfl (by decide +kernel) trivial rfl trivial (pi_list (pv 2)) (fun C s H fp=>⟨pifs_nil,(pe_ix (show IxR _ (rIxT K) from ix_tup) (pv 0) pe_int (fun _ _=>rfl))⟩)) pa_nil)) pa_nil))) pa_nil))))))))))),?_⟩
  refine ⟨_,rfl,b,11,rfl,hb,by decide,by decide,fun n H1 n0 n1 st1=>?_⟩
  refine ⟨n,rfl,by omega,by omega,rd_drawR (n:=n) (fun i us H'=>∃ names:Ns,us = names.map V.str∧names.length = i∧(∀ s∈names,Nm 12 s)∧Step b H H') ⟨[],rfl,rfl,(fun s h=>nomatch h),st1⟩ (fun i us H' h=>?_) (by omega) (fun i us H' R hi h r=>?_) (fun us H' D h hD=>?_)⟩
  · obtain ⟨names,rfl,hl,_⟩:=h
    rw [List.length_map]
    exact hl
  · obtain ⟨names,rfl,hl,hnm,st⟩:=h
    refine ⟨_,rfl,b,rfl,st.box,fun z H2 hz st2=>r _ _ ⟨names ++ [z],by rw [List.map_append]; rfl,by rw [List.length_append,hl]; rfl,fun s hs=>?_,st.trans st2⟩⟩
    rcases List.mem_append.mp hs with hs | hs
    · exact hnm s hs
    · rw [List.mem_singleton.mp hs]; exact hz
  obtain ⟨names,rfl,hl,hnm,st2⟩:=h
  have eN:upd H' D (.lst (names.map V.str)) D = some (.lst (names.map V.str)):=upd_same
  have st3:=st2.trans (Step.new (o:=.lst (names.map V.str)) st2.box hD)
  have nDb:D≠b:=by
    obtain ⟨_,_,_,e'⟩:=st2.box
    exact (ne_of_none e' hD).symm
  have hl10:names.length≤10:=by omega
  generalize upd H' D (.lst (names.map V.str)) = H2 at eN st3
  refine ⟨_,rfl,D,rfl,⟨_,SqL.of eN⟩,rd_drawL (K:=K) (a:=D) (vs:=names.map V.str) (fun i us H''=>∃ ys:List W,RWs H'' us ((ys.map Res.made).map Res.toW)∧ys.length = i∧(∀ y∈ys,Sn y)∧Step b H H''∧H'' D = some (.lst (names.map V.str))) (Nat.le_of_lt (small1000 (by rw [List.length_map]; omega))) ⟨[],⟨rfl,fun i v w e=>by simp at e⟩,rfl,(fun s h=>nomatch h),st3,eN⟩ (fun i us H' h=>?_) (fun i us H' h=>?_) (fun i v us H' R hv h r=>?_) (fun us H' D2 h hD2=>?_)⟩
  · obtain ⟨ys,hw,hl,_⟩:=h
    rw [hw.len,List.length_map,List.length_map]
    exact hl
  · obtain ⟨_,_,_,_,_,e⟩:=h
    exact SqL.of e
  · obtain ⟨ys,hw,hl,hsn,st,eD⟩:=h
    refine ⟨_,rfl,b,5,rfl,st.box,by decide,by decide,fun m H3 m0 m1 st4=>⟨(by show 2≤sizeLine; decide),fun p hp=>?_⟩⟩
    have s5:=Same.new (o:=.tup [.str "made",.int m]) hp
    have st5:=st4.trans (Step.ofSame st4.box s5)
    refine r _ _ ⟨ys ++ [.num m],?_,by rw [List.length_append,hl]; rfl,fun y hy=>?_,st.trans st5,s5 _ _ (st4.keep _ _ nDb eD)⟩
    · rw [List.map_append,List.map_append]
      exact (hw.mono (st5.tups st.box)).snoc (RW.two upd_same (.txt _) (.num _))
    · rcases List.mem_append.mp hy with hy | hy
      · exact hsn y hy
      · rw [List.mem_singleton.mp hy]; exact ⟨m,rfl,m0,by omega⟩
  obtain ⟨ys,hw,hyl,hsn,st4,eN4⟩:=h
  have eF:upd H' D2 (.lst us) D2 = some (.lst us):=upd_same
  have s5:=Same.new (o:=.lst us) hD2
  have st5:=st4.trans (Step.ofSame st4.box s5)
  have eN5:=s5 _ _ eN4
  have hw5:=hw.mono (same_tups s5)
  have nFb:D2≠b:=by
    obtain ⟨_,_,_,e'⟩:=st4.box
    exact (ne_of_none e' hD2).symm
  have nFN:D2≠D:=(ne_of_none eN4 hD2).symm
  rw [List.length_map] at hyl
  generalize upd H' D2 (.lst us) = H5 at eF st5 eN5 hw5
  dsimp only [gName]
  refine seqI (fun σ' H''=>∃ ra,σ' = [some (.ref b),some (.ref D),some (.ref D2),some (.ref ra),none]∧Same H5 H''∧RW H'' (.ref ra) (eachX names).toW) (fun σ' H6 h6=>?_) (fun tl=>?_)
  rotate_left
  · refine ⟨_,rfl,D,_,rfl,.inl ⟨SqL.of eN5,fun t1 ht1=>?_⟩⟩
    have a1:=Same.new (o:=.tup (names.map V.str)) ht1
    refine ⟨(by show 2≤sizeLine; decide),fun t2 ht2=>⟨(by show 2≤sizeLine; decide),fun t3 ht3=>⟨(by show 2≤sizeLine; decide),fun t4 ht4=>⟨(by show 4≤sizeLine; decide),fun t5 ht5=>?_⟩⟩⟩⟩
    have a2:=Same.new (o:=.tup [.str "lit",.ref t1]) ht2
    have a3:=Same.new (o:=.tup [.str "var",.str "name"]) ht3
    have a4:=Same.new (o:=.tup [.str "look",.ref t3]) ht4
    have a5:=Same.new (o:=.tup [.str "each",.str "name",.ref t2,.ref t4]) ht5
    refine tl _ _ ⟨t5,rfl,(((a1.trans a2).trans a3).trans a4).trans a5,?_⟩
    rw [eachX_w]
    refine RW.four upd_same (.txt _) (.txt _) (RW.two (a5 _ _ (a4 _ _ (a3 _ _ upd_same))) (.txt _) (.lst (a5 _ _ (a4 _ _ (a3 _ _ (a2 _ _ upd_same)))) (RWs.strs (H:=H5) names).len (RWs.strs names).at')) (RW.two (a5 _ _ upd_same) (.txt _) (RW.two (a5 _ _ (a4 _ _ upd_same)) (.txt _) (.txt _)))
  obtain ⟨ra,rfl,s6,rX⟩:=h6
  have st6:=st5.trans (Step.ofSame st5.box s6)
  have eN6:=s6 _ _ eN5
  have eF6:=s6 _ _ eF
  have hw6:=hw5.mono (same_tups s6)
  have hul:us.length = names.length:=by rw [hw6.len,List.length_map,List.length_map,hyl]
  have nm40:∀ s∈names,Nm 100 s:=fun s hs=>⟨Nat.le_trans (hnm s hs).1 (by decide),(hnm s hs).2⟩
  refine seqI (fun σ' H''=>∃ (o4:Option V) (zs:List W) (vf:List V),σ' = [some (.ref b),some (.ref D),some (.ref D2),some (.ref ra),o4]∧Step b H H''∧H'' D = some (.lst (names.map V.str))∧H'' D2 = some (.lst vf)∧RWs H'' vf ((zs.map Res.made).map Res.toW)∧zs.length = names.length∧(∀ z∈zs,Sm z)∧RW H'' (.ref ra) (eachX names).toW) (fun σ' H7 h7=>?_) (fun tl=>?_)
  rotate_left
  · refine ⟨_,rfl,b,2,rfl,st6.box,by decide,by decide,fun r H7 r0 r1 st7=>?_⟩
    have tp:=st7.tups st6.box
    have eN7:=st7.keep _ _ nDb eN6
    have eF7:=st7.keep _ _ nFb eF6
    have hw7:=hw6.mono tp
    have rX7:=rX.mono tp
    have stA:=st6.trans st7
    have same:∀ H8,Same H7 H8→_:=fun H8 s8=>tl _ H8 ⟨none,ys,us,rfl,stA.trans (Step.ofSame stA.box s8),s8 _ _ eN7,s8 _ _ eF7,hw7.mono (same_tups s8),hyl,fun z hz=>(hsn z hz).sm,rX7.mono (same_tups s8)⟩
    refine ⟨rfl,_,rfl,ite2 (fun _=>?_) (fun _=>same _ (Same.refl _))⟩
    refine ⟨_,rfl,(by show 0≤sizeLine; decide),fun le hle=>?_⟩
    have s8:=Same.new (o:=.lst []) hle
    refine ⟨D,le,_,rfl,rfl,SqL.of (s8 _ _ eN7),SqL.of upd_same,_,rfl,ite2 (fun c1=>?_) (fun _=>same _ s8)⟩
    have hpos:0 < names.length:=by
      cases names with
      | nil=>exact absurd c1 (by decide)
      | cons a l=>exact Nat.succ_pos _
    have eN8:=s8 _ _ eN7
    have eF8:=s8 _ _ eF7
    have hw8:=hw7.mono (same_tups s8)
    have rX8:=rX7.mono (same_tups s8)
    have st8:=stA.trans (Step.ofSame stA.box s8)
    generalize upd H7 le (.lst []) = H8 at eN8 eF8 hw8 rX8 st8
    refine ⟨_,rfl,_,rfl,_,_,rfl,.inl ⟨_,SqL.of eN8,rfl⟩,b,_,rfl,st8.box,by rw [List.length_map]; omega,by rw [List.length_map]; omega,fun m H9 m0 m1 st9=>?_⟩
    rw [List.length_map] at m1
    have eN9:=st9.keep _ _ nDb eN8
    have eF9:=st9.keep _ _ nFb eF8
    have tp9:=st9.tups st8.box
    refine ⟨_,rfl,b,rfl,st9.box,fun v x H10 rx okx st10=>?_⟩
    have eN10:=st10.keep _ _ nDb eN9
    have eF10:=st10.keep _ _ nFb eF9
    have tp10:=st10.tups st9.box
    have hw10:=(hw8.mono tp9).mono tp10
    have rX10:=(rX8.mono tp9).mono tp10
    obtain ⟨j,rfl⟩:∃ j:Nat,m = (j:Int):=⟨m.toNat,by omega⟩
    have hj:j < names.length:=by omega
    refine ⟨_,rfl,_,rfl,D2,us,_,j,rfl,rfl,eF10,ixN_nat (by omega),?_⟩
    have kb:Kb D2 H10 (upd H10 D2 (.lst (us.set j v))):=Kb.put
    have eF11:upd H10 D2 (.lst (us.set j v)) D2 = some (.lst (us.set j v)):=upd_same
    have tp11:=kb.tups eF10
    have eN11:=kb _ _ nFN.symm eN10
    have st11:=((st8.trans st9).trans st10).putF (o:=.lst (us.set j v)) (st4.free nFb hD2) nFb
    have hw11:=(hw10.mono tp11).set (rx.mono tp11) j
    have rx11:=rx.mono tp11
    have rX11:=rX10.mono tp11
    rw [← List.map_set] at hw11
    generalize upd H10 D2 (.lst (us.set j v)) = H11 at eF11 eN11 st11 hw11 rx11 rX11
    have hati:atI (us.set j v) (j:Int) = some v:=atI_nat (by rw [List.getElem?_set_self (by omega)])
    have hset:((ys.map Res.made).set j x)[j]? = some x:=by rw [List.getElem?_set_self (by rw [List.length_map]; omega)]
    have hmade:∀ i < j,∃ y,((ys.map Res.made).set j x)[i]? = some (.made y):=fun i hi=>by
      rw [List.getElem?_set_ne (by omega),List.getElem?_map,List.getElem?_eq_getElem (by omega)]
      exact ⟨_,rfl⟩
    have hsl:((ys.map Res.made).set j x).length = names.length:=by rw [List.length_set,List.length_map,hyl]
    have hok:∀ r∈(ys.map Res.made).set j x,OutOk r:=fun r hr=>by
      rcases List.mem_or_eq_of_mem_set hr with hr | rfl
      · obtain ⟨y,hy,rfl⟩:=List.mem_map.mp hr
        have:=(hsn y hy).sm
        exact ⟨this.ok,this.dp,this.sz⟩
      · exact okx
    cases x with
    | stop=>exact okx.elim
    | made y=>
      have rv:RW H11 v (.lst [.txt "made",y]):=rx11
      obtain ⟨t,us9,rfl,et,hw9⟩:=rv.tup
      obtain ⟨u0,us9,rfl,r0,hw9⟩:=hw9.cons
      obtain rfl:=r0.str
      refine ⟨_,rfl,_,rfl,D2,_,_,_,rfl,rfl,SqL.of eF11,hati,t,_,0,_,rfl,rfl,SqT.of et,atI_nat (j:=0) rfl,rfl,_,rfl,?_⟩
      rw [show decide (V.str "made" = V.str "wrong") = false from decide_eq_false (fun z=>absurd (V.str.inj z) (by decide +kernel))]
      refine iteF (tl _ _ ⟨_,ys.set j y,_,rfl,st11,eN11,eF11,?_,by rw [List.length_set]; exact hyl,fun z hz=>?_,rX11⟩)
      · rw [List.map_set]
        exact hw11
      · rcases List.mem_or_eq_of_mem_set hz with hz | rfl
        · exact (hsn z hz).sm
        · exact ⟨okx.1,okx.2.1,okx.2.2⟩
    | wrong ws=>
      have rv:RW H11 v (.lst (.txt "wrong" :: ws)):=rx11
      obtain ⟨t,us9,rfl,et,hw9⟩:=rv.tup
      obtain ⟨u0,us9,rfl,r0,hw9⟩:=hw9.cons
      obtain rfl:=r0.str
      refine ⟨_,rfl,_,rfl,D2,_,_,_,rfl,rfl,SqL.of eF11,hati,t,_,0,_,rfl,rfl,SqT.of et,atI_nat (j:=0) rfl,rfl,_,rfl,iteT ?_⟩
      refine ⟨_,rfl,_,rfl,_,rfl,_,_,rfl,rfl,_,rfl,D,_,rfl,SqL.of eN11,fun D7 hD7=>?_⟩
      have t1:=Same.new (o:=.lst (cutV (names.map V.str) none (some ((j:Int) + 1)))) hD7
      have eD7:upd H11 D7 (.lst (cutV (names.map V.str) none (some ((j:Int) + 1)))) D7 = some (.lst ((names.take (j + 1)).map V.str)):=by
        rw [upd_same,show ((j:Int) + 1) = 0 + (j:Int) + 1 by omega,cut_take (by rw [List.length_map]; omega),List.map_take]
      have nD7:D7≠b:=by
        obtain ⟨_,_,_,e'⟩:=st11.box
        exact (ne_of_none e' hD7).symm
      generalize upd H11 D7 (.lst (cutV (names.map V.str) none (some ((j:Int) + 1)))) = H12 at t1 eD7
      refine ⟨_,rfl,_,rfl,_,rfl,D2,_,_,_,rfl,rfl,SqL.of (t1 _ _ eF11),hati,(by show 4≤sizeLine; decide),fun p2 hp2=>?_⟩
      have t3:=Same.new (o:=.tup [.ref ra,.ref D7,.ref D2,.ref t]) hp2
      have sA:=t1.trans t3
      exact q p2 D7 D2 _ _ _ (eachX names) (names.take (j + 1)) _ (.wrong ws) _ upd_same (rX11.mono (same_tups sA)) (t3 _ _ eD7) (sA _ _ eF11) (hw11.mono (same_tups sA)) hok (by omega) (fun s hs=>nm40 s (List.mem_of_mem_take hs)) (rx11.mono (same_tups sA)) (beh_eachW hl10 hsl.symm hj hset okx hmade) nD7 nFb (st11.trans (Step.ofSame st11.box sA))
  obtain ⟨o4,zs,vf,rfl,st7,eN7,eF7,hw7,hzl,hsm,rX7⟩:=h7
  have hvl:vf.length = zs.length:=by rw [hw7.len,List.length_map,List.length_map]
  refine ⟨_,rfl,_,rfl,_,rfl,_,rfl,D2,rfl,⟨_,SqL.of eF7⟩,rd_bodyLP (K:=K) (vs:=vf) (fun i us H1=>us.length = i∧RWs H1 us (zs.take i)) (SqL.of eF7) (Nat.le_of_lt (small1000 (by omega))) ⟨rfl,rfl,fun i v w e=>by simp at e⟩ (fun i us H1 h=>h.1) (fun i v us H1 R hv hP sm r=>?_) (fun us H1 D3 hP sm hD3=>?_)⟩
  · have hi:i < zs.length:=by
      have:=(List.getElem?_eq_some_iff.mp hv).1
      omega
    have hz:zs[i]? = some zs[i]:=List.getElem?_eq_getElem hi
    have rv:RW H7 v (.lst [.txt "made",zs[i]]):=hw7.at' i v _ hv (by rw [List.getElem?_map,List.getElem?_map,hz]; rfl)
    obtain ⟨t,us9,rfl,et,hw9⟩:=rv.tup
    obtain ⟨u0,us9,rfl,r0,hw9⟩:=hw9.cons
    obtain ⟨u1,us9,rfl,r1,hw9⟩:=hw9.cons
    refine ⟨_,rfl,t,_,1,u1,rfl,rfl,SqT.of (sm _ _ et),atI_nat (j:=1) rfl,r _ _ (Same.refl _) ⟨by rw [List.length_append,hP.1]; rfl,?_⟩⟩
    rw [take_snoc hz]
    exact hP.2.snoc (r1.mono (same_tups sm))
  · rw [hvl,List.take_length] at hP
    refine ⟨D3,us,rfl,.inl ⟨SqL.of upd_same,fun t ht=>⟨(by show 2≤sizeLine; decide),fun p1 hp1=>⟨(by show 4≤sizeLine; decide),fun p2 hp2=>?_⟩⟩⟩⟩
    have t0:=Same.new (o:=.lst us) hD3
    have t1:=Same.new (o:=.tup us) ht
    have t2:=Same.new (o:=.tup [.str "made",.ref t]) hp1
    have t3:=Same.new (o:=.tup [.ref ra,.ref D,.ref D2,.ref p1]) hp2
    have t13:=((t0.trans t1).trans t2).trans t3
    have sA:=sm.trans t13
    have hy13:=hP.2.mono (same_tups t13)
    refine q p2 D D2 _ _ vf (eachX names) names (zs.map .made) (.made (.lst zs)) _ upd_same (rX7.mono (same_tups sA)) (sA _ _ eN7) (sA _ _ eF7) (hw7.mono (same_tups sA)) (fun r hr=>?_) (by rw [List.length_map]; omega) nm40 ?_ (beh_eachM hl10 hzl hsm) nDb nFb (st7.trans (Step.ofSame st7.box sA))
    · obtain ⟨y,hy,rfl⟩:=List.mem_map.mp hr
      have:=hsm y hy
      exact ⟨this.ok,this.dp,this.sz⟩
    · exact RW.two (t3 _ _ upd_same) (.txt _) (.lst (t3 _ _ (t2 _ _ upd_same)) hy13.len hy13.at')
end
end D
set_option Elab.async false
set_option linter.all false
set_option maxRecDepth 100000
set_option maxHeartbeats 4000000
namespace D
open PySem L2
theorem ixN_nat0 {n j:Nat} (h:j < n):ixN n (0 + (j:Int)) = some j:=by rw [Int.zero_add]; exact ixN_nat h
theorem cut_but {vs:List V} (h:1≤vs.length):cutV vs none (some (-1)) = vs.take (vs.length - 1):=by
  show (vs.drop 0).take (HT.sIx vs.length vs.length (some (-1)) - 0) = _
  rw [show HT.sIx vs.length vs.length (some (-1)) = vs.length - 1 from ?_,Nat.sub_zero,List.drop_zero]
  simp only [HT.sIx]
  rw [if_pos (by decide)]
  omega
theorem else_w (s:Str) (x:Ex):(Ex.elseE (lk s) x).toW = .lst [.txt "else",.lst [.txt "look",.lst [.txt "lit",.txt s]],x.toW]:=by
  rw [Ex.toW,lk_w]
theorem elses_drop {names:Ns}{j:Nat}{s:Str} (hs:names[j]? = some s) (hj:j + 1 < names.length):elsesX (names.drop j) = .elseE (lk s) (elsesX (names.drop (j + 1))):=by
  have e1:names.drop j = s :: names.drop (j + 1):=by
    rw [List.drop_eq_getElem_cons (by omega)]
    congr 1
    exact (List.getElem?_eq_some_iff.mp hs).2
  have e2:names.drop (j + 1) = names[j + 1] :: names.drop (j + 1 + 1):=List.drop_eq_getElem_cons hj
  rw [e1,e2]
  rfl
section
variable {P:Program}{w:World}{K:PySem.W.Frag}{mg:Str→Option Value}{base:Heap}{f:Addr}{fd:FuncData}{k n:Nat}
theorem sc_lelses:FnScope ["_law_box_here","_law_names","_law_founds","_law_k","_law_rule","_law_name_here"] ["_law_box_here"] (defScope s_lelses):=⟨rfl,rfl,rfl,by decide +kernel,rfl,by decide +kernel,by decide +kernel⟩
theorem ok_lelses (F:Fun K "_law_elses" "_law_elses" s_lelses f fd) (G_ltake:Have P w K mg base "_law_take" k ["_law_box_here","_law_wide"] (spTake)) (G_loutcome:Have P w K mg base "_law_outcome" k ["_law_box_here"] (spOut)) (G_lname:Have P w K mg base "_law_name" k ["_law_box_here"] (spName)) (m_len:mg "len" = none) (m_range:mg "range" = none):FnOk P w K mg base CX0 (k + 1) f fd ["_law_box_here"] (spBuild K):=by
  refine F.okQ sc_lelses (fun vs H Q E h=>?_) (fun cdv A outer s H vs Q E hr h=>?_)
  · obtain ⟨b,rfl,_⟩:=h
    rfl
  obtain ⟨b,rfl,hb,q⟩:=h
  refine ⟨_,(pss_cons (ps_lset (i:=1) [0] ["_law_box_here"] rfl rfl (by decide +kernel) rfl (by decide +kernel) rfl (by decide +kernel) ⟨rfl,trivial⟩ rfl ⟨⟨rfl,rfl,Or.inr (Or.inl rfl),(by show (some NameKind.cell:Option NameKind)≠some .local; decide),⟨_,rfl⟩⟩,trivial⟩ (pi_range1 rfl m_range (pa_cons (pe_op op_add pe_int (pe_fn G_ltake hr rfl (pa_cons (pv 0) (pa_cons pe_int pa_nil)))) pa_nil)) (fun C s H fp=>⟨pifs_nil,(pe_fn G_lname hr rfl (pa_cons (pv 1) pa_nil))⟩) sc_lelses.nd rfl (Or.inl rfl))
    (pss_cons (ps_lset (i:=2) [0] ["_law_box_here"] rfl rfl (by decide +kernel) rfl (by decide +kernel) rfl (by decide +kernel) ⟨rfl,trivial⟩ rfl ⟨⟨rfl,rfl,Or.inr (Or.inl rfl),(by show (some NameKind.cell:Option NameKind)≠some .local; decide),⟨_,rfl⟩⟩,trivial⟩ (pi_list (pv 1)) (fun C s H fp=>⟨pifs_nil,(pe_fn G_loutcome hr rfl (pa_cons (pv 1) pa_nil))⟩) sc_lelses.nd rfl (Or.inl rfl))
    (pss_cons (ps_for PassesOwn.never rfl (pi_range1 rfl m_range (pa_cons (pe_callB call_len rfl m_len PySem.boot_len (pa_cons (pv 1) pa_nil)) pa_nil)) (pg_name (i:=3) sc_lelses.nd rfl (Or.inl rfl)) (pss_one (ps_if (pt_cmpR op_gt (pe_fn G_ltake hr rfl (pa_cons (pv 0) (pa_cons pe_int pa_nil))) pe_int (nomark _)) (pss_one (ps_asg (pe_tup (pa_cons pe_str (pa_cons pe_str (pa_cons (pe_ix ix_list (pv 1) (pv 3) (fun _ _=>rfl)) pa_nil)))) (pg_sub (pv 2) (pv 3) set_list))) pss_nil)))
    (pss_cons (ps_set (i:=4) sc_lelses.nd rfl (Or.inl rfl) (pe_tup (pa_cons pe_str (pa_cons (pe_tup (pa_cons pe_str (pa_cons (pe_ix ix_list (pv 1) (pe_un un_neg pe_int) (fun _ _=>rfl)) pa_nil))) pa_nil))))
    (pss_cons (ps_for PassesOwn.never rfl (pi_list (pe_slrev (pe_slice sl_list (pv 1) po_none (po_some (pe_un un_neg pe_int))) (po_some (pe_un un_neg pe_int)))) (pg_name (i:=5) sc_lelses.nd rfl (Or.inl rfl)) (pss_one (ps_set (i:=4) sc_lelses.nd rfl (Or.inl rfl) (pe_tup (pa_cons pe_str (pa_cons (pe_tup (pa_cons pe_str (pa_cons (pe_tup (pa_cons pe_str (pa_cons (pv 5) pa_nil))) pa_nil))) (pa_cons (pv 4) pa_nil)))))))
    (pss_cons (ps_for PassesOwn.never rfl (pi_range1 rfl m_range (pa_cons (pe_callB call_len rfl m_len PySem.boot_len (pa_cons (pv 1) pa_nil)) pa_nil)) (pg_name (i:=3) sc_lelses.nd rfl (Or.inl rfl)) (pss_one (ps_if (pt_cmpR op_eq (pe_ix ix_tup (pe_ix ix_list (pv 2) (pv 3) (fun _ _=>rfl)) pe_int (fun _ _=>rfl)) pe_str (nomark _)) (pss_one (ps_ret (pe_tup (pa_cons (pv 4) (pa_cons (pe_slice sl_list (pv 1) po_none (po_some (pe_op op_add (pv 3) pe_int))) (pa_cons (pv 2) (pa_cons (pe_ix ix_list (pv 2) (pv 3) (fun _ _=>rfl)) pa_nil))))))) pss_nil)))
    (pss_one (ps_ret (pe_tup (pa_cons (pv 4) (pa_cons (pv 1) (pa_cons (pv 2) (pa_cons (pe_ix ix_list (pv 2) (pe_un un_neg pe_int) (fun _ _=>rfl)) pa_nil))))))))))))),?_⟩
  refine ⟨_,rfl,b,8,rfl,hb,by decide,by decide,fun n H1 n0 n1 st1=>⟨_,_,rfl,rfl,?_⟩⟩
  refine ⟨1 + n,rfl,by omega,by omega,rd_drawR (n:=1 + n) (fun i us H'=>∃ names:Ns,us = names.map V.str∧names.length = i∧(∀ s∈names,Nm 12 s)∧Step b H H') ⟨[],rfl,rfl,(fun s h=>nomatch h),st1⟩ (fun i us H' h=>?_) (by omega) (fun i us H' R hi h r=>?_) (fun us H' D h hD=>?_)⟩
  · obtain ⟨names,rfl,hl,_⟩:=h
    rw [List.length_map]
    exact hl
  · obtain ⟨names,rfl,hl,hnm,st⟩:=h
    refine ⟨_,rfl,b,rfl,st.box,fun z H2 hz st2=>r _ _ ⟨names ++ [z],by rw [List.map_append]; rfl,by rw [List.length_append,hl]; rfl,fun s hs=>?_,st.trans st2⟩⟩
    rcases List.mem_append.mp hs with hs | hs
    · exact hnm s hs
    · rw [List.mem_singleton.mp hs]; exact hz
  obtain ⟨names,rfl,hl,hnm,st2⟩:=h
  have eN:upd H' D (.lst (names.map V.str)) D = some (.lst (names.map V.str)):=upd_same
  have st3:=st2.trans (Step.new (o:=.lst (names.map V.str)) st2.box hD)
  have nDb:D≠b:=by
    obtain ⟨_,_,_,e'⟩:=st2.box
    exact (ne_of_none e' hD).symm
  have hl8:names.length≤8:=by omega
  have hl1:1≤names.length:=by omega
  generalize upd H' D (.lst (names.map V.str)) = H2 at eN st3
  refine ⟨_,rfl,D,rfl,⟨_,SqL.of eN⟩,rd_drawL (K:=K) (a:=D) (vs:=names.map V.str) (fun i us H''=>∃ founds:List Res,RWs H'' us (founds.map Res.toW)∧founds.length = i∧(∀ r∈founds,OutOk r)∧Step b H H''∧H'' D = some (.lst (names.map V.str))) (Nat.le_of_lt (small1000 (by rw [List.length_map]; omega))) ⟨[],⟨rfl,fun i v w e=>by simp at e⟩,rfl,(fun s h=>nomatch h),st3,eN⟩ (fun i us H' h=>?_) (fun i us H' h=>?_) (fun i v us H' R hv h r=>?_) (fun us H' D2 h hD2=>?_)⟩
  · obtain ⟨founds,hw,hl,_⟩:=h
    rw [hw.len,List.length_map]
    exact hl
  · obtain ⟨_,_,_,_,_,e⟩:=h
    exact SqL.of e
  · obtain ⟨founds,hw,hl,hok,st,eD⟩:=h
    refine ⟨_,rfl,b,rfl,st.box,fun v x H3 rx okx st4=>r _ _ ⟨founds ++ [x],?_,by rw [List.length_append,hl]; rfl,fun s hs=>?_,st.trans st4,st4.keep _ _ nDb eD⟩⟩
    · rw [List.map_append]
      exact (hw.mono (st4.tups st.box)).snoc rx
    · rcases List.mem_append.mp hs with hs | hs
      · exact hok s hs
      · rw [List.mem_singleton.mp hs]; exact okx
  obtain ⟨founds,hw,hfl,hok,st4,eN4⟩:=h
  have eF:upd H' D2 (.lst us) D2 = some (.lst us):=upd_same
  have s5:=Same.new (o:=.lst us) hD2
  have st5:=st4.trans (Step.ofSame st4.box s5)
  have eN5:=s5 _ _ eN4
  have hw5:=hw.mono (same_tups s5)
  have nFb:D2≠b:=by
    obtain ⟨_,_,_,e'⟩:=st4.box
    exact (ne_of_none e' hD2).symm
  have nFN:D2≠D:=(ne_of_none eN4 hD2).symm
  have hF0:H D2 = none:=st4.free nFb hD2
  rw [List.length_map] at hfl
  generalize upd H' D2 (.lst us) = H5 at eF st5 eN5 hw5
  dsimp only [gName]
  refine seqI (fun σ' H''=>∃ (o3:Option V) (vf:List V) (fs:List Res),σ' = [some (.ref b),some (.ref D),some (.ref D2),o3,none,none]∧Step b H H''∧H'' D = some (.lst (names.map V.str))∧H'' D2 = some (.lst vf)∧RWs H'' vf (fs.map Res.toW)∧fs.length = names.length∧(∀ r∈fs,OutOk r)) (fun σ' H6 h6=>?_) (fun tl=>?_)
  rotate_left
  · refine ⟨_,rfl,_,_,rfl,.inl ⟨_,SqL.of eN5,rfl⟩,_,rfl,by rw [List.length_map]; omega,by rw [List.length_map]; omega,for_range (fun i σ' H''=>∃ (o3:Option V) (vf:List V) (fs:List Res),σ' = [some (.ref b),some (.ref D),some (.ref D2),o3,none,none]∧Step b H H''∧H'' D = some (.lst (names.map V.str))∧H'' D2 = some (.lst vf)∧RWs H'' vf (fs.map Res.toW)∧fs.length = names.length∧(∀ r∈fs,OutOk r)) ⟨none,us,founds,rfl,st5,eN5,eF,hw5,hfl,hok⟩ (fun i σ' H' hi h=>?_) (fun σ' H' h=>tl _ _ h)⟩
    obtain ⟨o3,vf,fs,rfl,st,eD,eF,hw,hfl,hok⟩:=h
    have hin:i < names.length:=by rw [List.length_map] at hi; omega
    refine ⟨_,rfl,b,3,rfl,st.box,by decide,by decide,fun r H6 r0 r1 st6=>⟨_,_,rfl,rfl,_,rfl,?_⟩⟩
    have eD6:=st6.keep _ _ nDb eD
    have eF6:=st6.keep _ _ nFb eF
    have hw6:=hw.mono (st6.tups st.box)
    have stA:=st.trans st6
    refine ite2 (fun _=>?_) (fun _=>⟨_,vf,fs,rfl,stA,eD6,eF6,hw6,hfl,hok⟩)
    have hz:names[i]? = some names[i]:=List.getElem?_eq_getElem hin
    have hati:atI (names.map V.str) (0 + (i:Int)) = some (.str names[i]):=by rw [Int.zero_add]; exact atI_nat (by rw [List.getElem?_map,hz]; rfl)
    refine ⟨_,rfl,_,rfl,D,_,_,_,rfl,rfl,SqL.of eD6,hati,(by show 3≤sizeLine; decide),fun p hp=>?_⟩
    have s7:=Same.new (o:=.tup [.str "wrong",.str "shut",.str names[i]]) hp
    have ep:upd H6 p (.tup [.str "wrong",.str "shut",.str names[i]]) p = some (.tup [.str "wrong",.str "shut",.str names[i]]):=upd_same
    have st7:=stA.trans (Step.ofSame stA.box s7)
    have eD7:=s7 _ _ eD6
    have eF7:=s7 _ _ eF6
    have hw7:=hw6.mono (same_tups s7)
    generalize upd H6 p (.tup [.str "wrong",.str "shut",.str names[i]]) = H7 at ep st7 eD7 eF7 hw7
    have hvl:vf.length = fs.length:=by rw [hw7.len,List.length_map]
    refine ⟨_,rfl,_,rfl,D2,vf,_,i,rfl,rfl,eF7,ixN_nat0 (by omega),?_⟩
    have kb:Kb D2 H7 (upd H7 D2 (.lst (vf.set i (.ref p)))):=Kb.put
    have tp:=kb.tups eF7
    have rp:RW H7 (.ref p) (Res.wrong [.txt "shut",.txt names[i]]).toW:=RW.three ep (.txt _) (.txt _) (.txt _)
    refine ⟨_,_,fs.set i (.wrong [.txt "shut",.txt names[i]]),rfl,st7.putF hF0 nFb,kb _ _ nFN.symm eD7,upd_same,?_,by rw [List.length_set]; exact hfl,fun r hr=>?_⟩
    · rw [List.map_set]
      exact (hw7.mono tp).set (rp.mono tp) i
    · rcases List.mem_or_eq_of_mem_set hr with hr | rfl
      · exact hok r hr
      · have:=hnm _ (List.getElem_mem hin)
        exact ⟨"shut",.txt names[i],rfl,txt_okd (by decide +kernel) (by decide +kernel),⟨Nat.le_trans this.1 (by decide),this.2⟩,Nat.zero_le _⟩
  obtain ⟨o3,vf,fs,rfl,st6,eD6,eF6,hw6,hfl6,hok6⟩:=h6
  have hnl:(names.map V.str).length = names.length:=List.length_map _
  refine seqI (fun σ' H''=>∃ (ra:Addr) (o5:Option V),σ' = [some (.ref b),some (.ref D),some (.ref D2),o3,some (.ref ra),o5]∧Same H6 H''∧RW H'' (.ref ra) (elsesX (names.drop (names.length - 1))).toW∧o5 = none) (fun σ' H7 h7=>?_) (fun tl=>?_)
  rotate_left
  · have hz:names[names.length - 1]? = some names[names.length - 1]:=List.getElem?_eq_getElem (by omega)
    have hzv:(names.map V.str)[(names.map V.str).length - 1]? = some (.str names[names.length - 1]):=by rw [hnl,List.getElem?_map,hz]; rfl
    refine ⟨_,rfl,_,rfl,D,_,-1,_,rfl,rfl,SqL.of eD6,atI_lastV hzv (by omega),(by show 2≤sizeLine; decide),fun t1 ht1=>⟨(by show 2≤sizeLine; decide),fun t2 ht2=>?_⟩⟩
    have a1:=Same.new (o:=.tup [.str "lit",.str names[names.length - 1]]) ht1
    have a2:=Same.new (o:=.tup [.str "look",.ref t1]) ht2
    refine tl _ _ ⟨t2,none,rfl,a1.trans a2,?_,rfl⟩
    have e1:names.drop (names.length - 1) = [names[names.length - 1]]:=by
      rw [List.drop_eq_getElem_cons (by omega),List.drop_eq_nil_of_le (by omega)]
    rw [e1,elsesX,lk_w]
    exact RW.two upd_same (.txt _) (RW.two (a2 _ _ upd_same) (.txt _) (.txt _))
  obtain ⟨ra0,_,rfl,s7,rX0,rfl⟩:=h7
  have st7:=st6.trans (Step.ofSame st6.box s7)
  have eD7:=s7 _ _ eD6
  have eF7:=s7 _ _ eF6
  have hw7:=hw6.mono (same_tups s7)
  refine seqI (fun σ' H''=>∃ (ra:Addr) (o5:Option V),σ' = [some (.ref b),some (.ref D),some (.ref D2),o3,some (.ref ra),o5]∧Same H7 H''∧RW H'' (.ref ra) (elsesX names).toW) (fun σ' H8 h8=>?_) (fun tl=>?_)
  rotate_left
  · refine ⟨_,rfl,_,rfl,_,rfl,D,_,rfl,SqL.of eD7,fun d1 hd1=>?_⟩
    have a1:=Same.new (o:=.lst (cutV (names.map V.str) none (some (-1)))) hd1
    refine ⟨_,rfl,_,rfl,rfl,d1,_,rfl,SqL.of upd_same,fun d2 hd2=>?_⟩
    have a2:=Same.new (o:=.lst (cutV (names.map V.str) none (some (-1))).reverse) hd2
    have ed2:upd (upd H7 d1 (.lst (cutV (names.map V.str) none (some (-1))))) d2 (.lst (cutV (names.map V.str) none (some (-1))).reverse) d2 = some (.lst ((names.take (names.length - 1)).reverse.map V.str)):=by
      rw [upd_same,cut_but (by omega),hnl,← List.map_take,List.map_reverse]
    have a12:=a1.trans a2
    generalize upd (upd H7 d1 (.lst (cutV (names.map V.str) none (some (-1))))) d2 (.lst (cutV (names.map V.str) none (some (-1))).reverse) = H8 at ed2 a12
    have hrl:((names.take (names.length - 1)).reverse.map V.str).length = names.length - 1:=by rw [List.length_map,List.length_reverse,List.length_take]; omega
    refine ⟨d2,rfl,⟨_,SqL.of ed2⟩,for_list (K:=K) (xs:=(names.take (names.length - 1)).reverse.map V.str) (fun i σ' H''=>∃ (ra:Addr) (o5:Option V),σ' = [some (.ref b),some (.ref D),some (.ref D2),o3,some (.ref ra),o5]∧Same H7 H''∧H'' d2 = some (.lst ((names.take (names.length - 1)).reverse.map V.str))∧RW H'' (.ref ra) (elsesX (names.drop (names.length - 1 - i))).toW) ⟨ra0,none,rfl,a12,ed2,rX0.mono (same_tups a12)⟩ (fun i σ' H' _ h=>?_) (fun i v σ' H' hv h=>?_) (fun σ' H' h=>?_)⟩
    · obtain ⟨_,_,_,_,e,_⟩:=h
      exact SqL.of e
    · obtain ⟨ra,o5,rfl,sm,e2,rX⟩:=h
      have hi:i < names.length - 1:=by
        have:=(List.getElem?_eq_some_iff.mp hv).1
        omega
      have hz:names[names.length - 1 - (i + 1)]? = some names[names.length - 1 - (i + 1)]:=List.getElem?_eq_getElem (by omega)
      have hv':v = .str names[names.length - 1 - (i + 1)]:=by
        rw [List.getElem?_map,List.getElem?_reverse (by rw [List.length_take]; omega),List.length_take,List.getElem?_take_of_lt (by omega),show min (names.length - 1) names.length - 1 - i = names.length - 1 - (i + 1) by omega,hz] at hv
        exact (Option.some.inj hv).symm
      subst hv'
      refine ⟨_,rfl,(by show 2≤sizeLine; decide),fun t1 ht1=>⟨(by show 2≤sizeLine; decide),fun t2 ht2=>⟨_,rfl,(by show 3≤sizeLine; decide),fun t3 ht3=>?_⟩⟩⟩
      have b1:=Same.new (o:=.tup [.str "lit",.str names[names.length - 1 - (i + 1)]]) ht1
      have b2:=Same.new (o:=.tup [.str "look",.ref t1]) ht2
      have b3:=Same.new (o:=.tup [.str "else",.ref t2,.ref ra]) ht3
      have b13:=(b1.trans b2).trans b3
      refine ⟨t3,_,rfl,sm.trans b13,b13 _ _ e2,?_⟩
      rw [elses_drop hz (by omega),show names.length - 1 - (i + 1) + 1 = names.length - 1 - i by omega,else_w]
      exact RW.three upd_same (.txt _) (RW.two (b3 _ _ upd_same) (.txt _) (RW.two (b3 _ _ (b2 _ _ upd_same)) (.txt _) (.txt _))) (rX.mono (same_tups b13))
    · obtain ⟨ra,o5,rfl,sm,e2,rX⟩:=h
      rw [hrl,Nat.sub_self,List.drop_zero] at rX
      exact tl _ _ ⟨ra,o5,rfl,sm,rX⟩
  obtain ⟨ra,o5,rfl,s8,rX⟩:=h8
  have st8:=st7.trans (Step.ofSame st7.box s8)
  have eD8:=s8 _ _ eD7
  have eF8:=s8 _ _ eF7
  have hw8:=hw7.mono (same_tups s8)
  have hvl:vf.length = names.length:=by rw [hw8.len,List.length_map,hfl6]
  have nm40:∀ s∈names,Nm 100 s:=fun s hs=>⟨Nat.le_trans (hnm s hs).1 (by decide),(hnm s hs).2⟩
  refine ⟨_,rfl,_,_,rfl,.inl ⟨_,SqL.of eD8,rfl⟩,_,rfl,by rw [List.length_map]; omega,by rw [List.length_map]; omega,for_range (fun i σ' H'=>∃ (o3:Option V),σ' = [some (.ref b),some (.ref D),some (.ref D2),o3,some (.ref ra),o5]∧H' = H8∧∀ j < i,∃ ws,fs[j]? = some (.wrong ws)) ⟨o3,rfl,rfl,fun j hj=>absurd hj (Nat.not_lt_zero _)⟩ (fun i σ' H' hi h=>?_) (fun σ' H' h=>?_)⟩
  · obtain ⟨o3,rfl,rfl,hws⟩:=h
    have hin:i < names.length:=by rw [List.length_map] at hi; omega
    have hvi:vf[i]? = some vf[i]:=List.getElem?_eq_getElem (by omega)
    have hri:fs[i]? = some fs[i]:=List.getElem?_eq_getElem (by omega)
    have hati:atI vf (0 + (i:Int)) = some vf[i]:=by rw [Int.zero_add]; exact atI_nat hvi
    have rv:RW H' vf[i] (fs[i]).toW:=hw8.at' i _ _ hvi (by rw [List.getElem?_map,hri]; rfl)
    have hoki:=hok6 _ (List.getElem_mem (by omega:i < fs.length))
    generalize hui:vf[i] = ui at hvi hati rv
    cases hr:fs[i] with
    | stop=>rw [hr] at hoki; exact hoki.elim
    | wrong ws=>
      rw [hr] at rv
      have rv:RW H' ui (.lst (.txt "wrong" :: ws)):=rv
      obtain ⟨t,us9,rfl,et,hw9⟩:=rv.tup
      obtain ⟨u0,us9,rfl,r0,hw9⟩:=hw9.cons
      obtain rfl:=r0.str
      refine ⟨_,rfl,_,rfl,D2,vf,_,_,rfl,rfl,SqL.of eF8,hati,t,_,0,_,rfl,rfl,SqT.of et,atI_nat (j:=0) rfl,rfl,_,rfl,?_⟩
      rw [show decide (V.str "wrong" = V.str "made") = false from decide_eq_false (fun z=>absurd (V.str.inj z) (by decide +kernel))]
      refine iteF ⟨_,rfl,rfl,fun j hj=>?_⟩
      by_cases hji:j = i
      · rw [hji,hri,hr]; exact ⟨ws,rfl⟩
      · exact hws j (by omega)
    | made y=>
      rw [hr] at rv hoki
      have rv0:RW H' ui (.lst [.txt "made",y]):=rv
      obtain ⟨t,us9,rfl,et,hw9⟩:=rv0.tup
      obtain ⟨u0,us9,rfl,r0,hw9⟩:=hw9.cons
      obtain rfl:=r0.str
      refine ⟨_,rfl,_,rfl,D2,vf,_,_,rfl,rfl,SqL.of eF8,hati,t,_,0,_,rfl,rfl,SqT.of et,atI_nat (j:=0) rfl,rfl,_,rfl,iteT ?_⟩
      refine ⟨_,rfl,_,rfl,_,rfl,_,_,rfl,rfl,_,rfl,D,_,rfl,SqL.of eD8,fun D7 hD7=>?_⟩
      have t1:=Same.new (o:=.lst (cutV (names.map V.str) none (some (0 + (i:Int) + 1)))) hD7
      have eD7:upd H' D7 (.lst (cutV (names.map V.str) none (some (0 + (i:Int) + 1)))) D7 = some (.lst ((names.take (i + 1)).map V.str)):=by
        rw [upd_same,cut_take (by rw [List.length_map]; omega),List.map_take]
      have nD7:D7≠b:=by
        obtain ⟨_,_,_,e'⟩:=st8.box
        exact (ne_of_none e' hD7).symm
      generalize upd H' D7 (.lst (cutV (names.map V.str) none (some (0 + (i:Int) + 1)))) = H9 at t1 eD7
      refine ⟨_,rfl,_,rfl,_,rfl,D2,vf,_,_,rfl,rfl,SqL.of (t1 _ _ eF8),hati,(by show 4≤sizeLine; decide),fun p2 hp2=>?_⟩
      have t3:=Same.new (o:=.tup [.ref ra,.ref D7,.ref D2,.ref t]) hp2
      have sA:=t1.trans t3
      exact q p2 D7 D2 _ _ vf (elsesX names) (names.take (i + 1)) fs (.made y) _ upd_same (rX.mono (same_tups sA)) (t3 _ _ eD7) (sA _ _ eF8) (hw8.mono (same_tups sA)) hok6 (by omega) (fun s hs=>nm40 s (List.mem_of_mem_take hs)) (rv.mono (same_tups sA)) (beh_elses hl8 hfl6.symm hin (by rw [hri,hr]) hoki hws (.inl ⟨y,rfl⟩)) nD7 nFb (st8.trans (Step.ofSame st8.box sA))
  · obtain ⟨o3,rfl,rfl,hws⟩:=h
    rw [List.length_map] at hws
    have hwl:vf[vf.length - 1]? = some vf[vf.length - 1]:=List.getElem?_eq_getElem (by omega)
    have hrl:fs[names.length - 1]? = some fs[names.length - 1]:=List.getElem?_eq_getElem (by omega)
    have rv:RW H' vf[vf.length - 1] (fs[names.length - 1]).toW:=hw8.at' (vf.length - 1) _ _ hwl (by rw [hvl,List.getElem?_map,hrl]; rfl)
    refine ⟨_,rfl,_,rfl,_,rfl,_,rfl,_,rfl,D2,vf,-1,_,rfl,rfl,SqL.of eF8,atI_lastV hwl (by omega),(by show 4≤sizeLine; decide),fun p2 hp2=>?_⟩
    have t3:=Same.new (o:=.tup [.ref ra,.ref D,.ref D2,vf[vf.length - 1]]) hp2
    have hb:=beh_elses (founds:=fs) hl8 hfl6.symm (k:=names.length - 1) (by omega) hrl (hok6 _ (List.getElem_mem (by omega:names.length - 1 < fs.length))) (fun i hi=>hws i (by omega)) (.inr (by omega))
    rw [show names.length - 1 + 1 = names.length by omega,List.take_length] at hb
    exact q p2 D D2 _ _ vf (elsesX names) names fs _ _ upd_same (rX.mono (same_tups t3)) (t3 _ _ eD8) (t3 _ _ eF8) (hw8.mono (same_tups t3)) hok6 (by omega) nm40 (rv.mono (same_tups t3)) hb nDb nFb (st8.trans (Step.ofSame st8.box t3))
end
end D
set_option Elab.async false
set_option linter.all false
set_option maxRecDepth 100000
set_option maxHeartbeats 4000000
namespace D
open PySem L2
theorem chain_w (s:Str) (m:Nat):(chainX s (m + 1)).toW = .lst [.txt "look",(chainX s m).toW]:=by
  rw [chainX,Ex.toW]
theorem chain_w0 (s:Str):(chainX s 0).toW = .lst [.txt "lit",.txt s]:=by
  rw [chainX,Ex.toW]
structure Ch (b lN lF ra:Addr) (s:Str) (H H':Hp) (vf:List V) (fs:List Res):Prop where
  st:Step b H H'
  eF:H' lF = some (.lst vf)
  hw:RWs H' vf (fs.map Res.toW)
  ok:∀ r∈fs,OutOk r
  rX:RW H' (.ref ra) (chainX s fs.length).toW
section
variable {P:Program}{w:World}{K:PySem.W.Frag}{mg:Str→Option Value}{base:Heap}{f:Addr}{fd:FuncData}{k n:Nat}
theorem sc_lchain:FnScope ["_law_box_here","_law_rule","_law_names","_law_founds","_law_due","_law_k"] ["_law_box_here"] (defScope s_lchain):=⟨rfl,rfl,rfl,by decide +kernel,rfl,by decide +kernel,by decide +kernel⟩
theorem ok_lchain (F:Fun K "_law_chain" "_law_chain" s_lchain f fd) (G_ltake:Have P w K mg base "_law_take" k ["_law_box_here","_law_wide"] (spTake)) (G_loutcome:Have P w K mg base "_law_outcome" k ["_law_box_here"] (spOut)) (G_lname:Have P w K mg base "_law_name" k ["_law_box_here"] (spName)) (m_int:mg "int" = none) (m_isi:mg "isinstance" = none) (m_len:mg "len" = none) (m_range:mg "range" = none) (m_str:mg "str" = none):FnOk P w K mg base CX0 (k + 1) f fd ["_law_box_here"] (spBuild K):=by
  refine F.okQ sc_lchain (fun vs H Q E h=>?_) (fun cdv A outer s H vs Q E hr h=>?_)
  · obtain ⟨b,rfl,_⟩:=h
    rfl
  obtain ⟨b,rfl,hb,q⟩:=h
  refine ⟨_,(pss_cons (ps_set (i:=1) sc_lchain.nd rfl (Or.inl rfl) (pe_tup (pa_cons pe_str (pa_cons (pe_fn G_lname hr rfl (pa_cons (pv 0) pa_nil)) pa_nil))))
    (pss_cons (ps_set (i:=2) sc_lchain.nd rfl (Or.inl rfl) (pe_lst (pa_cons (pe_ix ix_tup (pv 1) pe_int (fun _ _=>rfl)) pa_nil)))
    (pss_cons (ps_set (i:=3) sc_lchain.nd rfl (Or.inl rfl) (pe_lst pa_nil))
    (pss_cons (ps_set (i:=4) sc_lchain.nd rfl (Or.inl rfl) (pe_tup (pa_cons pe_str (pa_cons pe_str (pa_cons pe_str pa_nil)))))
    (pss_cons (ps_for PassesOwn.never rfl (pi_range1 rfl m_range (pa_cons (pe_op op_add pe_int (pe_fn G_ltake hr rfl (pa_cons (pv 0) (pa_cons pe_int pa_nil)))) pa_nil)) (pg_name (i:=5) sc_lchain.nd rfl (Or.inl rfl)) (pss_cons (ps_set (i:=1) sc_lchain.nd rfl (Or.inl rfl) (pe_tup (pa_cons pe_str (pa_cons (pv 1) pa_nil))))
    (pss_one (ps_expr (pe_bm PySem.F.plainAttrs_list PySem.F.slot_list_append PySem.F.type_list_append mt_append (pv 3) (pa_cons (pe_ix ix_list (pe_lst (pa_cons (pe_tup (pa_cons pe_str (pa_cons (pe_fn G_lname hr rfl (pa_cons (pv 0) pa_nil)) pa_nil))) (pa_cons (pe_fn G_loutcome hr rfl (pa_cons (pv 0) pa_nil)) pa_nil))) (pe_callTy call_int1 rfl m_int boot_intT (pa_cons (pe_cmpR op_eq (pe_fn G_ltake hr rfl (pa_cons (pv 0) (pa_cons pe_int pa_nil))) pe_int (nomark _)) pa_nil)) (fun _ _=>rfl)) pa_nil))))))
    (pss_cons (ps_for PassesOwn.never rfl (pi_range1 rfl m_range (pa_cons (pe_callB call_len rfl m_len PySem.boot_len (pa_cons (pv 3) pa_nil)) pa_nil)) (pg_name (i:=5) sc_lchain.nd rfl (Or.inl rfl)) (pss_cons (ps_set (i:=4) sc_lchain.nd rfl (Or.inl rfl) (pe_ix ix_list (pv 3) (pv 5) (fun _ _=>rfl)))
    (pss_cons (ps_if (PW.pt (pw_or (pt_cmpR op_eq (pe_ix ix_tup (pv 4) pe_int (fun _ _=>rfl)) pe_str (nomark _)) (pw_or1 (pt_cmpR op_eq (pv 5) (pe_op op_sub (pe_callB call_len rfl m_len PySem.boot_len (pa_cons (pv 3) pa_nil)) pe_int) (nomark _))))) (pss_one (ps_ret (pe_tup (pa_cons (pv 1) (pa_cons (pv 2) (pa_cons (pv 3) (pa_cons (pv 4) pa_nil))))))) pss_nil)
    (pss_cons (ps_if (pt_not (pt_val (pe_callB call_isi rfl m_isi boot_isi (pa_cons (pe_ix ix_tup (pv 4) pe_int (fun _ _=>rfl)) (pa_cons (pe_ty rfl m_str boot_strT) pa_nil))))) (pss_one (ps_ret (pe_tup (pa_cons (pv 1) (pa_cons (pv 2) (pa_cons (pv 3) (pa_cons (pe_tup (pa_cons pe_str (pa_cons pe_str (pa_cons pe_str pa_nil)))) pa_nil))))))) pss_nil)
    (pss_one (ps_expr (pe_bm PySem.F.plainAttrs_list PySem.F.slot_list_append PySem.F.type_list_append mt_append (pv 2) (pa_cons (pe_ix ix_tup (pv 4) pe_int (fun _ _=>rfl)) pa_nil))))))))
    (pss_one (ps_ret (pe_tup (pa_cons (pv 1) (pa_cons (pv 2) (pa_cons (pv 3) (pa_cons (pv 4) pa_nil))))))))))))),?_⟩
  refine ⟨_,rfl,b,rfl,hb,fun s H1 hs st1=>⟨(by show 2≤sizeLine; decide),fun ra0 hra0=>?_⟩⟩
  have a1:=Same.new (o:=.tup [.str "lit",.str s]) hra0
  have er:upd H1 ra0 (.tup [.str "lit",.str s]) ra0 = some (.tup [.str "lit",.str s]):=upd_same
  have st2:=st1.trans (Step.ofSame st1.box a1)
  generalize upd H1 ra0 (.tup [.str "lit",.str s]) = H2 at er st2
  refine ⟨_,rfl,ra0,_,1,_,rfl,rfl,SqT.of er,atI_nat (j:=1) rfl,(by show 1≤sizeLine; decide),fun lN hlN=>?_⟩
  have a2:=Same.new (o:=.lst [.str s]) hlN
  have eN:upd H2 lN (.lst [.str s]) lN = some (.lst [.str s]):=upd_same
  have nNb:lN≠b:=by
    obtain ⟨_,_,_,e'⟩:=st2.box
    exact (ne_of_none e' hlN).symm
  have hN0:H lN = none:=st2.free nNb hlN
  have st3:=st2.trans (Step.ofSame st2.box a2)
  have er:=a2 _ _ er
  generalize upd H2 lN (.lst [.str s]) = H3 at er st3 eN
  refine ⟨(by show 0≤sizeLine; decide),fun lF hlF=>?_⟩
  have a3:=Same.new (o:=.lst []) hlF
  have eF:upd H3 lF (.lst []) lF = some (.lst []):=upd_same
  have nFb:lF≠b:=by
    obtain ⟨_,_,_,e'⟩:=st3.box
    exact (ne_of_none e' hlF).symm
  have hF0:H lF = none:=st3.free nFb hlF
  have nFN:lF≠lN:=(ne_of_none eN hlF).symm
  have st4:=st3.trans (Step.ofSame st3.box a3)
  have er:=a3 _ _ er
  have eN:=a3 _ _ eN
  generalize upd H3 lF (.lst []) = H4 at er st4 eN eF
  refine ⟨(by show 3≤sizeLine; decide),fun d0 hd0=>?_⟩
  have a4:=Same.new (o:=.tup [.str "wrong",.str "kind",.str ""]) hd0
  have st5:=st4.trans (Step.ofSame st4.box a4)
  have er:=a4 _ _ er
  have eN:=a4 _ _ eN
  have eF:=a4 _ _ eF
  generalize upd H4 d0 (.tup [.str "wrong",.str "kind",.str ""]) = H5 at er st5 eN eF
  dsimp only [gName]
  refine seqI (fun σ' H'=>∃ (ra:Addr) (o5:Option V) (vf:List V) (fs:List Res),σ' = [some (.ref b),some (.ref ra),some (.ref lN),some (.ref lF),some (.ref d0),o5]∧H' lN = some (.lst [.str s])∧Ch b lN lF ra s H H' vf fs∧1≤fs.length∧fs.length≤8) (fun σ' H6 h6=>?_) (fun tl=>?_)
  rotate_left
  · refine ⟨_,rfl,b,8,rfl,st5.box,by decide,by decide,fun n H6 n0 n1 st6=>⟨_,_,rfl,rfl,1 + n,rfl,by omega,by omega,?_⟩⟩
    have tp6:=st6.tups st5.box
    refine for_range (fun i σ' H'=>∃ (ra:Addr) (o5:Option V) (vf:List V) (fs:List Res),σ' = [some (.ref b),some (.ref ra),some (.ref lN),some (.ref lF),some (.ref d0),o5]∧H' lN = some (.lst [.str s])∧Ch b lN lF ra s H H' vf fs∧fs.length = i) ⟨ra0,none,[],[],rfl,st6.keep _ _ nNb eN,⟨st5.trans st6,st6.keep _ _ nFb eF,⟨rfl,fun i v w e=>by simp at e⟩,(fun r h=>nomatch h),?_⟩,rfl⟩ (fun i σ' H' hi h=>?_) (fun σ' H' h=>?_)
    · rw [List.length_nil,chain_w0]
      exact RW.two (tp6 _ _ er) (.txt _) (.txt _)
    · obtain ⟨ra,o5,vf,fs,rfl,eN,c,hfl⟩:=h
      refine ⟨_,rfl,(by show 2≤sizeLine; decide),fun rb hrb=>?_⟩
      have b1:=Same.new (o:=.tup [.str "look",.ref ra]) hrb
      have st7:=c.st.trans (Step.ofSame c.st.box b1)
      have eF7:=b1 _ _ c.eF
      have eN7:=b1 _ _ eN
      have hw7:=c.hw.mono (same_tups b1)
      have rX7:RW (upd H' rb (.tup [.str "look",.ref ra])) (.ref rb) (chainX s (fs.length + 1)).toW:=by
        rw [chain_w]
        exact RW.two upd_same (.txt _) (c.rX.mono (same_tups b1))
      generalize upd H' rb (.tup [.str "look",.ref ra]) = H7 at st7 eF7 eN7 hw7 rX7
      have go:∀ (u:V) (r:Res) (H8:Hp),Step b H7 H8→RW H8 u r.toW→OutOk r→H8 lF = some (.lst vf)∧upd H8 lF (.lst (vf ++ [u])) lN = some (.lst [.str s])∧Ch b lN lF rb s H (upd H8 lF (.lst (vf ++ [u]))) (vf ++ [u]) (fs ++ [r]):=fun u r H8 st8 ru okr=>by
        have tp8:=st8.tups st7.box
        have eF8:=st8.keep _ _ nFb eF7
        have kb:Kb lF H8 (upd H8 lF (.lst (vf ++ [u]))):=Kb.put
        have tp9:=kb.tups eF8
        exact ⟨eF8,kb _ _ nFN.symm (st8.keep _ _ nNb eN7),⟨(st7.trans st8).putF hF0 nFb,upd_same,(by rw [List.map_append]; exact ((hw7.mono tp8).mono tp9).snoc (ru.mono tp9)),(fun x hx=>by
          rcases List.mem_append.mp hx with hx | hx
          · exact c.ok x hx
          · rw [List.mem_singleton.mp hx]; exact okr),(by rw [List.length_append,List.length_singleton]; exact (rX7.mono tp8).mono tp9)⟩⟩
      have hvl:vf.length≤8:=by rw [c.hw.len,List.length_map]; omega
      refine ⟨_,rfl,.inl ⟨rfl,_,SqL.of eF7⟩,?_⟩
      refine ⟨_,rfl,b,rfl,st7.box,fun z H8 hz st8=>⟨(by show 2≤sizeLine; decide),fun t1 ht1=>?_⟩⟩
      have b8:=Same.new (o:=.tup [.str "made",.str z]) ht1
      have et1:upd H8 t1 (.tup [.str "made",.str z]) t1 = some (.tup [.str "made",.str z]):=upd_same
      have st9:=st8.trans (Step.ofSame st8.box b8)
      generalize upd H8 t1 (.tup [.str "made",.str z]) = H9 at et1 st9
      refine ⟨_,rfl,b,rfl,st9.box,fun v x H10 rx okx st10=>⟨(by show 2≤sizeLine; decide),fun d hd=>?_⟩⟩
      have tp10:=st10.tups st9.box
      have b11:=Same.new (o:=.lst [.ref t1,v]) hd
      have ed:upd H10 d (.lst [.ref t1,v]) d = some (.lst [.ref t1,v]):=upd_same
      have ndb:d≠b:=by
        obtain ⟨_,_,_,e'⟩:=st10.box
        exact (ne_of_none e' hd).symm
      have st11:=(st9.trans st10).trans (Step.ofSame st10.box b11)
      have rx11:=rx.mono (same_tups b11)
      have et11:=b11 _ _ (tp10 _ _ et1)
      generalize upd H10 d (.lst [.ref t1,v]) = H11 at ed st11 rx11 et11
      refine ⟨_,rfl,b,6,rfl,st11.box,by decide,by decide,fun r H12 r0 r1 st12=>⟨rfl,.inr ⟨_,rfl,?_⟩⟩⟩
      have st12':=st11.trans st12
      have tp12:=st12.tups st11.box
      have ed12:=st12.keep _ _ ndb ed
      cases hc:decide (V.int r = V.int 0) with
      | true=>
        obtain ⟨g1,g2,g3⟩:=go v x H12 st12' (rx11.mono tp12) okx
        exact ⟨d,_,1,v,rfl,rfl,SqL.of ed12,atI_nat (j:=1) rfl,lF,vf,v,rfl,rfl,g1,small1000 (by omega),⟨rb,_,vf ++ [v],fs ++ [x],rfl,g2,g3,by rw [List.length_append,hfl]; rfl⟩⟩
      | false=>
        have rm:RW H12 (.ref t1) (Res.made (.txt z)).toW:=RW.two (tp12 _ _ et11) (.txt _) (.txt _)
        have h12:=hz.1
        obtain ⟨g1,g2,g3⟩:=go (.ref t1) (.made (.txt z)) H12 st12' rm ⟨⟨Nat.le_trans hz.1 (by decide),hz.2⟩,Nat.zero_le _,by show 1 + (z.length:Int)≤96; omega⟩
        exact ⟨d,_,0,.ref t1,rfl,rfl,SqL.of ed12,atI_nat (j:=0) rfl,lF,vf,.ref t1,rfl,rfl,g1,small1000 (by omega),⟨rb,_,vf ++ [.ref t1],fs ++ [.made (.txt z)],rfl,g2,g3,by rw [List.length_append,hfl]; rfl⟩⟩
    · obtain ⟨ra,o5,vf,fs,rfl,eN,c,hfl⟩:=h
      exact tl _ _ ⟨ra,o5,vf,fs,rfl,eN,c,by omega,by omega⟩
  obtain ⟨ra,o5,vf,fs,rfl,eN6,c,h1,h8⟩:=h6
  have hvl:vf.length = fs.length:=by rw [c.hw.len,List.length_map]
  refine ⟨_,rfl,_,_,rfl,.inl ⟨_,SqL.of c.eF,rfl⟩,_,rfl,by omega,by omega,for_range (fun i σ' H'=>∃ (o4 o5:Option V) (nm:Ns),σ' = [some (.ref b),some (.ref ra),some (.ref lN),some (.ref lF),o4,o5]∧H' lN = some (.lst (nm.map V.str))∧Ch b lN lF ra s H H' vf fs∧nm.length = i + 1∧nm[0]? = some s∧(∀ j < i,∃ z,nm[j + 1]? = some z∧fs[j]? = some (.made (.txt z)))∧(∀ z∈nm,Nm 100 z)∧i < fs.length) ⟨_,_,[s],rfl,eN6,c,rfl,rfl,fun j hj=>absurd hj (Nat.not_lt_zero _),fun z hz=>?_,by omega⟩ (fun i σ' H' hi h=>?_) (fun σ' H' h=>?_)⟩
  · rw [List.mem_singleton.mp hz]
    exact ⟨Nat.le_trans hs.1 (by decide),hs.2⟩
  · obtain ⟨o4,o5,nm,rfl,eN,c,hnl,hn0,hnm,hn100,hif⟩:=h
    have hvi:vf[i]? = some vf[i]:=List.getElem?_eq_getElem (by omega)
    have hri:fs[i]? = some fs[i]:=List.getElem?_eq_getElem (by omega)
    have hati:atI vf (0 + (i:Int)) = some vf[i]:=by rw [Int.zero_add]; exact atI_nat hvi
    have rv:RW H' vf[i] (fs[i]).toW:=c.hw.at' i _ _ hvi (by rw [List.getElem?_map,hri]; rfl)
    have hoki:=c.ok _ (List.getElem_mem (by omega:i < fs.length))
    generalize hui:vf[i] = ui at hvi hati rv
    have fin:∀ (dv:V) (due:Res) (H2:Hp) (p2:Addr),Same H' H2→H2 p2 = none→RW H2 dv due.toW→OutOk due→((fs[i] = due∧((fs[i]).isMade = false∨i + 1 = fs.length))∨(i + 1 < fs.length∧due = kindR∧∃ y,fs[i] = .made y∧∀ z,y≠.txt z))→Q (.ref p2) (upd H2 p2 (.tup [.ref ra,.ref lN,.ref lF,dv])):=fun dv due H2 p2 sm hp2 rd okd hd=>by
      have t3:=Same.new (o:=.tup [.ref ra,.ref lN,.ref lF,dv]) hp2
      have sA:=sm.trans t3
      exact q p2 lN lF _ _ vf (chainX s fs.length) nm fs due _ upd_same (c.rX.mono (same_tups sA)) (sA _ _ eN) (sA _ _ c.eF) (c.hw.mono (same_tups sA)) c.ok (by omega) hn100 (rd.mono (same_tups t3)) (beh_chain h8 hn0 hnl hif hnm hri hd okd) nNb nFb (c.st.trans (Step.ofSame c.st.box sA))
    cases hr:fs[i] with
    | stop=>rw [hr] at hoki; exact hoki.elim
    | wrong ws=>
      rw [hr] at rv hoki
      have rv0:RW H' ui (.lst (.txt "wrong" :: ws)):=rv
      obtain ⟨t,us9,rfl,et,hw9⟩:=rv0.tup
      obtain ⟨u0,us9,rfl,r0,hw9⟩:=hw9.cons
      obtain rfl:=r0.str
      refine ⟨_,rfl,_,rfl,lF,vf,_,_,rfl,rfl,SqL.of c.eF,hati,?_⟩
      refine ⟨_,rfl,t,_,0,_,rfl,rfl,SqT.of et,atI_nat (j:=0) rfl,rfl,_,rfl,iteT ?_⟩
      exact ⟨_,rfl,_,rfl,_,rfl,_,rfl,(by show 4≤sizeLine; decide),fun p2 hp2=>fin _ (.wrong ws) _ p2 (Same.refl _) hp2 rv hoki (.inl ⟨hr,.inl (by rw [hr]; rfl)⟩)⟩
    | made y=>
      rw [hr] at rv hoki
      have rv0:RW H' ui (.lst [.txt "made",y]):=rv
      obtain ⟨t,us9,rfl,et,hw9⟩:=rv0.tup
      obtain ⟨u0,us9,rfl,r0,hw9⟩:=hw9.cons
      obtain ⟨u1,us9,rfl,r1,hw9⟩:=hw9.cons
      obtain rfl:=r0.str
      refine ⟨_,rfl,_,rfl,lF,vf,_,_,rfl,rfl,SqL.of c.eF,hati,?_⟩
      refine ⟨_,rfl,t,_,0,_,rfl,rfl,SqT.of et,atI_nat (j:=0) rfl,rfl,_,rfl,?_⟩
      rw [show decide (V.str "made" = V.str "wrong") = false from decide_eq_false (fun z=>absurd (V.str.inj z) (by decide +kernel))]
      refine iteF ⟨_,rfl,_,rfl,_,_,rfl,.inl ⟨_,SqL.of c.eF,rfl⟩,_,_,rfl,rfl,rfl,_,rfl,ite2 (fun hlast=>?_) (fun hlast=>?_)⟩
      · have hl:i + 1 = fs.length:=by
          have:=V.int.inj (of_decide_eq_true hlast)
          omega
        exact ⟨_,rfl,_,rfl,_,rfl,_,rfl,(by show 4≤sizeLine; decide),fun p2 hp2=>fin _ (.made y) _ p2 (Same.refl _) hp2 rv hoki (.inl ⟨hr,.inr hl⟩)⟩
      · have hl:i + 1 < fs.length:=by
          have:¬ ((0 + (i:Int)) = (vf.length:Int) - 1):=fun z=>hlast (decide_eq_true (congrArg V.int z))
          omega
        have isk:(∀ z,y≠.txt z)→∀ (d:Addr) (hd:H' d = none) (p2:Addr),upd H' d (.tup [.str "wrong",.str "kind",.str ""]) p2 = none→Q (.ref p2) (upd (upd H' d (.tup [.str "wrong",.str "kind",.str ""])) p2 (.tup [.ref ra,.ref lN,.ref lF,.ref d])):=fun hy d hd p2 hp2=>fin _ kindR _ p2 (Same.new hd) hp2 (RW.three upd_same (.txt _) (.txt _) (.txt _)) kind_ok (.inr ⟨hl,rfl,y,hr,hy⟩)
        refine ⟨_,rfl,t,_,1,_,rfl,rfl,SqT.of et,atI_nat (j:=1) rfl,_,_,_,_,rfl,r1.tyW,isiS _,_,rfl,?_⟩
        cases y with
        | num m=>exact iteT ⟨_,rfl,_,rfl,_,rfl,(by show 3≤sizeLine; decide),fun d hd=>⟨(by show 4≤sizeLine; decide),fun p2 hp2=>isk (fun z h=>nomatch h) d hd p2 hp2⟩⟩
        | lst ws=>exact iteT ⟨_,rfl,_,rfl,_,rfl,(by show 3≤sizeLine; decide),fun d hd=>⟨(by show 4≤sizeLine; decide),fun p2 hp2=>isk (fun z h=>nomatch h) d hd p2 hp2⟩⟩
        | txt z=>
          obtain rfl:=r1.str
          refine iteF ⟨_,rfl,.inl ⟨rfl,_,SqL.of eN⟩,_,rfl,t,_,1,_,rfl,rfl,SqT.of et,atI_nat (j:=1) rfl,lN,nm.map V.str,.str z,rfl,rfl,eN,small1000 (by rw [List.length_map]; omega),?_⟩
          have kb:Kb lN H' (upd H' lN (.lst (nm.map V.str ++ [.str z]))):=Kb.put
          have tp:=kb.tups eN
          refine ⟨_,_,nm ++ [z],rfl,by rw [upd_same,List.map_append]; rfl,⟨c.st.putF hN0 nNb,kb _ _ nFN c.eF,c.hw.mono tp,c.ok,c.rX.mono tp⟩,by rw [List.length_append,hnl]; rfl,by rw [List.getElem?_append_left (by omega)]; exact hn0,fun j hj=>?_,fun w hw=>?_,by omega⟩
          · by_cases hji:j = i
            · subst hji
              refine ⟨z,by rw [List.getElem?_append_right (by omega),hnl,Nat.sub_self]; rfl,by rw [hri,hr]⟩
            · obtain ⟨z',h1,h2⟩:=hnm j (by omega)
              exact ⟨z',by rw [List.getElem?_append_left (by omega)]; exact h1,h2⟩
          · rcases List.mem_append.mp hw with hw | hw
            · exact hn100 w hw
            · rw [List.mem_singleton.mp hw]
              have h1:=hoki.1
              have h2:1 + (z.length:Int)≤96:=hoki.2.2
              exact ⟨by omega,h1.2⟩
  · obtain ⟨o4,o5,nm,rfl,eN,c,hnl,hn0,hnm,hn100,hif⟩:=h
    exact absurd hif (by omega)
end
end D
set_option Elab.async false
set_option linter.all false
set_option maxRecDepth 100000
set_option maxHeartbeats 4000000
namespace D
open PySem L2
theorem rnames_snoc {l others:Ns}{a:Str}:rnames (l ++ [a]) others = rnames l others ++ others.map fun b=>a ++ b:=by
  unfold rnames
  rw [List.flatMap_append]
  simp
theorem rounds_w (some' others:Ns):(roundsX some' others).toW = .lst [.txt "each",.txt "a",.lst [.txt "lit",.lst (some'.map W.txt)],(innX others).toW]:=by
  unfold roundsX
  rw [Ex.toW,Ex.toW]
theorem inn_w (others:Ns):(innX others).toW = .lst [.txt "each",.txt "b",.lst [.txt "lit",.lst (others.map W.txt)],.lst [.txt "look",.lst [.txt "join",.lst [.txt "var",.txt "a"],.lst [.txt "var",.txt "b"]]]]:=by
  unfold innX jl
  simp only [Ex.toW,exWs]
  rfl
theorem cut_mid {vs:List V}{i w:Nat} (h:i * w + w≤vs.length):cutV vs (some ((0 + (i:Int)) * (w:Int))) (some ((0 + (i:Int)) * (w:Int) + (w:Int))) = (vs.drop (i * w)).take w:=by
  have e1:((0 + (i:Int)) * (w:Int)) = ((i * w:Nat):Int):=by rw [Int.zero_add,Int.natCast_mul]
  rw [e1,show ((i * w:Nat):Int) + (w:Int) = ((i * w + w:Nat):Int) by omega]
  show (vs.drop (HT.sIx vs.length 0 (some ((i * w:Nat):Int)))).take (HT.sIx vs.length vs.length (some ((i * w + w:Nat):Int)) - HT.sIx vs.length 0 (some ((i * w:Nat):Int))) = _
  rw [HT.sIx_nat,HT.sIx_nat,Nat.min_eq_left h,Nat.min_eq_left (by omega),Nat.add_sub_cancel_left]
theorem RWs.drop {H:Hp}{us:List V}{ws:List W} (h:RWs H us ws) (n:Nat):RWs H (us.drop n) (ws.drop n):=⟨by rw [List.length_drop,List.length_drop,h.len],fun i v w a b=>h.at' (n + i) v w (by rw [← List.getElem?_drop]; exact a) (by rw [← List.getElem?_drop]; exact b)⟩
theorem RWs.take {H:Hp}{us:List V}{ws:List W} (h:RWs H us ws) (n:Nat):RWs H (us.take n) (ws.take n):=⟨by rw [List.length_take,List.length_take,h.len],fun i v w a b=>by
  have hi:i < n:=by
    have:=(List.getElem?_eq_some_iff.mp a).1
    rw [List.length_take] at this
    omega
  rw [List.getElem?_take_of_lt hi] at a b
  exact h.at' i v w a b⟩
theorem rowsOf_succ (n w:Nat) (ys:List W):rowsOf (n + 1) w ys = rowsOf n w ys ++ [.lst ((ys.drop (n * w)).take w)]:=by
  unfold rowsOf
  rw [List.range_succ,List.map_append]
  rfl
structure Ro (b D1 D2 lN:Addr) (some' others:Ns) (H H':Hp):Prop where
  st:Step b H H'
  e1:H' D1 = some (.lst (some'.map V.str))
  e2:H' D2 = some (.lst (others.map V.str))
  eN:H' lN = some (.lst ((rnames some' others).map V.str))
  n1:D1≠b
  n2:D2≠b
  nN:lN≠b
theorem Ro.same {b D1 D2 lN:Addr}{some' others:Ns}{H H' H2:Hp} (r:Ro b D1 D2 lN some' others H H') (s:Same H' H2):Ro b D1 D2 lN some' others H H2:=⟨r.st.trans (Step.ofSame r.st.box s),s _ _ r.e1,s _ _ r.e2,s _ _ r.eN,r.n1,r.n2,r.nN⟩
theorem Ro.step {b D1 D2 lN:Addr}{some' others:Ns}{H H' H2:Hp} (r:Ro b D1 D2 lN some' others H H') (s:Step b H' H2):Ro b D1 D2 lN some' others H H2:=⟨r.st.trans s,s.keep _ _ r.n1 r.e1,s.keep _ _ r.n2 r.e2,s.keep _ _ r.nN r.eN,r.n1,r.n2,r.nN⟩
theorem ne_box {b p:Addr}{H:Hp} (h:IsBox H b) (e:H p = none):p≠b:=by
  obtain ⟨_,_,_,e'⟩:=h
  exact (ne_of_none e' e).symm
section
variable {P:Program}{w:World}{K:PySem.W.Frag}{mg:Str→Option Value}{base:Heap}{f:Addr}{fd:FuncData}{k n:Nat}
theorem sc_lrounds:FnScope ["_law_box_here","_law_some","_law_others","_law_names","_law_one","_law_founds","_law_inner","_law_rule","_law_at","_law_wide","_law_rows","_law_k"] ["_law_box_here"] (defScope s_lrounds):=⟨rfl,rfl,rfl,by decide +kernel,rfl,by decide +kernel,by decide +kernel⟩
theorem ok_lrounds (F:Fun K "_law_rounds" "_law_rounds" s_lrounds f fd) (G_lworth:Have P w K mg base "_law_worth" k ["_law_box_here","_law_room","_law_deep"] (spWorth 13)) (G_ltake:Have P w K mg base "_law_take" k ["_law_box_here","_law_wide"] (spTake)) (G_lname:Have P w K mg base "_law_name" k ["_law_box_here"] (spName)) (m_len:mg "len" = none) (m_range:mg "range" = none) (m_tuple:mg "tuple" = none):FnOk P w K mg base CX0 (k + 1) f fd ["_law_box_here"] (spBuild K):=by
  refine F.okQ sc_lrounds (fun vs H Q E h=>?_) (fun cdv A outer s H vs Q E hr h=>?_)
  · obtain ⟨b,rfl,_⟩:=h
    rfl
  obtain ⟨b,rfl,hb,q⟩:=h
  refine ⟨_,(pss_cons (ps_lset (i:=1) [0] ["_law_box_here"] rfl rfl (by decide +kernel) rfl (by decide +kernel) rfl (by decide +kernel) ⟨rfl,trivial⟩ rfl ⟨⟨rfl,rfl,Or.inr (Or.inl rfl),(by show (some NameKind.cell:Option NameKind)≠some .local; decide),⟨_,rfl⟩⟩,trivial⟩ (pi_range1 rfl m_range (pa_cons (pe_op op_add pe_int (pe_fn G_ltake hr rfl (pa_cons (pv 0) (pa_cons pe_int pa_nil)))) pa_nil)) (fun C s H fp=>⟨pifs_nil,(pe_fn G_lname hr rfl (pa_cons (pv 1) pa_nil))⟩) sc_lrounds.nd rfl (Or.inl rfl))
    (pss_cons (ps_lset (i:=2) [0] ["_law_box_here"] rfl rfl (by decide +kernel) rfl (by decide +kernel) rfl (by decide +kernel) ⟨rfl,trivial⟩ rfl ⟨⟨rfl,rfl,Or.inr (Or.inl rfl),(by show (some NameKind.cell:Option NameKind)≠some .local; decide),⟨_,rfl⟩⟩,trivial⟩ (pi_range1 rfl m_range (pa_cons (pe_op op_add pe_int (pe_fn G_ltake hr rfl (pa_cons (pv 0) (pa_cons pe_int pa_nil)))) pa_nil)) (fun C s H fp=>⟨pifs_nil,(pe_fn G_lname hr rfl (pa_cons (pv 1) pa_nil))⟩) sc_lrounds.nd rfl (Or.inl rfl))
    (pss_cons (ps_set (i:=3) sc_lrounds.nd rfl (Or.inl rfl) (pe_lst pa_nil))
    (pss_cons (ps_for PassesOwn.never rfl (pi_list (pv 1)) (pg_name (i:=4) sc_lrounds.nd rfl (Or.inr rfl)) (pss_one (ps_set (i:=3) sc_lrounds.nd rfl (Or.inl rfl) (pe_op op_cat (pv 3) (pe_lcomp [4] ["_law_one"] rfl rfl (by decide +kernel) rfl (by decide +kernel) rfl (by decide +kernel) ⟨rfl,trivial⟩ rfl ⟨⟨rfl,rfl,Or.inr (Or.inl rfl),(by show (some NameKind.cell:Option NameKind)≠some .local; decide),⟨_,rfl⟩⟩,trivial⟩ (pi_list (pv 2)) (fun C s H fp=>⟨pifs_nil,(pe_op op_add_str (pv 1) (pv 0))⟩))))))
    (pss_cons (ps_lset (i:=5) [0] ["_law_box_here"] rfl rfl (by decide +kernel) rfl (by decide +kernel) rfl (by decide +kernel) ⟨rfl,trivial⟩ rfl ⟨⟨rfl,rfl,Or.inr (Or.inl rfl),(by show (some NameKind.cell:Option NameKind)≠some .local; decide),⟨_,rfl⟩⟩,trivial⟩ (pi_list (pv 3)) (fun C s H fp=>⟨pifs_nil,(pe_tup (pa_cons pe_str (pa_cons (pe_fn G_ltake hr rfl (pa_cons (pv 1) (pa_cons pe_int pa_nil))) pa_nil)))⟩) sc_lrounds.nd rfl (Or.inl rfl))
    (pss_cons (ps_set (i:=6) sc_lrounds.nd rfl (Or.inl rfl) (pe_tup (pa_cons pe_str (pa_cons pe_str (pa_cons (pe_tup (pa_cons pe_str (pa_cons (pe_callTy call_tuple_of rfl m_tuple boot_tupleT (pa_cons (pv 2) pa_nil)) pa_nil))) (pa_cons (pe_tup (pa_cons pe_str (pa_cons (pe_tup (pa_cons pe_str (pa_cons (pe_tup (pa_cons pe_str (pa_cons pe_str pa_nil))) (pa_cons (pe_tup (pa_cons pe_str (pa_cons pe_str pa_nil))) pa_nil)))) pa_nil))) pa_nil))))))
    (pss_cons (ps_set (i:=7) sc_lrounds.nd rfl (Or.inl rfl) (pe_tup (pa_cons pe_str (pa_cons pe_str (pa_cons (pe_tup (pa_cons pe_str (pa_cons (pe_callTy call_tuple_of rfl m_tuple boot_tupleT (pa_cons (pv 1) pa_nil)) pa_nil))) (pa_cons (pv 6) pa_nil))))))
    (pss_cons (ps_set (i:=8) sc_lrounds.nd rfl (Or.inl rfl) (pe_fn G_ltake hr rfl (pa_cons (pv 0) (pa_cons (pe_op op_mul pe_int (pe_callB call_len rfl m_len PySem.boot_len (pa_cons (pv 3) pa_nil))) pa_nil))))
    (pss_cons (ps_if (pt_cmpR op_lt (pv 8) (pe_callB call_len rfl m_len PySem.boot_len (pa_cons (pv 3) pa_nil)) (nomark _)) (pss_cons (ps_asg (pe_tup (pa_cons pe_str (pa_cons pe_str (pa_cons (pe_fn G_lworth hr rfl (pa_cons (pv 0) (pa_cons pe_int (pa_cons pe_int pa_nil)))) pa_nil)))) (pg_sub (pv 5) (pv 8) set_list))
    (pss_one (ps_ret (pe_tup (pa_cons (pv 7) (pa_cons (pe_slice sl_list (pv 3) po_none (po_some (pe_op op_add (pv 8) pe_int))) (pa_cons (pv 5) (pa_cons (pe_ix ix_list (pv 5) (pv 8) (fun _ _=>rfl)) pa_nil)))))))) pss_nil)
    (pss_cons (ps_set (i:=9) sc_lrounds.nd rfl (Or.inl rfl) (pe_callB call_len rfl m_len PySem.boot_len (pa_cons (pv 2) pa_nil)))
    (pss_cons (ps_set (i:=10) sc_lrounds.nd rfl (Or.inl rfl) (pe_lst pa_nil))
    (pss_cons (ps_for PassesOwn.never rfl (pi_range1 rfl m_range (pa_cons (pe_callB call_len rfl m_len PySem.boot_len (pa_cons (pv 1) pa_nil)) pa_nil)) (pg_name (i:=11) sc_lrounds.nd rfl (Or.inl rfl)) (pss_one (ps_expr (pe_bm PySem.F.plainAttrs_list PySem.F.slot_list_append PySem.F.type_list_append mt_append (pv 10) (pa_cons (pe_callTy call_tuple_of rfl m_tuple boot_tupleT (pa_cons (pe_lcomp [] [] rfl rfl (by decide +kernel) rfl (by decide +kernel) rfl (by decide +kernel) trivial rfl trivial (pi_list (pe_slice sl_list (pv 5) (po_some (pe_op op_mul (pv 11) (pv 9))) (po_some (pe_op op_add (pe_op op_mul (pv 11) (pv 9)) (pv 9))))) (fun C s H fp=>⟨pifs_nil,(pe_ix (show IxR _ (rIxT K) from ix_tup) (pv 0) pe_int (fun _ _=>rfl))⟩)) pa_nil)) pa_nil)))))
    (pss_one (ps_ret (pe_tup (pa_cons (pv 7) (pa_cons (pv 3) (pa_cons (pv 5) (pa_cons (pe_tup (pa_cons pe_str (pa_cons (pe_callTy call_tuple_of rfl m_tuple boot_tupleT (pa_cons (pv 10) pa_nil)) pa_nil))) pa_nil))))))))))))))))))),?_⟩
  refine ⟨_,rfl,b,4,rfl,hb,by decide,by decide,fun n H1 n0 n1 st1=>⟨_,_,rfl,rfl,?_⟩⟩
  refine ⟨1 + n,rfl,by omega,by omega,rd_drawR (n:=1 + n) (fun i us H'=>∃ names:Ns,us = names.map V.str∧names.length = i∧(∀ s∈names,Nm 12 s)∧Step b H H') ⟨[],rfl,rfl,(fun s h=>nomatch h),st1⟩ (fun i us H' h=>?_) (by omega) (fun i us H' R hi h r=>?_) (fun us H' D1 h hD1=>?_)⟩
  · obtain ⟨names,rfl,hl,_⟩:=h
    rw [List.length_map]
    exact hl
  · obtain ⟨names,rfl,hl,hnm,st⟩:=h
    refine ⟨_,rfl,b,rfl,st.box,fun z H2 hz st2=>r _ _ ⟨names ++ [z],by rw [List.map_append]; rfl,by rw [List.length_append,hl]; rfl,fun s hs=>?_,st.trans st2⟩⟩
    rcases List.mem_append.mp hs with hs | hs
    · exact hnm s hs
    · rw [List.mem_singleton.mp hs]; exact hz
  obtain ⟨some',rfl,hl1,hnm1,st2⟩:=h
  have e1:upd H' D1 (.lst (some'.map V.str)) D1 = some (.lst (some'.map V.str)):=upd_same
  have st3:=st2.trans (Step.new (o:=.lst (some'.map V.str)) st2.box hD1)
  have nD1:D1≠b:=ne_box st2.box hD1
  have h1l:1≤some'.length:=by omega
  have h1u:some'.length≤4:=by omega
  generalize upd H' D1 (.lst (some'.map V.str)) = H2 at e1 st3
  refine ⟨_,rfl,b,4,rfl,st3.box,by decide,by decide,fun n2 H1 n20 n21 st4=>⟨_,_,rfl,rfl,?_⟩⟩
  refine ⟨1 + n2,rfl,by omega,by omega,rd_drawR (n:=1 + n2) (fun i us H'=>∃ names:Ns,us = names.map V.str∧names.length = i∧(∀ s∈names,Nm 12 s)∧Step b H H'∧H' D1 = some (.lst (some'.map V.str))) ⟨[],rfl,rfl,(fun s h=>nomatch h),st3.trans st4,st4.keep _ _ nD1 e1⟩ (fun i us H' h=>?_) (by omega) (fun i us H' R hi h r=>?_) (fun us H' D2 h hD2=>?_)⟩
  · obtain ⟨names,rfl,hl,_⟩:=h
    rw [List.length_map]
    exact hl
  · obtain ⟨names,rfl,hl,hnm,st,ed⟩:=h
    refine ⟨_,rfl,b,rfl,st.box,fun z H2 hz st2=>r _ _ ⟨names ++ [z],by rw [List.map_append]; rfl,by rw [List.length_append,hl]; rfl,fun s hs=>?_,st.trans st2,st2.keep _ _ nD1 ed⟩⟩
    rcases List.mem_append.mp hs with hs | hs
    · exact hnm s hs
    · rw [List.mem_singleton.mp hs]; exact hz
  obtain ⟨others,rfl,hl2,hnm2,st5,e15⟩:=h
  have nD2:D2≠b:=ne_box st5.box hD2
  have h2l:1≤others.length:=by omega
  have h2u:others.length≤4:=by omega
  have s6:=Same.new (o:=.lst (others.map V.str)) hD2
  have e2:upd H' D2 (.lst (others.map V.str)) D2 = some (.lst (others.map V.str)):=upd_same
  have e16:=s6 _ _ e15
  have st6:=st5.trans (Step.ofSame st5.box s6)
  generalize upd H' D2 (.lst (others.map V.str)) = H6 at e2 e16 st6
  dsimp only [gName]
  refine seqI (fun σ' H'=>∃ (lN:Addr) (o4:Option V),σ' = [some (.ref b),some (.ref D1),some (.ref D2),some (.ref lN),o4,none,none,none,none,none,none,none]∧lN≠b∧Same H6 H'∧H' lN = some (.lst [])∧o4 = none) (fun σ' H7 h7=>?_) (fun tl=>?_)
  rotate_left
  · exact ⟨(by show 0≤sizeLine; decide),fun lN hlN=>tl _ _ ⟨lN,none,rfl,ne_box st6.box hlN,Same.new hlN,upd_same,rfl⟩⟩
  obtain ⟨lN0,_,rfl,nN0,s7,eN0,rfl⟩:=h7
  have st7:=st6.trans (Step.ofSame st6.box s7)
  have e17:=s7 _ _ e16
  have e27:=s7 _ _ e2
  refine seqI (fun σ' H'=>∃ (lN:Addr) (o4:Option V),σ' = [some (.ref b),some (.ref D1),some (.ref D2),some (.ref lN),o4,none,none,none,none,none,none,none]∧Ro b D1 D2 lN some' others H H') (fun σ' H8 h8=>?_) (fun tl=>?_)
  rotate_left
  · refine ⟨_,rfl,D1,rfl,⟨_,SqL.of e17⟩,for_list (K:=K) (xs:=some'.map V.str) (fun i σ' H'=>∃ (lN:Addr) (o4:Option V),σ' = [some (.ref b),some (.ref D1),some (.ref D2),some (.ref lN),o4,none,none,none,none,none,none,none]∧Same H7 H'∧lN≠b∧H' lN = some (.lst ((rnames (some'.take i) others).map V.str))) ⟨lN0,none,rfl,Same.refl _,nN0,eN0⟩ (fun i σ' H' _ h=>?_) (fun i v σ' H' hv h=>?_) (fun σ' H' h=>?_)⟩
    · obtain ⟨_,_,_,sm,_⟩:=h
      exact SqL.of (sm _ _ e17)
    · obtain ⟨lN,o4,rfl,sm,nN,eN⟩:=h
      rw [List.getElem?_map] at hv
      obtain ⟨a,ha,rfl⟩:=Option.map_eq_some_iff.mp hv
      have ham:=hnm1 a (List.mem_of_getElem? ha)
      have e2s:=sm _ _ e27
      refine ⟨_,rfl,_,rfl,D2,rfl,⟨_,SqL.of e2s⟩,rd_bodyLP (K:=K) (vs:=others.map V.str) (fun i us H1=>us.length = i∧us = ((others.take i).map fun b=>a ++ b).map V.str) (SqL.of e2s) (Nat.le_of_lt (small1000 (by rw [List.length_map]; omega))) ⟨rfl,rfl⟩ (fun i us H1 h=>h.1) (fun j v us H1 R hv hP sm2 r=>?_) (fun us H1 D3 hP sm2 hD3=>?_)⟩
      · rw [List.getElem?_map] at hv
        obtain ⟨z,hz,rfl⟩:=Option.map_eq_some_iff.mp hv
        have hzm:=hnm2 z (List.mem_of_getElem? hz)
        have l1:=ham.1
        have l2:=hzm.1
        refine ⟨_,rfl,_,rfl,_,_,rfl,rfl,Nat.le_of_lt (small1000 (by omega)),r _ _ (Same.refl _) ⟨by rw [List.length_append,hP.1]; rfl,?_⟩⟩
        rw [take_snoc hz,List.map_append,List.map_append,← hP.2]
        rfl
      · obtain ⟨hul,hus⟩:=hP
        rw [List.length_map,List.take_length] at hus
        rw [List.length_map] at hul
        have t1:=Same.new (o:=.lst us) hD3
        have hrl:(rnames (some'.take i) others).length≤16:=by
          rw [rnames_len,List.length_take]
          exact Nat.mul_le_mul (show min i some'.length≤4 by omega) h2u
        refine ⟨lN,D3,_,us,rfl,rfl,t1 _ _ (sm2 _ _ eN),upd_same,Nat.le_of_lt (small1000 (by rw [List.length_map]; omega)),fun D4 hD4=>?_⟩
        have t2:=Same.new (o:=.lst ((rnames (some'.take i) others).map V.str ++ us)) hD4
        have sA:=sm.trans (sm2.trans (t1.trans t2))
        refine ⟨D4,_,rfl,sA,?_,?_⟩
        · exact ne_box (st7.trans (Step.ofSame st7.box (sm.trans (sm2.trans t1)))).box hD4
        · rw [upd_same,take_snoc ha,rnames_snoc,List.map_append,hus]
    · obtain ⟨lN,o4,rfl,sm,nN,eN⟩:=h
      rw [List.length_map,List.take_length] at eN
      exact tl _ _ ⟨lN,o4,rfl,st7.trans (Step.ofSame st7.box sm),sm _ _ e17,sm _ _ e27,eN,nD1,nD2,nN⟩
  obtain ⟨lN,o4,rfl,ro⟩:=h8
  have hrl:(rnames some' others).length≤16:=by rw [rnames_len]; exact Nat.mul_le_mul h1u h2u
  have hrm:(rnames some' others).length = some'.length * others.length:=rnames_len _
  have hr1:1≤(rnames some' others).length:=by rw [hrm]; exact Nat.mul_le_mul h1l h2l
  have hvl:((rnames some' others).map V.str).length = (rnames some' others).length:=List.length_map _
  have nm100:∀ s∈rnames some' others,Nm 100 s:=fun s hs=>by
    obtain ⟨a,ha,hs⟩:=List.mem_flatMap.mp hs
    obtain ⟨z,hz,rfl⟩:=List.mem_map.mp hs
    have:=(nm_join (hnm1 a ha) (hnm2 z hz)).2
    exact ⟨Nat.le_trans this.1 (by decide),this.2⟩
  refine seqI (fun σ' H'=>∃ (lF:Addr) (vf:List V) (ys:List W),σ' = [some (.ref b),some (.ref D1),some (.ref D2),some (.ref lN),o4,some (.ref lF),none,none,none,none,none,none]∧Ro b D1 D2 lN some' others H H'∧H' lF = some (.lst vf)∧lF≠b∧H lF = none∧lF≠lN∧lF≠D1∧lF≠D2∧RWs H' vf ((ys.map Res.made).map Res.toW)∧ys.length = (rnames some' others).length∧∀ y∈ys,Sn y) (fun σ' H9 h9=>?_) (fun tl=>?_)
  rotate_left
  · refine ⟨_,rfl,lN,rfl,⟨_,SqL.of ro.eN⟩,rd_drawL (K:=K) (a:=lN) (vs:=(rnames some' others).map V.str) (fun i us H''=>∃ ys:List W,RWs H'' us ((ys.map Res.made).map Res.toW)∧ys.length = i∧(∀ y∈ys,Sn y)∧Ro b D1 D2 lN some' others H H'') (Nat.le_of_lt (small1000 (by omega))) ⟨[],⟨rfl,fun i v w e=>by simp at e⟩,rfl,(fun s h=>nomatch h),ro⟩ (fun i us H' h=>?_) (fun i us H' h=>?_) (fun i v us H' R hv h r=>?_) (fun us H' lF h hlF=>?_)⟩
    · obtain ⟨ys,hw,hl,_⟩:=h
      rw [hw.len,List.length_map,List.length_map]
      exact hl
    · obtain ⟨_,_,_,_,r⟩:=h
      exact SqL.of r.eN
    · obtain ⟨ys,hw,hl,hsn,ro⟩:=h
      refine ⟨_,rfl,b,5,rfl,ro.st.box,by decide,by decide,fun m H3 m0 m1 st4=>⟨(by show 2≤sizeLine; decide),fun p hp=>?_⟩⟩
      have s5:=Same.new (o:=.tup [.str "made",.int m]) hp
      have st5:=st4.trans (Step.ofSame st4.box s5)
      refine r _ _ ⟨ys ++ [.num m],?_,by rw [List.length_append,hl]; rfl,fun y hy=>?_,ro.step st5⟩
      · rw [List.map_append,List.map_append]
        exact (hw.mono (st5.tups ro.st.box)).snoc (RW.two upd_same (.txt _) (.num _))
      · rcases List.mem_append.mp hy with hy | hy
        · exact hsn y hy
        · rw [List.mem_singleton.mp hy]; exact ⟨m,rfl,m0,by omega⟩
    · obtain ⟨ys,hw,hl,hsn,ro⟩:=h
      have t1:=Same.new (o:=.lst us) hlF
      have nF:=ne_box ro.st.box hlF
      exact tl _ _ ⟨lF,us,ys,rfl,ro.same t1,upd_same,nF,ro.st.free nF hlF,(ne_of_none ro.eN hlF).symm,(ne_of_none ro.e1 hlF).symm,(ne_of_none ro.e2 hlF).symm,hw.mono (same_tups t1),by rw [hl,hvl],hsn⟩
  obtain ⟨lF,vf,ys,rfl,ro9,eF9,nFb,hF0,nFN,nF1,nF2,hw9,hyl,hsn⟩:=h9
  refine seqI (fun σ' H'=>∃ (ri:Addr),σ' = [some (.ref b),some (.ref D1),some (.ref D2),some (.ref lN),o4,some (.ref lF),some (.ref ri),none,none,none,none,none]∧Same H9 H'∧RW H' (.ref ri) (innX others).toW) (fun σ' H10 h10=>?_) (fun tl=>?_)
  rotate_left
  · refine ⟨_,rfl,D2,_,rfl,.inl ⟨SqL.of ro9.e2,fun t1 ht1=>⟨(by show 2≤sizeLine; decide),fun t2 ht2=>⟨(by show 2≤sizeLine; decide),fun t3 ht3=>⟨(by show 2≤sizeLine; decide),fun t4 ht4=>⟨(by show 3≤sizeLine; decide),fun t5 ht5=>⟨(by show 2≤sizeLine; decide),fun t6 ht6=>⟨(by show 4≤sizeLine; decide),fun t7 ht7=>?_⟩⟩⟩⟩⟩⟩⟩⟩
    have a1:=Same.new (o:=.tup (others.map V.str)) ht1
    have a2:=Same.new (o:=.tup [.str "lit",.ref t1]) ht2
    have a3:=Same.new (o:=.tup [.str "var",.str "a"]) ht3
    have a4:=Same.new (o:=.tup [.str "var",.str "b"]) ht4
    have a5:=Same.new (o:=.tup [.str "join",.ref t3,.ref t4]) ht5
    have a6:=Same.new (o:=.tup [.str "look",.ref t5]) ht6
    have a7:=Same.new (o:=.tup [.str "each",.str "b",.ref t2,.ref t6]) ht7
    have c6:=a6.trans a7
    have c5:=a5.trans c6
    have c4:=a4.trans c5
    have c3:=a3.trans c4
    have c2:=a2.trans c3
    refine tl _ _ ⟨t7,rfl,a1.trans c2,?_⟩
    rw [inn_w]
    exact RW.four upd_same (.txt _) (.txt _) (RW.two (c3 _ _ upd_same) (.txt _) (.lst (c2 _ _ upd_same) (RWs.strs (H:=H9) others).len (RWs.strs others).at')) (RW.two (a7 _ _ upd_same) (.txt _) (RW.three (c6 _ _ upd_same) (.txt _) (RW.two (c4 _ _ upd_same) (.txt _) (.txt _)) (RW.two (c5 _ _ upd_same) (.txt _) (.txt _))))
  obtain ⟨ri,rfl,s10,rI⟩:=h10
  have ro10:=ro9.same s10
  have eF10:=s10 _ _ eF9
  have hw10:=hw9.mono (same_tups s10)
  refine seqI (fun σ' H'=>∃ (ra:Addr),σ' = [some (.ref b),some (.ref D1),some (.ref D2),some (.ref lN),o4,some (.ref lF),some (.ref ri),some (.ref ra),none,none,none,none]∧Same H10 H'∧RW H' (.ref ra) (roundsX some' others).toW) (fun σ' H11 h11=>?_) (fun tl=>?_)
  rotate_left
  · refine ⟨_,rfl,D1,_,rfl,.inl ⟨SqL.of ro10.e1,fun t1 ht1=>⟨(by show 2≤sizeLine; decide),fun t2 ht2=>⟨_,rfl,(by show 4≤sizeLine; decide),fun t7 ht7=>?_⟩⟩⟩⟩
    have a1:=Same.new (o:=.tup (some'.map V.str)) ht1
    have a2:=Same.new (o:=.tup [.str "lit",.ref t1]) ht2
    have a7:=Same.new (o:=.tup [.str "each",.str "a",.ref t2,.ref ri]) ht7
    have c2:=a2.trans a7
    refine tl _ _ ⟨t7,rfl,a1.trans c2,?_⟩
    rw [rounds_w]
    exact RW.four upd_same (.txt _) (.txt _) (RW.two (a7 _ _ upd_same) (.txt _) (.lst (c2 _ _ upd_same) (RWs.strs (H:=H9) some').len (RWs.strs some').at')) (rI.mono (same_tups (a1.trans c2)))
  obtain ⟨ra,rfl,s11,rX⟩:=h11
  have ro11:=ro10.same s11
  have eF11:=s11 _ _ eF10
  have hw11:=hw10.mono (same_tups s11)
  have hvf:vf.length = (rnames some' others).length:=by rw [hw11.len,List.length_map,List.length_map,hyl]
  refine ⟨_,rfl,_,rfl,_,_,rfl,.inl ⟨_,SqL.of ro11.eN,rfl⟩,_,_,rfl,rfl,.inl (by decide),b,_,rfl,ro11.st.box,by omega,by omega,fun m H12 m0 m1 st12=>?_⟩
  have ro12:=ro11.step st12
  have tp12:=st12.tups ro11.st.box
  have eF12:=st12.keep _ _ nFb eF11
  have hw12:=hw11.mono tp12
  have rX12:=rX.mono tp12
  dsimp only [gName]
  refine seqI (fun σ' H'=>∃ o8:Option V,σ' = [some (.ref b),some (.ref D1),some (.ref D2),some (.ref lN),o4,some (.ref lF),some (.ref ri),some (.ref ra),o8,none,none,none]∧H' = H12) (fun σ' H13 h13=>?_) (fun tl=>?_)
  rotate_left
  · refine ⟨_,rfl,_,rfl,_,_,rfl,.inl ⟨_,SqL.of ro12.eN,rfl⟩,_,_,rfl,rfl,_,rfl,ite2 (fun c1=>?_) (fun _=>tl _ _ ⟨_,rfl,rfl⟩)⟩
    obtain ⟨j,rfl⟩:∃ j:Nat,m = (j:Int):=⟨m.toNat,by omega⟩
    have hj:j < (rnames some' others).length:=by
      have:=of_decide_eq_true c1
      omega
    refine ⟨_,rfl,b,4,2,rfl,ro12.st.box,by decide,by decide,by decide,by decide,fun v x H13 rx okx dx sx st13=>⟨(by show 3≤sizeLine; decide),fun p hp=>?_⟩⟩
    have s14:=Same.new (o:=.tup [.str "wrong",.str "cried",v]) hp
    have st14:=st13.trans (Step.ofSame st13.box s14)
    have ro14:=ro12.step st14
    have tp14:=st14.tups ro12.st.box
    have eF14:=st14.keep _ _ nFb eF12
    have hw14:=hw12.mono tp14
    have rX14:=rX12.mono tp14
    have rp:RW (upd H13 p (.tup [.str "wrong",.str "cried",v])) (.ref p) (Res.wrong [.txt "cried",x]).toW:=RW.three upd_same (.txt _) (.txt _) (rx.mono (same_tups s14))
    generalize upd H13 p (.tup [.str "wrong",.str "cried",v]) = H14 at st14 ro14 tp14 eF14 hw14 rX14 rp
    refine ⟨_,rfl,_,rfl,lF,vf,_,j,rfl,rfl,eF14,ixN_nat (by omega),?_⟩
    have kb:Kb lF H14 (upd H14 lF (.lst (vf.set j (.ref p)))):=Kb.put
    have tp15:=kb.tups eF14
    have eF15:upd H14 lF (.lst (vf.set j (.ref p))) lF = some (.lst (vf.set j (.ref p))):=upd_same
    have eN15:=kb _ _ nFN.symm ro14.eN
    have st15:=ro14.st.putF (o:=.lst (vf.set j (.ref p))) hF0 nFb
    have hw15:=(hw14.mono tp15).set (rp.mono tp15) j
    have rX15:=rX14.mono tp15
    have rp15:=rp.mono tp15
    rw [← List.map_set] at hw15
    generalize upd H14 lF (.lst (vf.set j (.ref p))) = H15 at eF15 eN15 st15 hw15 rX15 rp15
    have hati:atI (vf.set j (.ref p)) (j:Int) = some (.ref p):=atI_nat (by rw [List.getElem?_set_self (by omega)])
    have okr:OutOk (.wrong [.txt "cried",x]):=⟨"cried",x,rfl,txt_okd (by decide +kernel) (by decide +kernel),okx,by omega⟩
    have hset:((ys.map Res.made).set j (.wrong [.txt "cried",x]))[j]? = some (.wrong [.txt "cried",x]):=by rw [List.getElem?_set_self (by rw [List.length_map]; omega)]
    have hmade:∀ i < j,∃ y,((ys.map Res.made).set j (.wrong [.txt "cried",x]))[i]? = some (.made y)∧Sm y:=fun i hi=>by
      rw [List.getElem?_set_ne (by omega),List.getElem?_map,List.getElem?_eq_getElem (by omega)]
      exact ⟨_,rfl,(hsn _ (List.getElem_mem _)).sm⟩
    have hsl:((ys.map Res.made).set j (.wrong [.txt "cried",x])).length = (rnames some' others).length:=by rw [List.length_set,List.length_map,hyl]
    have hok:∀ r∈(ys.map Res.made).set j (.wrong [.txt "cried",x]),OutOk r:=fun r hr=>by
      rcases List.mem_or_eq_of_mem_set hr with hr | rfl
      · obtain ⟨y,hy,rfl⟩:=List.mem_map.mp hr
        have:=(hsn y hy).sm
        exact ⟨this.ok,this.dp,this.sz⟩
      · exact okr
    refine ⟨_,rfl,_,rfl,_,rfl,_,_,rfl,rfl,_,rfl,lN,_,rfl,SqL.of eN15,fun D7 hD7=>?_⟩
    have t1:=Same.new (o:=.lst (cutV ((rnames some' others).map V.str) none (some ((j:Int) + 1)))) hD7
    have eD7:upd H15 D7 (.lst (cutV ((rnames some' others).map V.str) none (some ((j:Int) + 1)))) D7 = some (.lst (((rnames some' others).take (j + 1)).map V.str)):=by
      rw [upd_same,show ((j:Int) + 1) = 0 + (j:Int) + 1 by omega,cut_take (by omega),List.map_take]
    have nD7:D7≠b:=ne_box st15.box hD7
    generalize upd H15 D7 (.lst (cutV ((rnames some' others).map V.str) none (some ((j:Int) + 1)))) = H16 at t1 eD7
    refine ⟨_,rfl,_,rfl,_,rfl,lF,_,_,_,rfl,rfl,SqL.of (t1 _ _ eF15),hati,(by show 4≤sizeLine; decide),fun p2 hp2=>?_⟩
    have t3:=Same.new (o:=.tup [.ref ra,.ref D7,.ref lF,.ref p]) hp2
    have sA:=t1.trans t3
    exact q p2 D7 lF _ _ _ (roundsX some' others) ((rnames some' others).take (j + 1)) _ (.wrong [.txt "cried",x]) _ upd_same (rX15.mono (same_tups sA)) (t3 _ _ eD7) (sA _ _ eF15) (hw15.mono (same_tups sA)) hok (by omega) (fun s hs=>nm100 s (List.mem_of_mem_take hs)) (rp15.mono (same_tups sA)) (beh_roundsW hnm1 hnm2 h1u h2u hsl.symm hj hset okr hmade) nD7 nFb (st15.trans (Step.ofSame st15.box sA))
  obtain ⟨o8,rfl,rfl⟩:=h13
  refine ⟨_,rfl,_,_,rfl,.inl ⟨_,SqL.of ro12.e2,rfl⟩,(by show 0≤sizeLine; decide),fun lw hlw=>?_⟩
  have s14:=Same.new (o:=.lst []) hlw
  have ro14:=ro12.same s14
  refine ⟨_,rfl,_,_,rfl,.inl ⟨_,SqL.of ro14.e1,rfl⟩,_,rfl,by rw [List.length_map]; omega,by rw [List.length_map]; omega,for_range (fun i σ' H'=>∃ (o11:Option V) (vr:List V),σ' = [some (.ref b),some (.ref D1),some (.ref D2),some (.ref lN),o4,some (.ref lF),some (.ref ri),some (.ref ra),o8,some (.int ((others.map V.str).length:Int)),some (.ref lw),o11]∧Same H13 H'∧H' lw = some (.lst vr)∧RWs H' vr (rowsOf i others.length ys)) ⟨none,[],rfl,s14,upd_same,⟨rfl,fun i v w e=>by simp at e⟩⟩ (fun i σ' H' hi h=>?_) (fun σ' H' h=>?_)⟩
  · obtain ⟨o11,vr,rfl,sm,ew,hvr⟩:=h
    have hin:i < some'.length:=by rw [List.length_map] at hi; omega
    have hol:(others.map V.str).length = others.length:=List.length_map _
    have hkl:i * others.length + others.length≤(rnames some' others).length:=by
      have:=Nat.mul_le_mul_right others.length (show i + 1≤some'.length by omega)
      rw [Nat.add_mul,Nat.one_mul] at this
      omega
    have eFs:=sm _ _ eF12
    have hws:=hw12.mono (same_tups sm)
    have cmul:CMul (0 + (i:Int)) ((others.map V.str).length:Int):=.inl ⟨by omega,by omega⟩
    have hvrl:vr.length = i:=by
      rw [hvr.len]
      unfold rowsOf
      rw [List.length_map,List.length_range]
    refine ⟨_,rfl,.inl ⟨rfl,_,SqL.of ew⟩,?_⟩
    refine ⟨_,rfl,_,rfl,_,rfl,_,_,rfl,rfl,cmul,_,rfl,_,rfl,_,rfl,_,_,rfl,rfl,cmul,_,rfl,_,_,rfl,rfl,_,rfl,lF,vf,rfl,SqL.of eFs,fun d hd=>?_⟩
    have t1:=Same.new (o:=.lst (cutV vf (some ((0 + (i:Int)) * ((others.map V.str).length:Int))) (some ((0 + (i:Int)) * ((others.map V.str).length:Int) + ((others.map V.str).length:Int))))) hd
    have ed:upd H' d (.lst (cutV vf (some ((0 + (i:Int)) * ((others.map V.str).length:Int))) (some ((0 + (i:Int)) * ((others.map V.str).length:Int) + ((others.map V.str).length:Int))))) d = some (.lst ((vf.drop (i * others.length)).take others.length)):=by
      rw [upd_same,hol,cut_mid (by omega)]
    generalize upd H' d (.lst (cutV vf (some ((0 + (i:Int)) * ((others.map V.str).length:Int))) (some ((0 + (i:Int)) * ((others.map V.str).length:Int) + ((others.map V.str).length:Int))))) = H15 at t1 ed
    have hwc:=((hws.mono (same_tups t1)).drop (i * others.length)).take others.length
    rw [← List.map_drop,← List.map_drop,← List.map_take,← List.map_take] at hwc
    have hzl:((ys.drop (i * others.length)).take others.length).length = others.length:=by rw [List.length_take,List.length_drop]; omega
    have hcl:((vf.drop (i * others.length)).take others.length).length = others.length:=by rw [List.length_take,List.length_drop]; omega
    have erow:rowsOf (i + 1) others.length ys = rowsOf i others.length ys ++ [.lst ((ys.drop (i * others.length)).take others.length)]:=rowsOf_succ _ _ _
    generalize (ys.drop (i * others.length)).take others.length = zs at hwc hzl erow
    generalize (vf.drop (i * others.length)).take others.length = vz at hwc hcl ed
    refine ⟨d,rfl,⟨_,SqL.of ed⟩,rd_bodyLP (K:=K) (vs:=vz) (fun i us H1=>us.length = i∧RWs H1 us (zs.take i)) (SqL.of ed) (Nat.le_of_lt (small1000 (by omega))) ⟨rfl,rfl,fun i v w e=>by simp at e⟩ (fun i us H1 h=>h.1) (fun j v us H1 R hv hP sm2 r=>?_) (fun us H1 D3 hP sm2 hD3=>?_)⟩
    · have hjz:j < zs.length:=by
        have:=(List.getElem?_eq_some_iff.mp hv).1
        omega
      have hz:zs[j]? = some zs[j]:=List.getElem?_eq_getElem hjz
      have rv:RW H15 v (.lst [.txt "made",zs[j]]):=hwc.at' j v _ hv (by rw [List.getElem?_map,List.getElem?_map,hz]; rfl)
      obtain ⟨t,us9,rfl,et,hw9⟩:=rv.tup
      obtain ⟨u0,us9,rfl,r0,hw9⟩:=hw9.cons
      obtain ⟨u1,us9,rfl,r1,hw9⟩:=hw9.cons
      refine ⟨_,rfl,t,_,1,u1,rfl,rfl,SqT.of (sm2 _ _ et),atI_nat (j:=1) rfl,r _ _ (Same.refl _) ⟨by rw [List.length_append,hP.1]; rfl,?_⟩⟩
      rw [take_snoc hz]
      exact hP.2.snoc (r1.mono (same_tups sm2))
    · rw [hcl,← hzl,List.take_length] at hP
      have t2:=Same.new (o:=.lst us) hD3
      refine ⟨D3,us,rfl,.inl ⟨SqL.of upd_same,fun t ht=>?_⟩⟩
      have t3:=Same.new (o:=.tup us) ht
      have sA:=(t1.trans sm2).trans (t2.trans t3)
      have rt:RW (upd (upd H1 D3 (.lst us)) t (.tup us)) (.ref t) (.lst zs):=.lst upd_same (by rw [hP.1]) (hP.2.mono (same_tups (t2.trans t3))).at'
      have ew2:=sA _ _ ew
      have hvr2:=hvr.mono (same_tups sA)
      have smA:=sm.trans sA
      generalize upd (upd H1 D3 (.lst us)) t (.tup us) = H16 at rt ew2 hvr2 smA
      refine ⟨lw,vr,_,rfl,rfl,ew2,small1000 (by omega),?_⟩
      have kb:Kb lw H16 (upd H16 lw (.lst (vr ++ [.ref t]))):=Kb.put
      have tp:=kb.tups ew2
      refine ⟨_,vr ++ [.ref t],rfl,fun c o ec=>?_,upd_same,?_⟩
      · rw [upd_ne (ne_of_none ec hlw)]
        exact smA _ _ ec
      · rw [erow]
        exact (hvr2.mono tp).snoc (rt.mono tp)
  · obtain ⟨o11,vr,rfl,sm,ew,hvr⟩:=h
    rw [List.length_map,Int.toNat_natCast] at hvr
    have roz:=ro12.same sm
    refine ⟨_,rfl,_,rfl,_,rfl,_,rfl,lw,_,rfl,.inl ⟨SqL.of ew,fun t ht=>⟨(by show 2≤sizeLine; decide),fun p1 hp1=>⟨(by show 4≤sizeLine; decide),fun p2 hp2=>?_⟩⟩⟩⟩
    have t1:=Same.new (o:=.tup vr) ht
    have t2:=Same.new (o:=.tup [.str "made",.ref t]) hp1
    have t3:=Same.new (o:=.tup [.ref ra,.ref lN,.ref lF,.ref p1]) hp2
    have t13:=(t1.trans t2).trans t3
    have sA:=sm.trans t13
    have hy13:=hvr.mono (same_tups t13)
    refine q p2 lN lF _ _ vf (roundsX some' others) (rnames some' others) (ys.map .made) (.made (.lst (rowsOf some'.length others.length ys))) _ upd_same (rX12.mono (same_tups sA)) (t13 _ _ roz.eN) (sA _ _ eF12) (hw12.mono (same_tups sA)) (fun r hr=>?_) (by rw [List.length_map]; omega) nm100 ?_ (beh_roundsM hnm1 hnm2 h1u h2u hyl hsn) ro.nN nFb (ro12.st.trans (Step.ofSame ro12.st.box sA))
    · obtain ⟨y,hy,rfl⟩:=List.mem_map.mp hr
      have:=(hsn y hy).sm
      exact ⟨this.ok,this.dp,this.sz⟩
    · exact RW.two (t3 _ _ upd_same) (.txt _) (.lst (t3 _ _ (t2 _ _ upd_same)) hy13.len hy13.at')
end
end D
set_option Elab.async false
set_option linter.all false
set_option maxRecDepth 100000
set_option maxHeartbeats 4000000
namespace D
open PySem L2
def spLaw (K:PySem.W.Frag):Sp:=fun vs H Q _=>∃ (a:Addr) (ns:List Int),vs = [.ref a]∧SqL K H a (ns.map V.int)∧ns.length≤63∧∀ H',Q (.bl true) H'
theorem isi_tt:isi "tuple" "tuple" = some true:=by decide +kernel
theorem cut_to {vs:List V}{i:Nat} (h:i≤vs.length):cutV vs none (some (0 + (i:Int))) = vs.take i:=by
  rw [Int.zero_add]
  show (vs.drop 0).take (HT.sIx vs.length vs.length (some ((i:Nat):Int)) - 0) = _
  rw [HT.sIx_nat,Nat.min_eq_left h,Nat.sub_zero,List.drop_zero]
theorem RW.rres {K:PySem.W.Frag}{H:Hp}{v:V}:∀ {r:Res},r≠.stop→RW H v r.toW→RRes K H v r
  | .stop,n,_=>absurd rfl n
  | .wrong _,_,h=>h.toRS
  | .made y,_,h=>by
    have h:RW H v (.lst [.txt "made",y]):=h
    obtain ⟨t,us,rfl,et,hw⟩:=h.tup
    obtain ⟨u0,us1,rfl,r0,hw1⟩:=hw.cons
    obtain ⟨u1,us2,rfl,r1,hw2⟩:=hw1.cons
    obtain rfl:=r0.str
    obtain rfl:=hw2.nil'
    exact ⟨t,u1,rfl,SqT.of et,r1⟩
theorem OutOk.okW:∀ {r:Res},OutOk r→r.toW.Ok
  | .made y,h=>⟨by show 2≤60; decide,txt_okd (by decide +kernel) (by decide +kernel),h.1,trivial⟩
  | .wrong ws,h=>by
    obtain ⟨c,y,rfl,h1,h2,h3⟩:=h
    exact ⟨by show 3≤60; decide,txt_okd (by decide +kernel) (by decide +kernel),h1,h2,trivial⟩
  | .stop,h=>h.elim
theorem outs_ok:∀ {fs:List Res},(∀ r∈fs,OutOk r)→Oks (fs.map Res.toW)∧depths (fs.map Res.toW)≤4
  | [],_=>⟨trivial,Nat.zero_le _⟩
  | r :: fs,h=>by
    obtain ⟨i1,i2⟩:=outs_ok fun x hx=>h x (List.mem_cons_of_mem _ hx)
    have h1:=h r List.mem_cons_self
    have h2:=h1.dp
    refine ⟨⟨h1.okW,i1⟩,?_⟩
    simp only [List.map_cons,depths]
    omega
theorem names_ok:∀ {ns:Ns},(∀ s∈ns,Nm 100 s)→Oks (ns.map W.txt)∧depths (ns.map W.txt)≤0
  | [],_=>⟨trivial,Nat.le_refl _⟩
  | s :: ns,h=>by
    obtain ⟨i1,i2⟩:=names_ok fun x hx=>h x (List.mem_cons_of_mem _ hx)
    have h1:=h s List.mem_cons_self
    refine ⟨⟨⟨Nat.le_trans h1.1 (by decide),h1.2⟩,i1⟩,?_⟩
    simp only [List.map_cons,depths,W.depth]
    omega
theorem RWs.res {K:PySem.W.Frag}{H:Hp}{us:List V}{fs:List Res} (h:RWs H us (fs.map Res.toW)) (ok:∀ r∈fs,OutOk r):us.length = fs.length∧∀ (i:Nat) (v:V) (r:Res),us[i]? = some v→fs[i]? = some r→RRes K H v r:=⟨by rw [h.len,List.length_map],fun i v r a b=>RW.rres (ok r (List.mem_of_getElem? b)).ne (h.at' i v _ a (by rw [List.getElem?_map,b]; rfl))⟩
theorem th_look:(W.txt "look").Th:=th_of _ (txt_okd (by decide +kernel) (by decide +kernel))
theorem th_ended:(W.txt "ended").Th:=th_of _ (txt_okd (by decide +kernel) (by decide +kernel))
theorem cut_two {x y z:V}:cutV [x,y,z] none (some 2) = [x,y]:=rfl
section
variable {P:Program}{w:World}{K:PySem.W.Frag}{mg:Str→Option Value}{base:Heap}{f:Addr}{fd:FuncData}{k n:Nat}
theorem sc_law:FnScope ["_law_script","_law_k","_law_box_here","_law_rule","_law_names","_law_founds","_law_due","_law_j","_law_handed","_law_found","_law_more"] ["_law_script"] (defScope sLaw):=⟨rfl,rfl,rfl,by decide +kernel,rfl,by decide +kernel,by decide +kernel⟩
theorem ok_law (F:Fun K "law" "law" sLaw f fd) (G_loutcome:Have P w K mg base "_law_outcome" k ["_law_box_here"] (spOut)) (G_lsame:Have P w K mg base "_law_same" k ["_law_found","_law_due"] (spLSame2 K 40)) (G_gone:Have P w K mg base "gone" k ["rule","founds"] (spGone K)) (G_lrounds:Have P w K mg base "_law_rounds" k ["_law_box_here"] (spBuild K)) (G_lchain:Have P w K mg base "_law_chain" k ["_law_box_here"] (spBuild K)) (G_lelses:Have P w K mg base "_law_elses" k ["_law_box_here"] (spBuild K)) (G_leach:Have P w K mg base "_law_each" k ["_law_box_here"] (spBuild K)) (G_llist:Have P w K mg base "_law_list" k ["_law_box_here"] (spBuild K)) (G_ltake:Have P w K mg base "_law_take" k ["_law_box_here","_law_wide"] (spTake)) (G_lbox:Have P w K mg base "_law_box" k ["_law_script","_law_k"] (spBox K)) (m_isi:mg "isinstance" = none) (m_len:mg "len" = none) (m_max:mg "max" = none) (m_min:mg "min" = none) (m_range:mg "range" = none) (m_tuple:mg "tuple" = none):FnOk P w K mg base CX0 (k + 1) f fd ["_law_script"] (spLaw K):=by
  refine F.okQ sc_law (fun vs H Q E h=>?_) (fun cdv A outer s H vs Q E hr h=>?_)
  · obtain ⟨a,ns,rfl,_⟩:=h
    rfl
  obtain ⟨a,ns,rfl,hS,h63,q⟩:=h
  obtain ⟨g__law_list,fd1,F1,b1,k1,m__law_list⟩:=id G_llist
  obtain ⟨g__law_each,fd2,F2,b2,k2,m__law_each⟩:=id G_leach
  obtain ⟨g__law_elses,fd3,F3,b3,k3,m__law_elses⟩:=id G_lelses
  obtain ⟨g__law_chain,fd4,F4,b4,k4,m__law_chain⟩:=id G_lchain
  obtain ⟨g__law_rounds,fd5,F5,b5,k5,m__law_rounds⟩:=id G_lrounds
  refine ⟨_,(pss_cons (ps_for PassesOwn.never rfl (pi_range1 rfl m_range (pa_cons (pe_callB (call_max2 rfl) rfl m_max PyProof.Rows.boot_max (pa_cons pe_int (pa_cons (pe_callB (call_min2 rfl) rfl m_min PyProof.Rows.boot_min (pa_cons pe_int (pa_cons (pe_op op_sub (pe_callB call_len rfl m_len PySem.boot_len (pa_cons (pv 0) pa_nil)) pe_int) pa_nil))) pa_nil))) pa_nil)) (pg_name (i:=1) sc_law.nd rfl (Or.inl rfl)) (pss_cons (ps_set (i:=2) sc_law.nd rfl (Or.inl rfl) (pe_fn G_lbox hr rfl (pa_cons (pv 0) (pa_cons (pe_op op_add pe_int (pv 1)) pa_nil))))
    (pss_cons (ps_asg (pe_callF hr (pe_ix ix_list (pe_lst (pa_cons (pe_glob (v:=.ref g__law_list) rfl m__law_list rfl) (pa_cons (pe_glob (v:=.ref g__law_each) rfl m__law_each rfl) (pa_cons (pe_glob (v:=.ref g__law_elses) rfl m__law_elses rfl) (pa_cons (pe_glob (v:=.ref g__law_chain) rfl m__law_chain rfl) (pa_cons (pe_glob (v:=.ref g__law_rounds) rfl m__law_rounds rfl) pa_nil)))))) (pe_fn G_ltake hr rfl (pa_cons (pv 2) (pa_cons pe_int pa_nil))) (fun _ _=>rfl)) (pa_cons (pv 2) pa_nil)) (pg_tup rfl (pgs_cons (pg_name (i:=3) sc_law.nd rfl (Or.inl rfl)) (pgs_cons (pg_name (i:=4) sc_law.nd rfl (Or.inl rfl)) (pgs_cons (pg_name (i:=5) sc_law.nd rfl (Or.inl rfl)) (pgs_cons (pg_name (i:=6) sc_law.nd rfl (Or.inl rfl)) pgs_nil))))))
    (pss_cons (ps_for PassesOwn.never rfl (pi_range1 rfl m_range (pa_cons (pe_callB call_len rfl m_len PySem.boot_len (pa_cons (pv 4) pa_nil)) pa_nil)) (pg_name (i:=7) sc_law.nd rfl (Or.inl rfl)) (pss_cons (ps_set (i:=8) sc_law.nd rfl (Or.inl rfl) (pe_slice sl_list (pv 5) po_none (po_some (pv 7))))
    (pss_cons (ps_set (i:=9) sc_law.nd rfl (Or.inl rfl) (pe_fn G_gone hr rfl (pa_cons (pv 3) (pa_cons (pv 8) pa_nil))))
    (pss_cons (ps_if (PW.pt (pw_or (pt_not (pt_val (pe_fn G_lsame hr rfl (pa_cons (pv 9) (pa_cons (pe_tup (pa_cons pe_str (pa_cons (pe_slice sl_list (pv 4) po_none (po_some (pe_op op_add (pv 7) pe_int))) pa_nil))) pa_nil))))) (pw_or1 (pt_not (pt_val (pe_fn G_lsame hr rfl (pa_cons (pv 8) (pa_cons (pe_slice sl_list (pv 5) po_none (po_some (pv 7))) pa_nil)))))))) (pss_one (ps_ret pe_bl)) pss_nil)
    (pss_one (ps_expr (pe_bm PySem.F.plainAttrs_list PySem.F.slot_list_append PySem.F.type_list_append mt_append (pe_ix ix_tup (pv 9) pe_int (fun _ _=>rfl)) (pa_cons pe_str pa_nil))))))))
    (pss_one (ps_for PassesOwn.never rfl (pi_tup (pe_tup (pa_cons (pe_slice sl_list (pv 5) po_none (po_some (pe_callB call_len rfl m_len PySem.boot_len (pa_cons (pv 4) pa_nil)))) (pa_cons (pe_op op_cat (pv 5) (pe_lst (pa_cons (pe_fn G_loutcome hr rfl (pa_cons (pv 2) pa_nil)) pa_nil))) pa_nil)))) (pg_name (i:=10) sc_law.nd rfl (Or.inl rfl)) (pss_cons (ps_set (i:=9) sc_law.nd rfl (Or.inl rfl) (pe_fn G_gone hr rfl (pa_cons (pv 3) (pa_cons (pv 10) pa_nil))))
    (pss_cons (ps_if (PW.pt (pw_or (pt_not (pt_val (pe_callB call_isi rfl m_isi boot_isi (pa_cons (pv 9) (pa_cons (pe_ty rfl m_tuple boot_tupleT) pa_nil))))) (pw_or (pt_cmpR op_ne (pe_callB call_len rfl m_len PySem.boot_len (pa_cons (pv 9) pa_nil)) pe_int (nomark _)) (pw_or1 (pt_not (pt_val (pe_callB call_isi rfl m_isi boot_isi (pa_cons (pe_ix ix_tup (pv 9) pe_int (fun _ _=>rfl)) (pa_cons (pe_ty rfl m_tuple boot_tupleT) pa_nil))))))))) (pss_one (ps_ret pe_bl)) pss_nil)
    (pss_one (ps_if (PW.pt (pw_or (pt_not (pt_val (pe_fn G_lsame hr rfl (pa_cons (pe_slice sl_tup (pv 9) po_none (po_some pe_int)) (pa_cons (pe_tup (pa_cons pe_str (pa_cons (pv 4) pa_nil))) pa_nil))))) (pw_or (pt_cmpR op_ne (pe_callB call_len rfl m_len PySem.boot_len (pa_cons (pe_ix ix_tup (pv 9) pe_int (fun _ _=>rfl)) pa_nil)) pe_int (nomark _)) (pw_or1 (pt_not (pt_val (pe_fn G_lsame hr rfl (pa_cons (pe_ix ix_tup (pe_ix ix_tup (pv 9) pe_int (fun _ _=>rfl)) pe_int (fun _ _=>rfl)) (pa_cons (pv 6) pa_nil))))))))) (pss_one (ps_ret pe_bl)) pss_nil))))))))))
    (pss_one (ps_ret pe_bl))),?_⟩
  refine ⟨_,rfl,_,_,rfl,.inl ⟨_,hS,rfl⟩,_,_,rfl,rfl,_,_,rfl,_,_,rfl,_,rfl,?_,?_,for_range (fun i σ' H'=>∃ (o1 o2 o3 o4 o5 o6 o7 o8 o9 o10:Option V),σ' = [some (.ref a),o1,o2,o3,o4,o5,o6,o7,o8,o9,o10]∧Same H H')
    ⟨none,none,none,none,none,none,none,none,none,none,rfl,Same.refl H⟩ (fun i σ' H' hi h=>?_) (fun σ' H' h=>?_)⟩
  · rw [List.length_map]
    repeat' split
    all_goals omega
  · rw [List.length_map]
    repeat' split
    all_goals omega
  · obtain ⟨o1,o2,o3,o4,o5,o6,o7,o8,o9,o10,rfl,sm⟩:=h
    have hi63:i < 63:=by
      rw [List.length_map] at hi
      have:(if (if (ns.length:Int) - 1 < 8 then (ns.length:Int) - 1 else 8) > 4 then (if (ns.length:Int) - 1 < 8 then (ns.length:Int) - 1 else 8) else 4)≤8:=by
        repeat' split
        all_goals omega
      omega
    refine ⟨_,rfl,_,rfl,_,_,rfl,rfl,a,ns,_,rfl,sm.seq hS,by omega,fun x2 f2 m2 b hb=>?_⟩
    have hbox:IsBox (upd H' b (.lst [.int x2,.int f2,.int m2])) b:=⟨_,_,_,upd_same⟩
    have sb:Same H' (upd H' b (.lst [.int x2,.int f2,.int m2])):=Same.new hb
    generalize upd H' b (.lst [.int x2,.int f2,.int m2]) = H0 at hbox sb
    refine ⟨(by show 5≤sizeLine; decide),fun l hl=>?_⟩
    have st1:=Step.new (o:=.lst [.ref g__law_list,.ref g__law_each,.ref g__law_elses,.ref g__law_chain,.ref g__law_rounds]) hbox hl
    have nlb:l≠b:=ne_box hbox hl
    have el:upd H0 l (.lst [.ref g__law_list,.ref g__law_each,.ref g__law_elses,.ref g__law_chain,.ref g__law_rounds]) l = some (.lst [.ref g__law_list,.ref g__law_each,.ref g__law_elses,.ref g__law_chain,.ref g__law_rounds]):=upd_same
    generalize upd H0 l (.lst [.ref g__law_list,.ref g__law_each,.ref g__law_elses,.ref g__law_chain,.ref g__law_rounds]) = H1 at st1 el
    refine ⟨_,rfl,b,5,rfl,st1.box,by decide,by decide,fun m H2 m0 m1 st2=>?_⟩
    have el2:=st2.keep l _ nlb el
    obtain ⟨g,hat,hg⟩:∃ g:Addr,atI [V.ref g__law_list,V.ref g__law_each,V.ref g__law_elses,V.ref g__law_chain,V.ref g__law_rounds] m = some (.ref g)∧HaveF P w K mg base g k ["_law_box_here"] (spBuild K):=by
      have hm:m = 0∨m = 1∨m = 2∨m = 3∨m = 4:=by omega
      rcases hm with rfl | rfl | rfl | rfl | rfl
      · exact ⟨_,atI_nat (j:=0) rfl,fd1,F1,b1,k1⟩
      · exact ⟨_,atI_nat (j:=1) rfl,fd2,F2,b2,k2⟩
      · exact ⟨_,atI_nat (j:=2) rfl,fd3,F3,b3,k3⟩
      · exact ⟨_,atI_nat (j:=3) rfl,fd4,F4,b4,k4⟩
      · exact ⟨_,atI_nat (j:=4) rfl,fd5,F5,b5,k5⟩
    have stA:=st1.trans st2
    refine ⟨l,_,m,_,rfl,rfl,SqL.of el2,hat,g,_,_,rfl,hg,_,rfl,b,rfl,stA.box,fun p lN lF u dv vf X names founds due H3 ep rX eN eF hw hok hfl hnm rD bh nNb nFb st3=>?_⟩
    refine ⟨p,_,rfl,SqT.of ep,rfl,_,_,rfl,_,_,rfl,_,_,rfl,_,_,rfl,rfl,?_⟩
    have stB:=stA.trans st3
    have hvl:vf.length = founds.length:=by rw [hw.len,List.length_map]
    have hle:=bh.le
    have hnl:(names.map V.str).length = names.length:=List.length_map _
    dsimp only [gName]
    refine seqI (fun σ' H''=>∃ o7 o8 o9:Option V,σ' = [some (.ref a),some (.int (0 + (i:Int))),some (.ref b),some u,some (.ref lN),some (.ref lF),some dv,o7,o8,o9,o10]∧Same H3 H'') (fun σ' H4 h4=>?_) (fun tl=>?_)
    rotate_left
    · refine ⟨_,rfl,_,_,rfl,.inl ⟨_,SqL.of eN,rfl⟩,_,rfl,by omega,by omega,for_range (fun j σ' H''=>∃ o7 o8 o9:Option V,σ' = [some (.ref a),some (.int (0 + (i:Int))),some (.ref b),some u,some (.ref lN),some (.ref lF),some dv,o7,o8,o9,o10]∧Same H3 H'') ⟨_,_,_,rfl,Same.refl _⟩ (fun j σ' H' hj h=>?_) (fun σ' H' h=>tl _ _ h)⟩
      obtain ⟨o7,o8,o9,rfl,s4⟩:=h
      have hjn:j < names.length:=by omega
      refine ⟨_,rfl,_,rfl,_,rfl,lF,vf,rfl,SqL.of (s4 _ _ eF),fun d hd=>?_⟩
      have t1:=Same.new (o:=.lst (cutV vf none (some (0 + (j:Int))))) hd
      have ed:upd H' d (.lst (cutV vf none (some (0 + (j:Int))))) d = some (.lst (vf.take j)):=by rw [upd_same,cut_to (by omega)]
      have s5:=s4.trans t1
      generalize upd H' d (.lst (cutV vf none (some (0 + (j:Int))))) = H5 at t1 ed s5
      have hwj:RWs H5 (vf.take j) ((founds.take j).map Res.toW):=by
        rw [List.map_take]
        exact (hw.mono (same_tups s5)).take j
      have hokj:∀ r∈founds.take j,OutOk r:=fun r hr=>hok r (List.mem_of_mem_take hr)
      obtain ⟨hl1,hl2⟩:=RWs.res (K:=K) hwj hokj
      obtain ⟨hst,hns⟩:=bh.stop j hjn
      refine ⟨_,rfl,_,rfl,u,d,vf.take j,founds.take j,X,rfl,rX.mono (same_tups s5),SqL.of ed,hl1,by rw [List.length_take]; omega,hl2,Nat.le_trans bh.high (by decide),bh.fine _ hokj,fun _ a8 l8 H6 s6 hl8 ea8 el8=>?_,fun hne=>absurd hst hne⟩
      rw [hns] at el8
      have s36:=s5.trans s6
      have hl80:H3 l8 = none:=s5.free hl8
      refine ⟨_,rfl,_,rfl,_,rfl,_,_,rfl,rfl,_,rfl,lN,_,rfl,SqL.of (s36 _ _ eN),fun d2 hd2=>⟨(by show 2≤sizeLine; decide),fun t ht=>?_⟩⟩
      have t2:=Same.new (o:=.lst (cutV (names.map V.str) none (some (0 + (j:Int) + 1)))) hd2
      have ed2:upd H6 d2 (.lst (cutV (names.map V.str) none (some (0 + (j:Int) + 1)))) d2 = some (.lst ((names.take (j + 1)).map V.str)):=by
        rw [upd_same,cut_take (by omega),List.map_take]
      have t3:=Same.new (o:=.tup [.str "look",.ref d2]) ht
      have et:upd (upd H6 d2 (.lst (cutV (names.map V.str) none (some (0 + (j:Int) + 1))))) t (.tup [.str "look",.ref d2]) t = some (.tup [.str "look",.ref d2]):=upd_same
      have ed2:=t3 _ _ ed2
      have t23:=t2.trans t3
      generalize upd (upd H6 d2 (.lst (cutV (names.map V.str) none (some (0 + (j:Int) + 1))))) t (.tup [.str "look",.ref d2]) = H7 at et ed2 t23
      obtain ⟨no1,no2⟩:=names_ok (ns:=names.take (j + 1)) fun s hs=>hnm s (List.mem_of_mem_take hs)
      refine .inr (.inr (.inr ⟨a8,t,l8,d2,"look",_,_,(names.take (j + 1)).map W.txt,rfl,t23 _ _ ea8,et,t23 _ _ el8,ed2,RWs.strs _,RWs.strs _,no1,by omega,by rw [List.length_map,List.length_take]; omega,th_look,fun H8 s8=>⟨_,rfl,iteF ?_⟩⟩))
      have s58:=s6.trans (t23.trans s8)
      refine ⟨_,rfl,_,rfl,_,rfl,_,rfl,lF,vf,rfl,SqL.of (s58 _ _ (s5 _ _ eF)),fun d3 hd3=>?_⟩
      have t4:=Same.new (o:=.lst (cutV vf none (some (0 + (j:Int))))) hd3
      have ed3:upd H8 d3 (.lst (cutV vf none (some (0 + (j:Int))))) d3 = some (.lst (vf.take j)):=by rw [upd_same,cut_to (by omega)]
      have s59:=s58.trans t4
      have el9:=(t23.trans (s8.trans t4)) _ _ el8
      have ea9:=(t23.trans (s8.trans t4)) _ _ ea8
      generalize upd H8 d3 (.lst (cutV vf none (some (0 + (j:Int))))) = H9 at ed3 s59 el9 ea9
      obtain ⟨oo1,oo2⟩:=outs_ok hokj
      refine .inr (.inl ⟨d,d3,_,_,(founds.take j).map Res.toW,rfl,s59 _ _ ed,ed3,hwj.mono (same_tups s59),hwj.mono (same_tups s59),oo1,by omega,by rw [List.length_map,List.length_take]; omega,fun H10 s10=>⟨_,rfl,iteF ?_⟩⟩)
      refine ⟨_,rfl,a8,_,1,_,rfl,rfl,SqT.of (s10 _ _ ea9),atI_nat (j:=1) rfl,.inl ⟨rfl,_,SqL.of (s10 _ _ el9)⟩,l8,_,_,rfl,rfl,s10 _ _ el9,small1000 (by rw [List.length_map,List.length_take]; omega),?_⟩
      refine ⟨_,_,_,rfl,fun c o ec=>?_⟩
      rw [upd_ne (ne_of_none ec hl80)]
      exact (s5.trans (s59.trans s10)) _ _ ec
    obtain ⟨o7,o8,o9,rfl,s4⟩:=h4
    have stC:=stB.trans (Step.ofSame stB.box s4)
    have eN4:=s4 _ _ eN
    have eF4:=s4 _ _ eF
    have hw4:=hw.mono (same_tups s4)
    have rX4:=rX.mono (same_tups s4)
    have rD4:=rD.mono (same_tups s4)
    refine ⟨_,rfl,_,rfl,_,_,rfl,.inl ⟨_,SqL.of eN4,rfl⟩,_,rfl,lF,vf,rfl,SqL.of eF4,fun d hd=>?_⟩
    have t1:=Same.new (o:=.lst (cutV vf none (some ((names.map V.str).length:Int)))) hd
    have ed:upd H4 d (.lst (cutV vf none (some ((names.map V.str).length:Int)))) d = some (.lst (vf.take names.length)):=by
      have:=cut_to (vs:=vf) (i:=names.length) (by omega)
      rw [Int.zero_add] at this
      rw [upd_same,hnl,this]
    have ndb:d≠b:=ne_box stC.box hd
    have st5:=Step.ofSame stC.box t1
    generalize upd H4 d (.lst (cutV vf none (some ((names.map V.str).length:Int)))) = H5 at ed st5
    refine ⟨_,rfl,_,rfl,b,rfl,st5.box,fun v x H6 rx okx st6=>⟨(by show 1≤sizeLine; decide),fun dl hdl=>?_⟩⟩
    have t2:=Same.new (o:=.lst [v]) hdl
    have stD:=(st5.trans st6).trans (Step.ofSame st6.box t2)
    have edl:upd H6 dl (.lst [v]) dl = some (.lst [v]):=upd_same
    have ed6:=t2 _ _ (st6.keep _ _ ndb ed)
    have rx6:=rx.mono (same_tups t2)
    generalize upd H6 dl (.lst [v]) = H7 at stD edl ed6 rx6
    have eF7:=stD.keep _ _ nFb eF4
    refine ⟨lF,dl,vf,[v],rfl,rfl,eF7,edl,Nat.le_of_lt (small1000 (by simp; omega)),fun d2 hd2=>⟨(by show 2≤sizeLine; decide),fun t ht=>?_⟩⟩
    have t3:=Same.new (o:=.lst (vf ++ [v])) hd2
    have t4:=Same.new (o:=.tup [.ref d,.ref d2]) ht
    have t34:=t3.trans t4
    have ed2:=t4 _ _ (show upd H7 d2 (.lst (vf ++ [v])) d2 = _ from upd_same)
    have et:upd (upd H7 d2 (.lst (vf ++ [v]))) t (.tup [.ref d,.ref d2]) t = some (.tup [.ref d,.ref d2]):=upd_same
    have ed8:=t34 _ _ ed6
    have rx8:=rx6.mono (same_tups t34)
    have stE:=stD.trans (Step.ofSame stD.box t34)
    generalize upd (upd H7 d2 (.lst (vf ++ [v]))) t (.tup [.ref d,.ref d2]) = H8 at ed2 et ed8 rx8 stE
    have tp8:=stE.tups stC.box
    have eN8:=stE.keep _ _ nNb eN4
    have hw8:=hw4.mono tp8
    have rX8:=rX4.mono tp8
    have rD8:=rD4.mono tp8
    have stF:=stC.trans stE
    have sF:Same H H8:=fun c o e=>stF.keep c o (ne_of_none (sm c o e) hb) (sb _ _ (sm c o e))
    refine ⟨t,rfl,⟨_,SqT.of et⟩,for_tup (K:=K) (xs:=[.ref d,.ref d2]) (fun j σ' H''=>∃ o9 o10:Option V,σ' = [some (.ref a),some (.int (0 + (i:Int))),some (.ref b),some u,some (.ref lN),some (.ref lF),some dv,o7,o8,o9,o10]∧Same H8 H'') ⟨_,_,rfl,Same.refl _⟩ (fun j σ' H' _ h=>?_) (fun j xv σ' H' hx h=>?_) (fun σ' H' h=>?_)⟩
    · obtain ⟨_,_,_,s9⟩:=h
      exact SqT.of (s9 _ _ et)
    · obtain ⟨o9,o10,rfl,s9⟩:=h
      obtain ⟨e,us,fs,rfl,ee,hwe,hoke,hpre,hfe⟩:∃ (e:Addr) (us:List V) (fs:List Res),xv = .ref e∧H8 e = some (.lst us)∧RWs H8 us (fs.map Res.toW)∧(∀ r∈fs,OutOk r)∧founds.take names.length <+: fs∧fs.length≤21:=by
        match j,hx with
        | 0,hx=>
          obtain rfl:=Option.some.inj hx
          exact ⟨d,_,founds.take names.length,rfl,ed8,by rw [List.map_take]; exact hw8.take _,fun r hr=>hok r (List.mem_of_mem_take hr),List.prefix_refl _,by rw [List.length_take]; omega⟩
        | 1,hx=>
          obtain rfl:=Option.some.inj hx
          refine ⟨d2,_,founds ++ [x],rfl,ed2,by rw [List.map_append]; exact hw8.snoc rx8,fun r hr=>?_,(List.take_prefix _ _).trans (List.prefix_append _ _),by rw [List.length_append,List.length_singleton]; omega⟩
          rcases List.mem_append.mp hr with hr | hr
          · exact hok r hr
          · rw [List.mem_singleton.mp hr]; exact okx
        | _ + 2,hx=>cases hx
      obtain ⟨hl1,hl2⟩:=RWs.res (K:=K) (hwe.mono (same_tups s9)) hoke
      obtain ⟨hdue,hns⟩:=bh.done fs hpre
      refine ⟨_,rfl,_,rfl,u,e,us,fs,X,rfl,(rX8.mono (same_tups s9)),SqL.of (s9 _ _ ee),hl1,by omega,hl2,Nat.le_trans bh.high (by decide),bh.fine _ hoke,fun hst=>absurd (hdue.symm.trans hst) bh.ne,fun _ a8 l8 rv8 H10 s10 hl8 ea8 el8 rr8=>?_⟩
      rw [hns] at el8
      have s810:=s9.trans s10
      obtain ⟨ra,rb,rv0,rfl,era,rres⟩:=rr8.res
      rw [hdue] at rres
      refine ⟨_,rfl,_,_,_,_,rfl,.tup ea8,isi_tt,_,rfl,iteF ?_⟩
      refine ⟨_,rfl,_,3,rfl,.inr ⟨_,SqT.of ea8,rfl⟩,rfl,_,rfl,iteF ?_⟩
      refine ⟨_,rfl,a8,_,2,_,rfl,rfl,SqT.of ea8,atI_nat (j:=2) rfl,_,_,_,_,rfl,.tup era,isi_tt,_,rfl,iteF ?_⟩
      refine ⟨_,rfl,_,rfl,a8,_,rfl,SqT.of ea8,(by show ¬ (HT.sIx 3 0 none = 0∧HT.sIx 3 3 (some 2) = 3); decide),fun c hc=>?_⟩
      have t5:=Same.new (o:=.tup (cutV [.str "ended",.ref l8,.ref ra] none (some 2))) hc
      have ec:upd H10 c (.tup (cutV [.str "ended",.ref l8,.ref ra] none (some 2))) c = some (.tup [.str "ended",.ref l8]):=by rw [upd_same,cut_two]
      generalize upd H10 c (.tup (cutV [.str "ended",.ref l8,.ref ra] none (some 2))) = H11 at t5 ec
      refine ⟨_,rfl,(by show 2≤sizeLine; decide),fun c2 hc2=>?_⟩
      have t6:=Same.new (o:=.tup [.str "ended",.ref lN]) hc2
      have t56:=t5.trans t6
      obtain ⟨no1,no2⟩:=names_ok hnm
      refine .inr (.inr (.inr ⟨c,c2,l8,lN,"ended",_,_,names.map W.txt,rfl,t6 _ _ ec,upd_same,t56 _ _ el8,(s810.trans t56) _ _ eN8,RWs.strs _,RWs.strs _,no1,by omega,by rw [List.length_map]; omega,th_ended,fun H12 s12=>⟨_,rfl,iteF ?_⟩⟩))
      have s1012:=t56.trans s12
      have ea12:=s1012 _ _ ea8
      have era12:=s1012 _ _ era
      refine ⟨_,rfl,a8,_,2,_,rfl,rfl,SqT.of ea12,atI_nat (j:=2) rfl,_,2,rfl,.inr ⟨_,SqT.of era12,rfl⟩,rfl,_,rfl,iteF ?_⟩
      refine ⟨_,rfl,a8,_,2,_,rfl,rfl,SqT.of ea12,atI_nat (j:=2) rfl,ra,_,0,_,rfl,rfl,SqT.of era12,atI_nat (j:=0) rfl,_,rfl,?_⟩
      have hdp:=bh.dp
      refine .inl ⟨rv0,dv,due.toW,due.toW,rfl,(rres.mono s1012).rs bh.ne,(rD8.mono (same_tups (s810.trans s1012))).toRS,bh.th,bh.th,by omega,fun H13 s13=>?_⟩
      rw [eqW_refl]
      exact ⟨_,rfl,iteF ⟨_,_,rfl,s810.trans (s1012.trans s13)⟩⟩
    · obtain ⟨o9,o10,rfl,s9⟩:=h
      exact ⟨_,_,_,_,_,_,_,_,_,_,rfl,sF.trans s9⟩
  · exact q _
end
end D
set_option Elab.async false
set_option linter.all false
set_option maxRecDepth 100000
set_option maxHeartbeats 4000000
def PySem.W.Fast.tw163370953652187483:Unit:=()
def PySem.W.Fast.tw16931493855189182542:Unit:=()
def PySem.W.Fast.tw16256827975335557171:Unit:=()
def PySem.W.Fast.tw15478455061923577152:Unit:=()
def PySem.W.Fast.tw713558695789530980:Unit:=()
def PySem.W.Fast.tw1451130965750968768:Unit:=()
def PySem.W.Fast.tw6367550045968207347:Unit:=()
def PySem.W.Fast.tw9938858177968121508:Unit:=()
def PySem.W.Fast.tw16626774223565154647:Unit:=()
def PySem.W.Fast.tw17502636711153460494:Unit:=()
def PySem.W.Fast.tw13716686218863980410:Unit:=()
def PySem.W.Fast.tw13384470508694863727:Unit:=()
def PySem.W.Fast.tw14319960519460874481:Unit:=()
def PySem.W.Fast.tw5204595477142763523:Unit:=()
def PySem.W.Fast.tw18038924612464826977:Unit:=()
def PySem.W.Fast.tw14686371905621006991:Unit:=()
def PySem.W.Fast.tw8096681425606984651:Unit:=()
def PySem.W.Fast.tw644727211493797098:Unit:=()
def PySem.W.Fast.tw10870444828956984627:Unit:=()
def PySem.W.Fast.tw16335136514116789350:Unit:=()
def PySem.W.Fast.tw4904055729812878799:Unit:=()
def PySem.W.Fast.tw12281857379877521453:Unit:=()
def PySem.W.Fast.tw544759481795345519:Unit:=()
def PySem.W.Fast.tw16774410725486601376:Unit:=()
def PySem.W.Fast.tw560826944517622767:Unit:=()
def PySem.W.Fast.tw13046715090034103429:Unit:=()
def PySem.W.Fast.tw15460410909461952126:Unit:=()
def PySem.W.Fast.tw3474406605805640323:Unit:=()
def PySem.W.Fast.tw12320876066788222944:Unit:=()
def PySem.W.Fast.tw3456677666419333164:Unit:=()
namespace D
open PySem L2
theorem none_ok {P:Program}{w:World}{K:PySem.W.Frag}{mg:Str→Option Value}{base:Heap}{f:Addr}{fd:FuncData}{ps:List Str}{sp:Sp} (no:∀ vs H Q E,¬ sp vs H Q E) (k:Nat):FnOk P w K mg base CX0 k f fd ps sp:=
  ⟨fun vs H Q E h=>absurd h (no vs H Q E),fun A outer s H args us vs Q E _ _ _ _ h=>absurd h (no vs H Q E)⟩
theorem high_pos (x:Ex):1≤x.high:=by cases x <;> simp only [Ex.high] <;> omega
theorem us_1 {us:List Value} (h:us.length = 1):∃ x0,us = [x0]:=by
  match us,h with
  | [x0],_=>exact ⟨x0,rfl⟩
theorem us_2 {us:List Value} (h:us.length = 2):∃ x0 x1,us = [x0,x1]:=by
  match us,h with
  | [x0,x1],_=>exact ⟨x0,x1,rfl⟩
theorem us_3 {us:List Value} (h:us.length = 3):∃ x0 x1 x2,us = [x0,x1,x2]:=by
  match us,h with
  | [x0,x1,x2],_=>exact ⟨x0,x1,x2,rfl⟩
theorem all_mk {l:PySem.W.OpenLaw}{w:World}{K:PySem.W.Frag}{h:Heap}{mg:Str→Option Value}{fa f0 f1 f2 f3 f4 f5 f6 f7 f8 f9 f10 f11 f12 f13 f14 f15 f16 f17 f18 f19 f20 f21 f22 f23 f24 f25 f26 f27 f28 f29 f30 f31 f32 f33 f34 f35 f36 f37 f38 f39 f40 f41 f42 f43 f44 f45 f46 f47 f48 f49 f50 f51 f52 f53 f54 f55 f56 f57:Addr} (X:K.In h) (G:h.Ns mainGlobals mg) (hfa:mg "law" = some (.ref fa))
    {od0 an0 od1 an1 od2 an2 od3 an3 od4 an4 od5 an5 od6 an6 od7 an7 od8 an8 od9 an9 od10 an10 od11 an11 od12 an12 od13 an13 od14 an14 od15 an15 od16 an16 od17 an17 od18 an18 od19 an19 od20 an20 od21 an21 od22 an22 od23 an23 od24 an24 od25 an25 od26 an26 od27 an27 od28 an28 od29 an29 od30 an30 od31 an31 od32 an32 od33 an33 od34 an34 od35 an35 od36 an36 od37 an37 od38 an38 od39 an39 od40 an40 od41 an41 od42 an42 od43 an43 od44 an44 od45 an45 od46 an46 od47 an47 od48 an48 od49 an49 od50 an50 od51 an51 od52 an52 od53 an53 od54 an54 od55 an55 od56 an56 od57 an57:Option Addr}{sl0 sl1 sl2 sl3 sl4 sl5 sl6 sl7 sl8 sl9 sl10 sl11 sl12 sl13 sl14 sl15 sl16 sl17 sl18 sl19 sl20 sl21 sl22 sl23 sl24 sl25 sl26 sl27 sl28 sl29 sl30 sl31 sl32 sl33 sl34 sl35 sl36 sl37 sl38 sl39 sl40 sl41 sl42 sl43 sl44 sl45 sl46 sl47 sl48 sl49 sl50 sl51 sl52 sl53 sl54 sl55 sl56 sl57:Array (Option Value)}{oc0 kV0 dc0 pm0 cd0 ct0 oc1 kV1 dc1 pm1 cd1 ct1 oc2 kV2 dc2 pm2 cd2 ct2 oc3 kV3 dc3 pm3 cd3 ct3 oc4 kV4 dc4 pm4 cd4 ct4 oc5 kV5 dc5 pm5 cd5 ct5 oc6 kV6 dc6 pm6 cd6 ct6 oc7 kV7 dc7 pm7 cd7 ct7 oc8 kV8 dc8 pm8 cd8 ct8 oc9 kV9 dc9 pm9 cd9 ct9 oc10 kV10 dc10 pm10 cd10 ct10 oc11 kV11 dc11 pm11 cd11 ct11 oc12 kV12 dc12 pm12 cd12 ct12 oc13 kV13 dc13 pm13 cd13 ct13 oc14 kV14 dc14 pm14 cd14 ct14 oc15 kV15 dc15 pm15 cd15 ct15 oc16 kV16 dc16 pm16 cd16 ct16 oc17 kV17 dc17 pm17 cd17 ct17 oc18 kV18 dc18 pm18 cd18 ct18 oc19 kV19 dc19 pm19 cd19 ct19 oc20 kV20 dc20 pm20 cd20 ct20 oc21 kV21 dc21 pm21 cd21 ct21 oc22 kV22 dc22 pm22 cd22 ct22 oc23 kV23 dc23 pm23 cd23 ct23 oc24 kV24 dc24 pm24 cd24 ct24 oc25 kV25 dc25 pm25 cd25 ct25 oc26 kV26 dc26 pm26 cd26 ct26 oc27 kV27 dc27 pm27 cd27 ct27 oc28 kV28 dc28 pm28 cd28 ct28 oc29 kV29 dc29 pm29 cd29 ct29 oc30 kV30 dc30 pm30 cd30 ct30 oc31 kV31 dc31 pm31 cd31 ct31 oc32 kV32 dc32 pm32 cd32 ct32 oc33 kV33 dc33 pm33 cd33 ct33 oc34 kV34 dc34 pm34 cd34 ct34 oc35 kV35 dc35 pm35 cd35 ct35 oc36 kV36 dc36 pm36 cd36 ct36 oc37 kV37 dc37 pm37 cd37 ct37 oc38 kV38 dc38 pm38 cd38 ct38 oc39 kV39 dc39 pm39 cd39 ct39 oc40 kV40 dc40 pm40 cd40 ct40 oc41 kV41 dc41 pm41 cd41 ct41 oc42 kV42 dc42 pm42 cd42 ct42 oc43 kV43 dc43 pm43 cd43 ct43 oc44 kV44 dc44 pm44 cd44 ct44 oc45 kV45 dc45 pm45 cd45 ct45 oc46 kV46 dc46 pm46 cd46 ct46 oc47 kV47 dc47 pm47 cd47 ct47 oc48 kV48 dc48 pm48 cd48 ct48 oc49 kV49 dc49 pm49 cd49 ct49 oc50 kV50 dc50 pm50 cd50 ct50 oc51 kV51 dc51 pm51 cd51 ct51 oc52 kV52 dc52 pm52 cd52 ct52 oc53 kV53 dc53 pm53 cd53 ct53 oc54 kV54 dc54 pm54 cd54 ct54 oc55 kV55 dc55 pm55 cd55 ct55 oc56 kV56 dc56 pm56 cd56 ct56 oc57 kV57 dc57 pm57 cd57 ct57:Value}
    {ARun:Addr} (aC_Run:PySem.W.nsIn K mainGlobals "Run" = some (some (.ref ARun))) (pg_Run:PySem.W.plainGet K ARun Str.empty = true) (hd_Run:PySem.W.hasDictIn K ARun = true) (po_Run:PySem.W.plainOver K ARun = true) (sa_Run:PySem.W.findIn K (.ref ARun) "__setattr__" = some (some (.builtin "object.__setattr__"))) (mk_Run:PySem.W.makesIn K ARun = true) (kc_Run:PySem.W.keepIn K (.ref ARun) = true) (nf_Run_founds:PySem.W.findIn K (.ref ARun) "founds" = some none) (nf_Run_names:PySem.W.findIn K (.ref ARun) "names" = some none)
    (a0:PySem.W.nsIn K mainGlobals "is_number" = some (some (.ref f0))) (l0:K.lookup f0 = some ⟨oc0,od0,.func (PySem.W.fnOf "is_number" "is_number" (defArgs s_is_number) (defBody s_is_number) (defScope s_is_number) .none kV0 dc0 pm0 an0 cd0 ct0),sl0⟩) (c0:PySem.W.codeIn K cd0 "is_number" = true) (k0:PySem.W.keepIn K (.ref f0) = true)
    (a1:PySem.W.nsIn K mainGlobals "is_sign" = some (some (.ref f1))) (l1:K.lookup f1 = some ⟨oc1,od1,.func (PySem.W.fnOf "is_sign" "is_sign" (defArgs s_is_sign) (defBody s_is_sign) (defScope s_is_sign) .none kV1 dc1 pm1 an1 cd1 ct1),sl1⟩) (c1:PySem.W.codeIn K cd1 "is_sign" = true) (k1:PySem.W.keepIn K (.ref f1) = true)
    (a2:PySem.W.nsIn K mainGlobals "fits_alone" = some (some (.ref f2))) (l2:K.lookup f2 = some ⟨oc2,od2,.func (PySem.W.fnOf "fits_alone" "fits_alone" (defArgs s_fits_alone) (defBody s_fits_alone) (defScope s_fits_alone) .none kV2 dc2 pm2 an2 cd2 ct2),sl2⟩) (c2:PySem.W.codeIn K cd2 "fits_alone" = true) (k2:PySem.W.keepIn K (.ref f2) = true)
    (a3:PySem.W.nsIn K mainGlobals "size_alone" = some (some (.ref f3))) (l3:K.lookup f3 = some ⟨oc3,od3,.func (PySem.W.fnOf "size_alone" "size_alone" (defArgs sSizeA) (defBody sSizeA) (defScope sSizeA) .none kV3 dc3 pm3 an3 cd3 ct3),sl3⟩) (c3:PySem.W.codeIn K cd3 "size_alone" = true) (k3:PySem.W.keepIn K (.ref f3) = true)
    (a4:PySem.W.nsIn K mainGlobals "is_worth" = some (some (.ref f4))) (l4:K.lookup f4 = some ⟨oc4,od4,.func (PySem.W.fnOf "is_worth" "is_worth" (defArgs s_is_worth) (defBody s_is_worth) (defScope s_is_worth) .none kV4 dc4 pm4 an4 cd4 ct4),sl4⟩) (c4:PySem.W.codeIn K cd4 "is_worth" = true) (k4:PySem.W.keepIn K (.ref f4) = true)
    (a5:PySem.W.nsIn K mainGlobals "same" = some (some (.ref f5))) (l5:K.lookup f5 = some ⟨oc5,od5,.func (PySem.W.fnOf "same" "same" (defArgs s_same) (defBody s_same) (defScope s_same) .none kV5 dc5 pm5 an5 cd5 ct5),sl5⟩) (c5:PySem.W.codeIn K cd5 "same" = true) (k5:PySem.W.keepIn K (.ref f5) = true)
    (a6:PySem.W.nsIn K mainGlobals "made" = some (some (.ref f6))) (l6:K.lookup f6 = some ⟨oc6,od6,.func (PySem.W.fnOf "made" "made" (defArgs s_made) (defBody s_made) (defScope s_made) .none kV6 dc6 pm6 an6 cd6 ct6),sl6⟩) (c6:PySem.W.codeIn K cd6 "made" = true) (k6:PySem.W.keepIn K (.ref f6) = true)
    (a7:PySem.W.nsIn K mainGlobals "truth" = some (some (.ref f7))) (l7:K.lookup f7 = some ⟨oc7,od7,.func (PySem.W.fnOf "truth" "truth" (defArgs s_truth) (defBody s_truth) (defScope s_truth) .none kV7 dc7 pm7 an7 cd7 ct7),sl7⟩) (c7:PySem.W.codeIn K cd7 "truth" = true) (k7:PySem.W.keepIn K (.ref f7) = true)
    (a8:PySem.W.nsIn K mainGlobals "summed" = some (some (.ref f8))) (l8:K.lookup f8 = some ⟨oc8,od8,.func (PySem.W.fnOf "summed" "summed" (defArgs s_summed) (defBody s_summed) (defScope s_summed) .none kV8 dc8 pm8 an8 cd8 ct8),sl8⟩) (c8:PySem.W.codeIn K cd8 "summed" = true) (k8:PySem.W.keepIn K (.ref f8) = true)
    (a9:PySem.W.nsIn K mainGlobals "differing" = some (some (.ref f9))) (l9:K.lookup f9 = some ⟨oc9,od9,.func (PySem.W.fnOf "differing" "differing" (defArgs s_differing) (defBody s_differing) (defScope s_differing) .none kV9 dc9 pm9 an9 cd9 ct9),sl9⟩) (c9:PySem.W.codeIn K cd9 "differing" = true) (k9:PySem.W.keepIn K (.ref f9) = true)
    (a10:PySem.W.nsIn K mainGlobals "multiplied" = some (some (.ref f10))) (l10:K.lookup f10 = some ⟨oc10,od10,.func (PySem.W.fnOf "multiplied" "multiplied" (defArgs s_multiplied) (defBody s_multiplied) (defScope s_multiplied) .none kV10 dc10 pm10 an10 cd10 ct10),sl10⟩) (c10:PySem.W.codeIn K cd10 "multiplied" = true) (k10:PySem.W.keepIn K (.ref f10) = true)
    (a11:PySem.W.nsIn K mainGlobals "divided" = some (some (.ref f11))) (l11:K.lookup f11 = some ⟨oc11,od11,.func (PySem.W.fnOf "divided" "divided" (defArgs s_divided) (defBody s_divided) (defScope s_divided) .none kV11 dc11 pm11 an11 cd11 ct11),sl11⟩) (c11:PySem.W.codeIn K cd11 "divided" = true) (k11:PySem.W.keepIn K (.ref f11) = true)
    (a12:PySem.W.nsIn K mainGlobals "lessened" = some (some (.ref f12))) (l12:K.lookup f12 = some ⟨oc12,od12,.func (PySem.W.fnOf "lessened" "lessened" (defArgs s_lessened) (defBody s_lessened) (defScope s_lessened) .none kV12 dc12 pm12 an12 cd12 ct12),sl12⟩) (c12:PySem.W.codeIn K cd12 "lessened" = true) (k12:PySem.W.keepIn K (.ref f12) = true)
    (a13:PySem.W.nsIn K mainGlobals "figured" = some (some (.ref f13))) (l13:K.lookup f13 = some ⟨oc13,od13,.func (PySem.W.fnOf "figured" "figured" (defArgs s_figured) (defBody s_figured) (defScope s_figured) .none kV13 dc13 pm13 an13 cd13 ct13),sl13⟩) (c13:PySem.W.codeIn K cd13 "figured" = true) (k13:PySem.W.keepIn K (.ref f13) = true)
    (a14:PySem.W.nsIn K mainGlobals "compared" = some (some (.ref f14))) (l14:K.lookup f14 = some ⟨oc14,od14,.func (PySem.W.fnOf "compared" "compared" (defArgs s_compared) (defBody s_compared) (defScope s_compared) .none kV14 dc14 pm14 an14 cd14 ct14),sl14⟩) (c14:PySem.W.codeIn K cd14 "compared" = true) (k14:PySem.W.keepIn K (.ref f14) = true)
    (a15:PySem.W.nsIn K mainGlobals "joined" = some (some (.ref f15))) (l15:K.lookup f15 = some ⟨oc15,od15,.func (PySem.W.fnOf "joined" "joined" (defArgs s_joined) (defBody s_joined) (defScope s_joined) .none kV15 dc15 pm15 an15 cd15 ct15),sl15⟩) (c15:PySem.W.codeIn K cd15 "joined" = true) (k15:PySem.W.keepIn K (.ref f15) = true)
    (a16:PySem.W.nsIn K mainGlobals "listed" = some (some (.ref f16))) (l16:K.lookup f16 = some ⟨oc16,od16,.func (PySem.W.fnOf "listed" "listed" (defArgs s_listed) (defBody s_listed) (defScope s_listed) .none kV16 dc16 pm16 an16 cd16 ct16),sl16⟩) (c16:PySem.W.codeIn K cd16 "listed" = true) (k16:PySem.W.keepIn K (.ref f16) = true)
    (a17:PySem.W.nsIn K mainGlobals "item_at" = some (some (.ref f17))) (l17:K.lookup f17 = some ⟨oc17,od17,.func (PySem.W.fnOf "item_at" "item_at" (defArgs s_item_at) (defBody s_item_at) (defScope s_item_at) .none kV17 dc17 pm17 an17 cd17 ct17),sl17⟩) (c17:PySem.W.codeIn K cd17 "item_at" = true) (k17:PySem.W.keepIn K (.ref f17) = true)
    (a18:PySem.W.nsIn K mainGlobals "counted" = some (some (.ref f18))) (l18:K.lookup f18 = some ⟨oc18,od18,.func (PySem.W.fnOf "counted" "counted" (defArgs s_counted) (defBody s_counted) (defScope s_counted) .none kV18 dc18 pm18 an18 cd18 ct18),sl18⟩) (c18:PySem.W.codeIn K cd18 "counted" = true) (k18:PySem.W.keepIn K (.ref f18) = true)
    (a19:PySem.W.nsIn K mainGlobals "reckoned" = some (some (.ref f19))) (l19:K.lookup f19 = some ⟨oc19,od19,.func (PySem.W.fnOf "reckoned" "reckoned" (defArgs s_reckoned) (defBody s_reckoned) (defScope s_reckoned) .none kV19 dc19 pm19 an19 cd19 ct19),sl19⟩) (c19:PySem.W.codeIn K cd19 "reckoned" = true) (k19:PySem.W.keepIn K (.ref f19) = true)
    (a20:PySem.W.nsIn K mainGlobals "has_parts" = some (some (.ref f20))) (l20:K.lookup f20 = some ⟨oc20,od20,.func (PySem.W.fnOf "has_parts" "has_parts" (defArgs s_has_parts) (defBody s_has_parts) (defScope s_has_parts) .none kV20 dc20 pm20 an20 cd20 ct20),sl20⟩) (c20:PySem.W.codeIn K cd20 "has_parts" = true) (k20:PySem.W.keepIn K (.ref f20) = true)
    (a21:PySem.W.nsIn K mainGlobals "binding_count" = some (some (.ref f21))) (l21:K.lookup f21 = some ⟨oc21,od21,.func (PySem.W.fnOf "binding_count" "binding_count" (defArgs s_binding_count) (defBody s_binding_count) (defScope s_binding_count) .none kV21 dc21 pm21 an21 cd21 ct21),sl21⟩) (c21:PySem.W.codeIn K cd21 "binding_count" = true) (k21:PySem.W.keepIn K (.ref f21) = true)
    (a22:PySem.W.nsIn K mainGlobals "parts_of" = some (some (.ref f22))) (l22:K.lookup f22 = some ⟨oc22,od22,.func (PySem.W.fnOf "parts_of" "parts_of" (defArgs s_parts_of) (defBody s_parts_of) (defScope s_parts_of) .none kV22 dc22 pm22 an22 cd22 ct22),sl22⟩) (c22:PySem.W.codeIn K cd22 "parts_of" = true) (k22:PySem.W.keepIn K (.ref f22) = true)
    (a23:PySem.W.findIn K (.ref ARun) "__init__" = some (some (.ref f23))) (q23:PySem.W.isFn K (.ref f23) = true) (l23:K.lookup f23 = some ⟨oc23,od23,.func (PySem.W.fnOf "__init__" "Run.__init__" (defArgs s_Run___init__) (defBody s_Run___init__) (defScope s_Run___init__) .none kV23 dc23 pm23 an23 cd23 ct23),sl23⟩) (c23:PySem.W.codeIn K cd23 "Run.__init__" = true) (k23:PySem.W.keepIn K (.ref f23) = true)
    (a24:PySem.W.findIn K (.ref ARun) "look" = some (some (.ref f24))) (q24:PySem.W.isFn K (.ref f24) = true) (l24:K.lookup f24 = some ⟨oc24,od24,.func (PySem.W.fnOf "look" "Run.look" (defArgs s_Run_look) (defBody s_Run_look) (defScope s_Run_look) .none kV24 dc24 pm24 an24 cd24 ct24),sl24⟩) (c24:PySem.W.codeIn K cd24 "Run.look" = true) (k24:PySem.W.keepIn K (.ref f24) = true)
    (a25:PySem.W.nsIn K mainGlobals "is_made" = some (some (.ref f25))) (l25:K.lookup f25 = some ⟨oc25,od25,.func (PySem.W.fnOf "is_made" "is_made" (defArgs s_is_made) (defBody s_is_made) (defScope s_is_made) .none kV25 dc25 pm25 an25 cd25 ct25),sl25⟩) (c25:PySem.W.codeIn K cd25 "is_made" = true) (k25:PySem.W.keepIn K (.ref f25) = true)
    (a26:PySem.W.nsIn K mainGlobals "worth_of" = some (some (.ref f26))) (l26:K.lookup f26 = some ⟨oc26,od26,.func (PySem.W.fnOf "worth_of" "worth_of" (defArgs s_worth_of) (defBody s_worth_of) (defScope s_worth_of) .none kV26 dc26 pm26 an26 cd26 ct26),sl26⟩) (c26:PySem.W.codeIn K cd26 "worth_of" = true) (k26:PySem.W.keepIn K (.ref f26) = true)
    (a27:PySem.W.nsIn K mainGlobals "as_last" = some (some (.ref f27))) (l27:K.lookup f27 = some ⟨oc27,od27,.func (PySem.W.fnOf "as_last" "as_last" (defArgs s_as_last) (defBody s_as_last) (defScope s_as_last) .none kV27 dc27 pm27 an27 cd27 ct27),sl27⟩) (c27:PySem.W.codeIn K cd27 "as_last" = true) (k27:PySem.W.keepIn K (.ref f27) = true)
    (a28:PySem.W.nsIn K mainGlobals "binding" = some (some (.ref f28))) (l28:K.lookup f28 = some ⟨oc28,od28,.func (PySem.W.fnOf "binding" "binding" (defArgs s_binding) (defBody s_binding) (defScope s_binding) .none kV28 dc28 pm28 an28 cd28 ct28),sl28⟩) (c28:PySem.W.codeIn K cd28 "binding" = true) (k28:PySem.W.keepIn K (.ref f28) = true)
    (a29:PySem.W.nsIn K mainGlobals "go_lit" = some (some (.ref f29))) (l29:K.lookup f29 = some ⟨oc29,od29,.func (PySem.W.fnOf "go_lit" "go_lit" (defArgs s_go_lit) (defBody s_go_lit) (defScope s_go_lit) .none kV29 dc29 pm29 an29 cd29 ct29),sl29⟩) (c29:PySem.W.codeIn K cd29 "go_lit" = true) (k29:PySem.W.keepIn K (.ref f29) = true)
    (a30:PySem.W.nsIn K mainGlobals "go_var" = some (some (.ref f30))) (l30:K.lookup f30 = some ⟨oc30,od30,.func (PySem.W.fnOf "go_var" "go_var" (defArgs s_go_var) (defBody s_go_var) (defScope s_go_var) .none kV30 dc30 pm30 an30 cd30 ct30),sl30⟩) (c30:PySem.W.codeIn K cd30 "go_var" = true) (k30:PySem.W.keepIn K (.ref f30) = true)
    (a31:PySem.W.nsIn K mainGlobals "go_let" = some (some (.ref f31))) (l31:K.lookup f31 = some ⟨oc31,od31,.func (PySem.W.fnOf "go_let" "go_let" (defArgs s_go_let) (defBody s_go_let) (defScope s_go_let) .none kV31 dc31 pm31 an31 cd31 ct31),sl31⟩) (c31:PySem.W.codeIn K cd31 "go_let" = true) (k31:PySem.W.keepIn K (.ref f31) = true)
    (a32:PySem.W.nsIn K mainGlobals "go_if" = some (some (.ref f32))) (l32:K.lookup f32 = some ⟨oc32,od32,.func (PySem.W.fnOf "go_if" "go_if" (defArgs s_go_if) (defBody s_go_if) (defScope s_go_if) .none kV32 dc32 pm32 an32 cd32 ct32),sl32⟩) (c32:PySem.W.codeIn K cd32 "go_if" = true) (k32:PySem.W.keepIn K (.ref f32) = true)
    (a33:PySem.W.nsIn K mainGlobals "ended_ahead" = some (some (.ref f33))) (l33:K.lookup f33 = some ⟨oc33,od33,.func (PySem.W.fnOf "ended_ahead" "ended_ahead" (defArgs s_ended_ahead) (defBody s_ended_ahead) (defScope s_ended_ahead) .none kV33 dc33 pm33 an33 cd33 ct33),sl33⟩) (c33:PySem.W.codeIn K cd33 "ended_ahead" = true) (k33:PySem.W.keepIn K (.ref f33) = true)
    (a34:PySem.W.nsIn K mainGlobals "go_each" = some (some (.ref f34))) (l34:K.lookup f34 = some ⟨oc34,od34,.func (PySem.W.fnOf "go_each" "go_each" (defArgs s_go_each) (defBody s_go_each) (defScope s_go_each) .none kV34 dc34 pm34 an34 cd34 ct34),sl34⟩) (c34:PySem.W.codeIn K cd34 "go_each" = true) (k34:PySem.W.keepIn K (.ref f34) = true)
    (a35:PySem.W.nsIn K mainGlobals "go_over" = some (some (.ref f35))) (l35:K.lookup f35 = some ⟨oc35,od35,.func (PySem.W.fnOf "go_over" "go_over" (defArgs s_go_over) (defBody s_go_over) (defScope s_go_over) .none kV35 dc35 pm35 an35 cd35 ct35),sl35⟩) (c35:PySem.W.codeIn K cd35 "go_over" = true) (k35:PySem.W.keepIn K (.ref f35) = true)
    (a36:PySem.W.nsIn K mainGlobals "go_look" = some (some (.ref f36))) (l36:K.lookup f36 = some ⟨oc36,od36,.func (PySem.W.fnOf "go_look" "go_look" (defArgs s_go_look) (defBody s_go_look) (defScope s_go_look) .none kV36 dc36 pm36 an36 cd36 ct36),sl36⟩) (c36:PySem.W.codeIn K cd36 "go_look" = true) (k36:PySem.W.keepIn K (.ref f36) = true)
    (a37:PySem.W.nsIn K mainGlobals "go_else" = some (some (.ref f37))) (l37:K.lookup f37 = some ⟨oc37,od37,.func (PySem.W.fnOf "go_else" "go_else" (defArgs s_go_else) (defBody s_go_else) (defScope s_go_else) .none kV37 dc37 pm37 an37 cd37 ct37),sl37⟩) (c37:PySem.W.codeIn K cd37 "go_else" = true) (k37:PySem.W.keepIn K (.ref f37) = true)
    (a38:PySem.W.nsIn K mainGlobals "go_cry" = some (some (.ref f38))) (l38:K.lookup f38 = some ⟨oc38,od38,.func (PySem.W.fnOf "go_cry" "go_cry" (defArgs s_go_cry) (defBody s_go_cry) (defScope s_go_cry) .none kV38 dc38 pm38 an38 cd38 ct38),sl38⟩) (c38:PySem.W.codeIn K cd38 "go_cry" = true) (k38:PySem.W.keepIn K (.ref f38) = true)
    (a39:PySem.W.nsIn K mainGlobals "go_through" = some (some (.ref f39))) (l39:K.lookup f39 = some ⟨oc39,od39,.func (PySem.W.fnOf "go_through" "go_through" (defArgs s_go_through) (defBody s_go_through) (defScope s_go_through) .none kV39 dc39 pm39 an39 cd39 ct39),sl39⟩) (c39:PySem.W.codeIn K cd39 "go_through" = true) (k39:PySem.W.keepIn K (.ref f39) = true)
    (a40:PySem.W.nsIn K mainGlobals "go_reckoned" = some (some (.ref f40))) (l40:K.lookup f40 = some ⟨oc40,od40,.func (PySem.W.fnOf "go_reckoned" "go_reckoned" (defArgs s_go_reckoned) (defBody s_go_reckoned) (defScope s_go_reckoned) .none kV40 dc40 pm40 an40 cd40 ct40),sl40⟩) (c40:PySem.W.codeIn K cd40 "go_reckoned" = true) (k40:PySem.W.keepIn K (.ref f40) = true)
    (a41:PySem.W.nsIn K mainGlobals "record_of" = some (some (.ref f41))) (l41:K.lookup f41 = some ⟨oc41,od41,.func (PySem.W.fnOf "record_of" "record_of" (defArgs s_record_of) (defBody s_record_of) (defScope s_record_of) .none kV41 dc41 pm41 an41 cd41 ct41),sl41⟩) (c41:PySem.W.codeIn K cd41 "record_of" = true) (k41:PySem.W.keepIn K (.ref f41) = true)
    (a42:PySem.W.nsIn K mainGlobals "gone" = some (some (.ref f42))) (l42:K.lookup f42 = some ⟨oc42,od42,.func (PySem.W.fnOf "gone" "gone" (defArgs s_gone) (defBody s_gone) (defScope s_gone) .none kV42 dc42 pm42 an42 cd42 ct42),sl42⟩) (c42:PySem.W.codeIn K cd42 "gone" = true) (k42:PySem.W.keepIn K (.ref f42) = true)
    (a43:PySem.W.nsIn K mainGlobals "_law_cell" = some (some (.ref f43))) (l43:K.lookup f43 = some ⟨oc43,od43,.func (PySem.W.fnOf "_law_cell" "_law_cell" (defArgs sCell) (defBody sCell) (defScope sCell) .none kV43 dc43 pm43 an43 cd43 ct43),sl43⟩) (c43:PySem.W.codeIn K cd43 "_law_cell" = true) (k43:PySem.W.keepIn K (.ref f43) = true)
    (a44:PySem.W.nsIn K mainGlobals "_law_box" = some (some (.ref f44))) (l44:K.lookup f44 = some ⟨oc44,od44,.func (PySem.W.fnOf "_law_box" "_law_box" (defArgs sBox) (defBody sBox) (defScope sBox) .none kV44 dc44 pm44 an44 cd44 ct44),sl44⟩) (c44:PySem.W.codeIn K cd44 "_law_box" = true) (k44:PySem.W.keepIn K (.ref f44) = true)
    (a45:PySem.W.nsIn K mainGlobals "_law_take" = some (some (.ref f45))) (l45:K.lookup f45 = some ⟨oc45,od45,.func (PySem.W.fnOf "_law_take" "_law_take" (defArgs sTake) (defBody sTake) (defScope sTake) .none kV45 dc45 pm45 an45 cd45 ct45),sl45⟩) (c45:PySem.W.codeIn K cd45 "_law_take" = true) (k45:PySem.W.keepIn K (.ref f45) = true)
    (a46:PySem.W.nsIn K mainGlobals "_law_text" = some (some (.ref f46))) (l46:K.lookup f46 = some ⟨oc46,od46,.func (PySem.W.fnOf "_law_text" "_law_text" (defArgs sText) (defBody sText) (defScope sText) .none kV46 dc46 pm46 an46 cd46 ct46),sl46⟩) (c46:PySem.W.codeIn K cd46 "_law_text" = true) (k46:PySem.W.keepIn K (.ref f46) = true)
    (a47:PySem.W.nsIn K mainGlobals "_law_number" = some (some (.ref f47))) (l47:K.lookup f47 = some ⟨oc47,od47,.func (PySem.W.fnOf "_law_number" "_law_number" (defArgs sNumber) (defBody sNumber) (defScope sNumber) .none kV47 dc47 pm47 an47 cd47 ct47),sl47⟩) (c47:PySem.W.codeIn K cd47 "_law_number" = true) (k47:PySem.W.keepIn K (.ref f47) = true)
    (a48:PySem.W.nsIn K mainGlobals "_law_worth" = some (some (.ref f48))) (l48:K.lookup f48 = some ⟨oc48,od48,.func (PySem.W.fnOf "_law_worth" "_law_worth" (defArgs sWorth) (defBody sWorth) (defScope sWorth) .none kV48 dc48 pm48 an48 cd48 ct48),sl48⟩) (c48:PySem.W.codeIn K cd48 "_law_worth" = true) (k48:PySem.W.keepIn K (.ref f48) = true)
    (a49:PySem.W.nsIn K mainGlobals "_law_same" = some (some (.ref f49))) (l49:K.lookup f49 = some ⟨oc49,od49,.func (PySem.W.fnOf "_law_same" "_law_same" (defArgs s_lsame) (defBody s_lsame) (defScope s_lsame) .none kV49 dc49 pm49 an49 cd49 ct49),sl49⟩) (c49:PySem.W.codeIn K cd49 "_law_same" = true) (k49:PySem.W.keepIn K (.ref f49) = true)
    (a50:PySem.W.nsIn K mainGlobals "_law_outcome" = some (some (.ref f50))) (l50:K.lookup f50 = some ⟨oc50,od50,.func (PySem.W.fnOf "_law_outcome" "_law_outcome" (defArgs s_loutcome) (defBody s_loutcome) (defScope s_loutcome) .none kV50 dc50 pm50 an50 cd50 ct50),sl50⟩) (c50:PySem.W.codeIn K cd50 "_law_outcome" = true) (k50:PySem.W.keepIn K (.ref f50) = true)
    (a51:PySem.W.nsIn K mainGlobals "_law_name" = some (some (.ref f51))) (l51:K.lookup f51 = some ⟨oc51,od51,.func (PySem.W.fnOf "_law_name" "_law_name" (defArgs s_lname) (defBody s_lname) (defScope s_lname) .none kV51 dc51 pm51 an51 cd51 ct51),sl51⟩) (c51:PySem.W.codeIn K cd51 "_law_name" = true) (k51:PySem.W.keepIn K (.ref f51) = true)
    (a52:PySem.W.nsIn K mainGlobals "_law_list" = some (some (.ref f52))) (l52:K.lookup f52 = some ⟨oc52,od52,.func (PySem.W.fnOf "_law_list" "_law_list" (defArgs s_llist) (defBody s_llist) (defScope s_llist) .none kV52 dc52 pm52 an52 cd52 ct52),sl52⟩) (c52:PySem.W.codeIn K cd52 "_law_list" = true) (k52:PySem.W.keepIn K (.ref f52) = true)
    (a53:PySem.W.nsIn K mainGlobals "_law_each" = some (some (.ref f53))) (l53:K.lookup f53 = some ⟨oc53,od53,.func (PySem.W.fnOf "_law_each" "_law_each" (defArgs s_leach) (defBody s_leach) (defScope s_leach) .none kV53 dc53 pm53 an53 cd53 ct53),sl53⟩) (c53:PySem.W.codeIn K cd53 "_law_each" = true) (k53:PySem.W.keepIn K (.ref f53) = true)
    (a54:PySem.W.nsIn K mainGlobals "_law_elses" = some (some (.ref f54))) (l54:K.lookup f54 = some ⟨oc54,od54,.func (PySem.W.fnOf "_law_elses" "_law_elses" (defArgs s_lelses) (defBody s_lelses) (defScope s_lelses) .none kV54 dc54 pm54 an54 cd54 ct54),sl54⟩) (c54:PySem.W.codeIn K cd54 "_law_elses" = true) (k54:PySem.W.keepIn K (.ref f54) = true)
    (a55:PySem.W.nsIn K mainGlobals "_law_chain" = some (some (.ref f55))) (l55:K.lookup f55 = some ⟨oc55,od55,.func (PySem.W.fnOf "_law_chain" "_law_chain" (defArgs s_lchain) (defBody s_lchain) (defScope s_lchain) .none kV55 dc55 pm55 an55 cd55 ct55),sl55⟩) (c55:PySem.W.codeIn K cd55 "_law_chain" = true) (k55:PySem.W.keepIn K (.ref f55) = true)
    (a56:PySem.W.nsIn K mainGlobals "_law_rounds" = some (some (.ref f56))) (l56:K.lookup f56 = some ⟨oc56,od56,.func (PySem.W.fnOf "_law_rounds" "_law_rounds" (defArgs s_lrounds) (defBody s_lrounds) (defScope s_lrounds) .none kV56 dc56 pm56 an56 cd56 ct56),sl56⟩) (c56:PySem.W.codeIn K cd56 "_law_rounds" = true) (k56:PySem.W.keepIn K (.ref f56) = true)
    (a57:PySem.W.nsIn K mainGlobals "law" = some (some (.ref f57))) (l57:K.lookup f57 = some ⟨oc57,od57,.func (PySem.W.fnOf "law" "law" (defArgs sLaw) (defBody sLaw) (defScope sLaw) .none kV57 dc57 pm57 an57 cd57 ct57),sl57⟩) (c57:PySem.W.codeIn K cd57 "law" = true) (k57:PySem.W.keepIn K (.ref f57) = true)
    (z0:PySem.W.nsIn K mainGlobals "isinstance" = some none)
    (z1:PySem.W.nsIn K mainGlobals "int" = some none)
    (z2:PySem.W.nsIn K mainGlobals "bool" = some none)
    (z3:PySem.W.nsIn K mainGlobals "ord" = some none)
    (z4:PySem.W.nsIn K mainGlobals "str" = some none)
    (z5:PySem.W.nsIn K mainGlobals "tuple" = some none)
    (z6:PySem.W.nsIn K mainGlobals "len" = some none)
    (z7:PySem.W.nsIn K mainGlobals "all" = some none)
    (z8:PySem.W.nsIn K mainGlobals "abs" = some none)
    (z9:PySem.W.nsIn K mainGlobals "list" = some none)
    (z10:PySem.W.nsIn K mainGlobals "dict" = some none)
    (z11:PySem.W.nsIn K mainGlobals "range" = some none)
    (z12:PySem.W.nsIn K mainGlobals "min" = some none)
    (z13:PySem.W.nsIn K mainGlobals "max" = some none)
    {t0:Tok} (i0:PySem.W.nsIn K mainGlobals "PERCENT" = some (some (.int 37 t0)))
    {t1:Tok} (i1:PySem.W.nsIn K mainGlobals "MOST_SIGNS" = some (some (.int 400 t1)))
    {t2:Tok} (i2:PySem.W.nsIn K mainGlobals "MOST_ITEMS" = some (some (.int 60 t2)))
    {t3:Tok} (i3:PySem.W.nsIn K mainGlobals "MOST_DEPTH" = some (some (.int 12 t3)))
    {t4:Tok} (i4:PySem.W.nsIn K mainGlobals "MOST_SIZE" = some (some (.int 1000 t4)))
    {t5:Tok} (i5:PySem.W.nsIn K mainGlobals "MOST_WALKED" = some (some (.int 10 t5)))
    {g0:Addr}{gd0:Option Addr}{gn0:Nat}{gs0:Array (Option Value)}{u0_0 u0_1 u0_2:Tok} (y0:PySem.W.nsIn K mainGlobals "GREAT" = some (some (.ref g0))) (x0:K.lookup g0 = some ⟨.type "tuple",gd0,.seq #[.str "wrong" u0_0,.str "great" u0_1,.str "" u0_2] gn0,gs0⟩)
    {g1:Addr}{gd1:Option Addr}{gn1:Nat}{gs1:Array (Option Value)}{u1_0 u1_1 u1_2:Tok} (y1:PySem.W.nsIn K mainGlobals "NOUGHT" = some (some (.ref g1))) (x1:K.lookup g1 = some ⟨.type "tuple",gd1,.seq #[.str "wrong" u1_0,.str "nought" u1_1,.str "" u1_2] gn1,gs1⟩)
    {g2:Addr}{gd2:Option Addr}{gn2:Nat}{gs2:Array (Option Value)}{u2_0 u2_1 u2_2:Tok} (y2:PySem.W.nsIn K mainGlobals "KIND" = some (some (.ref g2))) (x2:K.lookup g2 = some ⟨.type "tuple",gd2,.seq #[.str "wrong" u2_0,.str "kind" u2_1,.str "" u2_2] gn2,gs2⟩)
    {g3:Addr}{gd3:Option Addr}{gn3:Nat}{gs3:Array (Option Value)}{u3_0 u3_1 u3_2:Tok} (y3:PySem.W.nsIn K mainGlobals "PLACE" = some (some (.ref g3))) (x3:K.lookup g3 = some ⟨.type "tuple",gd3,.seq #[.str "wrong" u3_0,.str "place" u3_1,.str "" u3_2] gn3,gs3⟩)
    {dg0:Addr}{dn0:Nat}{du0_0 du0_1 du0_2 du0_3 du0_4 du0_5:Tok} (dy0:PySem.W.nsIn K mainGlobals "NUMBER_DEEDS" = some (some (.ref dg0))) (dx0:K.lookup dg0 = some ⟨.type "dict",none,.dict #[⟨hashStr w "+",.str "+" du0_0,.ref f8⟩,⟨hashStr w "-",.str "-" du0_1,.ref f9⟩,⟨hashStr w "*",.str "*" du0_2,.ref f10⟩,⟨hashStr w "/",.str "/" du0_3,.ref f11⟩,⟨hashStr w "less",.str "less" du0_4,.ref f12⟩,⟨hashStr w "figures",.str "figures" du0_5,.ref f13⟩] dn0,#[]⟩) (dz0:(dg0 == sysModules) = false)
    {dg1:Addr}{dn1:Nat}{du1_0 du1_1 du1_2 du1_3 du1_4:Tok} (dy1:PySem.W.nsIn K mainGlobals "OTHER_DEEDS" = some (some (.ref dg1))) (dx1:K.lookup dg1 = some ⟨.type "dict",none,.dict #[⟨hashStr w "same",.str "same" du1_0,.ref f14⟩,⟨hashStr w "join",.str "join" du1_1,.ref f15⟩,⟨hashStr w "list",.str "list" du1_2,.ref f16⟩,⟨hashStr w "item",.str "item" du1_3,.ref f17⟩,⟨hashStr w "count",.str "count" du1_4,.ref f18⟩] dn1,#[]⟩) (dz1:(dg1 == sysModules) = false)
    {dg2:Addr}{dn2:Nat}{du2_0 dv2_0 du2_1 dv2_1 du2_2 dv2_2:Tok} (dy2:PySem.W.nsIn K mainGlobals "BINDING" = some (some (.ref dg2))) (dx2:K.lookup dg2 = some ⟨.type "dict",none,.dict #[⟨hashStr w "let",.str "let" du2_0,.int 1 dv2_0⟩,⟨hashStr w "each",.str "each" du2_1,.int 1 dv2_1⟩,⟨hashStr w "over",.str "over" du2_2,.int 2 dv2_2⟩] dn2,#[]⟩) (dz2:(dg2 == sysModules) = false)
    {dg3:Addr}{dn3:Nat}{du3_0 dv3_0 du3_1 dv3_1 du3_2 dv3_2 du3_3 dv3_3 du3_4 dv3_4 du3_5 dv3_5 du3_6 dv3_6 du3_7 dv3_7 du3_8 dv3_8 du3_9 dv3_9 du3_10 dv3_10 du3_11 dv3_11 du3_12 dv3_12 du3_13 dv3_13 du3_14 dv3_14 du3_15 dv3_15 du3_16 dv3_16:Tok} (dy3:PySem.W.nsIn K mainGlobals "PARTS" = some (some (.ref dg3))) (dx3:K.lookup dg3 = some ⟨.type "dict",none,.dict #[⟨hashStr w "let",.str "let" du3_0,.int 2 dv3_0⟩,⟨hashStr w "if",.str "if" du3_1,.int 3 dv3_1⟩,⟨hashStr w "+",.str "+" du3_2,.int 2 dv3_2⟩,⟨hashStr w "-",.str "-" du3_3,.int 2 dv3_3⟩,⟨hashStr w "*",.str "*" du3_4,.int 2 dv3_4⟩,⟨hashStr w "/",.str "/" du3_5,.int 2 dv3_5⟩,⟨hashStr w "same",.str "same" du3_6,.int 2 dv3_6⟩,⟨hashStr w "less",.str "less" du3_7,.int 2 dv3_7⟩,⟨hashStr w "join",.str "join" du3_8,.int 2 dv3_8⟩,⟨hashStr w "item",.str "item" du3_9,.int 2 dv3_9⟩,⟨hashStr w "count",.str "count" du3_10,.int 1 dv3_10⟩,⟨hashStr w "figures",.str "figures" du3_11,.int 1 dv3_11⟩,⟨hashStr w "each",.str "each" du3_12,.int 2 dv3_12⟩,⟨hashStr w "over",.str "over" du3_13,.int 3 dv3_13⟩,⟨hashStr w "look",.str "look" du3_14,.int 1 dv3_14⟩,⟨hashStr w "else",.str "else" du3_15,.int 2 dv3_15⟩,⟨hashStr w "cry",.str "cry" du3_16,.int 1 dv3_16⟩] dn3,#[]⟩) (dz3:(dg3 == sysModules) = false)
    {dg4:Addr}{dn4:Nat}{du4_0 du4_1 du4_2 du4_3 du4_4 du4_5 du4_6 du4_7 du4_8:Tok} (dy4:PySem.W.nsIn K mainGlobals "GOING" = some (some (.ref dg4))) (dx4:K.lookup dg4 = some ⟨.type "dict",none,.dict #[⟨hashStr w "lit",.str "lit" du4_0,.ref f29⟩,⟨hashStr w "var",.str "var" du4_1,.ref f30⟩,⟨hashStr w "let",.str "let" du4_2,.ref f31⟩,⟨hashStr w "if",.str "if" du4_3,.ref f32⟩,⟨hashStr w "each",.str "each" du4_4,.ref f34⟩,⟨hashStr w "over",.str "over" du4_5,.ref f35⟩,⟨hashStr w "look",.str "look" du4_6,.ref f36⟩,⟨hashStr w "else",.str "else" du4_7,.ref f37⟩,⟨hashStr w "cry",.str "cry" du4_8,.ref f38⟩] dn4,#[]⟩) (dz4:(dg4 == sysModules) = false)
    : ∃ fd:FuncData,(∀ (s:Shared) (v:Value),BindsTo s fd ⟨[v],[]⟩ [("_law_script",v)])∧∀ base:Heap,K.In base→base.Ns mainGlobals mg→FnOk l.prog w K mg base CX0 150 fa fd ["_law_script"] (spLaw K):=by
  have e:=hfa.symm.trans (PySem.W.mg_of X G a57)
  cases e
  have F0:=fun_mk (st:=s_is_number) l0 c0 k0
  have b0:=F0.binds (ps:=["thing"]) fun _ _ _ _ _ _ us hl=>by obtain ⟨_,rfl⟩:=us_1 hl; rfl
  have n0:=PySem.W.mg_of X G a0
  have F1:=fun_mk (st:=s_is_sign) l1 c1 k1
  have b1:=F1.binds (ps:=["sign"]) fun _ _ _ _ _ _ us hl=>by obtain ⟨_,rfl⟩:=us_1 hl; rfl
  have n1:=PySem.W.mg_of X G a1
  have F2:=fun_mk (st:=s_fits_alone) l2 c2 k2
  have b2:=F2.binds (ps:=["thing","levels"]) fun _ _ _ _ _ _ us hl=>by obtain ⟨_,_,rfl⟩:=us_2 hl; rfl
  have n2:=PySem.W.mg_of X G a2
  have F3:=fun_mk (st:=sSizeA) l3 c3 k3
  have b3:=F3.binds (ps:=["worth"]) fun _ _ _ _ _ _ us hl=>by obtain ⟨_,rfl⟩:=us_1 hl; rfl
  have n3:=PySem.W.mg_of X G a3
  have F4:=fun_mk (st:=s_is_worth) l4 c4 k4
  have b4:=F4.binds (ps:=["thing"]) fun _ _ _ _ _ _ us hl=>by obtain ⟨_,rfl⟩:=us_1 hl; rfl
  have n4:=PySem.W.mg_of X G a4
  have F5:=fun_mk (st:=s_same) l5 c5 k5
  have b5:=F5.binds (ps:=["one","other"]) fun _ _ _ _ _ _ us hl=>by obtain ⟨_,_,rfl⟩:=us_2 hl; rfl
  have n5:=PySem.W.mg_of X G a5
  have F6:=fun_mk (st:=s_made) l6 c6 k6
  have b6:=F6.binds (ps:=["thing"]) fun _ _ _ _ _ _ us hl=>by obtain ⟨_,rfl⟩:=us_1 hl; rfl
  have n6:=PySem.W.mg_of X G a6
  have F7:=fun_mk (st:=s_truth) l7 c7 k7
  have b7:=F7.binds (ps:=["is_so"]) fun _ _ _ _ _ _ us hl=>by obtain ⟨_,rfl⟩:=us_1 hl; rfl
  have n7:=PySem.W.mg_of X G a7
  have F8:=fun_mk (st:=s_summed) l8 c8 k8
  have b8:=F8.binds (ps:=["worths"]) fun _ _ _ _ _ _ us hl=>by obtain ⟨_,rfl⟩:=us_1 hl; rfl
  have n8:=PySem.W.mg_of X G a8
  have F9:=fun_mk (st:=s_differing) l9 c9 k9
  have b9:=F9.binds (ps:=["worths"]) fun _ _ _ _ _ _ us hl=>by obtain ⟨_,rfl⟩:=us_1 hl; rfl
  have n9:=PySem.W.mg_of X G a9
  have F10:=fun_mk (st:=s_multiplied) l10 c10 k10
  have b10:=F10.binds (ps:=["worths"]) fun _ _ _ _ _ _ us hl=>by obtain ⟨_,rfl⟩:=us_1 hl; rfl
  have n10:=PySem.W.mg_of X G a10
  have F11:=fun_mk (st:=s_divided) l11 c11 k11
  have b11:=F11.binds (ps:=["worths"]) fun _ _ _ _ _ _ us hl=>by obtain ⟨_,rfl⟩:=us_1 hl; rfl
  have n11:=PySem.W.mg_of X G a11
  have F12:=fun_mk (st:=s_lessened) l12 c12 k12
  have b12:=F12.binds (ps:=["worths"]) fun _ _ _ _ _ _ us hl=>by obtain ⟨_,rfl⟩:=us_1 hl; rfl
  have n12:=PySem.W.mg_of X G a12
  have F13:=fun_mk (st:=s_figured) l13 c13 k13
  have b13:=F13.binds (ps:=["worths"]) fun _ _ _ _ _ _ us hl=>by obtain ⟨_,rfl⟩:=us_1 hl; rfl
  have n13:=PySem.W.mg_of X G a13
  have F14:=fun_mk (st:=s_compared) l14 c14 k14
  have b14:=F14.binds (ps:=["worths"]) fun _ _ _ _ _ _ us hl=>by obtain ⟨_,rfl⟩:=us_1 hl; rfl
  have n14:=PySem.W.mg_of X G a14
  have F15:=fun_mk (st:=s_joined) l15 c15 k15
  have b15:=F15.binds (ps:=["worths"]) fun _ _ _ _ _ _ us hl=>by obtain ⟨_,rfl⟩:=us_1 hl; rfl
  have n15:=PySem.W.mg_of X G a15
  have F16:=fun_mk (st:=s_listed) l16 c16 k16
  have b16:=F16.binds (ps:=["worths"]) fun _ _ _ _ _ _ us hl=>by obtain ⟨_,rfl⟩:=us_1 hl; rfl
  have n16:=PySem.W.mg_of X G a16
  have F17:=fun_mk (st:=s_item_at) l17 c17 k17
  have b17:=F17.binds (ps:=["worths"]) fun _ _ _ _ _ _ us hl=>by obtain ⟨_,rfl⟩:=us_1 hl; rfl
  have n17:=PySem.W.mg_of X G a17
  have F18:=fun_mk (st:=s_counted) l18 c18 k18
  have b18:=F18.binds (ps:=["worths"]) fun _ _ _ _ _ _ us hl=>by obtain ⟨_,rfl⟩:=us_1 hl; rfl
  have n18:=PySem.W.mg_of X G a18
  have F19:=fun_mk (st:=s_reckoned) l19 c19 k19
  have b19:=F19.binds (ps:=["word","worths"]) fun _ _ _ _ _ _ us hl=>by obtain ⟨_,_,rfl⟩:=us_2 hl; rfl
  have n19:=PySem.W.mg_of X G a19
  have F20:=fun_mk (st:=s_has_parts) l20 c20 k20
  have b20:=F20.binds (ps:=["word"]) fun _ _ _ _ _ _ us hl=>by obtain ⟨_,rfl⟩:=us_1 hl; rfl
  have n20:=PySem.W.mg_of X G a20
  have F21:=fun_mk (st:=s_binding_count) l21 c21 k21
  have b21:=F21.binds (ps:=["word"]) fun _ _ _ _ _ _ us hl=>by obtain ⟨_,rfl⟩:=us_1 hl; rfl
  have n21:=PySem.W.mg_of X G a21
  have F22:=fun_mk (st:=s_parts_of) l22 c22 k22
  have b22:=F22.binds (ps:=["expression"]) fun _ _ _ _ _ _ us hl=>by obtain ⟨_,rfl⟩:=us_1 hl; rfl
  have n22:=PySem.W.mg_of X G a22
  have F23:=fun_mk (st:=s_Run___init__) l23 c23 k23
  have b23:=F23.binds (ps:=["self","founds"]) fun _ _ _ _ _ _ us hl=>by obtain ⟨_,_,rfl⟩:=us_2 hl; rfl
  have F24:=fun_mk (st:=s_Run_look) l24 c24 k24
  have b24:=F24.binds (ps:=["self","name"]) fun _ _ _ _ _ _ us hl=>by obtain ⟨_,_,rfl⟩:=us_2 hl; rfl
  have F25:=fun_mk (st:=s_is_made) l25 c25 k25
  have b25:=F25.binds (ps:=["record"]) fun _ _ _ _ _ _ us hl=>by obtain ⟨_,rfl⟩:=us_1 hl; rfl
  have n25:=PySem.W.mg_of X G a25
  have F26:=fun_mk (st:=s_worth_of) l26 c26 k26
  have b26:=F26.binds (ps:=["record"]) fun _ _ _ _ _ _ us hl=>by obtain ⟨_,rfl⟩:=us_1 hl; rfl
  have n26:=PySem.W.mg_of X G a26
  have F27:=fun_mk (st:=s_as_last) l27 c27 k27
  have b27:=F27.binds (ps:=["records"]) fun _ _ _ _ _ _ us hl=>by obtain ⟨_,rfl⟩:=us_1 hl; rfl
  have n27:=PySem.W.mg_of X G a27
  have F28:=fun_mk (st:=s_binding) l28 c28 k28
  have b28:=F28.binds (ps:=["bound","name","worth"]) fun _ _ _ _ _ _ us hl=>by obtain ⟨_,_,_,rfl⟩:=us_3 hl; rfl
  have n28:=PySem.W.mg_of X G a28
  have F29:=fun_mk (st:=s_go_lit) l29 c29 k29
  have b29:=F29.binds (ps:=["run","expression","bound"]) fun _ _ _ _ _ _ us hl=>by obtain ⟨_,_,_,rfl⟩:=us_3 hl; rfl
  have n29:=PySem.W.mg_of X G a29
  have F30:=fun_mk (st:=s_go_var) l30 c30 k30
  have b30:=F30.binds (ps:=["run","expression","bound"]) fun _ _ _ _ _ _ us hl=>by obtain ⟨_,_,_,rfl⟩:=us_3 hl; rfl
  have n30:=PySem.W.mg_of X G a30
  have F31:=fun_mk (st:=s_go_let) l31 c31 k31
  have b31:=F31.binds (ps:=["run","expression","bound"]) fun _ _ _ _ _ _ us hl=>by obtain ⟨_,_,_,rfl⟩:=us_3 hl; rfl
  have n31:=PySem.W.mg_of X G a31
  have F32:=fun_mk (st:=s_go_if) l32 c32 k32
  have b32:=F32.binds (ps:=["run","expression","bound"]) fun _ _ _ _ _ _ us hl=>by obtain ⟨_,_,_,rfl⟩:=us_3 hl; rfl
  have n32:=PySem.W.mg_of X G a32
  have F33:=fun_mk (st:=s_ended_ahead) l33 c33 k33
  have b33:=F33.binds (ps:=["records"]) fun _ _ _ _ _ _ us hl=>by obtain ⟨_,rfl⟩:=us_1 hl; rfl
  have n33:=PySem.W.mg_of X G a33
  have F34:=fun_mk (st:=s_go_each) l34 c34 k34
  have b34:=F34.binds (ps:=["run","expression","bound"]) fun _ _ _ _ _ _ us hl=>by obtain ⟨_,_,_,rfl⟩:=us_3 hl; rfl
  have n34:=PySem.W.mg_of X G a34
  have F35:=fun_mk (st:=s_go_over) l35 c35 k35
  have b35:=F35.binds (ps:=["run","expression","bound"]) fun _ _ _ _ _ _ us hl=>by obtain ⟨_,_,_,rfl⟩:=us_3 hl; rfl
  have n35:=PySem.W.mg_of X G a35
  have F36:=fun_mk (st:=s_go_look) l36 c36 k36
  have b36:=F36.binds (ps:=["run","expression","bound"]) fun _ _ _ _ _ _ us hl=>by obtain ⟨_,_,_,rfl⟩:=us_3 hl; rfl
  have n36:=PySem.W.mg_of X G a36
  have F37:=fun_mk (st:=s_go_else) l37 c37 k37
  have b37:=F37.binds (ps:=["run","expression","bound"]) fun _ _ _ _ _ _ us hl=>by obtain ⟨_,_,_,rfl⟩:=us_3 hl; rfl
  have n37:=PySem.W.mg_of X G a37
  have F38:=fun_mk (st:=s_go_cry) l38 c38 k38
  have b38:=F38.binds (ps:=["run","expression","bound"]) fun _ _ _ _ _ _ us hl=>by obtain ⟨_,_,_,rfl⟩:=us_3 hl; rfl
  have n38:=PySem.W.mg_of X G a38
  have F39:=fun_mk (st:=s_go_through) l39 c39 k39
  have b39:=F39.binds (ps:=["run","expressions","bound"]) fun _ _ _ _ _ _ us hl=>by obtain ⟨_,_,_,rfl⟩:=us_3 hl; rfl
  have n39:=PySem.W.mg_of X G a39
  have F40:=fun_mk (st:=s_go_reckoned) l40 c40 k40
  have b40:=F40.binds (ps:=["run","expression","bound"]) fun _ _ _ _ _ _ us hl=>by obtain ⟨_,_,_,rfl⟩:=us_3 hl; rfl
  have n40:=PySem.W.mg_of X G a40
  have F41:=fun_mk (st:=s_record_of) l41 c41 k41
  have b41:=F41.binds (ps:=["run","expression","bound"]) fun _ _ _ _ _ _ us hl=>by obtain ⟨_,_,_,rfl⟩:=us_3 hl; rfl
  have n41:=PySem.W.mg_of X G a41
  have F42:=fun_mk (st:=s_gone) l42 c42 k42
  have b42:=F42.binds (ps:=["rule","founds"]) fun _ _ _ _ _ _ us hl=>by obtain ⟨_,_,rfl⟩:=us_2 hl; rfl
  have n42:=PySem.W.mg_of X G a42
  have F43:=fun_mk (st:=sCell) l43 c43 k43
  have b43:=F43.binds (ps:=["_law_script","_law_k"]) fun _ _ _ _ _ _ us hl=>by obtain ⟨_,_,rfl⟩:=us_2 hl; rfl
  have n43:=PySem.W.mg_of X G a43
  have F44:=fun_mk (st:=sBox) l44 c44 k44
  have b44:=F44.binds (ps:=["_law_script","_law_k"]) fun _ _ _ _ _ _ us hl=>by obtain ⟨_,_,rfl⟩:=us_2 hl; rfl
  have n44:=PySem.W.mg_of X G a44
  have F45:=fun_mk (st:=sTake) l45 c45 k45
  have b45:=F45.binds (ps:=["_law_box_here","_law_wide"]) fun _ _ _ _ _ _ us hl=>by obtain ⟨_,_,rfl⟩:=us_2 hl; rfl
  have n45:=PySem.W.mg_of X G a45
  have F46:=fun_mk (st:=sText) l46 c46 k46
  have b46:=F46.binds (ps:=["_law_box_here","_law_most"]) fun _ _ _ _ _ _ us hl=>by obtain ⟨_,_,rfl⟩:=us_2 hl; rfl
  have n46:=PySem.W.mg_of X G a46
  have F47:=fun_mk (st:=sNumber) l47 c47 k47
  have b47:=F47.binds (ps:=["_law_box_here"]) fun _ _ _ _ _ _ us hl=>by obtain ⟨_,rfl⟩:=us_1 hl; rfl
  have n47:=PySem.W.mg_of X G a47
  have F48:=fun_mk (st:=sWorth) l48 c48 k48
  have b48:=F48.binds (ps:=["_law_box_here","_law_room","_law_deep"]) fun _ _ _ _ _ _ us hl=>by obtain ⟨_,_,_,rfl⟩:=us_3 hl; rfl
  have n48:=PySem.W.mg_of X G a48
  have F49:=fun_mk (st:=s_lsame) l49 c49 k49
  have b49:=F49.binds (ps:=["_law_found","_law_due"]) fun _ _ _ _ _ _ us hl=>by obtain ⟨_,_,rfl⟩:=us_2 hl; rfl
  have n49:=PySem.W.mg_of X G a49
  have F50:=fun_mk (st:=s_loutcome) l50 c50 k50
  have b50:=F50.binds (ps:=["_law_box_here"]) fun _ _ _ _ _ _ us hl=>by obtain ⟨_,rfl⟩:=us_1 hl; rfl
  have n50:=PySem.W.mg_of X G a50
  have F51:=fun_mk (st:=s_lname) l51 c51 k51
  have b51:=F51.binds (ps:=["_law_box_here"]) fun _ _ _ _ _ _ us hl=>by obtain ⟨_,rfl⟩:=us_1 hl; rfl
  have n51:=PySem.W.mg_of X G a51
  have F52:=fun_mk (st:=s_llist) l52 c52 k52
  have b52:=F52.binds (ps:=["_law_box_here"]) fun _ _ _ _ _ _ us hl=>by obtain ⟨_,rfl⟩:=us_1 hl; rfl
  have n52:=PySem.W.mg_of X G a52
  have F53:=fun_mk (st:=s_leach) l53 c53 k53
  have b53:=F53.binds (ps:=["_law_box_here"]) fun _ _ _ _ _ _ us hl=>by obtain ⟨_,rfl⟩:=us_1 hl; rfl
  have n53:=PySem.W.mg_of X G a53
  have F54:=fun_mk (st:=s_lelses) l54 c54 k54
  have b54:=F54.binds (ps:=["_law_box_here"]) fun _ _ _ _ _ _ us hl=>by obtain ⟨_,rfl⟩:=us_1 hl; rfl
  have n54:=PySem.W.mg_of X G a54
  have F55:=fun_mk (st:=s_lchain) l55 c55 k55
  have b55:=F55.binds (ps:=["_law_box_here"]) fun _ _ _ _ _ _ us hl=>by obtain ⟨_,rfl⟩:=us_1 hl; rfl
  have n55:=PySem.W.mg_of X G a55
  have F56:=fun_mk (st:=s_lrounds) l56 c56 k56
  have b56:=F56.binds (ps:=["_law_box_here"]) fun _ _ _ _ _ _ us hl=>by obtain ⟨_,rfl⟩:=us_1 hl; rfl
  have n56:=PySem.W.mg_of X G a56
  have F57:=fun_mk (st:=sLaw) l57 c57 k57
  have cl_Run:Cls K ARun:=⟨pg_Run,hd_Run,po_Run,sa_Run⟩
  have m_isinstance:=PySem.W.mg_none_of X G z0
  have m_int:=PySem.W.mg_none_of X G z1
  have m_bool:=PySem.W.mg_none_of X G z2
  have m_ord:=PySem.W.mg_none_of X G z3
  have m_str:=PySem.W.mg_none_of X G z4
  have m_tuple:=PySem.W.mg_none_of X G z5
  have m_len:=PySem.W.mg_none_of X G z6
  have m_all:=PySem.W.mg_none_of X G z7
  have m_abs:=PySem.W.mg_none_of X G z8
  have m_list:=PySem.W.mg_none_of X G z9
  have m_dict:=PySem.W.mg_none_of X G z10
  have m_range:=PySem.W.mg_none_of X G z11
  have m_min:=PySem.W.mg_none_of X G z12
  have m_max:=PySem.W.mg_none_of X G z13
  have m_PERCENT:∃ t,mg "PERCENT" = some (.int 37 t):=⟨t0,PySem.W.mg_of X G i0⟩
  have m_MOST_SIGNS:∃ t,mg "MOST_SIGNS" = some (.int 400 t):=⟨t1,PySem.W.mg_of X G i1⟩
  have m_MOST_ITEMS:∃ t,mg "MOST_ITEMS" = some (.int 60 t):=⟨t2,PySem.W.mg_of X G i2⟩
  have m_MOST_DEPTH:∃ t,mg "MOST_DEPTH" = some (.int 12 t):=⟨t3,PySem.W.mg_of X G i3⟩
  have m_MOST_SIZE:∃ t,mg "MOST_SIZE" = some (.int 1000 t):=⟨t4,PySem.W.mg_of X G i4⟩
  have m_MOST_WALKED:∃ t,mg "MOST_WALKED" = some (.int 10 t):=⟨t5,PySem.W.mg_of X G i5⟩
  have m_GREAT:=PySem.W.mg_of X G y0
  have t_GREAT:∀ H:Hp,SqT K H g0 [.str "wrong",.str "great",.str ""]:=fun H=>.inr ⟨_,_,_,x0,rfl,rfl,(by show 3≤sizeLine; decide),(.cons ⟨_,rfl⟩ (.cons ⟨_,rfl⟩ (.cons ⟨_,rfl⟩ .nil)))⟩
  have m_NOUGHT:=PySem.W.mg_of X G y1
  have t_NOUGHT:∀ H:Hp,SqT K H g1 [.str "wrong",.str "nought",.str ""]:=fun H=>.inr ⟨_,_,_,x1,rfl,rfl,(by show 3≤sizeLine; decide),(.cons ⟨_,rfl⟩ (.cons ⟨_,rfl⟩ (.cons ⟨_,rfl⟩ .nil)))⟩
  have m_KIND:=PySem.W.mg_of X G y2
  have t_KIND:∀ H:Hp,SqT K H g2 [.str "wrong",.str "kind",.str ""]:=fun H=>.inr ⟨_,_,_,x2,rfl,rfl,(by show 3≤sizeLine; decide),(.cons ⟨_,rfl⟩ (.cons ⟨_,rfl⟩ (.cons ⟨_,rfl⟩ .nil)))⟩
  have m_PLACE:=PySem.W.mg_of X G y3
  have t_PLACE:∀ H:Hp,SqT K H g3 [.str "wrong",.str "place",.str ""]:=fun H=>.inr ⟨_,_,_,x3,rfl,rfl,(by show 3≤sizeLine; decide),(.cons ⟨_,rfl⟩ (.cons ⟨_,rfl⟩ (.cons ⟨_,rfl⟩ .nil)))⟩
  have m_NUMBER_DEEDS:=PySem.W.mg_of X G dy0
  have d_NUMBER_DEEDS:MD l.prog w K dg0 (kvsN f8 f9 f10 f11 f12 f13):=md_of [("+",du0_0,.ref f8,.ref f8),("-",du0_1,.ref f9,.ref f9),("*",du0_2,.ref f10,.ref f10),("/",du0_3,.ref f11,.ref f11),("less",du0_4,.ref f12,.ref f12),("figures",du0_5,.ref f13,.ref f13)] dx0 dz0 (fun p hp=>by simp only [List.mem_cons,List.not_mem_nil,or_false] at hp; rcases hp with rfl | rfl | rfl | rfl | rfl | rfl <;> first | exact rfl | exact ⟨_,rfl⟩) (by show (["+","-","*","/","less","figures"]:List Str).Nodup; decide +kernel)
  have m_OTHER_DEEDS:=PySem.W.mg_of X G dy1
  have d_OTHER_DEEDS:MD l.prog w K dg1 (kvsO f14 f15 f16 f17 f18):=md_of [("same",du1_0,.ref f14,.ref f14),("join",du1_1,.ref f15,.ref f15),("list",du1_2,.ref f16,.ref f16),("item",du1_3,.ref f17,.ref f17),("count",du1_4,.ref f18,.ref f18)] dx1 dz1 (fun p hp=>by simp only [List.mem_cons,List.not_mem_nil,or_false] at hp; rcases hp with rfl | rfl | rfl | rfl | rfl <;> first | exact rfl | exact ⟨_,rfl⟩) (by show (["same","join","list","item","count"]:List Str).Nodup; decide +kernel)
  have m_BINDING:=PySem.W.mg_of X G dy2
  have d_BINDING:MD l.prog w K dg2 (kvsB ):=md_of [("let",du2_0,.int 1,.int 1 dv2_0),("each",du2_1,.int 1,.int 1 dv2_1),("over",du2_2,.int 2,.int 2 dv2_2)] dx2 dz2 (fun p hp=>by simp only [List.mem_cons,List.not_mem_nil,or_false] at hp; rcases hp with rfl | rfl | rfl <;> first | exact rfl | exact ⟨_,rfl⟩) (by show (["let","each","over"]:List Str).Nodup; decide +kernel)
  have m_PARTS:=PySem.W.mg_of X G dy3
  have d_PARTS:MD l.prog w K dg3 (kvsP ):=md_of [("let",du3_0,.int 2,.int 2 dv3_0),("if",du3_1,.int 3,.int 3 dv3_1),("+",du3_2,.int 2,.int 2 dv3_2),("-",du3_3,.int 2,.int 2 dv3_3),("*",du3_4,.int 2,.int 2 dv3_4),("/",du3_5,.int 2,.int 2 dv3_5),("same",du3_6,.int 2,.int 2 dv3_6),("less",du3_7,.int 2,.int 2 dv3_7),("join",du3_8,.int 2,.int 2 dv3_8),("item",du3_9,.int 2,.int 2 dv3_9),("count",du3_10,.int 1,.int 1 dv3_10),("figures",du3_11,.int 1,.int 1 dv3_11),("each",du3_12,.int 2,.int 2 dv3_12),("over",du3_13,.int 3,.int 3 dv3_13),("look",du3_14,.int 1,.int 1 dv3_14),("else",du3_15,.int 2,.int 2 dv3_15),("cry",du3_16,.int 1,.int 1 dv3_16)] dx3 dz3 (fun p hp=>by simp only [List.mem_cons,List.not_mem_nil,or_false] at hp; rcases hp with rfl | rfl | rfl | rfl | rfl | rfl | rfl | rfl | rfl | rfl | rfl | rfl | rfl | rfl | rfl | rfl | rfl <;> first | exact rfl | exact ⟨_,rfl⟩) (by show (["let","if","+","-","*","/","same","less","join","item","count","figures","each","over","look","else","cry"]:List Str).Nodup; decide +kernel)
  have m_GOING:=PySem.W.mg_of X G dy4
  have d_GOING:MD l.prog w K dg4 (kvsG f29 f30 f31 f32 f34 f35 f36 f37 f38):=md_of [("lit",du4_0,.ref f29,.ref f29),("var",du4_1,.ref f30,.ref f30),("let",du4_2,.ref f31,.ref f31),("if",du4_3,.ref f32,.ref f32),("each",du4_4,.ref f34,.ref f34),("over",du4_5,.ref f35,.ref f35),("look",du4_6,.ref f36,.ref f36),("else",du4_7,.ref f37,.ref f37),("cry",du4_8,.ref f38,.ref f38)] dx4 dz4 (fun p hp=>by simp only [List.mem_cons,List.not_mem_nil,or_false] at hp; rcases hp with rfl | rfl | rfl | rfl | rfl | rfl | rfl | rfl | rfl <;> first | exact rfl | exact ⟨_,rfl⟩) (by show (["lit","var","let","if","each","over","look","else","cry"]:List Str).Nodup; decide +kernel)
  refine ⟨PySem.W.fnOf "law" "law" (defArgs sLaw) (defBody sLaw) (defScope sLaw) .none kV57 dc57 pm57 an57 cd57 ct57,fun s v=>.of_eq rfl,fun base _ _=>?_⟩
  have h_is_number:Have l.prog w K mg base "is_number" 1 ["thing"] (spIsNum):=⟨_,_,(ok_isnum F0 m_isinstance m_int m_bool:FnOk l.prog w K mg base CX0 (0 + 1) _ _ _ _),b0,k0,n0⟩
  have h_is_sign:Have l.prog w K mg base "is_sign" 1 ["sign"] (spIsSign):=⟨_,_,(ok_issign F1 m_ord m_PERCENT:FnOk l.prog w K mg base CX0 (0 + 1) _ _ _ _),b1,k1,n1⟩
  have h_fits_alone:Have l.prog w K mg base "fits_alone" 2 ["thing","levels"] (spFits):=⟨_,_,(ok_fits F2 (h_is_number.mono (by omega)) (h_is_sign.mono (by omega)) m_isinstance m_str m_tuple m_len m_all m_abs m_MOST_SIGNS m_MOST_ITEMS:FnOk l.prog w K mg base CX0 (1 + 1) _ _ _ _),b2,k2,n2⟩
  have h_size_alone:Have l.prog w K mg base "size_alone" 1 ["worth"] (spSizeT):=⟨_,_,(ok_sizeT F3 m_isinstance m_str m_len:FnOk l.prog w K mg base CX0 (0 + 1) _ _ _ _),b3,k3,n3⟩
  have h_is_worth:Have l.prog w K mg base "is_worth" 3 ["thing"] (spIsWorth):=⟨_,_,(ok_isworth F4 (h_fits_alone.mono (by omega)) (h_size_alone.mono (by omega)) m_isinstance m_tuple m_len m_MOST_DEPTH m_MOST_SIZE:FnOk l.prog w K mg base CX0 (2 + 1) _ _ _ _),b4,k4,n4⟩
  have h_same:Have l.prog w K mg base "same" 1 ["one","other"] (spSame):=⟨_,_,(ok_same F5:FnOk l.prog w K mg base CX0 (0 + 1) _ _ _ _),b5,k5,n5⟩
  have h_made:Have l.prog w K mg base "made" 4 ["thing"] (spMade K 24):=⟨_,_,(ok_made F6 (h_is_worth.mono (by omega)) m_GREAT t_GREAT:FnOk l.prog w K mg base CX0 (3 + 1) _ _ _ _),b6,k6,n6⟩
  have h_truth:Have l.prog w K mg base "truth" 1 ["is_so"] (spTruth K):=⟨_,_,(ok_truth F7:FnOk l.prog w K mg base CX0 (0 + 1) _ _ _ _),b7,k7,n7⟩
  have hf_summed:HaveF l.prog w K mg base f8 5 ["worths"] (spDeed K (fun ws=>∃ a b,ws = [.num a,.num b]) (recW .add)):=⟨_,(ok_summed F8 (h_made.mono (by omega)):FnOk l.prog w K mg base CX0 (4 + 1) _ _ _ _),b8,k8⟩
  have hf_differing:HaveF l.prog w K mg base f9 5 ["worths"] (spDeed K (fun ws=>∃ a b,ws = [.num a,.num b]) (recW .sub)):=⟨_,(ok_differing F9 (h_made.mono (by omega)):FnOk l.prog w K mg base CX0 (4 + 1) _ _ _ _),b9,k9⟩
  have hf_multiplied:HaveF l.prog w K mg base f10 5 ["worths"] (spDeed K (fun ws=>∃ a b,ws = [.num a,.num b]) (recW .mul)):=⟨_,(ok_multiplied F10 (h_made.mono (by omega)):FnOk l.prog w K mg base CX0 (4 + 1) _ _ _ _),b10,k10⟩
  have hf_divided:HaveF l.prog w K mg base f11 5 ["worths"] (spDeed K (fun ws=>∃ a b,ws = [.num a,.num b]) (recW .div)):=⟨_,(ok_divided F11 (h_made.mono (by omega)) m_NOUGHT t_NOUGHT:FnOk l.prog w K mg base CX0 (4 + 1) _ _ _ _),b11,k11⟩
  have hf_lessened:HaveF l.prog w K mg base f12 2 ["worths"] (spDeed K (fun ws=>∃ a b,ws = [.num a,.num b]) (recW .less)):=⟨_,(ok_lessened F12 (h_truth.mono (by omega)):FnOk l.prog w K mg base CX0 (1 + 1) _ _ _ _),b12,k12⟩
  have hf_figured:HaveF l.prog w K mg base f13 5 ["worths"] (spDeed K (fun ws=>∃ a,ws = [.num a]) (recW .figs)):=⟨_,(ok_figured F13 (h_made.mono (by omega)) m_str:FnOk l.prog w K mg base CX0 (4 + 1) _ _ _ _),b13,k13⟩
  have hf_compared:HaveF l.prog w K mg base f14 2 ["worths"] (spDeed K (fun ws=>ws.length = 2) (recW .same)):=⟨_,(ok_compared F14 (h_truth.mono (by omega)) (h_same.mono (by omega)):FnOk l.prog w K mg base CX0 (1 + 1) _ _ _ _),b14,k14⟩
  have hf_joined:HaveF l.prog w K mg base f15 5 ["worths"] (spDeed K (fun ws=>ws.length = 2) (recW .join)):=⟨_,(ok_joined F15 (h_made.mono (by omega)) m_isinstance m_str m_tuple m_KIND t_KIND:FnOk l.prog w K mg base CX0 (4 + 1) _ _ _ _),b15,k15⟩
  have hf_listed:HaveF l.prog w K mg base f16 5 ["worths"] (spDeed K (fun _=>True) (recW .list)):=⟨_,(ok_listed F16 (h_made.mono (by omega)) m_tuple:FnOk l.prog w K mg base CX0 (4 + 1) _ _ _ _),b16,k16⟩
  have hf_item_at:HaveF l.prog w K mg base f17 5 ["worths"] (spDeed K (fun ws=>ws.length = 2) (recW .item)):=⟨_,(ok_item_at F17 (h_made.mono (by omega)) (h_is_number.mono (by omega)) m_isinstance m_len m_tuple m_KIND t_KIND m_PLACE t_PLACE:FnOk l.prog w K mg base CX0 (4 + 1) _ _ _ _),b17,k17⟩
  have hf_counted:HaveF l.prog w K mg base f18 5 ["worths"] (spDeed K (fun ws=>ws.length = 1) (recW .count)):=⟨_,(ok_counted F18 (h_made.mono (by omega)) m_isinstance m_len m_str m_tuple m_KIND t_KIND:FnOk l.prog w K mg base CX0 (4 + 1) _ _ _ _),b18,k18⟩
  have h_reckoned:Have l.prog w K mg base "reckoned" 6 ["word","worths"] (spReck K):=⟨_,_,(ok_reckoned F19 (h_is_number.mono (by omega)) m_all m_KIND t_KIND m_NUMBER_DEEDS d_NUMBER_DEEDS m_OTHER_DEEDS d_OTHER_DEEDS (hf_summed.mono (by omega)) (hf_differing.mono (by omega)) (hf_multiplied.mono (by omega)) (hf_divided.mono (by omega)) (hf_lessened.mono (by omega)) (hf_figured.mono (by omega)) (hf_compared.mono (by omega)) (hf_joined.mono (by omega)) (hf_listed.mono (by omega)) (hf_item_at.mono (by omega)) (hf_counted.mono (by omega)):FnOk l.prog w K mg base CX0 (5 + 1) _ _ _ _),b19,k19,n19⟩
  have h_has_parts:Have l.prog w K mg base "has_parts" 1 ["word"] (spHasParts):=⟨_,_,(ok_has_parts F20 m_PARTS d_PARTS:FnOk l.prog w K mg base CX0 (0 + 1) _ _ _ _),b20,k20,n20⟩
  have h_binding_count:Have l.prog w K mg base "binding_count" 1 ["word"] (spBCount):=⟨_,_,(ok_binding_count F21 m_BINDING d_BINDING:FnOk l.prog w K mg base CX0 (0 + 1) _ _ _ _),b21,k21,n21⟩
  have h_parts_of:Have l.prog w K mg base "parts_of" 2 ["expression"] (spPartsOf):=⟨_,_,(ok_parts_of F22 (h_binding_count.mono (by omega)) (h_has_parts.mono (by omega)) m_list:FnOk l.prog w K mg base CX0 (1 + 1) _ _ _ _),b22,k22,n22⟩
  have h_Run___init__:HaveC l.prog w K mg base ARun "Run" 2 ["self","founds"] (spRunI K ARun):=⟨_,_,1,rfl,(ok_Run___init__ F23 m_list cl_Run nf_Run_founds nf_Run_names:FnOk l.prog w K mg base CX0 (0 + 1) _ _ _ _),b23,⟨mk_Run,a23,q23,kc_Run⟩,PySem.W.mg_of X G aC_Run⟩
  have h_Run_look:HaveM l.prog w K mg base ARun "look" 1 ["self","name"] (spLook K ARun):=⟨_,_,(ok_Run_look F24 m_len cl_Run nf_Run_founds nf_Run_names:FnOk l.prog w K mg base CX0 (0 + 1) _ _ _ _),b24,⟨a24,q24,k24⟩,cl_Run⟩
  have h_is_made:Have l.prog w K mg base "is_made" 1 ["record"] (spIsMade K):=⟨_,_,(ok_is_made F25:FnOk l.prog w K mg base CX0 (0 + 1) _ _ _ _),b25,k25,n25⟩
  have h_worth_of:Have l.prog w K mg base "worth_of" 1 ["record"] (spWorthOf K):=⟨_,_,(ok_worth_of F26:FnOk l.prog w K mg base CX0 (0 + 1) _ _ _ _),b26,k26,n26⟩
  have h_as_last:Have l.prog w K mg base "as_last" 1 ["records"] (spAsLast K):=⟨_,_,(ok_as_last F27 m_tuple:FnOk l.prog w K mg base CX0 (0 + 1) _ _ _ _),b27,k27,n27⟩
  have h_binding:Have l.prog w K mg base "binding" 1 ["bound","name","worth"] (spBind):=⟨_,_,(ok_binding F28 m_dict:FnOk l.prog w K mg base CX0 (0 + 1) _ _ _ _),b28,k28,n28⟩
  have h_ended_ahead:Have l.prog w K mg base "ended_ahead" 2 ["records"] (spEnded K):=⟨_,_,(ok_ended_ahead F33 (h_worth_of.mono (by omega)) (h_is_made.mono (by omega)) (h_as_last.mono (by omega)) m_isinstance m_len m_tuple m_KIND t_KIND m_MOST_WALKED m_GREAT t_GREAT:FnOk l.prog w K mg base CX0 (1 + 1) _ _ _ _),b33,k33,n33⟩
  have h_record_of:∀ n:Nat,Have l.prog w K mg base "record_of" (3 * n + 7) ["run","expression","bound"] (spG K ARun n (fun _=>True)):=fun n=>by
    induction n with
    | zero=>exact ⟨_,_,none_ok (fun vs H Q E h=>by obtain ⟨_,_,_,_,_,_,_,_,x,_,_,_,_,_,_,_,hh,_⟩:=h; exact absurd hh (by have:=high_pos x; omega)) _,b41,k41,n41⟩
    | succ n ih=>
      have h_go_through:Have l.prog w K mg base "go_through" (3 * n + 7 + 0 + 1) ["run","expressions","bound"] (spThru K ARun n):=⟨_,_,(ok_go_through F39 (h_is_made.mono (by omega)) (ih.mono (by omega)):FnOk l.prog w K mg base CX0 (3 * n + 7 + 0 + 1) _ _ _ (spThru K ARun n)),b39,k39,n39⟩
      have hf_go_lit:HaveF l.prog w K mg base f29 (3 * n + 7 + 0 + 1) ["run","expression","bound"] (spG K ARun (n + 1) (fun x=>∃ y,x = .lit y)):=⟨_,(ok_go_lit F29:FnOk l.prog w K mg base CX0 (3 * n + 7 + 0 + 1) _ _ _ (spG K ARun (n + 1) (fun x=>∃ y,x = .lit y))),b29,k29⟩
      have hf_go_var:HaveF l.prog w K mg base f30 (3 * n + 7 + 0 + 1) ["run","expression","bound"] (spG K ARun (n + 1) (fun x=>∃ s,x = .var s)):=⟨_,(ok_go_var F30:FnOk l.prog w K mg base CX0 (3 * n + 7 + 0 + 1) _ _ _ (spG K ARun (n + 1) (fun x=>∃ s,x = .var s))),b30,k30⟩
      have hf_go_let:HaveF l.prog w K mg base f31 (3 * n + 7 + 0 + 1) ["run","expression","bound"] (spG K ARun (n + 1) (fun x=>∃ s a b,x = .letE s a b)):=⟨_,(ok_go_let F31 (h_as_last.mono (by omega)) (ih.mono (by omega)) (h_binding.mono (by omega)) (h_worth_of.mono (by omega)) (h_is_made.mono (by omega)):FnOk l.prog w K mg base CX0 (3 * n + 7 + 0 + 1) _ _ _ (spG K ARun (n + 1) (fun x=>∃ s a b,x = .letE s a b))),b31,k31⟩
      have hf_go_if:HaveF l.prog w K mg base f32 (3 * n + 7 + 0 + 1) ["run","expression","bound"] (spG K ARun (n + 1) (fun x=>∃ a b c,x = .ifE a b c)):=⟨_,(ok_go_if F32 (h_as_last.mono (by omega)) (ih.mono (by omega)) (h_worth_of.mono (by omega)) (h_is_number.mono (by omega)) (h_is_made.mono (by omega)) m_KIND t_KIND:FnOk l.prog w K mg base CX0 (3 * n + 7 + 0 + 1) _ _ _ (spG K ARun (n + 1) (fun x=>∃ a b c,x = .ifE a b c))),b32,k32⟩
      have hf_go_each:HaveF l.prog w K mg base f34 (3 * n + 7 + 1 + 1) ["run","expression","bound"] (spG K ARun (n + 1) (fun x=>∃ s a b,x = .eachE s a b)):=⟨_,(ok_go_each F34 (h_made.mono (by omega)) (h_worth_of.mono (by omega)) (h_is_made.mono (by omega)) (h_as_last.mono (by omega)) (ih.mono (by omega)) (h_binding.mono (by omega)) (h_ended_ahead.mono (by omega)) (h_go_through.mono (by omega)) m_tuple:FnOk l.prog w K mg base CX0 (3 * n + 7 + 1 + 1) _ _ _ (spG K ARun (n + 1) (fun x=>∃ s a b,x = .eachE s a b))),b34,k34⟩
      have hf_go_over:HaveF l.prog w K mg base f35 (3 * n + 7 + 1 + 1) ["run","expression","bound"] (spG K ARun (n + 1) (fun x=>∃ s t a b c,x = .overE s t a b c)):=⟨_,(ok_go_over F35 (h_as_last.mono (by omega)) (h_is_made.mono (by omega)) (ih.mono (by omega)) (h_binding.mono (by omega)) (h_worth_of.mono (by omega)) (h_ended_ahead.mono (by omega)) (h_go_through.mono (by omega)):FnOk l.prog w K mg base CX0 (3 * n + 7 + 1 + 1) _ _ _ (spG K ARun (n + 1) (fun x=>∃ s t a b c,x = .overE s t a b c))),b35,k35⟩
      have hf_go_look:HaveF l.prog w K mg base f36 (3 * n + 7 + 0 + 1) ["run","expression","bound"] (spG K ARun (n + 1) (fun x=>∃ a,x = .lookE a)):=⟨_,(ok_go_look F36 (h_Run_look.mono (by omega)) (h_worth_of.mono (by omega)) (h_is_made.mono (by omega)) (h_as_last.mono (by omega)) (ih.mono (by omega)) m_isinstance m_str m_KIND t_KIND:FnOk l.prog w K mg base CX0 (3 * n + 7 + 0 + 1) _ _ _ (spG K ARun (n + 1) (fun x=>∃ a,x = .lookE a))),b36,k36⟩
      have hf_go_else:HaveF l.prog w K mg base f37 (3 * n + 7 + 0 + 1) ["run","expression","bound"] (spG K ARun (n + 1) (fun x=>∃ a b,x = .elseE a b)):=⟨_,(ok_go_else F37 (h_as_last.mono (by omega)) (ih.mono (by omega)) (h_is_made.mono (by omega)):FnOk l.prog w K mg base CX0 (3 * n + 7 + 0 + 1) _ _ _ (spG K ARun (n + 1) (fun x=>∃ a b,x = .elseE a b))),b37,k37⟩
      have hf_go_cry:HaveF l.prog w K mg base f38 (3 * n + 7 + 0 + 1) ["run","expression","bound"] (spG K ARun (n + 1) (fun x=>∃ a,x = .cryE a)):=⟨_,(ok_go_cry F38 (h_worth_of.mono (by omega)) (h_is_made.mono (by omega)) (h_as_last.mono (by omega)) (ih.mono (by omega)):FnOk l.prog w K mg base CX0 (3 * n + 7 + 0 + 1) _ _ _ (spG K ARun (n + 1) (fun x=>∃ a,x = .cryE a))),b38,k38⟩
      have h_go_reckoned:Have l.prog w K mg base "go_reckoned" (3 * n + 7 + 1 + 1) ["run","expression","bound"] (spG K ARun (n + 1) (fun x=>∃ d es,x = .reck d es)):=⟨_,_,(ok_go_reckoned F40 (h_reckoned.mono (by omega)) (h_worth_of.mono (by omega)) (h_is_made.mono (by omega)) (h_as_last.mono (by omega)) (h_go_through.mono (by omega)) (h_parts_of.mono (by omega)) m_len m_tuple:FnOk l.prog w K mg base CX0 (3 * n + 7 + 1 + 1) _ _ _ (spG K ARun (n + 1) (fun x=>∃ d es,x = .reck d es))),b40,k40,n40⟩
      have hm:Have l.prog w K mg base "record_of" (3 * n + 7 + 2 + 1) ["run","expression","bound"] (spG K ARun (n + 1) (fun _=>True)):=⟨_,_,(ok_record_of F41 (h_go_reckoned.mono (by omega))  m_GOING d_GOING (hf_go_lit.mono (by omega)) (hf_go_var.mono (by omega)) (hf_go_let.mono (by omega)) (hf_go_if.mono (by omega)) (hf_go_each.mono (by omega)) (hf_go_over.mono (by omega)) (hf_go_look.mono (by omega)) (hf_go_else.mono (by omega)) (hf_go_cry.mono (by omega)):FnOk l.prog w K mg base CX0 (3 * n + 7 + 2 + 1) _ _ _ (spG K ARun (n + 1) (fun _=>True))),b41,k41,n41⟩
      exact hm.mono (by omega)
  have h_gone:Have l.prog w K mg base "gone" 98 ["rule","founds"] (spGone K):=⟨_,_,(ok_gone F42 ((h_record_of 30).mono (by omega)) (h_Run___init__.mono (by omega)) m_list cl_Run nf_Run_names:FnOk l.prog w K mg base CX0 (97 + 1) _ _ _ _),b42,k42,n42⟩
  have h_lcell:Have l.prog w K mg base "_law_cell" 1 ["_law_script","_law_k"] (spCell K):=⟨_,_,(ok_cell F43 m_len:FnOk l.prog w K mg base CX0 (0 + 1) _ _ _ _),b43,k43,n43⟩
  have h_lbox:Have l.prog w K mg base "_law_box" 2 ["_law_script","_law_k"] (spBox K):=⟨_,_,(ok_box F44 (h_lcell.mono (by omega)):FnOk l.prog w K mg base CX0 (1 + 1) _ _ _ _),b44,k44,n44⟩
  have h_ltake:Have l.prog w K mg base "_law_take" 1 ["_law_box_here","_law_wide"] (spTake):=⟨_,_,(ok_take F45:FnOk l.prog w K mg base CX0 (0 + 1) _ _ _ _),b45,k45,n45⟩
  have h_ltext:Have l.prog w K mg base "_law_text" 2 ["_law_box_here","_law_most"] (spText):=⟨_,_,(ok_text F46 (h_ltake.mono (by omega)) m_len m_range:FnOk l.prog w K mg base CX0 (1 + 1) _ _ _ _),b46,k46,n46⟩
  have h_lnumber:Have l.prog w K mg base "_law_number" 2 ["_law_box_here"] (spNumber):=⟨_,_,(ok_number F47 (h_ltake.mono (by omega)):FnOk l.prog w K mg base CX0 (1 + 1) _ _ _ _),b47,k47,n47⟩
  have h_lworth:∀ n:Nat,Have l.prog w K mg base "_law_worth" (n + 3) ["_law_box_here","_law_room","_law_deep"] (spWorth n):=fun n=>by
    induction n with
    | zero=>exact ⟨_,_,none_ok (fun vs H Q E h=>by obtain ⟨b,room,deep,_,_,_,_,h0,h1,_⟩:=h; omega) _,b48,k48,n48⟩
    | succ n ih=>exact ⟨_,_,ok_worth F48 (h_ltake.mono (by omega)) (h_ltext.mono (by omega)) (h_lnumber.mono (by omega)) ih m_min m_range m_tuple,b48,k48,n48⟩
  have h_lsame:∀ n:Nat,Have l.prog w K mg base "_law_same" (n + 1) ["_law_found","_law_due"] (spLSame2 K n):=fun n=>by
    induction n with
    | zero=>exact ⟨_,_,none_ok (fun vs H Q E h=>by rcases h with ⟨u,v,x,y,_,_,_,_,_,h0,_⟩ | ⟨_,_,_,_,_,_,_,_,_,_,_,h0,_⟩ | ⟨_,_,_,_,_,_,_,_,_,_,_,_,_,_,_,_,_,_,_,h0,_⟩ | ⟨_,_,_,_,_,_,_,_,_,_,_,_,_,_,_,_,h0,_⟩ <;> omega) _,b49,k49,n49⟩
    | succ n ih=>exact ⟨_,_,ok_lsame F49 ih m_all m_bool m_int m_isinstance m_len m_list m_range m_str m_tuple,b49,k49,n49⟩
  have h_loutcome:Have l.prog w K mg base "_law_outcome" 17 ["_law_box_here"] (spOut):=⟨_,_,(ok_loutcome F50 (h_ltake.mono (by omega)) (h_ltext.mono (by omega)) ((h_lworth 13).mono (by omega)):FnOk l.prog w K mg base CX0 (16 + 1) _ _ _ _),b50,k50,n50⟩
  have h_lname:Have l.prog w K mg base "_law_name" 3 ["_law_box_here"] (spName):=⟨_,_,(ok_lname F51 (h_ltake.mono (by omega)) (h_ltext.mono (by omega)):FnOk l.prog w K mg base CX0 (2 + 1) _ _ _ _),b51,k51,n51⟩
  have h_llist:Have l.prog w K mg base "_law_list" 18 ["_law_box_here"] (spBuild K):=⟨_,_,(ok_llist F52 (h_ltake.mono (by omega)) (h_loutcome.mono (by omega)) (h_lname.mono (by omega)) m_len m_range m_tuple:FnOk l.prog w K mg base CX0 (17 + 1) _ _ _ _),b52,k52,n52⟩
  have h_leach:Have l.prog w K mg base "_law_each" 18 ["_law_box_here"] (spBuild K):=⟨_,_,(ok_leach F53 (h_ltake.mono (by omega)) (h_loutcome.mono (by omega)) (h_lname.mono (by omega)) m_len m_range m_tuple:FnOk l.prog w K mg base CX0 (17 + 1) _ _ _ _),b53,k53,n53⟩
  have h_lelses:Have l.prog w K mg base "_law_elses" 18 ["_law_box_here"] (spBuild K):=⟨_,_,(ok_lelses F54 (h_ltake.mono (by omega)) (h_loutcome.mono (by omega)) (h_lname.mono (by omega)) m_len m_range:FnOk l.prog w K mg base CX0 (17 + 1) _ _ _ _),b54,k54,n54⟩
  have h_lchain:Have l.prog w K mg base "_law_chain" 18 ["_law_box_here"] (spBuild K):=⟨_,_,(ok_lchain F55 (h_ltake.mono (by omega)) (h_loutcome.mono (by omega)) (h_lname.mono (by omega)) m_int m_isinstance m_len m_range m_str:FnOk l.prog w K mg base CX0 (17 + 1) _ _ _ _),b55,k55,n55⟩
  have h_lrounds:Have l.prog w K mg base "_law_rounds" 17 ["_law_box_here"] (spBuild K):=⟨_,_,(ok_lrounds F56 ((h_lworth 13).mono (by omega)) (h_ltake.mono (by omega)) (h_lname.mono (by omega)) m_len m_range m_tuple:FnOk l.prog w K mg base CX0 (16 + 1) _ _ _ _),b56,k56,n56⟩
  exact (ok_law F57 (h_loutcome.mono (by omega)) ((h_lsame 40).mono (by omega)) (h_gone.mono (by omega)) (h_lrounds.mono (by omega)) (h_lchain.mono (by omega)) (h_lelses.mono (by omega)) (h_leach.mono (by omega)) (h_llist.mono (by omega)) (h_ltake.mono (by omega)) (h_lbox.mono (by omega)) m_isinstance m_len m_max m_min m_range m_tuple:FnOk l.prog w K mg base CX0 (149 + 1) _ _ _ _)
theorem walk_all {l:PySem.W.OpenLaw}{q:Program}{loose:List Str}{XP:(Str→Option Value)→Heap→Prop}{YP:World→Heap→Prop}{d:DefRec}{K:Params→PySem.W.Frag} (hn:l.most = some 63) (hdf:d.params.defaults = [])
    (hY:∀ (w:World) (h:Heap),YP w h→(K w.params).In h)
    (F:∀ (w:World) (mg:Str→Option Value) (fa:Addr) (h:Heap),(K w.params).In h→h.Ns mainGlobals mg→mg d.name = some (.ref fa)→
      ∃ fd:FuncData,(∀ (s:Shared) (u:Value),BindsTo s fd ⟨[u],[]⟩ [("_law_script",u)])∧∀ base:Heap,(K w.params).In base→base.Ns mainGlobals mg→FnOk l.prog w (K w.params) mg base CX0 150 fa fd ["_law_script"] (spLaw (K w.params))):
    PySem.W.WalkO q loose XP YP l.row.toRowW d [] (fun f vs=>PySem.call f vs):=
  L2.walk_of (n:=63) (k:=150) (x:="_law_script") (CX:=fun _=>CX0) (sp:=fun w=>spLaw (K w.params)) hn (by decide) hdf ⟨rfl,by decide,by decide⟩ hY F (fun _ _ a ns hl _ hS=>⟨a,ns,rfl,hS,hl,fun _=>rfl⟩) fun _ _ _ _ _ z=>z
end D
open PySem PySem.W PyProof.Rows
set_option maxRecDepth 100000 in
set_option maxHeartbeats 0 in
theorem PySem.Challenge.cw_leastforge_k15_looks_in_order_holds : PySem.Challenge.rw_leastforge_k15_looks_in_order.Holds := by
  w_on; o_law; k_head; (case hw=>w_witness2)
  k_fill
  refine D.walk_all (l:=PySem.Challenge.rw_leastforge_k15_looks_in_order) rfl rfl (fun w h Y=>PySem.W.kIn_of Y) ?F
  case F=>
    intro w mg fa h KX G hmg
    refine' D.all_mk KX G hmg ?aC_Run ?pg_Run ?hd_Run ?po_Run ?sa_Run ?mk_Run ?kc_Run ?nf_Run_founds ?nf_Run_names ?a0 ?l0 ?c0 ?k0 ?a1 ?l1 ?c1 ?k1 ?a2 ?l2 ?c2 ?k2 ?a3 ?l3 ?c3 ?k3 ?a4 ?l4 ?c4 ?k4 ?a5 ?l5 ?c5 ?k5 ?a6 ?l6 ?c6 ?k6 ?a7 ?l7 ?c7 ?k7 ?a8 ?l8 ?c8 ?k8 ?a9 ?l9 ?c9 ?k9 ?a10 ?l10 ?c10 ?k10 ?a11 ?l11 ?c11 ?k11 ?a12 ?l12 ?c12 ?k12 ?a13 ?l13 ?c13 ?k13 ?a14 ?l14 ?c14 ?k14 ?a15 ?l15 ?c15 ?k15 ?a16 ?l16 ?c16 ?k16 ?a17 ?l17 ?c17 ?k17 ?a18 ?l18 ?c18 ?k18 ?a19 ?l19 ?c19 ?k19 ?a20 ?l20 ?c20 ?k20 ?a21 ?l21 ?c21 ?k21 ?a22 ?l22 ?c22 ?k22 ?a23 ?q23 ?l23 ?c23 ?k23 ?a24 ?q24 ?l24 ?c24 ?k24 ?a25 ?l25 ?c25 ?k25 ?a26 ?l26 ?c26 ?k26 ?a27 ?l27 ?c27 ?k27 ?a28 ?l28 ?c28 ?k28 ?a29 ?l29 ?c29 ?k29 ?a30 ?l30 ?c30 ?k30 ?a31 ?l31 ?c31 ?k31 ?a32 ?l32 ?c32 ?k32 ?a33 ?l33 ?c33 ?k33 ?a34 ?l34 ?c34 ?k34 ?a35 ?l35 ?c35 ?k35 ?a36 ?l36 ?c36 ?k36 ?a37 ?l37 ?c37 ?k37 ?a38 ?l38 ?c38 ?k38 ?a39 ?l39 ?c39 ?k39 ?a40 ?l40 ?c40 ?k40 ?a41 ?l41 ?c41 ?k41 ?a42 ?l42 ?c42 ?k42 ?a43 ?l43 ?c43 ?k43 ?a44 ?l44 ?c44 ?k44 ?a45 ?l45 ?c45 ?k45 ?a46 ?l46 ?c46 ?k46 ?a47 ?l47 ?c47 ?k47 ?a48 ?l48 ?c48 ?k48 ?a49 ?l49 ?c49 ?k49 ?a50 ?l50 ?c50 ?k50 ?a51 ?l51 ?c51 ?k51 ?a52 ?l52 ?c52 ?k52 ?a53 ?l53 ?c53 ?k53 ?a54 ?l54 ?c54 ?k54 ?a55 ?l55 ?c55 ?k55 ?a56 ?l56 ?c56 ?k56 ?a57 ?l57 ?c57 ?k57 ?z0 ?z1 ?z2 ?z3 ?z4 ?z5 ?z6 ?z7 ?z8 ?z9 ?z10 ?z11 ?z12 ?z13 ?i0 ?i1 ?i2 ?i3 ?i4 ?i5 ?y0 ?x0 ?y1 ?x1 ?y2 ?x2 ?y3 ?x3 ?dy0 ?dx0 ?dz0 ?dy1 ?dx1 ?dz1 ?dy2 ?dx2 ?dz2 ?dy3 ?dx3 ?dz3 ?dy4 ?dx4 ?dz4
    (case aC_Run=>k_is)
    (case pg_Run=>k_is)
    (case hd_Run=>k_is)
    (case po_Run=>k_is)
    (case sa_Run=>k_is)
    (case mk_Run=>k_is)
    (case kc_Run=>k_is)
    (case nf_Run_founds=>k_is)
    (case nf_Run_names=>k_is)
    (case a0=>k_is)
    (case l0=>k_is)
    (case c0=>k_is)
    (case k0=>k_is)
    (case a1=>k_is)
    (case l1=>k_is)
    (case c1=>k_is)
    (case k1=>k_is)
    (case a2=>k_is)
    (case l2=>k_is)
    (case c2=>k_is)
    (case k2=>k_is)
    (case a3=>k_is)
    (case l3=>k_is)
    (case c3=>k_is)
    (case k3=>k_is)
    (case a4=>k_is)
    (case l4=>k_is)
    (case c4=>k_is)
    (case k4=>k_is)
    (case a5=>k_is)
    (case l5=>k_is)
    (case c5=>k_is)
    (case k5=>k_is)
    (case a6=>k_is)
    (case l6=>k_is)
    (case c6=>k_is)
    (case k6=>k_is)
    (case a7=>k_is)
    (case l7=>k_is)
    (case c7=>k_is)
    (case k7=>k_is)
    (case a8=>k_is)
    (case l8=>k_is)
    (case c8=>k_is)
    (case k8=>k_is)
    (case a9=>k_is)
    (case l9=>k_is)
    (case c9=>k_is)
    (case k9=>k_is)
    (case a10=>k_is)
    (case l10=>k_is)
    (case c10=>k_is)
    (case k10=>k_is)
    (case a11=>k_is)
    (case l11=>k_is)
    (case c11=>k_is)
    (case k11=>k_is)
    (case a12=>k_is)
    (case l12=>k_is)
    (case c12=>k_is)
    (case k12=>k_is)
    (case a13=>k_is)
    (case l13=>k_is)
    (case c13=>k_is)
    (case k13=>k_is)
    (case a14=>k_is)
    (case l14=>k_is)
    (case c14=>k_is)
    (case k14=>k_is)
    (case a15=>k_is)
    (case l15=>k_is)
    (case c15=>k_is)
    (case k15=>k_is)
    (case a16=>k_is)
    (case l16=>k_is)
    (case c16=>k_is)
    (case k16=>k_is)
    (case a17=>k_is)
    (case l17=>k_is)
    (case c17=>k_is)
    (case k17=>k_is)
    (case a18=>k_is)
    (case l18=>k_is)
    (case c18=>k_is)
    (case k18=>k_is)
    (case a19=>k_is)
    (case l19=>k_is)
    (case c19=>k_is)
    (case k19=>k_is)
    (case a20=>k_is)
    (case l20=>k_is)
    (case c20=>k_is)
    (case k20=>k_is)
    (case a21=>k_is)
    (case l21=>k_is)
    (case c21=>k_is)
    (case k21=>k_is)
    (case a22=>k_is)
    (case l22=>k_is)
    (case c22=>k_is)
    (case k22=>k_is)
    (case a23=>k_is)
    (case q23=>k_is)
    (case l23=>k_is)
    (case c23=>k_is)
    (case k23=>k_is)
    (case a24=>k_is)
    (case q24=>k_is)
    (case l24=>k_is)
    (case c24=>k_is)
    (case k24=>k_is)
    (case a25=>k_is)
    (case l25=>k_is)
    (case c25=>k_is)
    (case k25=>k_is)
    (case a26=>k_is)
    (case l26=>k_is)
    (case c26=>k_is)
    (case k26=>k_is)
    (case a27=>k_is)
    (case l27=>k_is)
    (case c27=>k_is)
    (case k27=>k_is)
    (case a28=>k_is)
    (case l28=>k_is)
    (case c28=>k_is)
    (case k28=>k_is)
    (case a29=>k_is)
    (case l29=>k_is)
    (case c29=>k_is)
    (case k29=>k_is)
    (case a30=>k_is)
    (case l30=>k_is)
    (case c30=>k_is)
    (case k30=>k_is)
    (case a31=>k_is)
    (case l31=>k_is)
    (case c31=>k_is)
    (case k31=>k_is)
    (case a32=>k_is)
    (case l32=>k_is)
    (case c32=>k_is)
    (case k32=>k_is)
    (case a33=>k_is)
    (case l33=>k_is)
    (case c33=>k_is)
    (case k33=>k_is)
    (case a34=>k_is)
    (case l34=>k_is)
    (case c34=>k_is)
    (case k34=>k_is)
    (case a35=>k_is)
    (case l35=>k_is)
    (case c35=>k_is)
    (case k35=>k_is)
    (case a36=>k_is)
    (case l36=>k_is)
    (case c36=>k_is)
    (case k36=>k_is)
    (case a37=>k_is)
    (case l37=>k_is)
    (case c37=>k_is)
    (case k37=>k_is)
    (case a38=>k_is)
    (case l38=>k_is)
    (case c38=>k_is)
    (case k38=>k_is)
    (case a39=>k_is)
    (case l39=>k_is)
    (case c39=>k_is)
    (case k39=>k_is)
    (case a40=>k_is)
    (case l40=>k_is)
    (case c40=>k_is)
    (case k40=>k_is)
    (case a41=>k_is)
    (case l41=>k_is)
    (case c41=>k_is)
    (case k41=>k_is)
    (case a42=>k_is)
    (case l42=>k_is)
    (case c42=>k_is)
    (case k42=>k_is)
    (case a43=>k_is)
    (case l43=>k_is)
    (case c43=>k_is)
    (case k43=>k_is)
    (case a44=>k_is)
    (case l44=>k_is)
    (case c44=>k_is)
    (case k44=>k_is)
    (case a45=>k_is)
    (case l45=>k_is)
    (case c45=>k_is)
    (case k45=>k_is)
    (case a46=>k_is)
    (case l46=>k_is)
    (case c46=>k_is)
    (case k46=>k_is)
    (case a47=>k_is)
    (case l47=>k_is)
    (case c47=>k_is)
    (case k47=>k_is)
    (case a48=>k_is)
    (case l48=>k_is)
    (case c48=>k_is)
    (case k48=>k_is)
    (case a49=>k_is)
    (case l49=>k_is)
    (case c49=>k_is)
    (case k49=>k_is)
    (case a50=>k_is)
    (case l50=>k_is)
    (case c50=>k_is)
    (case k50=>k_is)
    (case a51=>k_is)
    (case l51=>k_is)
    (case c51=>k_is)
    (case k51=>k_is)
    (case a52=>k_is)
    (case l52=>k_is)
    (case c52=>k_is)
    (case k52=>k_is)
    (case a53=>k_is)
    (case l53=>k_is)
    (case c53=>k_is)
    (case k53=>k_is)
    (case a54=>k_is)
    (case l54=>k_is)
    (case c54=>k_is)
    (case k54=>k_is)
    (case a55=>k_is)
    (case l55=>k_is)
    (case c55=>k_is)
    (case k55=>k_is)
    (case a56=>k_is)
    (case l56=>k_is)
    (case c56=>k_is)
    (case k56=>k_is)
    (case a57=>k_is)
    (case l57=>k_is)
    (case c57=>k_is)
    (case k57=>k_is)
    (case z0=>k_is)
    (case z1=>k_is)
    (case z2=>k_is)
    (case z3=>k_is)
    (case z4=>k_is)
    (case z5=>k_is)
    (case z6=>k_is)
    (case z7=>k_is)
    (case z8=>k_is)
    (case z9=>k_is)
    (case z10=>k_is)
    (case z11=>k_is)
    (case z12=>k_is)
    (case z13=>k_is)
    (case i0=>k_is)
    (case i1=>k_is)
    (case i2=>k_is)
    (case i3=>k_is)
    (case i4=>k_is)
    (case i5=>k_is)
    (case y0=>k_is)
    (case x0=>k_is)
    (case y1=>k_is)
    (case x1=>k_is)
    (case y2=>k_is)
    (case x2=>k_is)
    (case y3=>k_is)
    (case x3=>k_is)
    (case dy0=>k_is)
    (case dx0=>k_is)
    (case dz0=>rfl)
    (case dy1=>k_is)
    (case dx1=>k_is)
    (case dz1=>rfl)
    (case dy2=>k_is)
    (case dx2=>k_is)
    (case dz2=>rfl)
    (case dy3=>k_is)
    (case dx3=>k_is)
    (case dz3=>rfl)
    (case dy4=>k_is)
    (case dx4=>k_is)
    (case dz4=>rfl)
